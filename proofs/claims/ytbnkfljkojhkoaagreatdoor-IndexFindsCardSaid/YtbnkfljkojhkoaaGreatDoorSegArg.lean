/- Joined: SegArg. -/
import Derived.Test.YtbnkfljkojhkoaaGreatDoorJBatA
/- A segment as a law is handed it. -/
namespace Go.Proofs.YtbnkfljkojhkoaaGreatDoor.Seg
open Go.RowKit Go.ChangeShapes Go.WideShapes Go.Deep Oct Lay

theorem list_of2 {l : List Value} {u0 u1 : Value} (hl : l.length = 2) (c0 : l[0]? = some u0) (c1 : l[1]? = some u1) : l = [u0, u1] := by
  match l, hl with
  | [_, _], _ =>
    simp only [List.getElem?_cons_zero, List.getElem?_cons_succ, Option.some.injEq] at c0 c1
    rw [c0, c1]
theorem opens_raw : Opens1 Tryz.prog 22 (List UInt8) := opens_slice (α := UInt8) Tryz.underlying22 (by kernel_rfl) (of_decide_eq_true (by kernel_rfl)) (opens_byte Tryz.underlying5)
set_option maxRecDepth 100000 in
theorem open_seg {H : Type} {enc : TypeId × Value → H} {W : World} {base : Nat} {v : Value} {d : DataW H} {p : List MemPlace} (hv : Value.okWide Tryz.prog W .any base 24 v) (h : DataW.Trod enc Tryz.prog W 0 (fun _ => true) true 24 v d p) (hz : ∀ z ∈ DataW.weights Tryz.prog 24 d, z ≤ reachBytes) :
    ∃ (sb : Int) (A : Option Addr) (n c : Nat) (l : List UInt8), v = .agg #[.int .i64 sb, .slice A n c] ∧ I64 sb ∧ n ≤ c ∧ c ≤ reach ∧ Rd W W.heap.size A n l := by
  obtain ⟨cs, rfl, hsz⟩ := okWide_struct Tryz.underlying24 hv
  obtain ⟨fuel, hf⟩ := h
  have h2 : Tryz.prog.cellsOf 24 = 2 := by kernel_rfl
  have hl : cs.toList.length = 2 := by rw [Array.length_toList, hsz, h2]
  obtain ⟨n, hat⟩ := opens_fields Tryz.underlying24 (by kernel_rfl) hf hz hl
  obtain ⟨u0, d0, p0, c0, t0, z0⟩ := hat 0 _ rfl
  obtain ⟨u1, d1, p1, c1, t1, z1⟩ := hat 1 _ rfl
  obtain ⟨x0, rfl, h0⟩ := opens_int Tryz.underlying3 H enc W n u0 d0 p0 t0 z0
  obtain ⟨x1, A1, n1, m1, rfl, q1, r1, R1⟩ := opens_raw H enc W n u1 d1 p1 t1 z1
  refine ⟨x0, A1, n1, m1, x1, ?_, h0, q1, by omega, R1.bytes⟩
  congr 1
  apply Array.toList_inj.1
  exact list_of2 hl c0 c1
end Go.Proofs.YtbnkfljkojhkoaaGreatDoor.Seg
