/- Joined: IdxEnt. -/
import Derived.Test.YtbnkfljkojhkoaaGreatDoorJBatA
import Derived.Test.YtbnkfljkojhkoaaGreatDoorJOct
import Derived.Test.YtbnkfljkojhkoaaGreatDoorIdxMath
/- Entries in memory, and as a law is handed them. -/
namespace Go.Proofs.YtbnkfljkojhkoaaGreatDoor.Idx
open Go.RowKit Go.ChangeShapes Go.WideShapes Go.Deep Oct Lay RowF

def enC (x : En) : List Value := [.int .i64 x.off, .int .i64 x.pos, .int .i64 x.stamp]
theorem enS : Shape enC 3 := ⟨fun _ => rfl, fun x u hu => by simp only [enC, List.mem_cons, List.not_mem_nil, or_false] at hu; rcases hu with rfl | rfl | rfl <;> rfl, by decide⟩
abbrev RdE (w : World) (B : Nat) (A : Option Addr) (n : Nat) (l : List En) : Prop := RdF enC 3 w B A n l
abbrev OwnE (w : World) (B : Nat) (v : Value) (n : Nat) (l : List En) : Prop := OwnF enC 3 w 46 B v n l
instance : Lay En where
  sz := 3
  pos := by decide
  is _ _ cs s := cs = enC s
  len h := by rw [h]; rfl
  keep h _ := h
  more h _ := h
theorem rdE_of {w : World} {B n : Nat} {A : Option Addr} {l : List En} (h : RdL w B A n l) : RdE w B A n l :=
  ⟨h.1, fun k x hx => by
    obtain ⟨b, o, cs, hA, hb, his, hc⟩ := h.2 k x hx
    obtain rfl : cs = enC x := his
    exact ⟨b, o, hA, hb, fun i v hv => hc i v hv⟩⟩
theorem en_at {w : World} {B n k : Nat} {A : Option Addr} {l : List En} (h : RdE w B A n l) (hk : k < n) : ∃ b o x, A = some ⟨b, o, none⟩ ∧ b < B ∧ l[k]? = some x ∧ w.cell? ⟨b, o + k * 3, none⟩ = some (.int .i64 x.off) ∧ w.cell? ⟨b, o + k * 3 + 1, none⟩ = some (.int .i64 x.pos) ∧ w.cell? ⟨b, o + k * 3 + 2, none⟩ = some (.int .i64 x.stamp) := by
  obtain ⟨b, o, x, hA, hb, hx, hc⟩ := h.at hk
  exact ⟨b, o, x, hA, hb, hx, hc 0 _ rfl, hc 1 _ rfl, hc 2 _ rfl⟩
theorem rdE_cut {w : World} {B n : Nat} {A : Option Addr} {l : List En} (h : RdE w B A n l) {i m : Nat} (hm : i + m ≤ n) (A' : Option Addr) (hA : 0 < m → A' = A.map (fun a => a.add (i * 3))) : RdE w B A' m ((l.drop i).take m) := by
  have hl := h.len
  refine ⟨by rw [List.length_take, List.length_drop]; omega, fun k x hx => ?_⟩
  have hk : k < m := by have := (List.getElem?_eq_some_iff.1 hx).1; rw [List.length_take] at this; omega
  rw [List.getElem?_take, if_pos hk, List.getElem?_drop] at hx
  obtain ⟨b, o, hAA, hb, hc⟩ := h.2 (i + k) x hx
  rw [hA (by omega), hAA]
  refine ⟨b, o + i * 3, by simp [Addr.add], hb, fun j v hv => ?_⟩
  have := hc j v hv
  rw [show o + i * 3 + k * 3 + j = o + (i + k) * 3 + j by omega]
  exact this
theorem enInfo : Info Tryz.prog 46 3 24 := by
  have h : (Tryz.prog.info? 46).map (fun i => (i.zero, i.size, i.bytes)) = some (some (.agg #[.int .i64 0, .int .i64 0, .int .i64 0]), 3, 24) := by kernel_rfl
  obtain ⟨i, hi, hz, hs, hb⟩ := info_parts h
  exact ⟨i, _, hi, hz, hs, hb, rfl⟩
theorem opens_ent : Opens Tryz.prog 46 En := by
  intro H enc w fuel cs d pl h hl hz
  obtain ⟨n, hat⟩ := opens_fields Tryz.underlying46 (by kernel_rfl) h hz hl
  obtain ⟨u0, d0, p0, c0, t0, z0⟩ := hat 0 _ rfl
  obtain ⟨u1, d1, p1, c1, t1, z1⟩ := hat 1 _ rfl
  obtain ⟨u2, d2, p2, c2, t2, z2⟩ := hat 2 _ rfl
  obtain ⟨x0, rfl, _⟩ := opens_int Tryz.underlying3 H enc w n u0 d0 p0 t0 z0
  obtain ⟨x1, rfl, _⟩ := opens_int Tryz.underlying3 H enc w n u1 d1 p1 t1 z1
  obtain ⟨x2, rfl, _⟩ := opens_int Tryz.underlying3 H enc w n u2 d2 p2 t2 z2
  match cs, hl with
  | [_, _, _], _ =>
    simp only [List.getElem?_cons_zero, List.getElem?_cons_succ, Option.some.injEq] at c0 c1 c2
    exact ⟨⟨x0, x1, x2⟩, by rw [c0, c1, c2]; rfl⟩
section
variable {H : Type} {enc : TypeId × Value → H} {W : World} {base : Nat} {v : Value} {d : DataW H} {p : List MemPlace}
set_option maxRecDepth 100000 in
theorem open_ents (hv : Value.okWide Tryz.prog W .any base 25 v) (h : DataW.Trod enc Tryz.prog W 0 (fun _ => true) true 25 v d p) (hz : ∀ z ∈ DataW.weights Tryz.prog 25 d, z ≤ reachBytes) :
    ∃ (A : Option Addr) (n c : Nat) (l : List En), v = .slice A n c ∧ n ≤ c ∧ c ≤ reach ∧ RdE W W.heap.size A n l := by
  obtain ⟨A, n, c, rfl⟩ := okWide_slice Tryz.underlying25 hv
  obtain ⟨fuel, hf⟩ := h
  obtain ⟨l, A', n', c', e, hc, hr, hR⟩ := opens_slice (α := En) Tryz.underlying25 (by kernel_rfl) (of_decide_eq_true (by kernel_rfl)) opens_ent H enc W fuel _ d p hf hz
  exact ⟨A', n', c', l, e, hc, hr, rdE_of hR⟩
end
end Go.Proofs.YtbnkfljkojhkoaaGreatDoor.Idx
