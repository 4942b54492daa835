/- Joined: ProArg. -/
import Derived.Test.YthhdhdjdhekgpaaDoorLay
import Derived.Test.YthhdhdjdhekgpaaDoorProMath
import Derived.Test.YthhdhdjdhekgpaaDoorProSpW
/- Requests and answers as a law is handed them. -/
namespace Go.Proofs.YthhdhdjdhekgpaaDoor.Pro
open Go.RowKit Go.ChangeShapes Go.WideShapes Go.Deep Go.Proofs.YthhdhdjdhekgpaaDoor.Oct Go.Proofs.YthhdhdjdhekgpaaDoor.Lay

section
variable {H : Type} {enc : TypeId × Value → H} {W : World} {base : Nat} {v : Value} {d : DataW H} {p : List MemPlace}
theorem list_of7 {l : List Value} {u0 u1 u2 u3 u4 u5 u6 : Value} (hl : l.length = 7) (c0 : l[0]? = some u0) (c1 : l[1]? = some u1) (c2 : l[2]? = some u2) (c3 : l[3]? = some u3) (c4 : l[4]? = some u4) (c5 : l[5]? = some u5) (c6 : l[6]? = some u6) : l = [u0, u1, u2, u3, u4, u5, u6] := by
  match l, hl with
  | [_, _, _, _, _, _, _], _ =>
    simp only [List.getElem?_cons_zero, List.getElem?_cons_succ, Option.some.injEq] at c0 c1 c2 c3 c4 c5 c6
    rw [c0, c1, c2, c3, c4, c5, c6]
theorem list_of8 {l : List Value} {u0 u1 u2 u3 u4 u5 u6 u7 : Value} (hl : l.length = 8) (c0 : l[0]? = some u0) (c1 : l[1]? = some u1) (c2 : l[2]? = some u2) (c3 : l[3]? = some u3) (c4 : l[4]? = some u4) (c5 : l[5]? = some u5) (c6 : l[6]? = some u6) (c7 : l[7]? = some u7) : l = [u0, u1, u2, u3, u4, u5, u6, u7] := by
  match l, hl with
  | [_, _, _, _, _, _, _, _], _ =>
    simp only [List.getElem?_cons_zero, List.getElem?_cons_succ, Option.some.injEq] at c0 c1 c2 c3 c4 c5 c6 c7
    rw [c0, c1, c2, c3, c4, c5, c6, c7]
theorem opens_numbers : Opens1 Tryd.prog 22 (List Int) := opens_slice (α := Int) Tryd.underlying22 (by kernel_rfl) (of_decide_eq_true (by kernel_rfl)) (opens_one (opens_int Tryd.underlying3))
theorem opens_texts : Opens1 Tryd.prog 23 (List ByteArray) := opens_slice (α := ByteArray) Tryd.underlying23 (by kernel_rfl) (of_decide_eq_true (by kernel_rfl)) (opens_one (opens_string Tryd.underlying9))
theorem opens_raw : Opens1 Tryd.prog 24 (List UInt8) := opens_slice (α := UInt8) Tryd.underlying24 (by kernel_rfl) (of_decide_eq_true (by kernel_rfl)) (opens_byte Tryd.underlying5)
set_option maxRecDepth 100000 in
theorem open_req (hv : Value.okWide Tryd.prog W .any base 26 v) (h : DataW.Trod enc Tryd.prog W 0 (fun _ => true) true 26 v d p) (hz : ∀ z ∈ DataW.weights Tryd.prog 26 d, z ≤ reachBytes) :
    ∃ (k ver i : Int) (s : ByteArray) (A1 : Option Addr) (n1 c1 : Nat) (l1 : List Int) (A2 : Option Addr) (n2 c2 : Nat) (l2 : List ByteArray) (A3 : Option Addr) (n3 c3 : Nat) (l3 : List UInt8), v = .agg #[.int .i64 k, .int .i64 ver, .int .i64 i, .string s, .slice A1 n1 c1, .slice A2 n2 c2, .slice A3 n3 c3] ∧
      s.size ≤ reach ∧ RdL W W.heap.size A1 n1 l1 ∧ n1 ≤ reach ∧ RdL W W.heap.size A2 n2 l2 ∧ n2 ≤ reach ∧ Rd W W.heap.size A3 n3 l3 ∧ n3 ≤ c3 ∧ n3 ≤ reach := by
  obtain ⟨cs, rfl, hsz⟩ := okWide_struct Tryd.underlying26 hv
  obtain ⟨fuel, hf⟩ := h
  have h7 : Tryd.prog.cellsOf 26 = 7 := by kernel_rfl
  have hl : cs.toList.length = 7 := by rw [Array.length_toList, hsz, h7]
  obtain ⟨n, hat⟩ := opens_fields Tryd.underlying26 (by kernel_rfl) hf hz hl
  obtain ⟨u0, d0, p0, c0, t0, z0⟩ := hat 0 _ rfl
  obtain ⟨u1, d1, p1, c1, t1, z1⟩ := hat 1 _ rfl
  obtain ⟨u2, d2, p2, c2, t2, z2⟩ := hat 2 _ rfl
  obtain ⟨u3, d3, p3, c3, t3, z3⟩ := hat 3 _ rfl
  obtain ⟨u4, d4, p4, c4, t4, z4⟩ := hat 4 _ rfl
  obtain ⟨u5, d5, p5, c5, t5, z5⟩ := hat 5 _ rfl
  obtain ⟨u6, d6, p6, c6, t6, z6⟩ := hat 6 _ rfl
  obtain ⟨x0, rfl, h0⟩ := opens_int Tryd.underlying3 H enc W n u0 d0 p0 t0 z0
  obtain ⟨x1, rfl, h1⟩ := opens_int Tryd.underlying3 H enc W n u1 d1 p1 t1 z1
  obtain ⟨x2, rfl, h2⟩ := opens_int Tryd.underlying3 H enc W n u2 d2 p2 t2 z2
  obtain ⟨x3, rfl, h3⟩ := opens_string Tryd.underlying9 H enc W n u3 d3 p3 t3 z3
  obtain ⟨x4, A4, n4, m4, rfl, q4, r4, R4⟩ := opens_numbers H enc W n u4 d4 p4 t4 z4
  obtain ⟨x5, A5, n5, m5, rfl, q5, r5, R5⟩ := opens_texts H enc W n u5 d5 p5 t5 z5
  obtain ⟨x6, A6, n6, m6, rfl, q6, r6, R6⟩ := opens_raw H enc W n u6 d6 p6 t6 z6
  refine ⟨x0, x1, x2, x3, A4, n4, m4, x4, A5, n5, m5, x5, A6, n6, m6, x6, ?_, h3, R4, by omega, R5, by omega, R6.bytes, q6, by omega⟩
  congr 1
  apply Array.toList_inj.1
  exact list_of7 hl c0 c1 c2 c3 c4 c5 c6
set_option maxRecDepth 100000 in
theorem open_resp (hv : Value.okWide Tryd.prog W .any base 38 v) (h : DataW.Trod enc Tryd.prog W 0 (fun _ => true) true 38 v d p) (hz : ∀ z ∈ DataW.weights Tryd.prog 38 d, z ≤ reachBytes) :
    ∃ (k ver i e w : Int) (A1 : Option Addr) (n1 c1 : Nat) (l1 : List Int) (A2 : Option Addr) (n2 c2 : Nat) (l2 : List ByteArray) (A3 : Option Addr) (n3 c3 : Nat) (l3 : List UInt8), v = .agg #[.int .i64 k, .int .i64 ver, .int .i64 i, .int .i64 e, .int .i64 w, .slice A1 n1 c1, .slice A2 n2 c2, .slice A3 n3 c3] ∧
      RdL W W.heap.size A1 n1 l1 ∧ n1 ≤ reach ∧ RdL W W.heap.size A2 n2 l2 ∧ n2 ≤ reach ∧ Rd W W.heap.size A3 n3 l3 ∧ n3 ≤ c3 ∧ n3 ≤ reach := by
  obtain ⟨cs, rfl, hsz⟩ := okWide_struct Tryd.underlying38 hv
  obtain ⟨fuel, hf⟩ := h
  have h8 : Tryd.prog.cellsOf 38 = 8 := by kernel_rfl
  have hl : cs.toList.length = 8 := by rw [Array.length_toList, hsz, h8]
  obtain ⟨n, hat⟩ := opens_fields Tryd.underlying38 (by kernel_rfl) hf hz hl
  obtain ⟨u0, d0, p0, c0, t0, z0⟩ := hat 0 _ rfl
  obtain ⟨u1, d1, p1, c1, t1, z1⟩ := hat 1 _ rfl
  obtain ⟨u2, d2, p2, c2, t2, z2⟩ := hat 2 _ rfl
  obtain ⟨u3, d3, p3, c3, t3, z3⟩ := hat 3 _ rfl
  obtain ⟨u7, d7, p7, c7, t7, z7⟩ := hat 4 _ rfl
  obtain ⟨u4, d4, p4, c4, t4, z4⟩ := hat 5 _ rfl
  obtain ⟨u5, d5, p5, c5, t5, z5⟩ := hat 6 _ rfl
  obtain ⟨u6, d6, p6, c6, t6, z6⟩ := hat 7 _ rfl
  obtain ⟨x0, rfl, h0⟩ := opens_int Tryd.underlying3 H enc W n u0 d0 p0 t0 z0
  obtain ⟨x1, rfl, h1⟩ := opens_int Tryd.underlying3 H enc W n u1 d1 p1 t1 z1
  obtain ⟨x2, rfl, h2⟩ := opens_int Tryd.underlying3 H enc W n u2 d2 p2 t2 z2
  obtain ⟨x3, rfl, h3⟩ := opens_int Tryd.underlying29 H enc W n u3 d3 p3 t3 z3
  obtain ⟨x7, rfl, h7⟩ := opens_int Tryd.underlying3 H enc W n u7 d7 p7 t7 z7
  obtain ⟨x4, A4, n4, m4, rfl, q4, r4, R4⟩ := opens_numbers H enc W n u4 d4 p4 t4 z4
  obtain ⟨x5, A5, n5, m5, rfl, q5, r5, R5⟩ := opens_texts H enc W n u5 d5 p5 t5 z5
  obtain ⟨x6, A6, n6, m6, rfl, q6, r6, R6⟩ := opens_raw H enc W n u6 d6 p6 t6 z6
  refine ⟨x0, x1, x2, x3, x7, A4, n4, m4, x4, A5, n5, m5, x5, A6, n6, m6, x6, ?_, R4, by omega, R5, by omega, R6.bytes, q6, by omega⟩
  congr 1
  apply Array.toList_inj.1
  exact list_of8 hl c0 c1 c2 c3 c7 c4 c5 c6
/-- what an argument weighs -/
theorem weights_arg {P : Program} {ts : List TypeId} {ds : List (DataW H)} (h : (DataW.weightsEach P ts ds).all (· ≤ reachBytes) = true) {j : Nat} {t : TypeId} (ht : ts[j]? = some t) (hd : ds[j]? = some d) : ∀ z ∈ DataW.weights P t d, z ≤ reachBytes := by
  intro z hz
  simpa using List.all_eq_true.1 h z (DataW.weights_mem_each ht hd z hz)
end
end Go.Proofs.YthhdhdjdhekgpaaDoor.Pro
