/- Slices of slices of bytes, and slices of numbers, as a law is handed them. Nothing of the program: P and the types' numbers are letters. -/
import Derived.Test.YtmjnleohchmadaaRowL
namespace Go.Proofs.Ytmjnleohchmadaa.RowL
open Go.RowKit Go.ChangeShapes Go.WideShapes Go.Deep Go.Proofs.Ytmjnleohchmadaa.Oct Go.Proofs.Ytmjnleohchmadaa.RowF Go.Proofs.Ytmjnleohchmadaa.Lay

section
variable {P : Program} {H : Type} {enc : TypeId × Value → H} {W : World} {base : Nat} {v : Value} {d : DataW H} {p : List MemPlace} {t e u : TypeId}
theorem open_nested (ht : P.underlying t = some (.slice e)) (hc : P.cellsOf e = 1) (hb : 1 ≤ P.bytesOf e) (he : P.underlying e = some (.slice u)) (hc2 : P.cellsOf u = 1) (hb2 : 1 ≤ P.bytesOf u) (hu : P.underlying u = some (.int .u8))
    (hv : Value.okWide P W .any base t v) (h : DataW.Trod enc P W 0 (fun _ => true) true t v d p) (hz : ∀ z ∈ DataW.weights P t d, z ≤ reachBytes) :
    ∃ (A : Option Addr) (n c : Nat) (L : List (List UInt8)), v = .slice A n c ∧ n ≤ c ∧ c ≤ reach ∧ RdL W W.heap.size A n L := by
  obtain ⟨A, n, c, rfl⟩ := okWide_slice ht hv
  obtain ⟨fuel, hf⟩ := h
  obtain ⟨l, A', n', c', e, hc, hr, hR⟩ := opens_slice (α := List UInt8) ht hc hb (opens_one (opens_slice (α := UInt8) he hc2 hb2 (opens_byte hu))) H enc W fuel _ d p hf hz
  exact ⟨A', n', c', l, e, hc, hr, hR⟩
theorem open_numbers (ht : P.underlying t = some (.slice e)) (hc : P.cellsOf e = 1) (hb : 1 ≤ P.bytesOf e) (he : P.underlying e = some (.int .i64))
    (hv : Value.okWide P W .any base t v) (h : DataW.Trod enc P W 0 (fun _ => true) true t v d p) (hz : ∀ z ∈ DataW.weights P t d, z ≤ reachBytes) :
    ∃ (A : Option Addr) (n c : Nat) (l : List Int), v = .slice A n c ∧ n ≤ c ∧ c ≤ reach ∧ RdL W W.heap.size A n l := by
  obtain ⟨A, n, c, rfl⟩ := okWide_slice ht hv
  obtain ⟨fuel, hf⟩ := h
  obtain ⟨l, A', n', c', e, hc, hr, hR⟩ := opens_slice (α := Int) ht hc hb (opens_one (opens_int he)) H enc W fuel _ d p hf hz
  exact ⟨A', n', c', l, e, hc, hr, hR⟩
theorem open_u32 (ht : P.underlying t = some (.int .u32)) (hv : Value.okWide P W .any base t v) (h : DataW.Trod enc P W 0 (fun _ => true) true t v d p) : ∃ a : Nat, v = .int .u32 (a : Int) ∧ a < 4294967296 := by
  obtain ⟨a, rfl, _, _, hw⟩ := open_int ht hv h
  have hb := bounds_u32 hw
  exact ⟨a.toNat, by congr 1; omega, by omega⟩
/-- what an argument weighs -/
theorem weights_arg {ts : List TypeId} {ds : List (DataW H)} (h : (DataW.weightsEach P ts ds).all (· ≤ reachBytes) = true) {j : Nat} {t : TypeId} (ht : ts[j]? = some t) (hd : ds[j]? = some d) : ∀ z ∈ DataW.weights P t d, z ≤ reachBytes := by
  intro z hz
  simpa using List.all_eq_true.1 h z (DataW.weights_mem_each ht hd z hz)
/-- a number of a list -/
theorem RdL.num {w : World} {B n k : Nat} {A : Option Addr} {l : List Int} (h : RdL w B A n l) (hk : k < n) : ∃ b o x, A = some ⟨b, o, none⟩ ∧ b < B ∧ l[k]? = some x ∧ I64 x ∧ w.cell? ⟨b, o + k, none⟩ = some (.int .i64 x) := by
  obtain ⟨b, o, x, cs, hA, hb, hx, his, hc⟩ := h.at hk
  obtain ⟨v, rfl, rfl, hi⟩ := his
  have h1 := hc 0 _ rfl
  rw [show o + k * Lay.sz Int + 0 = o + k from by show o + k * 1 + 0 = o + k; omega] at h1
  exact ⟨b, o, x, hA, hb, hx, hi, h1⟩
end
end Go.Proofs.Ytmjnleohchmadaa.RowL
