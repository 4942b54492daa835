/- The words for the walks of layer 5: what a call tells, and what holds at the loops' heads. Nothing of the program: the types' numbers and the worlds are letters. -/
import Derived.Test.YtilnlmopdljeeaaFrmMath2
import Derived.Test.YtilnlmopdljeeaaRowA
namespace Go.Proofs.Ytilnlmopdljeeaa.Frm
open Go.RowKit Go.Proofs.Ytilnlmopdljeeaa.Oct Go.Proofs.Ytilnlmopdljeeaa.RowF Go.Proofs.Ytilnlmopdljeeaa.RowL Go.Proofs.Ytilnlmopdljeeaa.Lay

/-- bodies, a rest, and an error's number: all in memory of the call's own -/
def RS (eL e8 : TypeId) (w : World) (x : List (List UInt8) × List UInt8 × Int) (en : Ending) (w' : World) : Prop :=
  ∃ A n c A2 n2 c2, en = .returned (.tuple #[.slice A n c, .slice A2 n2 c2, .int .i64 x.2.2]) ∧ OwnL w' eL (fun b => w.heap.size ≤ b) w.heap.size (.slice A n c) n x.1 ∧ OwnB w' e8 w.heap.size (.slice A2 n2 c2) n2 x.2.1 ∧ Below w.heap.size w w'
/-- bytes and an error's number -/
def RP (e8 : TypeId) (w : World) (x : List UInt8 × Int) (en : Ending) (w' : World) : Prop :=
  ∃ A n c, en = .returned (.tuple #[.slice A n c, .int .i64 x.2]) ∧ OwnB w' e8 w.heap.size (.slice A n c) n x.1 ∧ Below w.heap.size w w'

/-! ### bodies as a stream -/
def frRel (e8 eL : TypeId) (L : List (List UInt8)) (n : Nat) (w : World) (vg vb i : Value) (wr : World) : Prop :=
  ∃ (k : Nat) (A1 : Option Addr) (n1 c1 : Nat) (A2 : Option Addr) (n2 c2 : Nat), i = .int .i64 (k : Int) ∧ k ≤ n ∧ vg = .slice A1 n1 c1 ∧ vb = .slice A2 n2 c2 ∧ n1 ≤ k ∧ n2 ≤ k * 4100 ∧
    OwnL wr eL (fun b => b < w.heap.size) w.heap.size vg n1 (gd (L.take k)) ∧ OwnB wr e8 w.heap.size vb n2 (frs (gd (L.take k))) ∧ Apart vg vb ∧ Below w.heap.size w wr
set_option maxRecDepth 100000 in
theorem frRel_start (e8 eL : TypeId) (L : List (List UInt8)) (n : Nat) (w : World) : frRel e8 eL L n w (.slice none 0 0) (.slice none 0 0) (.int .i64 0) w :=
  ⟨0, none, 0, 0, none, 0, 0, rfl, Nat.zero_le _, rfl, rfl, Nat.zero_le _, by rw [Nat.zero_mul]; exact Nat.le_refl 0, by rw [List.take_zero]; exact OwnL.nil, by rw [List.take_zero]; exact OwnB.nil, Apart.nil _ _, Below.refl _ _⟩
section
variable {e8 eL : TypeId} {L : List (List UInt8)} {n k n1 c1 n2 c2 : Nat} {A1 A2 : Option Addr} {w wr w2 : World} {l : List UInt8} {i : Value}
theorem frRel_skip (hl : L[k]? = some l) (hk : k < n) (hno : okF l = false) (h1 : n1 ≤ k) (h2 : n2 ≤ k * 4100) (hg : OwnL wr eL (fun b => b < w.heap.size) w.heap.size (.slice A1 n1 c1) n1 (gd (L.take k)))
    (hb : OwnB wr e8 w.heap.size (.slice A2 n2 c2) n2 (frs (gd (L.take k)))) (ha : Apart (.slice A1 n1 c1) (.slice A2 n2 c2)) (hw : Below w.heap.size w wr) (hx : Below wr.heap.size wr w2) (hi : i = .int .i64 ((k + 1 : Nat) : Int)) : frRel e8 eL L n w (.slice A1 n1 c1) (.slice A2 n2 c2) i w2 := by
  have e : gd (L.take (k + 1)) = gd (L.take k) := by rw [gd_step hl, if_neg (by simp [hno])]
  exact ⟨k + 1, A1, n1, c1, A2, n2, c2, hi, hk, rfl, rfl, by omega, Nat.le_trans h2 (Nat.mul_le_mul_right _ (Nat.le_succ k)), by rw [e]; exact hg.below hx, by rw [e]; exact hb.below hx, ha, bel_trans hw hx⟩
theorem frRel_more {m : Nat} (hl : L[k]? = some l) (hk : k < n) (hyes : okF l = true) (h1 : n1 ≤ k) (h2 : n2 ≤ k * 4100) (hm : m = (fr l).length) (hg : OwnL w2 eL (fun b => b < w.heap.size) w.heap.size (.slice A1 (n1 + 1) c1) (n1 + 1) (gd (L.take k) ++ [l]))
    (hb : OwnB w2 e8 w.heap.size (.slice A2 (n2 + m) c2) (n2 + m) (frs (gd (L.take k)) ++ fr l)) (ha : Apart (.slice A1 (n1 + 1) c1) (.slice A2 (n2 + m) c2)) (hw : Below w.heap.size w w2) (hi : i = .int .i64 ((k + 1 : Nat) : Int)) : frRel e8 eL L n w (.slice A1 (n1 + 1) c1) (.slice A2 (n2 + m) c2) i w2 := by
  have e : gd (L.take (k + 1)) = gd (L.take k) ++ [l] := by rw [gd_step hl, if_pos hyes]
  have h3 : (fr l).length ≤ 4100 := by
    have : 1 ≤ l.length ∧ l.length ≤ 4096 := by simpa [okF] using hyes
    rw [fr_length]; omega
  exact ⟨k + 1, A1, n1 + 1, c1, A2, n2 + m, c2, hi, hk, rfl, rfl, by omega, by rw [Nat.succ_mul]; omega, by rw [e]; exact hg, by rw [e, frs_snoc]; exact hb, ha, hw⟩
end
/-- an argument's body, as one that a row may lead to -/
theorem lead_arg {w wr : World} {B : Nat} {row : Option Nat} {a : Option Addr} {m c : Nat} {l : List UInt8} (h : Rd wr B a m l) (hm : m ≤ c) (hB : B ≤ w.heap.size) (hw : w.heap.size ≤ wr.heap.size) (hr : ∀ g, row = some g → w.heap.size ≤ g) : Lead wr (fun b => b < w.heap.size) row (a, m, c) l := by
  refine ⟨h.more (by omega), hm, fun x hx hn => ?_⟩
  have hl : 0 < l.length := by have := h.len; simp only at hn; omega
  obtain ⟨b, o, hA, hb, _⟩ := h.2 0 l[0] (List.getElem?_eq_getElem hl)
  simp only at hx
  rw [hx] at hA
  obtain rfl := Option.some.inj hA
  refine ⟨by simp only; omega, fun he => ?_⟩
  have := hr b he.symm
  omega
/-! ### a stream in pieces -/
def stRel (e8 eL : TypeId) (l : List UInt8) (n m : Nat) (w : World) (vg vh vat i : Value) (wr : World) : Prop :=
  ∃ (k p : Nat) (A1 : Option Addr) (n1 c1 : Nat) (A2 : Option Addr) (n2 c2 : Nat), i = .int .i64 (k : Int) ∧ k ≤ m + 1 ∧ vat = .int .i64 (p : Int) ∧ p ≤ n ∧ (k = m + 1 → p = n) ∧ vg = .slice A1 n1 c1 ∧ vh = .slice A2 n2 c2 ∧
    OwnL wr eL (fun b => w.heap.size ≤ b) w.heap.size vg n1 (sp (l.take p)).1 ∧ OwnB wr e8 w.heap.size vh n2 (sp (l.take p)).2.1 ∧ Apart vg vh ∧ Below w.heap.size w wr
set_option maxRecDepth 100000 in
theorem stRel_start (e8 eL : TypeId) (l : List UInt8) (n m : Nat) (w : World) : stRel e8 eL l n m w (.slice none 0 0) (.slice none 0 0) (.int .i64 0) (.int .i64 0) w := by
  refine ⟨0, 0, none, 0, 0, none, 0, 0, rfl, Nat.zero_le _, rfl, Nat.zero_le _, by omega, rfl, rfl, ?_, ?_, Apart.nil _ _, Below.refl _ _⟩
  · rw [List.take_zero, sp_nil]; exact OwnL.nil
  · rw [List.take_zero, sp_nil]; exact OwnB.nil
/-- how much a stream's pieces tell is no more than there is -/
theorem sp_size (l : List UInt8) : (sp l).1.length ≤ l.length ∧ (sp l).2.1.length ≤ l.length ∧ ∀ x ∈ (sp l).1, x.length ≤ l.length := by
  by_cases h : (sp l).2.2 = 0
  · obtain ⟨h1, h2, h3⟩ := sp_rest h
    have g := frs_ge (L := (sp l).1)
    have e := congrArg List.length h2
    rw [List.length_append] at e
    exact ⟨by omega, by omega, fun x hx => by have := g.1 x hx; omega⟩
  · obtain ⟨h1, h2, _⟩ := sp_none h
    rw [h1, h2]
    exact ⟨Nat.zero_le _, Nat.zero_le _, by simp⟩
/-! ### few bodies -/
def fwRelL (L : List (List UInt8)) (n : Nat) (v i : Value) : Prop :=
  ∃ k m : Nat, v = .int .i64 (m : Int) ∧ i = .int .i64 (k : Int) ∧ k ≤ n ∧ m ≤ 3000 ∧ fewL L 0 = fewL (L.drop k) m
/-! ### the same bodies -/
def smRelL (L M : List (List UInt8)) (n : Nat) (i : Value) : Prop := ∃ k : Nat, i = .int .i64 (k : Int) ∧ k ≤ n ∧ L.take k = M.take k
noncomputable def sameL (L M : List (List UInt8)) : Bool := @decide (L = M) (Classical.propDecidable _)
theorem sameL_yes {L M : List (List UInt8)} (h : L = M) : sameL L M = true := by exact @decide_eq_true _ (Classical.propDecidable _) h
theorem sameL_no {L M : List (List UInt8)} (h : L ≠ M) : sameL L M = false := by exact @decide_eq_false _ (Classical.propDecidable _) h
theorem take_both {L M : List (List UInt8)} {k : Nat} {l : List UInt8} (h : L.take k = M.take k) (h1 : L[k]? = some l) (h2 : M[k]? = some l) : L.take (k + 1) = M.take (k + 1) := by
  rw [List.take_add_one, List.take_add_one, h, h1, h2]
theorem all_both {L M : List (List UInt8)} {n : Nat} (h : L.take n = M.take n) (h1 : L.length = n) (h2 : M.length = n) : L = M := by
  rw [List.take_of_length_le (by omega), List.take_of_length_le (by omega)] at h; exact h
theorem not_both {L M : List (List UInt8)} {k : Nat} {l m : List UInt8} (h1 : L[k]? = some l) (h2 : M[k]? = some m) (hne : l ≠ m) : L ≠ M := by
  rintro rfl
  rw [h1] at h2
  exact hne (Option.some.inj h2)
end Go.Proofs.Ytilnlmopdljeeaa.Frm
