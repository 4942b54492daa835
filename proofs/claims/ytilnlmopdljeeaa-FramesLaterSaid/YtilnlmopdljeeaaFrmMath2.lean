/- More plain mathematics of layer 5: a stream in pieces; frames that are wrong; what comes later. Nothing of the program. -/
import Derived.Test.YtilnlmopdljeeaaFrmMath
namespace Go.Proofs.Ytilnlmopdljeeaa.Frm
open Go.Proofs.Ytilnlmopdljeeaa.Oct

theorem sp_nil : sp [] = ([], [], 0) := sp_few (by decide)
/-- of bytes that are right the beginning is right, and so is what is held with the others behind -/
theorem sp_ok {a b : List UInt8} (h : (sp (a ++ b)).2.2 = 0) : (sp a).2.2 = 0 ∧ (sp ((sp a).2.1 ++ b)).2.2 = 0 ∧ sp (a ++ b) = ((sp a).1 ++ (sp ((sp a).2.1 ++ b)).1, (sp ((sp a).2.1 ++ b)).2.1, 0) := by
  have h2 := sp_two a b
  by_cases h3 : (sp a).2.2 = 0
  · rw [if_neg (by simpa using h3)] at h2
    by_cases h4 : (sp ((sp a).2.1 ++ b)).2.2 = 0
    · rw [if_neg (by simpa using h4)] at h2
      exact ⟨h3, h4, h2⟩
    · rw [if_pos h4] at h2; rw [h2] at h; cases h
  · rw [if_pos h3] at h2; rw [h2] at h; cases h
/-- one piece of a stream more -/
theorem sp_piece {l : List UInt8} (h : (sp l).2.2 = 0) {p q : Nat} (hpq : p ≤ q) :
    (sp (l.take p)).2.2 = 0 ∧ (sp ((sp (l.take p)).2.1 ++ (l.drop p).take (q - p))).2.2 = 0 ∧
    sp (l.take q) = ((sp (l.take p)).1 ++ (sp ((sp (l.take p)).2.1 ++ (l.drop p).take (q - p))).1, (sp ((sp (l.take p)).2.1 ++ (l.drop p).take (q - p))).2.1, 0) := by
  have e : l.take q = l.take p ++ (l.drop p).take (q - p) := by rw [← List.take_add]; congr 1; omega
  have e2 : l = l.take q ++ l.drop q := (List.take_append_drop q l).symm
  have h1 : (sp (l.take q)).2.2 = 0 := by rw [e2] at h; exact (sp_ok h).1
  rw [e] at h1
  rw [e]
  exact sp_ok h1
/-- what comes later changes no frame that is whole -/
theorem sp_later {a b : List UInt8} (h : (sp (a ++ b)).2.2 = 0) : (sp a).2.2 = 0 ∧ (sp a).1.length ≤ (sp (a ++ b)).1.length ∧ (sp (a ++ b)).1.take (sp a).1.length = (sp a).1 := by
  obtain ⟨h1, h2, h3⟩ := sp_ok h
  refine ⟨h1, ?_, ?_⟩
  · rw [h3]; simp only [List.length_append]; omega
  · rw [h3]; simp only [List.take_left]
/-- an error leaves nothing -/
theorem sp_none {l : List UInt8} (h : (sp l).2.2 ≠ 0) : (sp l).1 = [] ∧ (sp l).2.1 = [] ∧ (sp l).2.2 = 11 := by rw [sp_err h]; exact ⟨rfl, rfl, rfl⟩
/-- a head that tells no length -/
theorem sp_head {n : Nat} (hn : n < 4294967296) (h : n < 1 ∨ 4096 < n) (m : List UInt8) : sp (beN n 4 4 ++ m) = ([], [], 11) := by
  have e : nm (beN n 4 4 ++ m) = n := by
    unfold nm
    rw [List.take_left' (beN_length _ _ _), getN_be]
    omega
  exact sp_wrong (by rw [List.length_append, beN_length]; omega) (by rw [e]; exact h)
/-- those that can be framed -/
def gd (L : List (List UInt8)) : List (List UInt8) := L.filter okF
theorem gd_ok {L : List (List UInt8)} : ∀ x ∈ gd L, okF x = true := fun _ h => (List.mem_filter.1 h).2
theorem gd_all {L : List (List UInt8)} (h : ∀ x ∈ L, okF x = true) : gd L = L := List.filter_eq_self.2 h
theorem gd_step {L : List (List UInt8)} {k : Nat} {l : List UInt8} (h : L[k]? = some l) : gd (L.take (k + 1)) = if okF l = true then gd (L.take k) ++ [l] else gd (L.take k) := by
  have e : L.take (k + 1) = L.take k ++ [l] := by rw [List.take_add_one, h]; rfl
  unfold gd
  rw [e, List.filter_append]
  by_cases hc : okF l = true
  · rw [if_pos hc, List.filter_cons_of_pos hc, List.filter_nil]
  · rw [if_neg hc, List.filter_cons_of_neg hc, List.filter_nil, List.append_nil]
theorem frs_snoc (L : List (List UInt8)) (l : List UInt8) : frs (L ++ [l]) = frs L ++ fr l := by
  induction L with
  | nil => show fr l ++ [] = fr l; rw [List.append_nil]
  | cons x L ih => show fr x ++ frs (L ++ [l]) = _; rw [ih]; show _ = (fr x ++ frs L) ++ fr l; rw [List.append_assoc]
theorem frs_len {L : List (List UInt8)} {m : Nat} (h : ∀ x ∈ L, x.length ≤ m) : (frs L).length ≤ L.length * (4 + m) := by
  induction L with
  | nil => exact Nat.zero_le _
  | cons x L ih =>
    have h1 := h x (by simp)
    have h2 := ih fun y hy => h y (by simp [hy])
    show (fr x ++ frs L).length ≤ _
    rw [List.length_append, fr_length, List.length_cons, Nat.succ_mul]
    omega
theorem frs_ge {L : List (List UInt8)} : (∀ x ∈ L, x.length ≤ (frs L).length) ∧ L.length ≤ (frs L).length := by
  induction L with
  | nil => exact ⟨by simp, Nat.zero_le _⟩
  | cons x L ih =>
    have e : (frs (x :: L)).length = 4 + x.length + (frs L).length := by show (fr x ++ frs L).length = _; rw [List.length_append, fr_length]
    refine ⟨fun y hy => ?_, by rw [e, List.length_cons]; have := ih.2; omega⟩
    rcases List.mem_cons.1 hy with rfl | hy
    · omega
    · have := ih.1 y hy; omega
/-- what is framed comes out -/
theorem sp_gd (L : List (List UInt8)) : sp (frs (gd L)) = (gd L, [], 0) := by
  have h := sp_frs (gd_ok (L := L)) []
  rw [List.append_nil, sp_nil, if_neg (by simp), List.append_nil] at h
  exact h
theorem sp_gd_head (L : List (List UInt8)) {n : Nat} (hn : n < 4294967296) (h : n < 1 ∨ 4096 < n) (m : List UInt8) : sp (frs (gd L) ++ (beN n 4 4 ++ m)) = ([], [], 11) := by
  have h1 := sp_frs (gd_ok (L := L)) (beN n 4 4 ++ m)
  rw [sp_head hn h, if_pos (by simp)] at h1
  exact h1
/-- whether bodies are few, and short -/
def fewL : List (List UInt8) → Nat → Bool
  | [], _ => true
  | l :: L, m => if 3000 < m + 1 + l.length then false else fewL L (m + 1 + l.length)
theorem fewL_small {L : List (List UInt8)} {m : Nat} (h : fewL L m = true) : (∀ l ∈ L, l.length ≤ 3000) ∧ L.length + m ≤ 3000 ∨ L = [] := by
  induction L generalizing m with
  | nil => exact .inr rfl
  | cons x L ih =>
    unfold fewL at h
    by_cases hh : 3000 < m + 1 + x.length
    · rw [if_pos hh] at h; cases h
    · rw [if_neg hh] at h
      refine .inl ?_
      rcases ih h with ⟨h1, h2⟩ | h1
      · refine ⟨fun l hl => ?_, by rw [List.length_cons]; omega⟩
        rcases List.mem_cons.1 hl with rfl | hl
        · omega
        · exact h1 l hl
      · subst h1
        refine ⟨fun l hl => ?_, by simp; omega⟩
        obtain rfl : l = x := by simpa using hl
        omega
theorem fewL_step {L : List (List UInt8)} {k m : Nat} {l : List UInt8} (h : L[k]? = some l) : fewL (L.drop k) m = if 3000 < m + 1 + l.length then false else fewL (L.drop (k + 1)) (m + 1 + l.length) := by
  have e : L.drop k = l :: L.drop (k + 1) := by
    obtain ⟨hlt, hr⟩ := List.getElem?_eq_some_iff.1 h
    rw [List.drop_eq_getElem_cons hlt, hr]
  rw [e]
  rfl
end Go.Proofs.Ytilnlmopdljeeaa.Frm
