/- The heads' places, and what Split tells by them. Nothing of the program. -/
import Derived.Test.YtilnlmopdljeeaaFrmI
namespace Go.Proofs.Ytilnlmopdljeeaa.Frm
open Go.Proofs.Ytilnlmopdljeeaa.Oct

def okN (n : Nat) (x : Nat × Nat) : Prop := (1 ≤ x.2 - x.1 ∧ x.2 - x.1 ≤ 4096) ∧ x.2 ≤ n
def bodN (bs : List UInt8) (p : List (Nat × Nat)) : List (List UInt8) := p.map fun x => (bs.drop x.1).take (x.2 - x.1)
def endN : Nat → List (Nat × Nat) → Nat
  | o, [] => o
  | _, x :: p => endN x.2 p
theorem endN_snoc (p : List (Nat × Nat)) (x : Nat × Nat) (o : Nat) : endN o (p ++ [x]) = x.2 := by
  induction p generalizing o with
  | nil => rfl
  | cons y p ih => exact ih y.2
theorem endN_le {p : List (Nat × Nat)} {n o : Nat} (h : ∀ x ∈ p, okN n x) (ho : o ≤ n) : endN o p ≤ n := by
  induction p generalizing o with
  | nil => exact ho
  | cons y p ih => exact ih (fun x hx => h x (by simp [hx])) (h y (by simp)).2
theorem bodN_snoc (bs : List UInt8) (p : List (Nat × Nat)) (x : Nat × Nat) : bodN bs (p ++ [x]) = bodN bs p ++ [(bs.drop x.1).take (x.2 - x.1)] := by simp [bodN]
section
variable {bs : List UInt8} {o : Nat}
theorem drop_more (m : Nat) : (bs.drop o).drop (4 + m) = bs.drop (o + 4 + m) := by rw [List.drop_drop, Nat.add_assoc]
theorem head_body (m : Nat) : ((bs.drop o).drop 4).take m = (bs.drop (o + 4)).take (o + 4 + m - (o + 4)) := by rw [List.drop_drop, Nat.add_sub_cancel_left]
theorem pls_all (h : ∀ x ∈ pls (bs.drop o) o, okN bs.length x) : sp (bs.drop o) = (bodN bs (pls (bs.drop o) o), bs.drop (endN o (pls (bs.drop o) o)), 0) := by
  induction hn : (bs.drop o).length using Nat.strongRecOn generalizing o with
  | ind n ih =>
    subst hn
    by_cases h4 : (bs.drop o).length < 4
    · rw [pls_no h4, sp_few h4]; rfl
    · have h4' : 4 ≤ (bs.drop o).length := by omega
      rw [pls_yes h4'] at h ⊢
      obtain ⟨⟨k1, k2⟩, k3⟩ := h _ (List.mem_cons_self)
      simp only at k1 k2 k3
      rw [Nat.add_sub_cancel_left] at k1 k2
      rw [List.length_drop] at h4'
      have hd := drop_more (bs := bs) (o := o) (nm (bs.drop o))
      rw [hd] at h ⊢
      have hi := ih (bs.drop (o + 4 + nm (bs.drop o))).length (by rw [List.length_drop, List.length_drop]; omega) (fun x hx => h x (List.mem_cons_of_mem _ hx)) rfl
      rw [sp_more (by rw [List.length_drop]; omega) ⟨k1, k2⟩ (by rw [List.length_drop]; omega) (by rw [hd, hi]), hd, hi, head_body]
      rfl
theorem pls_bad {pre : List (Nat × Nat)} {x : Nat × Nat} (h : ∀ y ∈ pre, okN bs.length y) (hp : pre ++ [x] <+: pls (bs.drop o) o) (hx : ¬ (1 ≤ x.2 - x.1 ∧ x.2 - x.1 ≤ 4096)) : sp (bs.drop o) = ([], [], 11) := by
  induction pre generalizing o with
  | nil =>
    by_cases h4 : (bs.drop o).length < 4
    · rw [pls_no h4] at hp; simp at hp
    · rw [pls_yes (by omega), List.nil_append, List.cons_prefix_cons] at hp
      obtain ⟨rfl, _⟩ := hp
      simp only [Nat.add_sub_cancel_left] at hx
      exact sp_wrong (by omega) (by omega)
  | cons y pre ih =>
    by_cases h4 : (bs.drop o).length < 4
    · rw [pls_no h4] at hp; simp at hp
    · have h4' : 4 ≤ (bs.drop o).length := by omega
      rw [pls_yes h4', List.cons_append, List.cons_prefix_cons] at hp
      obtain ⟨rfl, hp⟩ := hp
      obtain ⟨⟨k1, k2⟩, k3⟩ := h _ (List.mem_cons_self)
      simp only at k1 k2 k3
      rw [Nat.add_sub_cancel_left] at k1 k2
      rw [List.length_drop] at h4'
      have hd := drop_more (bs := bs) (o := o) (nm (bs.drop o))
      rw [hd] at hp
      have hi := ih (fun x hx => h x (List.mem_cons_of_mem _ hx)) hp
      exact sp_bad (by rw [List.length_drop]; omega) ⟨k1, k2⟩ (by rw [List.length_drop]; omega) (by rw [hd, hi]; decide)
theorem pls_stop {pre : List (Nat × Nat)} {x : Nat × Nat} (h : ∀ y ∈ pre, okN bs.length y) (hp : pre ++ [x] <+: pls (bs.drop o) o) (hx : 1 ≤ x.2 - x.1 ∧ x.2 - x.1 ≤ 4096) (hl : bs.length < x.2) : sp (bs.drop o) = (bodN bs pre, bs.drop (endN o pre), 0) := by
  induction pre generalizing o with
  | nil =>
    by_cases h4 : (bs.drop o).length < 4
    · rw [pls_no h4] at hp; simp at hp
    · rw [pls_yes (by omega), List.nil_append, List.cons_prefix_cons] at hp
      obtain ⟨rfl, _⟩ := hp
      simp only [Nat.add_sub_cancel_left] at hx hl
      exact sp_short (by omega) (by omega) (by rw [List.length_drop]; rw [List.length_drop] at h4; omega)
  | cons y pre ih =>
    by_cases h4 : (bs.drop o).length < 4
    · rw [pls_no h4] at hp; simp at hp
    · have h4' : 4 ≤ (bs.drop o).length := by omega
      rw [pls_yes h4', List.cons_append, List.cons_prefix_cons] at hp
      obtain ⟨rfl, hp⟩ := hp
      obtain ⟨⟨k1, k2⟩, k3⟩ := h _ (List.mem_cons_self)
      simp only at k1 k2 k3
      rw [Nat.add_sub_cancel_left] at k1 k2
      rw [List.length_drop] at h4'
      have hd := drop_more (bs := bs) (o := o) (nm (bs.drop o))
      rw [hd] at hp
      have hi := ih (fun x hx => h x (List.mem_cons_of_mem _ hx)) hp
      rw [sp_more (by rw [List.length_drop]; omega) ⟨k1, k2⟩ (by rw [List.length_drop]; omega) (by rw [hd, hi]), hd, hi, head_body]
      rfl
end
end Go.Proofs.Ytilnlmopdljeeaa.Frm
