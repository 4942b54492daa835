/- The plain mathematics of layer 5: frames of bytes. Nothing of the program. -/
import Derived.Test.YtilnlmopdljeeaaOctSpec
namespace Go.Proofs.Ytilnlmopdljeeaa.Frm
open Go.Proofs.Ytilnlmopdljeeaa.Oct

/-- a body's frame -/
def fr (l : List UInt8) : List UInt8 := beN l.length 4 4 ++ l
def okF (l : List UInt8) : Bool := decide (1 ≤ l.length ∧ l.length ≤ 4096)
/-- what Put tells -/
def ptF (l : List UInt8) : List UInt8 × Int := if okF l then (fr l, 0) else ([], 11)
/-- the number that four bytes tell -/
def nm (l : List UInt8) : Nat := getN (l.take 4)
/-- what Split tells -/
def sp (l : List UInt8) : List (List UInt8) × List UInt8 × Int :=
  if l.length < 4 then ([], l, 0)
  else if nm l < 1 ∨ 4096 < nm l then ([], [], 11)
  else if l.length < 4 + nm l then ([], l, 0)
  else
    let r := sp (l.drop (4 + nm l))
    if r.2.2 ≠ 0 then ([], [], 11) else ((l.drop 4).take (nm l) :: r.1, r.2.1, 0)
termination_by l.length
decreasing_by rw [List.length_drop]; omega

theorem sp_few {l : List UInt8} (h : l.length < 4) : sp l = ([], l, 0) := by rw [sp, if_pos h]
theorem sp_wrong {l : List UInt8} (h : 4 ≤ l.length) (h1 : nm l < 1 ∨ 4096 < nm l) : sp l = ([], [], 11) := by rw [sp, if_neg (by omega), if_pos h1]
theorem sp_short {l : List UInt8} (h : 4 ≤ l.length) (h1 : 1 ≤ nm l ∧ nm l ≤ 4096) (h2 : l.length < 4 + nm l) : sp l = ([], l, 0) := by rw [sp, if_neg (by omega), if_neg (by omega), if_pos h2]
theorem sp_bad {l : List UInt8} (h : 4 ≤ l.length) (h1 : 1 ≤ nm l ∧ nm l ≤ 4096) (h2 : 4 + nm l ≤ l.length) (h3 : (sp (l.drop (4 + nm l))).2.2 ≠ 0) : sp l = ([], [], 11) := by
  rw [sp, if_neg (by omega), if_neg (by omega), if_neg (by omega)]
  simp only
  rw [if_pos h3]
theorem sp_more {l : List UInt8} (h : 4 ≤ l.length) (h1 : 1 ≤ nm l ∧ nm l ≤ 4096) (h2 : 4 + nm l ≤ l.length) (h3 : (sp (l.drop (4 + nm l))).2.2 = 0) :
    sp l = ((l.drop 4).take (nm l) :: (sp (l.drop (4 + nm l))).1, (sp (l.drop (4 + nm l))).2.1, 0) := by
  rw [sp, if_neg (by omega), if_neg (by omega), if_neg (by omega)]
  simp only
  rw [if_neg (by simpa using h3)]
/-- one step's five ways -/
theorem sp_ways (l : List UInt8) : l.length < 4 ∨ 4 ≤ l.length ∧ (nm l < 1 ∨ 4096 < nm l) ∨ 4 ≤ l.length ∧ (1 ≤ nm l ∧ nm l ≤ 4096) ∧ l.length < 4 + nm l ∨ 4 ≤ l.length ∧ (1 ≤ nm l ∧ nm l ≤ 4096) ∧ 4 + nm l ≤ l.length := by omega
theorem nm_app {l : List UInt8} (h : 4 ≤ l.length) (m : List UInt8) : nm (l ++ m) = nm l := by
  unfold nm; rw [List.take_append_of_le_length h]
theorem sp_err {l : List UInt8} (h : (sp l).2.2 ≠ 0) : sp l = ([], [], 11) := by
  rcases sp_ways l with a | ⟨a, b⟩ | ⟨a, b, c⟩ | ⟨a, b, c⟩
  · rw [sp_few a] at h; simp at h
  · exact sp_wrong a b
  · rw [sp_short a b c] at h; simp at h
  · by_cases h3 : (sp (l.drop (4 + nm l))).2.2 = 0
    · rw [sp_more a b c h3] at h; simp at h
    · exact sp_bad a b c h3
theorem sp_two (l m : List UInt8) : sp (l ++ m) = if (sp l).2.2 ≠ 0 then ([], [], 11) else if (sp ((sp l).2.1 ++ m)).2.2 ≠ 0 then ([], [], 11) else ((sp l).1 ++ (sp ((sp l).2.1 ++ m)).1, (sp ((sp l).2.1 ++ m)).2.1, 0) := by
  induction hn : l.length using Nat.strongRecOn generalizing l with
  | ind n ih =>
    subst hn
    have same : sp l = ([], l, 0) → sp (l ++ m) = if (sp l).2.2 ≠ 0 then ([], [], 11) else if (sp ((sp l).2.1 ++ m)).2.2 ≠ 0 then ([], [], 11) else ((sp l).1 ++ (sp ((sp l).2.1 ++ m)).1, (sp ((sp l).2.1 ++ m)).2.1, 0) := by
      intro h
      rw [h]
      simp only [List.nil_append]
      rw [if_neg (by simp)]
      by_cases h2 : (sp (l ++ m)).2.2 = 0
      · rw [if_neg (by simpa using h2)]
        rw [← h2]
      · rw [if_pos h2]
        exact sp_err h2
    rcases sp_ways l with a | ⟨a, b⟩ | ⟨a, b, c⟩ | ⟨a, b, c⟩
    · exact same (sp_few a)
    · have hnm := nm_app a m
      rw [sp_wrong a b, sp_wrong (l := l ++ m) (by rw [List.length_append]; omega) (by rw [hnm]; exact b)]
      simp
    · exact same (sp_short a b c)
    · have hnm := nm_app a m
      have hl : 4 ≤ (l ++ m).length := by rw [List.length_append]; omega
      have hc : 4 + nm (l ++ m) ≤ (l ++ m).length := by rw [List.length_append, hnm]; omega
      have hd : (l ++ m).drop (4 + nm (l ++ m)) = l.drop (4 + nm l) ++ m := by rw [hnm, List.drop_append_of_le_length c]
      have ht : ((l ++ m).drop 4).take (nm (l ++ m)) = (l.drop 4).take (nm l) := by
        rw [hnm, List.drop_append_of_le_length a, List.take_append_of_le_length (by rw [List.length_drop]; omega)]
      have i := ih (l.drop (4 + nm l)).length (by rw [List.length_drop]; omega) (l.drop (4 + nm l)) rfl
      by_cases h3 : (sp (l.drop (4 + nm l))).2.2 = 0
      · rw [if_neg (by simpa using h3)] at i
        rw [sp_more a b c h3]
        simp only
        rw [if_neg (by simp)]
        by_cases h4 : (sp ((sp (l.drop (4 + nm l))).2.1 ++ m)).2.2 = 0
        · rw [if_neg (by simpa using h4)] at i
          rw [if_neg (by simpa using h4), sp_more hl (by rw [hnm]; exact b) hc (by rw [hd, i]), hd, i, ht]
          rfl
        · rw [if_pos h4] at i
          rw [if_pos h4, sp_bad hl (by rw [hnm]; exact b) hc (by rw [hd, i]; simp)]
      · rw [if_pos h3] at i
        rw [sp_bad a b c h3, if_pos (by simp), sp_bad hl (by rw [hnm]; exact b) hc (by rw [hd, i]; simp)]
theorem fr_length (l : List UInt8) : (fr l).length = 4 + l.length := by rw [fr, List.length_append, beN_length]
theorem nm_fr {l : List UInt8} (h : okF l = true) (m : List UInt8) : nm (fr l ++ m) = l.length := by
  have h2 : l.length ≤ 4096 := by simp [okF] at h; exact h.2
  unfold nm fr
  rw [List.append_assoc, List.take_left' (beN_length _ _ _), getN_be]
  omega
/-- what is framed comes out -/
theorem sp_fr {l : List UInt8} (h : okF l = true) (m : List UInt8) : sp (fr l ++ m) = if (sp m).2.2 ≠ 0 then ([], [], 11) else (l :: (sp m).1, (sp m).2.1, 0) := by
  have h2 : 1 ≤ l.length ∧ l.length ≤ 4096 := by simpa [okF] using h
  have hn := nm_fr h m
  have hl : (fr l ++ m).length = 4 + l.length + m.length := by rw [List.length_append, fr_length]
  have hd : (fr l ++ m).drop (4 + nm (fr l ++ m)) = m := by rw [hn, List.drop_left' (fr_length l)]
  have ht : ((fr l ++ m).drop 4).take (nm (fr l ++ m)) = l := by
    rw [hn, fr, List.append_assoc, List.drop_left' (beN_length _ _ _), List.take_left]
  by_cases h3 : (sp m).2.2 = 0
  · rw [if_neg (by simpa using h3), sp_more (by omega) (by omega) (by omega) (by rw [hd]; exact h3), hd, ht]
  · rw [if_pos h3, sp_bad (by omega) (by omega) (by omega) (by rw [hd]; exact h3)]
/-- bodies as a stream -/
def frs : List (List UInt8) → List UInt8
  | [] => []
  | x :: l => fr x ++ frs l
theorem sp_frs {l : List (List UInt8)} (h : ∀ x ∈ l, okF x = true) (m : List UInt8) : sp (frs l ++ m) = if (sp m).2.2 ≠ 0 then ([], [], 11) else (l ++ (sp m).1, (sp m).2.1, 0) := by
  induction l with
  | nil =>
    show sp m = _
    by_cases h3 : (sp m).2.2 = 0
    · rw [if_neg (by simpa using h3)]
      show sp m = ((sp m).1, (sp m).2.1, 0)
      rw [← h3]
    · rw [if_pos h3]; exact sp_err h3
  | cons x l ih =>
    have i := ih fun y hy => h y (by simp [hy])
    by_cases h3 : (sp m).2.2 = 0
    · rw [if_neg (by simpa using h3)] at i
      rw [frs, List.append_assoc, sp_fr (h x (by simp)), i, if_neg (by simp), if_neg (by simpa using h3)]
      rfl
    · rw [if_pos h3] at i
      rw [frs, List.append_assoc, sp_fr (h x (by simp)), i, if_pos (by simp), if_pos h3]
/-- frames and the rest are all bytes that there were -/
theorem sp_rest {l : List UInt8} (h : (sp l).2.2 = 0) : (∀ x ∈ (sp l).1, okF x = true) ∧ frs (sp l).1 ++ (sp l).2.1 = l ∧ ((sp l).2.1.length < 4 ∨ 4 ≤ (sp l).2.1.length ∧ (1 ≤ nm (sp l).2.1 ∧ nm (sp l).2.1 ≤ 4096) ∧ (sp l).2.1.length < 4 + nm (sp l).2.1) := by
  induction hn : l.length using Nat.strongRecOn generalizing l with
  | ind n ih =>
    subst hn
    rcases sp_ways l with a | ⟨a, b⟩ | ⟨a, b, c⟩ | ⟨a, b, c⟩
    · rw [sp_few a]; exact ⟨by simp, rfl, .inl a⟩
    · rw [sp_wrong a b] at h; simp at h
    · rw [sp_short a b c]; exact ⟨by simp, rfl, .inr ⟨a, b, c⟩⟩
    · by_cases h3 : (sp (l.drop (4 + nm l))).2.2 = 0
      · obtain ⟨i1, i2, i3⟩ := ih (l.drop (4 + nm l)).length (by rw [List.length_drop]; omega) h3 rfl
        rw [sp_more a b c h3]
        have hlen : ((l.drop 4).take (nm l)).length = nm l := by rw [List.length_take, List.length_drop]; omega
        refine ⟨?_, ?_, i3⟩
        · intro x hx
          rcases List.mem_cons.1 hx with rfl | hx
          · simp only [okF, hlen, decide_eq_true_eq]; exact b
          · exact i1 x hx
        · show fr ((l.drop 4).take (nm l)) ++ frs _ ++ _ = l
          rw [List.append_assoc, i2]
          unfold fr
          rw [hlen, List.append_assoc]
          have e1 : beN (nm l) 4 4 = l.take 4 := by
            apply getN_inj
            · rw [beN_length, List.length_take]; omega
            · rw [getN_be]; show nm l % 256 ^ 4 = nm l; omega
          have e2 : l.drop (4 + nm l) = (l.drop 4).drop (nm l) := by rw [List.drop_drop]
          rw [e1, e2, List.take_append_drop, List.take_append_drop]
      · rw [sp_bad a b c h3] at h; simp at h
end Go.Proofs.Ytilnlmopdljeeaa.Frm
