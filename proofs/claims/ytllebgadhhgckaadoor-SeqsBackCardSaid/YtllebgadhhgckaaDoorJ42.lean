/- Joined: SqsM7. -/
import Derived.Test.YtllebgadhhgckaaDoorJ16
/- One step of Of, in the landed words. Nothing of the program. -/
namespace Go.Proofs.YtllebgadhhgckaaDoor.Sqs
open Oct Rec Crc Bat Seg

def ofS (l : List Pd) (b : Bt) : List Pd := if (putP l b).2 = 0 then (putP l b).1 else if (putP l b).2 = 111 ∧ aboveP l b = true ∧ fullP l b = false then withP l ⟨b.pid, b.gen, [didB b]⟩ else l
theorem ofP_cons (l : List Pd) (b : Bt) (bs : List Bt) : ofP l (b :: bs) = ofP (ofS l b) bs := rfl
theorem ofP_at {bs : List Bt} {k : Nat} {b : Bt} (l : List Pd) (h : bs[k]? = some b) : ofP l (bs.take (k + 1)) = ofS (ofP l (bs.take k)) b := by
  induction bs generalizing l k with
  | nil => simp at h
  | cons x bs ih =>
    cases k with
    | zero => obtain rfl : x = b := by simpa using h
              rfl
    | succ k =>
      rw [List.take_succ_cons, List.take_succ_cons, ofP_cons, ofP_cons]
      exact ih _ (by simpa using h)
theorem chB_111 {b : Bt} (h : chB b = 111) : False := by
  unfold chB at h
  split at h
  · split at h <;> cases h
  · cases h
theorem ofS_bad {l : List Pd} {b : Bt} (hC : ckP l = 0) (hB : chB b ≠ 0) : ofS l b = l := by
  have hL : lookP l b = (0, false, chB b) := by unfold lookP; rw [if_neg (fun h9 => h9 hC), if_pos hB]
  have hP : putP l b = ([], chB b) := by unfold putP; rw [hL, if_pos hB]
  unfold ofS
  rw [hP, if_neg hB, if_neg (fun h9 => chB_111 h9.1)]
theorem ofS_nobody {l : List Pd} {b : Bt} (hC : ckP l = 0) (hB : chB b = 0) (hp : b.pid < 0) : ofS l b = l := by
  have hg := met_none (b := b) (findP_low (ckP_iff.1 hC).2 (u := b.pid) (by omega))
  have hM : lookM (metP l b) b = (0, false, 0) := by rw [hg]; exact lookM_ctl (Int.lt_irrefl _) (.inl hp)
  have hP := put_is hC hB hM
  rw [if_neg (fun h9 => h9 rfl), if_pos (show false = true ∨ b.pid < 0 from .inr hp)] at hP
  unfold ofS
  rw [hP]
  rfl
theorem seq_tells {p : Pd} {b : Bt} {x : Int} {t : Bool} (h : lookM p b = (x, t, 111)) : ¬ b.gen < p.gen ∧ ¬ b.pid < 0 ∧ b.ctl = 0 ∧ b.seq ≠ nextQ p.did ∧ x = 0 ∧ t = false := by
  unfold lookM at h
  by_cases h1 : b.gen < p.gen
  · rw [if_pos h1] at h; exact absurd (congrArg (·.2.2) h) (by simp)
  rw [if_neg h1] at h
  by_cases h2 : b.pid < 0 ∨ b.ctl ≠ 0
  · rw [if_pos h2] at h; exact absurd (congrArg (·.2.2) h) (by simp)
  rw [if_neg h2] at h
  have h3 : b.ctl = 0 := by by_cases h9 : b.ctl = 0; exact h9; exact absurd (.inr h9) h2
  cases hd : hasD p.did b with
  | some y => rw [hd] at h; exact absurd (congrArg (·.2.2) h) (by simp)
  | none =>
    rw [hd] at h
    simp only at h
    by_cases h4 : b.seq ≠ nextQ p.did
    · rw [if_pos h4] at h
      exact ⟨h1, fun h9 => h2 (.inl h9), h3, h4, (congrArg (·.1) h).symm, (congrArg (·.2.1) h).symm⟩
    · rw [if_neg h4] at h; exact absurd (congrArg (·.2.2) h) (by simp)
theorem above_is {l : List Pd} {b : Bt} (_hC : ckP l = 0) (hB : chB b = 0) (_hg : ¬ b.gen < (metP l b).gen) (hs : b.seq ≠ nextQ (metP l b).did) : aboveP l b = decide (nextQ (metP l b).did < b.seq) := by
  have h0 := (chB_form hB).1.seq0
  unfold aboveP freshP
  cases hf : findP l b.pid with
  | none =>
    rw [met_none hf] at hs ⊢
    show (true || _) = decide (0 < b.seq)
    have : b.seq ≠ 0 := hs
    rw [Bool.true_or, decide_eq_true (by omega)]
  | some p =>
    by_cases hlt : p.gen < b.gen
    · rw [met_old hf hlt] at hs ⊢
      have : b.seq ≠ 0 := hs
      simp only
      rw [decide_eq_true hlt]
      show ((true || _) || _) = decide (0 < b.seq)
      rw [Bool.true_or, Bool.true_or, decide_eq_true (by omega)]
    · rw [met_some hf (by omega)] at hs ⊢
      simp only
      rw [decide_eq_false hlt, Bool.false_or]
      unfold nextQ at *
      cases hd : p.did.getLast? with
      | none =>
        rw [hd] at hs
        have he : p.did = [] := List.getLast?_eq_none_iff.1 hd
        have : b.seq ≠ 0 := hs
        rw [he]
        show (true || _) = decide (0 < b.seq)
        rw [Bool.true_or, decide_eq_true (by omega)]
      | some y =>
        rw [hd] at hs
        simp only at hs ⊢
        have he : p.did.isEmpty = false := by
          cases hp : p.did with
          | nil => rw [hp] at hd; cases hd
          | cons a m => rfl
        rw [he, Bool.false_or]
        exact decide_eq_decide.2 (by omega)
theorem ofS_stay {l : List Pd} {b : Bt} (hC : ckP l = 0) (hB : chB b = 0) {x : Int} {t : Bool} {e : Int} (hL : lookM (metP l b) b = (x, t, e)) (h : t = true ∨ (e ≠ 0 ∧ ¬ (e = 111 ∧ nextQ (metP l b).did < b.seq))) : ofS l b = l := by
  have hP := put_is hC hB hL
  unfold ofS
  by_cases he : e = 0
  · rcases h with ht | h
    · rw [if_neg (fun h9 => h9 he), if_pos (.inl ht)] at hP
      rw [hP]; rfl
    · exact absurd he h.1
  · rw [if_pos he] at hP
    rw [hP, if_neg he]
    rw [if_neg]
    rintro ⟨h1, h2, _⟩
    have h1' : e = 111 := h1
    subst h1'
    obtain ⟨a1, _, _, a4, _, a6⟩ := seq_tells hL
    rw [above_is hC hB a1 a4, decide_eq_true_eq] at h2
    rcases h with ht | h
    · rw [a6] at ht; cases ht
    · exact h.2 ⟨rfl, h2⟩
theorem ofS_put {l : List Pd} {b : Bt} (hC : ckP l = 0) (hB : chB b = 0) {x : Int} (hL : lookM (metP l b) b = (x, false, 0)) (hp : ¬ b.pid < 0) (hl : l.length < 1024) : ofS l b = withP l (bhP (metP l b) b) := by
  have hP := put_is hC hB hL
  rw [if_neg (fun h9 => h9 rfl), if_neg (show ¬ (false = true ∨ b.pid < 0) from fun h9 => h9.elim (fun h => Bool.noConfusion h) hp), if_neg (fun h9 => by omega)] at hP
  unfold ofS
  rw [hP]
  rfl
theorem ofS_skip {l : List Pd} {b : Bt} (hC : ckP l = 0) (hB : chB b = 0) {x : Int} {t : Bool} (hL : lookM (metP l b) b = (x, t, 111)) (hs : nextQ (metP l b).did < b.seq) (hl : l.length < 1024) : ofS l b = withP l (bhP ⟨(metP l b).pid, (metP l b).gen, []⟩ b) := by
  obtain ⟨a1, a2, a3, a4, _, _⟩ := seq_tells hL
  have hP := put_is hC hB hL
  rw [if_pos (by decide : (111 : Int) ≠ 0)] at hP
  have hf : fullP l b = false := decide_eq_false (fun h9 => by omega)
  have hg := met_gen l b
  unfold ofS
  rw [hP, if_neg (by decide), if_pos ⟨rfl, by rw [above_is hC hB a1 a4]; exact decide_eq_true hs, hf⟩]
  unfold bhP
  rw [if_pos a3, met_pid, show (metP l b).gen = b.gen by omega]
  rfl
theorem with_ok {l : List Pd} {b : Bt} {p : Pd} (hC : ckP l = 0) (hB : chB b = 0) (hp0 : ¬ b.pid < 0) (hp : p.pid = b.pid) (hg : p.gen = b.gen) (hd : didOk p.did = true) (hl : l.length < 1024) : ckP (withP l p) = 0 := by
  have hfm := (chB_form hB).1
  have h2 := hfm.pid1; have h3 := hfm.gen0; have h4 := hfm.gen1
  have hc := ckP_iff.1 hC
  rw [ckP_iff]
  refine ⟨by have := with_len l p; omega, with_ch hc.2 (chP_cons.2 ⟨⟨⟨by omega, by omega, by omega⟩, hd⟩, rfl⟩)⟩
theorem ofS_ok {l : List Pd} {b : Bt} (hC : ckP l = 0) (hl : l.length < 1024) : ckP (ofS l b) = 0 := by
  unfold ofS
  split
  · rename_i h
    exact put_ok (b := b) (l := l) (m := (putP l b).1) (by rw [← h])
  · split
    · rename_i h1 h2
      have h3 := h2.1
      unfold putP at h3
      have hL : (lookP l b).2.2 = 111 := by
        split at h3
        · exact h3
        · split at h3
          · cases h3
          · split at h3 <;> cases h3
      by_cases hB : chB b = 0
      · rw [look_met hC hB] at hL
        rcases hM : lookM (metP l b) b with ⟨x, t, e⟩
        rw [hM] at hL
        have hL' : e = 111 := hL
        subst hL'
        obtain ⟨_, a2, _⟩ := seq_tells hM
        refine with_ok hC hB a2 rfl rfl ?_ hl
        have hd := ddOk_b hB
        show (((ddOk (didB b) && true) && true) && decide (1 ≤ 5)) = true
        rw [hd]; rfl
      · have hL2 : lookP l b = (0, false, chB b) := by unfold lookP; rw [if_neg (fun h9 => h9 hC), if_pos hB]
        rw [hL2] at hL
        exact absurd hL (by
          show ¬ chB b = 111
          intro h9
          exact chB_111 h9)
    · exact hC
theorem putP_len (l : List Pd) (b : Bt) : (putP l b).1.length ≤ l.length + 1 := by
  unfold putP
  by_cases h1 : (lookP l b).2.2 ≠ 0
  · rw [if_pos h1]; exact Nat.zero_le _
  · rw [if_neg h1]
    by_cases h2 : fullP l b = true
    · rw [if_pos h2]; exact Nat.zero_le _
    · rw [if_neg h2]
      by_cases h3 : (lookP l b).2.1 = true ∨ b.pid = -1
      · rw [if_pos h3]; exact Nat.le_succ _
      · rw [if_neg h3]; exact with_len _ _
theorem ofS_len (l : List Pd) (b : Bt) : (ofS l b).length ≤ l.length + 1 := by
  unfold ofS
  by_cases h1 : (putP l b).2 = 0
  · rw [if_pos h1]; exact putP_len l b
  · rw [if_neg h1]
    split
    · exact with_len _ _
    · exact Nat.le_succ _
theorem ofP_ok (bs : List Bt) (h : bs.length ≤ 1000) : ∀ k, k ≤ bs.length → ckP (ofP [] (bs.take k)) = 0 ∧ (ofP [] (bs.take k)).length ≤ k := by
  intro k
  induction k with
  | zero => intro _; exact ⟨rfl, Nat.le_refl _⟩
  | succ k ih =>
    intro hk
    obtain ⟨h1, h2⟩ := ih (by omega)
    rw [ofP_at [] (List.getElem?_eq_getElem (show k < bs.length by omega))]
    have h3 := ofS_len (ofP [] (bs.take k)) bs[k]
    exact ⟨ofS_ok h1 (by omega), by omega⟩
end Go.Proofs.YtllebgadhhgckaaDoor.Sqs
