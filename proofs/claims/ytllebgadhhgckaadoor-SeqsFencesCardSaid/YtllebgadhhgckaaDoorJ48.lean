/- Joined: SqsM4. -/
import Derived.Test.YtllebgadhhgckaaDoorJ16
/- Behind Put its producer is there with the batch's generation; the elder generation is kept out. Nothing of the program. -/
namespace Go.Proofs.YtllebgadhhgckaaDoor.Sqs
open Oct Rec Crc Bat Seg

theorem put_ways {l m : List Pd} {b : Bt} (h : putP l b = (m, 0)) (hp : b.pid ≠ -1) :
    (ckP l = 0 ∧ chB b = 0) ∧ ((∃ x, lookP l b = (x, true, 0) ∧ m = l) ∨ (∃ x, lookP l b = (x, false, 0) ∧ fullP l b = false ∧ m = withP l (writtenP l b))) := by
  unfold putP at h
  rcases hL : lookP l b with ⟨x, t, e⟩
  rw [hL] at h
  simp only at h
  by_cases he : e = 0
  case neg =>
    rw [if_pos he] at h
    exact absurd (congrArg (·.2) h) he
  subst he
  rw [if_neg (fun h9 => h9 rfl)] at h
  refine ⟨look_ok hL, ?_⟩
  by_cases hf : fullP l b = true
  · rw [if_pos hf] at h
    exact absurd (congrArg (·.2) h) (by simp)
  rw [if_neg hf] at h
  by_cases ht : t = true
  · rw [if_pos (.inl ht)] at h
    subst ht
    exact .inl ⟨x, rfl, (congrArg (·.1) h).symm⟩
  · rw [if_neg (fun h9 => h9.elim ht hp)] at h
    have htf : t = false := by cases t with | true => exact absurd rfl ht | false => rfl
    subst htf
    exact .inr ⟨x, rfl, by simpa using hf, (congrArg (·.1) h).symm⟩
theorem there_find {l : List Pd} {b : Bt} {x : Int} (h : lookP l b = (x, true, 0)) : b.pid ≠ -1 ∧ ∃ p, findP l b.pid = some p ∧ p.gen = b.gen ∧ b.ctl = 0 ∧ ∃ d ∈ p.did, d.sq = b.seq ∧ d.la = lastN b ∧ d.ba = x := by
  obtain ⟨hC, hB⟩ := look_ok h
  unfold lookP at h
  rw [if_neg (fun h9 => h9 hC), if_neg (fun h9 => h9 hB)] at h
  by_cases hp : b.pid = -1
  · rw [if_pos hp] at h
    exact absurd (congrArg (·.2.1) h) (by simp)
  rw [if_neg hp] at h
  refine ⟨hp, ?_⟩
  cases hf : findP l b.pid with
  | none =>
    rw [hf] at h
    simp only at h
    split at h
    · exact absurd (congrArg (·.2.1) h) (by simp)
    · split at h <;> exact absurd (congrArg (·.2.1) h) (by simp)
  | some p =>
    rw [hf] at h
    simp only at h
    by_cases h1 : b.gen < p.gen
    · rw [if_pos h1] at h
      exact absurd (congrArg (·.2.1) h) (by simp)
    rw [if_neg h1] at h
    by_cases h2 : b.ctl = 0
    case neg =>
      rw [if_pos h2] at h
      exact absurd (congrArg (·.2.1) h) (by simp)
    rw [if_neg (fun h9 => h9 h2)] at h
    by_cases h3 : p.gen < b.gen ∨ p.did = []
    · rw [if_pos h3] at h
      split at h <;> exact absurd (congrArg (·.2.1) h) (by simp)
    rw [if_neg h3] at h
    unfold seqP at h
    cases hfd : p.did.find? fun x => decide (x.sq = b.seq ∧ x.la = lastN b) with
    | some y =>
      rw [hfd] at h
      have hy0 := List.find?_some hfd
      simp only [decide_eq_true_eq] at hy0
      have hy := hy0
      exact ⟨p, rfl, by omega, h2, y, List.mem_of_find?_eq_some hfd, hy.1, hy.2, congrArg (·.1) h⟩
    | none =>
      rw [hfd] at h
      simp only at h
      split at h
      · exact absurd (congrArg (·.2.1) h) (by simp)
      · split at h <;> exact absurd (congrArg (·.2.1) h) (by simp)
theorem put_find {l m : List Pd} {b : Bt} (h : putP l b = (m, 0)) (hp : b.pid ≠ -1) : ∃ p, findP m b.pid = some p ∧ p.gen = b.gen := by
  obtain ⟨⟨hC, _⟩, ⟨x, hL, rfl⟩ | ⟨x, _, _, rfl⟩⟩ := put_ways h hp
  · obtain ⟨_, p, h1, h2, _⟩ := there_find hL
    exact ⟨p, h1, h2⟩
  · exact ⟨writtenP l b, with_find (p := writtenP l b) (ckP_iff.1 hC).2, rfl⟩
theorem fences {l m : List Pd} {b old : Bt} (h : putP l b = (m, 0)) (hp : b.pid ≠ -1) (ho : chB old = 0) (he : old.pid = b.pid) (hg : old.gen < b.gen) : lookP m old = (0, false, 110) ∧ putP m old = ([], 110) := by
  obtain ⟨p, h1, h2⟩ := put_find h hp
  have hL : lookP m old = (0, false, 110) := by
    unfold lookP
    rw [if_neg (fun h9 => h9 (put_ok h)), if_neg (fun h9 => h9 ho), if_neg (by rw [he]; exact hp), he, h1]
    simp only
    rw [if_pos (by omega)]
  refine ⟨hL, ?_⟩
  unfold putP
  rw [hL, if_pos (by simp)]
theorem others {l m : List Pd} {b : Bt} (h : putP l b = (m, 0)) : m.filter (fun x => decide (x.pid ≠ b.pid)) = l.filter (fun x => decide (x.pid ≠ b.pid)) := by
  by_cases hp : b.pid = -1
  · unfold putP at h
    split at h
    · rename_i h1
      exact absurd (congrArg (·.2) h) h1
    · split at h
      · exact absurd (congrArg (·.2) h) (by simp)
      · rw [if_pos (.inr hp)] at h
        rw [show m = l from (congrArg (·.1) h).symm]
  · obtain ⟨_, ⟨x, _, rfl⟩ | ⟨x, _, _, rfl⟩⟩ := put_ways h hp
    · rfl
    · exact with_others l (writtenP l b)
end Go.Proofs.YtllebgadhhgckaaDoor.Sqs
