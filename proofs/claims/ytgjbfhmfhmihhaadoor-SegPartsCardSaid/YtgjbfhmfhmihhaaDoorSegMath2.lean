/- Joined: SegMath2. -/
import Derived.Test.YtgjbfhmfhmihhaaDoorSegMath
/- More of the plain mathematics of layer 7, for the laws' walks. Nothing of the program. -/
namespace Go.Proofs.YtgjbfhmfhmihhaaDoor.Seg
open Go.Proofs.YtgjbfhmfhmihhaaDoor.Oct Go.Proofs.YtgjbfhmfhmihhaaDoor.Rec Go.Proofs.YtgjbfhmfhmihhaaDoor.Crc Go.Proofs.YtgjbfhmfhmihhaaDoor.Bat

theorem endR_app {lo : Int} {bs cs : List Bt} : endR lo (bs ++ cs) = endR (endR lo bs) cs := by
  induction bs generalizing lo with
  | nil => rfl
  | cons b bs ih => exact ih
theorem endR_lo {lo : Int} {l : List Bt} (h : ris lo l = true) : lo ≤ endR lo l := by
  induction l generalizing lo with
  | nil => exact Int.le_refl _
  | cons b l ih =>
    obtain ⟨⟨h1, h2⟩, h3⟩ := ris_cons.1 h
    have h4 := ih h3
    have h5 := chB_last h1
    show lo ≤ endR (b.last + 1) l
    omega
theorem endR_take {lo : Int} {l : List Bt} (h : ris lo l = true) (k : Nat) : endR lo (l.take k) ≤ endR lo l := by
  have h2 := h
  rw [← List.take_append_drop k l, ris_app] at h2
  have h3 := endR_lo h2.2
  rw [← endR_app, List.take_append_drop] at h3
  exact h3
theorem endR_fin {lo : Int} {l : List Bt} (h : l ≠ []) : ∃ y, l[l.length - 1]? = some y ∧ endR lo l = y.last + 1 := by
  obtain ⟨l', y, rfl⟩ : ∃ l' y, l = l' ++ [y] := ⟨l.dropLast, l.getLast h, (List.dropLast_concat_getLast h).symm⟩
  refine ⟨y, ?_, endR_snoc⟩
  rw [List.length_append, List.length_singleton, Nat.add_sub_cancel, List.getElem?_append_right (Nat.le_refl _), Nat.sub_self]
  rfl
theorem szB_ok {b : Bt} (h : chB b = 0) : szB b = ((byB b).length : Int) := by unfold szB; rw [if_pos h]
theorem byR_take_succ {L : List Bt} {k : Nat} {b : Bt} (h : L[k]? = some b) : (byR (L.take (k + 1))).length = (byR (L.take k)).length + (byB b).length := by rw [(byR_split h).2, List.length_append]
theorem byR_take_le (L : List Bt) {j k : Nat} (h : j ≤ k) : (byR (L.take j)).length ≤ (byR (L.take k)).length := by
  have e : L.take k = L.take j ++ (L.drop j).take (k - j) := by
    have h1 : k = j + (k - j) := by omega
    conv => lhs; rw [h1]
    exact List.take_add
  rw [e, byR_app, List.length_append]
  omega
theorem sc_chB (base : Int) (bs : List UInt8) : ∀ b ∈ (sc base bs).1, chB b = 0 := by
  have h := (sc_good base bs).1
  generalize (sc base bs).1 = L at h
  induction L generalizing base with
  | nil => simp
  | cons b L ih =>
    obtain ⟨⟨h1, h2⟩, h3⟩ := ris_cons.1 h
    intro x hx
    rcases List.mem_cons.1 hx with rfl | hx
    · exact h1
    · exact ih _ h3 x hx
theorem of_parts_bad {base limit e : Int} {l m : List Bt} {x : Sg} (h : ofS base l limit = (x, e)) (he : e ≠ 0) : ofS base (l ++ m) limit = (nilS, e) := by
  unfold ofS at h ⊢
  by_cases h1 : (newS base).2 ≠ 0 ∨ limit < 1 ∨ 4096 < limit
  · rw [if_pos h1] at h ⊢
    obtain rfl : (1 : Int) = e := congrArg Prod.snd h
    rfl
  · rw [if_neg h1] at h ⊢
    rw [allS_app, h, if_pos he]
theorem of_parts {base limit : Int} {l m : List Bt} {x : Sg} (h : ofS base l limit = (x, 0)) : ofS base (l ++ m) limit = allS limit x m := by
  unfold ofS at h ⊢
  by_cases h1 : (newS base).2 ≠ 0 ∨ limit < 1 ∨ 4096 < limit
  · rw [if_pos h1] at h
    exact absurd (congrArg Prod.snd h) (by simp)
  · rw [if_neg h1] at h ⊢
    rw [allS_app, h, if_neg (by simp)]
theorem of_good {base limit : Int} {l : List Bt} {x : Sg} (h : ofS base l limit = (x, 0)) : 1 ≤ limit ∧ limit ≤ 4096 ∧ newS base = (⟨base, []⟩, 0) ∧ allS limit ⟨base, []⟩ l = (x, 0) := by
  unfold ofS at h
  by_cases h1 : (newS base).2 ≠ 0 ∨ limit < 1 ∨ 4096 < limit
  · rw [if_pos h1] at h
    exact absurd (congrArg Prod.snd h) (by simp)
  · rw [if_neg h1] at h
    have h2 : newS base = (⟨base, []⟩, 0) := by
      unfold newS at h1 ⊢
      by_cases h3 : base < 0 ∨ 1099511627776 < base
      · rw [if_pos h3] at h1; exact absurd (.inl (by simp)) h1
      · rw [if_neg h3]
    rw [h2] at h
    exact ⟨by omega, by omega, h2, h⟩
theorem all_len {limit : Int} {s x : Sg} {l : List Bt} (h : allS limit s l = (x, 0)) (hs : s.bytes.length ≤ 4096) : x.bytes.length ≤ 4096 ∧ x.base = s.base := by
  induction l generalizing s with
  | nil => obtain rfl : s = x := congrArg Prod.fst h; exact ⟨hs, rfl⟩
  | cons b l ih =>
    rw [allS_cons] at h
    rcases ha : apS s b limit with ⟨y, e⟩
    rw [ha] at h
    by_cases h1 : e ≠ 0
    · rw [if_pos h1] at h; exact absurd (congrArg Prod.snd h) h1
    · rw [if_neg h1] at h
      obtain rfl : e = 0 := by omega
      obtain ⟨_, h2, _, _, h5, h6, _, _⟩ := apS_good ha
      obtain ⟨g1, g2⟩ := ih (s := y) h (by rw [h6]; simp only [List.length_append]; omega)
      exact ⟨g1, by rw [g2, h6]⟩
theorem ap_len {s x : Sg} {b : Bt} {limit e : Int} (h : apS s b limit = (x, e)) : x.bytes.length ≤ 4096 := by
  by_cases he : e = 0
  · subst he
    obtain ⟨_, h2, _, _, h5, h6, _, _⟩ := apS_good h
    rw [h6]
    simp only [List.length_append]
    omega
  · rw [apS_bad h he]
    simp [nilS]
theorem of_len {base limit e : Int} {l : List Bt} {x : Sg} (h : ofS base l limit = (x, e)) : x.bytes.length ≤ 4096 := by
  by_cases he : e = 0
  · subst he
    exact (all_len (of_good h).2.2.2 (by simp)).1
  · have h0 := of_parts_bad (m := []) h he
    rw [List.append_nil, h] at h0
    obtain rfl : x = nilS := congrArg Prod.fst h0
    simp [nilS]
theorem new_len {base e : Int} {x : Sg} (h : newS base = (x, e)) : x.bytes.length = 0 := by
  unfold newS at h
  split at h
  · obtain rfl : nilS = x := congrArg Prod.fst h
    rfl
  · obtain rfl : (⟨base, []⟩ : Sg) = x := congrArg Prod.fst h
    rfl
end Go.Proofs.YtgjbfhmfhmihhaaDoor.Seg
