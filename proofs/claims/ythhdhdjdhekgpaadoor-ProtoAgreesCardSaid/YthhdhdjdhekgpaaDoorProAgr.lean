/- Joined: ProAgr. -/
import Derived.Test.YthhdhdjdhekgpaaDoorJOct
/- The plain mathematics of layer 6: spans, and what two sides agree on. Nothing of the program. -/
namespace Go.Proofs.YthhdhdjdhekgpaaDoor.Pro

structure Sp where
  kind : Int
  lo : Int
  hi : Int
deriving DecidableEq
def okS (p : Int) (s : Sp) : Bool := decide (p < s.kind ∧ s.kind ≤ 255 ∧ 0 ≤ s.lo ∧ s.lo ≤ s.hi ∧ s.hi ≤ 255)
/-- kinds rise, from above p on -/
def rt : Int → List Sp → Bool
  | _, [] => true
  | p, s :: l => okS p s && rt s.kind l
def right (l : List Sp) : Bool := rt (-1) l
theorem rt_mono {p q : Int} {l : List Sp} (h : rt p l = true) (hq : q ≤ p) : rt q l = true := by
  cases l with
  | nil => rfl
  | cons s l =>
    unfold rt okS at h ⊢
    rw [Bool.and_eq_true, decide_eq_true_eq] at h ⊢
    exact ⟨by omega, h.2⟩
theorem rt_cons {p : Int} {s : Sp} {l : List Sp} : rt p (s :: l) = true ↔ (p < s.kind ∧ s.kind ≤ 255 ∧ 0 ≤ s.lo ∧ s.lo ≤ s.hi ∧ s.hi ≤ 255) ∧ rt s.kind l = true := by
  unfold rt okS
  rw [Bool.and_eq_true, decide_eq_true_eq]
  cases l <;> rfl
theorem rt_mem {p : Int} {l : List Sp} (h : rt p l = true) : ∀ s ∈ l, p < s.kind ∧ s.kind ≤ 255 ∧ 0 ≤ s.lo ∧ s.lo ≤ s.hi ∧ s.hi ≤ 255 := by
  induction l generalizing p with
  | nil => simp
  | cons x l ih =>
    obtain ⟨h1, h2⟩ := rt_cons.1 h
    intro s hs
    rcases List.mem_cons.1 hs with rfl | hs
    · exact h1
    · have := ih h2 s hs
      exact ⟨by omega, this.2⟩
def meet (x y : Sp) : Sp := ⟨x.kind, max x.lo y.lo, min x.hi y.hi⟩
/-- those of a kind that stands in both, met -/
def pairs (m t : List Sp) : List Sp := m.flatMap fun x => (t.filter fun y => decide (x.kind = y.kind)).map (meet x)
def wrongS (s : Sp) : Bool := decide (s.hi < s.lo)
/-- what Agree tells -/
def agr (m t : List Sp) : List Sp × Int :=
  if (right m && right t) = false then ([], 1) else if (pairs m t).any wrongS then ([], 61) else (pairs m t, 0)
theorem meet_comm {x y : Sp} (h : x.kind = y.kind) : meet x y = meet y x := by
  unfold meet
  rw [h]
  congr 1
  · omega
  · omega
theorem filt_none {p : Int} {t : List Sp} {k : Int} (h : rt p t = true) (hk : k ≤ p) : t.filter (fun y => decide (k = y.kind)) = [] := by
  rw [List.filter_eq_nil_iff]
  intro y hy he
  have := (rt_mem h y hy).1
  have : k = y.kind := of_decide_eq_true he
  omega
theorem filt_one {p : Int} {t : List Sp} {x : Sp} (h : rt p t = true) (hx : x ∈ t) : t.filter (fun y => decide (x.kind = y.kind)) = [x] := by
  induction t generalizing p with
  | nil => cases hx
  | cons y t ih =>
    obtain ⟨h1, h2⟩ := rt_cons.1 h
    rcases List.mem_cons.1 hx with rfl | hx
    · rw [List.filter_cons_of_pos (by simp), filt_none h2 (Int.le_refl _)]
    · have := (rt_mem h2 x hx).1
      rw [List.filter_cons_of_neg (by simp; omega)]
      exact ih h2 hx
theorem pairs_nil (m : List Sp) : pairs m [] = [] := by
  unfold pairs
  induction m with
  | nil => rfl
  | cons x m ih => rw [List.flatMap_cons, ih]; rfl
theorem pairs_cons (x : Sp) (m t : List Sp) : pairs (x :: m) t = (t.filter fun y => decide (x.kind = y.kind)).map (meet x) ++ pairs m t := by
  unfold pairs; rw [List.flatMap_cons]
/-- a kind that stands in none of the first ones may be left out of the second ones -/
theorem pairs_skip {m t : List Sp} {y : Sp} (h : ∀ x ∈ m, x.kind ≠ y.kind) : pairs m (y :: t) = pairs m t := by
  induction m with
  | nil => rfl
  | cons x m ih =>
    rw [pairs_cons, pairs_cons, ih fun z hz => h z (by simp [hz]), List.filter_cons_of_neg (by simpa using h x (by simp))]
theorem pairs_comm {p q : Int} {m t : List Sp} (hm : rt p m = true) (ht : rt q t = true) : pairs m t = pairs t m := by
  induction hn : m.length + t.length using Nat.strongRecOn generalizing m t p q with
  | ind n ih =>
    subst hn
    cases m with
    | nil => rw [pairs_nil]; rfl
    | cons x m =>
      cases t with
      | nil => rw [pairs_nil]; rfl
      | cons y t =>
        obtain ⟨a1, a2⟩ := rt_cons.1 hm
        obtain ⟨b1, b2⟩ := rt_cons.1 ht
        by_cases h1 : x.kind < y.kind
        · have e1 : pairs (x :: m) (y :: t) = pairs m (y :: t) := by
            rw [pairs_cons, filt_none (p := x.kind) (rt_cons.2 ⟨⟨h1, b1.2⟩, b2⟩) (Int.le_refl _)]; rfl
          have e2 : pairs (y :: t) (x :: m) = pairs (y :: t) m := by
            refine pairs_skip fun z hz => ?_
            rcases List.mem_cons.1 hz with rfl | hz
            · omega
            · have := (rt_mem b2 z hz).1; omega
          rw [e1, e2]
          exact ih _ (by simp) a2 ht rfl
        · by_cases h2 : y.kind < x.kind
          · have e1 : pairs (y :: t) (x :: m) = pairs t (x :: m) := by
              rw [pairs_cons, filt_none (p := y.kind) (rt_cons.2 ⟨⟨h2, a1.2⟩, a2⟩) (Int.le_refl _)]; rfl
            have e2 : pairs (x :: m) (y :: t) = pairs (x :: m) t := by
              refine pairs_skip fun z hz => ?_
              rcases List.mem_cons.1 hz with rfl | hz
              · omega
              · have := (rt_mem a2 z hz).1; omega
            rw [e1, e2]
            exact ih _ (by simp) hm b2 rfl
          · have he : x.kind = y.kind := by omega
            have e1 : pairs (x :: m) (y :: t) = meet x y :: pairs m t := by
              rw [pairs_cons, List.filter_cons_of_pos (by simpa using he), he, filt_none b2 (Int.le_refl _), pairs_skip fun z hz => by have := (rt_mem a2 z hz).1; omega]
              rfl
            have e2 : pairs (y :: t) (x :: m) = meet y x :: pairs t m := by
              rw [pairs_cons, List.filter_cons_of_pos (by simpa using he.symm), ← he, filt_none a2 (Int.le_refl _), pairs_skip fun z hz => by have := (rt_mem b2 z hz).1; omega]
              rfl
            rw [e1, e2, meet_comm he, ih _ (by simp; omega) a2 b2 rfl]
theorem agr_comm (m t : List Sp) : agr m t = agr t m := by
  unfold agr
  rw [Bool.and_comm]
  by_cases h : (right t && right m) = false
  · rw [if_pos h, if_pos h]
  · rw [if_neg h, if_neg h]
    have h2 : (right t && right m) = true := by simpa using h
    rw [Bool.and_eq_true] at h2
    rw [pairs_comm h2.2 h2.1]
/-- spans that each lie in one of the others, are met there as they are -/
theorem pairs_in {p : Int} {a m : List Sp} (hm : rt p m = true) (h : ∀ z ∈ a, ∃ x ∈ m, x.kind = z.kind ∧ x.lo ≤ z.lo ∧ z.hi ≤ x.hi) : pairs a m = a := by
  induction a with
  | nil => rfl
  | cons z a ih =>
    obtain ⟨x, hx, h1, h2, h3⟩ := h z (by simp)
    have hf := filt_one hm hx
    rw [h1] at hf
    rw [pairs_cons, hf, ih fun y hy => h y (by simp [hy])]
    show meet z x :: a = z :: a
    congr 1
    unfold meet
    cases z with | mk k l i =>
    simp only at h2 h3 ⊢
    congr 1 <;> omega
theorem pairs_mem {m t : List Sp} {z : Sp} (h : z ∈ pairs m t) : ∃ x ∈ m, ∃ y ∈ t, x.kind = y.kind ∧ z = meet x y := by
  unfold pairs at h
  obtain ⟨x, hx, h2⟩ := List.mem_flatMap.1 h
  obtain ⟨y, hy, rfl⟩ := List.mem_map.1 h2
  obtain ⟨h3, h4⟩ := List.mem_filter.1 hy
  exact ⟨x, hx, y, h3, of_decide_eq_true h4, rfl⟩
theorem pairs_rt {p q : Int} {m t : List Sp} (hm : rt p m = true) (ht : rt q t = true) (hw : (pairs m t).any wrongS = false) : rt p (pairs m t) = true := by
  induction m generalizing p with
  | nil => rfl
  | cons x m ih =>
    obtain ⟨a1, a2⟩ := rt_cons.1 hm
    rw [pairs_cons] at hw ⊢
    rw [List.any_append, Bool.or_eq_false_iff] at hw
    have i := ih a2 hw.2
    by_cases hx : ∃ y ∈ t, x.kind = y.kind
    · obtain ⟨y, hy, he⟩ := hx
      have hf := filt_one ht hy
      rw [← he] at hf
      rw [hf] at hw ⊢
      have h1 : wrongS (meet x y) = false := by simpa using hw.1
      have h2 := of_decide_eq_false h1
      have b1 := rt_mem ht y hy
      show rt p (meet x y :: pairs m t) = true
      refine rt_cons.2 ⟨?_, i⟩
      unfold meet at h2 ⊢
      simp only at h2 ⊢
      omega
    · have hf : t.filter (fun y => decide (x.kind = y.kind)) = [] := by
        rw [List.filter_eq_nil_iff]
        intro y hy h
        exact hx ⟨y, hy, of_decide_eq_true h⟩
      rw [hf]
      exact rt_mono i (by omega)
theorem agr_self {m : List Sp} (h : right m = true) : agr m m = (m, 0) := by
  have hp : pairs m m = m := pairs_in h fun z hz => ⟨z, hz, rfl, Int.le_refl _, Int.le_refl _⟩
  have hw : m.any wrongS = false := by
    rw [List.any_eq_false]
    intro z hz h2
    have := rt_mem h z hz
    have := of_decide_eq_true h2
    omega
  unfold agr
  rw [h, hp, hw]
  rfl
/-- what is agreed -/
theorem agr_good {m t a : List Sp} (h : agr m t = (a, 0)) : right m = true ∧ right t = true ∧ right a = true ∧ (∀ z ∈ a, ∃ x ∈ m, x.kind = z.kind ∧ x.lo ≤ z.lo ∧ z.hi ≤ x.hi) ∧ (∀ z ∈ a, ∃ x ∈ t, x.kind = z.kind ∧ x.lo ≤ z.lo ∧ z.hi ≤ x.hi) := by
  unfold agr at h
  by_cases h1 : (right m && right t) = false
  · rw [if_pos h1] at h; injection h with _ h; cases h
  · rw [if_neg h1] at h
    have h2 : (right m && right t) = true := by simpa using h1
    rw [Bool.and_eq_true] at h2
    by_cases h3 : (pairs m t).any wrongS = true
    · rw [if_pos h3] at h; injection h with _ h; cases h
    · rw [if_neg h3] at h
      obtain rfl : pairs m t = a := congrArg Prod.fst h
      refine ⟨h2.1, h2.2, pairs_rt h2.1 h2.2 (by simpa using h3), fun z hz => ?_, fun z hz => ?_⟩
      · obtain ⟨x, hx, y, hy, he, rfl⟩ := pairs_mem hz
        exact ⟨x, hx, rfl, by unfold meet; simp only; omega, by unfold meet; simp only; omega⟩
      · obtain ⟨x, hx, y, hy, he, rfl⟩ := pairs_mem hz
        exact ⟨y, hy, he.symm, by unfold meet; simp only; omega, by unfold meet; simp only; omega⟩
theorem agr_again {m t a : List Sp} (h : agr m t = (a, 0)) : agr a m = (a, 0) := by
  obtain ⟨h1, h2, h3, h4, h5⟩ := agr_good h
  have hp := pairs_in h1 h4
  have hw : a.any wrongS = false := by
    rw [List.any_eq_false]
    intro z hz h2
    have := rt_mem h3 z hz
    have := of_decide_eq_true h2
    omega
  unfold agr
  rw [h1, h3, hp, hw]
  rfl
theorem agr_bad {m t a : List Sp} {e : Int} (h : agr m t = (a, e)) (he : e ≠ 0) : a = [] ∧ (e = 1 ∨ e = 61) := by
  unfold agr at h
  by_cases h1 : (right m && right t) = false
  · rw [if_pos h1] at h; injection h with h2 h; exact ⟨h2.symm, .inl h.symm⟩
  · rw [if_neg h1] at h
    by_cases h3 : (pairs m t).any wrongS = true
    · rw [if_pos h3] at h; injection h with h2 h; exact ⟨h2.symm, .inr h.symm⟩
    · rw [if_neg h3] at h; exact absurd (congrArg Prod.snd h).symm he
theorem pairs_len {p q : Int} {m t : List Sp} (hm : rt p m = true) (ht : rt q t = true) : (pairs m t).length ≤ m.length := by
  induction m generalizing p with
  | nil => exact Nat.le_refl _
  | cons x m ih =>
    obtain ⟨a1, a2⟩ := rt_cons.1 hm
    have i := ih a2
    rw [pairs_cons, List.length_append, List.length_map, List.length_cons]
    by_cases hx : ∃ y ∈ t, x.kind = y.kind
    · obtain ⟨y, hy, he⟩ := hx
      have hf := filt_one ht hy
      rw [← he] at hf
      rw [hf]
      simp only [List.length_singleton]
      omega
    · have hf : t.filter (fun y => decide (x.kind = y.kind)) = [] := by
        rw [List.filter_eq_nil_iff]
        intro y hy h
        exact hx ⟨y, hy, of_decide_eq_true h⟩
      rw [hf]
      simp only [List.length_nil]
      omega
end Go.Proofs.YthhdhdjdhekgpaaDoor.Pro
