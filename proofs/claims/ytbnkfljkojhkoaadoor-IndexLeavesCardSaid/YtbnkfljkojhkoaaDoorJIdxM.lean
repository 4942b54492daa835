/- Joined: IdxMath2, IdxMath3, IdxMath4. -/
import Derived.Test.YtbnkfljkojhkoaaDoorIdxMath
/- The plain mathematics of layer 8: where an index says to begin, and what is found from there on. Nothing of the program. -/
namespace Go.Proofs.YtbnkfljkojhkoaaDoor.Idx
open Go.Proofs.YtbnkfljkojhkoaaDoor.Oct Go.Proofs.YtbnkfljkojhkoaaDoor.Rec Go.Proofs.YtbnkfljkojhkoaaDoor.Crc Go.Proofs.YtbnkfljkojhkoaaDoor.Bat Go.Proofs.YtbnkfljkojhkoaaDoor.Seg

theorem ck_sub {s : Sg} {l : List En} (h : ckX s l = 0) : rightX s = true ∧ isIx true (allE s) l = true ∧ l.Sublist (allE s) := by
  unfold ckX at h
  by_cases h1 : rightX s = true ∧ isIx true (allE s) l = true
  case neg => rw [if_neg h1] at h; cases h
  refine ⟨h1.1, h1.2, ?_⟩
  have h2 := h1.2
  cases ha : allE s with
  | nil =>
    rw [ha] at h2
    cases l with
    | nil => exact List.Sublist.refl _
    | cons y l => cases h2
  | cons x a =>
    rw [ha] at h2
    obtain ⟨m, rfl, hm⟩ := isIx_first.1 h2
    exact hm.cons_cons _
theorem mem_take {L : List Bt} {k : Nat} {b : Bt} (h : b ∈ L.take k) : ∃ j, j < k ∧ L[j]? = some b := by
  obtain ⟨j, hj⟩ := List.mem_iff_getElem?.1 h
  have hlt := (List.getElem?_eq_some_iff.1 hj).1
  rw [List.length_take] at hlt
  rw [List.getElem?_take, if_pos (by omega)] at hj
  exact ⟨j, by omega, hj⟩
theorem floor_split {s : Sg} {l : List En} (off : Int) (h : ckX s l = 0) : ∃ L1 L2, batS s = L1 ++ L2 ∧ floorX off 0 l = ((byR L1).length : Int) ∧ ∀ b ∈ L1, b.last < off := by
  obtain ⟨h1, h2, h3⟩ := ck_sub h
  rcases floorX_mem off 0 l with h4 | ⟨x, hx, h4, h5⟩
  · exact ⟨[], batS s, rfl, by rw [h4, byR_nil]; rfl, by simp⟩
  · obtain ⟨k, b, hb, rfl⟩ := mem_ents (h3.subset hx)
    refine ⟨(batS s).take k, (batS s).drop k, (List.take_append_drop _ _).symm, by rw [h5]; simp only; rw [endP_is, Int.zero_add], fun c hc => ?_⟩
    obtain ⟨j, hj, hcj⟩ := mem_take hc
    have := ris_last (allE_right h1).1 hj hcj hb
    simp only at h4
    omega
theorem when_split {s : Sg} {l : List En} (st : Int) (h : ckX s l = 0) : ∃ L1 L2, batS s = L1 ++ L2 ∧ whenX st 0 l = ((byR L1).length : Int) ∧ ∀ b ∈ L1, ∀ r ∈ b.recs, r.stamp < st := by
  obtain ⟨h1, h2, h3⟩ := ck_sub h
  rcases whenX_mem st 0 l with h4 | ⟨x, hx, h4, h5⟩
  · exact ⟨[], batS s, rfl, by rw [h4, byR_nil]; rfl, by simp⟩
  · obtain ⟨k, b, hb, rfl⟩ := mem_ents (h3.subset hx)
    refine ⟨(batS s).take k, (batS s).drop k, (List.take_append_drop _ _).symm, by rw [h5]; simp only; rw [endP_is, Int.zero_add], fun c hc r hr => ?_⟩
    obtain ⟨j, hj, hcj⟩ := mem_take hc
    have h6 := endM_take (most := -1) hj hcj r hr
    have h7 := (mx_ge (endM (-1) ((batS s).take k)) b.recs).1
    simp only at h4
    omega
theorem findX_bad {s : Sg} {l : List En} {off z : Int} (h : ckX s l = z) (hz : z ≠ 0) : findX s l off = (nilB, z) := by unfold findX; rw [h, if_pos hz]
theorem find_none {L : List Bt} {off : Int} (h : ∀ b ∈ L, b.last < off) : L.find? (fun b => decide (off ≤ b.last)) = none := List.find?_eq_none.2 fun b hb => by have := h b hb; simp; omega
theorem findX_none {s : Sg} {l : List En} {off : Int} (h : ckX s l = 0) (hn : ∀ b ∈ batS s, b.last < off) : findX s l off = (nilB, 90) := by
  unfold findX
  rw [h, if_neg (by simp), find_none hn]
theorem findX_some {s : Sg} {l : List En} {off : Int} {L1 rest : List Bt} {b : Bt} (h : ckX s l = 0) (hs : batS s = L1 ++ b :: rest) (hn : ∀ b ∈ L1, b.last < off) (hb : off ≤ b.last) : findX s l off = (b, 0) := by
  unfold findX
  rw [h, if_neg (by simp), hs, List.find?_append, find_none hn, Option.none_or, List.find?_cons_of_pos (by simpa using hb)]
theorem sinceX_bad {s : Sg} {l : List En} {st z : Int} (h : ckX s l = z) (hz : z ≠ 0) : sinceX s l st = (0, z) := by unfold sinceX; rw [h, if_pos hz]
theorem since_none {L : List Bt} {st : Int} (h : ∀ b ∈ L, ∀ r ∈ b.recs, r.stamp < st) : (L.flatMap fun b => b.recs).find? (fun r => decide (st ≤ r.stamp)) = none := List.find?_eq_none.2 fun r hr => by
  obtain ⟨b, hb, hr⟩ := List.mem_flatMap.1 hr
  have := h b hb r hr
  simp
  omega
theorem sinceX_none {s : Sg} {l : List En} {st : Int} (h : ckX s l = 0) (hn : ∀ b ∈ batS s, ∀ r ∈ b.recs, r.stamp < st) : sinceX s l st = (0, 90) := by
  unfold sinceX
  rw [h, if_neg (by simp), since_none hn]
theorem sinceX_some {s : Sg} {l : List En} {st : Int} {L1 rest : List Bt} {b : Bt} {k : Nat} {r : Rc} (h : ckX s l = 0) (hs : batS s = L1 ++ b :: rest) (hn : ∀ b ∈ L1, ∀ r ∈ b.recs, r.stamp < st) (hk : ∀ r ∈ b.recs.take k, r.stamp < st) (hr : b.recs[k]? = some r) (hb : st ≤ r.stamp) : sinceX s l st = (r.off, 0) := by
  have hf : b.recs.find? (fun r => decide (st ≤ r.stamp)) = some r := by
    have e : b.recs = b.recs.take k ++ b.recs.drop k := (List.take_append_drop _ _).symm
    have hlt := (List.getElem?_eq_some_iff.1 hr).1
    rw [e, List.find?_append, List.find?_eq_none.2 (fun x hx => by have := hk x hx; simp; omega), Option.none_or, List.drop_eq_getElem_cons hlt, (List.getElem?_eq_some_iff.1 hr).2, List.find?_cons_of_pos (by simpa using hb)]
  unfold sinceX
  rw [h, if_neg (by simp), hs, List.flatMap_append, List.flatMap_cons, List.find?_append, since_none hn, Option.none_or, List.find?_append, hf, Option.some_or]
end Go.Proofs.YtbnkfljkojhkoaaDoor.Idx

/- The plain mathematics of layer 8's laws: few entries, far apart. Nothing of the program. -/
namespace Go.Proofs.YtbnkfljkojhkoaaDoor.Idx
open Go.Proofs.YtbnkfljkojhkoaaDoor.Oct Go.Proofs.YtbnkfljkojhkoaaDoor.Rec Go.Proofs.YtbnkfljkojhkoaaDoor.Crc Go.Proofs.YtbnkfljkojhkoaaDoor.Bat Go.Proofs.YtbnkfljkojhkoaaDoor.Seg

theorem spread_at {every : Int} {l : List En} (h : Spread every l) {k : Nat} {x y : En} (hx : l[k]? = some x) (hy : l[k + 1]? = some y) : every ≤ y.pos - x.pos ∧ x.off < y.off ∧ x.stamp ≤ y.stamp := by
  induction l generalizing k with
  | nil => simp at hx
  | cons a l ih =>
    cases l with
    | nil => simp at hy
    | cons b l =>
      cases k with
      | zero =>
        obtain rfl : a = x := by simpa using hx
        obtain rfl : b = y := by simpa using hy
        exact h.1
      | succ k => exact ih h.2 (by simpa using hx) (by simpa using hy)
theorem makeX_ways (s : Sg) (every : Int) : makeX s every = ([], 1) ∨ ∃ m, makeX s every = (m, 0) := by
  unfold makeX
  split
  · exact .inl rfl
  · exact .inr ⟨_, rfl⟩
theorem make_facts {s : Sg} {every : Int} {m : List En} (h : makeX s every = (m, 0)) : (1 ≤ every ∧ every ≤ 4096) ∧ Spread every m ∧ (∀ x ∈ m, 0 ≤ x.pos ∧ x.pos < (s.bytes.length : Int)) ∧ (m = [] ↔ s.bytes = []) ∧ (m = [] ∨ ((m.length : Int) - 1) * every < s.bytes.length) ∧ (∀ x, m[0]? = some x → x.pos = 0) ∧ s.bytes.length ≤ 4096 := by
  have hp := places_in h
  obtain ⟨h1, h2, rfl⟩ := makeX_good h
  obtain ⟨r1, r2, r3⟩ := allE_right h1
  have hsp : Spread every (pick every none (allE s)) := spread_pick (sorted_ents r1)
  refine ⟨h2, hsp, hp, ?_, spread_len h2.1 hsp hp, fun x hx => ?_, r3⟩
  · rw [pick_none_nil]
    unfold allE
    rw [ents_none]
    conv => rhs; rw [r2]
    exact byR_none.symm
  · unfold allE at hx
    cases hb : batS s with
    | nil => rw [hb] at hx; simp [ents, pick] at hx
    | cons b bs =>
      rw [hb] at hx
      obtain rfl : (⟨b.base, 0, mx (-1) b.recs⟩ : En) = x := by simpa [ents, pick] using hx
      rfl
theorem few_entries {n k every : Int} (_hk : 1 ≤ k) (he : 1 ≤ every) (h : (k - 1) * every < n) : k ≤ n / every + 1 := by
  have h1 : k - 1 ≤ n / every := Int.le_ediv_of_mul_le (by omega) (by omega)
  omega
end Go.Proofs.YtbnkfljkojhkoaaDoor.Idx

/- The plain mathematics of IndexLeaves: entries of which some are left out. Nothing of the program. -/
namespace Go.Proofs.YtbnkfljkojhkoaaDoor.Idx
open Go.Proofs.YtbnkfljkojhkoaaDoor.Oct Go.Proofs.YtbnkfljkojhkoaaDoor.Rec Go.Proofs.YtbnkfljkojhkoaaDoor.Crc Go.Proofs.YtbnkfljkojhkoaaDoor.Bat Go.Proofs.YtbnkfljkojhkoaaDoor.Seg

def goneB (lv : List Int) (j : Nat) : Bool := decide (0 < j ∧ (j : Int) ∈ lv)
def lft (lv : List Int) (all : List En) : Nat → List En
  | 0 => []
  | j + 1 => lft lv all j ++ if goneB lv j then [] else (all[j]?).toList
theorem lft_sub (lv : List Int) (all : List En) (j : Nat) : (lft lv all j).Sublist (all.take j) := by
  induction j with
  | zero => exact List.nil_sublist _
  | succ j ih =>
    rw [List.take_add_one]
    unfold lft
    refine List.Sublist.append ih ?_
    cases goneB lv j
    · exact List.Sublist.refl _
    · exact List.nil_sublist _
theorem lft_len (lv : List Int) (all : List En) (j : Nat) : (lft lv all j).length ≤ j := by
  have h := (lft_sub lv all j).length_le
  rw [List.length_take] at h
  omega
theorem lft_first {lv : List Int} {x : En} {a : List En} (j : Nat) : ∃ m, lft lv (x :: a) (j + 1) = x :: m := by
  induction j with
  | zero => exact ⟨[], by simp [lft, goneB]⟩
  | succ j ih =>
    obtain ⟨m, hm⟩ := ih
    refine ⟨m ++ if goneB lv (j + 1) then [] else ((x :: a)[j + 1]?).toList, ?_⟩
    conv => lhs; unfold lft
    rw [hm]
    rfl
theorem lft_ck {s : Sg} {all : List En} {lv : List Int} (h : makeX s 1 = (all, 0)) : ckX s (lft lv all all.length) = 0 := by
  obtain ⟨h1, _, _⟩ := makeX_good h
  have ha : all = allE s := by have h2 := (make_all h1).symm.trans h; exact (congrArg Prod.fst h2).symm
  subst ha
  refine ck_left h1 ?_ fun x a hx => ?_
  · have h2 := lft_sub lv (allE s) (allE s).length
    rw [List.take_length] at h2
    exact h2
  · rw [hx]
    exact lft_first a.length
theorem lft_yes {lv : List Int} {all : List En} {j : Nat} (h : goneB lv j = true) : lft lv all (j + 1) = lft lv all j := by
  conv => lhs; unfold lft
  rw [h, if_pos rfl, List.append_nil]
theorem lft_no {lv : List Int} {all : List En} {j : Nat} {x : En} (h : goneB lv j = false) (hx : all[j]? = some x) : lft lv all (j + 1) = lft lv all j ++ [x] := by
  conv => lhs; unfold lft
  rw [h, hx]
  rfl
theorem make_both {s : Sg} {every : Int} {a m : List En} {z1 z2 : Int} (h1 : makeX s 1 = (a, z1)) (h2 : makeX s every = (m, z2)) (h : z1 ≠ 0 ∨ z2 ≠ 0) : z2 = 1 := by
  rcases makeX_ways s every with h3 | ⟨m3, h3⟩
  · rw [h3] at h2; exact (congrArg Prod.snd h2).symm
  · rw [h3] at h2
    have h4 : z2 = 0 := (congrArg Prod.snd h2).symm
    have h5 := (makeX_good h3).1
    rw [make_all h5] at h1
    have h6 : z1 = 0 := (congrArg Prod.snd h1).symm
    omega
end Go.Proofs.YtbnkfljkojhkoaaDoor.Idx
