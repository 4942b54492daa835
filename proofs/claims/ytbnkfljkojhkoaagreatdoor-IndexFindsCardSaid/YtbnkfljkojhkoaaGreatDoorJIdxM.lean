/- Joined: IdxMath2, IdxMath3. -/
import Derived.Test.YtbnkfljkojhkoaaGreatDoorIdxMath
/- The plain mathematics of layer 8: where an index says to begin, and what is found from there on. Nothing of the program. -/
namespace Go.Proofs.YtbnkfljkojhkoaaGreatDoor.Idx
open Oct Rec Crc Bat Seg

theorem ck_sub {s : Sg} {l : List En} (h : ckX s l = 0) : rightX s = true ∧ isIx true (allE s) l = true ∧ l.Sublist (allE s) := by
  unfold ckX at h
  by_cases h1 : rightX s = true ∧ isIx true (allE s) l = true
  case neg => rw [if_neg h1] at h; cases h
  refine ⟨h1.1, h1.2, ?_⟩
  have h2 := h1.2
  cases ha : allE s with
  | nil =>
    rw [ha] at h2
    cases l with
    | nil => exact List.Sublist.refl _
    | cons y l => cases h2
  | cons x a =>
    rw [ha] at h2
    obtain ⟨m, rfl, hm⟩ := isIx_first.1 h2
    exact hm.cons_cons _
theorem mem_take {L : List Bt} {k : Nat} {b : Bt} (h : b ∈ L.take k) : ∃ j, j < k ∧ L[j]? = some b := by
  obtain ⟨j, hj⟩ := List.mem_iff_getElem?.1 h
  have hlt := (List.getElem?_eq_some_iff.1 hj).1
  rw [List.length_take] at hlt
  rw [List.getElem?_take, if_pos (by omega)] at hj
  exact ⟨j, by omega, hj⟩
theorem floor_split {s : Sg} {l : List En} (off : Int) (h : ckX s l = 0) : ∃ L1 L2, batS s = L1 ++ L2 ∧ floorX off 0 l = ((byR L1).length : Int) ∧ ∀ b ∈ L1, b.last < off := by
  obtain ⟨h1, h2, h3⟩ := ck_sub h
  rcases floorX_mem off 0 l with h4 | ⟨x, hx, h4, h5⟩
  · exact ⟨[], batS s, rfl, by rw [h4, byR_nil]; rfl, by simp⟩
  · obtain ⟨k, b, hb, rfl⟩ := mem_ents (h3.subset hx)
    refine ⟨(batS s).take k, (batS s).drop k, (List.take_append_drop _ _).symm, by rw [h5]; simp only; rw [endP_is, Int.zero_add], fun c hc => ?_⟩
    obtain ⟨j, hj, hcj⟩ := mem_take hc
    have := ris_last (allE_right h1).1 hj hcj hb
    simp only at h4
    omega
theorem when_split {s : Sg} {l : List En} (st : Int) (h : ckX s l = 0) : ∃ L1 L2, batS s = L1 ++ L2 ∧ whenX st 0 l = ((byR L1).length : Int) ∧ ∀ b ∈ L1, ∀ r ∈ b.recs, r.stamp < st := by
  obtain ⟨h1, h2, h3⟩ := ck_sub h
  rcases whenX_mem st 0 l with h4 | ⟨x, hx, h4, h5⟩
  · exact ⟨[], batS s, rfl, by rw [h4, byR_nil]; rfl, by simp⟩
  · obtain ⟨k, b, hb, rfl⟩ := mem_ents (h3.subset hx)
    refine ⟨(batS s).take k, (batS s).drop k, (List.take_append_drop _ _).symm, by rw [h5]; simp only; rw [endP_is, Int.zero_add], fun c hc r hr => ?_⟩
    obtain ⟨j, hj, hcj⟩ := mem_take hc
    have h6 := endM_take (most := -1) hj hcj r hr
    have h7 := (mx_ge (endM (-1) ((batS s).take k)) b.recs).1
    simp only at h4
    omega
theorem findX_bad {s : Sg} {l : List En} {off z : Int} (h : ckX s l = z) (hz : z ≠ 0) : findX s l off = (nilB, z) := by unfold findX; rw [h, if_pos hz]
theorem find_none {L : List Bt} {off : Int} (h : ∀ b ∈ L, b.last < off) : L.find? (fun b => decide (off ≤ b.last)) = none := List.find?_eq_none.2 fun b hb => by have := h b hb; simp; omega
theorem findX_none {s : Sg} {l : List En} {off : Int} (h : ckX s l = 0) (hn : ∀ b ∈ batS s, b.last < off) : findX s l off = (nilB, 90) := by
  unfold findX
  rw [h, if_neg (by simp), find_none hn]
theorem findX_some {s : Sg} {l : List En} {off : Int} {L1 rest : List Bt} {b : Bt} (h : ckX s l = 0) (hs : batS s = L1 ++ b :: rest) (hn : ∀ b ∈ L1, b.last < off) (hb : off ≤ b.last) : findX s l off = (b, 0) := by
  unfold findX
  rw [h, if_neg (by simp), hs, List.find?_append, find_none hn, Option.none_or, List.find?_cons_of_pos (by simpa using hb)]
theorem sinceX_bad {s : Sg} {l : List En} {st z : Int} (h : ckX s l = z) (hz : z ≠ 0) : sinceX s l st = (0, z) := by unfold sinceX; rw [h, if_pos hz]
theorem since_none {L : List Bt} {st : Int} (h : ∀ b ∈ L, ∀ r ∈ b.recs, r.stamp < st) : (L.flatMap fun b => b.recs).find? (fun r => decide (st ≤ r.stamp)) = none := List.find?_eq_none.2 fun r hr => by
  obtain ⟨b, hb, hr⟩ := List.mem_flatMap.1 hr
  have := h b hb r hr
  simp
  omega
theorem sinceX_none {s : Sg} {l : List En} {st : Int} (h : ckX s l = 0) (hn : ∀ b ∈ batS s, ∀ r ∈ b.recs, r.stamp < st) : sinceX s l st = (0, 90) := by
  unfold sinceX
  rw [h, if_neg (by simp), since_none hn]
theorem sinceX_some {s : Sg} {l : List En} {st : Int} {L1 rest : List Bt} {b : Bt} {k : Nat} {r : Rc} (h : ckX s l = 0) (hs : batS s = L1 ++ b :: rest) (hn : ∀ b ∈ L1, ∀ r ∈ b.recs, r.stamp < st) (hk : ∀ r ∈ b.recs.take k, r.stamp < st) (hr : b.recs[k]? = some r) (hb : st ≤ r.stamp) : sinceX s l st = (r.off, 0) := by
  have hf : b.recs.find? (fun r => decide (st ≤ r.stamp)) = some r := by
    have e : b.recs = b.recs.take k ++ b.recs.drop k := (List.take_append_drop _ _).symm
    have hlt := (List.getElem?_eq_some_iff.1 hr).1
    rw [e, List.find?_append, List.find?_eq_none.2 (fun x hx => by have := hk x hx; simp; omega), Option.none_or, List.drop_eq_getElem_cons hlt, (List.getElem?_eq_some_iff.1 hr).2, List.find?_cons_of_pos (by simpa using hb)]
  unfold sinceX
  rw [h, if_neg (by simp), hs, List.flatMap_append, List.flatMap_cons, List.find?_append, since_none hn, Option.none_or, List.find?_append, hf, Option.some_or]
end Go.Proofs.YtbnkfljkojhkoaaGreatDoor.Idx

/- The plain mathematics of layer 8's laws: few entries, far apart. Nothing of the program. -/
namespace Go.Proofs.YtbnkfljkojhkoaaGreatDoor.Idx
open Oct Rec Crc Bat Seg

theorem makeX_ways (s : Sg) (every : Int) : makeX s every = ([], 1) ∨ ∃ m, makeX s every = (m, 0) := by
  unfold makeX
  split
  · exact .inl rfl
  · exact .inr ⟨_, rfl⟩
end Go.Proofs.YtbnkfljkojhkoaaGreatDoor.Idx
