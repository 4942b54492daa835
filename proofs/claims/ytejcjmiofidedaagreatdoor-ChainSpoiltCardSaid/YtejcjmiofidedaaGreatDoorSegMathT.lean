/- Joined: SegMathT. -/
import Derived.Test.YtejcjmiofidedaaGreatDoorJSegM
/- The plain mathematics of segments that are cut off, spoilt, cut or appended to. Nothing of the program. -/
namespace Go.Proofs.YtejcjmiofidedaaGreatDoor.Seg
open Oct Rec Crc Bat

theorem grB_spoiltT {b : Bt} (h : chB b = 0) (t : List UInt8) {i : Nat} {d e : UInt8} (hd : (byB b)[i]? = some d) (hne : d ≠ e) : (grB ((byB b ++ t).set i e) 0).2.2 ≠ 0 := by
  intro h0
  have hil := (List.getElem?_eq_some_iff.1 hd).1
  rcases hg : grB ((byB b ++ t).set i e) 0 with ⟨b', n, z⟩
  rw [hg] at h0
  simp only at h0
  subst h0
  obtain ⟨_, n0, n1, c1, c2⟩ := grB_good hg
  have hs := sealB_length (body b)
  have hs' := sealB_length (body b')
  have hl := byB_length b
  have hl' := byB_length b'
  have hm := (chB_form h).2
  have hm' := (chB_form c1).2
  have e0 : (0 : Int).toNat = 0 := rfl
  rw [e0, List.drop_zero, Int.sub_zero, List.set_append_left _ _ hil] at c2
  rw [List.length_set, List.length_append] at n1
  have hln : (byB b').length = n.toNat := by rw [c2, List.length_take, List.length_append, List.length_set]; omega
  have h44 : 4 ≤ n.toNat := by omega
  have hA : sealB (body b') = (((byB b).set i e ++ t).drop 4).take (n.toNat - 4) := by
    have h1 := congrArg (List.drop 4) c2
    rw [List.drop_take] at h1
    rw [← h1, byB, List.drop_left' (beN_length _ _ _)]
  have hB : beN (sealB (body b')).length 4 4 = ((byB b).set i e ++ t).take 4 := by
    have h1 := congrArg (List.take 4) c2
    rw [List.take_take, Nat.min_eq_left h44] at h1
    rw [← h1, byB, List.take_left' (beN_length _ _ _)]
  by_cases hi : i < 4
  · have hset : (byB b).set i e ++ t = (beN (sealB (body b)).length 4 4).set i e ++ (sealB (body b) ++ t) := by
      rw [byB, List.set_append_left _ _ (by rw [beN_length]; exact hi), List.append_assoc]
    have hd4 : (beN (sealB (body b)).length 4 4)[i]? = some d := by
      rw [byB, List.getElem?_append_left (by rw [beN_length]; exact hi)] at hd
      exact hd
    rw [hset, List.drop_left' (by rw [List.length_set, beN_length])] at hA
    rw [hset, List.take_left' (by rw [List.length_set, beN_length])] at hB
    by_cases hn : (sealB (body b')).length = (sealB (body b)).length
    · rw [hn] at hB
      have h3 : ((beN (sealB (body b)).length 4 4).set i e)[i]? = some e := by rw [List.getElem?_set, if_pos rfl, if_pos (by rw [beN_length]; exact hi)]
      rw [← hB, hd4] at h3
      exact hne (Option.some.inj h3)
    · have hb1 : body b' = (body b ++ (beN (sum (body b)) 4 4 ++ t)).take (body b').length := by
        have h2 := congrArg (List.take (body b').length) hA
        rw [List.take_take, Nat.min_eq_left (by omega)] at h2
        unfold sealB at h2
        rw [List.take_left, List.append_assoc] at h2
        exact h2
      by_cases hlt : (body b').length < (body b).length
      · have h1 : body b' = (body b).take (body b').length := by
          rw [List.take_append_of_le_length (by omega)] at hb1
          exact hb1
        have h2 : body b = body b' ++ (body b).drop (body b').length := by
          conv => lhs; rw [← List.take_append_drop (body b').length (body b)]
          rw [← h1]
        have h3 := congrArg List.length (body_alone (chB_form c1).1 (chB_form h).1 h2).1
        rw [List.length_drop, List.length_nil] at h3
        omega
      · rw [List.take_append, List.take_of_length_le (by omega)] at hb1
        have h3 := congrArg List.length (body_alone (chB_form h).1 (chB_form c1).1 hb1).1
        have h4 := congrArg List.length hb1
        rw [List.length_nil] at h3
        rw [List.length_append, h3] at h4
        omega
  · have hset : (byB b).set i e ++ t = beN (sealB (body b)).length 4 4 ++ ((sealB (body b)).set (i - 4) e ++ t) := by
      rw [byB, List.set_append_right _ _ (by rw [beN_length]; omega), beN_length, List.append_assoc]
    have hd4 : (sealB (body b))[i - 4]? = some d := by
      rw [byB, List.getElem?_append_right (by rw [beN_length]; omega), beN_length] at hd
      exact hd
    rw [hset, List.drop_left' (beN_length _ _ _)] at hA
    rw [hset, List.take_left' (beN_length _ _ _)] at hB
    have hn := congrArg getN hB
    rw [len_num (by omega), len_num (by omega)] at hn
    rw [List.take_append_of_le_length (by rw [List.length_set]; omega), List.take_of_length_le (by rw [List.length_set]; omega)] at hA
    exact hne (seal_set hd4 hA)
theorem grB_cutT {b : Bt} (h : chB b = 0) (t : List UInt8) {k : Nat} (hk : k < (byB b).length) : grB ((byB b ++ t).take k) 0 = (nilB, 0, 10) := by
  rw [List.take_append_of_le_length (by omega)]
  exact grB_cut h hk

theorem sc_torn (lo : Int) (l : List UInt8) (cut : Nat) (hc : cut ≤ l.length) : ∃ k, k ≤ (sc lo l).1.length ∧ (sc lo (l.take cut)).1 = (sc lo l).1.take k ∧ (sc lo (l.take cut)).2 ≤ cut ∧ (sc lo (l.take cut)).2 ≤ (sc lo l).2 ∧ ((sc lo l).2 ≤ cut → (sc lo (l.take cut)).2 = (sc lo l).2) := by
  induction hn : l.length using Nat.strongRecOn generalizing l lo cut with
  | ind n ih =>
    subst hn
    rcases sc_ways lo l with ⟨h, h2⟩ | ⟨b, t, h1, h2, h3, h4⟩
    · rcases sc_ways lo (l.take cut) with ⟨g, g2⟩ | ⟨b, t, g1, g2, g3, g4⟩
      · rw [g, h]; exact ⟨0, Nat.le_refl _, rfl, Nat.zero_le _, Nat.le_refl _, fun _ => rfl⟩
      · exfalso
        refine h2 ?_
        have e : l = byB b ++ (t ++ l.drop cut) := by rw [← List.append_assoc, ← g3, List.take_append_drop]
        have g := grB_at g1 [] (t ++ l.drop cut)
        rw [List.nil_append, List.length_nil, ← e] at g
        have e0 : ((0 : Nat) : Int) = 0 := rfl
        rw [e0] at g
        rw [g]
        exact ⟨rfl, g2⟩
    · by_cases hk : cut < (byB b).length
      · have g := grB_cutT h1 t hk
        rw [← h3] at g
        rw [sc_stop (l := l.take cut) (by rw [g]; simp)]
        refine ⟨0, Nat.zero_le _, rfl, Nat.zero_le _, Nat.zero_le _, fun h => ?_⟩
        rw [h4] at h
        simp only at h
        omega
      · have hlen : t.length < l.length := by
          have := byB_length b
          rw [h3, List.length_append]
          omega
        have hct : cut - (byB b).length ≤ t.length := by rw [h3, List.length_append] at hc; omega
        obtain ⟨k, i1, i2, i3, i4, i5⟩ := ih _ hlen (b.last + 1) t (cut - (byB b).length) hct rfl
        have e : l.take cut = byB b ++ t.take (cut - (byB b).length) := by rw [h3, List.take_append, List.take_of_length_le (by omega)]
        have hs : sc lo (l.take cut) = (b :: (sc (b.last + 1) (t.take (cut - (byB b).length))).1, (byB b).length + (sc (b.last + 1) (t.take (cut - (byB b).length))).2) := by
          have hr : ris lo [b] = true := ris_cons.2 ⟨⟨h1, h2⟩, rfl⟩
          have := sc_put hr (t.take (cut - (byB b).length))
          rw [byR_cons, byR_nil, List.append_nil] at this
          rw [e, this]
          rfl
        rw [hs, h4]
        refine ⟨k + 1, by simpa using i1, by simp only [List.take_succ_cons]; rw [i2], by simp only; omega, by simp only; omega, fun h => ?_⟩
        simp only at h ⊢
        rw [i5 (by omega)]
theorem sc_spoilt {lo : Int} {bs : List Bt} (h : ris lo bs = true) (t : List UInt8) {k i : Nat} {b : Bt} {d e : UInt8} (hk : bs[k]? = some b) (hd : (byB b)[i]? = some d) (hne : d ≠ e) :
    sc lo ((byR bs ++ t).set ((byR (bs.take k)).length + i) e) = (bs.take k, (byR (bs.take k)).length) := by
  have e0 : bs = bs.take k ++ b :: bs.drop (k + 1) := by
    obtain ⟨hlt, hb⟩ := List.getElem?_eq_some_iff.1 hk
    conv => lhs; rw [← List.take_append_drop k bs]
    rw [List.drop_eq_getElem_cons hlt, hb]
  have hr := h
  rw [e0, ris_app] at hr
  obtain ⟨⟨hb1, hb2⟩, hb3⟩ := ris_cons.1 hr.2
  have e1 : byR bs ++ t = byR (bs.take k) ++ (byB b ++ (byR (bs.drop (k + 1)) ++ t)) := by
    conv => lhs; rw [e0]
    rw [byR_app, byR_cons]
    simp only [List.append_assoc]
  rw [e1, List.set_append_right _ _ (by omega), Nat.add_sub_cancel_left, sc_put hr.1, sc_stop fun h => grB_spoiltT hb1 _ hd hne h.1]
  rw [List.append_nil, Nat.add_zero]
theorem byR_find {bs : List Bt} {i : Nat} (h : i < (byR bs).length) : ∃ k b j, bs[k]? = some b ∧ i = (byR (bs.take k)).length + j ∧ j < (byB b).length := by
  induction bs generalizing i with
  | nil => rw [byR_nil] at h; simp at h
  | cons b bs ih =>
    rw [byR_cons, List.length_append] at h
    by_cases hi : i < (byB b).length
    · exact ⟨0, b, i, rfl, by rw [List.take_zero, byR_nil]; simp, hi⟩
    · obtain ⟨k, c, j, h1, h2, h3⟩ := ih (i := i - (byB b).length) (by omega)
      exact ⟨k + 1, c, j, h1, by rw [List.take_succ_cons, byR_cons, List.length_append]; omega, h3⟩

end Go.Proofs.YtejcjmiofidedaaGreatDoor.Seg
