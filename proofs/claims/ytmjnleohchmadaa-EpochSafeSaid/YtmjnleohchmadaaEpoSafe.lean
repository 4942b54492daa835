/- Joined: EpoSafe. -/
import Derived.Test.YtmjnleohchmadaaEpoMath
/- The plain mathematics of layer 10: two logs that went the same way, and then two ways, meet where they parted. Nothing of the program. -/
namespace Go.Proofs.Ytmjnleohchmadaa.Epo

def wayE : Int → Int → List (Int × Int) → Bool
  | _, _, [] => true
  | e, s, p :: ps => decide (e ≤ p.1 ∧ p.1 ≤ 1048576 ∧ p.2 = s ∧ s ≤ 1099511627776 ∧ 0 ≤ s ∧ 0 ≤ p.1) && wayE p.1 (s + 1) ps
theorem wayE_cons {e s : Int} {p : Int × Int} {ps : List (Int × Int)} : wayE e s (p :: ps) = true ↔ (e ≤ p.1 ∧ p.1 ≤ 1048576 ∧ p.2 = s ∧ s ≤ 1099511627776 ∧ 0 ≤ s ∧ 0 ≤ p.1) ∧ wayE p.1 (s + 1) ps = true := by
  unfold wayE
  rw [Bool.and_eq_true, decide_eq_true_eq]
  cases ps <;> rfl
def AboveE (l : List Ep) (e s : Int) : Prop := ∀ y ∈ l, y.ep ≤ e ∧ y.st < s
theorem put_same {l : List Ep} {y : Ep} {s : Int} (hl : okE l = true) (hy : l.getLast? = some y) (hs : 0 ≤ s ∧ s ≤ 1099511627776) : putE l y.ep s = (l, 0) := by
  have hm := upE_mem hl y (List.mem_of_getLast? hy)
  unfold putE
  rw [if_neg (by rw [hl]; simp only [Bool.true_eq_false, false_or]; omega), hy]
  simp only
  rw [if_neg (by omega), if_pos trivial]
theorem put_more {l : List Ep} {y : Ep} {n s : Int} (hl : okE l = true) (hy : l.getLast? = some y) (hn : y.ep < n ∧ n ≤ 1048576) (hs : y.st < s ∧ s ≤ 1099511627776) : putE l n s = (l ++ [⟨n, s⟩], 0) := by
  have hm := upE_mem hl y (List.mem_of_getLast? hy)
  unfold putE
  rw [if_neg (by rw [hl]; simp only [Bool.true_eq_false, false_or]; omega), hy]
  simp only
  rw [if_neg (by omega), if_neg (by omega), if_neg (by omega), if_neg (by omega)]
theorem put_first {n s : Int} (hn : 0 ≤ n ∧ n ≤ 1048576) (hs : 0 ≤ s ∧ s ≤ 1099511627776) : putE [] n s = ([⟨n, s⟩], 0) := by
  unfold putE
  have h : okE [] = true := rfl
  rw [if_neg (by rw [h]; simp only [Bool.true_eq_false, false_or]; omega)]
  rfl
theorem ofE_way {l : List Ep} {y : Ep} {s : Int} {ps : List (Int × Int)} (hl : okE l = true) (hy : l.getLast? = some y) (hys : y.st < s) (h : wayE y.ep s ps = true) :
    ∃ m, ofE l ps = l ++ m ∧ okE (l ++ m) = true ∧ (∀ z ∈ m, (∃ p ∈ ps, p.1 = z.ep) ∧ y.ep < z.ep ∧ s ≤ z.st ∧ z.st < s + ps.length) ∧ (∀ p, ps.getLast? = some p → ∃ z, (l ++ m).getLast? = some z ∧ z.ep = p.1) ∧ (∀ p, ps.head? = some p → y.ep < p.1 → ∃ m', m = ⟨p.1, s⟩ :: m') := by
  induction ps generalizing l y s with
  | nil => exact ⟨[], (List.append_nil l).symm, by rw [List.append_nil]; exact hl, by simp, by simp, by simp⟩
  | cons p ps ih =>
    obtain ⟨h1, h2⟩ := wayE_cons.1 h
    have hm := upE_mem hl y (List.mem_of_getLast? hy)
    by_cases he : p.1 = y.ep
    · have hp : putE l p.1 p.2 = (l, 0) := by rw [he]; exact put_same hl hy (by omega)
      have e : ofE l (p :: ps) = ofE l ps := by
        show ofE (if (putE l p.1 p.2).2 = 0 then (putE l p.1 p.2).1 else l) ps = _
        rw [hp]; rfl
      obtain ⟨m, g1, g2, g3, g4, g5⟩ := ih hl hy (s := s + 1) (by omega) (by rw [← he]; exact h2)
      refine ⟨m, by rw [e, g1], g2, fun z hz => ?_, fun q hq => ?_, fun q hq hlt => ?_⟩
      · obtain ⟨⟨q, q1, q2⟩, k1, k2, k3⟩ := g3 z hz
        refine ⟨⟨q, by simp [q1], q2⟩, k1, by omega, ?_⟩
        rw [List.length_cons]
        omega
      · cases ps with
        | nil =>
          obtain rfl : p = q := by simpa using hq
          have hm0 : m = [] := by
            have : ofE l [] = l := rfl
            rw [this] at g1
            have := congrArg List.length g1
            simp only [List.length_append] at this
            exact List.eq_nil_of_length_eq_zero (by omega)
          subst hm0
          exact ⟨y, by rw [List.append_nil]; exact hy, he.symm⟩
        | cons r ps =>
          rw [List.getLast?_cons_cons] at hq
          exact g4 q hq
      · obtain rfl : p = q := by simpa using hq
        omega
    · have hp : putE l p.1 p.2 = (l ++ [⟨p.1, s⟩], 0) := by
        rw [h1.2.2.1]
        exact put_more hl hy (by omega) (by omega)
      have e : ofE l (p :: ps) = ofE (l ++ [⟨p.1, s⟩]) ps := by
        show ofE (if (putE l p.1 p.2).2 = 0 then (putE l p.1 p.2).1 else l) ps = _
        rw [hp]; rfl
      have hok : okE (l ++ [⟨p.1, s⟩]) = true := by
        have := (putE_good hp).2.2.2.1
        exact this
      obtain ⟨m, g1, g2, g3, g4, g5⟩ := ih hok (y := ⟨p.1, s⟩) List.getLast?_concat (s := s + 1) (by simp only; omega) h2
      refine ⟨⟨p.1, s⟩ :: m, by rw [e, g1]; simp, by rw [show l ++ ⟨p.1, s⟩ :: m = (l ++ [⟨p.1, s⟩]) ++ m by simp]; exact g2, fun z hz => ?_, fun q hq => ?_, fun q hq hlt => ?_⟩
      · rcases List.mem_cons.1 hz with rfl | hz
        · refine ⟨⟨p, by simp, rfl⟩, by simp only; omega, Int.le_refl _, ?_⟩
          rw [List.length_cons]
          simp only
          omega
        · obtain ⟨⟨q, q1, q2⟩, k1, k2, k3⟩ := g3 z hz
          simp only at k1
          refine ⟨⟨q, by simp [q1], q2⟩, by omega, by omega, ?_⟩
          rw [List.length_cons]
          omega
      · rw [show l ++ ⟨p.1, s⟩ :: m = (l ++ [⟨p.1, s⟩]) ++ m by simp]
        cases ps with
        | nil =>
          obtain rfl : p = q := by simpa using hq
          have hm0 : m = [] := by
            have : ofE (l ++ [⟨p.1, s⟩]) [] = l ++ [⟨p.1, s⟩] := rfl
            rw [this] at g1
            have := congrArg List.length g1
            simp only [List.length_append] at this
            exact List.eq_nil_of_length_eq_zero (by omega)
          subst hm0
          exact ⟨⟨p.1, s⟩, by rw [List.append_nil, List.getLast?_concat], rfl⟩
        | cons r ps =>
          rw [List.getLast?_cons_cons] at hq
          exact g4 q hq
      · obtain rfl : p = q := by simpa using hq
        exact ⟨m, rfl⟩
theorem ofE_start {s : Int} {p : Int × Int} {ps : List (Int × Int)} {e : Int} (h : wayE e s (p :: ps) = true) :
    ∃ m, ofE [] (p :: ps) = ⟨p.1, s⟩ :: m ∧ okE (⟨p.1, s⟩ :: m) = true ∧ (∀ z ∈ (⟨p.1, s⟩ : Ep) :: m, (∃ q ∈ p :: ps, q.1 = z.ep) ∧ s ≤ z.st ∧ z.st < s + (ps.length + 1)) ∧ (∀ q, (p :: ps).getLast? = some q → ∃ z, ((⟨p.1, s⟩ : Ep) :: m).getLast? = some z ∧ z.ep = q.1) := by
  obtain ⟨h1, h2⟩ := wayE_cons.1 h
  have hp : putE [] p.1 p.2 = ([⟨p.1, s⟩], 0) := by rw [h1.2.2.1]; exact put_first (by omega) (by omega)
  have e1 : ofE [] (p :: ps) = ofE [⟨p.1, s⟩] ps := by
    show ofE (if (putE [] p.1 p.2).2 = 0 then (putE [] p.1 p.2).1 else []) ps = _
    rw [hp]; rfl
  have hok : okE [⟨p.1, s⟩] = true := (putE_good hp).2.2.2.1
  obtain ⟨m, g1, g2, g3, g4, g5⟩ := ofE_way (y := ⟨p.1, s⟩) hok rfl (s := s + 1) (by simp only; omega) h2
  refine ⟨m, by rw [e1, g1]; rfl, g2, fun z hz => ?_, fun q hq => ?_⟩
  · rcases List.mem_cons.1 hz with rfl | hz
    · exact ⟨⟨p, by simp, rfl⟩, Int.le_refl _, by simp only; omega⟩
    · obtain ⟨⟨q, q1, q2⟩, k1, k2, k3⟩ := g3 z hz
      exact ⟨⟨q, by simp [q1], q2⟩, by omega, by omega⟩
  · cases ps with
    | nil =>
      obtain rfl : p = q := by simpa using hq
      have hm0 : m = [] := by
        have : ofE [⟨p.1, s⟩] [] = [⟨p.1, s⟩] := rfl
        rw [this] at g1
        have := congrArg List.length g1
        simp only [List.length_append] at this
        exact List.eq_nil_of_length_eq_zero (by omega)
      subst hm0
      exact ⟨⟨p.1, s⟩, rfl, rfl⟩
    | cons r ps =>
      rw [List.getLast?_cons_cons] at hq
      exact g4 q hq
theorem meet_parted {l ma mb : List Ep} {y : Ep} {n aEnd bEnd : Int} (ha : okE (l ++ ma) = true) (hb : okE (l ++ mb) = true) (hy : l.getLast? = some y) (hd : ∀ z ∈ ma, ∀ u ∈ mb, z.ep ≠ u.ep) (hna : nx ma aEnd = n) (hnb : nx mb bEnd = n) :
    meetE (l ++ ma) aEnd (l ++ mb) bEnd = n := by
  obtain ⟨k, hk⟩ := List.getLast?_eq_some_iff.1 hy
  have hi : l[k.length]? = some y := by rw [hk, List.getElem?_append_right (Nat.le_refl _), Nat.sub_self]; rfl
  have hlen : l.length = k.length + 1 := by rw [hk]; simp
  have hlt : k.length < l.length := by omega
  have ga : (l ++ ma)[k.length]? = some y := by rw [List.getElem?_append_left hlt]; exact hi
  have gb : (l ++ mb)[k.length]? = some y := by rw [List.getElem?_append_left hlt]; exact hi
  have hup : ∀ (m : List Ep), okE (l ++ m) = true → ∀ z ∈ m, y.ep < z.ep := by
    intro m hm z hz
    obtain ⟨j, hj⟩ := List.mem_iff_getElem?.1 hz
    have h1 : (l ++ m)[k.length]? = some y := by rw [List.getElem?_append_left hlt]; exact hi
    have h2 : (l ++ m)[l.length + j]? = some z := by rw [List.getElem?_append_right (by omega), Nat.add_sub_cancel_left]; exact hj
    exact (upE_at hm (by omega) h1 h2).1
  have hle : ∀ z ∈ l, z.ep ≤ y.ep := by
    intro z hz
    obtain ⟨j, hj⟩ := List.mem_iff_getElem?.1 hz
    have hjl := (List.getElem?_eq_some_iff.1 hj).1
    have h2 : (l ++ ma)[j]? = some z := by rw [List.getElem?_append_left hjl]; exact hj
    rcases Nat.lt_or_ge j k.length with h | h
    · have := (upE_at ha h h2 ga).1; omega
    · have : j = k.length := by omega
      subst this
      rw [hi] at hj
      obtain rfl := Option.some.inj hj
      exact Int.le_refl _
  have hM : Meets (l ++ ma) aEnd (l ++ mb) bEnd n := by
    refine .inr ⟨k.length, k.length, y, y, ga, gb, rfl, fun z hz u hu he => ?_, ?_⟩
    · rcases List.mem_append.1 hz with hz | hz
      · exact hle z hz
      · rcases List.mem_append.1 hu with hu | hu
        · have := hup ma ha z hz; have := hle u hu; omega
        · exact absurd he (hd z hz u hu)
    · rw [← hlen, List.drop_left, List.drop_left, hna, hnb]
      omega
  exact Meets.one ha hb (meetE_is ha hb _ _) hM
theorem meet_apart {a b : List Ep} {aEnd bEnd : Int} (hd : ∀ z ∈ a, ∀ u ∈ b, z.ep ≠ u.ep) : meetE a aEnd b bEnd = 0 := by
  by_cases h : okE a = true ∧ okE b = true
  · rcases meetE_is h.1 h.2 aEnd bEnd with ⟨_, h1⟩ | ⟨i, j, x, y, h1, h2, h3, _⟩
    · exact h1
    · exact absurd h3 (hd x (List.mem_of_getElem? h1) y (List.mem_of_getElem? h2))
  · unfold meetE
    rw [if_neg h]
end Go.Proofs.Ytmjnleohchmadaa.Epo
