/- Joined: SegMath, SegMath2. -/
import Derived.Test.YtejcjmiofidedaaGreatDoorJBatA
import Derived.Test.YtejcjmiofidedaaGreatDoorJRow
/- The plain mathematics of layer 7: a segment's batches. Nothing of the program. -/
namespace Go.Proofs.YtejcjmiofidedaaGreatDoor.Seg
open Oct Rec Crc Bat

theorem hasB_drop {l : List UInt8} {k : Nat} (h : k ≤ l.length) : hasB l.length (k : Int) 4 = hasB (l.drop k).length 0 4 := by
  unfold hasB
  rw [List.length_drop]
  exact decide_eq_decide.2 ⟨fun h => by omega, fun h => by omega⟩
theorem gt_drop {l : List UInt8} {k : Nat} (h : k ≤ l.length) : gt l (k : Int) 4 = gt (l.drop k) 0 4 := by
  have h1 : ¬ (isW 4 = false ∨ (k : Int) < 0) := by simp [isW]
  have h2 : ¬ (isW 4 = false ∨ (0 : Int) < 0) := by simp [isW]
  unfold gt
  rw [if_neg h1, if_neg h2, hasB_drop h]
  rfl
theorem grB_drop {l : List UInt8} {k : Nat} (h : k ≤ l.length) : grB l (k : Int) = if (grB (l.drop k) 0).2.2 = 0 then ((grB (l.drop k) 0).1, (k : Int) + (grB (l.drop k) 0).2.1, 0) else (nilB, 0, (grB (l.drop k) 0).2.2) := by
  obtain ⟨g, hg⟩ : ∃ g, g = gt (l.drop k) 0 4 := ⟨_, rfl⟩
  have hg2 : gt l (k : Int) 4 = g := by rw [hg, gt_drop h]
  by_cases h1 : g.2 = 0
  case neg =>
    have e0 : grB (l.drop k) 0 = (nilB, 0, g.2) := by unfold grB; rw [← hg, if_pos h1]
    have e1 : grB l (k : Int) = (nilB, 0, g.2) := by unfold grB; rw [hg2, if_pos h1]
    rw [e0, e1, if_neg h1]
  have h1' : ¬ g.2 ≠ 0 := by simpa using h1
  by_cases h2 : g.1 < 5 ∨ 2044 < g.1
  · have e0 : grB (l.drop k) 0 = (nilB, 0, 11) := by unfold grB; rw [← hg, if_neg h1', if_pos h2]
    have e1 : grB l (k : Int) = (nilB, 0, 11) := by unfold grB; rw [hg2, if_neg h1', if_pos h2]
    rw [e0, e1]; rfl
  by_cases h3 : (l.length : Int) < (k : Int) + 4 + g.1
  · have h3' : ((l.drop k).length : Int) < (0 : Int) + 4 + g.1 := by rw [List.length_drop]; omega
    have e0 : grB (l.drop k) 0 = (nilB, 0, 10) := by unfold grB; rw [← hg, if_neg h1', if_neg h2, if_pos h3']
    have e1 : grB l (k : Int) = (nilB, 0, 10) := by unfold grB; rw [hg2, if_neg h1', if_neg h2, if_pos h3]
    rw [e0, e1]; rfl
  have h3' : ¬ ((l.drop k).length : Int) < (0 : Int) + 4 + g.1 := by rw [List.length_drop]; omega
  have e : (l.drop k).drop ((0 : Int) + 4).toNat = l.drop ((k : Int) + 4).toNat := by
    rw [List.drop_drop]
    congr 1
  obtain ⟨o, ho⟩ : ∃ o, o = opB ((l.drop ((k : Int) + 4).toNat).take g.1) := ⟨_, rfl⟩
  by_cases h4 : o.2 = 0
  · have h4' : ¬ o.2 ≠ 0 := by simpa using h4
    have e0 : grB (l.drop k) 0 = (o.1, 0 + 4 + (g.1 : Int), 0) := by unfold grB; rw [← hg, if_neg h1', if_neg h2, if_neg h3', e, ← ho, if_neg h4']
    have e1 : grB l (k : Int) = (o.1, (k : Int) + 4 + (g.1 : Int), 0) := by unfold grB; rw [hg2, if_neg h1', if_neg h2, if_neg h3, ← ho, if_neg h4']
    rw [e0, e1, if_pos rfl]
    congr 2
    simp only
    omega
  · have e0 : grB (l.drop k) 0 = (nilB, 0, o.2) := by unfold grB; rw [← hg, if_neg h1', if_neg h2, if_neg h3', e, ← ho, if_pos h4]
    have e1 : grB l (k : Int) = (nilB, 0, o.2) := by unfold grB; rw [hg2, if_neg h1', if_neg h2, if_neg h3, ← ho, if_pos h4]
    rw [e0, e1, if_neg h4]

theorem sc_dec {l : List UInt8} (h : (grB l 0).2.2 = 0) : (l.drop (grB l 0).2.1.toNat).length < l.length := by
  rcases hg : grB l 0 with ⟨b, n, z⟩
  rw [hg] at h
  obtain rfl : z = 0 := h
  have := grB_good hg
  rw [List.length_drop]
  simp only
  omega
def sc (lo : Int) (l : List UInt8) : List Bt × Nat :=
  if _h : (grB l 0).2.2 = 0 ∧ lo ≤ (grB l 0).1.base then
    ((grB l 0).1 :: (sc ((grB l 0).1.last + 1) (l.drop (grB l 0).2.1.toNat)).1, (grB l 0).2.1.toNat + (sc ((grB l 0).1.last + 1) (l.drop (grB l 0).2.1.toNat)).2)
  else ([], 0)
termination_by l.length
decreasing_by all_goals exact sc_dec _h.1
theorem sc_stop {lo : Int} {l : List UInt8} (h : ¬ ((grB l 0).2.2 = 0 ∧ lo ≤ (grB l 0).1.base)) : sc lo l = ([], 0) := by rw [sc, dif_neg h]
theorem sc_step {lo : Int} {l : List UInt8} {b : Bt} {n : Int} (h : grB l 0 = (b, n, 0)) (hb : lo ≤ b.base) : sc lo l = (b :: (sc (b.last + 1) (l.drop n.toNat)).1, n.toNat + (sc (b.last + 1) (l.drop n.toNat)).2) := by
  rw [sc, dif_pos (by rw [h]; exact ⟨rfl, hb⟩), h]
theorem sc_ways (lo : Int) (l : List UInt8) : sc lo l = ([], 0) ∧ ¬ ((grB l 0).2.2 = 0 ∧ lo ≤ (grB l 0).1.base) ∨ ∃ b t, chB b = 0 ∧ lo ≤ b.base ∧ l = byB b ++ t ∧ sc lo l = (b :: (sc (b.last + 1) t).1, (byB b).length + (sc (b.last + 1) t).2) := by
  by_cases h : (grB l 0).2.2 = 0 ∧ lo ≤ (grB l 0).1.base
  case neg => exact .inl ⟨sc_stop h, h⟩
  rcases hg : grB l 0 with ⟨b, n, z⟩
  rw [hg] at h
  obtain ⟨rfl, hb⟩ : z = 0 ∧ lo ≤ b.base := h
  obtain ⟨_, g1, g2, g3, g4⟩ := grB_good hg
  have e0 : (0 : Int).toNat = 0 := rfl
  rw [e0, List.drop_zero, Int.sub_zero] at g4
  have hl : (byB b).length = n.toNat := by rw [g4, List.length_take]; omega
  refine .inr ⟨b, l.drop n.toNat, g3, hb, by rw [g4, List.take_append_drop], ?_⟩
  rw [sc_step hg hb, hl]
def ris : Int → List Bt → Bool
  | _, [] => true
  | lo, b :: bs => decide (chB b = 0 ∧ lo ≤ b.base) && ris (b.last + 1) bs
def endR : Int → List Bt → Int
  | lo, [] => lo
  | _, b :: bs => endR (b.last + 1) bs
theorem ris_cons {lo : Int} {b : Bt} {bs : List Bt} : ris lo (b :: bs) = true ↔ (chB b = 0 ∧ lo ≤ b.base) ∧ ris (b.last + 1) bs = true := by
  unfold ris
  rw [Bool.and_eq_true, decide_eq_true_eq]
  cases bs <;> rfl
theorem chB_last {b : Bt} (h : chB b = 0) : 0 ≤ b.base ∧ b.base ≤ b.last ∧ b.last ≤ 1099511627776 := by
  have hf := (form_iff b).2 (chB_form h).1
  unfold form at hf
  rw [Bool.and_eq_true] at hf
  have := of_decide_eq_true hf.1
  omega
theorem ris_snoc {lo : Int} {bs : List Bt} {b : Bt} : ris lo (bs ++ [b]) = true ↔ ris lo bs = true ∧ chB b = 0 ∧ endR lo bs ≤ b.base := by
  induction bs generalizing lo with
  | nil =>
    show ris lo [b] = true ↔ _
    rw [ris_cons]
    simp [ris, endR]
  | cons x bs ih =>
    rw [List.cons_append, ris_cons, ris_cons, ih]
    show _ ↔ _ ∧ chB b = 0 ∧ endR (x.last + 1) bs ≤ b.base
    constructor
    · rintro ⟨h1, h2, h3⟩; exact ⟨⟨h1, h2⟩, h3⟩
    · rintro ⟨⟨h1, h2⟩, h3⟩; exact ⟨h1, h2, h3⟩
theorem endR_snoc {lo : Int} {bs : List Bt} {b : Bt} : endR lo (bs ++ [b]) = b.last + 1 := by
  induction bs generalizing lo with
  | nil => rfl
  | cons x bs ih => rw [List.cons_append]; exact ih
theorem ris_app {lo : Int} {bs cs : List Bt} : ris lo (bs ++ cs) = true ↔ ris lo bs = true ∧ ris (endR lo bs) cs = true := by
  induction bs generalizing lo with
  | nil => simp [ris, endR]
  | cons x bs ih =>
    rw [List.cons_append, ris_cons, ris_cons, ih]
    show _ ↔ _ ∧ ris (endR (x.last + 1) bs) cs = true
    constructor
    · rintro ⟨h1, h2, h3⟩; exact ⟨⟨h1, h2⟩, h3⟩
    · rintro ⟨⟨h1, h2⟩, h3⟩; exact ⟨h1, h2, h3⟩
theorem byR_cons (b : Bt) (bs : List Bt) : byR (b :: bs) = byB b ++ byR bs := by unfold byR; rw [List.flatMap_cons]
theorem byR_app (bs cs : List Bt) : byR (bs ++ cs) = byR bs ++ byR cs := by unfold byR; rw [List.flatMap_append]
theorem sc_put {lo : Int} {bs : List Bt} (h : ris lo bs = true) (t : List UInt8) : sc lo (byR bs ++ t) = (bs ++ (sc (endR lo bs) t).1, (byR bs).length + (sc (endR lo bs) t).2) := by
  induction bs generalizing lo with
  | nil => rw [byR_nil, List.nil_append]; show sc lo t = ((sc lo t).1, 0 + (sc lo t).2); rw [Nat.zero_add]
  | cons b bs ih =>
    obtain ⟨⟨h1, h2⟩, h3⟩ := ris_cons.1 h
    have g := grB_at h1 [] (byR bs ++ t)
    rw [List.nil_append, List.length_nil] at g
    have e : byR (b :: bs) ++ t = byB b ++ (byR bs ++ t) := by rw [byR_cons, List.append_assoc]
    have e0 : ((0 : Nat) : Int) = 0 := rfl
    rw [e0, Int.zero_add] at g
    rw [e, sc_step g h2, Int.toNat_natCast, List.drop_left, ih h3]
    show (b :: (bs ++ (sc (endR (b.last + 1) bs) t).1), _) = (b :: bs ++ (sc (endR (b.last + 1) bs) t).1, _)
    rw [byR_cons, List.length_append, Nat.add_assoc]
    rfl
theorem sc_nil (lo : Int) : sc lo [] = ([], 0) := by
  refine sc_stop fun h => ?_
  have := grB_end []
  rw [List.length_nil] at this
  have e0 : ((0 : Nat) : Int) = 0 := rfl
  rw [e0] at this
  rw [this] at h
  exact absurd h.1 (by decide)
theorem sc_whole {lo : Int} {bs : List Bt} (h : ris lo bs = true) : sc lo (byR bs) = (bs, (byR bs).length) := by
  have := sc_put h []
  rw [sc_nil, List.append_nil, List.append_nil] at this
  exact this
theorem sc_good (lo : Int) (l : List UInt8) : ris lo (sc lo l).1 = true ∧ (sc lo l).2 = (byR (sc lo l).1).length ∧ l = byR (sc lo l).1 ++ l.drop (sc lo l).2 ∧ (sc lo l).2 ≤ l.length ∧ sc (endR lo (sc lo l).1) (l.drop (sc lo l).2) = ([], 0) := by
  induction hn : l.length using Nat.strongRecOn generalizing l lo with
  | ind n ih =>
    subst hn
    rcases sc_ways lo l with ⟨h, h2⟩ | ⟨b, t, h1, h2, h3, h4⟩
    · rw [h]; exact ⟨rfl, rfl, rfl, Nat.zero_le _, h⟩
    · have hlen : t.length < l.length := by
        have := byB_length b
        rw [h3, List.length_append]
        omega
      obtain ⟨i1, i2, i3, i4, i5⟩ := ih _ hlen (b.last + 1) t rfl
      rw [h4]
      have e : l.drop ((byB b).length + (sc (b.last + 1) t).2) = t.drop (sc (b.last + 1) t).2 := by
        rw [h3, ← List.drop_drop, List.drop_left]
      refine ⟨ris_cons.2 ⟨⟨h1, h2⟩, i1⟩, by rw [byR_cons, List.length_append, i2], ?_, ?_, ?_⟩
      · simp only
        rw [e, byR_cons, List.append_assoc, ← i3]
        exact h3
      · simp only
        rw [h3, List.length_append]
        omega
      · simp only
        rw [e]
        exact i5
/-! ### segments -/
structure Sg where
  base : Int
  bytes : List UInt8
def nilS : Sg := ⟨0, []⟩
def batS (s : Sg) : List Bt := (sc s.base s.bytes).1
def goodS (s : Sg) : Nat := (sc s.base s.bytes).2
def endS (s : Sg) : Int := endR s.base (batS s)
def wholeS (s : Sg) : Bool := decide (0 ≤ s.base ∧ s.base ≤ 1099511627776 ∧ goodS s = s.bytes.length)
def newS (base : Int) : Sg × Int := if base < 0 ∨ 1099511627776 < base then (nilS, 1) else (⟨base, []⟩, 0)
def apS (s : Sg) (b : Bt) (limit : Int) : Sg × Int :=
  if wholeS s = false ∨ limit < 1 ∨ 4096 < limit then (nilS, 1)
  else if chB b ≠ 0 then (nilS, chB b)
  else if b.base < endS s then (nilS, 71)
  else if limit < (s.bytes.length : Int) + (byB b).length then (nilS, 70)
  else (⟨s.base, s.bytes ++ byB b⟩, 0)
def allS (limit : Int) : Sg → List Bt → Sg × Int
  | s, [] => (s, 0)
  | s, b :: bs => if (apS s b limit).2 ≠ 0 then (nilS, (apS s b limit).2) else allS limit (apS s b limit).1 bs
def ofS (base : Int) (bs : List Bt) (limit : Int) : Sg × Int :=
  if (newS base).2 ≠ 0 ∨ limit < 1 ∨ 4096 < limit then (nilS, 1) else allS limit (newS base).1 bs
def ahead (off : Int) : List Bt → List Bt
  | [] => []
  | b :: bs => if off ≤ b.last then [] else b :: ahead off bs
def cutS (s : Sg) (off : Int) : Sg := ⟨s.base, byR (ahead off (batS s))⟩
def fixS (s : Sg) : Sg × Int := (⟨s.base, s.bytes.take (goodS s)⟩, (s.bytes.length : Int) - goodS s)
theorem wholeS_iff {s : Sg} : wholeS s = true ↔ (0 ≤ s.base ∧ s.base ≤ 1099511627776) ∧ s.bytes = byR (batS s) := by
  obtain ⟨h1, h2, h3, h4, h5⟩ := sc_good s.base s.bytes
  unfold wholeS
  rw [decide_eq_true_eq]
  constructor
  · rintro ⟨g1, g2, g3⟩
    refine ⟨⟨g1, g2⟩, ?_⟩
    unfold goodS at g3
    rw [g3, List.drop_length, List.append_nil] at h3
    exact h3
  · rintro ⟨⟨g1, g2⟩, g3⟩
    refine ⟨g1, g2, ?_⟩
    unfold goodS
    rw [h2]
    conv => rhs; rw [g3]
    rfl
theorem batS_put {base : Int} {bs : List Bt} (h : ris base bs = true) : batS ⟨base, byR bs⟩ = bs ∧ goodS ⟨base, byR bs⟩ = (byR bs).length ∧ endS ⟨base, byR bs⟩ = endR base bs := by
  have e := sc_whole h
  refine ⟨?_, ?_, ?_⟩
  · unfold batS; rw [e]
  · unfold goodS; rw [e]
  · unfold endS batS; rw [e]
theorem apS_good {s x : Sg} {b : Bt} {limit : Int} (h : apS s b limit = (x, 0)) : wholeS s = true ∧ (1 ≤ limit ∧ limit ≤ 4096) ∧ chB b = 0 ∧ endS s ≤ b.base ∧ (s.bytes.length : Int) + (byB b).length ≤ limit ∧ x = ⟨s.base, s.bytes ++ byB b⟩ ∧ wholeS x = true ∧ batS x = batS s ++ [b] := by
  unfold apS at h
  by_cases h1 : wholeS s = false ∨ limit < 1 ∨ 4096 < limit
  · rw [if_pos h1] at h; injection h with _ h; cases h
  rw [if_neg h1] at h
  have h1a : wholeS s = true := by
    cases hw : wholeS s
    · exact absurd (.inl hw) h1
    · rfl
  by_cases h2 : chB b ≠ 0
  · rw [if_pos h2] at h; exact absurd (congrArg Prod.snd h) h2
  rw [if_neg h2] at h
  have h2' : chB b = 0 := by omega
  by_cases h3 : b.base < endS s
  · rw [if_pos h3] at h; injection h with _ h; cases h
  rw [if_neg h3] at h
  by_cases h4 : limit < (s.bytes.length : Int) + (byB b).length
  · rw [if_pos h4] at h; injection h with _ h; cases h
  rw [if_neg h4] at h
  obtain rfl : _ = x := congrArg Prod.fst h
  obtain ⟨w1, w2⟩ := wholeS_iff.1 h1a
  have hr : ris s.base (batS s ++ [b]) = true := ris_snoc.2 ⟨(sc_good s.base s.bytes).1, h2', by unfold endS at h3; omega⟩
  have hb := batS_put hr
  have e : byR (batS s ++ [b]) = s.bytes ++ byB b := by rw [byR_app, byR_cons, byR_nil, List.append_nil, ← w2]
  rw [e] at hb
  exact ⟨h1a, by omega, h2', by omega, by omega, rfl, wholeS_iff.2 ⟨w1, by show s.bytes ++ byB b = byR (batS ⟨s.base, s.bytes ++ byB b⟩); rw [hb.1, e]⟩, hb.1⟩
theorem apS_bad {s x : Sg} {b : Bt} {limit e : Int} (h : apS s b limit = (x, e)) (he : e ≠ 0) : x = nilS := by
  unfold apS at h
  repeat' split at h
  all_goals (simp only [Prod.mk.injEq] at h; first | exact h.1.symm | exact absurd h.2.symm he)
theorem allS_cons {limit : Int} {s : Sg} {b : Bt} {bs : List Bt} : allS limit s (b :: bs) = if (apS s b limit).2 ≠ 0 then (nilS, (apS s b limit).2) else allS limit (apS s b limit).1 bs := rfl
theorem allS_app {limit : Int} {s : Sg} {bs cs : List Bt} : allS limit s (bs ++ cs) = if (allS limit s bs).2 ≠ 0 then (nilS, (allS limit s bs).2) else allS limit (allS limit s bs).1 cs := by
  induction bs generalizing s with
  | nil => show allS limit s cs = if (0 : Int) ≠ 0 then _ else allS limit s cs; rw [if_neg (by simp)]
  | cons b bs ih =>
    rw [List.cons_append, allS_cons, allS_cons]
    by_cases h1 : (apS s b limit).2 ≠ 0
    · rw [if_pos h1, if_pos h1, if_pos h1]
    · rw [if_neg h1, if_neg h1]
      exact ih
theorem batS_fix (s : Sg) : batS (fixS s).1 = batS s ∧ goodS (fixS s).1 = goodS s ∧ (fixS s).1.bytes = byR (batS s) ∧ endS (fixS s).1 = endS s := by
  obtain ⟨h1, h2, h3, h4, h5⟩ := sc_good s.base s.bytes
  have e : (fixS s).1.bytes = byR (batS s) := by
    show s.bytes.take (goodS s) = _
    unfold goodS batS
    have h6 := congrArg (List.take (sc s.base s.bytes).2) h3
    rw [List.take_left' h2.symm] at h6
    exact h6
  have hb := batS_put h1
  have e2 : (fixS s).1 = ⟨s.base, byR (batS s)⟩ := by rw [← e]; rfl
  rw [e2]
  exact ⟨hb.1, hb.2.1.trans h2.symm, rfl, hb.2.2⟩
theorem drop_at {l : List Bt} {k : Nat} {b : Bt} (h : l[k]? = some b) : l.drop k = b :: l.drop (k + 1) := by
  obtain ⟨hlt, hr⟩ := List.getElem?_eq_some_iff.1 h
  rw [List.drop_eq_getElem_cons hlt, hr]
end Go.Proofs.YtejcjmiofidedaaGreatDoor.Seg

/- More of the plain mathematics of layer 7, for the laws' walks. Nothing of the program. -/
namespace Go.Proofs.YtejcjmiofidedaaGreatDoor.Seg
open Oct Rec Crc Bat

theorem endR_fin {lo : Int} {l : List Bt} (h : l ≠ []) : ∃ y, l[l.length - 1]? = some y ∧ endR lo l = y.last + 1 := by
  obtain ⟨l', y, rfl⟩ : ∃ l' y, l = l' ++ [y] := ⟨l.dropLast, l.getLast h, (List.dropLast_concat_getLast h).symm⟩
  refine ⟨y, ?_, endR_snoc⟩
  rw [List.length_append, List.length_singleton, Nat.add_sub_cancel, List.getElem?_append_right (Nat.le_refl _), Nat.sub_self]
  rfl
theorem szB_ok {b : Bt} (h : chB b = 0) : szB b = ((byB b).length : Int) := by unfold szB; rw [if_pos h]
theorem of_parts_bad {base limit e : Int} {l m : List Bt} {x : Sg} (h : ofS base l limit = (x, e)) (he : e ≠ 0) : ofS base (l ++ m) limit = (nilS, e) := by
  unfold ofS at h ⊢
  by_cases h1 : (newS base).2 ≠ 0 ∨ limit < 1 ∨ 4096 < limit
  · rw [if_pos h1] at h ⊢
    obtain rfl : (1 : Int) = e := congrArg Prod.snd h
    rfl
  · rw [if_neg h1] at h ⊢
    rw [allS_app, h, if_pos he]
theorem of_good {base limit : Int} {l : List Bt} {x : Sg} (h : ofS base l limit = (x, 0)) : 1 ≤ limit ∧ limit ≤ 4096 ∧ newS base = (⟨base, []⟩, 0) ∧ allS limit ⟨base, []⟩ l = (x, 0) := by
  unfold ofS at h
  by_cases h1 : (newS base).2 ≠ 0 ∨ limit < 1 ∨ 4096 < limit
  · rw [if_pos h1] at h
    exact absurd (congrArg Prod.snd h) (by simp)
  · rw [if_neg h1] at h
    have h2 : newS base = (⟨base, []⟩, 0) := by
      unfold newS at h1 ⊢
      by_cases h3 : base < 0 ∨ 1099511627776 < base
      · rw [if_pos h3] at h1; exact absurd (.inl (by simp)) h1
      · rw [if_neg h3]
    rw [h2] at h
    exact ⟨by omega, by omega, h2, h⟩
theorem all_len {limit : Int} {s x : Sg} {l : List Bt} (h : allS limit s l = (x, 0)) (hs : s.bytes.length ≤ 4096) : x.bytes.length ≤ 4096 ∧ x.base = s.base := by
  induction l generalizing s with
  | nil => obtain rfl : s = x := congrArg Prod.fst h; exact ⟨hs, rfl⟩
  | cons b l ih =>
    rw [allS_cons] at h
    rcases ha : apS s b limit with ⟨y, e⟩
    rw [ha] at h
    by_cases h1 : e ≠ 0
    · rw [if_pos h1] at h; exact absurd (congrArg Prod.snd h) h1
    · rw [if_neg h1] at h
      obtain rfl : e = 0 := by omega
      obtain ⟨_, h2, _, _, h5, h6, _, _⟩ := apS_good ha
      obtain ⟨g1, g2⟩ := ih (s := y) h (by rw [h6]; simp only [List.length_append]; omega)
      exact ⟨g1, by rw [g2, h6]⟩
theorem ap_len {s x : Sg} {b : Bt} {limit e : Int} (h : apS s b limit = (x, e)) : x.bytes.length ≤ 4096 := by
  by_cases he : e = 0
  · subst he
    obtain ⟨_, h2, _, _, h5, h6, _, _⟩ := apS_good h
    rw [h6]
    simp only [List.length_append]
    omega
  · rw [apS_bad h he]
    simp [nilS]
theorem of_len {base limit e : Int} {l : List Bt} {x : Sg} (h : ofS base l limit = (x, e)) : x.bytes.length ≤ 4096 := by
  by_cases he : e = 0
  · subst he
    exact (all_len (of_good h).2.2.2 (by simp)).1
  · have h0 := of_parts_bad (m := []) h he
    rw [List.append_nil, h] at h0
    obtain rfl : x = nilS := congrArg Prod.fst h0
    simp [nilS]
end Go.Proofs.YtejcjmiofidedaaGreatDoor.Seg
