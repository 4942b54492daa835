/- Joined: IdxMath. -/
import Derived.Test.YtbnkfljkojhkoaaGreatDoorJSegM
/- The plain mathematics of layer 8: entries of a segment's batches. Nothing of the program. -/
namespace Go.Proofs.YtbnkfljkojhkoaaGreatDoor.Idx
open Oct Rec Crc Bat Seg

structure En where
  off : Int
  pos : Int
  stamp : Int
deriving DecidableEq
def mx (m : Int) : List Rc → Int
  | [] => m
  | r :: l => mx (max m r.stamp) l
theorem mx_snoc (m : Int) (l : List Rc) (r : Rc) : mx m (l ++ [r]) = max (mx m l) r.stamp := by
  induction l generalizing m with
  | nil => rfl
  | cons x l ih => exact ih _
theorem mx_ge (m : Int) (l : List Rc) : m ≤ mx m l ∧ ∀ r ∈ l, r.stamp ≤ mx m l := by
  induction l generalizing m with
  | nil => exact ⟨Int.le_refl _, by simp⟩
  | cons x l ih =>
    obtain ⟨h1, h2⟩ := ih (max m x.stamp)
    refine ⟨by show m ≤ mx (max m x.stamp) l; omega, fun r hr => ?_⟩
    rcases List.mem_cons.1 hr with rfl | hr
    · show r.stamp ≤ mx (max m r.stamp) l; omega
    · exact h2 r hr
def ents (pos most : Int) : List Bt → List En
  | [] => []
  | b :: bs => ⟨b.base, pos, mx most b.recs⟩ :: ents (pos + (byB b).length) (mx most b.recs) bs
def endP (pos : Int) : List Bt → Int
  | [] => pos
  | b :: bs => endP (pos + (byB b).length) bs
def endM (most : Int) : List Bt → Int
  | [] => most
  | b :: bs => endM (mx most b.recs) bs
theorem endP_is (pos : Int) (bs : List Bt) : endP pos bs = pos + (byR bs).length := by
  induction bs generalizing pos with
  | nil => rw [byR_nil]; simp [endP]
  | cons b bs ih =>
    show endP _ bs = _
    rw [ih, byR_cons, List.length_append]
    omega
theorem ents_app (pos most : Int) (bs cs : List Bt) : ents pos most (bs ++ cs) = ents pos most bs ++ ents (endP pos bs) (endM most bs) cs := by
  induction bs generalizing pos most with
  | nil => rfl
  | cons b bs ih => show _ :: ents _ _ (bs ++ cs) = _ :: (ents _ _ bs ++ _); rw [ih]; rfl
theorem ents_len (pos most : Int) (bs : List Bt) : (ents pos most bs).length = bs.length := by
  induction bs generalizing pos most with
  | nil => rfl
  | cons b bs ih => show (ents _ _ bs).length + 1 = bs.length + 1; rw [ih]
theorem ents_at {pos most : Int} {bs : List Bt} {k : Nat} {b : Bt} (h : bs[k]? = some b) : (ents pos most bs)[k]? = some ⟨b.base, endP pos (bs.take k), mx (endM most (bs.take k)) b.recs⟩ := by
  induction bs generalizing pos most k with
  | nil => simp at h
  | cons c bs ih =>
    cases k with
    | zero => obtain rfl : c = b := by simpa using h
              rfl
    | succ k =>
      rw [List.getElem?_cons_succ] at h
      show (ents _ _ bs)[k]? = _
      rw [ih h]
      rfl
theorem by17 (b : Bt) : 17 ≤ (byB b).length := by have := body_pos b; rw [byB_length]; omega
theorem ents_mem {pos most : Int} {bs : List Bt} {x : En} (h : x ∈ ents pos most bs) : pos ≤ x.pos ∧ x.pos < endP pos bs ∧ most ≤ x.stamp ∧ x.stamp ≤ endM most bs := by
  induction bs generalizing pos most with
  | nil => cases h
  | cons b bs ih =>
    have h17 := by17 b
    have hm := (mx_ge most b.recs).1
    have hp : ∀ (p : Int) (l : List Bt), p ≤ endP p l := fun p l => by rw [endP_is]; omega
    have hq : ∀ (m : Int) (l : List Bt), m ≤ endM m l := by
      intro m l
      induction l generalizing m with
      | nil => exact Int.le_refl _
      | cons c l i2 => exact Int.le_trans (mx_ge m c.recs).1 (i2 _)
    rcases List.mem_cons.1 h with rfl | h
    · have := hp (pos + (byB b).length) bs
      have := hq (mx most b.recs) bs
      exact ⟨Int.le_refl _, by show pos < endP _ bs; omega, hm, this⟩
    · obtain ⟨i1, i2, i3, i4⟩ := ih h
      exact ⟨by omega, i2, by omega, i4⟩
def pick (every : Int) : Option Int → List En → List En
  | _, [] => []
  | none, x :: l => x :: pick every (some x.pos) l
  | some p, x :: l => if every ≤ x.pos - p then x :: pick every (some x.pos) l else pick every (some p) l
def lastP (every : Int) : Option Int → List En → Option Int
  | o, [] => o
  | none, x :: l => lastP every (some x.pos) l
  | some p, x :: l => if every ≤ x.pos - p then lastP every (some x.pos) l else lastP every (some p) l
theorem pick_snoc (every : Int) (o : Option Int) (l : List En) (x : En) : pick every o (l ++ [x]) = pick every o l ++ pick every (lastP every o l) [x] := by
  induction l generalizing o with
  | nil => rfl
  | cons y l ih =>
    rw [List.cons_append]
    cases o with
    | none => show y :: pick every (some y.pos) (l ++ [x]) = _; rw [ih]; rfl
    | some p =>
      by_cases h : every ≤ y.pos - p
      · have e1 : pick every (some p) (y :: (l ++ [x])) = y :: pick every (some y.pos) (l ++ [x]) := by conv => lhs; unfold pick; rw [if_pos h]
        have e2 : pick every (some p) (y :: l) = y :: pick every (some y.pos) l := by conv => lhs; unfold pick; rw [if_pos h]
        have e3 : lastP every (some p) (y :: l) = lastP every (some y.pos) l := by conv => lhs; unfold lastP; rw [if_pos h]
        rw [e1, e2, e3, ih]
        rfl
      · have e1 : pick every (some p) (y :: (l ++ [x])) = pick every (some p) (l ++ [x]) := by conv => lhs; unfold pick; rw [if_neg h]
        have e2 : pick every (some p) (y :: l) = pick every (some p) l := by conv => lhs; unfold pick; rw [if_neg h]
        have e3 : lastP every (some p) (y :: l) = lastP every (some p) l := by conv => lhs; unfold lastP; rw [if_neg h]
        rw [e1, e2, e3, ih]
theorem pick_sub (every : Int) (o : Option Int) (l : List En) : (pick every o l).Sublist l := by
  induction l generalizing o with
  | nil => cases o <;> exact List.Sublist.refl _
  | cons y l ih =>
    cases o with
    | none => exact (ih _).cons_cons _
    | some p =>
      unfold pick
      by_cases h : every ≤ y.pos - p
      · rw [if_pos h]; exact (ih _).cons_cons _
      · rw [if_neg h]; exact (ih _).cons _
def isIx : Bool → List En → List En → Bool
  | _, [], l => l.isEmpty
  | true, _ :: _, [] => false
  | true, x :: a, y :: l => if y = x then isIx false a l else false
  | false, _ :: a, [] => isIx false a []
  | false, x :: a, y :: l => if y = x then isIx false a l else isIx false a (y :: l)
theorem isIx_nil (a : List En) : isIx false a [] = true := by
  induction a with
  | nil => rfl
  | cons x a ih => exact ih
theorem isIx_sub {a l : List En} (h : isIx false a l = true) : l.Sublist a := by
  induction a generalizing l with
  | nil => cases l with
    | nil => exact List.Sublist.refl _
    | cons y l => cases h
  | cons x a ih =>
    cases l with
    | nil => exact List.nil_sublist _
    | cons y l =>
      unfold isIx at h
      by_cases hy : y = x
      · rw [if_pos hy] at h; subst hy; exact (ih h).cons_cons _
      · rw [if_neg hy] at h; exact (ih h).cons _
theorem isIx_of_sub {a l : List En} (h : l.Sublist a) : isIx false a l = true := by
  induction a generalizing l with
  | nil => rw [List.sublist_nil.1 h]; rfl
  | cons x a ih =>
    cases l with
    | nil => exact isIx_nil _
    | cons y l =>
      unfold isIx
      by_cases hy : y = x
      · rw [if_pos hy]
        subst hy
        exact ih (List.cons_sublist_cons.1 h)
      · rw [if_neg hy]
        refine ih ?_
        cases h with
        | cons _ h => exact h
        | cons_cons => exact absurd rfl hy
theorem isIx_first {x : En} {a l : List En} : isIx true (x :: a) l = true ↔ ∃ m, l = x :: m ∧ m.Sublist a := by
  cases l with
  | nil => constructor
           · intro h; cases h
           · rintro ⟨m, h, _⟩; cases h
  | cons y l =>
    unfold isIx
    by_cases hy : y = x
    · rw [if_pos hy]
      subst hy
      constructor
      · intro h; exact ⟨l, rfl, isIx_sub h⟩
      · rintro ⟨m, h, h2⟩
        injection h with _ h
        subst h
        exact isIx_of_sub h2
    · rw [if_neg hy]
      constructor
      · intro h; cases h
      · rintro ⟨m, h, h2⟩
        injection h with h _
        exact absurd h hy
def allE (s : Sg) : List En := ents 0 (-1) (batS s)
def rightX (s : Sg) : Bool := wholeS s && decide (s.bytes.length ≤ 4096)
def makeX (s : Sg) (every : Int) : List En × Int := if rightX s = false ∨ every < 1 ∨ 4096 < every then ([], 1) else (pick every none (allE s), 0)
def ckX (s : Sg) (l : List En) : Int := if rightX s = true ∧ isIx true (allE s) l = true then 0 else 1
def floorX (off : Int) : Int → List En → Int
  | p, [] => p
  | p, x :: l => floorX off (if x.off ≤ off then x.pos else p) l
def whenX (stamp : Int) : Int → List En → Int
  | p, [] => p
  | p, x :: l => whenX stamp (if x.stamp < stamp then x.pos else p) l
def findX (s : Sg) (l : List En) (off : Int) : Bt × Int :=
  if ckX s l ≠ 0 then (nilB, ckX s l) else match (batS s).find? fun b => decide (off ≤ b.last) with
    | none => (nilB, 90)
    | some b => (b, 0)
def sinceX (s : Sg) (l : List En) (stamp : Int) : Int × Int :=
  if ckX s l ≠ 0 then (0, ckX s l) else match ((batS s).flatMap fun b => b.recs).find? fun r => decide (stamp ≤ r.stamp) with
    | none => (0, 90)
    | some r => (r.off, 0)
theorem floorX_mem (off p : Int) (l : List En) : floorX off p l = p ∨ ∃ x ∈ l, x.off ≤ off ∧ floorX off p l = x.pos := by
  induction l generalizing p with
  | nil => exact .inl rfl
  | cons x l ih =>
    show floorX off (if x.off ≤ off then x.pos else p) l = p ∨ _
    by_cases h : x.off ≤ off
    · rw [if_pos h]
      rcases ih x.pos with h1 | ⟨y, h1, h2, h3⟩
      · exact .inr ⟨x, by simp, h, by show floorX off (if x.off ≤ off then x.pos else p) l = _; rw [if_pos h]; exact h1⟩
      · exact .inr ⟨y, by simp [h1], h2, by show floorX off (if x.off ≤ off then x.pos else p) l = _; rw [if_pos h]; exact h3⟩
    · rw [if_neg h]
      rcases ih p with h1 | ⟨y, h1, h2, h3⟩
      · exact .inl h1
      · exact .inr ⟨y, by simp [h1], h2, by show floorX off (if x.off ≤ off then x.pos else p) l = _; rw [if_neg h]; exact h3⟩
theorem whenX_mem (st p : Int) (l : List En) : whenX st p l = p ∨ ∃ x ∈ l, x.stamp < st ∧ whenX st p l = x.pos := by
  induction l generalizing p with
  | nil => exact .inl rfl
  | cons x l ih =>
    show whenX st (if x.stamp < st then x.pos else p) l = p ∨ _
    by_cases h : x.stamp < st
    · rw [if_pos h]
      rcases ih x.pos with h1 | ⟨y, h1, h2, h3⟩
      · exact .inr ⟨x, by simp, h, by show whenX st (if x.stamp < st then x.pos else p) l = _; rw [if_pos h]; exact h1⟩
      · exact .inr ⟨y, by simp [h1], h2, by show whenX st (if x.stamp < st then x.pos else p) l = _; rw [if_pos h]; exact h3⟩
    · rw [if_neg h]
      rcases ih p with h1 | ⟨y, h1, h2, h3⟩
      · exact .inl h1
      · exact .inr ⟨y, by simp [h1], h2, by show whenX st (if x.stamp < st then x.pos else p) l = _; rw [if_neg h]; exact h3⟩
theorem makeX_good {s : Sg} {every : Int} {l : List En} (h : makeX s every = (l, 0)) : rightX s = true ∧ (1 ≤ every ∧ every ≤ 4096) ∧ l = pick every none (allE s) := by
  unfold makeX at h
  by_cases h1 : rightX s = false ∨ every < 1 ∨ 4096 < every
  · rw [if_pos h1] at h; injection h with _ h; cases h
  · rw [if_neg h1] at h
    refine ⟨?_, by omega, (congrArg Prod.fst h).symm⟩
    cases hr : rightX s
    · exact absurd (.inl hr) h1
    · rfl
theorem isIx_pick {every : Int} {a : List En} : isIx true a (pick every none a) = true := by
  cases a with
  | nil => rfl
  | cons x a => exact isIx_first.2 ⟨_, rfl, pick_sub _ _ _⟩
theorem ckX_make {s : Sg} {every : Int} {l : List En} (h : makeX s every = (l, 0)) : ckX s l = 0 := by
  obtain ⟨h1, h2, rfl⟩ := makeX_good h
  unfold ckX
  rw [if_pos ⟨h1, isIx_pick⟩]
theorem mem_ents {pos most : Int} {bs : List Bt} {x : En} (h : x ∈ ents pos most bs) : ∃ k b, bs[k]? = some b ∧ x = ⟨b.base, endP pos (bs.take k), mx (endM most (bs.take k)) b.recs⟩ := by
  obtain ⟨k, hk⟩ := List.mem_iff_getElem?.1 h
  have hlt := (List.getElem?_eq_some_iff.1 hk).1
  rw [ents_len] at hlt
  have hb : bs[k]? = some bs[k] := List.getElem?_eq_getElem hlt
  rw [ents_at hb] at hk
  exact ⟨k, bs[k], hb, (Option.some.inj hk).symm⟩
theorem endM_take {most : Int} {bs : List Bt} {j k : Nat} {b : Bt} (hj : j < k) (hb : bs[j]? = some b) : ∀ r ∈ b.recs, r.stamp ≤ endM most (bs.take k) := by
  have hq : ∀ (m : Int) (l : List Bt), m ≤ endM m l := by
    intro m l
    induction l generalizing m with
    | nil => exact Int.le_refl _
    | cons c l i2 => exact Int.le_trans (mx_ge m c.recs).1 (i2 _)
  induction bs generalizing most j k with
  | nil => simp at hb
  | cons c bs ih =>
    cases k with
    | zero => omega
    | succ k =>
      rw [List.take_succ_cons]
      show ∀ r ∈ b.recs, r.stamp ≤ endM (mx most c.recs) (bs.take k)
      cases j with
      | zero =>
        obtain rfl : c = b := by simpa using hb
        intro r hr
        exact Int.le_trans ((mx_ge most c.recs).2 r hr) (hq _ _)
      | succ j =>
        exact ih (j := j) (k := k) (by omega) (by simpa using hb)
theorem ris_last {lo : Int} {bs : List Bt} (h : ris lo bs = true) {j k : Nat} {a b : Bt} (hj : j < k) (ha : bs[j]? = some a) (hb : bs[k]? = some b) : a.last < b.base := by
  have e : bs = bs.take k ++ bs.drop k := (List.take_append_drop k bs).symm
  induction bs generalizing lo j k with
  | nil => simp at ha
  | cons c bs ih =>
    obtain ⟨⟨h1, h2⟩, h3⟩ := ris_cons.1 h
    cases k with
    | zero => omega
    | succ k =>
      have hb' : bs[k]? = some b := by simpa using hb
      cases j with
      | zero =>
        obtain rfl : c = a := by simpa using ha
        have : ∀ (lo : Int) (l : List Bt) (k : Nat), ris lo l = true → l[k]? = some b → lo ≤ b.base := by
          intro lo l
          induction l generalizing lo with
          | nil => intro k _ hk; simp at hk
          | cons x l i2 =>
            intro k hr hk
            obtain ⟨⟨g1, g2⟩, g3⟩ := ris_cons.1 hr
            cases k with
            | zero => obtain rfl : x = b := by simpa using hk
                      exact g2
            | succ k =>
              have := i2 _ k g3 (by simpa using hk)
              have := chB_last g1
              omega
        have := this _ bs k h3 hb'
        omega
      | succ j => exact ih h3 (j := j) (k := k) (by omega) (by simpa using ha) hb' (List.take_append_drop k bs).symm
theorem allE_right {s : Sg} (h : rightX s = true) : ris s.base (batS s) = true ∧ s.bytes = byR (batS s) ∧ s.bytes.length ≤ 4096 := by
  unfold rightX at h
  rw [Bool.and_eq_true, decide_eq_true_eq] at h
  exact ⟨(sc_good s.base s.bytes).1, (wholeS_iff.1 h.1).2, h.2⟩
theorem pick_all {o : Option Int} {pos most : Int} {bs : List Bt} (ho : ∀ p, o = some p → p < pos) : pick 1 o (ents pos most bs) = ents pos most bs := by
  induction bs generalizing o pos most with
  | nil => cases o <;> rfl
  | cons b bs ih =>
    have h17 := by17 b
    have i := ih (o := some pos) (pos := pos + (byB b).length) (most := mx most b.recs) (by intro p hp; injection hp with hp; omega)
    show pick 1 o (⟨b.base, pos, mx most b.recs⟩ :: ents (pos + (byB b).length) (mx most b.recs) bs) = _ :: _
    cases o with
    | none => show _ :: pick 1 (some pos) _ = _; rw [i]
    | some p =>
      have := ho p rfl
      conv => lhs; unfold pick
      rw [if_pos (by show 1 ≤ pos - p; omega)]
      show _ :: pick 1 (some pos) _ = _
      rw [i]
theorem make_all {s : Sg} (h : rightX s = true) : makeX s 1 = (allE s, 0) := by
  unfold makeX
  rw [if_neg (by rw [h]; simp)]
  unfold allE
  rw [pick_all (by intro p hp; cases hp)]
def Spread (every : Int) : List En → Prop
  | [] => True
  | [_] => True
  | x :: y :: l => (every ≤ y.pos - x.pos ∧ x.off < y.off ∧ x.stamp ≤ y.stamp) ∧ Spread every (y :: l)
end Go.Proofs.YtbnkfljkojhkoaaGreatDoor.Idx
