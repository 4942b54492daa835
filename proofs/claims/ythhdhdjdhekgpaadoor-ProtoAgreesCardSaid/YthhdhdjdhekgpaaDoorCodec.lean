/- Joined: Codec. -/
import Derived.Test.YthhdhdjdhekgpaaDoorJRec
/- Fields one behind the other: how they are put, how they are got; what holds of a whole follows from what holds of each field. Nothing of the program. -/
namespace Go.Proofs.YthhdhdjdhekgpaaDoor.Cod
open Go.Proofs.YthhdhdjdhekgpaaDoor.Oct Go.Proofs.YthhdhdjdhekgpaaDoor.Rec

/-- a field: what is got at a place (and where the next one begins), or an error; its bytes; which values there are -/
structure Codec (α : Type) where
  get : List UInt8 → Int → Except Int (α × Int)
  put : α → List UInt8
  may : α → Prop
  back : ∀ (h : List UInt8) (x : α) (t : List UInt8), may x → get (h ++ (put x ++ t)) (h.length : Int) = .ok (x, (h.length : Int) + ((put x).length : Int))
  sole : ∀ (l : List UInt8) (p : Int) (x : α) (q : Int), 0 ≤ p → p ≤ (l.length : Int) → get l p = .ok (x, q) → may x ∧ p ≤ q ∧ q ≤ (l.length : Int) ∧ put x = (l.drop p.toNat).take (q - p).toNat
  short : ∀ (h : List UInt8) (x : α) (k : Nat), may x → k < (put x).length → get (h ++ (put x).take k) (h.length : Int) = .error 10

theorem seg_none (l : List UInt8) (p : Int) : (l.drop p.toNat).take (p - p).toNat = [] := by simp

/-- a number -/
def cvar : Codec Int where
  get l p := if (gv l p).2.2 = 0 then .ok ((gv l p).1, (gv l p).2.1) else .error (gv l p).2.2
  put x := vb (zz x)
  may x := -9223372036854775808 ≤ x ∧ x ≤ 9223372036854775807
  back h x t hx := by
    have g := gv_at h t x hx
    rw [List.append_assoc] at g
    rw [g, if_pos rfl]
  sole l p x q hp hl h := by
    by_cases h0 : (gv l p).2.2 = 0
    · rw [if_pos h0] at h
      injection h with h
      have h1 : (gv l p).1 = x := congrArg Prod.fst h
      have h2 : (gv l p).2.1 = q := congrArg Prod.snd h
      have g := gv_good (l := l) (p := p) (x := x) (y := q) (by rw [← h1, ← h2, ← h0])
      obtain ⟨g1, g2, g3, g4, g5, g6, g7⟩ := g
      exact ⟨⟨g6, g7⟩, by omega, g3, g5⟩
    · rw [if_neg h0] at h; cases h
  short h x k hx hk := by
    rw [gv_cut h x k hx hk]
    simp
/-- a text of so many bytes at most -/
def ctext (m : Nat) (hm : m ≤ 1099511627776) : Codec ByteArray where
  get l p := if (gx l p (m : Int)).2.2 = 0 then .ok ((gx l p (m : Int)).1, (gx l p (m : Int)).2.1) else .error (gx l p (m : Int)).2.2
  put s := tx s
  may s := s.size ≤ m
  back h x t hx := by
    have g := gx_at h t x (m : Int) (by omega) (by omega)
    have e : h ++ (tx x ++ t) = h ++ vb (zz (x.size : Int)) ++ x.data.toList ++ t := by simp [tx, List.append_assoc]
    rw [e, g, if_pos rfl, tx_length]
    simp only [Int.natCast_add, Int.add_assoc]
  sole l p x q hp hl h := by
    by_cases h0 : (gx l p (m : Int)).2.2 = 0
    · rw [if_pos h0] at h
      injection h with h
      have h1 : (gx l p (m : Int)).1 = x := congrArg Prod.fst h
      have h2 : (gx l p (m : Int)).2.1 = q := congrArg Prod.snd h
      have g := gx_good (l := l) (p := p) (most := (m : Int)) (t := x) (y := q) (by rw [← h1, ← h2, ← h0])
      obtain ⟨g1, g2, g3, g4, g5, g6⟩ := g
      exact ⟨by omega, by omega, g3, g5⟩
    · rw [if_neg h0] at h; cases h
  short h x k hx hk := by
    rw [gx_cut h x (m : Int) k (by omega) (by omega) hk]
    simp
/-- so many bytes, as they are -/
def craw (n : Nat) : Codec (List UInt8) where
  get l p := if (l.length : Int) < p + n then .error 10 else .ok ((l.drop p.toNat).take n, p + n)
  put x := x
  may x := x.length = n
  back h x t hx := by
    rw [if_neg (by rw [List.length_append, List.length_append]; omega), Int.toNat_natCast, List.drop_left, List.take_left' hx, hx]
  sole l p x q hp hl h := by
    by_cases h0 : (l.length : Int) < p + n
    · rw [if_pos h0] at h; cases h
    · rw [if_neg h0] at h
      injection h with h
      have h1 : (l.drop p.toNat).take n = x := congrArg Prod.fst h
      have h2 : p + (n : Int) = q := congrArg Prod.snd h
      subst h1 h2
      refine ⟨by rw [List.length_take, List.length_drop]; omega, by omega, by omega, ?_⟩
      rw [show (p + (n : Int) - p).toNat = n by omega]
  short h x k hx hk := by
    rw [if_pos (by rw [List.length_append, List.length_take]; omega)]
/-- one field behind another, which says what it is -/
def cseq {α β : Type} (a : Codec α) (b : α → Codec β) : Codec (α × β) where
  get l p := match a.get l p with
    | .error e => .error e
    | .ok x => match (b x.1).get l x.2 with
      | .error e => .error e
      | .ok y => .ok ((x.1, y.1), y.2)
  put z := a.put z.1 ++ (b z.1).put z.2
  may z := a.may z.1 ∧ (b z.1).may z.2
  back h z t hz := by
    have e : h ++ ((a.put z.1 ++ (b z.1).put z.2) ++ t) = h ++ (a.put z.1 ++ ((b z.1).put z.2 ++ t)) := by simp [List.append_assoc]
    have g1 := a.back h z.1 ((b z.1).put z.2 ++ t) hz.1
    have g2 := (b z.1).back (h ++ a.put z.1) z.2 t hz.2
    have e2 : (h ++ a.put z.1) ++ ((b z.1).put z.2 ++ t) = h ++ (a.put z.1 ++ ((b z.1).put z.2 ++ t)) := by simp [List.append_assoc]
    rw [e2, List.length_append, Int.natCast_add] at g2
    rw [e, g1]
    simp only
    rw [g2]
    simp only [List.length_append, Int.natCast_add, Int.add_assoc]
  sole l p z q hp hl h := by
    cases ha : a.get l p with
    | error e => rw [ha] at h; cases h
    | ok x =>
      rw [ha] at h
      simp only at h
      cases hb : (b x.1).get l x.2 with
      | error e => rw [hb] at h; cases h
      | ok y =>
        rw [hb] at h
        simp only at h
        injection h with h
        obtain rfl : (x.1, y.1) = z := congrArg Prod.fst h
        obtain rfl : y.2 = q := congrArg Prod.snd h
        obtain ⟨a1, a2, a3, a4⟩ := a.sole l p x.1 x.2 hp hl ha
        obtain ⟨b1, b2, b3, b4⟩ := (b x.1).sole l x.2 y.1 y.2 (by omega) a3 hb
        refine ⟨⟨a1, b1⟩, by omega, b3, ?_⟩
        simp only
        rw [a4, b4, seg_join l hp a2 b2]
  short h z k hz hk := by
    by_cases hka : k < (a.put z.1).length
    · have e : (a.put z.1 ++ (b z.1).put z.2).take k = (a.put z.1).take k := List.take_append_of_le_length (by omega)
      rw [e, a.short h z.1 k hz.1 hka]
    · have e : (a.put z.1 ++ (b z.1).put z.2).take k = a.put z.1 ++ ((b z.1).put z.2).take (k - (a.put z.1).length) := by
        rw [List.take_append, List.take_of_length_le (by omega)]
      have g1 := a.back h z.1 (((b z.1).put z.2).take (k - (a.put z.1).length)) hz.1
      have g2 := (b z.1).short (h ++ a.put z.1) z.2 (k - (a.put z.1).length) hz.2 (by rw [List.length_append] at hk; omega)
      rw [List.append_assoc, List.length_append, Int.natCast_add] at g2
      rw [e, g1]
      simp only
      rw [g2]
theorem cseq_get {α β : Type} (a : Codec α) (b : α → Codec β) (l : List UInt8) (p : Int) : (cseq a b).get l p = match a.get l p with
    | .error e => .error e
    | .ok x => match (b x.1).get l x.2 with
      | .error e => .error e
      | .ok y => .ok ((x.1, y.1), y.2) := rfl
/-- nothing -/
def cnone {α : Type} (x : α) : Codec α where
  get _ p := .ok (x, p)
  put _ := []
  may y := y = x
  back h y t hy := by subst hy; simp
  sole l p y q hp hl h := by
    injection h with h
    obtain rfl : x = y := congrArg Prod.fst h
    obtain rfl : p = q := congrArg Prod.snd h
    exact ⟨rfl, Int.le_refl _, hl, (seg_none l p).symm⟩
  short h y k hy hk := absurd hk (Nat.not_lt_zero _)
/-- a field told otherwise -/
def cmap {α β : Type} (a : Codec α) (f : α → β) (g : β → α) (hgf : ∀ x, a.may x → g (f x) = x) (hfg : ∀ y, a.may (g y) → f (g y) = y) : Codec β where
  get l p := match a.get l p with
    | .error e => .error e
    | .ok x => .ok (f x.1, x.2)
  put y := a.put (g y)
  may y := a.may (g y)
  back h y t hy := by
    rw [a.back h (g y) t hy]
    simp only
    rw [hfg y hy]
  sole l p y q hp hl h := by
    cases ha : a.get l p with
    | error e => rw [ha] at h; cases h
    | ok x =>
      rw [ha] at h
      simp only at h
      injection h with h
      obtain rfl : f x.1 = y := congrArg Prod.fst h
      obtain rfl : x.2 = q := congrArg Prod.snd h
      obtain ⟨a1, a2, a3, a4⟩ := a.sole l p x.1 x.2 hp hl ha
      rw [hgf _ a1]
      exact ⟨a1, a2, a3, a4⟩
  short h y k hy hk := by
    rw [a.short h (g y) k hy hk]
theorem cmap_get {α β : Type} (a : Codec α) (f : α → β) (g : β → α) (h1 : ∀ x, a.may x → g (f x) = x) (h2 : ∀ y, a.may (g y) → f (g y) = y) (l : List UInt8) (p : Int) : (cmap a f g h1 h2).get l p = match a.get l p with
    | .error e => .error e
    | .ok x => .ok (f x.1, x.2) := rfl
/-- a field that has to be so: else an error -/
def cthat {α : Type} (a : Codec α) (chk : α → Int) : Codec α where
  get l p := match a.get l p with
    | .error e => .error e
    | .ok x => if chk x.1 = 0 then .ok x else .error (chk x.1)
  put := a.put
  may x := a.may x ∧ chk x = 0
  back h x t hx := by
    rw [a.back h x t hx.1]
    simp only
    rw [if_pos hx.2]
  sole l p x q hp hl h := by
    cases ha : a.get l p with
    | error e => rw [ha] at h; cases h
    | ok y =>
      rw [ha] at h
      simp only at h
      by_cases hc : chk y.1 = 0
      · rw [if_pos hc] at h
        injection h with h
        subst h
        obtain ⟨a1, a2⟩ := a.sole l p x q hp hl ha
        exact ⟨⟨a1, hc⟩, a2⟩
      · rw [if_neg hc] at h; cases h
  short h x k hx hk := by
    rw [a.short h x k hx.1 hk]
/-- so many, one behind the other -/
def getMany {α : Type} (a : Codec α) : Nat → List UInt8 → Int → Except Int (List α × Int)
  | 0, _, p => .ok ([], p)
  | n + 1, l, p => match a.get l p with
    | .error e => .error e
    | .ok x => match getMany a n l x.2 with
      | .error e => .error e
      | .ok y => .ok (x.1 :: y.1, y.2)
def putMany {α : Type} (a : Codec α) (xs : List α) : List UInt8 := xs.flatMap a.put
theorem putMany_cons {α : Type} (a : Codec α) (x : α) (xs : List α) : putMany a (x :: xs) = a.put x ++ putMany a xs := by simp [putMany]
theorem many_back {α : Type} (a : Codec α) : ∀ (xs : List α) (h t : List UInt8), (∀ x ∈ xs, a.may x) → getMany a xs.length (h ++ (putMany a xs ++ t)) (h.length : Int) = .ok (xs, (h.length : Int) + ((putMany a xs).length : Int))
  | [], h, t, _ => by simp [getMany, putMany]
  | x :: xs, h, t, hx => by
    have e : h ++ (putMany a (x :: xs) ++ t) = h ++ (a.put x ++ (putMany a xs ++ t)) := by rw [putMany_cons]; simp [List.append_assoc]
    have g1 := a.back h x (putMany a xs ++ t) (hx x (by simp))
    have g2 := many_back a xs (h ++ a.put x) t fun y hy => hx y (by simp [hy])
    rw [List.append_assoc, List.length_append, Int.natCast_add] at g2
    rw [e, List.length_cons]
    unfold getMany
    rw [g1]
    simp only
    rw [g2]
    simp only [putMany_cons, List.length_append, Int.natCast_add, Int.add_assoc]
theorem many_only {α : Type} (a : Codec α) : ∀ (n : Nat) (l : List UInt8) (p : Int) (xs : List α) (q : Int), 0 ≤ p → p ≤ (l.length : Int) → getMany a n l p = .ok (xs, q) → (xs.length = n ∧ ∀ x ∈ xs, a.may x) ∧ p ≤ q ∧ q ≤ (l.length : Int) ∧ putMany a xs = (l.drop p.toNat).take (q - p).toNat
  | 0, l, p, xs, q, hp, hl, h => by
    unfold getMany at h
    injection h with h
    obtain rfl : [] = xs := congrArg Prod.fst h
    obtain rfl : p = q := congrArg Prod.snd h
    exact ⟨⟨rfl, by simp⟩, Int.le_refl _, hl, (seg_none l p).symm⟩
  | n + 1, l, p, xs, q, hp, hl, h => by
    unfold getMany at h
    cases ha : a.get l p with
    | error e => rw [ha] at h; cases h
    | ok x =>
      rw [ha] at h
      simp only at h
      cases hb : getMany a n l x.2 with
      | error e => rw [hb] at h; cases h
      | ok y =>
        rw [hb] at h
        simp only at h
        injection h with h
        obtain rfl : x.1 :: y.1 = xs := congrArg Prod.fst h
        obtain rfl : y.2 = q := congrArg Prod.snd h
        obtain ⟨a1, a2, a3, a4⟩ := a.sole l p x.1 x.2 hp hl ha
        obtain ⟨⟨b0, b1⟩, b2, b3, b4⟩ := many_only a n l x.2 y.1 y.2 (by omega) a3 hb
        refine ⟨⟨by rw [List.length_cons, b0], fun z hz => ?_⟩, by omega, b3, ?_⟩
        · rcases List.mem_cons.1 hz with rfl | hz
          · exact a1
          · exact b1 z hz
        · rw [putMany_cons, a4, b4, seg_join l hp a2 b2]
theorem many_short {α : Type} (a : Codec α) : ∀ (xs : List α) (h : List UInt8) (k : Nat), (∀ x ∈ xs, a.may x) → k < (putMany a xs).length → getMany a xs.length (h ++ (putMany a xs).take k) (h.length : Int) = .error 10
  | [], h, k, _, hk => by simp [putMany] at hk
  | x :: xs, h, k, hx, hk => by
    rw [putMany_cons] at hk ⊢
    rw [List.length_cons]
    unfold getMany
    by_cases hka : k < (a.put x).length
    · rw [List.take_append_of_le_length (by omega), a.short h x k (hx x (by simp)) hka]
    · have g1 := a.back h x ((putMany a xs).take (k - (a.put x).length)) (hx x (by simp))
      have g2 := many_short a xs (h ++ a.put x) (k - (a.put x).length) (fun y hy => hx y (by simp [hy])) (by rw [List.length_append] at hk; omega)
      rw [List.append_assoc, List.length_append, Int.natCast_add] at g2
      rw [List.take_append, List.take_of_length_le (by omega), g1]
      simp only
      rw [g2]
def cmany {α : Type} (a : Codec α) (n : Nat) : Codec (List α) where
  get := getMany a n
  put := putMany a
  may xs := xs.length = n ∧ ∀ x ∈ xs, a.may x
  back h xs t hx := by rw [← hx.1]; exact many_back a xs h t hx.2
  sole := many_only a n
  short h xs k hx hk := by rw [← hx.1]; exact many_short a xs h k hx.2 hk

/-- how many there are, and these -/
def ccount {α : Type} (a : Codec α) (chk : Int → Int) (hchk : ∀ n, chk n = 0 → 0 ≤ n) : Codec (List α) :=
  cmap (cseq (cthat cvar chk) fun n => cmany a n.toNat) (fun z => z.2) (fun xs => ((xs.length : Int), xs))
    (fun z hz => by
      obtain ⟨n, xs⟩ := z
      obtain ⟨⟨_, h2⟩, h3, _⟩ := hz
      have h4 : xs.length = n.toNat := h3
      have h5 := hchk n h2
      show ((xs.length : Int), xs) = (n, xs)
      rw [h4, Int.toNat_of_nonneg h5])
    (fun _ _ => rfl)
theorem ccount_may {α : Type} {a : Codec α} {chk : Int → Int} {hchk : ∀ n, chk n = 0 → 0 ≤ n} {xs : List α} (hn : xs.length ≤ 1099511627776) (hc : chk (xs.length : Int) = 0) (h : ∀ x ∈ xs, a.may x) : (ccount a chk hchk).may xs :=
  ⟨⟨(show -9223372036854775808 ≤ (xs.length : Int) ∧ (xs.length : Int) ≤ 9223372036854775807 from ⟨by omega, by omega⟩), hc⟩, by show xs.length = ((xs.length : Int)).toNat; omega, h⟩
theorem ccount_put {α : Type} {a : Codec α} {chk : Int → Int} {hchk : ∀ n, chk n = 0 → 0 ≤ n} (xs : List α) : (ccount a chk hchk).put xs = vb (zz (xs.length : Int)) ++ putMany a xs := rfl
/-- how many bytes there are, and these -/
def cblob (chk : Int → Int) (hchk : ∀ n, chk n = 0 → 0 ≤ n) : Codec (List UInt8) :=
  cmap (cseq (cthat cvar chk) fun n => craw n.toNat) (fun z => z.2) (fun xs => ((xs.length : Int), xs))
    (fun z hz => by
      obtain ⟨n, xs⟩ := z
      obtain ⟨⟨_, h2⟩, h3⟩ := hz
      have h4 : xs.length = n.toNat := h3
      have h5 := hchk n h2
      show ((xs.length : Int), xs) = (n, xs)
      rw [h4, Int.toNat_of_nonneg h5])
    (fun _ _ => rfl)
theorem cblob_may {chk : Int → Int} {hchk : ∀ n, chk n = 0 → 0 ≤ n} {xs : List UInt8} (hn : xs.length ≤ 1099511627776) (hc : chk (xs.length : Int) = 0) : (cblob chk hchk).may xs :=
  ⟨⟨(show -9223372036854775808 ≤ (xs.length : Int) ∧ (xs.length : Int) ≤ 9223372036854775807 from ⟨by omega, by omega⟩), hc⟩, by show xs.length = ((xs.length : Int)).toNat; omega⟩
theorem cblob_put {chk : Int → Int} {hchk : ∀ n, chk n = 0 → 0 ≤ n} (xs : List UInt8) : (cblob chk hchk).put xs = vb (zz (xs.length : Int)) ++ xs := rfl

/-- a whole text: nothing is left, and it has to be so -/
def whole {α : Type} (a : Codec α) (chk : α → Int) (l : List UInt8) : Except Int α :=
  match a.get l 0 with
  | .error e => .error e
  | .ok x => if x.2 ≠ (l.length : Int) then .error 11 else if chk x.1 ≠ 0 then .error 1 else .ok x.1
section
variable {α : Type} {a : Codec α} {chk : α → Int} {x : α} {l : List UInt8}
theorem whole_back (h : a.may x) (hc : chk x = 0) : whole a chk (a.put x) = .ok x := by
  have g := a.back [] x [] h
  rw [List.nil_append, List.append_nil] at g
  unfold whole
  rw [show ((0 : Int)) = (([] : List UInt8).length : Int) from rfl, g]
  simp [hc]
theorem whole_more (h : a.may x) (c : UInt8) (t : List UInt8) : whole a chk (a.put x ++ c :: t) = .error 11 := by
  have g := a.back [] x (c :: t) h
  rw [List.nil_append] at g
  unfold whole
  rw [show ((0 : Int)) = (([] : List UInt8).length : Int) from rfl, g]
  simp only
  rw [if_pos (by rw [List.length_append, List.length_cons, List.length_nil]; omega)]
theorem whole_short (h : a.may x) {k : Nat} (hk : k < (a.put x).length) : whole a chk ((a.put x).take k) = .error 10 := by
  have g := a.short [] x k h hk
  rw [List.nil_append] at g
  unfold whole
  rw [show ((0 : Int)) = (([] : List UInt8).length : Int) from rfl, g]
theorem whole_only (h : whole a chk l = .ok x) : a.may x ∧ chk x = 0 ∧ a.put x = l := by
  unfold whole at h
  cases ha : a.get l 0 with
  | error e => rw [ha] at h; cases h
  | ok y =>
    rw [ha] at h
    simp only at h
    by_cases h1 : y.2 ≠ (l.length : Int)
    · rw [if_pos h1] at h; cases h
    · rw [if_neg h1] at h
      by_cases h2 : chk y.1 ≠ 0
      · rw [if_pos h2] at h; cases h
      · rw [if_neg h2] at h
        injection h with h
        subst h
        obtain ⟨a1, a2, a3, a4⟩ := a.sole l 0 y.1 y.2 (Int.le_refl _) (by omega) ha
        refine ⟨a1, by omega, ?_⟩
        rw [a4, show y.2 = (l.length : Int) by omega]
        simp
end
end Go.Proofs.YthhdhdjdhekgpaaDoor.Cod
