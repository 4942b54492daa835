/- Joined: EpoMath. -/
import Derived.Test.YtmjnleohchmadaaJOct
/- The plain mathematics of layer 10: epochs. Nothing of the program. -/
namespace Go.Proofs.Ytmjnleohchmadaa.Epo

structure Ep where
  ep : Int
  st : Int
deriving DecidableEq
def upE : Int → Int → List Ep → Bool
  | _, _, [] => true
  | e, s, x :: l => decide (e < x.ep ∧ x.ep ≤ 1048576 ∧ s < x.st ∧ x.st ≤ 1099511627776) && upE x.ep x.st l
def okE (l : List Ep) : Bool := upE (-1) (-1) l
def ckE (l : List Ep) : Int := if okE l then 0 else 1
theorem upE_cons {e s : Int} {x : Ep} {l : List Ep} : upE e s (x :: l) = true ↔ (e < x.ep ∧ x.ep ≤ 1048576 ∧ s < x.st ∧ x.st ≤ 1099511627776) ∧ upE x.ep x.st l = true := by
  unfold upE
  rw [Bool.and_eq_true, decide_eq_true_eq]
  cases l <;> rfl
theorem upE_mem {e s : Int} {l : List Ep} (h : upE e s l = true) : ∀ x ∈ l, e < x.ep ∧ x.ep ≤ 1048576 ∧ s < x.st ∧ x.st ≤ 1099511627776 := by
  induction l generalizing e s with
  | nil => simp
  | cons y l ih =>
    obtain ⟨h1, h2⟩ := upE_cons.1 h
    intro x hx
    rcases List.mem_cons.1 hx with rfl | hx
    · exact h1
    · have := ih h2 x hx; omega
theorem upE_snoc {e s : Int} {l : List Ep} {x : Ep} : upE e s (l ++ [x]) = true ↔ upE e s l = true ∧ (e < x.ep ∧ x.ep ≤ 1048576 ∧ s < x.st ∧ x.st ≤ 1099511627776) ∧ ∀ y ∈ l, y.ep < x.ep ∧ y.st < x.st := by
  induction l generalizing e s with
  | nil => rw [List.nil_append, upE_cons]; simp [upE]
  | cons y l ih =>
    rw [List.cons_append, upE_cons, upE_cons, ih]
    constructor
    · rintro ⟨h1, h2, h3, h4⟩
      refine ⟨⟨h1, h2⟩, by omega, fun z hz => ?_⟩
      rcases List.mem_cons.1 hz with rfl | hz
      · omega
      · exact h4 z hz
    · rintro ⟨⟨h1, h2⟩, h3, h4⟩
      have := h4 y (by simp)
      exact ⟨h1, h2, by omega, fun z hz => h4 z (by simp [hz])⟩
theorem upE_at {e s : Int} {l : List Ep} (h : upE e s l = true) {i j : Nat} {x y : Ep} (hij : i < j) (hx : l[i]? = some x) (hy : l[j]? = some y) : x.ep < y.ep ∧ x.st < y.st := by
  induction l generalizing e s i j with
  | nil => simp at hx
  | cons z l ih =>
    obtain ⟨h1, h2⟩ := upE_cons.1 h
    cases j with
    | zero => omega
    | succ j =>
      have hy' : l[j]? = some y := by simpa using hy
      cases i with
      | zero =>
        obtain rfl : z = x := by simpa using hx
        have := upE_mem h2 y (List.mem_of_getElem? hy')
        omega
      | succ i => exact ih h2 (i := i) (j := j) (by omega) (by simpa using hx) hy'
theorem upE_one {e s : Int} {l : List Ep} (h : upE e s l = true) {i j : Nat} {x y : Ep} (hx : l[i]? = some x) (hy : l[j]? = some y) (he : x.ep = y.ep) : i = j := by
  rcases Nat.lt_trichotomy i j with hh | hh | hh
  · have := (upE_at h hh hx hy).1; omega
  · exact hh
  · have := (upE_at h hh hy hx).1; omega
def putE (l : List Ep) (n s : Int) : List Ep × Int :=
  if okE l = false ∨ (n < 0 ∨ 1048576 < n) ∨ (s < 0 ∨ 1099511627776 < s) then ([], 1)
  else match l.getLast? with
    | none => ([⟨n, s⟩], 0)
    | some x => if n < x.ep then ([], 100) else if n = x.ep then (l, 0) else if s < x.st then ([], 71) else if s = x.st then (l.dropLast ++ [⟨n, s⟩], 0) else (l ++ [⟨n, s⟩], 0)
def nx (l : List Ep) (last : Int) : Int := match l with
  | [] => last
  | x :: _ => x.st
def endO (n last : Int) : List Ep → Int × Int → Int × Int
  | [], a => a
  | x :: l, a => endO n last l (if x.ep ≤ n then (x.ep, nx l last) else a)
def endOf (l : List Ep) (n last : Int) : Int × Int := if okE l then endO n last l (-1, 0) else (-1, 0)
def cutE (l : List Ep) (off : Int) : List Ep := if okE l then l.filter fun x => decide (x.st < off) else []
def trimF (s : Int) : List Ep → List Ep
  | [] => []
  | x :: l => if l = [] ∨ s < nx l 0 then ⟨x.ep, max x.st s⟩ :: trimF s l else trimF s l
def trimE (l : List Ep) (s : Int) : List Ep := if okE l = true ∧ 0 ≤ s ∧ s ≤ 1099511627776 then trimF s l else []
def meetG (n ea bEnd : Int) : List Ep → Int → Int
  | [], m => m
  | y :: b, m => meetG n ea bEnd b (if n = y.ep then min ea (nx b bEnd) else m)
def meetF (aEnd : Int) (b : List Ep) (bEnd : Int) : List Ep → Int → Int
  | [], m => m
  | x :: a, m => meetF aEnd b bEnd a (meetG x.ep (nx a aEnd) bEnd b m)
def meetE (a : List Ep) (aEnd : Int) (b : List Ep) (bEnd : Int) : Int := if okE a = true ∧ okE b = true then meetF aEnd b bEnd a 0 else 0
def ofE : List Ep → List (Int × Int) → List Ep
  | l, [] => l
  | l, p :: ps => ofE (if (putE l p.1 p.2).2 = 0 then (putE l p.1 p.2).1 else l) ps

theorem last_of {l : List Ep} {x : Ep} (h : l.getLast? = some x) : l = l.dropLast ++ [x] := by
  obtain ⟨m, rfl⟩ := List.getLast?_eq_some_iff.1 h
  rw [List.dropLast_concat]
theorem last_none {l : List Ep} (h : l.getLast? = none) : l = [] := List.getLast?_eq_none_iff.1 h
theorem putE_good {l x : List Ep} {n s : Int} (h : putE l n s = (x, 0)) : okE l = true ∧ (0 ≤ n ∧ n ≤ 1048576) ∧ (0 ≤ s ∧ s ≤ 1099511627776) ∧ okE x = true ∧ ∃ y, x.getLast? = some y ∧ y.ep = n ∧ (y.st ≤ s ∨ l.getLast? = some y) := by
  unfold putE at h
  by_cases h1 : okE l = false ∨ (n < 0 ∨ 1048576 < n) ∨ (s < 0 ∨ 1099511627776 < s)
  · rw [if_pos h1] at h; injection h with _ h; cases h
  rw [if_neg h1] at h
  have hok : okE l = true := by
    cases hr : okE l
    · exact absurd (.inl hr) h1
    · rfl
  refine ⟨hok, by omega, by omega, ?_⟩
  cases hl : l.getLast? with
  | none =>
    rw [hl] at h
    obtain rfl : [⟨n, s⟩] = x := congrArg Prod.fst h
    exact ⟨upE_cons.2 ⟨by simp only; omega, rfl⟩, _, rfl, rfl, .inl (Int.le_refl _)⟩
  | some y =>
    rw [hl] at h
    simp only at h
    have hy := last_of hl
    have hk := hok
    unfold okE at hk
    rw [hy] at hk
    obtain ⟨k1, k2, k3⟩ := upE_snoc.1 hk
    by_cases h2 : n < y.ep
    · rw [if_pos h2] at h; injection h with _ h; cases h
    rw [if_neg h2] at h
    by_cases h3 : n = y.ep
    · rw [if_pos h3] at h
      obtain rfl : l = x := congrArg Prod.fst h
      exact ⟨hok, y, hl, h3.symm, .inr rfl⟩
    rw [if_neg h3] at h
    by_cases h4 : s < y.st
    · rw [if_pos h4] at h; injection h with _ h; cases h
    rw [if_neg h4] at h
    by_cases h5 : s = y.st
    · rw [if_pos h5] at h
      obtain rfl : l.dropLast ++ [⟨n, s⟩] = x := congrArg Prod.fst h
      refine ⟨upE_snoc.2 ⟨k1, by simp only; omega, fun z hz => ?_⟩, _, List.getLast?_concat, rfl, .inl (Int.le_refl _)⟩
      have := k3 z hz
      exact ⟨by simp only; omega, by simp only; omega⟩
    · rw [if_neg h5] at h
      obtain rfl : l ++ [⟨n, s⟩] = x := congrArg Prod.fst h
      refine ⟨upE_snoc.2 ⟨hok, by simp only; omega, fun z hz => ?_⟩, _, List.getLast?_concat, rfl, .inl (Int.le_refl _)⟩
      rw [hy] at hz
      rcases List.mem_append.1 hz with hz | hz
      · have := k3 z hz
        exact ⟨by simp only; omega, by simp only; omega⟩
      · obtain rfl : z = y := by simpa using hz
        exact ⟨by simp only; omega, by simp only; omega⟩
/-! ### where an epoch ends -/
theorem endO_skip {n last : Int} {l : List Ep} {a : Int × Int} (h : ∀ x ∈ l, n < x.ep) : endO n last l a = a := by
  induction l generalizing a with
  | nil => rfl
  | cons x l ih =>
    show endO n last l (if x.ep ≤ n then _ else a) = a
    rw [if_neg (by have := h x (by simp); omega)]
    exact ih fun y hy => h y (by simp [hy])
theorem endO_at {e s n last : Int} {l : List Ep} {a : Int × Int} (h : upE e s l = true) {i : Nat} {x : Ep} (hx : l[i]? = some x) (hn : x.ep ≤ n) (hm : ∀ y, l[i + 1]? = some y → n < y.ep) : endO n last l a = (x.ep, nx (l.drop (i + 1)) last) := by
  induction l generalizing e s i a with
  | nil => simp at hx
  | cons y l ih =>
    obtain ⟨h1, h2⟩ := upE_cons.1 h
    cases i with
    | zero =>
      obtain rfl : y = x := by simpa using hx
      show endO n last l (if y.ep ≤ n then _ else a) = _
      rw [if_pos hn, endO_skip]
      · rfl
      · intro z hz
        cases l with
        | nil => cases hz
        | cons w l =>
          have h9 := hm w rfl
          rcases List.mem_cons.1 hz with rfl | hz
          · exact h9
          · have := upE_mem (upE_cons.1 h2).2 z hz; omega
    | succ i =>
      show endO n last l (if y.ep ≤ n then _ else a) = _
      exact ih h2 (by simpa using hx) fun z hz => hm z (by simpa using hz)
/-! ### where two logs meet -/
def Meets (a : List Ep) (aEnd : Int) (b : List Ep) (bEnd m : Int) : Prop :=
  ((∀ x ∈ a, ∀ y ∈ b, x.ep ≠ y.ep) ∧ m = 0) ∨
  ∃ (i j : Nat) (x y : Ep), a[i]? = some x ∧ b[j]? = some y ∧ x.ep = y.ep ∧ (∀ z ∈ a, ∀ u ∈ b, z.ep = u.ep → z.ep ≤ x.ep) ∧ m = min (nx (a.drop (i + 1)) aEnd) (nx (b.drop (j + 1)) bEnd)
theorem Meets.symm {a b : List Ep} {aEnd bEnd m : Int} (h : Meets a aEnd b bEnd m) : Meets b bEnd a aEnd m := by
  rcases h with ⟨h1, h2⟩ | ⟨i, j, x, y, h1, h2, h3, h4, h5⟩
  · exact .inl ⟨fun x hx y hy he => h1 y hy x hx he.symm, h2⟩
  · exact .inr ⟨j, i, y, x, h2, h1, h3.symm, fun z hz u hu he => by have := h4 u hu z hz he.symm; omega, by omega⟩
theorem Meets.one {a b : List Ep} {aEnd bEnd m m' e s e' s' : Int} (ha : upE e s a = true) (hb : upE e' s' b = true) (h : Meets a aEnd b bEnd m) (h' : Meets a aEnd b bEnd m') : m = m' := by
  rcases h with ⟨h1, h2⟩ | ⟨i, j, x, y, h1, h2, h3, h4, h5⟩
  · rcases h' with ⟨_, g2⟩ | ⟨i, j, x, y, g1, g2, g3, _⟩
    · rw [h2, g2]
    · exact absurd g3 (h1 x (List.mem_of_getElem? g1) y (List.mem_of_getElem? g2))
  · rcases h' with ⟨g1, _⟩ | ⟨i', j', x', y', g1, g2, g3, g4, g5⟩
    · exact absurd h3 (g1 x (List.mem_of_getElem? h1) y (List.mem_of_getElem? h2))
    · have k1 := h4 x' (List.mem_of_getElem? g1) y' (List.mem_of_getElem? g2) g3
      have k2 := g4 x (List.mem_of_getElem? h1) y (List.mem_of_getElem? h2) h3
      obtain rfl := upE_one ha h1 g1 (by omega)
      obtain rfl := upE_one hb h2 g2 (by omega)
      rw [h5, g5]
theorem meetG_none {n ea bEnd m : Int} {b : List Ep} (h : ∀ y ∈ b, n ≠ y.ep) : meetG n ea bEnd b m = m := by
  induction b generalizing m with
  | nil => rfl
  | cons y b ih =>
    show meetG n ea bEnd b (if n = y.ep then _ else m) = m
    rw [if_neg (h y (by simp))]
    exact ih fun z hz => h z (by simp [hz])
theorem meetG_at {n ea bEnd m e s : Int} {b : List Ep} (hb : upE e s b = true) {j : Nat} {y : Ep} (hy : b[j]? = some y) (hn : n = y.ep) : meetG n ea bEnd b m = min ea (nx (b.drop (j + 1)) bEnd) := by
  induction b generalizing m e s j with
  | nil => simp at hy
  | cons z b ih =>
    obtain ⟨h1, h2⟩ := upE_cons.1 hb
    cases j with
    | zero =>
      obtain rfl : z = y := by simpa using hy
      show meetG n ea bEnd b (if n = z.ep then _ else m) = _
      rw [if_pos hn, meetG_none fun u hu he => by have := upE_mem h2 u hu; omega]
      rfl
    | succ j =>
      show meetG n ea bEnd b (if n = z.ep then _ else m) = _
      exact ih h2 (by simpa using hy)
theorem meetF_is {aEnd bEnd m e s e' s' : Int} {a b : List Ep} (ha : upE e s a = true) (hb : upE e' s' b = true) :
    ((∀ x ∈ a, ∀ y ∈ b, x.ep ≠ y.ep) ∧ meetF aEnd b bEnd a m = m) ∨
    ∃ (i j : Nat) (x y : Ep), a[i]? = some x ∧ b[j]? = some y ∧ x.ep = y.ep ∧ (∀ z ∈ a, ∀ u ∈ b, z.ep = u.ep → z.ep ≤ x.ep) ∧ meetF aEnd b bEnd a m = min (nx (a.drop (i + 1)) aEnd) (nx (b.drop (j + 1)) bEnd) := by
  induction a generalizing m e s with
  | nil => exact .inl ⟨by simp, rfl⟩
  | cons x a ih =>
    obtain ⟨h1, h2⟩ := upE_cons.1 ha
    have hst : meetF aEnd b bEnd (x :: a) m = meetF aEnd b bEnd a (meetG x.ep (nx a aEnd) bEnd b m) := rfl
    rcases ih (m := meetG x.ep (nx a aEnd) bEnd b m) h2 with ⟨g1, g2⟩ | ⟨i, j, x', y', g1, g2, g3, g4, g5⟩
    · by_cases hx : ∃ y ∈ b, x.ep = y.ep
      · obtain ⟨y, hy, he⟩ := hx
        obtain ⟨j, hj⟩ := List.mem_iff_getElem?.1 hy
        refine .inr ⟨0, j, x, y, rfl, hj, he, fun z hz u hu hzu => ?_, ?_⟩
        · rcases List.mem_cons.1 hz with rfl | hz
          · exact Int.le_refl _
          · exact absurd hzu (g1 z hz u hu)
        · rw [hst, g2, meetG_at hb hj he]; rfl
      · have hx' : ∀ y ∈ b, x.ep ≠ y.ep := fun y hy he => hx ⟨y, hy, he⟩
        refine .inl ⟨fun z hz u hu => ?_, by rw [hst, g2, meetG_none hx']⟩
        rcases List.mem_cons.1 hz with rfl | hz
        · exact hx' u hu
        · exact g1 z hz u hu
    · refine .inr ⟨i + 1, j, x', y', by simpa using g1, g2, g3, fun z hz u hu hzu => ?_, by rw [hst, g5]; rfl⟩
      rcases List.mem_cons.1 hz with rfl | hz
      · have := upE_mem h2 x' (List.mem_of_getElem? g1); omega
      · exact g4 z hz u hu hzu
theorem meetE_is {a b : List Ep} (ha : okE a = true) (hb : okE b = true) (aEnd bEnd : Int) : Meets a aEnd b bEnd (meetE a aEnd b bEnd) := by
  unfold meetE
  rw [if_pos ⟨ha, hb⟩]
  exact meetF_is (m := 0) ha hb
theorem putE_len {l x : List Ep} {a b e : Int} (h : putE l a b = (x, e)) : x.length ≤ l.length + 1 := by
  unfold putE at h
  split at h
  · injection h with h1 _; subst h1; simp
  · split at h
    · injection h with h1 _; subst h1; simp
    · repeat' split at h
      all_goals injection h with h1 _; subst h1; simp
      all_goals omega
end Go.Proofs.Ytmjnleohchmadaa.Epo
