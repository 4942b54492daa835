/- Joined: EpoMathL. -/
import Derived.Test.YtmjnleohchmadaaEpoMath
/- The plain mathematics of looking at epochs from the last one back. Nothing of the program. -/
namespace Go.Proofs.Ytmjnleohchmadaa.Epo

def goL {σ : Type} (p : σ → Ep → Bool) (f : σ → Ep → σ) : σ → Int → List Ep → σ × Option (Nat × Int)
  | s, _, [] => (s, none)
  | s, e, x :: l => if p s x then (f s x, some (l.length, e)) else goL p f (f s x) x.st l
def atL : Option (Nat × Int) → Int × Int
  | none => (-1, 0)
  | some (k, e) => ((k : Int), e)
theorem take_rev {L : List Ep} {k : Nat} {x : Ep} (hx : L[k]? = some x) : (L.take (k + 1)).reverse = x :: (L.take k).reverse := by
  rw [List.take_add_one, hx, List.reverse_append]; rfl
theorem snoc_ind {P : List Ep → Prop} (h0 : P []) (h : ∀ l x, P l → P (l ++ [x])) (l : List Ep) : P l := by
  have : ∀ m : List Ep, P m.reverse := fun m => by
    induction m with
    | nil => exact h0
    | cons x m ih => rw [List.reverse_cons]; exact h _ _ ih
  have h1 := this l.reverse
  rwa [List.reverse_reverse] at h1
def lstE (p : Ep → Bool) (e : Int) (l : List Ep) : Option (Nat × Int) := (goL (fun _ : Unit => p) (fun _ _ => ()) () e l.reverse).2
theorem lstE_snoc (p : Ep → Bool) (e : Int) (l : List Ep) (x : Ep) : lstE p e (l ++ [x]) = if p x then some (l.length, e) else lstE p x.st l := by
  unfold lstE
  rw [List.reverse_append]
  show (goL _ _ _ e (x :: l.reverse)).2 = _
  rw [goL]
  split
  · rw [List.length_reverse]
  · rfl
theorem nx_app (l m : List Ep) (e : Int) : nx (l ++ m) e = nx l (nx m e) := by cases l <;> rfl
theorem lstE_is (p : Ep → Bool) (l : List Ep) : ∀ e : Int, match lstE p e l with
    | none => ∀ x ∈ l, p x = false
    | some (k, o) => ∃ x, l[k]? = some x ∧ p x = true ∧ (∀ y ∈ l.drop (k + 1), p y = false) ∧ o = nx (l.drop (k + 1)) e := by
  induction l using snoc_ind with
  | h0 => intro e; simp [lstE, goL]
  | h l x ih =>
    intro e
    rw [lstE_snoc]
    cases hp : p x with
    | true =>
      simp only [if_true]
      exact ⟨x, by rw [List.getElem?_append_right (Nat.le_refl _)]; simp, hp, by rw [List.drop_of_length_le (by simp)]; simp, by rw [List.drop_of_length_le (by simp)]; rfl⟩
    | false =>
      simp only [Bool.false_eq_true, if_false]
      have h := ih x.st
      cases hr : lstE p x.st l with
      | none =>
        rw [hr] at h
        simp only at h ⊢
        intro y hy
        rcases List.mem_append.1 hy with hy | hy
        · exact h y hy
        · rw [List.mem_singleton.1 hy]; exact hp
      | some q =>
        obtain ⟨k, o⟩ := q
        rw [hr] at h
        simp only at h ⊢
        obtain ⟨y, h1, h2, h3, h4⟩ := h
        have hk := (List.getElem?_eq_some_iff.1 h1).1
        have hd : (l ++ [x]).drop (k + 1) = l.drop (k + 1) ++ [x] := by rw [List.drop_append, Nat.sub_eq_zero_of_le (by omega)]; rfl
        rw [hd]
        refine ⟨y, by rw [List.getElem?_append_left hk]; exact h1, h2, fun z hz => ?_, by rw [nx_app]; exact h4⟩
        rcases List.mem_append.1 hz with hz | hz
        · exact h3 z hz
        · rw [List.mem_singleton.1 hz]; exact hp
theorem lstE_none {p : Ep → Bool} {e : Int} {l : List Ep} (h : lstE p e l = none) : ∀ x ∈ l, p x = false := by have := lstE_is p l e; rw [h] at this; exact this
theorem lstE_some {p : Ep → Bool} {e : Int} {l : List Ep} {k : Nat} {o : Int} (h : lstE p e l = some (k, o)) : ∃ x, l[k]? = some x ∧ p x = true ∧ (∀ y ∈ l.drop (k + 1), p y = false) ∧ o = nx (l.drop (k + 1)) e := by have := lstE_is p l e; rw [h] at this; exact this

def ckP (s x : Ep) : Bool := decide (x.ep < 0) || (decide (x.st < 0) || (decide (s.ep ≤ x.ep) || decide (s.st ≤ x.st)))
theorem ckP_false {s x : Ep} : ckP s x = false ↔ 0 ≤ x.ep ∧ 0 ≤ x.st ∧ x.ep < s.ep ∧ x.st < s.st := by
  simp only [ckP, Bool.or_eq_false_iff, decide_eq_false_iff_not]
  omega
theorem ck_is (l : List Ep) : ∀ (s : Ep) (e : Int), s.ep ≤ 1048577 → s.st ≤ 1099511627777 → ((goL ckP (fun _ x => x) s e l.reverse).2 = none ↔ okE l = true ∧ ∀ y ∈ l, y.ep < s.ep ∧ y.st < s.st) := by
  induction l using snoc_ind with
  | h0 => intro s e _ _; simp [goL, okE, upE]
  | h l x ih =>
    intro s e h1 h2
    rw [List.reverse_append]
    show (goL _ _ _ e (x :: l.reverse)).2 = none ↔ _
    rw [goL]
    unfold okE
    rw [upE_snoc]
    cases hp : ckP s x with
    | true =>
      simp only [if_true, reduceCtorEq, false_iff]
      rintro ⟨⟨_, h4, _⟩, h3⟩
      have h6 := h3 x (by simp)
      rw [ckP_false.2 (by omega)] at hp
      cases hp
    | false =>
      have h3 := ckP_false.1 hp
      simp only [Bool.false_eq_true, if_false]
      rw [ih x x.st (by omega) (by omega)]
      constructor
      · rintro ⟨h4, h5⟩
        refine ⟨⟨h4, by omega, h5⟩, fun y hy => ?_⟩
        rcases List.mem_append.1 hy with hy | hy
        · have := h5 y hy; omega
        · rw [List.mem_singleton.1 hy]; omega
      · rintro ⟨⟨h4, _, h5⟩, _⟩
        exact ⟨h4, h5⟩
theorem ckE_lst (l : List Ep) : ckE l = if (goL ckP (fun _ x => x) ⟨1048577, 1099511627777⟩ 0 l.reverse).2 = none then 0 else 1 := by
  have h := ck_is l ⟨1048577, 1099511627777⟩ 0 (by decide) (by decide)
  unfold ckE
  by_cases ho : okE l = true
  · rw [if_pos ho, if_pos (h.2 ⟨ho, fun y hy => by have := upE_mem ho y hy; constructor <;> simp only <;> omega⟩)]
  · rw [if_neg ho, if_neg (fun h2 => ho (h.1 h2).1)]
theorem endOf_lst {l : List Ep} (hl : okE l = true) (q e : Int) : endOf l q e = match lstE (fun x => decide (x.ep ≤ q)) e l with | none => (-1, 0) | some (k, o) => ((l[k]?.map Ep.ep).getD 0, o) := by
  unfold endOf
  rw [if_pos hl]
  cases h : lstE (fun x => decide (x.ep ≤ q)) e l with
  | none => exact endO_skip fun x hx => by have := lstE_none h x hx; simp only [decide_eq_false_iff_not] at this; omega
  | some r =>
    obtain ⟨k, o⟩ := r
    obtain ⟨x, h1, h2, h3, h4⟩ := lstE_some h
    simp only [decide_eq_true_eq, decide_eq_false_iff_not] at h2 h3
    rw [endO_at hl h1 h2 (fun y hy => by have := h3 y (List.mem_of_getElem? (by rw [List.getElem?_drop]; exact hy : (l.drop (k + 1))[0]? = some y)); omega)]
    simp only [h1, Option.map_some, Option.getD_some, h4]
theorem up_take {e s : Int} {l : List Ep} (h : upE e s l = true) {k : Nat} {x : Ep} (hx : l[k]? = some x) : ∀ y ∈ l.take (k + 1), y.ep ≤ x.ep ∧ y.st ≤ x.st := fun y hy => by
  obtain ⟨j, hj⟩ := List.mem_iff_getElem?.1 hy
  have hjk : j < k + 1 := by have := (List.getElem?_eq_some_iff.1 hj).1; rw [List.length_take] at this; omega
  rw [List.getElem?_take, if_pos hjk] at hj
  by_cases hjk2 : j = k
  · subst hjk2; rw [hx] at hj; obtain rfl := Option.some.inj hj; omega
  · have := upE_at h (show j < k by omega) hj hx; omega
def bothL (s : List Ep × Int) (x : Ep) : Option (Nat × Int) := lstE (fun y => decide (y.ep ≤ x.ep)) s.2 s.1
def bothF (s : List Ep × Int) (x : Ep) : List Ep × Int := (s.1.take ((atL (bothL s x)).1 + 1).toNat, (atL (bothL s x)).2)
def bothP (s : List Ep × Int) (x : Ep) : Bool := match bothL s x with
  | none => false
  | some (k, _) => match s.1[k]? with
    | some y => decide (y.ep = x.ep)
    | none => false
theorem both_is {b : List Ep} {bEnd e' s' : Int} (hb : upE e' s' b = true) (a : List Ep) : ∀ {ea sa : Int} (j : Nat) (bE e : Int), upE ea sa a = true → (j = 0 ∨ bE = nx (b.drop j) bEnd) → (∀ u ∈ b.drop j, ∀ z ∈ a, z.ep < u.ep) →
    match goL bothP bothF (b.take j, bE) e a.reverse with
    | (_, none) => ∀ x ∈ a, ∀ y ∈ b, x.ep ≠ y.ep
    | (s, some (i, o)) => ∃ x j' y, a[i]? = some x ∧ b[j']? = some y ∧ x.ep = y.ep ∧ s.2 = nx (b.drop (j' + 1)) bEnd ∧ o = nx (a.drop (i + 1)) e ∧ (∀ z ∈ a, ∀ u ∈ b, z.ep = u.ep → z.ep ≤ x.ep) := by
  induction a using snoc_ind with
  | h0 => intro _ _ j bE e _ _ _; simp [goL]
  | h a x ih =>
    intro ea sa j bE e ha hj hu
    rw [upE_snoc] at ha
    rw [List.reverse_append]
    show match goL bothP bothF (b.take j, bE) e (x :: a.reverse) with
      | (_, none) => _
      | (s, some (i, o)) => _
    rw [goL]
    cases hl : bothL (b.take j, bE) x with
    | none =>
      have h1 := lstE_none hl
      simp only [decide_eq_false_iff_not] at h1
      have hp : bothP (b.take j, bE) x = false := by unfold bothP; rw [hl]
      have hf : bothF (b.take j, bE) x = (b.take 0, 0) := by unfold bothF; rw [hl]; simp [atL]
      rw [hp, hf]
      simp only [Bool.false_eq_true, if_false]
      have hx : ∀ u ∈ b, x.ep < u.ep := fun u hub => by
        rw [← List.take_append_drop j b] at hub
        rcases List.mem_append.1 hub with h | h
        · have := h1 u h; omega
        · exact hu u h x (by simp)
      have := ih 0 0 x.st ha.1 (.inl rfl) (fun u h z hz => by have := hx u (by simpa using h); have := ha.2.2 z hz; omega)
      revert this
      rcases goL bothP bothF (b.take 0, 0) x.st a.reverse with ⟨s, _ | ⟨i, o⟩⟩
      · intro h y hy u hub
        rcases List.mem_append.1 hy with hy | hy
        · exact h y hy u hub
        · rw [List.mem_singleton.1 hy]; have := hx u hub; omega
      · rintro ⟨y, j', u, g1, g2, g3, g4, g5, g6⟩
        have hi := (List.getElem?_eq_some_iff.1 g1).1
        refine ⟨y, j', u, by rw [List.getElem?_append_left hi]; exact g1, g2, g3, g4, ?_, fun z hz v hv he => ?_⟩
        · rw [show (a ++ [x]).drop (i + 1) = a.drop (i + 1) ++ [x] by rw [List.drop_append, Nat.sub_eq_zero_of_le (by omega)]; rfl, nx_app]; exact g5
        · rcases List.mem_append.1 hz with hz | hz
          · exact g6 z hz v hv he
          · rw [List.mem_singleton.1 hz] at he; have := hx v hv; omega
    | some r =>
      obtain ⟨k, o⟩ := r
      obtain ⟨y, h1, h2, h3, h4⟩ := lstE_some hl
      simp only [decide_eq_true_eq, decide_eq_false_iff_not] at h1 h2 h3 h4
      have hkj : k < j := by have := (List.getElem?_eq_some_iff.1 h1).1; rw [List.length_take] at this; omega
      have hby : b[k]? = some y := by rw [List.getElem?_take, if_pos hkj] at h1; exact h1
      have hbE : bE = nx (b.drop j) bEnd := by rcases hj with h | h; omega; exact h
      have hdrop : b.drop (k + 1) = (b.take j).drop (k + 1) ++ b.drop j := by
        conv => lhs; rw [← List.take_append_drop j b]
        have hl : k + 1 ≤ (b.take j).length := by have := (List.getElem?_eq_some_iff.1 h1).1; omega
        rw [List.drop_append, Nat.sub_eq_zero_of_le hl, List.drop_zero]
      have ho : o = nx (b.drop (k + 1)) bEnd := by rw [hdrop, nx_app, ← hbE]; exact h4
      have hf : bothF (b.take j, bE) x = (b.take (k + 1), o) := by
        unfold bothF; rw [hl]
        show ((b.take j).take ((k : Int) + 1).toNat, o) = _
        rw [show ((k : Int) + 1).toNat = k + 1 by omega, List.take_take, Nat.min_eq_left (by omega)]
      have hp : bothP (b.take j, bE) x = decide (y.ep = x.ep) := by unfold bothP; rw [hl]; simp only; rw [h1]
      have hab : ∀ u ∈ b.drop (k + 1), x.ep < u.ep := fun u h => by
        rw [hdrop] at h
        rcases List.mem_append.1 h with h | h
        · have := h3 u h; omega
        · exact hu u h x (by simp)
      have hbe : ∀ u ∈ b.take (k + 1), u.ep ≤ y.ep := fun u h => (up_take hb hby u h).1
      rw [hp, hf]
      by_cases he : y.ep = x.ep
      · rw [decide_eq_true he]
        simp only [if_true, List.length_reverse]
        refine ⟨x, k, y, by rw [List.getElem?_append_right (Nat.le_refl _)]; simp, hby, he.symm, ho, by rw [List.drop_of_length_le (by simp)]; rfl, fun z hz u hub _ => ?_⟩
        rcases List.mem_append.1 hz with hz | hz
        · have := ha.2.2 z hz; omega
        · rw [List.mem_singleton.1 hz]; omega
      · rw [decide_eq_false he]
        simp only [Bool.false_eq_true, if_false]
        have hx : ∀ u ∈ b, x.ep ≠ u.ep := fun u hub => by
          rw [← List.take_append_drop (k + 1) b] at hub
          rcases List.mem_append.1 hub with h | h
          · have := hbe u h; omega
          · have := hab u h; omega
        have := ih (k + 1) o x.st ha.1 (.inr ho) (fun u h z hz => by have := hab u h; have := ha.2.2 z hz; omega)
        revert this
        rcases goL bothP bothF (b.take (k + 1), o) x.st a.reverse with ⟨s, _ | ⟨i, o⟩⟩
        · intro h z hz u hub
          rcases List.mem_append.1 hz with hz | hz
          · exact h z hz u hub
          · rw [List.mem_singleton.1 hz]; exact hx u hub
        · rintro ⟨z, j', u, g1, g2, g3, g4, g5, g6⟩
          have hi := (List.getElem?_eq_some_iff.1 g1).1
          refine ⟨z, j', u, by rw [List.getElem?_append_left hi]; exact g1, g2, g3, g4, ?_, fun t ht v hv he => ?_⟩
          · rw [show (a ++ [x]).drop (i + 1) = a.drop (i + 1) ++ [x] by rw [List.drop_append, Nat.sub_eq_zero_of_le (by omega)]; rfl, nx_app]; exact g5
          · rcases List.mem_append.1 ht with ht | ht
            · exact g6 t ht v hv he
            · rw [List.mem_singleton.1 ht] at he; exact absurd he (hx v hv)
theorem meetE_lst {a b : List Ep} (ha : okE a = true) (hb : okE b = true) (ea eb : Int) : meetE a ea b eb = match goL bothP bothF (b, eb) ea a.reverse with | (_, none) => 0 | (s, some (_, o)) => min o s.2 := by
  have h := both_is (bEnd := eb) hb a b.length eb ea ha (.inr (by rw [List.drop_length]; rfl)) (by rw [List.drop_length]; simp)
  rw [List.take_length] at h
  have hm := meetE_is ha hb ea eb
  revert h
  rcases goL bothP bothF (b, eb) ea a.reverse with ⟨s, _ | ⟨i, o⟩⟩
  · intro h
    exact Meets.one ha hb hm (.inl ⟨h, rfl⟩)
  · rintro ⟨x, j, y, g1, g2, g3, g4, g5, g6⟩
    exact Meets.one ha hb hm (.inr ⟨i, j, x, y, g1, g2, g3, g6, by show min o s.2 = _; rw [g5, g4]⟩)
end Go.Proofs.Ytmjnleohchmadaa.Epo
