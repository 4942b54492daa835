/- Joined: EpoLogM. -/
import Derived.Test.YtmjnleohchmadaaEpoSafe
/- The plain mathematics of EpochSafe's logs. Nothing of the program. -/
namespace Go.Proofs.Ytmjnleohchmadaa.Epo

structure Lb where
  ba : Int
  ep : Int
def psL (l : List Lb) : List (Int × Int) := l.map fun x => (x.ep, x.ba)
def logL (st by' : Int) : Int → Nat → List UInt8 → List Lb
  | _, _, [] => []
  | f, i, r :: rs => ⟨st + i, f + by' * ((r.toNat % 3 : Nat) : Int)⟩ :: logL st by' (f + by' * ((r.toNat % 3 : Nat) : Int)) (i + 1) rs
theorem logL_len (st by' : Int) : ∀ (f : Int) (i : Nat) (rs : List UInt8), (logL st by' f i rs).length = rs.length := by
  intro f i rs
  induction rs generalizing f i with
  | nil => rfl
  | cons r rs ih => show (logL st by' _ (i + 1) rs).length + 1 = _; rw [ih]; rfl
theorem rise {by' : Int} (h : by' = 1 ∨ by' = 2) (r : UInt8) : 0 ≤ by' * ((r.toNat % 3 : Nat) : Int) ∧ by' * ((r.toNat % 3 : Nat) : Int) ≤ 4 := by
  have : r.toNat % 3 < 3 := Nat.mod_lt _ (by decide)
  rcases h with rfl | rfl <;> omega
theorem logL_way {st by' : Int} (h : by' = 1 ∨ by' = 2) (h0 : 0 ≤ st) : ∀ (rs : List UInt8) (f : Int) (i : Nat) (e : Int), 0 ≤ e → e ≤ f → f + 4 * rs.length ≤ 1048576 → st + i + rs.length ≤ 1099511627776 → wayE e (st + i) (psL (logL st by' f i rs)) = true := by
  intro rs
  induction rs with
  | nil => intro f i e _ _ _ _; rfl
  | cons r rs ih =>
    intro f i e h1 h2 h3 h4
    have hr := rise h r
    rw [List.length_cons] at h3 h4
    show wayE e (st + i) ((f + by' * ((r.toNat % 3 : Nat) : Int), st + i) :: psL (logL st by' _ (i + 1) rs)) = true
    rw [wayE_cons]
    refine ⟨⟨by simp only; omega, by simp only; omega, rfl, by omega, by omega, by simp only; omega⟩, ?_⟩
    have := ih (f + by' * ((r.toNat % 3 : Nat) : Int)) (i + 1) (f + by' * ((r.toNat % 3 : Nat) : Int)) (by omega) (by omega) (by omega) (by omega)
    rw [show st + i + 1 = st + ((i + 1 : Nat) : Int) by omega]
    exact this
theorem logL_par {st : Int} : ∀ (rs : List UInt8) (f : Int) (i : Nat), ∀ p ∈ psL (logL st 2 f i rs), p.1 % 2 = f % 2 := by
  intro rs
  induction rs with
  | nil => intro f i p hp; cases hp
  | cons r rs ih =>
    intro f i p hp
    have hp' : p ∈ (f + 2 * ((r.toNat % 3 : Nat) : Int), st + i) :: psL (logL st 2 (f + 2 * ((r.toNat % 3 : Nat) : Int)) (i + 1) rs) := hp
    rcases List.mem_cons.1 hp' with rfl | h
    · simp only; omega
    · have := ih _ _ p h; omega
theorem logL_high {st : Int} : ∀ (rs : List UInt8) (f : Int) (i : Nat) (x : Lb), (logL st 1 f i rs).getLast? = some x → f ≤ x.ep ∧ x.ep ≤ f + 2 * rs.length := by
  intro rs
  induction rs with
  | nil => intro f i x h; cases h
  | cons r rs ih =>
    intro f i x h
    have hm : r.toNat % 3 < 3 := Nat.mod_lt _ (by decide)
    have h' : (⟨st + i, f + 1 * ((r.toNat % 3 : Nat) : Int)⟩ :: logL st 1 (f + 1 * ((r.toNat % 3 : Nat) : Int)) (i + 1) rs : List Lb).getLast? = some x := h
    rw [List.getLast?_cons] at h'
    cases hl : (logL st 1 (f + 1 * ((r.toNat % 3 : Nat) : Int)) (i + 1) rs).getLast? with
    | none =>
      rw [hl] at h'
      obtain rfl : (⟨st + i, f + 1 * ((r.toNat % 3 : Nat) : Int)⟩ : Lb) = x := Option.some.inj h'
      simp only [List.length_cons]; omega
    | some y =>
      rw [hl] at h'
      obtain rfl : y = x := Option.some.inj h'
      have := ih _ _ y hl
      simp only [List.length_cons]; omega
theorem ofE_app (l : List Ep) (p q : List (Int × Int)) : ofE l (p ++ q) = ofE (ofE l p) q := by
  induction p generalizing l with
  | nil => rfl
  | cons x p ih => exact ih _
theorem psL_app (l m : List Lb) : psL (l ++ m) = psL l ++ psL m := List.map_append
def lastL (l : List Lb) : Int := (l.getLast?.map Lb.ep).getD 1
def moreL (l : List UInt8) : List UInt8 := if l = [] then [] else 0 :: l
theorem moreL_len (l : List UInt8) : (moreL l).length ≤ l.length + 1 := by unfold moreL; split <;> simp
theorem ofE_nil_mem {e s : Int} {ps : List (Int × Int)} (h : wayE e s ps = true) : ∀ z ∈ ofE [] ps, ∃ p ∈ ps, p.1 = z.ep := by
  cases ps with
  | nil => intro z hz; cases hz
  | cons p ps =>
    obtain ⟨m, h1, _, h3, _⟩ := ofE_start h
    rw [h1]
    exact fun z hz => (h3 z hz).1
theorem way_tail {l ma : List Ep} {y : Ep} {s : Nat} {en : Int} {xs : List UInt8} (hy : y.ep < en)
    (hm : ofE l (psL (logL s 2 en 0 (moreL xs))) = l ++ ma) (hh : ∀ p, (psL (logL s 2 en 0 (moreL xs))).head? = some p → y.ep < p.1 → ∃ m', ma = ⟨p.1, (s : Int)⟩ :: m') :
    nx ma (((s + (moreL xs).length : Nat) : Int)) = s := by
  by_cases hx : xs = []
  · subst hx
    have : ma = [] := by
      have h1 : l = l ++ ma := hm
      have := congrArg List.length h1
      rw [List.length_append] at this
      exact List.length_eq_zero_iff.1 (by omega)
    rw [this]
    show (((s + 0 : Nat)) : Int) = s
    rw [Nat.add_zero]
  · have hps : (psL (logL s 2 en 0 (moreL xs))).head? = some (en + 2 * (((0 : UInt8).toNat % 3 : Nat) : Int), (s : Int) + ((0 : Nat) : Int)) := by
      unfold moreL; rw [if_neg hx]; rfl
    obtain ⟨m', h⟩ := hh _ hps (by simp only; have : (0 : UInt8).toNat % 3 = 0 := rfl; rw [this]; omega)
    rw [h]; rfl
theorem safe_meet (sm xs ys : List UInt8) (h1 : sm.length ≤ 30) (h2 : xs.length ≤ 30) (h3 : ys.length ≤ 30) {ev od : Int} (hev : ev = lastL (logL 0 1 1 0 sm) + 2 - lastL (logL 0 1 1 0 sm) % 2) (hod : od = lastL (logL 0 1 1 0 sm) + 1 + lastL (logL 0 1 1 0 sm) % 2) :
    meetE (ofE [] (psL (logL 0 1 1 0 sm ++ logL sm.length 2 ev 0 (moreL xs)))) ((sm.length + (moreL xs).length : Nat) : Int) (ofE [] (psL (logL 0 1 1 0 sm ++ logL sm.length 2 od 0 (moreL ys)))) ((sm.length + (moreL ys).length : Nat) : Int) = sm.length := by
  have hml := moreL_len xs
  have hml2 := moreL_len ys
  have hlast : 1 ≤ lastL (logL 0 1 1 0 sm) ∧ lastL (logL 0 1 1 0 sm) ≤ 61 := by
    unfold lastL
    cases hl : (logL 0 1 1 0 sm).getLast? with
    | none => simp
    | some x => have := logL_high sm 1 0 x hl; simp only [Option.map_some, Option.getD_some]; omega
  rw [psL_app, psL_app, ofE_app, ofE_app]
  have wa : wayE (lastL (logL 0 1 1 0 sm)) ((sm.length : Int) + ((0 : Nat) : Int)) (psL (logL sm.length 2 ev 0 (moreL xs))) = true := logL_way (st := (sm.length : Int)) (by' := 2) (.inr rfl) (by omega) _ _ _ _ (by omega) (by omega) (by omega) (by omega)
  have wb : wayE (lastL (logL 0 1 1 0 sm)) ((sm.length : Int) + ((0 : Nat) : Int)) (psL (logL sm.length 2 od 0 (moreL ys))) = true := logL_way (st := (sm.length : Int)) (by' := 2) (.inr rfl) (by omega) _ _ _ _ (by omega) (by omega) (by omega) (by omega)
  have pa := logL_par (st := (sm.length : Int)) (moreL xs) ev 0
  have pb := logL_par (st := (sm.length : Int)) (moreL ys) od 0
  rw [show (sm.length : Int) + ((0 : Nat) : Int) = sm.length by omega] at wa wb
  cases hsm : sm with
  | nil =>
    subst hsm
    refine meet_apart fun z hz u hu => ?_
    obtain ⟨p, hp, hpz⟩ := ofE_nil_mem wa z hz
    obtain ⟨q, hq, hqu⟩ := ofE_nil_mem wb u hu
    have := pa p hp
    have := pb q hq
    omega
  | cons r rs =>
    rw [← hsm]
    have w0 : wayE 0 0 (psL (logL 0 1 1 0 sm)) = true := logL_way (st := 0) (by' := 1) (.inl rfl) (by omega) sm 1 0 0 (by omega) (by omega) (by omega) (by omega)
    cases hps : psL (logL 0 1 1 0 sm) with
    | nil =>
      have := congrArg List.length hps
      unfold psL at this
      rw [List.length_map, logL_len, hsm] at this
      cases this
    | cons p ps =>
      rw [hps] at w0
      obtain ⟨m, g1, g2, g3, g4⟩ := ofE_start w0
      have hpl : (p :: ps).length = sm.length := by rw [← hps]; unfold psL; rw [List.length_map, logL_len]
      obtain ⟨x, hx⟩ : ∃ x, (logL 0 1 1 0 sm).getLast? = some x := by
        cases hl : (logL 0 1 1 0 sm).getLast? with
        | some x => exact ⟨x, rfl⟩
        | none =>
          have := congrArg List.length (List.getLast?_eq_none_iff.1 hl)
          rw [logL_len, hsm] at this
          cases this
      have hxl : lastL (logL 0 1 1 0 sm) = x.ep := by unfold lastL; rw [hx]; rfl
      obtain ⟨y, hy, hye⟩ := g4 (x.ep, x.ba) (by rw [← hps]; unfold psL; rw [List.getLast?_map, hx]; rfl)
      simp only at hye
      have hys : y.st < sm.length := by
        have := (g3 y (List.mem_of_getLast? hy)).2.2
        rw [List.length_cons] at hpl
        omega
      rw [g1]
      rw [hxl, ← hye] at wa wb
      rw [hxl] at hev hod
      obtain ⟨ma, a1, a2, a3, _, a5⟩ := ofE_way g2 hy hys wa
      obtain ⟨mb, b1, b2, b3, _, b5⟩ := ofE_way g2 hy hys wb
      rw [a1, b1]
      refine meet_parted a2 b2 hy (fun z hz u hu => ?_) (way_tail (by omega) a1 a5) (way_tail (by omega) b1 b5)
      obtain ⟨p', hp', hpz⟩ := (a3 z hz).1
      obtain ⟨q', hq', hqu⟩ := (b3 u hu).1
      have := pa p' hp'
      have := pb q' hq'
      omega
end Go.Proofs.Ytmjnleohchmadaa.Epo
