/- The document's Trim. -/
import Derived.Test.YtmjnleohchmadaaEpoR3
namespace Go.Proofs.Ytmjnleohchmadaa.Epo
open Go.RowKit Go.Proofs.Ytmjnleohchmadaa.Oct Go.Proofs.Ytmjnleohchmadaa.RowF Go.Proofs.Ytmjnleohchmadaa.Lay Go.Proofs.Ytmjnleohchmadaa.InR

def trimRel (s : Int) (X l : List Ep) (n : Nat) (w : World) (vo vi : Value) (wr : World) : Prop :=
  ∃ (k m : Nat) (A : Option Addr) (c : Nat) (out : List Ep), vi = .int .i64 (k : Int) ∧ vo = .slice A m c ∧ k ≤ n ∧ m ≤ k ∧ out ++ trimF s (l.drop k) = X ∧ OwnE wr w.heap.size (.slice A m c) m out ∧ Below w.heap.size w wr
theorem app_step {out r X : List Ep} {x : Ep} {t : List Ep} (h : out ++ t = X) (hx : t = x :: r) : (out ++ [x]) ++ r = X := by
  rw [← h, hx, List.append_assoc]; rfl
theorem trimF_last {s : Int} {x : Ep} {l : List Ep} (hl : l = []) : trimF s (x :: l) = ⟨x.ep, max x.st s⟩ :: trimF s l := by unfold trimF; rw [if_pos (.inl hl)]; cases l <;> rfl
theorem trimF_in {s : Int} {x y : Ep} {l t : List Ep} (hl : l = y :: t) (hs : s < y.st) : trimF s (x :: l) = ⟨x.ep, max x.st s⟩ :: trimF s l := by subst hl; rw [trimF, if_pos (.inr hs)]
theorem trimF_out {s : Int} {x y : Ep} {l t : List Ep} (hl : l = y :: t) (hs : ¬ s < y.st) : trimF s (x :: l) = trimF s l := by subst hl; rw [trimF, if_neg]; rintro (h | h); cases h; exact hs h
set_option maxRecDepth 100000 in
set_option maxHeartbeats 8000000 in
theorem rTrim_bad (A : Option Addr) (n c : Nat) (l : List Ep) (s : Int) (w : World) (hr : RdE w w.heap.size A n l) (hn : n ≤ 1000000) {C : Int} (hC : ckE l = C) (hw : C ≠ 0 ∨ (C = 0 ∧ s < 0) ∨ (C = 0 ∧ ¬ s < 0 ∧ 1099511627776 < s)) :
    Calls Try.prog 24 #[.slice A n c, .int .i64 s] w fun e w' => e = .returned (.slice none 0 0) ∧ Below w.heap.size w w' := by
  have HR := Lib.hid hr
  have HC := Lib.hid hC
  have hn9 : n ≤ reach := Nat.le_trans hn (by decide)
  clear hr hC
  rcases hw with h | ⟨rfl, h⟩ | ⟨rfl, h, h2⟩
  case inl =>
    have hcn := bne_iff_ne.2 h
    clear h
    go_enter Try.func24, Try.ntmps24
    go_wp2_with (first
      | (go_at_call 18; (with_reducible refine (rCheck_is A n c l _ HR.out hn9 HC.out).mono ?_); rintro e w1 ⟨rfl, hb⟩; have HB1 := Lib.hid hb; have HR1 := Lib.hid (rdeUp HR.out hb); clear hb))
    go_ret
    exact ⟨rfl, HB1.out⟩
  all_goals
    go_enter Try.func24, Try.ntmps24
    go_wp2_with (first
      | (go_at_call 18; (with_reducible refine (rCheck_is A n c l _ HR.out hn9 HC.out).mono ?_); rintro e w1 ⟨rfl, hb⟩; have HB1 := Lib.hid hb; have HR1 := Lib.hid (rdeUp HR.out hb); clear hb))
    go_ret
    exact ⟨rfl, HB1.out⟩
set_option maxRecDepth 100000 in
set_option maxHeartbeats 8000000 in
theorem rTrim_main (A : Option Addr) (n c : Nat) (l : List Ep) (s : Int) (w : World) (hr : RdE w w.heap.size A n l) (hn : n ≤ 1000000) (hC : ckE l = 0) (g1 : ¬ s < 0) (g2 : ¬ 1099511627776 < s) :
    Calls Try.prog 24 #[.slice A n c, .int .i64 s] w fun e w' => ∃ A' m c', e = .returned (.slice A' m c') ∧ OwnE w' w.heap.size (.slice A' m c') m (trimF s l) ∧ Below w.heap.size w w' := by
  have HR := Lib.hid hr
  have HC := Lib.hid hC
  have HLEN := Lib.hid hr.len
  have hn9 : n ≤ reach := Nat.le_trans hn (by decide)
  clear hr hC
  go_enter Try.func24, Try.ntmps24
  go_wp2_with (first
    | (go_at_call 18; (with_reducible refine (rCheck_is A n c l _ HR.out hn9 HC.out).mono ?_); rintro e w1 ⟨rfl, hb⟩; have HB1 := Lib.hid hb; have HR1 := Lib.hid (rdeUp HR.out hb); clear hb))
  go_loopw [5, 21] (fun vo vi wr => trimRel s (trimF s l) l n w1 vo vi wr) (fun _ vi _ => n - (intOf vi).toNat)
  case atStart => exact ⟨0, 0, none, 0, [], rfl, rfl, Nat.zero_le _, Nat.le_refl _, rfl, OwnF.nil, Below.refl _ _⟩
  case round =>
    obtain ⟨k, m, A1, c1, out, rfl, rfl, hk, hmk, he, ho, hb⟩ := hrel
    have HE := Lib.hid he
    have HB2 := Lib.hid hb
    have HO2 := Lib.hid ho
    have HR2 := Lib.hid (rdeUp HR1.out hb)
    clear ho hb he
    by_cases hlt : k < n
    · obtain ⟨g, o, ⟨x0, x1⟩, rfl, hbl, hxk, d0, d1⟩ := ep_at HR2.out hlt
      simp only at d0 d1
      have HD := Lib.hid (drop_at9 hxk)
      have hkl : (k : Int) < (n : Int) := by omega
      have hk0 : (0 : Int) ≤ (k : Int) := by omega
      have hw1 : IntKind.i64.wrap ((k : Int) + 1) = (k : Int) + 1 := IntWalk.i64_in _ (by omega)
      clear hxk
      go_upto_region 7 with fail
      have hba := belA wr (.cells #[.int .i64 x0, .int .i64 x1] 32)
      have HX := Lib.hid (At0.new wr [.int .i64 x0, .int .i64 x1] 32)
      have HR3 := Lib.hid (rdeUp HR2.out hba)
      have HB3 := Lib.hid (bel_trans HB2.out hba)
      have HO3 := Lib.hid (OwnF.below HO2.out hba)
      clear hba d0 d1 hbl HR2 HO2 HB2
      generalize (wr.alloc (.cells #[.int .i64 x0, .int .i64 x1] 32)) = w3 at *
      obtain ⟨c0, c1⟩ := cel2 HX.out
      by_cases hl1 : k + 1 = n
      · have hst := trimF_last (s := s) (x := ⟨x0, x1⟩) (l := l.drop (k + 1)) (List.drop_of_length_le (by rw [HLEN.out]; omega))
        simp only at hst
        have hq1 : ((k : Int) + 1 == (n : Int)) = true := beqT (by omega)
        clear hl1
        by_cases hm1 : x1 < s
        · rw [show max x1 s = s by omega] at hst
          have HS := Lib.hid (app_step HE.out (by rw [HD.out]; exact hst))
          clear hst
          have hs9 := HB3.out.size
          obtain ⟨A7, c7, w7, hrun, ho7, hb7⟩ := run_appE (w := w3) w1.heap.size HO3.out ⟨x0, s⟩ (by omega) (by omega)
          dsimp only [epC] at hrun
          have HO7 := Lib.hid ho7
          have HB7 := Lib.hid (HB3.out.trans hb7)
          clear ho7 hb7 hs9
          go_wp2_with (at_builtin; refine wpList_app_run9 rfl _ _ 22 rfl rfl rfl hrun ?_)
          go_roundw
          case rel => exact ⟨k + 1, m + 1, _, _, _, by go_num, rfl, by omega, by omega, HS.out, HO7.out, HB7.out⟩
          case measure => simp [intOf]; omega
        · rw [show max x1 s = x1 by omega] at hst
          have HS := Lib.hid (app_step HE.out (by rw [HD.out]; exact hst))
          clear hst
          have hs9 := HB3.out.size
          obtain ⟨A7, c7, w7, hrun, ho7, hb7⟩ := run_appE (w := w3) w1.heap.size HO3.out ⟨x0, x1⟩ (by omega) (by omega)
          dsimp only [epC] at hrun
          have HO7 := Lib.hid ho7
          have HB7 := Lib.hid (HB3.out.trans hb7)
          clear ho7 hb7 hs9
          go_wp2_with (at_builtin; refine wpList_app_run9 rfl _ _ 22 rfl rfl rfl hrun ?_)
          go_roundw
          case rel => exact ⟨k + 1, m + 1, _, _, _, by go_num, rfl, by omega, by omega, HS.out, HO7.out, HB7.out⟩
          case measure => simp [intOf]; omega
      · have hq1 : ((k : Int) + 1 == (n : Int)) = false := beqF (by omega)
        have hq2 : (0 : Int) ≤ (k : Int) + 1 := by omega
        have hq3 : (k : Int) + 1 < (n : Int) := by omega
        have hq4 : ((k : Int) + 1).toNat = k + 1 := by omega
        obtain ⟨g', o', ⟨y0, y1⟩, hA0, _, hyk, _, e1⟩ := ep_at (k := k + 1) HR3.out (by omega)
        obtain ⟨rfl, rfl⟩ : g = g' ∧ o = o' := by injection hA0 with h; injection h with h1 h2; exact ⟨h1, h2⟩
        simp only at e1
        have HY := Lib.hid (drop_at9 hyk)
        clear hA0 hyk hl1
        by_cases hsy : s < y1
        · have hst := trimF_in (s := s) (x := ⟨x0, x1⟩) HY.out hsy
          simp only at hst
          by_cases hm1 : x1 < s
          · rw [show max x1 s = s by omega] at hst
            have HS := Lib.hid (app_step HE.out (by rw [HD.out]; exact hst))
            clear hst
            have hs9 := HB3.out.size
            obtain ⟨A7, c7, w7, hrun, ho7, hb7⟩ := run_appE (w := w3) w1.heap.size HO3.out ⟨x0, s⟩ (by omega) (by omega)
            dsimp only [epC] at hrun
            have HO7 := Lib.hid ho7
            have HB7 := Lib.hid (HB3.out.trans hb7)
            clear ho7 hb7 hs9
            go_wp2_with (at_builtin; refine wpList_app_run9 rfl _ _ 22 rfl rfl rfl hrun ?_)
            go_roundw
            case rel => exact ⟨k + 1, m + 1, _, _, _, by go_num, rfl, by omega, by omega, HS.out, HO7.out, HB7.out⟩
            case measure => simp [intOf]; omega
          · rw [show max x1 s = x1 by omega] at hst
            have HS := Lib.hid (app_step HE.out (by rw [HD.out]; exact hst))
            clear hst
            have hs9 := HB3.out.size
            obtain ⟨A7, c7, w7, hrun, ho7, hb7⟩ := run_appE (w := w3) w1.heap.size HO3.out ⟨x0, x1⟩ (by omega) (by omega)
            dsimp only [epC] at hrun
            have HO7 := Lib.hid ho7
            have HB7 := Lib.hid (HB3.out.trans hb7)
            clear ho7 hb7 hs9
            go_wp2_with (at_builtin; refine wpList_app_run9 rfl _ _ 22 rfl rfl rfl hrun ?_)
            go_roundw
            case rel => exact ⟨k + 1, m + 1, _, _, _, by go_num, rfl, by omega, by omega, HS.out, HO7.out, HB7.out⟩
            case measure => simp [intOf]; omega
        · have hst := trimF_out (s := s) (x := ⟨x0, x1⟩) HY.out hsy
          have HS := Lib.hid (show out ++ trimF s (l.drop (k + 1)) = trimF s l by rw [← hst, ← HD.out]; exact HE.out)
          clear hst
          go_wp2
          go_roundw
          case rel => exact ⟨k + 1, m, _, _, _, by go_num, rfl, by omega, by omega, HS.out, HO3.out, HB3.out⟩
          case measure => simp [intOf]; omega
    · obtain rfl : k = n := by omega
      have HE2 := Lib.hid (show out = trimF s l by rw [← HE.out, List.drop_of_length_le (by rw [HLEN.out]; exact Nat.le_refl _)]; exact (List.append_nil _).symm)
      clear hlt
      go_wp2
      go_ret
      exact ⟨A1, m, c1, rfl, HE2.out ▸ OwnF.more HO2.out HB1.out.size, bel_trans HB1.out HB2.out⟩
theorem rTrim_is (A : Option Addr) (n c : Nat) (l : List Ep) (s : Int) (w : World) (hr : RdE w w.heap.size A n l) (hn : n ≤ 1000000) :
    Calls Try.prog 24 #[.slice A n c, .int .i64 s] w fun e w' => ∃ A' m c', e = .returned (.slice A' m c') ∧ OwnE w' w.heap.size (.slice A' m c') m (trimE l s) ∧ Below w.heap.size w w' := by
  by_cases h1 : okE l = true ∧ 0 ≤ s ∧ s ≤ 1099511627776
  · have h2 := rTrim_main A n c l s w hr hn (by unfold ckE; rw [h1.1]; rfl) (by omega) (by omega)
    rw [show trimE l s = trimF s l by unfold trimE; rw [if_pos h1]]
    exact h2
  · rw [show trimE l s = [] by unfold trimE; rw [if_neg h1]]
    refine (rTrim_bad A n c l s w hr hn rfl ?_).mono ?_
    · unfold ckE
      cases hk : okE l with
      | false => left; simp
      | true =>
        right
        rw [if_pos rfl]
        by_cases h3 : s < 0
        · exact .inl ⟨rfl, h3⟩
        · exact .inr ⟨rfl, h3, by by_cases h4 : 1099511627776 < s; exact h4; exact absurd ⟨hk, by omega, by omega⟩ h1⟩
    · rintro e w' ⟨rfl, hb⟩
      exact ⟨none, 0, 0, rfl, OwnF.nil, hb⟩
end Go.Proofs.Ytmjnleohchmadaa.Epo
