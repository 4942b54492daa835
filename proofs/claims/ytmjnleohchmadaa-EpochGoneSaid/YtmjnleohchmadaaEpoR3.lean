/- The document's EndOf, Cut and Trim. -/
import Derived.Test.YtmjnleohchmadaaEpoR2
namespace Go.Proofs.Ytmjnleohchmadaa.Epo
open Go.RowKit Go.Proofs.Ytmjnleohchmadaa.Oct Go.Proofs.Ytmjnleohchmadaa.RowF Go.Proofs.Ytmjnleohchmadaa.Lay Go.Proofs.Ytmjnleohchmadaa.InR

theorem take_at9 {l : List Ep} {k : Nat} {x : Ep} (hk : l[k]? = some x) : l.take (k + 1) = l.take k ++ [x] := by
  rw [List.take_add_one, hk]; rfl
def endRel (l : List Ep) (n : Nat) (q last : Int) (w : World) (a0 b0 : Int) (va vb vi : Value) (wr : World) : Prop :=
  ∃ (k : Nat) (a b : Int), va = .int .i64 a ∧ vb = .int .i64 b ∧ vi = .int .i64 (k : Int) ∧ k ≤ n ∧ endO q last (l.drop k) (a, b) = (a0, b0) ∧ Below w.heap.size w wr
set_option maxRecDepth 100000 in
set_option maxHeartbeats 8000000 in
theorem rEndOf_is (A : Option Addr) (n c : Nat) (l : List Ep) (q last : Int) (w : World) (hr : RdE w w.heap.size A n l) (hn : n ≤ 1000000) {a0 b0 : Int} (hP : endOf l q last = (a0, b0)) :
    Calls Try.prog 20 #[.slice A n c, .int .i64 q, .int .i64 last] w fun e w' => e = .returned (.tuple #[.int .i64 a0, .int .i64 b0]) ∧ Below w.heap.size w w' := by
  have HR := Lib.hid hr
  have HLEN := Lib.hid hr.len
  have hn9 : n ≤ reach := Nat.le_trans hn (by decide)
  unfold endOf at hP
  cases hk : okE l with
  | false =>
    have HC := Lib.hid (show ckE l = 1 by unfold ckE; rw [hk]; rfl)
    rw [hk, if_neg Bool.false_ne_true] at hP
    injection hP with h1 h2
    subst h1; subst h2
    clear hr hk
    go_enter Try.func20, Try.ntmps20
    go_wp2_with (first
      | (go_at_call 18; (with_reducible refine (rCheck_is A n c l _ HR.out hn9 HC.out).mono ?_); rintro e w1 ⟨rfl, hb⟩; have HB1 := Lib.hid hb; have HR1 := Lib.hid (rdeUp HR.out hb); clear hb))
    go_ret2
    exact ⟨rfl, HB1.out⟩
  | true =>
    have HC := Lib.hid (show ckE l = 0 by unfold ckE; rw [hk]; rfl)
    rw [hk, if_pos rfl] at hP
    have HP := Lib.hid hP
    clear hr hk hP
    go_enter Try.func20, Try.ntmps20
    go_wp2_with (first
      | (go_at_call 18; (with_reducible refine (rCheck_is A n c l _ HR.out hn9 HC.out).mono ?_); rintro e w1 ⟨rfl, hb⟩; have HB1 := Lib.hid hb; have HR1 := Lib.hid (rdeUp HR.out hb); clear hb))
    go_loopw [8, 9, 19] (fun va vb vi wr => endRel l n q last w1 a0 b0 va vb vi wr) (fun _ _ vi _ => n - (intOf vi).toNat)
    case atStart => exact ⟨0, -1, 0, rfl, rfl, rfl, Nat.zero_le _, HP.out, Below.refl _ _⟩
    case round =>
      obtain ⟨k, a, b, rfl, rfl, rfl, hk, he, hb⟩ := hrel
      have HE := Lib.hid he
      have HB2 := Lib.hid hb
      have HR2 := Lib.hid (rdeUp HR1.out hb)
      clear he hb
      by_cases hlt : k < n
      · obtain ⟨g, o, ⟨x0, x1⟩, rfl, hbl, hxk, d0, d1⟩ := ep_at HR2.out hlt
        simp only at d0 d1
        have HD := Lib.hid (drop_at9 hxk)
        have hkl : (k : Int) < (n : Int) := by omega
        have hk0 : (0 : Int) ≤ (k : Int) := by omega
        have hw1 : IntKind.i64.wrap ((k : Int) + 1) = (k : Int) + 1 := IntWalk.i64_in _ (by omega)
        clear hxk
        by_cases hle : x0 ≤ q
        · have HEQ := Lib.hid (show endO q last (l.drop (k + 1)) (x0, nx (l.drop (k + 1)) last) = (a0, b0) by have h9 := HE.out; rw [HD.out] at h9; unfold endO at h9; rw [if_pos hle] at h9; exact h9)
          clear HE HD
          go_upto_region 7 with fail
          have hba := belA wr (.cells #[.int .i64 x0, .int .i64 x1] 32)
          have HX := Lib.hid (At0.new wr [.int .i64 x0, .int .i64 x1] 32)
          have HR3 := Lib.hid (rdeUp HR2.out hba)
          have HB3 := Lib.hid (bel_trans HB2.out hba)
          clear hba d0 d1 hbl
          generalize (wr.alloc (.cells #[.int .i64 x0, .int .i64 x1] 32)) = w3 at *
          obtain ⟨c0, c1⟩ := cel2 HX.out
          go_wp2_with (first
            | (go_at_call 37; (with_reducible refine (rend_is (some ⟨g, o, none⟩) n c k last l _ HR3.out hn9 hlt rfl).mono ?_); rintro e w4 ⟨rfl, rfl⟩; skip))
          go_roundw
          case rel => exact ⟨k + 1, _, _, rfl, rfl, by go_num, by omega, HEQ.out, HB3.out⟩
          case measure => simp [intOf]; omega
        · have HEQ := Lib.hid (show endO q last (l.drop (k + 1)) (a, b) = (a0, b0) by have h9 := HE.out; rw [HD.out] at h9; unfold endO at h9; rw [if_neg hle] at h9; exact h9)
          clear HE HD
          go_upto_region 7 with fail
          have hba := belA wr (.cells #[.int .i64 x0, .int .i64 x1] 32)
          have HX := Lib.hid (At0.new wr [.int .i64 x0, .int .i64 x1] 32)
          have HR3 := Lib.hid (rdeUp HR2.out hba)
          have HB3 := Lib.hid (bel_trans HB2.out hba)
          clear hba d0 d1 hbl
          generalize (wr.alloc (.cells #[.int .i64 x0, .int .i64 x1] 32)) = w3 at *
          obtain ⟨c0, c1⟩ := cel2 HX.out
          go_wp2
          go_roundw
          case rel => exact ⟨k + 1, _, _, rfl, rfl, by go_num, by omega, HEQ.out, HB3.out⟩
          case measure => simp [intOf]; omega
      · obtain rfl : k = n := by omega
        have he := HE.out
        rw [List.drop_of_length_le (by rw [HLEN.out]; exact Nat.le_refl _)] at he
        injection he with h1 h2
        subst h1; subst h2
        clear hlt
        go_wp2
        go_ret2
        exact ⟨rfl, bel_trans HB1.out HB2.out⟩
def cutRel (f : List Ep → List Ep) (l : List Ep) (n : Nat) (w : World) (vo vi : Value) (wr : World) : Prop :=
  ∃ (k m : Nat) (A : Option Addr) (c : Nat), vi = .int .i64 (k : Int) ∧ vo = .slice A m c ∧ k ≤ n ∧ m ≤ k ∧ OwnE wr w.heap.size (.slice A m c) m (f (l.take k)) ∧ Below w.heap.size w wr
set_option maxRecDepth 100000 in
set_option maxHeartbeats 8000000 in
theorem rCut_is (A : Option Addr) (n c : Nat) (l : List Ep) (q : Int) (w : World) (hr : RdE w w.heap.size A n l) (hn : n ≤ 1000000) :
    Calls Try.prog 23 #[.slice A n c, .int .i64 q] w fun e w' => ∃ A' m c', e = .returned (.slice A' m c') ∧ OwnE w' w.heap.size (.slice A' m c') m (cutE l q) ∧ Below w.heap.size w w' := by
  have HR := Lib.hid hr
  have HLEN := Lib.hid hr.len
  have hn9 : n ≤ reach := Nat.le_trans hn (by decide)
  clear hr
  obtain ⟨f, hf⟩ : ∃ f : Ep → Bool, f = fun x => okE l && decide (x.st < q) := ⟨_, rfl⟩
  have HF := Lib.hid hf
  clear hf
  go_enter Try.func23, Try.ntmps23
  go_wp2
  go_loopw [5, 10] (fun vo vi wr => cutRel (List.filter f) l n w vo vi wr) (fun _ vi _ => n - (intOf vi).toNat)
  case atStart => exact ⟨0, 0, none, 0, rfl, rfl, Nat.zero_le _, Nat.le_refl _, OwnF.nil, Below.refl _ _⟩
  case round =>
    obtain ⟨k, m, A1, c1, rfl, rfl, hk, hmk, ho, hb⟩ := hrel
    have HB2 := Lib.hid hb
    have HO2 := Lib.hid ho
    have HR2 := Lib.hid (rdeUp HR.out hb)
    clear ho hb
    by_cases hlt : k < n
    · obtain ⟨g, o, ⟨x0, x1⟩, rfl, hbl, hxk, d0, d1⟩ := ep_at HR2.out hlt
      simp only at d0 d1
      have HT := Lib.hid (take_at9 hxk)
      have hkl : (k : Int) < (n : Int) := by omega
      have hk0 : (0 : Int) ≤ (k : Int) := by omega
      have hw1 : IntKind.i64.wrap ((k : Int) + 1) = (k : Int) + 1 := IntWalk.i64_in _ (by omega)
      clear hxk
      go_upto_region 5 with fail
      have hba := belA wr (.cells #[.int .i64 x0, .int .i64 x1] 32)
      have HX := Lib.hid (At0.new wr [.int .i64 x0, .int .i64 x1] 32)
      have HR3 := Lib.hid (rdeUp HR2.out hba)
      have HB3_0 := Lib.hid (bel_trans HB2.out hba)
      have HO3_0 := Lib.hid (OwnF.below HO2.out hba)
      clear hba d0 d1 hbl HR2 HO2
      generalize (wr.alloc (.cells #[.int .i64 x0, .int .i64 x1] 32)) = w3 at *
      cases hkq : okE l with
      | false =>
        have HFX := Lib.hid (show List.filter f [⟨x0, x1⟩] = [] by rw [HF.out]; simp [hkq])
        have HCK := Lib.hid (show ckE l = 1 by unfold ckE; rw [hkq]; rfl)
        clear hkq
        go_wp2_with (first
          | (go_at_call 18; (with_reducible refine (rCheck_is (some ⟨g, o, none⟩) n c l _ HR3.out hn9 HCK.out).mono ?_); rintro e w4 ⟨rfl, hb⟩; have HB3 := Lib.hid (bel_trans HB3_0.out hb); have HO3 := Lib.hid (OwnF.below HO3_0.out hb); have HX4 := Lib.hid (HX.out.below hb); obtain ⟨c0, c1⟩ := cel2 HX4.out; clear hb))
        skip
        go_roundw
        case rel => exact ⟨k + 1, m, _, _, by go_num, rfl, by omega, by omega, by rw [HT.out, List.filter_append, HFX.out, List.append_nil]; exact HO3.out, HB3.out⟩
        case measure => simp [intOf]; omega
      | true =>
        have HCK := Lib.hid (show ckE l = 0 by unfold ckE; rw [hkq]; rfl)
        by_cases hlq : x1 < q
        · have HFX := Lib.hid (show List.filter f [⟨x0, x1⟩] = [⟨x0, x1⟩] by rw [HF.out]; simp [hkq, hlq])
          clear hkq
          go_upto_region 6 with (go_at_call 18; (with_reducible refine (rCheck_is (some ⟨g, o, none⟩) n c l _ HR3.out hn9 HCK.out).mono ?_); rintro e w4 ⟨rfl, hb⟩; have HB3 := Lib.hid (bel_trans HB3_0.out hb); have HO3 := Lib.hid (OwnF.below HO3_0.out hb); have HX4 := Lib.hid (HX.out.below hb); obtain ⟨c0, c1⟩ := cel2 HX4.out; clear hb)
          have hs9 := HB3.out.size
          obtain ⟨A7, c7, w7, hrun, ho7, hb7⟩ := run_appE (w := w4) w.heap.size HO3.out ⟨x0, x1⟩ (by omega) (by omega)
          dsimp only [epC] at hrun
          have HO7 := Lib.hid ho7
          have HB7 := Lib.hid (HB3.out.trans hb7)
          clear ho7 hb7 hs9
          go_wp2_with (at_builtin; refine wpList_app_run9 rfl _ _ 22 rfl rfl rfl hrun ?_)
          go_roundw
          case rel => exact ⟨k + 1, m + 1, _, _, by go_num, rfl, by omega, by omega, by rw [HT.out, List.filter_append, HFX.out]; exact HO7.out, HB7.out⟩
          case measure => simp [intOf]; omega
        · have HFX := Lib.hid (show List.filter f [⟨x0, x1⟩] = [] by rw [HF.out]; simp [hlq])
          clear hkq
          go_wp2_with (first
            | (go_at_call 18; (with_reducible refine (rCheck_is (some ⟨g, o, none⟩) n c l _ HR3.out hn9 HCK.out).mono ?_); rintro e w4 ⟨rfl, hb⟩; have HB3 := Lib.hid (bel_trans HB3_0.out hb); have HO3 := Lib.hid (OwnF.below HO3_0.out hb); have HX4 := Lib.hid (HX.out.below hb); obtain ⟨c0, c1⟩ := cel2 HX4.out; clear hb))
          skip
          go_roundw
          case rel => exact ⟨k + 1, m, _, _, by go_num, rfl, by omega, by omega, by rw [HT.out, List.filter_append, HFX.out, List.append_nil]; exact HO3.out, HB3.out⟩
          case measure => simp [intOf]; omega
    · obtain rfl : k = n := by omega
      have HE := Lib.hid (show List.filter f (l.take k) = cutE l q by
        rw [List.take_of_length_le (by rw [HLEN.out]; exact Nat.le_refl _), HF.out]
        unfold cutE
        cases okE l with
        | true => rfl
        | false => simp)
      clear hlt
      go_wp2
      go_ret
      exact ⟨A1, m, c1, rfl, HE.out ▸ HO2.out, HB2.out⟩
end Go.Proofs.Ytmjnleohchmadaa.Epo
