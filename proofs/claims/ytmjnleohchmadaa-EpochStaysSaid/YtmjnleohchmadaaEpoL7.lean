/- The walk of EpochStays. -/
import Derived.Test.YtmjnleohchmadaaEpoV
import Derived.Test.YtmjnleohchmadaaEpoD3
import Derived.Deep.DeepCutAuto
namespace Go.Proofs.Ytmjnleohchmadaa.Epo
open Go.RowKit Go.Proofs.Ytmjnleohchmadaa.Oct Go.Proofs.Ytmjnleohchmadaa.RowF Go.Proofs.Ytmjnleohchmadaa.Lay Go.Proofs.Ytmjnleohchmadaa.InR Go.Proofs.Ytmjnleohchmadaa.Bat

theorem cutE_len (l : List Ep) (off : Int) : (cutE l off).length ≤ l.length := by
  unfold cutE
  split
  · exact List.length_filter_le _ _
  · exact Nat.zero_le _
theorem trimF_len (s : Int) (l : List Ep) : (trimF s l).length ≤ l.length := by
  induction l with
  | nil => exact Nat.le_refl _
  | cons x l ih =>
    rw [trimF]
    split
    · rw [List.length_cons, List.length_cons]; omega
    · rw [List.length_cons]; omega
theorem trimE_len (l : List Ep) (s : Int) : (trimE l s).length ≤ l.length := by
  unfold trimE
  split
  · exact trimF_len s l
  · exact Nat.zero_le _
set_option maxRecDepth 100000 in
set_option maxHeartbeats 8000000 in
theorem epochStays_walk (A : Option Addr) (n c : Nat) (l : List Ep) (en st q : Int) (w : World) (hr : RdE w w.heap.size A n l) (_hc : n ≤ c) :
    Calls Try.prog 8 #[.slice A n c, .int .i64 en, .int .i64 st, .int .i64 q] w fun e w' => e = .returned (.bool true) ∧ Below w.heap.size w w' := by
  have HR0 := Lib.hid hr
  have HB0 := Lib.hid (Below.refl w.heap.size w)
  clear hr
  by_cases hn : (n : Int) ≤ 100
  case neg =>
    have HZ := Lib.hid (decide_eq_false hn)
    clear hn
    go_enter Try.func8, Try.ntmps8
    go_wp2_with (first
      | (go_at_call 11; (with_reducible refine (live_any _).mono ?_); rintro e w1 ⟨rfl, hb⟩; have HB1 := Lib.hid (bel_trans HB0.out hb); have HR_1 := Lib.hid (rdeUp HR0.out hb); clear hb)
      | (go_at_call 12; (with_reducible refine (few_any A n c HZ.out _).mono ?_); rintro e w9 ⟨rfl, rfl⟩; skip))
    go_ret
    exact ⟨rfl, HB1.out⟩
  have HZ := Lib.hid (decide_eq_true hn)
  have hn9 : n ≤ reach := Nat.le_trans (show n ≤ 100 by omega) (by decide)
  have hn6 : n ≤ 1000000 := by omega
  have hlen := HR0.out.len
  have HLEN := Lib.hid hlen
  rcases hP : putE l en st with ⟨x, e⟩
  have HP := Lib.hid hP
  have hxl : x.length ≤ 101 := by have := putE_len hP; omega
  by_cases he : e = 0
  case neg =>
    have heq : (e == 0) = false := beq_eq_false_iff_ne.2 he
    obtain ⟨rfl, hwhy⟩ := putE_bad hP he
    clear hxl
    by_cases ok : okE l = true
    case neg =>
      have HC := Lib.hid (show ckE l = 1 by unfold ckE; rw [if_neg ok])
      clear hP hwhy he ok
      go_enter Try.func8, Try.ntmps8
      go_wp2_with (first
        | (go_at_call 11; (with_reducible refine (live_any _).mono ?_); rintro e w1 ⟨rfl, hb⟩; have HB1 := Lib.hid (bel_trans HB0.out hb); have HR_1 := Lib.hid (rdeUp HR0.out hb); clear hb)
        | (go_at_call 12; (with_reducible refine (few_any A n c HZ.out _).mono ?_); rintro e w9 ⟨rfl, rfl⟩; skip)
        | (go_at_call 14; (with_reducible refine (dPut_is A n c l en st _ HR_1.out hn6 HP.out).mono ?_); rintro e w2 ⟨A5, n5, c5, rfl, ho, hb⟩; have HB2 := Lib.hid (bel_trans HB1.out hb); have HR_2 := Lib.hid (rdeUp HR_1.out hb); obtain rfl : 0 = n5 := OwnF.len epS ho; clear hb ho)
        | (go_at_call 17; (with_reducible refine (dCheck_is A n c l _ HR_2.out hn9 HC.out).mono ?_); rintro e w3 ⟨rfl, hb⟩; have HB3 := Lib.hid (bel_trans HB2.out hb); have HR_3 := Lib.hid (rdeUp HR_2.out hb); clear hb))
      go_ret
      exact ⟨rfl, HB3.out⟩
    have HC := Lib.hid (show ckE l = 0 by unfold ckE; rw [if_pos ok])
    by_cases g1 : en < 0
    case pos =>
      clear hP hwhy he ok
      go_enter Try.func8, Try.ntmps8
      go_wp2_with (first
        | (go_at_call 11; (with_reducible refine (live_any _).mono ?_); rintro e w1 ⟨rfl, hb⟩; have HB1 := Lib.hid (bel_trans HB0.out hb); have HR_1 := Lib.hid (rdeUp HR0.out hb); clear hb)
        | (go_at_call 12; (with_reducible refine (few_any A n c HZ.out _).mono ?_); rintro e w9 ⟨rfl, rfl⟩; skip)
        | (go_at_call 14; (with_reducible refine (dPut_is A n c l en st _ HR_1.out hn6 HP.out).mono ?_); rintro e w2 ⟨A5, n5, c5, rfl, ho, hb⟩; have HB2 := Lib.hid (bel_trans HB1.out hb); have HR_2 := Lib.hid (rdeUp HR_1.out hb); obtain rfl : 0 = n5 := OwnF.len epS ho; clear hb ho)
        | (go_at_call 17; (with_reducible refine (dCheck_is A n c l _ HR_2.out hn9 HC.out).mono ?_); rintro e w3 ⟨rfl, hb⟩; have HB3 := Lib.hid (bel_trans HB2.out hb); have HR_3 := Lib.hid (rdeUp HR_2.out hb); clear hb))
      go_ret
      exact ⟨rfl, HB3.out⟩
    by_cases g2 : 1048576 < en
    case pos =>
      clear hP hwhy he ok
      go_enter Try.func8, Try.ntmps8
      go_wp2_with (first
        | (go_at_call 11; (with_reducible refine (live_any _).mono ?_); rintro e w1 ⟨rfl, hb⟩; have HB1 := Lib.hid (bel_trans HB0.out hb); have HR_1 := Lib.hid (rdeUp HR0.out hb); clear hb)
        | (go_at_call 12; (with_reducible refine (few_any A n c HZ.out _).mono ?_); rintro e w9 ⟨rfl, rfl⟩; skip)
        | (go_at_call 14; (with_reducible refine (dPut_is A n c l en st _ HR_1.out hn6 HP.out).mono ?_); rintro e w2 ⟨A5, n5, c5, rfl, ho, hb⟩; have HB2 := Lib.hid (bel_trans HB1.out hb); have HR_2 := Lib.hid (rdeUp HR_1.out hb); obtain rfl : 0 = n5 := OwnF.len epS ho; clear hb ho)
        | (go_at_call 17; (with_reducible refine (dCheck_is A n c l _ HR_2.out hn9 HC.out).mono ?_); rintro e w3 ⟨rfl, hb⟩; have HB3 := Lib.hid (bel_trans HB2.out hb); have HR_3 := Lib.hid (rdeUp HR_2.out hb); clear hb))
      go_ret
      exact ⟨rfl, HB3.out⟩
    by_cases g3 : st < 0
    case pos =>
      clear hP hwhy he ok
      go_enter Try.func8, Try.ntmps8
      go_wp2_with (first
        | (go_at_call 11; (with_reducible refine (live_any _).mono ?_); rintro e w1 ⟨rfl, hb⟩; have HB1 := Lib.hid (bel_trans HB0.out hb); have HR_1 := Lib.hid (rdeUp HR0.out hb); clear hb)
        | (go_at_call 12; (with_reducible refine (few_any A n c HZ.out _).mono ?_); rintro e w9 ⟨rfl, rfl⟩; skip)
        | (go_at_call 14; (with_reducible refine (dPut_is A n c l en st _ HR_1.out hn6 HP.out).mono ?_); rintro e w2 ⟨A5, n5, c5, rfl, ho, hb⟩; have HB2 := Lib.hid (bel_trans HB1.out hb); have HR_2 := Lib.hid (rdeUp HR_1.out hb); obtain rfl : 0 = n5 := OwnF.len epS ho; clear hb ho)
        | (go_at_call 17; (with_reducible refine (dCheck_is A n c l _ HR_2.out hn9 HC.out).mono ?_); rintro e w3 ⟨rfl, hb⟩; have HB3 := Lib.hid (bel_trans HB2.out hb); have HR_3 := Lib.hid (rdeUp HR_2.out hb); clear hb))
      go_ret
      exact ⟨rfl, HB3.out⟩
    by_cases g4 : 1099511627776 < st
    case pos =>
      clear hP hwhy he ok
      go_enter Try.func8, Try.ntmps8
      go_wp2_with (first
        | (go_at_call 11; (with_reducible refine (live_any _).mono ?_); rintro e w1 ⟨rfl, hb⟩; have HB1 := Lib.hid (bel_trans HB0.out hb); have HR_1 := Lib.hid (rdeUp HR0.out hb); clear hb)
        | (go_at_call 12; (with_reducible refine (few_any A n c HZ.out _).mono ?_); rintro e w9 ⟨rfl, rfl⟩; skip)
        | (go_at_call 14; (with_reducible refine (dPut_is A n c l en st _ HR_1.out hn6 HP.out).mono ?_); rintro e w2 ⟨A5, n5, c5, rfl, ho, hb⟩; have HB2 := Lib.hid (bel_trans HB1.out hb); have HR_2 := Lib.hid (rdeUp HR_1.out hb); obtain rfl : 0 = n5 := OwnF.len epS ho; clear hb ho)
        | (go_at_call 17; (with_reducible refine (dCheck_is A n c l _ HR_2.out hn9 HC.out).mono ?_); rintro e w3 ⟨rfl, hb⟩; have HB3 := Lib.hid (bel_trans HB2.out hb); have HR_3 := Lib.hid (rdeUp HR_2.out hb); clear hb))
      go_ret
      exact ⟨rfl, HB3.out⟩
    obtain ⟨⟨y0, y1⟩, hy, hyw⟩ : ∃ y, l.getLast? = some y ∧ (en < y.ep ∨ st < y.st) := by
      rcases hwhy with h | h | h | h
      · rw [ok] at h; cases h
      · omega
      · omega
      · exact h
    have hn0 : 0 < n := by
      rw [← hlen]; exact List.length_pos_iff.2 (fun h => by rw [h] at hy; cases hy)
    have hyk : l[n - 1]? = some ⟨y0, y1⟩ := by rw [← hlen, ← List.getLast?_eq_getElem?]; exact hy
    obtain ⟨g, o, rfl, hg, _, d0, d1⟩ := ep_k HR0.out hyk
    have HD0 := Lib.hid d0
    have HD1 := Lib.hid d1
    simp only at hyw HD0 HD1
    have hw1 : IntKind.i64.wrap ((n : Int) - 1) = (n : Int) - 1 := IntWalk.i64_in _ (by omega)
    have hp0 : (0 : Int) < (n : Int) := by omega
    have hp9' : (1 : Int) ≤ (n : Int) := by omega
    have hp1 : (0 : Int) ≤ (n : Int) - 1 := by omega
    have hp3 : (n : Int) - 1 < (n : Int) := by omega
    have hp5 : ((n : Int) - 1).toNat = n - 1 := by omega
    clear hP hwhy he ok hy hyk d0 d1 hlen hn0
    by_cases g5 : en < y0
    case pos =>
      clear hyw
      go_enter Try.func8, Try.ntmps8
      go_wp2_with (first
        | (go_at_call 11; (with_reducible refine (live_any _).mono ?_); rintro e w1 ⟨rfl, hb⟩; have HB1 := Lib.hid (bel_trans HB0.out hb); have HR_1 := Lib.hid (rdeUp HR0.out hb); clear hb)
        | (go_at_call 12; (with_reducible refine (few_any (some ⟨g, o, none⟩) n c HZ.out _).mono ?_); rintro e w9 ⟨rfl, rfl⟩; skip)
        | (go_at_call 14; (with_reducible refine (dPut_is (some ⟨g, o, none⟩) n c l en st _ HR_1.out hn6 HP.out).mono ?_); rintro e w2 ⟨A5, n5, c5, rfl, ho, hb⟩; have HB2 := Lib.hid (bel_trans HB1.out hb); have HR_2 := Lib.hid (rdeUp HR_1.out hb); obtain rfl : 0 = n5 := OwnF.len epS ho; have e0 := (HB2.out.cell (p := ⟨g, o + (n - 1) * 2, none⟩) hg).trans HD0.out; have e1 := (HB2.out.cell (p := ⟨g, o + (n - 1) * 2 + 1, none⟩) hg).trans HD1.out; clear e0 e1; clear hb ho)
        | (go_at_call 17; (with_reducible refine (dCheck_is (some ⟨g, o, none⟩) n c l _ HR_2.out hn9 HC.out).mono ?_); rintro e w3 ⟨rfl, hb⟩; have HB3 := Lib.hid (bel_trans HB2.out hb); have HR_3 := Lib.hid (rdeUp HR_2.out hb); have e0 := (HB3.out.cell (p := ⟨g, o + (n - 1) * 2, none⟩) hg).trans HD0.out; have e1 := (HB3.out.cell (p := ⟨g, o + (n - 1) * 2 + 1, none⟩) hg).trans HD1.out; clear hb))
      go_ret
      exact ⟨rfl, HB3.out⟩
    have g6 : st < y1 := by omega
    clear hyw
    go_enter Try.func8, Try.ntmps8
    go_wp2_with (first
      | (go_at_call 11; (with_reducible refine (live_any _).mono ?_); rintro e w1 ⟨rfl, hb⟩; have HB1 := Lib.hid (bel_trans HB0.out hb); have HR_1 := Lib.hid (rdeUp HR0.out hb); clear hb)
      | (go_at_call 12; (with_reducible refine (few_any (some ⟨g, o, none⟩) n c HZ.out _).mono ?_); rintro e w9 ⟨rfl, rfl⟩; skip)
      | (go_at_call 14; (with_reducible refine (dPut_is (some ⟨g, o, none⟩) n c l en st _ HR_1.out hn6 HP.out).mono ?_); rintro e w2 ⟨A5, n5, c5, rfl, ho, hb⟩; have HB2 := Lib.hid (bel_trans HB1.out hb); have HR_2 := Lib.hid (rdeUp HR_1.out hb); obtain rfl : 0 = n5 := OwnF.len epS ho; have e0 := (HB2.out.cell (p := ⟨g, o + (n - 1) * 2, none⟩) hg).trans HD0.out; have e1 := (HB2.out.cell (p := ⟨g, o + (n - 1) * 2 + 1, none⟩) hg).trans HD1.out; clear e0 e1; clear hb ho)
      | (go_at_call 17; (with_reducible refine (dCheck_is (some ⟨g, o, none⟩) n c l _ HR_2.out hn9 HC.out).mono ?_); rintro e w3 ⟨rfl, hb⟩; have HB3 := Lib.hid (bel_trans HB2.out hb); have HR_3 := Lib.hid (rdeUp HR_2.out hb); have e0 := (HB3.out.cell (p := ⟨g, o + (n - 1) * 2, none⟩) hg).trans HD0.out; have e1 := (HB3.out.cell (p := ⟨g, o + (n - 1) * 2 + 1, none⟩) hg).trans HD1.out; clear hb))
    go_ret
    exact ⟨rfl, HB3.out⟩
  subst he
  obtain ⟨ok, hen, hst, okx, ⟨y0, y1⟩, hy, hye, hyw⟩ := putE_good hP
  simp only at hye hyw
  subst hye
  have HCX := Lib.hid (show ckE x = 0 by unfold ckE; rw [if_pos okx])
  have HCC := Lib.hid (show ckE (cutE x q) = 0 by unfold ckE; rw [if_pos (okE_cut q okx)])
  have HCT := Lib.hid (show ckE (trimE x q) = 0 by unfold ckE; rw [if_pos (okE_trim q)])
  have HYK := Lib.hid (show x[x.length - 1]? = some ⟨y0, y1⟩ by rw [← List.getLast?_eq_getElem?]; exact hy)
  have hxp : 0 < x.length := List.length_pos_iff.2 (fun h => by rw [h] at hy; cases hy)
  have HCL := Lib.hid (fun (off : Int) => (cutE_len x off))
  have HTL := Lib.hid (fun (off : Int) => (trimE_len x off))
  clear hP
  by_cases hys : y1 ≤ st
  case pos =>
    have hys' : decide (st < y1) = false := decide_eq_false (by omega)
    clear hyw hy ok okx hen hst hys
    go_enter Try.func8, Try.ntmps8
    go_upto_region 8 with (first
      | (go_at_call 11; (with_reducible refine (live_any _).mono ?_); rintro e w1 ⟨rfl, hb⟩; have HB1 := Lib.hid (bel_trans HB0.out hb); have HR_1 := Lib.hid (rdeUp HR0.out hb); clear hb)
      | (go_at_call 12; (with_reducible refine (few_any A n c HZ.out _).mono ?_); rintro e w9 ⟨rfl, rfl⟩; skip)
      | (go_at_call 14; (with_reducible refine (dPut_is A n c l y0 st _ HR_1.out hn6 HP.out).mono ?_); rintro e w2 ⟨A5, n5, c5, rfl, ho, hb⟩; have HB2 := Lib.hid (bel_trans HB1.out hb); have HR_2 := Lib.hid (rdeUp HR_1.out hb); have hn5 := OwnF.len epS ho; obtain ⟨g5, rfl, hg5, _⟩ := OwnF.form ho (by omega); have HX_2 := Lib.hid (OwnF.rd epS ho); have hcp5 := OwnF.cap ho; have x0c := OwnF.cellAt epS ho (i := 0) (hn5 ▸ HYK.out) rfl; have x1c := OwnF.cellAt epS ho (i := 1) (hn5 ▸ HYK.out) rfl; simp only [Nat.add_zero] at x0c; have hw5 : IntKind.i64.wrap ((n5 : Int) - 1) = (n5 : Int) - 1 := (IntWalk.i64_in _ (by omega)); have hp10 : (0 : Int) < (n5 : Int) := (by omega); have hp9 : (1 : Int) ≤ (n5 : Int) := (by omega); have hq10 : ((n5 : Int) == 0) = false := (beq_eq_false_iff_ne.2 (by omega)); have hp11 : (0 : Int) ≤ (n5 : Int) - 1 := (by omega); have hp13 : (n5 : Int) - 1 < (n5 : Int) := (by omega); have hp15 : ((n5 : Int) - 1).toNat = n5 - 1 := (by omega); have hn56 : n5 ≤ 1000000 := (by omega); clear hb ho))
    have hbd := (Below.refl w2.heap.size w2).drew
    have HR_D := Lib.hid (rdeUp HR_2.out hbd)
    have HX_D := Lib.hid (rdeUp HX_2.out hbd)
    have HB_D := Lib.hid (bel_trans HB2.out hbd)
    clear hbd
    go_region
    clear x0c x1c
    go_wp2_with (first
      | (go_at_call 17; (with_reducible refine (dCheck_is (some ⟨g5, 0, none⟩) n5 c5 x _ HX_D.out (by unfold reach; omega) HCX.out).mono ?_); rintro e w4 ⟨rfl, hb⟩; have HB4 := Lib.hid (bel_trans HB_D.out hb); have HR_4 := Lib.hid (rdeUp HR_D.out hb); have HX_4 := Lib.hid (rdeUp HX_D.out hb); clear hb)
      | (go_at_call 21; (with_reducible refine (dCut_is (some ⟨g5, 0, none⟩) n5 c5 x q _ HX_4.out hn56 hcp5).mono ?_); rintro e w5 ⟨A6, m6, c6, rfl, ho, hb⟩; have HB5 := Lib.hid (bel_trans HB4.out hb); have HR_5 := Lib.hid (rdeUp HR_4.out hb); have HX_5 := Lib.hid (rdeUp HX_4.out hb); have HU_5 := Lib.hid (OwnF.rd epS ho); have hm6 : m6 ≤ 1000000 := (by have := OwnF.len epS ho; have := HCL.out q; omega); clear hb ho)
      | (go_at_call 17; (with_reducible refine (dCheck_is A6 m6 c6 (cutE x q) _ HU_5.out (by unfold reach; omega) HCC.out).mono ?_); rintro e w6 ⟨rfl, hb⟩; have HB6 := Lib.hid (bel_trans HB5.out hb); have HR_6 := Lib.hid (rdeUp HR_5.out hb); have HX_6 := Lib.hid (rdeUp HX_5.out hb); have HU_6 := Lib.hid (rdeUp HU_5.out hb); clear hb)
      | (go_at_call 22; (with_reducible refine (dTrim_is (some ⟨g5, 0, none⟩) n5 c5 x q _ HX_6.out hn56 hcp5).mono ?_); rintro e w7 ⟨A7, m7, c7, rfl, ho, hb⟩; have HB7 := Lib.hid (bel_trans HB6.out hb); have HR_7 := Lib.hid (rdeUp HR_6.out hb); have HX_7 := Lib.hid (rdeUp HX_6.out hb); have HU_7 := Lib.hid (rdeUp HU_6.out hb); have HV_7 := Lib.hid (OwnF.rd epS ho); have HO7 := Lib.hid ho; clear hb ho)
      | (go_at_call 17; (with_reducible refine (dCheck_is A7 m7 c7 (trimE x q) _ HV_7.out (by have := OwnF.len epS HO7.out; have := HTL.out q; unfold reach; omega) HCT.out).mono ?_); rintro e w8 ⟨rfl, hb⟩; have HB8 := Lib.hid (bel_trans HB7.out hb); have HR_8 := Lib.hid (rdeUp HR_7.out hb); have HX_8 := Lib.hid (rdeUp HX_7.out hb); have HU_8 := Lib.hid (rdeUp HU_7.out hb); have HV_8 := Lib.hid (rdeUp HV_7.out hb); clear hb))
    go_ret
    exact ⟨rfl, HB8.out⟩
  have hl : l.getLast? = some ⟨y0, y1⟩ := by rcases hyw with h | h; exact absurd h hys; exact h
  have hys' : decide (st < y1) = true := decide_eq_true (by omega)
  have hn0 : 0 < n := by
    rw [← hlen]; exact List.length_pos_iff.2 (fun h => by rw [h] at hl; cases hl)
  have hyk : l[n - 1]? = some ⟨y0, y1⟩ := by rw [← hlen, ← List.getLast?_eq_getElem?]; exact hl
  obtain ⟨g, o, rfl, hg, _, d0, d1⟩ := ep_k HR0.out hyk
  have HD0 := Lib.hid d0
  have HD1 := Lib.hid d1
  simp only at HD0 HD1
  have hw1 : IntKind.i64.wrap ((n : Int) - 1) = (n : Int) - 1 := IntWalk.i64_in _ (by omega)
  have hp0 : (0 : Int) < (n : Int) := by omega
  have hp9' : (1 : Int) ≤ (n : Int) := by omega
  have hq0 : ((n : Int) == 0) = false := beq_eq_false_iff_ne.2 (by omega)
  have hp1 : (0 : Int) ≤ (n : Int) - 1 := by omega
  have hp3 : (n : Int) - 1 < (n : Int) := by omega
  have hp5 : ((n : Int) - 1).toNat = n - 1 := by omega
  clear hyw hy ok okx hen hst hys hl hyk d0 d1 hlen hn0
  go_enter Try.func8, Try.ntmps8
  go_upto_region 8 with (first
    | (go_at_call 11; (with_reducible refine (live_any _).mono ?_); rintro e w1 ⟨rfl, hb⟩; have HB1 := Lib.hid (bel_trans HB0.out hb); have HR_1 := Lib.hid (rdeUp HR0.out hb); clear hb)
    | (go_at_call 12; (with_reducible refine (few_any (some ⟨g, o, none⟩) n c HZ.out _).mono ?_); rintro e w9 ⟨rfl, rfl⟩; skip)
    | (go_at_call 14; (with_reducible refine (dPut_is (some ⟨g, o, none⟩) n c l y0 st _ HR_1.out hn6 HP.out).mono ?_); rintro e w2 ⟨A5, n5, c5, rfl, ho, hb⟩; have HB2 := Lib.hid (bel_trans HB1.out hb); have HR_2 := Lib.hid (rdeUp HR_1.out hb); have hn5 := OwnF.len epS ho; obtain ⟨g5, rfl, hg5, _⟩ := OwnF.form ho (by omega); have HX_2 := Lib.hid (OwnF.rd epS ho); have hcp5 := OwnF.cap ho; have x0c := OwnF.cellAt epS ho (i := 0) (hn5 ▸ HYK.out) rfl; have x1c := OwnF.cellAt epS ho (i := 1) (hn5 ▸ HYK.out) rfl; simp only [Nat.add_zero] at x0c; have hw5 : IntKind.i64.wrap ((n5 : Int) - 1) = (n5 : Int) - 1 := (IntWalk.i64_in _ (by omega)); have hp10 : (0 : Int) < (n5 : Int) := (by omega); have hp9 : (1 : Int) ≤ (n5 : Int) := (by omega); have hq10 : ((n5 : Int) == 0) = false := (beq_eq_false_iff_ne.2 (by omega)); have hp11 : (0 : Int) ≤ (n5 : Int) - 1 := (by omega); have hp13 : (n5 : Int) - 1 < (n5 : Int) := (by omega); have hp15 : ((n5 : Int) - 1).toNat = n5 - 1 := (by omega); have hn56 : n5 ≤ 1000000 := (by omega); have e0 := (HB2.out.cell (p := ⟨g, o + (n - 1) * 2, none⟩) hg).trans HD0.out; have e1 := (HB2.out.cell (p := ⟨g, o + (n - 1) * 2 + 1, none⟩) hg).trans HD1.out; clear hb ho))
  have hbd := (Below.refl w2.heap.size w2).drew
  have HR_D := Lib.hid (rdeUp HR_2.out hbd)
  have HX_D := Lib.hid (rdeUp HX_2.out hbd)
  have HB_D := Lib.hid (bel_trans HB2.out hbd)
  clear hbd
  go_region
  clear x0c x1c e0 e1
  go_wp2_with (first
    | (go_at_call 17; (with_reducible refine (dCheck_is (some ⟨g5, 0, none⟩) n5 c5 x _ HX_D.out (by unfold reach; omega) HCX.out).mono ?_); rintro e w4 ⟨rfl, hb⟩; have HB4 := Lib.hid (bel_trans HB_D.out hb); have HR_4 := Lib.hid (rdeUp HR_D.out hb); have HX_4 := Lib.hid (rdeUp HX_D.out hb); clear hb)
    | (go_at_call 21; (with_reducible refine (dCut_is (some ⟨g5, 0, none⟩) n5 c5 x q _ HX_4.out hn56 hcp5).mono ?_); rintro e w5 ⟨A6, m6, c6, rfl, ho, hb⟩; have HB5 := Lib.hid (bel_trans HB4.out hb); have HR_5 := Lib.hid (rdeUp HR_4.out hb); have HX_5 := Lib.hid (rdeUp HX_4.out hb); have HU_5 := Lib.hid (OwnF.rd epS ho); have hm6 : m6 ≤ 1000000 := (by have := OwnF.len epS ho; have := HCL.out q; omega); clear hb ho)
    | (go_at_call 17; (with_reducible refine (dCheck_is A6 m6 c6 (cutE x q) _ HU_5.out (by unfold reach; omega) HCC.out).mono ?_); rintro e w6 ⟨rfl, hb⟩; have HB6 := Lib.hid (bel_trans HB5.out hb); have HR_6 := Lib.hid (rdeUp HR_5.out hb); have HX_6 := Lib.hid (rdeUp HX_5.out hb); have HU_6 := Lib.hid (rdeUp HU_5.out hb); clear hb)
    | (go_at_call 22; (with_reducible refine (dTrim_is (some ⟨g5, 0, none⟩) n5 c5 x q _ HX_6.out hn56 hcp5).mono ?_); rintro e w7 ⟨A7, m7, c7, rfl, ho, hb⟩; have HB7 := Lib.hid (bel_trans HB6.out hb); have HR_7 := Lib.hid (rdeUp HR_6.out hb); have HX_7 := Lib.hid (rdeUp HX_6.out hb); have HU_7 := Lib.hid (rdeUp HU_6.out hb); have HV_7 := Lib.hid (OwnF.rd epS ho); have HO7 := Lib.hid ho; clear hb ho)
    | (go_at_call 17; (with_reducible refine (dCheck_is A7 m7 c7 (trimE x q) _ HV_7.out (by have := OwnF.len epS HO7.out; have := HTL.out q; unfold reach; omega) HCT.out).mono ?_); rintro e w8 ⟨rfl, hb⟩; have HB8 := Lib.hid (bel_trans HB7.out hb); have HR_8 := Lib.hid (rdeUp HR_7.out hb); have HX_8 := Lib.hid (rdeUp HX_7.out hb); have HU_8 := Lib.hid (rdeUp HU_7.out hb); have HV_8 := Lib.hid (rdeUp HV_7.out hb); clear hb))
  go_ret
  exact ⟨rfl, HB8.out⟩
end Go.Proofs.Ytmjnleohchmadaa.Epo
