/- The walk of EpochGone. -/
import Derived.Test.YtmjnleohchmadaaEpoL2
import Derived.Deep.DeepCutAuto
namespace Go.Proofs.Ytmjnleohchmadaa.Epo
open Go.RowKit Go.Proofs.Ytmjnleohchmadaa.Oct Go.Proofs.Ytmjnleohchmadaa.RowF Go.Proofs.Ytmjnleohchmadaa.Lay Go.Proofs.Ytmjnleohchmadaa.InR Go.Proofs.Ytmjnleohchmadaa.Bat

set_option maxRecDepth 100000 in
set_option maxHeartbeats 8000000 in
theorem epochGone_walk (A : Option Addr) (n c : Nat) (l : List Ep) (s q : Int) (w : World) (hr : RdE w w.heap.size A n l) (_hc : n ≤ c) :
    Calls Try.prog 10 #[.slice A n c, .int .i64 s, .int .i64 q] w fun e w' => e = .returned (.bool true) ∧ Below w.heap.size w w' := by
  have HR0 := Lib.hid hr
  have HB0 := Lib.hid (Below.refl w.heap.size w)
  clear hr
  by_cases hn : (n : Int) ≤ 100
  case neg =>
    have HZ := Lib.hid (decide_eq_false hn)
    clear hn
    go_enter Try.func10, Try.ntmps10
    go_wp2_with (first
      | (go_at_call 11; (with_reducible refine (live_any _).mono ?_); rintro e w1 ⟨rfl, hb⟩; have HB1 := Lib.hid (bel_trans HB0.out hb); have HR_1 := Lib.hid (rdeUp HR0.out hb); clear hb)
      | (go_at_call 12; (with_reducible refine (few_any A n c HZ.out _).mono ?_); rintro e w9 ⟨rfl, rfl⟩; skip))
    go_ret
    exact ⟨rfl, HB1.out⟩
  have HZ := Lib.hid (decide_eq_true hn)
  by_cases h5 : s < 0
  case pos =>
    clear hn
    go_enter Try.func10, Try.ntmps10
    go_wp2_with (first
      | (go_at_call 11; (with_reducible refine (live_any _).mono ?_); rintro e w1 ⟨rfl, hb⟩; have HB1 := Lib.hid (bel_trans HB0.out hb); have HR_1 := Lib.hid (rdeUp HR0.out hb); clear hb)
      | (go_at_call 12; (with_reducible refine (few_any A n c HZ.out _).mono ?_); rintro e w9 ⟨rfl, rfl⟩; skip))
    go_ret
    exact ⟨rfl, HB1.out⟩
  by_cases h17 : 1099511627776 < s
  case pos =>
    clear hn
    go_enter Try.func10, Try.ntmps10
    go_wp2_with (first
      | (go_at_call 11; (with_reducible refine (live_any _).mono ?_); rintro e w1 ⟨rfl, hb⟩; have HB1 := Lib.hid (bel_trans HB0.out hb); have HR_1 := Lib.hid (rdeUp HR0.out hb); clear hb)
      | (go_at_call 12; (with_reducible refine (few_any A n c HZ.out _).mono ?_); rintro e w9 ⟨rfl, rfl⟩; skip))
    go_ret
    exact ⟨rfl, HB1.out⟩
  by_cases h5 : q ≤ s
  case pos =>
    clear hn
    go_enter Try.func10, Try.ntmps10
    go_wp2_with (first
      | (go_at_call 11; (with_reducible refine (live_any _).mono ?_); rintro e w1 ⟨rfl, hb⟩; have HB1 := Lib.hid (bel_trans HB0.out hb); have HR_1 := Lib.hid (rdeUp HR0.out hb); clear hb)
      | (go_at_call 12; (with_reducible refine (few_any A n c HZ.out _).mono ?_); rintro e w9 ⟨rfl, rfl⟩; skip))
    go_ret
    exact ⟨rfl, HB1.out⟩
  have hn6 : n ≤ 1000000 := by omega
  have HLEN := Lib.hid HR0.out.len
  have HG := Lib.hid (goneE l (s := s) (off := q) ⟨by omega, by omega⟩ (by omega))
  have ht1 := trimE_len l s
  have hc1 := cutE_len l q
  have ht2 := trimE_len (cutE l q) s
  rw [HLEN.out] at ht1 hc1
  have hn9 : n ≤ 100 := by omega
  clear hn
  go_enter Try.func10, Try.ntmps10
  go_wp2_with (first
    | (go_at_call 11; (with_reducible refine (live_any _).mono ?_); rintro e w1 ⟨rfl, hb⟩; have HB1 := Lib.hid (bel_trans HB0.out hb); have HR_1 := Lib.hid (rdeUp HR0.out hb); clear hb)
    | (go_at_call 12; (with_reducible refine (few_any A n c HZ.out _).mono ?_); rintro e w9 ⟨rfl, rfl⟩; skip)
    | (go_at_call 22; (with_reducible refine (dTrim_is A n c l s _ HR_1.out hn6 _hc).mono ?_); rintro e w2 ⟨A3, n3, c3, rfl, ho, hb⟩; have HB2 := Lib.hid (bel_trans HB1.out hb); have HR_2 := Lib.hid (rdeUp HR_1.out hb); have HT_2 := Lib.hid (OwnF.rd epS ho); have hcp3 := OwnF.cap ho; have hHT9 : n3 ≤ 100 := (by have := OwnF.len epS ho; omega); clear hb ho)
    | (go_at_call 21; (with_reducible refine (dCut_is A3 n3 c3 (trimE l s) q _ HT_2.out (by omega) hcp3).mono ?_); rintro e w3 ⟨A4, n4, c4, rfl, ho, hb⟩; have HB3 := Lib.hid (bel_trans HB2.out hb); have HR_3 := Lib.hid (rdeUp HR_2.out hb); have HT_3 := Lib.hid (rdeUp HT_2.out hb); have HU_3 := Lib.hid (OwnF.rd epS (HG.out ▸ ho)); have hu9 : n4 ≤ 100 := (by have := OwnF.len epS (HG.out ▸ ho : OwnE _ _ _ _ (trimE (cutE l q) s)); omega); have HUL := Lib.hid (OwnF.len epS (HG.out ▸ ho : OwnE _ _ _ _ (trimE (cutE l q) s))); clear hb ho)
    | (go_at_call 21; (with_reducible refine (dCut_is A n c l q _ HR_3.out hn6 _hc).mono ?_); rintro e w4 ⟨A5, n5, c5, rfl, ho, hb⟩; have HB4 := Lib.hid (bel_trans HB3.out hb); have HR_4 := Lib.hid (rdeUp HR_3.out hb); have HT_4 := Lib.hid (rdeUp HT_3.out hb); have HU_4 := Lib.hid (rdeUp HU_3.out hb); have HV_4 := Lib.hid (OwnF.rd epS ho); have hcp5 := OwnF.cap ho; have hHV9 : n5 ≤ 100 := (by have := OwnF.len epS ho; omega); clear hb ho)
    | (go_at_call 22; (with_reducible refine (dTrim_is A5 n5 c5 (cutE l q) s _ HV_4.out (by omega) hcp5).mono ?_); rintro e w5 ⟨A6, n6, c6, rfl, ho, hb⟩; have HB5 := Lib.hid (bel_trans HB4.out hb); have HR_5 := Lib.hid (rdeUp HR_4.out hb); have HT_5 := Lib.hid (rdeUp HT_4.out hb); have HU_5 := Lib.hid (rdeUp HU_4.out hb); have HV_5 := Lib.hid (rdeUp HV_4.out hb); have HW_5 := Lib.hid (OwnF.rd epS ho); have hHW9 : n6 ≤ 100 := (by have := OwnF.len epS ho; omega); obtain rfl : n6 = n4 := (by rw [← OwnF.len epS ho, HUL.out]); clear hb ho)
    | (go_at_call 16; (with_reducible refine (rSame_yes A4 n6 c4 (trimE (cutE l q) s) A6 n6 c6 _ HU_5.out HW_5.out (by omega)).mono ?_); rintro e w6 ⟨rfl, hb⟩; have HB6 := Lib.hid (bel_trans HB5.out hb); have HR_6 := Lib.hid (rdeUp HR_5.out hb); have HT_6 := Lib.hid (rdeUp HT_5.out hb); have HU_6 := Lib.hid (rdeUp HU_5.out hb); have HV_6 := Lib.hid (rdeUp HV_5.out hb); have HW_6 := Lib.hid (rdeUp HW_5.out hb); clear hb))
  go_ret
  exact ⟨rfl, HB6.out⟩
end Go.Proofs.Ytmjnleohchmadaa.Epo
