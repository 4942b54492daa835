/- The walk of EpochTells. -/
import Derived.Test.YtmjnleohchmadaaEpoL1
import Derived.Test.YtmjnleohchmadaaEpoD3
import Derived.Test.YtmjnleohchmadaaEpoR3
import Derived.Test.YtmjnleohchmadaaEpoR4
import Derived.Deep.DeepCutAuto
namespace Go.Proofs.Ytmjnleohchmadaa.Epo
open Go.RowKit Go.Proofs.Ytmjnleohchmadaa.Oct Go.Proofs.Ytmjnleohchmadaa.RowF Go.Proofs.Ytmjnleohchmadaa.Lay Go.Proofs.Ytmjnleohchmadaa.InR Go.Proofs.Ytmjnleohchmadaa.Bat

def bumpE2 (N N2 : Nat) (A A2 : Option Addr) (m c m2 c2 : Nat) (l2 : List Ep) (w0 : World) (vi : Value) (wr : World) : Prop :=
  ∃ (k : Nat) (l : List Ep), vi = .int .i64 (k : Int) ∧ k ≤ m ∧ OwnE wr N (.slice A m c) m l ∧ OwnE wr N2 (.slice A2 m2 c2) m2 l2 ∧ Below N w0 wr
theorem cutE_len (l : List Ep) (q : Int) : (cutE l q).length ≤ l.length := by
  unfold cutE
  split
  · exact List.length_filter_le _ _
  · simp
theorem trimF_len (l : List Ep) (q : Int) : (trimF q l).length ≤ l.length := by
  induction l with
  | nil => simp [trimF]
  | cons x l ih =>
    unfold trimF
    split <;> simp only [List.length_cons] <;> omega
theorem trimE_len (l : List Ep) (q : Int) : (trimE l q).length ≤ l.length := by
  unfold trimE
  split
  · exact trimF_len l q
  · simp
set_option maxRecDepth 100000 in
set_option maxHeartbeats 8000000 in
theorem epochTells_walk (A : Option Addr) (n c : Nat) (l : List Ep) (q st : Int) (w : World) (hr : RdE w w.heap.size A n l) (_hc : n ≤ c) :
    Calls Try.prog 4 #[.slice A n c, .int .i64 q, .int .i64 st] w fun e w' => e = .returned (.bool true) ∧ Below w.heap.size w w' := by
  have HR0 := Lib.hid hr
  have HB0 := Lib.hid (Below.refl w.heap.size w)
  clear hr
  by_cases hn : (n : Int) ≤ 100
  case neg =>
    have HZ := Lib.hid (decide_eq_false hn)
    clear hn
    go_enter Try.func4, Try.ntmps4
    go_wp2_with (first
      | (go_at_call 11; (with_reducible refine (live_any _).mono ?_); rintro e w1 ⟨rfl, hb⟩; have HB1 := Lib.hid (bel_trans HB0.out hb); have HR_1 := Lib.hid (rdeUp HR0.out hb); clear hb)
      | (go_at_call 12; (with_reducible refine (few_any A n c HZ.out _).mono ?_); rintro e w9 ⟨rfl, rfl⟩; skip))
    go_ret
    exact ⟨rfl, HB1.out⟩
  have HZ := Lib.hid (decide_eq_true hn)
  have hn9 : n ≤ reach := Nat.le_trans (show n ≤ 100 by omega) (by decide)
  have hn6 : n ≤ 1000000 := by omega
  have hn12 : n ≤ 1099511627776 := by omega
  rcases hP : endOf l q st with ⟨a0, b0⟩
  have HP := Lib.hid hP
  have HLEN := Lib.hid HR0.out.len
  have hcl := cutE_len l st
  have htl := trimE_len l st
  rw [HLEN.out] at hcl htl
  clear hP
  go_enter Try.func4, Try.ntmps4
  go_wp2_with (first
    | (go_at_call 11; (with_reducible refine (live_any _).mono ?_); rintro e w1 ⟨rfl, hb⟩; have HB1 := Lib.hid (bel_trans HB0.out hb); have HR_1 := Lib.hid (rdeUp HR0.out hb); clear hb)
    | (go_at_call 12; (with_reducible refine (few_any A n c HZ.out _).mono ?_); rintro e w9 ⟨rfl, rfl⟩; skip)
    | (go_at_call 13; (with_reducible refine (rCopy_is A n c l _ HR_1.out hn6).mono ?_); rintro e w2 ⟨A2, c2, rfl, ho, hb⟩; have HB2 := Lib.hid (bel_trans HB1.out hb); have HR_2 := Lib.hid (rdeUp HR_1.out hb); have HCP_2 := Lib.hid (OwnF.rd epS ho); clear hb ho)
    | (go_at_call 19; (with_reducible refine (dEndOf_is A n c l q st _ HR_2.out hn6 HP.out).mono ?_); rintro e w3 ⟨rfl, hb⟩; have HB3 := Lib.hid (bel_trans HB2.out hb); have HR_3 := Lib.hid (rdeUp HR_2.out hb); have HCP_3 := Lib.hid (rdeUp HCP_2.out hb); have HQ3 := Lib.hid hb; clear hb)
    | (go_at_call 20; (with_reducible refine (rEndOf_is A n c l q st _ HR_3.out hn6 HP.out).mono ?_); rintro e w4 ⟨rfl, hb⟩; have HB4 := Lib.hid (bel_trans HB3.out hb); have HR_4 := Lib.hid (rdeUp HR_3.out hb); have HCP_4 := Lib.hid (rdeUp HCP_3.out hb); have HQ4 := Lib.hid (bel_trans HQ3.out hb); clear hb)
    | (go_at_call 21; (with_reducible refine (dCut_is A n c l st _ HR_4.out hn6 _hc).mono ?_); rintro e w5 ⟨A5, n5, c5, rfl, ho, hb⟩; have HB5 := Lib.hid (bel_trans HB4.out hb); have HR_5 := Lib.hid (rdeUp HR_4.out hb); have HCP_5 := Lib.hid (rdeUp HCP_4.out hb); have HQ5 := Lib.hid (bel_trans HQ4.out hb); have HO5 := Lib.hid (OwnF.more ho HQ4.out.size); have HX_5 := Lib.hid (OwnF.rd epS ho); have hx9 : n5 ≤ 100 := (by have := OwnF.len epS ho; omega); have HFM := Lib.hid (fun h9 : 0 < n5 => OwnF.form ho h9); clear hb ho)
    | (go_at_call 22; (with_reducible refine (dTrim_is A n c l st _ HR_5.out hn6 _hc).mono ?_); rintro e w6 ⟨A6, n6, c6, rfl, ho, hb⟩; have HB6 := Lib.hid (bel_trans HB5.out hb); have HR_6 := Lib.hid (rdeUp HR_5.out hb); have HCP_6 := Lib.hid (rdeUp HCP_5.out hb); have HX_6 := Lib.hid (rdeUp HX_5.out hb); have HQ6 := Lib.hid (bel_trans HQ5.out hb); have HO6 := Lib.hid (OwnF.below HO5.out hb); have HT6 := Lib.hid ho; have HY_6 := Lib.hid (OwnF.rd epS ho); have hy9 : n6 ≤ 100 := (by have := OwnF.len epS ho; omega); clear hb ho)
    | (go_at_call 23; (with_reducible refine (rCut_is A n c l st _ HR_6.out hn6).mono ?_); rintro e w7 ⟨A7, n7, c7, rfl, ho, hb⟩; have HB7 := Lib.hid (bel_trans HB6.out hb); have HR_7 := Lib.hid (rdeUp HR_6.out hb); have HCP_7 := Lib.hid (rdeUp HCP_6.out hb); have HX_7 := Lib.hid (rdeUp HX_6.out hb); have HY_7 := Lib.hid (rdeUp HY_6.out hb); have HQ7 := Lib.hid (bel_trans HQ6.out hb); have HO7 := Lib.hid (OwnF.below HO6.out hb); have HT7 := Lib.hid (OwnF.below HT6.out hb); have HU_7 := Lib.hid (OwnF.rd epS ho); obtain rfl : n7 = n5 := (by rw [← OwnF.len epS ho, OwnF.len epS HO5.out]); clear hb ho)
    | (go_at_call 16; (with_reducible refine (rSame_yes A5 n7 c5 (cutE l st) A7 n7 c7 _ HX_7.out HU_7.out (by omega)).mono ?_); rintro e w8 ⟨rfl, hb⟩; have HB8 := Lib.hid (bel_trans HB7.out hb); have HR_8 := Lib.hid (rdeUp HR_7.out hb); have HCP_8 := Lib.hid (rdeUp HCP_7.out hb); have HX_8 := Lib.hid (rdeUp HX_7.out hb); have HY_8 := Lib.hid (rdeUp HY_7.out hb); have HU_8 := Lib.hid (rdeUp HU_7.out hb); have HQ8 := Lib.hid (bel_trans HQ7.out hb); have HO8 := Lib.hid (OwnF.below HO7.out hb); have HT8 := Lib.hid (OwnF.below HT7.out hb); clear hb)
    | (go_at_call 24; (with_reducible refine (rTrim_is A n c l st _ HR_8.out hn6).mono ?_); rintro e w9 ⟨A8, n8, c8, rfl, ho, hb⟩; have HB9 := Lib.hid (bel_trans HB8.out hb); have HR_9 := Lib.hid (rdeUp HR_8.out hb); have HCP_9 := Lib.hid (rdeUp HCP_8.out hb); have HX_9 := Lib.hid (rdeUp HX_8.out hb); have HY_9 := Lib.hid (rdeUp HY_8.out hb); have HU_9 := Lib.hid (rdeUp HU_8.out hb); have HQ9 := Lib.hid (bel_trans HQ8.out hb); have HO9 := Lib.hid (OwnF.below HO8.out hb); have HT9 := Lib.hid (OwnF.below HT8.out hb); have HV_9 := Lib.hid (OwnF.rd epS ho); obtain rfl : n8 = n6 := (by rw [← OwnF.len epS ho, OwnF.len epS HT6.out]); clear hb ho)
    | (go_at_call 16; (with_reducible refine (rSame_yes A6 n8 c6 (trimE l st) A8 n8 c8 _ HY_9.out HV_9.out (by omega)).mono ?_); rintro e w10 ⟨rfl, hb⟩; have HB10 := Lib.hid (bel_trans HB9.out hb); have HR_10 := Lib.hid (rdeUp HR_9.out hb); have HCP_10 := Lib.hid (rdeUp HCP_9.out hb); have HX_10 := Lib.hid (rdeUp HX_9.out hb); have HY_10 := Lib.hid (rdeUp HY_9.out hb); have HU_10 := Lib.hid (rdeUp HU_9.out hb); have HV_10 := Lib.hid (rdeUp HV_9.out hb); have HQ10 := Lib.hid (bel_trans HQ9.out hb); have HO10 := Lib.hid (OwnF.below HO9.out hb); have HT10 := Lib.hid (OwnF.below HT9.out hb); clear hb))
  go_loopw [68] (fun vi wr => bumpE2 w2.heap.size w5.heap.size A5 A6 n7 c5 n8 c6 (trimE l st) w10 vi wr) (fun vi _ => n7 - (intOf vi).toNat)
  case atStart => exact ⟨0, cutE l st, rfl, Nat.zero_le _, HO10.out, HT10.out, Below.refl _ _⟩
  case round =>
    obtain ⟨k, lq, rfl, hk, ho, ht, hb⟩ := hrel
    have HO := Lib.hid ho
    have HT := Lib.hid ht
    have HBR := Lib.hid hb
    clear ho ht hb
    by_cases hlt : k < n7
    · obtain ⟨g, hA5, _, hg2⟩ := HFM.out (by omega)
      obtain ⟨g', hA5', hg, _⟩ := OwnF.form HO.out (by omega)
      obtain rfl : g = g' := by rw [hA5] at hA5'; injection hA5' with h; injection h
      subst hA5
      clear hA5'
      have hlen := OwnF.len epS HO.out
      obtain ⟨⟨y0, y1⟩, hyk⟩ : ∃ y, lq[k]? = some y := ⟨lq[k]'(by omega), List.getElem?_eq_getElem _⟩
      have e1 := OwnF.cellAt epS HO.out (i := 1) hyk rfl
      have fz := OwnF.frozen HO.out (k * 2 + 1)
      have HS := Lib.hid (OwnF.set epS HO.out hg (i := 1) (u := .int .i64 (wrap64 (y1 + 1))) (y := ⟨y0, wrap64 (y1 + 1)⟩) hyk (by decide) rfl)
      have HTS := Lib.hid (OwnF.setBelow HT.out (a := ⟨g, k * 2 + 1, none⟩) hg2 (.int .i64 (wrap64 (y1 + 1))))
      have hkl : (k : Int) < (n7 : Int) := by omega
      have hk0 : (0 : Int) ≤ (k : Int) := by omega
      have hw1 : IntKind.i64.wrap ((k : Int) + 1) = (k : Int) + 1 := IntWalk.i64_in _ (by omega)
      simp only at e1
      clear hyk
      go_wp2
      go_roundw
      case rel => exact ⟨k + 1, _, by go_num, by omega, HS.out.1, HTS.out, HBR.out.trans HS.out.2⟩
      case measure => simp [intOf]; omega
    · obtain rfl : k = n7 := by omega
      clear hlt
      go_wp2
      go_loopw [82] (fun vi wz => bumpE w2.heap.size A6 n8 c6 wr vi wz) (fun vi _ => n8 - (intOf vi).toNat)
      case atStart => exact ⟨0, _, rfl, Nat.zero_le _, OwnF.more HT.out HQ5.out.size, Below.refl _ _⟩
      case round =>
        obtain ⟨j, lz, rfl, hj, ho, hb⟩ := hrel
        have HO2 := Lib.hid ho
        have HBZ := Lib.hid hb
        clear ho hb
        by_cases hjt : j < n8
        · obtain ⟨g, rfl, hg, _⟩ := OwnF.form HO2.out (by omega)
          have hlen := OwnF.len epS HO2.out
          obtain ⟨⟨y0, y1⟩, hyk⟩ : ∃ y, lz[j]? = some y := ⟨lz[j]'(by omega), List.getElem?_eq_getElem _⟩
          have e1 := OwnF.cellAt epS HO2.out (i := 1) hyk rfl
          have fz := OwnF.frozen HO2.out (j * 2 + 1)
          have HS := Lib.hid (OwnF.set epS HO2.out hg (i := 1) (u := .int .i64 (wrap64 (y1 + 1))) (y := ⟨y0, wrap64 (y1 + 1)⟩) hyk (by decide) rfl)
          have hjl : (j : Int) < (n8 : Int) := by omega
          have hj0 : (0 : Int) ≤ (j : Int) := by omega
          have hw1 : IntKind.i64.wrap ((j : Int) + 1) = (j : Int) + 1 := IntWalk.i64_in _ (by omega)
          simp only at e1
          clear hyk
          go_wp2
          go_roundw
          case rel => exact ⟨j + 1, _, by go_num, by omega, HS.out.1, HBZ.out.trans HS.out.2⟩
          case measure => simp [intOf]; omega
        · obtain rfl : j = n8 := by omega
          have HQZ := Lib.hid (HQ10.out.trans (HBR.out.trans HBZ.out))
          have HRZ := Lib.hid (rdeUp HR_2.out HQZ.out)
          have HCZ := Lib.hid (rdeUp HCP_2.out HQZ.out)
          clear hjt
          go_wp2_with (first
            | (go_at_call 16; (with_reducible refine (rSame_yes A n c l A2 n c2 _ HRZ.out HCZ.out hn12).mono ?_); rintro e wz ⟨rfl, hb⟩; have HBY := Lib.hid hb; clear hb))
          go_ret
          exact ⟨rfl, bel_trans (bel_trans HB2.out HQZ.out) HBY.out⟩
end Go.Proofs.Ytmjnleohchmadaa.Epo
