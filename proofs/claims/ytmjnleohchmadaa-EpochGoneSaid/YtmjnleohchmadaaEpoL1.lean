/- The walk of EpochPuts. -/
import Derived.Test.YtmjnleohchmadaaEpoV
import Derived.Test.YtmjnleohchmadaaEpoRS
import Derived.Deep.DeepCutAuto
namespace Go.Proofs.Ytmjnleohchmadaa.Epo
open Go.RowKit Go.Proofs.Ytmjnleohchmadaa.Oct Go.Proofs.Ytmjnleohchmadaa.RowF Go.Proofs.Ytmjnleohchmadaa.Lay Go.Proofs.Ytmjnleohchmadaa.InR Go.Proofs.Ytmjnleohchmadaa.Bat

theorem bel_set {w w' : World} {B : Nat} (h : Below B w w') {a : Addr} (ha : B ≤ a.block) (u : Value) : Below B w (w'.setCell a u) := h.setCell ha u
def bumpE (N : Nat) (A : Option Addr) (m c : Nat) (w0 : World) (vi : Value) (wr : World) : Prop :=
  ∃ (k : Nat) (l : List Ep), vi = .int .i64 (k : Int) ∧ k ≤ m ∧ OwnE wr N (.slice A m c) m l ∧ Below N w0 wr
set_option maxRecDepth 100000 in
set_option maxHeartbeats 8000000 in
theorem epochPuts_walk (A : Option Addr) (n c : Nat) (l : List Ep) (en st : Int) (w : World) (hr : RdE w w.heap.size A n l) (_hc : n ≤ c) :
    Calls Try.prog 3 #[.slice A n c, .int .i64 en, .int .i64 st] w fun e w' => e = .returned (.bool true) ∧ Below w.heap.size w w' := by
  have HR0 := Lib.hid hr
  have HB0 := Lib.hid (Below.refl w.heap.size w)
  clear hr
  by_cases hn : (n : Int) ≤ 100
  case neg =>
    have HZ := Lib.hid (decide_eq_false hn)
    clear hn
    go_enter Try.func3, Try.ntmps3
    go_wp2_with (first
      | (go_at_call 11; (with_reducible refine (live_any _).mono ?_); rintro e w1 ⟨rfl, hb⟩; have HB1 := Lib.hid (bel_trans HB0.out hb); have HR_1 := Lib.hid (rdeUp HR0.out hb); clear hb)
      | (go_at_call 12; (with_reducible refine (few_any A n c HZ.out _).mono ?_); rintro e w9 ⟨rfl, rfl⟩; skip))
    go_ret
    exact ⟨rfl, HB1.out⟩
  have HZ := Lib.hid (decide_eq_true hn)
  have hn9 : n ≤ reach := Nat.le_trans (show n ≤ 100 by omega) (by decide)
  have hn6 : n ≤ 1000000 := by omega
  have hn12 : n ≤ 1099511627776 := by omega
  rcases hP : putE l en st with ⟨x, e⟩
  have HP := Lib.hid hP
  obtain ⟨C, hC⟩ : ∃ C, ckE l = C := ⟨_, rfl⟩
  have HC := Lib.hid hC
  have HLEN := Lib.hid HR0.out.len
  have hxl := putE_len hP
  rw [HLEN.out] at hxl
  clear hP hC
  go_enter Try.func3, Try.ntmps3
  go_wp2_with (first
    | (go_at_call 11; (with_reducible refine (live_any _).mono ?_); rintro e w1 ⟨rfl, hb⟩; have HB1 := Lib.hid (bel_trans HB0.out hb); have HR_1 := Lib.hid (rdeUp HR0.out hb); clear hb)
    | (go_at_call 12; (with_reducible refine (few_any A n c HZ.out _).mono ?_); rintro e w9 ⟨rfl, rfl⟩; skip)
    | (go_at_call 13; (with_reducible refine (rCopy_is A n c l _ HR_1.out hn6).mono ?_); rintro e w2 ⟨A2, c2, rfl, ho, hb⟩; have HB2 := Lib.hid (bel_trans HB1.out hb); have HR_2 := Lib.hid (rdeUp HR_1.out hb); have HCP_2 := Lib.hid (OwnF.rd epS ho); clear hb ho)
    | (go_at_call 14; (with_reducible refine (dPut_is A n c l en st _ HR_2.out hn6 HP.out).mono ?_); rintro e w3 ⟨A5, n5, c5, rfl, ho, hb⟩; have HB3 := Lib.hid (bel_trans HB2.out hb); have HQ3 := Lib.hid hb; have HR_3 := Lib.hid (rdeUp HR_2.out hb); have HCP_3 := Lib.hid (rdeUp HCP_2.out hb); have HO3 := Lib.hid ho; have HX_3 := Lib.hid (OwnF.rd epS ho); have hx9 : n5 ≤ 101 := (by have := OwnF.len epS ho; omega); clear hb ho)
    | (go_at_call 15; (with_reducible refine (rPut_is A n c l en st _ HR_3.out hn6 HP.out).mono ?_); rintro e w4 ⟨A6, n6, c6, rfl, ho, hb⟩; have HB4 := Lib.hid (bel_trans HB3.out hb); have HQ4 := Lib.hid (bel_trans HQ3.out hb); have HR_4 := Lib.hid (rdeUp HR_3.out hb); have HCP_4 := Lib.hid (rdeUp HCP_3.out hb); have HX_4 := Lib.hid (rdeUp HX_3.out hb); have HY_4 := Lib.hid (OwnF.rd epS ho); obtain rfl : n6 = n5 := (by rw [← OwnF.len epS ho, OwnF.len epS HO3.out]); have HO4 := Lib.hid (OwnF.below HO3.out hb); have HB24 := Lib.hid hb; clear hb ho)
    | (go_at_call 16; (with_reducible refine (rSame_yes A5 n6 c5 x A6 n6 c6 _ HX_4.out HY_4.out (by omega)).mono ?_); rintro e w5 ⟨rfl, hb⟩; have HB5 := Lib.hid (bel_trans HB4.out hb); have HQ5 := Lib.hid (bel_trans HQ4.out hb); have HR_5 := Lib.hid (rdeUp HR_4.out hb); have HCP_5 := Lib.hid (rdeUp HCP_4.out hb); have HX_5 := Lib.hid (rdeUp HX_4.out hb); have HY_5 := Lib.hid (rdeUp HY_4.out hb); have HO5 := Lib.hid (OwnF.below HO4.out hb); clear hb)
    | (go_at_call 17; (with_reducible refine (dCheck_is A n c l _ HR_5.out hn9 HC.out).mono ?_); rintro e w6 ⟨rfl, hb⟩; have HB6 := Lib.hid (bel_trans HB5.out hb); have HQ6 := Lib.hid (bel_trans HQ5.out hb); have HR_6 := Lib.hid (rdeUp HR_5.out hb); have HCP_6 := Lib.hid (rdeUp HCP_5.out hb); have HX_6 := Lib.hid (rdeUp HX_5.out hb); have HY_6 := Lib.hid (rdeUp HY_5.out hb); have HO6 := Lib.hid (OwnF.below HO5.out hb); clear hb)
    | (go_at_call 18; (with_reducible refine (rCheck_is A n c l _ HR_6.out hn9 HC.out).mono ?_); rintro e w7 ⟨rfl, hb⟩; have HB7 := Lib.hid (bel_trans HB6.out hb); have HQ7 := Lib.hid (bel_trans HQ6.out hb); have HR_7 := Lib.hid (rdeUp HR_6.out hb); have HCP_7 := Lib.hid (rdeUp HCP_6.out hb); have HX_7 := Lib.hid (rdeUp HX_6.out hb); have HY_7 := Lib.hid (rdeUp HY_6.out hb); have HO7 := Lib.hid (OwnF.below HO6.out hb); clear hb))
  have HB27 := Lib.hid (show Below w2.heap.size w2 w7 from HQ7.out)
  go_loopw [52] (fun vi wr => bumpE w2.heap.size A5 n6 c5 w7 vi wr) (fun vi _ => n6 - (intOf vi).toNat)
  case atStart => exact ⟨0, x, rfl, Nat.zero_le _, HO7.out, Below.refl _ _⟩
  case round =>
    obtain ⟨k, lq, rfl, hk, ho, hb⟩ := hrel
    have HO := Lib.hid ho
    have HBR := Lib.hid hb
    clear ho hb
    by_cases hlt : k < n6
    · obtain ⟨g, rfl, hg, _⟩ := OwnF.form HO.out (by omega)
      have hlen := OwnF.len epS HO.out
      obtain ⟨⟨y0, y1⟩, hyk⟩ : ∃ y, lq[k]? = some y := ⟨lq[k]'(by omega), List.getElem?_eq_getElem _⟩
      have e1 := OwnF.cellAt epS HO.out (i := 1) hyk rfl
      have fz := OwnF.frozen HO.out (k * 2 + 1)
      have HS := Lib.hid (OwnF.set epS HO.out hg (i := 1) (u := .int .i64 (wrap64 (y1 + 1))) (y := ⟨y0, wrap64 (y1 + 1)⟩) hyk (by decide) rfl)
      have hkl : (k : Int) < (n6 : Int) := by omega
      have hk0 : (0 : Int) ≤ (k : Int) := by omega
      have hw1 : IntKind.i64.wrap ((k : Int) + 1) = (k : Int) + 1 := IntWalk.i64_in _ (by omega)
      simp only at e1
      clear hyk
      go_wp2
      go_roundw
      case rel => exact ⟨k + 1, _, by go_num, by omega, HS.out.1, HBR.out.trans HS.out.2⟩
      case measure => simp [intOf]; omega
    · obtain rfl : k = n6 := by omega
      have HB9 := Lib.hid (HB2.out.trans ((HB27.out.trans HBR.out).mono HB2.out.size))
      have HRZ := Lib.hid (rdeUp HR_2.out (HB27.out.trans HBR.out))
      have HCZ := Lib.hid (rdeUp HCP_2.out (HB27.out.trans HBR.out))
      clear hlt
      go_wp2_with (first
        | (go_at_call 16; (with_reducible refine (rSame_yes A n c l A2 n c2 _ HRZ.out HCZ.out hn12).mono ?_); rintro e wz ⟨rfl, hb⟩; have HBZ := Lib.hid hb; clear hb))
      go_ret
      exact ⟨rfl, bel_trans HB9.out HBZ.out⟩
end Go.Proofs.Ytmjnleohchmadaa.Epo
