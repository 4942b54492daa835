/- What is shown is there, in order, shown again it is the same, and of more that was aborted no more is shown, whatever the batches, those that were aborted, and the offset; no condition.
-/
import Derived.Test.YtlfbagkonckffaaGreatJ48
import Derived.Test.YtlfbagkonckffaaGreatJ40
import Derived.Test.YtlfbagkonckffaaGreatJ33
import Derived.Test.YtlfbagkonckffaaGreatJ49
import Derived.Test.YtlfbagkonckffaaGreatRows
import Derived.WalkKit
import Derived.ProofKit
import Derived.OpenShut
import Derived.ChangeOld
import Derived.Below
import Derived.Carry
import Derived.Test.YtlfbagkonckffaaGreatJ06
import Derived.Test.YtlfbagkonckffaaGreatJ08
import Derived.Test.YtlfbagkonckffaaGreatJ09
import Derived.SizedLaws
/- The walk of TxnsShown. -/
namespace Go.Proofs.YtlfbagkonckffaaGreat.Txn
open Go.RowKit Oct Rec RowF Lay InR Bat
open Epo (At0 AtO belA cel2)
open Sqs (at0_set9)
open Chn (i64_and)

def cntS (tt : Int) (bs : List Bt) (j : Nat) : Nat := ((bs.take j).filter fun b => decide (b.ctl = 0 ∧ b.last < tt)).length
theorem cntS_at {tt : Int} {bs : List Bt} {j : Nat} {x : Bt} (h : bs[j]? = some x) : cntS tt bs (j + 1) = cntS tt bs j + if x.ctl = 0 ∧ x.last < tt then 1 else 0 := by
  unfold cntS
  rw [List.take_add_one, h, Option.toList_some, List.filter_append, List.length_append, List.filter_cons, List.filter_nil]
  by_cases h9 : x.ctl = 0 ∧ x.last < tt
  · rw [if_pos (decide_eq_true h9), if_pos h9]; rfl
  · rw [if_neg (by simpa using h9), if_neg h9]; rfl
def swRel (tt : Int) (bs : List Bt) (n : Nat) (w : World) (cv iv : Value) (wr : World) : Prop := ∃ j : Nat, iv = .int .i64 (j : Int) ∧ j ≤ n ∧ cv = .int .i64 ((cntS tt bs j : Nat) : Int) ∧ w = wr
set_option maxRecDepth 100000 in
set_option maxHeartbeats 16000000 in
theorem txnsShown_walk (A : Option Addr) (n c : Nat) (bs : List Bt) (A2 : Option Addr) (n2 c2 : Nat) (l : List Gon) (tt k : Int) (w : World) (hc : n ≤ c) (hk : c ≤ reach) (hR : RdL w w.heap.size A n bs) (hc2 : n2 ≤ c2) (_hk2 : c2 ≤ reach) (hR2 : RdGn w w.heap.size A2 n2 l) (_hF2 : FitG l) (_hi : I64 tt) (_hj : I64 k) :
    Calls Tryz.prog 11 #[.slice A n c, .slice A2 n2 c2, .int .i64 tt, .int .i64 k] w fun e w' => e = .returned (.bool true) ∧ Below w.heap.size w w' := by
  have hn9 : n ≤ reach := Nat.le_trans hc hk
  have HB_0 := Lib.hid (Below.refl w.heap.size w)
  have HL_0 := Lib.hid hR
  have HG_0 := Lib.hid hR2
  clear hR hR2 hk
  cases hz : (bs.all fewT && decide ((bs.length : Int) ≤ 60)) with
  | false =>
    have HZ := Lib.hid hz
    clear hz
    go_enter Tryz.func11, Tryz.ntmps11
    go_wp2_with (first
      | (go_at_call 12; have HLK := Lib.hid (live12_any w); (with_reducible refine HLK.out.mono ?_); go_loud (clear HLK; rintro e w1 ⟨rfl, hb⟩; have HB_1 := Lib.hid (bel_trans HB_0.out hb); have HL_1 := Lib.hid (rdlUp9 HL_0.out hb); have HG_1 := Lib.hid (rdgUp9 HG_0.out hb); clear hb))
      | (go_at_call 20; have HLK := Lib.hid (few12_is bs A n c w1 HL_1.out (by omega) HZ.out); (with_reducible refine HLK.out.mono ?_); go_loud (clear HLK; rintro e w2 ⟨rfl, hb⟩; have HB_2 := Lib.hid (bel_trans HB_1.out hb); have HL_2 := Lib.hid (rdlUp9 HL_1.out hb); have HG_2 := Lib.hid (rdgUp9 HG_1.out hb); clear hb)))
    go_ret
    exact ⟨rfl, HB_2.out⟩
  | true =>
    have HZ := Lib.hid hz
    rw [Bool.and_eq_true, decide_eq_true_eq] at hz
    have HT_0 := Lib.hid (rdT_of HL_0.out hz.1)
    have hln := HT_0.out.len
    have hn60 : n ≤ 60 := by have := hz.2; omega
    clear hz
    by_cases hg : n2 ≤ 60
    case neg =>
      have hg1 : (60 : Int) < (n2 : Int) := by omega
      go_enter Tryz.func11, Tryz.ntmps11
      go_wp2_with (first
        | (go_at_call 12; have HLK := Lib.hid (live12_any w); (with_reducible refine HLK.out.mono ?_); go_loud (clear HLK; rintro e w1 ⟨rfl, hb⟩; have HB_1 := Lib.hid (bel_trans HB_0.out hb); have HL_1 := Lib.hid (rdlUp9 HL_0.out hb); have HG_1 := Lib.hid (rdgUp9 HG_0.out hb); have HT_1 := Lib.hid (rdtUp9 HT_0.out hb); clear hb))
        | (go_at_call 20; have HLK := Lib.hid (few12_is bs A n c w1 HL_1.out (by omega) HZ.out); (with_reducible refine HLK.out.mono ?_); go_loud (clear HLK; rintro e w2 ⟨rfl, hb⟩; have HB_2 := Lib.hid (bel_trans HB_1.out hb); have HL_2 := Lib.hid (rdlUp9 HL_1.out hb); have HG_2 := Lib.hid (rdgUp9 HG_1.out hb); have HT_2 := Lib.hid (rdtUp9 HT_1.out hb); clear hb)))
      go_ret
      exact ⟨rfl, HB_2.out⟩
    have hg1 : ¬ (60 : Int) < (n2 : Int) := by omega
    obtain ⟨r, hr65, hrb⟩ := i64_and k 65535 (by decide)
    have hrb' : bits .and .i64 k 65535 = (r : Int) := hrb
    obtain ⟨q, hq⟩ : ∃ q, r % (n2 + 1) = q := ⟨_, rfl⟩
    have hqn : q ≤ n2 := by rw [← hq]; have := Nat.mod_lt r (show 0 < n2 + 1 by omega); omega
    have hqq : (r : Int) % ((n2 : Int) + 1) = (q : Int) := by rw [← hq, show ((n2 : Int) + 1) = ((n2 + 1 : Nat) : Int) by omega]; exact (Int.natCast_emod _ _).symm
    have hqt : (r : Int).tmod ((n2 : Int) + 1) = (q : Int) := by rw [← hq, show ((n2 : Int) + 1) = ((n2 + 1 : Nat) : Int) by omega]; exact (Int.ofNat_tmod _ _).symm
    have hw1 : IntKind.i64.wrap ((n2 : Int) + 1) = (n2 : Int) + 1 := IntWalk.i64_in _ (by omega)
    have hw2 : IntKind.i64.wrap (q : Int) = (q : Int) := IntWalk.i64_in _ (by omega)
    have hq1 : (q : Int) ≤ (c2 : Int) := by omega
    have hq0 : (0 : Int) ≤ (q : Int) := by omega
    clear hrb hq
    go_enter Tryz.func11, Tryz.ntmps11
    go_upto_region 6 with (first
      | (go_at_call 25; have HLK := Lib.hid (show_is Aa na ca (shwB bs l tt) A2 n2 c2 l tt w3 Ha_3.out (by omega) HG_3.out (by omega) (Z := shwB bs l tt) (shown_again bs l tt)); (with_reducible refine HLK.out.mono ?_); go_loud (clear HLK; rintro e w4 ⟨Ab, nb, cb, rfl, hcs, ho, hb⟩; have hr9 := OwnT.rd ho; have HbL := Lib.hid hr9.len; have HB_4 := Lib.hid (bel_trans HB_3.out hb); have HL_4 := Lib.hid (rdlUp9 HL_3.out hb); have HG_4 := Lib.hid (rdgUp9 HG_3.out hb); have HT_4 := Lib.hid (rdtUp9 HT_3.out hb); have Ha_4 := Lib.hid (rdtUp9 Ha_3.out hb); have Hb_4 := Lib.hid hr9; clear hcs ho hr9; clear hb))
      | (go_at_call 25; have HLK := Lib.hid (show_is A n c bs A2 n2 c2 l tt w2 HT_2.out (by omega) HG_2.out (by omega) (Z := shwB bs l tt) rfl); (with_reducible refine HLK.out.mono ?_); go_loud (clear HLK; rintro e w3 ⟨Aa, na, ca, rfl, hcs, ho, hb⟩; have hr9 := OwnT.rd ho; have HaL := Lib.hid hr9.len; have HB_3 := Lib.hid (bel_trans HB_2.out hb); have HL_3 := Lib.hid (rdlUp9 HL_2.out hb); have HG_3 := Lib.hid (rdgUp9 HG_2.out hb); have HT_3 := Lib.hid (rdtUp9 HT_2.out hb); have Ha_3 := Lib.hid hr9; clear hcs ho hr9; have hna : na ≤ n := (by have h9 := HaL.out; have h8 := List.length_filter_le (isSh l tt) bs; have h7 : (shwB bs l tt).length = (bs.filter (isSh l tt)).length := rfl; omega); clear hb))
      | (go_at_call 20; have HLK := Lib.hid (few12_is bs A n c w1 HL_1.out (by omega) HZ.out); (with_reducible refine HLK.out.mono ?_); go_loud (clear HLK; rintro e w2 ⟨rfl, hb⟩; have HB_2 := Lib.hid (bel_trans HB_1.out hb); have HL_2 := Lib.hid (rdlUp9 HL_1.out hb); have HG_2 := Lib.hid (rdgUp9 HG_1.out hb); have HT_2 := Lib.hid (rdtUp9 HT_1.out hb); clear hb))
      | (go_at_call 12; have HLK := Lib.hid (live12_any w); (with_reducible refine HLK.out.mono ?_); go_loud (clear HLK; rintro e w1 ⟨rfl, hb⟩; have HB_1 := Lib.hid (bel_trans HB_0.out hb); have HL_1 := Lib.hid (rdlUp9 HL_0.out hb); have HG_1 := Lib.hid (rdgUp9 HG_0.out hb); have HT_1 := Lib.hid (rdtUp9 HT_0.out hb); clear hb)))
    have HGQ := Lib.hid (rd_take9 HG_4.out hqn)
    obtain ⟨Zc, hZc⟩ : ∃ Zc, shwB bs (l.take q) tt = Zc := ⟨_, rfl⟩
    obtain ⟨Zd, hZd⟩ : ∃ Zd, shwB bs [] tt = Zd := ⟨_, rfl⟩
    have HM := Lib.hid (shown_more bs l q tt)
    have HZC := Lib.hid hZc
    have HZD := Lib.hid hZd
    clear hZc hZd
    go_upto_region 8 with (first
      | (go_at_call 25; have HLK := Lib.hid (show_is A n c bs none 0 0 [] tt w5 HT_5.out (by omega) RdF.nil (by omega) (Z := Zd) HZD.out); (with_reducible refine HLK.out.mono ?_); go_loud (clear HLK; rintro e w6 ⟨Av, nv, cv, rfl, hcs, ho, hb⟩; have hr9 := OwnT.rd ho; have HvL := Lib.hid hr9.len; have HB_6 := Lib.hid (bel_trans HB_5.out hb); have HL_6 := Lib.hid (rdlUp9 HL_5.out hb); have HG_6 := Lib.hid (rdgUp9 HG_5.out hb); have HT_6 := Lib.hid (rdtUp9 HT_5.out hb); have Ha_6 := Lib.hid (rdtUp9 Ha_5.out hb); have Hb_6 := Lib.hid (rdtUp9 Hb_5.out hb); have HGQ_6 := Lib.hid (rdgUp9 HGQ_5.out hb); have Hu_6 := Lib.hid (rdtUp9 Hu_5.out hb); have Hv_6 := Lib.hid hr9; clear hcs ho hr9; clear hb))
      | (go_at_call 25; have HLK := Lib.hid (show_is A n c bs A2 q c2 (l.take q) tt w4 HT_4.out (by omega) HGQ.out (by omega) (Z := Zc) HZC.out); (with_reducible refine HLK.out.mono ?_); go_loud (clear HLK; rintro e w5 ⟨Au, nu, cu, rfl, hcs, ho, hb⟩; have hr9 := OwnT.rd ho; have HuL := Lib.hid hr9.len; have HB_5 := Lib.hid (bel_trans HB_4.out hb); have HL_5 := Lib.hid (rdlUp9 HL_4.out hb); have HG_5 := Lib.hid (rdgUp9 HG_4.out hb); have HT_5 := Lib.hid (rdtUp9 HT_4.out hb); have Ha_5 := Lib.hid (rdtUp9 Ha_4.out hb); have Hb_5 := Lib.hid (rdtUp9 Hb_4.out hb); have HGQ_5 := Lib.hid (rdgUp9 HGQ.out hb); have Hu_5 := Lib.hid hr9; clear hcs ho hr9; clear hb)))
    have HMU := Lib.hid (show na ≤ nu ∧ nu ≤ nv ∧ nv = cntS tt bs n from by
      have h1 := HM.out
      rw [HZC.out, HZD.out] at h1
      have h2 := HaL.out
      have h3 := HuL.out
      have h4 := HvL.out
      refine ⟨by omega, by omega, ?_⟩
      unfold cntS
      rw [List.take_of_length_le (by omega)]
      omega)
    go_wp2
    go_loopw [14, 15] (fun cv iv wr => swRel tt bs n w6 cv iv wr) (fun _ iv _ => n - (intOf iv).toNat)
    case atStart => exact ⟨0, rfl, Nat.zero_le _, rfl, rfl⟩
    case round =>
      obtain ⟨j, rfl, hj, rfl, rfl⟩ := hrel
      by_cases hlt : j < n
      · obtain ⟨b, o, ⟨ba, la, fr, ep, pi, ge, se, tx, ct, rs⟩, AR, nR, cR, hA, hbl, hxk, _, _, _, _, hcell⟩ := HT_6.out.at hlt
        subst hA
        have HAT := Lib.hid (cntS_at (tt := tt) hxk)
        have d8 : w6.cell? ⟨b, o + j * 10 + 8, none⟩ = some (.int .i64 ct) := hcell 8 _ rfl
        have d1 : w6.cell? ⟨b, o + j * 10 + 1, none⟩ = some (.int .i64 la) := hcell 1 _ rfl
        have hw3 : IntKind.i64.wrap ((j : Int) + 1) = (j : Int) + 1 := IntWalk.i64_in _ (by omega)
        have hcj : cntS tt bs j ≤ n := by unfold cntS; exact Nat.le_trans (List.length_filter_le _ _) (by rw [List.length_take]; omega)
        obtain ⟨cj, hcj9⟩ : ∃ cj, cntS tt bs j = cj := ⟨_, rfl⟩
        rw [hcj9] at hcj
        have HCJ := Lib.hid hcj9
        have hw4 : IntKind.i64.wrap ((cj : Int) + 1) = (cj : Int) + 1 := IntWalk.i64_in _ (by omega)
        have hjl : (j : Int) < (n : Int) := by omega
        rw [hcj9]
        clear hcell hxk hbl hcj9
        by_cases hct : ct = 0
        · subst hct
          by_cases hla : la < tt
          · go_wp2
            go_roundw
            case rel => exact ⟨j + 1, by go_num, by omega, by rw [HAT.out, HCJ.out, if_pos ⟨rfl, hla⟩]; go_num, rfl⟩
            case measure => simp [intOf]; omega
          · go_wp2
            go_roundw
            case rel => exact ⟨j + 1, by go_num, by omega, by rw [HAT.out, HCJ.out, if_neg (fun h => hla h.2)]; rfl, rfl⟩
            case measure => simp [intOf]; omega
        · have hcq : (ct == 0) = false := beq_eq_false_iff_ne.2 hct
          have HCN := Lib.hid hct
          clear hct
          go_wp2
          go_roundw
          case rel => exact ⟨j + 1, by go_num, by omega, by rw [HAT.out, HCJ.out, if_neg (fun h => HCN.out h.1)]; rfl, rfl⟩
          case measure => simp [intOf]; omega
      · obtain rfl : j = n := by omega
        have hm1 : (na : Int) ≤ (nu : Int) := by have := HMU.out.1; omega
        have hm2 : (nu : Int) ≤ (nv : Int) := by have := HMU.out.2.1; omega
        have hm3 : ((nv : Int) == ((cntS tt bs j : Nat) : Int)) = true := beq_iff_eq.2 (by have := HMU.out.2.2; omega)
        go_wp2_with (first
          | (go_at_call 24; have HLK := Lib.hid (Seg.SameAll_is Aa Ab na ca nb cb (shwB bs l tt) (shwB bs l tt) w6 Ha_6.out Hb_6.out (by have := HaL.out; omega) (by have h1 := HaL.out; have h2 := HbL.out; omega) (Seg.eqT_self _)); (with_reducible refine HLK.out.mono ?_); go_loud (clear HLK; rintro e w7 ⟨rfl, hb⟩; have HB_7 := Lib.hid (bel_trans HB_6.out hb); have HL_7 := Lib.hid (rdlUp9 HL_6.out hb); have HG_7 := Lib.hid (rdgUp9 HG_6.out hb); have HT_7 := Lib.hid (rdtUp9 HT_6.out hb); have Ha_7 := Lib.hid (rdtUp9 Ha_6.out hb); have Hb_7 := Lib.hid (rdtUp9 Hb_6.out hb); have HGQ_7 := Lib.hid (rdgUp9 HGQ_6.out hb); have Hu_7 := Lib.hid (rdtUp9 Hu_6.out hb); have Hv_7 := Lib.hid (rdtUp9 Hv_6.out hb); clear hb)))
        go_ret
        exact ⟨rfl, HB_7.out⟩
end Go.Proofs.YtlfbagkonckffaaGreat.Txn

namespace Go.Proofs.YtlfbagkonckffaaGreat.txnsShown
open Go.ChangeShapes Go.WideShapes Go.ChangeAt Go.RowKit

theorem own : ownKnob Tryz.prog.godebug = none := by kernel_rfl
theorem laidOut : laidOutB Tryz.prog = true := by kernel_rfl

set_option maxRecDepth 100000 in
theorem lifted (os : Os) (started : os.Started) (H : Type) (enc : TypeId × Value → H) :
    ReturnsInHanded {} Tryz.checked os 11 .any (Rows.txnsShownSpec.pre6 enc Tryz.prog Tryz.f11 Rows.txnsShownRow.domain false) (Rows.txnsShownSpec.post enc Tryz.prog Tryz.f11 false true false false) := by
  refine returnsInHanded_of_change_sized (C := Tryz.checked) own started (by kernel_rfl) Tryz.func11
    (ChangeSpec.witness6 (enc := enc) (C := Tryz.checked) false ⟨#[], #[.slice none 0 0, .slice none 0 0, .int .i64 0, .int .i64 0], []⟩ 8 (by kernel_rfl) (by kernel_rfl) (by kernel_rfl) (by kernel_rfl)) ?_
  intro W base args ds gs before hval0 hW _ hwt _
  have hval : ∀ (j : Nat) t v, Tryz.f11.params[j]? = some t → args[j]? = some v → Value.okWide Tryz.prog W .any base t v := hval0
  have hW' := hW
  obtain ⟨p, q, hA0, hV, rfl, hfz, hnd⟩ := hW
  have hA : DataW.TrodAll enc Tryz.prog W 0 (fun _ => true) true Tryz.f11.params.toList args.toList ds p := hA0
  rw [Tryz.params11] at hA hval
  obtain ⟨v0, vs0, d0, ds0, p0, q0, hargs, rfl, rfl, h0, r0⟩ := trodAll_cons hA
  obtain ⟨v1, vs1, d1, ds1, p1, q1, rfl, rfl, rfl, h1, r1⟩ := trodAll_cons r0
  obtain ⟨v2, vs2, d2, ds2, p2, q2, rfl, rfl, rfl, h2, r2⟩ := trodAll_cons r1
  obtain ⟨v3, vs3, d3, ds3, p3, q3, rfl, rfl, rfl, h3, r3⟩ := trodAll_cons r2
  obtain ⟨rfl, rfl, rfl⟩ := trodAll_nil r3
  obtain rfl : args = #[v0, v1, v2, v3] := by cases args; simp_all
  obtain ⟨rfl, rfl⟩ := trodVars_none hV
  have k0 := h0
  have lt0 : ∀ x ∈ p0, x.block < W.heap.size := by obtain ⟨m, hm⟩ := k0; exact DataW.trod_lt m _ _ _ hm
  obtain ⟨A_0, n_0, c_0, l_0, rfl, hc_0, hk_0, hR_0⟩ := Bat.open_batches (hval 0 38 v0 rfl rfl) h0 (Bat.weights_arg (j := 0) hwt (by kernel_rfl) rfl)
  have k1 := h1
  have lt1 : ∀ x ∈ p1, x.block < W.heap.size := by obtain ⟨m, hm⟩ := k1; exact DataW.trod_lt m _ _ _ hm
  obtain ⟨A_1, n_1, c_1, l_1, rfl, hc_1, hk_1, hR_1, hF_1⟩ := Txn.open_gons (hval 1 23 v1 rfl rfl) h1 (Bat.weights_arg (j := 1) hwt (by kernel_rfl) rfl)
  have k2 := h2
  have lt2 : ∀ x ∈ p2, x.block < W.heap.size := by obtain ⟨m, hm⟩ := k2; exact DataW.trod_lt m _ _ _ hm
  obtain ⟨a2, rfl, hi2⟩ := Oct.open_i64 Tryz.underlying3 (hval 2 3 v2 rfl rfl) h2
  have k3 := h3
  have lt3 : ∀ x ∈ p3, x.block < W.heap.size := by obtain ⟨m, hm⟩ := k3; exact DataW.trod_lt m _ _ _ hm
  obtain ⟨a3, rfl, hi3⟩ := Oct.open_i64 Tryz.underlying3 (hval 3 3 v3 rfl rfl) h3
  clear hA0 hval0
  refine (Txn.txnsShown_walk A_0 n_0 c_0 l_0 A_1 n_1 c_1 l_1 a2 a3 W hc_0 hk_0 hR_0 hc_1 hk_1 hR_1 hF_1 hi2 hi3).mono fun e W' ⟨he, bel⟩ => ?_
  subst he
  exact ⟨_, rfl, _, _, _, [], _, [], hW', trodAll_mk1 (shut_bool Tryz.underlying4 _), (trodAll_cons_mk (Below.trod laidOut (by kernel_rfl) (of_decide_eq_true (by kernel_rfl)) k0 bel lt0) (trodAll_cons_mk (Below.trod laidOut (by kernel_rfl) (of_decide_eq_true (by kernel_rfl)) k1 bel lt1) (trodAll_cons_mk (Below.trod laidOut (by kernel_rfl) (of_decide_eq_true (by kernel_rfl)) k2 bel lt2) (trodAll_cons_mk (Below.trod laidOut (by kernel_rfl) (of_decide_eq_true (by kernel_rfl)) k3 bel lt3) trodAll_mk0)))), rfl, bel.frame _, fun h => by cases h⟩

theorem over : Rows.txnsShownRow.holds Tryz.pinned (OpenSpec.ofChange Rows.txnsShownSpec) :=
  OpenClaim.holds_of_wide 11 Tryz.f11 rfl rfl rfl rfl rfl rfl rfl ⟨rfl, rfl, rfl, rfl, rfl⟩ rfl rfl rfl rfl rfl (by kernel_rfl) Tryz.func11 (by kernel_rfl)
    (of_decide_eq_true (by kernel_rfl)) (by unfold Func.isWrapper; first | (rw [if_pos (by decide +kernel)]; kernel_rfl) | (rw [if_neg (by decide +kernel)]; exact ⟨rfl, rfl⟩))
    (fun os started H enc _ => lifted os started H enc)

theorem proved : Rows.TxnsShownSaid :=
  over
#print axioms proved
end Go.Proofs.YtlfbagkonckffaaGreat.txnsShown
