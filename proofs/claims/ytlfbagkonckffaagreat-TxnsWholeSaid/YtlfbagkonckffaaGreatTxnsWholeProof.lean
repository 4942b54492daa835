/- Of batches that may be, each behind the one ahead, just what was committed is shown, up to what is stable, whatever the batches and the offset; no condition.
-/
import Derived.Test.YtlfbagkonckffaaGreatJ48
import Derived.Test.YtlfbagkonckffaaGreatJ34
import Derived.Test.YtlfbagkonckffaaGreatJ40
import Derived.Test.YtlfbagkonckffaaGreatJ33
import Derived.Test.YtlfbagkonckffaaGreatJ49
import Derived.Deep.DeepCutAuto
import Derived.Test.YtlfbagkonckffaaGreatRows
import Derived.WalkKit
import Derived.ProofKit
import Derived.OpenShut
import Derived.ChangeOld
import Derived.Below
import Derived.Carry
import Derived.Test.YtlfbagkonckffaaGreatJ06
import Derived.Test.YtlfbagkonckffaaGreatJ08
import Derived.SizedLaws
/- The walk of TxnsWhole. -/
namespace Go.Proofs.YtlfbagkonckffaaGreat.Txn
open Go.RowKit Oct Rec RowF Lay InR Bat
open Epo (At0 AtO belA cel2)
open Sqs (at0_set9)

set_option maxRecDepth 100000 in
set_option maxHeartbeats 16000000 in
theorem txnsWhole_walk (A : Option Addr) (n c : Nat) (bs : List Bt) (high : Int) (w : World) (hc : n ≤ c) (hk : c ≤ reach) (hR : RdL w w.heap.size A n bs) (_hj : I64 high) :
    Calls Tryz.prog 5 #[.slice A n c, .int .i64 high] w fun e w' => e = .returned (.bool true) ∧ Below w.heap.size w w' := by
  have hmx : Tryz.prog.follows .mixedOrders = true := by kernel_rfl
  have hn9 : n ≤ reach := Nat.le_trans hc hk
  have HB_0 := Lib.hid (Below.refl w.heap.size w)
  have HL_0 := Lib.hid hR
  clear hR hk
  cases hz : (bs.all fewT && decide ((bs.length : Int) ≤ 60)) with
  | false =>
    have HZ := Lib.hid hz
    clear hz
    go_enter Tryz.func5, Tryz.ntmps5
    go_wp2_with (first
      | (go_at_call 12; have HLK := Lib.hid (live12_any w); (with_reducible refine HLK.out.mono ?_); go_loud (clear HLK; rintro e w1 ⟨rfl, hb⟩; have HB_1 := Lib.hid (bel_trans HB_0.out hb); have HL_1 := Lib.hid (rdlUp9 HL_0.out hb); clear hb))
      | (go_at_call 20; have HLK := Lib.hid (few12_is bs A n c w1 HL_1.out (by omega) HZ.out); (with_reducible refine HLK.out.mono ?_); go_loud (clear HLK; rintro e w2 ⟨rfl, hb⟩; have HB_2 := Lib.hid (bel_trans HB_1.out hb); have HL_2 := Lib.hid (rdlUp9 HL_1.out hb); clear hb)))
    go_ret
    exact ⟨rfl, HB_2.out⟩
  | true =>
    have HZ := Lib.hid hz
    rw [Bool.and_eq_true, decide_eq_true_eq] at hz
    have HT_0 := Lib.hid (rdT_of HL_0.out hz.1)
    have hln := HT_0.out.len
    have hn60 : n ≤ 60 := by have := hz.2; omega
    clear hz
    cases hri : risB (-1) bs with
    | false =>
      have HRI := Lib.hid hri
      clear hri
      go_enter Tryz.func5, Tryz.ntmps5
      go_wp2_with (first
        | (go_at_call 12; have HLK := Lib.hid (live12_any w); (with_reducible refine HLK.out.mono ?_); go_loud (clear HLK; rintro e w1 ⟨rfl, hb⟩; have HB_1 := Lib.hid (bel_trans HB_0.out hb); have HL_1 := Lib.hid (rdlUp9 HL_0.out hb); have HT_1 := Lib.hid (rdtUp9 HT_0.out hb); clear hb))
        | (go_at_call 20; have HLK := Lib.hid (few12_is bs A n c w1 HL_1.out (by omega) HZ.out); (with_reducible refine HLK.out.mono ?_); go_loud (clear HLK; rintro e w2 ⟨rfl, hb⟩; have HB_2 := Lib.hid (bel_trans HB_1.out hb); have HL_2 := Lib.hid (rdlUp9 HL_1.out hb); have HT_2 := Lib.hid (rdtUp9 HT_1.out hb); clear hb))
        | (go_at_call 33; have HLK := Lib.hid (rRising_is A n c bs w2 HT_2.out hn9 HRI.out); (with_reducible refine HLK.out.mono ?_); go_loud (clear HLK; rintro e w3 ⟨rfl, hb⟩; have HB_3 := Lib.hid (bel_trans HB_2.out hb); have HL_3 := Lib.hid (rdlUp9 HL_2.out hb); have HT_3 := Lib.hid (rdtUp9 HT_2.out hb); clear hb)))
      go_ret
      exact ⟨rfl, HB_3.out⟩
    | true =>
    have HRI := Lib.hid hri
    clear hri
    rcases Nat.eq_zero_or_pos n with hn0 | hn0
    · subst hn0
      go_enter Tryz.func5, Tryz.ntmps5
      go_wp2_with (first
        | (go_at_call 12; have HLK := Lib.hid (live12_any w); (with_reducible refine HLK.out.mono ?_); go_loud (clear HLK; rintro e w1 ⟨rfl, hb⟩; have HB_1 := Lib.hid (bel_trans HB_0.out hb); have HL_1 := Lib.hid (rdlUp9 HL_0.out hb); have HT_1 := Lib.hid (rdtUp9 HT_0.out hb); clear hb))
        | (go_at_call 20; have HLK := Lib.hid (few12_is bs A 0 c w1 HL_1.out (by omega) HZ.out); (with_reducible refine HLK.out.mono ?_); go_loud (clear HLK; rintro e w2 ⟨rfl, hb⟩; have HB_2 := Lib.hid (bel_trans HB_1.out hb); have HL_2 := Lib.hid (rdlUp9 HL_1.out hb); have HT_2 := Lib.hid (rdtUp9 HT_1.out hb); clear hb))
        | (go_at_call 33; have HLK := Lib.hid (rRising_is A 0 c bs w2 HT_2.out hn9 HRI.out); (with_reducible refine HLK.out.mono ?_); go_loud (clear HLK; rintro e w3 ⟨rfl, hb⟩; have HB_3 := Lib.hid (bel_trans HB_2.out hb); have HL_3 := Lib.hid (rdlUp9 HL_2.out hb); have HT_3 := Lib.hid (rdtUp9 HT_2.out hb); clear hb)))
      go_ret
      exact ⟨rfl, HB_3.out⟩
    have hnz : ((n : Int) == 0) = false := beq_eq_false_iff_ne.2 (by omega)
    have hA9 : n ≤ 1000 := by omega
    obtain ⟨u, hu⟩ : ∃ u, ofT bs = u := ⟨_, rfl⟩
    obtain ⟨tt, htt⟩ : ∃ tt, stbT u.op high = tt := ⟨_, rfl⟩
    have HUU := Lib.hid hu
    have HTO := Lib.hid htt
    have hul := of_len bs
    rw [hu] at hul
    clear hu htt
    go_enter Tryz.func5, Tryz.ntmps5
    go_upto_region 5 with (first
      | (go_at_call 31; have HLK := Lib.hid (ofR_is A n c bs w3 HT_3.out hA9 HUU.out); (with_reducible refine HLK.out.mono ?_); go_loud (clear HLK; rintro e w4 ⟨Au, nu, cu, Aug, nug, cug, Aud, nud, cud, rfl, ho, hb⟩; have HB_4 := Lib.hid (bel_trans HB_3.out hb); have HL_4 := Lib.hid (rdlUp9 HL_3.out hb); have HT_4 := Lib.hid (rdtUp9 HT_3.out hb); have HRu_4 := Lib.hid ho.rd; have HLu := Lib.hid ho.len; clear ho; clear hb))
      | (go_at_call 33; have HLK := Lib.hid (rRising_is A n c bs w2 HT_2.out hn9 HRI.out); (with_reducible refine HLK.out.mono ?_); go_loud (clear HLK; rintro e w3 ⟨rfl, hb⟩; have HB_3 := Lib.hid (bel_trans HB_2.out hb); have HL_3 := Lib.hid (rdlUp9 HL_2.out hb); have HT_3 := Lib.hid (rdtUp9 HT_2.out hb); clear hb))
      | (go_at_call 20; have HLK := Lib.hid (few12_is bs A n c w1 HL_1.out (by omega) HZ.out); (with_reducible refine HLK.out.mono ?_); go_loud (clear HLK; rintro e w2 ⟨rfl, hb⟩; have HB_2 := Lib.hid (bel_trans HB_1.out hb); have HL_2 := Lib.hid (rdlUp9 HL_1.out hb); have HT_2 := Lib.hid (rdtUp9 HT_1.out hb); clear hb))
      | (go_at_call 12; have HLK := Lib.hid (live12_any w); (with_reducible refine HLK.out.mono ?_); go_loud (clear HLK; rintro e w1 ⟨rfl, hb⟩; have HB_1 := Lib.hid (bel_trans HB_0.out hb); have HL_1 := Lib.hid (rdlUp9 HL_0.out hb); have HT_1 := Lib.hid (rdtUp9 HT_0.out hb); clear hb)))
    have hnu : nu ≤ 60 ∧ nug ≤ 60 ∧ nud ≤ 60 := by have := HLu.out; omega
    have hnr : nu ≤ reach := Nat.le_trans hnu.1 (by decide)
    clear hul
    have hba := belA w4 (.cells #[.slice Au nu cu, .slice Aug nug cug, .slice Aud nud cud] 25)
    have HB_5 := Lib.hid (bel_trans HB_4.out hba)
    have HL_5 := Lib.hid (rdlUp9 HL_4.out hba)
    have HT_5 := Lib.hid (rdtUp9 HT_4.out hba)
    have HRu_5 := Lib.hid (HRu_4.out.below hba)
    have HU_5 := Lib.hid (At0.new w4 [.slice Au nu cu, .slice Aug nug cug, .slice Aud nud cud] 25)
    clear hba
    generalize (w4.alloc (.cells #[.slice Au nu cu, .slice Aug nug cug, .slice Aud nud cud] 25)) = w5 at *
    obtain ⟨pu, hpu⟩ : ∃ pu, w4.heap.size = pu := ⟨_, rfl⟩
    rw [hpu] at HU_5
    simp only [hpu]
    clear hpu
    obtain ⟨hu5_0, hu5_1, hu5_2⟩ := cel3 HU_5.out
    go_upto_region 6 with (first
      | (go_at_call 27; have HLK := Lib.hid (stable_is Au nu cu Aug nug cug Aud nud cud u high w5 HRu_5.out hnr HTO.out); (with_reducible refine HLK.out.mono ?_); go_loud (clear HLK; rintro e w6 ⟨rfl, hb⟩; have HB_6 := Lib.hid (bel_trans HB_5.out hb); have HL_6 := Lib.hid (rdlUp9 HL_5.out hb); have HT_6 := Lib.hid (rdtUp9 HT_5.out hb); have HRu_6 := Lib.hid (HRu_5.out.below hb); have HU_6 := Lib.hid (HU_5.out.below hb); clear hb hu5_0 hu5_1 hu5_2)))
    go_wp2
    go_loopw [8, 9] (fun cv iv wr => gaRel n bs (isSh u.gone tt) w6 cv iv wr) (fun _ iv _ => n - (intOf iv).toNat)
    case atStart => exact ⟨0, none, 0, 0, rfl, Nat.zero_le _, rfl, OwnT.nil, Below.refl _ _⟩
    case round =>
      obtain ⟨j, A4, n4, c4, rfl, hj, rfl, ho, hb⟩ := hrel
      have HO_r := Lib.hid ho
      have HBQ_r := Lib.hid hb
      have HTQ_r := Lib.hid (HT_6.out.below hb (Nat.le_refl _))
      have HSZ_r := Lib.hid hb.size
      have HB_r := Lib.hid (bel_trans HB_6.out hb)
      have HL_r := Lib.hid (rdlUp9 HL_6.out hb)
      have HT_r := Lib.hid (rdtUp9 HT_6.out hb)
      have HRu_r := Lib.hid (HRu_6.out.below hb)
      have HU_r := Lib.hid (HU_6.out.below hb)
      clear ho hb
      by_cases hlt : j < n
      · obtain ⟨b, o, ⟨ba, la, fr, ep, pi, ge, se, tx, ct, rs⟩, AR, nR, cR, hA, hbl, hxk, hcR, hnR, hrd, hfit, hcell⟩ := HTQ_r.out.at hlt
        subst hA
        have HXK := Lib.hid hxk
        have HWS := Lib.hid (whole_shown (high := high) HRI.out (cut_at9 hxk))
        have hbr : b < wr.heap.size := Nat.lt_of_lt_of_le hbl HSZ_r.out
        have HRD := Lib.hid hrd
        have HFI := Lib.hid hfit
        have hat : AtO wr b (o + j * 10) [.int .i64 ba, .int .i64 la, .int .i64 fr, .int .i64 ep, .int .i64 pi, .int .i64 ge, .int .i64 se, .bool tx, .int .i64 ct, .slice AR nR cR] := ⟨hbr, hcell⟩
        have HAT_r := Lib.hid hat
        have hw5 : IntKind.i64.wrap ((j : Int) + 1) = (j : Int) + 1 := IntWalk.i64_in _ (by omega)
        have hjl : (j : Int) < (n : Int) := by omega
        have hj0 : (0 : Int) ≤ (j : Int) := by omega
        have hn4 : n4 ≤ 60 := by
          have h1 := HO_r.out.len
          have h2 := List.length_filter_le (isSh u.gone tt) (bs.take j)
          rw [List.length_take] at h2
          omega
        have d0 : wr.cell? ⟨b, o + j * 10, none⟩ = some (.int .i64 ba) := hcell 0 _ rfl
        have d1 : wr.cell? ⟨b, o + j * 10 + 1, none⟩ = some (.int .i64 la) := hcell 1 _ rfl
        have d2 : wr.cell? ⟨b, o + j * 10 + 2, none⟩ = some (.int .i64 fr) := hcell 2 _ rfl
        have d3 : wr.cell? ⟨b, o + j * 10 + 3, none⟩ = some (.int .i64 ep) := hcell 3 _ rfl
        have d4 : wr.cell? ⟨b, o + j * 10 + 4, none⟩ = some (.int .i64 pi) := hcell 4 _ rfl
        have d5 : wr.cell? ⟨b, o + j * 10 + 5, none⟩ = some (.int .i64 ge) := hcell 5 _ rfl
        have d6 : wr.cell? ⟨b, o + j * 10 + 6, none⟩ = some (.int .i64 se) := hcell 6 _ rfl
        have d7 : wr.cell? ⟨b, o + j * 10 + 7, none⟩ = some (.bool tx) := hcell 7 _ rfl
        have d8 : wr.cell? ⟨b, o + j * 10 + 8, none⟩ = some (.int .i64 ct) := hcell 8 _ rfl
        have d9 : wr.cell? ⟨b, o + j * 10 + 9, none⟩ = some (.slice AR nR cR) := hcell 9 _ rfl
        clear hxk hrd hfit hcell hbl hat
        by_cases hct : ct = 0
        case neg =>
          have hcq : (ct == 0) = false := beq_eq_false_iff_ne.2 hct
          have HNO := Lib.hid (show isSh u.gone tt ⟨ba, la, fr, ep, pi, ge, se, tx, ct, rs⟩ = false from by have h9 := HWS.out; rw [HUU.out, HTO.out] at h9; rw [h9]; rw [decide_eq_false (fun h => hct h.1)]; rfl)
          clear hct
          go_wp2
          go_roundw
          case rel => exact ⟨j + 1, A4, n4, c4, by go_num, by omega, rfl, by rw [filt_no9 HXK.out HNO.out]; exact HO_r.out, HBQ_r.out⟩
          case measure => simp [intOf]; omega
        subst hct
        by_cases hla : la < tt
        case neg =>
          have HNO := Lib.hid (show isSh u.gone tt ⟨ba, la, fr, ep, pi, ge, se, tx, 0, rs⟩ = false from by have h9 := HWS.out; rw [HUU.out, HTO.out] at h9; rw [h9]; rw [decide_eq_false (fun h => hla h.2)]; rfl)
          go_wp2
          go_roundw
          case rel => exact ⟨j + 1, A4, n4, c4, by go_num, by omega, rfl, by rw [filt_no9 HXK.out HNO.out]; exact HO_r.out, HBQ_r.out⟩
          case measure => simp [intOf]; omega
        cases tx with
        | false =>
          have HYES := Lib.hid (show isSh u.gone tt ⟨ba, la, fr, ep, pi, ge, se, false, 0, rs⟩ = true from by have h9 := HWS.out; rw [HUU.out, HTO.out] at h9; rw [h9]; rw [decide_eq_true ⟨rfl, hla⟩]; rfl)
          obtain ⟨A8, c8, w8, hrun, ho8, _, _, hb8⟩ := run_appT (P := Tryz.prog) (w := wr) w6.heap.size 38 38 28 Tryz.underlying38 batInfo HO_r.out (x := (⟨ba, la, fr, ep, pi, ge, se, false, 0, rs⟩, AR, nR, cR)) (lead_rd9 HRD.out HSZ_r.out hcR hnR HFI.out (fun g hg => (OwnT.lt HO_r.out g hg).1)) (by omega) HSZ_r.out
          dsimp only [batC] at hrun
          have HO8 := Lib.hid ho8
          have HB8 := Lib.hid hb8
          clear ho8 hb8
          go_wp2_with (at_builtin; refine wpList_app_run rfl _ _ 38 rfl rfl rfl hrun ?_)
          go_roundw
          case rel => exact ⟨j + 1, A8, n4 + 1, c8, by go_num, by omega, rfl, by rw [filt_yes9 HXK.out HYES.out]; exact HO8.out, HBQ_r.out.trans HB8.out⟩
          case measure => simp [intOf]; omega
        | true =>
          obtain ⟨z, hz⟩ : ∃ z, nxtB (bs.drop (j + 1)) pi = z := ⟨_, rfl⟩
          have HZN := Lib.hid hz
          clear hz
          by_cases hz1 : z = 1
          · have HYES := Lib.hid (show isSh u.gone tt ⟨ba, la, fr, ep, pi, ge, se, true, 0, rs⟩ = true from by have h9 := HWS.out; rw [HUU.out, HTO.out] at h9; rw [h9]; simp only [HZN.out]; rw [decide_eq_true ⟨trivial, hla⟩, decide_eq_true hz1]; rfl)
            subst hz1
            go_wp2_with (first
              | (at_builtin; refine wpList_app_run rfl _ _ 38 rfl rfl rfl hrun ?_)
              | (go_at_call 34; have HLK := Lib.hid (next_is (some ⟨b, o, none⟩) n c j bs ⟨ba, la, fr, ep, pi, ge, se, true, 0, rs⟩ wr HT_r.out hn9 HXK.out HZN.out); (with_reducible refine HLK.out.mono ?_); go_loud (clear HLK; rintro e w41 ⟨rfl, hb⟩; have HO_n := Lib.hid (HO_r.out.below hb); have HBQ_n := Lib.hid (HBQ_r.out.trans (hb.mono HBQ_r.out.size)); have HSZ_n := Lib.hid (Nat.le_trans HSZ_r.out hb.size); have HRD_n := Lib.hid (HRD.out.below hb HSZ_r.out); have HAT_n := Lib.hid (HAT_r.out.below hb); obtain ⟨A8, c8, w8, hrun, ho8, _, _, hb8⟩ := run_appT (P := Tryz.prog) (w := w41) w6.heap.size 38 38 28 Tryz.underlying38 batInfo HO_n.out (x := (⟨ba, la, fr, ep, pi, ge, se, true, 0, rs⟩, AR, nR, cR)) (lead_rd9 HRD_n.out HSZ_n.out hcR hnR HFI.out (fun g hg => (OwnT.lt HO_n.out g hg).1)) (by omega) HSZ_n.out; dsimp only [batC] at hrun; have HO8 := Lib.hid ho8; have HB8 := Lib.hid hb8; clear ho8 hb8; clear d0 d1 d2 d3 d4 d5 d6 d7 d8 d9; have d0 : w41.cell? ⟨b, o + j * 10, none⟩ = some (.int .i64 ba) := HAT_n.out.2 0 _ rfl; have d1 : w41.cell? ⟨b, o + j * 10 + 1, none⟩ = some (.int .i64 la) := HAT_n.out.2 1 _ rfl; have d2 : w41.cell? ⟨b, o + j * 10 + 2, none⟩ = some (.int .i64 fr) := HAT_n.out.2 2 _ rfl; have d3 : w41.cell? ⟨b, o + j * 10 + 3, none⟩ = some (.int .i64 ep) := HAT_n.out.2 3 _ rfl; have d4 : w41.cell? ⟨b, o + j * 10 + 4, none⟩ = some (.int .i64 pi) := HAT_n.out.2 4 _ rfl; have d5 : w41.cell? ⟨b, o + j * 10 + 5, none⟩ = some (.int .i64 ge) := HAT_n.out.2 5 _ rfl; have d6 : w41.cell? ⟨b, o + j * 10 + 6, none⟩ = some (.int .i64 se) := HAT_n.out.2 6 _ rfl; have d7 : w41.cell? ⟨b, o + j * 10 + 7, none⟩ = some (.bool true) := HAT_n.out.2 7 _ rfl; have d8 : w41.cell? ⟨b, o + j * 10 + 8, none⟩ = some (.int .i64 0) := HAT_n.out.2 8 _ rfl; have d9 : w41.cell? ⟨b, o + j * 10 + 9, none⟩ = some (.slice AR nR cR) := HAT_n.out.2 9 _ rfl; have HB_41 := Lib.hid (bel_trans HB_r.out hb); have HL_41 := Lib.hid (rdlUp9 HL_r.out hb); have HT_41 := Lib.hid (rdtUp9 HT_r.out hb); have HRu_41 := Lib.hid (HRu_r.out.below hb); have HU_41 := Lib.hid (HU_r.out.below hb); clear hb)))
            go_roundw
            case rel => exact ⟨j + 1, A8, n4 + 1, c8, by go_num, by omega, rfl, by rw [filt_yes9 HXK.out HYES.out]; exact HO8.out, HBQ_n.out.trans HB8.out⟩
            case measure => simp [intOf]; omega
          · have HNO := Lib.hid (show isSh u.gone tt ⟨ba, la, fr, ep, pi, ge, se, true, 0, rs⟩ = false from by have h9 := HWS.out; rw [HUU.out, HTO.out] at h9; rw [h9]; simp only [HZN.out]; rw [decide_eq_false hz1]; simp)
            have hzq : (z == 1) = false := beq_eq_false_iff_ne.2 hz1
            clear hz1
            go_wp2_with (first
              | (go_at_call 34; have HLK := Lib.hid (next_is (some ⟨b, o, none⟩) n c j bs ⟨ba, la, fr, ep, pi, ge, se, true, 0, rs⟩ wr HT_r.out hn9 HXK.out HZN.out); (with_reducible refine HLK.out.mono ?_); go_loud (clear HLK; rintro e w41 ⟨rfl, hb⟩; have HO_n := Lib.hid (HO_r.out.below hb); have HBQ_n := Lib.hid (HBQ_r.out.trans (hb.mono HBQ_r.out.size)); have HSZ_n := Lib.hid (Nat.le_trans HSZ_r.out hb.size); have HRD_n := Lib.hid (HRD.out.below hb HSZ_r.out); have HAT_n := Lib.hid (HAT_r.out.below hb); clear d0 d1 d2 d3 d4 d5 d6 d7 d8 d9; have d0 : w41.cell? ⟨b, o + j * 10, none⟩ = some (.int .i64 ba) := HAT_n.out.2 0 _ rfl; have d1 : w41.cell? ⟨b, o + j * 10 + 1, none⟩ = some (.int .i64 la) := HAT_n.out.2 1 _ rfl; have d2 : w41.cell? ⟨b, o + j * 10 + 2, none⟩ = some (.int .i64 fr) := HAT_n.out.2 2 _ rfl; have d3 : w41.cell? ⟨b, o + j * 10 + 3, none⟩ = some (.int .i64 ep) := HAT_n.out.2 3 _ rfl; have d4 : w41.cell? ⟨b, o + j * 10 + 4, none⟩ = some (.int .i64 pi) := HAT_n.out.2 4 _ rfl; have d5 : w41.cell? ⟨b, o + j * 10 + 5, none⟩ = some (.int .i64 ge) := HAT_n.out.2 5 _ rfl; have d6 : w41.cell? ⟨b, o + j * 10 + 6, none⟩ = some (.int .i64 se) := HAT_n.out.2 6 _ rfl; have d7 : w41.cell? ⟨b, o + j * 10 + 7, none⟩ = some (.bool true) := HAT_n.out.2 7 _ rfl; have d8 : w41.cell? ⟨b, o + j * 10 + 8, none⟩ = some (.int .i64 0) := HAT_n.out.2 8 _ rfl; have d9 : w41.cell? ⟨b, o + j * 10 + 9, none⟩ = some (.slice AR nR cR) := HAT_n.out.2 9 _ rfl; have HB_41 := Lib.hid (bel_trans HB_r.out hb); have HL_41 := Lib.hid (rdlUp9 HL_r.out hb); have HT_41 := Lib.hid (rdtUp9 HT_r.out hb); have HRu_41 := Lib.hid (HRu_r.out.below hb); have HU_41 := Lib.hid (HU_r.out.below hb); clear hb)))
            go_roundw
            case rel => exact ⟨j + 1, A4, n4, c4, by go_num, by omega, rfl, by rw [filt_no9 HXK.out HNO.out]; exact HO_n.out, HBQ_n.out⟩
            case measure => simp [intOf]; omega
      · obtain rfl : j = n := by omega
        have HWT_r := Lib.hid (show Bat.RdT wr wr.heap.size A4 n4 (shwB bs u.gone tt) from by have h9 := HO_r.out.rd; rw [List.take_of_length_le (by omega)] at h9; exact h9)
        have HWL := Lib.hid HWT_r.out.len
        have HCK := Lib.hid (show ceT u = 0 from by unfold ceT; rw [if_pos (by rw [← HUU.out]; exact of_ck _)])
        obtain ⟨hur_0, hur_1, hur_2⟩ := cel3 HU_r.out
        have hn4f := Lib.hid (show n4 ≤ 60 from by have h2 := HWL.out; have h1 : (shwB bs u.gone tt).length ≤ bs.length := List.length_filter_le _ _; omega)
        go_wp2_with (first
          | (go_at_call 24; have HLK := Lib.hid (Seg.SameAll_is A9 A4 n9 c9 n4 c4 (shwB bs u.gone tt) (shwB bs u.gone tt) w52 HSH_52.out HWT_52.out (by have h1 := HSL.out; have h2 := HWL.out; have h3 := hn4f.out; omega) (by have h3 := hn4f.out; omega) (Seg.eqT_self _)); (with_reducible refine HLK.out.mono ?_); go_loud (clear HLK; rintro e w53 ⟨rfl, hb⟩; have HB_53 := Lib.hid (bel_trans HB_52.out hb); have HL_53 := Lib.hid (rdlUp9 HL_52.out hb); have HT_53 := Lib.hid (rdtUp9 HT_52.out hb); have HRu_53 := Lib.hid (HRu_52.out.below hb); have HU_53 := Lib.hid (HU_52.out.below hb); have HWT_53 := Lib.hid (rdtUp9 HWT_52.out hb); have HSH_53 := Lib.hid (rdtUp9 HSH_52.out hb); clear hb))
          | (go_at_call 25; have HLK := Lib.hid (show_is A j c bs Aug nug cug u.gone tt w51 HT_51.out (by omega) HRu_51.out.gone (by omega) (Z := shwB bs u.gone tt) rfl); (with_reducible refine HLK.out.mono ?_); go_loud (clear HLK; rintro e w52 ⟨A9, n9, c9, rfl, hcs, ho, hb⟩; have hr9 := OwnT.rd ho; have HSL := Lib.hid hr9.len; have HB_52 := Lib.hid (bel_trans HB_51.out hb); have HL_52 := Lib.hid (rdlUp9 HL_51.out hb); have HT_52 := Lib.hid (rdtUp9 HT_51.out hb); have HRu_52 := Lib.hid (HRu_51.out.below hb); have HU_52 := Lib.hid (HU_51.out.below hb); have HWT_52 := Lib.hid (rdtUp9 HWT_51.out hb); have HSH_52 := Lib.hid hr9; clear hcs ho hr9; clear hb hu51_0 hu51_1 hu51_2))
          | (go_at_call 17; have HLK := Lib.hid (dCheckT_is Au nu cu Aug nug cug Aud nud cud u wr HRu_r.out ⟨Nat.le_trans hnu.1 (by decide), Nat.le_trans hnu.2.1 (by decide), Nat.le_trans hnu.2.2 (by decide)⟩ HCK.out); (with_reducible refine HLK.out.mono ?_); go_loud (clear HLK; rintro e w51 ⟨rfl, hb⟩; have HB_51 := Lib.hid (bel_trans HB_r.out hb); have HL_51 := Lib.hid (rdlUp9 HL_r.out hb); have HT_51 := Lib.hid (rdtUp9 HT_r.out hb); have HRu_51 := Lib.hid (HRu_r.out.below hb); have HU_51 := Lib.hid (HU_r.out.below hb); have HWT_51 := Lib.hid (rdtUp9 HWT_r.out hb); clear hb hur_0 hur_1 hur_2; obtain ⟨hu51_0, hu51_1, hu51_2⟩ := cel3 HU_51.out)))
        go_ret
        exact ⟨rfl, HB_53.out⟩
end Go.Proofs.YtlfbagkonckffaaGreat.Txn

namespace Go.Proofs.YtlfbagkonckffaaGreat.txnsWhole
open Go.ChangeShapes Go.WideShapes Go.ChangeAt Go.RowKit

theorem own : ownKnob Tryz.prog.godebug = none := by kernel_rfl
theorem laidOut : laidOutB Tryz.prog = true := by kernel_rfl

set_option maxRecDepth 100000 in
theorem lifted (os : Os) (started : os.Started) (H : Type) (enc : TypeId × Value → H) :
    ReturnsInHanded {} Tryz.checked os 5 .any (Rows.txnsWholeSpec.pre6 enc Tryz.prog Tryz.f5 Rows.txnsWholeRow.domain false) (Rows.txnsWholeSpec.post enc Tryz.prog Tryz.f5 false true false false) := by
  refine returnsInHanded_of_change_sized (C := Tryz.checked) own started (by kernel_rfl) Tryz.func5
    (ChangeSpec.witness6 (enc := enc) (C := Tryz.checked) false ⟨#[], #[.slice none 0 0, .int .i64 0], []⟩ 8 (by kernel_rfl) (by kernel_rfl) (by kernel_rfl) (by kernel_rfl)) ?_
  intro W base args ds gs before hval0 hW _ hwt _
  have hval : ∀ (j : Nat) t v, Tryz.f5.params[j]? = some t → args[j]? = some v → Value.okWide Tryz.prog W .any base t v := hval0
  have hW' := hW
  obtain ⟨p, q, hA0, hV, rfl, hfz, hnd⟩ := hW
  have hA : DataW.TrodAll enc Tryz.prog W 0 (fun _ => true) true Tryz.f5.params.toList args.toList ds p := hA0
  rw [Tryz.params5] at hA hval
  obtain ⟨v0, vs0, d0, ds0, p0, q0, hargs, rfl, rfl, h0, r0⟩ := trodAll_cons hA
  obtain ⟨v1, vs1, d1, ds1, p1, q1, rfl, rfl, rfl, h1, r1⟩ := trodAll_cons r0
  obtain ⟨rfl, rfl, rfl⟩ := trodAll_nil r1
  obtain rfl : args = #[v0, v1] := by cases args; simp_all
  obtain ⟨rfl, rfl⟩ := trodVars_none hV
  have k0 := h0
  have lt0 : ∀ x ∈ p0, x.block < W.heap.size := by obtain ⟨m, hm⟩ := k0; exact DataW.trod_lt m _ _ _ hm
  obtain ⟨A_0, n_0, c_0, l_0, rfl, hc_0, hk_0, hR_0⟩ := Bat.open_batches (hval 0 38 v0 rfl rfl) h0 (Bat.weights_arg (j := 0) hwt (by kernel_rfl) rfl)
  have k1 := h1
  have lt1 : ∀ x ∈ p1, x.block < W.heap.size := by obtain ⟨m, hm⟩ := k1; exact DataW.trod_lt m _ _ _ hm
  obtain ⟨a1, rfl, hi1⟩ := Oct.open_i64 Tryz.underlying3 (hval 1 3 v1 rfl rfl) h1
  clear hA0 hval0
  refine (Txn.txnsWhole_walk A_0 n_0 c_0 l_0 a1 W hc_0 hk_0 hR_0 hi1).mono fun e W' ⟨he, bel⟩ => ?_
  subst he
  exact ⟨_, rfl, _, _, _, [], _, [], hW', trodAll_mk1 (shut_bool Tryz.underlying4 _), (trodAll_cons_mk (Below.trod laidOut (by kernel_rfl) (of_decide_eq_true (by kernel_rfl)) k0 bel lt0) (trodAll_cons_mk (Below.trod laidOut (by kernel_rfl) (of_decide_eq_true (by kernel_rfl)) k1 bel lt1) trodAll_mk0)), rfl, bel.frame _, fun h => by cases h⟩

theorem over : Rows.txnsWholeRow.holds Tryz.pinned (OpenSpec.ofChange Rows.txnsWholeSpec) :=
  OpenClaim.holds_of_wide 5 Tryz.f5 rfl rfl rfl rfl rfl rfl rfl ⟨rfl, rfl, rfl, rfl, rfl⟩ rfl rfl rfl rfl rfl (by kernel_rfl) Tryz.func5 (by kernel_rfl)
    (of_decide_eq_true (by kernel_rfl)) (by unfold Func.isWrapper; first | (rw [if_pos (by decide +kernel)]; kernel_rfl) | (rw [if_neg (by decide +kernel)]; exact ⟨rfl, rfl⟩))
    (fun os started H enc _ => lifted os started H enc)

theorem proved : Rows.TxnsWholeSaid :=
  over
#print axioms proved
end Go.Proofs.YtlfbagkonckffaaGreat.txnsWhole
