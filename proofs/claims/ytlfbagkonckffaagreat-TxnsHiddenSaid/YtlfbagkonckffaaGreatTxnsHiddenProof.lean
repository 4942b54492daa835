/- What is hidden from a reader is enough for it, whatever the batches and the offsets; no condition.
-/
import Derived.Test.YtlfbagkonckffaaGreatJ48
import Derived.Test.YtlfbagkonckffaaGreatJ34
import Derived.Test.YtlfbagkonckffaaGreatJ40
import Derived.Test.YtlfbagkonckffaaGreatJ44
import Derived.Test.YtlfbagkonckffaaGreatJ29
import Derived.Test.YtlfbagkonckffaaGreatJ33
import Derived.Test.YtlfbagkonckffaaGreatJ49
import Derived.Deep.DeepCutAuto
import Derived.Test.YtlfbagkonckffaaGreatRows
import Derived.WalkKit
import Derived.ProofKit
import Derived.OpenShut
import Derived.ChangeOld
import Derived.Below
import Derived.Carry
import Derived.Test.YtlfbagkonckffaaGreatJ06
import Derived.Test.YtlfbagkonckffaaGreatJ08
import Derived.SizedLaws
/- The walk of TxnsHidden. -/
namespace Go.Proofs.YtlfbagkonckffaaGreat.Txn
open Go.RowKit Oct Rec RowF Lay InR Bat
open Epo (At0 AtO belA cel2)
open Sqs (at0_set9)

set_option maxRecDepth 100000 in
set_option maxHeartbeats 16000000 in
theorem txnsHidden_walk (A : Option Addr) (n c : Nat) (bs : List Bt) (fr tt : Int) (w : World) (hc : n ≤ c) (hk : c ≤ reach) (hR : RdL w w.heap.size A n bs) (_hi : I64 fr) (_hj : I64 tt) :
    Calls Tryz.prog 10 #[.slice A n c, .int .i64 fr, .int .i64 tt] w fun e w' => e = .returned (.bool true) ∧ Below w.heap.size w w' := by
  have hmx : Tryz.prog.follows .mixedOrders = true := by kernel_rfl
  have hn9 : n ≤ reach := Nat.le_trans hc hk
  have HB_0 := Lib.hid (Below.refl w.heap.size w)
  have HL_0 := Lib.hid hR
  clear hR hk
  cases hz : (bs.all fewT && decide ((bs.length : Int) ≤ 60)) with
  | false =>
    have HZ := Lib.hid hz
    clear hz
    go_enter Tryz.func10, Tryz.ntmps10
    go_wp2_with (first
      | (go_at_call 12; have HLK := Lib.hid (live12_any w); (with_reducible refine HLK.out.mono ?_); go_loud (clear HLK; rintro e w1 ⟨rfl, hb⟩; have HB_1 := Lib.hid (bel_trans HB_0.out hb); have HL_1 := Lib.hid (rdlUp9 HL_0.out hb); clear hb))
      | (go_at_call 20; have HLK := Lib.hid (few12_is bs A n c w1 HL_1.out (by omega) HZ.out); (with_reducible refine HLK.out.mono ?_); go_loud (clear HLK; rintro e w2 ⟨rfl, hb⟩; have HB_2 := Lib.hid (bel_trans HB_1.out hb); have HL_2 := Lib.hid (rdlUp9 HL_1.out hb); clear hb)))
    go_ret
    exact ⟨rfl, HB_2.out⟩
  | true =>
    have HZ := Lib.hid hz
    rw [Bool.and_eq_true, decide_eq_true_eq] at hz
    have HT_0 := Lib.hid (rdT_of HL_0.out hz.1)
    have hln := HT_0.out.len
    have hn60 : n ≤ 60 := by have := hz.2; omega
    clear hz
    cases hri : risB (-1) bs with
    | false =>
      have HRI := Lib.hid hri
      clear hri
      go_enter Tryz.func10, Tryz.ntmps10
      go_wp2_with (first
        | (go_at_call 12; have HLK := Lib.hid (live12_any w); (with_reducible refine HLK.out.mono ?_); go_loud (clear HLK; rintro e w1 ⟨rfl, hb⟩; have HB_1 := Lib.hid (bel_trans HB_0.out hb); have HL_1 := Lib.hid (rdlUp9 HL_0.out hb); have HT_1 := Lib.hid (rdtUp9 HT_0.out hb); clear hb))
        | (go_at_call 20; have HLK := Lib.hid (few12_is bs A n c w1 HL_1.out (by omega) HZ.out); (with_reducible refine HLK.out.mono ?_); go_loud (clear HLK; rintro e w2 ⟨rfl, hb⟩; have HB_2 := Lib.hid (bel_trans HB_1.out hb); have HL_2 := Lib.hid (rdlUp9 HL_1.out hb); have HT_2 := Lib.hid (rdtUp9 HT_1.out hb); clear hb))
        | (go_at_call 33; have HLK := Lib.hid (rRising_is A n c bs w2 HT_2.out hn9 HRI.out); (with_reducible refine HLK.out.mono ?_); go_loud (clear HLK; rintro e w3 ⟨rfl, hb⟩; have HB_3 := Lib.hid (bel_trans HB_2.out hb); have HL_3 := Lib.hid (rdlUp9 HL_2.out hb); have HT_3 := Lib.hid (rdtUp9 HT_2.out hb); clear hb)))
      go_ret
      exact ⟨rfl, HB_3.out⟩
    | true =>
    have HRI := Lib.hid hri
    clear hri
    have hA9 : n ≤ 1000 := by omega
    obtain ⟨u, hu⟩ : ∃ u, ofT bs = u := ⟨_, rfl⟩
    have HUU := Lib.hid hu
    have hul := of_len bs
    rw [hu] at hul
    clear hu
    obtain ⟨L, hL⟩ : ∃ L, bs.filter (fun b : Bt => decide (fr ≤ b.base)) = L := ⟨_, rfl⟩
    have HSAME := Lib.hid (show shwB L (hidG u.gone fr tt) tt = shwB L u.gone tt ∧ shwB L (frmG u.gone fr) tt = shwB L u.gone tt from by
      have h1 : ∀ b ∈ L, b.base ≤ b.last ∧ fr ≤ b.base := fun b hb => by
        rw [← hL, List.mem_filter] at hb
        exact ⟨(form_of (ris_mem HRI.out b hb.1).1).1.2.2.1, by simpa using hb.2⟩
      exact ⟨shown_same fun b hb => (hidden_enough (h1 b hb).1 (h1 b hb).2).1, shown_same fun b hb => (hidden_enough (h1 b hb).1 (h1 b hb).2).2⟩)
    have HLL := Lib.hid hL
    clear hL
    go_enter Tryz.func10, Tryz.ntmps10
    go_upto_region 4 with (first
      | (go_at_call 33; have HLK := Lib.hid (rRising_is A n c bs w2 HT_2.out hn9 HRI.out); (with_reducible refine HLK.out.mono ?_); go_loud (clear HLK; rintro e w3 ⟨rfl, hb⟩; have HB_3 := Lib.hid (bel_trans HB_2.out hb); have HL_3 := Lib.hid (rdlUp9 HL_2.out hb); have HT_3 := Lib.hid (rdtUp9 HT_2.out hb); clear hb))
      | (go_at_call 20; have HLK := Lib.hid (few12_is bs A n c w1 HL_1.out (by omega) HZ.out); (with_reducible refine HLK.out.mono ?_); go_loud (clear HLK; rintro e w2 ⟨rfl, hb⟩; have HB_2 := Lib.hid (bel_trans HB_1.out hb); have HL_2 := Lib.hid (rdlUp9 HL_1.out hb); have HT_2 := Lib.hid (rdtUp9 HT_1.out hb); clear hb))
      | (go_at_call 12; have HLK := Lib.hid (live12_any w); (with_reducible refine HLK.out.mono ?_); go_loud (clear HLK; rintro e w1 ⟨rfl, hb⟩; have HB_1 := Lib.hid (bel_trans HB_0.out hb); have HL_1 := Lib.hid (rdlUp9 HL_0.out hb); have HT_1 := Lib.hid (rdtUp9 HT_0.out hb); clear hb)))
    go_wp2
    go_loopw [8, 9] (fun cv iv wr => gaRel n bs (fun b : Bt => decide (fr ≤ b.base)) w3 cv iv wr) (fun _ iv _ => n - (intOf iv).toNat)
    case atStart => exact ⟨0, none, 0, 0, rfl, Nat.zero_le _, rfl, OwnT.nil, Below.refl _ _⟩
    case round =>
      obtain ⟨j, A4, n4, c4, rfl, hj, rfl, ho, hb⟩ := hrel
      have HO_r := Lib.hid ho
      have HBQ_r := Lib.hid hb
      have HTQ_r := Lib.hid (HT_3.out.below hb (Nat.le_refl _))
      have HSZ_r := Lib.hid hb.size
      have HB_r := Lib.hid (bel_trans HB_3.out hb)
      have HL_r := Lib.hid (rdlUp9 HL_3.out hb)
      have HT_r := Lib.hid (rdtUp9 HT_3.out hb)
      clear ho hb
      by_cases hlt : j < n
      · obtain ⟨b, o, ⟨ba, la, fm, ep, pi, ge, se, tx, ct, rs⟩, AR, nR, cR, hA, hbl, hxk, hcR, hnR, hrd, hfit, hcell⟩ := HTQ_r.out.at hlt
        subst hA
        have HXK := Lib.hid hxk
        have HCH := Lib.hid (ris_mem HRI.out _ (List.mem_of_getElem? hxk)).1
        have hbr : b < wr.heap.size := Nat.lt_of_lt_of_le hbl HSZ_r.out
        have HRD := Lib.hid hrd
        have HFI := Lib.hid hfit
        have hat : AtO wr b (o + j * 10) [.int .i64 ba, .int .i64 la, .int .i64 fm, .int .i64 ep, .int .i64 pi, .int .i64 ge, .int .i64 se, .bool tx, .int .i64 ct, .slice AR nR cR] := ⟨hbr, hcell⟩
        have HAT_r := Lib.hid hat
        have hw5 : IntKind.i64.wrap ((j : Int) + 1) = (j : Int) + 1 := IntWalk.i64_in _ (by omega)
        have hjl : (j : Int) < (n : Int) := by omega
        have hj0 : (0 : Int) ≤ (j : Int) := by omega
        have hn4 : n4 ≤ 60 := by
          have h1 := HO_r.out.len
          have h2 := List.length_filter_le (fun b : Bt => decide (fr ≤ b.base)) (bs.take j)
          rw [List.length_take] at h2
          omega
        have d0 : wr.cell? ⟨b, o + j * 10, none⟩ = some (.int .i64 ba) := hcell 0 _ rfl
        have d1 : wr.cell? ⟨b, o + j * 10 + 1, none⟩ = some (.int .i64 la) := hcell 1 _ rfl
        have d2 : wr.cell? ⟨b, o + j * 10 + 2, none⟩ = some (.int .i64 fm) := hcell 2 _ rfl
        have d3 : wr.cell? ⟨b, o + j * 10 + 3, none⟩ = some (.int .i64 ep) := hcell 3 _ rfl
        have d4 : wr.cell? ⟨b, o + j * 10 + 4, none⟩ = some (.int .i64 pi) := hcell 4 _ rfl
        have d5 : wr.cell? ⟨b, o + j * 10 + 5, none⟩ = some (.int .i64 ge) := hcell 5 _ rfl
        have d6 : wr.cell? ⟨b, o + j * 10 + 6, none⟩ = some (.int .i64 se) := hcell 6 _ rfl
        have d7 : wr.cell? ⟨b, o + j * 10 + 7, none⟩ = some (.bool tx) := hcell 7 _ rfl
        have d8 : wr.cell? ⟨b, o + j * 10 + 8, none⟩ = some (.int .i64 ct) := hcell 8 _ rfl
        have d9 : wr.cell? ⟨b, o + j * 10 + 9, none⟩ = some (.slice AR nR cR) := hcell 9 _ rfl
        clear hxk hrd hfit hcell hbl hat
        by_cases hfr : fr ≤ ba
        · have HYES := Lib.hid (show (fun b : Bt => decide (fr ≤ b.base)) ⟨ba, la, fm, ep, pi, ge, se, tx, ct, rs⟩ = true from decide_eq_true hfr)
          go_wp2_with (first
            | (at_builtin; refine wpList_app_run rfl _ _ 38 rfl rfl rfl hrun ?_)
            | (go_at_call 36; have HLK := Lib.hid (BCheck0_is ba la fm ep pi ge se tx ct rs AR nR cR wr HFI.out (HRD.out.more HSZ_r.out) hnR HCH.out); (with_reducible refine HLK.out.mono ?_); go_loud (clear HLK; rintro e w41 ⟨rfl, hb⟩; have HO_n := Lib.hid (HO_r.out.below hb); have HBQ_n := Lib.hid (HBQ_r.out.trans (hb.mono HBQ_r.out.size)); have HSZ_n := Lib.hid (Nat.le_trans HSZ_r.out hb.size); have HRD_n := Lib.hid (HRD.out.below hb HSZ_r.out); have HAT_n := Lib.hid (HAT_r.out.below hb); obtain ⟨A8, c8, w8, hrun, ho8, _, _, hb8⟩ := run_appT (P := Tryz.prog) (w := w41) w3.heap.size 38 38 28 Tryz.underlying38 batInfo HO_n.out (x := (⟨ba, la, fm, ep, pi, ge, se, tx, ct, rs⟩, AR, nR, cR)) (lead_rd9 HRD_n.out HSZ_n.out hcR hnR HFI.out (fun g hg => (OwnT.lt HO_n.out g hg).1)) (by omega) HSZ_n.out; dsimp only [batC] at hrun; have HO8 := Lib.hid ho8; have HB8 := Lib.hid hb8; clear ho8 hb8; clear d0 d1 d2 d3 d4 d5 d6 d7 d8 d9; have d0 : w41.cell? ⟨b, o + j * 10, none⟩ = some (.int .i64 ba) := HAT_n.out.2 0 _ rfl; have d1 : w41.cell? ⟨b, o + j * 10 + 1, none⟩ = some (.int .i64 la) := HAT_n.out.2 1 _ rfl; have d2 : w41.cell? ⟨b, o + j * 10 + 2, none⟩ = some (.int .i64 fm) := HAT_n.out.2 2 _ rfl; have d3 : w41.cell? ⟨b, o + j * 10 + 3, none⟩ = some (.int .i64 ep) := HAT_n.out.2 3 _ rfl; have d4 : w41.cell? ⟨b, o + j * 10 + 4, none⟩ = some (.int .i64 pi) := HAT_n.out.2 4 _ rfl; have d5 : w41.cell? ⟨b, o + j * 10 + 5, none⟩ = some (.int .i64 ge) := HAT_n.out.2 5 _ rfl; have d6 : w41.cell? ⟨b, o + j * 10 + 6, none⟩ = some (.int .i64 se) := HAT_n.out.2 6 _ rfl; have d7 : w41.cell? ⟨b, o + j * 10 + 7, none⟩ = some (.bool tx) := HAT_n.out.2 7 _ rfl; have d8 : w41.cell? ⟨b, o + j * 10 + 8, none⟩ = some (.int .i64 ct) := HAT_n.out.2 8 _ rfl; have d9 : w41.cell? ⟨b, o + j * 10 + 9, none⟩ = some (.slice AR nR cR) := HAT_n.out.2 9 _ rfl; have HB_41 := Lib.hid (bel_trans HB_r.out hb); have HL_41 := Lib.hid (rdlUp9 HL_r.out hb); have HT_41 := Lib.hid (rdtUp9 HT_r.out hb); clear hb)))
          go_roundw
          case rel => exact ⟨j + 1, A8, n4 + 1, c8, by go_num, by omega, rfl, by rw [filt_yes9 HXK.out HYES.out]; exact HO8.out, HBQ_n.out.trans HB8.out⟩
          case measure => simp [intOf]; omega
        · have HNO := Lib.hid (show (fun b : Bt => decide (fr ≤ b.base)) ⟨ba, la, fm, ep, pi, ge, se, tx, ct, rs⟩ = false from decide_eq_false hfr)
          go_wp2
          go_roundw
          case rel => exact ⟨j + 1, A4, n4, c4, by go_num, by omega, rfl, by rw [filt_no9 HXK.out HNO.out]; exact HO_r.out, HBQ_r.out⟩
          case measure => simp [intOf]; omega
      · obtain rfl : j = n := by omega
        have HLR_r := Lib.hid (show Bat.RdT wr wr.heap.size A4 n4 L from by have h9 := HO_r.out.rd; rw [List.take_of_length_le (by omega), HLL.out] at h9; exact h9)
        have hn4f : n4 ≤ 60 := by
          have h1 := HLR_r.out.len
          have h2 : L.length ≤ bs.length := by rw [← HLL.out]; exact List.length_filter_le _ _
          omega
        have hshl : (shwB L u.gone tt).length ≤ 60 := by
          have h1 := HLR_r.out.len
          have h2 : (shwB L u.gone tt).length ≤ L.length := List.length_filter_le _ _
          omega
        go_upto_region 11 with (first
          | (go_at_call 31; have HLK := Lib.hid (ofR_is A j c bs wr HT_r.out hA9 HUU.out); (with_reducible refine HLK.out.mono ?_); go_loud (clear HLK; rintro e w61 ⟨Au, nu, cu, Aug, nug, cug, Aud, nud, cud, rfl, ho, hb⟩; have HB_61 := Lib.hid (bel_trans HB_r.out hb); have HL_61 := Lib.hid (rdlUp9 HL_r.out hb); have HT_61 := Lib.hid (rdtUp9 HT_r.out hb); have HLR_61 := Lib.hid (rdtUp9 HLR_r.out hb); have HRu_61 := Lib.hid ho.rd; have HLu := Lib.hid ho.len; clear ho; clear hb)))
        have hba := belA w61 (.cells #[.slice Au nu cu, .slice Aug nug cug, .slice Aud nud cud] 25)
        have HB_62 := Lib.hid (bel_trans HB_61.out hba)
        have HL_62 := Lib.hid (rdlUp9 HL_61.out hba)
        have HT_62 := Lib.hid (rdtUp9 HT_61.out hba)
        have HLR_62 := Lib.hid (rdtUp9 HLR_61.out hba)
        have HRu_62 := Lib.hid (HRu_61.out.below hba)
        have HU_62 := Lib.hid (At0.new w61 [.slice Au nu cu, .slice Aug nug cug, .slice Aud nud cud] 25)
        clear hba
        generalize (w61.alloc (.cells #[.slice Au nu cu, .slice Aug nug cug, .slice Aud nud cud] 25)) = w62 at *
        obtain ⟨pu, hpu⟩ : ∃ pu, w61.heap.size = pu := ⟨_, rfl⟩
        rw [hpu] at HU_62
        simp only [hpu]
        clear hpu
        have hnu : nu ≤ 60 ∧ nug ≤ 60 ∧ nud ≤ 60 := by have := HLu.out; omega
        obtain ⟨hu62_0, hu62_1, hu62_2⟩ := cel3 HU_62.out
        go_upto_region 12 with (first
          | (go_at_call 25; have HLK := Lib.hid (show_is A4 n4 c4 L Aug nug cug u.gone tt w62 HLR_62.out (by omega) HRu_62.out.gone (by omega) (Z := shwB L u.gone tt) rfl); (with_reducible refine HLK.out.mono ?_); go_loud (clear HLK; rintro e w63 ⟨Aa, na, ca, rfl, hcs, ho, hb⟩; have hr9 := OwnT.rd ho; have HaL := Lib.hid hr9.len; have HB_63 := Lib.hid (bel_trans HB_62.out hb); have HL_63 := Lib.hid (rdlUp9 HL_62.out hb); have HT_63 := Lib.hid (rdtUp9 HT_62.out hb); have HLR_63 := Lib.hid (rdtUp9 HLR_62.out hb); have HRu_63 := Lib.hid (HRu_62.out.below hb); have HU_63 := Lib.hid (HU_62.out.below hb); have Ha_63 := Lib.hid hr9; clear hcs ho hr9; clear hb hu62_0 hu62_1 hu62_2; obtain ⟨hu63_0, hu63_1, hu63_2⟩ := cel3 HU_63.out)))
        have hhl : (hidG u.gone fr tt).length ≤ 60 := by have h1 : (hidG u.gone fr tt).length ≤ u.gone.length := List.length_filter_le _ _; have := HLu.out; omega
        have htl : (frmG u.gone fr).length ≤ 60 := by have h1 : (frmG u.gone fr).length ≤ u.gone.length := List.length_filter_le _ _; have := HLu.out; omega
        go_upto_region 13 with (first
          | (go_at_call 25; have HLK := Lib.hid (show_is A4 n4 c4 L Ah nh ch (hidG u.gone fr tt) tt w64 HLR_64.out (by omega) HH_64.out (by have := HHL.out; omega) (Z := shwB L u.gone tt) HSAME.out.1); (with_reducible refine HLK.out.mono ?_); go_loud (clear HLK; rintro e w65 ⟨Ae, ne, ce, rfl, hcs, ho, hb⟩; have hr9 := OwnT.rd ho; have HeL := Lib.hid hr9.len; have HB_65 := Lib.hid (bel_trans HB_64.out hb); have HL_65 := Lib.hid (rdlUp9 HL_64.out hb); have HT_65 := Lib.hid (rdtUp9 HT_64.out hb); have HLR_65 := Lib.hid (rdtUp9 HLR_64.out hb); have HRu_65 := Lib.hid (HRu_64.out.below hb); have HU_65 := Lib.hid (HU_64.out.below hb); have Ha_65 := Lib.hid (rdtUp9 Ha_64.out hb); have HH_65 := Lib.hid (rdgUp9 HH_64.out hb); have He_65 := Lib.hid hr9; clear hcs ho hr9; clear hb hu64_0 hu64_1 hu64_2; obtain ⟨hu65_0, hu65_1, hu65_2⟩ := cel3 HU_65.out))
          | (go_at_call 22; have HLK := Lib.hid (hidden_is Au nu cu Aug nug cug Aud nud cud u fr tt w63 HRu_63.out (by omega) (Z := hidG u.gone fr tt) rfl); (with_reducible refine HLK.out.mono ?_); go_loud (clear HLK; rintro e w64 ⟨Ah, nh, ch, rfl, ho, hb⟩; have HHL := Lib.hid (OwnF.len goS ho); have hr9 := OwnF.rd goS ho; have HB_64 := Lib.hid (bel_trans HB_63.out hb); have HL_64 := Lib.hid (rdlUp9 HL_63.out hb); have HT_64 := Lib.hid (rdtUp9 HT_63.out hb); have HLR_64 := Lib.hid (rdtUp9 HLR_63.out hb); have HRu_64 := Lib.hid (HRu_63.out.below hb); have HU_64 := Lib.hid (HU_63.out.below hb); have Ha_64 := Lib.hid (rdtUp9 Ha_63.out hb); have HH_64 := Lib.hid hr9; clear ho hr9; clear hb hu63_0 hu63_1 hu63_2; obtain ⟨hu64_0, hu64_1, hu64_2⟩ := cel3 HU_64.out)))
        go_upto_region 14 with (first
          | (go_at_call 25; have HLK := Lib.hid (show_is A4 n4 c4 L Ay ny cy (frmG u.gone fr) tt w66 HLR_66.out (by omega) HTR_66.out.gone (by have := HTL.out; omega) (Z := shwB L u.gone tt) HSAME.out.2); (with_reducible refine HLK.out.mono ?_); go_loud (clear HLK; rintro e w67 ⟨Av, nv, cv, rfl, hcs, ho, hb⟩; have hr9 := OwnT.rd ho; have HvL := Lib.hid hr9.len; have HB_67 := Lib.hid (bel_trans HB_66.out hb); have HL_67 := Lib.hid (rdlUp9 HL_66.out hb); have HT_67 := Lib.hid (rdtUp9 HT_66.out hb); have HLR_67 := Lib.hid (rdtUp9 HLR_66.out hb); have HRu_67 := Lib.hid (HRu_66.out.below hb); have HU_67 := Lib.hid (HU_66.out.below hb); have Ha_67 := Lib.hid (rdtUp9 Ha_66.out hb); have HH_67 := Lib.hid (rdgUp9 HH_66.out hb); have He_67 := Lib.hid (rdtUp9 He_66.out hb); have HTR_67 := Lib.hid (HTR_66.out.below hb); have Hv_67 := Lib.hid hr9; clear hcs ho hr9; clear hb; obtain ⟨hu67_0, hu67_1, hu67_2⟩ := cel3 HU_67.out))
          | (go_at_call 29; have HLK := Lib.hid (trim_is Au nu cu Aug nug cug Aud nud cud u fr w65 HRu_65.out (by omega) (by omega) (by omega) (Z := trmT u fr) rfl); (with_reducible refine HLK.out.mono ?_); go_loud (clear HLK; rintro e w66 ⟨Ax, nx, cx, Ay, ny, cy, Az, nz, cz, rfl, ho, hb⟩; have hfd := fld1 (.slice Ax nx cx) (.slice Ay ny cy) (.slice Az nz cz); have HTL := Lib.hid (show (frmG u.gone fr).length = ny from ho.len.2.1); have hr9 := ho.rd; have HB_66 := Lib.hid (bel_trans HB_65.out hb); have HL_66 := Lib.hid (rdlUp9 HL_65.out hb); have HT_66 := Lib.hid (rdtUp9 HT_65.out hb); have HLR_66 := Lib.hid (rdtUp9 HLR_65.out hb); have HRu_66 := Lib.hid (HRu_65.out.below hb); have HU_66 := Lib.hid (HU_65.out.below hb); have Ha_66 := Lib.hid (rdtUp9 Ha_65.out hb); have HH_66 := Lib.hid (rdgUp9 HH_65.out hb); have He_66 := Lib.hid (rdtUp9 He_65.out hb); have HTR_66 := Lib.hid hr9; clear ho hr9; clear hb hu65_0 hu65_1 hu65_2)))
        go_wp2_with (first
          | (go_at_call 24; have HLK := Lib.hid (Seg.SameAll_is Aa Av na ca nv cv (shwB L u.gone tt) (shwB L u.gone tt) w68 Ha_68.out Hv_68.out (by have h1 := HaL.out; omega) (by have h1 := HvL.out; omega) (Seg.eqT_self _)); (with_reducible refine HLK.out.mono ?_); go_loud (clear HLK; rintro e w69 ⟨rfl, hb⟩; have HB_69 := Lib.hid (bel_trans HB_68.out hb); have HL_69 := Lib.hid (rdlUp9 HL_68.out hb); have HT_69 := Lib.hid (rdtUp9 HT_68.out hb); have HLR_69 := Lib.hid (rdtUp9 HLR_68.out hb); have HRu_69 := Lib.hid (HRu_68.out.below hb); have HU_69 := Lib.hid (HU_68.out.below hb); have Ha_69 := Lib.hid (rdtUp9 Ha_68.out hb); have HH_69 := Lib.hid (rdgUp9 HH_68.out hb); have He_69 := Lib.hid (rdtUp9 He_68.out hb); have HTR_69 := Lib.hid (HTR_68.out.below hb); have Hv_69 := Lib.hid (rdtUp9 Hv_68.out hb); clear hb))
          | (go_at_call 24; have HLK := Lib.hid (Seg.SameAll_is Aa Ae na ca ne ce (shwB L u.gone tt) (shwB L u.gone tt) w67 Ha_67.out He_67.out (by have h1 := HaL.out; omega) (by have h1 := HeL.out; omega) (Seg.eqT_self _)); (with_reducible refine HLK.out.mono ?_); go_loud (clear HLK; rintro e w68 ⟨rfl, hb⟩; have HB_68 := Lib.hid (bel_trans HB_67.out hb); have HL_68 := Lib.hid (rdlUp9 HL_67.out hb); have HT_68 := Lib.hid (rdtUp9 HT_67.out hb); have HLR_68 := Lib.hid (rdtUp9 HLR_67.out hb); have HRu_68 := Lib.hid (HRu_67.out.below hb); have HU_68 := Lib.hid (HU_67.out.below hb); have Ha_68 := Lib.hid (rdtUp9 Ha_67.out hb); have HH_68 := Lib.hid (rdgUp9 HH_67.out hb); have He_68 := Lib.hid (rdtUp9 He_67.out hb); have HTR_68 := Lib.hid (HTR_67.out.below hb); have Hv_68 := Lib.hid (rdtUp9 Hv_67.out hb); clear hb)))
        go_ret
        exact ⟨rfl, HB_69.out⟩
end Go.Proofs.YtlfbagkonckffaaGreat.Txn

namespace Go.Proofs.YtlfbagkonckffaaGreat.txnsHidden
open Go.ChangeShapes Go.WideShapes Go.ChangeAt Go.RowKit

theorem own : ownKnob Tryz.prog.godebug = none := by kernel_rfl
theorem laidOut : laidOutB Tryz.prog = true := by kernel_rfl

set_option maxRecDepth 100000 in
theorem lifted (os : Os) (started : os.Started) (H : Type) (enc : TypeId × Value → H) :
    ReturnsInHanded {} Tryz.checked os 10 .any (Rows.txnsHiddenSpec.pre6 enc Tryz.prog Tryz.f10 Rows.txnsHiddenRow.domain false) (Rows.txnsHiddenSpec.post enc Tryz.prog Tryz.f10 false true false false) := by
  refine returnsInHanded_of_change_sized (C := Tryz.checked) own started (by kernel_rfl) Tryz.func10
    (ChangeSpec.witness6 (enc := enc) (C := Tryz.checked) false ⟨#[], #[.slice none 0 0, .int .i64 0, .int .i64 0], []⟩ 8 (by kernel_rfl) (by kernel_rfl) (by kernel_rfl) (by kernel_rfl)) ?_
  intro W base args ds gs before hval0 hW _ hwt _
  have hval : ∀ (j : Nat) t v, Tryz.f10.params[j]? = some t → args[j]? = some v → Value.okWide Tryz.prog W .any base t v := hval0
  have hW' := hW
  obtain ⟨p, q, hA0, hV, rfl, hfz, hnd⟩ := hW
  have hA : DataW.TrodAll enc Tryz.prog W 0 (fun _ => true) true Tryz.f10.params.toList args.toList ds p := hA0
  rw [Tryz.params10] at hA hval
  obtain ⟨v0, vs0, d0, ds0, p0, q0, hargs, rfl, rfl, h0, r0⟩ := trodAll_cons hA
  obtain ⟨v1, vs1, d1, ds1, p1, q1, rfl, rfl, rfl, h1, r1⟩ := trodAll_cons r0
  obtain ⟨v2, vs2, d2, ds2, p2, q2, rfl, rfl, rfl, h2, r2⟩ := trodAll_cons r1
  obtain ⟨rfl, rfl, rfl⟩ := trodAll_nil r2
  obtain rfl : args = #[v0, v1, v2] := by cases args; simp_all
  obtain ⟨rfl, rfl⟩ := trodVars_none hV
  have k0 := h0
  have lt0 : ∀ x ∈ p0, x.block < W.heap.size := by obtain ⟨m, hm⟩ := k0; exact DataW.trod_lt m _ _ _ hm
  obtain ⟨A_0, n_0, c_0, l_0, rfl, hc_0, hk_0, hR_0⟩ := Bat.open_batches (hval 0 38 v0 rfl rfl) h0 (Bat.weights_arg (j := 0) hwt (by kernel_rfl) rfl)
  have k1 := h1
  have lt1 : ∀ x ∈ p1, x.block < W.heap.size := by obtain ⟨m, hm⟩ := k1; exact DataW.trod_lt m _ _ _ hm
  obtain ⟨a1, rfl, hi1⟩ := Oct.open_i64 Tryz.underlying3 (hval 1 3 v1 rfl rfl) h1
  have k2 := h2
  have lt2 : ∀ x ∈ p2, x.block < W.heap.size := by obtain ⟨m, hm⟩ := k2; exact DataW.trod_lt m _ _ _ hm
  obtain ⟨a2, rfl, hi2⟩ := Oct.open_i64 Tryz.underlying3 (hval 2 3 v2 rfl rfl) h2
  clear hA0 hval0
  refine (Txn.txnsHidden_walk A_0 n_0 c_0 l_0 a1 a2 W hc_0 hk_0 hR_0 hi1 hi2).mono fun e W' ⟨he, bel⟩ => ?_
  subst he
  exact ⟨_, rfl, _, _, _, [], _, [], hW', trodAll_mk1 (shut_bool Tryz.underlying4 _), (trodAll_cons_mk (Below.trod laidOut (by kernel_rfl) (of_decide_eq_true (by kernel_rfl)) k0 bel lt0) (trodAll_cons_mk (Below.trod laidOut (by kernel_rfl) (of_decide_eq_true (by kernel_rfl)) k1 bel lt1) (trodAll_cons_mk (Below.trod laidOut (by kernel_rfl) (of_decide_eq_true (by kernel_rfl)) k2 bel lt2) trodAll_mk0))), rfl, bel.frame _, fun h => by cases h⟩

theorem over : Rows.txnsHiddenRow.holds Tryz.pinned (OpenSpec.ofChange Rows.txnsHiddenSpec) :=
  OpenClaim.holds_of_wide 10 Tryz.f10 rfl rfl rfl rfl rfl rfl rfl ⟨rfl, rfl, rfl, rfl, rfl⟩ rfl rfl rfl rfl rfl (by kernel_rfl) Tryz.func10 (by kernel_rfl)
    (of_decide_eq_true (by kernel_rfl)) (by unfold Func.isWrapper; first | (rw [if_pos (by decide +kernel)]; kernel_rfl) | (rw [if_neg (by decide +kernel)]; exact ⟨rfl, rfl⟩))
    (fun os started H enc _ => lifted os started H enc)

theorem proved : Rows.TxnsHiddenSaid :=
  over
#print axioms proved
end Go.Proofs.YtlfbagkonckffaaGreat.txnsHidden
