/- One batch is one step: what was known stays, one more is known at most, and what a batch makes may be, whatever the transactions and the batch; no condition.
-/
import Derived.Test.YtlfbagkonckffaaGreatJ48
import Derived.Test.YtlfbagkonckffaaGreatJ43
import Derived.Test.YtlfbagkonckffaaGreatJ30
import Derived.Test.YtlfbagkonckffaaGreatJ12
import Derived.Test.YtlfbagkonckffaaGreatJ11
import Derived.Test.YtlfbagkonckffaaGreatRows
import Derived.WalkKit
import Derived.ProofKit
import Derived.OpenShut
import Derived.ChangeOld
import Derived.Below
import Derived.Carry
import Derived.Test.YtlfbagkonckffaaGreatJ06
import Derived.Test.YtlfbagkonckffaaGreatJ09
import Derived.Test.YtlfbagkonckffaaGreatJ08
import Derived.SizedLaws
/- The walk of TxnsStep. -/
namespace Go.Proofs.YtlfbagkonckffaaGreat.Txn
open Go.RowKit Oct Rec RowF Lay InR Bat
open Epo (At0 AtO belA cel2)
open Sqs (at0_set9)

def tb_TxnsStep11 : List (Nat × Nat) := [(0, 2097151), (1, 2097150), (0, 2097151), (4, 2097147), (8, 2097143), (18, 2097133), (0, 2097151), (64, 2097087), (160, 2096991), (256, 2096895), (512, 2096639), (1536, 2095615), (512, 2096639), (4608, 2092543), (8704, 2088447), (18944, 2078207), (512, 2096639), (66048, 2031103), (164352, 1932799), (262656, 1834495), (1048575, 1572863)]
set_option maxRecDepth 100000 in
set_option maxHeartbeats 16000000 in
theorem txnsStep_walk (A : Option Addr) (n c : Nat) (A2 : Option Addr) (n2 c2 : Nat) (A3 : Option Addr) (n3 c3 : Nat) (t : Tx) (ba la fr ep pi ge se : Int) (tx : Bool) (ct : Int) (AR : Option Addr) (nR cR : Nat) (rs : List Rc) (w : World) (hx : n ≤ c ∧ c ≤ reach) (hy : n2 ≤ c2 ∧ c2 ≤ reach) (hz : n3 ≤ c3 ∧ c3 ≤ reach) (hR : RdT w A n A2 n2 A3 n3 t) (hF : FitT t) (hfn : FitN ⟨ba, la, fr, ep, pi, ge, se, tx, ct, rs⟩) (hcR : nR ≤ cR) (hkR : cR ≤ reach) (hRR : Lay.RdL w w.heap.size AR nR rs) :
    Calls Tryz.prog 6 #[.agg #[.slice A n c, .slice A2 n2 c2, .slice A3 n3 c3], .agg #[.int .i64 ba, .int .i64 la, .int .i64 fr, .int .i64 ep, .int .i64 pi, .int .i64 ge, .int .i64 se, .bool tx, .int .i64 ct, .slice AR nR cR]] w fun e w' => e = .returned (.bool true) ∧ Below w.heap.size w w' := by
  have hmx : Tryz.prog.follows .mixedOrders = true := by kernel_rfl
  have hb1 := belA w (.cells #[.slice A n c, .slice A2 n2 c2, .slice A3 n3 c3] 25)
  have hb2 := belA (w.alloc (.cells #[.slice A n c, .slice A2 n2 c2, .slice A3 n3 c3] 25)) (.cells #[.int .i64 ba, .int .i64 la, .int .i64 fr, .int .i64 ep, .int .i64 pi, .int .i64 ge, .int .i64 se, .bool tx, .int .i64 ct, .slice AR nR cR] 28)
  have hba := bel_trans hb1 hb2
  have HB_1 := Lib.hid hba
  have HRT_1 := Lib.hid (hR.below hba)
  have HRR_1 := Lib.hid (rdrUp9 (RdL_recs hRR) hba)
  have HT_1 := Lib.hid ((At0.new w [.slice A n c, .slice A2 n2 c2, .slice A3 n3 c3] 25).below hb2)
  have hn2' := At0.new (w.alloc (.cells #[.slice A n c, .slice A2 n2 c2, .slice A3 n3 c3] 25)) [.int .i64 ba, .int .i64 la, .int .i64 fr, .int .i64 ep, .int .i64 pi, .int .i64 ge, .int .i64 se, .bool tx, .int .i64 ct, .slice AR nR cR] 28
  rw [World.size_alloc] at hn2'
  have HBB_1 := Lib.hid hn2'
  have HFT := Lib.hid hF
  have HFN := Lib.hid hfn
  have HFIT := Lib.hid (RdL_fit hRR)
  have HNR := Lib.hid (Nat.le_trans hcR hkR)
  have HLN := Lib.hid (show t.op.length = n ∧ t.gone.length = n2 ∧ t.done.length = n3 from ⟨hR.op.len, hR.gone.len, hR.done.len⟩)
  have hcc : n ≤ c ∧ n2 ≤ c2 ∧ n3 ≤ c3 := ⟨hx.1, hy.1, hz.1⟩
  clear hb1 hb2 hba hn2' hR hF hfn hcR hkR hRR hx hy hz
  go_enter Tryz.func6, Tryz.ntmps6
  go_upto_region 1 with fail
  generalize hw1 : World.alloc (World.alloc w _) _ = w1
  rw [hw1] at HB_1 HRT_1 HRR_1 HT_1 HBB_1
  clear hw1
  go_upto_region 2 with (first
    | (go_at_call 12; have HLK := Lib.hid (live12_any w1); (with_reducible refine HLK.out.mono ?_); go_loud (clear HLK; rintro e w2 ⟨rfl, hb⟩; have HB_2 := Lib.hid (bel_trans HB_1.out hb); have HRT_2 := Lib.hid (HRT_1.out.below hb); have HRR_2 := Lib.hid (rdrUp9 HRR_1.out hb); have HT_2 := Lib.hid (HT_1.out.below hb); have HBB_2 := Lib.hid (HBB_1.out.below hb); clear hb; obtain ⟨ht2_0, ht2_1, ht2_2⟩ := cel3 HT_2.out; obtain ⟨hbb2_0, hbb2_1, hbb2_2, hbb2_3, hbb2_4, hbb2_5, hbb2_6, hbb2_7, hbb2_8, hbb2_9⟩ := cel10 HBB_2.out)))
  by_cases hf : n ≤ 60 ∧ n2 ≤ 60 ∧ n3 ≤ 60
  case neg =>
    have HZ := Lib.hid (decide_eq_false hf)
    clear hf
    go_wp2_with (first
      | (go_at_call 13; have HLK := Lib.hid (rFewT_is A n c A2 n2 c2 A3 n3 c3 w2 HZ.out); (with_reducible refine HLK.out.mono ?_); go_loud (clear HLK; rintro e w3 ⟨rfl, hb⟩; have HB_3 := Lib.hid (bel_trans HB_2.out hb); have HRT_3 := Lib.hid (HRT_2.out.below hb); have HRR_3 := Lib.hid (rdrUp9 HRR_2.out hb); have HT_3 := Lib.hid (HT_2.out.below hb); have HBB_3 := Lib.hid (HBB_2.out.below hb); clear hb ht2_0 ht2_1 ht2_2 hbb2_0 hbb2_1 hbb2_2 hbb2_3 hbb2_4 hbb2_5 hbb2_6 hbb2_7 hbb2_8 hbb2_9; obtain ⟨ht3_0, ht3_1, ht3_2⟩ := cel3 HT_3.out; obtain ⟨hbb3_0, hbb3_1, hbb3_2, hbb3_3, hbb3_4, hbb3_5, hbb3_6, hbb3_7, hbb3_8, hbb3_9⟩ := cel10 HBB_3.out)))
    go_ret
    exact ⟨rfl, HB_3.out⟩
  have HZ := Lib.hid (decide_eq_true hf)
  cases hfb : fewT ⟨ba, la, fr, ep, pi, ge, se, tx, ct, rs⟩ with
  | false =>
    have HZB := Lib.hid hfb
    clear hfb hf
    go_wp2_with (first
      | (go_at_call 14; have HLK := Lib.hid (refFew_is ba la fr ep pi ge se tx ct rs AR nR cR w3 HRR_3.out HFIT.out HNR.out HZB.out); (with_reducible refine HLK.out.mono ?_); go_loud (clear HLK; rintro e w4 ⟨rfl, hb⟩; have HB_4 := Lib.hid (bel_trans HB_3.out hb); have HRT_4 := Lib.hid (HRT_3.out.below hb); have HRR_4 := Lib.hid (rdrUp9 HRR_3.out hb); have HT_4 := Lib.hid (HT_3.out.below hb); have HBB_4 := Lib.hid (HBB_3.out.below hb); clear hb ht3_0 ht3_1 ht3_2 hbb3_0 hbb3_1 hbb3_2 hbb3_3 hbb3_4 hbb3_5 hbb3_6 hbb3_7 hbb3_8 hbb3_9; obtain ⟨ht4_0, ht4_1, ht4_2⟩ := cel3 HT_4.out; obtain ⟨hbb4_0, hbb4_1, hbb4_2, hbb4_3, hbb4_4, hbb4_5, hbb4_6, hbb4_7, hbb4_8, hbb4_9⟩ := cel10 HBB_4.out))
      | (go_at_call 13; have HLK := Lib.hid (rFewT_is A n c A2 n2 c2 A3 n3 c3 w2 HZ.out); (with_reducible refine HLK.out.mono ?_); go_loud (clear HLK; rintro e w3 ⟨rfl, hb⟩; have HB_3 := Lib.hid (bel_trans HB_2.out hb); have HRT_3 := Lib.hid (HRT_2.out.below hb); have HRR_3 := Lib.hid (rdrUp9 HRR_2.out hb); have HT_3 := Lib.hid (HT_2.out.below hb); have HBB_3 := Lib.hid (HBB_2.out.below hb); clear hb ht2_0 ht2_1 ht2_2 hbb2_0 hbb2_1 hbb2_2 hbb2_3 hbb2_4 hbb2_5 hbb2_6 hbb2_7 hbb2_8 hbb2_9; obtain ⟨ht3_0, ht3_1, ht3_2⟩ := cel3 HT_3.out; obtain ⟨hbb3_0, hbb3_1, hbb3_2, hbb3_3, hbb3_4, hbb3_5, hbb3_6, hbb3_7, hbb3_8, hbb3_9⟩ := cel10 HBB_3.out)))
    go_ret
    exact ⟨rfl, HB_4.out⟩
  | true =>
    have HZB := Lib.hid hfb
    have hfw := (fewT_iff hfb).1
    have hnR : nR ≤ 1099511627776 := by have h1 := HRR_1.out.len; simp only at hfw; omega
    have HFB := Lib.hid (fits_of HFN.out HFIT.out hfb)
    clear hfb hfw
    go_upto_region 4 with (first
      | (go_at_call 14; have HLK := Lib.hid (refFew_is ba la fr ep pi ge se tx ct rs AR nR cR w3 HRR_3.out HFIT.out HNR.out HZB.out); (with_reducible refine HLK.out.mono ?_); go_loud (clear HLK; rintro e w4 ⟨rfl, hb⟩; have HB_4 := Lib.hid (bel_trans HB_3.out hb); have HRT_4 := Lib.hid (HRT_3.out.below hb); have HRR_4 := Lib.hid (rdrUp9 HRR_3.out hb); have HT_4 := Lib.hid (HT_3.out.below hb); have HBB_4 := Lib.hid (HBB_3.out.below hb); clear hb ht3_0 ht3_1 ht3_2 hbb3_0 hbb3_1 hbb3_2 hbb3_3 hbb3_4 hbb3_5 hbb3_6 hbb3_7 hbb3_8 hbb3_9; obtain ⟨ht4_0, ht4_1, ht4_2⟩ := cel3 HT_4.out; obtain ⟨hbb4_0, hbb4_1, hbb4_2, hbb4_3, hbb4_4, hbb4_5, hbb4_6, hbb4_7, hbb4_8, hbb4_9⟩ := cel10 HBB_4.out))
      | (go_at_call 13; have HLK := Lib.hid (rFewT_is A n c A2 n2 c2 A3 n3 c3 w2 HZ.out); (with_reducible refine HLK.out.mono ?_); go_loud (clear HLK; rintro e w3 ⟨rfl, hb⟩; have HB_3 := Lib.hid (bel_trans HB_2.out hb); have HRT_3 := Lib.hid (HRT_2.out.below hb); have HRR_3 := Lib.hid (rdrUp9 HRR_2.out hb); have HT_3 := Lib.hid (HT_2.out.below hb); have HBB_3 := Lib.hid (HBB_2.out.below hb); clear hb ht2_0 ht2_1 ht2_2 hbb2_0 hbb2_1 hbb2_2 hbb2_3 hbb2_4 hbb2_5 hbb2_6 hbb2_7 hbb2_8 hbb2_9; obtain ⟨ht3_0, ht3_1, ht3_2⟩ := cel3 HT_3.out; obtain ⟨hbb3_0, hbb3_1, hbb3_2, hbb3_3, hbb3_4, hbb3_5, hbb3_6, hbb3_7, hbb3_8, hbb3_9⟩ := cel10 HBB_3.out)))
    obtain ⟨X, E, hP⟩ : ∃ X E, putT t ⟨ba, la, fr, ep, pi, ge, se, tx, ct, rs⟩ = (X, E) := ⟨_, _, rfl⟩
    have HPU := Lib.hid hP
    clear hP
    go_upto_region 5 with (first
      | (go_at_call 15; have HLK := Lib.hid (dPutT_is A n c A2 n2 c2 A3 n3 c3 t ba la fr ep pi ge se tx ct AR nR cR rs w4 HRT_4.out ⟨by omega, by omega, by omega⟩ HFB.out HRR_4.out hnR HPU.out); (with_reducible refine HLK.out.mono ?_); go_loud (clear HLK; rintro e w5 ⟨Ax, nx, cx, Axg, nxg, cxg, Axd, nxd, cxd, rfl, ho, hb⟩; have HB_5 := Lib.hid (bel_trans HB_4.out hb); have HRT_5 := Lib.hid (HRT_4.out.below hb); have HRR_5 := Lib.hid (rdrUp9 HRR_4.out hb); have HT_5 := Lib.hid (HT_4.out.below hb); have HBB_5 := Lib.hid (HBB_4.out.below hb); have HOx := Lib.hid ho; have HRx_5 := Lib.hid ho.rd; have HLx := Lib.hid ho.len; clear ho; clear hb ht4_0 ht4_1 ht4_2 hbb4_0 hbb4_1 hbb4_2 hbb4_3 hbb4_4 hbb4_5 hbb4_6 hbb4_7 hbb4_8 hbb4_9)))
    have hba := belA w5 (.cells #[.slice Ax nx cx, .slice Axg nxg cxg, .slice Axd nxd cxd] 25)
    have HB_6 := Lib.hid (bel_trans HB_5.out hba)
    have HRT_6 := Lib.hid (HRT_5.out.below hba)
    have HRR_6 := Lib.hid (rdrUp9 HRR_5.out hba)
    have HT_6 := Lib.hid (HT_5.out.below hba)
    have HBB_6 := Lib.hid (HBB_5.out.below hba)
    have HRx_6 := Lib.hid (HRx_5.out.below hba)
    have HX_6 := Lib.hid (At0.new w5 [.slice Ax nx cx, .slice Axg nxg cxg, .slice Axd nxd cxd] 25)
    clear hba
    generalize (w5.alloc (.cells #[.slice Ax nx cx, .slice Axg nxg cxg, .slice Axd nxd cxd] 25)) = w6 at *
    obtain ⟨px, hpx⟩ : ∃ px, w5.heap.size = px := ⟨_, rfl⟩
    rw [hpx] at HX_6
    simp only [hpx]
    clear hpx
    by_cases hE : E = 0
    case neg =>
      have hE1 : (E == 0) = false := beq_eq_false_iff_ne.2 hE
      have hE2 : (E != 0) = true := by simp [bne, hE1]
      obtain rfl : X = nilT := put_err HPU.out hE
      obtain ⟨e1, e2, e3⟩ := HLx.out
      obtain rfl : 0 = nx := e1
      obtain rfl : 0 = nxg := e2
      obtain rfl : 0 = nxd := e3
      clear hE
      obtain ⟨hx6_0, hx6_1, hx6_2⟩ := cel3 HX_6.out
      go_wp2
      go_ret
      exact ⟨rfl, HB_6.out⟩
    subst hE
    have HST := Lib.hid (one_step HPU.out)
    have HCK := Lib.hid (show ceT X = 0 from by unfold ceT; rw [if_pos (put_ck HPU.out)])
    have hst := HST.out.2.2.2.2.1
    have hsl := HST.out
    obtain ⟨hx1, hx2, hx3⟩ := HLx.out
    obtain ⟨ht1, ht2, ht3⟩ := HLN.out
    have hg1 : n2 ≤ nxg := by have := hsl.1; omega
    have hg2 : n3 ≤ nxd := by have := hsl.2.1; omega
    have hsz : nx ≤ 1000 ∧ nxg ≤ 1000 ∧ nxd ≤ 1000 := by omega
    have HTG := Lib.hid (show X.gone.take n2 = t.gone from by rw [← ht2]; exact hsl.2.2.1)
    have HTD := Lib.hid (show X.done.take n3 = t.done from by rw [← ht3]; exact hsl.2.2.2.1)
    have HWAY := Lib.hid (show (nx + nxg + nxd = n + n2 + n3) ∨ (nx + nxg + nxd = n + n2 + n3 + 1 ∧ ct = 0 ∧ tx = true ∧ nx = n + 1) from by
      rw [hx1, hx2, hx3, ht1, ht2, ht3] at hst
      exact hst)
    have HXT := Lib.hid hsl.2.2.2.2.2
    have hcap1 : nxg ≤ cxg := OwnF.cap HOx.out.gone
    have hcap2 : nxd ≤ cxd := OwnF.cap HOx.out.done
    have hs1 : IntKind.i64.wrap ((n : Int) + (n2 : Int)) = (n : Int) + (n2 : Int) := IntWalk.i64_in _ (by omega)
    have hs2 : IntKind.i64.wrap ((n : Int) + (n2 : Int) + (n3 : Int)) = (n : Int) + (n2 : Int) + (n3 : Int) := IntWalk.i64_in _ (by omega)
    have hs3 : IntKind.i64.wrap ((nx : Int) + (nxg : Int)) = (nx : Int) + (nxg : Int) := IntWalk.i64_in _ (by omega)
    have hs4 : IntKind.i64.wrap ((nx : Int) + (nxg : Int) + (nxd : Int)) = (nx : Int) + (nxg : Int) + (nxd : Int) := IntWalk.i64_in _ (by omega)
    have hs5 : IntKind.i64.wrap ((n : Int) + (n2 : Int) + (n3 : Int) + 1) = (n : Int) + (n2 : Int) + (n3 : Int) + 1 := IntWalk.i64_in _ (by omega)
    have hs6 : IntKind.i64.wrap ((n : Int) + 1) = (n : Int) + 1 := IntWalk.i64_in _ (by omega)
    have hl1 : ¬ (nxg : Int) < (n2 : Int) := by omega
    have hl2 : ¬ (nxd : Int) < (n3 : Int) := by omega
    clear hst hsl hx1 hx2 hx3 ht1 ht2 ht3
    obtain ⟨ht6_0, ht6_1, ht6_2⟩ := cel3 HT_6.out
    obtain ⟨hx6_0, hx6_1, hx6_2⟩ := cel3 HX_6.out
    go_upto_region 11 with (first
      | (go_at_call 17; have HLK := Lib.hid (dCheckT_is Ax nx cx Axg nxg cxg Axd nxd cxd X w6 HRx_6.out ⟨Nat.le_trans hsz.1 (by decide), Nat.le_trans hsz.2.1 (by decide), Nat.le_trans hsz.2.2 (by decide)⟩ HCK.out); (with_reducible refine HLK.out.mono ?_); go_loud (clear HLK; rintro e w7 ⟨rfl, hb⟩; have HB_7 := Lib.hid (bel_trans HB_6.out hb); have HRT_7 := Lib.hid (HRT_6.out.below hb); have HRR_7 := Lib.hid (rdrUp9 HRR_6.out hb); have HT_7 := Lib.hid (HT_6.out.below hb); have HBB_7 := Lib.hid (HBB_6.out.below hb); have HRx_7 := Lib.hid (HRx_6.out.below hb); have HX_7 := Lib.hid (HX_6.out.below hb); clear hb ht6_0 ht6_1 ht6_2 hx6_0 hx6_1 hx6_2)))
    have HGT := Lib.hid (show RdGn w7 w7.heap.size Axg n2 t.gone from by have h9 := rd_take9 HRx_7.out.gone hg1; rw [HTG.out] at h9; exact h9)
    have HDT := Lib.hid (show RdGn w7 w7.heap.size Axd n3 t.done from by have h9 := rd_take9 HRx_7.out.done hg2; rw [HTD.out] at h9; exact h9)
    have hq1 : (n2 : Int) ≤ (cxg : Int) := by omega
    have hq2 : (n3 : Int) ≤ (cxd : Int) := by omega
    have hq3 : (0 : Int) ≤ (n2 : Int) := by omega
    have hq4 : (0 : Int) ≤ (n3 : Int) := by omega
    have hbd := (Below.refl w7.heap.size w7).drew
    have HB_R11 := Lib.hid (bel_trans HB_7.out hbd)
    have HRT_R11 := Lib.hid (HRT_7.out.below hbd)
    have HRR_R11 := Lib.hid (rdrUp9 HRR_7.out hbd)
    have HT_R11 := Lib.hid (HT_7.out.below hbd)
    have HBB_R11 := Lib.hid (HBB_7.out.below hbd)
    have HRx_R11 := Lib.hid (HRx_7.out.below hbd)
    have HX_R11 := Lib.hid (HX_7.out.below hbd)
    have HGT_R11 := Lib.hid (rdgUp9 HGT.out hbd)
    have HDT_R11 := Lib.hid (rdgUp9 HDT.out hbd)
    have HSR11 := Lib.hid (show (fun W9 : World => W9.cell? ⟨px, 0, none⟩ = some (.slice Ax nx cx) ∧ W9.cell? ⟨px, 1, none⟩ = some (.slice Axg nxg cxg) ∧ W9.cell? ⟨px, 2, none⟩ = some (.slice Axd nxd cxd) ∧ W9.cell? ⟨w.heap.size, 0, none⟩ = some (.slice A n c) ∧ W9.cell? ⟨w.heap.size, 1, none⟩ = some (.slice A2 n2 c2) ∧ W9.cell? ⟨w.heap.size, 2, none⟩ = some (.slice A3 n3 c3)) w7.drew from ⟨HX_R11.out.cell 0, HX_R11.out.cell 1, HX_R11.out.cell 2, HT_R11.out.cell 0, HT_R11.out.cell 1, HT_R11.out.cell 2⟩)
    clear hbd
    refine region_let (fun W9 : World => W9.cell? ⟨px, 0, none⟩ = some (.slice Ax nx cx) ∧ W9.cell? ⟨px, 1, none⟩ = some (.slice Axg nxg cxg) ∧ W9.cell? ⟨px, 2, none⟩ = some (.slice Axd nxd cxd) ∧ W9.cell? ⟨w.heap.size, 0, none⟩ = some (.slice A n c) ∧ W9.cell? ⟨w.heap.size, 1, none⟩ = some (.slice A2 n2 c2) ∧ W9.cell? ⟨w.heap.size, 2, none⟩ = some (.slice A3 n3 c3)) 99 21 hmx rfl fun ops Q HOPS HQ => ?_
    have HREG := reg_of HOPS tb_TxnsStep11 rfl (by kernel_rfl) (by kernel_rfl) (by decide)
    refine xq 0 HOPS HREG HSR11.out ?_; simp only [ls0, ls1]; refine xq 1 HOPS HREG HSR11.out ?_; simp only [ls0, ls1]; refine xq 2 HOPS HREG HSR11.out ?_; simp only [ls0, ls1]; refine xq 3 HOPS HREG HSR11.out ?_; simp only [ls0, ls1]; refine xq 4 HOPS HREG HSR11.out ?_; simp only [ls0, ls1]; refine xq 5 HOPS HREG HSR11.out ?_; simp only [ls0, ls1]; refine xq 6 HOPS HREG HSR11.out ?_; simp only [ls0, ls1]; refine xq 7 HOPS HREG HSR11.out ?_; simp only [ls0, ls1]
    refine xc 8 HOPS ?_
    go_simp
    with_reducible refine (rSameG_is Axg n2 cxg t.gone A2 c2 _ HGT_R11.out HRT_R11.out.gone (by omega)).mono ?_
    rintro e w20 ⟨rfl, hb⟩
    have HB_20 := Lib.hid (bel_trans HB_R11.out hb)
    have HRT_20 := Lib.hid (HRT_R11.out.below hb)
    have HRR_20 := Lib.hid (rdrUp9 HRR_R11.out hb)
    have HT_20 := Lib.hid (HT_R11.out.below hb)
    have HBB_20 := Lib.hid (HBB_R11.out.below hb)
    have HRx_20 := Lib.hid (HRx_R11.out.below hb)
    have HX_20 := Lib.hid (HX_R11.out.below hb)
    have HGT_20 := Lib.hid (rdgUp9 HGT_R11.out hb)
    have HDT_20 := Lib.hid (rdgUp9 HDT_R11.out hb)
    have HSR11w20 := Lib.hid (show (fun W9 : World => W9.cell? ⟨px, 0, none⟩ = some (.slice Ax nx cx) ∧ W9.cell? ⟨px, 1, none⟩ = some (.slice Axg nxg cxg) ∧ W9.cell? ⟨px, 2, none⟩ = some (.slice Axd nxd cxd) ∧ W9.cell? ⟨w.heap.size, 0, none⟩ = some (.slice A n c) ∧ W9.cell? ⟨w.heap.size, 1, none⟩ = some (.slice A2 n2 c2) ∧ W9.cell? ⟨w.heap.size, 2, none⟩ = some (.slice A3 n3 c3)) w20 from ⟨HX_20.out.cell 0, HX_20.out.cell 1, HX_20.out.cell 2, HT_20.out.cell 0, HT_20.out.cell 1, HT_20.out.cell 2⟩)
    clear hb
    refine ⟨HSR11w20.out, ?_⟩
    refine xq 9 HOPS HREG HSR11w20.out ?_; simp only [ls0, ls1]; refine xq 10 HOPS HREG HSR11w20.out ?_; simp only [ls0, ls1]; refine xq 11 HOPS HREG HSR11w20.out ?_; simp only [ls0, ls1]; refine xq 12 HOPS HREG HSR11w20.out ?_; simp only [ls0, ls1]; refine xq 13 HOPS HREG HSR11w20.out ?_; simp only [ls0, ls1]; refine xq 14 HOPS HREG HSR11w20.out ?_; simp only [ls0, ls1]; refine xq 15 HOPS HREG HSR11w20.out ?_; simp only [ls0, ls1]; refine xq 16 HOPS HREG HSR11w20.out ?_; simp only [ls0, ls1]; refine xq 17 HOPS HREG HSR11w20.out ?_; simp only [ls0, ls1]
    refine xc 18 HOPS ?_
    go_simp
    with_reducible refine (rSameG_is Axd n3 cxd t.done A3 c3 _ HDT_20.out HRT_20.out.done (by omega)).mono ?_
    rintro e w21 ⟨rfl, hb⟩
    have HB_21 := Lib.hid (bel_trans HB_20.out hb)
    have HRT_21 := Lib.hid (HRT_20.out.below hb)
    have HRR_21 := Lib.hid (rdrUp9 HRR_20.out hb)
    have HT_21 := Lib.hid (HT_20.out.below hb)
    have HBB_21 := Lib.hid (HBB_20.out.below hb)
    have HRx_21 := Lib.hid (HRx_20.out.below hb)
    have HX_21 := Lib.hid (HX_20.out.below hb)
    have HGT_21 := Lib.hid (rdgUp9 HGT_20.out hb)
    have HDT_21 := Lib.hid (rdgUp9 HDT_20.out hb)
    have HSR11w21 := Lib.hid (show (fun W9 : World => W9.cell? ⟨px, 0, none⟩ = some (.slice Ax nx cx) ∧ W9.cell? ⟨px, 1, none⟩ = some (.slice Axg nxg cxg) ∧ W9.cell? ⟨px, 2, none⟩ = some (.slice Axd nxd cxd) ∧ W9.cell? ⟨w.heap.size, 0, none⟩ = some (.slice A n c) ∧ W9.cell? ⟨w.heap.size, 1, none⟩ = some (.slice A2 n2 c2) ∧ W9.cell? ⟨w.heap.size, 2, none⟩ = some (.slice A3 n3 c3)) w21 from ⟨HX_21.out.cell 0, HX_21.out.cell 1, HX_21.out.cell 2, HT_21.out.cell 0, HT_21.out.cell 1, HT_21.out.cell 2⟩)
    clear hb
    refine ⟨HSR11w21.out, ?_⟩
    refine xq 19 HOPS HREG HSR11w21.out ?_; simp only [ls0, ls1]; refine xq 20 HOPS HREG HSR11w21.out ?_; simp only [ls0, ls1]
    refine stepE HOPS (by kernel_rfl) (HQ.out _ _ ?_)
    clear HQ HREG HOPS
    clear Q ops
    obtain ⟨ht21_0, ht21_1, ht21_2⟩ := cel3 HT_21.out
    obtain ⟨hx21_0, hx21_1, hx21_2⟩ := cel3 HX_21.out
    obtain ⟨hbb21_0, hbb21_1, hbb21_2, hbb21_3, hbb21_4, hbb21_5, hbb21_6, hbb21_7, hbb21_8, hbb21_9⟩ := cel10 HBB_21.out
    by_cases hw : nx + nxg + nxd = n + n2 + n3
    · have hq5 : ((nx : Int) + (nxg : Int) + (nxd : Int) == (n : Int) + (n2 : Int) + (n3 : Int)) = true := beq_iff_eq.2 (by omega)
      clear hw
      cases tx with
      | true =>
        go_wp2
        go_ret
        exact ⟨rfl, HB_21.out⟩
      | false =>
        obtain rfl : X = t := HXT.out rfl
        obtain ⟨h1, h2, h3⟩ : n = nx ∧ n2 = nxg ∧ n3 = nxd := by have h4 := HLx.out; have h5 := HLN.out; omega
        subst h1 h2 h3
        go_wp2_with (first
          | (go_at_call 19; have HLK := Lib.hid (rSameT_is Ax n cx Axg n2 cxg Axd n3 cxd A c A2 c2 A3 c3 X w21 HRx_21.out HRT_21.out (by omega) (by omega) (by omega)); (with_reducible refine HLK.out.mono ?_); go_loud (clear HLK; rintro e w22 ⟨rfl, hb⟩; have HB_22 := Lib.hid (bel_trans HB_21.out hb); have HRT_22 := Lib.hid (HRT_21.out.below hb); have HRR_22 := Lib.hid (rdrUp9 HRR_21.out hb); have HT_22 := Lib.hid (HT_21.out.below hb); have HBB_22 := Lib.hid (HBB_21.out.below hb); have HRx_22 := Lib.hid (HRx_21.out.below hb); have HX_22 := Lib.hid (HX_21.out.below hb); have HGT_22 := Lib.hid (rdgUp9 HGT_21.out hb); have HDT_22 := Lib.hid (rdgUp9 HDT_21.out hb); clear hb)))
        go_ret
        exact ⟨rfl, HB_22.out⟩
    · obtain ⟨w1, rfl, rfl, w4⟩ := HWAY.out.resolve_left hw
      have hq5 : ((nx : Int) + (nxg : Int) + (nxd : Int) == (n : Int) + (n2 : Int) + (n3 : Int)) = false := beq_eq_false_iff_ne.2 (by omega)
      have hq6 : ((nx : Int) + (nxg : Int) + (nxd : Int) == (n : Int) + (n2 : Int) + (n3 : Int) + 1) = true := beq_iff_eq.2 (by omega)
      have hq7 : ((nx : Int) == (n : Int) + 1) = true := beq_iff_eq.2 (by omega)
      clear hw w1 w4
      go_wp2
      go_ret
      exact ⟨rfl, HB_21.out⟩
end Go.Proofs.YtlfbagkonckffaaGreat.Txn

namespace Go.Proofs.YtlfbagkonckffaaGreat.txnsStep
open Go.ChangeShapes Go.WideShapes Go.ChangeAt Go.RowKit

theorem own : ownKnob Tryz.prog.godebug = none := by kernel_rfl
theorem laidOut : laidOutB Tryz.prog = true := by kernel_rfl

set_option maxRecDepth 100000 in
theorem lifted (os : Os) (started : os.Started) (H : Type) (enc : TypeId × Value → H) :
    ReturnsInHanded {} Tryz.checked os 6 .any (Rows.txnsStepSpec.pre6 enc Tryz.prog Tryz.f6 Rows.txnsStepRow.domain false) (Rows.txnsStepSpec.post enc Tryz.prog Tryz.f6 false true false false) := by
  refine returnsInHanded_of_change_sized (C := Tryz.checked) own started (by kernel_rfl) Tryz.func6
    (ChangeSpec.witness6 (enc := enc) (C := Tryz.checked) false ⟨#[], #[.agg #[.slice none 0 0, .slice none 0 0, .slice none 0 0], .agg #[.int .i64 0, .int .i64 0, .int .i64 0, .int .i64 0, .int .i64 0, .int .i64 0, .int .i64 0, .bool false, .int .i64 0, .slice none 0 0]], []⟩ 8 (by kernel_rfl) (by kernel_rfl) (by kernel_rfl) (by kernel_rfl)) ?_
  intro W base args ds gs before hval0 hW _ hwt _
  have hval : ∀ (j : Nat) t v, Tryz.f6.params[j]? = some t → args[j]? = some v → Value.okWide Tryz.prog W .any base t v := hval0
  have hW' := hW
  obtain ⟨p, q, hA0, hV, rfl, hfz, hnd⟩ := hW
  have hA : DataW.TrodAll enc Tryz.prog W 0 (fun _ => true) true Tryz.f6.params.toList args.toList ds p := hA0
  rw [Tryz.params6] at hA hval
  obtain ⟨v0, vs0, d0, ds0, p0, q0, hargs, rfl, rfl, h0, r0⟩ := trodAll_cons hA
  obtain ⟨v1, vs1, d1, ds1, p1, q1, rfl, rfl, rfl, h1, r1⟩ := trodAll_cons r0
  obtain ⟨rfl, rfl, rfl⟩ := trodAll_nil r1
  obtain rfl : args = #[v0, v1] := by cases args; simp_all
  obtain ⟨rfl, rfl⟩ := trodVars_none hV
  have k0 := h0
  have lt0 : ∀ x ∈ p0, x.block < W.heap.size := by obtain ⟨m, hm⟩ := k0; exact DataW.trod_lt m _ _ _ hm
  obtain ⟨A_0, n_0, c_0, A2_0, n2_0, c2_0, A3_0, n3_0, c3_0, t_0, rfl, hx_0, hy_0, hz_0, hR_0, hF_0⟩ := Txn.open_tx (hval 0 25 v0 rfl rfl) h0 (Bat.weights_arg (j := 0) hwt (by kernel_rfl) rfl)
  have k1 := h1
  have lt1 : ∀ x ∈ p1, x.block < W.heap.size := by obtain ⟨m, hm⟩ := k1; exact DataW.trod_lt m _ _ _ hm
  obtain ⟨ba_1, la_1, fr_1, ep_1, pi_1, ge_1, se_1, tx_1, ct_1, A_1, n_1, c_1, rs_1, rfl, hf_1, hc_1, hk_1, hR_1⟩ := Bat.open_batch (hval 1 28 v1 rfl rfl) h1 (Bat.weights_arg (j := 1) hwt (by kernel_rfl) rfl)
  clear hA0 hval0
  refine (Txn.txnsStep_walk A_0 n_0 c_0 A2_0 n2_0 c2_0 A3_0 n3_0 c3_0 t_0 ba_1 la_1 fr_1 ep_1 pi_1 ge_1 se_1 tx_1 ct_1 A_1 n_1 c_1 rs_1 W hx_0 hy_0 hz_0 hR_0 hF_0 hf_1 hc_1 hk_1 hR_1).mono fun e W' ⟨he, bel⟩ => ?_
  subst he
  exact ⟨_, rfl, _, _, _, [], _, [], hW', trodAll_mk1 (shut_bool Tryz.underlying4 _), (trodAll_cons_mk (Below.trod laidOut (by kernel_rfl) (of_decide_eq_true (by kernel_rfl)) k0 bel lt0) (trodAll_cons_mk (Below.trod laidOut (by kernel_rfl) (of_decide_eq_true (by kernel_rfl)) k1 bel lt1) trodAll_mk0)), rfl, bel.frame _, fun h => by cases h⟩

theorem over : Rows.txnsStepRow.holds Tryz.pinned (OpenSpec.ofChange Rows.txnsStepSpec) :=
  OpenClaim.holds_of_wide 6 Tryz.f6 rfl rfl rfl rfl rfl rfl rfl ⟨rfl, rfl, rfl, rfl, rfl⟩ rfl rfl rfl rfl rfl (by kernel_rfl) Tryz.func6 (by kernel_rfl)
    (of_decide_eq_true (by kernel_rfl)) (by unfold Func.isWrapper; first | (rw [if_pos (by decide +kernel)]; kernel_rfl) | (rw [if_neg (by decide +kernel)]; exact ⟨rfl, rfl⟩))
    (fun os started H enc _ => lifted os started H enc)

theorem proved : Rows.TxnsStepSaid :=
  over
#print axioms proved
end Go.Proofs.YtlfbagkonckffaaGreat.txnsStep
