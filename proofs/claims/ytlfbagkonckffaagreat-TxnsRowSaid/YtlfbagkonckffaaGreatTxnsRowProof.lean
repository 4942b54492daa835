/- Batches put one by one make what all of them make, and those that are passed change nothing, whatever the batches; no condition.
-/
import Derived.Test.YtlfbagkonckffaaGreatJ48
import Derived.Test.YtlfbagkonckffaaGreatJ43
import Derived.Test.YtlfbagkonckffaaGreatJ33
import Derived.Test.YtlfbagkonckffaaGreatJ12
import Derived.Test.YtlfbagkonckffaaGreatJ11
import Derived.Deep.DeepCutAuto
import Derived.Test.YtlfbagkonckffaaGreatRows
import Derived.WalkKit
import Derived.ProofKit
import Derived.OpenShut
import Derived.ChangeOld
import Derived.Below
import Derived.Carry
import Derived.Test.YtlfbagkonckffaaGreatJ06
import Derived.Test.YtlfbagkonckffaaGreatJ08
import Derived.SizedLaws
/- The walk of TxnsRow. -/
namespace Go.Proofs.YtlfbagkonckffaaGreat.Txn
open Go.RowKit Oct Rec RowF Lay InR Bat
open Epo (At0 AtO belA cel2)
open Sqs (at0_set9)

def tb_TxnsRow6 : List (Nat × Nat) := [(0, 4095), (0, 4095), (0, 4095), (6, 4089), (8, 4087), (17, 4078), (32, 4063), (64, 4031), (64, 4031), (0, 4095), (767, 3455), (2047, 3839)]
def tb_TxnsRow9 : List (Nat × Nat) := [(0, 8191), (1, 8190), (2, 8189), (6, 8185), (2, 8189), (26, 8165), (34, 8157), (96, 8127), (128, 8063), (384, 7807), (640, 7551), (1152, 7039), (4095, 6143)]
set_option maxRecDepth 100000 in
set_option maxHeartbeats 16000000 in
theorem txnsRow_walk (A : Option Addr) (n c : Nat) (bs : List Bt) (w : World) (hc : n ≤ c) (hk : c ≤ reach) (hR : RdL w w.heap.size A n bs) :
    Calls Tryz.prog 9 #[.slice A n c] w fun e w' => e = .returned (.bool true) ∧ Below w.heap.size w w' := by
  have hmx : Tryz.prog.follows .mixedOrders = true := by kernel_rfl
  have hn9 : n ≤ reach := Nat.le_trans hc hk
  have HB_0 := Lib.hid (Below.refl w.heap.size w)
  have HL_0 := Lib.hid hR
  clear hR hk
  cases hz : (bs.all fewT && decide ((bs.length : Int) ≤ 60)) with
  | false =>
    have HZ := Lib.hid hz
    clear hz
    go_enter Tryz.func9, Tryz.ntmps9
    go_wp2_with (first
      | (go_at_call 12; have HLK := Lib.hid (live12_any w); (with_reducible refine HLK.out.mono ?_); go_loud (clear HLK; rintro e w1 ⟨rfl, hb⟩; have HB_1 := Lib.hid (bel_trans HB_0.out hb); have HL_1 := Lib.hid (rdlUp9 HL_0.out hb); clear hb))
      | (go_at_call 20; have HLK := Lib.hid (few12_is bs A n c w1 HL_1.out (by omega) HZ.out); (with_reducible refine HLK.out.mono ?_); go_loud (clear HLK; rintro e w2 ⟨rfl, hb⟩; have HB_2 := Lib.hid (bel_trans HB_1.out hb); have HL_2 := Lib.hid (rdlUp9 HL_1.out hb); clear hb)))
    go_ret
    exact ⟨rfl, HB_2.out⟩
  | true =>
    have HZ := Lib.hid hz
    rw [Bool.and_eq_true, decide_eq_true_eq] at hz
    have HT_0 := Lib.hid (rdT_of HL_0.out hz.1)
    have hln := HT_0.out.len
    have hn60 : n ≤ 60 := by have := hz.2; omega
    clear hz
    rcases Nat.eq_zero_or_pos n with hn0 | hn0
    · subst hn0
      go_enter Tryz.func9, Tryz.ntmps9
      go_wp2_with (first
        | (go_at_call 12; have HLK := Lib.hid (live12_any w); (with_reducible refine HLK.out.mono ?_); go_loud (clear HLK; rintro e w1 ⟨rfl, hb⟩; have HB_1 := Lib.hid (bel_trans HB_0.out hb); have HL_1 := Lib.hid (rdlUp9 HL_0.out hb); have HT_1 := Lib.hid (rdtUp9 HT_0.out hb); clear hb))
        | (go_at_call 20; have HLK := Lib.hid (few12_is bs A 0 c w1 HL_1.out (by omega) HZ.out); (with_reducible refine HLK.out.mono ?_); go_loud (clear HLK; rintro e w2 ⟨rfl, hb⟩; have HB_2 := Lib.hid (bel_trans HB_1.out hb); have HL_2 := Lib.hid (rdlUp9 HL_1.out hb); have HT_2 := Lib.hid (rdtUp9 HT_1.out hb); clear hb)))
      go_ret
      exact ⟨rfl, HB_2.out⟩
    obtain ⟨m, hm⟩ : ∃ m, n = m + 1 := ⟨n - 1, by omega⟩
    have hnz : ((n : Int) == 0) = false := beq_eq_false_iff_ne.2 (by omega)
    have hwm : IntKind.i64.wrap ((n : Int) - 1) = (m : Int) := by rw [show (n : Int) - 1 = (m : Int) by omega]; exact IntWalk.i64_in _ (by omega)
    have hmc : (m : Int) ≤ (c : Int) := by omega
    have hm0 : (0 : Int) ≤ (m : Int) := by omega
    have hmn : (m : Int) < (n : Int) := by omega
    have hm60 : m ≤ 1000 := by omega
    have HM := Lib.hid hm
    clear hm
    obtain ⟨x9, hx9⟩ : ∃ x, bs[m]? = some x := ⟨bs[m]'(by have := HM.out; omega), List.getElem?_eq_getElem _⟩
    obtain ⟨ba, la, fr, ep, pi, ge, se, tx, ct, rs⟩ := x9
    have HX9 := Lib.hid hx9
    obtain ⟨t, ht⟩ : ∃ t, ofT (bs.take m) = t := ⟨_, rfl⟩
    have HTT := Lib.hid ht
    have HOF := Lib.hid (show ofT bs = onT t ⟨ba, la, fr, ep, pi, ge, se, tx, ct, rs⟩ from by
      have h1 : bs = bs.take m ++ [⟨ba, la, fr, ep, pi, ge, se, tx, ct, rs⟩] := by
        have h2 := List.take_append_drop m bs
        rw [List.drop_eq_getElem_cons (by have := HM.out; omega : m < bs.length), List.drop_of_length_le (by have := HM.out; omega)] at h2
        rw [← (List.getElem?_eq_some_iff.1 HX9.out).2]
        exact h2.symm
      rw [h1, of_snoc, HTT.out])
    obtain ⟨X, E, hP⟩ : ∃ X E, putT t ⟨ba, la, fr, ep, pi, ge, se, tx, ct, rs⟩ = (X, E) := ⟨_, _, rfl⟩
    have HPU := Lib.hid hP
    clear ht hP hx9
    go_enter Tryz.func9, Tryz.ntmps9
    go_upto_region 6 with (first
      | (go_at_call 31; have HLK := Lib.hid (ofR_is A m c (bs.take m) w2 (HT_2.out.take (by have := HM.out; omega)) hm60 HTT.out); (with_reducible refine HLK.out.mono ?_); go_loud (clear HLK; rintro e w3 ⟨Av, nv, cv, Avg, nvg, cvg, Avd, nvd, cvd, rfl, ho, hb⟩; have HB_3 := Lib.hid (bel_trans HB_2.out hb); have HL_3 := Lib.hid (rdlUp9 HL_2.out hb); have HT_3 := Lib.hid (rdtUp9 HT_2.out hb); have HRv_3 := Lib.hid ho.rd; have HLv := Lib.hid ho.len; clear ho; clear hb))
      | (go_at_call 20; have HLK := Lib.hid (few12_is bs A n c w1 HL_1.out (by omega) HZ.out); (with_reducible refine HLK.out.mono ?_); go_loud (clear HLK; rintro e w2 ⟨rfl, hb⟩; have HB_2 := Lib.hid (bel_trans HB_1.out hb); have HL_2 := Lib.hid (rdlUp9 HL_1.out hb); have HT_2 := Lib.hid (rdtUp9 HT_1.out hb); clear hb))
      | (go_at_call 12; have HLK := Lib.hid (live12_any w); (with_reducible refine HLK.out.mono ?_); go_loud (clear HLK; rintro e w1 ⟨rfl, hb⟩; have HB_1 := Lib.hid (bel_trans HB_0.out hb); have HL_1 := Lib.hid (rdlUp9 HL_0.out hb); have HT_1 := Lib.hid (rdtUp9 HT_0.out hb); clear hb)))
    have hba := belA w3 (.cells #[.slice Av nv cv, .slice Avg nvg cvg, .slice Avd nvd cvd] 25)
    have HB_4 := Lib.hid (bel_trans HB_3.out hba)
    have HL_4 := Lib.hid (rdlUp9 HL_3.out hba)
    have HT_4 := Lib.hid (rdtUp9 HT_3.out hba)
    have HRv_4 := Lib.hid (HRv_3.out.below hba)
    have HX5_4 := Lib.hid (At0.new w3 [.slice Av nv cv, .slice Avg nvg cvg, .slice Avd nvd cvd] 25)
    clear hba
    generalize (w3.alloc (.cells #[.slice Av nv cv, .slice Avg nvg cvg, .slice Avd nvd cvd] 25)) = w4 at *
    obtain ⟨p5, hp5⟩ : ∃ p5, w3.heap.size = p5 := ⟨_, rfl⟩
    rw [hp5] at HX5_4
    simp only [hp5]
    clear hp5
    obtain ⟨b, o, AR, nR, cR, hA, hnR, hrr, hfit, hat⟩ := rdt_at9 HT_4.out HX9.out
    have HRR_4 := Lib.hid hrr
    have HFB := Lib.hid hfit
    have HBN_4 := Lib.hid (show AtO w4 b (o + m * 10) [.int .i64 ba, .int .i64 la, .int .i64 fr, .int .i64 ep, .int .i64 pi, .int .i64 ge, .int .i64 se, .bool tx, .int .i64 ct, .slice AR nR cR] from hat)
    have HTL := Lib.hid (show nv ≤ 60 ∧ nvg ≤ 60 ∧ nvd ≤ 60 from by
      have h1 := of_len (bs.take m)
      rw [HTT.out, List.length_take] at h1
      have h2 := HLv.out
      omega)
    have hF3 : Few3 nv nvg nvd := ⟨by have := HTL.out; omega, by have := HTL.out; omega, by have := HTL.out; omega⟩
    subst hA
    clear hrr hfit hat
    go_cut [6, 7] (fun s6 s7 wx => ∃ P Ax nx cx Axg nxg cxg Axd nxd cxd, w4.heap.size ≤ P ∧ s6 = .pointer (some ⟨P, 0, none⟩) ∧ s7 = .int .i64 E ∧ At0 wx P [.slice Ax nx cx, .slice Axg nxg cxg, .slice Axd nxd cxd] 25 ∧ OwnTx wx w4.heap.size Ax nx cx Axg nxg cxg Axd nxd cxd X ∧ Below w4.heap.size w4 wx)
    case first =>
      have hbd := (Below.refl w4.heap.size w4).drew
      have HB_R6 := Lib.hid (bel_trans HB_4.out hbd)
      have HL_R6 := Lib.hid (rdlUp9 HL_4.out hbd)
      have HT_R6 := Lib.hid (rdtUp9 HT_4.out hbd)
      have HRv_R6 := Lib.hid (HRv_4.out.below hbd)
      have HX5_R6 := Lib.hid (HX5_4.out.below hbd)
      have HRR_R6 := Lib.hid (rdrUp9 HRR_4.out hbd)
      have HBN_R6 := Lib.hid (HBN_4.out.below hbd)
      have HSR6 := Lib.hid (show (fun W9 : World => W9.cell? ⟨p5, 0, none⟩ = some (.slice Av nv cv) ∧ W9.cell? ⟨p5, 1, none⟩ = some (.slice Avg nvg cvg) ∧ W9.cell? ⟨p5, 2, none⟩ = some (.slice Avd nvd cvd) ∧ W9.cell? ⟨b, o + m * 10, none⟩ = some (.int .i64 ba) ∧ W9.cell? ⟨b, o + m * 10 + 1, none⟩ = some (.int .i64 la) ∧ W9.cell? ⟨b, o + m * 10 + 2, none⟩ = some (.int .i64 fr) ∧ W9.cell? ⟨b, o + m * 10 + 3, none⟩ = some (.int .i64 ep) ∧ W9.cell? ⟨b, o + m * 10 + 4, none⟩ = some (.int .i64 pi) ∧ W9.cell? ⟨b, o + m * 10 + 5, none⟩ = some (.int .i64 ge) ∧ W9.cell? ⟨b, o + m * 10 + 6, none⟩ = some (.int .i64 se) ∧ W9.cell? ⟨b, o + m * 10 + 7, none⟩ = some (.bool tx) ∧ W9.cell? ⟨b, o + m * 10 + 8, none⟩ = some (.int .i64 ct) ∧ W9.cell? ⟨b, o + m * 10 + 9, none⟩ = some (.slice AR nR cR)) w4.drew from ⟨HX5_R6.out.cell 0, HX5_R6.out.cell 1, HX5_R6.out.cell 2, HBN_R6.out.2 0 _ rfl, HBN_R6.out.2 1 _ rfl, HBN_R6.out.2 2 _ rfl, HBN_R6.out.2 3 _ rfl, HBN_R6.out.2 4 _ rfl, HBN_R6.out.2 5 _ rfl, HBN_R6.out.2 6 _ rfl, HBN_R6.out.2 7 _ rfl, HBN_R6.out.2 8 _ rfl, HBN_R6.out.2 9 _ rfl⟩)
      clear hbd
      refine region_let (fun W9 : World => W9.cell? ⟨p5, 0, none⟩ = some (.slice Av nv cv) ∧ W9.cell? ⟨p5, 1, none⟩ = some (.slice Avg nvg cvg) ∧ W9.cell? ⟨p5, 2, none⟩ = some (.slice Avd nvd cvd) ∧ W9.cell? ⟨b, o + m * 10, none⟩ = some (.int .i64 ba) ∧ W9.cell? ⟨b, o + m * 10 + 1, none⟩ = some (.int .i64 la) ∧ W9.cell? ⟨b, o + m * 10 + 2, none⟩ = some (.int .i64 fr) ∧ W9.cell? ⟨b, o + m * 10 + 3, none⟩ = some (.int .i64 ep) ∧ W9.cell? ⟨b, o + m * 10 + 4, none⟩ = some (.int .i64 pi) ∧ W9.cell? ⟨b, o + m * 10 + 5, none⟩ = some (.int .i64 ge) ∧ W9.cell? ⟨b, o + m * 10 + 6, none⟩ = some (.int .i64 se) ∧ W9.cell? ⟨b, o + m * 10 + 7, none⟩ = some (.bool tx) ∧ W9.cell? ⟨b, o + m * 10 + 8, none⟩ = some (.int .i64 ct) ∧ W9.cell? ⟨b, o + m * 10 + 9, none⟩ = some (.slice AR nR cR)) 99 12 hmx rfl fun ops Q HOPS HQ => ?_
      have HREG := reg_of HOPS tb_TxnsRow6 rfl (by kernel_rfl) (by kernel_rfl) (by decide)
      refine xq 0 HOPS HREG HSR6.out ?_; simp only [ls0, ls1]; refine xq 1 HOPS HREG HSR6.out ?_; simp only [ls0, ls1]; refine xq 2 HOPS HREG HSR6.out ?_; simp only [ls0, ls1]; refine xq 3 HOPS HREG HSR6.out ?_; simp only [ls0, ls1]; refine xq 4 HOPS HREG HSR6.out ?_; simp only [ls0, ls1]
      refine xc2 5 9 HOPS ?_ ?_
      · go_simp
        with_reducible refine (dPutT_is Av nv cv Avg nvg cvg Avd nvd cvd t ba la fr ep pi ge se tx ct AR nR cR rs _ HRv_R6.out hF3 HFB.out HRR_R6.out hnR HPU.out).mono ?_
        rintro e wqR6 ⟨Ax, nx, cx, Axg, nxg, cxg, Axd, nxd, cxd, rfl, ho, hb⟩
        have HB_qR65 := Lib.hid (bel_trans HB_R6.out hb)
        have HL_qR65 := Lib.hid (rdlUp9 HL_R6.out hb)
        have HT_qR65 := Lib.hid (rdtUp9 HT_R6.out hb)
        have HRv_qR65 := Lib.hid (HRv_R6.out.below hb)
        have HX5_qR65 := Lib.hid (HX5_R6.out.below hb)
        have HRR_qR65 := Lib.hid (rdrUp9 HRR_R6.out hb)
        have HBN_qR65 := Lib.hid (HBN_R6.out.below hb)
        have HY := Lib.hid ho
        have HBW := Lib.hid hb
        clear ho
        have HSR6_5_5 := Lib.hid (show (fun W9 : World => W9.cell? ⟨p5, 0, none⟩ = some (.slice Av nv cv) ∧ W9.cell? ⟨p5, 1, none⟩ = some (.slice Avg nvg cvg) ∧ W9.cell? ⟨p5, 2, none⟩ = some (.slice Avd nvd cvd) ∧ W9.cell? ⟨b, o + m * 10, none⟩ = some (.int .i64 ba) ∧ W9.cell? ⟨b, o + m * 10 + 1, none⟩ = some (.int .i64 la) ∧ W9.cell? ⟨b, o + m * 10 + 2, none⟩ = some (.int .i64 fr) ∧ W9.cell? ⟨b, o + m * 10 + 3, none⟩ = some (.int .i64 ep) ∧ W9.cell? ⟨b, o + m * 10 + 4, none⟩ = some (.int .i64 pi) ∧ W9.cell? ⟨b, o + m * 10 + 5, none⟩ = some (.int .i64 ge) ∧ W9.cell? ⟨b, o + m * 10 + 6, none⟩ = some (.int .i64 se) ∧ W9.cell? ⟨b, o + m * 10 + 7, none⟩ = some (.bool tx) ∧ W9.cell? ⟨b, o + m * 10 + 8, none⟩ = some (.int .i64 ct) ∧ W9.cell? ⟨b, o + m * 10 + 9, none⟩ = some (.slice AR nR cR)) wqR6 from ⟨HX5_qR65.out.cell 0, HX5_qR65.out.cell 1, HX5_qR65.out.cell 2, HBN_qR65.out.2 0 _ rfl, HBN_qR65.out.2 1 _ rfl, HBN_qR65.out.2 2 _ rfl, HBN_qR65.out.2 3 _ rfl, HBN_qR65.out.2 4 _ rfl, HBN_qR65.out.2 5 _ rfl, HBN_qR65.out.2 6 _ rfl, HBN_qR65.out.2 7 _ rfl, HBN_qR65.out.2 8 _ rfl, HBN_qR65.out.2 9 _ rfl⟩)
        clear hb
        refine ⟨HSR6_5_5.out, ?_⟩
        refine xq 6 HOPS HREG HSR6_5_5.out ?_; simp only [ls0, ls1]; refine xq 7 HOPS HREG HSR6_5_5.out ?_; simp only [ls0, ls1]; refine xq 8 HOPS HREG HSR6_5_5.out ?_; simp only [ls0, ls1]
        refine xc 9 HOPS ?_
        go_simp
        have hb := belA wqR6 (.cells #[.slice none 0 0, .slice none 0 0, .slice none 0 0] 25)
        have HB_y := Lib.hid (bel_trans HB_qR65.out hb)
        have HL_y := Lib.hid (rdlUp9 HL_qR65.out hb)
        have HT_y := Lib.hid (rdtUp9 HT_qR65.out hb)
        have HRv_y := Lib.hid (HRv_qR65.out.below hb)
        have HX5_y := Lib.hid (HX5_qR65.out.below hb)
        have HRR_y := Lib.hid (rdrUp9 HRR_qR65.out hb)
        have HBN_y := Lib.hid (HBN_qR65.out.below hb)
        have HSR6_5_9 := Lib.hid (show (fun W9 : World => W9.cell? ⟨p5, 0, none⟩ = some (.slice Av nv cv) ∧ W9.cell? ⟨p5, 1, none⟩ = some (.slice Avg nvg cvg) ∧ W9.cell? ⟨p5, 2, none⟩ = some (.slice Avd nvd cvd) ∧ W9.cell? ⟨b, o + m * 10, none⟩ = some (.int .i64 ba) ∧ W9.cell? ⟨b, o + m * 10 + 1, none⟩ = some (.int .i64 la) ∧ W9.cell? ⟨b, o + m * 10 + 2, none⟩ = some (.int .i64 fr) ∧ W9.cell? ⟨b, o + m * 10 + 3, none⟩ = some (.int .i64 ep) ∧ W9.cell? ⟨b, o + m * 10 + 4, none⟩ = some (.int .i64 pi) ∧ W9.cell? ⟨b, o + m * 10 + 5, none⟩ = some (.int .i64 ge) ∧ W9.cell? ⟨b, o + m * 10 + 6, none⟩ = some (.int .i64 se) ∧ W9.cell? ⟨b, o + m * 10 + 7, none⟩ = some (.bool tx) ∧ W9.cell? ⟨b, o + m * 10 + 8, none⟩ = some (.int .i64 ct) ∧ W9.cell? ⟨b, o + m * 10 + 9, none⟩ = some (.slice AR nR cR)) (wqR6.alloc (.cells #[.slice none 0 0, .slice none 0 0, .slice none 0 0] 25)) from ⟨HX5_y.out.cell 0, HX5_y.out.cell 1, HX5_y.out.cell 2, HBN_y.out.2 0 _ rfl, HBN_y.out.2 1 _ rfl, HBN_y.out.2 2 _ rfl, HBN_y.out.2 3 _ rfl, HBN_y.out.2 4 _ rfl, HBN_y.out.2 5 _ rfl, HBN_y.out.2 6 _ rfl, HBN_y.out.2 7 _ rfl, HBN_y.out.2 8 _ rfl, HBN_y.out.2 9 _ rfl⟩)
        clear hb
        refine ⟨by exact HSR6_5_9.out, ?_⟩
        refine xc 10 HOPS ?_
        go_simp
        have hb := belA wqR6 (.cells #[.slice Ax nx cx, .slice Axg nxg cxg, .slice Axd nxd cxd] 25)
        have HB_x := Lib.hid (bel_trans HB_qR65.out hb)
        have HL_x := Lib.hid (rdlUp9 HL_qR65.out hb)
        have HT_x := Lib.hid (rdtUp9 HT_qR65.out hb)
        have HRv_x := Lib.hid (HRv_qR65.out.below hb)
        have HX5_x := Lib.hid (HX5_qR65.out.below hb)
        have HRR_x := Lib.hid (rdrUp9 HRR_qR65.out hb)
        have HBN_x := Lib.hid (HBN_qR65.out.below hb)
        have HSR6_5_10 := Lib.hid (show (fun W9 : World => W9.cell? ⟨p5, 0, none⟩ = some (.slice Av nv cv) ∧ W9.cell? ⟨p5, 1, none⟩ = some (.slice Avg nvg cvg) ∧ W9.cell? ⟨p5, 2, none⟩ = some (.slice Avd nvd cvd) ∧ W9.cell? ⟨b, o + m * 10, none⟩ = some (.int .i64 ba) ∧ W9.cell? ⟨b, o + m * 10 + 1, none⟩ = some (.int .i64 la) ∧ W9.cell? ⟨b, o + m * 10 + 2, none⟩ = some (.int .i64 fr) ∧ W9.cell? ⟨b, o + m * 10 + 3, none⟩ = some (.int .i64 ep) ∧ W9.cell? ⟨b, o + m * 10 + 4, none⟩ = some (.int .i64 pi) ∧ W9.cell? ⟨b, o + m * 10 + 5, none⟩ = some (.int .i64 ge) ∧ W9.cell? ⟨b, o + m * 10 + 6, none⟩ = some (.int .i64 se) ∧ W9.cell? ⟨b, o + m * 10 + 7, none⟩ = some (.bool tx) ∧ W9.cell? ⟨b, o + m * 10 + 8, none⟩ = some (.int .i64 ct) ∧ W9.cell? ⟨b, o + m * 10 + 9, none⟩ = some (.slice AR nR cR)) (wqR6.alloc (.cells #[.slice Ax nx cx, .slice Axg nxg cxg, .slice Axd nxd cxd] 25)) from ⟨HX5_x.out.cell 0, HX5_x.out.cell 1, HX5_x.out.cell 2, HBN_x.out.2 0 _ rfl, HBN_x.out.2 1 _ rfl, HBN_x.out.2 2 _ rfl, HBN_x.out.2 3 _ rfl, HBN_x.out.2 4 _ rfl, HBN_x.out.2 5 _ rfl, HBN_x.out.2 6 _ rfl, HBN_x.out.2 7 _ rfl, HBN_x.out.2 8 _ rfl, HBN_x.out.2 9 _ rfl⟩)
        clear hb
        refine ⟨HSR6_5_10.out, ?_⟩
        refine xq 11 HOPS HREG HSR6_5_10.out ?_; simp only [ls0, ls1]
        refine stepE HOPS (by kernel_rfl) (HQ.out _ _ ?_)
        clear HQ HREG HOPS
        clear Q ops
        go_wp2
        go_meet
        exact ⟨wqR6.heap.size, Ax, nx, cx, Axg, nxg, cxg, Axd, nxd, cxd, HBW.out.size, rfl, rfl, At0.new wqR6 [.slice Ax nx cx, .slice Axg nxg cxg, .slice Axd nxd cxd] _, HY.out.below (belA wqR6 _), bel_alloc (bel_trans (Below.refl w4.heap.size w4).drew HBW.out) _⟩
      · go_simp
        have hb := (show Below w4.heap.size w4 (w4.alloc (.cells #[.slice none 0 0, .slice none 0 0, .slice none 0 0] 25)).drew from (belA _ _).drew)
        have HB_z := Lib.hid (bel_trans HB_4.out hb)
        have HL_z := Lib.hid (rdlUp9 HL_4.out hb)
        have HT_z := Lib.hid (rdtUp9 HT_4.out hb)
        have HRv_z := Lib.hid (HRv_4.out.below hb)
        have HX5_z := Lib.hid (HX5_4.out.below hb)
        have HRR_z := Lib.hid (rdrUp9 HRR_4.out hb)
        have HBN_z := Lib.hid (HBN_4.out.below hb)
        have HP_z := Lib.hid (show At0 (w4.alloc (.cells #[.slice none 0 0, .slice none 0 0, .slice none 0 0] 25)).drew w4.heap.size [.slice none 0 0, .slice none 0 0, .slice none 0 0] 25 from At0.new w4 _ _)
        have HSR6_9_9 := Lib.hid (show (fun W9 : World => W9.cell? ⟨p5, 0, none⟩ = some (.slice Av nv cv) ∧ W9.cell? ⟨p5, 1, none⟩ = some (.slice Avg nvg cvg) ∧ W9.cell? ⟨p5, 2, none⟩ = some (.slice Avd nvd cvd) ∧ W9.cell? ⟨b, o + m * 10, none⟩ = some (.int .i64 ba) ∧ W9.cell? ⟨b, o + m * 10 + 1, none⟩ = some (.int .i64 la) ∧ W9.cell? ⟨b, o + m * 10 + 2, none⟩ = some (.int .i64 fr) ∧ W9.cell? ⟨b, o + m * 10 + 3, none⟩ = some (.int .i64 ep) ∧ W9.cell? ⟨b, o + m * 10 + 4, none⟩ = some (.int .i64 pi) ∧ W9.cell? ⟨b, o + m * 10 + 5, none⟩ = some (.int .i64 ge) ∧ W9.cell? ⟨b, o + m * 10 + 6, none⟩ = some (.int .i64 se) ∧ W9.cell? ⟨b, o + m * 10 + 7, none⟩ = some (.bool tx) ∧ W9.cell? ⟨b, o + m * 10 + 8, none⟩ = some (.int .i64 ct) ∧ W9.cell? ⟨b, o + m * 10 + 9, none⟩ = some (.slice AR nR cR)) (w4.alloc (.cells #[.slice none 0 0, .slice none 0 0, .slice none 0 0] 25)).drew from ⟨HX5_z.out.cell 0, HX5_z.out.cell 1, HX5_z.out.cell 2, HBN_z.out.2 0 _ rfl, HBN_z.out.2 1 _ rfl, HBN_z.out.2 2 _ rfl, HBN_z.out.2 3 _ rfl, HBN_z.out.2 4 _ rfl, HBN_z.out.2 5 _ rfl, HBN_z.out.2 6 _ rfl, HBN_z.out.2 7 _ rfl, HBN_z.out.2 8 _ rfl, HBN_z.out.2 9 _ rfl⟩)
        clear hb
        refine ⟨by exact HSR6_9_9.out, ?_⟩
        refine xc 5 HOPS ?_
        go_simp
        with_reducible refine (dPutT_is Av nv cv Avg nvg cvg Avd nvd cvd t ba la fr ep pi ge se tx ct AR nR cR rs _ HRv_z.out hF3 HFB.out HRR_z.out hnR HPU.out).mono ?_
        rintro e wqR6 ⟨Ax, nx, cx, Axg, nxg, cxg, Axd, nxd, cxd, rfl, ho, hb⟩
        have HB_qR69 := Lib.hid (bel_trans HB_z.out hb)
        have HL_qR69 := Lib.hid (rdlUp9 HL_z.out hb)
        have HT_qR69 := Lib.hid (rdtUp9 HT_z.out hb)
        have HRv_qR69 := Lib.hid (HRv_z.out.below hb)
        have HX5_qR69 := Lib.hid (HX5_z.out.below hb)
        have HRR_qR69 := Lib.hid (rdrUp9 HRR_z.out hb)
        have HBN_qR69 := Lib.hid (HBN_z.out.below hb)
        have HP_qR69 := Lib.hid (HP_z.out.below hb)
        have HY := Lib.hid ho
        have HBW := Lib.hid hb
        clear ho
        have hltwqR6 := hb.size
        have HSR6_9_5 := Lib.hid (show (fun W9 : World => W9.cell? ⟨p5, 0, none⟩ = some (.slice Av nv cv) ∧ W9.cell? ⟨p5, 1, none⟩ = some (.slice Avg nvg cvg) ∧ W9.cell? ⟨p5, 2, none⟩ = some (.slice Avd nvd cvd) ∧ W9.cell? ⟨b, o + m * 10, none⟩ = some (.int .i64 ba) ∧ W9.cell? ⟨b, o + m * 10 + 1, none⟩ = some (.int .i64 la) ∧ W9.cell? ⟨b, o + m * 10 + 2, none⟩ = some (.int .i64 fr) ∧ W9.cell? ⟨b, o + m * 10 + 3, none⟩ = some (.int .i64 ep) ∧ W9.cell? ⟨b, o + m * 10 + 4, none⟩ = some (.int .i64 pi) ∧ W9.cell? ⟨b, o + m * 10 + 5, none⟩ = some (.int .i64 ge) ∧ W9.cell? ⟨b, o + m * 10 + 6, none⟩ = some (.int .i64 se) ∧ W9.cell? ⟨b, o + m * 10 + 7, none⟩ = some (.bool tx) ∧ W9.cell? ⟨b, o + m * 10 + 8, none⟩ = some (.int .i64 ct) ∧ W9.cell? ⟨b, o + m * 10 + 9, none⟩ = some (.slice AR nR cR)) wqR6 from ⟨HX5_qR69.out.cell 0, HX5_qR69.out.cell 1, HX5_qR69.out.cell 2, HBN_qR69.out.2 0 _ rfl, HBN_qR69.out.2 1 _ rfl, HBN_qR69.out.2 2 _ rfl, HBN_qR69.out.2 3 _ rfl, HBN_qR69.out.2 4 _ rfl, HBN_qR69.out.2 5 _ rfl, HBN_qR69.out.2 6 _ rfl, HBN_qR69.out.2 7 _ rfl, HBN_qR69.out.2 8 _ rfl, HBN_qR69.out.2 9 _ rfl⟩)
        clear hb
        refine ⟨HSR6_9_5.out, ?_⟩
        refine xq 6 HOPS HREG HSR6_9_5.out ?_; simp only [ls0, ls1]; refine xq 7 HOPS HREG HSR6_9_5.out ?_; simp only [ls0, ls1]; refine xq 8 HOPS HREG HSR6_9_5.out ?_; simp only [ls0, ls1]
        refine xc 10 HOPS ?_
        have hp := HP_qR69.out
        have hpl := hp.lt
        have hp0 := hp.cell 0
        have hp1 := hp.cell 1
        have hp2 := hp.cell 2
        have hpf0 := hp.frozen 0
        have hpf1 := hp.frozen 1
        have hpf2 := hp.frozen 2
        simp only [List.getElem?_cons_zero, List.getElem?_cons_succ] at hp0 hp1 hp2
        go_simp
        have hblHX5 := HX5_4.out.lt
        have hblHBN := HBN_4.out.1
        obtain ⟨hx5B_0, hx5B_1, hx5B_2⟩ := cel3 HX5_qR69.out
        have hbnB_0 : wqR6.cell? ⟨b, o + m * 10, none⟩ = some (.int .i64 ba) := HBN_qR69.out.2 0 _ rfl
        have hbnB_1 : wqR6.cell? ⟨b, o + m * 10 + 1, none⟩ = some (.int .i64 la) := HBN_qR69.out.2 1 _ rfl
        have hbnB_2 : wqR6.cell? ⟨b, o + m * 10 + 2, none⟩ = some (.int .i64 fr) := HBN_qR69.out.2 2 _ rfl
        have hbnB_3 : wqR6.cell? ⟨b, o + m * 10 + 3, none⟩ = some (.int .i64 ep) := HBN_qR69.out.2 3 _ rfl
        have hbnB_4 : wqR6.cell? ⟨b, o + m * 10 + 4, none⟩ = some (.int .i64 pi) := HBN_qR69.out.2 4 _ rfl
        have hbnB_5 : wqR6.cell? ⟨b, o + m * 10 + 5, none⟩ = some (.int .i64 ge) := HBN_qR69.out.2 5 _ rfl
        have hbnB_6 : wqR6.cell? ⟨b, o + m * 10 + 6, none⟩ = some (.int .i64 se) := HBN_qR69.out.2 6 _ rfl
        have hbnB_7 : wqR6.cell? ⟨b, o + m * 10 + 7, none⟩ = some (.bool tx) := HBN_qR69.out.2 7 _ rfl
        have hbnB_8 : wqR6.cell? ⟨b, o + m * 10 + 8, none⟩ = some (.int .i64 ct) := HBN_qR69.out.2 8 _ rfl
        have hbnB_9 : wqR6.cell? ⟨b, o + m * 10 + 9, none⟩ = some (.slice AR nR cR) := HBN_qR69.out.2 9 _ rfl
        have HSR6_B10 := Lib.hid (show (fun W9 : World => W9.cell? ⟨p5, 0, none⟩ = some (.slice Av nv cv) ∧ W9.cell? ⟨p5, 1, none⟩ = some (.slice Avg nvg cvg) ∧ W9.cell? ⟨p5, 2, none⟩ = some (.slice Avd nvd cvd) ∧ W9.cell? ⟨b, o + m * 10, none⟩ = some (.int .i64 ba) ∧ W9.cell? ⟨b, o + m * 10 + 1, none⟩ = some (.int .i64 la) ∧ W9.cell? ⟨b, o + m * 10 + 2, none⟩ = some (.int .i64 fr) ∧ W9.cell? ⟨b, o + m * 10 + 3, none⟩ = some (.int .i64 ep) ∧ W9.cell? ⟨b, o + m * 10 + 4, none⟩ = some (.int .i64 pi) ∧ W9.cell? ⟨b, o + m * 10 + 5, none⟩ = some (.int .i64 ge) ∧ W9.cell? ⟨b, o + m * 10 + 6, none⟩ = some (.int .i64 se) ∧ W9.cell? ⟨b, o + m * 10 + 7, none⟩ = some (.bool tx) ∧ W9.cell? ⟨b, o + m * 10 + 8, none⟩ = some (.int .i64 ct) ∧ W9.cell? ⟨b, o + m * 10 + 9, none⟩ = some (.slice AR nR cR)) (((wqR6.setCell ⟨w4.heap.size, 0, none⟩ (.slice Ax nx cx)).setCell ⟨w4.heap.size, 1, none⟩ (.slice Axg nxg cxg)).setCell ⟨w4.heap.size, 2, none⟩ (.slice Axd nxd cxd)) from ⟨(cell_off (by simp only; omega)).trans ((cell_off (by simp only; omega)).trans ((cell_off (by simp only; omega)).trans (HX5_qR69.out.cell 0))), (cell_off (by simp only; omega)).trans ((cell_off (by simp only; omega)).trans ((cell_off (by simp only; omega)).trans (HX5_qR69.out.cell 1))), (cell_off (by simp only; omega)).trans ((cell_off (by simp only; omega)).trans ((cell_off (by simp only; omega)).trans (HX5_qR69.out.cell 2))), (cell_off (by simp only; omega)).trans ((cell_off (by simp only; omega)).trans ((cell_off (by simp only; omega)).trans (HBN_qR69.out.2 0 _ rfl))), (cell_off (by simp only; omega)).trans ((cell_off (by simp only; omega)).trans ((cell_off (by simp only; omega)).trans (HBN_qR69.out.2 1 _ rfl))), (cell_off (by simp only; omega)).trans ((cell_off (by simp only; omega)).trans ((cell_off (by simp only; omega)).trans (HBN_qR69.out.2 2 _ rfl))), (cell_off (by simp only; omega)).trans ((cell_off (by simp only; omega)).trans ((cell_off (by simp only; omega)).trans (HBN_qR69.out.2 3 _ rfl))), (cell_off (by simp only; omega)).trans ((cell_off (by simp only; omega)).trans ((cell_off (by simp only; omega)).trans (HBN_qR69.out.2 4 _ rfl))), (cell_off (by simp only; omega)).trans ((cell_off (by simp only; omega)).trans ((cell_off (by simp only; omega)).trans (HBN_qR69.out.2 5 _ rfl))), (cell_off (by simp only; omega)).trans ((cell_off (by simp only; omega)).trans ((cell_off (by simp only; omega)).trans (HBN_qR69.out.2 6 _ rfl))), (cell_off (by simp only; omega)).trans ((cell_off (by simp only; omega)).trans ((cell_off (by simp only; omega)).trans (HBN_qR69.out.2 7 _ rfl))), (cell_off (by simp only; omega)).trans ((cell_off (by simp only; omega)).trans ((cell_off (by simp only; omega)).trans (HBN_qR69.out.2 8 _ rfl))), (cell_off (by simp only; omega)).trans ((cell_off (by simp only; omega)).trans ((cell_off (by simp only; omega)).trans (HBN_qR69.out.2 9 _ rfl)))⟩)
        refine ⟨by (repeat' apply And.intro) <;> first | assumption | exact (cell_off (by simp only; omega)).trans (by assumption) | exact (cell_off (by simp only; omega)).trans ((cell_off (by simp only; omega)).trans (by assumption)) | exact (cell_off (by simp only; omega)).trans ((cell_off (by simp only; omega)).trans ((cell_off (by simp only; omega)).trans (by assumption))), ?_⟩
        clear hx5B_0 hx5B_1 hx5B_2 hbnB_0 hbnB_1 hbnB_2 hbnB_3 hbnB_4 hbnB_5 hbnB_6 hbnB_7 hbnB_8 hbnB_9
        refine xq 11 HOPS HREG HSR6_B10.out ?_; simp only [ls0, ls1]
        refine stepE HOPS (by kernel_rfl) (HQ.out _ _ ?_)
        clear HQ HREG HOPS
        clear Q ops
        go_wp2
        go_meet
        have hoff := HY.out.offBelow (g := w4.heap.size) (by simp)
        exact ⟨w4.heap.size, Ax, nx, cx, Axg, nxg, cxg, Axd, nxd, cxd, Nat.le_refl _, rfl, rfl, at0_set9 (at0_set9 (at0_set9 HP_qR69.out 0 _) 1 _) 2 _, (((HY.out.set hoff 0 _).set hoff 1 _).set hoff 2 _).more (by simp), (((bel_trans (show Below w4.heap.size w4 (w4.alloc (.cells #[.slice none 0 0, .slice none 0 0, .slice none 0 0] 25)).drew from (belA w4 _).drew) HBW.out).setCell (Nat.le_refl _) _).setCell (Nat.le_refl _) _).setCell (Nat.le_refl _) _⟩
    case rest =>
      obtain ⟨PR6, Ax, nx, cx, Axg, nxg, cxg, Axd, nxd, cxd, hpb, rfl, rfl, hbx, ho, hb⟩ := hcut
      rename World => w9
      have HB_9 := Lib.hid (bel_trans HB_4.out hb)
      have HL_9 := Lib.hid (rdlUp9 HL_4.out hb)
      have HT_9 := Lib.hid (rdtUp9 HT_4.out hb)
      have HRv_9 := Lib.hid (HRv_4.out.below hb)
      have HX5_9 := Lib.hid (HX5_4.out.below hb)
      have HRR_9 := Lib.hid (rdrUp9 HRR_4.out hb)
      have HBN_9 := Lib.hid (HBN_4.out.below hb)
      have HX_9 := Lib.hid (hbx)
      have HOR6 := Lib.hid ho
      have HPBR6 := Lib.hid hpb
      have HBELR6 := Lib.hid hb
      clear hpb hbx ho hb
      have HRx_9 := Lib.hid (HOR6.out.rd)
      have HLX := Lib.hid HOR6.out.len
      have HCX := Lib.hid (show ckT X = true ∨ E ≠ 0 from by
        by_cases hE : E = 0
        · subst hE; exact .inl (put_ck HPU.out)
        · exact .inr hE)
      have hA9 : n ≤ 1000 := by omega
      by_cases hE : E = 0
      · subst hE
        have HOFX := Lib.hid (show ofT bs = X from by rw [HOF.out]; unfold onT; rw [HPU.out]; rfl)
        have HCK := Lib.hid (show ceT X = 0 from by unfold ceT; rw [if_pos (put_ck HPU.out)])
        have hS3 : nx ≤ 1000 ∧ nxg ≤ 1000 ∧ nxd ≤ 1000 := by
          have h1 := (one_step HPU.out).2.2.2.2.1
          have h2 := HTL.out
          have h3 := HLv.out
          have h4 := HLX.out
          omega
        go_upto_region 9 with fail
        have hbd := (Below.refl w9.heap.size w9).drew
        have HB_R9 := Lib.hid (bel_trans HB_9.out hbd)
        have HL_R9 := Lib.hid (rdlUp9 HL_9.out hbd)
        have HT_R9 := Lib.hid (rdtUp9 HT_9.out hbd)
        have HRv_R9 := Lib.hid (HRv_9.out.below hbd)
        have HX5_R9 := Lib.hid (HX5_9.out.below hbd)
        have HRR_R9 := Lib.hid (rdrUp9 HRR_9.out hbd)
        have HBN_R9 := Lib.hid (HBN_9.out.below hbd)
        have HX_R9 := Lib.hid (HX_9.out.below hbd)
        have HRx_R9 := Lib.hid (HRx_9.out.below hbd)
        have HSR9 := Lib.hid (show (fun W9 : World => W9.cell? ⟨PR6, 0, none⟩ = some (.slice Ax nx cx) ∧ W9.cell? ⟨PR6, 1, none⟩ = some (.slice Axg nxg cxg) ∧ W9.cell? ⟨PR6, 2, none⟩ = some (.slice Axd nxd cxd)) w9.drew from ⟨HX_R9.out.cell 0, HX_R9.out.cell 1, HX_R9.out.cell 2⟩)
        clear hbd
        refine region_let (fun W9 : World => W9.cell? ⟨PR6, 0, none⟩ = some (.slice Ax nx cx) ∧ W9.cell? ⟨PR6, 1, none⟩ = some (.slice Axg nxg cxg) ∧ W9.cell? ⟨PR6, 2, none⟩ = some (.slice Axd nxd cxd)) 99 13 hmx rfl fun ops Q HOPS HQ => ?_
        have HREG := reg_of HOPS tb_TxnsRow9 rfl (by kernel_rfl) (by kernel_rfl) (by decide)
        refine xq 0 HOPS HREG HSR9.out ?_; simp only [ls0, ls1]; refine xq 1 HOPS HREG HSR9.out ?_; simp only [ls0, ls1]; refine xq 2 HOPS HREG HSR9.out ?_; simp only [ls0, ls1]; refine xq 4 HOPS HREG HSR9.out ?_; simp only [ls0, ls1]
        refine xc 3 HOPS ?_
        go_simp
        with_reducible refine (ofR_is _ n c bs _ HT_R9.out hA9 HOFX.out).mono ?_
        rintro e w20 ⟨Az, nz, cz, Azg, nzg, czg, Azd, nzd, czd, rfl, ho, hb⟩
        have HB_20 := Lib.hid (bel_trans HB_R9.out hb)
        have HL_20 := Lib.hid (rdlUp9 HL_R9.out hb)
        have HT_20 := Lib.hid (rdtUp9 HT_R9.out hb)
        have HRv_20 := Lib.hid (HRv_R9.out.below hb)
        have HX5_20 := Lib.hid (HX5_R9.out.below hb)
        have HRR_20 := Lib.hid (rdrUp9 HRR_R9.out hb)
        have HBN_20 := Lib.hid (HBN_R9.out.below hb)
        have HX_20 := Lib.hid (HX_R9.out.below hb)
        have HRx_20 := Lib.hid (HRx_R9.out.below hb)
        have HRz_20 := Lib.hid (ho.rd)
        obtain ⟨z1, z2, z3⟩ := ho.len
        obtain ⟨y1, y2, y3⟩ := HLX.out
        obtain ⟨u1, u2, u3⟩ : nx = nz ∧ nxg = nzg ∧ nxd = nzd := ⟨by omega, by omega, by omega⟩
        subst u1 u2 u3
        clear z1 z2 z3 y1 y2 y3 ho
        have HSR9w20 := Lib.hid (show (fun W9 : World => W9.cell? ⟨PR6, 0, none⟩ = some (.slice Ax nx cx) ∧ W9.cell? ⟨PR6, 1, none⟩ = some (.slice Axg nxg cxg) ∧ W9.cell? ⟨PR6, 2, none⟩ = some (.slice Axd nxd cxd)) w20 from ⟨HX_20.out.cell 0, HX_20.out.cell 1, HX_20.out.cell 2⟩)
        clear hb
        refine ⟨HSR9w20.out, ?_⟩
        refine xc 5 HOPS ?_
        go_simp
        with_reducible refine (rSameT_is Az nx cz Azg nxg czg Azd nxd czd Ax cx Axg cxg Axd cxd X _ HRz_20.out HRx_20.out (by have := hS3.1; omega) (by have := hS3.2.1; omega) (by have := hS3.2.2; omega)).mono ?_
        rintro e w21 ⟨rfl, hb⟩
        have HB_21 := Lib.hid (bel_trans HB_20.out hb)
        have HL_21 := Lib.hid (rdlUp9 HL_20.out hb)
        have HT_21 := Lib.hid (rdtUp9 HT_20.out hb)
        have HRv_21 := Lib.hid (HRv_20.out.below hb)
        have HX5_21 := Lib.hid (HX5_20.out.below hb)
        have HRR_21 := Lib.hid (rdrUp9 HRR_20.out hb)
        have HBN_21 := Lib.hid (HBN_20.out.below hb)
        have HX_21 := Lib.hid (HX_20.out.below hb)
        have HRx_21 := Lib.hid (HRx_20.out.below hb)
        have HRz_21 := Lib.hid (HRz_20.out.below hb)
        have HSR9w21 := Lib.hid (show (fun W9 : World => W9.cell? ⟨PR6, 0, none⟩ = some (.slice Ax nx cx) ∧ W9.cell? ⟨PR6, 1, none⟩ = some (.slice Axg nxg cxg) ∧ W9.cell? ⟨PR6, 2, none⟩ = some (.slice Axd nxd cxd)) w21 from ⟨HX_21.out.cell 0, HX_21.out.cell 1, HX_21.out.cell 2⟩)
        clear hb
        refine ⟨HSR9w21.out, ?_⟩
        refine xq 6 HOPS HREG HSR9w21.out ?_; simp only [ls0, ls1]; refine xq 7 HOPS HREG HSR9w21.out ?_; simp only [ls0, ls1]; refine xq 8 HOPS HREG HSR9w21.out ?_; simp only [ls0, ls1]
        refine xc 9 HOPS ?_
        go_simp
        with_reducible refine (dCheckT_is Ax nx cx Axg nxg cxg Axd nxd cxd X _ HRx_21.out ⟨Nat.le_trans hS3.1 (by decide), Nat.le_trans hS3.2.1 (by decide), Nat.le_trans hS3.2.2 (by decide)⟩ HCK.out).mono ?_
        rintro e w22 ⟨rfl, hb⟩
        have HB_22 := Lib.hid (bel_trans HB_21.out hb)
        have HL_22 := Lib.hid (rdlUp9 HL_21.out hb)
        have HT_22 := Lib.hid (rdtUp9 HT_21.out hb)
        have HRv_22 := Lib.hid (HRv_21.out.below hb)
        have HX5_22 := Lib.hid (HX5_21.out.below hb)
        have HRR_22 := Lib.hid (rdrUp9 HRR_21.out hb)
        have HBN_22 := Lib.hid (HBN_21.out.below hb)
        have HX_22 := Lib.hid (HX_21.out.below hb)
        have HRx_22 := Lib.hid (HRx_21.out.below hb)
        have HRz_22 := Lib.hid (HRz_21.out.below hb)
        have HSR9w22 := Lib.hid (show (fun W9 : World => W9.cell? ⟨PR6, 0, none⟩ = some (.slice Ax nx cx) ∧ W9.cell? ⟨PR6, 1, none⟩ = some (.slice Axg nxg cxg) ∧ W9.cell? ⟨PR6, 2, none⟩ = some (.slice Axd nxd cxd)) w22 from ⟨HX_22.out.cell 0, HX_22.out.cell 1, HX_22.out.cell 2⟩)
        clear hb
        refine ⟨HSR9w22.out, ?_⟩
        refine xq 10 HOPS HREG HSR9w22.out ?_; simp only [ls0, ls1]; refine xq 11 HOPS HREG HSR9w22.out ?_; simp only [ls0, ls1]; refine xq 12 HOPS HREG HSR9w22.out ?_; simp only [ls0, ls1]
        refine stepE HOPS (by kernel_rfl) (HQ.out _ _ ?_)
        clear HQ HREG HOPS
        clear Q ops
        go_wp2
        go_ret
        exact ⟨rfl, HB_22.out⟩
      · have hE1 : (E == 0) = false := beq_eq_false_iff_ne.2 hE
        have hE2 : (E != 0) = true := by simp [bne, hE1]
        have HOFX := Lib.hid (show ofT bs = t from by rw [HOF.out]; unfold onT; rw [HPU.out]; exact if_neg hE)
        have HCK := Lib.hid (show ceT t = 0 from by unfold ceT; rw [if_pos (by rw [← HTT.out]; exact of_ck _)])
        have hS3 : nv ≤ 1000 ∧ nvg ≤ 1000 ∧ nvd ≤ 1000 := by have h2 := HTL.out; omega
        clear hE
        obtain ⟨hx59_0, hx59_1, hx59_2⟩ := cel3 HX5_9.out
        have f0 := HX_9.out.frozen 0
        have f1 := HX_9.out.frozen 1
        have f2 := HX_9.out.frozen 2
        have g0 := HX_9.out.cell 0
        have g1 := HX_9.out.cell 1
        have g2 := HX_9.out.cell 2
        simp only [List.getElem?_cons_zero, List.getElem?_cons_succ] at g0 g1 g2
        go_upto_region 9 with fail
        clear hx59_0 hx59_1 hx59_2 f0 f1 f2 g0 g1 g2
        have hb10 := ((HBELR6.out.setCell (p := ⟨PR6, 0, none⟩) HPBR6.out (.slice Av nv cv)).setCell (p := ⟨PR6, 1, none⟩) HPBR6.out (.slice Avg nvg cvg)).setCell (p := ⟨PR6, 2, none⟩) HPBR6.out (.slice Avd nvd cvd)
        have HB_10 := Lib.hid (bel_trans HB_4.out hb10)
        have HT_10 := Lib.hid (rdtUp9 HT_4.out hb10)
        have HRv_10 := Lib.hid (HRv_4.out.below hb10)
        have HX_10 := Lib.hid (show At0 (((w9.setCell ⟨PR6, 0, none⟩ (.slice Av nv cv)).setCell ⟨PR6, 1, none⟩ (.slice Avg nvg cvg)).setCell ⟨PR6, 2, none⟩ (.slice Avd nvd cvd)) PR6 [.slice Av nv cv, .slice Avg nvg cvg, .slice Avd nvd cvd] 25 from at0_set9 (at0_set9 (at0_set9 HX_9.out 0 _) 1 _) 2 _)
        clear hb10
        generalize (((w9.setCell ⟨PR6, 0, none⟩ (.slice Av nv cv)).setCell ⟨PR6, 1, none⟩ (.slice Avg nvg cvg)).setCell ⟨PR6, 2, none⟩ (.slice Avd nvd cvd)) = w10 at *
        have hbd := (Below.refl w10.heap.size w10).drew
        have HB_R9 := Lib.hid (bel_trans HB_10.out hbd)
        have HT_R9 := Lib.hid (rdtUp9 HT_10.out hbd)
        have HRv_R9 := Lib.hid (HRv_10.out.below hbd)
        have HX_R9 := Lib.hid (HX_10.out.below hbd)
        have HSR9 := Lib.hid (show (fun W9 : World => W9.cell? ⟨PR6, 0, none⟩ = some (.slice Av nv cv) ∧ W9.cell? ⟨PR6, 1, none⟩ = some (.slice Avg nvg cvg) ∧ W9.cell? ⟨PR6, 2, none⟩ = some (.slice Avd nvd cvd)) w10.drew from ⟨HX_R9.out.cell 0, HX_R9.out.cell 1, HX_R9.out.cell 2⟩)
        clear hbd
        refine region_let (fun W9 : World => W9.cell? ⟨PR6, 0, none⟩ = some (.slice Av nv cv) ∧ W9.cell? ⟨PR6, 1, none⟩ = some (.slice Avg nvg cvg) ∧ W9.cell? ⟨PR6, 2, none⟩ = some (.slice Avd nvd cvd)) 99 13 hmx rfl fun ops Q HOPS HQ => ?_
        have HREG := reg_of HOPS tb_TxnsRow9 rfl (by kernel_rfl) (by kernel_rfl) (by decide)
        refine xq 0 HOPS HREG HSR9.out ?_; simp only [ls0, ls1]; refine xq 1 HOPS HREG HSR9.out ?_; simp only [ls0, ls1]; refine xq 2 HOPS HREG HSR9.out ?_; simp only [ls0, ls1]; refine xq 4 HOPS HREG HSR9.out ?_; simp only [ls0, ls1]
        refine xc 3 HOPS ?_
        go_simp
        with_reducible refine (ofR_is _ n c bs _ HT_R9.out hA9 HOFX.out).mono ?_
        rintro e w20 ⟨Az, nz, cz, Azg, nzg, czg, Azd, nzd, czd, rfl, ho, hb⟩
        have HB_20 := Lib.hid (bel_trans HB_R9.out hb)
        have HT_20 := Lib.hid (rdtUp9 HT_R9.out hb)
        have HRv_20 := Lib.hid (HRv_R9.out.below hb)
        have HX_20 := Lib.hid (HX_R9.out.below hb)
        have HRz_20 := Lib.hid (ho.rd)
        obtain ⟨z1, z2, z3⟩ := ho.len
        obtain ⟨y1, y2, y3⟩ := HLv.out
        obtain ⟨u1, u2, u3⟩ : nv = nz ∧ nvg = nzg ∧ nvd = nzd := ⟨by omega, by omega, by omega⟩
        subst u1 u2 u3
        clear z1 z2 z3 y1 y2 y3 ho
        have HSR9w20 := Lib.hid (show (fun W9 : World => W9.cell? ⟨PR6, 0, none⟩ = some (.slice Av nv cv) ∧ W9.cell? ⟨PR6, 1, none⟩ = some (.slice Avg nvg cvg) ∧ W9.cell? ⟨PR6, 2, none⟩ = some (.slice Avd nvd cvd)) w20 from ⟨HX_20.out.cell 0, HX_20.out.cell 1, HX_20.out.cell 2⟩)
        clear hb
        refine ⟨HSR9w20.out, ?_⟩
        refine xc 5 HOPS ?_
        go_simp
        with_reducible refine (rSameT_is Az nv cz Azg nvg czg Azd nvd czd Av cv Avg cvg Avd cvd t _ HRz_20.out HRv_20.out (by have := hS3.1; omega) (by have := hS3.2.1; omega) (by have := hS3.2.2; omega)).mono ?_
        rintro e w21 ⟨rfl, hb⟩
        have HB_21 := Lib.hid (bel_trans HB_20.out hb)
        have HT_21 := Lib.hid (rdtUp9 HT_20.out hb)
        have HRv_21 := Lib.hid (HRv_20.out.below hb)
        have HX_21 := Lib.hid (HX_20.out.below hb)
        have HRz_21 := Lib.hid (HRz_20.out.below hb)
        have HSR9w21 := Lib.hid (show (fun W9 : World => W9.cell? ⟨PR6, 0, none⟩ = some (.slice Av nv cv) ∧ W9.cell? ⟨PR6, 1, none⟩ = some (.slice Avg nvg cvg) ∧ W9.cell? ⟨PR6, 2, none⟩ = some (.slice Avd nvd cvd)) w21 from ⟨HX_21.out.cell 0, HX_21.out.cell 1, HX_21.out.cell 2⟩)
        clear hb
        refine ⟨HSR9w21.out, ?_⟩
        refine xq 6 HOPS HREG HSR9w21.out ?_; simp only [ls0, ls1]; refine xq 7 HOPS HREG HSR9w21.out ?_; simp only [ls0, ls1]; refine xq 8 HOPS HREG HSR9w21.out ?_; simp only [ls0, ls1]
        refine xc 9 HOPS ?_
        go_simp
        with_reducible refine (dCheckT_is Av nv cv Avg nvg cvg Avd nvd cvd t _ HRv_21.out ⟨Nat.le_trans hS3.1 (by decide), Nat.le_trans hS3.2.1 (by decide), Nat.le_trans hS3.2.2 (by decide)⟩ HCK.out).mono ?_
        rintro e w22 ⟨rfl, hb⟩
        have HB_22 := Lib.hid (bel_trans HB_21.out hb)
        have HT_22 := Lib.hid (rdtUp9 HT_21.out hb)
        have HRv_22 := Lib.hid (HRv_21.out.below hb)
        have HX_22 := Lib.hid (HX_21.out.below hb)
        have HRz_22 := Lib.hid (HRz_21.out.below hb)
        have HSR9w22 := Lib.hid (show (fun W9 : World => W9.cell? ⟨PR6, 0, none⟩ = some (.slice Av nv cv) ∧ W9.cell? ⟨PR6, 1, none⟩ = some (.slice Avg nvg cvg) ∧ W9.cell? ⟨PR6, 2, none⟩ = some (.slice Avd nvd cvd)) w22 from ⟨HX_22.out.cell 0, HX_22.out.cell 1, HX_22.out.cell 2⟩)
        clear hb
        refine ⟨HSR9w22.out, ?_⟩
        refine xq 10 HOPS HREG HSR9w22.out ?_; simp only [ls0, ls1]; refine xq 11 HOPS HREG HSR9w22.out ?_; simp only [ls0, ls1]; refine xq 12 HOPS HREG HSR9w22.out ?_; simp only [ls0, ls1]
        refine stepE HOPS (by kernel_rfl) (HQ.out _ _ ?_)
        clear HQ HREG HOPS
        clear Q ops
        go_wp2
        go_ret
        exact ⟨rfl, HB_22.out⟩
end Go.Proofs.YtlfbagkonckffaaGreat.Txn

namespace Go.Proofs.YtlfbagkonckffaaGreat.txnsRow
open Go.ChangeShapes Go.WideShapes Go.ChangeAt Go.RowKit

theorem own : ownKnob Tryz.prog.godebug = none := by kernel_rfl
theorem laidOut : laidOutB Tryz.prog = true := by kernel_rfl

set_option maxRecDepth 100000 in
theorem lifted (os : Os) (started : os.Started) (H : Type) (enc : TypeId × Value → H) :
    ReturnsInHanded {} Tryz.checked os 9 .any (Rows.txnsRowSpec.pre6 enc Tryz.prog Tryz.f9 Rows.txnsRowRow.domain false) (Rows.txnsRowSpec.post enc Tryz.prog Tryz.f9 false true false false) := by
  refine returnsInHanded_of_change_sized (C := Tryz.checked) own started (by kernel_rfl) Tryz.func9
    (ChangeSpec.witness6 (enc := enc) (C := Tryz.checked) false ⟨#[], #[.slice none 0 0], []⟩ 8 (by kernel_rfl) (by kernel_rfl) (by kernel_rfl) (by kernel_rfl)) ?_
  intro W base args ds gs before hval0 hW _ hwt _
  have hval : ∀ (j : Nat) t v, Tryz.f9.params[j]? = some t → args[j]? = some v → Value.okWide Tryz.prog W .any base t v := hval0
  have hW' := hW
  obtain ⟨p, q, hA0, hV, rfl, hfz, hnd⟩ := hW
  have hA : DataW.TrodAll enc Tryz.prog W 0 (fun _ => true) true Tryz.f9.params.toList args.toList ds p := hA0
  rw [Tryz.params9] at hA hval
  obtain ⟨v0, vs0, d0, ds0, p0, q0, hargs, rfl, rfl, h0, r0⟩ := trodAll_cons hA
  obtain ⟨rfl, rfl, rfl⟩ := trodAll_nil r0
  obtain rfl : args = #[v0] := by cases args; simp_all
  obtain ⟨rfl, rfl⟩ := trodVars_none hV
  have k0 := h0
  have lt0 : ∀ x ∈ p0, x.block < W.heap.size := by obtain ⟨m, hm⟩ := k0; exact DataW.trod_lt m _ _ _ hm
  obtain ⟨A_0, n_0, c_0, l_0, rfl, hc_0, hk_0, hR_0⟩ := Bat.open_batches (hval 0 38 v0 rfl rfl) h0 (Bat.weights_arg (j := 0) hwt (by kernel_rfl) rfl)
  clear hA0 hval0
  refine (Txn.txnsRow_walk A_0 n_0 c_0 l_0 W hc_0 hk_0 hR_0).mono fun e W' ⟨he, bel⟩ => ?_
  subst he
  exact ⟨_, rfl, _, _, _, [], _, [], hW', trodAll_mk1 (shut_bool Tryz.underlying4 _), (trodAll_cons_mk (Below.trod laidOut (by kernel_rfl) (of_decide_eq_true (by kernel_rfl)) k0 bel lt0) trodAll_mk0), rfl, bel.frame _, fun h => by cases h⟩

theorem over : Rows.txnsRowRow.holds Tryz.pinned (OpenSpec.ofChange Rows.txnsRowSpec) :=
  OpenClaim.holds_of_wide 9 Tryz.f9 rfl rfl rfl rfl rfl rfl rfl ⟨rfl, rfl, rfl, rfl, rfl⟩ rfl rfl rfl rfl rfl (by kernel_rfl) Tryz.func9 (by kernel_rfl)
    (of_decide_eq_true (by kernel_rfl)) (by unfold Func.isWrapper; first | (rw [if_pos (by decide +kernel)]; kernel_rfl) | (rw [if_neg (by decide +kernel)]; exact ⟨rfl, rfl⟩))
    (fun os started H enc _ => lifted os started H enc)

theorem proved : Rows.TxnsRowSaid :=
  over
#print axioms proved
end Go.Proofs.YtlfbagkonckffaaGreat.txnsRow
