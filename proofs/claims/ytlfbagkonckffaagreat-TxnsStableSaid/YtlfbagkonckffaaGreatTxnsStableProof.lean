/- What is stable stays so, and below it no batch is of one that is open, whatever the batches and how many of them; no condition.
-/
import Derived.Test.YtlfbagkonckffaaGreatJ48
import Derived.Test.YtlfbagkonckffaaGreatJ34
import Derived.Test.YtlfbagkonckffaaGreatJ33
import Derived.Test.YtlfbagkonckffaaGreatJ49
import Derived.Test.YtlfbagkonckffaaGreatJ12
import Derived.Test.YtlfbagkonckffaaGreatJ11
import Derived.Deep.DeepCutAuto
import Derived.Test.YtlfbagkonckffaaGreatRows
import Derived.WalkKit
import Derived.ProofKit
import Derived.OpenShut
import Derived.ChangeOld
import Derived.Below
import Derived.Carry
import Derived.Test.YtlfbagkonckffaaGreatJ06
import Derived.Test.YtlfbagkonckffaaGreatJ08
import Derived.SizedLaws
/- The walk of TxnsStable. -/
namespace Go.Proofs.YtlfbagkonckffaaGreat.Txn
open Go.RowKit Oct Rec RowF Lay InR Bat
open Epo (At0 AtO belA cel2)
open Sqs (at0_set9)
open Chn (i64_and)

def tb_TxnsStable7 : List (Nat × Nat) := [(0, 1023), (0, 1023), (0, 1023), (4, 1019), (10, 1013), (16, 1007), (32, 991), (64, 959), (129, 894), (511, 767)]
def tb_TxnsStable8 : List (Nat × Nat) := [(0, 2047), (0, 2047), (0, 2047), (4, 2043), (8, 2039), (18, 2029), (32, 2015), (64, 1983), (128, 1919), (257, 1790), (1023, 1535)]
def lpRel12 (n : Nat) (wL : World) (iv : Value) (wr : World) : Prop := ∃ j : Nat, iv = .int .i64 (j : Int) ∧ j ≤ n ∧ Below wL.heap.size wL wr
set_option maxRecDepth 100000 in
set_option maxHeartbeats 16000000 in
theorem txnsStable_walk (A : Option Addr) (n c : Nat) (bs : List Bt) (k : Int) (w : World) (hc : n ≤ c) (hk : c ≤ reach) (hR : RdL w w.heap.size A n bs) (_hj : I64 k) :
    Calls Tryz.prog 8 #[.slice A n c, .int .i64 k] w fun e w' => e = .returned (.bool true) ∧ Below w.heap.size w w' := by
  have hmx : Tryz.prog.follows .mixedOrders = true := by kernel_rfl
  have hn9 : n ≤ reach := Nat.le_trans hc hk
  have HB_0 := Lib.hid (Below.refl w.heap.size w)
  have HL_0 := Lib.hid hR
  clear hR hk
  cases hz : (bs.all fewT && decide ((bs.length : Int) ≤ 60)) with
  | false =>
    have HZ := Lib.hid hz
    clear hz
    go_enter Tryz.func8, Tryz.ntmps8
    go_wp2_with (first
      | (go_at_call 12; have HLK := Lib.hid (live12_any w); (with_reducible refine HLK.out.mono ?_); go_loud (clear HLK; rintro e w1 ⟨rfl, hb⟩; have HB_1 := Lib.hid (bel_trans HB_0.out hb); have HL_1 := Lib.hid (rdlUp9 HL_0.out hb); clear hb))
      | (go_at_call 20; have HLK := Lib.hid (few12_is bs A n c w1 HL_1.out (by omega) HZ.out); (with_reducible refine HLK.out.mono ?_); go_loud (clear HLK; rintro e w2 ⟨rfl, hb⟩; have HB_2 := Lib.hid (bel_trans HB_1.out hb); have HL_2 := Lib.hid (rdlUp9 HL_1.out hb); clear hb)))
    go_ret
    exact ⟨rfl, HB_2.out⟩
  | true =>
    have HZ := Lib.hid hz
    rw [Bool.and_eq_true, decide_eq_true_eq] at hz
    have HT_0 := Lib.hid (rdT_of HL_0.out hz.1)
    have hln := HT_0.out.len
    have hn60 : n ≤ 60 := by have := hz.2; omega
    clear hz
    cases hri : risB (-1) bs with
    | false =>
      have HRI := Lib.hid hri
      clear hri
      go_enter Tryz.func8, Tryz.ntmps8
      go_wp2_with (first
        | (go_at_call 12; have HLK := Lib.hid (live12_any w); (with_reducible refine HLK.out.mono ?_); go_loud (clear HLK; rintro e w1 ⟨rfl, hb⟩; have HB_1 := Lib.hid (bel_trans HB_0.out hb); have HL_1 := Lib.hid (rdlUp9 HL_0.out hb); have HT_1 := Lib.hid (rdtUp9 HT_0.out hb); clear hb))
        | (go_at_call 20; have HLK := Lib.hid (few12_is bs A n c w1 HL_1.out (by omega) HZ.out); (with_reducible refine HLK.out.mono ?_); go_loud (clear HLK; rintro e w2 ⟨rfl, hb⟩; have HB_2 := Lib.hid (bel_trans HB_1.out hb); have HL_2 := Lib.hid (rdlUp9 HL_1.out hb); have HT_2 := Lib.hid (rdtUp9 HT_1.out hb); clear hb))
        | (go_at_call 33; have HLK := Lib.hid (rRising_is A n c bs w2 HT_2.out hn9 HRI.out); (with_reducible refine HLK.out.mono ?_); go_loud (clear HLK; rintro e w3 ⟨rfl, hb⟩; have HB_3 := Lib.hid (bel_trans HB_2.out hb); have HL_3 := Lib.hid (rdlUp9 HL_2.out hb); have HT_3 := Lib.hid (rdtUp9 HT_2.out hb); clear hb)))
      go_ret
      exact ⟨rfl, HB_3.out⟩
    | true =>
    have HRI := Lib.hid hri
    clear hri
    rcases Nat.eq_zero_or_pos n with hn0 | hn0
    · subst hn0
      go_enter Tryz.func8, Tryz.ntmps8
      go_wp2_with (first
        | (go_at_call 12; have HLK := Lib.hid (live12_any w); (with_reducible refine HLK.out.mono ?_); go_loud (clear HLK; rintro e w1 ⟨rfl, hb⟩; have HB_1 := Lib.hid (bel_trans HB_0.out hb); have HL_1 := Lib.hid (rdlUp9 HL_0.out hb); have HT_1 := Lib.hid (rdtUp9 HT_0.out hb); clear hb))
        | (go_at_call 20; have HLK := Lib.hid (few12_is bs A 0 c w1 HL_1.out (by omega) HZ.out); (with_reducible refine HLK.out.mono ?_); go_loud (clear HLK; rintro e w2 ⟨rfl, hb⟩; have HB_2 := Lib.hid (bel_trans HB_1.out hb); have HL_2 := Lib.hid (rdlUp9 HL_1.out hb); have HT_2 := Lib.hid (rdtUp9 HT_1.out hb); clear hb))
        | (go_at_call 33; have HLK := Lib.hid (rRising_is A 0 c bs w2 HT_2.out hn9 HRI.out); (with_reducible refine HLK.out.mono ?_); go_loud (clear HLK; rintro e w3 ⟨rfl, hb⟩; have HB_3 := Lib.hid (bel_trans HB_2.out hb); have HL_3 := Lib.hid (rdlUp9 HL_2.out hb); have HT_3 := Lib.hid (rdtUp9 HT_2.out hb); clear hb)))
      go_ret
      exact ⟨rfl, HB_3.out⟩
    obtain ⟨r, hr65, hrb⟩ := i64_and k 65535 (by decide)
    have hrb' : bits .and .i64 k 65535 = (r : Int) := hrb
    obtain ⟨q, hq⟩ : ∃ q, r % n = q := ⟨_, rfl⟩
    have hqn : q < n := by rw [← hq]; exact Nat.mod_lt r hn0
    have hqq : (r : Int) % (n : Int) = (q : Int) := by rw [← hq]; exact (Int.natCast_emod _ _).symm
    have hqt : (r : Int).tmod (n : Int) = (q : Int) := by rw [← hq]; exact (Int.ofNat_tmod _ _).symm
    have hnz : ((n : Int) == 0) = false := beq_eq_false_iff_ne.2 (by omega)
    have hnz2 : ¬ n = 0 := by omega
    obtain ⟨m, hm⟩ : ∃ m, q + 1 = m := ⟨_, rfl⟩
    obtain ⟨p, hp⟩ : ∃ p, n = p + 1 := ⟨n - 1, by omega⟩
    have hw1 : IntKind.i64.wrap (1 + (q : Int)) = (m : Int) := by rw [show 1 + (q : Int) = (m : Int) by omega]; exact IntWalk.i64_in _ (by omega)
    have hw2 : IntKind.i64.wrap ((m : Int) - 1) = (q : Int) := by rw [show (m : Int) - 1 = (q : Int) by omega]; exact IntWalk.i64_in _ (by omega)
    have hw3 : IntKind.i64.wrap ((n : Int) - 1) = (p : Int) := by rw [show (n : Int) - 1 = (p : Int) by omega]; exact IntWalk.i64_in _ (by omega)
    have hmc : (m : Int) ≤ (c : Int) := by omega
    have hm0 : (0 : Int) ≤ (m : Int) := by omega
    have hmn : m ≤ n := by omega
    have hq0 : (0 : Int) ≤ (q : Int) := by omega
    have hq1 : (q : Int) < (n : Int) := by omega
    have hp0 : (0 : Int) ≤ (p : Int) := by omega
    have hp1 : (p : Int) < (n : Int) := by omega
    have hpn : p < n := by omega
    have hm60 : m ≤ 1000 := by omega
    have hA9 : n ≤ 1000 := by omega
    obtain ⟨x, hx⟩ : ∃ x, bs[q]? = some x := ⟨bs[q]'(by omega), List.getElem?_eq_getElem _⟩
    obtain ⟨y, hy⟩ : ∃ y, bs[p]? = some y := ⟨bs[p]'(by omega), List.getElem?_eq_getElem _⟩
    have HX := Lib.hid hx
    have HY := Lib.hid hy
    obtain ⟨t, ht⟩ : ∃ t, ofT (bs.take m) = t := ⟨_, rfl⟩
    obtain ⟨u, hu⟩ : ∃ u, ofT bs = u := ⟨_, rfl⟩
    obtain ⟨xl, hxl⟩ : ∃ xl, x.last = xl := ⟨_, rfl⟩
    obtain ⟨yl, hyl⟩ : ∃ yl, y.last = yl := ⟨_, rfl⟩
    obtain ⟨x1, hx1⟩ : ∃ x1, xl + 1 = x1 := ⟨_, rfl⟩
    obtain ⟨y1, hy1⟩ : ∃ y1, yl + 1 = y1 := ⟨_, rfl⟩
    have hxf := (form_of (ris_mem HRI.out x (List.mem_of_getElem? hx)).1).1
    have hyf := (form_of (ris_mem HRI.out y (List.mem_of_getElem? hy)).1).1
    have hwx : IntKind.i64.wrap (xl + 1) = x1 := by rw [← hx1]; exact IntWalk.i64_in _ (by omega)
    have hwy : IntKind.i64.wrap (yl + 1) = y1 := by rw [← hy1]; exact IntWalk.i64_in _ (by omega)
    obtain ⟨va, hva⟩ : ∃ va, stbT t.op x1 = va := ⟨_, rfl⟩
    obtain ⟨vb, hvb⟩ : ∃ vb, stbT u.op y1 = vb := ⟨_, rfl⟩
    have HST := Lib.hid (show va ≤ vb ∧ va ≤ x1 ∧ 0 ≤ va from by
      have h9 := stable_stays (a := bs.take m) (b := bs.drop m) (x := x) (y := y) (by rw [List.take_append_drop]; exact HRI.out) (by rw [← hm]; exact last_take9 hx) (by
        rw [List.take_append_drop]
        have h8 := last_take9 hy
        rw [List.take_of_length_le (by omega)] at h8
        exact h8)
      rw [List.take_append_drop, ht, hu, hxl, hyl, hx1, hy1, hva, hvb] at h9
      exact h9)
    have HTT := Lib.hid ht
    have HUU := Lib.hid hu
    have HVA := Lib.hid hva
    have HVB := Lib.hid hvb
    have HXL := Lib.hid hxl
    have HYL := Lib.hid hyl
    have HY1 := Lib.hid hy1
    clear hrb hq hm hp hx hy ht hu hxl hyl hx1 hy1 hxf hyf hva hvb
    go_enter Tryz.func8, Tryz.ntmps8
    go_upto_region 6 with (first
      | (go_at_call 31; have HLK := Lib.hid (ofR_is A m c (bs.take m) w3 (HT_3.out.take hmn) hm60 HTT.out); (with_reducible refine HLK.out.mono ?_); go_loud (clear HLK; rintro e w4 ⟨Av, nv, cv, Avg, nvg, cvg, Avd, nvd, cvd, rfl, ho, hb⟩; have HB_4 := Lib.hid (bel_trans HB_3.out hb); have HL_4 := Lib.hid (rdlUp9 HL_3.out hb); have HT_4 := Lib.hid (rdtUp9 HT_3.out hb); have HRv_4 := Lib.hid ho.rd; have HLv := Lib.hid ho.len; clear ho; clear hb))
      | (go_at_call 33; have HLK := Lib.hid (rRising_is A n c bs w2 HT_2.out hn9 HRI.out); (with_reducible refine HLK.out.mono ?_); go_loud (clear HLK; rintro e w3 ⟨rfl, hb⟩; have HB_3 := Lib.hid (bel_trans HB_2.out hb); have HL_3 := Lib.hid (rdlUp9 HL_2.out hb); have HT_3 := Lib.hid (rdtUp9 HT_2.out hb); clear hb))
      | (go_at_call 20; have HLK := Lib.hid (few12_is bs A n c w1 HL_1.out (by omega) HZ.out); (with_reducible refine HLK.out.mono ?_); go_loud (clear HLK; rintro e w2 ⟨rfl, hb⟩; have HB_2 := Lib.hid (bel_trans HB_1.out hb); have HL_2 := Lib.hid (rdlUp9 HL_1.out hb); have HT_2 := Lib.hid (rdtUp9 HT_1.out hb); clear hb))
      | (go_at_call 12; have HLK := Lib.hid (live12_any w); (with_reducible refine HLK.out.mono ?_); go_loud (clear HLK; rintro e w1 ⟨rfl, hb⟩; have HB_1 := Lib.hid (bel_trans HB_0.out hb); have HL_1 := Lib.hid (rdlUp9 HL_0.out hb); have HT_1 := Lib.hid (rdtUp9 HT_0.out hb); clear hb)))
    have hba := belA w4 (.cells #[.slice Av nv cv, .slice Avg nvg cvg, .slice Avd nvd cvd] 25)
    have HB_5 := Lib.hid (bel_trans HB_4.out hba)
    have HL_5 := Lib.hid (rdlUp9 HL_4.out hba)
    have HT_5 := Lib.hid (rdtUp9 HT_4.out hba)
    have HRv_5 := Lib.hid (HRv_4.out.below hba)
    have HV_5 := Lib.hid (At0.new w4 [.slice Av nv cv, .slice Avg nvg cvg, .slice Avd nvd cvd] 25)
    clear hba
    generalize (w4.alloc (.cells #[.slice Av nv cv, .slice Avg nvg cvg, .slice Avd nvd cvd] 25)) = w5 at *
    obtain ⟨pv, hpv⟩ : ∃ pv, w4.heap.size = pv := ⟨_, rfl⟩
    rw [hpv] at HV_5
    simp only [hpv]
    clear hpv
    go_upto_region 7 with (first
      | (go_at_call 31; have HLK := Lib.hid (ofR_is A n c bs w5 HT_5.out hA9 HUU.out); (with_reducible refine HLK.out.mono ?_); go_loud (clear HLK; rintro e w6 ⟨Au, nu, cu, Aug, nug, cug, Aud, nud, cud, rfl, ho, hb⟩; have HB_6 := Lib.hid (bel_trans HB_5.out hb); have HL_6 := Lib.hid (rdlUp9 HL_5.out hb); have HT_6 := Lib.hid (rdtUp9 HT_5.out hb); have HRv_6 := Lib.hid (HRv_5.out.below hb); have HV_6 := Lib.hid (HV_5.out.below hb); have HRu_6 := Lib.hid ho.rd; have HLu := Lib.hid ho.len; clear ho; clear hb)))
    have hba := belA w6 (.cells #[.slice Au nu cu, .slice Aug nug cug, .slice Aud nud cud] 25)
    have HB_7 := Lib.hid (bel_trans HB_6.out hba)
    have HL_7 := Lib.hid (rdlUp9 HL_6.out hba)
    have HT_7 := Lib.hid (rdtUp9 HT_6.out hba)
    have HRv_7 := Lib.hid (HRv_6.out.below hba)
    have HV_7 := Lib.hid (HV_6.out.below hba)
    have HRu_7 := Lib.hid (HRu_6.out.below hba)
    have HU_7 := Lib.hid (At0.new w6 [.slice Au nu cu, .slice Aug nug cug, .slice Aud nud cud] 25)
    clear hba
    generalize (w6.alloc (.cells #[.slice Au nu cu, .slice Aug nug cug, .slice Aud nud cud] 25)) = w7 at *
    obtain ⟨pu, hpu⟩ : ∃ pu, w6.heap.size = pu := ⟨_, rfl⟩
    rw [hpu] at HU_7
    simp only [hpu]
    clear hpu
    have hb1 := of_len (bs.take m)
    have hb2 := of_len bs
    rw [HTT.out, List.length_take] at hb1
    rw [HUU.out] at hb2
    have hnv : nv ≤ reach := Nat.le_trans (show nv ≤ 60 by have := HLv.out; omega) (by decide)
    have hnu : nu ≤ reach := Nat.le_trans (show nu ≤ 60 by have := HLu.out; omega) (by decide)
    obtain ⟨b, o, hA, hxat⟩ := rd_last9 HT_7.out HX.out
    obtain ⟨b2, o2, hA2, hyat⟩ := rd_last9 HT_7.out HY.out
    subst hA
    injection hA2 with hA2
    injection hA2 with e1 e2 _
    subst e1 e2
    rw [HXL.out] at hxat
    rw [HYL.out] at hyat
    have HXA_7 := Lib.hid hxat
    have HYA_7 := Lib.hid hyat
    clear hb1 hb2 hxat hyat
    have hbd := (Below.refl w7.heap.size w7).drew
    have HB_R7 := Lib.hid (bel_trans HB_7.out hbd)
    have HL_R7 := Lib.hid (rdlUp9 HL_7.out hbd)
    have HT_R7 := Lib.hid (rdtUp9 HT_7.out hbd)
    have HRv_R7 := Lib.hid (HRv_7.out.below hbd)
    have HV_R7 := Lib.hid (HV_7.out.below hbd)
    have HRu_R7 := Lib.hid (HRu_7.out.below hbd)
    have HU_R7 := Lib.hid (HU_7.out.below hbd)
    have HXA_R7 := Lib.hid (HXA_7.out.below hbd)
    have HYA_R7 := Lib.hid (HYA_7.out.below hbd)
    have HSR7 := Lib.hid (show (fun W9 : World => W9.cell? ⟨pv, 0, none⟩ = some (.slice Av nv cv) ∧ W9.cell? ⟨pv, 1, none⟩ = some (.slice Avg nvg cvg) ∧ W9.cell? ⟨pv, 2, none⟩ = some (.slice Avd nvd cvd) ∧ W9.cell? ⟨b, o + q * 10 + 1, none⟩ = some (.int .i64 xl)) w7.drew from ⟨HV_R7.out.cell 0, HV_R7.out.cell 1, HV_R7.out.cell 2, HXA_R7.out.2 0 _ rfl⟩)
    clear hbd
    refine region_let (fun W9 : World => W9.cell? ⟨pv, 0, none⟩ = some (.slice Av nv cv) ∧ W9.cell? ⟨pv, 1, none⟩ = some (.slice Avg nvg cvg) ∧ W9.cell? ⟨pv, 2, none⟩ = some (.slice Avd nvd cvd) ∧ W9.cell? ⟨b, o + q * 10 + 1, none⟩ = some (.int .i64 xl)) 99 10 hmx rfl fun ops Q HOPS HQ => ?_
    have HREG := reg_of HOPS tb_TxnsStable7 rfl (by kernel_rfl) (by kernel_rfl) (by decide)
    refine xq 0 HOPS HREG HSR7.out ?_; simp only [ls0, ls1]; refine xq 1 HOPS HREG HSR7.out ?_; simp only [ls0, ls1]; refine xq 2 HOPS HREG HSR7.out ?_; simp only [ls0, ls1]; refine xq 3 HOPS HREG HSR7.out ?_; simp only [ls0, ls1]; refine xq 4 HOPS HREG HSR7.out ?_; simp only [ls0, ls1]; refine xq 5 HOPS HREG HSR7.out ?_; simp only [ls0, ls1]; refine xq 6 HOPS HREG HSR7.out ?_; simp only [ls0, ls1]; refine xq 7 HOPS HREG HSR7.out ?_; simp only [ls0, ls1]
    refine xc 8 HOPS ?_
    go_simp
    with_reducible refine (stable_is Av nv cv Avg nvg cvg Avd nvd cvd t x1 _ HRv_R7.out hnv HVA.out).mono ?_
    rintro e w20 ⟨rfl, hb⟩
    have HB_20 := Lib.hid (bel_trans HB_R7.out hb)
    have HL_20 := Lib.hid (rdlUp9 HL_R7.out hb)
    have HT_20 := Lib.hid (rdtUp9 HT_R7.out hb)
    have HRv_20 := Lib.hid (HRv_R7.out.below hb)
    have HV_20 := Lib.hid (HV_R7.out.below hb)
    have HRu_20 := Lib.hid (HRu_R7.out.below hb)
    have HU_20 := Lib.hid (HU_R7.out.below hb)
    have HXA_20 := Lib.hid (HXA_R7.out.below hb)
    have HYA_20 := Lib.hid (HYA_R7.out.below hb)
    have HSR7w20 := Lib.hid (show (fun W9 : World => W9.cell? ⟨pv, 0, none⟩ = some (.slice Av nv cv) ∧ W9.cell? ⟨pv, 1, none⟩ = some (.slice Avg nvg cvg) ∧ W9.cell? ⟨pv, 2, none⟩ = some (.slice Avd nvd cvd) ∧ W9.cell? ⟨b, o + q * 10 + 1, none⟩ = some (.int .i64 xl)) w20 from ⟨HV_20.out.cell 0, HV_20.out.cell 1, HV_20.out.cell 2, HXA_20.out.2 0 _ rfl⟩)
    clear hb
    refine ⟨HSR7w20.out, ?_⟩
    refine xq 9 HOPS HREG HSR7w20.out ?_; simp only [ls0, ls1]
    refine stepE HOPS (by kernel_rfl) (HQ.out _ _ ?_)
    clear HQ HREG HOPS
    clear Q ops
    go_upto_region 8 with fail
    have hbd := (Below.refl w20.heap.size w20).drew
    have HB_R8 := Lib.hid (bel_trans HB_20.out hbd)
    have HL_R8 := Lib.hid (rdlUp9 HL_20.out hbd)
    have HT_R8 := Lib.hid (rdtUp9 HT_20.out hbd)
    have HRv_R8 := Lib.hid (HRv_20.out.below hbd)
    have HV_R8 := Lib.hid (HV_20.out.below hbd)
    have HRu_R8 := Lib.hid (HRu_20.out.below hbd)
    have HU_R8 := Lib.hid (HU_20.out.below hbd)
    have HXA_R8 := Lib.hid (HXA_20.out.below hbd)
    have HYA_R8 := Lib.hid (HYA_20.out.below hbd)
    have HSR8 := Lib.hid (show (fun W9 : World => W9.cell? ⟨pu, 0, none⟩ = some (.slice Au nu cu) ∧ W9.cell? ⟨pu, 1, none⟩ = some (.slice Aug nug cug) ∧ W9.cell? ⟨pu, 2, none⟩ = some (.slice Aud nud cud) ∧ W9.cell? ⟨b, o + p * 10 + 1, none⟩ = some (.int .i64 yl)) w20.drew from ⟨HU_R8.out.cell 0, HU_R8.out.cell 1, HU_R8.out.cell 2, HYA_R8.out.2 0 _ rfl⟩)
    clear hbd
    refine region_let (fun W9 : World => W9.cell? ⟨pu, 0, none⟩ = some (.slice Au nu cu) ∧ W9.cell? ⟨pu, 1, none⟩ = some (.slice Aug nug cug) ∧ W9.cell? ⟨pu, 2, none⟩ = some (.slice Aud nud cud) ∧ W9.cell? ⟨b, o + p * 10 + 1, none⟩ = some (.int .i64 yl)) 99 11 hmx rfl fun ops Q HOPS HQ => ?_
    have HREG := reg_of HOPS tb_TxnsStable8 rfl (by kernel_rfl) (by kernel_rfl) (by decide)
    refine xq 0 HOPS HREG HSR8.out ?_; simp only [ls0, ls1]; refine xq 1 HOPS HREG HSR8.out ?_; simp only [ls0, ls1]; refine xq 2 HOPS HREG HSR8.out ?_; simp only [ls0, ls1]; refine xq 3 HOPS HREG HSR8.out ?_; simp only [ls0, ls1]; refine xq 4 HOPS HREG HSR8.out ?_; simp only [ls0, ls1]; refine xq 5 HOPS HREG HSR8.out ?_; simp only [ls0, ls1]; refine xq 6 HOPS HREG HSR8.out ?_; simp only [ls0, ls1]; refine xq 7 HOPS HREG HSR8.out ?_; simp only [ls0, ls1]; refine xq 8 HOPS HREG HSR8.out ?_; simp only [ls0, ls1]
    refine xc 9 HOPS ?_
    go_simp
    with_reducible refine (stable_is Au nu cu Aug nug cug Aud nud cud u y1 _ HRu_R8.out hnu HVB.out).mono ?_
    rintro e w21 ⟨rfl, hb⟩
    have HB_21 := Lib.hid (bel_trans HB_R8.out hb)
    have HL_21 := Lib.hid (rdlUp9 HL_R8.out hb)
    have HT_21 := Lib.hid (rdtUp9 HT_R8.out hb)
    have HRv_21 := Lib.hid (HRv_R8.out.below hb)
    have HV_21 := Lib.hid (HV_R8.out.below hb)
    have HRu_21 := Lib.hid (HRu_R8.out.below hb)
    have HU_21 := Lib.hid (HU_R8.out.below hb)
    have HXA_21 := Lib.hid (HXA_R8.out.below hb)
    have HYA_21 := Lib.hid (HYA_R8.out.below hb)
    have HSR8w21 := Lib.hid (show (fun W9 : World => W9.cell? ⟨pu, 0, none⟩ = some (.slice Au nu cu) ∧ W9.cell? ⟨pu, 1, none⟩ = some (.slice Aug nug cug) ∧ W9.cell? ⟨pu, 2, none⟩ = some (.slice Aud nud cud) ∧ W9.cell? ⟨b, o + p * 10 + 1, none⟩ = some (.int .i64 yl)) w21 from ⟨HU_21.out.cell 0, HU_21.out.cell 1, HU_21.out.cell 2, HYA_21.out.2 0 _ rfl⟩)
    clear hb
    refine ⟨HSR8w21.out, ?_⟩
    refine xq 10 HOPS HREG HSR8w21.out ?_; simp only [ls0, ls1]
    refine stepE HOPS (by kernel_rfl) (HQ.out _ _ ?_)
    clear HQ HREG HOPS
    clear Q ops
    have HLT := Lib.hid HST.out
    go_wp2
    go_loopw [11] (fun iv wr => lpRel12 n w21 iv wr) (fun iv _ => n - (intOf iv).toNat)
    case atStart => exact ⟨0, rfl, Nat.zero_le _, Below.refl _ _⟩
    case round =>
      obtain ⟨j, rfl, hj, hb⟩ := hrel
      have hbw9 := hb
      have HB_r := Lib.hid (bel_trans HB_21.out hb)
      have HL_r := Lib.hid (rdlUp9 HL_21.out hb)
      have HT_r := Lib.hid (rdtUp9 HT_21.out hb)
      have HRv_r := Lib.hid (HRv_21.out.below hb)
      have HV_r := Lib.hid (HV_21.out.below hb)
      have HRu_r := Lib.hid (HRu_21.out.below hb)
      have HU_r := Lib.hid (HU_21.out.below hb)
      have HXA_r := Lib.hid (HXA_21.out.below hb)
      have HYA_r := Lib.hid (HYA_21.out.below hb)
      clear hb
      have HBWR := Lib.hid hbw9
      clear hbw9
      by_cases hlt : j < n
      · obtain ⟨b3, o3, ⟨ba, la, fr, ep, pi, ge, se, tx, ct, rs⟩, AR, nR, cR, hA3, hbl, hxk, _, _, _, _, hcell⟩ := HT_r.out.at hlt
        injection hA3 with hA3
        injection hA3 with e1 e2 _
        subst e1 e2
        have d8 : wr.cell? ⟨b, o + j * 10 + 8, none⟩ = some (.int .i64 ct) := hcell 8 _ rfl
        have d7 : wr.cell? ⟨b, o + j * 10 + 7, none⟩ = some (.bool tx) := hcell 7 _ rfl
        have d0 : wr.cell? ⟨b, o + j * 10, none⟩ = some (.int .i64 ba) := hcell 0 _ rfl
        have hw5 : IntKind.i64.wrap ((j : Int) + 1) = (j : Int) + 1 := IntWalk.i64_in _ (by omega)
        have hjl : (j : Int) < (n : Int) := by omega
        have HXK := Lib.hid hxk
        clear hcell hxk hbl
        by_cases hct : ct = 0
        · subst hct
          cases tx with
          | false =>
            go_wp2
            go_roundw
            case rel => exact ⟨j + 1, by go_num, by omega, HBWR.out⟩
            case measure => simp [intOf]; omega
          | true =>
            by_cases hbb : ba < vb
            · have HK := Lib.hid (stable_known (high := y1) HRI.out (cut_at9 HXK.out) rfl rfl (by rw [HUU.out, HVB.out]; exact hbb))
              obtain ⟨z, hz⟩ : ∃ z, nxtB (bs.drop (j + 1)) pi = z := ⟨_, rfl⟩
              have HZN := Lib.hid hz
              have hzz : (z == 0) = false := beq_eq_false_iff_ne.2 (by
                have h9 := HK.out
                simp only at h9
                rw [hz] at h9
                rcases h9 with h9 | h9 <;> omega)
              clear hz
              go_wp2_with (first
                | (go_at_call 34; have HLK := Lib.hid (next_is (some ⟨b, o, none⟩) n c j bs ⟨ba, la, fr, ep, pi, ge, se, true, 0, rs⟩ wr HT_r.out hn9 HXK.out HZN.out); (with_reducible refine HLK.out.mono ?_); go_loud (clear HLK; rintro e w41 ⟨rfl, hb⟩; have HBN := Lib.hid (HBWR.out.trans (hb.mono HBWR.out.size)); have HB_41 := Lib.hid (bel_trans HB_r.out hb); have HL_41 := Lib.hid (rdlUp9 HL_r.out hb); have HT_41 := Lib.hid (rdtUp9 HT_r.out hb); have HRv_41 := Lib.hid (HRv_r.out.below hb); have HV_41 := Lib.hid (HV_r.out.below hb); have HRu_41 := Lib.hid (HRu_r.out.below hb); have HU_41 := Lib.hid (HU_r.out.below hb); have HXA_41 := Lib.hid (HXA_r.out.below hb); have HYA_41 := Lib.hid (HYA_r.out.below hb); clear hb)))
              go_roundw
              case rel => exact ⟨j + 1, by go_num, by omega, HBN.out⟩
              case measure => simp [intOf]; omega
            · go_wp2
              go_roundw
              case rel => exact ⟨j + 1, by go_num, by omega, HBWR.out⟩
              case measure => simp [intOf]; omega
        · have hcq : (ct == 0) = false := beq_eq_false_iff_ne.2 hct
          clear hct
          go_wp2
          go_roundw
          case rel => exact ⟨j + 1, by go_num, by omega, HBWR.out⟩
          case measure => simp [intOf]; omega
      · obtain rfl : j = n := by omega
        have h1 : va ≤ vb := HLT.out.1
        have h2 : va ≤ x1 := HLT.out.2.1
        have h3 : 0 ≤ va := HLT.out.2.2
        have d1 : wr.cell? ⟨b, o + q * 10 + 1, none⟩ = some (.int .i64 xl) := HXA_r.out.2 0 _ rfl
        go_wp2
        go_ret
        exact ⟨rfl, HB_r.out⟩
end Go.Proofs.YtlfbagkonckffaaGreat.Txn

namespace Go.Proofs.YtlfbagkonckffaaGreat.txnsStable
open Go.ChangeShapes Go.WideShapes Go.ChangeAt Go.RowKit

theorem own : ownKnob Tryz.prog.godebug = none := by kernel_rfl
theorem laidOut : laidOutB Tryz.prog = true := by kernel_rfl

set_option maxRecDepth 100000 in
theorem lifted (os : Os) (started : os.Started) (H : Type) (enc : TypeId × Value → H) :
    ReturnsInHanded {} Tryz.checked os 8 .any (Rows.txnsStableSpec.pre6 enc Tryz.prog Tryz.f8 Rows.txnsStableRow.domain false) (Rows.txnsStableSpec.post enc Tryz.prog Tryz.f8 false true false false) := by
  refine returnsInHanded_of_change_sized (C := Tryz.checked) own started (by kernel_rfl) Tryz.func8
    (ChangeSpec.witness6 (enc := enc) (C := Tryz.checked) false ⟨#[], #[.slice none 0 0, .int .i64 0], []⟩ 8 (by kernel_rfl) (by kernel_rfl) (by kernel_rfl) (by kernel_rfl)) ?_
  intro W base args ds gs before hval0 hW _ hwt _
  have hval : ∀ (j : Nat) t v, Tryz.f8.params[j]? = some t → args[j]? = some v → Value.okWide Tryz.prog W .any base t v := hval0
  have hW' := hW
  obtain ⟨p, q, hA0, hV, rfl, hfz, hnd⟩ := hW
  have hA : DataW.TrodAll enc Tryz.prog W 0 (fun _ => true) true Tryz.f8.params.toList args.toList ds p := hA0
  rw [Tryz.params8] at hA hval
  obtain ⟨v0, vs0, d0, ds0, p0, q0, hargs, rfl, rfl, h0, r0⟩ := trodAll_cons hA
  obtain ⟨v1, vs1, d1, ds1, p1, q1, rfl, rfl, rfl, h1, r1⟩ := trodAll_cons r0
  obtain ⟨rfl, rfl, rfl⟩ := trodAll_nil r1
  obtain rfl : args = #[v0, v1] := by cases args; simp_all
  obtain ⟨rfl, rfl⟩ := trodVars_none hV
  have k0 := h0
  have lt0 : ∀ x ∈ p0, x.block < W.heap.size := by obtain ⟨m, hm⟩ := k0; exact DataW.trod_lt m _ _ _ hm
  obtain ⟨A_0, n_0, c_0, l_0, rfl, hc_0, hk_0, hR_0⟩ := Bat.open_batches (hval 0 38 v0 rfl rfl) h0 (Bat.weights_arg (j := 0) hwt (by kernel_rfl) rfl)
  have k1 := h1
  have lt1 : ∀ x ∈ p1, x.block < W.heap.size := by obtain ⟨m, hm⟩ := k1; exact DataW.trod_lt m _ _ _ hm
  obtain ⟨a1, rfl, hi1⟩ := Oct.open_i64 Tryz.underlying3 (hval 1 3 v1 rfl rfl) h1
  clear hA0 hval0
  refine (Txn.txnsStable_walk A_0 n_0 c_0 l_0 a1 W hc_0 hk_0 hR_0 hi1).mono fun e W' ⟨he, bel⟩ => ?_
  subst he
  exact ⟨_, rfl, _, _, _, [], _, [], hW', trodAll_mk1 (shut_bool Tryz.underlying4 _), (trodAll_cons_mk (Below.trod laidOut (by kernel_rfl) (of_decide_eq_true (by kernel_rfl)) k0 bel lt0) (trodAll_cons_mk (Below.trod laidOut (by kernel_rfl) (of_decide_eq_true (by kernel_rfl)) k1 bel lt1) trodAll_mk0)), rfl, bel.frame _, fun h => by cases h⟩

theorem over : Rows.txnsStableRow.holds Tryz.pinned (OpenSpec.ofChange Rows.txnsStableSpec) :=
  OpenClaim.holds_of_wide 8 Tryz.f8 rfl rfl rfl rfl rfl rfl rfl ⟨rfl, rfl, rfl, rfl, rfl⟩ rfl rfl rfl rfl rfl (by kernel_rfl) Tryz.func8 (by kernel_rfl)
    (of_decide_eq_true (by kernel_rfl)) (by unfold Func.isWrapper; first | (rw [if_pos (by decide +kernel)]; kernel_rfl) | (rw [if_neg (by decide +kernel)]; exact ⟨rfl, rfl⟩))
    (fun os started H enc _ => lifted os started H enc)

theorem proved : Rows.TxnsStableSaid :=
  over
#print axioms proved
end Go.Proofs.YtlfbagkonckffaaGreat.txnsStable
