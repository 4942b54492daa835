/- What is open is ended once, and written down with its first offset on the side that the batch says, whatever the transactions; no condition.
-/
import Derived.Test.YtlfbagkonckffaaGreatJ47
import Derived.Test.YtlfbagkonckffaaGreatJ43
import Derived.Test.YtlfbagkonckffaaGreatJ48
import Derived.Test.YtlfbagkonckffaaGreatJ49
import Derived.BigRegion
import Derived.Test.YtlfbagkonckffaaGreatJ12
import Derived.Test.YtlfbagkonckffaaGreatJ11
import Derived.Test.YtlfbagkonckffaaGreatRows
import Derived.WalkKit
import Derived.ProofKit
import Derived.OpenShut
import Derived.ChangeOld
import Derived.Below
import Derived.Carry
import Derived.Test.YtlfbagkonckffaaGreatJ06
import Derived.Test.YtlfbagkonckffaaGreatJ09
import Derived.Test.YtlfbagkonckffaaGreatJ08
import Derived.SizedLaws
/- The walk of TxnsEnd. -/
namespace Go.Proofs.YtlfbagkonckffaaGreat.Txn
open Go.RowKit Oct Rec RowF Lay InR Bat
open Epo (At0 AtO belA cel2)
open Sqs (at0_set9)
open Chn (i64_and)

def tb_TxnsEnd4 : List (Nat × Nat) := [(0, 4095), (1, 4094), (0, 4095), (4, 4091), (0, 4095), (16, 4079), (32, 4063), (72, 4023), (130, 3965), (256, 3839), (0, 4095), (2047, 2559)]
def tb_TxnsEnd20 : List (Nat × Nat) := [(0, 8388607), (1, 8388606), (2, 8388605), (2, 8388605), (10, 8388597), (18, 8388589), (38, 8388569), (66, 8388541), (2, 8388605), (258, 8388349), (2, 8388605), (2, 8388605), (2050, 8386557), (2, 8388605), (13826, 8374781), (16514, 8372093), (32770, 8355837), (65538, 8323071), (131072, 8257535), (131072, 8257535), (917504, 7471103), (1179648, 7208959), (4194303, 6291455)]
theorem eB_ch {b p c : Int} (hb : 0 ≤ b ∧ b ≤ 1099511627776) (hp : 0 ≤ p ∧ p ≤ 1099511627776) (hc : c = 1 ∨ c = 2) : chB (eB b p c) = 0 := by
  have hf : Bat.form (eB b p c) = true := (form_iff _).2 (by
    unfold eB
    refine ⟨?_, ?_, ?_, ?_, ?_, ?_, ?_, ?_, ?_, ?_, ?_, ?_, ?_, ?_, ?_, ?_, ?_, ?_, ?_, ?_, ?_, ?_, ?_⟩
    all_goals first | (simp only; omega) | (intro h; simp only at h ⊢; exfalso; omega) | (intro _; exact ⟨rfl, rfl, rfl, hp.1⟩))
  have hl : (body (eB b p c)).length ≤ 100 := by
    unfold body eB hd tl
    simp only [vs, List.length_append, List.length_cons, List.length_nil]
    have h1 := vb_len (x := b) (by omega)
    have h2 := vb_len (x := b - b) (by omega)
    have h3 := vb_len (x := (0 : Int)) (by omega)
    have h4 := vb_len (x := p) (by omega)
    have h5 := vb_len (x := (0 : Int)) (by omega)
    have h6 : (vb (zz ((([] : List Rc).length : Nat) : Int))).length ≤ 6 := (vb_len (by simp)).2
    simp only [List.length_nil] at h6
    omega
  unfold chB
  rw [hf, byB_length, if_pos rfl, if_neg (by omega)]
set_option maxRecDepth 100000 in
set_option maxHeartbeats 16000000 in
theorem txnsEnd_walk (A : Option Addr) (n c : Nat) (A2 : Option Addr) (n2 c2 : Nat) (A3 : Option Addr) (n3 c3 : Nat) (t : Tx) (k base no : Int) (yes : Bool) (w : World) (hx : n ≤ c ∧ c ≤ reach) (_hy : n2 ≤ c2 ∧ c2 ≤ reach) (_hz : n3 ≤ c3 ∧ c3 ≤ reach) (hR : RdT w A n A2 n2 A3 n3 t) (hF : FitT t) (_hk : I64 k) (hb : I64 base) (hn : I64 no) :
    Calls Tryz.prog 7 #[.agg #[.slice A n c, .slice A2 n2 c2, .slice A3 n3 c3], .int .i64 k, .int .i64 base, .int .i64 no, .bool yes] w fun e w' => e = .returned (.bool true) ∧ Below w.heap.size w w' := by
  have hmx : Tryz.prog.follows .mixedOrders = true := by kernel_rfl
  have hba := belA w (.cells #[.slice A n c, .slice A2 n2 c2, .slice A3 n3 c3] 25)
  have HB_1 := Lib.hid hba
  have HRT_1 := Lib.hid (hR.below hba)
  have HT_1 := Lib.hid (At0.new w [.slice A n c, .slice A2 n2 c2, .slice A3 n3 c3] 25)
  have HFT := Lib.hid hF
  have HI1 := Lib.hid hb
  have HI2 := Lib.hid hn
  have HLN := Lib.hid (show t.op.length = n from hR.op.len)
  have hxn := Nat.le_trans hx.1 hx.2
  clear hba hR hF hb hn hx _hy _hz
  go_enter Tryz.func7, Tryz.ntmps7
  go_upto_region 1 with fail
  generalize hw1 : World.alloc w _ = w1
  rw [hw1] at HB_1 HRT_1 HT_1
  clear hw1
  go_upto_region 2 with (first
    | (go_at_call 12; have HLK := Lib.hid (live12_any w1); (with_reducible refine HLK.out.mono ?_); go_loud (clear HLK; rintro e w2 ⟨rfl, hb⟩; have HB_2 := Lib.hid (bel_trans HB_1.out hb); have HRT_2 := Lib.hid (HRT_1.out.below hb); have HT_2 := Lib.hid (HT_1.out.below hb); clear hb; obtain ⟨ht2_0, ht2_1, ht2_2⟩ := cel3 HT_2.out)))
  by_cases hf : n ≤ 60 ∧ n2 ≤ 60 ∧ n3 ≤ 60
  case neg =>
    have HZ := Lib.hid (decide_eq_false hf)
    clear hf
    go_wp2_with (first
      | (go_at_call 13; have HLK := Lib.hid (rFewT_is A n c A2 n2 c2 A3 n3 c3 w2 HZ.out); (with_reducible refine HLK.out.mono ?_); go_loud (clear HLK; rintro e w3 ⟨rfl, hb⟩; have HB_3 := Lib.hid (bel_trans HB_2.out hb); have HRT_3 := Lib.hid (HRT_2.out.below hb); have HT_3 := Lib.hid (HT_2.out.below hb); clear hb ht2_0 ht2_1 ht2_2; obtain ⟨ht3_0, ht3_1, ht3_2⟩ := cel3 HT_3.out)))
    go_ret
    exact ⟨rfl, HB_3.out⟩
  have HZ := Lib.hid (decide_eq_true hf)
  rcases Nat.eq_zero_or_pos n with hn0 | hn0
  · subst hn0
    clear hf
    go_wp2_with (first
      | (go_at_call 13; have HLK := Lib.hid (rFewT_is A 0 c A2 n2 c2 A3 n3 c3 w2 HZ.out); (with_reducible refine HLK.out.mono ?_); go_loud (clear HLK; rintro e w3 ⟨rfl, hb⟩; have HB_3 := Lib.hid (bel_trans HB_2.out hb); have HRT_3 := Lib.hid (HRT_2.out.below hb); have HT_3 := Lib.hid (HT_2.out.below hb); clear hb ht2_0 ht2_1 ht2_2; obtain ⟨ht3_0, ht3_1, ht3_2⟩ := cel3 HT_3.out)))
    go_ret
    exact ⟨rfl, HB_3.out⟩
  have hnz : ((n : Int) == 0) = false := beq_eq_false_iff_ne.2 (by omega)
  by_cases hbm : 1099511627776 ≤ base
  · clear hf
    go_wp2_with (first
      | (go_at_call 13; have HLK := Lib.hid (rFewT_is A n c A2 n2 c2 A3 n3 c3 w2 HZ.out); (with_reducible refine HLK.out.mono ?_); go_loud (clear HLK; rintro e w3 ⟨rfl, hb⟩; have HB_3 := Lib.hid (bel_trans HB_2.out hb); have HRT_3 := Lib.hid (HRT_2.out.below hb); have HT_3 := Lib.hid (HT_2.out.below hb); clear hb ht2_0 ht2_1 ht2_2; obtain ⟨ht3_0, ht3_1, ht3_2⟩ := cel3 HT_3.out)))
    go_ret
    exact ⟨rfl, HB_3.out⟩
  go_upto_region 4 with (first
    | (go_at_call 13; have HLK := Lib.hid (rFewT_is A n c A2 n2 c2 A3 n3 c3 w2 HZ.out); (with_reducible refine HLK.out.mono ?_); go_loud (clear HLK; rintro e w3 ⟨rfl, hb⟩; have HB_3 := Lib.hid (bel_trans HB_2.out hb); have HRT_3 := Lib.hid (HRT_2.out.below hb); have HT_3 := Lib.hid (HT_2.out.below hb); clear hb ht2_0 ht2_1 ht2_2; obtain ⟨ht3_0, ht3_1, ht3_2⟩ := cel3 HT_3.out)))
  obtain ⟨r, hr65, hrb⟩ := i64_and k 65535 (by decide)
  have hrb' : bits .and .i64 k 65535 = (r : Int) := hrb
  obtain ⟨q, hq⟩ : ∃ q, r % n = q := ⟨_, rfl⟩
  have hqn : q < n := by rw [← hq]; exact Nat.mod_lt r hn0
  have hqq : (r : Int) % (n : Int) = (q : Int) := by rw [← hq]; exact (Int.natCast_emod _ _).symm
  have hn9 : ¬ n = 0 := by omega
  have hqt : (r : Int).tmod (n : Int) = (q : Int) := by rw [← hq]; exact (Int.ofNat_tmod _ _).symm
  have hq1 : (q : Int) < (n : Int) := by omega
  have hq0 : (0 : Int) ≤ (q : Int) := by omega
  obtain ⟨⟨op, of⟩, ho⟩ : ∃ o, t.op[q]? = some o := ⟨t.op[q]'(by have := HLN.out; omega), List.getElem?_eq_getElem _⟩
  have HMEM := Lib.hid (List.mem_of_getElem? ho)
  have HOI := Lib.hid (HFT.out.op _ HMEM.out)
  obtain ⟨bo, oo, hA, hoo⟩ := rd_first (k := q) HRT_3.out.op ho
  subst hA
  have HO_3 := Lib.hid (show AtO w3 bo (oo + q * 2) [.int .i64 op, .int .i64 of] from hoo)
  clear hrb hq ho hoo ht3_0 ht3_1 ht3_2
  have hbd := (Below.refl w3.heap.size w3).drew
  have HB_R4 := Lib.hid (bel_trans HB_3.out hbd)
  have HRT_R4 := Lib.hid (HRT_3.out.below hbd)
  have HT_R4 := Lib.hid (HT_3.out.below hbd)
  have HO_R4 := Lib.hid (HO_3.out.below hbd)
  have HSR4 := Lib.hid (show (fun W9 : World => W9.cell? ⟨w.heap.size, 0, none⟩ = some (.slice (some ⟨bo, oo, none⟩) n c) ∧ W9.cell? ⟨w.heap.size, 1, none⟩ = some (.slice A2 n2 c2) ∧ W9.cell? ⟨w.heap.size, 2, none⟩ = some (.slice A3 n3 c3) ∧ W9.cell? ⟨bo, oo + q * 2, none⟩ = some (.int .i64 op) ∧ W9.cell? ⟨bo, oo + q * 2 + 1, none⟩ = some (.int .i64 of)) w3.drew from ⟨HT_R4.out.cell 0, HT_R4.out.cell 1, HT_R4.out.cell 2, HO_R4.out.2 0 _ rfl, HO_R4.out.2 1 _ rfl⟩)
  clear hbd
  refine region_let (fun W9 : World => W9.cell? ⟨w.heap.size, 0, none⟩ = some (.slice (some ⟨bo, oo, none⟩) n c) ∧ W9.cell? ⟨w.heap.size, 1, none⟩ = some (.slice A2 n2 c2) ∧ W9.cell? ⟨w.heap.size, 2, none⟩ = some (.slice A3 n3 c3) ∧ W9.cell? ⟨bo, oo + q * 2, none⟩ = some (.int .i64 op) ∧ W9.cell? ⟨bo, oo + q * 2 + 1, none⟩ = some (.int .i64 of)) 11 12 hmx rfl fun ops Q HOPS HQ => ?_
  refine yq 0 HOPS HSR4.out ?_; simp only [ls0, ls1]; refine yq 1 HOPS HSR4.out ?_; simp only [ls0, ls1]; refine yq 2 HOPS HSR4.out ?_; simp only [ls0, ls1]; refine yq 3 HOPS HSR4.out ?_; simp only [ls0, ls1]; refine yq 4 HOPS HSR4.out ?_; simp only [ls0, ls1]; refine yq 5 HOPS HSR4.out ?_; simp only [ls0, ls1]; refine yq 6 HOPS HSR4.out ?_; simp only [ls0, ls1]; refine yq 7 HOPS HSR4.out ?_; simp only [ls0, ls1]; refine yq 8 HOPS HSR4.out ?_; simp only [ls0, ls1]; refine yq 9 HOPS HSR4.out ?_; simp only [ls0, ls1]
  refine xc 10 HOPS ?_
  go_simp
  have hb := belA w3.drew (.cells #[.int .i64 0, .int .i64 0] 51)
  have HB_r4 := Lib.hid (bel_trans HB_R4.out hb)
  have HRT_r4 := Lib.hid (HRT_R4.out.below hb)
  have HT_r4 := Lib.hid (HT_R4.out.below hb)
  have HO_r4 := Lib.hid (HO_R4.out.below hb)
  have HSR4_10 := Lib.hid (show (fun W9 : World => W9.cell? ⟨w.heap.size, 0, none⟩ = some (.slice (some ⟨bo, oo, none⟩) n c) ∧ W9.cell? ⟨w.heap.size, 1, none⟩ = some (.slice A2 n2 c2) ∧ W9.cell? ⟨w.heap.size, 2, none⟩ = some (.slice A3 n3 c3) ∧ W9.cell? ⟨bo, oo + q * 2, none⟩ = some (.int .i64 op) ∧ W9.cell? ⟨bo, oo + q * 2 + 1, none⟩ = some (.int .i64 of)) (w3.drew.alloc (.cells #[.int .i64 0, .int .i64 0] 51)) from ⟨HT_r4.out.cell 0, HT_r4.out.cell 1, HT_r4.out.cell 2, HO_r4.out.2 0 _ rfl, HO_r4.out.2 1 _ rfl⟩)
  refine ⟨HSR4_10.out, ?_⟩
  refine xl 11 HOPS ?_
  go_simp
  refine stepE HOPS (by kernel_rfl) (HQ.out _ _ ?_)
  clear HQ HOPS
  clear Q ops
  have hba := (belA w3 (.cells #[.int .i64 op, .int .i64 of] 51)).drew
  have HB_4 := Lib.hid (bel_trans HB_3.out hba)
  have HRT_4 := Lib.hid (HRT_3.out.below hba)
  have HT_4 := Lib.hid (show At0 (w3.alloc (.cells #[.int .i64 op, .int .i64 of] 51)).drew w.heap.size [.slice (some ⟨bo, oo, none⟩) n c, .slice A2 n2 c2, .slice A3 n3 c3] 25 from HT_3.out.below hba)
  have HP_4 := Lib.hid (show At0 (w3.alloc (.cells #[.int .i64 op, .int .i64 of] 51)).drew w3.heap.size [.int .i64 op, .int .i64 of] 51 from At0.new w3 [.int .i64 op, .int .i64 of] 51)
  clear hba
  generalize (w3.alloc (.cells #[.int .i64 op, .int .i64 of] 51)).drew = w4 at *
  obtain ⟨po, hpo⟩ : ∃ po, w3.heap.size = po := ⟨_, rfl⟩
  rw [hpo] at HP_4
  simp only [hpo]
  clear hpo
  rcases Bool.eq_false_or_eq_true yes with rfl | rfl
  · have HFB := Lib.hid (show Fits ⟨base, base, base, 0, op, 0, no, true, 1, []⟩ from ⟨HI1.out, HI1.out, HI1.out, by unfold I64; simp, HOI.out.1, by unfold I64; simp, HI2.out, by unfold I64; simp, fun r hr => by simp at hr⟩)
    obtain ⟨X, E, hP⟩ : ∃ X E, putT t ⟨base, base, base, 0, op, 0, no, true, 1, []⟩ = (X, E) := ⟨_, _, rfl⟩
    have HPU := Lib.hid hP
    clear hP
    obtain ⟨ht4_0, ht4_1, ht4_2⟩ := cel3 HT_4.out
    obtain ⟨hp4_0, hp4_1⟩ := cel2 HP_4.out
    go_upto_region 10 with (first
      | (go_at_call 35; have HLK := Lib.hid (end_is base op 1 w4); (with_reducible refine HLK.out.mono ?_); go_loud (clear HLK; rintro e w5 ⟨rfl, hb⟩; have HB_5 := Lib.hid (bel_trans HB_4.out hb); have HRT_5 := Lib.hid (HRT_4.out.below hb); have HT_5 := Lib.hid (HT_4.out.below hb); have HP_5 := Lib.hid (HP_4.out.below hb); clear hb ht4_0 ht4_1 ht4_2 hp4_0 hp4_1)))
    have hba := belA w5 (.cells #[.int .i64 base, .int .i64 base, .int .i64 base, .int .i64 0, .int .i64 op, .int .i64 0, .int .i64 no, .bool true, .int .i64 1, .slice none 0 0] 28)
    have HB_6 := Lib.hid (bel_trans HB_5.out hba)
    have HRT_6 := Lib.hid (HRT_5.out.below hba)
    have HT_6 := Lib.hid (HT_5.out.below hba)
    have HP_6 := Lib.hid (HP_5.out.below hba)
    have HBB_6 := Lib.hid (At0.new w5 [.int .i64 base, .int .i64 base, .int .i64 base, .int .i64 0, .int .i64 op, .int .i64 0, .int .i64 no, .bool true, .int .i64 1, .slice none 0 0] 28)
    clear hba
    generalize (w5.alloc (.cells #[.int .i64 base, .int .i64 base, .int .i64 base, .int .i64 0, .int .i64 op, .int .i64 0, .int .i64 no, .bool true, .int .i64 1, .slice none 0 0] 28)) = w6 at *
    obtain ⟨pb, hpb⟩ : ∃ pb, w5.heap.size = pb := ⟨_, rfl⟩
    rw [hpb] at HBB_6
    simp only [hpb]
    clear hpb
    obtain ⟨ht6_0, ht6_1, ht6_2⟩ := cel3 HT_6.out
    obtain ⟨hbb6_0, hbb6_1, hbb6_2, hbb6_3, hbb6_4, hbb6_5, hbb6_6, hbb6_7, hbb6_8, hbb6_9⟩ := cel10 HBB_6.out
    go_upto_region 11 with (first
      | (go_at_call 15; have HLK := Lib.hid (dPutT_is (some ⟨bo, oo, none⟩) n c A2 n2 c2 A3 n3 c3 t base base base 0 op 0 no true 1 none 0 0 [] w6 HRT_6.out ⟨by omega, by omega, by omega⟩ HFB.out RdR.nil (by omega) HPU.out); (with_reducible refine HLK.out.mono ?_); go_loud (clear HLK; rintro e w7 ⟨Ax, nx, cx, Axg, nxg, cxg, Axd, nxd, cxd, rfl, ho, hb⟩; have HB_7 := Lib.hid (bel_trans HB_6.out hb); have HRT_7 := Lib.hid (HRT_6.out.below hb); have HT_7 := Lib.hid (HT_6.out.below hb); have HP_7 := Lib.hid (HP_6.out.below hb); have HBB_7 := Lib.hid (HBB_6.out.below hb); have HOx := Lib.hid ho; have HRx_7 := Lib.hid ho.rd; have HLx := Lib.hid ho.len; clear ho; clear hb ht6_0 ht6_1 ht6_2 hbb6_0 hbb6_1 hbb6_2 hbb6_3 hbb6_4 hbb6_5 hbb6_6 hbb6_7 hbb6_8 hbb6_9)))
    have hba := belA w7 (.cells #[.slice Ax nx cx, .slice Axg nxg cxg, .slice Axd nxd cxd] 25)
    have HB_8 := Lib.hid (bel_trans HB_7.out hba)
    have HRT_8 := Lib.hid (HRT_7.out.below hba)
    have HT_8 := Lib.hid (HT_7.out.below hba)
    have HP_8 := Lib.hid (HP_7.out.below hba)
    have HBB_8 := Lib.hid (HBB_7.out.below hba)
    have HRx_8 := Lib.hid (HRx_7.out.below hba)
    have HX_8 := Lib.hid (At0.new w7 [.slice Ax nx cx, .slice Axg nxg cxg, .slice Axd nxd cxd] 25)
    clear hba
    generalize (w7.alloc (.cells #[.slice Ax nx cx, .slice Axg nxg cxg, .slice Axd nxd cxd] 25)) = w8 at *
    obtain ⟨px, hpx⟩ : ∃ px, w7.heap.size = px := ⟨_, rfl⟩
    rw [hpx] at HX_8
    simp only [hpx]
    clear hpx
    by_cases hE : E = 0
    case neg =>
      have hE1 : (E == 0) = false := beq_eq_false_iff_ne.2 hE
      have hE2 : (E != 0) = true := by simp [bne, hE1]
      clear hE
      go_wp2
      go_ret
      exact ⟨rfl, HB_8.out⟩
    subst hE
    have HOK := Lib.hid (put_ok HPU.out)
    have HST := Lib.hid (one_step HPU.out)
    have HFO := Lib.hid (form_of HOK.out.2.1).1
    obtain ⟨b1, hb1⟩ : ∃ b1, base + 1 = b1 := ⟨_, rfl⟩
    have hwb : IntKind.i64.wrap (base + 1) = b1 := by rw [← hb1]; exact IntWalk.i64_in _ (by have h9 := HFO.out; simp only at h9; omega)
    have HOM := Lib.hid (show 0 ≤ op ∧ op ≤ 1099511627776 from by have h9 := chO_mem (ckT_iff.1 HOK.out.1).1 _ HMEM.out; simp only at h9; omega)
    have HCA := Lib.hid (show chB ⟨b1, b1, b1, 0, op, 0, 0, true, 1, []⟩ = 0 from eB_ch (b := b1) (p := op) (c := 1) (by have h9 := HFO.out; simp only at h9; omega) HOM.out (by omega))
    have HEO := Lib.hid (end_once (a := ⟨b1, b1, b1, 0, op, 0, 0, true, 1, []⟩) (o := ⟨op, of⟩) HPU.out HMEM.out rfl (by simp) HCA.out hb1.symm rfl (by simp))
    have HB1I := Lib.hid (show I64 b1 from by have h9 := HFO.out; simp only at h9; unfold I64; omega)
    have HF2 := Lib.hid (show Fits ⟨b1, b1, b1, 0, op, 0, 0, true, 1, []⟩ from ⟨HB1I.out, HB1I.out, HB1I.out, by unfold I64; simp, HOI.out.1, by unfold I64; simp, by unfold I64; simp, by unfold I64; simp, fun r hr => by simp at hr⟩)
    have HLS := Lib.hid (HEO.out.2.2.1 rfl)
    have hlx := HLx.out
    have hlt := HRT_4.out.op.len
    have hlt2 := HRT_4.out.gone.len
    have hlt3 := HRT_4.out.done.len
    have hst := HST.out.2.2.2.2.1
    have hle := HEO.out.2.1
    have hB3 : nx ≤ 1000 ∧ nxg ≤ 1000 ∧ nxd ≤ 1000 := by omega
    have hnx : nx + 1 = n := by omega
    have hll : n3 + 1 = nxd := by
      have h9 := congrArg List.length HLS.out
      rw [List.length_append, List.length_singleton] at h9
      omega
    clear hlx hlt hlt2 hlt3 hst hle hb1
    obtain ⟨hp8_0, hp8_1⟩ := cel2 HP_8.out
    go_upto_region 14 with (first
      | (go_at_call 35; have HLK := Lib.hid (end_is b1 op 1 w8); (with_reducible refine HLK.out.mono ?_); go_loud (clear HLK; rintro e w9 ⟨rfl, hb⟩; have HB_9 := Lib.hid (bel_trans HB_8.out hb); have HRT_9 := Lib.hid (HRT_8.out.below hb); have HT_9 := Lib.hid (HT_8.out.below hb); have HP_9 := Lib.hid (HP_8.out.below hb); have HBB_9 := Lib.hid (HBB_8.out.below hb); have HRx_9 := Lib.hid (HRx_8.out.below hb); have HX_9 := Lib.hid (HX_8.out.below hb); clear hb hp8_0 hp8_1)))
    have hba := belA w9 (.cells #[.int .i64 b1, .int .i64 b1, .int .i64 b1, .int .i64 0, .int .i64 op, .int .i64 0, .int .i64 0, .bool true, .int .i64 1, .slice none 0 0] 28)
    have HB_10 := Lib.hid (bel_trans HB_9.out hba)
    have HRT_10 := Lib.hid (HRT_9.out.below hba)
    have HT_10 := Lib.hid (HT_9.out.below hba)
    have HP_10 := Lib.hid (HP_9.out.below hba)
    have HBB_10 := Lib.hid (HBB_9.out.below hba)
    have HRx_10 := Lib.hid (HRx_9.out.below hba)
    have HX_10 := Lib.hid (HX_9.out.below hba)
    have HBA_10 := Lib.hid (At0.new w9 [.int .i64 b1, .int .i64 b1, .int .i64 b1, .int .i64 0, .int .i64 op, .int .i64 0, .int .i64 0, .bool true, .int .i64 1, .slice none 0 0] 28)
    clear hba
    generalize (w9.alloc (.cells #[.int .i64 b1, .int .i64 b1, .int .i64 b1, .int .i64 0, .int .i64 op, .int .i64 0, .int .i64 0, .bool true, .int .i64 1, .slice none 0 0] 28)) = w10 at *
    obtain ⟨pa, hpa⟩ : ∃ pa, w9.heap.size = pa := ⟨_, rfl⟩
    rw [hpa] at HBA_10
    simp only [hpa]
    clear hpa
    obtain ⟨hx10_0, hx10_1, hx10_2⟩ := cel3 HX_10.out
    obtain ⟨hba10_0, hba10_1, hba10_2, hba10_3, hba10_4, hba10_5, hba10_6, hba10_7, hba10_8, hba10_9⟩ := cel10 HBA_10.out
    go_upto_region 15 with (first
      | (go_at_call 15; have HLK := Lib.hid (dPutT_is Ax nx cx Axg nxg cxg Axd nxd cxd X b1 b1 b1 0 op 0 0 true 1 none 0 0 [] w10 HRx_10.out ⟨hB3.1, hB3.2.1, hB3.2.2⟩ HF2.out RdR.nil (by omega) HEO.out.1); (with_reducible refine HLK.out.mono ?_); go_loud (clear HLK; rintro e w11 ⟨Ay, ny, cy, Ayg, nyg, cyg, Ayd, nyd, cyd, rfl, ho, hb⟩; have HB_11 := Lib.hid (bel_trans HB_10.out hb); have HRT_11 := Lib.hid (HRT_10.out.below hb); have HT_11 := Lib.hid (HT_10.out.below hb); have HP_11 := Lib.hid (HP_10.out.below hb); have HBB_11 := Lib.hid (HBB_10.out.below hb); have HRx_11 := Lib.hid (HRx_10.out.below hb); have HX_11 := Lib.hid (HX_10.out.below hb); have HBA_11 := Lib.hid (HBA_10.out.below hb); have HOy := Lib.hid ho; have HRy_11 := Lib.hid ho.rd; have HLy := Lib.hid ho.len; clear ho; clear hb hx10_0 hx10_1 hx10_2 hba10_0 hba10_1 hba10_2 hba10_3 hba10_4 hba10_5 hba10_6 hba10_7 hba10_8 hba10_9)))
    have hba := belA w11 (.cells #[.slice Ay ny cy, .slice Ayg nyg cyg, .slice Ayd nyd cyd] 25)
    have HB_12 := Lib.hid (bel_trans HB_11.out hba)
    have HRT_12 := Lib.hid (HRT_11.out.below hba)
    have HT_12 := Lib.hid (HT_11.out.below hba)
    have HP_12 := Lib.hid (HP_11.out.below hba)
    have HBB_12 := Lib.hid (HBB_11.out.below hba)
    have HRx_12 := Lib.hid (HRx_11.out.below hba)
    have HX_12 := Lib.hid (HX_11.out.below hba)
    have HBA_12 := Lib.hid (HBA_11.out.below hba)
    have HRy_12 := Lib.hid (HRy_11.out.below hba)
    have HY_12 := Lib.hid (At0.new w11 [.slice Ay ny cy, .slice Ayg nyg cyg, .slice Ayd nyd cyd] 25)
    clear hba
    generalize (w11.alloc (.cells #[.slice Ay ny cy, .slice Ayg nyg cyg, .slice Ayd nyd cyd] 25)) = w12 at *
    obtain ⟨py, hpy⟩ : ∃ py, w11.heap.size = py := ⟨_, rfl⟩
    rw [hpy] at HY_12
    simp only [hpy]
    clear hpy
    have hly := HLy.out
    have hlx := HLx.out
    obtain ⟨hy1, hy2, hy3⟩ : nx = ny ∧ nxg = nyg ∧ nxd = nyd := ⟨by omega, by omega, by omega⟩
    subst hy1 hy2 hy3
    clear hly hlx
    obtain ⟨bl, ol, hAl, hll9⟩ := rd_first (k := n3) HRx_12.out.done (show X.done[n3]? = some ⟨op, no, of, base⟩ from by rw [HLS.out, show n3 = (t.done).length from (HRT_4.out.done.len).symm, List.getElem?_append_right (Nat.le_refl _), Nat.sub_self]; rfl)
    subst hAl
    have HL_12 := Lib.hid (show AtO w12 bl (ol + n3 * 4) [.int .i64 op, .int .i64 no, .int .i64 of, .int .i64 base] from hll9)
    have hwn : IntKind.i64.wrap ((n : Int) - 1) = (nx : Int) := by rw [show (n : Int) - 1 = (nx : Int) by omega]; exact IntWalk.i64_in _ (by omega)
    have hwl : IntKind.i64.wrap ((nxd : Int) - 1) = (n3 : Int) := by rw [show (nxd : Int) - 1 = (n3 : Int) by omega]; exact IntWalk.i64_in _ (by omega)
    have hlz : ((nxd : Int) == 0) = false := beq_eq_false_iff_ne.2 (by omega)
    have hlt1 : (n3 : Int) < (nxd : Int) := by omega
    have hlt0 : (0 : Int) ≤ (n3 : Int) := by omega
    clear hll9
    obtain ⟨ht12_0, ht12_1, ht12_2⟩ := cel3 HT_12.out
    obtain ⟨hx12_0, hx12_1, hx12_2⟩ := cel3 HX_12.out
    go_upto_region 20 with fail
    clear ht12_0 ht12_1 ht12_2 hx12_0 hx12_1 hx12_2
    have hS3 : nx ≤ 1099511627776 ∧ nxg ≤ 1099511627776 ∧ nxd ≤ 1099511627776 := by omega
    have HSM := Lib.hid (rSameT_is Ax nx cx Axg nxg cxg (some ⟨bl, ol, none⟩) nxd cxd Ay cy Ayg cyg Ayd cyd X w12.drew (HRx_12.out.below (Below.refl _ _).drew) (HRy_12.out.below (Below.refl _ _).drew) hS3.1 hS3.2.1 hS3.2.2)
    have hbd := (Below.refl w12.heap.size w12).drew
    have HB_R20 := Lib.hid (bel_trans HB_12.out hbd)
    have HRT_R20 := Lib.hid (HRT_12.out.below hbd)
    have HT_R20 := Lib.hid (HT_12.out.below hbd)
    have HP_R20 := Lib.hid (HP_12.out.below hbd)
    have HBB_R20 := Lib.hid (HBB_12.out.below hbd)
    have HRx_R20 := Lib.hid (HRx_12.out.below hbd)
    have HX_R20 := Lib.hid (HX_12.out.below hbd)
    have HBA_R20 := Lib.hid (HBA_12.out.below hbd)
    have HRy_R20 := Lib.hid (HRy_12.out.below hbd)
    have HY_R20 := Lib.hid (HY_12.out.below hbd)
    have HL_R20 := Lib.hid (HL_12.out.below hbd)
    have HSR20 := Lib.hid (show (fun W9 : World => W9.cell? ⟨px, 0, none⟩ = some (.slice Ax nx cx) ∧ W9.cell? ⟨px, 1, none⟩ = some (.slice Axg nxg cxg) ∧ W9.cell? ⟨px, 2, none⟩ = some (.slice (some ⟨bl, ol, none⟩) nxd cxd) ∧ W9.cell? ⟨po, 0, none⟩ = some (.int .i64 op) ∧ W9.cell? ⟨po, 1, none⟩ = some (.int .i64 of) ∧ W9.cell? ⟨py, 0, none⟩ = some (.slice Ay nx cy) ∧ W9.cell? ⟨py, 1, none⟩ = some (.slice Ayg nxg cyg) ∧ W9.cell? ⟨py, 2, none⟩ = some (.slice Ayd nxd cyd) ∧ W9.cell? ⟨bl, ol + n3 * 4, none⟩ = some (.int .i64 op) ∧ W9.cell? ⟨bl, ol + n3 * 4 + 1, none⟩ = some (.int .i64 no) ∧ W9.cell? ⟨bl, ol + n3 * 4 + 2, none⟩ = some (.int .i64 of) ∧ W9.cell? ⟨bl, ol + n3 * 4 + 3, none⟩ = some (.int .i64 base)) w12.drew from ⟨HX_R20.out.cell 0, HX_R20.out.cell 1, HX_R20.out.cell 2, HP_R20.out.cell 0, HP_R20.out.cell 1, HY_R20.out.cell 0, HY_R20.out.cell 1, HY_R20.out.cell 2, HL_R20.out.2 0 _ rfl, HL_R20.out.2 1 _ rfl, HL_R20.out.2 2 _ rfl, HL_R20.out.2 3 _ rfl⟩)
    clear hbd
    refine region_let (fun W9 : World => W9.cell? ⟨px, 0, none⟩ = some (.slice Ax nx cx) ∧ W9.cell? ⟨px, 1, none⟩ = some (.slice Axg nxg cxg) ∧ W9.cell? ⟨px, 2, none⟩ = some (.slice (some ⟨bl, ol, none⟩) nxd cxd) ∧ W9.cell? ⟨po, 0, none⟩ = some (.int .i64 op) ∧ W9.cell? ⟨po, 1, none⟩ = some (.int .i64 of) ∧ W9.cell? ⟨py, 0, none⟩ = some (.slice Ay nx cy) ∧ W9.cell? ⟨py, 1, none⟩ = some (.slice Ayg nxg cyg) ∧ W9.cell? ⟨py, 2, none⟩ = some (.slice Ayd nxd cyd) ∧ W9.cell? ⟨bl, ol + n3 * 4, none⟩ = some (.int .i64 op) ∧ W9.cell? ⟨bl, ol + n3 * 4 + 1, none⟩ = some (.int .i64 no) ∧ W9.cell? ⟨bl, ol + n3 * 4 + 2, none⟩ = some (.int .i64 of) ∧ W9.cell? ⟨bl, ol + n3 * 4 + 3, none⟩ = some (.int .i64 base)) 99 23 hmx rfl fun ops Q HOPS HQ => ?_
    have HREG := reg_of HOPS tb_TxnsEnd20 rfl (by kernel_rfl) (by kernel_rfl) (by decide)
    refine xq 0 HOPS HREG HSR20.out ?_; simp only [ls0, ls1]; refine xq 1 HOPS HREG HSR20.out ?_; simp only [ls0, ls1]; refine xq 2 HOPS HREG HSR20.out ?_; simp only [ls0, ls1]; refine xq 3 HOPS HREG HSR20.out ?_; simp only [ls0, ls1]; refine xq 4 HOPS HREG HSR20.out ?_; simp only [ls0, ls1]; refine xq 5 HOPS HREG HSR20.out ?_; simp only [ls0, ls1]; refine xq 6 HOPS HREG HSR20.out ?_; simp only [ls0, ls1]; refine xq 7 HOPS HREG HSR20.out ?_; simp only [ls0, ls1]; refine xq 8 HOPS HREG HSR20.out ?_; simp only [ls0, ls1]; refine xq 9 HOPS HREG HSR20.out ?_; simp only [ls0, ls1]; refine xq 10 HOPS HREG HSR20.out ?_; simp only [ls0, ls1]; refine xq 11 HOPS HREG HSR20.out ?_; simp only [ls0, ls1]; refine xq 12 HOPS HREG HSR20.out ?_; simp only [ls0, ls1]; refine xq 13 HOPS HREG HSR20.out ?_; simp only [ls0, ls1]; refine xq 14 HOPS HREG HSR20.out ?_; simp only [ls0, ls1]; refine xq 15 HOPS HREG HSR20.out ?_; simp only [ls0, ls1]; refine xq 16 HOPS HREG HSR20.out ?_; simp only [ls0, ls1]; refine xq 17 HOPS HREG HSR20.out ?_; simp only [ls0, ls1]; refine xq 18 HOPS HREG HSR20.out ?_; simp only [ls0, ls1]; refine xq 19 HOPS HREG HSR20.out ?_; simp only [ls0, ls1]
    refine xc 20 HOPS ?_
    go_simp
    with_reducible refine (HSM.out).mono ?_
    rintro e w30 ⟨rfl, hb⟩
    have HB_30 := Lib.hid (bel_trans HB_R20.out hb)
    have HRT_30 := Lib.hid (HRT_R20.out.below hb)
    have HT_30 := Lib.hid (HT_R20.out.below hb)
    have HP_30 := Lib.hid (HP_R20.out.below hb)
    have HBB_30 := Lib.hid (HBB_R20.out.below hb)
    have HRx_30 := Lib.hid (HRx_R20.out.below hb)
    have HX_30 := Lib.hid (HX_R20.out.below hb)
    have HBA_30 := Lib.hid (HBA_R20.out.below hb)
    have HRy_30 := Lib.hid (HRy_R20.out.below hb)
    have HY_30 := Lib.hid (HY_R20.out.below hb)
    have HL_30 := Lib.hid (HL_R20.out.below hb)
    have HSR20w30 := Lib.hid (show (fun W9 : World => W9.cell? ⟨px, 0, none⟩ = some (.slice Ax nx cx) ∧ W9.cell? ⟨px, 1, none⟩ = some (.slice Axg nxg cxg) ∧ W9.cell? ⟨px, 2, none⟩ = some (.slice (some ⟨bl, ol, none⟩) nxd cxd) ∧ W9.cell? ⟨po, 0, none⟩ = some (.int .i64 op) ∧ W9.cell? ⟨po, 1, none⟩ = some (.int .i64 of) ∧ W9.cell? ⟨py, 0, none⟩ = some (.slice Ay nx cy) ∧ W9.cell? ⟨py, 1, none⟩ = some (.slice Ayg nxg cyg) ∧ W9.cell? ⟨py, 2, none⟩ = some (.slice Ayd nxd cyd) ∧ W9.cell? ⟨bl, ol + n3 * 4, none⟩ = some (.int .i64 op) ∧ W9.cell? ⟨bl, ol + n3 * 4 + 1, none⟩ = some (.int .i64 no) ∧ W9.cell? ⟨bl, ol + n3 * 4 + 2, none⟩ = some (.int .i64 of) ∧ W9.cell? ⟨bl, ol + n3 * 4 + 3, none⟩ = some (.int .i64 base)) w30 from ⟨HX_30.out.cell 0, HX_30.out.cell 1, HX_30.out.cell 2, HP_30.out.cell 0, HP_30.out.cell 1, HY_30.out.cell 0, HY_30.out.cell 1, HY_30.out.cell 2, HL_30.out.2 0 _ rfl, HL_30.out.2 1 _ rfl, HL_30.out.2 2 _ rfl, HL_30.out.2 3 _ rfl⟩)
    clear hb
    refine ⟨HSR20w30.out, ?_⟩
    refine xq 21 HOPS HREG HSR20w30.out ?_; simp only [ls0, ls1]; refine xq 22 HOPS HREG HSR20w30.out ?_; simp only [ls0, ls1]
    refine stepE HOPS (by kernel_rfl) (HQ.out _ _ ?_)
    clear HQ HREG HOPS
    clear Q ops
    go_wp2
    go_ret
    exact ⟨rfl, HB_30.out⟩
  · have HFB := Lib.hid (show Fits ⟨base, base, base, 0, op, 0, no, true, 2, []⟩ from ⟨HI1.out, HI1.out, HI1.out, by unfold I64; simp, HOI.out.1, by unfold I64; simp, HI2.out, by unfold I64; simp, fun r hr => by simp at hr⟩)
    obtain ⟨X, E, hP⟩ : ∃ X E, putT t ⟨base, base, base, 0, op, 0, no, true, 2, []⟩ = (X, E) := ⟨_, _, rfl⟩
    have HPU := Lib.hid hP
    clear hP
    obtain ⟨ht4_0, ht4_1, ht4_2⟩ := cel3 HT_4.out
    obtain ⟨hp4_0, hp4_1⟩ := cel2 HP_4.out
    go_upto_region 10 with (first
      | (go_at_call 35; have HLK := Lib.hid (end_is base op 2 w4); (with_reducible refine HLK.out.mono ?_); go_loud (clear HLK; rintro e w5 ⟨rfl, hb⟩; have HB_5 := Lib.hid (bel_trans HB_4.out hb); have HRT_5 := Lib.hid (HRT_4.out.below hb); have HT_5 := Lib.hid (HT_4.out.below hb); have HP_5 := Lib.hid (HP_4.out.below hb); clear hb ht4_0 ht4_1 ht4_2 hp4_0 hp4_1)))
    have hba := belA w5 (.cells #[.int .i64 base, .int .i64 base, .int .i64 base, .int .i64 0, .int .i64 op, .int .i64 0, .int .i64 no, .bool true, .int .i64 2, .slice none 0 0] 28)
    have HB_6 := Lib.hid (bel_trans HB_5.out hba)
    have HRT_6 := Lib.hid (HRT_5.out.below hba)
    have HT_6 := Lib.hid (HT_5.out.below hba)
    have HP_6 := Lib.hid (HP_5.out.below hba)
    have HBB_6 := Lib.hid (At0.new w5 [.int .i64 base, .int .i64 base, .int .i64 base, .int .i64 0, .int .i64 op, .int .i64 0, .int .i64 no, .bool true, .int .i64 2, .slice none 0 0] 28)
    clear hba
    generalize (w5.alloc (.cells #[.int .i64 base, .int .i64 base, .int .i64 base, .int .i64 0, .int .i64 op, .int .i64 0, .int .i64 no, .bool true, .int .i64 2, .slice none 0 0] 28)) = w6 at *
    obtain ⟨pb, hpb⟩ : ∃ pb, w5.heap.size = pb := ⟨_, rfl⟩
    rw [hpb] at HBB_6
    simp only [hpb]
    clear hpb
    obtain ⟨ht6_0, ht6_1, ht6_2⟩ := cel3 HT_6.out
    obtain ⟨hbb6_0, hbb6_1, hbb6_2, hbb6_3, hbb6_4, hbb6_5, hbb6_6, hbb6_7, hbb6_8, hbb6_9⟩ := cel10 HBB_6.out
    go_upto_region 11 with (first
      | (go_at_call 15; have HLK := Lib.hid (dPutT_is (some ⟨bo, oo, none⟩) n c A2 n2 c2 A3 n3 c3 t base base base 0 op 0 no true 2 none 0 0 [] w6 HRT_6.out ⟨by omega, by omega, by omega⟩ HFB.out RdR.nil (by omega) HPU.out); (with_reducible refine HLK.out.mono ?_); go_loud (clear HLK; rintro e w7 ⟨Ax, nx, cx, Axg, nxg, cxg, Axd, nxd, cxd, rfl, ho, hb⟩; have HB_7 := Lib.hid (bel_trans HB_6.out hb); have HRT_7 := Lib.hid (HRT_6.out.below hb); have HT_7 := Lib.hid (HT_6.out.below hb); have HP_7 := Lib.hid (HP_6.out.below hb); have HBB_7 := Lib.hid (HBB_6.out.below hb); have HOx := Lib.hid ho; have HRx_7 := Lib.hid ho.rd; have HLx := Lib.hid ho.len; clear ho; clear hb ht6_0 ht6_1 ht6_2 hbb6_0 hbb6_1 hbb6_2 hbb6_3 hbb6_4 hbb6_5 hbb6_6 hbb6_7 hbb6_8 hbb6_9)))
    have hba := belA w7 (.cells #[.slice Ax nx cx, .slice Axg nxg cxg, .slice Axd nxd cxd] 25)
    have HB_8 := Lib.hid (bel_trans HB_7.out hba)
    have HRT_8 := Lib.hid (HRT_7.out.below hba)
    have HT_8 := Lib.hid (HT_7.out.below hba)
    have HP_8 := Lib.hid (HP_7.out.below hba)
    have HBB_8 := Lib.hid (HBB_7.out.below hba)
    have HRx_8 := Lib.hid (HRx_7.out.below hba)
    have HX_8 := Lib.hid (At0.new w7 [.slice Ax nx cx, .slice Axg nxg cxg, .slice Axd nxd cxd] 25)
    clear hba
    generalize (w7.alloc (.cells #[.slice Ax nx cx, .slice Axg nxg cxg, .slice Axd nxd cxd] 25)) = w8 at *
    obtain ⟨px, hpx⟩ : ∃ px, w7.heap.size = px := ⟨_, rfl⟩
    rw [hpx] at HX_8
    simp only [hpx]
    clear hpx
    by_cases hE : E = 0
    case neg =>
      have hE1 : (E == 0) = false := beq_eq_false_iff_ne.2 hE
      have hE2 : (E != 0) = true := by simp [bne, hE1]
      clear hE
      go_wp2
      go_ret
      exact ⟨rfl, HB_8.out⟩
    subst hE
    have HOK := Lib.hid (put_ok HPU.out)
    have HST := Lib.hid (one_step HPU.out)
    have HFO := Lib.hid (form_of HOK.out.2.1).1
    obtain ⟨b1, hb1⟩ : ∃ b1, base + 1 = b1 := ⟨_, rfl⟩
    have hwb : IntKind.i64.wrap (base + 1) = b1 := by rw [← hb1]; exact IntWalk.i64_in _ (by have h9 := HFO.out; simp only at h9; omega)
    have HOM := Lib.hid (show 0 ≤ op ∧ op ≤ 1099511627776 from by have h9 := chO_mem (ckT_iff.1 HOK.out.1).1 _ HMEM.out; simp only at h9; omega)
    have HCA := Lib.hid (show chB ⟨b1, b1, b1, 0, op, 0, 0, true, 2, []⟩ = 0 from eB_ch (b := b1) (p := op) (c := 2) (by have h9 := HFO.out; simp only at h9; omega) HOM.out (by omega))
    have HEO := Lib.hid (end_once (a := ⟨b1, b1, b1, 0, op, 0, 0, true, 2, []⟩) (o := ⟨op, of⟩) HPU.out HMEM.out rfl (by simp) HCA.out hb1.symm rfl (by simp))
    have HB1I := Lib.hid (show I64 b1 from by have h9 := HFO.out; simp only at h9; unfold I64; omega)
    have HF2 := Lib.hid (show Fits ⟨b1, b1, b1, 0, op, 0, 0, true, 2, []⟩ from ⟨HB1I.out, HB1I.out, HB1I.out, by unfold I64; simp, HOI.out.1, by unfold I64; simp, by unfold I64; simp, by unfold I64; simp, fun r hr => by simp at hr⟩)
    have HLS := Lib.hid (HEO.out.2.2.2 (by simp))
    have hlx := HLx.out
    have hlt := HRT_4.out.op.len
    have hlt2 := HRT_4.out.gone.len
    have hlt3 := HRT_4.out.done.len
    have hst := HST.out.2.2.2.2.1
    have hle := HEO.out.2.1
    have hB3 : nx ≤ 1000 ∧ nxg ≤ 1000 ∧ nxd ≤ 1000 := by omega
    have hnx : nx + 1 = n := by omega
    have hll : n2 + 1 = nxg := by
      have h9 := congrArg List.length HLS.out
      rw [List.length_append, List.length_singleton] at h9
      omega
    clear hlx hlt hlt2 hlt3 hst hle hb1
    obtain ⟨hp8_0, hp8_1⟩ := cel2 HP_8.out
    go_upto_region 14 with (first
      | (go_at_call 35; have HLK := Lib.hid (end_is b1 op 2 w8); (with_reducible refine HLK.out.mono ?_); go_loud (clear HLK; rintro e w9 ⟨rfl, hb⟩; have HB_9 := Lib.hid (bel_trans HB_8.out hb); have HRT_9 := Lib.hid (HRT_8.out.below hb); have HT_9 := Lib.hid (HT_8.out.below hb); have HP_9 := Lib.hid (HP_8.out.below hb); have HBB_9 := Lib.hid (HBB_8.out.below hb); have HRx_9 := Lib.hid (HRx_8.out.below hb); have HX_9 := Lib.hid (HX_8.out.below hb); clear hb hp8_0 hp8_1)))
    have hba := belA w9 (.cells #[.int .i64 b1, .int .i64 b1, .int .i64 b1, .int .i64 0, .int .i64 op, .int .i64 0, .int .i64 0, .bool true, .int .i64 2, .slice none 0 0] 28)
    have HB_10 := Lib.hid (bel_trans HB_9.out hba)
    have HRT_10 := Lib.hid (HRT_9.out.below hba)
    have HT_10 := Lib.hid (HT_9.out.below hba)
    have HP_10 := Lib.hid (HP_9.out.below hba)
    have HBB_10 := Lib.hid (HBB_9.out.below hba)
    have HRx_10 := Lib.hid (HRx_9.out.below hba)
    have HX_10 := Lib.hid (HX_9.out.below hba)
    have HBA_10 := Lib.hid (At0.new w9 [.int .i64 b1, .int .i64 b1, .int .i64 b1, .int .i64 0, .int .i64 op, .int .i64 0, .int .i64 0, .bool true, .int .i64 2, .slice none 0 0] 28)
    clear hba
    generalize (w9.alloc (.cells #[.int .i64 b1, .int .i64 b1, .int .i64 b1, .int .i64 0, .int .i64 op, .int .i64 0, .int .i64 0, .bool true, .int .i64 2, .slice none 0 0] 28)) = w10 at *
    obtain ⟨pa, hpa⟩ : ∃ pa, w9.heap.size = pa := ⟨_, rfl⟩
    rw [hpa] at HBA_10
    simp only [hpa]
    clear hpa
    obtain ⟨hx10_0, hx10_1, hx10_2⟩ := cel3 HX_10.out
    obtain ⟨hba10_0, hba10_1, hba10_2, hba10_3, hba10_4, hba10_5, hba10_6, hba10_7, hba10_8, hba10_9⟩ := cel10 HBA_10.out
    go_upto_region 15 with (first
      | (go_at_call 15; have HLK := Lib.hid (dPutT_is Ax nx cx Axg nxg cxg Axd nxd cxd X b1 b1 b1 0 op 0 0 true 2 none 0 0 [] w10 HRx_10.out ⟨hB3.1, hB3.2.1, hB3.2.2⟩ HF2.out RdR.nil (by omega) HEO.out.1); (with_reducible refine HLK.out.mono ?_); go_loud (clear HLK; rintro e w11 ⟨Ay, ny, cy, Ayg, nyg, cyg, Ayd, nyd, cyd, rfl, ho, hb⟩; have HB_11 := Lib.hid (bel_trans HB_10.out hb); have HRT_11 := Lib.hid (HRT_10.out.below hb); have HT_11 := Lib.hid (HT_10.out.below hb); have HP_11 := Lib.hid (HP_10.out.below hb); have HBB_11 := Lib.hid (HBB_10.out.below hb); have HRx_11 := Lib.hid (HRx_10.out.below hb); have HX_11 := Lib.hid (HX_10.out.below hb); have HBA_11 := Lib.hid (HBA_10.out.below hb); have HOy := Lib.hid ho; have HRy_11 := Lib.hid ho.rd; have HLy := Lib.hid ho.len; clear ho; clear hb hx10_0 hx10_1 hx10_2 hba10_0 hba10_1 hba10_2 hba10_3 hba10_4 hba10_5 hba10_6 hba10_7 hba10_8 hba10_9)))
    have hba := belA w11 (.cells #[.slice Ay ny cy, .slice Ayg nyg cyg, .slice Ayd nyd cyd] 25)
    have HB_12 := Lib.hid (bel_trans HB_11.out hba)
    have HRT_12 := Lib.hid (HRT_11.out.below hba)
    have HT_12 := Lib.hid (HT_11.out.below hba)
    have HP_12 := Lib.hid (HP_11.out.below hba)
    have HBB_12 := Lib.hid (HBB_11.out.below hba)
    have HRx_12 := Lib.hid (HRx_11.out.below hba)
    have HX_12 := Lib.hid (HX_11.out.below hba)
    have HBA_12 := Lib.hid (HBA_11.out.below hba)
    have HRy_12 := Lib.hid (HRy_11.out.below hba)
    have HY_12 := Lib.hid (At0.new w11 [.slice Ay ny cy, .slice Ayg nyg cyg, .slice Ayd nyd cyd] 25)
    clear hba
    generalize (w11.alloc (.cells #[.slice Ay ny cy, .slice Ayg nyg cyg, .slice Ayd nyd cyd] 25)) = w12 at *
    obtain ⟨py, hpy⟩ : ∃ py, w11.heap.size = py := ⟨_, rfl⟩
    rw [hpy] at HY_12
    simp only [hpy]
    clear hpy
    have hly := HLy.out
    have hlx := HLx.out
    obtain ⟨hy1, hy2, hy3⟩ : nx = ny ∧ nxg = nyg ∧ nxd = nyd := ⟨by omega, by omega, by omega⟩
    subst hy1 hy2 hy3
    clear hly hlx
    obtain ⟨bl, ol, hAl, hll9⟩ := rd_first (k := n2) HRx_12.out.gone (show X.gone[n2]? = some ⟨op, no, of, base⟩ from by rw [HLS.out, show n2 = (t.gone).length from (HRT_4.out.gone.len).symm, List.getElem?_append_right (Nat.le_refl _), Nat.sub_self]; rfl)
    subst hAl
    have HL_12 := Lib.hid (show AtO w12 bl (ol + n2 * 4) [.int .i64 op, .int .i64 no, .int .i64 of, .int .i64 base] from hll9)
    have hwn : IntKind.i64.wrap ((n : Int) - 1) = (nx : Int) := by rw [show (n : Int) - 1 = (nx : Int) by omega]; exact IntWalk.i64_in _ (by omega)
    have hwl : IntKind.i64.wrap ((nxg : Int) - 1) = (n2 : Int) := by rw [show (nxg : Int) - 1 = (n2 : Int) by omega]; exact IntWalk.i64_in _ (by omega)
    have hlz : ((nxg : Int) == 0) = false := beq_eq_false_iff_ne.2 (by omega)
    have hlt1 : (n2 : Int) < (nxg : Int) := by omega
    have hlt0 : (0 : Int) ≤ (n2 : Int) := by omega
    clear hll9
    obtain ⟨ht12_0, ht12_1, ht12_2⟩ := cel3 HT_12.out
    obtain ⟨hx12_0, hx12_1, hx12_2⟩ := cel3 HX_12.out
    go_upto_region 20 with fail
    clear ht12_0 ht12_1 ht12_2 hx12_0 hx12_1 hx12_2
    have hS3 : nx ≤ 1099511627776 ∧ nxg ≤ 1099511627776 ∧ nxd ≤ 1099511627776 := by omega
    have HSM := Lib.hid (rSameT_is Ax nx cx (some ⟨bl, ol, none⟩) nxg cxg Axd nxd cxd Ay cy Ayg cyg Ayd cyd X w12.drew (HRx_12.out.below (Below.refl _ _).drew) (HRy_12.out.below (Below.refl _ _).drew) hS3.1 hS3.2.1 hS3.2.2)
    have hbd := (Below.refl w12.heap.size w12).drew
    have HB_R20 := Lib.hid (bel_trans HB_12.out hbd)
    have HRT_R20 := Lib.hid (HRT_12.out.below hbd)
    have HT_R20 := Lib.hid (HT_12.out.below hbd)
    have HP_R20 := Lib.hid (HP_12.out.below hbd)
    have HBB_R20 := Lib.hid (HBB_12.out.below hbd)
    have HRx_R20 := Lib.hid (HRx_12.out.below hbd)
    have HX_R20 := Lib.hid (HX_12.out.below hbd)
    have HBA_R20 := Lib.hid (HBA_12.out.below hbd)
    have HRy_R20 := Lib.hid (HRy_12.out.below hbd)
    have HY_R20 := Lib.hid (HY_12.out.below hbd)
    have HL_R20 := Lib.hid (HL_12.out.below hbd)
    have HSR20 := Lib.hid (show (fun W9 : World => W9.cell? ⟨px, 0, none⟩ = some (.slice Ax nx cx) ∧ W9.cell? ⟨px, 1, none⟩ = some (.slice (some ⟨bl, ol, none⟩) nxg cxg) ∧ W9.cell? ⟨px, 2, none⟩ = some (.slice Axd nxd cxd) ∧ W9.cell? ⟨po, 0, none⟩ = some (.int .i64 op) ∧ W9.cell? ⟨po, 1, none⟩ = some (.int .i64 of) ∧ W9.cell? ⟨py, 0, none⟩ = some (.slice Ay nx cy) ∧ W9.cell? ⟨py, 1, none⟩ = some (.slice Ayg nxg cyg) ∧ W9.cell? ⟨py, 2, none⟩ = some (.slice Ayd nxd cyd) ∧ W9.cell? ⟨bl, ol + n2 * 4, none⟩ = some (.int .i64 op) ∧ W9.cell? ⟨bl, ol + n2 * 4 + 1, none⟩ = some (.int .i64 no) ∧ W9.cell? ⟨bl, ol + n2 * 4 + 2, none⟩ = some (.int .i64 of) ∧ W9.cell? ⟨bl, ol + n2 * 4 + 3, none⟩ = some (.int .i64 base)) w12.drew from ⟨HX_R20.out.cell 0, HX_R20.out.cell 1, HX_R20.out.cell 2, HP_R20.out.cell 0, HP_R20.out.cell 1, HY_R20.out.cell 0, HY_R20.out.cell 1, HY_R20.out.cell 2, HL_R20.out.2 0 _ rfl, HL_R20.out.2 1 _ rfl, HL_R20.out.2 2 _ rfl, HL_R20.out.2 3 _ rfl⟩)
    clear hbd
    refine region_let (fun W9 : World => W9.cell? ⟨px, 0, none⟩ = some (.slice Ax nx cx) ∧ W9.cell? ⟨px, 1, none⟩ = some (.slice (some ⟨bl, ol, none⟩) nxg cxg) ∧ W9.cell? ⟨px, 2, none⟩ = some (.slice Axd nxd cxd) ∧ W9.cell? ⟨po, 0, none⟩ = some (.int .i64 op) ∧ W9.cell? ⟨po, 1, none⟩ = some (.int .i64 of) ∧ W9.cell? ⟨py, 0, none⟩ = some (.slice Ay nx cy) ∧ W9.cell? ⟨py, 1, none⟩ = some (.slice Ayg nxg cyg) ∧ W9.cell? ⟨py, 2, none⟩ = some (.slice Ayd nxd cyd) ∧ W9.cell? ⟨bl, ol + n2 * 4, none⟩ = some (.int .i64 op) ∧ W9.cell? ⟨bl, ol + n2 * 4 + 1, none⟩ = some (.int .i64 no) ∧ W9.cell? ⟨bl, ol + n2 * 4 + 2, none⟩ = some (.int .i64 of) ∧ W9.cell? ⟨bl, ol + n2 * 4 + 3, none⟩ = some (.int .i64 base)) 99 23 hmx rfl fun ops Q HOPS HQ => ?_
    have HREG := reg_of HOPS tb_TxnsEnd20 rfl (by kernel_rfl) (by kernel_rfl) (by decide)
    refine xq 0 HOPS HREG HSR20.out ?_; simp only [ls0, ls1]; refine xq 1 HOPS HREG HSR20.out ?_; simp only [ls0, ls1]; refine xq 2 HOPS HREG HSR20.out ?_; simp only [ls0, ls1]; refine xq 3 HOPS HREG HSR20.out ?_; simp only [ls0, ls1]; refine xq 4 HOPS HREG HSR20.out ?_; simp only [ls0, ls1]; refine xq 5 HOPS HREG HSR20.out ?_; simp only [ls0, ls1]; refine xq 6 HOPS HREG HSR20.out ?_; simp only [ls0, ls1]; refine xq 7 HOPS HREG HSR20.out ?_; simp only [ls0, ls1]; refine xq 8 HOPS HREG HSR20.out ?_; simp only [ls0, ls1]; refine xq 9 HOPS HREG HSR20.out ?_; simp only [ls0, ls1]; refine xq 10 HOPS HREG HSR20.out ?_; simp only [ls0, ls1]; refine xq 11 HOPS HREG HSR20.out ?_; simp only [ls0, ls1]; refine xq 12 HOPS HREG HSR20.out ?_; simp only [ls0, ls1]; refine xq 13 HOPS HREG HSR20.out ?_; simp only [ls0, ls1]; refine xq 14 HOPS HREG HSR20.out ?_; simp only [ls0, ls1]; refine xq 15 HOPS HREG HSR20.out ?_; simp only [ls0, ls1]; refine xq 16 HOPS HREG HSR20.out ?_; simp only [ls0, ls1]; refine xq 17 HOPS HREG HSR20.out ?_; simp only [ls0, ls1]; refine xq 18 HOPS HREG HSR20.out ?_; simp only [ls0, ls1]; refine xq 19 HOPS HREG HSR20.out ?_; simp only [ls0, ls1]
    refine xc 20 HOPS ?_
    go_simp
    with_reducible refine (HSM.out).mono ?_
    rintro e w30 ⟨rfl, hb⟩
    have HB_30 := Lib.hid (bel_trans HB_R20.out hb)
    have HRT_30 := Lib.hid (HRT_R20.out.below hb)
    have HT_30 := Lib.hid (HT_R20.out.below hb)
    have HP_30 := Lib.hid (HP_R20.out.below hb)
    have HBB_30 := Lib.hid (HBB_R20.out.below hb)
    have HRx_30 := Lib.hid (HRx_R20.out.below hb)
    have HX_30 := Lib.hid (HX_R20.out.below hb)
    have HBA_30 := Lib.hid (HBA_R20.out.below hb)
    have HRy_30 := Lib.hid (HRy_R20.out.below hb)
    have HY_30 := Lib.hid (HY_R20.out.below hb)
    have HL_30 := Lib.hid (HL_R20.out.below hb)
    have HSR20w30 := Lib.hid (show (fun W9 : World => W9.cell? ⟨px, 0, none⟩ = some (.slice Ax nx cx) ∧ W9.cell? ⟨px, 1, none⟩ = some (.slice (some ⟨bl, ol, none⟩) nxg cxg) ∧ W9.cell? ⟨px, 2, none⟩ = some (.slice Axd nxd cxd) ∧ W9.cell? ⟨po, 0, none⟩ = some (.int .i64 op) ∧ W9.cell? ⟨po, 1, none⟩ = some (.int .i64 of) ∧ W9.cell? ⟨py, 0, none⟩ = some (.slice Ay nx cy) ∧ W9.cell? ⟨py, 1, none⟩ = some (.slice Ayg nxg cyg) ∧ W9.cell? ⟨py, 2, none⟩ = some (.slice Ayd nxd cyd) ∧ W9.cell? ⟨bl, ol + n2 * 4, none⟩ = some (.int .i64 op) ∧ W9.cell? ⟨bl, ol + n2 * 4 + 1, none⟩ = some (.int .i64 no) ∧ W9.cell? ⟨bl, ol + n2 * 4 + 2, none⟩ = some (.int .i64 of) ∧ W9.cell? ⟨bl, ol + n2 * 4 + 3, none⟩ = some (.int .i64 base)) w30 from ⟨HX_30.out.cell 0, HX_30.out.cell 1, HX_30.out.cell 2, HP_30.out.cell 0, HP_30.out.cell 1, HY_30.out.cell 0, HY_30.out.cell 1, HY_30.out.cell 2, HL_30.out.2 0 _ rfl, HL_30.out.2 1 _ rfl, HL_30.out.2 2 _ rfl, HL_30.out.2 3 _ rfl⟩)
    clear hb
    refine ⟨HSR20w30.out, ?_⟩
    refine xq 21 HOPS HREG HSR20w30.out ?_; simp only [ls0, ls1]; refine xq 22 HOPS HREG HSR20w30.out ?_; simp only [ls0, ls1]
    refine stepE HOPS (by kernel_rfl) (HQ.out _ _ ?_)
    clear HQ HREG HOPS
    clear Q ops
    go_wp2
    go_ret
    exact ⟨rfl, HB_30.out⟩
end Go.Proofs.YtlfbagkonckffaaGreat.Txn

namespace Go.Proofs.YtlfbagkonckffaaGreat.txnsEnd
open Go.ChangeShapes Go.WideShapes Go.ChangeAt Go.RowKit

theorem own : ownKnob Tryz.prog.godebug = none := by kernel_rfl
theorem laidOut : laidOutB Tryz.prog = true := by kernel_rfl

set_option maxRecDepth 100000 in
theorem lifted (os : Os) (started : os.Started) (H : Type) (enc : TypeId × Value → H) :
    ReturnsInHanded {} Tryz.checked os 7 .any (Rows.txnsEndSpec.pre6 enc Tryz.prog Tryz.f7 Rows.txnsEndRow.domain false) (Rows.txnsEndSpec.post enc Tryz.prog Tryz.f7 false true false false) := by
  refine returnsInHanded_of_change_sized (C := Tryz.checked) own started (by kernel_rfl) Tryz.func7
    (ChangeSpec.witness6 (enc := enc) (C := Tryz.checked) false ⟨#[], #[.agg #[.slice none 0 0, .slice none 0 0, .slice none 0 0], .int .i64 0, .int .i64 0, .int .i64 0, .bool false], []⟩ 8 (by kernel_rfl) (by kernel_rfl) (by kernel_rfl) (by kernel_rfl)) ?_
  intro W base args ds gs before hval0 hW _ hwt _
  have hval : ∀ (j : Nat) t v, Tryz.f7.params[j]? = some t → args[j]? = some v → Value.okWide Tryz.prog W .any base t v := hval0
  have hW' := hW
  obtain ⟨p, q, hA0, hV, rfl, hfz, hnd⟩ := hW
  have hA : DataW.TrodAll enc Tryz.prog W 0 (fun _ => true) true Tryz.f7.params.toList args.toList ds p := hA0
  rw [Tryz.params7] at hA hval
  obtain ⟨v0, vs0, d0, ds0, p0, q0, hargs, rfl, rfl, h0, r0⟩ := trodAll_cons hA
  obtain ⟨v1, vs1, d1, ds1, p1, q1, rfl, rfl, rfl, h1, r1⟩ := trodAll_cons r0
  obtain ⟨v2, vs2, d2, ds2, p2, q2, rfl, rfl, rfl, h2, r2⟩ := trodAll_cons r1
  obtain ⟨v3, vs3, d3, ds3, p3, q3, rfl, rfl, rfl, h3, r3⟩ := trodAll_cons r2
  obtain ⟨v4, vs4, d4, ds4, p4, q4, rfl, rfl, rfl, h4, r4⟩ := trodAll_cons r3
  obtain ⟨rfl, rfl, rfl⟩ := trodAll_nil r4
  obtain rfl : args = #[v0, v1, v2, v3, v4] := by cases args; simp_all
  obtain ⟨rfl, rfl⟩ := trodVars_none hV
  have k0 := h0
  have lt0 : ∀ x ∈ p0, x.block < W.heap.size := by obtain ⟨m, hm⟩ := k0; exact DataW.trod_lt m _ _ _ hm
  obtain ⟨A_0, n_0, c_0, A2_0, n2_0, c2_0, A3_0, n3_0, c3_0, t_0, rfl, hx_0, hy_0, hz_0, hR_0, hF_0⟩ := Txn.open_tx (hval 0 25 v0 rfl rfl) h0 (Bat.weights_arg (j := 0) hwt (by kernel_rfl) rfl)
  have k1 := h1
  have lt1 : ∀ x ∈ p1, x.block < W.heap.size := by obtain ⟨m, hm⟩ := k1; exact DataW.trod_lt m _ _ _ hm
  obtain ⟨a1, rfl, hi1⟩ := Oct.open_i64 Tryz.underlying3 (hval 1 3 v1 rfl rfl) h1
  have k2 := h2
  have lt2 : ∀ x ∈ p2, x.block < W.heap.size := by obtain ⟨m, hm⟩ := k2; exact DataW.trod_lt m _ _ _ hm
  obtain ⟨a2, rfl, hi2⟩ := Oct.open_i64 Tryz.underlying3 (hval 2 3 v2 rfl rfl) h2
  have k3 := h3
  have lt3 : ∀ x ∈ p3, x.block < W.heap.size := by obtain ⟨m, hm⟩ := k3; exact DataW.trod_lt m _ _ _ hm
  obtain ⟨a3, rfl, hi3⟩ := Oct.open_i64 Tryz.underlying3 (hval 3 3 v3 rfl rfl) h3
  have k4 := h4
  have lt4 : ∀ x ∈ p4, x.block < W.heap.size := by obtain ⟨m, hm⟩ := k4; exact DataW.trod_lt m _ _ _ hm
  obtain ⟨a4, rfl⟩ := Oct.open_flag Tryz.underlying4 (hval 4 4 v4 rfl rfl) h4
  clear hA0 hval0
  refine (Txn.txnsEnd_walk A_0 n_0 c_0 A2_0 n2_0 c2_0 A3_0 n3_0 c3_0 t_0 a1 a2 a3 a4 W hx_0 hy_0 hz_0 hR_0 hF_0 hi1 hi2 hi3).mono fun e W' ⟨he, bel⟩ => ?_
  subst he
  exact ⟨_, rfl, _, _, _, [], _, [], hW', trodAll_mk1 (shut_bool Tryz.underlying4 _), (trodAll_cons_mk (Below.trod laidOut (by kernel_rfl) (of_decide_eq_true (by kernel_rfl)) k0 bel lt0) (trodAll_cons_mk (Below.trod laidOut (by kernel_rfl) (of_decide_eq_true (by kernel_rfl)) k1 bel lt1) (trodAll_cons_mk (Below.trod laidOut (by kernel_rfl) (of_decide_eq_true (by kernel_rfl)) k2 bel lt2) (trodAll_cons_mk (Below.trod laidOut (by kernel_rfl) (of_decide_eq_true (by kernel_rfl)) k3 bel lt3) (trodAll_cons_mk (Below.trod laidOut (by kernel_rfl) (of_decide_eq_true (by kernel_rfl)) k4 bel lt4) trodAll_mk0))))), rfl, bel.frame _, fun h => by cases h⟩

theorem over : Rows.txnsEndRow.holds Tryz.pinned (OpenSpec.ofChange Rows.txnsEndSpec) :=
  OpenClaim.holds_of_wide 7 Tryz.f7 rfl rfl rfl rfl rfl rfl rfl ⟨rfl, rfl, rfl, rfl, rfl⟩ rfl rfl rfl rfl rfl (by kernel_rfl) Tryz.func7 (by kernel_rfl)
    (of_decide_eq_true (by kernel_rfl)) (by unfold Func.isWrapper; first | (rw [if_pos (by decide +kernel)]; kernel_rfl) | (rw [if_neg (by decide +kernel)]; exact ⟨rfl, rfl⟩))
    (fun os started H enc _ => lifted os started H enc)

theorem proved : Rows.TxnsEndSaid :=
  over
#print axioms proved
end Go.Proofs.YtlfbagkonckffaaGreat.txnsEnd
