/- For any segment (at most 9,000 bytes), any batch (few enough records) and any limit: the segment with the batch behind it, or why there is none, is what the document tells, and the segment stays as it was (the law answers true, and changes nothing that was there). Conditions: none.
-/
import Derived.Test.YtgjbfhmfhmihhaaDoorSegW
import Derived.Test.YtgjbfhmfhmihhaaDoorSegVA
import Derived.Test.YtgjbfhmfhmihhaaDoorInT
import Derived.Test.YtgjbfhmfhmihhaaDoorRows
import Derived.WalkKit
import Derived.ProofKit
import Derived.OpenShut
import Derived.ChangeOld
import Derived.Below
import Derived.Carry
import Derived.Test.YtgjbfhmfhmihhaaDoorJOct
import Derived.Test.YtgjbfhmfhmihhaaDoorSegArg
import Derived.Test.YtgjbfhmfhmihhaaDoorJBatA
import Derived.Test.YtgjbfhmfhmihhaaDoorJCrc
import Derived.Test.YtgjbfhmfhmihhaaDoorTie
import Derived.Test.YtgjbfhmfhmihhaaDoorCards
import Derived.SevenTiedAt
/- The walk of SegAppends. -/
namespace Go.Proofs.YtgjbfhmfhmihhaaDoor.Seg
open Go.RowKit Go.Proofs.YtgjbfhmfhmihhaaDoor.Oct Go.Proofs.YtgjbfhmfhmihhaaDoor.Rec Go.Proofs.YtgjbfhmfhmihhaaDoor.Crc Go.Proofs.YtgjbfhmfhmihhaaDoor.Bat Go.Proofs.YtgjbfhmfhmihhaaDoor.Lay Go.Proofs.YtgjbfhmfhmihhaaDoor.InR

set_option maxRecDepth 100000 in
set_option maxHeartbeats 8000000 in
theorem segAppends_walk (sb : Int) (A : Option Addr) (n c : Nat) (l : List UInt8) (ba la fr ep pi ge se : Int) (tx : Bool) (ct : Int) (A1 : Option Addr) (n1 c1 : Nat) (rs : List Rc) (limit : Int) (w : World) (hi : I64 sb) (hc : n ≤ c) (_hk : c ≤ reach) (hR : Rd w w.heap.size A n l) (hfn : FitN ⟨ba, la, fr, ep, pi, ge, se, tx, ct, rs⟩) (hnc : n1 ≤ c1) (hcap : c1 ≤ reach) (hRb : RdL w w.heap.size A1 n1 rs) (_hil : I64 limit) (ht : Tab w) :
    Calls Tryd.prog 4 #[.agg #[.int .i64 sb, .slice A n c], .agg #[.int .i64 ba, .int .i64 la, .int .i64 fr, .int .i64 ep, .int .i64 pi, .int .i64 ge, .int .i64 se, .bool tx, .int .i64 ct, .slice A1 n1 c1], .int .i64 limit] w fun e w' => e = .returned (.bool true) ∧ Below w.heap.size w w' := by
  have HW_0 := Lib.hid (bel_alloc (belA w (.cells #[.int .i64 sb, .slice A n c] 24)) (.cells #[.int .i64 ba, .int .i64 la, .int .i64 fr, .int .i64 ep, .int .i64 pi, .int .i64 ge, .int .i64 se, .bool tx, .int .i64 ct, .slice A1 n1 c1] 39))
  have HS_0 := Lib.hid ((At0.new w [.int .i64 sb, .slice A n c] 24).alloc (.cells #[.int .i64 ba, .int .i64 la, .int .i64 fr, .int .i64 ep, .int .i64 pi, .int .i64 ge, .int .i64 se, .bool tx, .int .i64 ct, .slice A1 n1 c1] 39))
  have HR_0 := Lib.hid (rdUp hR HW_0.out)
  have HT_0 := Lib.hid (ht.bel HW_0.out)
  have HB_0 := Lib.hid (show BR ((w.alloc (.cells #[.int .i64 sb, .slice A n c] 24)).alloc (.cells #[.int .i64 ba, .int .i64 la, .int .i64 fr, .int .i64 ep, .int .i64 pi, .int .i64 ge, .int .i64 se, .bool tx, .int .i64 ct, .slice A1 n1 c1] 39)) (w.heap.size + 1) ⟨ba, la, fr, ep, pi, ge, se, tx, ct, rs⟩ A1 n1 c1 by have h := BR.new (w := w.alloc (.cells #[.int .i64 sb, .slice A n c] 24)) (b := ⟨ba, la, fr, ep, pi, ge, se, tx, ct, rs⟩) (A := A1) (n := n1) (c := c1) 39 ((RdL_recs hRb).below (belA w _) (Nat.le_refl _) |>.more (belA w _).size); rw [show (w.alloc (.cells #[.int .i64 sb, .slice A n c] 24)).heap.size = w.heap.size + 1 by simp] at h; exact h)
  have HFIT := Lib.hid (RdL_fit hRb)
  have hcr := Nat.le_trans hnc hcap
  have hn1l := hRb.len
  rcases hz : decide ((n : Int) ≤ 9000) with _ | _
  · have HZ := Lib.hid hz
    clear hz hR hRb ht hfn
    go_enter Tryd.func4, Tryd.ntmps4
    go_wp2_with (first
      | (go_at_call 12; (with_reducible refine (live_any _ HT_0.out).mono ?_); rintro e w1 ⟨rfl, hb⟩; have HW_1 := Lib.hid (bel_trans HW_0.out hb); have HS_1 := Lib.hid (HS_0.out.below hb); have HR_1 := Lib.hid (rdUp HR_0.out hb); have HT_1 := Lib.hid (HT_0.out.bel hb); have HB_1 := Lib.hid (HB_0.out.below hb); have hs1_0 : w1.cell? ⟨w.heap.size, 0, none⟩ = some (.int .i64 sb) := HS_1.out.cell 0; have hs1_1 : w1.cell? ⟨w.heap.size, 1, none⟩ = some (.slice A n c) := HS_1.out.cell 1; obtain ⟨hb1_0, hb1_1, hb1_2, hb1_3, hb1_4, hb1_5, hb1_6, hb1_7, hb1_8, hb1_9⟩ := HB_1.out.box; clear hb)
      | (go_at_call 13; (with_reducible refine (refFewS_is sb A n c _ HZ.out).mono ?_); rintro e w2 ⟨rfl, hb⟩; have HW_2 := Lib.hid (bel_trans HW_1.out hb); have HS_2 := Lib.hid (HS_1.out.below hb); have HR_2 := Lib.hid (rdUp HR_1.out hb); have HT_2 := Lib.hid (HT_1.out.bel hb); have HB_2 := Lib.hid (HB_1.out.below hb); have hs2_0 : w2.cell? ⟨w.heap.size, 0, none⟩ = some (.int .i64 sb) := HS_2.out.cell 0; have hs2_1 : w2.cell? ⟨w.heap.size, 1, none⟩ = some (.slice A n c) := HS_2.out.cell 1; obtain ⟨hb2_0, hb2_1, hb2_2, hb2_3, hb2_4, hb2_5, hb2_6, hb2_7, hb2_8, hb2_9⟩ := HB_2.out.box; clear hb))
    go_ret
    exact ⟨rfl, HW_2.out⟩
  have hn : n ≤ 9000 := by have := of_decide_eq_true hz; omega
  have HZ := Lib.hid hz
  clear hz
  rcases hzb : fewT ⟨ba, la, fr, ep, pi, ge, se, tx, ct, rs⟩ with _ | _
  · have HZB := Lib.hid hzb
    clear hzb hR hRb ht hfn
    go_enter Tryd.func4, Tryd.ntmps4
    go_wp2_with (first
      | (go_at_call 12; (with_reducible refine (live_any _ HT_0.out).mono ?_); rintro e w1 ⟨rfl, hb⟩; have HW_1 := Lib.hid (bel_trans HW_0.out hb); have HS_1 := Lib.hid (HS_0.out.below hb); have HR_1 := Lib.hid (rdUp HR_0.out hb); have HT_1 := Lib.hid (HT_0.out.bel hb); have HB_1 := Lib.hid (HB_0.out.below hb); have hs1_0 : w1.cell? ⟨w.heap.size, 0, none⟩ = some (.int .i64 sb) := HS_1.out.cell 0; have hs1_1 : w1.cell? ⟨w.heap.size, 1, none⟩ = some (.slice A n c) := HS_1.out.cell 1; obtain ⟨hb1_0, hb1_1, hb1_2, hb1_3, hb1_4, hb1_5, hb1_6, hb1_7, hb1_8, hb1_9⟩ := HB_1.out.box; clear hb)
      | (go_at_call 13; (with_reducible refine (refFewS_is sb A n c _ HZ.out).mono ?_); rintro e w2 ⟨rfl, hb⟩; have HW_2 := Lib.hid (bel_trans HW_1.out hb); have HS_2 := Lib.hid (HS_1.out.below hb); have HR_2 := Lib.hid (rdUp HR_1.out hb); have HT_2 := Lib.hid (HT_1.out.bel hb); have HB_2 := Lib.hid (HB_1.out.below hb); have hs2_0 : w2.cell? ⟨w.heap.size, 0, none⟩ = some (.int .i64 sb) := HS_2.out.cell 0; have hs2_1 : w2.cell? ⟨w.heap.size, 1, none⟩ = some (.slice A n c) := HS_2.out.cell 1; obtain ⟨hb2_0, hb2_1, hb2_2, hb2_3, hb2_4, hb2_5, hb2_6, hb2_7, hb2_8, hb2_9⟩ := HB_2.out.box; clear hb)
      | (go_at_call 24; (with_reducible refine (refFew_is ba la fr ep pi ge se tx ct rs A1 n1 c1 _ HB_2.out.rd HFIT.out hcr HZB.out).mono ?_); rintro e w3 ⟨rfl, hb⟩; have HW_3 := Lib.hid (bel_trans HW_2.out hb); have HS_3 := Lib.hid (HS_2.out.below hb); have HR_3 := Lib.hid (rdUp HR_2.out hb); have HT_3 := Lib.hid (HT_2.out.bel hb); have HB_3 := Lib.hid (HB_2.out.below hb); have hs3_0 : w3.cell? ⟨w.heap.size, 0, none⟩ = some (.int .i64 sb) := HS_3.out.cell 0; have hs3_1 : w3.cell? ⟨w.heap.size, 1, none⟩ = some (.slice A n c) := HS_3.out.cell 1; obtain ⟨hb3_0, hb3_1, hb3_2, hb3_3, hb3_4, hb3_5, hb3_6, hb3_7, hb3_8, hb3_9⟩ := HB_3.out.box; clear hb))
    go_ret
    exact ⟨rfl, HW_3.out⟩
  have HZB := Lib.hid hzb
  have hfw := fewT_iff hzb
  simp only at hfw
  have HFITS := Lib.hid (fits_of hfn (RdL_fit hRb) hzb)
  have hn10 : n1 ≤ 1099511627776 := by omega
  have HI := Lib.hid hi
  clear hzb hR hRb ht hfn hfw
  rcases hap : apS ⟨sb, l⟩ ⟨ba, la, fr, ep, pi, ge, se, tx, ct, rs⟩ limit with ⟨⟨xb, xs⟩, xe⟩
  have hxl : xs.length ≤ 4096 := ap_len hap
  have HAP := Lib.hid hap
  clear hap
  go_enter Tryd.func4, Tryd.ntmps4
  go_wp2_with (first
    | (go_at_call 12; (with_reducible refine (live_any _ HT_0.out).mono ?_); rintro e w1 ⟨rfl, hb⟩; have HW_1 := Lib.hid (bel_trans HW_0.out hb); have HS_1 := Lib.hid (HS_0.out.below hb); have HR_1 := Lib.hid (rdUp HR_0.out hb); have HT_1 := Lib.hid (HT_0.out.bel hb); have HB_1 := Lib.hid (HB_0.out.below hb); have hs1_0 : w1.cell? ⟨w.heap.size, 0, none⟩ = some (.int .i64 sb) := HS_1.out.cell 0; have hs1_1 : w1.cell? ⟨w.heap.size, 1, none⟩ = some (.slice A n c) := HS_1.out.cell 1; obtain ⟨hb1_0, hb1_1, hb1_2, hb1_3, hb1_4, hb1_5, hb1_6, hb1_7, hb1_8, hb1_9⟩ := HB_1.out.box; clear hb)
    | (go_at_call 13; (with_reducible refine (refFewS_is sb A n c _ HZ.out).mono ?_); rintro e w2 ⟨rfl, hb⟩; have HW_2 := Lib.hid (bel_trans HW_1.out hb); have HS_2 := Lib.hid (HS_1.out.below hb); have HR_2 := Lib.hid (rdUp HR_1.out hb); have HT_2 := Lib.hid (HT_1.out.bel hb); have HB_2 := Lib.hid (HB_1.out.below hb); have hs2_0 : w2.cell? ⟨w.heap.size, 0, none⟩ = some (.int .i64 sb) := HS_2.out.cell 0; have hs2_1 : w2.cell? ⟨w.heap.size, 1, none⟩ = some (.slice A n c) := HS_2.out.cell 1; obtain ⟨hb2_0, hb2_1, hb2_2, hb2_3, hb2_4, hb2_5, hb2_6, hb2_7, hb2_8, hb2_9⟩ := HB_2.out.box; clear hb)
    | (go_at_call 24; (with_reducible refine (refFew_is ba la fr ep pi ge se tx ct rs A1 n1 c1 _ HB_2.out.rd HFIT.out hcr HZB.out).mono ?_); rintro e w3 ⟨rfl, hb⟩; have HW_3 := Lib.hid (bel_trans HW_2.out hb); have HS_3 := Lib.hid (HS_2.out.below hb); have HR_3 := Lib.hid (rdUp HR_2.out hb); have HT_3 := Lib.hid (HT_2.out.bel hb); have HB_3 := Lib.hid (HB_2.out.below hb); have hs3_0 : w3.cell? ⟨w.heap.size, 0, none⟩ = some (.int .i64 sb) := HS_3.out.cell 0; have hs3_1 : w3.cell? ⟨w.heap.size, 1, none⟩ = some (.slice A n c) := HS_3.out.cell 1; obtain ⟨hb3_0, hb3_1, hb3_2, hb3_3, hb3_4, hb3_5, hb3_6, hb3_7, hb3_8, hb3_9⟩ := HB_3.out.box; clear hb)
    | (go_at_call 14; (with_reducible refine (Copy_any A n c l _ _ HR_3.out (by omega)).mono ?_); rintro e w4 ⟨A4, n4, c4, rfl, ho, hb⟩; have HW_4 := Lib.hid (bel_trans HW_3.out hb); have HS_4 := Lib.hid (HS_3.out.below hb); have HR_4 := Lib.hid (rdUp HR_3.out hb); have HT_4 := Lib.hid (HT_3.out.bel hb); have HB_4 := Lib.hid (HB_3.out.below hb); have HC_4 := Lib.hid (ho.rd); have hs4_0 : w4.cell? ⟨w.heap.size, 0, none⟩ = some (.int .i64 sb) := HS_4.out.cell 0; have hs4_1 : w4.cell? ⟨w.heap.size, 1, none⟩ = some (.slice A n c) := HS_4.out.cell 1; obtain ⟨hb4_0, hb4_1, hb4_2, hb4_3, hb4_4, hb4_5, hb4_6, hb4_7, hb4_8, hb4_9⟩ := HB_4.out.box; have HV_4 := Lib.hid (Below.refl w4.heap.size w4); have HSN := Lib.hid HS_4.out; have HRN := Lib.hid HR_4.out; have HCN := Lib.hid HC_4.out; have hNw := (HW_4.out).size; clear hb ho)
    | (go_at_call 25; (with_reducible refine (Append_is HAP.out HR_4.out hc (by omega) HI.out HFITS.out HB_4.out.rd hn10 HT_4.out).mono ?_); rintro e w5 ⟨A5, n5, c5, rfl, ho, hb⟩; have HW_5 := Lib.hid (bel_trans HW_4.out hb); have HS_5 := Lib.hid (HS_4.out.below hb); have HR_5 := Lib.hid (rdUp HR_4.out hb); have HT_5 := Lib.hid (HT_4.out.bel hb); have HB_5 := Lib.hid (HB_4.out.below hb); have HC_5 := Lib.hid (rdUp HC_4.out hb); have HV_5 := Lib.hid (bel_trans HV_4.out hb); have hcap5 := ho.cap; have hl5 := ho.len; have hn5 : n5 ≤ 137438953472 := (by omega); have HXR_5 := Lib.hid (ho.rd); have HXO_5 := Lib.hid (ho); have hne5 : ∀ g, (Value.slice A5 n5 c5).ownBlock = some g → g ≠ w5.heap.size := (fun g hg h9 => absurd (World.ownsRow.lt ho g hg).2 (by omega)); have hba := belA w5 (.cells #[.int .i64 xb, .slice A5 n5 c5] 24); have HW_5a := Lib.hid (bel_trans HW_5.out hba); have HS_5a := Lib.hid (HS_5.out.below hba); have HR_5a := Lib.hid (rdUp HR_5.out hba); have HT_5a := Lib.hid (HT_5.out.bel hba); have HB_5a := Lib.hid (HB_5.out.below hba); have HC_5a := Lib.hid (rdUp HC_5.out hba); have HV_5a := Lib.hid (bel_trans HV_5.out hba); have HXR_5a := Lib.hid (rdUp HXR_5.out hba); have HXO_5a := Lib.hid (HXO_5.out.below hba); have HX_5a := Lib.hid (At0.new w5 [.int .i64 xb, .slice A5 n5 c5] 24); have hs5a_0 : (w5.alloc (.cells #[.int .i64 xb, .slice A5 n5 c5] 24)).cell? ⟨w.heap.size, 0, none⟩ = some (.int .i64 sb) := HS_5a.out.cell 0; have hs5a_1 : (w5.alloc (.cells #[.int .i64 xb, .slice A5 n5 c5] 24)).cell? ⟨w.heap.size, 1, none⟩ = some (.slice A n c) := HS_5a.out.cell 1; obtain ⟨hb5a_0, hb5a_1, hb5a_2, hb5a_3, hb5a_4, hb5a_5, hb5a_6, hb5a_7, hb5a_8, hb5a_9⟩ := HB_5a.out.box; have hx5a_0 : (w5.alloc (.cells #[.int .i64 xb, .slice A5 n5 c5] 24)).cell? ⟨w5.heap.size, 0, none⟩ = some (.int .i64 xb) := HX_5a.out.cell 0; have hx5a_1 : (w5.alloc (.cells #[.int .i64 xb, .slice A5 n5 c5] 24)).cell? ⟨w5.heap.size, 1, none⟩ = some (.slice A5 n5 c5) := HX_5a.out.cell 1; clear hb hba ho)
    | (go_at_call 26; (with_reducible refine (refAppend_is HAP.out HR_5a.out hc (by omega) HI.out HFITS.out HB_5a.out.rd hn10).mono ?_); rintro e w6 ⟨A6, n6, c6, rfl, ho, hb⟩; have HW_6 := Lib.hid (bel_trans HW_5a.out hb); have HS_6 := Lib.hid (HS_5a.out.below hb); have HR_6 := Lib.hid (rdUp HR_5a.out hb); have HT_6 := Lib.hid (HT_5a.out.bel hb); have HB_6 := Lib.hid (HB_5a.out.below hb); have HC_6 := Lib.hid (rdUp HC_5a.out hb); have HV_6 := Lib.hid (bel_trans HV_5a.out hb); have HXR_6 := Lib.hid (rdUp HXR_5a.out hb); have HXO_6 := Lib.hid (HXO_5a.out.below hb); have HX_6 := Lib.hid (HX_5a.out.below hb); have hcap6 := ho.cap; have hl6 := ho.len; have hn6 : n6 ≤ 137438953472 := (by omega); have HYR_6 := Lib.hid (ho.rd); have hba := belA w6 (.cells #[.int .i64 xb, .slice A6 n6 c6] 24); have HW_6a := Lib.hid (bel_trans HW_6.out hba); have HS_6a := Lib.hid (HS_6.out.below hba); have HR_6a := Lib.hid (rdUp HR_6.out hba); have HT_6a := Lib.hid (HT_6.out.bel hba); have HB_6a := Lib.hid (HB_6.out.below hba); have HC_6a := Lib.hid (rdUp HC_6.out hba); have HV_6a := Lib.hid (bel_trans HV_6.out hba); have HXR_6a := Lib.hid (rdUp HXR_6.out hba); have HXO_6a := Lib.hid (HXO_6.out.below hba); have HX_6a := Lib.hid (HX_6.out.below hba); have HYR_6a := Lib.hid (rdUp HYR_6.out hba); have HY_6a := Lib.hid (At0.new w6 [.int .i64 xb, .slice A6 n6 c6] 24); have hs6a_0 : (w6.alloc (.cells #[.int .i64 xb, .slice A6 n6 c6] 24)).cell? ⟨w.heap.size, 0, none⟩ = some (.int .i64 sb) := HS_6a.out.cell 0; have hs6a_1 : (w6.alloc (.cells #[.int .i64 xb, .slice A6 n6 c6] 24)).cell? ⟨w.heap.size, 1, none⟩ = some (.slice A n c) := HS_6a.out.cell 1; have hx6a_0 : (w6.alloc (.cells #[.int .i64 xb, .slice A6 n6 c6] 24)).cell? ⟨w5.heap.size, 0, none⟩ = some (.int .i64 xb) := HX_6a.out.cell 0; have hx6a_1 : (w6.alloc (.cells #[.int .i64 xb, .slice A6 n6 c6] 24)).cell? ⟨w5.heap.size, 1, none⟩ = some (.slice A5 n5 c5) := HX_6a.out.cell 1; have hy6a_0 : (w6.alloc (.cells #[.int .i64 xb, .slice A6 n6 c6] 24)).cell? ⟨w6.heap.size, 0, none⟩ = some (.int .i64 xb) := HY_6a.out.cell 0; have hy6a_1 : (w6.alloc (.cells #[.int .i64 xb, .slice A6 n6 c6] 24)).cell? ⟨w6.heap.size, 1, none⟩ = some (.slice A6 n6 c6) := HY_6a.out.cell 1; clear hb hba ho)
    | (go_at_call 22; (with_reducible refine (refSameS_is xb A5 n5 c5 xb A6 n6 c6 xs xs _ HXR_6a.out HYR_6a.out (same_self xb xs)).mono ?_); rintro e w7 ⟨rfl, hb⟩; have HW_7 := Lib.hid (bel_trans HW_6a.out hb); have HS_7 := Lib.hid (HS_6a.out.below hb); have HR_7 := Lib.hid (rdUp HR_6a.out hb); have HT_7 := Lib.hid (HT_6a.out.bel hb); have HB_7 := Lib.hid (HB_6a.out.below hb); have HC_7 := Lib.hid (rdUp HC_6a.out hb); have HV_7 := Lib.hid (bel_trans HV_6a.out hb); have HXR_7 := Lib.hid (rdUp HXR_6a.out hb); have HXO_7 := Lib.hid (HXO_6a.out.below hb); have HX_7 := Lib.hid (HX_6a.out.below hb); have HYR_7 := Lib.hid (rdUp HYR_6a.out hb); have HY_7 := Lib.hid (HY_6a.out.below hb); have hx7_0 : w7.cell? ⟨w5.heap.size, 0, none⟩ = some (.int .i64 xb) := HX_7.out.cell 0; have hx7_1 : w7.cell? ⟨w5.heap.size, 1, none⟩ = some (.slice A5 n5 c5) := HX_7.out.cell 1; have hs7_0 : w7.cell? ⟨w.heap.size, 0, none⟩ = some (.int .i64 sb) := HS_7.out.cell 0; have hs7_1 : w7.cell? ⟨w.heap.size, 1, none⟩ = some (.slice A n c) := HS_7.out.cell 1; clear hb))
  go_wp2
  go_loopw [52] (fun i wr => bumpRel 5 24 w4.heap.size A5 n5 c5 xb w5.heap.size w7 i wr) (fun i _ => n5 - (intOf i).toNat)
  case atStart => exact ⟨0, rfl, Nat.zero_le _, ⟨_, HXO_7.out⟩, HX_7.out, hne5, Below.refl _ _⟩
  case round =>
    obtain ⟨j, rfl, hj, ⟨l', hown⟩, hbox, hnx, hb⟩ := hrel
    have x0 : wr.cell? ⟨w5.heap.size, 0, none⟩ = some (.int .i64 (xb)) := hbox.cell 0
    have x1 : wr.cell? ⟨w5.heap.size, 1, none⟩ = some (.slice A5 n5 c5) := hbox.cell 1
    have HBX := Lib.hid hbox
    have HNX := Lib.hid hnx
    clear hbox hnx
    by_cases hlt : j < n5
    · obtain ⟨g, rfl, hg⟩ := own_form hown (by omega)
      obtain ⟨d, hcell, hfz⟩ := own_cell hown hlt
      have hd255 : d.toNat ≤ 255 := by have := d.toNat_lt; omega
      obtain ⟨hset, hbel⟩ := own_set (j := j) hown hg ((d.toNat : Int) + 1)
      have HSET := Lib.hid hset
      have HBEL := Lib.hid (hb.trans hbel)
      clear hset hbel
      go_wp2
      go_roundw
      case rel => exact ⟨j + 1, by go_num, by omega, HSET.out, HBX.out.set (HNX.out g rfl) _, HNX.out, HBEL.out⟩
      case measure => simp [intOf]; omega
    · have HVW := Lib.hid (HV_7.out.trans hb)
      have HWW := Lib.hid (HW_7.out.trans (hb.mono hNw))
      have s1 : wr.cell? ⟨w.heap.size, 1, none⟩ = some (.slice A n c) := (HVW.out.cell (p := ⟨w.heap.size, 1, none⟩) HSN.out.lt).trans (HSN.out.cell 1)
      have hss := sameB_self l
      go_wp2_with (go_at_call 23; (with_reducible refine (Same_any A A4 n c n4 c4 l l _ _ wr (HRN.out.below HVW.out (Nat.le_refl _)) (HCN.out.below HVW.out (Nat.le_refl _))).mono ?_); rintro e w9 ⟨rfl, rfl⟩)
      go_ret
      exact ⟨rfl, HWW.out⟩
end Go.Proofs.YtgjbfhmfhmihhaaDoor.Seg

namespace Go.Proofs.YtgjbfhmfhmihhaaDoor.segAppends
open Go.ChangeShapes Go.WideShapes Go.ChangeAt Go.RowKit

theorem own : ownKnob Tryd.prog.godebug = none := by kernel_rfl
theorem laidOut : laidOutB Tryd.prog = true := by kernel_rfl

set_option maxRecDepth 100000 in
theorem lifted (os : Os) (started : os.Started) (H : Type) (enc : TypeId × Value → H) :
    ReturnsInHanded {} Tryd.checked os 4 .any (fun w args => (Rows.segAppendsSpec.pre enc Tryd.prog Tryd.f4 [] false w args ∧ laidMetH Tryd.prog Crc.listed w) ∧ sizedMet enc Tryd.prog Tryd.f4 (OpenSpec.ofChange Rows.segAppendsSpec) false w args)
      (Rows.segAppendsSpec.post enc Tryd.prog Tryd.f4 false true false false) := by
  refine returnsInHanded_of_change_and (C := Tryd.checked) (X := fun w _ => laidMetH Tryd.prog Crc.listed w) (fun _ _ _ hh h => h.of_heap hh) own started (by kernel_rfl) Tryd.func4
    (ChangeSpec.witness_shaped (enc := enc) (C := Tryd.checked) (os := os) (X := fun w _ => laidMetH Tryd.prog Crc.listed w) false (World.doorLaid Tryd.prog 400 os) #[.agg #[.int .i64 0, .slice none 0 0], .agg #[.int .i64 0, .int .i64 0, .int .i64 0, .int .i64 0, .int .i64 0, .int .i64 0, .int .i64 0, .bool false, .int .i64 0, .slice none 0 0], .int .i64 0] 8 rfl (World.shaped_of_RefB (by kernel_rfl) (by kernel_rfl)) (by kernel_rfl) (by kernel_rfl) (by kernel_rfl) (Crc.door_met os _)) ?_
  intro W base args ds gs before hval0 hW _ hwt hL _
  have hval : ∀ (j : Nat) t v, Tryd.f4.params[j]? = some t → args[j]? = some v → Value.okWide Tryd.prog W .any base t v := hval0
  have hW' := hW
  obtain ⟨p, q, hA0, hV, rfl, hfz, hnd⟩ := hW
  have hA : DataW.TrodAll enc Tryd.prog W 0 (fun _ => true) true Tryd.f4.params.toList args.toList ds p := hA0
  rw [Tryd.params4] at hA hval
  obtain ⟨v0, vs0, d0, ds0, p0, q0, hargs, rfl, rfl, h0, r0⟩ := trodAll_cons hA
  obtain ⟨v1, vs1, d1, ds1, p1, q1, rfl, rfl, rfl, h1, r1⟩ := trodAll_cons r0
  obtain ⟨v2, vs2, d2, ds2, p2, q2, rfl, rfl, rfl, h2, r2⟩ := trodAll_cons r1
  obtain ⟨rfl, rfl, rfl⟩ := trodAll_nil r2
  obtain rfl : args = #[v0, v1, v2] := by cases args; simp_all
  obtain ⟨rfl, rfl⟩ := trodVars_none hV
  have k0 := h0
  have lt0 : ∀ x ∈ p0, x.block < W.heap.size := by obtain ⟨m, hm⟩ := k0; exact DataW.trod_lt m _ _ _ hm
  obtain ⟨sb_0, A_0, n_0, c_0, l_0, rfl, hi_0, hc_0, hk_0, hR_0⟩ := Seg.open_seg (hval 0 24 v0 rfl rfl) h0 (Bat.weights_arg (j := 0) hwt (by kernel_rfl) rfl)
  have k1 := h1
  have lt1 : ∀ x ∈ p1, x.block < W.heap.size := by obtain ⟨m, hm⟩ := k1; exact DataW.trod_lt m _ _ _ hm
  obtain ⟨ba_1, la_1, fr_1, ep_1, pi_1, ge_1, se_1, tx_1, ct_1, A_1, n_1, c_1, rs_1, rfl, hf_1, hc_1, hk_1, hR_1⟩ := Bat.open_batch (hval 1 39 v1 rfl rfl) h1 (Bat.weights_arg (j := 1) hwt (by kernel_rfl) rfl)
  have k2 := h2
  have lt2 : ∀ x ∈ p2, x.block < W.heap.size := by obtain ⟨m, hm⟩ := k2; exact DataW.trod_lt m _ _ _ hm
  obtain ⟨a2, rfl, hi2⟩ := Oct.open_i64 Tryd.underlying3 (hval 2 3 v2 rfl rfl) h2
  clear hA0 hval0
  refine (Seg.segAppends_walk sb_0 A_0 n_0 c_0 l_0 ba_1 la_1 fr_1 ep_1 pi_1 ge_1 se_1 tx_1 ct_1 A_1 n_1 c_1 rs_1 a2 W hi_0 hc_0 hk_0 hR_0 hf_1 hc_1 hk_1 hR_1 hi2 (Crc.tab_of_laid hL)).mono fun e W' ⟨he, bel⟩ => ?_
  subst he
  exact ⟨_, rfl, _, _, _, [], _, [], hW', trodAll_mk1 (shut_bool Tryd.underlying4 _), (trodAll_cons_mk (Below.trod laidOut (by kernel_rfl) (of_decide_eq_true (by kernel_rfl)) k0 bel lt0) (trodAll_cons_mk (Below.trod laidOut (by kernel_rfl) (of_decide_eq_true (by kernel_rfl)) k1 bel lt1) (trodAll_cons_mk (Below.trod laidOut (by kernel_rfl) (of_decide_eq_true (by kernel_rfl)) k2 bel lt2) trodAll_mk0))), rfl, bel.frame _, fun h => by cases h⟩

theorem over : Rows.segAppendsRow.holds Tryd.pinned (OpenSpec.ofChange Rows.segAppendsSpec) :=
  OpenClaim.holds_of_wide 4 Tryd.f4 rfl rfl rfl rfl rfl rfl rfl ⟨rfl, rfl, rfl, rfl, rfl⟩ rfl rfl rfl rfl rfl (by kernel_rfl) Tryd.func4 (by kernel_rfl)
    (of_decide_eq_true (by kernel_rfl)) (by unfold Func.isWrapper; first | (rw [if_pos (by decide +kernel)]; kernel_rfl) | (rw [if_neg (by decide +kernel)]; exact ⟨rfl, rfl⟩))
    (fun os started H enc _ => lifted os started H enc)

theorem proved : Rows.SegAppendsCardSaid :=
  Claim7.holds_tied_plain_at .later [] [.data] true (true, "8756dca365c3738ae7f7dad078bfa0200519ee75ee06b885abe2d0f8db900c1d") false
    over (fun _ h => by cases h) (by kernel_rfl) (fun _ h => by cases h) segAppends_row_tie rfl ⟨rfl, rfl⟩ (by kernel_rfl) rfl
    (fun f fn hf hfn => by
      obtain rfl : f = 4 := Option.some.inj ((show Tryd.prog.funcNamed "watermeet/watermeetlaw07.SegAppends" = some 4 by kernel_rfl).symm.trans hf) |>.symm
      obtain rfl : fn = Tryd.f4 := (Option.some.inj (Tryd.func4.symm.trans hfn)).symm
      exact ⟨by kernel_rfl, fun j t ht => by
        rw [Tryd.params4] at ht
        have hm : t ∈ [24, 39, 3] := by simpa using Array.mem_of_getElem? ht
        have hall : ([24, 39, 3].all fun u => !Tryd.prog.wantsStandIn u) = true := by kernel_rfl
        exact (show Tryd.prog.wantsStandIn t = false by simpa using List.all_eq_true.1 hall t hm)⟩)
    (by kernel_rfl)
#print axioms proved
end Go.Proofs.YtgjbfhmfhmihhaaDoor.segAppends
