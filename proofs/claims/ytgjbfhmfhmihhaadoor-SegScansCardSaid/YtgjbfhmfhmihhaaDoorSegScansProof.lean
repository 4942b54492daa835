/- For any segment (at most 9,000 bytes): its batches, how many bytes they take, where it ends, and what is left without the others are what the document tells, and it stays as it was (the law answers true, and changes nothing that was there). Conditions: none.
-/
import Derived.Test.YtgjbfhmfhmihhaaDoorSegW
import Derived.Test.YtgjbfhmfhmihhaaDoorSegSA
import Derived.Test.YtgjbfhmfhmihhaaDoorSegVS
import Derived.Test.YtgjbfhmfhmihhaaDoorInT
import Derived.Test.YtgjbfhmfhmihhaaDoorRows
import Derived.WalkKit
import Derived.ProofKit
import Derived.OpenShut
import Derived.ChangeOld
import Derived.Below
import Derived.Carry
import Derived.Test.YtgjbfhmfhmihhaaDoorJOct
import Derived.Test.YtgjbfhmfhmihhaaDoorSegArg
import Derived.Test.YtgjbfhmfhmihhaaDoorJCrc
import Derived.Test.YtgjbfhmfhmihhaaDoorTie
import Derived.Test.YtgjbfhmfhmihhaaDoorCards
import Derived.SevenTiedAt
/- The walk of SegScans. -/
namespace Go.Proofs.YtgjbfhmfhmihhaaDoor.Seg
open Go.RowKit Go.Proofs.YtgjbfhmfhmihhaaDoor.Oct Go.Proofs.YtgjbfhmfhmihhaaDoor.Rec Go.Proofs.YtgjbfhmfhmihhaaDoor.Crc Go.Proofs.YtgjbfhmfhmihhaaDoor.Bat Go.Proofs.YtgjbfhmfhmihhaaDoor.Lay Go.Proofs.YtgjbfhmfhmihhaaDoor.InR

def tb_SegScans10 : List (Nat × Nat) := [(0, 67108863), (0, 67108863), (3, 67108860), (4, 67108859), (8, 67108855), (8, 67108855), (56, 67108807), (72, 67108791), (136, 67108735), (256, 67108607), (768, 67108095), (256, 67108607), (3328, 67106559), (5376, 67103487), (8448, 67100415), (20480, 67092479), (32768, 67076095), (32768, 67076095), (229376, 66879487), (294912, 66813951), (786432, 66584575), (1048576, 66060287), (1048576, 66060287), (7340032, 59768831), (9437184, 57671679), (33554431, 50331647)]
set_option maxRecDepth 100000 in
set_option maxHeartbeats 8000000 in
theorem segScans_walk (sb : Int) (A : Option Addr) (n c : Nat) (l : List UInt8) (w : World) (hi : I64 sb) (hc : n ≤ c) (_hk : c ≤ reach) (hR : Rd w w.heap.size A n l) (ht : Tab w) :
    Calls Tryd.prog 3 #[.agg #[.int .i64 sb, .slice A n c]] w fun e w' => e = .returned (.bool true) ∧ Below w.heap.size w w' := by
  have HW_0 := Lib.hid (belA w (.cells #[.int .i64 sb, .slice A n c] 24))
  have HS_0 := Lib.hid (At0.new w [.int .i64 sb, .slice A n c] 24)
  have HR_0 := Lib.hid (rdUp hR HW_0.out)
  have HT_0 := Lib.hid (ht.bel HW_0.out)
  have hmx : Tryd.prog.follows .mixedOrders = true := by kernel_rfl
  clear hR ht
  rcases hz : decide ((n : Int) ≤ 9000) with _ | _
  · have HZ := Lib.hid hz
    clear hz
    go_enter Tryd.func3, Tryd.ntmps3
    go_wp2_with (first
      | (go_at_call 12; (with_reducible refine (live_any _ HT_0.out).mono ?_); rintro e w1 ⟨rfl, hb⟩; have HW_1 := Lib.hid (bel_trans HW_0.out hb); have HS_1 := Lib.hid (HS_0.out.below hb); have HR_1 := Lib.hid (rdUp HR_0.out hb); have HT_1 := Lib.hid (HT_0.out.bel hb); have hs1_0 : w1.cell? ⟨w.heap.size, 0, none⟩ = some (.int .i64 sb) := HS_1.out.cell 0; have hs1_1 : w1.cell? ⟨w.heap.size, 1, none⟩ = some (.slice A n c) := HS_1.out.cell 1; clear hb)
      | (go_at_call 13; (with_reducible refine (refFewS_is sb A n c _ HZ.out).mono ?_); rintro e w2 ⟨rfl, hb⟩; have HW_2 := Lib.hid (bel_trans HW_1.out hb); have HS_2 := Lib.hid (HS_1.out.below hb); have HR_2 := Lib.hid (rdUp HR_1.out hb); have HT_2 := Lib.hid (HT_1.out.bel hb); have hs2_0 : w2.cell? ⟨w.heap.size, 0, none⟩ = some (.int .i64 sb) := HS_2.out.cell 0; have hs2_1 : w2.cell? ⟨w.heap.size, 1, none⟩ = some (.slice A n c) := HS_2.out.cell 1; clear hb))
    go_ret
    exact ⟨rfl, HW_2.out⟩
  have HZ := Lib.hid hz
  have hn : n ≤ 9000 := by have := of_decide_eq_true hz; omega
  have hlen := HR_0.out.len
  clear hz
  obtain ⟨L, g, hsc⟩ : ∃ L g, sc sb l = (L, g) := ⟨_, _, rfl⟩
  have hgl : g ≤ n := by have h := (sc_good sb l).2.2.2.1; rw [hsc] at h; simp only at h; omega
  have hLl : L.length ≤ 9000 := by have h := (sc_good sb l).2.1; rw [hsc] at h; have h2 := byR_ge L; simp only at h; omega
  have HSC := Lib.hid hsc
  obtain ⟨E, hE⟩ : ∃ E, endS ⟨sb, l⟩ = E := ⟨_, rfl⟩
  have HE := Lib.hid hE
  obtain ⟨xs, hxs⟩ : ∃ xs, xs = l.take g := ⟨_, rfl⟩
  have hxl : xs.length ≤ 9000 := by rw [hxs, List.length_take]; omega
  obtain ⟨xe, hxe⟩ : ∃ xe : Int, xe = (l.length : Int) - g := ⟨_, rfl⟩
  have HFX := Lib.hid (show fixS ⟨sb, l⟩ = (⟨sb, xs⟩, xe) by unfold fixS goodS; simp only [hsc]; rw [hxs, hxe])
  have HI := Lib.hid hi
  clear hsc hE hxs hxe
  go_enter Tryd.func3, Tryd.ntmps3
  go_wp2_with (first
    | (go_at_call 12; (with_reducible refine (live_any _ HT_0.out).mono ?_); rintro e w1 ⟨rfl, hb⟩; have HW_1 := Lib.hid (bel_trans HW_0.out hb); have HS_1 := Lib.hid (HS_0.out.below hb); have HR_1 := Lib.hid (rdUp HR_0.out hb); have HT_1 := Lib.hid (HT_0.out.bel hb); have hs1_0 : w1.cell? ⟨w.heap.size, 0, none⟩ = some (.int .i64 sb) := HS_1.out.cell 0; have hs1_1 : w1.cell? ⟨w.heap.size, 1, none⟩ = some (.slice A n c) := HS_1.out.cell 1; clear hb)
    | (go_at_call 13; (with_reducible refine (refFewS_is sb A n c _ HZ.out).mono ?_); rintro e w2 ⟨rfl, hb⟩; have HW_2 := Lib.hid (bel_trans HW_1.out hb); have HS_2 := Lib.hid (HS_1.out.below hb); have HR_2 := Lib.hid (rdUp HR_1.out hb); have HT_2 := Lib.hid (HT_1.out.bel hb); have hs2_0 : w2.cell? ⟨w.heap.size, 0, none⟩ = some (.int .i64 sb) := HS_2.out.cell 0; have hs2_1 : w2.cell? ⟨w.heap.size, 1, none⟩ = some (.slice A n c) := HS_2.out.cell 1; clear hb)
    | (go_at_call 14; (with_reducible refine (Copy_any A n c l _ _ HR_2.out (by omega)).mono ?_); rintro e w3 ⟨A3, n3, c3, rfl, ho, hb⟩; have HW_3 := Lib.hid (bel_trans HW_2.out hb); have HS_3 := Lib.hid (HS_2.out.below hb); have HR_3 := Lib.hid (rdUp HR_2.out hb); have HT_3 := Lib.hid (HT_2.out.bel hb); have HC_3 := Lib.hid (ho.rd); have hs3_0 : w3.cell? ⟨w.heap.size, 0, none⟩ = some (.int .i64 sb) := HS_3.out.cell 0; have hs3_1 : w3.cell? ⟨w.heap.size, 1, none⟩ = some (.slice A n c) := HS_3.out.cell 1; clear hb ho)
    | (go_at_call 15; (with_reducible refine (Scan_is HSC.out HR_3.out hc (by omega) HI.out HT_3.out).mono ?_); rintro e w4 ⟨A4, n4, c4, rfl, ho, hb⟩; have HW_4 := Lib.hid (bel_trans HW_3.out hb); have HS_4 := Lib.hid (HS_3.out.below hb); have HR_4 := Lib.hid (rdUp HR_3.out hb); have HT_4 := Lib.hid (HT_3.out.bel hb); have HC_4 := Lib.hid (rdUp HC_3.out hb); have HL_4 := Lib.hid (ho.rd); have hn4 : n4 ≤ 1099511627776 := (by have h9 := ho.len; omega); have hcap4 := ho.cap; have hs4_0 : w4.cell? ⟨w.heap.size, 0, none⟩ = some (.int .i64 sb) := HS_4.out.cell 0; have hs4_1 : w4.cell? ⟨w.heap.size, 1, none⟩ = some (.slice A n c) := HS_4.out.cell 1; clear hb ho)
    | (go_at_call 16; (with_reducible refine (refScan_is HSC.out HR_4.out hc (by omega) HI.out).mono ?_); rintro e w5 ⟨A5, n5, c5, rfl, ho, hb⟩; have HW_5 := Lib.hid (bel_trans HW_4.out hb); have HS_5 := Lib.hid (HS_4.out.below hb); have HR_5 := Lib.hid (rdUp HR_4.out hb); have HT_5 := Lib.hid (HT_4.out.bel hb); have HC_5 := Lib.hid (rdUp HC_4.out hb); have HL_5 := Lib.hid (rdtUp HL_4.out hb); have HM_5 := Lib.hid (ho.rd); have hn5 : n5 ≤ 1099511627776 := (by have h9 := ho.len; omega); have hcap5 := ho.cap; have hs5_0 : w5.cell? ⟨w.heap.size, 0, none⟩ = some (.int .i64 sb) := HS_5.out.cell 0; have hs5_1 : w5.cell? ⟨w.heap.size, 1, none⟩ = some (.slice A n c) := HS_5.out.cell 1; have HV_5 := Lib.hid (Below.refl w5.heap.size w5); have HSN := Lib.hid HS_5.out; have HRN := Lib.hid HR_5.out; have HCN := Lib.hid HC_5.out; have hNw := (HW_5.out).size; clear hb ho)
    | (go_at_call 17; (with_reducible refine (Fix_is HFX.out HR_5.out hc (by omega) HI.out HT_5.out).mono ?_); rintro e w6 ⟨A6, n6, c6, rfl, ho, hb⟩; have HW_6 := Lib.hid (bel_trans HW_5.out hb); have HS_6 := Lib.hid (HS_5.out.below hb); have HR_6 := Lib.hid (rdUp HR_5.out hb); have HT_6 := Lib.hid (HT_5.out.bel hb); have HC_6 := Lib.hid (rdUp HC_5.out hb); have HL_6 := Lib.hid (rdtUp HL_5.out hb); have HM_6 := Lib.hid (rdtUp HM_5.out hb); have HV_6 := Lib.hid (bel_trans HV_5.out hb); have hcap6 := ho.cap; have hl6 := ho.len; have hn6 : n6 ≤ 137438953472 := (by omega); have HXR_6 := Lib.hid (ho.rd); have HXO_6 := Lib.hid (ho); have hne6 : ∀ g, (Value.slice A6 n6 c6).ownBlock = some g → g ≠ w6.heap.size := (fun g hg h9 => absurd (World.ownsRow.lt ho g hg).2 (by omega)); have hba := belA w6 (.cells #[.int .i64 sb, .slice A6 n6 c6] 24); have HW_6a := Lib.hid (bel_trans HW_6.out hba); have HS_6a := Lib.hid (HS_6.out.below hba); have HR_6a := Lib.hid (rdUp HR_6.out hba); have HT_6a := Lib.hid (HT_6.out.bel hba); have HC_6a := Lib.hid (rdUp HC_6.out hba); have HL_6a := Lib.hid (rdtUp HL_6.out hba); have HM_6a := Lib.hid (rdtUp HM_6.out hba); have HV_6a := Lib.hid (bel_trans HV_6.out hba); have HXR_6a := Lib.hid (rdUp HXR_6.out hba); have HXO_6a := Lib.hid (HXO_6.out.below hba); have HX_6a := Lib.hid (At0.new w6 [.int .i64 sb, .slice A6 n6 c6] 24); have hs6a_0 : (w6.alloc (.cells #[.int .i64 sb, .slice A6 n6 c6] 24)).cell? ⟨w.heap.size, 0, none⟩ = some (.int .i64 sb) := HS_6a.out.cell 0; have hs6a_1 : (w6.alloc (.cells #[.int .i64 sb, .slice A6 n6 c6] 24)).cell? ⟨w.heap.size, 1, none⟩ = some (.slice A n c) := HS_6a.out.cell 1; have hx6a_0 : (w6.alloc (.cells #[.int .i64 sb, .slice A6 n6 c6] 24)).cell? ⟨w6.heap.size, 0, none⟩ = some (.int .i64 sb) := HX_6a.out.cell 0; have hx6a_1 : (w6.alloc (.cells #[.int .i64 sb, .slice A6 n6 c6] 24)).cell? ⟨w6.heap.size, 1, none⟩ = some (.slice A6 n6 c6) := HX_6a.out.cell 1; clear hb hba ho)
    | (go_at_call 18; (with_reducible refine (refFix_is HFX.out HR_6a.out hc (by omega) HI.out).mono ?_); rintro e w7 ⟨A7, n7, c7, rfl, ho, hb⟩; have HW_7 := Lib.hid (bel_trans HW_6a.out hb); have HS_7 := Lib.hid (HS_6a.out.below hb); have HR_7 := Lib.hid (rdUp HR_6a.out hb); have HT_7 := Lib.hid (HT_6a.out.bel hb); have HC_7 := Lib.hid (rdUp HC_6a.out hb); have HL_7 := Lib.hid (rdtUp HL_6a.out hb); have HM_7 := Lib.hid (rdtUp HM_6a.out hb); have HV_7 := Lib.hid (bel_trans HV_6a.out hb); have HXR_7 := Lib.hid (rdUp HXR_6a.out hb); have HXO_7 := Lib.hid (HXO_6a.out.below hb); have HX_7 := Lib.hid (HX_6a.out.below hb); have hcap7 := ho.cap; have hl7 := ho.len; have hn7 : n7 ≤ 137438953472 := (by omega); have HYR_7 := Lib.hid (ho.rd); have hba := belA w7 (.cells #[.int .i64 sb, .slice A7 n7 c7] 24); have HW_7a := Lib.hid (bel_trans HW_7.out hba); have HS_7a := Lib.hid (HS_7.out.below hba); have HR_7a := Lib.hid (rdUp HR_7.out hba); have HT_7a := Lib.hid (HT_7.out.bel hba); have HC_7a := Lib.hid (rdUp HC_7.out hba); have HL_7a := Lib.hid (rdtUp HL_7.out hba); have HM_7a := Lib.hid (rdtUp HM_7.out hba); have HV_7a := Lib.hid (bel_trans HV_7.out hba); have HXR_7a := Lib.hid (rdUp HXR_7.out hba); have HXO_7a := Lib.hid (HXO_7.out.below hba); have HX_7a := Lib.hid (HX_7.out.below hba); have HYR_7a := Lib.hid (rdUp HYR_7.out hba); have HY_7a := Lib.hid (At0.new w7 [.int .i64 sb, .slice A7 n7 c7] 24); have hs7a_0 : (w7.alloc (.cells #[.int .i64 sb, .slice A7 n7 c7] 24)).cell? ⟨w.heap.size, 0, none⟩ = some (.int .i64 sb) := HS_7a.out.cell 0; have hs7a_1 : (w7.alloc (.cells #[.int .i64 sb, .slice A7 n7 c7] 24)).cell? ⟨w.heap.size, 1, none⟩ = some (.slice A n c) := HS_7a.out.cell 1; have hx7a_0 : (w7.alloc (.cells #[.int .i64 sb, .slice A7 n7 c7] 24)).cell? ⟨w6.heap.size, 0, none⟩ = some (.int .i64 sb) := HX_7a.out.cell 0; have hx7a_1 : (w7.alloc (.cells #[.int .i64 sb, .slice A7 n7 c7] 24)).cell? ⟨w6.heap.size, 1, none⟩ = some (.slice A6 n6 c6) := HX_7a.out.cell 1; have hy7a_0 : (w7.alloc (.cells #[.int .i64 sb, .slice A7 n7 c7] 24)).cell? ⟨w7.heap.size, 0, none⟩ = some (.int .i64 sb) := HY_7a.out.cell 0; have hy7a_1 : (w7.alloc (.cells #[.int .i64 sb, .slice A7 n7 c7] 24)).cell? ⟨w7.heap.size, 1, none⟩ = some (.slice A7 n7 c7) := HY_7a.out.cell 1; clear hb hba ho))
  have hbd := (Below.refl (w7.alloc (.cells #[.int .i64 sb, .slice A7 n7 c7] 24)).heap.size (w7.alloc (.cells #[.int .i64 sb, .slice A7 n7 c7] 24))).drew
  have HW_R10 := Lib.hid (bel_trans HW_7a.out hbd)
  have HS_R10 := Lib.hid (HS_7a.out.below hbd)
  have HR_R10 := Lib.hid (rdUp HR_7a.out hbd)
  have HT_R10 := Lib.hid (HT_7a.out.bel hbd)
  have HC_R10 := Lib.hid (rdUp HC_7a.out hbd)
  have HL_R10 := Lib.hid (rdtUp HL_7a.out hbd)
  have HM_R10 := Lib.hid (rdtUp HM_7a.out hbd)
  have HV_R10 := Lib.hid (bel_trans HV_7a.out hbd)
  have HXR_R10 := Lib.hid (rdUp HXR_7a.out hbd)
  have HXO_R10 := Lib.hid (HXO_7a.out.below hbd)
  have HX_R10 := Lib.hid (HX_7a.out.below hbd)
  have HYR_R10 := Lib.hid (rdUp HYR_7a.out hbd)
  have HY_R10 := Lib.hid (HY_7a.out.below hbd)
  have HS10R := Lib.hid (show (fun W9 : World => W9.cell? ⟨w.heap.size, 0, none⟩ = some (.int .i64 sb) ∧ W9.cell? ⟨w.heap.size, 1, none⟩ = some (.slice A n c) ∧ W9.cell? ⟨w6.heap.size, 0, none⟩ = some (.int .i64 sb) ∧ W9.cell? ⟨w6.heap.size, 1, none⟩ = some (.slice A6 n6 c6) ∧ W9.cell? ⟨w7.heap.size, 0, none⟩ = some (.int .i64 sb) ∧ W9.cell? ⟨w7.heap.size, 1, none⟩ = some (.slice A7 n7 c7)) (w7.alloc (.cells #[.int .i64 sb, .slice A7 n7 c7] 24)).drew from ⟨HS_R10.out.cell 0, HS_R10.out.cell 1, HX_R10.out.cell 0, HX_R10.out.cell 1, HY_R10.out.cell 0, HY_R10.out.cell 1⟩)
  clear hbd
  have hsR10_0 : (w7.alloc (.cells #[.int .i64 sb, .slice A7 n7 c7] 24)).drew.cell? ⟨w.heap.size, 0, none⟩ = some (.int .i64 sb) := HS_R10.out.cell 0
  have hsR10_1 : (w7.alloc (.cells #[.int .i64 sb, .slice A7 n7 c7] 24)).drew.cell? ⟨w.heap.size, 1, none⟩ = some (.slice A n c) := HS_R10.out.cell 1
  have hxR10_0 : (w7.alloc (.cells #[.int .i64 sb, .slice A7 n7 c7] 24)).drew.cell? ⟨w6.heap.size, 0, none⟩ = some (.int .i64 sb) := HX_R10.out.cell 0
  have hxR10_1 : (w7.alloc (.cells #[.int .i64 sb, .slice A7 n7 c7] 24)).drew.cell? ⟨w6.heap.size, 1, none⟩ = some (.slice A6 n6 c6) := HX_R10.out.cell 1
  have hyR10_0 : (w7.alloc (.cells #[.int .i64 sb, .slice A7 n7 c7] 24)).drew.cell? ⟨w7.heap.size, 0, none⟩ = some (.int .i64 sb) := HY_R10.out.cell 0
  have hyR10_1 : (w7.alloc (.cells #[.int .i64 sb, .slice A7 n7 c7] 24)).drew.cell? ⟨w7.heap.size, 1, none⟩ = some (.slice A7 n7 c7) := HY_R10.out.cell 1
  refine region_let (fun W9 : World => W9.cell? ⟨w.heap.size, 0, none⟩ = some (.int .i64 sb) ∧ W9.cell? ⟨w.heap.size, 1, none⟩ = some (.slice A n c) ∧ W9.cell? ⟨w6.heap.size, 0, none⟩ = some (.int .i64 sb) ∧ W9.cell? ⟨w6.heap.size, 1, none⟩ = some (.slice A6 n6 c6) ∧ W9.cell? ⟨w7.heap.size, 0, none⟩ = some (.int .i64 sb) ∧ W9.cell? ⟨w7.heap.size, 1, none⟩ = some (.slice A7 n7 c7)) 99 26 hmx rfl fun ops Q HOPS HQ => ?_
  have HREG := reg_of HOPS tb_SegScans10 rfl (by kernel_rfl) (by kernel_rfl) (by decide)
  refine stepTQ HOPS HREG 0 1 ?_ (by decide) rfl (by kernel_rfl) (by kernel_rfl) rfl ?_ HS10R.out ?_
  rotate_left
  · intro w9 hS9; obtain ⟨q0, q1, q2, q3, q4, q5⟩ := hS9; go_simp; (first | done | with_reducible rfl)
  dsimp only [List.set_cons_zero, List.set_cons_succ]
  refine stepTQ HOPS HREG 1 3 ?_ (by decide) rfl (by kernel_rfl) (by kernel_rfl) rfl ?_ HS10R.out ?_
  rotate_left
  · intro w9 hS9; obtain ⟨q0, q1, q2, q3, q4, q5⟩ := hS9; go_simp; (first | done | with_reducible rfl)
  dsimp only [List.set_cons_zero, List.set_cons_succ]
  refine stepC HOPS 2 7 (by decide) rfl (by kernel_rfl) (by kernel_rfl) ?_
  go_simp
  with_reducible refine (SameAll_is A4 A5 n4 c4 n5 c5 L L _ HL_R10.out HM_R10.out hn4 hn5 (eqT_self L)).mono ?_
  rintro e w8 ⟨rfl, hb⟩
  have HW_8 := Lib.hid (bel_trans HW_R10.out hb)
  have HS_8 := Lib.hid (HS_R10.out.below hb)
  have HR_8 := Lib.hid (rdUp HR_R10.out hb)
  have HT_8 := Lib.hid (HT_R10.out.bel hb)
  have HC_8 := Lib.hid (rdUp HC_R10.out hb)
  have HL_8 := Lib.hid (rdtUp HL_R10.out hb)
  have HM_8 := Lib.hid (rdtUp HM_R10.out hb)
  have HV_8 := Lib.hid (bel_trans HV_R10.out hb)
  have HXR_8 := Lib.hid (rdUp HXR_R10.out hb)
  have HXO_8 := Lib.hid (HXO_R10.out.below hb)
  have HX_8 := Lib.hid (HX_R10.out.below hb)
  have HYR_8 := Lib.hid (rdUp HYR_R10.out hb)
  have HY_8 := Lib.hid (HY_R10.out.below hb)
  have HS10w8 := Lib.hid (show (fun W9 : World => W9.cell? ⟨w.heap.size, 0, none⟩ = some (.int .i64 sb) ∧ W9.cell? ⟨w.heap.size, 1, none⟩ = some (.slice A n c) ∧ W9.cell? ⟨w6.heap.size, 0, none⟩ = some (.int .i64 sb) ∧ W9.cell? ⟨w6.heap.size, 1, none⟩ = some (.slice A6 n6 c6) ∧ W9.cell? ⟨w7.heap.size, 0, none⟩ = some (.int .i64 sb) ∧ W9.cell? ⟨w7.heap.size, 1, none⟩ = some (.slice A7 n7 c7)) w8 from ⟨HS_8.out.cell 0, HS_8.out.cell 1, HX_8.out.cell 0, HX_8.out.cell 1, HY_8.out.cell 0, HY_8.out.cell 1⟩)
  clear hb
  dsimp only
  refine ⟨HS10w8.out, ?_⟩
  try simp only [Act.put, List.setIfInBounds_toArray, List.set_cons_zero, List.set_cons_succ]
  refine stepTQ HOPS HREG 3 15 ?_ (by decide) rfl (by kernel_rfl) (by kernel_rfl) rfl ?_ HS10w8.out ?_
  rotate_left
  · intro w9 hS9; obtain ⟨q0, q1, q2, q3, q4, q5⟩ := hS9; go_simp; (first | done | with_reducible rfl)
  dsimp only [List.set_cons_zero, List.set_cons_succ]
  refine stepTQ HOPS HREG 4 31 ?_ (by decide) rfl (by kernel_rfl) (by kernel_rfl) rfl ?_ HS10w8.out ?_
  rotate_left
  · intro w9 hS9; obtain ⟨q0, q1, q2, q3, q4, q5⟩ := hS9; go_simp; (first | done | with_reducible rfl)
  dsimp only [List.set_cons_zero, List.set_cons_succ]
  refine stepTQ HOPS HREG 5 63 ?_ (by decide) rfl (by kernel_rfl) (by kernel_rfl) rfl ?_ HS10w8.out ?_
  rotate_left
  · intro w9 hS9; obtain ⟨q0, q1, q2, q3, q4, q5⟩ := hS9; go_simp; (first | done | with_reducible rfl)
  dsimp only [List.set_cons_zero, List.set_cons_succ]
  refine stepTQ HOPS HREG 6 127 ?_ (by decide) rfl (by kernel_rfl) (by kernel_rfl) rfl ?_ HS10w8.out ?_
  rotate_left
  · intro w9 hS9; obtain ⟨q0, q1, q2, q3, q4, q5⟩ := hS9; go_simp; (first | done | with_reducible rfl)
  dsimp only [List.set_cons_zero, List.set_cons_succ]
  refine stepTQ HOPS HREG 7 255 ?_ (by decide) rfl (by kernel_rfl) (by kernel_rfl) rfl ?_ HS10w8.out ?_
  rotate_left
  · intro w9 hS9; obtain ⟨q0, q1, q2, q3, q4, q5⟩ := hS9; go_simp; (first | done | with_reducible rfl)
  dsimp only [List.set_cons_zero, List.set_cons_succ]
  refine stepTQ HOPS HREG 8 511 ?_ (by decide) rfl (by kernel_rfl) (by kernel_rfl) rfl ?_ HS10w8.out ?_
  rotate_left
  · intro w9 hS9; obtain ⟨q0, q1, q2, q3, q4, q5⟩ := hS9; go_simp; (first | done | with_reducible rfl)
  dsimp only [List.set_cons_zero, List.set_cons_succ]
  refine stepTQ HOPS HREG 9 1023 ?_ (by decide) rfl (by kernel_rfl) (by kernel_rfl) rfl ?_ HS10w8.out ?_
  rotate_left
  · intro w9 hS9; obtain ⟨q0, q1, q2, q3, q4, q5⟩ := hS9; go_simp; (first | done | with_reducible rfl)
  dsimp only [List.set_cons_zero, List.set_cons_succ]
  refine stepTQ HOPS HREG 11 3071 ?_ (by decide) rfl (by kernel_rfl) (by kernel_rfl) rfl ?_ HS10w8.out ?_
  rotate_left
  · intro w9 hS9; obtain ⟨q0, q1, q2, q3, q4, q5⟩ := hS9; go_simp; (first | done | with_reducible rfl)
  dsimp only [List.set_cons_zero, List.set_cons_succ]
  refine stepC HOPS 10 4095 (by decide) rfl (by kernel_rfl) (by kernel_rfl) ?_
  go_simp
  with_reducible refine (End_is HE.out HR_8.out hc (by omega) HI.out HT_8.out).mono ?_
  rintro e w9 ⟨rfl, hb⟩
  have HW_9 := Lib.hid (bel_trans HW_8.out hb)
  have HS_9 := Lib.hid (HS_8.out.below hb)
  have HR_9 := Lib.hid (rdUp HR_8.out hb)
  have HT_9 := Lib.hid (HT_8.out.bel hb)
  have HC_9 := Lib.hid (rdUp HC_8.out hb)
  have HL_9 := Lib.hid (rdtUp HL_8.out hb)
  have HM_9 := Lib.hid (rdtUp HM_8.out hb)
  have HV_9 := Lib.hid (bel_trans HV_8.out hb)
  have HXR_9 := Lib.hid (rdUp HXR_8.out hb)
  have HXO_9 := Lib.hid (HXO_8.out.below hb)
  have HX_9 := Lib.hid (HX_8.out.below hb)
  have HYR_9 := Lib.hid (rdUp HYR_8.out hb)
  have HY_9 := Lib.hid (HY_8.out.below hb)
  have HS10w9 := Lib.hid (show (fun W9 : World => W9.cell? ⟨w.heap.size, 0, none⟩ = some (.int .i64 sb) ∧ W9.cell? ⟨w.heap.size, 1, none⟩ = some (.slice A n c) ∧ W9.cell? ⟨w6.heap.size, 0, none⟩ = some (.int .i64 sb) ∧ W9.cell? ⟨w6.heap.size, 1, none⟩ = some (.slice A6 n6 c6) ∧ W9.cell? ⟨w7.heap.size, 0, none⟩ = some (.int .i64 sb) ∧ W9.cell? ⟨w7.heap.size, 1, none⟩ = some (.slice A7 n7 c7)) w9 from ⟨HS_9.out.cell 0, HS_9.out.cell 1, HX_9.out.cell 0, HX_9.out.cell 1, HY_9.out.cell 0, HY_9.out.cell 1⟩)
  clear hb
  dsimp only
  refine ⟨HS10w9.out, ?_⟩
  try simp only [Act.put, List.setIfInBounds_toArray, List.set_cons_zero, List.set_cons_succ]
  refine stepC HOPS 12 8191 (by decide) rfl (by kernel_rfl) (by kernel_rfl) ?_
  go_simp
  with_reducible refine (refEnd_is HE.out HR_9.out hc (by omega) HI.out).mono ?_
  rintro e w10 ⟨rfl, hb⟩
  have HW_10 := Lib.hid (bel_trans HW_9.out hb)
  have HS_10 := Lib.hid (HS_9.out.below hb)
  have HR_10 := Lib.hid (rdUp HR_9.out hb)
  have HT_10 := Lib.hid (HT_9.out.bel hb)
  have HC_10 := Lib.hid (rdUp HC_9.out hb)
  have HL_10 := Lib.hid (rdtUp HL_9.out hb)
  have HM_10 := Lib.hid (rdtUp HM_9.out hb)
  have HV_10 := Lib.hid (bel_trans HV_9.out hb)
  have HXR_10 := Lib.hid (rdUp HXR_9.out hb)
  have HXO_10 := Lib.hid (HXO_9.out.below hb)
  have HX_10 := Lib.hid (HX_9.out.below hb)
  have HYR_10 := Lib.hid (rdUp HYR_9.out hb)
  have HY_10 := Lib.hid (HY_9.out.below hb)
  have HS10w10 := Lib.hid (show (fun W9 : World => W9.cell? ⟨w.heap.size, 0, none⟩ = some (.int .i64 sb) ∧ W9.cell? ⟨w.heap.size, 1, none⟩ = some (.slice A n c) ∧ W9.cell? ⟨w6.heap.size, 0, none⟩ = some (.int .i64 sb) ∧ W9.cell? ⟨w6.heap.size, 1, none⟩ = some (.slice A6 n6 c6) ∧ W9.cell? ⟨w7.heap.size, 0, none⟩ = some (.int .i64 sb) ∧ W9.cell? ⟨w7.heap.size, 1, none⟩ = some (.slice A7 n7 c7)) w10 from ⟨HS_10.out.cell 0, HS_10.out.cell 1, HX_10.out.cell 0, HX_10.out.cell 1, HY_10.out.cell 0, HY_10.out.cell 1⟩)
  clear hb
  dsimp only
  refine ⟨HS10w10.out, ?_⟩
  try simp only [Act.put, List.setIfInBounds_toArray, List.set_cons_zero, List.set_cons_succ]
  refine stepTQ HOPS HREG 13 16383 ?_ (by decide) rfl (by kernel_rfl) (by kernel_rfl) rfl ?_ HS10w10.out ?_
  rotate_left
  · intro w9 hS9; obtain ⟨q0, q1, q2, q3, q4, q5⟩ := hS9; go_simp; (first | done | with_reducible rfl)
  dsimp only [List.set_cons_zero, List.set_cons_succ]
  refine stepTQ HOPS HREG 14 32767 ?_ (by decide) rfl (by kernel_rfl) (by kernel_rfl) rfl ?_ HS10w10.out ?_
  rotate_left
  · intro w9 hS9; obtain ⟨q0, q1, q2, q3, q4, q5⟩ := hS9; go_simp; (first | done | with_reducible rfl)
  dsimp only [List.set_cons_zero, List.set_cons_succ]
  refine stepTQ HOPS HREG 15 65535 ?_ (by decide) rfl (by kernel_rfl) (by kernel_rfl) rfl ?_ HS10w10.out ?_
  rotate_left
  · intro w9 hS9; obtain ⟨q0, q1, q2, q3, q4, q5⟩ := hS9; go_simp; (first | done | with_reducible rfl)
  dsimp only [List.set_cons_zero, List.set_cons_succ]
  refine stepTQ HOPS HREG 16 131071 ?_ (by decide) rfl (by kernel_rfl) (by kernel_rfl) rfl ?_ HS10w10.out ?_
  rotate_left
  · intro w9 hS9; obtain ⟨q0, q1, q2, q3, q4, q5⟩ := hS9; go_simp; (first | done | with_reducible rfl)
  dsimp only [List.set_cons_zero, List.set_cons_succ]
  refine stepTQ HOPS HREG 17 262143 ?_ (by decide) rfl (by kernel_rfl) (by kernel_rfl) rfl ?_ HS10w10.out ?_
  rotate_left
  · intro w9 hS9; obtain ⟨q0, q1, q2, q3, q4, q5⟩ := hS9; go_simp; (first | done | with_reducible rfl)
  dsimp only [List.set_cons_zero, List.set_cons_succ]
  refine stepC HOPS 18 524287 (by decide) rfl (by kernel_rfl) (by kernel_rfl) ?_
  go_simp
  with_reducible refine (refSameS_is sb A6 n6 c6 sb A7 n7 c7 xs xs _ HXR_10.out HYR_10.out (same_self sb xs)).mono ?_
  rintro e w11 ⟨rfl, hb⟩
  have HW_11 := Lib.hid (bel_trans HW_10.out hb)
  have HS_11 := Lib.hid (HS_10.out.below hb)
  have HR_11 := Lib.hid (rdUp HR_10.out hb)
  have HT_11 := Lib.hid (HT_10.out.bel hb)
  have HC_11 := Lib.hid (rdUp HC_10.out hb)
  have HL_11 := Lib.hid (rdtUp HL_10.out hb)
  have HM_11 := Lib.hid (rdtUp HM_10.out hb)
  have HV_11 := Lib.hid (bel_trans HV_10.out hb)
  have HXR_11 := Lib.hid (rdUp HXR_10.out hb)
  have HXO_11 := Lib.hid (HXO_10.out.below hb)
  have HX_11 := Lib.hid (HX_10.out.below hb)
  have HYR_11 := Lib.hid (rdUp HYR_10.out hb)
  have HY_11 := Lib.hid (HY_10.out.below hb)
  have hx11_0 : w11.cell? ⟨w6.heap.size, 0, none⟩ = some (.int .i64 sb) := HX_11.out.cell 0
  have hx11_1 : w11.cell? ⟨w6.heap.size, 1, none⟩ = some (.slice A6 n6 c6) := HX_11.out.cell 1
  have hs11_0 : w11.cell? ⟨w.heap.size, 0, none⟩ = some (.int .i64 sb) := HS_11.out.cell 0
  have hs11_1 : w11.cell? ⟨w.heap.size, 1, none⟩ = some (.slice A n c) := HS_11.out.cell 1
  have HS10w11 := Lib.hid (show (fun W9 : World => W9.cell? ⟨w.heap.size, 0, none⟩ = some (.int .i64 sb) ∧ W9.cell? ⟨w.heap.size, 1, none⟩ = some (.slice A n c) ∧ W9.cell? ⟨w6.heap.size, 0, none⟩ = some (.int .i64 sb) ∧ W9.cell? ⟨w6.heap.size, 1, none⟩ = some (.slice A6 n6 c6) ∧ W9.cell? ⟨w7.heap.size, 0, none⟩ = some (.int .i64 sb) ∧ W9.cell? ⟨w7.heap.size, 1, none⟩ = some (.slice A7 n7 c7)) w11 from ⟨HS_11.out.cell 0, HS_11.out.cell 1, HX_11.out.cell 0, HX_11.out.cell 1, HY_11.out.cell 0, HY_11.out.cell 1⟩)
  clear hb
  dsimp only
  refine ⟨HS10w11.out, ?_⟩
  try simp only [Act.put, List.setIfInBounds_toArray, List.set_cons_zero, List.set_cons_succ]
  refine stepTQ HOPS HREG 19 1048575 ?_ (by decide) rfl (by kernel_rfl) (by kernel_rfl) rfl ?_ HS10w11.out ?_
  rotate_left
  · intro w9 hS9; obtain ⟨q0, q1, q2, q3, q4, q5⟩ := hS9; go_simp; (first | done | with_reducible rfl)
  dsimp only [List.set_cons_zero, List.set_cons_succ]
  refine stepTQ HOPS HREG 20 2097151 ?_ (by decide) rfl (by kernel_rfl) (by kernel_rfl) rfl ?_ HS10w11.out ?_
  rotate_left
  · intro w9 hS9; obtain ⟨q0, q1, q2, q3, q4, q5⟩ := hS9; go_simp; (first | done | with_reducible rfl)
  dsimp only [List.set_cons_zero, List.set_cons_succ]
  refine stepTQ HOPS HREG 21 4194303 ?_ (by decide) rfl (by kernel_rfl) (by kernel_rfl) rfl ?_ HS10w11.out ?_
  rotate_left
  · intro w9 hS9; obtain ⟨q0, q1, q2, q3, q4, q5⟩ := hS9; go_simp; (first | done | with_reducible rfl)
  dsimp only [List.set_cons_zero, List.set_cons_succ]
  refine stepTQ HOPS HREG 22 8388607 ?_ (by decide) rfl (by kernel_rfl) (by kernel_rfl) rfl ?_ HS10w11.out ?_
  rotate_left
  · intro w9 hS9; obtain ⟨q0, q1, q2, q3, q4, q5⟩ := hS9; go_simp; (first | done | with_reducible rfl)
  dsimp only [List.set_cons_zero, List.set_cons_succ]
  refine stepTQ HOPS HREG 23 16777215 ?_ (by decide) rfl (by kernel_rfl) (by kernel_rfl) rfl ?_ HS10w11.out ?_
  rotate_left
  · intro w9 hS9; obtain ⟨q0, q1, q2, q3, q4, q5⟩ := hS9; go_simp; (first | done | with_reducible rfl)
  dsimp only [List.set_cons_zero, List.set_cons_succ]
  refine stepTQ HOPS HREG 24 33554431 ?_ (by decide) rfl (by kernel_rfl) (by kernel_rfl) rfl ?_ HS10w11.out ?_
  rotate_left
  · intro w9 hS9; obtain ⟨q0, q1, q2, q3, q4, q5⟩ := hS9; go_simp; (first | done | with_reducible rfl)
  dsimp only [List.set_cons_zero, List.set_cons_succ]
  refine stepTQ HOPS HREG 25 67108863 ?_ (by decide) rfl (by kernel_rfl) (by kernel_rfl) rfl ?_ HS10w11.out ?_
  rotate_left
  · intro w9 hS9; obtain ⟨q0, q1, q2, q3, q4, q5⟩ := hS9; go_simp; (first | done | with_reducible rfl)
  dsimp only [List.set_cons_zero, List.set_cons_succ]
  refine stepE HOPS (by kernel_rfl) (HQ.out _ _ ?_)
  clear HQ HREG HOPS
  clear Q ops
  skip
  go_wp2
  go_loopw [70] (fun i wr => bumpRel 5 24 w5.heap.size A6 n6 c6 sb w6.heap.size w11 i wr) (fun i _ => n6 - (intOf i).toNat)
  case atStart => exact ⟨0, rfl, Nat.zero_le _, ⟨_, HXO_11.out⟩, HX_11.out, hne6, Below.refl _ _⟩
  case round =>
    obtain ⟨j, rfl, hj, ⟨l', hown⟩, hbox, hnx, hb⟩ := hrel
    have x0 : wr.cell? ⟨w6.heap.size, 0, none⟩ = some (.int .i64 (sb)) := hbox.cell 0
    have x1 : wr.cell? ⟨w6.heap.size, 1, none⟩ = some (.slice A6 n6 c6) := hbox.cell 1
    have HBX := Lib.hid hbox
    have HNX := Lib.hid hnx
    clear hbox hnx
    by_cases hlt : j < n6
    · obtain ⟨g, rfl, hg⟩ := own_form hown (by omega)
      obtain ⟨d, hcell, hfz⟩ := own_cell hown hlt
      have hd255 : d.toNat ≤ 255 := by have := d.toNat_lt; omega
      obtain ⟨hset, hbel⟩ := own_set (j := j) hown hg ((d.toNat : Int) + 1)
      have HSET := Lib.hid hset
      have HBEL := Lib.hid (hb.trans hbel)
      clear hset hbel
      go_wp2
      go_roundw
      case rel => exact ⟨j + 1, by go_num, by omega, HSET.out, HBX.out.set (HNX.out g rfl) _, HNX.out, HBEL.out⟩
      case measure => simp [intOf]; omega
    · have HVW := Lib.hid (HV_11.out.trans hb)
      have HWW := Lib.hid (HW_11.out.trans (hb.mono hNw))
      have s1 : wr.cell? ⟨w.heap.size, 1, none⟩ = some (.slice A n c) := (HVW.out.cell (p := ⟨w.heap.size, 1, none⟩) HSN.out.lt).trans (HSN.out.cell 1)
      have hss := sameB_self l
      go_wp2_with (go_at_call 23; (with_reducible refine (Same_any A A3 n c n3 c3 l l _ _ wr (HRN.out.below HVW.out (Nat.le_refl _)) (HCN.out.below HVW.out (Nat.le_refl _))).mono ?_); rintro e w9 ⟨rfl, rfl⟩)
      go_ret
      exact ⟨rfl, HWW.out⟩
end Go.Proofs.YtgjbfhmfhmihhaaDoor.Seg

namespace Go.Proofs.YtgjbfhmfhmihhaaDoor.segScans
open Go.ChangeShapes Go.WideShapes Go.ChangeAt Go.RowKit

theorem own : ownKnob Tryd.prog.godebug = none := by kernel_rfl
theorem laidOut : laidOutB Tryd.prog = true := by kernel_rfl

set_option maxRecDepth 100000 in
theorem lifted (os : Os) (started : os.Started) (H : Type) (enc : TypeId × Value → H) :
    ReturnsInHanded {} Tryd.checked os 3 .any (fun w args => (Rows.segScansSpec.pre enc Tryd.prog Tryd.f3 [] false w args ∧ laidMetH Tryd.prog Crc.listed w) ∧ sizedMet enc Tryd.prog Tryd.f3 (OpenSpec.ofChange Rows.segScansSpec) false w args)
      (Rows.segScansSpec.post enc Tryd.prog Tryd.f3 false true false false) := by
  refine returnsInHanded_of_change_and (C := Tryd.checked) (X := fun w _ => laidMetH Tryd.prog Crc.listed w) (fun _ _ _ hh h => h.of_heap hh) own started (by kernel_rfl) Tryd.func3
    (ChangeSpec.witness_shaped (enc := enc) (C := Tryd.checked) (os := os) (X := fun w _ => laidMetH Tryd.prog Crc.listed w) false (World.doorLaid Tryd.prog 400 os) #[.agg #[.int .i64 0, .slice none 0 0]] 8 rfl (World.shaped_of_RefB (by kernel_rfl) (by kernel_rfl)) (by kernel_rfl) (by kernel_rfl) (by kernel_rfl) (Crc.door_met os _)) ?_
  intro W base args ds gs before hval0 hW _ hwt hL _
  have hval : ∀ (j : Nat) t v, Tryd.f3.params[j]? = some t → args[j]? = some v → Value.okWide Tryd.prog W .any base t v := hval0
  have hW' := hW
  obtain ⟨p, q, hA0, hV, rfl, hfz, hnd⟩ := hW
  have hA : DataW.TrodAll enc Tryd.prog W 0 (fun _ => true) true Tryd.f3.params.toList args.toList ds p := hA0
  rw [Tryd.params3] at hA hval
  obtain ⟨v0, vs0, d0, ds0, p0, q0, hargs, rfl, rfl, h0, r0⟩ := trodAll_cons hA
  obtain ⟨rfl, rfl, rfl⟩ := trodAll_nil r0
  obtain rfl : args = #[v0] := by cases args; simp_all
  obtain ⟨rfl, rfl⟩ := trodVars_none hV
  have k0 := h0
  have lt0 : ∀ x ∈ p0, x.block < W.heap.size := by obtain ⟨m, hm⟩ := k0; exact DataW.trod_lt m _ _ _ hm
  obtain ⟨sb_0, A_0, n_0, c_0, l_0, rfl, hi_0, hc_0, hk_0, hR_0⟩ := Seg.open_seg (hval 0 24 v0 rfl rfl) h0 (Bat.weights_arg (j := 0) hwt (by kernel_rfl) rfl)
  clear hA0 hval0
  refine (Seg.segScans_walk sb_0 A_0 n_0 c_0 l_0 W hi_0 hc_0 hk_0 hR_0 (Crc.tab_of_laid hL)).mono fun e W' ⟨he, bel⟩ => ?_
  subst he
  exact ⟨_, rfl, _, _, _, [], _, [], hW', trodAll_mk1 (shut_bool Tryd.underlying4 _), (trodAll_cons_mk (Below.trod laidOut (by kernel_rfl) (of_decide_eq_true (by kernel_rfl)) k0 bel lt0) trodAll_mk0), rfl, bel.frame _, fun h => by cases h⟩

theorem over : Rows.segScansRow.holds Tryd.pinned (OpenSpec.ofChange Rows.segScansSpec) :=
  OpenClaim.holds_of_wide 3 Tryd.f3 rfl rfl rfl rfl rfl rfl rfl ⟨rfl, rfl, rfl, rfl, rfl⟩ rfl rfl rfl rfl rfl (by kernel_rfl) Tryd.func3 (by kernel_rfl)
    (of_decide_eq_true (by kernel_rfl)) (by unfold Func.isWrapper; first | (rw [if_pos (by decide +kernel)]; kernel_rfl) | (rw [if_neg (by decide +kernel)]; exact ⟨rfl, rfl⟩))
    (fun os started H enc _ => lifted os started H enc)

theorem proved : Rows.SegScansCardSaid :=
  Claim7.holds_tied_plain_at .later [] [.data] true (true, "8756dca365c3738ae7f7dad078bfa0200519ee75ee06b885abe2d0f8db900c1d") false
    over (fun _ h => by cases h) (by kernel_rfl) (fun _ h => by cases h) segScans_row_tie rfl ⟨rfl, rfl⟩ (by kernel_rfl) rfl
    (fun f fn hf hfn => by
      obtain rfl : f = 3 := Option.some.inj ((show Tryd.prog.funcNamed "watermeet/watermeetlaw07.SegScans" = some 3 by kernel_rfl).symm.trans hf) |>.symm
      obtain rfl : fn = Tryd.f3 := (Option.some.inj (Tryd.func3.symm.trans hfn)).symm
      exact ⟨by kernel_rfl, fun j t ht => by
        rw [Tryd.params3] at ht
        have hm : t ∈ [24] := by simpa using Array.mem_of_getElem? ht
        have hall : ([24].all fun u => !Tryd.prog.wantsStandIn u) = true := by kernel_rfl
        exact (show Tryd.prog.wantsStandIn t = false by simpa using List.all_eq_true.1 hall t hm)⟩)
    (by kernel_rfl)
#print axioms proved
end Go.Proofs.YtgjbfhmfhmihhaaDoor.segScans
