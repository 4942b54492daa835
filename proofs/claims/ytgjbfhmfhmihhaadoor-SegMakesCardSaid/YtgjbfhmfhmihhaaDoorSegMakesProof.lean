/- For any beginning, batches (at most 30, few enough records) and limit, and any segment (at most 9,000 bytes) and offset: a segment of these batches, or why there is none, an empty one, and the segment cut there are what the document tells (the law answers true, and changes nothing that was there). Conditions: none.
-/
import Derived.Test.YtgjbfhmfhmihhaaDoorSegW
import Derived.Test.YtgjbfhmfhmihhaaDoorSegWO
import Derived.Test.YtgjbfhmfhmihhaaDoorSegWC
import Derived.Test.YtgjbfhmfhmihhaaDoorSegVS
import Derived.Test.YtgjbfhmfhmihhaaDoorSegVO
import Derived.Test.YtgjbfhmfhmihhaaDoorInT
import Derived.Test.YtgjbfhmfhmihhaaDoorRows
import Derived.WalkKit
import Derived.ProofKit
import Derived.OpenShut
import Derived.ChangeOld
import Derived.Below
import Derived.Carry
import Derived.Test.YtgjbfhmfhmihhaaDoorJOct
import Derived.Test.YtgjbfhmfhmihhaaDoorJBatA
import Derived.Test.YtgjbfhmfhmihhaaDoorSegArg
import Derived.Test.YtgjbfhmfhmihhaaDoorJCrc
import Derived.Test.YtgjbfhmfhmihhaaDoorTie
import Derived.Test.YtgjbfhmfhmihhaaDoorCards
import Derived.SevenTiedAt
/- The walk of SegMakes. -/
namespace Go.Proofs.YtgjbfhmfhmihhaaDoor.Seg
open Go.RowKit Go.Proofs.YtgjbfhmfhmihhaaDoor.Oct Go.Proofs.YtgjbfhmfhmihhaaDoor.Rec Go.Proofs.YtgjbfhmfhmihhaaDoor.Crc Go.Proofs.YtgjbfhmfhmihhaaDoor.Bat Go.Proofs.YtgjbfhmfhmihhaaDoor.Lay Go.Proofs.YtgjbfhmfhmihhaaDoor.InR

def tb_SegMakes9 : List (Nat × Nat) := [(0, 268435455), (0, 268435455), (3, 268435452), (4, 268435451), (8, 268435447), (8, 268435447), (56, 268435399), (72, 268435383), (136, 268435327), (256, 268435199), (256, 268435199), (1792, 268433663), (2304, 268433151), (6144, 268431359), (8192, 268427263), (8192, 268427263), (57344, 268378111), (73728, 268361727), (139264, 268304383), (262144, 268173311), (262144, 268173311), (1835008, 266600447), (262144, 268173311), (262144, 268173311), (14942208, 255590399), (19136512, 249298943), (33816576, 234618879), (134217727, 201326591)]
set_option maxRecDepth 100000 in
set_option maxHeartbeats 8000000 in
theorem segMakes_walk (base : Int) (A1 : Option Addr) (n1 c1 : Nat) (L : List Bt) (limit sb : Int) (A : Option Addr) (n c : Nat) (l : List UInt8) (off : Int) (w : World) (hib : I64 base) (hnc : n1 ≤ c1) (hcap : c1 ≤ reach) (hR1 : RdL w w.heap.size A1 n1 L) (_hil : I64 limit) (hi : I64 sb) (hc : n ≤ c) (_hk : c ≤ reach) (hR : Rd w w.heap.size A n l) (_hio : I64 off) (ht : Tab w) :
    Calls Tryd.prog 5 #[.int .i64 base, .slice A1 n1 c1, .int .i64 limit, .agg #[.int .i64 sb, .slice A n c], .int .i64 off] w fun e w' => e = .returned (.bool true) ∧ Below w.heap.size w w' := by
  have HW_0 := Lib.hid (belA w (.cells #[.int .i64 sb, .slice A n c] 24))
  have HS_0 := Lib.hid (At0.new w [.int .i64 sb, .slice A n c] 24)
  have HR_0 := Lib.hid (rdUp hR HW_0.out)
  have HT_0 := Lib.hid (ht.bel HW_0.out)
  have HL_0 := Lib.hid (rdlUp hR1 HW_0.out)
  have hmx : Tryd.prog.follows .mixedOrders = true := by kernel_rfl
  have hcr := Nat.le_trans hnc hcap
  have hL := hR1.len
  rcases hz : decide ((n : Int) ≤ 9000) with _ | _
  · have HZ := Lib.hid hz
    clear hz hR hR1 ht
    go_enter Tryd.func5, Tryd.ntmps5
    go_wp2_with (first
      | (go_at_call 12; (with_reducible refine (live_any _ HT_0.out).mono ?_); rintro e w1 ⟨rfl, hb⟩; have HW_1 := Lib.hid (bel_trans HW_0.out hb); have HS_1 := Lib.hid (HS_0.out.below hb); have HR_1 := Lib.hid (rdUp HR_0.out hb); have HT_1 := Lib.hid (HT_0.out.bel hb); have HL_1 := Lib.hid (rdlUp HL_0.out hb); have hs1_0 : w1.cell? ⟨w.heap.size, 0, none⟩ = some (.int .i64 sb) := HS_1.out.cell 0; have hs1_1 : w1.cell? ⟨w.heap.size, 1, none⟩ = some (.slice A n c) := HS_1.out.cell 1; clear hb)
      | (go_at_call 13; (with_reducible refine (refFewS_is sb A n c _ HZ.out).mono ?_); rintro e w2 ⟨rfl, hb⟩; have HW_2 := Lib.hid (bel_trans HW_1.out hb); have HS_2 := Lib.hid (HS_1.out.below hb); have HR_2 := Lib.hid (rdUp HR_1.out hb); have HT_2 := Lib.hid (HT_1.out.bel hb); have HL_2 := Lib.hid (rdlUp HL_1.out hb); have hs2_0 : w2.cell? ⟨w.heap.size, 0, none⟩ = some (.int .i64 sb) := HS_2.out.cell 0; have hs2_1 : w2.cell? ⟨w.heap.size, 1, none⟩ = some (.slice A n c) := HS_2.out.cell 1; clear hb))
    go_ret
    exact ⟨rfl, HW_2.out⟩
  have hn : n ≤ 9000 := by have := of_decide_eq_true hz; omega
  have HZ := Lib.hid hz
  clear hz
  rcases hzb : (L.all fewT && decide ((L.length : Int) ≤ 30)) with _ | _
  · have HZB := Lib.hid hzb
    clear hzb hR hR1 ht
    go_enter Tryd.func5, Tryd.ntmps5
    go_wp2_with (first
      | (go_at_call 12; (with_reducible refine (live_any _ HT_0.out).mono ?_); rintro e w1 ⟨rfl, hb⟩; have HW_1 := Lib.hid (bel_trans HW_0.out hb); have HS_1 := Lib.hid (HS_0.out.below hb); have HR_1 := Lib.hid (rdUp HR_0.out hb); have HT_1 := Lib.hid (HT_0.out.bel hb); have HL_1 := Lib.hid (rdlUp HL_0.out hb); have hs1_0 : w1.cell? ⟨w.heap.size, 0, none⟩ = some (.int .i64 sb) := HS_1.out.cell 0; have hs1_1 : w1.cell? ⟨w.heap.size, 1, none⟩ = some (.slice A n c) := HS_1.out.cell 1; clear hb)
      | (go_at_call 13; (with_reducible refine (refFewS_is sb A n c _ HZ.out).mono ?_); rintro e w2 ⟨rfl, hb⟩; have HW_2 := Lib.hid (bel_trans HW_1.out hb); have HS_2 := Lib.hid (HS_1.out.below hb); have HR_2 := Lib.hid (rdUp HR_1.out hb); have HT_2 := Lib.hid (HT_1.out.bel hb); have HL_2 := Lib.hid (rdlUp HL_1.out hb); have hs2_0 : w2.cell? ⟨w.heap.size, 0, none⟩ = some (.int .i64 sb) := HS_2.out.cell 0; have hs2_1 : w2.cell? ⟨w.heap.size, 1, none⟩ = some (.slice A n c) := HS_2.out.cell 1; clear hb)
      | (go_at_call 27; (with_reducible refine (refFewAll_is L A1 n1 c1 30 _ HL_2.out hcr HZB.out).mono ?_); rintro e w3 ⟨rfl, hb⟩; have HW_3 := Lib.hid (bel_trans HW_2.out hb); have HS_3 := Lib.hid (HS_2.out.below hb); have HR_3 := Lib.hid (rdUp HR_2.out hb); have HT_3 := Lib.hid (HT_2.out.bel hb); have HL_3 := Lib.hid (rdlUp HL_2.out hb); have hs3_0 : w3.cell? ⟨w.heap.size, 0, none⟩ = some (.int .i64 sb) := HS_3.out.cell 0; have hs3_1 : w3.cell? ⟨w.heap.size, 1, none⟩ = some (.slice A n c) := HS_3.out.cell 1; clear hb))
    go_ret
    exact ⟨rfl, HW_3.out⟩
  have HZB := Lib.hid hzb
  rw [Bool.and_eq_true] at hzb
  have hn30 : n1 ≤ 30 := by have := of_decide_eq_true hzb.2; omega
  have HFEW := Lib.hid hzb.1
  have HI := Lib.hid hi
  have HIB := Lib.hid hib
  clear hzb hR hR1 ht
  rcases hof : ofS base L limit with ⟨⟨xb, xs⟩, xe⟩
  have hxl : xs.length ≤ 4096 := of_len hof
  have HOF := Lib.hid hof
  rcases hnw : newS base with ⟨⟨ub, us⟩, ue⟩
  have hul : us.length = 0 := new_len hnw
  have HNW := Lib.hid hnw
  rcases hcs : cutS ⟨sb, l⟩ off with ⟨yb, ys⟩
  have HCS := Lib.hid hcs
  clear hof hnw hcs
  go_enter Tryd.func5, Tryd.ntmps5
  go_wp2_with (first
    | (go_at_call 12; (with_reducible refine (live_any _ HT_0.out).mono ?_); rintro e w1 ⟨rfl, hb⟩; have HW_1 := Lib.hid (bel_trans HW_0.out hb); have HS_1 := Lib.hid (HS_0.out.below hb); have HR_1 := Lib.hid (rdUp HR_0.out hb); have HT_1 := Lib.hid (HT_0.out.bel hb); have HL_1 := Lib.hid (rdlUp HL_0.out hb); have hs1_0 : w1.cell? ⟨w.heap.size, 0, none⟩ = some (.int .i64 sb) := HS_1.out.cell 0; have hs1_1 : w1.cell? ⟨w.heap.size, 1, none⟩ = some (.slice A n c) := HS_1.out.cell 1; clear hb)
    | (go_at_call 13; (with_reducible refine (refFewS_is sb A n c _ HZ.out).mono ?_); rintro e w2 ⟨rfl, hb⟩; have HW_2 := Lib.hid (bel_trans HW_1.out hb); have HS_2 := Lib.hid (HS_1.out.below hb); have HR_2 := Lib.hid (rdUp HR_1.out hb); have HT_2 := Lib.hid (HT_1.out.bel hb); have HL_2 := Lib.hid (rdlUp HL_1.out hb); have hs2_0 : w2.cell? ⟨w.heap.size, 0, none⟩ = some (.int .i64 sb) := HS_2.out.cell 0; have hs2_1 : w2.cell? ⟨w.heap.size, 1, none⟩ = some (.slice A n c) := HS_2.out.cell 1; clear hb)
    | (go_at_call 27; (with_reducible refine (refFewAll_is L A1 n1 c1 30 _ HL_2.out hcr HZB.out).mono ?_); rintro e w3 ⟨rfl, hb⟩; have HW_3 := Lib.hid (bel_trans HW_2.out hb); have HS_3 := Lib.hid (HS_2.out.below hb); have HR_3 := Lib.hid (rdUp HR_2.out hb); have HT_3 := Lib.hid (HT_2.out.bel hb); have HL_3 := Lib.hid (rdlUp HL_2.out hb); have hs3_0 : w3.cell? ⟨w.heap.size, 0, none⟩ = some (.int .i64 sb) := HS_3.out.cell 0; have hs3_1 : w3.cell? ⟨w.heap.size, 1, none⟩ = some (.slice A n c) := HS_3.out.cell 1; have HD_3 := Lib.hid (rdT_of HL_3.out HFEW.out); clear hb)
    | (go_at_call 28; (with_reducible refine (Of_is HOF.out HD_3.out (by omega) HIB.out HT_3.out).mono ?_); rintro e w4 ⟨A4, n4, c4, rfl, ho, hb⟩; have HW_4 := Lib.hid (bel_trans HW_3.out hb); have HS_4 := Lib.hid (HS_3.out.below hb); have HR_4 := Lib.hid (rdUp HR_3.out hb); have HT_4 := Lib.hid (HT_3.out.bel hb); have HD_4 := Lib.hid (rdtUp HD_3.out hb); have hcap4 := ho.cap; have hl4 := ho.len; have hn4 : n4 ≤ 137438953472 := (by omega); have HXR_4 := Lib.hid (ho.rd); have hba := belA w4 (.cells #[.int .i64 xb, .slice A4 n4 c4] 24); have HW_4a := Lib.hid (bel_trans HW_4.out hba); have HS_4a := Lib.hid (HS_4.out.below hba); have HR_4a := Lib.hid (rdUp HR_4.out hba); have HT_4a := Lib.hid (HT_4.out.bel hba); have HD_4a := Lib.hid (rdtUp HD_4.out hba); have HXR_4a := Lib.hid (rdUp HXR_4.out hba); have HX_4a := Lib.hid (At0.new w4 [.int .i64 xb, .slice A4 n4 c4] 24); have hs4a_0 : (w4.alloc (.cells #[.int .i64 xb, .slice A4 n4 c4] 24)).cell? ⟨w.heap.size, 0, none⟩ = some (.int .i64 sb) := HS_4a.out.cell 0; have hs4a_1 : (w4.alloc (.cells #[.int .i64 xb, .slice A4 n4 c4] 24)).cell? ⟨w.heap.size, 1, none⟩ = some (.slice A n c) := HS_4a.out.cell 1; have hx4a_0 : (w4.alloc (.cells #[.int .i64 xb, .slice A4 n4 c4] 24)).cell? ⟨w4.heap.size, 0, none⟩ = some (.int .i64 xb) := HX_4a.out.cell 0; have hx4a_1 : (w4.alloc (.cells #[.int .i64 xb, .slice A4 n4 c4] 24)).cell? ⟨w4.heap.size, 1, none⟩ = some (.slice A4 n4 c4) := HX_4a.out.cell 1; clear hb hba ho)
    | (go_at_call 29; (with_reducible refine (refOf_is HOF.out HD_4a.out (by omega) HIB.out).mono ?_); rintro e w5 ⟨A5, n5, c5, rfl, ho, hb⟩; have HW_5 := Lib.hid (bel_trans HW_4a.out hb); have HS_5 := Lib.hid (HS_4a.out.below hb); have HR_5 := Lib.hid (rdUp HR_4a.out hb); have HT_5 := Lib.hid (HT_4a.out.bel hb); have HD_5 := Lib.hid (rdtUp HD_4a.out hb); have HXR_5 := Lib.hid (rdUp HXR_4a.out hb); have HX_5 := Lib.hid (HX_4a.out.below hb); have hcap5 := ho.cap; have hl5 := ho.len; have hn5 : n5 ≤ 137438953472 := (by omega); have HYR_5 := Lib.hid (ho.rd); have hba := belA w5 (.cells #[.int .i64 xb, .slice A5 n5 c5] 24); have HW_5a := Lib.hid (bel_trans HW_5.out hba); have HS_5a := Lib.hid (HS_5.out.below hba); have HR_5a := Lib.hid (rdUp HR_5.out hba); have HT_5a := Lib.hid (HT_5.out.bel hba); have HD_5a := Lib.hid (rdtUp HD_5.out hba); have HXR_5a := Lib.hid (rdUp HXR_5.out hba); have HX_5a := Lib.hid (HX_5.out.below hba); have HYR_5a := Lib.hid (rdUp HYR_5.out hba); have HY_5a := Lib.hid (At0.new w5 [.int .i64 xb, .slice A5 n5 c5] 24); have hs5a_0 : (w5.alloc (.cells #[.int .i64 xb, .slice A5 n5 c5] 24)).cell? ⟨w.heap.size, 0, none⟩ = some (.int .i64 sb) := HS_5a.out.cell 0; have hs5a_1 : (w5.alloc (.cells #[.int .i64 xb, .slice A5 n5 c5] 24)).cell? ⟨w.heap.size, 1, none⟩ = some (.slice A n c) := HS_5a.out.cell 1; have hy5a_0 : (w5.alloc (.cells #[.int .i64 xb, .slice A5 n5 c5] 24)).cell? ⟨w5.heap.size, 0, none⟩ = some (.int .i64 xb) := HY_5a.out.cell 0; have hy5a_1 : (w5.alloc (.cells #[.int .i64 xb, .slice A5 n5 c5] 24)).cell? ⟨w5.heap.size, 1, none⟩ = some (.slice A5 n5 c5) := HY_5a.out.cell 1; clear hb hba ho)
    | (go_at_call 30; (with_reducible refine (New_is HNW.out).mono ?_); rintro e w6 ⟨A6, n6, c6, rfl, ho, hb⟩; have HW_6 := Lib.hid (bel_trans HW_5a.out hb); have HS_6 := Lib.hid (HS_5a.out.below hb); have HR_6 := Lib.hid (rdUp HR_5a.out hb); have HT_6 := Lib.hid (HT_5a.out.bel hb); have HXR_6 := Lib.hid (rdUp HXR_5a.out hb); have HX_6 := Lib.hid (HX_5a.out.below hb); have HYR_6 := Lib.hid (rdUp HYR_5a.out hb); have HY_6 := Lib.hid (HY_5a.out.below hb); have hcap6 := ho.cap; have hl6 := ho.len; have hn6 : n6 ≤ 137438953472 := (by omega); have HUR_6 := Lib.hid (ho.rd); have hba := belA w6 (.cells #[.int .i64 ub, .slice A6 n6 c6] 24); have HW_6a := Lib.hid (bel_trans HW_6.out hba); have HS_6a := Lib.hid (HS_6.out.below hba); have HR_6a := Lib.hid (rdUp HR_6.out hba); have HT_6a := Lib.hid (HT_6.out.bel hba); have HXR_6a := Lib.hid (rdUp HXR_6.out hba); have HX_6a := Lib.hid (HX_6.out.below hba); have HYR_6a := Lib.hid (rdUp HYR_6.out hba); have HY_6a := Lib.hid (HY_6.out.below hba); have HUR_6a := Lib.hid (rdUp HUR_6.out hba); have HU_6a := Lib.hid (At0.new w6 [.int .i64 ub, .slice A6 n6 c6] 24); have hs6a_0 : (w6.alloc (.cells #[.int .i64 ub, .slice A6 n6 c6] 24)).cell? ⟨w.heap.size, 0, none⟩ = some (.int .i64 sb) := HS_6a.out.cell 0; have hs6a_1 : (w6.alloc (.cells #[.int .i64 ub, .slice A6 n6 c6] 24)).cell? ⟨w.heap.size, 1, none⟩ = some (.slice A n c) := HS_6a.out.cell 1; have hu6a_0 : (w6.alloc (.cells #[.int .i64 ub, .slice A6 n6 c6] 24)).cell? ⟨w6.heap.size, 0, none⟩ = some (.int .i64 ub) := HU_6a.out.cell 0; have hu6a_1 : (w6.alloc (.cells #[.int .i64 ub, .slice A6 n6 c6] 24)).cell? ⟨w6.heap.size, 1, none⟩ = some (.slice A6 n6 c6) := HU_6a.out.cell 1; clear hb hba ho)
    | (go_at_call 31; (with_reducible refine (refNew_is HNW.out).mono ?_); rintro e w7 ⟨A7, n7, c7, rfl, ho, hb⟩; have HW_7 := Lib.hid (bel_trans HW_6a.out hb); have HS_7 := Lib.hid (HS_6a.out.below hb); have HR_7 := Lib.hid (rdUp HR_6a.out hb); have HT_7 := Lib.hid (HT_6a.out.bel hb); have HXR_7 := Lib.hid (rdUp HXR_6a.out hb); have HX_7 := Lib.hid (HX_6a.out.below hb); have HYR_7 := Lib.hid (rdUp HYR_6a.out hb); have HY_7 := Lib.hid (HY_6a.out.below hb); have HUR_7 := Lib.hid (rdUp HUR_6a.out hb); have HU_7 := Lib.hid (HU_6a.out.below hb); have hcap7 := ho.cap; have hl7 := ho.len; have hn7 : n7 ≤ 137438953472 := (by omega); have HVR_7 := Lib.hid (ho.rd); have hba := belA w7 (.cells #[.int .i64 ub, .slice A7 n7 c7] 24); have HW_7a := Lib.hid (bel_trans HW_7.out hba); have HS_7a := Lib.hid (HS_7.out.below hba); have HR_7a := Lib.hid (rdUp HR_7.out hba); have HT_7a := Lib.hid (HT_7.out.bel hba); have HXR_7a := Lib.hid (rdUp HXR_7.out hba); have HX_7a := Lib.hid (HX_7.out.below hba); have HYR_7a := Lib.hid (rdUp HYR_7.out hba); have HY_7a := Lib.hid (HY_7.out.below hba); have HUR_7a := Lib.hid (rdUp HUR_7.out hba); have HU_7a := Lib.hid (HU_7.out.below hba); have HVR_7a := Lib.hid (rdUp HVR_7.out hba); have HV_7a := Lib.hid (At0.new w7 [.int .i64 ub, .slice A7 n7 c7] 24); have hs7a_0 : (w7.alloc (.cells #[.int .i64 ub, .slice A7 n7 c7] 24)).cell? ⟨w.heap.size, 0, none⟩ = some (.int .i64 sb) := HS_7a.out.cell 0; have hs7a_1 : (w7.alloc (.cells #[.int .i64 ub, .slice A7 n7 c7] 24)).cell? ⟨w.heap.size, 1, none⟩ = some (.slice A n c) := HS_7a.out.cell 1; have hv7a_0 : (w7.alloc (.cells #[.int .i64 ub, .slice A7 n7 c7] 24)).cell? ⟨w7.heap.size, 0, none⟩ = some (.int .i64 ub) := HV_7a.out.cell 0; have hv7a_1 : (w7.alloc (.cells #[.int .i64 ub, .slice A7 n7 c7] 24)).cell? ⟨w7.heap.size, 1, none⟩ = some (.slice A7 n7 c7) := HV_7a.out.cell 1; clear hb hba ho))
  have hbd := (Below.refl (w7.alloc (.cells #[.int .i64 ub, .slice A7 n7 c7] 24)).heap.size (w7.alloc (.cells #[.int .i64 ub, .slice A7 n7 c7] 24))).drew
  have HW_R9 := Lib.hid (bel_trans HW_7a.out hbd)
  have HS_R9 := Lib.hid (HS_7a.out.below hbd)
  have HR_R9 := Lib.hid (rdUp HR_7a.out hbd)
  have HT_R9 := Lib.hid (HT_7a.out.bel hbd)
  have HXR_R9 := Lib.hid (rdUp HXR_7a.out hbd)
  have HX_R9 := Lib.hid (HX_7a.out.below hbd)
  have HYR_R9 := Lib.hid (rdUp HYR_7a.out hbd)
  have HY_R9 := Lib.hid (HY_7a.out.below hbd)
  have HUR_R9 := Lib.hid (rdUp HUR_7a.out hbd)
  have HU_R9 := Lib.hid (HU_7a.out.below hbd)
  have HVR_R9 := Lib.hid (rdUp HVR_7a.out hbd)
  have HV_R9 := Lib.hid (HV_7a.out.below hbd)
  have HS9R := Lib.hid (show (fun W9 : World => W9.cell? ⟨w.heap.size, 0, none⟩ = some (.int .i64 sb) ∧ W9.cell? ⟨w.heap.size, 1, none⟩ = some (.slice A n c) ∧ W9.cell? ⟨w4.heap.size, 0, none⟩ = some (.int .i64 xb) ∧ W9.cell? ⟨w4.heap.size, 1, none⟩ = some (.slice A4 n4 c4) ∧ W9.cell? ⟨w5.heap.size, 0, none⟩ = some (.int .i64 xb) ∧ W9.cell? ⟨w5.heap.size, 1, none⟩ = some (.slice A5 n5 c5) ∧ W9.cell? ⟨w6.heap.size, 0, none⟩ = some (.int .i64 ub) ∧ W9.cell? ⟨w6.heap.size, 1, none⟩ = some (.slice A6 n6 c6) ∧ W9.cell? ⟨w7.heap.size, 0, none⟩ = some (.int .i64 ub) ∧ W9.cell? ⟨w7.heap.size, 1, none⟩ = some (.slice A7 n7 c7)) (w7.alloc (.cells #[.int .i64 ub, .slice A7 n7 c7] 24)).drew from ⟨HS_R9.out.cell 0, HS_R9.out.cell 1, HX_R9.out.cell 0, HX_R9.out.cell 1, HY_R9.out.cell 0, HY_R9.out.cell 1, HU_R9.out.cell 0, HU_R9.out.cell 1, HV_R9.out.cell 0, HV_R9.out.cell 1⟩)
  clear hbd
  have hsR9_0 : (w7.alloc (.cells #[.int .i64 ub, .slice A7 n7 c7] 24)).drew.cell? ⟨w.heap.size, 0, none⟩ = some (.int .i64 sb) := HS_R9.out.cell 0
  have hsR9_1 : (w7.alloc (.cells #[.int .i64 ub, .slice A7 n7 c7] 24)).drew.cell? ⟨w.heap.size, 1, none⟩ = some (.slice A n c) := HS_R9.out.cell 1
  have hxR9_0 : (w7.alloc (.cells #[.int .i64 ub, .slice A7 n7 c7] 24)).drew.cell? ⟨w4.heap.size, 0, none⟩ = some (.int .i64 xb) := HX_R9.out.cell 0
  have hxR9_1 : (w7.alloc (.cells #[.int .i64 ub, .slice A7 n7 c7] 24)).drew.cell? ⟨w4.heap.size, 1, none⟩ = some (.slice A4 n4 c4) := HX_R9.out.cell 1
  have hyR9_0 : (w7.alloc (.cells #[.int .i64 ub, .slice A7 n7 c7] 24)).drew.cell? ⟨w5.heap.size, 0, none⟩ = some (.int .i64 xb) := HY_R9.out.cell 0
  have hyR9_1 : (w7.alloc (.cells #[.int .i64 ub, .slice A7 n7 c7] 24)).drew.cell? ⟨w5.heap.size, 1, none⟩ = some (.slice A5 n5 c5) := HY_R9.out.cell 1
  have huR9_0 : (w7.alloc (.cells #[.int .i64 ub, .slice A7 n7 c7] 24)).drew.cell? ⟨w6.heap.size, 0, none⟩ = some (.int .i64 ub) := HU_R9.out.cell 0
  have huR9_1 : (w7.alloc (.cells #[.int .i64 ub, .slice A7 n7 c7] 24)).drew.cell? ⟨w6.heap.size, 1, none⟩ = some (.slice A6 n6 c6) := HU_R9.out.cell 1
  have hvR9_0 : (w7.alloc (.cells #[.int .i64 ub, .slice A7 n7 c7] 24)).drew.cell? ⟨w7.heap.size, 0, none⟩ = some (.int .i64 ub) := HV_R9.out.cell 0
  have hvR9_1 : (w7.alloc (.cells #[.int .i64 ub, .slice A7 n7 c7] 24)).drew.cell? ⟨w7.heap.size, 1, none⟩ = some (.slice A7 n7 c7) := HV_R9.out.cell 1
  refine region_let (fun W9 : World => W9.cell? ⟨w.heap.size, 0, none⟩ = some (.int .i64 sb) ∧ W9.cell? ⟨w.heap.size, 1, none⟩ = some (.slice A n c) ∧ W9.cell? ⟨w4.heap.size, 0, none⟩ = some (.int .i64 xb) ∧ W9.cell? ⟨w4.heap.size, 1, none⟩ = some (.slice A4 n4 c4) ∧ W9.cell? ⟨w5.heap.size, 0, none⟩ = some (.int .i64 xb) ∧ W9.cell? ⟨w5.heap.size, 1, none⟩ = some (.slice A5 n5 c5) ∧ W9.cell? ⟨w6.heap.size, 0, none⟩ = some (.int .i64 ub) ∧ W9.cell? ⟨w6.heap.size, 1, none⟩ = some (.slice A6 n6 c6) ∧ W9.cell? ⟨w7.heap.size, 0, none⟩ = some (.int .i64 ub) ∧ W9.cell? ⟨w7.heap.size, 1, none⟩ = some (.slice A7 n7 c7)) 99 28 hmx rfl fun ops Q HOPS HQ => ?_
  have HREG := reg_of HOPS tb_SegMakes9 rfl (by kernel_rfl) (by kernel_rfl) (by decide)
  refine stepTQ HOPS HREG 0 1 ?_ (by decide) rfl (by kernel_rfl) (by kernel_rfl) rfl ?_ HS9R.out ?_
  rotate_left
  · intro w9 hS9; obtain ⟨q0, q1, q2, q3, q4, q5, q6, q7, q8, q9⟩ := hS9; go_simp; (first | done | with_reducible rfl)
  dsimp only [List.set_cons_zero, List.set_cons_succ]
  refine stepTQ HOPS HREG 1 3 ?_ (by decide) rfl (by kernel_rfl) (by kernel_rfl) rfl ?_ HS9R.out ?_
  rotate_left
  · intro w9 hS9; obtain ⟨q0, q1, q2, q3, q4, q5, q6, q7, q8, q9⟩ := hS9; go_simp; (first | done | with_reducible rfl)
  dsimp only [List.set_cons_zero, List.set_cons_succ]
  refine stepC HOPS 2 7 (by decide) rfl (by kernel_rfl) (by kernel_rfl) ?_
  go_simp
  with_reducible refine (refSameS_is xb A4 n4 c4 xb A5 n5 c5 xs xs _ HXR_R9.out HYR_R9.out (same_self xb xs)).mono ?_
  rintro e w8 ⟨rfl, hb⟩
  have HW_8 := Lib.hid (bel_trans HW_R9.out hb)
  have HS_8 := Lib.hid (HS_R9.out.below hb)
  have HR_8 := Lib.hid (rdUp HR_R9.out hb)
  have HT_8 := Lib.hid (HT_R9.out.bel hb)
  have HXR_8 := Lib.hid (rdUp HXR_R9.out hb)
  have HX_8 := Lib.hid (HX_R9.out.below hb)
  have HYR_8 := Lib.hid (rdUp HYR_R9.out hb)
  have HY_8 := Lib.hid (HY_R9.out.below hb)
  have HUR_8 := Lib.hid (rdUp HUR_R9.out hb)
  have HU_8 := Lib.hid (HU_R9.out.below hb)
  have HVR_8 := Lib.hid (rdUp HVR_R9.out hb)
  have HV_8 := Lib.hid (HV_R9.out.below hb)
  have HS9w8 := Lib.hid (show (fun W9 : World => W9.cell? ⟨w.heap.size, 0, none⟩ = some (.int .i64 sb) ∧ W9.cell? ⟨w.heap.size, 1, none⟩ = some (.slice A n c) ∧ W9.cell? ⟨w4.heap.size, 0, none⟩ = some (.int .i64 xb) ∧ W9.cell? ⟨w4.heap.size, 1, none⟩ = some (.slice A4 n4 c4) ∧ W9.cell? ⟨w5.heap.size, 0, none⟩ = some (.int .i64 xb) ∧ W9.cell? ⟨w5.heap.size, 1, none⟩ = some (.slice A5 n5 c5) ∧ W9.cell? ⟨w6.heap.size, 0, none⟩ = some (.int .i64 ub) ∧ W9.cell? ⟨w6.heap.size, 1, none⟩ = some (.slice A6 n6 c6) ∧ W9.cell? ⟨w7.heap.size, 0, none⟩ = some (.int .i64 ub) ∧ W9.cell? ⟨w7.heap.size, 1, none⟩ = some (.slice A7 n7 c7)) w8 from ⟨HS_8.out.cell 0, HS_8.out.cell 1, HX_8.out.cell 0, HX_8.out.cell 1, HY_8.out.cell 0, HY_8.out.cell 1, HU_8.out.cell 0, HU_8.out.cell 1, HV_8.out.cell 0, HV_8.out.cell 1⟩)
  clear hb
  dsimp only
  refine ⟨HS9w8.out, ?_⟩
  try simp only [Act.put, List.setIfInBounds_toArray, List.set_cons_zero, List.set_cons_succ]
  refine stepTQ HOPS HREG 3 15 ?_ (by decide) rfl (by kernel_rfl) (by kernel_rfl) rfl ?_ HS9w8.out ?_
  rotate_left
  · intro w9 hS9; obtain ⟨q0, q1, q2, q3, q4, q5, q6, q7, q8, q9⟩ := hS9; go_simp; (first | done | with_reducible rfl)
  dsimp only [List.set_cons_zero, List.set_cons_succ]
  refine stepTQ HOPS HREG 4 31 ?_ (by decide) rfl (by kernel_rfl) (by kernel_rfl) rfl ?_ HS9w8.out ?_
  rotate_left
  · intro w9 hS9; obtain ⟨q0, q1, q2, q3, q4, q5, q6, q7, q8, q9⟩ := hS9; go_simp; (first | done | with_reducible rfl)
  dsimp only [List.set_cons_zero, List.set_cons_succ]
  refine stepTQ HOPS HREG 5 63 ?_ (by decide) rfl (by kernel_rfl) (by kernel_rfl) rfl ?_ HS9w8.out ?_
  rotate_left
  · intro w9 hS9; obtain ⟨q0, q1, q2, q3, q4, q5, q6, q7, q8, q9⟩ := hS9; go_simp; (first | done | with_reducible rfl)
  dsimp only [List.set_cons_zero, List.set_cons_succ]
  refine stepTQ HOPS HREG 6 127 ?_ (by decide) rfl (by kernel_rfl) (by kernel_rfl) rfl ?_ HS9w8.out ?_
  rotate_left
  · intro w9 hS9; obtain ⟨q0, q1, q2, q3, q4, q5, q6, q7, q8, q9⟩ := hS9; go_simp; (first | done | with_reducible rfl)
  dsimp only [List.set_cons_zero, List.set_cons_succ]
  refine stepTQ HOPS HREG 7 255 ?_ (by decide) rfl (by kernel_rfl) (by kernel_rfl) rfl ?_ HS9w8.out ?_
  rotate_left
  · intro w9 hS9; obtain ⟨q0, q1, q2, q3, q4, q5, q6, q7, q8, q9⟩ := hS9; go_simp; (first | done | with_reducible rfl)
  dsimp only [List.set_cons_zero, List.set_cons_succ]
  refine stepTQ HOPS HREG 8 511 ?_ (by decide) rfl (by kernel_rfl) (by kernel_rfl) rfl ?_ HS9w8.out ?_
  rotate_left
  · intro w9 hS9; obtain ⟨q0, q1, q2, q3, q4, q5, q6, q7, q8, q9⟩ := hS9; go_simp; (first | done | with_reducible rfl)
  dsimp only [List.set_cons_zero, List.set_cons_succ]
  refine stepTQ HOPS HREG 9 1023 ?_ (by decide) rfl (by kernel_rfl) (by kernel_rfl) rfl ?_ HS9w8.out ?_
  rotate_left
  · intro w9 hS9; obtain ⟨q0, q1, q2, q3, q4, q5, q6, q7, q8, q9⟩ := hS9; go_simp; (first | done | with_reducible rfl)
  dsimp only [List.set_cons_zero, List.set_cons_succ]
  refine stepTQ HOPS HREG 10 2047 ?_ (by decide) rfl (by kernel_rfl) (by kernel_rfl) rfl ?_ HS9w8.out ?_
  rotate_left
  · intro w9 hS9; obtain ⟨q0, q1, q2, q3, q4, q5, q6, q7, q8, q9⟩ := hS9; go_simp; (first | done | with_reducible rfl)
  dsimp only [List.set_cons_zero, List.set_cons_succ]
  refine stepC HOPS 11 4095 (by decide) rfl (by kernel_rfl) (by kernel_rfl) ?_
  go_simp
  with_reducible refine (refSameS_is ub A6 n6 c6 ub A7 n7 c7 us us _ HUR_8.out HVR_8.out (same_self ub us)).mono ?_
  rintro e w9 ⟨rfl, hb⟩
  have HW_9 := Lib.hid (bel_trans HW_8.out hb)
  have HS_9 := Lib.hid (HS_8.out.below hb)
  have HR_9 := Lib.hid (rdUp HR_8.out hb)
  have HT_9 := Lib.hid (HT_8.out.bel hb)
  have HXR_9 := Lib.hid (rdUp HXR_8.out hb)
  have HX_9 := Lib.hid (HX_8.out.below hb)
  have HYR_9 := Lib.hid (rdUp HYR_8.out hb)
  have HY_9 := Lib.hid (HY_8.out.below hb)
  have HUR_9 := Lib.hid (rdUp HUR_8.out hb)
  have HU_9 := Lib.hid (HU_8.out.below hb)
  have HVR_9 := Lib.hid (rdUp HVR_8.out hb)
  have HV_9 := Lib.hid (HV_8.out.below hb)
  have HS9w9 := Lib.hid (show (fun W9 : World => W9.cell? ⟨w.heap.size, 0, none⟩ = some (.int .i64 sb) ∧ W9.cell? ⟨w.heap.size, 1, none⟩ = some (.slice A n c) ∧ W9.cell? ⟨w4.heap.size, 0, none⟩ = some (.int .i64 xb) ∧ W9.cell? ⟨w4.heap.size, 1, none⟩ = some (.slice A4 n4 c4) ∧ W9.cell? ⟨w5.heap.size, 0, none⟩ = some (.int .i64 xb) ∧ W9.cell? ⟨w5.heap.size, 1, none⟩ = some (.slice A5 n5 c5) ∧ W9.cell? ⟨w6.heap.size, 0, none⟩ = some (.int .i64 ub) ∧ W9.cell? ⟨w6.heap.size, 1, none⟩ = some (.slice A6 n6 c6) ∧ W9.cell? ⟨w7.heap.size, 0, none⟩ = some (.int .i64 ub) ∧ W9.cell? ⟨w7.heap.size, 1, none⟩ = some (.slice A7 n7 c7)) w9 from ⟨HS_9.out.cell 0, HS_9.out.cell 1, HX_9.out.cell 0, HX_9.out.cell 1, HY_9.out.cell 0, HY_9.out.cell 1, HU_9.out.cell 0, HU_9.out.cell 1, HV_9.out.cell 0, HV_9.out.cell 1⟩)
  clear hb
  dsimp only
  refine ⟨HS9w9.out, ?_⟩
  try simp only [Act.put, List.setIfInBounds_toArray, List.set_cons_zero, List.set_cons_succ]
  refine stepTQ HOPS HREG 12 8191 ?_ (by decide) rfl (by kernel_rfl) (by kernel_rfl) rfl ?_ HS9w9.out ?_
  rotate_left
  · intro w9 hS9; obtain ⟨q0, q1, q2, q3, q4, q5, q6, q7, q8, q9⟩ := hS9; go_simp; (first | done | with_reducible rfl)
  dsimp only [List.set_cons_zero, List.set_cons_succ]
  refine stepTQ HOPS HREG 13 16383 ?_ (by decide) rfl (by kernel_rfl) (by kernel_rfl) rfl ?_ HS9w9.out ?_
  rotate_left
  · intro w9 hS9; obtain ⟨q0, q1, q2, q3, q4, q5, q6, q7, q8, q9⟩ := hS9; go_simp; (first | done | with_reducible rfl)
  dsimp only [List.set_cons_zero, List.set_cons_succ]
  refine stepTQ HOPS HREG 14 32767 ?_ (by decide) rfl (by kernel_rfl) (by kernel_rfl) rfl ?_ HS9w9.out ?_
  rotate_left
  · intro w9 hS9; obtain ⟨q0, q1, q2, q3, q4, q5, q6, q7, q8, q9⟩ := hS9; go_simp; (first | done | with_reducible rfl)
  dsimp only [List.set_cons_zero, List.set_cons_succ]
  refine stepTQ HOPS HREG 15 65535 ?_ (by decide) rfl (by kernel_rfl) (by kernel_rfl) rfl ?_ HS9w9.out ?_
  rotate_left
  · intro w9 hS9; obtain ⟨q0, q1, q2, q3, q4, q5, q6, q7, q8, q9⟩ := hS9; go_simp; (first | done | with_reducible rfl)
  dsimp only [List.set_cons_zero, List.set_cons_succ]
  refine stepTQ HOPS HREG 16 131071 ?_ (by decide) rfl (by kernel_rfl) (by kernel_rfl) rfl ?_ HS9w9.out ?_
  rotate_left
  · intro w9 hS9; obtain ⟨q0, q1, q2, q3, q4, q5, q6, q7, q8, q9⟩ := hS9; go_simp; (first | done | with_reducible rfl)
  dsimp only [List.set_cons_zero, List.set_cons_succ]
  refine stepTQ HOPS HREG 17 262143 ?_ (by decide) rfl (by kernel_rfl) (by kernel_rfl) rfl ?_ HS9w9.out ?_
  rotate_left
  · intro w9 hS9; obtain ⟨q0, q1, q2, q3, q4, q5, q6, q7, q8, q9⟩ := hS9; go_simp; (first | done | with_reducible rfl)
  dsimp only [List.set_cons_zero, List.set_cons_succ]
  refine stepTQ HOPS HREG 18 524287 ?_ (by decide) rfl (by kernel_rfl) (by kernel_rfl) rfl ?_ HS9w9.out ?_
  rotate_left
  · intro w9 hS9; obtain ⟨q0, q1, q2, q3, q4, q5, q6, q7, q8, q9⟩ := hS9; go_simp; (first | done | with_reducible rfl)
  dsimp only [List.set_cons_zero, List.set_cons_succ]
  refine stepTQ HOPS HREG 19 1048575 ?_ (by decide) rfl (by kernel_rfl) (by kernel_rfl) rfl ?_ HS9w9.out ?_
  rotate_left
  · intro w9 hS9; obtain ⟨q0, q1, q2, q3, q4, q5, q6, q7, q8, q9⟩ := hS9; go_simp; (first | done | with_reducible rfl)
  dsimp only [List.set_cons_zero, List.set_cons_succ]
  refine stepTQ HOPS HREG 20 2097151 ?_ (by decide) rfl (by kernel_rfl) (by kernel_rfl) rfl ?_ HS9w9.out ?_
  rotate_left
  · intro w9 hS9; obtain ⟨q0, q1, q2, q3, q4, q5, q6, q7, q8, q9⟩ := hS9; go_simp; (first | done | with_reducible rfl)
  dsimp only [List.set_cons_zero, List.set_cons_succ]
  refine stepTQ HOPS HREG 22 6291455 ?_ (by decide) rfl (by kernel_rfl) (by kernel_rfl) rfl ?_ HS9w9.out ?_
  rotate_left
  · intro w9 hS9; obtain ⟨q0, q1, q2, q3, q4, q5, q6, q7, q8, q9⟩ := hS9; go_simp; (first | done | with_reducible rfl)
  dsimp only [List.set_cons_zero, List.set_cons_succ]
  refine stepTQ HOPS HREG 23 14680063 ?_ (by decide) rfl (by kernel_rfl) (by kernel_rfl) rfl ?_ HS9w9.out ?_
  rotate_left
  · intro w9 hS9; obtain ⟨q0, q1, q2, q3, q4, q5, q6, q7, q8, q9⟩ := hS9; go_simp; (first | done | with_reducible rfl)
  dsimp only [List.set_cons_zero, List.set_cons_succ]
  refine stepC HOPS 21 16777215 (by decide) rfl (by kernel_rfl) (by kernel_rfl) ?_
  go_simp
  with_reducible refine (Cut_is HCS.out HR_9.out hc (by omega) HI.out HT_9.out).mono ?_
  rintro e w10 ⟨A10, n10, c10, rfl, ho, hb⟩
  have HW_10 := Lib.hid (bel_trans HW_9.out hb)
  have HS_10 := Lib.hid (HS_9.out.below hb)
  have HR_10 := Lib.hid (rdUp HR_9.out hb)
  have HT_10 := Lib.hid (HT_9.out.bel hb)
  have HXR_10 := Lib.hid (rdUp HXR_9.out hb)
  have HX_10 := Lib.hid (HX_9.out.below hb)
  have HYR_10 := Lib.hid (rdUp HYR_9.out hb)
  have HY_10 := Lib.hid (HY_9.out.below hb)
  have HUR_10 := Lib.hid (rdUp HUR_9.out hb)
  have HU_10 := Lib.hid (HU_9.out.below hb)
  have HVR_10 := Lib.hid (rdUp HVR_9.out hb)
  have HV_10 := Lib.hid (HV_9.out.below hb)
  have HP_10 := Lib.hid (ho.rd)
  clear ho
  have HS9w10 := Lib.hid (show (fun W9 : World => W9.cell? ⟨w.heap.size, 0, none⟩ = some (.int .i64 sb) ∧ W9.cell? ⟨w.heap.size, 1, none⟩ = some (.slice A n c) ∧ W9.cell? ⟨w4.heap.size, 0, none⟩ = some (.int .i64 xb) ∧ W9.cell? ⟨w4.heap.size, 1, none⟩ = some (.slice A4 n4 c4) ∧ W9.cell? ⟨w5.heap.size, 0, none⟩ = some (.int .i64 xb) ∧ W9.cell? ⟨w5.heap.size, 1, none⟩ = some (.slice A5 n5 c5) ∧ W9.cell? ⟨w6.heap.size, 0, none⟩ = some (.int .i64 ub) ∧ W9.cell? ⟨w6.heap.size, 1, none⟩ = some (.slice A6 n6 c6) ∧ W9.cell? ⟨w7.heap.size, 0, none⟩ = some (.int .i64 ub) ∧ W9.cell? ⟨w7.heap.size, 1, none⟩ = some (.slice A7 n7 c7)) w10 from ⟨HS_10.out.cell 0, HS_10.out.cell 1, HX_10.out.cell 0, HX_10.out.cell 1, HY_10.out.cell 0, HY_10.out.cell 1, HU_10.out.cell 0, HU_10.out.cell 1, HV_10.out.cell 0, HV_10.out.cell 1⟩)
  clear hb
  dsimp only
  refine ⟨HS9w10.out, ?_⟩
  try simp only [Act.put, List.setIfInBounds_toArray, List.set_cons_zero, List.set_cons_succ]
  refine stepC HOPS 24 33554431 (by decide) rfl (by kernel_rfl) (by kernel_rfl) ?_
  go_simp
  with_reducible refine (refCut_is HCS.out HR_10.out hc (by omega) HI.out).mono ?_
  rintro e w11 ⟨A11, n11, c11, rfl, ho, hb⟩
  have HW_11 := Lib.hid (bel_trans HW_10.out hb)
  have HS_11 := Lib.hid (HS_10.out.below hb)
  have HR_11 := Lib.hid (rdUp HR_10.out hb)
  have HT_11 := Lib.hid (HT_10.out.bel hb)
  have HXR_11 := Lib.hid (rdUp HXR_10.out hb)
  have HX_11 := Lib.hid (HX_10.out.below hb)
  have HYR_11 := Lib.hid (rdUp HYR_10.out hb)
  have HY_11 := Lib.hid (HY_10.out.below hb)
  have HUR_11 := Lib.hid (rdUp HUR_10.out hb)
  have HU_11 := Lib.hid (HU_10.out.below hb)
  have HVR_11 := Lib.hid (rdUp HVR_10.out hb)
  have HV_11 := Lib.hid (HV_10.out.below hb)
  have HP_11 := Lib.hid (rdUp HP_10.out hb)
  have HQQ_11 := Lib.hid (ho.rd)
  clear ho
  have HS9w11 := Lib.hid (show (fun W9 : World => W9.cell? ⟨w.heap.size, 0, none⟩ = some (.int .i64 sb) ∧ W9.cell? ⟨w.heap.size, 1, none⟩ = some (.slice A n c) ∧ W9.cell? ⟨w4.heap.size, 0, none⟩ = some (.int .i64 xb) ∧ W9.cell? ⟨w4.heap.size, 1, none⟩ = some (.slice A4 n4 c4) ∧ W9.cell? ⟨w5.heap.size, 0, none⟩ = some (.int .i64 xb) ∧ W9.cell? ⟨w5.heap.size, 1, none⟩ = some (.slice A5 n5 c5) ∧ W9.cell? ⟨w6.heap.size, 0, none⟩ = some (.int .i64 ub) ∧ W9.cell? ⟨w6.heap.size, 1, none⟩ = some (.slice A6 n6 c6) ∧ W9.cell? ⟨w7.heap.size, 0, none⟩ = some (.int .i64 ub) ∧ W9.cell? ⟨w7.heap.size, 1, none⟩ = some (.slice A7 n7 c7)) w11 from ⟨HS_11.out.cell 0, HS_11.out.cell 1, HX_11.out.cell 0, HX_11.out.cell 1, HY_11.out.cell 0, HY_11.out.cell 1, HU_11.out.cell 0, HU_11.out.cell 1, HV_11.out.cell 0, HV_11.out.cell 1⟩)
  clear hb
  dsimp only
  refine ⟨HS9w11.out, ?_⟩
  try simp only [Act.put, List.setIfInBounds_toArray, List.set_cons_zero, List.set_cons_succ]
  refine stepC HOPS 25 67108863 (by decide) rfl (by kernel_rfl) (by kernel_rfl) ?_
  go_simp
  with_reducible refine (refSameS_is yb A10 n10 c10 yb A11 n11 c11 ys ys _ HP_11.out HQQ_11.out (same_self yb ys)).mono ?_
  rintro e w12 ⟨rfl, hb⟩
  have HW_12 := Lib.hid (bel_trans HW_11.out hb)
  have HS_12 := Lib.hid (HS_11.out.below hb)
  have HR_12 := Lib.hid (rdUp HR_11.out hb)
  have HT_12 := Lib.hid (HT_11.out.bel hb)
  have HXR_12 := Lib.hid (rdUp HXR_11.out hb)
  have HX_12 := Lib.hid (HX_11.out.below hb)
  have HYR_12 := Lib.hid (rdUp HYR_11.out hb)
  have HY_12 := Lib.hid (HY_11.out.below hb)
  have HUR_12 := Lib.hid (rdUp HUR_11.out hb)
  have HU_12 := Lib.hid (HU_11.out.below hb)
  have HVR_12 := Lib.hid (rdUp HVR_11.out hb)
  have HV_12 := Lib.hid (HV_11.out.below hb)
  have HP_12 := Lib.hid (rdUp HP_11.out hb)
  have HQQ_12 := Lib.hid (rdUp HQQ_11.out hb)
  have HS9w12 := Lib.hid (show (fun W9 : World => W9.cell? ⟨w.heap.size, 0, none⟩ = some (.int .i64 sb) ∧ W9.cell? ⟨w.heap.size, 1, none⟩ = some (.slice A n c) ∧ W9.cell? ⟨w4.heap.size, 0, none⟩ = some (.int .i64 xb) ∧ W9.cell? ⟨w4.heap.size, 1, none⟩ = some (.slice A4 n4 c4) ∧ W9.cell? ⟨w5.heap.size, 0, none⟩ = some (.int .i64 xb) ∧ W9.cell? ⟨w5.heap.size, 1, none⟩ = some (.slice A5 n5 c5) ∧ W9.cell? ⟨w6.heap.size, 0, none⟩ = some (.int .i64 ub) ∧ W9.cell? ⟨w6.heap.size, 1, none⟩ = some (.slice A6 n6 c6) ∧ W9.cell? ⟨w7.heap.size, 0, none⟩ = some (.int .i64 ub) ∧ W9.cell? ⟨w7.heap.size, 1, none⟩ = some (.slice A7 n7 c7)) w12 from ⟨HS_12.out.cell 0, HS_12.out.cell 1, HX_12.out.cell 0, HX_12.out.cell 1, HY_12.out.cell 0, HY_12.out.cell 1, HU_12.out.cell 0, HU_12.out.cell 1, HV_12.out.cell 0, HV_12.out.cell 1⟩)
  clear hb
  dsimp only
  refine ⟨HS9w12.out, ?_⟩
  try simp only [Act.put, List.setIfInBounds_toArray, List.set_cons_zero, List.set_cons_succ]
  refine stepTQ HOPS HREG 26 134217727 ?_ (by decide) rfl (by kernel_rfl) (by kernel_rfl) rfl ?_ HS9w12.out ?_
  rotate_left
  · intro w9 hS9; obtain ⟨q0, q1, q2, q3, q4, q5, q6, q7, q8, q9⟩ := hS9; go_simp; (first | done | with_reducible rfl)
  dsimp only [List.set_cons_zero, List.set_cons_succ]
  refine stepTQ HOPS HREG 27 268435455 ?_ (by decide) rfl (by kernel_rfl) (by kernel_rfl) rfl ?_ HS9w12.out ?_
  rotate_left
  · intro w9 hS9; obtain ⟨q0, q1, q2, q3, q4, q5, q6, q7, q8, q9⟩ := hS9; go_simp; (first | done | with_reducible rfl)
  dsimp only [List.set_cons_zero, List.set_cons_succ]
  refine stepE HOPS (by kernel_rfl) (HQ.out _ _ ?_)
  clear HQ HREG HOPS
  clear Q ops
  go_wp2
  go_ret
  exact ⟨rfl, HW_12.out⟩
end Go.Proofs.YtgjbfhmfhmihhaaDoor.Seg

namespace Go.Proofs.YtgjbfhmfhmihhaaDoor.segMakes
open Go.ChangeShapes Go.WideShapes Go.ChangeAt Go.RowKit

theorem own : ownKnob Tryd.prog.godebug = none := by kernel_rfl
theorem laidOut : laidOutB Tryd.prog = true := by kernel_rfl

set_option maxRecDepth 100000 in
theorem lifted (os : Os) (started : os.Started) (H : Type) (enc : TypeId × Value → H) :
    ReturnsInHanded {} Tryd.checked os 5 .any (fun w args => (Rows.segMakesSpec.pre enc Tryd.prog Tryd.f5 [] false w args ∧ laidMetH Tryd.prog Crc.listed w) ∧ sizedMet enc Tryd.prog Tryd.f5 (OpenSpec.ofChange Rows.segMakesSpec) false w args)
      (Rows.segMakesSpec.post enc Tryd.prog Tryd.f5 false true false false) := by
  refine returnsInHanded_of_change_and (C := Tryd.checked) (X := fun w _ => laidMetH Tryd.prog Crc.listed w) (fun _ _ _ hh h => h.of_heap hh) own started (by kernel_rfl) Tryd.func5
    (ChangeSpec.witness_shaped (enc := enc) (C := Tryd.checked) (os := os) (X := fun w _ => laidMetH Tryd.prog Crc.listed w) false (World.doorLaid Tryd.prog 400 os) #[.int .i64 0, .slice none 0 0, .int .i64 0, .agg #[.int .i64 0, .slice none 0 0], .int .i64 0] 8 rfl (World.shaped_of_RefB (by kernel_rfl) (by kernel_rfl)) (by kernel_rfl) (by kernel_rfl) (by kernel_rfl) (Crc.door_met os _)) ?_
  intro W base args ds gs before hval0 hW _ hwt hL _
  have hval : ∀ (j : Nat) t v, Tryd.f5.params[j]? = some t → args[j]? = some v → Value.okWide Tryd.prog W .any base t v := hval0
  have hW' := hW
  obtain ⟨p, q, hA0, hV, rfl, hfz, hnd⟩ := hW
  have hA : DataW.TrodAll enc Tryd.prog W 0 (fun _ => true) true Tryd.f5.params.toList args.toList ds p := hA0
  rw [Tryd.params5] at hA hval
  obtain ⟨v0, vs0, d0, ds0, p0, q0, hargs, rfl, rfl, h0, r0⟩ := trodAll_cons hA
  obtain ⟨v1, vs1, d1, ds1, p1, q1, rfl, rfl, rfl, h1, r1⟩ := trodAll_cons r0
  obtain ⟨v2, vs2, d2, ds2, p2, q2, rfl, rfl, rfl, h2, r2⟩ := trodAll_cons r1
  obtain ⟨v3, vs3, d3, ds3, p3, q3, rfl, rfl, rfl, h3, r3⟩ := trodAll_cons r2
  obtain ⟨v4, vs4, d4, ds4, p4, q4, rfl, rfl, rfl, h4, r4⟩ := trodAll_cons r3
  obtain ⟨rfl, rfl, rfl⟩ := trodAll_nil r4
  obtain rfl : args = #[v0, v1, v2, v3, v4] := by cases args; simp_all
  obtain ⟨rfl, rfl⟩ := trodVars_none hV
  have k0 := h0
  have lt0 : ∀ x ∈ p0, x.block < W.heap.size := by obtain ⟨m, hm⟩ := k0; exact DataW.trod_lt m _ _ _ hm
  obtain ⟨a0, rfl, hi0⟩ := Oct.open_i64 Tryd.underlying3 (hval 0 3 v0 rfl rfl) h0
  have k1 := h1
  have lt1 : ∀ x ∈ p1, x.block < W.heap.size := by obtain ⟨m, hm⟩ := k1; exact DataW.trod_lt m _ _ _ hm
  obtain ⟨A_1, n_1, c_1, l_1, rfl, hc_1, hk_1, hR_1⟩ := Bat.open_batches (hval 1 28 v1 rfl rfl) h1 (Bat.weights_arg (j := 1) hwt (by kernel_rfl) rfl)
  have k2 := h2
  have lt2 : ∀ x ∈ p2, x.block < W.heap.size := by obtain ⟨m, hm⟩ := k2; exact DataW.trod_lt m _ _ _ hm
  obtain ⟨a2, rfl, hi2⟩ := Oct.open_i64 Tryd.underlying3 (hval 2 3 v2 rfl rfl) h2
  have k3 := h3
  have lt3 : ∀ x ∈ p3, x.block < W.heap.size := by obtain ⟨m, hm⟩ := k3; exact DataW.trod_lt m _ _ _ hm
  obtain ⟨sb_3, A_3, n_3, c_3, l_3, rfl, hi_3, hc_3, hk_3, hR_3⟩ := Seg.open_seg (hval 3 24 v3 rfl rfl) h3 (Bat.weights_arg (j := 3) hwt (by kernel_rfl) rfl)
  have k4 := h4
  have lt4 : ∀ x ∈ p4, x.block < W.heap.size := by obtain ⟨m, hm⟩ := k4; exact DataW.trod_lt m _ _ _ hm
  obtain ⟨a4, rfl, hi4⟩ := Oct.open_i64 Tryd.underlying3 (hval 4 3 v4 rfl rfl) h4
  clear hA0 hval0
  refine (Seg.segMakes_walk a0 A_1 n_1 c_1 l_1 a2 sb_3 A_3 n_3 c_3 l_3 a4 W hi0 hc_1 hk_1 hR_1 hi2 hi_3 hc_3 hk_3 hR_3 hi4 (Crc.tab_of_laid hL)).mono fun e W' ⟨he, bel⟩ => ?_
  subst he
  exact ⟨_, rfl, _, _, _, [], _, [], hW', trodAll_mk1 (shut_bool Tryd.underlying4 _), (trodAll_cons_mk (Below.trod laidOut (by kernel_rfl) (of_decide_eq_true (by kernel_rfl)) k0 bel lt0) (trodAll_cons_mk (Below.trod laidOut (by kernel_rfl) (of_decide_eq_true (by kernel_rfl)) k1 bel lt1) (trodAll_cons_mk (Below.trod laidOut (by kernel_rfl) (of_decide_eq_true (by kernel_rfl)) k2 bel lt2) (trodAll_cons_mk (Below.trod laidOut (by kernel_rfl) (of_decide_eq_true (by kernel_rfl)) k3 bel lt3) (trodAll_cons_mk (Below.trod laidOut (by kernel_rfl) (of_decide_eq_true (by kernel_rfl)) k4 bel lt4) trodAll_mk0))))), rfl, bel.frame _, fun h => by cases h⟩

theorem over : Rows.segMakesRow.holds Tryd.pinned (OpenSpec.ofChange Rows.segMakesSpec) :=
  OpenClaim.holds_of_wide 5 Tryd.f5 rfl rfl rfl rfl rfl rfl rfl ⟨rfl, rfl, rfl, rfl, rfl⟩ rfl rfl rfl rfl rfl (by kernel_rfl) Tryd.func5 (by kernel_rfl)
    (of_decide_eq_true (by kernel_rfl)) (by unfold Func.isWrapper; first | (rw [if_pos (by decide +kernel)]; kernel_rfl) | (rw [if_neg (by decide +kernel)]; exact ⟨rfl, rfl⟩))
    (fun os started H enc _ => lifted os started H enc)

theorem proved : Rows.SegMakesCardSaid :=
  Claim7.holds_tied_plain_at .later [] [.data] true (true, "8756dca365c3738ae7f7dad078bfa0200519ee75ee06b885abe2d0f8db900c1d") false
    over (fun _ h => by cases h) (by kernel_rfl) (fun _ h => by cases h) segMakes_row_tie rfl ⟨rfl, rfl⟩ (by kernel_rfl) rfl
    (fun f fn hf hfn => by
      obtain rfl : f = 5 := Option.some.inj ((show Tryd.prog.funcNamed "watermeet/watermeetlaw07.SegMakes" = some 5 by kernel_rfl).symm.trans hf) |>.symm
      obtain rfl : fn = Tryd.f5 := (Option.some.inj (Tryd.func5.symm.trans hfn)).symm
      exact ⟨by kernel_rfl, fun j t ht => by
        rw [Tryd.params5] at ht
        have hm : t ∈ [3, 28, 3, 24, 3] := by simpa using Array.mem_of_getElem? ht
        have hall : ([3, 28, 3, 24, 3].all fun u => !Tryd.prog.wantsStandIn u) = true := by kernel_rfl
        exact (show Tryd.prog.wantsStandIn t = false by simpa using List.all_eq_true.1 hall t hm)⟩)
    (by kernel_rfl)
#print axioms proved
end Go.Proofs.YtgjbfhmfhmihhaaDoor.segMakes
