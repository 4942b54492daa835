/- What is found, by an offset and by a time, is just what the document says; no condition.
-/
import Derived.Test.YtbnkfljkojhkoaaGreatDoorIdxW
import Derived.Test.YtbnkfljkojhkoaaGreatDoorIdxV
import Derived.Test.YtbnkfljkojhkoaaGreatDoorJIn
import Derived.Test.YtbnkfljkojhkoaaGreatDoorIdxRD
import Derived.Test.YtbnkfljkojhkoaaGreatDoorJBatC
import Derived.Test.YtbnkfljkojhkoaaGreatDoorRows
import Derived.WalkKit
import Derived.ProofKit
import Derived.OpenShut
import Derived.ChangeOld
import Derived.Below
import Derived.Carry
import Derived.Test.YtbnkfljkojhkoaaGreatDoorJOct
import Derived.Test.YtbnkfljkojhkoaaGreatDoorSegArg
import Derived.Test.YtbnkfljkojhkoaaGreatDoorIdxEnt
import Derived.Test.YtbnkfljkojhkoaaGreatDoorJCrc
import Derived.Test.YtbnkfljkojhkoaaGreatDoorTie
import Derived.Test.YtbnkfljkojhkoaaGreatDoorCards
import Derived.SevenTiedAt
/- The walk of IndexFinds. -/
namespace Go.Proofs.YtbnkfljkojhkoaaGreatDoor.Idx
open Go.RowKit Seg RowF Oct Rec Crc Bat Lay InR

theorem refFind_is {A : Option Addr} {n c : Nat} {base : Int} {bs : List UInt8} {A2 : Option Addr} {n2 c2 : Nat} {l : List En} {off : Int} {ba la fr ep pi ge se : Int} {tx : Bool} {ct : Int} {rs : List Rc} {z : Int} (h : findX ⟨base, bs⟩ l off = (⟨ba, la, fr, ep, pi, ge, se, tx, ct, rs⟩, z)) (w : World) (hr : Rd w w.heap.size A n bs) (hc : n ≤ c) (hr2 : RdE w w.heap.size A2 n2 l) (hn2 : n2 ≤ 1099511627776) (hI : I64 base) :
    Calls Tryz.prog 13 #[.agg #[.int .i64 base, .slice A n c], .slice A2 n2 c2, .int .i64 off] w fun e w' => ∃ A1 n1 c1, e = .returned (.tuple #[.agg #[.int .i64 ba, .int .i64 la, .int .i64 fr, .int .i64 ep, .int .i64 pi, .int .i64 ge, .int .i64 se, .bool tx, .int .i64 ct, .slice A1 n1 c1], .int .i64 z]) ∧ n1 ≤ c1 ∧ n1 ≤ 1099511627776 ∧ RdR w' w'.heap.size A1 n1 rs ∧ Below w.heap.size w w' := by
  have h1 := refFind_any A n c base bs A2 n2 c2 l off w hr hc hr2 hn2 hI
  rw [h] at h1
  exact h1
theorem refSince_is {A : Option Addr} {n c : Nat} {base : Int} {bs : List UInt8} {A2 : Option Addr} {n2 c2 : Nat} {l : List En} {st : Int} {o9 e9 : Int} (h : sinceX ⟨base, bs⟩ l st = (o9, e9)) (w : World) (hr : Rd w w.heap.size A n bs) (hc : n ≤ c) (hr2 : RdE w w.heap.size A2 n2 l) (hn2 : n2 ≤ 1099511627776) (hI : I64 base) :
    Calls Tryz.prog 15 #[.agg #[.int .i64 base, .slice A n c], .slice A2 n2 c2, .int .i64 st] w fun e w' => e = .returned (.tuple #[.int .i64 o9, .int .i64 e9]) ∧ Below w.heap.size w w' := by
  have h1 := refSince_any A n c base bs A2 n2 c2 l st w hr hc hr2 hn2 hI
  rw [h] at h1
  exact h1
set_option maxRecDepth 100000 in
set_option maxHeartbeats 8000000 in
theorem indexFinds_walk (sb : Int) (A : Option Addr) (n c : Nat) (l : List UInt8) (A1 : Option Addr) (n1 c1 : Nat) (l2 : List En) (off st : Int) (w : World) (hi : I64 sb) (hc : n ≤ c) (_hk : c ≤ reach) (hR : Rd w w.heap.size A n l) (hnc : n1 ≤ c1) (_hcap : c1 ≤ reach) (hRe : RdE w w.heap.size A1 n1 l2) (_hi3 : I64 off) (_hi4 : I64 st) (ht : Tab w) :
    Calls Tryz.prog 4 #[.agg #[.int .i64 sb, .slice A n c], .slice A1 n1 c1, .int .i64 off, .int .i64 st] w fun e w' => e = .returned (.bool true) ∧ Below w.heap.size w w' := by
  have HW_0 := Lib.hid (belA w (.cells #[.int .i64 sb, .slice A n c] 24))
  have HS_0 := Lib.hid (At0.new w [.int .i64 sb, .slice A n c] 24)
  have HR_0 := Lib.hid (rdUp hR HW_0.out)
  have HT_0 := Lib.hid (ht.bel HW_0.out)
  have HV_0 := Lib.hid (rdeUp hRe HW_0.out)
  rcases hz : (decide ((n : Int) ≤ 3000) && decide ((n1 : Int) ≤ 200)) with _ | _
  · have HFEW := Lib.hid hz
    clear ht hR hRe hz
    go_enter Tryz.func4, Tryz.ntmps4
    go_wp2_with (first
      | (go_at_call 5; (with_reducible refine (live8_any _ HT_0.out).mono ?_); rintro e w1 ⟨rfl, hb⟩; have HW_1 := Lib.hid (bel_trans HW_0.out hb); have HS_1 := Lib.hid (HS_0.out.below hb); have HR_1 := Lib.hid (rdUp HR_0.out hb); have HT_1 := Lib.hid (HT_0.out.bel hb); have HV_1 := Lib.hid (rdeUp HV_0.out hb); have hs1_0 : w1.cell? ⟨w.heap.size, 0, none⟩ = some (.int .i64 sb) := HS_1.out.cell 0; have hs1_1 : w1.cell? ⟨w.heap.size, 1, none⟩ = some (.slice A n c) := HS_1.out.cell 1; clear hb)
      | (go_at_call 6; (with_reducible refine (few_any sb A n c A1 n1 c1 (z := false) HFEW.out _).mono ?_); rintro e w2 ⟨rfl, hb⟩; have HW_2 := Lib.hid (bel_trans HW_1.out hb); have HS_2 := Lib.hid (HS_1.out.below hb); have HR_2 := Lib.hid (rdUp HR_1.out hb); have HT_2 := Lib.hid (HT_1.out.bel hb); have HV_2 := Lib.hid (rdeUp HV_1.out hb); have hs2_0 : w2.cell? ⟨w.heap.size, 0, none⟩ = some (.int .i64 sb) := HS_2.out.cell 0; have hs2_1 : w2.cell? ⟨w.heap.size, 1, none⟩ = some (.slice A n c) := HS_2.out.cell 1; clear hb))
    go_ret
    exact ⟨rfl, HW_2.out⟩
  have HFEW := Lib.hid hz
  have hn1 : n1 ≤ 1099511627776 := by have h := hz; rw [Bool.and_eq_true, decide_eq_true_eq, decide_eq_true_eq] at h; omega
  rcases hfa : findX ⟨sb, l⟩ l2 off with ⟨⟨ba, la, fr, ep, pi, ge, se, tx, ct, rs⟩, zf⟩
  rcases hsa : sinceX ⟨sb, l⟩ l2 st with ⟨zo, zs⟩
  have HFA := Lib.hid hfa
  have HSA := Lib.hid hsa
  clear ht hR hRe hz hfa hsa
  go_enter Tryz.func4, Tryz.ntmps4
  go_wp2_with (first
    | (go_at_call 5; (with_reducible refine (live8_any _ HT_0.out).mono ?_); rintro e w1 ⟨rfl, hb⟩; have HW_1 := Lib.hid (bel_trans HW_0.out hb); have HS_1 := Lib.hid (HS_0.out.below hb); have HR_1 := Lib.hid (rdUp HR_0.out hb); have HT_1 := Lib.hid (HT_0.out.bel hb); have HV_1 := Lib.hid (rdeUp HV_0.out hb); have hs1_0 : w1.cell? ⟨w.heap.size, 0, none⟩ = some (.int .i64 sb) := HS_1.out.cell 0; have hs1_1 : w1.cell? ⟨w.heap.size, 1, none⟩ = some (.slice A n c) := HS_1.out.cell 1; clear hb)
    | (go_at_call 6; (with_reducible refine (few_any sb A n c A1 n1 c1 (z := true) HFEW.out _).mono ?_); rintro e w2 ⟨rfl, hb⟩; have HW_2 := Lib.hid (bel_trans HW_1.out hb); have HS_2 := Lib.hid (HS_1.out.below hb); have HR_2 := Lib.hid (rdUp HR_1.out hb); have HT_2 := Lib.hid (HT_1.out.bel hb); have HV_2 := Lib.hid (rdeUp HV_1.out hb); have hs2_0 : w2.cell? ⟨w.heap.size, 0, none⟩ = some (.int .i64 sb) := HS_2.out.cell 0; have hs2_1 : w2.cell? ⟨w.heap.size, 1, none⟩ = some (.slice A n c) := HS_2.out.cell 1; clear hb)
    | (go_at_call 12; (with_reducible refine (Find_is A n c sb l A1 n1 c1 l2 off HFA.out _ HR_2.out hc HV_2.out hnc hn1 hi HT_2.out).mono ?_); rintro e w3 ⟨A3, n3, c3, rfl, hcp3, hn3, hr3, hb⟩; have HW_3 := Lib.hid (bel_trans HW_2.out hb); have HS_3 := Lib.hid (HS_2.out.below hb); have HR_3 := Lib.hid (rdUp HR_2.out hb); have HT_3 := Lib.hid (HT_2.out.bel hb); have HV_3 := Lib.hid (rdeUp HV_2.out hb); have hba := belA w3 (.cells #[.int .i64 ba, .int .i64 la, .int .i64 fr, .int .i64 ep, .int .i64 pi, .int .i64 ge, .int .i64 se, .bool tx, .int .i64 ct, .slice A3 n3 c3] 36); have HW_3a := Lib.hid (bel_trans HW_3.out hba); have HS_3a := Lib.hid (HS_3.out.below hba); have HR_3a := Lib.hid (rdUp HR_3.out hba); have HT_3a := Lib.hid (HT_3.out.bel hba); have HV_3a := Lib.hid (rdeUp HV_3.out hba); have HX_3a := Lib.hid (At0.new w3 [.int .i64 ba, .int .i64 la, .int .i64 fr, .int .i64 ep, .int .i64 pi, .int .i64 ge, .int .i64 se, .bool tx, .int .i64 ct, .slice A3 n3 c3] 36); have HXR_3a := Lib.hid (rdrUp hr3 hba); have hs3a_0 : (w3.alloc (.cells #[.int .i64 ba, .int .i64 la, .int .i64 fr, .int .i64 ep, .int .i64 pi, .int .i64 ge, .int .i64 se, .bool tx, .int .i64 ct, .slice A3 n3 c3] 36)).cell? ⟨w.heap.size, 0, none⟩ = some (.int .i64 sb) := HS_3a.out.cell 0; have hs3a_1 : (w3.alloc (.cells #[.int .i64 ba, .int .i64 la, .int .i64 fr, .int .i64 ep, .int .i64 pi, .int .i64 ge, .int .i64 se, .bool tx, .int .i64 ct, .slice A3 n3 c3] 36)).cell? ⟨w.heap.size, 1, none⟩ = some (.slice A n c) := HS_3a.out.cell 1; clear hb hba hr3)
    | (go_at_call 13; (with_reducible refine (refFind_is HFA.out _ HR_3a.out hc HV_3a.out hn1 hi).mono ?_); rintro e w4 ⟨A4, n4, c4, rfl, hcp4, hn4, hr4, hb⟩; have HW_4 := Lib.hid (bel_trans HW_3a.out hb); have HS_4 := Lib.hid (HS_3a.out.below hb); have HR_4 := Lib.hid (rdUp HR_3a.out hb); have HT_4 := Lib.hid (HT_3a.out.bel hb); have HV_4 := Lib.hid (rdeUp HV_3a.out hb); have HX_4 := Lib.hid (HX_3a.out.below hb); have HXR_4 := Lib.hid (rdrUp HXR_3a.out hb); have hba := belA w4 (.cells #[.int .i64 ba, .int .i64 la, .int .i64 fr, .int .i64 ep, .int .i64 pi, .int .i64 ge, .int .i64 se, .bool tx, .int .i64 ct, .slice A4 n4 c4] 36); have HW_4a := Lib.hid (bel_trans HW_4.out hba); have HS_4a := Lib.hid (HS_4.out.below hba); have HR_4a := Lib.hid (rdUp HR_4.out hba); have HT_4a := Lib.hid (HT_4.out.bel hba); have HV_4a := Lib.hid (rdeUp HV_4.out hba); have HX_4a := Lib.hid (HX_4.out.below hba); have HXR_4a := Lib.hid (rdrUp HXR_4.out hba); have HY_4a := Lib.hid (At0.new w4 [.int .i64 ba, .int .i64 la, .int .i64 fr, .int .i64 ep, .int .i64 pi, .int .i64 ge, .int .i64 se, .bool tx, .int .i64 ct, .slice A4 n4 c4] 36); have HYR_4a := Lib.hid (rdrUp hr4 hba); have hs4a_0 : (w4.alloc (.cells #[.int .i64 ba, .int .i64 la, .int .i64 fr, .int .i64 ep, .int .i64 pi, .int .i64 ge, .int .i64 se, .bool tx, .int .i64 ct, .slice A4 n4 c4] 36)).cell? ⟨w.heap.size, 0, none⟩ = some (.int .i64 sb) := HS_4a.out.cell 0; have hs4a_1 : (w4.alloc (.cells #[.int .i64 ba, .int .i64 la, .int .i64 fr, .int .i64 ep, .int .i64 pi, .int .i64 ge, .int .i64 se, .bool tx, .int .i64 ct, .slice A4 n4 c4] 36)).cell? ⟨w.heap.size, 1, none⟩ = some (.slice A n c) := HS_4a.out.cell 1; clear hb hba hr4)
    | (go_at_call 14; (with_reducible refine (Since_is A n c sb l A1 n1 c1 l2 st HSA.out _ HR_4a.out hc HV_4a.out hnc hn1 hi HT_4a.out).mono ?_); rintro e w5 ⟨rfl, hb⟩; have HW_5 := Lib.hid (bel_trans HW_4a.out hb); have HS_5 := Lib.hid (HS_4a.out.below hb); have HR_5 := Lib.hid (rdUp HR_4a.out hb); have HT_5 := Lib.hid (HT_4a.out.bel hb); have HV_5 := Lib.hid (rdeUp HV_4a.out hb); have HX_5 := Lib.hid (HX_4a.out.below hb); have HXR_5 := Lib.hid (rdrUp HXR_4a.out hb); have HY_5 := Lib.hid (HY_4a.out.below hb); have HYR_5 := Lib.hid (rdrUp HYR_4a.out hb); have hs5_0 : w5.cell? ⟨w.heap.size, 0, none⟩ = some (.int .i64 sb) := HS_5.out.cell 0; have hs5_1 : w5.cell? ⟨w.heap.size, 1, none⟩ = some (.slice A n c) := HS_5.out.cell 1; clear hb)
    | (go_at_call 15; (with_reducible refine (refSince_is HSA.out _ HR_5.out hc HV_5.out hn1 hi).mono ?_); rintro e w6 ⟨rfl, hb⟩; have HW_6 := Lib.hid (bel_trans HW_5.out hb); have HS_6 := Lib.hid (HS_5.out.below hb); have HR_6 := Lib.hid (rdUp HR_5.out hb); have HT_6 := Lib.hid (HT_5.out.bel hb); have HV_6 := Lib.hid (rdeUp HV_5.out hb); have HX_6 := Lib.hid (HX_5.out.below hb); have HXR_6 := Lib.hid (rdrUp HXR_5.out hb); have HY_6 := Lib.hid (HY_5.out.below hb); have HYR_6 := Lib.hid (rdrUp HYR_5.out hb); have hx6_0 : w6.cell? ⟨w3.heap.size, 0, none⟩ = some (.int .i64 ba) := HX_6.out.cell 0; have hx6_1 : w6.cell? ⟨w3.heap.size, 1, none⟩ = some (.int .i64 la) := HX_6.out.cell 1; have hx6_2 : w6.cell? ⟨w3.heap.size, 2, none⟩ = some (.int .i64 fr) := HX_6.out.cell 2; have hx6_3 : w6.cell? ⟨w3.heap.size, 3, none⟩ = some (.int .i64 ep) := HX_6.out.cell 3; have hx6_4 : w6.cell? ⟨w3.heap.size, 4, none⟩ = some (.int .i64 pi) := HX_6.out.cell 4; have hx6_5 : w6.cell? ⟨w3.heap.size, 5, none⟩ = some (.int .i64 ge) := HX_6.out.cell 5; have hx6_6 : w6.cell? ⟨w3.heap.size, 6, none⟩ = some (.int .i64 se) := HX_6.out.cell 6; have hx6_7 : w6.cell? ⟨w3.heap.size, 7, none⟩ = some (.bool tx) := HX_6.out.cell 7; have hx6_8 : w6.cell? ⟨w3.heap.size, 8, none⟩ = some (.int .i64 ct) := HX_6.out.cell 8; have hx6_9 : w6.cell? ⟨w3.heap.size, 9, none⟩ = some (.slice A3 n3 c3) := HX_6.out.cell 9; have hy6_0 : w6.cell? ⟨w4.heap.size, 0, none⟩ = some (.int .i64 ba) := HY_6.out.cell 0; have hy6_1 : w6.cell? ⟨w4.heap.size, 1, none⟩ = some (.int .i64 la) := HY_6.out.cell 1; have hy6_2 : w6.cell? ⟨w4.heap.size, 2, none⟩ = some (.int .i64 fr) := HY_6.out.cell 2; have hy6_3 : w6.cell? ⟨w4.heap.size, 3, none⟩ = some (.int .i64 ep) := HY_6.out.cell 3; have hy6_4 : w6.cell? ⟨w4.heap.size, 4, none⟩ = some (.int .i64 pi) := HY_6.out.cell 4; have hy6_5 : w6.cell? ⟨w4.heap.size, 5, none⟩ = some (.int .i64 ge) := HY_6.out.cell 5; have hy6_6 : w6.cell? ⟨w4.heap.size, 6, none⟩ = some (.int .i64 se) := HY_6.out.cell 6; have hy6_7 : w6.cell? ⟨w4.heap.size, 7, none⟩ = some (.bool tx) := HY_6.out.cell 7; have hy6_8 : w6.cell? ⟨w4.heap.size, 8, none⟩ = some (.int .i64 ct) := HY_6.out.cell 8; have hy6_9 : w6.cell? ⟨w4.heap.size, 9, none⟩ = some (.slice A4 n4 c4) := HY_6.out.cell 9; clear hb)
    | (go_at_call 16; (with_reducible refine (refSameB_is ba la fr ep pi ge se tx ct rs A3 n3 c3 ba la fr ep pi ge se tx ct rs A4 n4 c4 _ HXR_6.out HYR_6.out hn3 hn4 (eqB_self _)).mono ?_); rintro e w7 ⟨rfl, hb⟩; have HW_7 := Lib.hid (bel_trans HW_6.out hb); have HS_7 := Lib.hid (HS_6.out.below hb); have HR_7 := Lib.hid (rdUp HR_6.out hb); have HT_7 := Lib.hid (HT_6.out.bel hb); have HV_7 := Lib.hid (rdeUp HV_6.out hb); have HX_7 := Lib.hid (HX_6.out.below hb); have HXR_7 := Lib.hid (rdrUp HXR_6.out hb); have HY_7 := Lib.hid (HY_6.out.below hb); have HYR_7 := Lib.hid (rdrUp HYR_6.out hb); clear hb))
  go_ret
  exact ⟨rfl, HW_7.out⟩
end Go.Proofs.YtbnkfljkojhkoaaGreatDoor.Idx

namespace Go.Proofs.YtbnkfljkojhkoaaGreatDoor.indexFinds
open Go.ChangeShapes Go.WideShapes Go.ChangeAt Go.RowKit

theorem own : ownKnob Tryz.prog.godebug = none := by kernel_rfl
theorem laidOut : laidOutB Tryz.prog = true := by kernel_rfl

set_option maxRecDepth 100000 in
theorem lifted (os : Os) (started : os.Started) (H : Type) (enc : TypeId × Value → H) :
    ReturnsInHanded {} Tryz.checked os 4 .any (fun w args => (Rows.indexFindsSpec.pre enc Tryz.prog Tryz.f4 [] false w args ∧ laidMetH Tryz.prog Crc.listed w) ∧ sizedMet enc Tryz.prog Tryz.f4 (OpenSpec.ofChange Rows.indexFindsSpec) false w args)
      (Rows.indexFindsSpec.post enc Tryz.prog Tryz.f4 false true false false) := by
  refine returnsInHanded_of_change_and (C := Tryz.checked) (X := fun w _ => laidMetH Tryz.prog Crc.listed w) (fun _ _ _ hh h => h.of_heap hh) own started (by kernel_rfl) Tryz.func4
    (ChangeSpec.witness_shaped (enc := enc) (C := Tryz.checked) (os := os) (X := fun w _ => laidMetH Tryz.prog Crc.listed w) false (World.doorLaid Tryz.prog 400 os) #[.agg #[.int .i64 0, .slice none 0 0], .slice none 0 0, .int .i64 0, .int .i64 0] 8 rfl (World.shaped_of_RefB (by kernel_rfl) (by kernel_rfl)) (by kernel_rfl) (by kernel_rfl) (by kernel_rfl) (Crc.door_met os _)) ?_
  intro W base args ds gs before hval0 hW _ hwt hL _
  have hval : ∀ (j : Nat) t v, Tryz.f4.params[j]? = some t → args[j]? = some v → Value.okWide Tryz.prog W .any base t v := hval0
  have hW' := hW
  obtain ⟨p, q, hA0, hV, rfl, hfz, hnd⟩ := hW
  have hA : DataW.TrodAll enc Tryz.prog W 0 (fun _ => true) true Tryz.f4.params.toList args.toList ds p := hA0
  rw [Tryz.params4] at hA hval
  obtain ⟨v0, vs0, d0, ds0, p0, q0, hargs, rfl, rfl, h0, r0⟩ := trodAll_cons hA
  obtain ⟨v1, vs1, d1, ds1, p1, q1, rfl, rfl, rfl, h1, r1⟩ := trodAll_cons r0
  obtain ⟨v2, vs2, d2, ds2, p2, q2, rfl, rfl, rfl, h2, r2⟩ := trodAll_cons r1
  obtain ⟨v3, vs3, d3, ds3, p3, q3, rfl, rfl, rfl, h3, r3⟩ := trodAll_cons r2
  obtain ⟨rfl, rfl, rfl⟩ := trodAll_nil r3
  obtain rfl : args = #[v0, v1, v2, v3] := by cases args; simp_all
  obtain ⟨rfl, rfl⟩ := trodVars_none hV
  have k0 := h0
  have lt0 : ∀ x ∈ p0, x.block < W.heap.size := by obtain ⟨m, hm⟩ := k0; exact DataW.trod_lt m _ _ _ hm
  obtain ⟨sb_0, A_0, n_0, c_0, l_0, rfl, hi_0, hc_0, hk_0, hR_0⟩ := Seg.open_seg (hval 0 24 v0 rfl rfl) h0 (Bat.weights_arg (j := 0) hwt (by kernel_rfl) rfl)
  have k1 := h1
  have lt1 : ∀ x ∈ p1, x.block < W.heap.size := by obtain ⟨m, hm⟩ := k1; exact DataW.trod_lt m _ _ _ hm
  obtain ⟨A_1, n_1, c_1, l_1, rfl, hc_1, hk_1, hR_1⟩ := Idx.open_ents (hval 1 25 v1 rfl rfl) h1 (Bat.weights_arg (j := 1) hwt (by kernel_rfl) rfl)
  have k2 := h2
  have lt2 : ∀ x ∈ p2, x.block < W.heap.size := by obtain ⟨m, hm⟩ := k2; exact DataW.trod_lt m _ _ _ hm
  obtain ⟨a2, rfl, hi2⟩ := Oct.open_i64 Tryz.underlying3 (hval 2 3 v2 rfl rfl) h2
  have k3 := h3
  have lt3 : ∀ x ∈ p3, x.block < W.heap.size := by obtain ⟨m, hm⟩ := k3; exact DataW.trod_lt m _ _ _ hm
  obtain ⟨a3, rfl, hi3⟩ := Oct.open_i64 Tryz.underlying3 (hval 3 3 v3 rfl rfl) h3
  clear hA0 hval0
  refine (Idx.indexFinds_walk sb_0 A_0 n_0 c_0 l_0 A_1 n_1 c_1 l_1 a2 a3 W hi_0 hc_0 hk_0 hR_0 hc_1 hk_1 hR_1 hi2 hi3 (Crc.tab_of_laid hL)).mono fun e W' ⟨he, bel⟩ => ?_
  subst he
  exact ⟨_, rfl, _, _, _, [], _, [], hW', trodAll_mk1 (shut_bool Tryz.underlying4 _), (trodAll_cons_mk (Below.trod laidOut (by kernel_rfl) (of_decide_eq_true (by kernel_rfl)) k0 bel lt0) (trodAll_cons_mk (Below.trod laidOut (by kernel_rfl) (of_decide_eq_true (by kernel_rfl)) k1 bel lt1) (trodAll_cons_mk (Below.trod laidOut (by kernel_rfl) (of_decide_eq_true (by kernel_rfl)) k2 bel lt2) (trodAll_cons_mk (Below.trod laidOut (by kernel_rfl) (of_decide_eq_true (by kernel_rfl)) k3 bel lt3) trodAll_mk0)))), rfl, bel.frame _, fun h => by cases h⟩

theorem over : Rows.indexFindsRow.holds Tryz.pinned (OpenSpec.ofChange Rows.indexFindsSpec) :=
  OpenClaim.holds_of_wide 4 Tryz.f4 rfl rfl rfl rfl rfl rfl rfl ⟨rfl, rfl, rfl, rfl, rfl⟩ rfl rfl rfl rfl rfl (by kernel_rfl) Tryz.func4 (by kernel_rfl)
    (of_decide_eq_true (by kernel_rfl)) (by unfold Func.isWrapper; first | (rw [if_pos (by decide +kernel)]; kernel_rfl) | (rw [if_neg (by decide +kernel)]; exact ⟨rfl, rfl⟩))
    (fun os started H enc _ => lifted os started H enc)

theorem proved : Rows.IndexFindsCardSaid :=
  Claim7.holds_tied_plain_at .later [] [.data] true (true, "c263e5c500ea0f572c87bfcf06de7d544928a2645dc822d5a30db36040d5144c") false
    over (fun _ h => by cases h) (by kernel_rfl) (fun _ h => by cases h) indexFinds_row_tie rfl ⟨rfl, rfl⟩ (by kernel_rfl) rfl
    (fun f fn hf hfn => by
      obtain rfl : f = 4 := Option.some.inj ((show Tryz.prog.funcNamed "watermeet/watermeetlaw08.IndexFinds" = some 4 by kernel_rfl).symm.trans hf) |>.symm
      obtain rfl : fn = Tryz.f4 := (Option.some.inj (Tryz.func4.symm.trans hfn)).symm
      exact ⟨by kernel_rfl, fun j t ht => by
        rw [Tryz.params4] at ht
        have hm : t ∈ [24, 25, 3, 3] := by simpa using Array.mem_of_getElem? ht
        have hall : ([24, 25, 3, 3].all fun u => !Tryz.prog.wantsStandIn u) = true := by kernel_rfl
        exact (show Tryz.prog.wantsStandIn t = false by simpa using List.all_eq_true.1 hall t hm)⟩)
    (by kernel_rfl)
#print axioms proved
end Go.Proofs.YtbnkfljkojhkoaaGreatDoor.indexFinds
