/- For every batch that may be, moved to other offsets: it keeps all else, and moved back it is what it was (the law answers true, and changes nothing that was there). Conditions: none but the table of crc's steps, tied to the program's text.
-/
import Derived.Test.YtodklilnmianeaaDoorJBatK
import Derived.Test.YtodklilnmianeaaDoorJBatA
import Derived.Deep.QuietTactic
import Derived.BigQuiet
import Derived.Test.YtodklilnmianeaaDoorRows
import Derived.WalkKit
import Derived.ProofKit
import Derived.OpenShut
import Derived.ChangeOld
import Derived.Below
import Derived.Carry
import Derived.Test.YtodklilnmianeaaDoorJOct
import Derived.Test.YtodklilnmianeaaDoorJCrc
import Derived.Test.YtodklilnmianeaaDoorTie
import Derived.Test.YtodklilnmianeaaDoorCards
import Derived.SevenTiedAt
/- The walk of BatchThere. -/
namespace Go.Proofs.YtodklilnmianeaaDoor.Bat
open Go.RowKit Go.Proofs.YtodklilnmianeaaDoor.Oct Go.Proofs.YtodklilnmianeaaDoor.Rec Go.Proofs.YtodklilnmianeaaDoor.Crc Go.Proofs.YtodklilnmianeaaDoor.Lay

def thRel (n : Nat) (w : World) (i : Value) (wr : World) : Prop := ∃ k : Nat, i = .int .i64 (k : Int) ∧ k ≤ n ∧ Below w.heap.size w wr
theorem mv_at {rs : List Rc} {d : Int} {k : Nat} {r : Rc} (h : (rs.map (mvR d))[k]? = some r) : ∃ s, rs[k]? = some s ∧ r = mvR d s := by
  rw [List.getElem?_map] at h
  obtain ⟨s, hs, rfl⟩ := Option.map_eq_some_iff.1 h
  exact ⟨s, hs, rfl⟩
set_option maxRecDepth 100000 in
set_option maxHeartbeats 2000000 in
theorem batchThere_walk (ba la fr ep pi ge se : Int) (tx : Bool) (ct : Int) (A : Option Addr) (n c : Nat) (rs : List Rc) (base : Int) (w : World) (hfn : FitN ⟨ba, la, fr, ep, pi, ge, se, tx, ct, rs⟩) (hnc : n ≤ c) (hcap : c ≤ reach) (hR : RdL w w.heap.size A n rs) (hb0 : I64 base) (ht : Tab w) :
    Calls Tryd.prog 11 #[.agg #[.int .i64 ba, .int .i64 la, .int .i64 fr, .int .i64 ep, .int .i64 pi, .int .i64 ge, .int .i64 se, .bool tx, .int .i64 ct, .slice A n c], .int .i64 base] w fun e w' => e = .returned (.bool true) ∧ Below w.heap.size w w' := by
  have HW1 := Lib.hid (bel_alloc (Below.refl w.heap.size w) (.cells #[.int .i64 ba, .int .i64 la, .int .i64 fr, .int .i64 ep, .int .i64 pi, .int .i64 ge, .int .i64 se, .bool tx, .int .i64 ct, .slice A n c] 24))
  have HB1 := Lib.hid (BR.new (b := ⟨ba, la, fr, ep, pi, ge, se, tx, ct, rs⟩) (c := c) 24 (RdL_recs hR))
  have HFIT := Lib.hid (RdL_fit hR)
  have HT1 := Lib.hid (ht.bel HW1.out)
  have hcr := Nat.le_trans hnc hcap
  rcases hz : fewT ⟨ba, la, fr, ep, pi, ge, se, tx, ct, rs⟩ with _ | _
  · have HZ := Lib.hid hz
    clear hz hfn hR ht
    go_enter Tryd.func11, Tryd.ntmps11
    go_wp2_with (first
      | (go_at_call 12; (with_reducible refine (live_any _ HT1.out).mono ?_); rintro e w2 ⟨rfl, hb2⟩; have HB2 := Lib.hid (HB1.out.below hb2); obtain ⟨y2_0, y2_1, y2_2, y2_3, y2_4, y2_5, y2_6, y2_7, y2_8, y2_9⟩ := HB2.out.box; have HT2 := Lib.hid (HT1.out.bel hb2); have HW2 := Lib.hid (bel_trans HW1.out hb2))
      | (go_at_call 13; (with_reducible refine (refFew_is ba la fr ep pi ge se tx ct rs A n c _ HB2.out.rd HFIT.out hcr HZ.out).mono ?_); rintro e w3 ⟨rfl, hb3⟩; have HB3 := Lib.hid (HB2.out.below hb3); obtain ⟨y3_0, y3_1, y3_2, y3_3, y3_4, y3_5, y3_6, y3_7, y3_8, y3_9⟩ := HB3.out.box; have HT3 := Lib.hid (HT2.out.bel hb3); have HW3 := Lib.hid (bel_trans HW2.out hb3)))
    go_ret
    exact ⟨rfl, HW3.out⟩
  have HZ := Lib.hid hz
  have hfw := fewT_iff hz
  simp only at hfw
  have HFITS := Lib.hid (fits_of hfn (RdL_fit hR) hz)
  have hlen := hR.len
  have hn40 : n ≤ 1099511627776 := by omega
  rcases hm : mvB ⟨ba, la, fr, ep, pi, ge, se, tx, ct, rs⟩ base with ⟨⟨ba1, la1, fr1, ep1, pi1, ge1, se1, tx1, ct1, rs1⟩, z⟩
  have HM := Lib.hid hm
  by_cases hz0 : z = 0
  case neg =>
    have e1 := mvB_bad hm hz0
    simp only [nilB, Bt.mk.injEq] at e1
    obtain ⟨rfl, rfl, rfl, rfl, rfl, rfl, rfl, rfl, rfl, rfl⟩ := e1
    have hz2 : (z != 0) = true := by simp [hz0]
    have hz3 : (z == 0) = false := beqF hz0
    clear hz hfn hR ht hfw hm hz0 hlen
    go_enter Tryd.func11, Tryd.ntmps11
    go_wp2_with (first
      | (go_at_call 12; (with_reducible refine (live_any _ HT1.out).mono ?_); rintro e w2 ⟨rfl, hb2⟩; have HB2 := Lib.hid (HB1.out.below hb2); obtain ⟨y2_0, y2_1, y2_2, y2_3, y2_4, y2_5, y2_6, y2_7, y2_8, y2_9⟩ := HB2.out.box; have HT2 := Lib.hid (HT1.out.bel hb2); have HW2 := Lib.hid (bel_trans HW1.out hb2))
      | (go_at_call 13; (with_reducible refine (refFew_is ba la fr ep pi ge se tx ct rs A n c _ HB2.out.rd HFIT.out hcr HZ.out).mono ?_); rintro e w3 ⟨rfl, hb3⟩; have HB3 := Lib.hid (HB2.out.below hb3); obtain ⟨y3_0, y3_1, y3_2, y3_3, y3_4, y3_5, y3_6, y3_7, y3_8, y3_9⟩ := HB3.out.box; have HT3 := Lib.hid (HT2.out.bel hb3); have HW3 := Lib.hid (bel_trans HW2.out hb3))
      | (go_at_call 26; (with_reducible refine (BMoved_is ba la fr ep pi ge se tx ct rs A n c base _ HFITS.out HB3.out.rd hnc hn40 hb0 HT3.out HM.out).mono ?_); rintro e w4 ⟨A5, n5, c5, rfl, hc5, ho5, hb4⟩; have HX5 := Lib.hid (BR.new (b := ⟨0, 0, 0, 0, 0, 0, 0, false, 0, []⟩) (c := c5) 24 ho5.rd); obtain ⟨x5_0, x5_1, x5_2, x5_3, x5_4, x5_5, x5_6, x5_7, x5_8, x5_9⟩ := HX5.out.box; have HB5 := Lib.hid ((HB3.out.below hb4).alloc (.cells #[.int .i64 0, .int .i64 0, .int .i64 0, .int .i64 0, .int .i64 0, .int .i64 0, .int .i64 0, .bool false, .int .i64 0, .slice A5 n5 c5] 24)); obtain ⟨z5_0, z5_1, z5_2, z5_3, z5_4, z5_5, z5_6, z5_7, z5_8, z5_9⟩ := HB5.out.box; have HT5 := Lib.hid ((HT3.out.bel hb4).alloc (.cells #[.int .i64 0, .int .i64 0, .int .i64 0, .int .i64 0, .int .i64 0, .int .i64 0, .int .i64 0, .bool false, .int .i64 0, .slice A5 n5 c5] 24)); have HW5 := Lib.hid (bel_alloc (bel_trans HW3.out hb4) (.cells #[.int .i64 0, .int .i64 0, .int .i64 0, .int .i64 0, .int .i64 0, .int .i64 0, .int .i64 0, .bool false, .int .i64 0, .slice A5 n5 c5] 24)); have hn5 : n5 = 0 := ho5.rd.len.symm; subst hn5)
      | (go_at_call 28; (with_reducible refine (BSame_is 0 0 0 0 0 0 0 false 0 [] A5 0 c5 0 0 0 0 0 0 0 false 0 [] none 0 0 _ HX5.out.rd RdR.nil (by omega) (by omega) (eqB_self _)).mono ?_); rintro e w6 ⟨rfl, hb6⟩))
    go_ret
    exact ⟨rfl, bel_trans HW5.out hb6⟩
  subst hz0
  obtain ⟨gx, gc, gc1, gb, gm⟩ := mvB_good hm
  unfold mvO at gx
  simp only [Bt.mk.injEq] at gx
  obtain ⟨e0, hla1, e2, e3, e4, e5, e6, e7, e8, hrs1⟩ := gx
  obtain rfl := e0.symm
  obtain rfl := e2.symm
  obtain rfl := e3.symm
  obtain rfl := e4.symm
  obtain rfl := e5.symm
  obtain rfl := e6.symm
  obtain rfl := e7.symm
  obtain rfl := e8.symm
  have F0 := (chB_form gc).1
  have F1 := (chB_form gc1).1
  have f0 := F0.base0
  have f1 := F0.base1
  have f2 := F0.last0
  have f3 := F0.last1
  have f4 := F1.last0
  have f5 := F1.last1
  have f6 := F1.base0
  have f7 := F1.base1
  simp only at f0 f1 f2 f3 f4 f5 f6 f7 gm
  have hl1 : rs1.length = n := by rw [hrs1, List.length_map, hlen]
  have HFITS1 := Lib.hid (form_fits F1)
  have HM2 := Lib.hid gm
  have HC1 := Lib.hid gc1
  have HRS1 := Lib.hid hrs1
  have HMAY1 := Lib.hid F1.mays
  have HBA := Lib.hid (show I64 ba by unfold I64; omega)
  have hne1 : ((la1 - base) != (la - ba)) = false := by rw [hla1]; simp; omega
  have HL1 := Lib.hid hl1
  clear hz hfn hR ht hfw hm gc gc1 gb gm F0 F1 hla1 hrs1 hlen hl1
  go_enter Tryd.func11, Tryd.ntmps11
  go_wp2_with (first
    | (go_at_call 12; (with_reducible refine (live_any _ HT1.out).mono ?_); rintro e w2 ⟨rfl, hb2⟩; have HB2 := Lib.hid (HB1.out.below hb2); obtain ⟨y2_0, y2_1, y2_2, y2_3, y2_4, y2_5, y2_6, y2_7, y2_8, y2_9⟩ := HB2.out.box; have HT2 := Lib.hid (HT1.out.bel hb2); have HW2 := Lib.hid (bel_trans HW1.out hb2))
    | (go_at_call 13; (with_reducible refine (refFew_is ba la fr ep pi ge se tx ct rs A n c _ HB2.out.rd HFIT.out hcr HZ.out).mono ?_); rintro e w3 ⟨rfl, hb3⟩; have HB3 := Lib.hid (HB2.out.below hb3); obtain ⟨y3_0, y3_1, y3_2, y3_3, y3_4, y3_5, y3_6, y3_7, y3_8, y3_9⟩ := HB3.out.box; have HT3 := Lib.hid (HT2.out.bel hb3); have HW3 := Lib.hid (bel_trans HW2.out hb3))
    | (go_at_call 26; (with_reducible refine (BMoved_is base la1 fr ep pi ge se tx ct rs1 A5 n c5 ba _ HFITS1.out HX5.out.rd hc5 hn40 HBA.out HT5.out HM2.out).mono ?_); rintro e w6 ⟨A7, n7, c7, rfl, hc7, ho7, hb6⟩; have HY7 := Lib.hid (BR.new (b := ⟨ba, la, fr, ep, pi, ge, se, tx, ct, rs⟩) (c := c7) 24 ho7.rd); obtain ⟨y7_0, y7_1, y7_2, y7_3, y7_4, y7_5, y7_6, y7_7, y7_8, y7_9⟩ := HY7.out.box; have HB7 := Lib.hid ((HB5.out.below hb6).alloc (.cells #[.int .i64 ba, .int .i64 la, .int .i64 fr, .int .i64 ep, .int .i64 pi, .int .i64 ge, .int .i64 se, .bool tx, .int .i64 ct, .slice A7 n7 c7] 24)); obtain ⟨z7_0, z7_1, z7_2, z7_3, z7_4, z7_5, z7_6, z7_7, z7_8, z7_9⟩ := HB7.out.box; have HX7 := Lib.hid ((HX5.out.below hb6).alloc (.cells #[.int .i64 ba, .int .i64 la, .int .i64 fr, .int .i64 ep, .int .i64 pi, .int .i64 ge, .int .i64 se, .bool tx, .int .i64 ct, .slice A7 n7 c7] 24)); obtain ⟨x7_0, x7_1, x7_2, x7_3, x7_4, x7_5, x7_6, x7_7, x7_8, x7_9⟩ := HX7.out.box; have HT7 := Lib.hid ((HT5.out.bel hb6).alloc (.cells #[.int .i64 ba, .int .i64 la, .int .i64 fr, .int .i64 ep, .int .i64 pi, .int .i64 ge, .int .i64 se, .bool tx, .int .i64 ct, .slice A7 n7 c7] 24)); have HW7 := Lib.hid (bel_alloc (bel_trans HW5.out hb6) (.cells #[.int .i64 ba, .int .i64 la, .int .i64 fr, .int .i64 ep, .int .i64 pi, .int .i64 ge, .int .i64 se, .bool tx, .int .i64 ct, .slice A7 n7 c7] 24)); have hn7 : n7 ≤ 1099511627776 := (by have h1 := ho7.rd.len; have h2 := HB3.out.rd.len; simp only at h2; omega))
    | (go_at_call 26; (with_reducible refine (BMoved_is ba la fr ep pi ge se tx ct rs A n c base _ HFITS.out HB3.out.rd hnc hn40 hb0 HT3.out HM.out).mono ?_); rintro e w4 ⟨A5, n5, c5, rfl, hc5, ho5, hb4⟩; have HX5 := Lib.hid (BR.new (b := ⟨base, la1, fr, ep, pi, ge, se, tx, ct, rs1⟩) (c := c5) 24 ho5.rd); obtain ⟨x5_0, x5_1, x5_2, x5_3, x5_4, x5_5, x5_6, x5_7, x5_8, x5_9⟩ := HX5.out.box; have HB5 := Lib.hid ((HB3.out.below hb4).alloc (.cells #[.int .i64 base, .int .i64 la1, .int .i64 fr, .int .i64 ep, .int .i64 pi, .int .i64 ge, .int .i64 se, .bool tx, .int .i64 ct, .slice A5 n5 c5] 24)); obtain ⟨z5_0, z5_1, z5_2, z5_3, z5_4, z5_5, z5_6, z5_7, z5_8, z5_9⟩ := HB5.out.box; have HT5 := Lib.hid ((HT3.out.bel hb4).alloc (.cells #[.int .i64 base, .int .i64 la1, .int .i64 fr, .int .i64 ep, .int .i64 pi, .int .i64 ge, .int .i64 se, .bool tx, .int .i64 ct, .slice A5 n5 c5] 24)); have HW5 := Lib.hid (bel_alloc (bel_trans HW3.out hb4) (.cells #[.int .i64 base, .int .i64 la1, .int .i64 fr, .int .i64 ep, .int .i64 pi, .int .i64 ge, .int .i64 se, .bool tx, .int .i64 ct, .slice A5 n5 c5] 24)); have hn5 : n = n5 := HL1.out.symm.trans ho5.rd.len; subst hn5)
    | (go_at_call 28; (with_reducible refine (BSame_is ba la fr ep pi ge se tx ct rs A7 n7 c7 ba la fr ep pi ge se tx ct rs A n c _ HY7.out.rd HB7.out.rd hn7 hn40 (eqB_self _)).mono ?_); rintro e w8 ⟨rfl, hb8⟩; have HB8 := Lib.hid (HB7.out.below hb8); obtain ⟨z8_0, z8_1, z8_2, z8_3, z8_4, z8_5, z8_6, z8_7, z8_8, z8_9⟩ := HB8.out.box; have HX8 := Lib.hid (HX7.out.below hb8); obtain ⟨x8_0, x8_1, x8_2, x8_3, x8_4, x8_5, x8_6, x8_7, x8_8, x8_9⟩ := HX8.out.box; have HT8 := Lib.hid (HT7.out.bel hb8); have HW8 := Lib.hid (bel_trans HW7.out hb8)))
  go_loopw [80] (fun i wr => thRel n w8 i wr) (fun i _ => n - (intOf i).toNat)
  case atStart => exact ⟨0, rfl, Nat.zero_le _, Below.refl _ _⟩
  case round =>
    obtain ⟨k, rfl, hk, hbr⟩ := hrel
    have HBR := Lib.hid (HB8.out.below hbr)
    have HXR := Lib.hid (HX8.out.below hbr)
    have HBL := Lib.hid hbr
    clear hbr
    by_cases hlt : k < n
    · obtain ⟨q0, q1, q2, q3, q4, q5, q6, q7, q8, q9⟩ := HBR.out.box
      have hlt1 := HBR.out.lt
      obtain ⟨b5, o5, r1, hA5, hlt5, hr1, hat1⟩ := HXR.out.rd.at hlt
      obtain ⟨b0, o0, r0, hA0, hlt0, hr0, hat0⟩ := HBR.out.rd.at hlt
      simp only at hr1 hr0
      have hmay := may_iff.1 (HMAY1.out r1 (List.mem_of_getElem? hr1))
      have hr1' := hr1
      rw [HRS1.out] at hr1'
      obtain ⟨s, hs, hrs⟩ := mv_at hr1'
      rw [hr0] at hs
      obtain rfl := Option.some.inj hs
      obtain ⟨ro, rk, rv, rd, rt⟩ := r0
      obtain ⟨so, sk, sv, sd, st⟩ := r1
      simp only [mvR, Rc.mk.injEq] at hrs
      obtain ⟨hso, rfl, rfl, rfl, rfl⟩ := hrs
      have hs1 := hmay.1.1
      have hs2 := hmay.1.2
      simp only at hs1 hs2
      obtain ⟨a0, a1, a2, a3, a4⟩ := hat1
      obtain ⟨c0', c1', c2', c3', c4'⟩ := hat0
      simp only at a0 a1 a2 a3 a4 c0' c1' c2' c3' c4'
      have hback : so + (ba - base) = ro := by omega
      have hA5' := Lib.hid hA5
      have hA0' := Lib.hid hA0
      subst hA5
      subst hA0
      have y1 : (0 : Int) ≤ (k : Int) := by omega
      have y2 : (k : Int) < (n : Int) := by omega
      clear hr1 hr0 hr1' hs hso hmay hA5' hA0'
      go_wp2
      go_quiet (fail)
      go_wp2
      go_roundw
      case rel => exact ⟨k + 1, by go_num, by omega, bel_drewN (HBL.out.alloc HBL.out.size _) _⟩
      case measure => simp [intOf]; omega
    · have hkn : k = n := by omega
      subst hkn
      obtain ⟨q0, q1, q2, q3, q4, q5, q6, q7, q8, q9⟩ := HXR.out.box
      have HTR := Lib.hid (HT8.out.bel HBL.out)
      go_wp2_with (go_at_call 14; (with_reducible refine (BCheck_is base la1 fr ep pi ge se tx ct rs1 A5 k c5 _ HFITS1.out HXR.out.rd hn40 HTR.out HC1.out).mono ?_); rintro e w9 ⟨rfl, hb9⟩)
      go_ret
      exact ⟨rfl, bel_trans (bel_trans HW8.out HBL.out) hb9⟩
end Go.Proofs.YtodklilnmianeaaDoor.Bat

namespace Go.Proofs.YtodklilnmianeaaDoor.batchThere
open Go.ChangeShapes Go.WideShapes Go.ChangeAt Go.RowKit

theorem own : ownKnob Tryd.prog.godebug = none := by kernel_rfl
theorem laidOut : laidOutB Tryd.prog = true := by kernel_rfl

set_option maxRecDepth 100000 in
theorem lifted (os : Os) (started : os.Started) (H : Type) (enc : TypeId × Value → H) :
    ReturnsInHanded {} Tryd.checked os 11 .any (fun w args => (Rows.batchThereSpec.pre enc Tryd.prog Tryd.f11 [] false w args ∧ laidMetH Tryd.prog Crc.listed w) ∧ sizedMet enc Tryd.prog Tryd.f11 (OpenSpec.ofChange Rows.batchThereSpec) false w args)
      (Rows.batchThereSpec.post enc Tryd.prog Tryd.f11 false true false false) := by
  refine returnsInHanded_of_change_and (C := Tryd.checked) (X := fun w _ => laidMetH Tryd.prog Crc.listed w) (fun _ _ _ hh h => h.of_heap hh) own started (by kernel_rfl) Tryd.func11
    (ChangeSpec.witness_shaped (enc := enc) (C := Tryd.checked) (os := os) (X := fun w _ => laidMetH Tryd.prog Crc.listed w) false (World.doorLaid Tryd.prog 400 os) #[.agg #[.int .i64 0, .int .i64 0, .int .i64 0, .int .i64 0, .int .i64 0, .int .i64 0, .int .i64 0, .bool false, .int .i64 0, .slice none 0 0], .int .i64 0] 8 rfl (World.shaped_of_RefB (by kernel_rfl) (by kernel_rfl)) (by kernel_rfl) (by kernel_rfl) (by kernel_rfl) (Crc.door_met os _)) ?_
  intro W base args ds gs before hval0 hW _ hwt hL _
  have hval : ∀ (j : Nat) t v, Tryd.f11.params[j]? = some t → args[j]? = some v → Value.okWide Tryd.prog W .any base t v := hval0
  have hW' := hW
  obtain ⟨p, q, hA0, hV, rfl, hfz, hnd⟩ := hW
  have hA : DataW.TrodAll enc Tryd.prog W 0 (fun _ => true) true Tryd.f11.params.toList args.toList ds p := hA0
  rw [Tryd.params11] at hA hval
  obtain ⟨v0, vs0, d0, ds0, p0, q0, hargs, rfl, rfl, h0, r0⟩ := trodAll_cons hA
  obtain ⟨v1, vs1, d1, ds1, p1, q1, rfl, rfl, rfl, h1, r1⟩ := trodAll_cons r0
  obtain ⟨rfl, rfl, rfl⟩ := trodAll_nil r1
  obtain rfl : args = #[v0, v1] := by cases args; simp_all
  obtain ⟨rfl, rfl⟩ := trodVars_none hV
  have k0 := h0
  have lt0 : ∀ x ∈ p0, x.block < W.heap.size := by obtain ⟨m, hm⟩ := k0; exact DataW.trod_lt m _ _ _ hm
  obtain ⟨ba_0, la_0, fr_0, ep_0, pi_0, ge_0, se_0, tx_0, ct_0, A_0, n_0, c_0, rs_0, rfl, hf_0, hc_0, hk_0, hR_0⟩ := Bat.open_batch (hval 0 24 v0 rfl rfl) h0 (Bat.weights_arg (j := 0) hwt (by kernel_rfl) rfl)
  have k1 := h1
  have lt1 : ∀ x ∈ p1, x.block < W.heap.size := by obtain ⟨m, hm⟩ := k1; exact DataW.trod_lt m _ _ _ hm
  obtain ⟨a1, rfl, hi1⟩ := Oct.open_i64 Tryd.underlying3 (hval 1 3 v1 rfl rfl) h1
  clear hA0 hval0
  refine (Bat.batchThere_walk ba_0 la_0 fr_0 ep_0 pi_0 ge_0 se_0 tx_0 ct_0 A_0 n_0 c_0 rs_0 a1 W hf_0 hc_0 hk_0 hR_0 hi1 (Crc.tab_of_laid hL)).mono fun e W' ⟨he, bel⟩ => ?_
  subst he
  exact ⟨_, rfl, _, _, _, [], _, [], hW', trodAll_mk1 (shut_bool Tryd.underlying4 _), (trodAll_cons_mk (Below.trod laidOut (by kernel_rfl) (of_decide_eq_true (by kernel_rfl)) k0 bel lt0) (trodAll_cons_mk (Below.trod laidOut (by kernel_rfl) (of_decide_eq_true (by kernel_rfl)) k1 bel lt1) trodAll_mk0)), rfl, bel.frame _, fun h => by cases h⟩

theorem over : Rows.batchThereRow.holds Tryd.pinned (OpenSpec.ofChange Rows.batchThereSpec) :=
  OpenClaim.holds_of_wide 11 Tryd.f11 rfl rfl rfl rfl rfl rfl rfl ⟨rfl, rfl, rfl, rfl, rfl⟩ rfl rfl rfl rfl rfl (by kernel_rfl) Tryd.func11 (by kernel_rfl)
    (of_decide_eq_true (by kernel_rfl)) (by unfold Func.isWrapper; first | (rw [if_pos (by decide +kernel)]; kernel_rfl) | (rw [if_neg (by decide +kernel)]; exact ⟨rfl, rfl⟩))
    (fun os started H enc _ => lifted os started H enc)

theorem proved : Rows.BatchThereCardSaid :=
  Claim7.holds_tied_plain_at .later [] [.data] true (true, "b2bb5b872d99db4528b8f9f391f1dc5ae62899eedab3193a28525a8a26d7af1c") false
    over (fun _ h => by cases h) (by kernel_rfl) (fun _ h => by cases h) batchThere_row_tie rfl ⟨rfl, rfl⟩ (by kernel_rfl) rfl
    (fun f fn hf hfn => by
      obtain rfl : f = 11 := Option.some.inj ((show Tryd.prog.funcNamed "watermeet/watermeetlaw04.BatchThere" = some 11 by kernel_rfl).symm.trans hf) |>.symm
      obtain rfl : fn = Tryd.f11 := (Option.some.inj (Tryd.func11.symm.trans hfn)).symm
      exact ⟨by kernel_rfl, fun j t ht => by
        rw [Tryd.params11] at ht
        have hm : t ∈ [24, 3] := by simpa using Array.mem_of_getElem? ht
        have hall : ([24, 3].all fun u => !Tryd.prog.wantsStandIn u) = true := by kernel_rfl
        exact (show Tryd.prog.wantsStandIn t = false by simpa using List.all_eq_true.1 hall t hm)⟩)
    (by kernel_rfl)
#print axioms proved
end Go.Proofs.YtodklilnmianeaaDoor.batchThere
