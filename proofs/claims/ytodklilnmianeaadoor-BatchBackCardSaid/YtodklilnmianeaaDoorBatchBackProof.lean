/- For every batch that may be, behind any bytes and ahead of any (at most 3,000 each): it is got from its place, and ends where the others begin (the law answers true, and changes nothing that was there). Conditions: none but the table of crc's steps, tied to the program's text.
-/
import Derived.Test.YtodklilnmianeaaDoorJBatK
import Derived.Test.YtodklilnmianeaaDoorJBatG
import Derived.Test.YtodklilnmianeaaDoorJOct
import Derived.Test.YtodklilnmianeaaDoorRows
import Derived.WalkKit
import Derived.ProofKit
import Derived.OpenShut
import Derived.ChangeOld
import Derived.Below
import Derived.Carry
import Derived.Test.YtodklilnmianeaaDoorJBatA
import Derived.Test.YtodklilnmianeaaDoorJCrc
import Derived.Test.YtodklilnmianeaaDoorTie
import Derived.Test.YtodklilnmianeaaDoorCards
import Derived.SevenTiedAt
/- The walk of BatchBack. -/
namespace Go.Proofs.YtodklilnmianeaaDoor.Bat
open Go.RowKit Go.Proofs.YtodklilnmianeaaDoor.Oct Go.Proofs.YtodklilnmianeaaDoor.Rec Go.Proofs.YtodklilnmianeaaDoor.Crc Go.Proofs.YtodklilnmianeaaDoor.Lay

set_option maxRecDepth 100000 in
set_option maxHeartbeats 1000000 in
theorem batchBack_walk (ba la fr ep pi ge se : Int) (tx : Bool) (ct : Int) (A : Option Addr) (n c : Nat) (rs : List Rc) (A1 : Option Addr) (n1 c1 : Nat) (l1 : List UInt8) (A2 : Option Addr) (n2 c2 : Nat) (l2 : List UInt8) (w : World) (hfn : FitN ⟨ba, la, fr, ep, pi, ge, se, tx, ct, rs⟩) (hnc : n ≤ c) (hcap : c ≤ reach) (hR : RdL w w.heap.size A n rs) (hr1 : Rd w w.heap.size A1 n1 l1) (_hc1 : n1 ≤ c1) (hr2 : Rd w w.heap.size A2 n2 l2) (_hc2 : n2 ≤ c2) (ht : Tab w) :
    Calls Tryd.prog 7 #[.agg #[.int .i64 ba, .int .i64 la, .int .i64 fr, .int .i64 ep, .int .i64 pi, .int .i64 ge, .int .i64 se, .bool tx, .int .i64 ct, .slice A n c], .slice A1 n1 c1, .slice A2 n2 c2] w fun e w' => e = .returned (.bool true) ∧ Below w.heap.size w w' := by
  have HW1 := Lib.hid (bel_alloc (Below.refl w.heap.size w) (.cells #[.int .i64 ba, .int .i64 la, .int .i64 fr, .int .i64 ep, .int .i64 pi, .int .i64 ge, .int .i64 se, .bool tx, .int .i64 ct, .slice A n c] 24))
  have HB1 := Lib.hid (BR.new (b := ⟨ba, la, fr, ep, pi, ge, se, tx, ct, rs⟩) (c := c) 24 (RdL_recs hR))
  have HFIT := Lib.hid (RdL_fit hR)
  have HT1 := Lib.hid (ht.bel HW1.out)
  have hcr := Nat.le_trans hnc hcap
  have hI := u8row
  have HR1 := Lib.hid hr1
  have HR2 := Lib.hid hr2
  rcases hz : fewT ⟨ba, la, fr, ep, pi, ge, se, tx, ct, rs⟩ with _ | _
  · have HZ := Lib.hid hz
    clear hz hfn hR ht hr1 hr2 hI
    go_enter Tryd.func7, Tryd.ntmps7
    go_wp2_with (first
      | (go_at_call 12; (with_reducible refine (live_any _ HT1.out).mono ?_); rintro e w2 ⟨rfl, hb2⟩; have HB2 := Lib.hid (HB1.out.below hb2); obtain ⟨y2_0, y2_1, y2_2, y2_3, y2_4, y2_5, y2_6, y2_7, y2_8, y2_9⟩ := HB2.out.box; have HT2 := Lib.hid (HT1.out.bel hb2); have HW2 := Lib.hid (bel_trans HW1.out hb2))
      | (go_at_call 13; (with_reducible refine (refFew_is ba la fr ep pi ge se tx ct rs A n c _ HB2.out.rd HFIT.out hcr HZ.out).mono ?_); rintro e w3 ⟨rfl, hb3⟩; have HB3 := Lib.hid (HB2.out.below hb3); obtain ⟨y3_0, y3_1, y3_2, y3_3, y3_4, y3_5, y3_6, y3_7, y3_8, y3_9⟩ := HB3.out.box; have HT3 := Lib.hid (HT2.out.bel hb3); have HW3 := Lib.hid (bel_trans HW2.out hb3)))
    go_ret
    exact ⟨rfl, HW3.out⟩
  have HZ := Lib.hid hz
  have hfw := fewT_iff hz
  simp only at hfw
  have HFITS := Lib.hid (fits_of hfn (RdL_fit hR) hz)
  have hn40 : n ≤ 1099511627776 := by have := hR.len; omega
  by_cases hg1 : 3000 < n1
  · clear hz hfn hR ht hr1 hr2 hI hfw
    go_enter Tryd.func7, Tryd.ntmps7
    go_wp2_with (first
      | (go_at_call 12; (with_reducible refine (live_any _ HT1.out).mono ?_); rintro e w2 ⟨rfl, hb2⟩; have HB2 := Lib.hid (HB1.out.below hb2); obtain ⟨y2_0, y2_1, y2_2, y2_3, y2_4, y2_5, y2_6, y2_7, y2_8, y2_9⟩ := HB2.out.box; have HT2 := Lib.hid (HT1.out.bel hb2); have HW2 := Lib.hid (bel_trans HW1.out hb2))
      | (go_at_call 13; (with_reducible refine (refFew_is ba la fr ep pi ge se tx ct rs A n c _ HB2.out.rd HFIT.out hcr HZ.out).mono ?_); rintro e w3 ⟨rfl, hb3⟩; have HB3 := Lib.hid (HB2.out.below hb3); obtain ⟨y3_0, y3_1, y3_2, y3_3, y3_4, y3_5, y3_6, y3_7, y3_8, y3_9⟩ := HB3.out.box; have HT3 := Lib.hid (HT2.out.bel hb3); have HW3 := Lib.hid (bel_trans HW2.out hb3)))
    go_ret
    exact ⟨rfl, HW3.out⟩
  by_cases hg2 : 3000 < n2
  · clear hz hfn hR ht hr1 hr2 hI hfw
    go_enter Tryd.func7, Tryd.ntmps7
    go_wp2_with (first
      | (go_at_call 12; (with_reducible refine (live_any _ HT1.out).mono ?_); rintro e w2 ⟨rfl, hb2⟩; have HB2 := Lib.hid (HB1.out.below hb2); obtain ⟨y2_0, y2_1, y2_2, y2_3, y2_4, y2_5, y2_6, y2_7, y2_8, y2_9⟩ := HB2.out.box; have HT2 := Lib.hid (HT1.out.bel hb2); have HW2 := Lib.hid (bel_trans HW1.out hb2))
      | (go_at_call 13; (with_reducible refine (refFew_is ba la fr ep pi ge se tx ct rs A n c _ HB2.out.rd HFIT.out hcr HZ.out).mono ?_); rintro e w3 ⟨rfl, hb3⟩; have HB3 := Lib.hid (HB2.out.below hb3); obtain ⟨y3_0, y3_1, y3_2, y3_3, y3_4, y3_5, y3_6, y3_7, y3_8, y3_9⟩ := HB3.out.box; have HT3 := Lib.hid (HT2.out.bel hb3); have HW3 := Lib.hid (bel_trans HW2.out hb3)))
    go_ret
    exact ⟨rfl, HW3.out⟩
  by_cases hc0 : chB ⟨ba, la, fr, ep, pi, ge, se, tx, ct, rs⟩ = 0
  case neg =>
    obtain ⟨z, hp⟩ : ∃ z, chB ⟨ba, la, fr, ep, pi, ge, se, tx, ct, rs⟩ = z := ⟨_, rfl⟩
    have hz0 : z ≠ 0 := by rw [← hp]; exact hc0
    have hzF : (z == 0) = false := beqF hz0
    have hzN : (z != 0) = true := by simp [hz0]
    have hzz : (z == z) = true := by simp
    have HC := Lib.hid hp
    have HP := Lib.hid (show ptB ⟨ba, la, fr, ep, pi, ge, se, tx, ct, rs⟩ = ([], z) by unfold ptB; rw [if_neg hc0, hp])
    clear hz hfn hR ht hr1 hr2 hI hfw hp hz0 hc0
    go_enter Tryd.func7, Tryd.ntmps7
    go_wp2_with (first
      | (go_at_call 12; (with_reducible refine (live_any _ HT1.out).mono ?_); rintro e w2 ⟨rfl, hb2⟩; have HB2 := Lib.hid (HB1.out.below hb2); obtain ⟨y2_0, y2_1, y2_2, y2_3, y2_4, y2_5, y2_6, y2_7, y2_8, y2_9⟩ := HB2.out.box; have HT2 := Lib.hid (HT1.out.bel hb2); have HW2 := Lib.hid (bel_trans HW1.out hb2))
      | (go_at_call 13; (with_reducible refine (refFew_is ba la fr ep pi ge se tx ct rs A n c _ HB2.out.rd HFIT.out hcr HZ.out).mono ?_); rintro e w3 ⟨rfl, hb3⟩; have HB3 := Lib.hid (HB2.out.below hb3); obtain ⟨y3_0, y3_1, y3_2, y3_3, y3_4, y3_5, y3_6, y3_7, y3_8, y3_9⟩ := HB3.out.box; have HT3 := Lib.hid (HT2.out.bel hb3); have HW3 := Lib.hid (bel_trans HW2.out hb3))
      | (go_at_call 18; (with_reducible refine (BPut_is ba la fr ep pi ge se tx ct rs A n c _ HFITS.out HB3.out.rd hn40 HT3.out HP.out).mono ?_); rintro e w4 ⟨PA4, pn4, pc4, rfl, po4, hb4⟩; have HB4 := Lib.hid (HB3.out.below hb4); obtain ⟨y4_0, y4_1, y4_2, y4_3, y4_4, y4_5, y4_6, y4_7, y4_8, y4_9⟩ := HB4.out.box; have HT4 := Lib.hid (HT3.out.bel hb4); have HW4 := Lib.hid (bel_trans HW3.out hb4); have hl4 := po4.len; have hl4' : pn4 = 0 := hl4.symm; subst hl4'; have PO4 := Lib.hid po4; clear po4 hl4)
      | (go_at_call 14; (with_reducible refine (BCheck_is ba la fr ep pi ge se tx ct rs A n c _ HFITS.out HB4.out.rd hn40 HT4.out HC.out).mono ?_); rintro e w5 ⟨rfl, hb5⟩; have HB5 := Lib.hid (HB4.out.below hb5); obtain ⟨y5_0, y5_1, y5_2, y5_3, y5_4, y5_5, y5_6, y5_7, y5_8, y5_9⟩ := HB5.out.box; have HT5 := Lib.hid (HT4.out.bel hb5); have HW5 := Lib.hid (bel_trans HW4.out hb5)))
    go_ret
    exact ⟨rfl, HW5.out⟩
  have hle := (chB_form hc0).2
  obtain ⟨l, hl⟩ : ∃ l, l = byB ⟨ba, la, fr, ep, pi, ge, se, tx, ct, rs⟩ := ⟨_, rfl⟩
  have HP := Lib.hid (show ptB ⟨ba, la, fr, ep, pi, ge, se, tx, ct, rs⟩ = (l, 0) by unfold ptB; rw [if_pos hc0, hl])
  have HS := Lib.hid (show szB ⟨ba, la, fr, ep, pi, ge, se, tx, ct, rs⟩ = (l.length : Int) by unfold szB; rw [if_pos hc0, hl])
  have HG := Lib.hid (show grB (l1 ++ l ++ l2) (n1 : Int) = (⟨ba, la, fr, ep, pi, ge, se, tx, ct, rs⟩, (n1 : Int) + (l.length : Int), 0) by
    have h := grB_at hc0 l1 l2
    rw [hr1.len, ← hl] at h
    exact h)
  rw [← hl] at hle
  have hle2 : (l.length : Int) ≤ 2048 := by omega
  clear hz hfn hR ht hr1 hr2 hfw hc0 hl
  go_enter Tryd.func7, Tryd.ntmps7
  go_wp2_with (first
    | (go_at_call 12; (with_reducible refine (live_any _ HT1.out).mono ?_); rintro e w2 ⟨rfl, hb2⟩; have HB2 := Lib.hid (HB1.out.below hb2); obtain ⟨y2_0, y2_1, y2_2, y2_3, y2_4, y2_5, y2_6, y2_7, y2_8, y2_9⟩ := HB2.out.box; have HT2 := Lib.hid (HT1.out.bel hb2); have HW2 := Lib.hid (bel_trans HW1.out hb2))
    | (go_at_call 13; (with_reducible refine (refFew_is ba la fr ep pi ge se tx ct rs A n c _ HB2.out.rd HFIT.out hcr HZ.out).mono ?_); rintro e w3 ⟨rfl, hb3⟩; have HB3 := Lib.hid (HB2.out.below hb3); obtain ⟨y3_0, y3_1, y3_2, y3_3, y3_4, y3_5, y3_6, y3_7, y3_8, y3_9⟩ := HB3.out.box; have HT3 := Lib.hid (HT2.out.bel hb3); have HW3 := Lib.hid (bel_trans HW2.out hb3))
    | (go_at_call 18; (with_reducible refine (BPut_is ba la fr ep pi ge se tx ct rs A n c _ HFITS.out HB3.out.rd hn40 HT3.out HP.out).mono ?_); rintro e w4 ⟨PA4, pn4, pc4, rfl, po4, hb4⟩; have HB4 := Lib.hid (HB3.out.below hb4); obtain ⟨y4_0, y4_1, y4_2, y4_3, y4_4, y4_5, y4_6, y4_7, y4_8, y4_9⟩ := HB4.out.box; have HT4 := Lib.hid (HT3.out.bel hb4); have HW4 := Lib.hid (bel_trans HW3.out hb4); have hl4 := po4.len; have hl4' : pn4 = l.length := hl4.symm; subst hl4'; have PO4 := Lib.hid po4; clear po4 hl4)
    | (go_at_call 21; (with_reducible refine (Copy_any A1 n1 c1 l1 _ _ (HR1.out.below HW4.out (Nat.le_refl _)) (by omega)).mono ?_); rintro e w5 ⟨A5, n5, c5, rfl, hown5, hb5⟩; have hn5 : n5 = n1 := hown5.len.symm.trans HR1.out.len; subst hn5; have HO5 := Lib.hid hown5; clear hown5)
    | (at_builtin; refine wpList_appB w6 rfl _ _ 30 rfl w4.heap.size 5 Tryd.underlying30 hI _ (n5 + l.length) _ rfl HO6.out _ A2 n2 c2 l2 rfl (HR2.out.below (bel_trans HW4.out hb56) (Nat.le_refl _)) (by omega) hb56.size ?_; intro A7 c7 w7 hown7 hb7; have hb47 := hb56.trans hb7; have HO7 := Lib.hid hown7; clear hown7; have HB7 := Lib.hid (HB4.out.below hb47); have HT7 := Lib.hid (HT4.out.bel hb47); have HW7 := Lib.hid (bel_trans HW4.out hb47))
    | (at_builtin; refine wpList_appB w5 rfl _ _ 30 rfl w4.heap.size 5 Tryd.underlying30 hI _ n5 _ rfl HO5.out _ PA4 l.length pc4 l rfl (PO4.out.rd.below hb5 (Nat.le_refl _)) (by omega) hb5.size ?_; intro A6 c6 w6 hown6 hb6; have hb56 := hb5.trans hb6; have HO6 := Lib.hid hown6; clear hown6)
    | (go_at_call 22; (with_reducible refine (BGet_is A7 (n5 + l.length + n2) c7 _ _ _ _ HO7.out.rd (Nat.le_refl _) HO7.out.cap (by omega) (by unfold I64; omega) HT7.out HG.out).mono ?_); rintro e w8 ⟨A8, n8, c8, rfl, hc8, ho8, hb8⟩; have HY9 := Lib.hid (BR.new (b := ⟨ba, la, fr, ep, pi, ge, se, tx, ct, rs⟩) (c := c8) 24 ho8.rd); have HB9 := Lib.hid ((HB7.out.below hb8).alloc (.cells #[.int .i64 ba, .int .i64 la, .int .i64 fr, .int .i64 ep, .int .i64 pi, .int .i64 ge, .int .i64 se, .bool tx, .int .i64 ct, .slice A8 n8 c8] 24)); obtain ⟨z9_0, z9_1, z9_2, z9_3, z9_4, z9_5, z9_6, z9_7, z9_8, z9_9⟩ := HB9.out.box; obtain ⟨y9_0, y9_1, y9_2, y9_3, y9_4, y9_5, y9_6, y9_7, y9_8, y9_9⟩ := HY9.out.box; have HT9 := Lib.hid ((HT7.out.bel hb8).alloc (.cells #[.int .i64 ba, .int .i64 la, .int .i64 fr, .int .i64 ep, .int .i64 pi, .int .i64 ge, .int .i64 se, .bool tx, .int .i64 ct, .slice A8 n8 c8] 24)); have HW9 := Lib.hid (bel_alloc (bel_trans HW7.out hb8) (.cells #[.int .i64 ba, .int .i64 la, .int .i64 fr, .int .i64 ep, .int .i64 pi, .int .i64 ge, .int .i64 se, .bool tx, .int .i64 ct, .slice A8 n8 c8] 24)); have hn8 : n8 ≤ 1099511627776 := (by have h1 := ho8.rd.len; have h2 := HB4.out.rd.len; simp only at h2; omega); have hsum : ((n5 : Int) + (l.length : Int) == (n5 : Int) + (l.length : Int)) = true := (by simp))
    | (go_at_call 28; (with_reducible refine (BSame_is ba la fr ep pi ge se tx ct rs A8 n8 c8 ba la fr ep pi ge se tx ct rs A n c _ HY9.out.rd HB9.out.rd hn8 hn40 (eqB_self _)).mono ?_); rintro e w10 ⟨rfl, hb10⟩; have HB10 := Lib.hid (HB9.out.below hb10); obtain ⟨y10_0, y10_1, y10_2, y10_3, y10_4, y10_5, y10_6, y10_7, y10_8, y10_9⟩ := HB10.out.box; have HT10 := Lib.hid (HT9.out.bel hb10); have HW10 := Lib.hid (bel_trans HW9.out hb10))
    | (go_at_call 16; (with_reducible refine (BSize_is ba la fr ep pi ge se tx ct rs A n c _ HFITS.out HB10.out.rd hn40 HT10.out HS.out).mono ?_); rintro e w11 ⟨rfl, hb11⟩; have HB11 := Lib.hid (HB10.out.below hb11); obtain ⟨y11_0, y11_1, y11_2, y11_3, y11_4, y11_5, y11_6, y11_7, y11_8, y11_9⟩ := HB11.out.box; have HT11 := Lib.hid (HT10.out.bel hb11); have HW11 := Lib.hid (bel_trans HW10.out hb11)))
  go_ret
  exact ⟨rfl, HW11.out⟩
end Go.Proofs.YtodklilnmianeaaDoor.Bat

namespace Go.Proofs.YtodklilnmianeaaDoor.batchBack
open Go.ChangeShapes Go.WideShapes Go.ChangeAt Go.RowKit

theorem own : ownKnob Tryd.prog.godebug = none := by kernel_rfl
theorem laidOut : laidOutB Tryd.prog = true := by kernel_rfl

set_option maxRecDepth 100000 in
theorem lifted (os : Os) (started : os.Started) (H : Type) (enc : TypeId × Value → H) :
    ReturnsInHanded {} Tryd.checked os 7 .any (fun w args => (Rows.batchBackSpec.pre enc Tryd.prog Tryd.f7 [] false w args ∧ laidMetH Tryd.prog Crc.listed w) ∧ sizedMet enc Tryd.prog Tryd.f7 (OpenSpec.ofChange Rows.batchBackSpec) false w args)
      (Rows.batchBackSpec.post enc Tryd.prog Tryd.f7 false true false false) := by
  refine returnsInHanded_of_change_and (C := Tryd.checked) (X := fun w _ => laidMetH Tryd.prog Crc.listed w) (fun _ _ _ hh h => h.of_heap hh) own started (by kernel_rfl) Tryd.func7
    (ChangeSpec.witness_shaped (enc := enc) (C := Tryd.checked) (os := os) (X := fun w _ => laidMetH Tryd.prog Crc.listed w) false (World.doorLaid Tryd.prog 400 os) #[.agg #[.int .i64 0, .int .i64 0, .int .i64 0, .int .i64 0, .int .i64 0, .int .i64 0, .int .i64 0, .bool false, .int .i64 0, .slice none 0 0], .slice none 0 0, .slice none 0 0] 8 rfl (World.shaped_of_RefB (by kernel_rfl) (by kernel_rfl)) (by kernel_rfl) (by kernel_rfl) (by kernel_rfl) (Crc.door_met os _)) ?_
  intro W base args ds gs before hval0 hW _ hwt hL _
  have hval : ∀ (j : Nat) t v, Tryd.f7.params[j]? = some t → args[j]? = some v → Value.okWide Tryd.prog W .any base t v := hval0
  have hW' := hW
  obtain ⟨p, q, hA0, hV, rfl, hfz, hnd⟩ := hW
  have hA : DataW.TrodAll enc Tryd.prog W 0 (fun _ => true) true Tryd.f7.params.toList args.toList ds p := hA0
  rw [Tryd.params7] at hA hval
  obtain ⟨v0, vs0, d0, ds0, p0, q0, hargs, rfl, rfl, h0, r0⟩ := trodAll_cons hA
  obtain ⟨v1, vs1, d1, ds1, p1, q1, rfl, rfl, rfl, h1, r1⟩ := trodAll_cons r0
  obtain ⟨v2, vs2, d2, ds2, p2, q2, rfl, rfl, rfl, h2, r2⟩ := trodAll_cons r1
  obtain ⟨rfl, rfl, rfl⟩ := trodAll_nil r2
  obtain rfl : args = #[v0, v1, v2] := by cases args; simp_all
  obtain ⟨rfl, rfl⟩ := trodVars_none hV
  have k0 := h0
  have lt0 : ∀ x ∈ p0, x.block < W.heap.size := by obtain ⟨m, hm⟩ := k0; exact DataW.trod_lt m _ _ _ hm
  obtain ⟨ba_0, la_0, fr_0, ep_0, pi_0, ge_0, se_0, tx_0, ct_0, A_0, n_0, c_0, rs_0, rfl, hf_0, hc_0, hk_0, hR_0⟩ := Bat.open_batch (hval 0 24 v0 rfl rfl) h0 (Bat.weights_arg (j := 0) hwt (by kernel_rfl) rfl)
  have k1 := h1
  have lt1 : ∀ x ∈ p1, x.block < W.heap.size := by obtain ⟨m, hm⟩ := k1; exact DataW.trod_lt m _ _ _ hm
  obtain ⟨a1, len1, cap1, l1, rfl, rd1, cp1⟩ := Oct.open_bytes Tryd.underlying30 Tryd.underlying5 (by kernel_rfl) (hval 1 30 v1 rfl rfl) h1
  have k2 := h2
  have lt2 : ∀ x ∈ p2, x.block < W.heap.size := by obtain ⟨m, hm⟩ := k2; exact DataW.trod_lt m _ _ _ hm
  obtain ⟨a2, len2, cap2, l2, rfl, rd2, cp2⟩ := Oct.open_bytes Tryd.underlying30 Tryd.underlying5 (by kernel_rfl) (hval 2 30 v2 rfl rfl) h2
  clear hA0 hval0
  refine (Bat.batchBack_walk ba_0 la_0 fr_0 ep_0 pi_0 ge_0 se_0 tx_0 ct_0 A_0 n_0 c_0 rs_0 a1 len1 cap1 l1 a2 len2 cap2 l2 W hf_0 hc_0 hk_0 hR_0 rd1 cp1 rd2 cp2 (Crc.tab_of_laid hL)).mono fun e W' ⟨he, bel⟩ => ?_
  subst he
  exact ⟨_, rfl, _, _, _, [], _, [], hW', trodAll_mk1 (shut_bool Tryd.underlying4 _), (trodAll_cons_mk (Below.trod laidOut (by kernel_rfl) (of_decide_eq_true (by kernel_rfl)) k0 bel lt0) (trodAll_cons_mk (Below.trod laidOut (by kernel_rfl) (of_decide_eq_true (by kernel_rfl)) k1 bel lt1) (trodAll_cons_mk (Below.trod laidOut (by kernel_rfl) (of_decide_eq_true (by kernel_rfl)) k2 bel lt2) trodAll_mk0))), rfl, bel.frame _, fun h => by cases h⟩

theorem over : Rows.batchBackRow.holds Tryd.pinned (OpenSpec.ofChange Rows.batchBackSpec) :=
  OpenClaim.holds_of_wide 7 Tryd.f7 rfl rfl rfl rfl rfl rfl rfl ⟨rfl, rfl, rfl, rfl, rfl⟩ rfl rfl rfl rfl rfl (by kernel_rfl) Tryd.func7 (by kernel_rfl)
    (of_decide_eq_true (by kernel_rfl)) (by unfold Func.isWrapper; first | (rw [if_pos (by decide +kernel)]; kernel_rfl) | (rw [if_neg (by decide +kernel)]; exact ⟨rfl, rfl⟩))
    (fun os started H enc _ => lifted os started H enc)

theorem proved : Rows.BatchBackCardSaid :=
  Claim7.holds_tied_plain_at .later [] [.data] true (true, "b2bb5b872d99db4528b8f9f391f1dc5ae62899eedab3193a28525a8a26d7af1c") false
    over (fun _ h => by cases h) (by kernel_rfl) (fun _ h => by cases h) batchBack_row_tie rfl ⟨rfl, rfl⟩ (by kernel_rfl) rfl
    (fun f fn hf hfn => by
      obtain rfl : f = 7 := Option.some.inj ((show Tryd.prog.funcNamed "watermeet/watermeetlaw04.BatchBack" = some 7 by kernel_rfl).symm.trans hf) |>.symm
      obtain rfl : fn = Tryd.f7 := (Option.some.inj (Tryd.func7.symm.trans hfn)).symm
      exact ⟨by kernel_rfl, fun j t ht => by
        rw [Tryd.params7] at ht
        have hm : t ∈ [24, 30, 30] := by simpa using Array.mem_of_getElem? ht
        have hall : ([24, 30, 30].all fun u => !Tryd.prog.wantsStandIn u) = true := by kernel_rfl
        exact (show Tryd.prog.wantsStandIn t = false by simpa using List.all_eq_true.1 hall t hm)⟩)
    (by kernel_rfl)
#print axioms proved
end Go.Proofs.YtodklilnmianeaaDoor.batchBack
