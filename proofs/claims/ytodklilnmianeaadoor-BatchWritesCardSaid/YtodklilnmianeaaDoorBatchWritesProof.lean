/- For every batch (of at most 100 records with at most 20,000 bytes of text): its bytes, or why it has none, are what the document's own answer says (the law answers true, and changes nothing that was there). Conditions: none but the table of crc's steps, tied to the program's text.
-/
import Derived.Test.YtodklilnmianeaaDoorJBatK
import Derived.Test.YtodklilnmianeaaDoorJBatR
import Derived.Test.YtodklilnmianeaaDoorJOct
import Derived.Test.YtodklilnmianeaaDoorRows
import Derived.WalkKit
import Derived.ProofKit
import Derived.OpenShut
import Derived.ChangeOld
import Derived.Below
import Derived.Carry
import Derived.Test.YtodklilnmianeaaDoorJBatA
import Derived.Test.YtodklilnmianeaaDoorJCrc
import Derived.Test.YtodklilnmianeaaDoorTie
import Derived.Test.YtodklilnmianeaaDoorCards
import Derived.SevenTiedAt
/- The walk of BatchWrites. -/
namespace Go.Proofs.YtodklilnmianeaaDoor.Bat
open Go.RowKit Go.Proofs.YtodklilnmianeaaDoor.Oct Go.Proofs.YtodklilnmianeaaDoor.Rec Go.Proofs.YtodklilnmianeaaDoor.Crc Go.Proofs.YtodklilnmianeaaDoor.Lay

theorem refPutB_is (ba la fr ep pi ge se : Int) (tx : Bool) (ct : Int) (rs : List Rc) (A : Option Addr) (n c : Nat) (w : World) (hf : Fits ⟨ba, la, fr, ep, pi, ge, se, tx, ct, rs⟩) (hr : RdR w w.heap.size A n rs) (hn : n ≤ 1099511627776) {l : List UInt8} {z : Int} (h : ptB ⟨ba, la, fr, ep, pi, ge, se, tx, ct, rs⟩ = (l, z)) :
    Calls Tryd.prog 19 #[.agg #[.int .i64 ba, .int .i64 la, .int .i64 fr, .int .i64 ep, .int .i64 pi, .int .i64 ge, .int .i64 se, .bool tx, .int .i64 ct, .slice A n c]] w (OPr 5 w.heap.size w l z) := by
  have h1 := refBPut ba la fr ep pi ge se tx ct rs A n c w hf.ctl hr (fun r hr => (hf.recs r hr).2.2) hn
  rw [h] at h1
  exact h1
set_option maxRecDepth 100000 in
set_option maxHeartbeats 1000000 in
theorem batchWrites_walk (ba la fr ep pi ge se : Int) (tx : Bool) (ct : Int) (A : Option Addr) (n c : Nat) (rs : List Rc) (w : World) (hfn : FitN ⟨ba, la, fr, ep, pi, ge, se, tx, ct, rs⟩) (hnc : n ≤ c) (hcap : c ≤ reach) (hR : RdL w w.heap.size A n rs) (ht : Tab w) :
    Calls Tryd.prog 4 #[.agg #[.int .i64 ba, .int .i64 la, .int .i64 fr, .int .i64 ep, .int .i64 pi, .int .i64 ge, .int .i64 se, .bool tx, .int .i64 ct, .slice A n c]] w fun e w' => e = .returned (.bool true) ∧ Below w.heap.size w w' := by
  have HW1 := Lib.hid (bel_alloc (Below.refl w.heap.size w) (.cells #[.int .i64 ba, .int .i64 la, .int .i64 fr, .int .i64 ep, .int .i64 pi, .int .i64 ge, .int .i64 se, .bool tx, .int .i64 ct, .slice A n c] 24))
  have HB1 := Lib.hid (BR.new (b := ⟨ba, la, fr, ep, pi, ge, se, tx, ct, rs⟩) (c := c) 24 (RdL_recs hR))
  have HFIT := Lib.hid (RdL_fit hR)
  have HT1 := Lib.hid (ht.bel HW1.out)
  have hcr := Nat.le_trans hnc hcap
  rcases hz : fewT ⟨ba, la, fr, ep, pi, ge, se, tx, ct, rs⟩ with _ | _
  · have HZ := Lib.hid hz
    clear hz hfn hR ht
    go_enter Tryd.func4, Tryd.ntmps4
    go_wp2_with (first
      | (go_at_call 12; (with_reducible refine (live_any _ HT1.out).mono ?_); rintro e w2 ⟨rfl, hb2⟩; have HB2 := Lib.hid (HB1.out.below hb2); obtain ⟨y2_0, y2_1, y2_2, y2_3, y2_4, y2_5, y2_6, y2_7, y2_8, y2_9⟩ := HB2.out.box; have HT2 := Lib.hid (HT1.out.bel hb2); have HW2 := Lib.hid (bel_trans HW1.out hb2))
      | (go_at_call 13; (with_reducible refine (refFew_is ba la fr ep pi ge se tx ct rs A n c _ HB2.out.rd HFIT.out hcr HZ.out).mono ?_); rintro e w3 ⟨rfl, hb3⟩; have HB3 := Lib.hid (HB2.out.below hb3); obtain ⟨y3_0, y3_1, y3_2, y3_3, y3_4, y3_5, y3_6, y3_7, y3_8, y3_9⟩ := HB3.out.box; have HT3 := Lib.hid (HT2.out.bel hb3); have HW3 := Lib.hid (bel_trans HW2.out hb3)))
    go_ret
    exact ⟨rfl, HW3.out⟩
  · have HZ := Lib.hid hz
    have hfw := fewT_iff hz
    simp only at hfw
    have HFITS := Lib.hid (fits_of hfn (RdL_fit hR) hz)
    have hn40 : n ≤ 1099511627776 := by have := hR.len; omega
    obtain ⟨l, z, hp⟩ : ∃ l z, ptB ⟨ba, la, fr, ep, pi, ge, se, tx, ct, rs⟩ = (l, z) := ⟨_, _, rfl⟩
    have HP := Lib.hid hp
    have hzz : (z == z) = true := by simp
    have hss := sameB_self l
    clear hz hfn hR ht hp hfw
    go_enter Tryd.func4, Tryd.ntmps4
    go_wp2_with (first
      | (go_at_call 12; (with_reducible refine (live_any _ HT1.out).mono ?_); rintro e w2 ⟨rfl, hb2⟩; have HB2 := Lib.hid (HB1.out.below hb2); obtain ⟨y2_0, y2_1, y2_2, y2_3, y2_4, y2_5, y2_6, y2_7, y2_8, y2_9⟩ := HB2.out.box; have HT2 := Lib.hid (HT1.out.bel hb2); have HW2 := Lib.hid (bel_trans HW1.out hb2))
      | (go_at_call 13; (with_reducible refine (refFew_is ba la fr ep pi ge se tx ct rs A n c _ HB2.out.rd HFIT.out hcr HZ.out).mono ?_); rintro e w3 ⟨rfl, hb3⟩; have HB3 := Lib.hid (HB2.out.below hb3); obtain ⟨y3_0, y3_1, y3_2, y3_3, y3_4, y3_5, y3_6, y3_7, y3_8, y3_9⟩ := HB3.out.box; have HT3 := Lib.hid (HT2.out.bel hb3); have HW3 := Lib.hid (bel_trans HW2.out hb3))
      | (go_at_call 18; (with_reducible refine (BPut_is ba la fr ep pi ge se tx ct rs A n c _ HFITS.out HB3.out.rd hn40 HT3.out HP.out).mono ?_); rintro e w4 ⟨PA4, pn4, pc4, rfl, po4, hb4⟩; have HB4 := Lib.hid (HB3.out.below hb4); obtain ⟨y4_0, y4_1, y4_2, y4_3, y4_4, y4_5, y4_6, y4_7, y4_8, y4_9⟩ := HB4.out.box; have HT4 := Lib.hid (HT3.out.bel hb4); have HW4 := Lib.hid (bel_trans HW3.out hb4); have PO4 := Lib.hid po4; clear po4)
      | (go_at_call 19; (with_reducible refine (refPutB_is ba la fr ep pi ge se tx ct rs A n c _ HFITS.out HB4.out.rd hn40 HP.out).mono ?_); rintro e w5 ⟨PA5, pn5, pc5, rfl, po5, hb5⟩; have HB5 := Lib.hid (HB4.out.below hb5); obtain ⟨y5_0, y5_1, y5_2, y5_3, y5_4, y5_5, y5_6, y5_7, y5_8, y5_9⟩ := HB5.out.box; have HT5 := Lib.hid (HT4.out.bel hb5); have HW5 := Lib.hid (bel_trans HW4.out hb5); have PO5 := Lib.hid po5; clear po5)
      | (go_at_call 20; refine (Same_any PA4 PA5 pn4 pc4 pn5 pc5 l l _ _ _ (PO4.out.rd.below hb5 (Nat.le_refl _)) PO5.out.rd).mono ?_; rintro e w6 ⟨rfl, rfl⟩))
    go_ret
    exact ⟨rfl, HW5.out⟩
end Go.Proofs.YtodklilnmianeaaDoor.Bat

namespace Go.Proofs.YtodklilnmianeaaDoor.batchWrites
open Go.ChangeShapes Go.WideShapes Go.ChangeAt Go.RowKit

theorem own : ownKnob Tryd.prog.godebug = none := by kernel_rfl
theorem laidOut : laidOutB Tryd.prog = true := by kernel_rfl

set_option maxRecDepth 100000 in
theorem lifted (os : Os) (started : os.Started) (H : Type) (enc : TypeId × Value → H) :
    ReturnsInHanded {} Tryd.checked os 4 .any (fun w args => (Rows.batchWritesSpec.pre enc Tryd.prog Tryd.f4 [] false w args ∧ laidMetH Tryd.prog Crc.listed w) ∧ sizedMet enc Tryd.prog Tryd.f4 (OpenSpec.ofChange Rows.batchWritesSpec) false w args)
      (Rows.batchWritesSpec.post enc Tryd.prog Tryd.f4 false true false false) := by
  refine returnsInHanded_of_change_and (C := Tryd.checked) (X := fun w _ => laidMetH Tryd.prog Crc.listed w) (fun _ _ _ hh h => h.of_heap hh) own started (by kernel_rfl) Tryd.func4
    (ChangeSpec.witness_shaped (enc := enc) (C := Tryd.checked) (os := os) (X := fun w _ => laidMetH Tryd.prog Crc.listed w) false (World.doorLaid Tryd.prog 400 os) #[.agg #[.int .i64 0, .int .i64 0, .int .i64 0, .int .i64 0, .int .i64 0, .int .i64 0, .int .i64 0, .bool false, .int .i64 0, .slice none 0 0]] 8 rfl (World.shaped_of_RefB (by kernel_rfl) (by kernel_rfl)) (by kernel_rfl) (by kernel_rfl) (by kernel_rfl) (Crc.door_met os _)) ?_
  intro W base args ds gs before hval0 hW _ hwt hL _
  have hval : ∀ (j : Nat) t v, Tryd.f4.params[j]? = some t → args[j]? = some v → Value.okWide Tryd.prog W .any base t v := hval0
  have hW' := hW
  obtain ⟨p, q, hA0, hV, rfl, hfz, hnd⟩ := hW
  have hA : DataW.TrodAll enc Tryd.prog W 0 (fun _ => true) true Tryd.f4.params.toList args.toList ds p := hA0
  rw [Tryd.params4] at hA hval
  obtain ⟨v0, vs0, d0, ds0, p0, q0, hargs, rfl, rfl, h0, r0⟩ := trodAll_cons hA
  obtain ⟨rfl, rfl, rfl⟩ := trodAll_nil r0
  obtain rfl : args = #[v0] := by cases args; simp_all
  obtain ⟨rfl, rfl⟩ := trodVars_none hV
  have k0 := h0
  have lt0 : ∀ x ∈ p0, x.block < W.heap.size := by obtain ⟨m, hm⟩ := k0; exact DataW.trod_lt m _ _ _ hm
  obtain ⟨ba_0, la_0, fr_0, ep_0, pi_0, ge_0, se_0, tx_0, ct_0, A_0, n_0, c_0, rs_0, rfl, hf_0, hc_0, hk_0, hR_0⟩ := Bat.open_batch (hval 0 24 v0 rfl rfl) h0 (Bat.weights_arg (j := 0) hwt (by kernel_rfl) rfl)
  clear hA0 hval0
  refine (Bat.batchWrites_walk ba_0 la_0 fr_0 ep_0 pi_0 ge_0 se_0 tx_0 ct_0 A_0 n_0 c_0 rs_0 W hf_0 hc_0 hk_0 hR_0 (Crc.tab_of_laid hL)).mono fun e W' ⟨he, bel⟩ => ?_
  subst he
  exact ⟨_, rfl, _, _, _, [], _, [], hW', trodAll_mk1 (shut_bool Tryd.underlying4 _), (trodAll_cons_mk (Below.trod laidOut (by kernel_rfl) (of_decide_eq_true (by kernel_rfl)) k0 bel lt0) trodAll_mk0), rfl, bel.frame _, fun h => by cases h⟩

theorem over : Rows.batchWritesRow.holds Tryd.pinned (OpenSpec.ofChange Rows.batchWritesSpec) :=
  OpenClaim.holds_of_wide 4 Tryd.f4 rfl rfl rfl rfl rfl rfl rfl ⟨rfl, rfl, rfl, rfl, rfl⟩ rfl rfl rfl rfl rfl (by kernel_rfl) Tryd.func4 (by kernel_rfl)
    (of_decide_eq_true (by kernel_rfl)) (by unfold Func.isWrapper; first | (rw [if_pos (by decide +kernel)]; kernel_rfl) | (rw [if_neg (by decide +kernel)]; exact ⟨rfl, rfl⟩))
    (fun os started H enc _ => lifted os started H enc)

theorem proved : Rows.BatchWritesCardSaid :=
  Claim7.holds_tied_plain_at .later [] [.data] true (true, "b2bb5b872d99db4528b8f9f391f1dc5ae62899eedab3193a28525a8a26d7af1c") false
    over (fun _ h => by cases h) (by kernel_rfl) (fun _ h => by cases h) batchWrites_row_tie rfl ⟨rfl, rfl⟩ (by kernel_rfl) rfl
    (fun f fn hf hfn => by
      obtain rfl : f = 4 := Option.some.inj ((show Tryd.prog.funcNamed "watermeet/watermeetlaw04.BatchWrites" = some 4 by kernel_rfl).symm.trans hf) |>.symm
      obtain rfl : fn = Tryd.f4 := (Option.some.inj (Tryd.func4.symm.trans hfn)).symm
      exact ⟨by kernel_rfl, fun j t ht => by
        rw [Tryd.params4] at ht
        have hm : t ∈ [24] := by simpa using Array.mem_of_getElem? ht
        have hall : ([24].all fun u => !Tryd.prog.wantsStandIn u) = true := by kernel_rfl
        exact (show Tryd.prog.wantsStandIn t = false by simpa using List.all_eq_true.1 hall t hm)⟩)
    (by kernel_rfl)
#print axioms proved
end Go.Proofs.YtodklilnmianeaaDoor.batchWrites
