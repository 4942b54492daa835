/- For any bytes (at most 5,000) and any place: the batch that stands there, and where it ends, or why there is none, is what the document's own answer says; the bytes stay as they were (the law answers true, and changes nothing that was there). Conditions: none but the table of crc's steps, tied to the program's text.
-/
import Derived.Test.YtodklilnmianeaaDoorJBatK
import Derived.Test.YtodklilnmianeaaDoorJBatG
import Derived.Test.YtodklilnmianeaaDoorJBatD
import Derived.Test.YtodklilnmianeaaDoorJBatC
import Derived.Test.YtodklilnmianeaaDoorJOct
import Derived.Test.YtodklilnmianeaaDoorRows
import Derived.WalkKit
import Derived.ProofKit
import Derived.OpenShut
import Derived.ChangeOld
import Derived.Below
import Derived.Carry
import Derived.Test.YtodklilnmianeaaDoorJCrc
import Derived.Test.YtodklilnmianeaaDoorTie
import Derived.Test.YtodklilnmianeaaDoorCards
import Derived.SevenTiedAt
/- The walk of BatchReads. -/
namespace Go.Proofs.YtodklilnmianeaaDoor.Bat
open Go.RowKit Go.Proofs.YtodklilnmianeaaDoor.Oct Go.Proofs.YtodklilnmianeaaDoor.Rec Go.Proofs.YtodklilnmianeaaDoor.Crc Go.Proofs.YtodklilnmianeaaDoor.Lay

theorem refBGet_is (A : Option Addr) (n c : Nat) (l : List UInt8) (p : Int) (w : World) (hr : Rd w w.heap.size A n l) (hc : n ≤ c) (hn : n ≤ 137438953472) (hp : I64 p) {ba la fr ep pi ge se : Int} {tx : Bool} {ct : Int} {rs : List Rc} {q z : Int} (h : grB l p = (⟨ba, la, fr, ep, pi, ge, se, tx, ct, rs⟩, q, z)) :
    Calls Tryd.prog 23 #[.slice A n c, .int .i64 p] w fun e w' => ∃ A' n' c', e = .returned (.tuple #[.agg #[.int .i64 ba, .int .i64 la, .int .i64 fr, .int .i64 ep, .int .i64 pi, .int .i64 ge, .int .i64 se, .bool tx, .int .i64 ct, .slice A' n' c'], .int .i64 q, .int .i64 z]) ∧ n' ≤ c' ∧ OwnR w' w.heap.size A' n' rs ∧ Below w.heap.size w w' := by
  have h1 := refBGet_any A n c l p w hr hc hn hp
  rw [h] at h1
  exact h1
set_option maxRecDepth 100000 in
set_option maxHeartbeats 1000000 in
theorem batchReads_walk (A : Option Addr) (n c : Nat) (l : List UInt8) (p : Int) (w : World) (hr : Rd w w.heap.size A n l) (hc : n ≤ c) (hp : I64 p) (ht : Tab w) :
    Calls Tryd.prog 5 #[.slice A n c, .int .i64 p] w fun e w' => e = .returned (.bool true) ∧ Below w.heap.size w w' := by
  have HR := Lib.hid hr
  have HT1 := Lib.hid ht
  by_cases hg : 5000 < n
  · clear hr ht
    go_enter Tryd.func5, Tryd.ntmps5
    go_wp2_with (go_at_call 12; refine (live_any _ HT1.out).mono ?_; rintro e w2 ⟨rfl, hb2⟩)
    go_ret
    exact ⟨rfl, hb2⟩
  rcases hgr : grB l p with ⟨⟨ba, la, fr, ep, pi, ge, se, tx, ct, rs⟩, q, z⟩
  have HG := Lib.hid hgr
  have hlen : rs.length ≤ 16 := by
    by_cases hz : z = 0
    · subst hz
      obtain ⟨g1, g2, g3, g4, g5⟩ := grB_good hgr
      have h := (chB_form g4).1.few
      simp only at h
      exact h
    · obtain ⟨e1, e2⟩ := grB_bad hgr hz
      simp only [nilB, Bt.mk.injEq] at e1
      rw [e1.2.2.2.2.2.2.2.2.2]; exact Nat.zero_le _
  have hxx := sameB_self l
  have y1 : (q == q) = true := by simp
  have y2 : (z == z) = true := by simp
  clear hgr hr ht
  go_enter Tryd.func5, Tryd.ntmps5
  go_wp2_with (first
    | (go_at_call 12; (with_reducible refine (live_any _ HT1.out).mono ?_); rintro e w2 ⟨rfl, hb2⟩; have HT2 := Lib.hid (HT1.out.bel hb2); have HW2 := Lib.hid hb2)
    | (go_at_call 21; (with_reducible refine (Copy_any A n c l w.heap.size _ (HR.out.below HW2.out (Nat.le_refl _)) (by omega)).mono ?_); rintro e w3 ⟨A3, n3, c3, rfl, ho3, hb3⟩; have HT3 := Lib.hid (HT2.out.bel hb3); have HW3 := Lib.hid (bel_trans HW2.out hb3); have HO3 := Lib.hid ho3; clear ho3)
    | (go_at_call 22; (with_reducible refine (BGet_is A n c l w.heap.size _ _ (HR.out.below HW3.out (Nat.le_refl _)) HW3.out.size hc (by omega) hp HT3.out HG.out).mono ?_); rintro e w4 ⟨A4, n4, c4, rfl, hc4, ho4, hb4⟩; have HX5 := Lib.hid (BR.new (b := ⟨ba, la, fr, ep, pi, ge, se, tx, ct, rs⟩) (c := c4) 24 ho4.rd); obtain ⟨x5_0, x5_1, x5_2, x5_3, x5_4, x5_5, x5_6, x5_7, x5_8, x5_9⟩ := HX5.out.box; have HT5 := Lib.hid ((HT3.out.bel hb4).alloc (.cells #[.int .i64 ba, .int .i64 la, .int .i64 fr, .int .i64 ep, .int .i64 pi, .int .i64 ge, .int .i64 se, .bool tx, .int .i64 ct, .slice A4 n4 c4] 24)); have HW5 := Lib.hid (bel_alloc (bel_trans HW3.out hb4) (.cells #[.int .i64 ba, .int .i64 la, .int .i64 fr, .int .i64 ep, .int .i64 pi, .int .i64 ge, .int .i64 se, .bool tx, .int .i64 ct, .slice A4 n4 c4] 24)); have HO5 := Lib.hid (HO3.out.below (bel_alloc hb4 (.cells #[.int .i64 ba, .int .i64 la, .int .i64 fr, .int .i64 ep, .int .i64 pi, .int .i64 ge, .int .i64 se, .bool tx, .int .i64 ct, .slice A4 n4 c4] 24))); have hn4 : n4 ≤ 1099511627776 := (by have h1 := ho4.rd.len; omega))
    | (go_at_call 23; (with_reducible refine (refBGet_is A n c l _ _ ((HR.out.below HW5.out (Nat.le_refl _)).more HW5.out.size) hc (by omega) hp HG.out).mono ?_); rintro e w6 ⟨A6, n6, c6, rfl, hc6, ho6, hb6⟩; have HX7 := Lib.hid ((HX5.out.below hb6).alloc (.cells #[.int .i64 ba, .int .i64 la, .int .i64 fr, .int .i64 ep, .int .i64 pi, .int .i64 ge, .int .i64 se, .bool tx, .int .i64 ct, .slice A6 n6 c6] 24)); obtain ⟨x7_0, x7_1, x7_2, x7_3, x7_4, x7_5, x7_6, x7_7, x7_8, x7_9⟩ := HX7.out.box; have HY7 := Lib.hid (BR.new (b := ⟨ba, la, fr, ep, pi, ge, se, tx, ct, rs⟩) (c := c6) 24 ho6.rd); obtain ⟨y7_0, y7_1, y7_2, y7_3, y7_4, y7_5, y7_6, y7_7, y7_8, y7_9⟩ := HY7.out.box; have HW7 := Lib.hid (bel_alloc (bel_trans HW5.out hb6) (.cells #[.int .i64 ba, .int .i64 la, .int .i64 fr, .int .i64 ep, .int .i64 pi, .int .i64 ge, .int .i64 se, .bool tx, .int .i64 ct, .slice A6 n6 c6] 24)); have HO7 := Lib.hid (HO5.out.below (bel_alloc hb6 (.cells #[.int .i64 ba, .int .i64 la, .int .i64 fr, .int .i64 ep, .int .i64 pi, .int .i64 ge, .int .i64 se, .bool tx, .int .i64 ct, .slice A6 n6 c6] 24))); have hn6 : n6 ≤ 1099511627776 := (by have h1 := ho6.rd.len; omega))
    | (go_at_call 24; (with_reducible refine (refSameB_is ba la fr ep pi ge se tx ct rs A4 n4 c4 ba la fr ep pi ge se tx ct rs A6 n6 c6 _ HX7.out.rd HY7.out.rd hn4 hn6 (eqB_self _)).mono ?_); rintro e w8 ⟨rfl, hb8⟩; have HW8 := Lib.hid (bel_trans HW7.out hb8); have HO8 := Lib.hid (HO7.out.below hb8))
    | (go_at_call 20; refine (Same_any A A3 n c n3 c3 l l w.heap.size _ _ (HR.out.below HW8.out (Nat.le_refl _)) HO8.out.rd).mono ?_; rintro e w9 ⟨rfl, rfl⟩))
  go_ret
  exact ⟨rfl, HW8.out⟩
end Go.Proofs.YtodklilnmianeaaDoor.Bat

namespace Go.Proofs.YtodklilnmianeaaDoor.batchReads
open Go.ChangeShapes Go.WideShapes Go.ChangeAt Go.RowKit

theorem own : ownKnob Tryd.prog.godebug = none := by kernel_rfl
theorem laidOut : laidOutB Tryd.prog = true := by kernel_rfl

set_option maxRecDepth 100000 in
theorem lifted (os : Os) (started : os.Started) (H : Type) (enc : TypeId × Value → H) :
    ReturnsInHanded {} Tryd.checked os 5 .any (fun w args => (Rows.batchReadsSpec.pre enc Tryd.prog Tryd.f5 [] false w args ∧ laidMetH Tryd.prog Crc.listed w) ∧ sizedMet enc Tryd.prog Tryd.f5 (OpenSpec.ofChange Rows.batchReadsSpec) false w args)
      (Rows.batchReadsSpec.post enc Tryd.prog Tryd.f5 false true false false) := by
  refine returnsInHanded_of_change_and (C := Tryd.checked) (X := fun w _ => laidMetH Tryd.prog Crc.listed w) (fun _ _ _ hh h => h.of_heap hh) own started (by kernel_rfl) Tryd.func5
    (ChangeSpec.witness_shaped (enc := enc) (C := Tryd.checked) (os := os) (X := fun w _ => laidMetH Tryd.prog Crc.listed w) false (World.doorLaid Tryd.prog 400 os) #[.slice none 0 0, .int .i64 0] 8 rfl (World.shaped_of_RefB (by kernel_rfl) (by kernel_rfl)) (by kernel_rfl) (by kernel_rfl) (by kernel_rfl) (Crc.door_met os _)) ?_
  intro W base args ds gs before hval0 hW _ hwt hL _
  have hval : ∀ (j : Nat) t v, Tryd.f5.params[j]? = some t → args[j]? = some v → Value.okWide Tryd.prog W .any base t v := hval0
  have hW' := hW
  obtain ⟨p, q, hA0, hV, rfl, hfz, hnd⟩ := hW
  have hA : DataW.TrodAll enc Tryd.prog W 0 (fun _ => true) true Tryd.f5.params.toList args.toList ds p := hA0
  rw [Tryd.params5] at hA hval
  obtain ⟨v0, vs0, d0, ds0, p0, q0, hargs, rfl, rfl, h0, r0⟩ := trodAll_cons hA
  obtain ⟨v1, vs1, d1, ds1, p1, q1, rfl, rfl, rfl, h1, r1⟩ := trodAll_cons r0
  obtain ⟨rfl, rfl, rfl⟩ := trodAll_nil r1
  obtain rfl : args = #[v0, v1] := by cases args; simp_all
  obtain ⟨rfl, rfl⟩ := trodVars_none hV
  have k0 := h0
  have lt0 : ∀ x ∈ p0, x.block < W.heap.size := by obtain ⟨m, hm⟩ := k0; exact DataW.trod_lt m _ _ _ hm
  obtain ⟨a0, len0, cap0, l0, rfl, rd0, cp0⟩ := Oct.open_bytes Tryd.underlying30 Tryd.underlying5 (by kernel_rfl) (hval 0 30 v0 rfl rfl) h0
  have k1 := h1
  have lt1 : ∀ x ∈ p1, x.block < W.heap.size := by obtain ⟨m, hm⟩ := k1; exact DataW.trod_lt m _ _ _ hm
  obtain ⟨a1, rfl, hi1⟩ := Oct.open_i64 Tryd.underlying3 (hval 1 3 v1 rfl rfl) h1
  clear hA0 hval0
  refine (Bat.batchReads_walk a0 len0 cap0 l0 a1 W rd0 cp0 hi1 (Crc.tab_of_laid hL)).mono fun e W' ⟨he, bel⟩ => ?_
  subst he
  exact ⟨_, rfl, _, _, _, [], _, [], hW', trodAll_mk1 (shut_bool Tryd.underlying4 _), (trodAll_cons_mk (Below.trod laidOut (by kernel_rfl) (of_decide_eq_true (by kernel_rfl)) k0 bel lt0) (trodAll_cons_mk (Below.trod laidOut (by kernel_rfl) (of_decide_eq_true (by kernel_rfl)) k1 bel lt1) trodAll_mk0)), rfl, bel.frame _, fun h => by cases h⟩

theorem over : Rows.batchReadsRow.holds Tryd.pinned (OpenSpec.ofChange Rows.batchReadsSpec) :=
  OpenClaim.holds_of_wide 5 Tryd.f5 rfl rfl rfl rfl rfl rfl rfl ⟨rfl, rfl, rfl, rfl, rfl⟩ rfl rfl rfl rfl rfl (by kernel_rfl) Tryd.func5 (by kernel_rfl)
    (of_decide_eq_true (by kernel_rfl)) (by unfold Func.isWrapper; first | (rw [if_pos (by decide +kernel)]; kernel_rfl) | (rw [if_neg (by decide +kernel)]; exact ⟨rfl, rfl⟩))
    (fun os started H enc _ => lifted os started H enc)

theorem proved : Rows.BatchReadsCardSaid :=
  Claim7.holds_tied_plain_at .later [] [.data] true (true, "b2bb5b872d99db4528b8f9f391f1dc5ae62899eedab3193a28525a8a26d7af1c") false
    over (fun _ h => by cases h) (by kernel_rfl) (fun _ h => by cases h) batchReads_row_tie rfl ⟨rfl, rfl⟩ (by kernel_rfl) rfl
    (fun f fn hf hfn => by
      obtain rfl : f = 5 := Option.some.inj ((show Tryd.prog.funcNamed "watermeet/watermeetlaw04.BatchReads" = some 5 by kernel_rfl).symm.trans hf) |>.symm
      obtain rfl : fn = Tryd.f5 := (Option.some.inj (Tryd.func5.symm.trans hfn)).symm
      exact ⟨by kernel_rfl, fun j t ht => by
        rw [Tryd.params5] at ht
        have hm : t ∈ [30, 3] := by simpa using Array.mem_of_getElem? ht
        have hall : ([30, 3].all fun u => !Tryd.prog.wantsStandIn u) = true := by kernel_rfl
        exact (show Tryd.prog.wantsStandIn t = false by simpa using List.all_eq_true.1 hall t hm)⟩)
    (by kernel_rfl)
#print axioms proved
end Go.Proofs.YtodklilnmianeaaDoor.batchReads
