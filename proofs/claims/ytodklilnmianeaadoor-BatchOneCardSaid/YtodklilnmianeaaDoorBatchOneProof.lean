/- For any bytes (at most 5,000) that are a batch from a place on: it may be, and those bytes are the ones that it has (the law answers true, and changes nothing that was there). Conditions: none but the table of crc's steps, tied to the program's text.
-/
import Derived.Test.YtodklilnmianeaaDoorJBatK
import Derived.Test.YtodklilnmianeaaDoorJBatG
import Derived.Test.YtodklilnmianeaaDoorJOct
import Derived.Test.YtodklilnmianeaaDoorRows
import Derived.WalkKit
import Derived.ProofKit
import Derived.OpenShut
import Derived.ChangeOld
import Derived.Below
import Derived.Carry
import Derived.Test.YtodklilnmianeaaDoorJCrc
import Derived.Test.YtodklilnmianeaaDoorTie
import Derived.Test.YtodklilnmianeaaDoorCards
import Derived.SevenTiedAt
/- The walk of BatchOne. -/
namespace Go.Proofs.YtodklilnmianeaaDoor.Bat
open Go.RowKit Go.Proofs.YtodklilnmianeaaDoor.Oct Go.Proofs.YtodklilnmianeaaDoor.Rec Go.Proofs.YtodklilnmianeaaDoor.Crc Go.Proofs.YtodklilnmianeaaDoor.Lay

set_option maxRecDepth 100000 in
set_option maxHeartbeats 1000000 in
theorem batchOne_walk (A : Option Addr) (n c : Nat) (l : List UInt8) (p : Int) (w : World) (hr : Rd w w.heap.size A n l) (hc : n ≤ c) (hp : I64 p) (ht : Tab w) :
    Calls Tryd.prog 8 #[.slice A n c, .int .i64 p] w fun e w' => e = .returned (.bool true) ∧ Below w.heap.size w w' := by
  have HR := Lib.hid hr
  have HT1 := Lib.hid ht
  by_cases hg : 5000 < n
  · clear hr ht
    go_enter Tryd.func8, Tryd.ntmps8
    go_wp2_with (go_at_call 12; refine (live_any _ HT1.out).mono ?_; rintro e w2 ⟨rfl, hb2⟩)
    go_ret
    exact ⟨rfl, hb2⟩
  rcases hgr : grB l p with ⟨⟨ba, la, fr, ep, pi, ge, se, tx, ct, rs⟩, q, z⟩
  have HG := Lib.hid hgr
  by_cases hz : z = 0
  case neg =>
    obtain ⟨e1, e2⟩ := grB_bad hgr hz
    subst e2
    simp only [nilB, Bt.mk.injEq] at e1
    obtain ⟨rfl, rfl, rfl, rfl, rfl, rfl, rfl, rfl, rfl, rfl⟩ := e1
    have hz2 : (z != 0) = true := by simp [hz]
    have hz3 : (z == 0) = false := beqF hz
    clear hgr hz hr ht
    go_enter Tryd.func8, Tryd.ntmps8
    go_wp2_with (first
      | (go_at_call 12; refine (live_any _ HT1.out).mono ?_; rintro e w2 ⟨rfl, hb2⟩; have HT2 := Lib.hid (HT1.out.bel hb2))
      | (go_at_call 22; (with_reducible refine (BGet_is A n c l w.heap.size _ _ (HR.out.below hb2 (Nat.le_refl _)) hb2.size hc (by omega) hp HT2.out HG.out).mono ?_); rintro e w3 ⟨A3, n3, c3, rfl, hc3, ho3, hb3⟩; have HB4 := Lib.hid (BR.new (b := ⟨0, 0, 0, 0, 0, 0, 0, false, 0, []⟩) (c := c3) 24 ho3.rd); obtain ⟨y4_0, y4_1, y4_2, y4_3, y4_4, y4_5, y4_6, y4_7, y4_8, y4_9⟩ := HB4.out.box; have HT4 := Lib.hid ((HT2.out.bel hb3).alloc (.cells #[.int .i64 0, .int .i64 0, .int .i64 0, .int .i64 0, .int .i64 0, .int .i64 0, .int .i64 0, .bool false, .int .i64 0, .slice A3 n3 c3] 24)); have HW4 := Lib.hid (bel_alloc (bel_trans hb2 hb3) (.cells #[.int .i64 0, .int .i64 0, .int .i64 0, .int .i64 0, .int .i64 0, .int .i64 0, .int .i64 0, .bool false, .int .i64 0, .slice A3 n3 c3] 24)); have hn3 : n3 = 0 := ho3.rd.len.symm; subst hn3)
      | (go_at_call 28; (with_reducible refine (BSame_is 0 0 0 0 0 0 0 false 0 [] A3 0 c3 0 0 0 0 0 0 0 false 0 [] none 0 0 _ HB4.out.rd RdR.nil (by omega) (by omega) (eqB_self _)).mono ?_); rintro e w5 ⟨rfl, hb5⟩))
    go_ret
    exact ⟨rfl, bel_trans HW4.out hb5⟩
  subst hz
  obtain ⟨g1, g2, g3, g4, g5⟩ := grB_good hgr
  have hl := hr.len
  obtain ⟨P, rfl⟩ : ∃ P : Nat, p = (P : Int) := ⟨p.toNat, by omega⟩
  obtain ⟨Q, rfl⟩ : ∃ Q : Nat, q = (Q : Int) := ⟨q.toNat, by omega⟩
  have HFITS := Lib.hid (form_fits (chB_form g4).1)
  have hn16 := (chB_form g4).1.few
  simp only at hn16
  obtain ⟨x, hx⟩ : ∃ x, x = byB ⟨ba, la, fr, ep, pi, ge, se, tx, ct, rs⟩ := ⟨_, rfl⟩
  have HC := Lib.hid g4
  have HP := Lib.hid (show ptB ⟨ba, la, fr, ep, pi, ge, se, tx, ct, rs⟩ = (x, 0) by unfold ptB; rw [if_pos g4, hx])
  have HX := Lib.hid (show x = (l.drop P).take (Q - P) by rw [hx, g5]; congr 1 <;> omega)
  have hxx := sameB_self x
  have y1 : (P : Int) < (Q : Int) := by omega
  have y2 : (Q : Int) ≤ (n : Int) := by omega
  have y3 : P ≤ Q := by omega
  have y4' : Q ≤ c := by omega
  have y5 : (0 : Int) ≤ (P : Int) := by omega
  have y6 : (P : Int) ≤ (Q : Int) := by omega
  have y7 : (Q : Int) ≤ (c : Int) := by omega
  have y8 : Q ≤ n := by omega
  clear hgr g1 g2 g3 g4 g5 hr ht hx hl
  go_enter Tryd.func8, Tryd.ntmps8
  go_wp2_with (first
    | (go_at_call 12; refine (live_any _ HT1.out).mono ?_; rintro e w2 ⟨rfl, hb2⟩; have HT2 := Lib.hid (HT1.out.bel hb2))
    | (go_at_call 22; (with_reducible refine (BGet_is A n c l w.heap.size _ _ (HR.out.below hb2 (Nat.le_refl _)) hb2.size hc (by omega) (by unfold I64; omega) HT2.out HG.out).mono ?_); rintro e w3 ⟨A3, n3, c3, rfl, hc3, ho3, hb3⟩; have HB4 := Lib.hid (BR.new (b := ⟨ba, la, fr, ep, pi, ge, se, tx, ct, rs⟩) (c := c3) 24 ho3.rd); obtain ⟨y4_0, y4_1, y4_2, y4_3, y4_4, y4_5, y4_6, y4_7, y4_8, y4_9⟩ := HB4.out.box; have HT4 := Lib.hid ((HT2.out.bel hb3).alloc (.cells #[.int .i64 ba, .int .i64 la, .int .i64 fr, .int .i64 ep, .int .i64 pi, .int .i64 ge, .int .i64 se, .bool tx, .int .i64 ct, .slice A3 n3 c3] 24)); have HW4 := Lib.hid (bel_alloc (bel_trans hb2 hb3) (.cells #[.int .i64 ba, .int .i64 la, .int .i64 fr, .int .i64 ep, .int .i64 pi, .int .i64 ge, .int .i64 se, .bool tx, .int .i64 ct, .slice A3 n3 c3] 24)); have hn3 : n3 ≤ 1099511627776 := (by have h1 := ho3.rd.len; omega))
    | (go_at_call 18; (with_reducible refine (BPut_is ba la fr ep pi ge se tx ct rs A3 n3 c3 _ HFITS.out HB4.out.rd hn3 HT4.out HP.out).mono ?_); rintro e w5 ⟨A5, n5, c5, rfl, ho5, hb5⟩; have HB5 := Lib.hid (HB4.out.below hb5); obtain ⟨y5_0, y5_1, y5_2, y5_3, y5_4, y5_5, y5_6, y5_7, y5_8, y5_9⟩ := HB5.out.box; have HT5 := Lib.hid (HT4.out.bel hb5); have HW5 := Lib.hid (bel_trans HW4.out hb5); have HO5 := Lib.hid ho5; clear ho5)
    | (go_at_call 20; refine (Same_any A5 _ n5 c5 _ _ x x _ w.heap.size _ HO5.out.rd (by rw [HX.out]; exact (HR.out.below HW5.out (Nat.le_refl _)).cut' (by omega) (by omega) (by intro h0; first | rfl | exact if_neg (by omega) | (exfalso; omega)))).mono ?_; rintro e w6 ⟨rfl, rfl⟩)
    | (go_at_call 14; (with_reducible refine (BCheck_is ba la fr ep pi ge se tx ct rs A3 n3 c3 _ HFITS.out HB5.out.rd hn3 HT5.out HC.out).mono ?_); rintro e w7 ⟨rfl, hb7⟩))
  go_ret
  exact ⟨rfl, bel_trans HW5.out hb7⟩
end Go.Proofs.YtodklilnmianeaaDoor.Bat

namespace Go.Proofs.YtodklilnmianeaaDoor.batchOne
open Go.ChangeShapes Go.WideShapes Go.ChangeAt Go.RowKit

theorem own : ownKnob Tryd.prog.godebug = none := by kernel_rfl
theorem laidOut : laidOutB Tryd.prog = true := by kernel_rfl

set_option maxRecDepth 100000 in
theorem lifted (os : Os) (started : os.Started) (H : Type) (enc : TypeId × Value → H) :
    ReturnsInHanded {} Tryd.checked os 8 .any (fun w args => (Rows.batchOneSpec.pre enc Tryd.prog Tryd.f8 [] false w args ∧ laidMetH Tryd.prog Crc.listed w) ∧ sizedMet enc Tryd.prog Tryd.f8 (OpenSpec.ofChange Rows.batchOneSpec) false w args)
      (Rows.batchOneSpec.post enc Tryd.prog Tryd.f8 false true false false) := by
  refine returnsInHanded_of_change_and (C := Tryd.checked) (X := fun w _ => laidMetH Tryd.prog Crc.listed w) (fun _ _ _ hh h => h.of_heap hh) own started (by kernel_rfl) Tryd.func8
    (ChangeSpec.witness_shaped (enc := enc) (C := Tryd.checked) (os := os) (X := fun w _ => laidMetH Tryd.prog Crc.listed w) false (World.doorLaid Tryd.prog 400 os) #[.slice none 0 0, .int .i64 0] 8 rfl (World.shaped_of_RefB (by kernel_rfl) (by kernel_rfl)) (by kernel_rfl) (by kernel_rfl) (by kernel_rfl) (Crc.door_met os _)) ?_
  intro W base args ds gs before hval0 hW _ hwt hL _
  have hval : ∀ (j : Nat) t v, Tryd.f8.params[j]? = some t → args[j]? = some v → Value.okWide Tryd.prog W .any base t v := hval0
  have hW' := hW
  obtain ⟨p, q, hA0, hV, rfl, hfz, hnd⟩ := hW
  have hA : DataW.TrodAll enc Tryd.prog W 0 (fun _ => true) true Tryd.f8.params.toList args.toList ds p := hA0
  rw [Tryd.params8] at hA hval
  obtain ⟨v0, vs0, d0, ds0, p0, q0, hargs, rfl, rfl, h0, r0⟩ := trodAll_cons hA
  obtain ⟨v1, vs1, d1, ds1, p1, q1, rfl, rfl, rfl, h1, r1⟩ := trodAll_cons r0
  obtain ⟨rfl, rfl, rfl⟩ := trodAll_nil r1
  obtain rfl : args = #[v0, v1] := by cases args; simp_all
  obtain ⟨rfl, rfl⟩ := trodVars_none hV
  have k0 := h0
  have lt0 : ∀ x ∈ p0, x.block < W.heap.size := by obtain ⟨m, hm⟩ := k0; exact DataW.trod_lt m _ _ _ hm
  obtain ⟨a0, len0, cap0, l0, rfl, rd0, cp0⟩ := Oct.open_bytes Tryd.underlying30 Tryd.underlying5 (by kernel_rfl) (hval 0 30 v0 rfl rfl) h0
  have k1 := h1
  have lt1 : ∀ x ∈ p1, x.block < W.heap.size := by obtain ⟨m, hm⟩ := k1; exact DataW.trod_lt m _ _ _ hm
  obtain ⟨a1, rfl, hi1⟩ := Oct.open_i64 Tryd.underlying3 (hval 1 3 v1 rfl rfl) h1
  clear hA0 hval0
  refine (Bat.batchOne_walk a0 len0 cap0 l0 a1 W rd0 cp0 hi1 (Crc.tab_of_laid hL)).mono fun e W' ⟨he, bel⟩ => ?_
  subst he
  exact ⟨_, rfl, _, _, _, [], _, [], hW', trodAll_mk1 (shut_bool Tryd.underlying4 _), (trodAll_cons_mk (Below.trod laidOut (by kernel_rfl) (of_decide_eq_true (by kernel_rfl)) k0 bel lt0) (trodAll_cons_mk (Below.trod laidOut (by kernel_rfl) (of_decide_eq_true (by kernel_rfl)) k1 bel lt1) trodAll_mk0)), rfl, bel.frame _, fun h => by cases h⟩

theorem over : Rows.batchOneRow.holds Tryd.pinned (OpenSpec.ofChange Rows.batchOneSpec) :=
  OpenClaim.holds_of_wide 8 Tryd.f8 rfl rfl rfl rfl rfl rfl rfl ⟨rfl, rfl, rfl, rfl, rfl⟩ rfl rfl rfl rfl rfl (by kernel_rfl) Tryd.func8 (by kernel_rfl)
    (of_decide_eq_true (by kernel_rfl)) (by unfold Func.isWrapper; first | (rw [if_pos (by decide +kernel)]; kernel_rfl) | (rw [if_neg (by decide +kernel)]; exact ⟨rfl, rfl⟩))
    (fun os started H enc _ => lifted os started H enc)

theorem proved : Rows.BatchOneCardSaid :=
  Claim7.holds_tied_plain_at .later [] [.data] true (true, "b2bb5b872d99db4528b8f9f391f1dc5ae62899eedab3193a28525a8a26d7af1c") false
    over (fun _ h => by cases h) (by kernel_rfl) (fun _ h => by cases h) batchOne_row_tie rfl ⟨rfl, rfl⟩ (by kernel_rfl) rfl
    (fun f fn hf hfn => by
      obtain rfl : f = 8 := Option.some.inj ((show Tryd.prog.funcNamed "watermeet/watermeetlaw04.BatchOne" = some 8 by kernel_rfl).symm.trans hf) |>.symm
      obtain rfl : fn = Tryd.f8 := (Option.some.inj (Tryd.func8.symm.trans hfn)).symm
      exact ⟨by kernel_rfl, fun j t ht => by
        rw [Tryd.params8] at ht
        have hm : t ∈ [30, 3] := by simpa using Array.mem_of_getElem? ht
        have hall : ([30, 3].all fun u => !Tryd.prog.wantsStandIn u) = true := by kernel_rfl
        exact (show Tryd.prog.wantsStandIn t = false by simpa using List.all_eq_true.1 hall t hm)⟩)
    (by kernel_rfl)
#print axioms proved
end Go.Proofs.YtodklilnmianeaaDoor.batchOne
