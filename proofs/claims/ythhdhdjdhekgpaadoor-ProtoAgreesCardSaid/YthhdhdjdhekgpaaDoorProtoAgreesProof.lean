/- For any two lists of spans (at most 300 each): what both sides know, or why not, is what the document says; so are the versions that there are (the law answers true, and changes nothing that was there). Conditions: none.
-/
import Derived.Test.YthhdhdjdhekgpaaDoorProIs
import Derived.Test.YthhdhdjdhekgpaaDoorProWith
import Derived.Test.YthhdhdjdhekgpaaDoorProRAg
import Derived.Test.YthhdhdjdhekgpaaDoorRows
import Derived.WalkKit
import Derived.ProofKit
import Derived.OpenShut
import Derived.ChangeOld
import Derived.Below
import Derived.Carry
import Derived.Test.YthhdhdjdhekgpaaDoorJOct
import Derived.Test.YthhdhdjdhekgpaaDoorProArg
import Derived.Test.YthhdhdjdhekgpaaDoorProTied
import Derived.Test.YthhdhdjdhekgpaaDoorTie
import Derived.Test.YthhdhdjdhekgpaaDoorCards
import Derived.SevenTiedAt
/- The walk of ProtoAgrees. -/
namespace Go.Proofs.YthhdhdjdhekgpaaDoor.Pro
open Go.RowKit Go.Proofs.YthhdhdjdhekgpaaDoor.Oct Go.Proofs.YthhdhdjdhekgpaaDoor.Rec Go.Proofs.YthhdhdjdhekgpaaDoor.Cod Go.Proofs.YthhdhdjdhekgpaaDoor.Lay Go.Proofs.YthhdhdjdhekgpaaDoor.RowF

theorem refAgree_is (A1 : Option Addr) (n1 c1 : Nat) (m : List Sp) (A2 : Option Addr) (n2 c2 : Nat) (t : List Sp) (w : World) (hr : RdL w w.heap.size A1 n1 m) (hr2 : RdL w w.heap.size A2 n2 t) (hn1 : n1 ≤ 300) (hn2 : n2 ≤ 300) {a : List Sp} {z : Int} (h : agr m t = (a, z)) :
    Calls Tryd.prog 28 #[.slice A1 n1 c1, .slice A2 n2 c2] w (AGR w (a, z)) := h ▸ refAgree_any A1 n1 c1 m A2 n2 c2 t w hr hr2 hn1 hn2
set_option maxRecDepth 100000 in
set_option maxHeartbeats 8000000 in
theorem agrees_n1 (A1 : Option Addr) (n1 c1 : Nat) (m : List Sp) (A2 : Option Addr) (n2 c2 : Nat) (t : List Sp) (w : World) (hr : RdL w w.heap.size A1 n1 m) (hr2 : RdL w w.heap.size A2 n2 t) (ht : Tab w) (hn : 300 < n1) :
    Calls Tryd.prog 5 #[.slice A1 n1 c1, .slice A2 n2 c2] w fun e w' => e = .returned (.bool true) ∧ Below w.heap.size w w' := by
  have HT := Lib.hid ht
  have H1 := Lib.hid hr
  have H2 := Lib.hid hr2
  clear ht hr hr2
  go_enter Tryd.func5, Tryd.ntmps5
  go_wp2_with (first
    | (go_at_call 12; refine (live_any _ HT.out).mono ?_; rintro e w1 ⟨rfl, hb1⟩; have HB1 := Lib.hid hb1; clear hb1))
  go_ret
  exact ⟨rfl, HB1.out⟩
set_option maxRecDepth 100000 in
set_option maxHeartbeats 8000000 in
theorem agrees_n2 (A1 : Option Addr) (n1 c1 : Nat) (m : List Sp) (A2 : Option Addr) (n2 c2 : Nat) (t : List Sp) (w : World) (hr : RdL w w.heap.size A1 n1 m) (hr2 : RdL w w.heap.size A2 n2 t) (ht : Tab w) (hn1 : ¬ 300 < n1) (hn : 300 < n2) :
    Calls Tryd.prog 5 #[.slice A1 n1 c1, .slice A2 n2 c2] w fun e w' => e = .returned (.bool true) ∧ Below w.heap.size w w' := by
  have HT := Lib.hid ht
  have H1 := Lib.hid hr
  have H2 := Lib.hid hr2
  clear ht hr hr2
  go_enter Tryd.func5, Tryd.ntmps5
  go_wp2_with (first
    | (go_at_call 12; refine (live_any _ HT.out).mono ?_; rintro e w1 ⟨rfl, hb1⟩; have HB1 := Lib.hid hb1; clear hb1))
  go_ret
  exact ⟨rfl, HB1.out⟩
set_option maxRecDepth 100000 in
set_option maxHeartbeats 8000000 in
theorem agrees_ok (A1 : Option Addr) (n1 c1 : Nat) (m : List Sp) (A2 : Option Addr) (n2 c2 : Nat) (t : List Sp) (w : World) (hr : RdL w w.heap.size A1 n1 m) (hr2 : RdL w w.heap.size A2 n2 t) (ht : Tab w) (hn1 : n1 ≤ 300) (hn2 : n2 ≤ 300) (a : List Sp) (z : Int) (ha : agr m t = (a, z)) :
    Calls Tryd.prog 5 #[.slice A1 n1 c1, .slice A2 n2 c2] w fun e w' => e = .returned (.bool true) ∧ Below w.heap.size w w' := by
  have HT := Lib.hid ht
  have H1 := Lib.hid hr
  have H2 := Lib.hid hr2
  clear ht hr hr2
  have HA := Lib.hid ha
  have hm1 : ¬ 300 < n1 := by omega
  have hm2 : ¬ 300 < n2 := by omega
  clear ha
  go_enter Tryd.func5, Tryd.ntmps5
  go_wp2_with (first
    | (go_at_call 29; (with_reducible refine (refsameSpans_any F5 12 F7 all12 G5 12 G7 all12 w6 (lup HF.out HB56.out) (HG.out) (by omega)).mono ?_); rw [eqq_yes rfl]; rintro e w7 ⟨rfl, hb9⟩; have HB7 := Lib.hid (HB6.out.trans (hb9.mono HB6.out.size)); clear hb9)
    | (go_at_call 31; (with_reducible refine (refSpans_any w5).mono ?_); rintro e w6 ⟨G5, G6, G7, rfl, rfl, hO, hb9⟩; have HG := Lib.hid (show RdL w6 w6.heap.size G5 12 all12 from rdL_spans (hO.rd spS) (ones_fit (by omega))); have HB56 := Lib.hid hb9; have HB6 := Lib.hid (HB5.out.trans (hb9.mono HB5.out.size)); clear hb9 hO)
    | (go_at_call 30; (with_reducible refine (Spans_any w4).mono ?_); rintro e w5 ⟨F5, F6, F7, rfl, rfl, hO, hb9⟩; have HF := Lib.hid (show RdL w5 w5.heap.size F5 12 all12 from rdL_spans (hO.rd spS) (ones_fit (by omega))); have HB5 := Lib.hid (HB4.out.trans (hb9.mono HB4.out.size)); clear hb9 hO)
    | (go_at_call 29; (with_reducible refine (refsameSpans_any D5 D6 D7 a E5 E6 E7 a w3 (lup HD.out HB23.out) (HE.out) (by omega)).mono ?_); rw [eqq_yes rfl]; rintro e w4 ⟨rfl, hb9⟩; have HB4 := Lib.hid (HB3.out.trans (hb9.mono HB3.out.size)); clear hb9)
    | (go_at_call 28; (with_reducible refine (refAgree_is A1 n1 c1 m A2 n2 c2 t w2 (lup H1.out HB2.out) (lup H2.out HB2.out) (by omega) (by omega) HA.out).mono ?_); rintro e w3 ⟨E5, E6, E7, rfl, hE, hnE, hb9⟩; have HE := Lib.hid hE; have HB3 := Lib.hid (HB2.out.trans (hb9.mono HB2.out.size)); have HB23 := Lib.hid (show Below w2.heap.size w2 w3 from hb9); clear hb9 hE)
    | (go_at_call 27; (with_reducible refine (Agree_is A1 n1 c1 m A2 n2 c2 t w1 (lup H1.out HB1.out) (lup H2.out HB1.out) (by omega) (by omega) HA.out).mono ?_); rintro e w2 ⟨D5, D6, D7, rfl, hD, hnD, hb9⟩; have HD := Lib.hid hD; have HB2 := Lib.hid (HB1.out.trans (hb9.mono HB1.out.size)); clear hb9 hD)
    | (go_at_call 12; refine (live_any _ HT.out).mono ?_; rintro e w1 ⟨rfl, hb1⟩; have HB1 := Lib.hid hb1; clear hb1))
  go_ret
  exact ⟨rfl, HB7.out⟩
theorem protoAgrees_walk (A1 : Option Addr) (n1 c1 : Nat) (m : List Sp) (A2 : Option Addr) (n2 c2 : Nat) (t : List Sp) (w : World) (_hc1 : n1 ≤ c1) (_hk1 : c1 ≤ reach) (hr : RdL w w.heap.size A1 n1 m) (_hc2 : n2 ≤ c2) (_hk2 : c2 ≤ reach) (hr2 : RdL w w.heap.size A2 n2 t) (ht : Tab w) :
    Calls Tryd.prog 5 #[.slice A1 n1 c1, .slice A2 n2 c2] w fun e w' => e = .returned (.bool true) ∧ Below w.heap.size w w' := by
  by_cases h1 : 300 < n1
  · exact agrees_n1 A1 n1 c1 m A2 n2 c2 t w hr hr2 ht h1
  by_cases h2 : 300 < n2
  · exact agrees_n2 A1 n1 c1 m A2 n2 c2 t w hr hr2 ht h1 h2
  rcases ha : agr m t with ⟨a, e⟩
  exact agrees_ok A1 n1 c1 m A2 n2 c2 t w hr hr2 ht (by omega) (by omega) a e ha
end Go.Proofs.YthhdhdjdhekgpaaDoor.Pro

namespace Go.Proofs.YthhdhdjdhekgpaaDoor.protoAgrees
open Go.ChangeShapes Go.WideShapes Go.ChangeAt Go.RowKit

theorem own : ownKnob Tryd.prog.godebug = none := by kernel_rfl
theorem laidOut : laidOutB Tryd.prog = true := by kernel_rfl

set_option maxRecDepth 100000 in
theorem lifted (os : Os) (started : os.Started) (H : Type) (enc : TypeId × Value → H) :
    ReturnsInHanded {} Tryd.checked os 5 .any (fun w args => (Rows.protoAgreesSpec.pre enc Tryd.prog Tryd.f5 [] false w args ∧ laidMetH Tryd.prog Pro.listed w) ∧ sizedMet enc Tryd.prog Tryd.f5 (OpenSpec.ofChange Rows.protoAgreesSpec) false w args)
      (Rows.protoAgreesSpec.post enc Tryd.prog Tryd.f5 false true false false) := by
  refine returnsInHanded_of_change_and (C := Tryd.checked) (X := fun w _ => laidMetH Tryd.prog Pro.listed w) (fun _ _ _ hh h => h.of_heap hh) own started (by kernel_rfl) Tryd.func5
    (ChangeSpec.witness_shaped (enc := enc) (C := Tryd.checked) (os := os) (X := fun w _ => laidMetH Tryd.prog Pro.listed w) false (World.doorLaid Tryd.prog 400 os) #[.slice none 0 0, .slice none 0 0] 8 rfl (World.shaped_of_RefB (by kernel_rfl) (by kernel_rfl)) (by kernel_rfl) (by kernel_rfl) (by kernel_rfl) (Pro.door_met os _)) ?_
  intro W base args ds gs before hval0 hW _ hwt hL _
  have hval : ∀ (j : Nat) t v, Tryd.f5.params[j]? = some t → args[j]? = some v → Value.okWide Tryd.prog W .any base t v := hval0
  have hW' := hW
  obtain ⟨p, q, hA0, hV, rfl, hfz, hnd⟩ := hW
  have hA : DataW.TrodAll enc Tryd.prog W 0 (fun _ => true) true Tryd.f5.params.toList args.toList ds p := hA0
  rw [Tryd.params5] at hA hval
  obtain ⟨v0, vs0, d0, ds0, p0, q0, hargs, rfl, rfl, h0, r0⟩ := trodAll_cons hA
  obtain ⟨v1, vs1, d1, ds1, p1, q1, rfl, rfl, rfl, h1, r1⟩ := trodAll_cons r0
  obtain ⟨rfl, rfl, rfl⟩ := trodAll_nil r1
  obtain rfl : args = #[v0, v1] := by cases args; simp_all
  obtain ⟨rfl, rfl⟩ := trodVars_none hV
  have k0 := h0
  have lt0 : ∀ x ∈ p0, x.block < W.heap.size := by obtain ⟨m, hm⟩ := k0; exact DataW.trod_lt m _ _ _ hm
  obtain ⟨A_0, n_0, c_0, l_0, rfl, hc_0, hk_0, hR_0⟩ := Pro.open_spans (hval 0 45 v0 rfl rfl) h0 (Pro.weights_arg (j := 0) hwt (by kernel_rfl) rfl)
  have k1 := h1
  have lt1 : ∀ x ∈ p1, x.block < W.heap.size := by obtain ⟨m, hm⟩ := k1; exact DataW.trod_lt m _ _ _ hm
  obtain ⟨A_1, n_1, c_1, l_1, rfl, hc_1, hk_1, hR_1⟩ := Pro.open_spans (hval 1 45 v1 rfl rfl) h1 (Pro.weights_arg (j := 1) hwt (by kernel_rfl) rfl)
  clear hA0 hval0
  refine (Pro.protoAgrees_walk A_0 n_0 c_0 l_0 A_1 n_1 c_1 l_1 W hc_0 hk_0 hR_0 hc_1 hk_1 hR_1 (Pro.tab_of_laid hL)).mono fun e W' ⟨he, bel⟩ => ?_
  subst he
  exact ⟨_, rfl, _, _, _, [], _, [], hW', trodAll_mk1 (shut_bool Tryd.underlying4 _), (trodAll_cons_mk (Below.trod laidOut (by kernel_rfl) (of_decide_eq_true (by kernel_rfl)) k0 bel lt0) (trodAll_cons_mk (Below.trod laidOut (by kernel_rfl) (of_decide_eq_true (by kernel_rfl)) k1 bel lt1) trodAll_mk0)), rfl, bel.frame _, fun h => by cases h⟩

theorem over : Rows.protoAgreesRow.holds Tryd.pinned (OpenSpec.ofChange Rows.protoAgreesSpec) :=
  OpenClaim.holds_of_wide 5 Tryd.f5 rfl rfl rfl rfl rfl rfl rfl ⟨rfl, rfl, rfl, rfl, rfl⟩ rfl rfl rfl rfl rfl (by kernel_rfl) Tryd.func5 (by kernel_rfl)
    (of_decide_eq_true (by kernel_rfl)) (by unfold Func.isWrapper; first | (rw [if_pos (by decide +kernel)]; kernel_rfl) | (rw [if_neg (by decide +kernel)]; exact ⟨rfl, rfl⟩))
    (fun os started H enc _ => lifted os started H enc)

theorem proved : Rows.ProtoAgreesCardSaid :=
  Claim7.holds_tied_plain_at .later [] [.data] true (true, "914bd8f4ba55f588f3411a616729fba77a27d8a54981671c67a2ae6954f02f7f") false
    over (fun _ h => by cases h) (by kernel_rfl) (fun _ h => by cases h) protoAgrees_row_tie rfl ⟨rfl, rfl⟩ (by kernel_rfl) rfl
    (fun f fn hf hfn => by
      obtain rfl : f = 5 := Option.some.inj ((show Tryd.prog.funcNamed "watermeet/watermeetlaw06.ProtoAgrees" = some 5 by kernel_rfl).symm.trans hf) |>.symm
      obtain rfl : fn = Tryd.f5 := (Option.some.inj (Tryd.func5.symm.trans hfn)).symm
      exact ⟨by kernel_rfl, fun j t ht => by
        rw [Tryd.params5] at ht
        have hm : t ∈ [45, 45] := by simpa using Array.mem_of_getElem? ht
        have hall : ([45, 45].all fun u => !Tryd.prog.wantsStandIn u) = true := by kernel_rfl
        exact (show Tryd.prog.wantsStandIn t = false by simpa using List.all_eq_true.1 hall t hm)⟩)
    (by kernel_rfl)
#print axioms proved
end Go.Proofs.YthhdhdjdhekgpaaDoor.protoAgrees
