/- What is saved is loaded, and with a byte changed nothing is, whatever the producers, the place and the byte; no condition but the package's own table.
-/
import Derived.Test.YtllebgadhhgckaaDoorJ48
import Derived.Test.YtllebgadhhgckaaDoorJ50
import Derived.Test.YtllebgadhhgckaaDoorJ01
import Derived.Test.YtllebgadhhgckaaDoorRows
import Derived.Test.YtllebgadhhgckaaDoorJ10
import Derived.ProofKit
import Derived.LaidMore
import Derived.OpenShut
import Derived.Stop.Joined
import Derived.Lib.LaidTab
import Derived.WalkKit
import Derived.ChangeOld
import Derived.Below
import Derived.Carry
import Derived.Test.YtllebgadhhgckaaDoorJ11
import Derived.Test.YtllebgadhhgckaaDoorJ09
import Derived.Test.YtllebgadhhgckaaDoorTie
import Derived.Test.YtllebgadhhgckaaDoorCards
import Derived.SevenTiedAt
/- The walk of SeqsBack. -/
namespace Go.Proofs.YtllebgadhhgckaaDoor.Sqs
open Go.RowKit Oct Rec Crc RowF RowK RowO Lay Bat InR
open Epo (At0 AtO belA wpList_app_run9)

theorem saveY_len {l : List Pd} (hC : ckP l = 0) : 4 ≤ (sealB (nb (numL l))).length ∧ (sealB (nb (numL l))).length ≤ 1000000 := by
  rw [sealB_length]
  have h1 := (ckP_iff.1 hC).1
  have h2 := flat_len (l := l) (fun p hp => (pd_parts hC hp).2.2.1)
  have h3 := nb_ten (l := numL l) (fun x hx => by
    rcases List.mem_cons.1 hx with rfl | hx
    · unfold W63; omega
    · obtain ⟨p, hp, hx⟩ := List.mem_flatMap.1 hx
      obtain ⟨k1, k2, k3, k4⟩ := pd_parts hC hp
      exact w63_p k1 k2 k3 k4 x hx)
  have h4 : (numL l).length = (l.flatMap numP).length + 1 := rfl
  omega
set_option maxRecDepth 100000 in
set_option maxHeartbeats 8000000 in
theorem seqsBack_walk (A : Option Addr) (n c : Nat) (l : List Pd) (at_ : Int) (by_ : UInt8) (w : World) (hc : n ≤ c) (hk : c ≤ reach) (hR : RdP w w.heap.size A n l) (_hi : I64 at_) (ht : Tab w) :
    Calls Tryd.prog 7 #[.slice A n c, .int .i64 at_, .int .u8 (by_.toNat : Int)] w fun e w' => e = .returned (.bool true) ∧ Below w.heap.size w w' := by
  have HT := Lib.hid ht
  have hn9 : n ≤ reach := Nat.le_trans hc hk
  have HP_0 := Lib.hid hR
  have HB0 := Lib.hid (Below.refl w.heap.size w)
  have HBN := Lib.hid (show by_ ≠ 0 ∨ by_ = 0 from (Classical.em (by_ = 0)).symm)
  clear hR hk ht
  obtain ⟨BY, hBY⟩ : ∃ z, by_.toNat = z := ⟨_, rfl⟩
  rw [hBY]
  have HBY := Lib.hid hBY
  clear hBY
  go_enter Tryd.func7, Tryd.ntmps7
  rcases hz1 : fewP l with _ | _
  case false =>
    have HZ1 := Lib.hid hz1
    clear hz1
    go_wp2_with (first
      | (go_at_call 12; have HLK := Lib.hid (liveS_any _ (HT.out.bel HB0.out)); (with_reducible refine HLK.out.mono ?_); clear HLK; rintro e wk1 ⟨rfl, hb⟩; have HB1 := Lib.hid (Epo.bel_trans HB0.out hb); have HP_1 := Lib.hid (rdkUp HP_0.out hb); clear hb)
      | (go_at_call 24; have HLK := Lib.hid (rFewP_is A n c l wk1 HP_1.out (by omega) HZ1.out); (with_reducible refine HLK.out.mono ?_); clear HLK; rintro e w9 ⟨rfl, rfl⟩; skip))
    go_ret
    exact ⟨rfl, HB1.out⟩
  have HZ1 := Lib.hid hz1
  clear hz1
  obtain ⟨C, hC⟩ : ∃ C, ckP l = C := ⟨_, rfl⟩
  have HC := Lib.hid hC
  by_cases hC0 : C = 0
  case neg =>
    have HS := Lib.hid (show saveP l = ([], C) from by unfold saveP; rw [hC, if_neg hC0])
    have g1 : (C == 0) = false := beq_eq_false_iff_ne.2 hC0
    have g2 : (C != 0) = true := by simp [hC0]
    clear hC0 hC
    go_wp2_with (first
      | (go_at_call 12; have HLK := Lib.hid (liveS_any _ (HT.out.bel HB0.out)); (with_reducible refine HLK.out.mono ?_); clear HLK; rintro e wk1 ⟨rfl, hb⟩; have HB1 := Lib.hid (Epo.bel_trans HB0.out hb); have HP_1 := Lib.hid (rdkUp HP_0.out hb); clear hb)
      | (go_at_call 24; have HLK := Lib.hid (rFewP_is A n c l wk1 HP_1.out (by omega) HZ1.out); (with_reducible refine HLK.out.mono ?_); clear HLK; rintro e w9 ⟨rfl, rfl⟩; skip)
      | (go_at_call 25; have HLK := Lib.hid (dSave_is A n c l _ HP_1.out (by omega) (HT.out.bel HB1.out) HS.out); (with_reducible refine HLK.out.mono ?_); clear HLK; rintro e wk2 ⟨AX, nX, cX, rfl, ho, hb⟩; obtain rfl : 0 = nX := ho.len; clear ho; have HB2 := Lib.hid (Epo.bel_trans HB1.out hb); have HP_2 := Lib.hid (rdkUp HP_1.out hb); clear hb)
      | (go_at_call 16; have HLK := Lib.hid (dCheckP_is A n c l _ HP_2.out (by omega) HC.out); (with_reducible refine HLK.out.mono ?_); clear HLK; rintro e wk3 ⟨rfl, hb⟩; have HB3 := Lib.hid (Epo.bel_trans HB2.out hb); have HP_3 := Lib.hid (rdkUp HP_2.out hb); clear hb))
    go_ret
    exact ⟨rfl, HB3.out⟩
  subst hC0
  have HS := Lib.hid (show saveP l = (sealB (nb (numL l)), 0) from by unfold saveP; rw [if_pos hC])
  have HYL := Lib.hid (saveY_len hC)
  have HY := Lib.hid (show ∀ j d e, (sealB (nb (numL l)))[j]? = some d → d ≠ e → openB ((sealB (nb (numL l))).set j e) = ([], 20) from fun j d e hd hne => spoilt_open hd hne)
  obtain ⟨Y, hYe⟩ : ∃ Y, sealB (nb (numL l)) = Y := ⟨_, rfl⟩
  have HYE := Lib.hid hYe.symm
  rw [hYe] at HS HYL HY
  clear hC hYe
  go_upto_region 10 with (first
    | (go_at_call 12; have HLK := Lib.hid (liveS_any _ (HT.out.bel HB0.out)); (with_reducible refine HLK.out.mono ?_); clear HLK; rintro e wk1 ⟨rfl, hb⟩; have HB1 := Lib.hid (Epo.bel_trans HB0.out hb); have HP_1 := Lib.hid (rdkUp HP_0.out hb); clear hb)
    | (go_at_call 24; have HLK := Lib.hid (rFewP_is A n c l wk1 HP_1.out (by omega) HZ1.out); (with_reducible refine HLK.out.mono ?_); clear HLK; rintro e w9 ⟨rfl, rfl⟩; skip)
    | (go_at_call 25; have HLK := Lib.hid (dSave_is A n c l _ HP_1.out (by omega) (HT.out.bel HB1.out) HS.out); (with_reducible refine HLK.out.mono ?_); clear HLK; rintro e wk2 ⟨AX, nX, cX, rfl, ho, hb⟩; have HX_2 := Lib.hid ho; have HNX := Lib.hid (show Y.length = nX from ho.len); have HCX := Lib.hid ho.cap; clear ho; have HB2 := Lib.hid (Epo.bel_trans HB1.out hb); have HP_2 := Lib.hid (rdkUp HP_1.out hb); clear hb))
  go_upto_region 11 with (first
    | (go_at_call 27; have HLK := Lib.hid (load_ok AX nX cX l Y _ _ HX_2.out.rd (Nat.le_refl _) HCX.out (by have := HNX.out; have := HYL.out; omega) (HT.out.bel HB2.out) HC.out HYE.out); (with_reducible refine HLK.out.mono ?_); clear HLK; rintro e wk3 ⟨AL, nL, cL, hsL, rfl, ho, hm, hb⟩; have HM_3 := Lib.hid (show RdP wk3 wk3.heap.size AL nL l from by have h9 := OwnO.rd ho; rw [hm] at h9; exact h9); clear ho hm hsL; have HX_3 := Lib.hid (HX_2.out.below hb); have HB3 := Lib.hid (Epo.bel_trans HB2.out hb); have HP_3 := Lib.hid (rdkUp HP_2.out hb); clear hb))
  go_upto_region 12 with (first
    | (go_at_call 20; have HLK := Lib.hid (rSameP_yes A AL n c nL cL l _ HP_3.out HM_3.out (by omega)); (with_reducible refine HLK.out.mono ?_); clear HLK; rintro e wk4 ⟨rfl, hb⟩; have HX_4 := Lib.hid (HX_3.out.below hb); have HB4 := Lib.hid (Epo.bel_trans HB3.out hb); have HP_4 := Lib.hid (rdkUp HP_3.out hb); have HM_4 := Lib.hid (rdkUp HM_3.out hb); clear hb))
  have hn4 : ¬ (nX : Int) < 4 := by have := HNX.out; have := HYL.out; omega
  go_upto_region 14 with fail
  clear hn4
  by_cases h0 : BY = 0
  · subst h0
    go_wp2
    go_ret
    exact ⟨rfl, HB4.out⟩
  have g0 : ((BY : Int) == 0) = false := beq_eq_false_iff_ne.2 (by omega)
  have HBN0 := Lib.hid h0
  clear h0
  by_cases h1 : at_ < 0
  · go_wp2
    go_ret
    exact ⟨rfl, HB4.out⟩
  by_cases h2 : (nX : Int) ≤ at_
  · go_wp2
    go_ret
    exact ⟨rfl, HB4.out⟩
  obtain ⟨i, rfl⟩ : ∃ i : Nat, at_ = (i : Int) := ⟨at_.toNat, by omega⟩
  obtain ⟨d, hd⟩ : ∃ d, Y[i]? = some d := ⟨_, List.getElem?_eq_getElem (by have := HNX.out; omega)⟩
  obtain ⟨e9, he9⟩ : ∃ e, d ^^^ by_ = e := ⟨_, rfl⟩
  have hde : d ≠ e9 := by rw [← he9]; exact xor_ne (fun h9 => HBN0.out (by rw [← HBY.out, h9]; rfl))
  have hxor : bits .xor .u8 (d.toNat : Int) (BY : Int) = (e9.toNat : Int) := by rw [← HBY.out, ← he9]; exact xor_u8 d by_
  have HOP := Lib.hid (HY.out i d e9 hd hde)
  have hX0 : 0 < nX := by omega
  have hd255 : d.toNat ≤ 255 := by have := d.toNat_lt; omega
  obtain ⟨A7, c7, w7, hrun, ho7, hb⟩ := copyB_run (B0 := wk4.heap.size) wk4 HX_4.out.rd (Nat.le_refl _) (by have := HNX.out; have := HYL.out; omega)
  have HW7 := Lib.hid (Epo.bel_trans HB4.out hb)
  obtain ⟨g7, rfl, hg7⟩ := bform ho7 hX0
  obtain ⟨hcell7, hfz7⟩ := bcell ho7 hd
  obtain ⟨hst7, hbe7⟩ := bput (j := i) ho7 hg7 e9
  have HO8 := Lib.hid hst7
  have HW8 := Lib.hid (HW7.out.trans (hbe7.mono HB4.out.size))
  clear hst7 hbe7 hb ho7 hg7
  have hi0 : (0 : Int) ≤ (i : Int) := by omega
  have hi1 : (i : Int) < (nX : Int) := by omega
  go_upto_region 17 with (at_builtin; refine wpList_app_run9 rfl _ _ 39 rfl rfl rfl hrun ?_)
  go_upto_region 18 with fail
  clear hcell7 hfz7 hrun hxor hi0 hi1 hd he9
  generalize (w7.setCell ⟨g7, i, none⟩ (.int .u8 (e9.toNat : Int))) = WA at *
  have HNS := Lib.hid (show nX ≤ 1000000 from by have := HNX.out; have := HYL.out; omega)
  clear h1 h2 g0
  go_wp2_with (first
    | (go_at_call 27; have HLK := Lib.hid (load_err (some ⟨g7, 0, none⟩) nX c7 (Y.set i e9) [] WA.heap.size WA HO8.out.rd (Nat.le_refl _) HO8.out.cap HNS.out (HT.out.bel HW8.out) HOP.out (by decide)); (with_reducible refine HLK.out.mono ?_); clear HLK; rintro e wb ⟨AE, nE, cE, hsE, rfl, ho, hm, hb⟩; obtain rfl : nE = 0 := (by have h9 := ho.len; have h8 := congrArg List.length hm; rw [List.length_map] at h8; rw [← h9, h8]; rfl); have HW9 := Lib.hid (Epo.bel_trans HW8.out hb); have HO9 := Lib.hid (HO8.out.below hb); clear ho hm hb)
    | (go_at_call 29; have HLK := Lib.hid (Open_any (some ⟨g7, 0, none⟩) nX c7 (Y.set i e9) wb.heap.size wb HO9.out.rd (Nat.le_refl _) HO9.out.cap (by have := HNS.out; omega) (HT.out.bel HW9.out)); rw [HOP.out] at HLK; (with_reducible refine HLK.out.mono ?_); clear HLK; rintro e wc ⟨AF, nF, cF, rfl, ho, hb⟩; have HWa := Lib.hid (Epo.bel_trans HW9.out hb); clear ho hb))
  go_ret
  exact ⟨rfl, HWa.out⟩
end Go.Proofs.YtllebgadhhgckaaDoor.Sqs

/- The package's table as the row lists it: what the walks ask, and that the program's own start meets it. -/
namespace Go.Proofs.YtllebgadhhgckaaDoor.Crc
open Go.ChangeShapes Go.WideShapes Go.ChangeAt Go.RowKit

abbrev listed : List (String × DataW Unit) := [("watermeet/crc.steps", Rows.laid_watermeet_crc_steps)]
theorem gSteps : Tryd.prog.globalNamed "watermeet/crc.steps" = some 0 := by kernel_rfl
theorem tSteps : (Tryd.prog.globals[0]?).map (·.type) = some 109 := by kernel_rfl
theorem door_met (os : Os) (args : Array Value) : laidMetH Tryd.prog listed ((World.doorLaid Tryd.prog 400 os).forCall (fun _ _ => 0) ⟨#[], args, []⟩).memory :=
  laidMetH_of_parts3 (fuel := 8) (laidMet_of_run' 8 (by kernel_rfl) (by kernel_rfl)) (by kernel_rfl) (by kernel_rfl)
theorem tab_of_laid {W : World} (h : laidMetH Tryd.prog listed W) : Tab W := by
  rw [MakeChecks.laidMetH_plain _ _ _ (by kernel_rfl)] at h
  have hT : Lib.TabIs Tryd.prog W "watermeet/crc.steps" .u32 (tab.map fun n : Nat => (n : Int)) := Lib.tabIs_of_head gSteps tSteps Tryd.underlying109 Tryd.underlying84 (by kernel_rfl) (by kernel_rfl) h
  intro i hi
  have h1 := hT.cell gSteps i (by show i < 16; exact hi)
  rw [h1]
  congr 2
  simp only [List.getD_eq_getElem?_getD, List.getElem?_map]
  have h2 : i < tab.length := hi
  rw [List.getElem?_eq_getElem h2]
  rfl
end Go.Proofs.YtllebgadhhgckaaDoor.Crc

namespace Go.Proofs.YtllebgadhhgckaaDoor.seqsBack
open Go.ChangeShapes Go.WideShapes Go.ChangeAt Go.RowKit

theorem own : ownKnob Tryd.prog.godebug = none := by kernel_rfl
theorem laidOut : laidOutB Tryd.prog = true := by kernel_rfl

set_option maxRecDepth 100000 in
theorem lifted (os : Os) (started : os.Started) (H : Type) (enc : TypeId × Value → H) :
    ReturnsInHanded {} Tryd.checked os 7 .any (fun w args => (Rows.seqsBackSpec.pre enc Tryd.prog Tryd.f7 [] false w args ∧ laidMetH Tryd.prog Crc.listed w) ∧ sizedMet enc Tryd.prog Tryd.f7 (OpenSpec.ofChange Rows.seqsBackSpec) false w args)
      (Rows.seqsBackSpec.post enc Tryd.prog Tryd.f7 false true false false) := by
  refine returnsInHanded_of_change_and (C := Tryd.checked) (X := fun w _ => laidMetH Tryd.prog Crc.listed w) (fun _ _ _ hh h => h.of_heap hh) own started (by kernel_rfl) Tryd.func7
    (ChangeSpec.witness_shaped (enc := enc) (C := Tryd.checked) (os := os) (X := fun w _ => laidMetH Tryd.prog Crc.listed w) false (World.doorLaid Tryd.prog 400 os) #[.slice none 0 0, .int .i64 0, .int .u8 0] 8 rfl (World.shaped_of_RefB (by kernel_rfl) (by kernel_rfl)) (by kernel_rfl) (by kernel_rfl) (by kernel_rfl) (Crc.door_met os _)) ?_
  intro W base args ds gs before hval0 hW _ hwt hL _
  have hval : ∀ (j : Nat) t v, Tryd.f7.params[j]? = some t → args[j]? = some v → Value.okWide Tryd.prog W .any base t v := hval0
  have hW' := hW
  obtain ⟨p, q, hA0, hV, rfl, hfz, hnd⟩ := hW
  have hA : DataW.TrodAll enc Tryd.prog W 0 (fun _ => true) true Tryd.f7.params.toList args.toList ds p := hA0
  rw [Tryd.params7] at hA hval
  obtain ⟨v0, vs0, d0, ds0, p0, q0, hargs, rfl, rfl, h0, r0⟩ := trodAll_cons hA
  obtain ⟨v1, vs1, d1, ds1, p1, q1, rfl, rfl, rfl, h1, r1⟩ := trodAll_cons r0
  obtain ⟨v2, vs2, d2, ds2, p2, q2, rfl, rfl, rfl, h2, r2⟩ := trodAll_cons r1
  obtain ⟨rfl, rfl, rfl⟩ := trodAll_nil r2
  obtain rfl : args = #[v0, v1, v2] := by cases args; simp_all
  obtain ⟨rfl, rfl⟩ := trodVars_none hV
  have k0 := h0
  have lt0 : ∀ x ∈ p0, x.block < W.heap.size := by obtain ⟨m, hm⟩ := k0; exact DataW.trod_lt m _ _ _ hm
  obtain ⟨A_0, n_0, c_0, l_0, rfl, hc_0, hk_0, hR_0⟩ := Sqs.open_prods (hval 0 22 v0 rfl rfl) h0 (Bat.weights_arg (j := 0) hwt (by kernel_rfl) rfl)
  have k1 := h1
  have lt1 : ∀ x ∈ p1, x.block < W.heap.size := by obtain ⟨m, hm⟩ := k1; exact DataW.trod_lt m _ _ _ hm
  obtain ⟨a1, rfl, hi1⟩ := Oct.open_i64 Tryd.underlying3 (hval 1 3 v1 rfl rfl) h1
  have k2 := h2
  have lt2 : ∀ x ∈ p2, x.block < W.heap.size := by obtain ⟨m, hm⟩ := k2; exact DataW.trod_lt m _ _ _ hm
  obtain ⟨a2, rfl⟩ := Oct.open_u8 Tryd.underlying5 (hval 2 5 v2 rfl rfl) h2
  clear hA0 hval0
  refine (Sqs.seqsBack_walk A_0 n_0 c_0 l_0 a1 a2 W hc_0 hk_0 hR_0 hi1 (Crc.tab_of_laid hL)).mono fun e W' ⟨he, bel⟩ => ?_
  subst he
  exact ⟨_, rfl, _, _, _, [], _, [], hW', trodAll_mk1 (shut_bool Tryd.underlying4 _), (trodAll_cons_mk (Below.trod laidOut (by kernel_rfl) (of_decide_eq_true (by kernel_rfl)) k0 bel lt0) (trodAll_cons_mk (Below.trod laidOut (by kernel_rfl) (of_decide_eq_true (by kernel_rfl)) k1 bel lt1) (trodAll_cons_mk (Below.trod laidOut (by kernel_rfl) (of_decide_eq_true (by kernel_rfl)) k2 bel lt2) trodAll_mk0))), rfl, bel.frame _, fun h => by cases h⟩

theorem over : Rows.seqsBackRow.holds Tryd.pinned (OpenSpec.ofChange Rows.seqsBackSpec) :=
  OpenClaim.holds_of_wide 7 Tryd.f7 rfl rfl rfl rfl rfl rfl rfl ⟨rfl, rfl, rfl, rfl, rfl⟩ rfl rfl rfl rfl rfl (by kernel_rfl) Tryd.func7 (by kernel_rfl)
    (of_decide_eq_true (by kernel_rfl)) (by unfold Func.isWrapper; first | (rw [if_pos (by decide +kernel)]; kernel_rfl) | (rw [if_neg (by decide +kernel)]; exact ⟨rfl, rfl⟩))
    (fun os started H enc _ => lifted os started H enc)

theorem proved : Rows.SeqsBackCardSaid :=
  Claim7.holds_tied_plain_at .later [] [.data] true (true, "934c4175c22cf6ebd5c5bb7cfcef1248a1d87827f8534c5a344dee36c2a0e337") false
    over (fun _ h => by cases h) (by kernel_rfl) (fun _ h => by cases h) seqsBack_row_tie rfl ⟨rfl, rfl⟩ (by kernel_rfl) rfl
    (fun f fn hf hfn => by
      obtain rfl : f = 7 := Option.some.inj ((show Tryd.prog.funcNamed "watermeet/watermeetlaw11.SeqsBack" = some 7 by kernel_rfl).symm.trans hf) |>.symm
      obtain rfl : fn = Tryd.f7 := (Option.some.inj (Tryd.func7.symm.trans hfn)).symm
      exact ⟨by kernel_rfl, fun j t ht => by
        rw [Tryd.params7] at ht
        have hm : t ∈ [22, 3, 5] := by simpa using Array.mem_of_getElem? ht
        have hall : ([22, 3, 5].all fun u => !Tryd.prog.wantsStandIn u) = true := by kernel_rfl
        exact (show Tryd.prog.wantsStandIn t = false by simpa using List.all_eq_true.1 hall t hm)⟩)
    (by kernel_rfl)
#print axioms proved
end Go.Proofs.YtllebgadhhgckaaDoor.seqsBack
