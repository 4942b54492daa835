/- What was written is there, and written again it changes nothing, whatever the producers and the batch; no condition but the package's own table.
-/
import Derived.Test.YtllebgadhhgckaaDoorJ48
import Derived.Test.YtllebgadhhgckaaDoorJ49
import Derived.Test.YtllebgadhhgckaaDoorJ09
import Derived.Test.YtllebgadhhgckaaDoorRows
import Derived.Test.YtllebgadhhgckaaDoorJ10
import Derived.ProofKit
import Derived.LaidMore
import Derived.OpenShut
import Derived.Stop.Joined
import Derived.Lib.LaidTab
import Derived.WalkKit
import Derived.ChangeOld
import Derived.Below
import Derived.Carry
import Derived.Test.YtllebgadhhgckaaDoorJ01
import Derived.Test.YtllebgadhhgckaaDoorJ11
import Derived.Test.YtllebgadhhgckaaDoorTie
import Derived.Test.YtllebgadhhgckaaDoorCards
import Derived.SevenTiedAt
/- The walk of SeqsTwice. -/
namespace Go.Proofs.YtllebgadhhgckaaDoor.Sqs
open Go.RowKit Oct Rec Crc RowF RowK RowO Lay Bat InR
open Epo (At0 AtO belA)

set_option maxRecDepth 100000 in
set_option maxHeartbeats 8000000 in
theorem seqsTwice_walk (A : Option Addr) (n c : Nat) (l : List Pd) (bab lab frb epb pib geb seb : Int) (txb : Bool) (ctb : Int) (ARb : Option Addr) (nRb cRb : Nat) (rsb : List Rc) (w : World) (hc : n ≤ c) (hk : c ≤ reach) (hR : RdP w w.heap.size A n l) (hfnb : FitN ⟨bab, lab, frb, epb, pib, geb, seb, txb, ctb, rsb⟩) (hcb : nRb ≤ cRb) (hkb : cRb ≤ reach) (hRb : Lay.RdL w w.heap.size ARb nRb rsb) (ht : Tab w) :
    Calls Tryd.prog 9 #[.slice A n c, .agg #[.int .i64 bab, .int .i64 lab, .int .i64 frb, .int .i64 epb, .int .i64 pib, .int .i64 geb, .int .i64 seb, .bool txb, .int .i64 ctb, .slice ARb nRb cRb]] w fun e w' => e = .returned (.bool true) ∧ Below w.heap.size w w' := by
  have HT := Lib.hid ht
  have hn9 : n ≤ reach := Nat.le_trans hc hk
  have HFNb := Lib.hid hfnb
  have HFITb := Lib.hid (RdL_fit hRb)
  have HNRb := Lib.hid (Nat.le_trans hcb hkb)
  have HRRb := Lib.hid (RdL_recs hRb)
  have HPP := Lib.hid hR
  clear hR hk ht hfnb hkb hRb
  go_enter Tryd.func9, Tryd.ntmps9
  go_upto_region 1 with fail
  have HB0 := Lib.hid (Epo.bel_trans (Below.refl w.heap.size w) (belA w (.cells #[.int .i64 bab, .int .i64 lab, .int .i64 frb, .int .i64 epb, .int .i64 pib, .int .i64 geb, .int .i64 seb, .bool txb, .int .i64 ctb, .slice ARb nRb cRb] 25)))
  have HP_0 := Lib.hid (rdkUp HPP.out HB0.out)
  have HRRb_0 := Lib.hid (rdrUp9 HRRb.out HB0.out)
  have HATb_0 := Lib.hid (At0.new w [.int .i64 bab, .int .i64 lab, .int .i64 frb, .int .i64 epb, .int .i64 pib, .int .i64 geb, .int .i64 seb, .bool txb, .int .i64 ctb, .slice ARb nRb cRb] 25)
  clear HPP HRRb
  generalize (w.alloc (.cells #[.int .i64 bab, .int .i64 lab, .int .i64 frb, .int .i64 epb, .int .i64 pib, .int .i64 geb, .int .i64 seb, .bool txb, .int .i64 ctb, .slice ARb nRb cRb] 25)) = wk0 at *
  obtain ⟨qb0, qb1, qb2, qb3, qb4, qb5, qb6, qb7, qb8, qb9⟩ := cel10 HATb_0.out
  rcases hz1 : fewP l with _ | _ <;> rcases hz2 : fewT ⟨bab, lab, frb, epb, pib, geb, seb, txb, ctb, rsb⟩ with _ | _
  case true.true =>
    have HZ1 := Lib.hid hz1
    have HZ2 := Lib.hid hz2
    have hfw := fewT_iff hz2
    simp only at hfw
    have HFTb := Lib.hid (fits_of HFNb.out HFITb.out hz2)
    have HNBb := Lib.hid (show nRb ≤ 1099511627776 from by have := HRRb_0.out.len; omega)
    clear hz1 hz2 hfw
    rcases hX : putP l ⟨bab, lab, frb, epb, pib, geb, seb, txb, ctb, rsb⟩ with ⟨X, E⟩
    have HX := Lib.hid hX
    clear hX
    go_upto_region 7 with (first
      | (go_at_call 12; have HLK := Lib.hid (liveS_any _ (HT.out.bel HB0.out)); (with_reducible refine HLK.out.mono ?_); clear HLK; rintro e wk1 ⟨rfl, hb⟩; have HB1 := Lib.hid (Epo.bel_trans HB0.out hb); have HP_1 := Lib.hid (rdkUp HP_0.out hb); have HRRb_1 := Lib.hid (rdrUp9 HRRb_0.out hb); have HATb_1 := Lib.hid (HATb_0.out.below hb); clear qb0 qb1 qb2 qb3 qb4 qb5 qb6 qb7 qb8 qb9; obtain ⟨qb0, qb1, qb2, qb3, qb4, qb5, qb6, qb7, qb8, qb9⟩ := cel10 HATb_1.out; clear hb)
      | (go_at_call 13; have HLK := Lib.hid (few11_is A n c l bab lab frb epb pib geb seb txb ctb rsb ARb nRb cRb _ HP_1.out (by omega) HRRb_1.out HFITb.out HNRb.out HZ1.out HZ2.out); (with_reducible refine HLK.out.mono ?_); clear HLK; rintro e wk2 ⟨rfl, hb⟩; have HB2 := Lib.hid (Epo.bel_trans HB1.out hb); have HP_2 := Lib.hid (rdkUp HP_1.out hb); have HRRb_2 := Lib.hid (rdrUp9 HRRb_1.out hb); have HATb_2 := Lib.hid (HATb_1.out.below hb); clear qb0 qb1 qb2 qb3 qb4 qb5 qb6 qb7 qb8 qb9; obtain ⟨qb0, qb1, qb2, qb3, qb4, qb5, qb6, qb7, qb8, qb9⟩ := cel10 HATb_2.out; clear hb)
      | (go_at_call 18; have HLK := Lib.hid (dPut_is A n c l bab lab frb epb pib geb seb txb ctb rsb ARb nRb cRb _ HP_2.out (by omega) HFTb.out HRRb_2.out HNBb.out (HT.out.bel HB2.out) HX.out); (with_reducible refine HLK.out.mono ?_); clear HLK; rintro e wk3 ⟨AHM, nHM, cHM, hsHM, rfl, ho, hm, hb⟩; have HM_3 := Lib.hid (show RdP wk3 wk3.heap.size AHM nHM X from by have h9 := OwnO.rd ho; rw [hm] at h9; exact h9); have HNHM := Lib.hid (show X.length = nHM from RdK.len HM_3.out); clear ho hm hsHM; have HB3 := Lib.hid (Epo.bel_trans HB2.out hb); have HP_3 := Lib.hid (rdkUp HP_2.out hb); have HRRb_3 := Lib.hid (rdrUp9 HRRb_2.out hb); have HATb_3 := Lib.hid (HATb_2.out.below hb); clear qb0 qb1 qb2 qb3 qb4 qb5 qb6 qb7 qb8 qb9; obtain ⟨qb0, qb1, qb2, qb3, qb4, qb5, qb6, qb7, qb8, qb9⟩ := cel10 HATb_3.out; clear hb))
    by_cases hE : E = 0
    case neg =>
      have g1 : (E == 0) = false := beq_eq_false_iff_ne.2 hE
      have g2 : (E != 0) = true := by simp [hE]
      obtain rfl := put_err HX.out hE
      obtain rfl : 0 = nHM := HNHM.out
      clear hE
      go_wp2
      go_ret
      exact ⟨rfl, HB3.out⟩
    subst hE
    have HCAPHM := Lib.hid (show X.length ≤ 1024 from (ckP_iff.1 (put_ok HX.out)).1)
    have HCK := Lib.hid (put_ok HX.out)
    obtain ⟨x1, was, base, there, hl1, hl2, hp2, ht1, ht2⟩ := twice HX.out
    have HL1 := Lib.hid hl1
    have HL2 := Lib.hid hl2
    have HP2 := Lib.hid hp2
    have HT1 := Lib.hid ht1
    have HT2 := Lib.hid ht2
    clear hl1 hl2 hp2 ht1 ht2
    go_upto_region 10 with (first
      | (go_at_call 14; have HLK := Lib.hid (dLook_is A n c l bab lab frb epb pib geb seb txb ctb rsb ARb nRb cRb _ HP_3.out (by omega) HFTb.out HRRb_3.out HNBb.out (HT.out.bel HB3.out) HL1.out); (with_reducible refine HLK.out.mono ?_); clear HLK; rintro e wk4 ⟨rfl, hb⟩; have HB4 := Lib.hid (Epo.bel_trans HB3.out hb); have HP_4 := Lib.hid (rdkUp HP_3.out hb); have HM_4 := Lib.hid (rdkUp HM_3.out hb); have HRRb_4 := Lib.hid (rdrUp9 HRRb_3.out hb); have HATb_4 := Lib.hid (HATb_3.out.below hb); clear qb0 qb1 qb2 qb3 qb4 qb5 qb6 qb7 qb8 qb9; obtain ⟨qb0, qb1, qb2, qb3, qb4, qb5, qb6, qb7, qb8, qb9⟩ := cel10 HATb_4.out; clear hb))
    go_upto_region 11 with (first
      | (go_at_call 14; have HLK := Lib.hid (dLook_is AHM nHM cHM X bab lab frb epb pib geb seb txb ctb rsb ARb nRb cRb _ HM_4.out (by exact Nat.le_trans (show nHM ≤ 1024 by have := HNHM.out; have := HCAPHM.out; omega) (by decide)) HFTb.out HRRb_4.out HNBb.out (HT.out.bel HB4.out) HL2.out); (with_reducible refine HLK.out.mono ?_); clear HLK; rintro e wk5 ⟨rfl, hb⟩; have HB5 := Lib.hid (Epo.bel_trans HB4.out hb); have HP_5 := Lib.hid (rdkUp HP_4.out hb); have HM_5 := Lib.hid (rdkUp HM_4.out hb); have HRRb_5 := Lib.hid (rdrUp9 HRRb_4.out hb); have HATb_5 := Lib.hid (HATb_4.out.below hb); clear qb0 qb1 qb2 qb3 qb4 qb5 qb6 qb7 qb8 qb9; obtain ⟨qb0, qb1, qb2, qb3, qb4, qb5, qb6, qb7, qb8, qb9⟩ := cel10 HATb_5.out; clear hb))
    go_upto_region 12 with (first
      | (go_at_call 18; have HLK := Lib.hid (dPut_is AHM nHM cHM X bab lab frb epb pib geb seb txb ctb rsb ARb nRb cRb _ HM_5.out (by exact Nat.le_trans (show nHM ≤ 1024 by have := HNHM.out; have := HCAPHM.out; omega) (by decide)) HFTb.out HRRb_5.out HNBb.out (HT.out.bel HB5.out) HP2.out); (with_reducible refine HLK.out.mono ?_); clear HLK; rintro e wk6 ⟨AHN9, nHN9, cHN9, hsHN9, rfl, ho, hm, hb⟩; have HN9_6 := Lib.hid (show RdP wk6 wk6.heap.size AHN9 nHN9 X from by have h9 := OwnO.rd ho; rw [hm] at h9; exact h9); have HNHN9 := Lib.hid (show X.length = nHN9 from RdK.len HN9_6.out); clear ho hm hsHN9; have HB6 := Lib.hid (Epo.bel_trans HB5.out hb); have HP_6 := Lib.hid (rdkUp HP_5.out hb); have HM_6 := Lib.hid (rdkUp HM_5.out hb); have HRRb_6 := Lib.hid (rdrUp9 HRRb_5.out hb); have HATb_6 := Lib.hid (HATb_5.out.below hb); clear qb0 qb1 qb2 qb3 qb4 qb5 qb6 qb7 qb8 qb9; obtain ⟨qb0, qb1, qb2, qb3, qb4, qb5, qb6, qb7, qb8, qb9⟩ := cel10 HATb_6.out; clear hb))
    go_upto_region 13 with (first
      | (go_at_call 20; have HLK := Lib.hid (rSameP_yes AHM AHN9 nHM cHM nHN9 cHN9 X _ HM_6.out HN9_6.out (by exact Nat.le_trans (show nHM ≤ 1024 by have := HNHM.out; have := HCAPHM.out; omega) (by decide))); (with_reducible refine HLK.out.mono ?_); clear HLK; rintro e wk7 ⟨rfl, hb⟩; have HB7 := Lib.hid (Epo.bel_trans HB6.out hb); have HP_7 := Lib.hid (rdkUp HP_6.out hb); have HM_7 := Lib.hid (rdkUp HM_6.out hb); have HN9_7 := Lib.hid (rdkUp HN9_6.out hb); have HRRb_7 := Lib.hid (rdrUp9 HRRb_6.out hb); have HATb_7 := Lib.hid (HATb_6.out.below hb); clear qb0 qb1 qb2 qb3 qb4 qb5 qb6 qb7 qb8 qb9; obtain ⟨qb0, qb1, qb2, qb3, qb4, qb5, qb6, qb7, qb8, qb9⟩ := cel10 HATb_7.out; clear hb))
    go_upto_region 15 with (first
      | (go_at_call 16; have HLK := Lib.hid (dCheckP_is AHM nHM cHM X _ HM_7.out (by exact Nat.le_trans (show nHM ≤ 1024 by have := HNHM.out; have := HCAPHM.out; omega) (by decide)) HCK.out); (with_reducible refine HLK.out.mono ?_); clear HLK; rintro e wk8 ⟨rfl, hb⟩; have HB8 := Lib.hid (Epo.bel_trans HB7.out hb); have HP_8 := Lib.hid (rdkUp HP_7.out hb); have HM_8 := Lib.hid (rdkUp HM_7.out hb); have HN9_8 := Lib.hid (rdkUp HN9_7.out hb); have HRRb_8 := Lib.hid (rdrUp9 HRRb_7.out hb); have HATb_8 := Lib.hid (HATb_7.out.below hb); clear qb0 qb1 qb2 qb3 qb4 qb5 qb6 qb7 qb8 qb9; obtain ⟨qb0, qb1, qb2, qb3, qb4, qb5, qb6, qb7, qb8, qb9⟩ := cel10 HATb_8.out; clear hb))
    by_cases hpi : pib < 0
    case pos =>
      have h1 := HT1.out (.inl hpi)
      subst h1
      go_wp2
      go_ret
      exact ⟨rfl, HB8.out⟩
    by_cases hct : ctb = 0
    case neg =>
      have h1 := HT1.out (.inr hct)
      have g1 : (ctb == 0) = false := beq_eq_false_iff_ne.2 hct
      have g2 : (ctb != 0) = true := by simp [hct]
      subst h1
      clear hct
      go_wp2
      go_ret
      exact ⟨rfl, HB8.out⟩
    obtain ⟨h1, h2⟩ := HT2.out (fun h9 => h9.elim hpi (fun h8 => h8 hct))
    subst h1
    have g1 : (ctb == 0) = true := beq_iff_eq.2 hct
    have g2 : (ctb != 0) = false := by rw [hct]; rfl
    clear hct
    cases was with
    | true =>
      go_wp2
      go_ret
      exact ⟨rfl, HB8.out⟩
    | false =>
      have g3 : (base == bab) = true := beq_iff_eq.2 (h2.elim (fun h9 => by cases h9) id)
      clear h2
      go_wp2
      go_ret
      exact ⟨rfl, HB8.out⟩
  all_goals
    have HZ1 := Lib.hid hz1
    have HZ2 := Lib.hid hz2
    clear hz1 hz2
    go_wp2_with (first
      | (go_at_call 12; have HLK := Lib.hid (liveS_any _ (HT.out.bel HB0.out)); (with_reducible refine HLK.out.mono ?_); clear HLK; rintro e wk1 ⟨rfl, hb⟩; have HB1 := Lib.hid (Epo.bel_trans HB0.out hb); have HP_1 := Lib.hid (rdkUp HP_0.out hb); have HRRb_1 := Lib.hid (rdrUp9 HRRb_0.out hb); have HATb_1 := Lib.hid (HATb_0.out.below hb); clear qb0 qb1 qb2 qb3 qb4 qb5 qb6 qb7 qb8 qb9; obtain ⟨qb0, qb1, qb2, qb3, qb4, qb5, qb6, qb7, qb8, qb9⟩ := cel10 HATb_1.out; clear hb)
      | (go_at_call 13; have HLK := Lib.hid (few11_is A n c l bab lab frb epb pib geb seb txb ctb rsb ARb nRb cRb _ HP_1.out (by omega) HRRb_1.out HFITb.out HNRb.out HZ1.out HZ2.out); (with_reducible refine HLK.out.mono ?_); clear HLK; rintro e wk2 ⟨rfl, hb⟩; have HB2 := Lib.hid (Epo.bel_trans HB1.out hb); have HP_2 := Lib.hid (rdkUp HP_1.out hb); have HRRb_2 := Lib.hid (rdrUp9 HRRb_1.out hb); have HATb_2 := Lib.hid (HATb_1.out.below hb); clear qb0 qb1 qb2 qb3 qb4 qb5 qb6 qb7 qb8 qb9; obtain ⟨qb0, qb1, qb2, qb3, qb4, qb5, qb6, qb7, qb8, qb9⟩ := cel10 HATb_2.out; clear hb))
    go_ret
    exact ⟨rfl, HB2.out⟩
end Go.Proofs.YtllebgadhhgckaaDoor.Sqs

/- The package's table as the row lists it: what the walks ask, and that the program's own start meets it. -/
namespace Go.Proofs.YtllebgadhhgckaaDoor.Crc
open Go.ChangeShapes Go.WideShapes Go.ChangeAt Go.RowKit

abbrev listed : List (String × DataW Unit) := [("watermeet/crc.steps", Rows.laid_watermeet_crc_steps)]
theorem gSteps : Tryd.prog.globalNamed "watermeet/crc.steps" = some 0 := by kernel_rfl
theorem tSteps : (Tryd.prog.globals[0]?).map (·.type) = some 109 := by kernel_rfl
theorem door_met (os : Os) (args : Array Value) : laidMetH Tryd.prog listed ((World.doorLaid Tryd.prog 400 os).forCall (fun _ _ => 0) ⟨#[], args, []⟩).memory :=
  laidMetH_of_parts3 (fuel := 8) (laidMet_of_run' 8 (by kernel_rfl) (by kernel_rfl)) (by kernel_rfl) (by kernel_rfl)
theorem tab_of_laid {W : World} (h : laidMetH Tryd.prog listed W) : Tab W := by
  rw [MakeChecks.laidMetH_plain _ _ _ (by kernel_rfl)] at h
  have hT : Lib.TabIs Tryd.prog W "watermeet/crc.steps" .u32 (tab.map fun n : Nat => (n : Int)) := Lib.tabIs_of_head gSteps tSteps Tryd.underlying109 Tryd.underlying84 (by kernel_rfl) (by kernel_rfl) h
  intro i hi
  have h1 := hT.cell gSteps i (by show i < 16; exact hi)
  rw [h1]
  congr 2
  simp only [List.getD_eq_getElem?_getD, List.getElem?_map]
  have h2 : i < tab.length := hi
  rw [List.getElem?_eq_getElem h2]
  rfl
end Go.Proofs.YtllebgadhhgckaaDoor.Crc

namespace Go.Proofs.YtllebgadhhgckaaDoor.seqsTwice
open Go.ChangeShapes Go.WideShapes Go.ChangeAt Go.RowKit

theorem own : ownKnob Tryd.prog.godebug = none := by kernel_rfl
theorem laidOut : laidOutB Tryd.prog = true := by kernel_rfl

set_option maxRecDepth 100000 in
theorem lifted (os : Os) (started : os.Started) (H : Type) (enc : TypeId × Value → H) :
    ReturnsInHanded {} Tryd.checked os 9 .any (fun w args => (Rows.seqsTwiceSpec.pre enc Tryd.prog Tryd.f9 [] false w args ∧ laidMetH Tryd.prog Crc.listed w) ∧ sizedMet enc Tryd.prog Tryd.f9 (OpenSpec.ofChange Rows.seqsTwiceSpec) false w args)
      (Rows.seqsTwiceSpec.post enc Tryd.prog Tryd.f9 false true false false) := by
  refine returnsInHanded_of_change_and (C := Tryd.checked) (X := fun w _ => laidMetH Tryd.prog Crc.listed w) (fun _ _ _ hh h => h.of_heap hh) own started (by kernel_rfl) Tryd.func9
    (ChangeSpec.witness_shaped (enc := enc) (C := Tryd.checked) (os := os) (X := fun w _ => laidMetH Tryd.prog Crc.listed w) false (World.doorLaid Tryd.prog 400 os) #[.slice none 0 0, .agg #[.int .i64 0, .int .i64 0, .int .i64 0, .int .i64 0, .int .i64 0, .int .i64 0, .int .i64 0, .bool false, .int .i64 0, .slice none 0 0]] 8 rfl (World.shaped_of_RefB (by kernel_rfl) (by kernel_rfl)) (by kernel_rfl) (by kernel_rfl) (by kernel_rfl) (Crc.door_met os _)) ?_
  intro W base args ds gs before hval0 hW _ hwt hL _
  have hval : ∀ (j : Nat) t v, Tryd.f9.params[j]? = some t → args[j]? = some v → Value.okWide Tryd.prog W .any base t v := hval0
  have hW' := hW
  obtain ⟨p, q, hA0, hV, rfl, hfz, hnd⟩ := hW
  have hA : DataW.TrodAll enc Tryd.prog W 0 (fun _ => true) true Tryd.f9.params.toList args.toList ds p := hA0
  rw [Tryd.params9] at hA hval
  obtain ⟨v0, vs0, d0, ds0, p0, q0, hargs, rfl, rfl, h0, r0⟩ := trodAll_cons hA
  obtain ⟨v1, vs1, d1, ds1, p1, q1, rfl, rfl, rfl, h1, r1⟩ := trodAll_cons r0
  obtain ⟨rfl, rfl, rfl⟩ := trodAll_nil r1
  obtain rfl : args = #[v0, v1] := by cases args; simp_all
  obtain ⟨rfl, rfl⟩ := trodVars_none hV
  have k0 := h0
  have lt0 : ∀ x ∈ p0, x.block < W.heap.size := by obtain ⟨m, hm⟩ := k0; exact DataW.trod_lt m _ _ _ hm
  obtain ⟨A_0, n_0, c_0, l_0, rfl, hc_0, hk_0, hR_0⟩ := Sqs.open_prods (hval 0 22 v0 rfl rfl) h0 (Bat.weights_arg (j := 0) hwt (by kernel_rfl) rfl)
  have k1 := h1
  have lt1 : ∀ x ∈ p1, x.block < W.heap.size := by obtain ⟨m, hm⟩ := k1; exact DataW.trod_lt m _ _ _ hm
  obtain ⟨ba_1, la_1, fr_1, ep_1, pi_1, ge_1, se_1, tx_1, ct_1, A_1, n_1, c_1, rs_1, rfl, hf_1, hc_1, hk_1, hR_1⟩ := Bat.open_batch (hval 1 25 v1 rfl rfl) h1 (Bat.weights_arg (j := 1) hwt (by kernel_rfl) rfl)
  clear hA0 hval0
  refine (Sqs.seqsTwice_walk A_0 n_0 c_0 l_0 ba_1 la_1 fr_1 ep_1 pi_1 ge_1 se_1 tx_1 ct_1 A_1 n_1 c_1 rs_1 W hc_0 hk_0 hR_0 hf_1 hc_1 hk_1 hR_1 (Crc.tab_of_laid hL)).mono fun e W' ⟨he, bel⟩ => ?_
  subst he
  exact ⟨_, rfl, _, _, _, [], _, [], hW', trodAll_mk1 (shut_bool Tryd.underlying4 _), (trodAll_cons_mk (Below.trod laidOut (by kernel_rfl) (of_decide_eq_true (by kernel_rfl)) k0 bel lt0) (trodAll_cons_mk (Below.trod laidOut (by kernel_rfl) (of_decide_eq_true (by kernel_rfl)) k1 bel lt1) trodAll_mk0)), rfl, bel.frame _, fun h => by cases h⟩

theorem over : Rows.seqsTwiceRow.holds Tryd.pinned (OpenSpec.ofChange Rows.seqsTwiceSpec) :=
  OpenClaim.holds_of_wide 9 Tryd.f9 rfl rfl rfl rfl rfl rfl rfl ⟨rfl, rfl, rfl, rfl, rfl⟩ rfl rfl rfl rfl rfl (by kernel_rfl) Tryd.func9 (by kernel_rfl)
    (of_decide_eq_true (by kernel_rfl)) (by unfold Func.isWrapper; first | (rw [if_pos (by decide +kernel)]; kernel_rfl) | (rw [if_neg (by decide +kernel)]; exact ⟨rfl, rfl⟩))
    (fun os started H enc _ => lifted os started H enc)

theorem proved : Rows.SeqsTwiceCardSaid :=
  Claim7.holds_tied_plain_at .later [] [.data] true (true, "934c4175c22cf6ebd5c5bb7cfcef1248a1d87827f8534c5a344dee36c2a0e337") false
    over (fun _ h => by cases h) (by kernel_rfl) (fun _ h => by cases h) seqsTwice_row_tie rfl ⟨rfl, rfl⟩ (by kernel_rfl) rfl
    (fun f fn hf hfn => by
      obtain rfl : f = 9 := Option.some.inj ((show Tryd.prog.funcNamed "watermeet/watermeetlaw11.SeqsTwice" = some 9 by kernel_rfl).symm.trans hf) |>.symm
      obtain rfl : fn = Tryd.f9 := (Option.some.inj (Tryd.func9.symm.trans hfn)).symm
      exact ⟨by kernel_rfl, fun j t ht => by
        rw [Tryd.params9] at ht
        have hm : t ∈ [22, 25] := by simpa using Array.mem_of_getElem? ht
        have hall : ([22, 25].all fun u => !Tryd.prog.wantsStandIn u) = true := by kernel_rfl
        exact (show Tryd.prog.wantsStandIn t = false by simpa using List.all_eq_true.1 hall t hm)⟩)
    (by kernel_rfl)
#print axioms proved
end Go.Proofs.YtllebgadhhgckaaDoor.seqsTwice
