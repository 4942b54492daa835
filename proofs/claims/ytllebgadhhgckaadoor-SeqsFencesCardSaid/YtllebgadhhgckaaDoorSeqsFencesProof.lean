/- A producer's elder generation is kept out behind a newer one, whatever the producers and the batches; no condition but the package's own table.
-/
import Derived.Test.YtllebgadhhgckaaDoorJ47
import Derived.Test.YtllebgadhhgckaaDoorJ48
import Derived.Test.YtllebgadhhgckaaDoorJ10
import Derived.Test.YtllebgadhhgckaaDoorRows
import Derived.Test.YtllebgadhhgckaaDoorJ11
import Derived.ProofKit
import Derived.LaidMore
import Derived.OpenShut
import Derived.Stop.Joined
import Derived.Lib.LaidTab
import Derived.WalkKit
import Derived.ChangeOld
import Derived.Below
import Derived.Carry
import Derived.Test.YtllebgadhhgckaaDoorJ01
import Derived.Test.YtllebgadhhgckaaDoorJ12
import Derived.Test.YtllebgadhhgckaaDoorTie
import Derived.Test.YtllebgadhhgckaaDoorCards
import Derived.SevenTiedAt
/- The walk of SeqsFences. -/
namespace Go.Proofs.YtllebgadhhgckaaDoor.Sqs
open Go.RowKit Oct Rec Crc RowF RowK RowO Lay Bat InR
open Epo (At0 AtO belA)

set_option maxRecDepth 100000 in
set_option maxHeartbeats 8000000 in
theorem seqsFences_walk (A : Option Addr) (n c : Nat) (l : List Pd) (bab lab frb epb pib geb seb : Int) (txb : Bool) (ctb : Int) (ARb : Option Addr) (nRb cRb : Nat) (rsb : List Rc) (bao lao fro epo pio geo seo : Int) (txo : Bool) (cto : Int) (ARo : Option Addr) (nRo cRo : Nat) (rso : List Rc) (w : World) (hc : n ≤ c) (hk : c ≤ reach) (hR : RdP w w.heap.size A n l) (hfnb : FitN ⟨bab, lab, frb, epb, pib, geb, seb, txb, ctb, rsb⟩) (hcb : nRb ≤ cRb) (hkb : cRb ≤ reach) (hRb : Lay.RdL w w.heap.size ARb nRb rsb) (hfno : FitN ⟨bao, lao, fro, epo, pio, geo, seo, txo, cto, rso⟩) (hco : nRo ≤ cRo) (hko : cRo ≤ reach) (hRo : Lay.RdL w w.heap.size ARo nRo rso) (ht : Tab w) :
    Calls Tryd.prog 10 #[.slice A n c, .agg #[.int .i64 bab, .int .i64 lab, .int .i64 frb, .int .i64 epb, .int .i64 pib, .int .i64 geb, .int .i64 seb, .bool txb, .int .i64 ctb, .slice ARb nRb cRb], .agg #[.int .i64 bao, .int .i64 lao, .int .i64 fro, .int .i64 epo, .int .i64 pio, .int .i64 geo, .int .i64 seo, .bool txo, .int .i64 cto, .slice ARo nRo cRo]] w fun e w' => e = .returned (.bool true) ∧ Below w.heap.size w w' := by
  have HT := Lib.hid ht
  have hn9 : n ≤ reach := Nat.le_trans hc hk
  have HFNb := Lib.hid hfnb
  have HFITb := Lib.hid (RdL_fit hRb)
  have HNRb := Lib.hid (Nat.le_trans hcb hkb)
  have HRRb := Lib.hid (RdL_recs hRb)
  have HFNo := Lib.hid hfno
  have HFITo := Lib.hid (RdL_fit hRo)
  have HNRo := Lib.hid (Nat.le_trans hco hko)
  have HRRo := Lib.hid (RdL_recs hRo)
  have HPP := Lib.hid hR
  clear hR hk ht hfnb hkb hRb hfno hko hRo
  go_enter Tryd.func10, Tryd.ntmps10
  go_upto_region 1 with fail
  have HB0 := Lib.hid (Epo.bel_trans (Epo.bel_trans (Below.refl w.heap.size w) (belA w (.cells #[.int .i64 bab, .int .i64 lab, .int .i64 frb, .int .i64 epb, .int .i64 pib, .int .i64 geb, .int .i64 seb, .bool txb, .int .i64 ctb, .slice ARb nRb cRb] 25))) (belA (w.alloc (.cells #[.int .i64 bab, .int .i64 lab, .int .i64 frb, .int .i64 epb, .int .i64 pib, .int .i64 geb, .int .i64 seb, .bool txb, .int .i64 ctb, .slice ARb nRb cRb] 25)) (.cells #[.int .i64 bao, .int .i64 lao, .int .i64 fro, .int .i64 epo, .int .i64 pio, .int .i64 geo, .int .i64 seo, .bool txo, .int .i64 cto, .slice ARo nRo cRo] 25)))
  have HP_0 := Lib.hid (rdkUp HPP.out HB0.out)
  have HRRb_0 := Lib.hid (rdrUp9 HRRb.out HB0.out)
  have HRRo_0 := Lib.hid (rdrUp9 HRRo.out HB0.out)
  have HATb_0 := Lib.hid ((At0.new w [.int .i64 bab, .int .i64 lab, .int .i64 frb, .int .i64 epb, .int .i64 pib, .int .i64 geb, .int .i64 seb, .bool txb, .int .i64 ctb, .slice ARb nRb cRb] 25).below (belA (w.alloc (.cells #[.int .i64 bab, .int .i64 lab, .int .i64 frb, .int .i64 epb, .int .i64 pib, .int .i64 geb, .int .i64 seb, .bool txb, .int .i64 ctb, .slice ARb nRb cRb] 25)) (.cells #[.int .i64 bao, .int .i64 lao, .int .i64 fro, .int .i64 epo, .int .i64 pio, .int .i64 geo, .int .i64 seo, .bool txo, .int .i64 cto, .slice ARo nRo cRo] 25)))
  have HATo_0 := Lib.hid (At0.new (w.alloc (.cells #[.int .i64 bab, .int .i64 lab, .int .i64 frb, .int .i64 epb, .int .i64 pib, .int .i64 geb, .int .i64 seb, .bool txb, .int .i64 ctb, .slice ARb nRb cRb] 25)) [.int .i64 bao, .int .i64 lao, .int .i64 fro, .int .i64 epo, .int .i64 pio, .int .i64 geo, .int .i64 seo, .bool txo, .int .i64 cto, .slice ARo nRo cRo] 25)
  rw [show (w.alloc (.cells #[.int .i64 bab, .int .i64 lab, .int .i64 frb, .int .i64 epb, .int .i64 pib, .int .i64 geb, .int .i64 seb, .bool txb, .int .i64 ctb, .slice ARb nRb cRb] 25)).heap.size = w.heap.size + 1 from by simp] at HATo_0
  clear HPP HRRb HRRo
  generalize ((w.alloc (.cells #[.int .i64 bab, .int .i64 lab, .int .i64 frb, .int .i64 epb, .int .i64 pib, .int .i64 geb, .int .i64 seb, .bool txb, .int .i64 ctb, .slice ARb nRb cRb] 25)).alloc (.cells #[.int .i64 bao, .int .i64 lao, .int .i64 fro, .int .i64 epo, .int .i64 pio, .int .i64 geo, .int .i64 seo, .bool txo, .int .i64 cto, .slice ARo nRo cRo] 25)) = wk0 at *
  obtain ⟨qb0, qb1, qb2, qb3, qb4, qb5, qb6, qb7, qb8, qb9⟩ := cel10 HATb_0.out
  obtain ⟨qo0, qo1, qo2, qo3, qo4, qo5, qo6, qo7, qo8, qo9⟩ := cel10 HATo_0.out
  rcases hz1 : fewP l with _ | _ <;> rcases hz2 : fewT ⟨bab, lab, frb, epb, pib, geb, seb, txb, ctb, rsb⟩ with _ | _
  case true.true =>
    have HZ1 := Lib.hid hz1
    have HZ2 := Lib.hid hz2
    clear hz1 hz2
    rcases hz3 : fewT ⟨bao, lao, fro, epo, pio, geo, seo, txo, cto, rso⟩ with _ | _
    case false =>
      have HZ3 := Lib.hid hz3
      clear hz3
      go_wp2_with (first
        | (go_at_call 12; have HLK := Lib.hid (liveS_any _ (HT.out.bel HB0.out)); (with_reducible refine HLK.out.mono ?_); clear HLK; rintro e wk1 ⟨rfl, hb⟩; have HB1 := Lib.hid (Epo.bel_trans HB0.out hb); have HP_1 := Lib.hid (rdkUp HP_0.out hb); have HRRb_1 := Lib.hid (rdrUp9 HRRb_0.out hb); have HRRo_1 := Lib.hid (rdrUp9 HRRo_0.out hb); have HATb_1 := Lib.hid (HATb_0.out.below hb); clear qb0 qb1 qb2 qb3 qb4 qb5 qb6 qb7 qb8 qb9; obtain ⟨qb0, qb1, qb2, qb3, qb4, qb5, qb6, qb7, qb8, qb9⟩ := cel10 HATb_1.out; have HATo_1 := Lib.hid (HATo_0.out.below hb); clear qo0 qo1 qo2 qo3 qo4 qo5 qo6 qo7 qo8 qo9; obtain ⟨qo0, qo1, qo2, qo3, qo4, qo5, qo6, qo7, qo8, qo9⟩ := cel10 HATo_1.out; clear hb)
        | (go_at_call 13; have HLK := Lib.hid (few11_is A n c l bab lab frb epb pib geb seb txb ctb rsb ARb nRb cRb _ HP_1.out (by omega) HRRb_1.out HFITb.out HNRb.out HZ1.out HZ2.out); (with_reducible refine HLK.out.mono ?_); clear HLK; rintro e wk2 ⟨rfl, hb⟩; have HB2 := Lib.hid (Epo.bel_trans HB1.out hb); have HP_2 := Lib.hid (rdkUp HP_1.out hb); have HRRb_2 := Lib.hid (rdrUp9 HRRb_1.out hb); have HRRo_2 := Lib.hid (rdrUp9 HRRo_1.out hb); have HATb_2 := Lib.hid (HATb_1.out.below hb); clear qb0 qb1 qb2 qb3 qb4 qb5 qb6 qb7 qb8 qb9; obtain ⟨qb0, qb1, qb2, qb3, qb4, qb5, qb6, qb7, qb8, qb9⟩ := cel10 HATb_2.out; have HATo_2 := Lib.hid (HATo_1.out.below hb); clear qo0 qo1 qo2 qo3 qo4 qo5 qo6 qo7 qo8 qo9; obtain ⟨qo0, qo1, qo2, qo3, qo4, qo5, qo6, qo7, qo8, qo9⟩ := cel10 HATo_2.out; clear hb)
        | (go_at_call 13; have HLK := Lib.hid (few11_is none 0 0 [] bao lao fro epo pio geo seo txo cto rso ARo nRo cRo _ RdK.nil (by decide) HRRo_2.out HFITo.out HNRo.out rfl HZ3.out); (with_reducible refine HLK.out.mono ?_); clear HLK; rintro e wk3 ⟨rfl, hb⟩; have HB3 := Lib.hid (Epo.bel_trans HB2.out hb); have HP_3 := Lib.hid (rdkUp HP_2.out hb); have HRRb_3 := Lib.hid (rdrUp9 HRRb_2.out hb); have HRRo_3 := Lib.hid (rdrUp9 HRRo_2.out hb); have HATb_3 := Lib.hid (HATb_2.out.below hb); clear qb0 qb1 qb2 qb3 qb4 qb5 qb6 qb7 qb8 qb9; obtain ⟨qb0, qb1, qb2, qb3, qb4, qb5, qb6, qb7, qb8, qb9⟩ := cel10 HATb_3.out; have HATo_3 := Lib.hid (HATo_2.out.below hb); clear qo0 qo1 qo2 qo3 qo4 qo5 qo6 qo7 qo8 qo9; obtain ⟨qo0, qo1, qo2, qo3, qo4, qo5, qo6, qo7, qo8, qo9⟩ := cel10 HATo_3.out; clear hb))
      go_ret
      exact ⟨rfl, HB3.out⟩
    have HZ3 := Lib.hid hz3
    have hfw := fewT_iff HZ2.out
    have hfw3 := fewT_iff hz3
    simp only at hfw hfw3
    have HFTb := Lib.hid (fits_of HFNb.out HFITb.out HZ2.out)
    have HFTo := Lib.hid (fits_of HFNo.out HFITo.out hz3)
    have HNBb := Lib.hid (show nRb ≤ 1099511627776 from by have := HRRb_0.out.len; omega)
    have HNBo := Lib.hid (show nRo ≤ 1099511627776 from by have := HRRo_0.out.len; omega)
    clear hz3 hfw hfw3
    rcases hX : putP l ⟨bab, lab, frb, epb, pib, geb, seb, txb, ctb, rsb⟩ with ⟨X, E⟩
    have HX := Lib.hid hX
    clear hX
    go_upto_region 7 with (first
      | (go_at_call 12; have HLK := Lib.hid (liveS_any _ (HT.out.bel HB0.out)); (with_reducible refine HLK.out.mono ?_); clear HLK; rintro e wk1 ⟨rfl, hb⟩; have HB1 := Lib.hid (Epo.bel_trans HB0.out hb); have HP_1 := Lib.hid (rdkUp HP_0.out hb); have HRRb_1 := Lib.hid (rdrUp9 HRRb_0.out hb); have HRRo_1 := Lib.hid (rdrUp9 HRRo_0.out hb); have HATb_1 := Lib.hid (HATb_0.out.below hb); clear qb0 qb1 qb2 qb3 qb4 qb5 qb6 qb7 qb8 qb9; obtain ⟨qb0, qb1, qb2, qb3, qb4, qb5, qb6, qb7, qb8, qb9⟩ := cel10 HATb_1.out; have HATo_1 := Lib.hid (HATo_0.out.below hb); clear qo0 qo1 qo2 qo3 qo4 qo5 qo6 qo7 qo8 qo9; obtain ⟨qo0, qo1, qo2, qo3, qo4, qo5, qo6, qo7, qo8, qo9⟩ := cel10 HATo_1.out; clear hb)
      | (go_at_call 13; have HLK := Lib.hid (few11_is A n c l bab lab frb epb pib geb seb txb ctb rsb ARb nRb cRb _ HP_1.out (by omega) HRRb_1.out HFITb.out HNRb.out HZ1.out HZ2.out); (with_reducible refine HLK.out.mono ?_); clear HLK; rintro e wk2 ⟨rfl, hb⟩; have HB2 := Lib.hid (Epo.bel_trans HB1.out hb); have HP_2 := Lib.hid (rdkUp HP_1.out hb); have HRRb_2 := Lib.hid (rdrUp9 HRRb_1.out hb); have HRRo_2 := Lib.hid (rdrUp9 HRRo_1.out hb); have HATb_2 := Lib.hid (HATb_1.out.below hb); clear qb0 qb1 qb2 qb3 qb4 qb5 qb6 qb7 qb8 qb9; obtain ⟨qb0, qb1, qb2, qb3, qb4, qb5, qb6, qb7, qb8, qb9⟩ := cel10 HATb_2.out; have HATo_2 := Lib.hid (HATo_1.out.below hb); clear qo0 qo1 qo2 qo3 qo4 qo5 qo6 qo7 qo8 qo9; obtain ⟨qo0, qo1, qo2, qo3, qo4, qo5, qo6, qo7, qo8, qo9⟩ := cel10 HATo_2.out; clear hb)
      | (go_at_call 13; have HLK := Lib.hid (few11_is none 0 0 [] bao lao fro epo pio geo seo txo cto rso ARo nRo cRo _ RdK.nil (by decide) HRRo_2.out HFITo.out HNRo.out rfl HZ3.out); (with_reducible refine HLK.out.mono ?_); clear HLK; rintro e wk3 ⟨rfl, hb⟩; have HB3 := Lib.hid (Epo.bel_trans HB2.out hb); have HP_3 := Lib.hid (rdkUp HP_2.out hb); have HRRb_3 := Lib.hid (rdrUp9 HRRb_2.out hb); have HRRo_3 := Lib.hid (rdrUp9 HRRo_2.out hb); have HATb_3 := Lib.hid (HATb_2.out.below hb); clear qb0 qb1 qb2 qb3 qb4 qb5 qb6 qb7 qb8 qb9; obtain ⟨qb0, qb1, qb2, qb3, qb4, qb5, qb6, qb7, qb8, qb9⟩ := cel10 HATb_3.out; have HATo_3 := Lib.hid (HATo_2.out.below hb); clear qo0 qo1 qo2 qo3 qo4 qo5 qo6 qo7 qo8 qo9; obtain ⟨qo0, qo1, qo2, qo3, qo4, qo5, qo6, qo7, qo8, qo9⟩ := cel10 HATo_3.out; clear hb)
      | (go_at_call 18; have HLK := Lib.hid (dPut_is A n c l bab lab frb epb pib geb seb txb ctb rsb ARb nRb cRb _ HP_3.out (by omega) HFTb.out HRRb_3.out HNBb.out (HT.out.bel HB3.out) HX.out); (with_reducible refine HLK.out.mono ?_); clear HLK; rintro e wk4 ⟨AHM, nHM, cHM, hsHM, rfl, ho, hm, hb⟩; have HM_4 := Lib.hid (show RdP wk4 wk4.heap.size AHM nHM X from by have h9 := OwnO.rd ho; rw [hm] at h9; exact h9); have HNHM := Lib.hid (show X.length = nHM from RdK.len HM_4.out); clear ho hm hsHM; have HB4 := Lib.hid (Epo.bel_trans HB3.out hb); have HP_4 := Lib.hid (rdkUp HP_3.out hb); have HRRb_4 := Lib.hid (rdrUp9 HRRb_3.out hb); have HRRo_4 := Lib.hid (rdrUp9 HRRo_3.out hb); have HATb_4 := Lib.hid (HATb_3.out.below hb); clear qb0 qb1 qb2 qb3 qb4 qb5 qb6 qb7 qb8 qb9; obtain ⟨qb0, qb1, qb2, qb3, qb4, qb5, qb6, qb7, qb8, qb9⟩ := cel10 HATb_4.out; have HATo_4 := Lib.hid (HATo_3.out.below hb); clear qo0 qo1 qo2 qo3 qo4 qo5 qo6 qo7 qo8 qo9; obtain ⟨qo0, qo1, qo2, qo3, qo4, qo5, qo6, qo7, qo8, qo9⟩ := cel10 HATo_4.out; clear hb))
    by_cases hE : E = 0
    case neg =>
      have g1 : (E == 0) = false := beq_eq_false_iff_ne.2 hE
      have g2 : (E != 0) = true := by simp [hE]
      clear hE
      go_wp2
      go_ret
      exact ⟨rfl, HB4.out⟩
    subst hE
    have HCAPHM := Lib.hid (show X.length ≤ 1024 from (ckP_iff.1 (put_ok HX.out)).1)
    by_cases hpi : pib < 0
    case pos =>
      go_wp2
      go_ret
      exact ⟨rfl, HB4.out⟩
    obtain ⟨C, hC⟩ : ∃ C, chB ⟨bao, lao, fro, epo, pio, geo, seo, txo, cto, rso⟩ = C := ⟨_, rfl⟩
    have HC := Lib.hid hC
    clear hC
    by_cases h1 : C = 0
    case neg =>
      have g1 : (C == 0) = false := beq_eq_false_iff_ne.2 h1
      have g2 : (C != 0) = true := by simp [h1]
      clear h1
      go_wp2_with (first
        | (go_at_call 31; have HLK := Lib.hid (BCheck_is bao lao fro epo pio geo seo txo cto rso ARo nRo cRo _ HFTo.out HRRo_4.out HNBo.out (HT.out.bel HB4.out) HC.out); (with_reducible refine HLK.out.mono ?_); clear HLK; rintro e wk5 ⟨rfl, hb⟩; have HB5 := Lib.hid (Epo.bel_trans HB4.out hb); have HP_5 := Lib.hid (rdkUp HP_4.out hb); have HM_5 := Lib.hid (rdkUp HM_4.out hb); have HRRb_5 := Lib.hid (rdrUp9 HRRb_4.out hb); have HRRo_5 := Lib.hid (rdrUp9 HRRo_4.out hb); have HATb_5 := Lib.hid (HATb_4.out.below hb); clear qb0 qb1 qb2 qb3 qb4 qb5 qb6 qb7 qb8 qb9; obtain ⟨qb0, qb1, qb2, qb3, qb4, qb5, qb6, qb7, qb8, qb9⟩ := cel10 HATb_5.out; have HATo_5 := Lib.hid (HATo_4.out.below hb); clear qo0 qo1 qo2 qo3 qo4 qo5 qo6 qo7 qo8 qo9; obtain ⟨qo0, qo1, qo2, qo3, qo4, qo5, qo6, qo7, qo8, qo9⟩ := cel10 HATo_5.out; clear hb))
      go_ret
      exact ⟨rfl, HB5.out⟩
    subst h1
    by_cases hpp : pio = pib
    case neg =>
      have g1 : (pio == pib) = false := beq_eq_false_iff_ne.2 hpp
      have g2 : (pio != pib) = true := by simp [hpp]
      clear hpp
      go_wp2_with (first
        | (go_at_call 31; have HLK := Lib.hid (BCheck_is bao lao fro epo pio geo seo txo cto rso ARo nRo cRo _ HFTo.out HRRo_4.out HNBo.out (HT.out.bel HB4.out) HC.out); (with_reducible refine HLK.out.mono ?_); clear HLK; rintro e wk5 ⟨rfl, hb⟩; have HB5 := Lib.hid (Epo.bel_trans HB4.out hb); have HP_5 := Lib.hid (rdkUp HP_4.out hb); have HM_5 := Lib.hid (rdkUp HM_4.out hb); have HRRb_5 := Lib.hid (rdrUp9 HRRb_4.out hb); have HRRo_5 := Lib.hid (rdrUp9 HRRo_4.out hb); have HATb_5 := Lib.hid (HATb_4.out.below hb); clear qb0 qb1 qb2 qb3 qb4 qb5 qb6 qb7 qb8 qb9; obtain ⟨qb0, qb1, qb2, qb3, qb4, qb5, qb6, qb7, qb8, qb9⟩ := cel10 HATb_5.out; have HATo_5 := Lib.hid (HATo_4.out.below hb); clear qo0 qo1 qo2 qo3 qo4 qo5 qo6 qo7 qo8 qo9; obtain ⟨qo0, qo1, qo2, qo3, qo4, qo5, qo6, qo7, qo8, qo9⟩ := cel10 HATo_5.out; clear hb))
      go_ret
      exact ⟨rfl, HB5.out⟩
    subst hpp
    by_cases hge : geb ≤ geo
    case pos =>
      go_wp2_with (first
        | (go_at_call 31; have HLK := Lib.hid (BCheck_is bao lao fro epo pio geo seo txo cto rso ARo nRo cRo _ HFTo.out HRRo_4.out HNBo.out (HT.out.bel HB4.out) HC.out); (with_reducible refine HLK.out.mono ?_); clear HLK; rintro e wk5 ⟨rfl, hb⟩; have HB5 := Lib.hid (Epo.bel_trans HB4.out hb); have HP_5 := Lib.hid (rdkUp HP_4.out hb); have HM_5 := Lib.hid (rdkUp HM_4.out hb); have HRRb_5 := Lib.hid (rdrUp9 HRRb_4.out hb); have HRRo_5 := Lib.hid (rdrUp9 HRRo_4.out hb); have HATb_5 := Lib.hid (HATb_4.out.below hb); clear qb0 qb1 qb2 qb3 qb4 qb5 qb6 qb7 qb8 qb9; obtain ⟨qb0, qb1, qb2, qb3, qb4, qb5, qb6, qb7, qb8, qb9⟩ := cel10 HATb_5.out; have HATo_5 := Lib.hid (HATo_4.out.below hb); clear qo0 qo1 qo2 qo3 qo4 qo5 qo6 qo7 qo8 qo9; obtain ⟨qo0, qo1, qo2, qo3, qo4, qo5, qo6, qo7, qo8, qo9⟩ := cel10 HATo_5.out; clear hb))
      go_ret
      exact ⟨rfl, HB5.out⟩
    have HFE := Lib.hid (fences HX.out (by show pio ≠ -1; omega) HC.out rfl (by show geo < geb; omega))
    go_wp2_with (first
      | (go_at_call 31; have HLK := Lib.hid (BCheck_is bao lao fro epo pio geo seo txo cto rso ARo nRo cRo _ HFTo.out HRRo_4.out HNBo.out (HT.out.bel HB4.out) HC.out); (with_reducible refine HLK.out.mono ?_); clear HLK; rintro e wk5 ⟨rfl, hb⟩; have HB5 := Lib.hid (Epo.bel_trans HB4.out hb); have HP_5 := Lib.hid (rdkUp HP_4.out hb); have HM_5 := Lib.hid (rdkUp HM_4.out hb); have HRRb_5 := Lib.hid (rdrUp9 HRRb_4.out hb); have HRRo_5 := Lib.hid (rdrUp9 HRRo_4.out hb); have HATb_5 := Lib.hid (HATb_4.out.below hb); clear qb0 qb1 qb2 qb3 qb4 qb5 qb6 qb7 qb8 qb9; obtain ⟨qb0, qb1, qb2, qb3, qb4, qb5, qb6, qb7, qb8, qb9⟩ := cel10 HATb_5.out; have HATo_5 := Lib.hid (HATo_4.out.below hb); clear qo0 qo1 qo2 qo3 qo4 qo5 qo6 qo7 qo8 qo9; obtain ⟨qo0, qo1, qo2, qo3, qo4, qo5, qo6, qo7, qo8, qo9⟩ := cel10 HATo_5.out; clear hb)
      | (go_at_call 14; have HLK := Lib.hid (dLook_is AHM nHM cHM X bao lao fro epo pio geo seo txo cto rso ARo nRo cRo _ HM_5.out (by exact Nat.le_trans (show nHM ≤ 1024 by have := HNHM.out; have := HCAPHM.out; omega) (by decide)) HFTo.out HRRo_5.out HNBo.out (HT.out.bel HB5.out) HFE.out.1); (with_reducible refine HLK.out.mono ?_); clear HLK; rintro e wk6 ⟨rfl, hb⟩; have HB6 := Lib.hid (Epo.bel_trans HB5.out hb); have HP_6 := Lib.hid (rdkUp HP_5.out hb); have HM_6 := Lib.hid (rdkUp HM_5.out hb); have HRRb_6 := Lib.hid (rdrUp9 HRRb_5.out hb); have HRRo_6 := Lib.hid (rdrUp9 HRRo_5.out hb); have HATb_6 := Lib.hid (HATb_5.out.below hb); clear qb0 qb1 qb2 qb3 qb4 qb5 qb6 qb7 qb8 qb9; obtain ⟨qb0, qb1, qb2, qb3, qb4, qb5, qb6, qb7, qb8, qb9⟩ := cel10 HATb_6.out; have HATo_6 := Lib.hid (HATo_5.out.below hb); clear qo0 qo1 qo2 qo3 qo4 qo5 qo6 qo7 qo8 qo9; obtain ⟨qo0, qo1, qo2, qo3, qo4, qo5, qo6, qo7, qo8, qo9⟩ := cel10 HATo_6.out; clear hb)
      | (go_at_call 18; have HLK := Lib.hid (dPut_is AHM nHM cHM X bao lao fro epo pio geo seo txo cto rso ARo nRo cRo _ HM_6.out (by exact Nat.le_trans (show nHM ≤ 1024 by have := HNHM.out; have := HCAPHM.out; omega) (by decide)) HFTo.out HRRo_6.out HNBo.out (HT.out.bel HB6.out) HFE.out.2); (with_reducible refine HLK.out.mono ?_); clear HLK; rintro e wk7 ⟨AHY, nHY, cHY, hsHY, rfl, ho, hm, hb⟩; have HY_7 := Lib.hid (show RdP wk7 wk7.heap.size AHY nHY ([] : List Pd) from by have h9 := OwnO.rd ho; rw [hm] at h9; exact h9); have HNHY := Lib.hid (show ([] : List Pd).length = nHY from RdK.len HY_7.out); clear ho hm hsHY; obtain rfl : 0 = nHY := HNHY.out; have HB7 := Lib.hid (Epo.bel_trans HB6.out hb); have HP_7 := Lib.hid (rdkUp HP_6.out hb); have HM_7 := Lib.hid (rdkUp HM_6.out hb); have HRRb_7 := Lib.hid (rdrUp9 HRRb_6.out hb); have HRRo_7 := Lib.hid (rdrUp9 HRRo_6.out hb); have HATb_7 := Lib.hid (HATb_6.out.below hb); clear qb0 qb1 qb2 qb3 qb4 qb5 qb6 qb7 qb8 qb9; obtain ⟨qb0, qb1, qb2, qb3, qb4, qb5, qb6, qb7, qb8, qb9⟩ := cel10 HATb_7.out; have HATo_7 := Lib.hid (HATo_6.out.below hb); clear qo0 qo1 qo2 qo3 qo4 qo5 qo6 qo7 qo8 qo9; obtain ⟨qo0, qo1, qo2, qo3, qo4, qo5, qo6, qo7, qo8, qo9⟩ := cel10 HATo_7.out; clear hb))
    go_ret
    exact ⟨rfl, HB7.out⟩
  all_goals
    have HZ1 := Lib.hid hz1
    have HZ2 := Lib.hid hz2
    clear hz1 hz2
    go_wp2_with (first
      | (go_at_call 12; have HLK := Lib.hid (liveS_any _ (HT.out.bel HB0.out)); (with_reducible refine HLK.out.mono ?_); clear HLK; rintro e wk1 ⟨rfl, hb⟩; have HB1 := Lib.hid (Epo.bel_trans HB0.out hb); have HP_1 := Lib.hid (rdkUp HP_0.out hb); have HRRb_1 := Lib.hid (rdrUp9 HRRb_0.out hb); have HRRo_1 := Lib.hid (rdrUp9 HRRo_0.out hb); have HATb_1 := Lib.hid (HATb_0.out.below hb); clear qb0 qb1 qb2 qb3 qb4 qb5 qb6 qb7 qb8 qb9; obtain ⟨qb0, qb1, qb2, qb3, qb4, qb5, qb6, qb7, qb8, qb9⟩ := cel10 HATb_1.out; have HATo_1 := Lib.hid (HATo_0.out.below hb); clear qo0 qo1 qo2 qo3 qo4 qo5 qo6 qo7 qo8 qo9; obtain ⟨qo0, qo1, qo2, qo3, qo4, qo5, qo6, qo7, qo8, qo9⟩ := cel10 HATo_1.out; clear hb)
      | (go_at_call 13; have HLK := Lib.hid (few11_is A n c l bab lab frb epb pib geb seb txb ctb rsb ARb nRb cRb _ HP_1.out (by omega) HRRb_1.out HFITb.out HNRb.out HZ1.out HZ2.out); (with_reducible refine HLK.out.mono ?_); clear HLK; rintro e wk2 ⟨rfl, hb⟩; have HB2 := Lib.hid (Epo.bel_trans HB1.out hb); have HP_2 := Lib.hid (rdkUp HP_1.out hb); have HRRb_2 := Lib.hid (rdrUp9 HRRb_1.out hb); have HRRo_2 := Lib.hid (rdrUp9 HRRo_1.out hb); have HATb_2 := Lib.hid (HATb_1.out.below hb); clear qb0 qb1 qb2 qb3 qb4 qb5 qb6 qb7 qb8 qb9; obtain ⟨qb0, qb1, qb2, qb3, qb4, qb5, qb6, qb7, qb8, qb9⟩ := cel10 HATb_2.out; have HATo_2 := Lib.hid (HATo_1.out.below hb); clear qo0 qo1 qo2 qo3 qo4 qo5 qo6 qo7 qo8 qo9; obtain ⟨qo0, qo1, qo2, qo3, qo4, qo5, qo6, qo7, qo8, qo9⟩ := cel10 HATo_2.out; clear hb))
    go_ret
    exact ⟨rfl, HB2.out⟩
end Go.Proofs.YtllebgadhhgckaaDoor.Sqs

/- The package's table as the row lists it: what the walks ask, and that the program's own start meets it. -/
namespace Go.Proofs.YtllebgadhhgckaaDoor.Crc
open Go.ChangeShapes Go.WideShapes Go.ChangeAt Go.RowKit

abbrev listed : List (String × DataW Unit) := [("watermeet/crc.steps", Rows.laid_watermeet_crc_steps)]
theorem gSteps : Tryd.prog.globalNamed "watermeet/crc.steps" = some 0 := by kernel_rfl
theorem tSteps : (Tryd.prog.globals[0]?).map (·.type) = some 109 := by kernel_rfl
theorem door_met (os : Os) (args : Array Value) : laidMetH Tryd.prog listed ((World.doorLaid Tryd.prog 400 os).forCall (fun _ _ => 0) ⟨#[], args, []⟩).memory :=
  laidMetH_of_parts3 (fuel := 8) (laidMet_of_run' 8 (by kernel_rfl) (by kernel_rfl)) (by kernel_rfl) (by kernel_rfl)
theorem tab_of_laid {W : World} (h : laidMetH Tryd.prog listed W) : Tab W := by
  rw [MakeChecks.laidMetH_plain _ _ _ (by kernel_rfl)] at h
  have hT : Lib.TabIs Tryd.prog W "watermeet/crc.steps" .u32 (tab.map fun n : Nat => (n : Int)) := Lib.tabIs_of_head gSteps tSteps Tryd.underlying109 Tryd.underlying84 (by kernel_rfl) (by kernel_rfl) h
  intro i hi
  have h1 := hT.cell gSteps i (by show i < 16; exact hi)
  rw [h1]
  congr 2
  simp only [List.getD_eq_getElem?_getD, List.getElem?_map]
  have h2 : i < tab.length := hi
  rw [List.getElem?_eq_getElem h2]
  rfl
end Go.Proofs.YtllebgadhhgckaaDoor.Crc

namespace Go.Proofs.YtllebgadhhgckaaDoor.seqsFences
open Go.ChangeShapes Go.WideShapes Go.ChangeAt Go.RowKit

theorem own : ownKnob Tryd.prog.godebug = none := by kernel_rfl
theorem laidOut : laidOutB Tryd.prog = true := by kernel_rfl

set_option maxRecDepth 100000 in
theorem lifted (os : Os) (started : os.Started) (H : Type) (enc : TypeId × Value → H) :
    ReturnsInHanded {} Tryd.checked os 10 .any (fun w args => (Rows.seqsFencesSpec.pre enc Tryd.prog Tryd.f10 [] false w args ∧ laidMetH Tryd.prog Crc.listed w) ∧ sizedMet enc Tryd.prog Tryd.f10 (OpenSpec.ofChange Rows.seqsFencesSpec) false w args)
      (Rows.seqsFencesSpec.post enc Tryd.prog Tryd.f10 false true false false) := by
  refine returnsInHanded_of_change_and (C := Tryd.checked) (X := fun w _ => laidMetH Tryd.prog Crc.listed w) (fun _ _ _ hh h => h.of_heap hh) own started (by kernel_rfl) Tryd.func10
    (ChangeSpec.witness_shaped (enc := enc) (C := Tryd.checked) (os := os) (X := fun w _ => laidMetH Tryd.prog Crc.listed w) false (World.doorLaid Tryd.prog 400 os) #[.slice none 0 0, .agg #[.int .i64 0, .int .i64 0, .int .i64 0, .int .i64 0, .int .i64 0, .int .i64 0, .int .i64 0, .bool false, .int .i64 0, .slice none 0 0], .agg #[.int .i64 0, .int .i64 0, .int .i64 0, .int .i64 0, .int .i64 0, .int .i64 0, .int .i64 0, .bool false, .int .i64 0, .slice none 0 0]] 8 rfl (World.shaped_of_RefB (by kernel_rfl) (by kernel_rfl)) (by kernel_rfl) (by kernel_rfl) (by kernel_rfl) (Crc.door_met os _)) ?_
  intro W base args ds gs before hval0 hW _ hwt hL _
  have hval : ∀ (j : Nat) t v, Tryd.f10.params[j]? = some t → args[j]? = some v → Value.okWide Tryd.prog W .any base t v := hval0
  have hW' := hW
  obtain ⟨p, q, hA0, hV, rfl, hfz, hnd⟩ := hW
  have hA : DataW.TrodAll enc Tryd.prog W 0 (fun _ => true) true Tryd.f10.params.toList args.toList ds p := hA0
  rw [Tryd.params10] at hA hval
  obtain ⟨v0, vs0, d0, ds0, p0, q0, hargs, rfl, rfl, h0, r0⟩ := trodAll_cons hA
  obtain ⟨v1, vs1, d1, ds1, p1, q1, rfl, rfl, rfl, h1, r1⟩ := trodAll_cons r0
  obtain ⟨v2, vs2, d2, ds2, p2, q2, rfl, rfl, rfl, h2, r2⟩ := trodAll_cons r1
  obtain ⟨rfl, rfl, rfl⟩ := trodAll_nil r2
  obtain rfl : args = #[v0, v1, v2] := by cases args; simp_all
  obtain ⟨rfl, rfl⟩ := trodVars_none hV
  have k0 := h0
  have lt0 : ∀ x ∈ p0, x.block < W.heap.size := by obtain ⟨m, hm⟩ := k0; exact DataW.trod_lt m _ _ _ hm
  obtain ⟨A_0, n_0, c_0, l_0, rfl, hc_0, hk_0, hR_0⟩ := Sqs.open_prods (hval 0 22 v0 rfl rfl) h0 (Bat.weights_arg (j := 0) hwt (by kernel_rfl) rfl)
  have k1 := h1
  have lt1 : ∀ x ∈ p1, x.block < W.heap.size := by obtain ⟨m, hm⟩ := k1; exact DataW.trod_lt m _ _ _ hm
  obtain ⟨ba_1, la_1, fr_1, ep_1, pi_1, ge_1, se_1, tx_1, ct_1, A_1, n_1, c_1, rs_1, rfl, hf_1, hc_1, hk_1, hR_1⟩ := Bat.open_batch (hval 1 25 v1 rfl rfl) h1 (Bat.weights_arg (j := 1) hwt (by kernel_rfl) rfl)
  have k2 := h2
  have lt2 : ∀ x ∈ p2, x.block < W.heap.size := by obtain ⟨m, hm⟩ := k2; exact DataW.trod_lt m _ _ _ hm
  obtain ⟨ba_2, la_2, fr_2, ep_2, pi_2, ge_2, se_2, tx_2, ct_2, A_2, n_2, c_2, rs_2, rfl, hf_2, hc_2, hk_2, hR_2⟩ := Bat.open_batch (hval 2 25 v2 rfl rfl) h2 (Bat.weights_arg (j := 2) hwt (by kernel_rfl) rfl)
  clear hA0 hval0
  refine (Sqs.seqsFences_walk A_0 n_0 c_0 l_0 ba_1 la_1 fr_1 ep_1 pi_1 ge_1 se_1 tx_1 ct_1 A_1 n_1 c_1 rs_1 ba_2 la_2 fr_2 ep_2 pi_2 ge_2 se_2 tx_2 ct_2 A_2 n_2 c_2 rs_2 W hc_0 hk_0 hR_0 hf_1 hc_1 hk_1 hR_1 hf_2 hc_2 hk_2 hR_2 (Crc.tab_of_laid hL)).mono fun e W' ⟨he, bel⟩ => ?_
  subst he
  exact ⟨_, rfl, _, _, _, [], _, [], hW', trodAll_mk1 (shut_bool Tryd.underlying4 _), (trodAll_cons_mk (Below.trod laidOut (by kernel_rfl) (of_decide_eq_true (by kernel_rfl)) k0 bel lt0) (trodAll_cons_mk (Below.trod laidOut (by kernel_rfl) (of_decide_eq_true (by kernel_rfl)) k1 bel lt1) (trodAll_cons_mk (Below.trod laidOut (by kernel_rfl) (of_decide_eq_true (by kernel_rfl)) k2 bel lt2) trodAll_mk0))), rfl, bel.frame _, fun h => by cases h⟩

theorem over : Rows.seqsFencesRow.holds Tryd.pinned (OpenSpec.ofChange Rows.seqsFencesSpec) :=
  OpenClaim.holds_of_wide 10 Tryd.f10 rfl rfl rfl rfl rfl rfl rfl ⟨rfl, rfl, rfl, rfl, rfl⟩ rfl rfl rfl rfl rfl (by kernel_rfl) Tryd.func10 (by kernel_rfl)
    (of_decide_eq_true (by kernel_rfl)) (by unfold Func.isWrapper; first | (rw [if_pos (by decide +kernel)]; kernel_rfl) | (rw [if_neg (by decide +kernel)]; exact ⟨rfl, rfl⟩))
    (fun os started H enc _ => lifted os started H enc)

theorem proved : Rows.SeqsFencesCardSaid :=
  Claim7.holds_tied_plain_at .later [] [.data] true (true, "934c4175c22cf6ebd5c5bb7cfcef1248a1d87827f8534c5a344dee36c2a0e337") false
    over (fun _ h => by cases h) (by kernel_rfl) (fun _ h => by cases h) seqsFences_row_tie rfl ⟨rfl, rfl⟩ (by kernel_rfl) rfl
    (fun f fn hf hfn => by
      obtain rfl : f = 10 := Option.some.inj ((show Tryd.prog.funcNamed "watermeet/watermeetlaw11.SeqsFences" = some 10 by kernel_rfl).symm.trans hf) |>.symm
      obtain rfl : fn = Tryd.f10 := (Option.some.inj (Tryd.func10.symm.trans hfn)).symm
      exact ⟨by kernel_rfl, fun j t ht => by
        rw [Tryd.params10] at ht
        have hm : t ∈ [22, 25, 25] := by simpa using Array.mem_of_getElem? ht
        have hall : ([22, 25, 25].all fun u => !Tryd.prog.wantsStandIn u) = true := by kernel_rfl
        exact (show Tryd.prog.wantsStandIn t = false by simpa using List.all_eq_true.1 hall t hm)⟩)
    (by kernel_rfl)
#print axioms proved
end Go.Proofs.YtllebgadhhgckaaDoor.seqsFences
