/- For every batch that may be: its bytes, of which one is another one, are no batch; cut off anywhere they are too short (the law answers true, and changes nothing that was there). Conditions: none but the table of crc's steps, tied to the program's text.
-/
import Derived.Test.YtodklilnmianeaaDoorJBatK
import Derived.Test.YtodklilnmianeaaDoorJBatG
import Derived.Test.YtodklilnmianeaaDoorJOct
import Derived.Test.YtodklilnmianeaaDoorRows
import Derived.WalkKit
import Derived.ProofKit
import Derived.OpenShut
import Derived.ChangeOld
import Derived.Below
import Derived.Carry
import Derived.Test.YtodklilnmianeaaDoorJBatA
import Derived.Test.YtodklilnmianeaaDoorJCrc
import Derived.Test.YtodklilnmianeaaDoorTie
import Derived.Test.YtodklilnmianeaaDoorCards
import Derived.SevenTiedAt
/- The walk of BatchSpoilt. -/
namespace Go.Proofs.YtodklilnmianeaaDoor.Bat
open Go.RowKit Go.Proofs.YtodklilnmianeaaDoor.Oct Go.Proofs.YtodklilnmianeaaDoor.Rec Go.Proofs.YtodklilnmianeaaDoor.Crc Go.Proofs.YtodklilnmianeaaDoor.Lay

set_option maxRecDepth 100000 in
set_option maxHeartbeats 1000000 in
theorem batchSpoilt_walk (ba la fr ep pi ge se : Int) (tx : Bool) (ct : Int) (A : Option Addr) (n c : Nat) (rs : List Rc) (a1 a2 : Int) (tq : UInt8) (w : World) (hfn : FitN ⟨ba, la, fr, ep, pi, ge, se, tx, ct, rs⟩) (hnc : n ≤ c) (hcap : c ≤ reach) (hR : RdL w w.heap.size A n rs) (_h1 : I64 a1) (_h2 : I64 a2) (ht : Tab w) :
    Calls Tryd.prog 9 #[.agg #[.int .i64 ba, .int .i64 la, .int .i64 fr, .int .i64 ep, .int .i64 pi, .int .i64 ge, .int .i64 se, .bool tx, .int .i64 ct, .slice A n c], .int .i64 a1, .int .i64 a2, .int .u8 (tq.toNat : Int)] w fun e w' => e = .returned (.bool true) ∧ Below w.heap.size w w' := by
  have HW1 := Lib.hid (bel_alloc (Below.refl w.heap.size w) (.cells #[.int .i64 ba, .int .i64 la, .int .i64 fr, .int .i64 ep, .int .i64 pi, .int .i64 ge, .int .i64 se, .bool tx, .int .i64 ct, .slice A n c] 24))
  have HB1 := Lib.hid (BR.new (b := ⟨ba, la, fr, ep, pi, ge, se, tx, ct, rs⟩) (c := c) 24 (RdL_recs hR))
  have HFIT := Lib.hid (RdL_fit hR)
  have HT1 := Lib.hid (ht.bel HW1.out)
  have hcr := Nat.le_trans hnc hcap
  rcases hz : fewT ⟨ba, la, fr, ep, pi, ge, se, tx, ct, rs⟩ with _ | _
  · have HZ := Lib.hid hz
    clear hz hfn hR ht
    go_enter Tryd.func9, Tryd.ntmps9
    go_wp2_with (first
      | (go_at_call 12; (with_reducible refine (live_any _ HT1.out).mono ?_); rintro e w2 ⟨rfl, hb2⟩; have HB2 := Lib.hid (HB1.out.below hb2); obtain ⟨y2_0, y2_1, y2_2, y2_3, y2_4, y2_5, y2_6, y2_7, y2_8, y2_9⟩ := HB2.out.box; have HT2 := Lib.hid (HT1.out.bel hb2); have HW2 := Lib.hid (bel_trans HW1.out hb2))
      | (go_at_call 13; (with_reducible refine (refFew_is ba la fr ep pi ge se tx ct rs A n c _ HB2.out.rd HFIT.out hcr HZ.out).mono ?_); rintro e w3 ⟨rfl, hb3⟩; have HB3 := Lib.hid (HB2.out.below hb3); obtain ⟨y3_0, y3_1, y3_2, y3_3, y3_4, y3_5, y3_6, y3_7, y3_8, y3_9⟩ := HB3.out.box; have HT3 := Lib.hid (HT2.out.bel hb3); have HW3 := Lib.hid (bel_trans HW2.out hb3)))
    go_ret
    exact ⟨rfl, HW3.out⟩
  have HZ := Lib.hid hz
  have hfw := fewT_iff hz
  simp only at hfw
  have HFITS := Lib.hid (fits_of hfn (RdL_fit hR) hz)
  have hn40 : n ≤ 1099511627776 := by have := hR.len; omega
  by_cases hg1 : a1 < 0
  · clear hz hfn hR ht hfw
    go_enter Tryd.func9, Tryd.ntmps9
    go_wp2_with (first
      | (go_at_call 12; (with_reducible refine (live_any _ HT1.out).mono ?_); rintro e w2 ⟨rfl, hb2⟩; have HB2 := Lib.hid (HB1.out.below hb2); obtain ⟨y2_0, y2_1, y2_2, y2_3, y2_4, y2_5, y2_6, y2_7, y2_8, y2_9⟩ := HB2.out.box; have HT2 := Lib.hid (HT1.out.bel hb2); have HW2 := Lib.hid (bel_trans HW1.out hb2))
      | (go_at_call 13; (with_reducible refine (refFew_is ba la fr ep pi ge se tx ct rs A n c _ HB2.out.rd HFIT.out hcr HZ.out).mono ?_); rintro e w3 ⟨rfl, hb3⟩; have HB3 := Lib.hid (HB2.out.below hb3); obtain ⟨y3_0, y3_1, y3_2, y3_3, y3_4, y3_5, y3_6, y3_7, y3_8, y3_9⟩ := HB3.out.box; have HT3 := Lib.hid (HT2.out.bel hb3); have HW3 := Lib.hid (bel_trans HW2.out hb3)))
    go_ret
    exact ⟨rfl, HW3.out⟩
  by_cases hg2 : a2 < 0
  · clear hz hfn hR ht hfw
    go_enter Tryd.func9, Tryd.ntmps9
    go_wp2_with (first
      | (go_at_call 12; (with_reducible refine (live_any _ HT1.out).mono ?_); rintro e w2 ⟨rfl, hb2⟩; have HB2 := Lib.hid (HB1.out.below hb2); obtain ⟨y2_0, y2_1, y2_2, y2_3, y2_4, y2_5, y2_6, y2_7, y2_8, y2_9⟩ := HB2.out.box; have HT2 := Lib.hid (HT1.out.bel hb2); have HW2 := Lib.hid (bel_trans HW1.out hb2))
      | (go_at_call 13; (with_reducible refine (refFew_is ba la fr ep pi ge se tx ct rs A n c _ HB2.out.rd HFIT.out hcr HZ.out).mono ?_); rintro e w3 ⟨rfl, hb3⟩; have HB3 := Lib.hid (HB2.out.below hb3); obtain ⟨y3_0, y3_1, y3_2, y3_3, y3_4, y3_5, y3_6, y3_7, y3_8, y3_9⟩ := HB3.out.box; have HT3 := Lib.hid (HT2.out.bel hb3); have HW3 := Lib.hid (bel_trans HW2.out hb3)))
    go_ret
    exact ⟨rfl, HW3.out⟩
  by_cases hc0 : chB ⟨ba, la, fr, ep, pi, ge, se, tx, ct, rs⟩ = 0
  case neg =>
    obtain ⟨z, hp⟩ : ∃ z, chB ⟨ba, la, fr, ep, pi, ge, se, tx, ct, rs⟩ = z := ⟨_, rfl⟩
    have hz0 : z ≠ 0 := by rw [← hp]; exact hc0
    have hzF : (z == 0) = false := beqF hz0
    have hzN : (z != 0) = true := by simp [hz0]
    have HP := Lib.hid (show ptB ⟨ba, la, fr, ep, pi, ge, se, tx, ct, rs⟩ = ([], z) by unfold ptB; rw [if_neg hc0, hp])
    clear hz hfn hR ht hfw hp hz0 hc0
    go_enter Tryd.func9, Tryd.ntmps9
    go_wp2_with (first
      | (go_at_call 12; (with_reducible refine (live_any _ HT1.out).mono ?_); rintro e w2 ⟨rfl, hb2⟩; have HB2 := Lib.hid (HB1.out.below hb2); obtain ⟨y2_0, y2_1, y2_2, y2_3, y2_4, y2_5, y2_6, y2_7, y2_8, y2_9⟩ := HB2.out.box; have HT2 := Lib.hid (HT1.out.bel hb2); have HW2 := Lib.hid (bel_trans HW1.out hb2))
      | (go_at_call 13; (with_reducible refine (refFew_is ba la fr ep pi ge se tx ct rs A n c _ HB2.out.rd HFIT.out hcr HZ.out).mono ?_); rintro e w3 ⟨rfl, hb3⟩; have HB3 := Lib.hid (HB2.out.below hb3); obtain ⟨y3_0, y3_1, y3_2, y3_3, y3_4, y3_5, y3_6, y3_7, y3_8, y3_9⟩ := HB3.out.box; have HT3 := Lib.hid (HT2.out.bel hb3); have HW3 := Lib.hid (bel_trans HW2.out hb3))
      | (go_at_call 18; (with_reducible refine (BPut_is ba la fr ep pi ge se tx ct rs A n c _ HFITS.out HB3.out.rd hn40 HT3.out HP.out).mono ?_); rintro e w4 ⟨PA4, pn4, pc4, rfl, po4, hb4⟩; have HB4 := Lib.hid (HB3.out.below hb4); obtain ⟨y4_0, y4_1, y4_2, y4_3, y4_4, y4_5, y4_6, y4_7, y4_8, y4_9⟩ := HB4.out.box; have HT4 := Lib.hid (HT3.out.bel hb4); have HW4 := Lib.hid (bel_trans HW3.out hb4); have hl4 := po4.len; have hl4' : pn4 = 0 := hl4.symm; subst hl4'; have PO4 := Lib.hid po4; clear po4 hl4))
    go_ret
    exact ⟨rfl, HW4.out⟩
  have hle := (chB_form hc0).2
  have hpos := byB_length ⟨ba, la, fr, ep, pi, ge, se, tx, ct, rs⟩
  obtain ⟨C, rfl⟩ : ∃ C : Nat, a2 = (C : Int) := ⟨a2.toNat, by omega⟩
  obtain ⟨E, rfl⟩ : ∃ E : Nat, a1 = (E : Int) := ⟨a1.toNat, by omega⟩
  obtain ⟨l, hl⟩ : ∃ l, l = byB ⟨ba, la, fr, ep, pi, ge, se, tx, ct, rs⟩ := ⟨_, rfl⟩
  rw [← hl] at hle hpos
  obtain ⟨N, hN⟩ : ∃ N, l.length = N := ⟨_, rfl⟩
  rw [hN] at hle hpos
  obtain ⟨K, hK⟩ : ∃ K, C % N = K := ⟨_, rfl⟩
  obtain ⟨J, hJ⟩ : ∃ J, E % N = J := ⟨_, rfl⟩
  have hK1 : K < N := by rw [← hK]; exact Nat.mod_lt _ (by omega)
  have hJ1 : J < N := by rw [← hJ]; exact Nat.mod_lt _ (by omega)
  have hKm : (C : Int) % (N : Int) = (K : Int) := by rw [← hK]; exact (Int.natCast_emod C N).symm
  have hJm : (E : Int) % (N : Int) = (J : Int) := by rw [← hJ]; exact (Int.natCast_emod E N).symm
  obtain ⟨d, hd⟩ : ∃ d, l[J]? = some d := ⟨_, List.getElem?_eq_getElem (by omega)⟩
  have HP := Lib.hid (show ptB ⟨ba, la, fr, ep, pi, ge, se, tx, ct, rs⟩ = (l, 0) by unfold ptB; rw [if_pos hc0, hl])
  have HG := Lib.hid (show grB (l.take K) 0 = (⟨0, 0, 0, 0, 0, 0, 0, false, 0, []⟩, 0, 10) by
    rw [hl]
    exact grB_cut hc0 (by rw [← hl, hN]; exact hK1))
  have hsp := grB_spoilt hc0 (i := J) (d := d) (e := tq) (by rw [← hl]; exact hd)
  rw [← hl] at hsp
  rcases hgr : grB (l.set J tq) 0 with ⟨⟨ba2, la2, fr2, ep2, pi2, ge2, se2, tx2, ct2, rs2⟩, q2, z2⟩
  rw [hgr] at hsp
  simp only at hsp
  have HG2 := Lib.hid hgr
  have HD := Lib.hid hd
  have HN := Lib.hid hN
  have hN0 : ((N : Int) == 0) = false := beqF (by omega)
  have hN1 : (0 : Int) < (N : Int) := by omega
  have k1 : (K : Int) ≤ (N : Int) := by omega
  have k2 : (J : Int) < (N : Int) := by omega
  have k3 : (0 : Int) ≤ (K : Int) := by omega
  have k4 : (0 : Int) ≤ (J : Int) := by omega
  clear hz hfn hR ht hfw hc0 hl hK hJ hgr hd hN hpos
  by_cases hdt : d = tq
  · have e1 : (z2 == 0) = true := beqT (hsp.2 hdt)
    have e2 : ((d.toNat : Int) == (tq.toNat : Int)) = true := by rw [hdt]; simp
    clear hsp hdt
    go_enter Tryd.func9, Tryd.ntmps9
    go_wp2_with (first
      | (go_at_call 12; (with_reducible refine (live_any _ HT1.out).mono ?_); rintro e w2 ⟨rfl, hb2⟩; have HB2 := Lib.hid (HB1.out.below hb2); obtain ⟨y2_0, y2_1, y2_2, y2_3, y2_4, y2_5, y2_6, y2_7, y2_8, y2_9⟩ := HB2.out.box; have HT2 := Lib.hid (HT1.out.bel hb2); have HW2 := Lib.hid (bel_trans HW1.out hb2))
      | (go_at_call 13; (with_reducible refine (refFew_is ba la fr ep pi ge se tx ct rs A n c _ HB2.out.rd HFIT.out hcr HZ.out).mono ?_); rintro e w3 ⟨rfl, hb3⟩; have HB3 := Lib.hid (HB2.out.below hb3); obtain ⟨y3_0, y3_1, y3_2, y3_3, y3_4, y3_5, y3_6, y3_7, y3_8, y3_9⟩ := HB3.out.box; have HT3 := Lib.hid (HT2.out.bel hb3); have HW3 := Lib.hid (bel_trans HW2.out hb3))
      | (go_at_call 18; (with_reducible refine (BPut_is ba la fr ep pi ge se tx ct rs A n c _ HFITS.out HB3.out.rd hn40 HT3.out HP.out).mono ?_); rintro e w4 ⟨PA4, pn4, pc4, rfl, po4, hb4⟩; have HB4 := Lib.hid (HB3.out.below hb4); obtain ⟨y4_0, y4_1, y4_2, y4_3, y4_4, y4_5, y4_6, y4_7, y4_8, y4_9⟩ := HB4.out.box; have HT4 := Lib.hid (HT3.out.bel hb4); have HW4 := Lib.hid (bel_trans HW3.out hb4); have hl4 := po4.len; have hl4' : N = pn4 := HN.out.symm.trans hl4; subst hl4'; obtain ⟨g4, e4, hg4⟩ := own_form po4 (by omega); subst e4; have hx4 := own_cell_is po4 HD.out; have hc4 := po4.cap; have k5 : (K : Int) ≤ (pc4 : Int) := (by omega); have PO4 := Lib.hid po4; have HX4 := Lib.hid hx4; clear po4 hl4 hx4)
      | (go_at_call 21; (with_reducible refine (Copy_any (some ⟨g4, 0, none⟩) N pc4 l _ _ (PO4.out.rd.below HB45.out (Nat.le_refl _)) (by omega)).mono ?_); rintro e w7 ⟨A7, n7, c7, rfl, ho7, hb7⟩; have hn7 : N = n7 := HN.out.symm.trans ho7.len; subst hn7; obtain ⟨g7, e7, hg7⟩ := own_form ho7 (by omega); subst e7; obtain ⟨d7, hx7, hf7⟩ := own_cell ho7 hJ1; have HO7 := Lib.hid ho7; have hcap7 := ho7.cap; clear ho7; have HT7 := Lib.hid (HT5.out.bel hb7); have HW7 := Lib.hid (bel_trans HW5.out hb7); have HP7 := Lib.hid (own_put (j := J) HO7.out hg7 tq); have HB47 := Lib.hid (HB45.out.trans (hb7.mono HB45.out.size)); have hs7 := hb7.size; have hs5 := HB45.out.size)
      | (go_at_call 22; (with_reducible refine (BGet_is (some ⟨g7, 0, none⟩) N c7 (l.set J tq) _ 0 _ HP7.out.1.rd (Nat.le_refl _) (by omega) (by omega) (by unfold I64; omega) (HT7.out.below HP7.out.2 HT5.out.pos) HG2.out).mono ?_); rintro e w9 ⟨A9, n9, c9, rfl, hc9, ho9, hb9⟩; have hb79a := HP7.out.2.trans (hb9.mono (by have := HP7.out.2.size; omega)); have hb79 := hb79a.alloc (Nat.le_trans hs7 hb79a.size) (.cells #[.int .i64 ba2, .int .i64 la2, .int .i64 fr2, .int .i64 ep2, .int .i64 pi2, .int .i64 ge2, .int .i64 se2, .bool tx2, .int .i64 ct2, .slice A9 n9 c9] 24); have HB49 := Lib.hid (HB47.out.trans (hb79.mono hs5)); have hx9 := (HB49.out.cell (p := ⟨g4, J, none⟩) (World.block_lt_of_cell? _ _ HX4.out.1)).trans HX4.out.1; have HW9 := Lib.hid (bel_trans HW4.out HB49.out))
      | (go_at_call 22; (with_reducible refine (BGet_is (some ⟨g4, 0, none⟩) K pc4 (l.take K) _ 0 _ (PO4.out.rd.take (by omega)) (Nat.le_refl _) (by omega) (by omega) (by unfold I64; omega) HT4.out HG.out).mono ?_); rintro e w5 ⟨A5, n5, c5, rfl, hc5, ho5, hb5⟩; have hb45 := bel_alloc hb5 (.cells #[.int .i64 0, .int .i64 0, .int .i64 0, .int .i64 0, .int .i64 0, .int .i64 0, .int .i64 0, .bool false, .int .i64 0, .slice A5 n5 c5] 24); have HT5 := Lib.hid (HT4.out.bel hb45); have HW5 := Lib.hid (bel_trans HW4.out hb45); have HB45 := Lib.hid hb45; clear hb45))
    go_ret
    exact ⟨rfl, HW9.out⟩
  · have e1 : (z2 == 0) = false := beqF fun h => hdt (hsp.1 h)
    have e2 : ((d.toNat : Int) == (tq.toNat : Int)) = false := beqF fun h => hdt (UInt8.toNat.inj (by omega))
    clear hsp hdt
    go_enter Tryd.func9, Tryd.ntmps9
    go_wp2_with (first
      | (go_at_call 12; (with_reducible refine (live_any _ HT1.out).mono ?_); rintro e w2 ⟨rfl, hb2⟩; have HB2 := Lib.hid (HB1.out.below hb2); obtain ⟨y2_0, y2_1, y2_2, y2_3, y2_4, y2_5, y2_6, y2_7, y2_8, y2_9⟩ := HB2.out.box; have HT2 := Lib.hid (HT1.out.bel hb2); have HW2 := Lib.hid (bel_trans HW1.out hb2))
      | (go_at_call 13; (with_reducible refine (refFew_is ba la fr ep pi ge se tx ct rs A n c _ HB2.out.rd HFIT.out hcr HZ.out).mono ?_); rintro e w3 ⟨rfl, hb3⟩; have HB3 := Lib.hid (HB2.out.below hb3); obtain ⟨y3_0, y3_1, y3_2, y3_3, y3_4, y3_5, y3_6, y3_7, y3_8, y3_9⟩ := HB3.out.box; have HT3 := Lib.hid (HT2.out.bel hb3); have HW3 := Lib.hid (bel_trans HW2.out hb3))
      | (go_at_call 18; (with_reducible refine (BPut_is ba la fr ep pi ge se tx ct rs A n c _ HFITS.out HB3.out.rd hn40 HT3.out HP.out).mono ?_); rintro e w4 ⟨PA4, pn4, pc4, rfl, po4, hb4⟩; have HB4 := Lib.hid (HB3.out.below hb4); obtain ⟨y4_0, y4_1, y4_2, y4_3, y4_4, y4_5, y4_6, y4_7, y4_8, y4_9⟩ := HB4.out.box; have HT4 := Lib.hid (HT3.out.bel hb4); have HW4 := Lib.hid (bel_trans HW3.out hb4); have hl4 := po4.len; have hl4' : N = pn4 := HN.out.symm.trans hl4; subst hl4'; obtain ⟨g4, e4, hg4⟩ := own_form po4 (by omega); subst e4; have hx4 := own_cell_is po4 HD.out; have hc4 := po4.cap; have k5 : (K : Int) ≤ (pc4 : Int) := (by omega); have PO4 := Lib.hid po4; have HX4 := Lib.hid hx4; clear po4 hl4 hx4)
      | (go_at_call 21; (with_reducible refine (Copy_any (some ⟨g4, 0, none⟩) N pc4 l _ _ (PO4.out.rd.below HB45.out (Nat.le_refl _)) (by omega)).mono ?_); rintro e w7 ⟨A7, n7, c7, rfl, ho7, hb7⟩; have hn7 : N = n7 := HN.out.symm.trans ho7.len; subst hn7; obtain ⟨g7, e7, hg7⟩ := own_form ho7 (by omega); subst e7; obtain ⟨d7, hx7, hf7⟩ := own_cell ho7 hJ1; have HO7 := Lib.hid ho7; have hcap7 := ho7.cap; clear ho7; have HT7 := Lib.hid (HT5.out.bel hb7); have HW7 := Lib.hid (bel_trans HW5.out hb7); have HP7 := Lib.hid (own_put (j := J) HO7.out hg7 tq); have HB47 := Lib.hid (HB45.out.trans (hb7.mono HB45.out.size)); have hs7 := hb7.size; have hs5 := HB45.out.size)
      | (go_at_call 22; (with_reducible refine (BGet_is (some ⟨g7, 0, none⟩) N c7 (l.set J tq) _ 0 _ HP7.out.1.rd (Nat.le_refl _) (by omega) (by omega) (by unfold I64; omega) (HT7.out.below HP7.out.2 HT5.out.pos) HG2.out).mono ?_); rintro e w9 ⟨A9, n9, c9, rfl, hc9, ho9, hb9⟩; have hb79a := HP7.out.2.trans (hb9.mono (by have := HP7.out.2.size; omega)); have hb79 := hb79a.alloc (Nat.le_trans hs7 hb79a.size) (.cells #[.int .i64 ba2, .int .i64 la2, .int .i64 fr2, .int .i64 ep2, .int .i64 pi2, .int .i64 ge2, .int .i64 se2, .bool tx2, .int .i64 ct2, .slice A9 n9 c9] 24); have HB49 := Lib.hid (HB47.out.trans (hb79.mono hs5)); have hx9 := (HB49.out.cell (p := ⟨g4, J, none⟩) (World.block_lt_of_cell? _ _ HX4.out.1)).trans HX4.out.1; have HW9 := Lib.hid (bel_trans HW4.out HB49.out))
      | (go_at_call 22; (with_reducible refine (BGet_is (some ⟨g4, 0, none⟩) K pc4 (l.take K) _ 0 _ (PO4.out.rd.take (by omega)) (Nat.le_refl _) (by omega) (by omega) (by unfold I64; omega) HT4.out HG.out).mono ?_); rintro e w5 ⟨A5, n5, c5, rfl, hc5, ho5, hb5⟩; have hb45 := bel_alloc hb5 (.cells #[.int .i64 0, .int .i64 0, .int .i64 0, .int .i64 0, .int .i64 0, .int .i64 0, .int .i64 0, .bool false, .int .i64 0, .slice A5 n5 c5] 24); have HT5 := Lib.hid (HT4.out.bel hb45); have HW5 := Lib.hid (bel_trans HW4.out hb45); have HB45 := Lib.hid hb45; clear hb45))
    go_ret
    exact ⟨rfl, HW9.out⟩
end Go.Proofs.YtodklilnmianeaaDoor.Bat

namespace Go.Proofs.YtodklilnmianeaaDoor.batchSpoilt
open Go.ChangeShapes Go.WideShapes Go.ChangeAt Go.RowKit

theorem own : ownKnob Tryd.prog.godebug = none := by kernel_rfl
theorem laidOut : laidOutB Tryd.prog = true := by kernel_rfl

set_option maxRecDepth 100000 in
theorem lifted (os : Os) (started : os.Started) (H : Type) (enc : TypeId × Value → H) :
    ReturnsInHanded {} Tryd.checked os 9 .any (fun w args => (Rows.batchSpoiltSpec.pre enc Tryd.prog Tryd.f9 [] false w args ∧ laidMetH Tryd.prog Crc.listed w) ∧ sizedMet enc Tryd.prog Tryd.f9 (OpenSpec.ofChange Rows.batchSpoiltSpec) false w args)
      (Rows.batchSpoiltSpec.post enc Tryd.prog Tryd.f9 false true false false) := by
  refine returnsInHanded_of_change_and (C := Tryd.checked) (X := fun w _ => laidMetH Tryd.prog Crc.listed w) (fun _ _ _ hh h => h.of_heap hh) own started (by kernel_rfl) Tryd.func9
    (ChangeSpec.witness_shaped (enc := enc) (C := Tryd.checked) (os := os) (X := fun w _ => laidMetH Tryd.prog Crc.listed w) false (World.doorLaid Tryd.prog 400 os) #[.agg #[.int .i64 0, .int .i64 0, .int .i64 0, .int .i64 0, .int .i64 0, .int .i64 0, .int .i64 0, .bool false, .int .i64 0, .slice none 0 0], .int .i64 0, .int .i64 0, .int .u8 0] 8 rfl (World.shaped_of_RefB (by kernel_rfl) (by kernel_rfl)) (by kernel_rfl) (by kernel_rfl) (by kernel_rfl) (Crc.door_met os _)) ?_
  intro W base args ds gs before hval0 hW _ hwt hL _
  have hval : ∀ (j : Nat) t v, Tryd.f9.params[j]? = some t → args[j]? = some v → Value.okWide Tryd.prog W .any base t v := hval0
  have hW' := hW
  obtain ⟨p, q, hA0, hV, rfl, hfz, hnd⟩ := hW
  have hA : DataW.TrodAll enc Tryd.prog W 0 (fun _ => true) true Tryd.f9.params.toList args.toList ds p := hA0
  rw [Tryd.params9] at hA hval
  obtain ⟨v0, vs0, d0, ds0, p0, q0, hargs, rfl, rfl, h0, r0⟩ := trodAll_cons hA
  obtain ⟨v1, vs1, d1, ds1, p1, q1, rfl, rfl, rfl, h1, r1⟩ := trodAll_cons r0
  obtain ⟨v2, vs2, d2, ds2, p2, q2, rfl, rfl, rfl, h2, r2⟩ := trodAll_cons r1
  obtain ⟨v3, vs3, d3, ds3, p3, q3, rfl, rfl, rfl, h3, r3⟩ := trodAll_cons r2
  obtain ⟨rfl, rfl, rfl⟩ := trodAll_nil r3
  obtain rfl : args = #[v0, v1, v2, v3] := by cases args; simp_all
  obtain ⟨rfl, rfl⟩ := trodVars_none hV
  have k0 := h0
  have lt0 : ∀ x ∈ p0, x.block < W.heap.size := by obtain ⟨m, hm⟩ := k0; exact DataW.trod_lt m _ _ _ hm
  obtain ⟨ba_0, la_0, fr_0, ep_0, pi_0, ge_0, se_0, tx_0, ct_0, A_0, n_0, c_0, rs_0, rfl, hf_0, hc_0, hk_0, hR_0⟩ := Bat.open_batch (hval 0 24 v0 rfl rfl) h0 (Bat.weights_arg (j := 0) hwt (by kernel_rfl) rfl)
  have k1 := h1
  have lt1 : ∀ x ∈ p1, x.block < W.heap.size := by obtain ⟨m, hm⟩ := k1; exact DataW.trod_lt m _ _ _ hm
  obtain ⟨a1, rfl, hi1⟩ := Oct.open_i64 Tryd.underlying3 (hval 1 3 v1 rfl rfl) h1
  have k2 := h2
  have lt2 : ∀ x ∈ p2, x.block < W.heap.size := by obtain ⟨m, hm⟩ := k2; exact DataW.trod_lt m _ _ _ hm
  obtain ⟨a2, rfl, hi2⟩ := Oct.open_i64 Tryd.underlying3 (hval 2 3 v2 rfl rfl) h2
  have k3 := h3
  have lt3 : ∀ x ∈ p3, x.block < W.heap.size := by obtain ⟨m, hm⟩ := k3; exact DataW.trod_lt m _ _ _ hm
  obtain ⟨a3, rfl⟩ := Oct.open_u8 Tryd.underlying5 (hval 3 5 v3 rfl rfl) h3
  clear hA0 hval0
  refine (Bat.batchSpoilt_walk ba_0 la_0 fr_0 ep_0 pi_0 ge_0 se_0 tx_0 ct_0 A_0 n_0 c_0 rs_0 a1 a2 a3 W hf_0 hc_0 hk_0 hR_0 hi1 hi2 (Crc.tab_of_laid hL)).mono fun e W' ⟨he, bel⟩ => ?_
  subst he
  exact ⟨_, rfl, _, _, _, [], _, [], hW', trodAll_mk1 (shut_bool Tryd.underlying4 _), (trodAll_cons_mk (Below.trod laidOut (by kernel_rfl) (of_decide_eq_true (by kernel_rfl)) k0 bel lt0) (trodAll_cons_mk (Below.trod laidOut (by kernel_rfl) (of_decide_eq_true (by kernel_rfl)) k1 bel lt1) (trodAll_cons_mk (Below.trod laidOut (by kernel_rfl) (of_decide_eq_true (by kernel_rfl)) k2 bel lt2) (trodAll_cons_mk (Below.trod laidOut (by kernel_rfl) (of_decide_eq_true (by kernel_rfl)) k3 bel lt3) trodAll_mk0)))), rfl, bel.frame _, fun h => by cases h⟩

theorem over : Rows.batchSpoiltRow.holds Tryd.pinned (OpenSpec.ofChange Rows.batchSpoiltSpec) :=
  OpenClaim.holds_of_wide 9 Tryd.f9 rfl rfl rfl rfl rfl rfl rfl ⟨rfl, rfl, rfl, rfl, rfl⟩ rfl rfl rfl rfl rfl (by kernel_rfl) Tryd.func9 (by kernel_rfl)
    (of_decide_eq_true (by kernel_rfl)) (by unfold Func.isWrapper; first | (rw [if_pos (by decide +kernel)]; kernel_rfl) | (rw [if_neg (by decide +kernel)]; exact ⟨rfl, rfl⟩))
    (fun os started H enc _ => lifted os started H enc)

theorem proved : Rows.BatchSpoiltCardSaid :=
  Claim7.holds_tied_plain_at .later [] [.data] true (true, "b2bb5b872d99db4528b8f9f391f1dc5ae62899eedab3193a28525a8a26d7af1c") false
    over (fun _ h => by cases h) (by kernel_rfl) (fun _ h => by cases h) batchSpoilt_row_tie rfl ⟨rfl, rfl⟩ (by kernel_rfl) rfl
    (fun f fn hf hfn => by
      obtain rfl : f = 9 := Option.some.inj ((show Tryd.prog.funcNamed "watermeet/watermeetlaw04.BatchSpoilt" = some 9 by kernel_rfl).symm.trans hf) |>.symm
      obtain rfl : fn = Tryd.f9 := (Option.some.inj (Tryd.func9.symm.trans hfn)).symm
      exact ⟨by kernel_rfl, fun j t ht => by
        rw [Tryd.params9] at ht
        have hm : t ∈ [24, 3, 3, 5] := by simpa using Array.mem_of_getElem? ht
        have hall : ([24, 3, 3, 5].all fun u => !Tryd.prog.wantsStandIn u) = true := by kernel_rfl
        exact (show Tryd.prog.wantsStandIn t = false by simpa using List.all_eq_true.1 hall t hm)⟩)
    (by kernel_rfl)
#print axioms proved
end Go.Proofs.YtodklilnmianeaaDoor.batchSpoilt
