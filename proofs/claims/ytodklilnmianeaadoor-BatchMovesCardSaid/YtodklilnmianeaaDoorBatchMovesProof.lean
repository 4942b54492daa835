/- For any two batches that are short, and any base: what the first one is at that base, or why it can't be, and whether the two are the same, is what the document's own answer says; it stays as it was (the law answers true, and changes nothing that was there). Conditions: none but the table of crc's steps, tied to the program's text.
-/
import Derived.Test.YtodklilnmianeaaDoorJBatK
import Derived.Test.YtodklilnmianeaaDoorJBatA
import Derived.Test.YtodklilnmianeaaDoorJBatC
import Derived.Test.YtodklilnmianeaaDoorJBatS
import Derived.Deep.RegionHeld3
import Derived.Test.YtodklilnmianeaaDoorRows
import Derived.WalkKit
import Derived.ProofKit
import Derived.OpenShut
import Derived.ChangeOld
import Derived.Below
import Derived.Carry
import Derived.Test.YtodklilnmianeaaDoorJOct
import Derived.Test.YtodklilnmianeaaDoorJCrc
import Derived.Test.YtodklilnmianeaaDoorTie
import Derived.Test.YtodklilnmianeaaDoorCards
import Derived.SevenTiedAt
/- The walk of BatchMoves. -/
namespace Go.Proofs.YtodklilnmianeaaDoor.Bat
open Go.RowKit Go.Proofs.YtodklilnmianeaaDoor.Oct Go.Proofs.YtodklilnmianeaaDoor.Rec Go.Proofs.YtodklilnmianeaaDoor.Crc Go.Proofs.YtodklilnmianeaaDoor.Lay Go.Proofs.YtodklilnmianeaaDoor.RowF

theorem refMovedB_is (ba la fr ep pi ge se : Int) (tx : Bool) (ct : Int) (rs : List Rc) (A : Option Addr) (n c : Nat) (base : Int) (w : World) (hf : Fits ⟨ba, la, fr, ep, pi, ge, se, tx, ct, rs⟩) (hr : RdR w w.heap.size A n rs) (hc : n ≤ c) (hn : n ≤ 1099511627776) (hb : I64 base) {ba' la' fr' ep' pi' ge' se' : Int} {tx' : Bool} {ct' : Int} {rs' : List Rc} {z : Int} (h : mvB ⟨ba, la, fr, ep, pi, ge, se, tx, ct, rs⟩ base = (⟨ba', la', fr', ep', pi', ge', se', tx', ct', rs'⟩, z)) :
    Calls Tryd.prog 27 #[.agg #[.int .i64 ba, .int .i64 la, .int .i64 fr, .int .i64 ep, .int .i64 pi, .int .i64 ge, .int .i64 se, .bool tx, .int .i64 ct, .slice A n c], .int .i64 base] w fun e w' => ∃ A' n' c', e = .returned (.tuple #[.agg #[.int .i64 ba', .int .i64 la', .int .i64 fr', .int .i64 ep', .int .i64 pi', .int .i64 ge', .int .i64 se', .bool tx', .int .i64 ct', .slice A' n' c'], .int .i64 z]) ∧ n' ≤ c' ∧ OwnR w' w.heap.size A' n' rs' ∧ Below w.heap.size w w' := by
  have h1 := refMovedB ba la fr ep pi ge se tx ct A n c rs base w hf hr hc hn hb
  rw [h] at h1
  exact h1
/-- the loop that counts up offsets: what it leaves alone -/
def upRel (b : Bt) (v : Value) (A : Option Addr) (n X B : Nat) (w : World) (i : Value) (wr : World) : Prop :=
  ∃ k : Nat, i = .int .i64 (k : Int) ∧ k ≤ n ∧ (∀ g o, A = some ⟨g, o, none⟩ → (∀ j, k ≤ j → wr.cell? ⟨g, o + j * 5, none⟩ = w.cell? ⟨g, o + j * 5, none⟩) ∧ (∀ j, j < n * 5 → wr.frozen? ⟨g, o + j, none⟩ = false)) ∧ BoxB wr X b v ∧ Below B w wr
set_option maxRecDepth 100000 in
set_option maxHeartbeats 4000000 in
theorem batchMoves_walk (ba la fr ep pi ge se : Int) (tx : Bool) (ct : Int) (A : Option Addr) (n c : Nat) (rs : List Rc) (ba' la' fr' ep' pi' ge' se' : Int) (tx' : Bool) (ct' : Int) (A' : Option Addr) (n' c' : Nat) (rs' : List Rc) (base : Int) (w : World) (hfn : FitN ⟨ba, la, fr, ep, pi, ge, se, tx, ct, rs⟩) (hnc : n ≤ c) (hcap : c ≤ reach) (hR : RdL w w.heap.size A n rs) (_hfn' : FitN ⟨ba', la', fr', ep', pi', ge', se', tx', ct', rs'⟩) (hnc' : n' ≤ c') (hcap' : c' ≤ reach) (hR' : RdL w w.heap.size A' n' rs') (hb0 : I64 base) (ht : Tab w) :
    Calls Tryd.prog 6 #[.agg #[.int .i64 ba, .int .i64 la, .int .i64 fr, .int .i64 ep, .int .i64 pi, .int .i64 ge, .int .i64 se, .bool tx, .int .i64 ct, .slice A n c], .agg #[.int .i64 ba', .int .i64 la', .int .i64 fr', .int .i64 ep', .int .i64 pi', .int .i64 ge', .int .i64 se', .bool tx', .int .i64 ct', .slice A' n' c'], .int .i64 base] w fun e w' => e = .returned (.bool true) ∧ Below w.heap.size w w' := by
  have HW1 := Lib.hid (bel_alloc (bel_alloc (Below.refl w.heap.size w) (.cells #[.int .i64 ba, .int .i64 la, .int .i64 fr, .int .i64 ep, .int .i64 pi, .int .i64 ge, .int .i64 se, .bool tx, .int .i64 ct, .slice A n c] 24)) (.cells #[.int .i64 ba', .int .i64 la', .int .i64 fr', .int .i64 ep', .int .i64 pi', .int .i64 ge', .int .i64 se', .bool tx', .int .i64 ct', .slice A' n' c'] 24))
  have HB1 := Lib.hid ((BR.new (b := ⟨ba, la, fr, ep, pi, ge, se, tx, ct, rs⟩) (c := c) 24 (RdL_recs hR)).alloc (.cells #[.int .i64 ba', .int .i64 la', .int .i64 fr', .int .i64 ep', .int .i64 pi', .int .i64 ge', .int .i64 se', .bool tx', .int .i64 ct', .slice A' n' c'] 24))
  have HD1 := Lib.hid (show BR ((w.alloc (.cells #[.int .i64 ba, .int .i64 la, .int .i64 fr, .int .i64 ep, .int .i64 pi, .int .i64 ge, .int .i64 se, .bool tx, .int .i64 ct, .slice A n c] 24)).alloc (.cells #[.int .i64 ba', .int .i64 la', .int .i64 fr', .int .i64 ep', .int .i64 pi', .int .i64 ge', .int .i64 se', .bool tx', .int .i64 ct', .slice A' n' c'] 24)) (w.heap.size + 1) ⟨ba', la', fr', ep', pi', ge', se', tx', ct', rs'⟩ A' n' c' by
    have h := BR.new (b := ⟨ba', la', fr', ep', pi', ge', se', tx', ct', rs'⟩) (c := c') 24 (((RdL_recs hR').alloc (Nat.le_refl _) (.cells #[.int .i64 ba, .int .i64 la, .int .i64 fr, .int .i64 ep, .int .i64 pi, .int .i64 ge, .int .i64 se, .bool tx, .int .i64 ct, .slice A n c] 24)).more (B' := (w.alloc (.cells #[.int .i64 ba, .int .i64 la, .int .i64 fr, .int .i64 ep, .int .i64 pi, .int .i64 ge, .int .i64 se, .bool tx, .int .i64 ct, .slice A n c] 24)).heap.size) (by simp))
    rw [show (w.alloc (.cells #[.int .i64 ba, .int .i64 la, .int .i64 fr, .int .i64 ep, .int .i64 pi, .int .i64 ge, .int .i64 se, .bool tx, .int .i64 ct, .slice A n c] 24)).heap.size = w.heap.size + 1 by simp] at h
    exact h)
  have HFIT := Lib.hid (RdL_fit hR)
  have HFIT' := Lib.hid (RdL_fit hR')
  have HT1 := Lib.hid (ht.bel HW1.out)
  have hcr := Nat.le_trans hnc hcap
  have hcr' := Nat.le_trans hnc' hcap'
  obtain ⟨b1_0, b1_1, b1_2, b1_3, b1_4, b1_5, b1_6, b1_7, b1_8, b1_9⟩ := HB1.out.box
  obtain ⟨d1_0, d1_1, d1_2, d1_3, d1_4, d1_5, d1_6, d1_7, d1_8, d1_9⟩ := HD1.out.box
  rcases hz : fewT ⟨ba, la, fr, ep, pi, ge, se, tx, ct, rs⟩ with _ | _
  · have HZ := Lib.hid hz
    clear hz hfn hR ht hR'
    go_enter Tryd.func6, Tryd.ntmps6
    go_wp2_with (first
      | (go_at_call 12; (with_reducible refine (live_any _ HT1.out).mono ?_); rintro e w2 ⟨rfl, hb2⟩; have HB2 := Lib.hid (HB1.out.below hb2); obtain ⟨b2_0, b2_1, b2_2, b2_3, b2_4, b2_5, b2_6, b2_7, b2_8, b2_9⟩ := HB2.out.box; have HD2 := Lib.hid (HD1.out.below hb2); obtain ⟨d2_0, d2_1, d2_2, d2_3, d2_4, d2_5, d2_6, d2_7, d2_8, d2_9⟩ := HD2.out.box; have HT2 := Lib.hid (HT1.out.bel hb2); have HW2 := Lib.hid (bel_trans HW1.out hb2))
      | (go_at_call 13; (with_reducible refine (refFew_is ba la fr ep pi ge se tx ct rs A n c _ HB2.out.rd HFIT.out hcr HZ.out).mono ?_); rintro e w3 ⟨rfl, hb3⟩; have HB3 := Lib.hid (HB2.out.below hb3); obtain ⟨b3_0, b3_1, b3_2, b3_3, b3_4, b3_5, b3_6, b3_7, b3_8, b3_9⟩ := HB3.out.box; have HD3 := Lib.hid (HD2.out.below hb3); obtain ⟨d3_0, d3_1, d3_2, d3_3, d3_4, d3_5, d3_6, d3_7, d3_8, d3_9⟩ := HD3.out.box; have HT3 := Lib.hid (HT2.out.bel hb3); have HW3 := Lib.hid (bel_trans HW2.out hb3)))
    go_ret
    exact ⟨rfl, HW3.out⟩
  have HZ := Lib.hid hz
  rcases hz' : fewT ⟨ba', la', fr', ep', pi', ge', se', tx', ct', rs'⟩ with _ | _
  · have HZ' := Lib.hid hz'
    clear hz hz' hfn hR ht hR'
    go_enter Tryd.func6, Tryd.ntmps6
    go_wp2_with (first
      | (go_at_call 12; (with_reducible refine (live_any _ HT1.out).mono ?_); rintro e w2 ⟨rfl, hb2⟩; have HB2 := Lib.hid (HB1.out.below hb2); obtain ⟨b2_0, b2_1, b2_2, b2_3, b2_4, b2_5, b2_6, b2_7, b2_8, b2_9⟩ := HB2.out.box; have HD2 := Lib.hid (HD1.out.below hb2); obtain ⟨d2_0, d2_1, d2_2, d2_3, d2_4, d2_5, d2_6, d2_7, d2_8, d2_9⟩ := HD2.out.box; have HT2 := Lib.hid (HT1.out.bel hb2); have HW2 := Lib.hid (bel_trans HW1.out hb2))
      | (go_at_call 13; (with_reducible refine (refFew_is ba' la' fr' ep' pi' ge' se' tx' ct' rs' A' n' c' _ HD3.out.rd HFIT'.out hcr' HZ'.out).mono ?_); rintro e w4 ⟨rfl, hb4⟩; have HB4 := Lib.hid (HB3.out.below hb4); obtain ⟨b4_0, b4_1, b4_2, b4_3, b4_4, b4_5, b4_6, b4_7, b4_8, b4_9⟩ := HB4.out.box; have HD4 := Lib.hid (HD3.out.below hb4); obtain ⟨d4_0, d4_1, d4_2, d4_3, d4_4, d4_5, d4_6, d4_7, d4_8, d4_9⟩ := HD4.out.box; have HT4 := Lib.hid (HT3.out.bel hb4); have HW4 := Lib.hid (bel_trans HW3.out hb4))
      | (go_at_call 13; (with_reducible refine (refFew_is ba la fr ep pi ge se tx ct rs A n c _ HB2.out.rd HFIT.out hcr HZ.out).mono ?_); rintro e w3 ⟨rfl, hb3⟩; have HB3 := Lib.hid (HB2.out.below hb3); obtain ⟨b3_0, b3_1, b3_2, b3_3, b3_4, b3_5, b3_6, b3_7, b3_8, b3_9⟩ := HB3.out.box; have HD3 := Lib.hid (HD2.out.below hb3); obtain ⟨d3_0, d3_1, d3_2, d3_3, d3_4, d3_5, d3_6, d3_7, d3_8, d3_9⟩ := HD3.out.box; have HT3 := Lib.hid (HT2.out.bel hb3); have HW3 := Lib.hid (bel_trans HW2.out hb3)))
    go_ret
    exact ⟨rfl, HW4.out⟩
  have HZ' := Lib.hid hz'
  have hfw := fewT_iff hz
  have hfw' := fewT_iff hz'
  simp only at hfw hfw'
  have HFITS := Lib.hid (fits_of hfn (RdL_fit hR) hz)
  have hn40 : n ≤ 1099511627776 := by have := hR.len; omega
  have hn40' : n' ≤ 1099511627776 := by have := hR'.len; omega
  have hlen := hR.len
  rcases hm : mvB ⟨ba, la, fr, ep, pi, ge, se, tx, ct, rs⟩ base with ⟨⟨ba1, la1, fr1, ep1, pi1, ge1, se1, tx1, ct1, rs1⟩, z⟩
  have HM := Lib.hid hm
  have HRR := Lib.hid (RdL_recs hR)
  have HRS := Lib.hid (show (rs1.length ≤ n) ∧ ∀ r ∈ rs1, 0 ≤ r.off ∧ r.off ≤ 1099511627776 by
    by_cases hz0 : z = 0
    · subst hz0
      obtain ⟨gx, gc, gc1, gb, gm⟩ := mvB_good hm
      have h1 := (chB_form gc1).1.mays
      unfold mvO at gx
      simp only [Bt.mk.injEq] at gx
      refine ⟨by rw [gx.2.2.2.2.2.2.2.2.2, List.length_map, hlen]; exact Nat.le_refl _, fun r hr => (may_iff.1 (h1 r hr)).1⟩
    · have e1 := mvB_bad hm hz0
      simp only [nilB, Bt.mk.injEq] at e1
      rw [e1.2.2.2.2.2.2.2.2.2]
      exact ⟨Nat.zero_le _, fun r hr => absurd hr (by simp)⟩)
  obtain ⟨s, hs⟩ : ∃ s, eqB ⟨ba, la, fr, ep, pi, ge, se, tx, ct, rs⟩ ⟨ba', la', fr', ep', pi', ge', se', tx', ct', rs'⟩ = s := ⟨_, rfl⟩
  have HS := Lib.hid hs
  have hzz : (z == z) = true := by simp
  have hss : (s == s) = true := by simp
  clear hz hz' hfn hR ht hR' hfw hfw' hm hs hlen
  go_enter Tryd.func6, Tryd.ntmps6
  go_wp2_with (first
    | (go_at_call 12; (with_reducible refine (live_any _ HT1.out).mono ?_); rintro e w2 ⟨rfl, hb2⟩; have HB2 := Lib.hid (HB1.out.below hb2); obtain ⟨b2_0, b2_1, b2_2, b2_3, b2_4, b2_5, b2_6, b2_7, b2_8, b2_9⟩ := HB2.out.box; have HD2 := Lib.hid (HD1.out.below hb2); obtain ⟨d2_0, d2_1, d2_2, d2_3, d2_4, d2_5, d2_6, d2_7, d2_8, d2_9⟩ := HD2.out.box; have HT2 := Lib.hid (HT1.out.bel hb2); have HW2 := Lib.hid (bel_trans HW1.out hb2))
    | (go_at_call 13; (with_reducible refine (refFew_is ba' la' fr' ep' pi' ge' se' tx' ct' rs' A' n' c' _ HD3.out.rd HFIT'.out hcr' HZ'.out).mono ?_); rintro e w4 ⟨rfl, hb4⟩; have HB4 := Lib.hid (HB3.out.below hb4); obtain ⟨b4_0, b4_1, b4_2, b4_3, b4_4, b4_5, b4_6, b4_7, b4_8, b4_9⟩ := HB4.out.box; have HD4 := Lib.hid (HD3.out.below hb4); obtain ⟨d4_0, d4_1, d4_2, d4_3, d4_4, d4_5, d4_6, d4_7, d4_8, d4_9⟩ := HD4.out.box; have HT4 := Lib.hid (HT3.out.bel hb4); have HW4 := Lib.hid (bel_trans HW3.out hb4))
    | (go_at_call 13; (with_reducible refine (refFew_is ba la fr ep pi ge se tx ct rs A n c _ HB2.out.rd HFIT.out hcr HZ.out).mono ?_); rintro e w3 ⟨rfl, hb3⟩; have HB3 := Lib.hid (HB2.out.below hb3); obtain ⟨b3_0, b3_1, b3_2, b3_3, b3_4, b3_5, b3_6, b3_7, b3_8, b3_9⟩ := HB3.out.box; have HD3 := Lib.hid (HD2.out.below hb3); obtain ⟨d3_0, d3_1, d3_2, d3_3, d3_4, d3_5, d3_6, d3_7, d3_8, d3_9⟩ := HD3.out.box; have HT3 := Lib.hid (HT2.out.bel hb3); have HW3 := Lib.hid (bel_trans HW2.out hb3))
    | (go_at_call 25; (with_reducible refine (refCopyB_is ba la fr ep pi ge se tx ct rs A n c _ HB4.out.rd hn40).mono ?_); rintro e w5 ⟨A5, c5, rfl, ho5, hb5⟩; have HB5 := Lib.hid ((HB4.out.below hb5).alloc (.cells #[.int .i64 ba, .int .i64 la, .int .i64 fr, .int .i64 ep, .int .i64 pi, .int .i64 ge, .int .i64 se, .bool tx, .int .i64 ct, .slice A5 n c5] 24)); obtain ⟨b5_0, b5_1, b5_2, b5_3, b5_4, b5_5, b5_6, b5_7, b5_8, b5_9⟩ := HB5.out.box; have HD5 := Lib.hid ((HD4.out.below hb5).alloc (.cells #[.int .i64 ba, .int .i64 la, .int .i64 fr, .int .i64 ep, .int .i64 pi, .int .i64 ge, .int .i64 se, .bool tx, .int .i64 ct, .slice A5 n c5] 24)); obtain ⟨d5_0, d5_1, d5_2, d5_3, d5_4, d5_5, d5_6, d5_7, d5_8, d5_9⟩ := HD5.out.box; have HT5 := Lib.hid ((HT4.out.bel hb5).alloc (.cells #[.int .i64 ba, .int .i64 la, .int .i64 fr, .int .i64 ep, .int .i64 pi, .int .i64 ge, .int .i64 se, .bool tx, .int .i64 ct, .slice A5 n c5] 24)); have HW5 := Lib.hid (bel_alloc (bel_trans HW4.out hb5) (.cells #[.int .i64 ba, .int .i64 la, .int .i64 fr, .int .i64 ep, .int .i64 pi, .int .i64 ge, .int .i64 se, .bool tx, .int .i64 ct, .slice A5 n c5] 24)); have HS5 := Lib.hid (BR.new (b := ⟨ba, la, fr, ep, pi, ge, se, tx, ct, rs⟩) (c := c5) 24 ho5); obtain ⟨s5_0, s5_1, s5_2, s5_3, s5_4, s5_5, s5_6, s5_7, s5_8, s5_9⟩ := HS5.out.box)
    | (go_at_call 26; (with_reducible refine (BMoved_is ba la fr ep pi ge se tx ct rs A n c base _ HFITS.out HB5.out.rd hnc hn40 hb0 HT5.out HM.out).mono ?_); rintro e w6 ⟨A6, n6, c6, rfl, hc6, ho6, hb6⟩; have HB6 := Lib.hid ((HB5.out.below hb6).alloc (.cells #[.int .i64 ba1, .int .i64 la1, .int .i64 fr1, .int .i64 ep1, .int .i64 pi1, .int .i64 ge1, .int .i64 se1, .bool tx1, .int .i64 ct1, .slice A6 n6 c6] 24)); obtain ⟨b6_0, b6_1, b6_2, b6_3, b6_4, b6_5, b6_6, b6_7, b6_8, b6_9⟩ := HB6.out.box; have HD6 := Lib.hid ((HD5.out.below hb6).alloc (.cells #[.int .i64 ba1, .int .i64 la1, .int .i64 fr1, .int .i64 ep1, .int .i64 pi1, .int .i64 ge1, .int .i64 se1, .bool tx1, .int .i64 ct1, .slice A6 n6 c6] 24)); obtain ⟨d6_0, d6_1, d6_2, d6_3, d6_4, d6_5, d6_6, d6_7, d6_8, d6_9⟩ := HD6.out.box; have HS6 := Lib.hid ((HS5.out.below hb6).alloc (.cells #[.int .i64 ba1, .int .i64 la1, .int .i64 fr1, .int .i64 ep1, .int .i64 pi1, .int .i64 ge1, .int .i64 se1, .bool tx1, .int .i64 ct1, .slice A6 n6 c6] 24)); obtain ⟨s6_0, s6_1, s6_2, s6_3, s6_4, s6_5, s6_6, s6_7, s6_8, s6_9⟩ := HS6.out.box; have HT6 := Lib.hid ((HT5.out.bel hb6).alloc (.cells #[.int .i64 ba1, .int .i64 la1, .int .i64 fr1, .int .i64 ep1, .int .i64 pi1, .int .i64 ge1, .int .i64 se1, .bool tx1, .int .i64 ct1, .slice A6 n6 c6] 24)); have HW6 := Lib.hid (bel_alloc (bel_trans HW5.out hb6) (.cells #[.int .i64 ba1, .int .i64 la1, .int .i64 fr1, .int .i64 ep1, .int .i64 pi1, .int .i64 ge1, .int .i64 se1, .bool tx1, .int .i64 ct1, .slice A6 n6 c6] 24)); have HX6 := Lib.hid (BR.new (b := ⟨ba1, la1, fr1, ep1, pi1, ge1, se1, tx1, ct1, rs1⟩) (c := c6) 24 ho6.rd); obtain ⟨x6_0, x6_1, x6_2, x6_3, x6_4, x6_5, x6_6, x6_7, x6_8, x6_9⟩ := HX6.out.box; have hn6 : n6 ≤ 1099511627776 := (by have h1 := ho6.rd.len; have h2 := HRS.out.1; omega); have HO6 := Lib.hid ho6)
    | (go_at_call 27; (with_reducible refine (refMovedB_is ba la fr ep pi ge se tx ct rs A n c base _ HFITS.out HB6.out.rd hnc hn40 hb0 HM.out).mono ?_); rintro e w7 ⟨A7, n7, c7, rfl, hc7, ho7, hb7⟩; have HB7 := Lib.hid ((HB6.out.below hb7).alloc (.cells #[.int .i64 ba1, .int .i64 la1, .int .i64 fr1, .int .i64 ep1, .int .i64 pi1, .int .i64 ge1, .int .i64 se1, .bool tx1, .int .i64 ct1, .slice A7 n7 c7] 24)); obtain ⟨b7_0, b7_1, b7_2, b7_3, b7_4, b7_5, b7_6, b7_7, b7_8, b7_9⟩ := HB7.out.box; have HD7 := Lib.hid ((HD6.out.below hb7).alloc (.cells #[.int .i64 ba1, .int .i64 la1, .int .i64 fr1, .int .i64 ep1, .int .i64 pi1, .int .i64 ge1, .int .i64 se1, .bool tx1, .int .i64 ct1, .slice A7 n7 c7] 24)); obtain ⟨d7_0, d7_1, d7_2, d7_3, d7_4, d7_5, d7_6, d7_7, d7_8, d7_9⟩ := HD7.out.box; have HS7 := Lib.hid ((HS6.out.below hb7).alloc (.cells #[.int .i64 ba1, .int .i64 la1, .int .i64 fr1, .int .i64 ep1, .int .i64 pi1, .int .i64 ge1, .int .i64 se1, .bool tx1, .int .i64 ct1, .slice A7 n7 c7] 24)); obtain ⟨s7_0, s7_1, s7_2, s7_3, s7_4, s7_5, s7_6, s7_7, s7_8, s7_9⟩ := HS7.out.box; have HX7 := Lib.hid ((HX6.out.below hb7).alloc (.cells #[.int .i64 ba1, .int .i64 la1, .int .i64 fr1, .int .i64 ep1, .int .i64 pi1, .int .i64 ge1, .int .i64 se1, .bool tx1, .int .i64 ct1, .slice A7 n7 c7] 24)); obtain ⟨x7_0, x7_1, x7_2, x7_3, x7_4, x7_5, x7_6, x7_7, x7_8, x7_9⟩ := HX7.out.box; have HT7 := Lib.hid ((HT6.out.bel hb7).alloc (.cells #[.int .i64 ba1, .int .i64 la1, .int .i64 fr1, .int .i64 ep1, .int .i64 pi1, .int .i64 ge1, .int .i64 se1, .bool tx1, .int .i64 ct1, .slice A7 n7 c7] 24)); have HW7 := Lib.hid (bel_alloc (bel_trans HW6.out hb7) (.cells #[.int .i64 ba1, .int .i64 la1, .int .i64 fr1, .int .i64 ep1, .int .i64 pi1, .int .i64 ge1, .int .i64 se1, .bool tx1, .int .i64 ct1, .slice A7 n7 c7] 24)); have HY7 := Lib.hid (BR.new (b := ⟨ba1, la1, fr1, ep1, pi1, ge1, se1, tx1, ct1, rs1⟩) (c := c7) 24 ho7.rd); obtain ⟨y7_0, y7_1, y7_2, y7_3, y7_4, y7_5, y7_6, y7_7, y7_8, y7_9⟩ := HY7.out.box; have hn7 : n7 ≤ 1099511627776 := (by have h1 := ho7.rd.len; have h2 := HRS.out.1; omega)))
  have HB7 := Lib.hid HB7.out.drew
  have HD7 := Lib.hid HD7.out.drew
  have HS7 := Lib.hid HS7.out.drew
  have HX7 := Lib.hid HX7.out.drew
  have HY7 := Lib.hid HY7.out.drew
  have HT7 : Hid (Tab (w7.alloc (.cells #[.int .i64 ba1, .int .i64 la1, .int .i64 fr1, .int .i64 ep1, .int .i64 pi1, .int .i64 ge1, .int .i64 se1, .bool tx1, .int .i64 ct1, .slice A7 n7 c7] 24)).drew) := Lib.hid HT7.out
  have HW7 := Lib.hid (bel_drew HW7.out)
  go_region_held3 (fun x : World => x.cell? ⟨w6.heap.size, 0, none⟩ = some (.int .i64 ba1) ∧ x.cell? ⟨w6.heap.size, 1, none⟩ = some (.int .i64 la1) ∧ x.cell? ⟨w6.heap.size, 2, none⟩ = some (.int .i64 fr1) ∧ x.cell? ⟨w6.heap.size, 3, none⟩ = some (.int .i64 ep1) ∧ x.cell? ⟨w6.heap.size, 4, none⟩ = some (.int .i64 pi1) ∧ x.cell? ⟨w6.heap.size, 5, none⟩ = some (.int .i64 ge1) ∧ x.cell? ⟨w6.heap.size, 6, none⟩ = some (.int .i64 se1) ∧ x.cell? ⟨w6.heap.size, 7, none⟩ = some (.bool tx1) ∧ x.cell? ⟨w6.heap.size, 8, none⟩ = some (.int .i64 ct1) ∧ x.cell? ⟨w6.heap.size, 9, none⟩ = some (.slice A6 n6 c6) ∧ x.cell? ⟨w7.heap.size, 0, none⟩ = some (.int .i64 ba1) ∧ x.cell? ⟨w7.heap.size, 1, none⟩ = some (.int .i64 la1) ∧ x.cell? ⟨w7.heap.size, 2, none⟩ = some (.int .i64 fr1) ∧ x.cell? ⟨w7.heap.size, 3, none⟩ = some (.int .i64 ep1) ∧ x.cell? ⟨w7.heap.size, 4, none⟩ = some (.int .i64 pi1) ∧ x.cell? ⟨w7.heap.size, 5, none⟩ = some (.int .i64 ge1) ∧ x.cell? ⟨w7.heap.size, 6, none⟩ = some (.int .i64 se1) ∧ x.cell? ⟨w7.heap.size, 7, none⟩ = some (.bool tx1) ∧ x.cell? ⟨w7.heap.size, 8, none⟩ = some (.int .i64 ct1) ∧ x.cell? ⟨w7.heap.size, 9, none⟩ = some (.slice A7 n7 c7) ∧ x.cell? ⟨w.heap.size, 0, none⟩ = some (.int .i64 ba) ∧ x.cell? ⟨w.heap.size, 1, none⟩ = some (.int .i64 la) ∧ x.cell? ⟨w.heap.size, 2, none⟩ = some (.int .i64 fr) ∧ x.cell? ⟨w.heap.size, 3, none⟩ = some (.int .i64 ep) ∧ x.cell? ⟨w.heap.size, 4, none⟩ = some (.int .i64 pi) ∧ x.cell? ⟨w.heap.size, 5, none⟩ = some (.int .i64 ge) ∧ x.cell? ⟨w.heap.size, 6, none⟩ = some (.int .i64 se) ∧ x.cell? ⟨w.heap.size, 7, none⟩ = some (.bool tx) ∧ x.cell? ⟨w.heap.size, 8, none⟩ = some (.int .i64 ct) ∧ x.cell? ⟨w.heap.size, 9, none⟩ = some (.slice A n c) ∧ x.cell? ⟨w.heap.size + 1, 0, none⟩ = some (.int .i64 ba') ∧ x.cell? ⟨w.heap.size + 1, 1, none⟩ = some (.int .i64 la') ∧ x.cell? ⟨w.heap.size + 1, 2, none⟩ = some (.int .i64 fr') ∧ x.cell? ⟨w.heap.size + 1, 3, none⟩ = some (.int .i64 ep') ∧ x.cell? ⟨w.heap.size + 1, 4, none⟩ = some (.int .i64 pi') ∧ x.cell? ⟨w.heap.size + 1, 5, none⟩ = some (.int .i64 ge') ∧ x.cell? ⟨w.heap.size + 1, 6, none⟩ = some (.int .i64 se') ∧ x.cell? ⟨w.heap.size + 1, 7, none⟩ = some (.bool tx') ∧ x.cell? ⟨w.heap.size + 1, 8, none⟩ = some (.int .i64 ct') ∧ x.cell? ⟨w.heap.size + 1, 9, none⟩ = some (.slice A' n' c')) (first | exact ⟨x10_0, x10_1, x10_2, x10_3, x10_4, x10_5, x10_6, x10_7, x10_8, x10_9, y10_0, y10_1, y10_2, y10_3, y10_4, y10_5, y10_6, y10_7, y10_8, y10_9, b10_0, b10_1, b10_2, b10_3, b10_4, b10_5, b10_6, b10_7, b10_8, b10_9, d10_0, d10_1, d10_2, d10_3, d10_4, d10_5, d10_6, d10_7, d10_8, d10_9⟩ | exact ⟨x9_0, x9_1, x9_2, x9_3, x9_4, x9_5, x9_6, x9_7, x9_8, x9_9, y9_0, y9_1, y9_2, y9_3, y9_4, y9_5, y9_6, y9_7, y9_8, y9_9, b9_0, b9_1, b9_2, b9_3, b9_4, b9_5, b9_6, b9_7, b9_8, b9_9, d9_0, d9_1, d9_2, d9_3, d9_4, d9_5, d9_6, d9_7, d9_8, d9_9⟩ | exact ⟨x8_0, x8_1, x8_2, x8_3, x8_4, x8_5, x8_6, x8_7, x8_8, x8_9, y8_0, y8_1, y8_2, y8_3, y8_4, y8_5, y8_6, y8_7, y8_8, y8_9, b8_0, b8_1, b8_2, b8_3, b8_4, b8_5, b8_6, b8_7, b8_8, b8_9, d8_0, d8_1, d8_2, d8_3, d8_4, d8_5, d8_6, d8_7, d8_8, d8_9⟩ | exact ⟨x7_0, x7_1, x7_2, x7_3, x7_4, x7_5, x7_6, x7_7, x7_8, x7_9, y7_0, y7_1, y7_2, y7_3, y7_4, y7_5, y7_6, y7_7, y7_8, y7_9, b7_0, b7_1, b7_2, b7_3, b7_4, b7_5, b7_6, b7_7, b7_8, b7_9, d7_0, d7_1, d7_2, d7_3, d7_4, d7_5, d7_6, d7_7, d7_8, d7_9⟩) (first
    | (go_at_call 24; (with_reducible refine (refSameB_is ba la fr ep pi ge se tx ct rs A n c ba' la' fr' ep' pi' ge' se' tx' ct' rs' A' n' c' _ HB9.out.rd HD9.out.rd hn40 hn40' HS.out).mono ?_); rintro e w10 ⟨rfl, hb10⟩; have HB10 := Lib.hid (HB9.out.below hb10); obtain ⟨b10_0, b10_1, b10_2, b10_3, b10_4, b10_5, b10_6, b10_7, b10_8, b10_9⟩ := HB10.out.box; have HD10 := Lib.hid (HD9.out.below hb10); obtain ⟨d10_0, d10_1, d10_2, d10_3, d10_4, d10_5, d10_6, d10_7, d10_8, d10_9⟩ := HD10.out.box; have HS10 := Lib.hid (HS9.out.below hb10); obtain ⟨s10_0, s10_1, s10_2, s10_3, s10_4, s10_5, s10_6, s10_7, s10_8, s10_9⟩ := HS10.out.box; have HX10 := Lib.hid (HX9.out.below hb10); obtain ⟨x10_0, x10_1, x10_2, x10_3, x10_4, x10_5, x10_6, x10_7, x10_8, x10_9⟩ := HX10.out.box; have HY10 := Lib.hid (HY9.out.below hb10); obtain ⟨y10_0, y10_1, y10_2, y10_3, y10_4, y10_5, y10_6, y10_7, y10_8, y10_9⟩ := HY10.out.box; have HT10 := Lib.hid (HT9.out.bel hb10); have HW10 := Lib.hid (bel_trans HW9.out hb10))
    | (go_at_call 24; (with_reducible refine (refSameB_is ba1 la1 fr1 ep1 pi1 ge1 se1 tx1 ct1 rs1 A6 n6 c6 ba1 la1 fr1 ep1 pi1 ge1 se1 tx1 ct1 rs1 A7 n7 c7 _ HX7.out.rd HY7.out.rd hn6 hn7 (eqB_self _)).mono ?_); rintro e w8 ⟨rfl, hb8⟩; have HB8 := Lib.hid (HB7.out.below hb8); obtain ⟨b8_0, b8_1, b8_2, b8_3, b8_4, b8_5, b8_6, b8_7, b8_8, b8_9⟩ := HB8.out.box; have HD8 := Lib.hid (HD7.out.below hb8); obtain ⟨d8_0, d8_1, d8_2, d8_3, d8_4, d8_5, d8_6, d8_7, d8_8, d8_9⟩ := HD8.out.box; have HS8 := Lib.hid (HS7.out.below hb8); obtain ⟨s8_0, s8_1, s8_2, s8_3, s8_4, s8_5, s8_6, s8_7, s8_8, s8_9⟩ := HS8.out.box; have HX8 := Lib.hid (HX7.out.below hb8); obtain ⟨x8_0, x8_1, x8_2, x8_3, x8_4, x8_5, x8_6, x8_7, x8_8, x8_9⟩ := HX8.out.box; have HY8 := Lib.hid (HY7.out.below hb8); obtain ⟨y8_0, y8_1, y8_2, y8_3, y8_4, y8_5, y8_6, y8_7, y8_8, y8_9⟩ := HY8.out.box; have HT8 := Lib.hid (HT7.out.bel hb8); have HW8 := Lib.hid (bel_trans HW7.out hb8))
    | (go_at_call 28; (with_reducible refine (BSame_is ba la fr ep pi ge se tx ct rs A n c ba' la' fr' ep' pi' ge' se' tx' ct' rs' A' n' c' _ HB8.out.rd HD8.out.rd hn40 hn40' HS.out).mono ?_); rintro e w9 ⟨rfl, hb9⟩; have HB9 := Lib.hid (HB8.out.below hb9); obtain ⟨b9_0, b9_1, b9_2, b9_3, b9_4, b9_5, b9_6, b9_7, b9_8, b9_9⟩ := HB9.out.box; have HD9 := Lib.hid (HD8.out.below hb9); obtain ⟨d9_0, d9_1, d9_2, d9_3, d9_4, d9_5, d9_6, d9_7, d9_8, d9_9⟩ := HD9.out.box; have HS9 := Lib.hid (HS8.out.below hb9); obtain ⟨s9_0, s9_1, s9_2, s9_3, s9_4, s9_5, s9_6, s9_7, s9_8, s9_9⟩ := HS9.out.box; have HX9 := Lib.hid (HX8.out.below hb9); obtain ⟨x9_0, x9_1, x9_2, x9_3, x9_4, x9_5, x9_6, x9_7, x9_8, x9_9⟩ := HX9.out.box; have HY9 := Lib.hid (HY8.out.below hb9); obtain ⟨y9_0, y9_1, y9_2, y9_3, y9_4, y9_5, y9_6, y9_7, y9_8, y9_9⟩ := HY9.out.box; have HT9 := Lib.hid (HT8.out.bel hb9); have HW9 := Lib.hid (bel_trans HW8.out hb9)))
  all_goals
    go_wp2
    have HB610 := Lib.hid (bel_trans (bel_trans (bel_trans (bel_drew (bel_alloc hb7 (.cells #[.int .i64 ba1, .int .i64 la1, .int .i64 fr1, .int .i64 ep1, .int .i64 pi1, .int .i64 ge1, .int .i64 se1, .bool tx1, .int .i64 ct1, .slice A7 n7 c7] 24))) hb8) hb9) hb10)
    have HB510 := Lib.hid (bel_trans (bel_trans (bel_alloc (Below.refl w5.heap.size w5) (.cells #[.int .i64 ba, .int .i64 la, .int .i64 fr, .int .i64 ep, .int .i64 pi, .int .i64 ge, .int .i64 se, .bool tx, .int .i64 ct, .slice A5 n c5] 24)) (bel_alloc hb6 (.cells #[.int .i64 ba1, .int .i64 la1, .int .i64 fr1, .int .i64 ep1, .int .i64 pi1, .int .i64 ge1, .int .i64 se1, .bool tx1, .int .i64 ct1, .slice A6 n6 c6] 24))) HB610.out)
    have HR10 := Lib.hid (HRR.out.below HW10.out (Nat.le_refl _))
    have HS10' := Lib.hid (ho5.below HB510.out (Nat.le_refl _))
    have hsA : w.heap.size < (w5.alloc (.cells #[.int .i64 ba, .int .i64 la, .int .i64 fr, .int .i64 ep, .int .i64 pi, .int .i64 ge, .int .i64 se, .bool tx, .int .i64 ct, .slice A5 n c5] 24)).heap.size := HB5.out.lt
    have hsB : w5.heap.size < (w5.alloc (.cells #[.int .i64 ba, .int .i64 la, .int .i64 fr, .int .i64 ep, .int .i64 pi, .int .i64 ge, .int .i64 se, .bool tx, .int .i64 ct, .slice A5 n c5] 24)).heap.size := by simp
    have hsC : (w5.alloc (.cells #[.int .i64 ba, .int .i64 la, .int .i64 fr, .int .i64 ep, .int .i64 pi, .int .i64 ge, .int .i64 se, .bool tx, .int .i64 ct, .slice A5 n c5] 24)).heap.size ≤ w6.heap.size := hb6.size
    have hsD : w6.heap.size < w10.heap.size := HX10.out.lt
    go_loopw [58] (fun i wr => upRel ⟨ba1, la1, fr1, ep1, pi1, ge1, se1, tx1, ct1, rs1⟩ (.slice A6 n6 c6) A6 n6 w6.heap.size (w5.alloc (.cells #[.int .i64 ba, .int .i64 la, .int .i64 fr, .int .i64 ep, .int .i64 pi, .int .i64 ge, .int .i64 se, .bool tx, .int .i64 ct, .slice A5 n c5] 24)).heap.size w10 i wr) (fun i _ => n6 - (intOf i).toNat)
    case atStart =>
      refine ⟨0, rfl, Nat.zero_le _, fun g o hA => ⟨fun _ _ => rfl, fun j hj => ?_⟩, HX10.out.box, Below.refl _ _⟩
      have hn0 : 0 < n6 := by omega
      obtain ⟨b', o', _, hA', hlt', _, _⟩ := HO6.out.rd.at hn0
      rw [hA] at hA'
      simp only [Option.some.injEq, Addr.mk.injEq, and_true] at hA'
      obtain ⟨rfl, rfl⟩ := hA'
      have h1 := (HO6.out.2 g o hA hn0).2 j hj
      exact (HB610.out.frozen (p := ⟨g, o + j, none⟩) (by show g < (w6.alloc (.cells #[.int .i64 ba1, .int .i64 la1, .int .i64 fr1, .int .i64 ep1, .int .i64 pi1, .int .i64 ge1, .int .i64 se1, .bool tx1, .int .i64 ct1, .slice A6 n6 c6] 24)).heap.size; simp; omega)).trans ((World.frozen?_alloc_past _ _ _ hlt').trans h1)
    case round =>
      obtain ⟨k, rfl, hk, hcf, hxr, hbr⟩ := hrel
      have HBR := Lib.hid hbr
      have HXR := Lib.hid hxr
      obtain ⟨q0, q1, q2, q3, q4, q5, q6, q7, q8, q9⟩ := hxr
      have hsr := hbr.size
      clear hbr
      by_cases hlt : k < n6
      · obtain ⟨g, o, r, hA, _, hrk, hat⟩ := HX10.out.rd.at hlt
        have hg := (HO6.out.2 g o hA (by omega)).1
        obtain ⟨b', o', _, hA', hlt', _, _⟩ := HO6.out.rd.at (k := 0) (by omega)
        rw [hA] at hA'
        simp only [Option.some.injEq, Addr.mk.injEq, and_true] at hA'
        obtain ⟨rfl, rfl⟩ := hA'
        obtain ⟨hc1, hf1⟩ := hcf g o hA
        have hcell := (hc1 k (Nat.le_refl _)).trans hat.1
        have hfro := hf1 (k * 5) (by omega)
        have hoff := HRS.out.2 r (List.mem_of_getElem? hrk)
        obtain ⟨ro, rk, rv, rd, rt⟩ := r
        simp only at hoff hcell
        obtain ⟨ho1, ho2⟩ := hoff
        have HC1 := Lib.hid hc1
        have HF1 := Lib.hid hf1
        have HA := Lib.hid hA
        subst hA
        have y1 : (0 : Int) ≤ (k : Int) := by omega
        have y2 : (k : Int) < (n6 : Int) := by omega
        clear hc1 hf1 hcf hat hrk HA
        go_wp2
        go_roundw
        case rel =>
          refine ⟨k + 1, by go_num, by omega, fun g' o' hA => ?_, HXR.out.set (by omega), HBR.out.setCell hg _⟩
          simp only [Option.some.injEq, Addr.mk.injEq, and_true] at hA
          obtain ⟨rfl, rfl⟩ := hA
          exact ⟨fun j hj => (cell_set_off (by omega)).trans (HC1.out j (by omega)), fun j hj => (frozen_set _ _ _ _).trans (HF1.out j hj)⟩
        case measure => simp [intOf]; omega
      · clear hcf q0 q1 q2 q3 q4 q5 q6 q7 q8 q9
        have hb1 := HB10.out.box.below HBR.out hsA
        have hb2 := HS10.out.box.below HBR.out hsB
        obtain ⟨u0, u1, u2, u3, u4, u5, u6, u7, u8, u9⟩ := hb1
        obtain ⟨v0, v1, v2, v3, v4, v5, v6, v7, v8, v9⟩ := hb2
        have HRa := Lib.hid ((HR10.out.below HBR.out (Nat.le_of_lt hsA)).more (B' := wr.heap.size) (by omega))
        have HRb := Lib.hid ((HS10'.out.below HBR.out (Nat.le_of_lt hsB)).more (B' := wr.heap.size) (by omega))
        go_wp2_with (go_at_call 24; (with_reducible refine (refSameB_is ba la fr ep pi ge se tx ct rs A n c ba la fr ep pi ge se tx ct rs A5 n c5 _ HRa.out HRb.out hn40 hn40 (eqB_self _)).mono ?_); rintro e w11 ⟨rfl, hb11⟩)
        go_ret
        exact ⟨rfl, bel_trans (HW10.out.trans (HBR.out.mono (by omega))) hb11⟩
end Go.Proofs.YtodklilnmianeaaDoor.Bat

namespace Go.Proofs.YtodklilnmianeaaDoor.batchMoves
open Go.ChangeShapes Go.WideShapes Go.ChangeAt Go.RowKit

theorem own : ownKnob Tryd.prog.godebug = none := by kernel_rfl
theorem laidOut : laidOutB Tryd.prog = true := by kernel_rfl

set_option maxRecDepth 100000 in
theorem lifted (os : Os) (started : os.Started) (H : Type) (enc : TypeId × Value → H) :
    ReturnsInHanded {} Tryd.checked os 6 .any (fun w args => (Rows.batchMovesSpec.pre enc Tryd.prog Tryd.f6 [] false w args ∧ laidMetH Tryd.prog Crc.listed w) ∧ sizedMet enc Tryd.prog Tryd.f6 (OpenSpec.ofChange Rows.batchMovesSpec) false w args)
      (Rows.batchMovesSpec.post enc Tryd.prog Tryd.f6 false true false false) := by
  refine returnsInHanded_of_change_and (C := Tryd.checked) (X := fun w _ => laidMetH Tryd.prog Crc.listed w) (fun _ _ _ hh h => h.of_heap hh) own started (by kernel_rfl) Tryd.func6
    (ChangeSpec.witness_shaped (enc := enc) (C := Tryd.checked) (os := os) (X := fun w _ => laidMetH Tryd.prog Crc.listed w) false (World.doorLaid Tryd.prog 400 os) #[.agg #[.int .i64 0, .int .i64 0, .int .i64 0, .int .i64 0, .int .i64 0, .int .i64 0, .int .i64 0, .bool false, .int .i64 0, .slice none 0 0], .agg #[.int .i64 0, .int .i64 0, .int .i64 0, .int .i64 0, .int .i64 0, .int .i64 0, .int .i64 0, .bool false, .int .i64 0, .slice none 0 0], .int .i64 0] 8 rfl (World.shaped_of_RefB (by kernel_rfl) (by kernel_rfl)) (by kernel_rfl) (by kernel_rfl) (by kernel_rfl) (Crc.door_met os _)) ?_
  intro W base args ds gs before hval0 hW _ hwt hL _
  have hval : ∀ (j : Nat) t v, Tryd.f6.params[j]? = some t → args[j]? = some v → Value.okWide Tryd.prog W .any base t v := hval0
  have hW' := hW
  obtain ⟨p, q, hA0, hV, rfl, hfz, hnd⟩ := hW
  have hA : DataW.TrodAll enc Tryd.prog W 0 (fun _ => true) true Tryd.f6.params.toList args.toList ds p := hA0
  rw [Tryd.params6] at hA hval
  obtain ⟨v0, vs0, d0, ds0, p0, q0, hargs, rfl, rfl, h0, r0⟩ := trodAll_cons hA
  obtain ⟨v1, vs1, d1, ds1, p1, q1, rfl, rfl, rfl, h1, r1⟩ := trodAll_cons r0
  obtain ⟨v2, vs2, d2, ds2, p2, q2, rfl, rfl, rfl, h2, r2⟩ := trodAll_cons r1
  obtain ⟨rfl, rfl, rfl⟩ := trodAll_nil r2
  obtain rfl : args = #[v0, v1, v2] := by cases args; simp_all
  obtain ⟨rfl, rfl⟩ := trodVars_none hV
  have k0 := h0
  have lt0 : ∀ x ∈ p0, x.block < W.heap.size := by obtain ⟨m, hm⟩ := k0; exact DataW.trod_lt m _ _ _ hm
  obtain ⟨ba_0, la_0, fr_0, ep_0, pi_0, ge_0, se_0, tx_0, ct_0, A_0, n_0, c_0, rs_0, rfl, hf_0, hc_0, hk_0, hR_0⟩ := Bat.open_batch (hval 0 24 v0 rfl rfl) h0 (Bat.weights_arg (j := 0) hwt (by kernel_rfl) rfl)
  have k1 := h1
  have lt1 : ∀ x ∈ p1, x.block < W.heap.size := by obtain ⟨m, hm⟩ := k1; exact DataW.trod_lt m _ _ _ hm
  obtain ⟨ba_1, la_1, fr_1, ep_1, pi_1, ge_1, se_1, tx_1, ct_1, A_1, n_1, c_1, rs_1, rfl, hf_1, hc_1, hk_1, hR_1⟩ := Bat.open_batch (hval 1 24 v1 rfl rfl) h1 (Bat.weights_arg (j := 1) hwt (by kernel_rfl) rfl)
  have k2 := h2
  have lt2 : ∀ x ∈ p2, x.block < W.heap.size := by obtain ⟨m, hm⟩ := k2; exact DataW.trod_lt m _ _ _ hm
  obtain ⟨a2, rfl, hi2⟩ := Oct.open_i64 Tryd.underlying3 (hval 2 3 v2 rfl rfl) h2
  clear hA0 hval0
  refine (Bat.batchMoves_walk ba_0 la_0 fr_0 ep_0 pi_0 ge_0 se_0 tx_0 ct_0 A_0 n_0 c_0 rs_0 ba_1 la_1 fr_1 ep_1 pi_1 ge_1 se_1 tx_1 ct_1 A_1 n_1 c_1 rs_1 a2 W hf_0 hc_0 hk_0 hR_0 hf_1 hc_1 hk_1 hR_1 hi2 (Crc.tab_of_laid hL)).mono fun e W' ⟨he, bel⟩ => ?_
  subst he
  exact ⟨_, rfl, _, _, _, [], _, [], hW', trodAll_mk1 (shut_bool Tryd.underlying4 _), (trodAll_cons_mk (Below.trod laidOut (by kernel_rfl) (of_decide_eq_true (by kernel_rfl)) k0 bel lt0) (trodAll_cons_mk (Below.trod laidOut (by kernel_rfl) (of_decide_eq_true (by kernel_rfl)) k1 bel lt1) (trodAll_cons_mk (Below.trod laidOut (by kernel_rfl) (of_decide_eq_true (by kernel_rfl)) k2 bel lt2) trodAll_mk0))), rfl, bel.frame _, fun h => by cases h⟩

theorem over : Rows.batchMovesRow.holds Tryd.pinned (OpenSpec.ofChange Rows.batchMovesSpec) :=
  OpenClaim.holds_of_wide 6 Tryd.f6 rfl rfl rfl rfl rfl rfl rfl ⟨rfl, rfl, rfl, rfl, rfl⟩ rfl rfl rfl rfl rfl (by kernel_rfl) Tryd.func6 (by kernel_rfl)
    (of_decide_eq_true (by kernel_rfl)) (by unfold Func.isWrapper; first | (rw [if_pos (by decide +kernel)]; kernel_rfl) | (rw [if_neg (by decide +kernel)]; exact ⟨rfl, rfl⟩))
    (fun os started H enc _ => lifted os started H enc)

theorem proved : Rows.BatchMovesCardSaid :=
  Claim7.holds_tied_plain_at .later [] [.data] true (true, "b2bb5b872d99db4528b8f9f391f1dc5ae62899eedab3193a28525a8a26d7af1c") false
    over (fun _ h => by cases h) (by kernel_rfl) (fun _ h => by cases h) batchMoves_row_tie rfl ⟨rfl, rfl⟩ (by kernel_rfl) rfl
    (fun f fn hf hfn => by
      obtain rfl : f = 6 := Option.some.inj ((show Tryd.prog.funcNamed "watermeet/watermeetlaw04.BatchMoves" = some 6 by kernel_rfl).symm.trans hf) |>.symm
      obtain rfl : fn = Tryd.f6 := (Option.some.inj (Tryd.func6.symm.trans hfn)).symm
      exact ⟨by kernel_rfl, fun j t ht => by
        rw [Tryd.params6] at ht
        have hm : t ∈ [24, 24, 3] := by simpa using Array.mem_of_getElem? ht
        have hall : ([24, 24, 3].all fun u => !Tryd.prog.wantsStandIn u) = true := by kernel_rfl
        exact (show Tryd.prog.wantsStandIn t = false by simpa using List.all_eq_true.1 hall t hm)⟩)
    (by kernel_rfl)
#print axioms proved
end Go.Proofs.YtodklilnmianeaaDoor.batchMoves
