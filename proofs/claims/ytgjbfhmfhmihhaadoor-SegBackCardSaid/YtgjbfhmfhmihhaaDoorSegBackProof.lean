/- For any beginning, batches (at most 30, few enough records) and limit: the batches that were appended are told, in order, and nothing else is; the segment is whole, ends behind them, and is no longer than the limit (the law answers true, and changes nothing that was there). Conditions: none.
-/
import Derived.Test.YtgjbfhmfhmihhaaDoorSegW
import Derived.Test.YtgjbfhmfhmihhaaDoorSegMathT
import Derived.Test.YtgjbfhmfhmihhaaDoorSegSA
import Derived.Test.YtgjbfhmfhmihhaaDoorInT
import Derived.Test.YtgjbfhmfhmihhaaDoorSegX
import Derived.Test.YtgjbfhmfhmihhaaDoorRows
import Derived.WalkKit
import Derived.ProofKit
import Derived.OpenShut
import Derived.ChangeOld
import Derived.Below
import Derived.Carry
import Derived.Test.YtgjbfhmfhmihhaaDoorJOct
import Derived.Test.YtgjbfhmfhmihhaaDoorJBatA
import Derived.Test.YtgjbfhmfhmihhaaDoorJCrc
import Derived.Test.YtgjbfhmfhmihhaaDoorTie
import Derived.Test.YtgjbfhmfhmihhaaDoorCards
import Derived.SevenTiedAt
/- The walk of SegBack. -/
namespace Go.Proofs.YtgjbfhmfhmihhaaDoor.Seg
open Go.RowKit Go.Proofs.YtgjbfhmfhmihhaaDoor.Oct Go.Proofs.YtgjbfhmfhmihhaaDoor.Rec Go.Proofs.YtgjbfhmfhmihhaaDoor.Crc Go.Proofs.YtgjbfhmfhmihhaaDoor.Bat Go.Proofs.YtgjbfhmfhmihhaaDoor.Lay Go.Proofs.YtgjbfhmfhmihhaaDoor.InR Go.Proofs.YtgjbfhmfhmihhaaDoor.RowF

def bkRel (e8 eB : TypeId) (base limit : Int) (n : Nat) (w : World) (X : Nat) (vw i : Value) (wr : World) : Prop :=
  ∃ (k : Nat) (ws : List Bt) (A1 : Option Addr) (n1 c1 : Nat) (A2 : Option Addr) (n2 c2 : Nat), i = .int .i64 (k : Int) ∧ k ≤ n ∧ vw = .slice A2 n2 c2 ∧ n2 ≤ k ∧ ris base ws = true ∧ (byR ws).length ≤ 4096 ∧ (ws ≠ [] → ((byR ws).length : Int) ≤ limit) ∧
    At2 wr X [.int .i64 base, .slice A1 n1 c1] ∧ OwnB wr e8 w.heap.size (.slice A1 n1 c1) n1 (byR ws) ∧ (∀ g, (Value.slice A1 n1 c1).ownBlock = some g → g ≠ X) ∧ OwnT wr eB (fun g => g < w.heap.size) w.heap.size (.slice A2 n2 c2) n2 ws ∧ Apart (.slice A2 n2 c2) (.slice A1 n1 c1) ∧ (∀ g, (Value.slice A2 n2 c2).ownBlock = some g → g ≠ X) ∧ Below w.heap.size w wr
set_option maxRecDepth 100000 in
set_option maxHeartbeats 8000000 in
theorem segBack_walk (base : Int) (A : Option Addr) (n c : Nat) (L : List Bt) (limit : Int) (w : World) (hib : I64 base) (hnc : n ≤ c) (hcap : c ≤ reach) (hR : RdL w w.heap.size A n L) (_hil : I64 limit) (ht : Tab w) :
    Calls Tryd.prog 6 #[.int .i64 base, .slice A n c, .int .i64 limit] w fun e w' => e = .returned (.bool true) ∧ Below w.heap.size w w' := by
  have HW_0 := Lib.hid (Below.refl w.heap.size w)
  have HT_0 := Lib.hid (ht)
  have HL_0 := Lib.hid (hR)
  have hcr := Nat.le_trans hnc hcap
  have hL := hR.len
  rcases hzb : (L.all fewT && decide ((L.length : Int) ≤ 30)) with _ | _
  · have HZB := Lib.hid hzb
    clear hzb hR ht
    go_enter Tryd.func6, Tryd.ntmps6
    go_wp2_with (first
      | (go_at_call 12; (with_reducible refine (live_any _ HT_0.out).mono ?_); rintro e w1 ⟨rfl, hb⟩; have HW_1 := Lib.hid (bel_trans HW_0.out hb); have HT_1 := Lib.hid (HT_0.out.bel hb); have HL_1 := Lib.hid (rdlUp HL_0.out hb); clear hb)
      | (go_at_call 27; (with_reducible refine (refFewAll_is L A n c 30 _ HL_1.out hcr HZB.out).mono ?_); rintro e w2 ⟨rfl, hb⟩; have HW_2 := Lib.hid (bel_trans HW_1.out hb); have HT_2 := Lib.hid (HT_1.out.bel hb); have HL_2 := Lib.hid (rdlUp HL_1.out hb); clear hb))
    go_ret
    exact ⟨rfl, HW_2.out⟩
  have HZB := Lib.hid hzb
  rw [Bool.and_eq_true] at hzb
  have hn30 : n ≤ 30 := by have := of_decide_eq_true hzb.2; omega
  have HD := Lib.hid (rdT_of hR hzb.1)
  have HIB := Lib.hid hib
  clear hzb hR ht
  by_cases hbad : base < 0 ∨ 1099511627776 < base
  · have HNW := Lib.hid (show newS base = (⟨0, []⟩, 1) by unfold newS; rw [if_pos hbad]; rfl)
    clear hbad
    go_enter Tryd.func6, Tryd.ntmps6
    go_wp2_with (first
      | (go_at_call 12; (with_reducible refine (live_any _ HT_0.out).mono ?_); rintro e w1 ⟨rfl, hb⟩; have HW_1 := Lib.hid (bel_trans HW_0.out hb); have HT_1 := Lib.hid (HT_0.out.bel hb); have HL_1 := Lib.hid (rdlUp HL_0.out hb); clear hb)
      | (go_at_call 27; (with_reducible refine (refFewAll_is L A n c 30 _ HL_1.out hcr HZB.out).mono ?_); rintro e w2 ⟨rfl, hb⟩; have HW_2 := Lib.hid (bel_trans HW_1.out hb); have HT_2 := Lib.hid (HT_1.out.bel hb); have HL_2 := Lib.hid (rdlUp HL_1.out hb); clear hb)
      | (go_at_call 30; (with_reducible refine (New_is HNW.out).mono ?_); rintro e w3 ⟨A3, n3, c3, rfl, ho, hb⟩; have HW_3 := Lib.hid (bel_trans HW_2.out hb); have HT_3 := Lib.hid (HT_2.out.bel hb); have HL_3 := Lib.hid (rdlUp HL_2.out hb); have hcap3 := ho.cap; obtain rfl : 0 = n3 := ho.len; have h0 : 0 ≤ 137438953472 := (by omega); have HXR_3 := Lib.hid (ho.rd); have hba := belA w3 (.cells #[.int .i64 0, .slice A3 0 c3] 24); have HW_3a := Lib.hid (bel_trans HW_3.out hba); have HT_3a := Lib.hid (HT_3.out.bel hba); have HL_3a := Lib.hid (rdlUp HL_3.out hba); have HXR_3a := Lib.hid (rdUp HXR_3.out hba); have HX_3a := Lib.hid (At0.new w3 [.int .i64 0, .slice A3 0 c3] 24); have hx3a_0 : (w3.alloc (.cells #[.int .i64 0, .slice A3 0 c3] 24)).cell? ⟨w3.heap.size, 0, none⟩ = some (.int .i64 0) := HX_3a.out.cell 0; have hx3a_1 : (w3.alloc (.cells #[.int .i64 0, .slice A3 0 c3] 24)).cell? ⟨w3.heap.size, 1, none⟩ = some (.slice A3 0 c3) := HX_3a.out.cell 1; clear hb hba ho))
    go_ret
    exact ⟨rfl, HW_3a.out⟩
  have HNW := Lib.hid (show newS base = (⟨base, []⟩, 0) by unfold newS; rw [if_neg hbad])
  clear hbad
  go_enter Tryd.func6, Tryd.ntmps6
  go_wp2_with (first
    | (go_at_call 12; (with_reducible refine (live_any _ HT_0.out).mono ?_); rintro e w1 ⟨rfl, hb⟩; have HW_1 := Lib.hid (bel_trans HW_0.out hb); have HT_1 := Lib.hid (HT_0.out.bel hb); have HL_1 := Lib.hid (rdlUp HL_0.out hb); clear hb)
    | (go_at_call 27; (with_reducible refine (refFewAll_is L A n c 30 _ HL_1.out hcr HZB.out).mono ?_); rintro e w2 ⟨rfl, hb⟩; have HW_2 := Lib.hid (bel_trans HW_1.out hb); have HT_2 := Lib.hid (HT_1.out.bel hb); have HL_2 := Lib.hid (rdlUp HL_1.out hb); clear hb)
    | (go_at_call 30; (with_reducible refine (New_is HNW.out).mono ?_); rintro e w3 ⟨A3, n3, c3, rfl, ho, hb⟩; have HW_3 := Lib.hid (bel_trans HW_2.out hb); have HT_3 := Lib.hid (HT_2.out.bel hb); have hcap3 := ho.cap; have hl3 := ho.len; have hn3 : n3 ≤ 137438953472 := (by have h9 := ho.len; simp at h9; omega); have HXR_3 := Lib.hid (ho.rd); have HXO_3 := Lib.hid (ho); have hne3 : ∀ g, (Value.slice A3 n3 c3).ownBlock = some g → g ≠ w3.heap.size := (fun g hg h9 => absurd (World.ownsRow.lt ho g hg).2 (by omega)); have hba := belA w3 (.cells #[.int .i64 base, .slice A3 n3 c3] 24); have HW_3a := Lib.hid (bel_trans HW_3.out hba); have HT_3a := Lib.hid (HT_3.out.bel hba); have HXR_3a := Lib.hid (rdUp HXR_3.out hba); have HXO_3a := Lib.hid (HXO_3.out.below hba); have HX_3a := Lib.hid (At0.new w3 [.int .i64 base, .slice A3 n3 c3] 24); have hx3a_0 : (w3.alloc (.cells #[.int .i64 base, .slice A3 n3 c3] 24)).cell? ⟨w3.heap.size, 0, none⟩ = some (.int .i64 base) := HX_3a.out.cell 0; have hx3a_1 : (w3.alloc (.cells #[.int .i64 base, .slice A3 n3 c3] 24)).cell? ⟨w3.heap.size, 1, none⟩ = some (.slice A3 n3 c3) := HX_3a.out.cell 1; have hw30 : w.heap.size ≤ w3.heap.size := HW_3.out.size; have hw20 : w.heap.size ≤ w2.heap.size := (by have := HW_2.out.size; omega); clear hb hba ho))
  go_loopw [9, 40] (fun vw i wr => bkRel 5 39 base limit n w w3.heap.size vw i wr) (fun _ i _ => n - (intOf i).toNat)
  case atStart => exact ⟨0, [], A3, n3, c3, none, 0, 0, rfl, Nat.zero_le _, rfl, Nat.le_refl _, rfl, Nat.zero_le _, fun h => absurd rfl h, At2.of HX_3a.out, OwnB.more HXO_3a.out hw20, hne3, OwnT.nil, Apart.nil _ _, fun g h => (by cases h), HW_3a.out⟩
  case round =>
    obtain ⟨k, ws, A1, n1, c1, A2, n2, c2, rfl, hk, rfl, hn2, hris, hlen4, hlim, hbx, hob, hox, hot, hap, hwx, hbl⟩ := hrel
    have HRIS := Lib.hid hris
    have HLIM := Lib.hid hlim
    have HBX := Lib.hid hbx
    have HOB := Lib.hid hob
    have HOX := Lib.hid hox
    have HOT := Lib.hid hot
    have HAPT := Lib.hid hap
    have HWX := Lib.hid hwx
    have HBL := Lib.hid hbl
    have hn1 := hob.len
    have hc1 := hob.cap
    have hX := hbx.1
    have hwr := hbl.size
    have HTR := Lib.hid (HT_0.out.bel hbl)
    clear hris hlim hbx hob hox hot hap hwx hbl
    by_cases hlt : k < n
    · skip
      obtain ⟨b, o, x, A9, n9, c9, rfl, hbl, hxk, hc9, hn9, hrd, hft, hcell⟩ := (HD.out.below HBL.out (Nat.le_refl _)).at (k := k) hlt
      obtain ⟨ba, la, fr, ep, pi, ge, se, tx, ct, rs⟩ := x
      have HFT := Lib.hid hft
      have HRD := Lib.hid hrd
      have a0 : wr.cell? ⟨b, o + k * 10, none⟩ = some (.int .i64 ba) := hcell 0 _ rfl
      have a1 : wr.cell? ⟨b, o + k * 10 + 1, none⟩ = some (.int .i64 la) := hcell 1 _ rfl
      have a2 : wr.cell? ⟨b, o + k * 10 + 2, none⟩ = some (.int .i64 fr) := hcell 2 _ rfl
      have a3 : wr.cell? ⟨b, o + k * 10 + 3, none⟩ = some (.int .i64 ep) := hcell 3 _ rfl
      have a4 : wr.cell? ⟨b, o + k * 10 + 4, none⟩ = some (.int .i64 pi) := hcell 4 _ rfl
      have a5 : wr.cell? ⟨b, o + k * 10 + 5, none⟩ = some (.int .i64 ge) := hcell 5 _ rfl
      have a6 : wr.cell? ⟨b, o + k * 10 + 6, none⟩ = some (.int .i64 se) := hcell 6 _ rfl
      have a7 : wr.cell? ⟨b, o + k * 10 + 7, none⟩ = some (.bool tx) := hcell 7 _ rfl
      have a8 : wr.cell? ⟨b, o + k * 10 + 8, none⟩ = some (.int .i64 ct) := hcell 8 _ rfl
      have a9 : wr.cell? ⟨b, o + k * 10 + 9, none⟩ = some (.slice A9 n9 c9) := hcell 9 _ rfl
      clear hcell hft hrd
      have HB4 := Lib.hid (belA wr (.cells #[.int .i64 ba, .int .i64 la, .int .i64 fr, .int .i64 ep, .int .i64 pi, .int .i64 ge, .int .i64 se, .bool tx, .int .i64 ct, .slice A9 n9 c9] 39))
      have HT4 := Lib.hid (HTR.out.bel HB4.out)
      have HRS := Lib.hid (rdUp HOB.out.rd HB4.out)
      have HRC := Lib.hid ((HRD.out.below HB4.out hwr).more (Nat.le_trans hwr HB4.out.size))
      have HX4 := Lib.hid (HBX.out.below HB4.out)
      have HBB := Lib.hid (At0.new wr [.int .i64 ba, .int .i64 la, .int .i64 fr, .int .i64 ep, .int .i64 pi, .int .i64 ge, .int .i64 se, .bool tx, .int .i64 ct, .slice A9 n9 c9] 39)
      have x0 : (wr.alloc (.cells #[.int .i64 ba, .int .i64 la, .int .i64 fr, .int .i64 ep, .int .i64 pi, .int .i64 ge, .int .i64 se, .bool tx, .int .i64 ct, .slice A9 n9 c9] 39)).cell? ⟨w3.heap.size, 0, none⟩ = some (.int .i64 base) := (HX4.out.2 0 _ rfl).1
      have x1 : (wr.alloc (.cells #[.int .i64 ba, .int .i64 la, .int .i64 fr, .int .i64 ep, .int .i64 pi, .int .i64 ge, .int .i64 se, .bool tx, .int .i64 ct, .slice A9 n9 c9] 39)).cell? ⟨w3.heap.size, 1, none⟩ = some (.slice A1 n1 c1) := (HX4.out.2 1 _ rfl).1
      have b0 : (wr.alloc (.cells #[.int .i64 ba, .int .i64 la, .int .i64 fr, .int .i64 ep, .int .i64 pi, .int .i64 ge, .int .i64 se, .bool tx, .int .i64 ct, .slice A9 n9 c9] 39)).cell? ⟨wr.heap.size, 0, none⟩ = some (.int .i64 ba) := HBB.out.cell 0
      have b1 : (wr.alloc (.cells #[.int .i64 ba, .int .i64 la, .int .i64 fr, .int .i64 ep, .int .i64 pi, .int .i64 ge, .int .i64 se, .bool tx, .int .i64 ct, .slice A9 n9 c9] 39)).cell? ⟨wr.heap.size, 1, none⟩ = some (.int .i64 la) := HBB.out.cell 1
      have b2 : (wr.alloc (.cells #[.int .i64 ba, .int .i64 la, .int .i64 fr, .int .i64 ep, .int .i64 pi, .int .i64 ge, .int .i64 se, .bool tx, .int .i64 ct, .slice A9 n9 c9] 39)).cell? ⟨wr.heap.size, 2, none⟩ = some (.int .i64 fr) := HBB.out.cell 2
      have b3 : (wr.alloc (.cells #[.int .i64 ba, .int .i64 la, .int .i64 fr, .int .i64 ep, .int .i64 pi, .int .i64 ge, .int .i64 se, .bool tx, .int .i64 ct, .slice A9 n9 c9] 39)).cell? ⟨wr.heap.size, 3, none⟩ = some (.int .i64 ep) := HBB.out.cell 3
      have b4 : (wr.alloc (.cells #[.int .i64 ba, .int .i64 la, .int .i64 fr, .int .i64 ep, .int .i64 pi, .int .i64 ge, .int .i64 se, .bool tx, .int .i64 ct, .slice A9 n9 c9] 39)).cell? ⟨wr.heap.size, 4, none⟩ = some (.int .i64 pi) := HBB.out.cell 4
      have b5 : (wr.alloc (.cells #[.int .i64 ba, .int .i64 la, .int .i64 fr, .int .i64 ep, .int .i64 pi, .int .i64 ge, .int .i64 se, .bool tx, .int .i64 ct, .slice A9 n9 c9] 39)).cell? ⟨wr.heap.size, 5, none⟩ = some (.int .i64 ge) := HBB.out.cell 5
      have b6 : (wr.alloc (.cells #[.int .i64 ba, .int .i64 la, .int .i64 fr, .int .i64 ep, .int .i64 pi, .int .i64 ge, .int .i64 se, .bool tx, .int .i64 ct, .slice A9 n9 c9] 39)).cell? ⟨wr.heap.size, 6, none⟩ = some (.int .i64 se) := HBB.out.cell 6
      have b7 : (wr.alloc (.cells #[.int .i64 ba, .int .i64 la, .int .i64 fr, .int .i64 ep, .int .i64 pi, .int .i64 ge, .int .i64 se, .bool tx, .int .i64 ct, .slice A9 n9 c9] 39)).cell? ⟨wr.heap.size, 7, none⟩ = some (.bool tx) := HBB.out.cell 7
      have b8 : (wr.alloc (.cells #[.int .i64 ba, .int .i64 la, .int .i64 fr, .int .i64 ep, .int .i64 pi, .int .i64 ge, .int .i64 se, .bool tx, .int .i64 ct, .slice A9 n9 c9] 39)).cell? ⟨wr.heap.size, 8, none⟩ = some (.int .i64 ct) := HBB.out.cell 8
      have b9 : (wr.alloc (.cells #[.int .i64 ba, .int .i64 la, .int .i64 fr, .int .i64 ep, .int .i64 pi, .int .i64 ge, .int .i64 se, .bool tx, .int .i64 ct, .slice A9 n9 c9] 39)).cell? ⟨wr.heap.size, 9, none⟩ = some (.slice A9 n9 c9) := HBB.out.cell 9
      rcases hx : apS ⟨base, byR ws⟩ ⟨ba, la, fr, ep, pi, ge, se, tx, ct, rs⟩ limit with ⟨⟨xb, xs⟩, xe⟩
      have HAP := Lib.hid hx
      clear hbl hxk
      by_cases hxe : xe = 0
      · obtain ⟨hx1, hx2, hx3, hx4⟩ := ap_more HRIS.out hx hxe
        subst hxe
        obtain ⟨rfl, rfl⟩ : base = xb ∧ byR (ws ++ [⟨ba, la, fr, ep, pi, ge, se, tx, ct, rs⟩]) = xs := by injection hx1 with h1 h2; exact ⟨h1.symm, h2.symm⟩
        have HRI2 := Lib.hid hx2
        have HLM2 := Lib.hid hx3
        clear hx hx1 hx2
        go_upto_region 15 with (go_at_call 25; (with_reducible refine (Append_is HAP.out HRS.out hc1 (by omega) HIB.out HFT.out HRC.out hn9 HT4.out).mono ?_); rintro e w5 ⟨A5, n5, c5, rfl, ho, hb⟩; have hb5 := bel_trans hb (belA w5 (.cells #[.int .i64 base, .slice A5 n5 c5] 24)); have HB5 := Lib.hid (bel_trans HB4.out hb5); have hn5 := ho.len; have hs45 : wr.heap.size < w5.heap.size := (by have := hb.size; simp at this; omega); have HX5 := Lib.hid (HX4.out.below hb5); have HBB5 := Lib.hid (HBB.out.below hb5); have HO5 := Lib.hid (World.ownsRow.alloc ho (.cells #[.int .i64 base, .slice A5 n5 c5] 24)); have HZ5 := Lib.hid (At0.new w5 [.int .i64 base, .slice A5 n5 c5] 24); have HX6 := Lib.hid (show At2 (((w5.alloc (.cells #[.int .i64 base, .slice A5 n5 c5] 24)).setCell ⟨w3.heap.size, 0, none⟩ (.int .i64 base)).setCell ⟨w3.heap.size, 1, none⟩ (.slice A5 n5 c5)) w3.heap.size [.int .i64 base, .slice A5 n5 c5] from HX5.out.put2); have HO6 := Lib.hid (show OwnB (((w5.alloc (.cells #[.int .i64 base, .slice A5 n5 c5] 24)).setCell ⟨w3.heap.size, 0, none⟩ (.int .i64 base)).setCell ⟨w3.heap.size, 1, none⟩ (.slice A5 n5 c5)) 5 (wr.heap.size + 1) (.slice A5 n5 c5) n5 _ from OwnB.more (ownsRow_setCell_below (ownsRow_setCell_below HO5.out (by simp; omega) _) (by simp; omega) _) (by simp)); have HT6 := Lib.hid (show OwnT (((w5.alloc (.cells #[.int .i64 base, .slice A5 n5 c5] 24)).setCell ⟨w3.heap.size, 0, none⟩ (.int .i64 base)).setCell ⟨w3.heap.size, 1, none⟩ (.slice A5 n5 c5)) 39 (fun g => g < w.heap.size) w.heap.size (.slice A2 n2 c2) n2 ws from ownT_off (p := ⟨w3.heap.size, 1, none⟩) (ownT_off (p := ⟨w3.heap.size, 0, none⟩) (HOT.out.below HB5.out) (fun h => HWX.out _ h rfl) (fun b hb => by simp only; omega) _) (fun h => HWX.out _ h rfl) (fun b hb => by simp only; omega) _); have HB6 := Lib.hid (show Below w.heap.size w (((w5.alloc (.cells #[.int .i64 base, .slice A5 n5 c5] 24)).setCell ⟨w3.heap.size, 0, none⟩ (.int .i64 base)).setCell ⟨w3.heap.size, 1, none⟩ (.slice A5 n5 c5)) from ((HBL.out.trans (HB5.out.mono hwr)).setCell (by simp only; omega) _).setCell (by simp only; omega) _); have hw6 := HB6.out.size; have HBB6 := Lib.hid ((HBB5.out.set (p := ⟨w3.heap.size, 0, none⟩) (by simp only; omega) (.int .i64 base)).set (p := ⟨w3.heap.size, 1, none⟩) (by simp only; omega) (.slice A5 n5 c5)); have HRD6 := Lib.hid (show RdR (((w5.alloc (.cells #[.int .i64 base, .slice A5 n5 c5] 24)).setCell ⟨w3.heap.size, 0, none⟩ (.int .i64 base)).setCell ⟨w3.heap.size, 1, none⟩ (.slice A5 n5 c5)) w.heap.size A9 n9 rs from (HRD.out.below HB5.out hwr).below ((Below.refl _ _ |>.setCell (by simp only; omega) _).setCell (by simp only; omega) _ : Below w.heap.size (w5.alloc (.cells #[.int .i64 base, .slice A5 n5 c5] 24)) (((w5.alloc (.cells #[.int .i64 base, .slice A5 n5 c5] 24)).setCell ⟨w3.heap.size, 0, none⟩ (.int .i64 base)).setCell ⟨w3.heap.size, 1, none⟩ (.slice A5 n5 c5))) (Nat.le_refl _)); have z0 : (w5.alloc (.cells #[.int .i64 base, .slice A5 n5 c5] 24)).cell? ⟨w5.heap.size, 0, none⟩ = some (.int .i64 base) := HZ5.out.cell 0; have z1 : (w5.alloc (.cells #[.int .i64 base, .slice A5 n5 c5] 24)).cell? ⟨w5.heap.size, 1, none⟩ = some (.slice A5 n5 c5) := HZ5.out.cell 1; have y0 : (w5.alloc (.cells #[.int .i64 base, .slice A5 n5 c5] 24)).cell? ⟨w3.heap.size, 0, none⟩ = some (.int .i64 base) := (HX5.out.2 0 _ rfl).1; have y1 : (w5.alloc (.cells #[.int .i64 base, .slice A5 n5 c5] 24)).cell? ⟨w3.heap.size, 1, none⟩ = some (.slice A1 n1 c1) := (HX5.out.2 1 _ rfl).1; have f0 : (w5.alloc (.cells #[.int .i64 base, .slice A5 n5 c5] 24)).frozen? ⟨w3.heap.size, 0, none⟩ = false := (HX5.out.2 0 _ rfl).2; have f1 : (w5.alloc (.cells #[.int .i64 base, .slice A5 n5 c5] 24)).frozen? ⟨w3.heap.size, 1, none⟩ = false := (HX5.out.2 1 _ rfl).2; have d0 : (w5.alloc (.cells #[.int .i64 base, .slice A5 n5 c5] 24)).cell? ⟨wr.heap.size, 0, none⟩ = some (.int .i64 ba) := HBB5.out.cell 0; have d1 : (w5.alloc (.cells #[.int .i64 base, .slice A5 n5 c5] 24)).cell? ⟨wr.heap.size, 1, none⟩ = some (.int .i64 la) := HBB5.out.cell 1; have d2 : (w5.alloc (.cells #[.int .i64 base, .slice A5 n5 c5] 24)).cell? ⟨wr.heap.size, 2, none⟩ = some (.int .i64 fr) := HBB5.out.cell 2; have d3 : (w5.alloc (.cells #[.int .i64 base, .slice A5 n5 c5] 24)).cell? ⟨wr.heap.size, 3, none⟩ = some (.int .i64 ep) := HBB5.out.cell 3; have d4 : (w5.alloc (.cells #[.int .i64 base, .slice A5 n5 c5] 24)).cell? ⟨wr.heap.size, 4, none⟩ = some (.int .i64 pi) := HBB5.out.cell 4; have d5 : (w5.alloc (.cells #[.int .i64 base, .slice A5 n5 c5] 24)).cell? ⟨wr.heap.size, 5, none⟩ = some (.int .i64 ge) := HBB5.out.cell 5; have d6 : (w5.alloc (.cells #[.int .i64 base, .slice A5 n5 c5] 24)).cell? ⟨wr.heap.size, 6, none⟩ = some (.int .i64 se) := HBB5.out.cell 6; have d7 : (w5.alloc (.cells #[.int .i64 base, .slice A5 n5 c5] 24)).cell? ⟨wr.heap.size, 7, none⟩ = some (.bool tx) := HBB5.out.cell 7; have d8 : (w5.alloc (.cells #[.int .i64 base, .slice A5 n5 c5] 24)).cell? ⟨wr.heap.size, 8, none⟩ = some (.int .i64 ct) := HBB5.out.cell 8; have d9 : (w5.alloc (.cells #[.int .i64 base, .slice A5 n5 c5] 24)).cell? ⟨wr.heap.size, 9, none⟩ = some (.slice A9 n9 c9) := HBB5.out.cell 9; clear ho hb hb5)
        generalize (((w5.alloc (.cells #[.int .i64 base, .slice A5 n5 c5] 24)).setCell ⟨w3.heap.size, 0, none⟩ (.int .i64 base)).setCell ⟨w3.heap.size, 1, none⟩ (.slice A5 n5 c5)) = w6 at HX6 HO6 HT6 HB6 hw6 HBB6 HRD6 ⊢
        clear z0 z1 y0 y1 f0 f1 d0 d1 d2 d3 d4 d5 d6 d7 d8 d9 x0 x1 b0 b1 b2 b3 b4 b5 b6 b7 b8 b9 a0 a1 a2 a3 a4 a5 a6 a7 a8 a9
        have d0 : w6.cell? ⟨wr.heap.size, 0, none⟩ = some (.int .i64 ba) := HBB6.out.cell 0
        have d1 : w6.cell? ⟨wr.heap.size, 1, none⟩ = some (.int .i64 la) := HBB6.out.cell 1
        have d2 : w6.cell? ⟨wr.heap.size, 2, none⟩ = some (.int .i64 fr) := HBB6.out.cell 2
        have d3 : w6.cell? ⟨wr.heap.size, 3, none⟩ = some (.int .i64 ep) := HBB6.out.cell 3
        have d4 : w6.cell? ⟨wr.heap.size, 4, none⟩ = some (.int .i64 pi) := HBB6.out.cell 4
        have d5 : w6.cell? ⟨wr.heap.size, 5, none⟩ = some (.int .i64 ge) := HBB6.out.cell 5
        have d6 : w6.cell? ⟨wr.heap.size, 6, none⟩ = some (.int .i64 se) := HBB6.out.cell 6
        have d7 : w6.cell? ⟨wr.heap.size, 7, none⟩ = some (.bool tx) := HBB6.out.cell 7
        have d8 : w6.cell? ⟨wr.heap.size, 8, none⟩ = some (.int .i64 ct) := HBB6.out.cell 8
        have d9 : w6.cell? ⟨wr.heap.size, 9, none⟩ = some (.slice A9 n9 c9) := HBB6.out.cell 9
        obtain ⟨A8, c8, w8, hrun, ho8, hg8, hat8, hb8⟩ := run_appT (P := Tryd.prog) (w := w6) w.heap.size 28 28 39 Tryd.underlying28 batInfo HT6.out (x := (⟨ba, la, fr, ep, pi, ge, se, tx, ct, rs⟩, A9, n9, c9)) (lead_rd (B := w.heap.size) HRD6.out hw6 hc9 hn9 HFT.out (fun g hg => (OwnT.lt HT6.out g hg).1)) (by omega) hw6
        dsimp only [batC] at hrun hg8
        have HAP6 := Lib.hid (show Apart (.slice A2 n2 c2) (.slice A5 n5 c5) from fun g hg h9 => by have h1 := (World.ownsRow.lt HO6.out g h9).1; have h2 := (OwnT.lt HOT.out g hg).2; omega)
        have HO8 := Lib.hid ho8
        have HHS := Lib.hid (show OwnB w8 5 (wr.heap.size + 1) (.slice A5 n5 c5) n5 _ from own_far (World.ownsRow.alloc HO6.out _) HAP6.out hg8)
        have HAP8 := Lib.hid (apart_after (World.ownsRow.alloc HO6.out (.cells #[.int .i64 ba, .int .i64 la, .int .i64 fr, .int .i64 ep, .int .i64 pi, .int .i64 ge, .int .i64 se, .bool tx, .int .i64 ct, .slice A9 n9 c9] 39)) HAP6.out (by simpa using hat8))
        have HX8 := Lib.hid ((HX6.out.below (belA _ _)).kept hg8 (fun h => HWX.out _ h.symm rfl))
        have HB8 := Lib.hid (HB6.out.trans hb8)
        have HAT := Lib.hid hat8
        clear ho8 hg8 hat8 hb8
        go_wp2_with (at_builtin; refine wpList_app_run rfl _ _ 28 rfl rfl rfl hrun ?_)
        go_roundw
        case rel =>
          refine ⟨k + 1, ws ++ [⟨ba, la, fr, ep, pi, ge, se, tx, ct, rs⟩], A5, n5, c5, A8, n2 + 1, c8, by go_num, by omega, rfl, by omega, HRI2.out, by have := HLM2.out; omega, fun _ => HLM2.out, HX8.out, OwnB.more HHS.out (by omega), fun g hg => ?_, HO8.out, HAP8.out, fun g hg => ?_, HB8.out⟩
          · have := (World.ownsRow.lt HHS.out g hg).1; omega
          · rcases HAT.out with h | h
            · rw [h] at hg; exact HWX.out g hg
            · rw [h] at hg; injection hg with hg; have h9 := HX6.out.1; omega
        case measure => simp [intOf]; omega
      · have hzF : (xe == 0) = false := beqF hxe
        clear hx hxe
        go_wp2_with (first
          | (go_at_call 25; (with_reducible refine (Append_is HAP.out HRS.out hc1 (by omega) HIB.out HFT.out HRC.out hn9 HT4.out).mono ?_); rintro e w5 ⟨A5, n5, c5, rfl, ho, hb⟩; have HB5 := Lib.hid (bel_trans HB4.out (bel_trans hb (belA w5 (.cells #[.int .i64 xb, .slice A5 n5 c5] 24)))); clear ho hb))
        go_roundw
        case rel => exact ⟨k + 1, ws, A1, n1, c1, A2, n2, c2, by go_num, by omega, rfl, by omega, HRIS.out, hlen4, HLIM.out, HBX.out.below HB5.out, HOB.out.below HB5.out, HOX.out, HOT.out.below HB5.out, HAPT.out, HWX.out, bel_trans HBL.out HB5.out⟩
        case measure => simp [intOf]; omega
    · obtain rfl : k = n := by omega
      have hsw := sc_whole HRIS.out
      have HSW := Lib.hid hsw
      have hnw := HOT.out.len
      have HEN := Lib.hid (show endS ⟨base, byR ws⟩ = endR base ws by unfold endS batS; simp only [hsw])
      obtain ⟨Y, hY⟩ : ∃ Y, Y = byR ws := ⟨_, rfl⟩
      rw [← hY] at HSW HEN HOB hn1 hlen4 HLIM
      obtain rfl : Y.length = n1 := hn1
      obtain ⟨E, hE⟩ : ∃ E, E = endR base ws := ⟨_, rfl⟩
      rw [← hE] at HEN
      have HR := Lib.hid HOB.out.rd
      have x0 : wr.cell? ⟨w3.heap.size, 0, none⟩ = some (.int .i64 base) := (HBX.out.2 0 _ rfl).1
      have x1 : wr.cell? ⟨w3.heap.size, 1, none⟩ = some (.slice A1 Y.length c1) := (HBX.out.2 1 _ rfl).1
      have HWW := Lib.hid HBL.out
      have HOTR := Lib.hid HOT.out.rd
      clear hsw hY
      by_cases hws : ws = []
      · subst hws
        obtain rfl : 0 = n2 := hnw
        obtain rfl : base = E := hE.symm
        clear hE
        go_wp2_with (first
          | (go_at_call 15; (with_reducible refine (Scan_is HSW.out HR.out hc1 (by omega) HIB.out HTR.out).mono ?_); rintro e w7 ⟨A7, n7, c7, rfl, ho, hb⟩; have HW_7 := Lib.hid (bel_trans HWW.out hb); have HT_7 := Lib.hid (HTR.out.bel hb); have HR_7 := Lib.hid (rdUp HR.out hb); have HX_7 := Lib.hid (HBX.out.below hb); have HO_7 := Lib.hid (rdtUp HOTR.out hb); have HG_7 := Lib.hid (ho.rd); have hn7 : n7 ≤ 1099511627776 := (by have h9 := ho.len; simp at h9; omega); have hcap7 := ho.cap; have hx7_0 : w7.cell? ⟨w3.heap.size, 0, none⟩ = some (.int .i64 base) := (HX_7.out.2 0 _ rfl).1; have hx7_1 : w7.cell? ⟨w3.heap.size, 1, none⟩ = some (.slice A1 Y.length c1) := (HX_7.out.2 1 _ rfl).1; clear hb ho)
          | (go_at_call 19; (with_reducible refine (SameAll_is A7 A2 n7 c7 0 c2 [] [] _ HG_7.out HO_7.out hn7 (by omega) (eqT_self _)).mono ?_); rintro e w8 ⟨rfl, hb⟩; have HW_8 := Lib.hid (bel_trans HW_7.out hb); have HT_8 := Lib.hid (HT_7.out.bel hb); have HR_8 := Lib.hid (rdUp HR_7.out hb); have HX_8 := Lib.hid (HX_7.out.below hb); have HO_8 := Lib.hid (rdtUp HO_7.out hb); have HG_8 := Lib.hid (rdtUp HG_7.out hb); have hx8_0 : w8.cell? ⟨w3.heap.size, 0, none⟩ = some (.int .i64 base) := (HX_8.out.2 0 _ rfl).1; have hx8_1 : w8.cell? ⟨w3.heap.size, 1, none⟩ = some (.slice A1 Y.length c1) := (HX_8.out.2 1 _ rfl).1; clear hb)
          | (go_at_call 20; (with_reducible refine (End_is HEN.out HR_8.out hc1 (by omega) HIB.out HT_8.out).mono ?_); rintro e w9 ⟨rfl, hb⟩; have HW_9 := Lib.hid (bel_trans HW_8.out hb); have HT_9 := Lib.hid (HT_8.out.bel hb); have HR_9 := Lib.hid (rdUp HR_8.out hb); have HX_9 := Lib.hid (HX_8.out.below hb); have HO_9 := Lib.hid (rdtUp HO_8.out hb); have HG_9 := Lib.hid (rdtUp HG_8.out hb); have hx9_0 : w9.cell? ⟨w3.heap.size, 0, none⟩ = some (.int .i64 base) := (HX_9.out.2 0 _ rfl).1; have hx9_1 : w9.cell? ⟨w3.heap.size, 1, none⟩ = some (.slice A1 Y.length c1) := (HX_9.out.2 1 _ rfl).1; clear hb))
        go_ret
        exact ⟨rfl, HW_9.out⟩
      · have hlm := HLIM.out hws
        have u1 : decide ((Y.length : Int) ≤ limit) = true := decide_eq_true hlm
        have hpos : 0 < ws.length := List.length_pos_iff.2 hws
        obtain ⟨y, hy, hye⟩ := endR_fin (lo := base) hws
        have hoa := order_at HRIS.out hy
        obtain ⟨yl, hyl⟩ : ∃ yl, yl = y.last := ⟨_, rfl⟩
        rw [← hyl] at hye hoa
        obtain rfl : E = yl + 1 := hE.trans hye
        have hy0 : 0 ≤ yl ∧ yl ≤ 1099511627776 := by have h1 := chB_last hoa.1; omega
        have hp2 : 0 < n2 := by omega
        rw [hnw] at hy
        have HNW2 := Lib.hid hnw
        have hwp : IntKind.i64.wrap ((n2 : Int) - 1) = (n2 : Int) - 1 := IntWalk.i64_in _ (by omega)
        have hq0 : 0 ≤ (n2 : Int) - 1 := by omega
        have hq2 : (1 : Int) ≤ (n2 : Int) := by omega
        have hq1 : (n2 : Int) - 1 < (n2 : Int) := by omega
        have htn : ((n2 : Int) - 1).toNat = n2 - 1 := by omega
        have u2 : ((n2 : Int) == 0) = false := beq_false_of_ne (by omega)
        have u3 : decide ((0 : Int) < (n2 : Int)) = true := decide_eq_true (by omega)
        have u4 : decide (0 < n2) = true := decide_eq_true hp2
        have u5 : n2 ≠ 0 := by omega
        obtain ⟨yb, yo, yx, yA, yn, yc, rfl, _, _, _, _, _, _, _⟩ := HOTR.out.at (k := n2 - 1) (by omega)
        have HYK := Lib.hid hy
        have HYL := Lib.hid hyl
        clear hye hoa hy hyl hlm hpos hnw hws
        go_wp2_with (first
          | (go_at_call 15; (with_reducible refine (Scan_is HSW.out HR.out hc1 (by omega) HIB.out HTR.out).mono ?_); rintro e w7 ⟨A7, n7, c7, rfl, ho, hb⟩; have HW_7 := Lib.hid (bel_trans HWW.out hb); have HT_7 := Lib.hid (HTR.out.bel hb); have HR_7 := Lib.hid (rdUp HR.out hb); have HX_7 := Lib.hid (HBX.out.below hb); have HO_7 := Lib.hid (rdtUp HOTR.out hb); have HG_7 := Lib.hid (ho.rd); have hn7 : n7 ≤ 1099511627776 := (by have h9 := ho.len; have h8 := HNW2.out; omega); have hcap7 := ho.cap; have hx7_0 : w7.cell? ⟨w3.heap.size, 0, none⟩ = some (.int .i64 base) := (HX_7.out.2 0 _ rfl).1; have hx7_1 : w7.cell? ⟨w3.heap.size, 1, none⟩ = some (.slice A1 Y.length c1) := (HX_7.out.2 1 _ rfl).1; obtain ⟨yb', yo', yx', yA', yn', yc', hA7, _, hyk, _, _, _, _, hyc⟩ := (HO_7.out).at (k := n2 - 1) (by omega); injection hA7 with hA7; injection hA7 with hA8 hA9; subst hA8 hA9; have hy1 : w7.cell? ⟨yb, yo + (n2 - 1) * 10 + 1, none⟩ = some (.int .i64 yl) := (by have h1 := hyc 1 _ rfl; rw [hyk] at HYK; have h2 := Option.some.inj HYK.out; rw [HYL.out, ← h2]; exact h1); clear hyc hyk; clear hb ho)
          | (go_at_call 19; (with_reducible refine (SameAll_is A7 (some ⟨yb, yo, none⟩) n7 c7 n2 c2 ws ws _ HG_7.out HO_7.out hn7 (by omega) (eqT_self _)).mono ?_); rintro e w8 ⟨rfl, hb⟩; have HW_8 := Lib.hid (bel_trans HW_7.out hb); have HT_8 := Lib.hid (HT_7.out.bel hb); have HR_8 := Lib.hid (rdUp HR_7.out hb); have HX_8 := Lib.hid (HX_7.out.below hb); have HO_8 := Lib.hid (rdtUp HO_7.out hb); have HG_8 := Lib.hid (rdtUp HG_7.out hb); have hx8_0 : w8.cell? ⟨w3.heap.size, 0, none⟩ = some (.int .i64 base) := (HX_8.out.2 0 _ rfl).1; have hx8_1 : w8.cell? ⟨w3.heap.size, 1, none⟩ = some (.slice A1 Y.length c1) := (HX_8.out.2 1 _ rfl).1; clear hb)
          | (go_at_call 20; (with_reducible refine (End_is HEN.out HR_8.out hc1 (by omega) HIB.out HT_8.out).mono ?_); rintro e w9 ⟨rfl, hb⟩; have HW_9 := Lib.hid (bel_trans HW_8.out hb); have HT_9 := Lib.hid (HT_8.out.bel hb); have HR_9 := Lib.hid (rdUp HR_8.out hb); have HX_9 := Lib.hid (HX_8.out.below hb); have HO_9 := Lib.hid (rdtUp HO_8.out hb); have HG_9 := Lib.hid (rdtUp HG_8.out hb); have hx9_0 : w9.cell? ⟨w3.heap.size, 0, none⟩ = some (.int .i64 base) := (HX_9.out.2 0 _ rfl).1; have hx9_1 : w9.cell? ⟨w3.heap.size, 1, none⟩ = some (.slice A1 Y.length c1) := (HX_9.out.2 1 _ rfl).1; clear hb))
        go_ret
        exact ⟨rfl, HW_9.out⟩
end Go.Proofs.YtgjbfhmfhmihhaaDoor.Seg

namespace Go.Proofs.YtgjbfhmfhmihhaaDoor.segBack
open Go.ChangeShapes Go.WideShapes Go.ChangeAt Go.RowKit

theorem own : ownKnob Tryd.prog.godebug = none := by kernel_rfl
theorem laidOut : laidOutB Tryd.prog = true := by kernel_rfl

set_option maxRecDepth 100000 in
theorem lifted (os : Os) (started : os.Started) (H : Type) (enc : TypeId × Value → H) :
    ReturnsInHanded {} Tryd.checked os 6 .any (fun w args => (Rows.segBackSpec.pre enc Tryd.prog Tryd.f6 [] false w args ∧ laidMetH Tryd.prog Crc.listed w) ∧ sizedMet enc Tryd.prog Tryd.f6 (OpenSpec.ofChange Rows.segBackSpec) false w args)
      (Rows.segBackSpec.post enc Tryd.prog Tryd.f6 false true false false) := by
  refine returnsInHanded_of_change_and (C := Tryd.checked) (X := fun w _ => laidMetH Tryd.prog Crc.listed w) (fun _ _ _ hh h => h.of_heap hh) own started (by kernel_rfl) Tryd.func6
    (ChangeSpec.witness_shaped (enc := enc) (C := Tryd.checked) (os := os) (X := fun w _ => laidMetH Tryd.prog Crc.listed w) false (World.doorLaid Tryd.prog 400 os) #[.int .i64 0, .slice none 0 0, .int .i64 0] 8 rfl (World.shaped_of_RefB (by kernel_rfl) (by kernel_rfl)) (by kernel_rfl) (by kernel_rfl) (by kernel_rfl) (Crc.door_met os _)) ?_
  intro W base args ds gs before hval0 hW _ hwt hL _
  have hval : ∀ (j : Nat) t v, Tryd.f6.params[j]? = some t → args[j]? = some v → Value.okWide Tryd.prog W .any base t v := hval0
  have hW' := hW
  obtain ⟨p, q, hA0, hV, rfl, hfz, hnd⟩ := hW
  have hA : DataW.TrodAll enc Tryd.prog W 0 (fun _ => true) true Tryd.f6.params.toList args.toList ds p := hA0
  rw [Tryd.params6] at hA hval
  obtain ⟨v0, vs0, d0, ds0, p0, q0, hargs, rfl, rfl, h0, r0⟩ := trodAll_cons hA
  obtain ⟨v1, vs1, d1, ds1, p1, q1, rfl, rfl, rfl, h1, r1⟩ := trodAll_cons r0
  obtain ⟨v2, vs2, d2, ds2, p2, q2, rfl, rfl, rfl, h2, r2⟩ := trodAll_cons r1
  obtain ⟨rfl, rfl, rfl⟩ := trodAll_nil r2
  obtain rfl : args = #[v0, v1, v2] := by cases args; simp_all
  obtain ⟨rfl, rfl⟩ := trodVars_none hV
  have k0 := h0
  have lt0 : ∀ x ∈ p0, x.block < W.heap.size := by obtain ⟨m, hm⟩ := k0; exact DataW.trod_lt m _ _ _ hm
  obtain ⟨a0, rfl, hi0⟩ := Oct.open_i64 Tryd.underlying3 (hval 0 3 v0 rfl rfl) h0
  have k1 := h1
  have lt1 : ∀ x ∈ p1, x.block < W.heap.size := by obtain ⟨m, hm⟩ := k1; exact DataW.trod_lt m _ _ _ hm
  obtain ⟨A_1, n_1, c_1, l_1, rfl, hc_1, hk_1, hR_1⟩ := Bat.open_batches (hval 1 28 v1 rfl rfl) h1 (Bat.weights_arg (j := 1) hwt (by kernel_rfl) rfl)
  have k2 := h2
  have lt2 : ∀ x ∈ p2, x.block < W.heap.size := by obtain ⟨m, hm⟩ := k2; exact DataW.trod_lt m _ _ _ hm
  obtain ⟨a2, rfl, hi2⟩ := Oct.open_i64 Tryd.underlying3 (hval 2 3 v2 rfl rfl) h2
  clear hA0 hval0
  refine (Seg.segBack_walk a0 A_1 n_1 c_1 l_1 a2 W hi0 hc_1 hk_1 hR_1 hi2 (Crc.tab_of_laid hL)).mono fun e W' ⟨he, bel⟩ => ?_
  subst he
  exact ⟨_, rfl, _, _, _, [], _, [], hW', trodAll_mk1 (shut_bool Tryd.underlying4 _), (trodAll_cons_mk (Below.trod laidOut (by kernel_rfl) (of_decide_eq_true (by kernel_rfl)) k0 bel lt0) (trodAll_cons_mk (Below.trod laidOut (by kernel_rfl) (of_decide_eq_true (by kernel_rfl)) k1 bel lt1) (trodAll_cons_mk (Below.trod laidOut (by kernel_rfl) (of_decide_eq_true (by kernel_rfl)) k2 bel lt2) trodAll_mk0))), rfl, bel.frame _, fun h => by cases h⟩

theorem over : Rows.segBackRow.holds Tryd.pinned (OpenSpec.ofChange Rows.segBackSpec) :=
  OpenClaim.holds_of_wide 6 Tryd.f6 rfl rfl rfl rfl rfl rfl rfl ⟨rfl, rfl, rfl, rfl, rfl⟩ rfl rfl rfl rfl rfl (by kernel_rfl) Tryd.func6 (by kernel_rfl)
    (of_decide_eq_true (by kernel_rfl)) (by unfold Func.isWrapper; first | (rw [if_pos (by decide +kernel)]; kernel_rfl) | (rw [if_neg (by decide +kernel)]; exact ⟨rfl, rfl⟩))
    (fun os started H enc _ => lifted os started H enc)

theorem proved : Rows.SegBackCardSaid :=
  Claim7.holds_tied_plain_at .later [] [.data] true (true, "8756dca365c3738ae7f7dad078bfa0200519ee75ee06b885abe2d0f8db900c1d") false
    over (fun _ h => by cases h) (by kernel_rfl) (fun _ h => by cases h) segBack_row_tie rfl ⟨rfl, rfl⟩ (by kernel_rfl) rfl
    (fun f fn hf hfn => by
      obtain rfl : f = 6 := Option.some.inj ((show Tryd.prog.funcNamed "watermeet/watermeetlaw07.SegBack" = some 6 by kernel_rfl).symm.trans hf) |>.symm
      obtain rfl : fn = Tryd.f6 := (Option.some.inj (Tryd.func6.symm.trans hfn)).symm
      exact ⟨by kernel_rfl, fun j t ht => by
        rw [Tryd.params6] at ht
        have hm : t ∈ [3, 28, 3] := by simpa using Array.mem_of_getElem? ht
        have hall : ([3, 28, 3].all fun u => !Tryd.prog.wantsStandIn u) = true := by kernel_rfl
        exact (show Tryd.prog.wantsStandIn t = false by simpa using List.all_eq_true.1 hall t hm)⟩)
    (by kernel_rfl)
#print axioms proved
end Go.Proofs.YtgjbfhmfhmihhaaDoor.segBack
