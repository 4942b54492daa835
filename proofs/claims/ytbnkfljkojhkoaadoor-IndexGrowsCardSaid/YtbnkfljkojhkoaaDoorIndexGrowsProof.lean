/- With a batch more an index has one entry more, at most, and is one still; no condition.
-/
import Derived.Test.YtbnkfljkojhkoaaDoorIdxW
import Derived.Test.YtbnkfljkojhkoaaDoorIdxV
import Derived.Test.YtbnkfljkojhkoaaDoorJIdxM
import Derived.Test.YtbnkfljkojhkoaaDoorJIdxR
import Derived.Test.YtbnkfljkojhkoaaDoorJBatK
import Derived.Test.YtbnkfljkojhkoaaDoorJSegW
import Derived.Test.YtbnkfljkojhkoaaDoorRows
import Derived.WalkKit
import Derived.ProofKit
import Derived.OpenShut
import Derived.ChangeOld
import Derived.Below
import Derived.Carry
import Derived.Test.YtbnkfljkojhkoaaDoorJOct
import Derived.Test.YtbnkfljkojhkoaaDoorSegArg
import Derived.Test.YtbnkfljkojhkoaaDoorJBatA
import Derived.Test.YtbnkfljkojhkoaaDoorJCrc
import Derived.Test.YtbnkfljkojhkoaaDoorTie
import Derived.Test.YtbnkfljkojhkoaaDoorCards
import Derived.SevenTiedAt
/- The walk of IndexGrows. -/
namespace Go.Proofs.YtbnkfljkojhkoaaDoor.Idx
open Go.RowKit Go.Proofs.YtbnkfljkojhkoaaDoor.Seg Go.Proofs.YtbnkfljkojhkoaaDoor.RowF Go.Proofs.YtbnkfljkojhkoaaDoor.Oct Go.Proofs.YtbnkfljkojhkoaaDoor.Rec Go.Proofs.YtbnkfljkojhkoaaDoor.Crc Go.Proofs.YtbnkfljkojhkoaaDoor.Bat Go.Proofs.YtbnkfljkojhkoaaDoor.Lay

theorem refSame_yes (A1 : Option Addr) (n1 c1 : Nat) (L : List En) (A2 : Option Addr) (n2 c2 : Nat) (w : World) (hr : RdE w w.heap.size A1 n1 L) (hr2 : RdE w w.heap.size A2 n2 L) (hn : n1 ≤ 1099511627776) :
    Calls Tryd.prog 24 #[.slice A1 n1 c1, .slice A2 n2 c2] w fun e w' => e = .returned (.bool true) ∧ Below w.heap.size w w' := by
  have h := refSameE_any A1 n1 c1 L A2 n2 c2 L w hr hr2 hn
  rw [decide_eq_true rfl] at h
  exact h
theorem ckX_01 (s : Sg) (l : List En) : ckX s l = 0 ∨ ckX s l = 1 := by
  unfold ckX
  split
  · exact .inl rfl
  · exact .inr rfl
theorem make_next {s t : Sg} {b : Bt} {every : Int} {l : List En} (h : apS s b 4096 = (t, 0)) (hl : makeX s every = (l, 0)) : ∃ m, makeX t every = (m, 0) ∧ (m = l ∨ ∃ x, m = l ++ [x]) ∧ (ckX t l = 0 ↔ l ≠ []) := by
  obtain ⟨_, _, _, _, h5, h6, h7, _⟩ := apS_good h
  obtain ⟨_, he, _⟩ := makeX_good hl
  have hr : rightX t = true := by
    unfold rightX
    rw [h7, h6]
    simp only [List.length_append, Bool.true_and, decide_eq_true_eq]
    omega
  have hm : makeX t every = (pick every none (allE t), 0) := by
    unfold makeX
    rw [if_neg (by rw [hr]; simp; omega)]
  exact ⟨_, hm, grows h hl hm⟩
set_option maxRecDepth 100000 in
set_option maxHeartbeats 8000000 in
theorem indexGrows_walk (sb : Int) (A : Option Addr) (n c : Nat) (l : List UInt8) (ba la fr ep pi ge se : Int) (tx : Bool) (ct : Int) (A1 : Option Addr) (n1 c1 : Nat) (rs : List Rc) (every : Int) (w : World) (hi : I64 sb) (hc : n ≤ c) (_hk : c ≤ reach) (hR : Rd w w.heap.size A n l) (hfn : FitN ⟨ba, la, fr, ep, pi, ge, se, tx, ct, rs⟩) (hnc : n1 ≤ c1) (hcap : c1 ≤ reach) (hRb : RdL w w.heap.size A1 n1 rs) (_hil : I64 every) (ht : Tab w) :
    Calls Tryd.prog 8 #[.agg #[.int .i64 sb, .slice A n c], .agg #[.int .i64 ba, .int .i64 la, .int .i64 fr, .int .i64 ep, .int .i64 pi, .int .i64 ge, .int .i64 se, .bool tx, .int .i64 ct, .slice A1 n1 c1], .int .i64 every] w fun e w' => e = .returned (.bool true) ∧ Below w.heap.size w w' := by
  have HW_0 := Lib.hid (bel_alloc (belA w (.cells #[.int .i64 sb, .slice A n c] 28)) (.cells #[.int .i64 ba, .int .i64 la, .int .i64 fr, .int .i64 ep, .int .i64 pi, .int .i64 ge, .int .i64 se, .bool tx, .int .i64 ct, .slice A1 n1 c1] 38))
  have HS_0 := Lib.hid ((At0.new w [.int .i64 sb, .slice A n c] 28).alloc (.cells #[.int .i64 ba, .int .i64 la, .int .i64 fr, .int .i64 ep, .int .i64 pi, .int .i64 ge, .int .i64 se, .bool tx, .int .i64 ct, .slice A1 n1 c1] 38))
  have HR_0 := Lib.hid (rdUp hR HW_0.out)
  have HT_0 := Lib.hid (ht.bel HW_0.out)
  have HB_0 := Lib.hid (show BR ((w.alloc (.cells #[.int .i64 sb, .slice A n c] 28)).alloc (.cells #[.int .i64 ba, .int .i64 la, .int .i64 fr, .int .i64 ep, .int .i64 pi, .int .i64 ge, .int .i64 se, .bool tx, .int .i64 ct, .slice A1 n1 c1] 38)) (w.heap.size + 1) ⟨ba, la, fr, ep, pi, ge, se, tx, ct, rs⟩ A1 n1 c1 by have h := BR.new (w := w.alloc (.cells #[.int .i64 sb, .slice A n c] 28)) (b := ⟨ba, la, fr, ep, pi, ge, se, tx, ct, rs⟩) (A := A1) (n := n1) (c := c1) 38 ((RdL_recs hRb).below (belA w _) (Nat.le_refl _) |>.more (belA w _).size); rw [show (w.alloc (.cells #[.int .i64 sb, .slice A n c] 28)).heap.size = w.heap.size + 1 by simp] at h; exact h)
  have HFIT := Lib.hid (RdL_fit hRb)
  have hcr := Nat.le_trans hnc hcap
  have hn1l := hRb.len
  obtain ⟨zb, hzb⟩ : ∃ zb, fewT ⟨ba, la, fr, ep, pi, ge, se, tx, ct, rs⟩ = zb := ⟨_, rfl⟩
  have HZB := Lib.hid hzb
  rcases hz : decide ((n : Int) ≤ 3000) with _ | _
  · have HFEW := Lib.hid (show (decide ((n : Int) ≤ 3000) && decide (((0 : Nat) : Int) ≤ 200)) = false by rw [hz]; rfl)
    clear hz hR hRb ht hfn hzb
    go_enter Tryd.func8, Tryd.ntmps8
    go_wp2_with (first
      | (go_at_call 9; (with_reducible refine (live8_any _ HT_0.out).mono ?_); rintro e w1 ⟨rfl, hb⟩; have HW_1 := Lib.hid (bel_trans HW_0.out hb); have HS_1 := Lib.hid (HS_0.out.below hb); have HR_1 := Lib.hid (rdUp HR_0.out hb); have HT_1 := Lib.hid (HT_0.out.bel hb); have HB_1 := Lib.hid (HB_0.out.below hb); have hs1_0 : w1.cell? ⟨w.heap.size, 0, none⟩ = some (.int .i64 sb) := HS_1.out.cell 0; have hs1_1 : w1.cell? ⟨w.heap.size, 1, none⟩ = some (.slice A n c) := HS_1.out.cell 1; obtain ⟨hb1_0, hb1_1, hb1_2, hb1_3, hb1_4, hb1_5, hb1_6, hb1_7, hb1_8, hb1_9⟩ := HB_1.out.box; clear hb)
      | (go_at_call 22; (with_reducible refine (refFew_is ba la fr ep pi ge se tx ct rs A1 n1 c1 _ HB_1.out.rd HFIT.out hcr HZB.out).mono ?_); rintro e w2 ⟨rfl, hb⟩; have HW_2 := Lib.hid (bel_trans HW_1.out hb); have HS_2 := Lib.hid (HS_1.out.below hb); have HR_2 := Lib.hid (rdUp HR_1.out hb); have HT_2 := Lib.hid (HT_1.out.bel hb); have HB_2 := Lib.hid (HB_1.out.below hb); have hs2_0 : w2.cell? ⟨w.heap.size, 0, none⟩ = some (.int .i64 sb) := HS_2.out.cell 0; have hs2_1 : w2.cell? ⟨w.heap.size, 1, none⟩ = some (.slice A n c) := HS_2.out.cell 1; obtain ⟨hb2_0, hb2_1, hb2_2, hb2_3, hb2_4, hb2_5, hb2_6, hb2_7, hb2_8, hb2_9⟩ := HB_2.out.box; clear hb)
      | (go_at_call 14; (with_reducible refine (few_any sb A n c none 0 0 (z := false) HFEW.out _).mono ?_); rintro e w3 ⟨rfl, hb⟩; have HW_3 := Lib.hid (bel_trans HW_2.out hb); have HS_3 := Lib.hid (HS_2.out.below hb); have HR_3 := Lib.hid (rdUp HR_2.out hb); have HT_3 := Lib.hid (HT_2.out.bel hb); have HB_3 := Lib.hid (HB_2.out.below hb); have hs3_0 : w3.cell? ⟨w.heap.size, 0, none⟩ = some (.int .i64 sb) := HS_3.out.cell 0; have hs3_1 : w3.cell? ⟨w.heap.size, 1, none⟩ = some (.slice A n c) := HS_3.out.cell 1; obtain ⟨hb3_0, hb3_1, hb3_2, hb3_3, hb3_4, hb3_5, hb3_6, hb3_7, hb3_8, hb3_9⟩ := HB_3.out.box; clear hb))
    go_ret
    exact ⟨rfl, HW_3.out⟩
  have HFEW := Lib.hid (show (decide ((n : Int) ≤ 3000) && decide (((0 : Nat) : Int) ≤ 200)) = true by rw [hz]; rfl)
  have hn : n ≤ 3000 := by have := of_decide_eq_true hz; omega
  clear hz
  cases zb with
  | false =>
    clear hR hRb ht hfn hzb
    go_enter Tryd.func8, Tryd.ntmps8
    go_wp2_with (first
      | (go_at_call 9; (with_reducible refine (live8_any _ HT_0.out).mono ?_); rintro e w1 ⟨rfl, hb⟩; have HW_1 := Lib.hid (bel_trans HW_0.out hb); have HS_1 := Lib.hid (HS_0.out.below hb); have HR_1 := Lib.hid (rdUp HR_0.out hb); have HT_1 := Lib.hid (HT_0.out.bel hb); have HB_1 := Lib.hid (HB_0.out.below hb); have hs1_0 : w1.cell? ⟨w.heap.size, 0, none⟩ = some (.int .i64 sb) := HS_1.out.cell 0; have hs1_1 : w1.cell? ⟨w.heap.size, 1, none⟩ = some (.slice A n c) := HS_1.out.cell 1; obtain ⟨hb1_0, hb1_1, hb1_2, hb1_3, hb1_4, hb1_5, hb1_6, hb1_7, hb1_8, hb1_9⟩ := HB_1.out.box; clear hb)
      | (go_at_call 22; (with_reducible refine (refFew_is ba la fr ep pi ge se tx ct rs A1 n1 c1 _ HB_1.out.rd HFIT.out hcr HZB.out).mono ?_); rintro e w2 ⟨rfl, hb⟩; have HW_2 := Lib.hid (bel_trans HW_1.out hb); have HS_2 := Lib.hid (HS_1.out.below hb); have HR_2 := Lib.hid (rdUp HR_1.out hb); have HT_2 := Lib.hid (HT_1.out.bel hb); have HB_2 := Lib.hid (HB_1.out.below hb); have hs2_0 : w2.cell? ⟨w.heap.size, 0, none⟩ = some (.int .i64 sb) := HS_2.out.cell 0; have hs2_1 : w2.cell? ⟨w.heap.size, 1, none⟩ = some (.slice A n c) := HS_2.out.cell 1; obtain ⟨hb2_0, hb2_1, hb2_2, hb2_3, hb2_4, hb2_5, hb2_6, hb2_7, hb2_8, hb2_9⟩ := HB_2.out.box; clear hb)
      | (go_at_call 14; (with_reducible refine (few_any sb A n c none 0 0 (z := true) HFEW.out _).mono ?_); rintro e w3 ⟨rfl, hb⟩; have HW_3 := Lib.hid (bel_trans HW_2.out hb); have HS_3 := Lib.hid (HS_2.out.below hb); have HR_3 := Lib.hid (rdUp HR_2.out hb); have HT_3 := Lib.hid (HT_2.out.bel hb); have HB_3 := Lib.hid (HB_2.out.below hb); have hs3_0 : w3.cell? ⟨w.heap.size, 0, none⟩ = some (.int .i64 sb) := HS_3.out.cell 0; have hs3_1 : w3.cell? ⟨w.heap.size, 1, none⟩ = some (.slice A n c) := HS_3.out.cell 1; obtain ⟨hb3_0, hb3_1, hb3_2, hb3_3, hb3_4, hb3_5, hb3_6, hb3_7, hb3_8, hb3_9⟩ := HB_3.out.box; clear hb))
    go_ret
    exact ⟨rfl, HW_3.out⟩
  | true =>
    have hfw := fewT_iff hzb
    simp only at hfw
    have HFITS := Lib.hid (fits_of hfn (RdL_fit hRb) hzb)
    have hn10 : n1 ≤ 1099511627776 := by omega
    have HI := Lib.hid hi
    clear hzb hR hRb ht hfn hfw
    rcases hap : apS ⟨sb, l⟩ ⟨ba, la, fr, ep, pi, ge, se, tx, ct, rs⟩ 4096 with ⟨⟨xb, xs⟩, xe⟩
    have hxl : xs.length ≤ 4096 := ap_len hap
    have HAP := Lib.hid hap
    rcases hmk : makeX ⟨sb, l⟩ every with ⟨m0, z0⟩
    have HMK := Lib.hid hmk
    by_cases hxe : xe = 0
    case neg =>
      have hzF : (xe == 0) = false := beqF hxe
      clear hap hmk hxe
      go_enter Tryd.func8, Tryd.ntmps8
      go_wp2_with (first
        | (go_at_call 9; (with_reducible refine (live8_any _ HT_0.out).mono ?_); rintro e w1 ⟨rfl, hb⟩; have HW_1 := Lib.hid (bel_trans HW_0.out hb); have HS_1 := Lib.hid (HS_0.out.below hb); have HR_1 := Lib.hid (rdUp HR_0.out hb); have HT_1 := Lib.hid (HT_0.out.bel hb); have HB_1 := Lib.hid (HB_0.out.below hb); have hs1_0 : w1.cell? ⟨w.heap.size, 0, none⟩ = some (.int .i64 sb) := HS_1.out.cell 0; have hs1_1 : w1.cell? ⟨w.heap.size, 1, none⟩ = some (.slice A n c) := HS_1.out.cell 1; obtain ⟨hb1_0, hb1_1, hb1_2, hb1_3, hb1_4, hb1_5, hb1_6, hb1_7, hb1_8, hb1_9⟩ := HB_1.out.box; clear hb)
        | (go_at_call 22; (with_reducible refine (refFew_is ba la fr ep pi ge se tx ct rs A1 n1 c1 _ HB_1.out.rd HFIT.out hcr HZB.out).mono ?_); rintro e w2 ⟨rfl, hb⟩; have HW_2 := Lib.hid (bel_trans HW_1.out hb); have HS_2 := Lib.hid (HS_1.out.below hb); have HR_2 := Lib.hid (rdUp HR_1.out hb); have HT_2 := Lib.hid (HT_1.out.bel hb); have HB_2 := Lib.hid (HB_1.out.below hb); have hs2_0 : w2.cell? ⟨w.heap.size, 0, none⟩ = some (.int .i64 sb) := HS_2.out.cell 0; have hs2_1 : w2.cell? ⟨w.heap.size, 1, none⟩ = some (.slice A n c) := HS_2.out.cell 1; obtain ⟨hb2_0, hb2_1, hb2_2, hb2_3, hb2_4, hb2_5, hb2_6, hb2_7, hb2_8, hb2_9⟩ := HB_2.out.box; clear hb)
        | (go_at_call 14; (with_reducible refine (few_any sb A n c none 0 0 (z := true) HFEW.out _).mono ?_); rintro e w3 ⟨rfl, hb⟩; have HW_3 := Lib.hid (bel_trans HW_2.out hb); have HS_3 := Lib.hid (HS_2.out.below hb); have HR_3 := Lib.hid (rdUp HR_2.out hb); have HT_3 := Lib.hid (HT_2.out.bel hb); have HB_3 := Lib.hid (HB_2.out.below hb); have hs3_0 : w3.cell? ⟨w.heap.size, 0, none⟩ = some (.int .i64 sb) := HS_3.out.cell 0; have hs3_1 : w3.cell? ⟨w.heap.size, 1, none⟩ = some (.slice A n c) := HS_3.out.cell 1; obtain ⟨hb3_0, hb3_1, hb3_2, hb3_3, hb3_4, hb3_5, hb3_6, hb3_7, hb3_8, hb3_9⟩ := HB_3.out.box; clear hb)
        | (go_at_call 23; (with_reducible refine (Append_is HAP.out HR_3.out hc (by omega) HI.out HFITS.out HB_3.out.rd hn10 HT_3.out).mono ?_); rintro e w4 ⟨A4, n4, c4, rfl, ho, hb⟩; have HW_4 := Lib.hid (bel_trans HW_3.out hb); have HS_4 := Lib.hid (HS_3.out.below hb); have HR_4 := Lib.hid (rdUp HR_3.out hb); have HT_4 := Lib.hid (HT_3.out.bel hb); have HB_4 := Lib.hid (HB_3.out.below hb); have hcap4 := ho.cap; have hl4 := ho.len; have hn4 : n4 ≤ 137438953472 := (by omega); have HXR_4 := Lib.hid (ho.rd); have hba := belA w4 (.cells #[.int .i64 xb, .slice A4 n4 c4] 28); have HW_4a := Lib.hid (bel_trans HW_4.out hba); have HS_4a := Lib.hid (HS_4.out.below hba); have HR_4a := Lib.hid (rdUp HR_4.out hba); have HT_4a := Lib.hid (HT_4.out.bel hba); have HB_4a := Lib.hid (HB_4.out.below hba); have HXR_4a := Lib.hid (rdUp HXR_4.out hba); have HX_4a := Lib.hid (At0.new w4 [.int .i64 xb, .slice A4 n4 c4] 28); have hs4a_0 : (w4.alloc (.cells #[.int .i64 xb, .slice A4 n4 c4] 28)).cell? ⟨w.heap.size, 0, none⟩ = some (.int .i64 sb) := HS_4a.out.cell 0; have hs4a_1 : (w4.alloc (.cells #[.int .i64 xb, .slice A4 n4 c4] 28)).cell? ⟨w.heap.size, 1, none⟩ = some (.slice A n c) := HS_4a.out.cell 1; obtain ⟨hb4a_0, hb4a_1, hb4a_2, hb4a_3, hb4a_4, hb4a_5, hb4a_6, hb4a_7, hb4a_8, hb4a_9⟩ := HB_4a.out.box; have hx4a_0 : (w4.alloc (.cells #[.int .i64 xb, .slice A4 n4 c4] 28)).cell? ⟨w4.heap.size, 0, none⟩ = some (.int .i64 xb) := HX_4a.out.cell 0; have hx4a_1 : (w4.alloc (.cells #[.int .i64 xb, .slice A4 n4 c4] 28)).cell? ⟨w4.heap.size, 1, none⟩ = some (.slice A4 n4 c4) := HX_4a.out.cell 1; clear hb hba ho)
        | (go_at_call 15; (with_reducible refine (Make_is A n c sb l every HMK.out _ HR_4a.out hc HI.out HT_4a.out).mono ?_); rintro e w5 ⟨A5, n5, c5, rfl, ho, hb⟩; have HW_5 := Lib.hid (bel_trans HW_4a.out hb); have HS_5 := Lib.hid (HS_4a.out.below hb); have HR_5 := Lib.hid (rdUp HR_4a.out hb); have HT_5 := Lib.hid (HT_4a.out.bel hb); have HB_5 := Lib.hid (HB_4a.out.below hb); have HXR_5 := Lib.hid (rdUp HXR_4a.out hb); have HX_5 := Lib.hid (HX_4a.out.below hb); have HE_5 := Lib.hid (OwnF.rd enS ho); have hcap5 := ho.cap; have HL5 := Lib.hid (ho.len enS); have hs5_0 : w5.cell? ⟨w.heap.size, 0, none⟩ = some (.int .i64 sb) := HS_5.out.cell 0; have hs5_1 : w5.cell? ⟨w.heap.size, 1, none⟩ = some (.slice A n c) := HS_5.out.cell 1; obtain ⟨hb5_0, hb5_1, hb5_2, hb5_3, hb5_4, hb5_5, hb5_6, hb5_7, hb5_8, hb5_9⟩ := HB_5.out.box; have hx5_0 : w5.cell? ⟨w4.heap.size, 0, none⟩ = some (.int .i64 xb) := HX_5.out.cell 0; have hx5_1 : w5.cell? ⟨w4.heap.size, 1, none⟩ = some (.slice A4 n4 c4) := HX_5.out.cell 1; clear hb ho))
      go_ret
      exact ⟨rfl, HW_5.out⟩
    subst hxe
    by_cases hz0 : z0 = 0
    case neg =>
      have hzF : (z0 == 0) = false := beqF hz0
      clear hap hmk hz0
      go_enter Tryd.func8, Tryd.ntmps8
      go_wp2_with (first
        | (go_at_call 9; (with_reducible refine (live8_any _ HT_0.out).mono ?_); rintro e w1 ⟨rfl, hb⟩; have HW_1 := Lib.hid (bel_trans HW_0.out hb); have HS_1 := Lib.hid (HS_0.out.below hb); have HR_1 := Lib.hid (rdUp HR_0.out hb); have HT_1 := Lib.hid (HT_0.out.bel hb); have HB_1 := Lib.hid (HB_0.out.below hb); have hs1_0 : w1.cell? ⟨w.heap.size, 0, none⟩ = some (.int .i64 sb) := HS_1.out.cell 0; have hs1_1 : w1.cell? ⟨w.heap.size, 1, none⟩ = some (.slice A n c) := HS_1.out.cell 1; obtain ⟨hb1_0, hb1_1, hb1_2, hb1_3, hb1_4, hb1_5, hb1_6, hb1_7, hb1_8, hb1_9⟩ := HB_1.out.box; clear hb)
        | (go_at_call 22; (with_reducible refine (refFew_is ba la fr ep pi ge se tx ct rs A1 n1 c1 _ HB_1.out.rd HFIT.out hcr HZB.out).mono ?_); rintro e w2 ⟨rfl, hb⟩; have HW_2 := Lib.hid (bel_trans HW_1.out hb); have HS_2 := Lib.hid (HS_1.out.below hb); have HR_2 := Lib.hid (rdUp HR_1.out hb); have HT_2 := Lib.hid (HT_1.out.bel hb); have HB_2 := Lib.hid (HB_1.out.below hb); have hs2_0 : w2.cell? ⟨w.heap.size, 0, none⟩ = some (.int .i64 sb) := HS_2.out.cell 0; have hs2_1 : w2.cell? ⟨w.heap.size, 1, none⟩ = some (.slice A n c) := HS_2.out.cell 1; obtain ⟨hb2_0, hb2_1, hb2_2, hb2_3, hb2_4, hb2_5, hb2_6, hb2_7, hb2_8, hb2_9⟩ := HB_2.out.box; clear hb)
        | (go_at_call 14; (with_reducible refine (few_any sb A n c none 0 0 (z := true) HFEW.out _).mono ?_); rintro e w3 ⟨rfl, hb⟩; have HW_3 := Lib.hid (bel_trans HW_2.out hb); have HS_3 := Lib.hid (HS_2.out.below hb); have HR_3 := Lib.hid (rdUp HR_2.out hb); have HT_3 := Lib.hid (HT_2.out.bel hb); have HB_3 := Lib.hid (HB_2.out.below hb); have hs3_0 : w3.cell? ⟨w.heap.size, 0, none⟩ = some (.int .i64 sb) := HS_3.out.cell 0; have hs3_1 : w3.cell? ⟨w.heap.size, 1, none⟩ = some (.slice A n c) := HS_3.out.cell 1; obtain ⟨hb3_0, hb3_1, hb3_2, hb3_3, hb3_4, hb3_5, hb3_6, hb3_7, hb3_8, hb3_9⟩ := HB_3.out.box; clear hb)
        | (go_at_call 23; (with_reducible refine (Append_is HAP.out HR_3.out hc (by omega) HI.out HFITS.out HB_3.out.rd hn10 HT_3.out).mono ?_); rintro e w4 ⟨A4, n4, c4, rfl, ho, hb⟩; have HW_4 := Lib.hid (bel_trans HW_3.out hb); have HS_4 := Lib.hid (HS_3.out.below hb); have HR_4 := Lib.hid (rdUp HR_3.out hb); have HT_4 := Lib.hid (HT_3.out.bel hb); have HB_4 := Lib.hid (HB_3.out.below hb); have hcap4 := ho.cap; have hl4 := ho.len; have hn4 : n4 ≤ 137438953472 := (by omega); have HXR_4 := Lib.hid (ho.rd); have hba := belA w4 (.cells #[.int .i64 xb, .slice A4 n4 c4] 28); have HW_4a := Lib.hid (bel_trans HW_4.out hba); have HS_4a := Lib.hid (HS_4.out.below hba); have HR_4a := Lib.hid (rdUp HR_4.out hba); have HT_4a := Lib.hid (HT_4.out.bel hba); have HB_4a := Lib.hid (HB_4.out.below hba); have HXR_4a := Lib.hid (rdUp HXR_4.out hba); have HX_4a := Lib.hid (At0.new w4 [.int .i64 xb, .slice A4 n4 c4] 28); have hs4a_0 : (w4.alloc (.cells #[.int .i64 xb, .slice A4 n4 c4] 28)).cell? ⟨w.heap.size, 0, none⟩ = some (.int .i64 sb) := HS_4a.out.cell 0; have hs4a_1 : (w4.alloc (.cells #[.int .i64 xb, .slice A4 n4 c4] 28)).cell? ⟨w.heap.size, 1, none⟩ = some (.slice A n c) := HS_4a.out.cell 1; obtain ⟨hb4a_0, hb4a_1, hb4a_2, hb4a_3, hb4a_4, hb4a_5, hb4a_6, hb4a_7, hb4a_8, hb4a_9⟩ := HB_4a.out.box; have hx4a_0 : (w4.alloc (.cells #[.int .i64 xb, .slice A4 n4 c4] 28)).cell? ⟨w4.heap.size, 0, none⟩ = some (.int .i64 xb) := HX_4a.out.cell 0; have hx4a_1 : (w4.alloc (.cells #[.int .i64 xb, .slice A4 n4 c4] 28)).cell? ⟨w4.heap.size, 1, none⟩ = some (.slice A4 n4 c4) := HX_4a.out.cell 1; clear hb hba ho)
        | (go_at_call 15; (with_reducible refine (Make_is A n c sb l every HMK.out _ HR_4a.out hc HI.out HT_4a.out).mono ?_); rintro e w5 ⟨A5, n5, c5, rfl, ho, hb⟩; have HW_5 := Lib.hid (bel_trans HW_4a.out hb); have HS_5 := Lib.hid (HS_4a.out.below hb); have HR_5 := Lib.hid (rdUp HR_4a.out hb); have HT_5 := Lib.hid (HT_4a.out.bel hb); have HB_5 := Lib.hid (HB_4a.out.below hb); have HXR_5 := Lib.hid (rdUp HXR_4a.out hb); have HX_5 := Lib.hid (HX_4a.out.below hb); have HE_5 := Lib.hid (OwnF.rd enS ho); have hcap5 := ho.cap; have HL5 := Lib.hid (ho.len enS); have hs5_0 : w5.cell? ⟨w.heap.size, 0, none⟩ = some (.int .i64 sb) := HS_5.out.cell 0; have hs5_1 : w5.cell? ⟨w.heap.size, 1, none⟩ = some (.slice A n c) := HS_5.out.cell 1; obtain ⟨hb5_0, hb5_1, hb5_2, hb5_3, hb5_4, hb5_5, hb5_6, hb5_7, hb5_8, hb5_9⟩ := HB_5.out.box; have hx5_0 : w5.cell? ⟨w4.heap.size, 0, none⟩ = some (.int .i64 xb) := HX_5.out.cell 0; have hx5_1 : w5.cell? ⟨w4.heap.size, 1, none⟩ = some (.slice A4 n4 c4) := HX_5.out.cell 1; clear hb ho))
      go_ret
      exact ⟨rfl, HW_5.out⟩
    subst hz0
    obtain ⟨M, hM, hMm, hck⟩ := make_next hap hmk
    have HM := Lib.hid hM
    have hIx : I64 xb := by have h6 := (apS_good hap).2.2.2.2.2.1; have h7 : xb = sb := congrArg Sg.base h6; rw [h7]; exact hi
    have hml : M.length = m0.length ∨ M.length = m0.length + 1 := by rcases hMm with h | ⟨x, h⟩ <;> (rw [h]; simp)
    have hmt : M.take m0.length = m0 := by rcases hMm with h | ⟨x, h⟩ <;> (rw [h]; simp)
    have HMT := Lib.hid hmt
    have HML := Lib.hid hml
    have hsm : m0.length ≤ 4097 := by
      have h1 := (makeX_good hmk).2.2
      have h2 := allE_right (makeX_good hmk).1
      have h3 := pick_len every (allE ⟨sb, l⟩)
      have h4 : (allE ⟨sb, l⟩).length = (batS ⟨sb, l⟩).length := ents_len _ _ _
      have h5 := byR_ge (batS ⟨sb, l⟩)
      rw [← h2.2.1] at h5
      have h6 := h2.2.2
      simp only at h5 h6
      rw [h1]
      omega
    rcases Nat.eq_zero_or_pos m0.length with hlen0 | hlenp
    · have hm0 : m0 = [] := List.length_eq_zero_iff.1 hlen0
      have hc1 : ckX ⟨xb, xs⟩ m0 = 1 := (ckX_01 _ _).resolve_left fun h => (hck.1 h) hm0
      have HCK := Lib.hid hc1
      clear hap hmk hM hMm hck hml hmt hc1
      subst hm0
      clear hlen0
      go_enter Tryd.func8, Tryd.ntmps8
      go_wp2_with (first
        | (go_at_call 9; (with_reducible refine (live8_any _ HT_0.out).mono ?_); rintro e w1 ⟨rfl, hb⟩; have HW_1 := Lib.hid (bel_trans HW_0.out hb); have HS_1 := Lib.hid (HS_0.out.below hb); have HR_1 := Lib.hid (rdUp HR_0.out hb); have HT_1 := Lib.hid (HT_0.out.bel hb); have HB_1 := Lib.hid (HB_0.out.below hb); have hs1_0 : w1.cell? ⟨w.heap.size, 0, none⟩ = some (.int .i64 sb) := HS_1.out.cell 0; have hs1_1 : w1.cell? ⟨w.heap.size, 1, none⟩ = some (.slice A n c) := HS_1.out.cell 1; obtain ⟨hb1_0, hb1_1, hb1_2, hb1_3, hb1_4, hb1_5, hb1_6, hb1_7, hb1_8, hb1_9⟩ := HB_1.out.box; clear hb)
        | (go_at_call 22; (with_reducible refine (refFew_is ba la fr ep pi ge se tx ct rs A1 n1 c1 _ HB_1.out.rd HFIT.out hcr HZB.out).mono ?_); rintro e w2 ⟨rfl, hb⟩; have HW_2 := Lib.hid (bel_trans HW_1.out hb); have HS_2 := Lib.hid (HS_1.out.below hb); have HR_2 := Lib.hid (rdUp HR_1.out hb); have HT_2 := Lib.hid (HT_1.out.bel hb); have HB_2 := Lib.hid (HB_1.out.below hb); have hs2_0 : w2.cell? ⟨w.heap.size, 0, none⟩ = some (.int .i64 sb) := HS_2.out.cell 0; have hs2_1 : w2.cell? ⟨w.heap.size, 1, none⟩ = some (.slice A n c) := HS_2.out.cell 1; obtain ⟨hb2_0, hb2_1, hb2_2, hb2_3, hb2_4, hb2_5, hb2_6, hb2_7, hb2_8, hb2_9⟩ := HB_2.out.box; clear hb)
        | (go_at_call 14; (with_reducible refine (few_any sb A n c none 0 0 (z := true) HFEW.out _).mono ?_); rintro e w3 ⟨rfl, hb⟩; have HW_3 := Lib.hid (bel_trans HW_2.out hb); have HS_3 := Lib.hid (HS_2.out.below hb); have HR_3 := Lib.hid (rdUp HR_2.out hb); have HT_3 := Lib.hid (HT_2.out.bel hb); have HB_3 := Lib.hid (HB_2.out.below hb); have hs3_0 : w3.cell? ⟨w.heap.size, 0, none⟩ = some (.int .i64 sb) := HS_3.out.cell 0; have hs3_1 : w3.cell? ⟨w.heap.size, 1, none⟩ = some (.slice A n c) := HS_3.out.cell 1; obtain ⟨hb3_0, hb3_1, hb3_2, hb3_3, hb3_4, hb3_5, hb3_6, hb3_7, hb3_8, hb3_9⟩ := HB_3.out.box; clear hb)
        | (go_at_call 23; (with_reducible refine (Append_is HAP.out HR_3.out hc (by omega) HI.out HFITS.out HB_3.out.rd hn10 HT_3.out).mono ?_); rintro e w4 ⟨A4, n4, c4, rfl, ho, hb⟩; have HW_4 := Lib.hid (bel_trans HW_3.out hb); have HS_4 := Lib.hid (HS_3.out.below hb); have HR_4 := Lib.hid (rdUp HR_3.out hb); have HT_4 := Lib.hid (HT_3.out.bel hb); have HB_4 := Lib.hid (HB_3.out.below hb); have hcap4 := ho.cap; have hl4 := ho.len; have hn4 : n4 ≤ 137438953472 := (by omega); have HXR_4 := Lib.hid (ho.rd); have hba := belA w4 (.cells #[.int .i64 xb, .slice A4 n4 c4] 28); have HW_4a := Lib.hid (bel_trans HW_4.out hba); have HS_4a := Lib.hid (HS_4.out.below hba); have HR_4a := Lib.hid (rdUp HR_4.out hba); have HT_4a := Lib.hid (HT_4.out.bel hba); have HB_4a := Lib.hid (HB_4.out.below hba); have HXR_4a := Lib.hid (rdUp HXR_4.out hba); have HX_4a := Lib.hid (At0.new w4 [.int .i64 xb, .slice A4 n4 c4] 28); have hs4a_0 : (w4.alloc (.cells #[.int .i64 xb, .slice A4 n4 c4] 28)).cell? ⟨w.heap.size, 0, none⟩ = some (.int .i64 sb) := HS_4a.out.cell 0; have hs4a_1 : (w4.alloc (.cells #[.int .i64 xb, .slice A4 n4 c4] 28)).cell? ⟨w.heap.size, 1, none⟩ = some (.slice A n c) := HS_4a.out.cell 1; obtain ⟨hb4a_0, hb4a_1, hb4a_2, hb4a_3, hb4a_4, hb4a_5, hb4a_6, hb4a_7, hb4a_8, hb4a_9⟩ := HB_4a.out.box; have hx4a_0 : (w4.alloc (.cells #[.int .i64 xb, .slice A4 n4 c4] 28)).cell? ⟨w4.heap.size, 0, none⟩ = some (.int .i64 xb) := HX_4a.out.cell 0; have hx4a_1 : (w4.alloc (.cells #[.int .i64 xb, .slice A4 n4 c4] 28)).cell? ⟨w4.heap.size, 1, none⟩ = some (.slice A4 n4 c4) := HX_4a.out.cell 1; clear hb hba ho)
        | (go_at_call 15; (with_reducible refine (Make_is A n c sb l every HMK.out _ HR_4a.out hc HI.out HT_4a.out).mono ?_); rintro e w5 ⟨A5, n5, c5, rfl, ho, hb⟩; have HW_5 := Lib.hid (bel_trans HW_4a.out hb); have HS_5 := Lib.hid (HS_4a.out.below hb); have HR_5 := Lib.hid (rdUp HR_4a.out hb); have HT_5 := Lib.hid (HT_4a.out.bel hb); have HB_5 := Lib.hid (HB_4a.out.below hb); have HXR_5 := Lib.hid (rdUp HXR_4a.out hb); have HX_5 := Lib.hid (HX_4a.out.below hb); have HE_5 := Lib.hid (OwnF.rd enS ho); have hcap5 := ho.cap; have HL5 := Lib.hid (ho.len enS); have hs5_0 : w5.cell? ⟨w.heap.size, 0, none⟩ = some (.int .i64 sb) := HS_5.out.cell 0; have hs5_1 : w5.cell? ⟨w.heap.size, 1, none⟩ = some (.slice A n c) := HS_5.out.cell 1; obtain ⟨hb5_0, hb5_1, hb5_2, hb5_3, hb5_4, hb5_5, hb5_6, hb5_7, hb5_8, hb5_9⟩ := HB_5.out.box; have hx5_0 : w5.cell? ⟨w4.heap.size, 0, none⟩ = some (.int .i64 xb) := HX_5.out.cell 0; have hx5_1 : w5.cell? ⟨w4.heap.size, 1, none⟩ = some (.slice A4 n4 c4) := HX_5.out.cell 1; obtain rfl : 0 = n5 := ho.len enS; clear hb ho)
        | (go_at_call 15; (with_reducible refine (Make_is A4 n4 c4 xb xs every HM.out _ HXR_5.out hcap4 hIx HT_5.out).mono ?_); rintro e w6 ⟨A6, n6, c6, rfl, ho, hb⟩; have HW_6 := Lib.hid (bel_trans HW_5.out hb); have HS_6 := Lib.hid (HS_5.out.below hb); have HR_6 := Lib.hid (rdUp HR_5.out hb); have HT_6 := Lib.hid (HT_5.out.bel hb); have HB_6 := Lib.hid (HB_5.out.below hb); have HXR_6 := Lib.hid (rdUp HXR_5.out hb); have HX_6 := Lib.hid (HX_5.out.below hb); have HE_6 := Lib.hid (rdeUp HE_5.out hb); have HF_6 := Lib.hid (OwnF.rd enS ho); have hcap6 := ho.cap; have HL6 := Lib.hid (ho.len enS); have hs6_0 : w6.cell? ⟨w.heap.size, 0, none⟩ = some (.int .i64 sb) := HS_6.out.cell 0; have hs6_1 : w6.cell? ⟨w.heap.size, 1, none⟩ = some (.slice A n c) := HS_6.out.cell 1; obtain ⟨hb6_0, hb6_1, hb6_2, hb6_3, hb6_4, hb6_5, hb6_6, hb6_7, hb6_8, hb6_9⟩ := HB_6.out.box; have hx6_0 : w6.cell? ⟨w4.heap.size, 0, none⟩ = some (.int .i64 xb) := HX_6.out.cell 0; have hx6_1 : w6.cell? ⟨w4.heap.size, 1, none⟩ = some (.slice A4 n4 c4) := HX_6.out.cell 1; have h65 : n6 = 0 ∨ n6 = 0 + 1 := (by have hn6 := ho.len enS; skip; rcases HML.out with h | h <;> first | omega | (simp only [List.length_nil] at h; omega)); have HRT := Lib.hid (show RdE w6 w6.heap.size A6 0 [] from RdF.nil); have g1 : decide ((n6 : Int) < 0) = false := decide_eq_false (by omega); have g2 : decide (0 + 1 < (n6 : Int)) = false := decide_eq_false (by omega); have g5 : decide ((1 : Int) < (n6 : Int)) = false := (by first | trivial | exact decide_eq_false (by omega)); have g3 : 0 ≤ n6 := (by omega); have g4 : 0 ≤ c6 := (by omega); clear h65; clear hb ho)
        | (go_at_call 24; (with_reducible refine (refSame_yes A5 0 c5 [] A6 0 c6 _ HE_6.out HRT.out (by omega)).mono ?_); rintro e w7 ⟨rfl, hb⟩; have HW_7 := Lib.hid (bel_trans HW_6.out hb); have HS_7 := Lib.hid (HS_6.out.below hb); have HR_7 := Lib.hid (rdUp HR_6.out hb); have HT_7 := Lib.hid (HT_6.out.bel hb); have HB_7 := Lib.hid (HB_6.out.below hb); have HXR_7 := Lib.hid (rdUp HXR_6.out hb); have HX_7 := Lib.hid (HX_6.out.below hb); have HE_7 := Lib.hid (rdeUp HE_6.out hb); have HF_7 := Lib.hid (rdeUp HF_6.out hb); have hs7_0 : w7.cell? ⟨w.heap.size, 0, none⟩ = some (.int .i64 sb) := HS_7.out.cell 0; have hs7_1 : w7.cell? ⟨w.heap.size, 1, none⟩ = some (.slice A n c) := HS_7.out.cell 1; obtain ⟨hb7_0, hb7_1, hb7_2, hb7_3, hb7_4, hb7_5, hb7_6, hb7_7, hb7_8, hb7_9⟩ := HB_7.out.box; have hx7_0 : w7.cell? ⟨w4.heap.size, 0, none⟩ = some (.int .i64 xb) := HX_7.out.cell 0; have hx7_1 : w7.cell? ⟨w4.heap.size, 1, none⟩ = some (.slice A4 n4 c4) := HX_7.out.cell 1; clear hb)
        | (go_at_call 21; (with_reducible refine (Check_is A4 n4 c4 xb xs A5 0 c5 [] HCK.out _ HXR_7.out hcap4 HE_7.out (by omega) hIx HT_7.out).mono ?_); rintro e w8 ⟨rfl, hb⟩; have HW_8 := Lib.hid (bel_trans HW_7.out hb); have HS_8 := Lib.hid (HS_7.out.below hb); have HR_8 := Lib.hid (rdUp HR_7.out hb); have HT_8 := Lib.hid (HT_7.out.bel hb); have HB_8 := Lib.hid (HB_7.out.below hb); have HXR_8 := Lib.hid (rdUp HXR_7.out hb); have HX_8 := Lib.hid (HX_7.out.below hb); have HE_8 := Lib.hid (rdeUp HE_7.out hb); have HF_8 := Lib.hid (rdeUp HF_7.out hb); clear hb))
      go_ret
      exact ⟨rfl, HW_8.out⟩
    · have hc1 : ckX ⟨xb, xs⟩ m0 = 0 := hck.2 fun h => by rw [h] at hlenp; simp at hlenp
      have HCK := Lib.hid hc1
      have hwr : ∀ n5 : Nat, n5 = m0.length → IntKind.i64.wrap ((n5 : Int) + 1) = (n5 : Int) + 1 := fun n5 h => IntWalk.i64_in _ (by omega)
      clear hap hmk hM hMm hck hml hmt hc1
      go_enter Tryd.func8, Tryd.ntmps8
      go_wp2_with (first
        | (go_at_call 9; (with_reducible refine (live8_any _ HT_0.out).mono ?_); rintro e w1 ⟨rfl, hb⟩; have HW_1 := Lib.hid (bel_trans HW_0.out hb); have HS_1 := Lib.hid (HS_0.out.below hb); have HR_1 := Lib.hid (rdUp HR_0.out hb); have HT_1 := Lib.hid (HT_0.out.bel hb); have HB_1 := Lib.hid (HB_0.out.below hb); have hs1_0 : w1.cell? ⟨w.heap.size, 0, none⟩ = some (.int .i64 sb) := HS_1.out.cell 0; have hs1_1 : w1.cell? ⟨w.heap.size, 1, none⟩ = some (.slice A n c) := HS_1.out.cell 1; obtain ⟨hb1_0, hb1_1, hb1_2, hb1_3, hb1_4, hb1_5, hb1_6, hb1_7, hb1_8, hb1_9⟩ := HB_1.out.box; clear hb)
        | (go_at_call 22; (with_reducible refine (refFew_is ba la fr ep pi ge se tx ct rs A1 n1 c1 _ HB_1.out.rd HFIT.out hcr HZB.out).mono ?_); rintro e w2 ⟨rfl, hb⟩; have HW_2 := Lib.hid (bel_trans HW_1.out hb); have HS_2 := Lib.hid (HS_1.out.below hb); have HR_2 := Lib.hid (rdUp HR_1.out hb); have HT_2 := Lib.hid (HT_1.out.bel hb); have HB_2 := Lib.hid (HB_1.out.below hb); have hs2_0 : w2.cell? ⟨w.heap.size, 0, none⟩ = some (.int .i64 sb) := HS_2.out.cell 0; have hs2_1 : w2.cell? ⟨w.heap.size, 1, none⟩ = some (.slice A n c) := HS_2.out.cell 1; obtain ⟨hb2_0, hb2_1, hb2_2, hb2_3, hb2_4, hb2_5, hb2_6, hb2_7, hb2_8, hb2_9⟩ := HB_2.out.box; clear hb)
        | (go_at_call 14; (with_reducible refine (few_any sb A n c none 0 0 (z := true) HFEW.out _).mono ?_); rintro e w3 ⟨rfl, hb⟩; have HW_3 := Lib.hid (bel_trans HW_2.out hb); have HS_3 := Lib.hid (HS_2.out.below hb); have HR_3 := Lib.hid (rdUp HR_2.out hb); have HT_3 := Lib.hid (HT_2.out.bel hb); have HB_3 := Lib.hid (HB_2.out.below hb); have hs3_0 : w3.cell? ⟨w.heap.size, 0, none⟩ = some (.int .i64 sb) := HS_3.out.cell 0; have hs3_1 : w3.cell? ⟨w.heap.size, 1, none⟩ = some (.slice A n c) := HS_3.out.cell 1; obtain ⟨hb3_0, hb3_1, hb3_2, hb3_3, hb3_4, hb3_5, hb3_6, hb3_7, hb3_8, hb3_9⟩ := HB_3.out.box; clear hb)
        | (go_at_call 23; (with_reducible refine (Append_is HAP.out HR_3.out hc (by omega) HI.out HFITS.out HB_3.out.rd hn10 HT_3.out).mono ?_); rintro e w4 ⟨A4, n4, c4, rfl, ho, hb⟩; have HW_4 := Lib.hid (bel_trans HW_3.out hb); have HS_4 := Lib.hid (HS_3.out.below hb); have HR_4 := Lib.hid (rdUp HR_3.out hb); have HT_4 := Lib.hid (HT_3.out.bel hb); have HB_4 := Lib.hid (HB_3.out.below hb); have hcap4 := ho.cap; have hl4 := ho.len; have hn4 : n4 ≤ 137438953472 := (by omega); have HXR_4 := Lib.hid (ho.rd); have hba := belA w4 (.cells #[.int .i64 xb, .slice A4 n4 c4] 28); have HW_4a := Lib.hid (bel_trans HW_4.out hba); have HS_4a := Lib.hid (HS_4.out.below hba); have HR_4a := Lib.hid (rdUp HR_4.out hba); have HT_4a := Lib.hid (HT_4.out.bel hba); have HB_4a := Lib.hid (HB_4.out.below hba); have HXR_4a := Lib.hid (rdUp HXR_4.out hba); have HX_4a := Lib.hid (At0.new w4 [.int .i64 xb, .slice A4 n4 c4] 28); have hs4a_0 : (w4.alloc (.cells #[.int .i64 xb, .slice A4 n4 c4] 28)).cell? ⟨w.heap.size, 0, none⟩ = some (.int .i64 sb) := HS_4a.out.cell 0; have hs4a_1 : (w4.alloc (.cells #[.int .i64 xb, .slice A4 n4 c4] 28)).cell? ⟨w.heap.size, 1, none⟩ = some (.slice A n c) := HS_4a.out.cell 1; obtain ⟨hb4a_0, hb4a_1, hb4a_2, hb4a_3, hb4a_4, hb4a_5, hb4a_6, hb4a_7, hb4a_8, hb4a_9⟩ := HB_4a.out.box; have hx4a_0 : (w4.alloc (.cells #[.int .i64 xb, .slice A4 n4 c4] 28)).cell? ⟨w4.heap.size, 0, none⟩ = some (.int .i64 xb) := HX_4a.out.cell 0; have hx4a_1 : (w4.alloc (.cells #[.int .i64 xb, .slice A4 n4 c4] 28)).cell? ⟨w4.heap.size, 1, none⟩ = some (.slice A4 n4 c4) := HX_4a.out.cell 1; clear hb hba ho)
        | (go_at_call 15; (with_reducible refine (Make_is A n c sb l every HMK.out _ HR_4a.out hc HI.out HT_4a.out).mono ?_); rintro e w5 ⟨A5, n5, c5, rfl, ho, hb⟩; have HW_5 := Lib.hid (bel_trans HW_4a.out hb); have HS_5 := Lib.hid (HS_4a.out.below hb); have HR_5 := Lib.hid (rdUp HR_4a.out hb); have HT_5 := Lib.hid (HT_4a.out.bel hb); have HB_5 := Lib.hid (HB_4a.out.below hb); have HXR_5 := Lib.hid (rdUp HXR_4a.out hb); have HX_5 := Lib.hid (HX_4a.out.below hb); have HE_5 := Lib.hid (OwnF.rd enS ho); have hcap5 := ho.cap; have HL5 := Lib.hid (ho.len enS); have hs5_0 : w5.cell? ⟨w.heap.size, 0, none⟩ = some (.int .i64 sb) := HS_5.out.cell 0; have hs5_1 : w5.cell? ⟨w.heap.size, 1, none⟩ = some (.slice A n c) := HS_5.out.cell 1; obtain ⟨hb5_0, hb5_1, hb5_2, hb5_3, hb5_4, hb5_5, hb5_6, hb5_7, hb5_8, hb5_9⟩ := HB_5.out.box; have hx5_0 : w5.cell? ⟨w4.heap.size, 0, none⟩ = some (.int .i64 xb) := HX_5.out.cell 0; have hx5_1 : w5.cell? ⟨w4.heap.size, 1, none⟩ = some (.slice A4 n4 c4) := HX_5.out.cell 1; have hn5 : n5 = m0.length := ho.len enS |>.symm; have hn5p : 0 < n5 := (by omega); have hwr5 := hwr n5 hn5; have hn5b : n5 ≤ 4097 := (by omega); have HN5 := Lib.hid hn5; clear hn5; clear hb ho)
        | (go_at_call 15; (with_reducible refine (Make_is A4 n4 c4 xb xs every HM.out _ HXR_5.out hcap4 hIx HT_5.out).mono ?_); rintro e w6 ⟨A6, n6, c6, rfl, ho, hb⟩; have HW_6 := Lib.hid (bel_trans HW_5.out hb); have HS_6 := Lib.hid (HS_5.out.below hb); have HR_6 := Lib.hid (rdUp HR_5.out hb); have HT_6 := Lib.hid (HT_5.out.bel hb); have HB_6 := Lib.hid (HB_5.out.below hb); have HXR_6 := Lib.hid (rdUp HXR_5.out hb); have HX_6 := Lib.hid (HX_5.out.below hb); have HE_6 := Lib.hid (rdeUp HE_5.out hb); have HF_6 := Lib.hid (OwnF.rd enS ho); have hcap6 := ho.cap; have HL6 := Lib.hid (ho.len enS); have hs6_0 : w6.cell? ⟨w.heap.size, 0, none⟩ = some (.int .i64 sb) := HS_6.out.cell 0; have hs6_1 : w6.cell? ⟨w.heap.size, 1, none⟩ = some (.slice A n c) := HS_6.out.cell 1; obtain ⟨hb6_0, hb6_1, hb6_2, hb6_3, hb6_4, hb6_5, hb6_6, hb6_7, hb6_8, hb6_9⟩ := HB_6.out.box; have hx6_0 : w6.cell? ⟨w4.heap.size, 0, none⟩ = some (.int .i64 xb) := HX_6.out.cell 0; have hx6_1 : w6.cell? ⟨w4.heap.size, 1, none⟩ = some (.slice A4 n4 c4) := HX_6.out.cell 1; have h65 : n6 = n5 ∨ n6 = n5 + 1 := (by have hn6 := ho.len enS; have hn5 := HN5.out; rcases HML.out with h | h <;> first | omega | (simp only [List.length_nil] at h; omega)); obtain ⟨g6, rfl, _, _⟩ := ho.form (by omega); have HRT := Lib.hid (show RdE w6 w6.heap.size (some ⟨g6, 0, none⟩) n5 m0 from (by have h := rdE_cut (OwnF.rd enS ho) (i := 0) (m := n5) (by omega) (some ⟨g6, 0, none⟩) (fun _ => by simp [Addr.add]); rw [List.drop_zero, HN5.out, HMT.out] at h; rw [HN5.out]; exact h)); have g1 : decide ((n6 : Int) < (n5 : Int)) = false := decide_eq_false (by omega); have g2 : decide ((n5 : Int) + 1 < (n6 : Int)) = false := decide_eq_false (by omega); have g5 : True := (by first | trivial | exact decide_eq_false (by omega)); have g3 : n5 ≤ n6 := (by omega); have g4 : n5 ≤ c6 := (by omega); clear h65; clear hb ho)
        | (go_at_call 24; (with_reducible refine (refSame_yes A5 n5 c5 m0 (some ⟨g6, 0, none⟩) n5 c6 _ HE_6.out HRT.out (by omega)).mono ?_); rintro e w7 ⟨rfl, hb⟩; have HW_7 := Lib.hid (bel_trans HW_6.out hb); have HS_7 := Lib.hid (HS_6.out.below hb); have HR_7 := Lib.hid (rdUp HR_6.out hb); have HT_7 := Lib.hid (HT_6.out.bel hb); have HB_7 := Lib.hid (HB_6.out.below hb); have HXR_7 := Lib.hid (rdUp HXR_6.out hb); have HX_7 := Lib.hid (HX_6.out.below hb); have HE_7 := Lib.hid (rdeUp HE_6.out hb); have HF_7 := Lib.hid (rdeUp HF_6.out hb); have hs7_0 : w7.cell? ⟨w.heap.size, 0, none⟩ = some (.int .i64 sb) := HS_7.out.cell 0; have hs7_1 : w7.cell? ⟨w.heap.size, 1, none⟩ = some (.slice A n c) := HS_7.out.cell 1; obtain ⟨hb7_0, hb7_1, hb7_2, hb7_3, hb7_4, hb7_5, hb7_6, hb7_7, hb7_8, hb7_9⟩ := HB_7.out.box; have hx7_0 : w7.cell? ⟨w4.heap.size, 0, none⟩ = some (.int .i64 xb) := HX_7.out.cell 0; have hx7_1 : w7.cell? ⟨w4.heap.size, 1, none⟩ = some (.slice A4 n4 c4) := HX_7.out.cell 1; clear hb)
        | (go_at_call 21; (with_reducible refine (Check_is A4 n4 c4 xb xs A5 n5 c5 m0 HCK.out _ HXR_7.out hcap4 HE_7.out (by omega) hIx HT_7.out).mono ?_); rintro e w8 ⟨rfl, hb⟩; have HW_8 := Lib.hid (bel_trans HW_7.out hb); have HS_8 := Lib.hid (HS_7.out.below hb); have HR_8 := Lib.hid (rdUp HR_7.out hb); have HT_8 := Lib.hid (HT_7.out.bel hb); have HB_8 := Lib.hid (HB_7.out.below hb); have HXR_8 := Lib.hid (rdUp HXR_7.out hb); have HX_8 := Lib.hid (HX_7.out.below hb); have HE_8 := Lib.hid (rdeUp HE_7.out hb); have HF_8 := Lib.hid (rdeUp HF_7.out hb); clear hb))
      go_ret
      exact ⟨rfl, HW_8.out⟩
end Go.Proofs.YtbnkfljkojhkoaaDoor.Idx

namespace Go.Proofs.YtbnkfljkojhkoaaDoor.indexGrows
open Go.ChangeShapes Go.WideShapes Go.ChangeAt Go.RowKit

theorem own : ownKnob Tryd.prog.godebug = none := by kernel_rfl
theorem laidOut : laidOutB Tryd.prog = true := by kernel_rfl

set_option maxRecDepth 100000 in
theorem lifted (os : Os) (started : os.Started) (H : Type) (enc : TypeId × Value → H) :
    ReturnsInHanded {} Tryd.checked os 8 .any (fun w args => (Rows.indexGrowsSpec.pre enc Tryd.prog Tryd.f8 [] false w args ∧ laidMetH Tryd.prog Crc.listed w) ∧ sizedMet enc Tryd.prog Tryd.f8 (OpenSpec.ofChange Rows.indexGrowsSpec) false w args)
      (Rows.indexGrowsSpec.post enc Tryd.prog Tryd.f8 false true false false) := by
  refine returnsInHanded_of_change_and (C := Tryd.checked) (X := fun w _ => laidMetH Tryd.prog Crc.listed w) (fun _ _ _ hh h => h.of_heap hh) own started (by kernel_rfl) Tryd.func8
    (ChangeSpec.witness_shaped (enc := enc) (C := Tryd.checked) (os := os) (X := fun w _ => laidMetH Tryd.prog Crc.listed w) false (World.doorLaid Tryd.prog 400 os) #[.agg #[.int .i64 0, .slice none 0 0], .agg #[.int .i64 0, .int .i64 0, .int .i64 0, .int .i64 0, .int .i64 0, .int .i64 0, .int .i64 0, .bool false, .int .i64 0, .slice none 0 0], .int .i64 0] 8 rfl (World.shaped_of_RefB (by kernel_rfl) (by kernel_rfl)) (by kernel_rfl) (by kernel_rfl) (by kernel_rfl) (Crc.door_met os _)) ?_
  intro W base args ds gs before hval0 hW _ hwt hL _
  have hval : ∀ (j : Nat) t v, Tryd.f8.params[j]? = some t → args[j]? = some v → Value.okWide Tryd.prog W .any base t v := hval0
  have hW' := hW
  obtain ⟨p, q, hA0, hV, rfl, hfz, hnd⟩ := hW
  have hA : DataW.TrodAll enc Tryd.prog W 0 (fun _ => true) true Tryd.f8.params.toList args.toList ds p := hA0
  rw [Tryd.params8] at hA hval
  obtain ⟨v0, vs0, d0, ds0, p0, q0, hargs, rfl, rfl, h0, r0⟩ := trodAll_cons hA
  obtain ⟨v1, vs1, d1, ds1, p1, q1, rfl, rfl, rfl, h1, r1⟩ := trodAll_cons r0
  obtain ⟨v2, vs2, d2, ds2, p2, q2, rfl, rfl, rfl, h2, r2⟩ := trodAll_cons r1
  obtain ⟨rfl, rfl, rfl⟩ := trodAll_nil r2
  obtain rfl : args = #[v0, v1, v2] := by cases args; simp_all
  obtain ⟨rfl, rfl⟩ := trodVars_none hV
  have k0 := h0
  have lt0 : ∀ x ∈ p0, x.block < W.heap.size := by obtain ⟨m, hm⟩ := k0; exact DataW.trod_lt m _ _ _ hm
  obtain ⟨sb_0, A_0, n_0, c_0, l_0, rfl, hi_0, hc_0, hk_0, hR_0⟩ := Seg.open_seg (hval 0 28 v0 rfl rfl) h0 (Bat.weights_arg (j := 0) hwt (by kernel_rfl) rfl)
  have k1 := h1
  have lt1 : ∀ x ∈ p1, x.block < W.heap.size := by obtain ⟨m, hm⟩ := k1; exact DataW.trod_lt m _ _ _ hm
  obtain ⟨ba_1, la_1, fr_1, ep_1, pi_1, ge_1, se_1, tx_1, ct_1, A_1, n_1, c_1, rs_1, rfl, hf_1, hc_1, hk_1, hR_1⟩ := Bat.open_batch (hval 1 38 v1 rfl rfl) h1 (Bat.weights_arg (j := 1) hwt (by kernel_rfl) rfl)
  have k2 := h2
  have lt2 : ∀ x ∈ p2, x.block < W.heap.size := by obtain ⟨m, hm⟩ := k2; exact DataW.trod_lt m _ _ _ hm
  obtain ⟨a2, rfl, hi2⟩ := Oct.open_i64 Tryd.underlying3 (hval 2 3 v2 rfl rfl) h2
  clear hA0 hval0
  refine (Idx.indexGrows_walk sb_0 A_0 n_0 c_0 l_0 ba_1 la_1 fr_1 ep_1 pi_1 ge_1 se_1 tx_1 ct_1 A_1 n_1 c_1 rs_1 a2 W hi_0 hc_0 hk_0 hR_0 hf_1 hc_1 hk_1 hR_1 hi2 (Crc.tab_of_laid hL)).mono fun e W' ⟨he, bel⟩ => ?_
  subst he
  exact ⟨_, rfl, _, _, _, [], _, [], hW', trodAll_mk1 (shut_bool Tryd.underlying4 _), (trodAll_cons_mk (Below.trod laidOut (by kernel_rfl) (of_decide_eq_true (by kernel_rfl)) k0 bel lt0) (trodAll_cons_mk (Below.trod laidOut (by kernel_rfl) (of_decide_eq_true (by kernel_rfl)) k1 bel lt1) (trodAll_cons_mk (Below.trod laidOut (by kernel_rfl) (of_decide_eq_true (by kernel_rfl)) k2 bel lt2) trodAll_mk0))), rfl, bel.frame _, fun h => by cases h⟩

theorem over : Rows.indexGrowsRow.holds Tryd.pinned (OpenSpec.ofChange Rows.indexGrowsSpec) :=
  OpenClaim.holds_of_wide 8 Tryd.f8 rfl rfl rfl rfl rfl rfl rfl ⟨rfl, rfl, rfl, rfl, rfl⟩ rfl rfl rfl rfl rfl (by kernel_rfl) Tryd.func8 (by kernel_rfl)
    (of_decide_eq_true (by kernel_rfl)) (by unfold Func.isWrapper; first | (rw [if_pos (by decide +kernel)]; kernel_rfl) | (rw [if_neg (by decide +kernel)]; exact ⟨rfl, rfl⟩))
    (fun os started H enc _ => lifted os started H enc)

theorem proved : Rows.IndexGrowsCardSaid :=
  Claim7.holds_tied_plain_at .later [] [.data] true (true, "41be7e607d66cfdd6008461b4b7c97f5871f9791b8cb61aa2317aa8070baa326") false
    over (fun _ h => by cases h) (by kernel_rfl) (fun _ h => by cases h) indexGrows_row_tie rfl ⟨rfl, rfl⟩ (by kernel_rfl) rfl
    (fun f fn hf hfn => by
      obtain rfl : f = 8 := Option.some.inj ((show Tryd.prog.funcNamed "watermeet/watermeetlaw08.IndexGrows" = some 8 by kernel_rfl).symm.trans hf) |>.symm
      obtain rfl : fn = Tryd.f8 := (Option.some.inj (Tryd.func8.symm.trans hfn)).symm
      exact ⟨by kernel_rfl, fun j t ht => by
        rw [Tryd.params8] at ht
        have hm : t ∈ [28, 38, 3] := by simpa using Array.mem_of_getElem? ht
        have hall : ([28, 38, 3].all fun u => !Tryd.prog.wantsStandIn u) = true := by kernel_rfl
        exact (show Tryd.prog.wantsStandIn t = false by simpa using List.all_eq_true.1 hall t hm)⟩)
    (by kernel_rfl)
#print axioms proved
end Go.Proofs.YtbnkfljkojhkoaaDoor.indexGrows
