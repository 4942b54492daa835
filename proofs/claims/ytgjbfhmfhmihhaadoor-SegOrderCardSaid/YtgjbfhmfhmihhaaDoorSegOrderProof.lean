/- For any segment (at most 9,000 bytes): its batches stand in order, none below its beginning, each may be, and together they take the bytes that are told (the law answers true, and changes nothing that was there). Conditions: none.
-/
import Derived.Test.YtgjbfhmfhmihhaaDoorSegW
import Derived.Test.YtgjbfhmfhmihhaaDoorSegMathT
import Derived.Test.YtgjbfhmfhmihhaaDoorInT
import Derived.Test.YtgjbfhmfhmihhaaDoorRows
import Derived.WalkKit
import Derived.ProofKit
import Derived.OpenShut
import Derived.ChangeOld
import Derived.Below
import Derived.Carry
import Derived.Test.YtgjbfhmfhmihhaaDoorJOct
import Derived.Test.YtgjbfhmfhmihhaaDoorSegArg
import Derived.Test.YtgjbfhmfhmihhaaDoorJCrc
import Derived.Test.YtgjbfhmfhmihhaaDoorTie
import Derived.Test.YtgjbfhmfhmihhaaDoorCards
import Derived.SevenTiedAt
/- The walk of SegOrder. -/
namespace Go.Proofs.YtgjbfhmfhmihhaaDoor.Seg
open Go.RowKit Go.Proofs.YtgjbfhmfhmihhaaDoor.Oct Go.Proofs.YtgjbfhmfhmihhaaDoor.Rec Go.Proofs.YtgjbfhmfhmihhaaDoor.Crc Go.Proofs.YtgjbfhmfhmihhaaDoor.Bat Go.Proofs.YtgjbfhmfhmihhaaDoor.Lay Go.Proofs.YtgjbfhmfhmihhaaDoor.InR

def orRel (base : Int) (L : List Bt) (n : Nat) (w : World) (vn vs i : Value) (wr : World) : Prop :=
  ∃ j : Nat, i = .int .i64 (j : Int) ∧ j ≤ n ∧ vn = .int .i64 (endR base (L.take j)) ∧ vs = .int .i64 ((byR (L.take j)).length : Int) ∧ Below w.heap.size w wr
set_option maxRecDepth 100000 in
set_option maxHeartbeats 4000000 in
theorem segOrder_walk (sb : Int) (A : Option Addr) (n c : Nat) (l : List UInt8) (w : World) (hi : I64 sb) (hc : n ≤ c) (_hk : c ≤ reach) (hR : Rd w w.heap.size A n l) (ht : Tab w) :
    Calls Tryd.prog 10 #[.agg #[.int .i64 sb, .slice A n c]] w fun e w' => e = .returned (.bool true) ∧ Below w.heap.size w w' := by
  have HW_0 := Lib.hid (belA w (.cells #[.int .i64 sb, .slice A n c] 24))
  have HS_0 := Lib.hid (At0.new w [.int .i64 sb, .slice A n c] 24)
  have HR_0 := Lib.hid (rdUp hR HW_0.out)
  have HT_0 := Lib.hid (ht.bel HW_0.out)
  have hmx : Tryd.prog.follows .mixedOrders = true := by kernel_rfl
  clear hR ht
  rcases hz : decide ((n : Int) ≤ 9000) with _ | _
  · have HZ := Lib.hid hz
    clear hz
    go_enter Tryd.func10, Tryd.ntmps10
    go_wp2_with (first
      | (go_at_call 12; (with_reducible refine (live_any _ HT_0.out).mono ?_); rintro e w1 ⟨rfl, hb⟩; have HW_1 := Lib.hid (bel_trans HW_0.out hb); have HS_1 := Lib.hid (HS_0.out.below hb); have HR_1 := Lib.hid (rdUp HR_0.out hb); have HT_1 := Lib.hid (HT_0.out.bel hb); have hs1_0 : w1.cell? ⟨w.heap.size, 0, none⟩ = some (.int .i64 sb) := HS_1.out.cell 0; have hs1_1 : w1.cell? ⟨w.heap.size, 1, none⟩ = some (.slice A n c) := HS_1.out.cell 1; clear hb)
      | (go_at_call 13; (with_reducible refine (refFewS_is sb A n c _ HZ.out).mono ?_); rintro e w2 ⟨rfl, hb⟩; have HW_2 := Lib.hid (bel_trans HW_1.out hb); have HS_2 := Lib.hid (HS_1.out.below hb); have HR_2 := Lib.hid (rdUp HR_1.out hb); have HT_2 := Lib.hid (HT_1.out.bel hb); have hs2_0 : w2.cell? ⟨w.heap.size, 0, none⟩ = some (.int .i64 sb) := HS_2.out.cell 0; have hs2_1 : w2.cell? ⟨w.heap.size, 1, none⟩ = some (.slice A n c) := HS_2.out.cell 1; clear hb))
    go_ret
    exact ⟨rfl, HW_2.out⟩
  have HZ := Lib.hid hz
  have hn : n ≤ 9000 := by have := of_decide_eq_true hz; omega
  have hlen := HR_0.out.len
  clear hz
  obtain ⟨L, g, hsc⟩ : ∃ L g, sc sb l = (L, g) := ⟨_, _, rfl⟩
  have hgl : g ≤ n := by have h := (sc_good sb l).2.2.2.1; rw [hsc] at h; simp only at h; omega
  have hLl : L.length ≤ 9000 := by have h := (sc_good sb l).2.1; rw [hsc] at h; have h2 := byR_ge L; simp only at h; omega
  have HSC := Lib.hid hsc
  have HI := Lib.hid hi
  have HRI := Lib.hid (show ris sb L = true by have h := (sc_good sb l).1; rw [hsc] at h; exact h)
  have HG := Lib.hid (show g = (byR L).length by have h := (sc_good sb l).2.1; rw [hsc] at h; exact h)
  have HE := Lib.hid (show endS ⟨sb, l⟩ = endR sb L by unfold endS batS; simp only [hsc])
  clear hsc
  go_enter Tryd.func10, Tryd.ntmps10
  go_wp2_with (first
    | (go_at_call 12; (with_reducible refine (live_any _ HT_0.out).mono ?_); rintro e w1 ⟨rfl, hb⟩; have HW_1 := Lib.hid (bel_trans HW_0.out hb); have HS_1 := Lib.hid (HS_0.out.below hb); have HR_1 := Lib.hid (rdUp HR_0.out hb); have HT_1 := Lib.hid (HT_0.out.bel hb); have hs1_0 : w1.cell? ⟨w.heap.size, 0, none⟩ = some (.int .i64 sb) := HS_1.out.cell 0; have hs1_1 : w1.cell? ⟨w.heap.size, 1, none⟩ = some (.slice A n c) := HS_1.out.cell 1; clear hb)
    | (go_at_call 13; (with_reducible refine (refFewS_is sb A n c _ HZ.out).mono ?_); rintro e w2 ⟨rfl, hb⟩; have HW_2 := Lib.hid (bel_trans HW_1.out hb); have HS_2 := Lib.hid (HS_1.out.below hb); have HR_2 := Lib.hid (rdUp HR_1.out hb); have HT_2 := Lib.hid (HT_1.out.bel hb); have hs2_0 : w2.cell? ⟨w.heap.size, 0, none⟩ = some (.int .i64 sb) := HS_2.out.cell 0; have hs2_1 : w2.cell? ⟨w.heap.size, 1, none⟩ = some (.slice A n c) := HS_2.out.cell 1; clear hb)
    | (go_at_call 15; (with_reducible refine (Scan_is HSC.out HR_2.out hc (by omega) HI.out HT_2.out).mono ?_); rintro e w3 ⟨A3, n3, c3, rfl, ho, hb⟩; have HW_3 := Lib.hid (bel_trans HW_2.out hb); have HS_3 := Lib.hid (HS_2.out.below hb); have HR_3 := Lib.hid (rdUp HR_2.out hb); have HT_3 := Lib.hid (HT_2.out.bel hb); have HL_3 := Lib.hid (ho.rd); have hn3 : n3 ≤ 1099511627776 := (by have h9 := ho.len; omega); have hcap3 := ho.cap; have hll3 := ho.len; have hs3_0 : w3.cell? ⟨w.heap.size, 0, none⟩ = some (.int .i64 sb) := HS_3.out.cell 0; have hs3_1 : w3.cell? ⟨w.heap.size, 1, none⟩ = some (.slice A n c) := HS_3.out.cell 1; clear hb ho))
  go_loopw [5, 6, 23] (fun vn vs i wr => orRel sb L n3 w3 vn vs i wr) (fun _ _ i _ => n3 - (intOf i).toNat)
  case atStart => exact ⟨0, rfl, Nat.zero_le _, rfl, rfl, Below.refl _ _⟩
  case round =>
    obtain ⟨j, rfl, hj, rfl, rfl, hb⟩ := hrel
    have HBL := Lib.hid hb
    have HW_r := Lib.hid (bel_trans HW_3.out hb)
    have HS_r := Lib.hid (HS_3.out.below hb)
    have HR_r := Lib.hid (rdUp HR_3.out hb)
    have HT_r := Lib.hid (HT_3.out.bel hb)
    have HL_r := Lib.hid (rdtUp HL_3.out hb)
    clear hb
    have hw3 := HBL.out.size
    by_cases hlt : j < n3
    · skip
      obtain ⟨b, o, x, A9, n9, c9, rfl, hbl, hxk, hc9, hn9, hrd, hft, hcell⟩ := (HL_r.out).at (k := j) hlt
      obtain ⟨ba, la, fr, ep, pi, ge, se, tx, ct, rs⟩ := x
      have HFT := Lib.hid hft
      have HRD := Lib.hid hrd
      have a0 : wr.cell? ⟨b, o + j * 10, none⟩ = some (.int .i64 ba) := hcell 0 _ rfl
      have a1 : wr.cell? ⟨b, o + j * 10 + 1, none⟩ = some (.int .i64 la) := hcell 1 _ rfl
      have a2 : wr.cell? ⟨b, o + j * 10 + 2, none⟩ = some (.int .i64 fr) := hcell 2 _ rfl
      have a3 : wr.cell? ⟨b, o + j * 10 + 3, none⟩ = some (.int .i64 ep) := hcell 3 _ rfl
      have a4 : wr.cell? ⟨b, o + j * 10 + 4, none⟩ = some (.int .i64 pi) := hcell 4 _ rfl
      have a5 : wr.cell? ⟨b, o + j * 10 + 5, none⟩ = some (.int .i64 ge) := hcell 5 _ rfl
      have a6 : wr.cell? ⟨b, o + j * 10 + 6, none⟩ = some (.int .i64 se) := hcell 6 _ rfl
      have a7 : wr.cell? ⟨b, o + j * 10 + 7, none⟩ = some (.bool tx) := hcell 7 _ rfl
      have a8 : wr.cell? ⟨b, o + j * 10 + 8, none⟩ = some (.int .i64 ct) := hcell 8 _ rfl
      have a9 : wr.cell? ⟨b, o + j * 10 + 9, none⟩ = some (.slice A9 n9 c9) := hcell 9 _ rfl
      clear hcell hft hrd hbl
      obtain ⟨hch, hlo, hbl2, hla, hnx⟩ := order_at HRI.out hxk
      have hst := byR_take_succ hxk
      have hle := byR_take_le L (show j + 1 ≤ L.length by omega)
      rw [List.take_length] at hle
      have hgg := HG.out
      obtain ⟨N, hN⟩ : ∃ N, N = endR sb (L.take j) := ⟨_, rfl⟩
      obtain ⟨Z, hZ⟩ : ∃ Z, Z = (byR (L.take j)).length := ⟨_, rfl⟩
      obtain ⟨z, hz⟩ : ∃ z, z = (byB ⟨ba, la, fr, ep, pi, ge, se, tx, ct, rs⟩).length := ⟨_, rfl⟩
      rw [← hN] at hlo
      rw [← hN, ← hZ]
      rw [← hZ, ← hz] at hst
      have HNX := Lib.hid hnx
      have HST := Lib.hid hst
      have HCH := Lib.hid hch
      have HSZ := Lib.hid (show szB ⟨ba, la, fr, ep, pi, ge, se, tx, ct, rs⟩ = (z : Int) by rw [szB_ok hch, hz])
      have hzz : Z + z ≤ 9000 := by omega
      simp only at hlo hbl2 hla
      have hlow := (chB_last hch).1
      simp only at hlow
      have u1 : decide (ba < N) = false := decide_eq_false (by omega)
      have u2 : decide (la < ba) = false := decide_eq_false (by omega)
      have HB := Lib.hid (BR.new (b := ⟨ba, la, fr, ep, pi, ge, se, tx, ct, rs⟩) (c := c9) 39 HRD.out)
      have HT4 := Lib.hid (HT_r.out.alloc (.cells #[.int .i64 ba, .int .i64 la, .int .i64 fr, .int .i64 ep, .int .i64 pi, .int .i64 ge, .int .i64 se, .bool tx, .int .i64 ct, .slice A9 n9 c9] 39))
      have HW4 := Lib.hid (belA wr (.cells #[.int .i64 ba, .int .i64 la, .int .i64 fr, .int .i64 ep, .int .i64 pi, .int .i64 ge, .int .i64 se, .bool tx, .int .i64 ct, .slice A9 n9 c9] 39))
      obtain ⟨x0, x1, x2, x3, x4, x5, x6, x7, x8, x9⟩ := HB.out.box
      clear hxk hnx hst hle hgg hN hZ hz hch
      go_wp2_with (first
        | (go_at_call 35; (with_reducible refine (BCheck_is ba la fr ep pi ge se tx ct rs A9 n9 c9 _ HFT.out HB.out.rd hn9 HT4.out HCH.out).mono ?_); rintro e w5 ⟨rfl, hb5⟩; have HB5 := Lib.hid (HB.out.below hb5); have HT5 := Lib.hid (HT4.out.bel hb5); have HW5 := Lib.hid (bel_trans HW4.out hb5); obtain ⟨y0, y1, y2, y3, y4, y5, y6, y7, y8, y9⟩ := HB5.out.box; clear hb5)
        | (go_at_call 34; (with_reducible refine (BSize_is ba la fr ep pi ge se tx ct rs A9 n9 c9 _ HFT.out HB5.out.rd hn9 HT5.out HSZ.out).mono ?_); rintro e w6 ⟨rfl, hb6⟩; have HW6 := Lib.hid (bel_trans HW5.out hb6); clear hb6))
      go_roundw
      case rel => exact ⟨j + 1, by go_num, by omega, by rw [HNX.out], by rw [HST.out]; go_num, bel_trans HBL.out HW6.out⟩
      case measure => simp [intOf]; omega
    · obtain rfl : j = n3 := by omega
      have htk : L.take j = L := List.take_of_length_le (by omega)
      rw [htk, ← HG.out, ← HE.out]
      obtain ⟨E, hE⟩ : ∃ E, endS ⟨sb, l⟩ = E := ⟨_, rfl⟩
      have HEE := Lib.hid hE
      rw [hE]
      have u3 : decide ((g : Int) ≤ (n : Int)) = true := decide_eq_true (by omega)
      have hsr_0 : wr.cell? ⟨w.heap.size, 0, none⟩ = some (.int .i64 sb) := HS_r.out.cell 0
      have hsr_1 : wr.cell? ⟨w.heap.size, 1, none⟩ = some (.slice A n c) := HS_r.out.cell 1
      clear hE htk
      go_wp2_with (go_at_call 20; (with_reducible refine (End_is HEE.out HR_r.out hc (by omega) HI.out HT_r.out).mono ?_); rintro e w7 ⟨rfl, hb7⟩)
      go_ret
      exact ⟨rfl, bel_trans HW_r.out hb7⟩
end Go.Proofs.YtgjbfhmfhmihhaaDoor.Seg

namespace Go.Proofs.YtgjbfhmfhmihhaaDoor.segOrder
open Go.ChangeShapes Go.WideShapes Go.ChangeAt Go.RowKit

theorem own : ownKnob Tryd.prog.godebug = none := by kernel_rfl
theorem laidOut : laidOutB Tryd.prog = true := by kernel_rfl

set_option maxRecDepth 100000 in
theorem lifted (os : Os) (started : os.Started) (H : Type) (enc : TypeId × Value → H) :
    ReturnsInHanded {} Tryd.checked os 10 .any (fun w args => (Rows.segOrderSpec.pre enc Tryd.prog Tryd.f10 [] false w args ∧ laidMetH Tryd.prog Crc.listed w) ∧ sizedMet enc Tryd.prog Tryd.f10 (OpenSpec.ofChange Rows.segOrderSpec) false w args)
      (Rows.segOrderSpec.post enc Tryd.prog Tryd.f10 false true false false) := by
  refine returnsInHanded_of_change_and (C := Tryd.checked) (X := fun w _ => laidMetH Tryd.prog Crc.listed w) (fun _ _ _ hh h => h.of_heap hh) own started (by kernel_rfl) Tryd.func10
    (ChangeSpec.witness_shaped (enc := enc) (C := Tryd.checked) (os := os) (X := fun w _ => laidMetH Tryd.prog Crc.listed w) false (World.doorLaid Tryd.prog 400 os) #[.agg #[.int .i64 0, .slice none 0 0]] 8 rfl (World.shaped_of_RefB (by kernel_rfl) (by kernel_rfl)) (by kernel_rfl) (by kernel_rfl) (by kernel_rfl) (Crc.door_met os _)) ?_
  intro W base args ds gs before hval0 hW _ hwt hL _
  have hval : ∀ (j : Nat) t v, Tryd.f10.params[j]? = some t → args[j]? = some v → Value.okWide Tryd.prog W .any base t v := hval0
  have hW' := hW
  obtain ⟨p, q, hA0, hV, rfl, hfz, hnd⟩ := hW
  have hA : DataW.TrodAll enc Tryd.prog W 0 (fun _ => true) true Tryd.f10.params.toList args.toList ds p := hA0
  rw [Tryd.params10] at hA hval
  obtain ⟨v0, vs0, d0, ds0, p0, q0, hargs, rfl, rfl, h0, r0⟩ := trodAll_cons hA
  obtain ⟨rfl, rfl, rfl⟩ := trodAll_nil r0
  obtain rfl : args = #[v0] := by cases args; simp_all
  obtain ⟨rfl, rfl⟩ := trodVars_none hV
  have k0 := h0
  have lt0 : ∀ x ∈ p0, x.block < W.heap.size := by obtain ⟨m, hm⟩ := k0; exact DataW.trod_lt m _ _ _ hm
  obtain ⟨sb_0, A_0, n_0, c_0, l_0, rfl, hi_0, hc_0, hk_0, hR_0⟩ := Seg.open_seg (hval 0 24 v0 rfl rfl) h0 (Bat.weights_arg (j := 0) hwt (by kernel_rfl) rfl)
  clear hA0 hval0
  refine (Seg.segOrder_walk sb_0 A_0 n_0 c_0 l_0 W hi_0 hc_0 hk_0 hR_0 (Crc.tab_of_laid hL)).mono fun e W' ⟨he, bel⟩ => ?_
  subst he
  exact ⟨_, rfl, _, _, _, [], _, [], hW', trodAll_mk1 (shut_bool Tryd.underlying4 _), (trodAll_cons_mk (Below.trod laidOut (by kernel_rfl) (of_decide_eq_true (by kernel_rfl)) k0 bel lt0) trodAll_mk0), rfl, bel.frame _, fun h => by cases h⟩

theorem over : Rows.segOrderRow.holds Tryd.pinned (OpenSpec.ofChange Rows.segOrderSpec) :=
  OpenClaim.holds_of_wide 10 Tryd.f10 rfl rfl rfl rfl rfl rfl rfl ⟨rfl, rfl, rfl, rfl, rfl⟩ rfl rfl rfl rfl rfl (by kernel_rfl) Tryd.func10 (by kernel_rfl)
    (of_decide_eq_true (by kernel_rfl)) (by unfold Func.isWrapper; first | (rw [if_pos (by decide +kernel)]; kernel_rfl) | (rw [if_neg (by decide +kernel)]; exact ⟨rfl, rfl⟩))
    (fun os started H enc _ => lifted os started H enc)

theorem proved : Rows.SegOrderCardSaid :=
  Claim7.holds_tied_plain_at .later [] [.data] true (true, "8756dca365c3738ae7f7dad078bfa0200519ee75ee06b885abe2d0f8db900c1d") false
    over (fun _ h => by cases h) (by kernel_rfl) (fun _ h => by cases h) segOrder_row_tie rfl ⟨rfl, rfl⟩ (by kernel_rfl) rfl
    (fun f fn hf hfn => by
      obtain rfl : f = 10 := Option.some.inj ((show Tryd.prog.funcNamed "watermeet/watermeetlaw07.SegOrder" = some 10 by kernel_rfl).symm.trans hf) |>.symm
      obtain rfl : fn = Tryd.f10 := (Option.some.inj (Tryd.func10.symm.trans hfn)).symm
      exact ⟨by kernel_rfl, fun j t ht => by
        rw [Tryd.params10] at ht
        have hm : t ∈ [24] := by simpa using Array.mem_of_getElem? ht
        have hall : ([24].all fun u => !Tryd.prog.wantsStandIn u) = true := by kernel_rfl
        exact (show Tryd.prog.wantsStandIn t = false by simpa using List.all_eq_true.1 hall t hm)⟩)
    (by kernel_rfl)
#print axioms proved
end Go.Proofs.YtgjbfhmfhmihhaaDoor.segOrder
