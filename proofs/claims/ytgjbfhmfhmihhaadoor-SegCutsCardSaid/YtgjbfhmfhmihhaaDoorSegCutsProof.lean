/- For any segment (at most 9,000 bytes) and offset: what is left of it when it is cut are the batches that end below the offset, as many as stand ahead of the first one that does not (the law answers true, and changes nothing that was there). Conditions: none.
-/
import Derived.Test.YtgjbfhmfhmihhaaDoorSegW
import Derived.Test.YtgjbfhmfhmihhaaDoorSegMathT
import Derived.Test.YtgjbfhmfhmihhaaDoorSegSA
import Derived.Test.YtgjbfhmfhmihhaaDoorSegWC
import Derived.Test.YtgjbfhmfhmihhaaDoorInT
import Derived.Test.YtgjbfhmfhmihhaaDoorRows
import Derived.WalkKit
import Derived.ProofKit
import Derived.OpenShut
import Derived.ChangeOld
import Derived.Below
import Derived.Carry
import Derived.Test.YtgjbfhmfhmihhaaDoorJOct
import Derived.Test.YtgjbfhmfhmihhaaDoorSegArg
import Derived.Test.YtgjbfhmfhmihhaaDoorJCrc
import Derived.Test.YtgjbfhmfhmihhaaDoorTie
import Derived.Test.YtgjbfhmfhmihhaaDoorCards
import Derived.SevenTiedAt
/- The walk of SegCuts. -/
namespace Go.Proofs.YtgjbfhmfhmihhaaDoor.Seg
open Go.RowKit Go.Proofs.YtgjbfhmfhmihhaaDoor.Oct Go.Proofs.YtgjbfhmfhmihhaaDoor.Rec Go.Proofs.YtgjbfhmfhmihhaaDoor.Crc Go.Proofs.YtgjbfhmfhmihhaaDoor.Bat Go.Proofs.YtgjbfhmfhmihhaaDoor.Lay Go.Proofs.YtgjbfhmfhmihhaaDoor.InR

def cuRel (n : Nat) (w : World) (i : Value) (wr : World) : Prop := ∃ j : Nat, i = .int .i64 (j : Int) ∧ j ≤ n ∧ Below w.heap.size w wr
set_option maxRecDepth 100000 in
set_option maxHeartbeats 4000000 in
theorem segCuts_walk (sb : Int) (A : Option Addr) (n c : Nat) (l : List UInt8) (off : Int) (w : World) (hi : I64 sb) (hc : n ≤ c) (_hk : c ≤ reach) (hR : Rd w w.heap.size A n l) (_ho : I64 off) (ht : Tab w) :
    Calls Tryd.prog 9 #[.agg #[.int .i64 sb, .slice A n c], .int .i64 off] w fun e w' => e = .returned (.bool true) ∧ Below w.heap.size w w' := by
  have HW_0 := Lib.hid (belA w (.cells #[.int .i64 sb, .slice A n c] 24))
  have HS_0 := Lib.hid (At0.new w [.int .i64 sb, .slice A n c] 24)
  have HR_0 := Lib.hid (rdUp hR HW_0.out)
  have HT_0 := Lib.hid (ht.bel HW_0.out)
  have hmx : Tryd.prog.follows .mixedOrders = true := by kernel_rfl
  clear hR ht
  rcases hz : decide ((n : Int) ≤ 9000) with _ | _
  · have HZ := Lib.hid hz
    clear hz
    go_enter Tryd.func9, Tryd.ntmps9
    go_wp2_with (first
      | (go_at_call 12; (with_reducible refine (live_any _ HT_0.out).mono ?_); rintro e w1 ⟨rfl, hb⟩; have HW_1 := Lib.hid (bel_trans HW_0.out hb); have HS_1 := Lib.hid (HS_0.out.below hb); have HR_1 := Lib.hid (rdUp HR_0.out hb); have HT_1 := Lib.hid (HT_0.out.bel hb); have hs1_0 : w1.cell? ⟨w.heap.size, 0, none⟩ = some (.int .i64 sb) := HS_1.out.cell 0; have hs1_1 : w1.cell? ⟨w.heap.size, 1, none⟩ = some (.slice A n c) := HS_1.out.cell 1; clear hb)
      | (go_at_call 13; (with_reducible refine (refFewS_is sb A n c _ HZ.out).mono ?_); rintro e w2 ⟨rfl, hb⟩; have HW_2 := Lib.hid (bel_trans HW_1.out hb); have HS_2 := Lib.hid (HS_1.out.below hb); have HR_2 := Lib.hid (rdUp HR_1.out hb); have HT_2 := Lib.hid (HT_1.out.bel hb); have hs2_0 : w2.cell? ⟨w.heap.size, 0, none⟩ = some (.int .i64 sb) := HS_2.out.cell 0; have hs2_1 : w2.cell? ⟨w.heap.size, 1, none⟩ = some (.slice A n c) := HS_2.out.cell 1; clear hb))
    go_ret
    exact ⟨rfl, HW_2.out⟩
  have HZ := Lib.hid hz
  have hn : n ≤ 9000 := by have := of_decide_eq_true hz; omega
  have hlen := HR_0.out.len
  clear hz
  obtain ⟨L, g, hsc⟩ : ∃ L g, sc sb l = (L, g) := ⟨_, _, rfl⟩
  have hgl : g ≤ n := by have h := (sc_good sb l).2.2.2.1; rw [hsc] at h; simp only at h; omega
  have hLl : L.length ≤ 9000 := by have h := (sc_good sb l).2.1; rw [hsc] at h; have h2 := byR_ge L; simp only at h; omega
  have HSC := Lib.hid hsc
  have HI := Lib.hid hi
  obtain ⟨m, hmL, hcut, hall, hnext⟩ := cut_all sb off l
  rw [hsc] at hmL hcut hall hnext
  simp only at hmL hcut hall hnext
  rcases hcs : cutS ⟨sb, l⟩ off with ⟨xb, xs⟩
  obtain rfl : sb = xb := congrArg Sg.base hcs
  rw [hcs] at hcut
  simp only at hcut
  have hxl : xs.length ≤ 9000 := by have h := (sc_good sb l).2.1; rw [hsc] at h; simp only at h; have h2 := (sc_good sb xs).2.1; rw [hcut] at h2; simp only at h2; have h3 := byR_take_le L hmL; rw [List.take_length] at h3; omega
  have HCS := Lib.hid hcs
  have HCUT := Lib.hid hcut
  have HALL := Lib.hid hall
  have HNEXT := Lib.hid hnext
  obtain ⟨X, hX⟩ : ∃ X, X = xs.length := ⟨_, rfl⟩
  rw [← hX] at HCUT hxl
  have HXL := Lib.hid hX
  have HTT := Lib.hid (eqT_self (L.take m))
  have hml : (L.take m).length = m := by rw [List.length_take]; omega
  clear hsc hcut hall hnext hcs hX
  go_enter Tryd.func9, Tryd.ntmps9
  have hxl9 : X ≤ 137438953472 := by omega
  have u1 : decide ((L.length : Int) < (m : Int)) = false := decide_eq_false (by omega)
  have hm2 : (m : Int) ≤ (L.length : Int) := by omega
  go_wp2_with (first
    | (go_at_call 12; (with_reducible refine (live_any _ HT_0.out).mono ?_); rintro e w1 ⟨rfl, hb⟩; have HW_1 := Lib.hid (bel_trans HW_0.out hb); have HS_1 := Lib.hid (HS_0.out.below hb); have HR_1 := Lib.hid (rdUp HR_0.out hb); have HT_1 := Lib.hid (HT_0.out.bel hb); have hs1_0 : w1.cell? ⟨w.heap.size, 0, none⟩ = some (.int .i64 sb) := HS_1.out.cell 0; have hs1_1 : w1.cell? ⟨w.heap.size, 1, none⟩ = some (.slice A n c) := HS_1.out.cell 1; clear hb)
    | (go_at_call 13; (with_reducible refine (refFewS_is sb A n c _ HZ.out).mono ?_); rintro e w2 ⟨rfl, hb⟩; have HW_2 := Lib.hid (bel_trans HW_1.out hb); have HS_2 := Lib.hid (HS_1.out.below hb); have HR_2 := Lib.hid (rdUp HR_1.out hb); have HT_2 := Lib.hid (HT_1.out.bel hb); have hs2_0 : w2.cell? ⟨w.heap.size, 0, none⟩ = some (.int .i64 sb) := HS_2.out.cell 0; have hs2_1 : w2.cell? ⟨w.heap.size, 1, none⟩ = some (.slice A n c) := HS_2.out.cell 1; clear hb)
    | (go_at_call 15; (with_reducible refine (Scan_is HSC.out HR_2.out hc (by omega) HI.out HT_2.out).mono ?_); rintro e w3 ⟨A3, n3, c3, rfl, ho, hb⟩; have HW_3 := Lib.hid (bel_trans HW_2.out hb); have HS_3 := Lib.hid (HS_2.out.below hb); have HR_3 := Lib.hid (rdUp HR_2.out hb); have HT_3 := Lib.hid (HT_2.out.bel hb); have HL_3 := Lib.hid (ho.rd); have hn3 : n3 ≤ 1099511627776 := (by have h9 := ho.len; omega); have hcap3 := ho.cap; obtain rfl : n3 = L.length := ho.len.symm; have hs3_0 : w3.cell? ⟨w.heap.size, 0, none⟩ = some (.int .i64 sb) := HS_3.out.cell 0; have hs3_1 : w3.cell? ⟨w.heap.size, 1, none⟩ = some (.slice A n c) := HS_3.out.cell 1; clear hb ho)
    | (go_at_call 32; (with_reducible refine (Cut_is HCS.out HR_3.out hc (by omega) HI.out HT_3.out).mono ?_); rintro e w4 ⟨A4, n4, c4, rfl, ho, hb⟩; have HW_4 := Lib.hid (bel_trans HW_3.out hb); have HS_4 := Lib.hid (HS_3.out.below hb); have HR_4 := Lib.hid (rdUp HR_3.out hb); have HT_4 := Lib.hid (HT_3.out.bel hb); have HL_4 := Lib.hid (rdtUp HL_3.out hb); have hcapX := ho.cap; obtain rfl : X = n4 := HXL.out.trans ho.len; have hX : X ≤ 137438953472 := (by omega); have HXR_4 := Lib.hid (ho.rd); have hba := belA w4 (.cells #[.int .i64 sb, .slice A4 X c4] 24); have HW_4a := Lib.hid (bel_trans HW_4.out hba); have HS_4a := Lib.hid (HS_4.out.below hba); have HR_4a := Lib.hid (rdUp HR_4.out hba); have HT_4a := Lib.hid (HT_4.out.bel hba); have HL_4a := Lib.hid (rdtUp HL_4.out hba); have HXR_4a := Lib.hid (rdUp HXR_4.out hba); have HX_4a := Lib.hid (At0.new w4 [.int .i64 sb, .slice A4 X c4] 24); have hs4a_0 : (w4.alloc (.cells #[.int .i64 sb, .slice A4 X c4] 24)).cell? ⟨w.heap.size, 0, none⟩ = some (.int .i64 sb) := HS_4a.out.cell 0; have hs4a_1 : (w4.alloc (.cells #[.int .i64 sb, .slice A4 X c4] 24)).cell? ⟨w.heap.size, 1, none⟩ = some (.slice A n c) := HS_4a.out.cell 1; have hx4a_0 : (w4.alloc (.cells #[.int .i64 sb, .slice A4 X c4] 24)).cell? ⟨w4.heap.size, 0, none⟩ = some (.int .i64 sb) := HX_4a.out.cell 0; have hx4a_1 : (w4.alloc (.cells #[.int .i64 sb, .slice A4 X c4] 24)).cell? ⟨w4.heap.size, 1, none⟩ = some (.slice A4 X c4) := HX_4a.out.cell 1; clear hb hba ho)
    | (go_at_call 15; (with_reducible refine (Scan_is HCUT.out HXR_4a.out hcapX hxl9 HI.out HT_4a.out).mono ?_); rintro e w5 ⟨A5, n5, c5, rfl, ho, hb⟩; have HW_5 := Lib.hid (bel_trans HW_4a.out hb); have HS_5 := Lib.hid (HS_4a.out.below hb); have HR_5 := Lib.hid (rdUp HR_4a.out hb); have HT_5 := Lib.hid (HT_4a.out.bel hb); have HL_5 := Lib.hid (rdtUp HL_4a.out hb); have HXR_5 := Lib.hid (rdUp HXR_4a.out hb); have HX_5 := Lib.hid (HX_4a.out.below hb); have HM_5 := Lib.hid (ho.rd); obtain rfl : m = n5 := (hml.symm.trans ho.len); have hm : m ≤ 1099511627776 := (by have h9 := ho.len; omega); have hcap5 := ho.cap; have hs5_0 : w5.cell? ⟨w.heap.size, 0, none⟩ = some (.int .i64 sb) := HS_5.out.cell 0; have hs5_1 : w5.cell? ⟨w.heap.size, 1, none⟩ = some (.slice A n c) := HS_5.out.cell 1; have hx5_0 : w5.cell? ⟨w4.heap.size, 0, none⟩ = some (.int .i64 sb) := HX_5.out.cell 0; have hx5_1 : w5.cell? ⟨w4.heap.size, 1, none⟩ = some (.slice A4 X c4) := HX_5.out.cell 1; clear hb ho)
    | (go_at_call 19; (with_reducible refine (SameAll_is A5 A3 m c5 m c3 (L.take m) (L.take m) _ HM_5.out (HL_5.out.take hmL) (by omega) (by omega) HTT.out).mono ?_); rintro e w6 ⟨rfl, hb⟩; have HW_6 := Lib.hid (bel_trans HW_5.out hb); have HS_6 := Lib.hid (HS_5.out.below hb); have HR_6 := Lib.hid (rdUp HR_5.out hb); have HT_6 := Lib.hid (HT_5.out.bel hb); have HL_6 := Lib.hid (rdtUp HL_5.out hb); have HXR_6 := Lib.hid (rdUp HXR_5.out hb); have HX_6 := Lib.hid (HX_5.out.below hb); have HM_6 := Lib.hid (rdtUp HM_5.out hb); have hx6_0 : w6.cell? ⟨w4.heap.size, 0, none⟩ = some (.int .i64 sb) := HX_6.out.cell 0; have hx6_1 : w6.cell? ⟨w4.heap.size, 1, none⟩ = some (.slice A4 X c4) := HX_6.out.cell 1; have hs6_0 : w6.cell? ⟨w.heap.size, 0, none⟩ = some (.int .i64 sb) := HS_6.out.cell 0; have hs6_1 : w6.cell? ⟨w.heap.size, 1, none⟩ = some (.slice A n c) := HS_6.out.cell 1; clear hb))
  go_wp2
  go_loopw [60] (fun i wr => cuRel m w6 i wr) (fun i _ => m - (intOf i).toNat)
  case atStart => exact ⟨0, rfl, Nat.zero_le _, Below.refl _ _⟩
  case round =>
    obtain ⟨j, rfl, hj, hb⟩ := hrel
    have HBL := Lib.hid hb
    have HW_r := Lib.hid (bel_trans HW_6.out hb)
    have HS_r := Lib.hid (HS_6.out.below hb)
    have HR_r := Lib.hid (rdUp HR_6.out hb)
    have HT_r := Lib.hid (HT_6.out.bel hb)
    have HL_r := Lib.hid (rdtUp HL_6.out hb)
    have HXR_r := Lib.hid (rdUp HXR_6.out hb)
    have HX_r := Lib.hid (HX_6.out.below hb)
    have HM_r := Lib.hid (rdtUp HM_6.out hb)
    clear hb
    by_cases hlt : j < m
    · skip
      obtain ⟨b, o, x, A9, n9, c9, rfl, hbl, hxk, hc9, hn9, hrd, hft, hcell⟩ := (HM_r.out).at (k := j) hlt
      obtain ⟨ba, la, fr, ep, pi, ge, se, tx, ct, rs⟩ := x
      have HFT := Lib.hid hft
      have HRD := Lib.hid hrd
      have a0 : wr.cell? ⟨b, o + j * 10, none⟩ = some (.int .i64 ba) := hcell 0 _ rfl
      have a1 : wr.cell? ⟨b, o + j * 10 + 1, none⟩ = some (.int .i64 la) := hcell 1 _ rfl
      have a2 : wr.cell? ⟨b, o + j * 10 + 2, none⟩ = some (.int .i64 fr) := hcell 2 _ rfl
      have a3 : wr.cell? ⟨b, o + j * 10 + 3, none⟩ = some (.int .i64 ep) := hcell 3 _ rfl
      have a4 : wr.cell? ⟨b, o + j * 10 + 4, none⟩ = some (.int .i64 pi) := hcell 4 _ rfl
      have a5 : wr.cell? ⟨b, o + j * 10 + 5, none⟩ = some (.int .i64 ge) := hcell 5 _ rfl
      have a6 : wr.cell? ⟨b, o + j * 10 + 6, none⟩ = some (.int .i64 se) := hcell 6 _ rfl
      have a7 : wr.cell? ⟨b, o + j * 10 + 7, none⟩ = some (.bool tx) := hcell 7 _ rfl
      have a8 : wr.cell? ⟨b, o + j * 10 + 8, none⟩ = some (.int .i64 ct) := hcell 8 _ rfl
      have a9 : wr.cell? ⟨b, o + j * 10 + 9, none⟩ = some (.slice A9 n9 c9) := hcell 9 _ rfl
      clear hcell hft hrd hbl
      have hlast := HALL.out _ (List.mem_of_getElem? hxk)
      simp only at hlast
      have u2 : decide (off ≤ la) = false := decide_eq_false (by omega)
      have u3 : ¬ off ≤ la := by omega
      clear hxk hlast
      go_wp2
      go_roundw
      case rel => exact ⟨j + 1, by go_num, by omega, bel_trans HBL.out (belA _ _)⟩
      case measure => simp [intOf]; omega
    · obtain rfl : j = m := by omega
      by_cases heq : j = L.length
      · have u4 : ((j : Int) == (L.length : Int)) = true := by simp [heq]
        go_wp2
        go_ret
        exact ⟨rfl, HW_r.out⟩
      · have u4 : ((j : Int) == (L.length : Int)) = false := beq_false_of_ne (by omega)
        have hlt : j < L.length := by omega
        obtain ⟨y, hy, hoff⟩ := HNEXT.out hlt
        obtain ⟨b, o, x, A9, n9, c9, rfl, hbl, hxk, hc9, hn9, hrd, hft, hcell⟩ := (HL_r.out).at (k := j) hlt
        obtain ⟨ba, la, fr, ep, pi, ge, se, tx, ct, rs⟩ := x
        have HFT := Lib.hid hft
        have HRD := Lib.hid hrd
        have a0 : wr.cell? ⟨b, o + j * 10, none⟩ = some (.int .i64 ba) := hcell 0 _ rfl
        have a1 : wr.cell? ⟨b, o + j * 10 + 1, none⟩ = some (.int .i64 la) := hcell 1 _ rfl
        have a2 : wr.cell? ⟨b, o + j * 10 + 2, none⟩ = some (.int .i64 fr) := hcell 2 _ rfl
        have a3 : wr.cell? ⟨b, o + j * 10 + 3, none⟩ = some (.int .i64 ep) := hcell 3 _ rfl
        have a4 : wr.cell? ⟨b, o + j * 10 + 4, none⟩ = some (.int .i64 pi) := hcell 4 _ rfl
        have a5 : wr.cell? ⟨b, o + j * 10 + 5, none⟩ = some (.int .i64 ge) := hcell 5 _ rfl
        have a6 : wr.cell? ⟨b, o + j * 10 + 6, none⟩ = some (.int .i64 se) := hcell 6 _ rfl
        have a7 : wr.cell? ⟨b, o + j * 10 + 7, none⟩ = some (.bool tx) := hcell 7 _ rfl
        have a8 : wr.cell? ⟨b, o + j * 10 + 8, none⟩ = some (.int .i64 ct) := hcell 8 _ rfl
        have a9 : wr.cell? ⟨b, o + j * 10 + 9, none⟩ = some (.slice A9 n9 c9) := hcell 9 _ rfl
        clear hcell hft hrd hbl
        rw [hy] at hxk
        obtain rfl := Option.some.inj hxk
        simp only at hoff
        have u5 : decide (off ≤ la) = true := decide_eq_true hoff
        clear hy hxk
        go_wp2
        go_ret
        exact ⟨rfl, HW_r.out⟩
end Go.Proofs.YtgjbfhmfhmihhaaDoor.Seg

namespace Go.Proofs.YtgjbfhmfhmihhaaDoor.segCuts
open Go.ChangeShapes Go.WideShapes Go.ChangeAt Go.RowKit

theorem own : ownKnob Tryd.prog.godebug = none := by kernel_rfl
theorem laidOut : laidOutB Tryd.prog = true := by kernel_rfl

set_option maxRecDepth 100000 in
theorem lifted (os : Os) (started : os.Started) (H : Type) (enc : TypeId × Value → H) :
    ReturnsInHanded {} Tryd.checked os 9 .any (fun w args => (Rows.segCutsSpec.pre enc Tryd.prog Tryd.f9 [] false w args ∧ laidMetH Tryd.prog Crc.listed w) ∧ sizedMet enc Tryd.prog Tryd.f9 (OpenSpec.ofChange Rows.segCutsSpec) false w args)
      (Rows.segCutsSpec.post enc Tryd.prog Tryd.f9 false true false false) := by
  refine returnsInHanded_of_change_and (C := Tryd.checked) (X := fun w _ => laidMetH Tryd.prog Crc.listed w) (fun _ _ _ hh h => h.of_heap hh) own started (by kernel_rfl) Tryd.func9
    (ChangeSpec.witness_shaped (enc := enc) (C := Tryd.checked) (os := os) (X := fun w _ => laidMetH Tryd.prog Crc.listed w) false (World.doorLaid Tryd.prog 400 os) #[.agg #[.int .i64 0, .slice none 0 0], .int .i64 0] 8 rfl (World.shaped_of_RefB (by kernel_rfl) (by kernel_rfl)) (by kernel_rfl) (by kernel_rfl) (by kernel_rfl) (Crc.door_met os _)) ?_
  intro W base args ds gs before hval0 hW _ hwt hL _
  have hval : ∀ (j : Nat) t v, Tryd.f9.params[j]? = some t → args[j]? = some v → Value.okWide Tryd.prog W .any base t v := hval0
  have hW' := hW
  obtain ⟨p, q, hA0, hV, rfl, hfz, hnd⟩ := hW
  have hA : DataW.TrodAll enc Tryd.prog W 0 (fun _ => true) true Tryd.f9.params.toList args.toList ds p := hA0
  rw [Tryd.params9] at hA hval
  obtain ⟨v0, vs0, d0, ds0, p0, q0, hargs, rfl, rfl, h0, r0⟩ := trodAll_cons hA
  obtain ⟨v1, vs1, d1, ds1, p1, q1, rfl, rfl, rfl, h1, r1⟩ := trodAll_cons r0
  obtain ⟨rfl, rfl, rfl⟩ := trodAll_nil r1
  obtain rfl : args = #[v0, v1] := by cases args; simp_all
  obtain ⟨rfl, rfl⟩ := trodVars_none hV
  have k0 := h0
  have lt0 : ∀ x ∈ p0, x.block < W.heap.size := by obtain ⟨m, hm⟩ := k0; exact DataW.trod_lt m _ _ _ hm
  obtain ⟨sb_0, A_0, n_0, c_0, l_0, rfl, hi_0, hc_0, hk_0, hR_0⟩ := Seg.open_seg (hval 0 24 v0 rfl rfl) h0 (Bat.weights_arg (j := 0) hwt (by kernel_rfl) rfl)
  have k1 := h1
  have lt1 : ∀ x ∈ p1, x.block < W.heap.size := by obtain ⟨m, hm⟩ := k1; exact DataW.trod_lt m _ _ _ hm
  obtain ⟨a1, rfl, hi1⟩ := Oct.open_i64 Tryd.underlying3 (hval 1 3 v1 rfl rfl) h1
  clear hA0 hval0
  refine (Seg.segCuts_walk sb_0 A_0 n_0 c_0 l_0 a1 W hi_0 hc_0 hk_0 hR_0 hi1 (Crc.tab_of_laid hL)).mono fun e W' ⟨he, bel⟩ => ?_
  subst he
  exact ⟨_, rfl, _, _, _, [], _, [], hW', trodAll_mk1 (shut_bool Tryd.underlying4 _), (trodAll_cons_mk (Below.trod laidOut (by kernel_rfl) (of_decide_eq_true (by kernel_rfl)) k0 bel lt0) (trodAll_cons_mk (Below.trod laidOut (by kernel_rfl) (of_decide_eq_true (by kernel_rfl)) k1 bel lt1) trodAll_mk0)), rfl, bel.frame _, fun h => by cases h⟩

theorem over : Rows.segCutsRow.holds Tryd.pinned (OpenSpec.ofChange Rows.segCutsSpec) :=
  OpenClaim.holds_of_wide 9 Tryd.f9 rfl rfl rfl rfl rfl rfl rfl ⟨rfl, rfl, rfl, rfl, rfl⟩ rfl rfl rfl rfl rfl (by kernel_rfl) Tryd.func9 (by kernel_rfl)
    (of_decide_eq_true (by kernel_rfl)) (by unfold Func.isWrapper; first | (rw [if_pos (by decide +kernel)]; kernel_rfl) | (rw [if_neg (by decide +kernel)]; exact ⟨rfl, rfl⟩))
    (fun os started H enc _ => lifted os started H enc)

theorem proved : Rows.SegCutsCardSaid :=
  Claim7.holds_tied_plain_at .later [] [.data] true (true, "8756dca365c3738ae7f7dad078bfa0200519ee75ee06b885abe2d0f8db900c1d") false
    over (fun _ h => by cases h) (by kernel_rfl) (fun _ h => by cases h) segCuts_row_tie rfl ⟨rfl, rfl⟩ (by kernel_rfl) rfl
    (fun f fn hf hfn => by
      obtain rfl : f = 9 := Option.some.inj ((show Tryd.prog.funcNamed "watermeet/watermeetlaw07.SegCuts" = some 9 by kernel_rfl).symm.trans hf) |>.symm
      obtain rfl : fn = Tryd.f9 := (Option.some.inj (Tryd.func9.symm.trans hfn)).symm
      exact ⟨by kernel_rfl, fun j t ht => by
        rw [Tryd.params9] at ht
        have hm : t ∈ [24, 3] := by simpa using Array.mem_of_getElem? ht
        have hall : ([24, 3].all fun u => !Tryd.prog.wantsStandIn u) = true := by kernel_rfl
        exact (show Tryd.prog.wantsStandIn t = false by simpa using List.all_eq_true.1 hall t hm)⟩)
    (by kernel_rfl)
#print axioms proved
end Go.Proofs.YtgjbfhmfhmihhaaDoor.segCuts
