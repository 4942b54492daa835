/- The walk of CrcSeals. -/
import Derived.Test.YtkpemlfblpkjoaaDoorCrcLive
import Derived.Test.YtkpemlfblpkjoaaDoorCrcRef2
import Derived.Deep.RegionHeld3
namespace Go.Proofs.YtkpemlfblpkjoaaDoor.Crc
open Go.RowKit Go.Proofs.YtkpemlfblpkjoaaDoor.Oct

set_option maxRecDepth 100000 in
set_option maxHeartbeats 2000000 in
theorem crcSeals_walk (A : Option Addr) (n c : Nat) (l : List UInt8) (w : World) (hr : Rd w w.heap.size A n l) (hc : n ≤ c) (ht : Tab w) :
    Calls Tryd.prog 4 #[.slice A n c] w fun e w' => e = .returned (.bool true) ∧ Below w.heap.size w w' := by
  have HT := Lib.hid ht
  clear ht
  have HR := Lib.hid hr
  clear hr
  by_cases hg : n ≤ 2000
  · obtain ⟨x, hx⟩ : ∃ x, x = (openB l).1 := ⟨_, rfl⟩
    obtain ⟨z, hz⟩ : ∃ z, z = (openB l).2 := ⟨_, rfl⟩
    have HO := Lib.hid (show openB l = (x, z) by rw [hx, hz])
    obtain ⟨y, hy⟩ : ∃ y, y = sealB l := ⟨_, rfl⟩
    have HY := Lib.hid hy
    have hll : (y == y) = true := by simp
    have hxx : (x == x) = true := by simp
    clear hx hz hy
    go_enter Tryd.func4, Tryd.ntmps4
    go_wp2_with (first
      | (go_at_call 12; refine (live_any _ HT.out).mono ?_; rintro e w1 ⟨rfl, hb1⟩)
      | (go_at_call 15; refine (Open_is A n c l _ _ _ w1 (HR.out.below hb1 (Nat.le_refl _)) hb1.size hc (by omega) HO.out (HT.out.bel (by assumption))).mono ?_; rintro e w2 ⟨A2, n2, c2, rfl, hown2, hb2⟩; have hb12 := bel_trans hb1 hb2)
      | (go_at_call 16; refine (refOpen_any A n c l _ w2 (HR.out.below hb12 (Nat.le_refl _)) hb12.size hc (by omega)).mono ?_; rw [HO.out]; rintro e w3 ⟨A3, n3, c3, rfl, hown3, hb3⟩; have hb13 := bel_trans hb12 hb3))
    have hr3 := Lib.hid (show Rd w3.drew w.heap.size A n l from HR.out.below (bel_drew hb13) (Nat.le_refl _))
    have hs3 := Lib.hid (show w.heap.size ≤ w3.drew.heap.size from hb13.size)
    have hb03 := Lib.hid (show Below w.heap.size w w3.drew from bel_drew hb13)
    have ho2 := Lib.hid (show OwnB w3.drew 5 w1.heap.size (.slice A2 n2 c2) n2 x from (hown2.below hb3).drew)
    have ho3 := Lib.hid (show OwnB w3.drew 5 w2.heap.size (.slice A3 n3 c3) n3 x from hown3.drew)
    clear hb13 hb12 hb1 hb2 hb3 hown2 hown3
    go_region_held (fun _ => True) (trivial) (first
      | (go_at_call 17; (with_reducible refine (Seal_any A n c l _ _ hr3.out hs3.out hc (by omega) (HT.out.bel hb03.out)).mono ?_); rw [← HY.out]; rintro e w4 ⟨A4, n4, c4, rfl, hown4, hb4⟩; have hb14 := bel_trans hb03.out hb4; have r1 := str_of w4 _ A4 n4 c4 y hown4.rd)
      | (go_at_call 18; (with_reducible refine (refSeal_any A n c l _ _ (HR.out.below hb14 (Nat.le_refl _)) hb14.size (by omega)).mono ?_); rw [← HY.out]; rintro e w5 ⟨A5, n5, c5, rfl, hown5, hb5⟩; have hb15 := bel_trans hb14 hb5; have r2 := str_of w5 _ A4 n4 c4 y (hown4.rd.below hb5 (Nat.le_refl _)); have r3 := str_of w5 _ A5 n5 c5 y hown5.rd; have r4 := str_of w5 _ A2 n2 c2 x (ho2.out.rd.below (bel_trans hb4 hb5) (Nat.le_refl _)); have r5 := str_of w5 _ A3 n3 c3 x (ho3.out.rd.below (bel_trans hb4 hb5) (Nat.le_refl _))))
    all_goals go_wp2
    all_goals go_ret
    all_goals exact ⟨ret_bool (by first | rfl | (simp; done) | (simp; omega)), hb15⟩
  · have hg1 : 2000 < n := by omega
    clear hg
    go_enter Tryd.func4, Tryd.ntmps4
    go_wp2_with (go_at_call 12; refine (live_any _ HT.out).mono ?_; rintro e w1 ⟨rfl, hb1⟩)
    go_ret
    exact ⟨rfl, hb1⟩
end Go.Proofs.YtkpemlfblpkjoaaDoor.Crc
