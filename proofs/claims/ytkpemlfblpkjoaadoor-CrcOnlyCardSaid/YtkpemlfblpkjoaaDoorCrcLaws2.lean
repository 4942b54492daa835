/- The walks of CrcGroups, CrcSeals, CrcOnly. -/
import Derived.Test.YtkpemlfblpkjoaaDoorCrcLive
import Derived.Test.YtkpemlfblpkjoaaDoorCrcRef2
import Derived.Deep.RegionHeld3
namespace Go.Proofs.YtkpemlfblpkjoaaDoor.Crc
open Go.RowKit Go.Proofs.YtkpemlfblpkjoaaDoor.Oct

set_option maxRecDepth 100000 in
set_option maxHeartbeats 1000000 in
theorem crcGroups_walk (a b c n m : Int) (w : World) (ha0 : 0 ≤ a) (ha1 : a ≤ 4294967295) (hb0 : 0 ≤ b) (hb1 : b ≤ 4294967295) (hc0 : 0 ≤ c) (hc1 : c ≤ 4294967295) (hn0 : -9223372036854775808 ≤ n) (hn1 : n ≤ 9223372036854775807) (hm0 : -9223372036854775808 ≤ m) (hm1 : m ≤ 9223372036854775807) (ht : Tab w) :
    Calls Tryd.prog 7 #[.int .u32 a, .int .u32 b, .int .u32 c, .int .i64 n, .int .i64 m] w fun e w' => e = .returned (.bool true) ∧ Below w.heap.size w w' := by
  have HT := Lib.hid ht
  clear ht
  obtain ⟨X, rfl⟩ : ∃ X : Nat, a = (X : Int) := ⟨a.toNat, by omega⟩
  obtain ⟨Y, rfl⟩ : ∃ X : Nat, b = (X : Int) := ⟨b.toNat, by omega⟩
  obtain ⟨Z, rfl⟩ : ∃ X : Nat, c = (X : Int) := ⟨c.toNat, by omega⟩
  have HX := Lib.hid (show X < 4294967296 by omega)
  have HY := Lib.hid (show Y < 4294967296 by omega)
  have HZ := Lib.hid (show Z < 4294967296 by omega)
  clear ha0 ha1 hb0 hb1 hc0 hc1
  by_cases hg : 0 ≤ n ∧ 0 ≤ m ∧ n ≤ 4096 ∧ m ≤ 4096 ∧ n + m ≤ 4096
  · obtain ⟨g1, g2, g3, g4, g5⟩ := hg
    have HG := Lib.hid (join_groups (a := X) (b := Y) (c := Z) g1 g2 g5)
    have H0 := Lib.hid (join_zero (b := Y) g1 g3)
    have J1 := Lib.hid (join_lt (n := n) HX.out HY.out)
    have J2 := Lib.hid (join_lt (n := m) HY.out HZ.out)
    clear hn0 hn1 hm0 hm1
    go_enter Tryd.func7, Tryd.ntmps7
    go_wp2_with (first
      | (go_at_call 12; refine (live_any _ HT.out).mono ?_; rintro e w1 ⟨rfl, hb1⟩)
      | (go_at_call 19; (with_reducible refine (Join_any X Y n w1 HX.out HY.out (by omega) (by omega)).mono ?_); rintro e w2 ⟨rfl, hb2⟩; have hb12 := bel_trans hb1 hb2)
      | (go_at_call 19; (with_reducible refine (Join_any (join X Y n) Z m w2 J1.out HZ.out (by omega) (by omega)).mono ?_); rw [HG.out]; rintro e w3 ⟨rfl, hb3⟩; have hb13 := bel_trans hb12 hb3)
      | (go_at_call 19; (with_reducible refine (Join_any Y Z m w3 HY.out HZ.out (by omega) (by omega)).mono ?_); rintro e w4 ⟨rfl, hb4⟩; have hb14 := bel_trans hb13 hb4)
      | (go_at_call 19; (with_reducible refine (Join_any X (join Y Z m) (n + m) w4 HX.out J2.out (by omega) (by omega)).mono ?_); rintro e w5 ⟨rfl, hb5⟩; have hb15 := bel_trans hb14 hb5)
      | (go_at_call 19; refine (Join_any 0 Y n w5 (by omega) HY.out (by omega) (by omega)).mono ?_; rw [H0.out]; rintro e w6 ⟨rfl, hb6⟩; have hb16 := bel_trans hb15 hb6))
    all_goals go_ret
    all_goals exact ⟨ret_bool (by first | rfl | (simp; done) | (simp; omega)), hb16⟩
  · have hg1 : n < 0 ∨ 0 ≤ n ∧ m < 0 ∨ 0 ≤ n ∧ 0 ≤ m ∧ 4096 < n ∨ 0 ≤ n ∧ 0 ≤ m ∧ n ≤ 4096 ∧ 4096 < m ∨ 0 ≤ n ∧ 0 ≤ m ∧ n ≤ 4096 ∧ m ≤ 4096 ∧ 4096 < n + m := by omega
    clear hg
    rcases hg1 with h1 | ⟨h1, h2⟩ | ⟨h1, h2, h3⟩ | ⟨h1, h2, h3, h4⟩ | ⟨h1, h2, h3, h4, h5⟩
    all_goals
      go_enter Tryd.func7, Tryd.ntmps7
      go_wp2_with (go_at_call 12; refine (live_any _ HT.out).mono ?_; rintro e w1 ⟨rfl, hb1⟩)
    all_goals go_ret
    all_goals exact ⟨rfl, hb1⟩

set_option maxRecDepth 100000 in
set_option maxHeartbeats 2000000 in
theorem crcOnly_walk (A : Option Addr) (n c : Nat) (l : List UInt8) (w : World) (hr : Rd w w.heap.size A n l) (hc : n ≤ c) (ht : Tab w) :
    Calls Tryd.prog 9 #[.slice A n c] w fun e w' => e = .returned (.bool true) ∧ Below w.heap.size w w' := by
  have HT := Lib.hid ht
  clear ht
  have HR := Lib.hid hr
  have hl := hr.len
  clear hr
  by_cases hg : n ≤ 2000
  · rcases openB_cases l with ⟨ho, h4⟩ | ⟨ho, h4⟩ | ⟨ho, h4⟩
    · have HO := Lib.hid ho
      have h4' : (n : Int) < 4 := by omega
      clear ho hl h4
      go_enter Tryd.func9, Tryd.ntmps9
      go_wp2_with (first
        | (go_at_call 12; refine (live_any _ HT.out).mono ?_; rintro e w1 ⟨rfl, hb1⟩)
        | (go_at_call 15; refine (Open_is A n c l _ _ _ w1 (HR.out.below hb1 (Nat.le_refl _)) hb1.size hc (by omega) HO.out (HT.out.bel (by assumption))).mono ?_; rintro e w2 ⟨A2, n2, c2, rfl, hown2, hb2⟩; have hn2 : n2 = 0 := hown2.len.symm; subst hn2; have hb12 := bel_trans hb1 hb2))
      all_goals go_ret
      all_goals exact ⟨ret_bool (by first | rfl | (simp; done) | (simp; omega)), hb12⟩
    · have HO := Lib.hid ho
      have h4' : ¬ (n : Int) < 4 := by omega
      clear ho hl h4
      go_enter Tryd.func9, Tryd.ntmps9
      go_wp2_with (first
        | (go_at_call 12; refine (live_any _ HT.out).mono ?_; rintro e w1 ⟨rfl, hb1⟩)
        | (go_at_call 15; refine (Open_is A n c l _ _ _ w1 (HR.out.below hb1 (Nat.le_refl _)) hb1.size hc (by omega) HO.out (HT.out.bel (by assumption))).mono ?_; rintro e w2 ⟨A2, n2, c2, rfl, hown2, hb2⟩; have hn2 : n2 = 0 := hown2.len.symm; subst hn2; have hb12 := bel_trans hb1 hb2))
      all_goals go_ret
      all_goals exact ⟨ret_bool (by first | rfl | (simp; done) | (simp; omega)), hb12⟩
    · obtain ⟨x, hx⟩ : ∃ x, x = l.take (l.length - 4) := ⟨_, rfl⟩
      rw [← hx] at ho
      obtain ⟨hs, hxl⟩ := openB_ok ho
      have HO := Lib.hid ho
      have HSE := Lib.hid hs
      have HXL := Lib.hid hxl
      have hll : (l == l) = true := by simp
      clear ho hl h4 hx hs hxl
      go_enter Tryd.func9, Tryd.ntmps9
      go_wp2_with (first
        | (go_at_call 12; refine (live_any _ HT.out).mono ?_; rintro e w1 ⟨rfl, hb1⟩)
        | (go_at_call 15; refine (Open_is A n c l _ _ _ w1 (HR.out.below hb1 (Nat.le_refl _)) hb1.size hc (by omega) HO.out (HT.out.bel (by assumption))).mono ?_; rintro e w2 ⟨A2, n2, c2, rfl, hown2, hb2⟩; have hb12 := bel_trans hb1 hb2))
      have hn2 : n2 ≤ 2000 := by have h1 := hown2.len; have h2 := HXL.out; have h3 := HR.out.len; omega
      have r0 := str_of w2.drew _ A n c l (HR.out.below (bel_drew hb12) (Nat.le_refl _))
      go_region_with (first | (go_at_call 17; refine (Seal_any A2 n2 c2 x _ _ hown2.rd.drew (Nat.le_refl _) hown2.cap (by omega) (HT.out.bel (bel_drew hb12))).mono ?_; rw [HSE.out]; rintro e w3 ⟨A3, n3, c3, rfl, hown3, hb3⟩; have hb13 := bel_trans (bel_drew hb12) hb3; have r1 := str_of w3 _ A3 n3 c3 l hown3.rd; have r2 := str_of w3 _ A n c l (HR.out.below hb13 (Nat.le_refl _))))
      all_goals go_wp2
      all_goals go_ret
      all_goals exact ⟨ret_bool (by first | rfl | (simp; done) | (simp; omega)), hb13⟩
  · have hg1 : 2000 < n := by omega
    clear hg hl
    go_enter Tryd.func9, Tryd.ntmps9
    go_wp2_with (go_at_call 12; refine (live_any _ HT.out).mono ?_; rintro e w1 ⟨rfl, hb1⟩)
    go_ret
    exact ⟨rfl, hb1⟩

end Go.Proofs.YtkpemlfblpkjoaaDoor.Crc
