/- The walks of CrcTells, CrcJoins, CrcGroups, CrcBehind. -/
import Derived.Test.YtkpemlfblpkjoaaDoorCrcLive
import Derived.Test.YtkpemlfblpkjoaaDoorCrcRef2
namespace Go.Proofs.YtkpemlfblpkjoaaDoor.Crc
open Go.RowKit Go.Proofs.YtkpemlfblpkjoaaDoor.Oct

theorem crcTells_walk (A : Option Addr) (n c : Nat) (l : List UInt8) (w : World) (hr : Rd w w.heap.size A n l) (hc : n ≤ c) (ht : Tab w) :
    Calls Tryd.prog 3 #[.slice A n c] w fun e w' => e = .returned (.bool true) ∧ Below w.heap.size w w' := by
  have HT := Lib.hid ht
  clear ht
  have HR := Lib.hid hr
  clear hr
  go_enter Tryd.func3, Tryd.ntmps3
  go_wp2_with (first
    | (go_at_call 12; refine (live_any _ HT.out).mono ?_; rintro e w1 ⟨rfl, hb1⟩)
    | (go_at_call 13; refine (Sum_any A n c l w.heap.size w1 (HR.out.below hb1 (Nat.le_refl _)) hb1.size (by omega) (HT.out.bel (by assumption))).mono ?_; rintro e w2 ⟨rfl, hb2⟩; have hb12 := bel_trans hb1 hb2)
    | (go_at_call 14; refine (refSum_any A n c l w.heap.size w2 (HR.out.below hb12 (Nat.le_refl _)) (by omega)).mono ?_; rintro e w9 ⟨rfl, rfl⟩))
  all_goals go_ret
  all_goals first | exact ⟨rfl, hb1⟩ | exact ⟨ret_bool (by first | rfl | (simp; done) | (simp; omega)), hb12⟩

theorem crcJoins_walk (a b n : Int) (w : World) (ha0 : 0 ≤ a) (ha1 : a ≤ 4294967295) (hb0 : 0 ≤ b) (hb1 : b ≤ 4294967295) (hn0 : -9223372036854775808 ≤ n) (hn1 : n ≤ 9223372036854775807) (ht : Tab w) :
    Calls Tryd.prog 5 #[.int .u32 a, .int .u32 b, .int .i64 n] w fun e w' => e = .returned (.bool true) ∧ Below w.heap.size w w' := by
  have HT := Lib.hid ht
  clear ht
  obtain ⟨X, rfl⟩ : ∃ X : Nat, a = (X : Int) := ⟨a.toNat, by omega⟩
  obtain ⟨Y, rfl⟩ : ∃ X : Nat, b = (X : Int) := ⟨b.toNat, by omega⟩
  have HX := Lib.hid (show X < 4294967296 by omega)
  have HY := Lib.hid (show Y < 4294967296 by omega)
  have HN := Lib.hid (And.intro hn0 hn1)
  clear ha0 ha1 hb0 hb1 hn0 hn1
  go_enter Tryd.func5, Tryd.ntmps5
  go_wp2_with (first
    | (go_at_call 12; refine (live_any _ HT.out).mono ?_; rintro e w1 ⟨rfl, hb1⟩)
    | (go_at_call 19; refine (Join_any X Y n w1 HX.out HY.out HN.out.1 HN.out.2).mono ?_; rintro e w2 ⟨rfl, hb2⟩; have hb12 := bel_trans hb1 hb2)
    | (go_at_call 20; refine (refJoin_any X Y n w2 HX.out HY.out).mono ?_; rintro e w9 ⟨rfl, rfl⟩))
  all_goals go_ret
  all_goals exact ⟨ret_bool (by first | rfl | (simp; done) | (simp; omega)), hb12⟩

set_option maxRecDepth 100000 in
set_option maxHeartbeats 1000000 in
theorem crcBehind_walk (A : Option Addr) (n c : Nat) (l : List UInt8) (A' : Option Addr) (n' c' : Nat) (l' : List UInt8) (w : World) (hr : Rd w w.heap.size A n l) (hc : n ≤ c) (hr' : Rd w w.heap.size A' n' l') (hc' : n' ≤ c') (ht : Tab w) :
    Calls Tryd.prog 6 #[.slice A n c, .slice A' n' c'] w fun e w' => e = .returned (.bool true) ∧ Below w.heap.size w w' := by
  have HT := Lib.hid ht
  clear ht
  have hI := u8row
  have HR := Lib.hid hr
  have HR' := Lib.hid hr'
  have HS := Lib.hid (sum_lt l)
  have HS' := Lib.hid (sum_lt l')
  have HL' := Lib.hid hr'.len
  clear hr hr'
  by_cases hg : n ≤ 2000 ∧ n' ≤ 2000
  · obtain ⟨g1, g2⟩ := hg
    have HJ := Lib.hid (show sum (l ++ l') = join (sum l) (sum l') (n' : Int) by rw [sum_behind (by have := HL'.out; omega), HL'.out])
    go_enter Tryd.func6, Tryd.ntmps6
    go_wp2_with (first
      | (go_at_call 12; refine (live_any _ HT.out).mono ?_; rintro e w1 ⟨rfl, hb1⟩)
      | (at_builtin; refine wpList_app0 (w1.alloc (.cells #[] 5)) rfl _ _ 22 rfl w1.heap.size 5 Tryd.underlying22 hI _ rfl (own_lit w1 5 [] 0 rfl (by omega)) w.heap.size A n c l rfl ((HR.out.below hb1 (Nat.le_refl _)).alloc hb1.size _) (by omega) (by simp) ?_; intro A2 c2 w2 hown2 hb2; have hb12 := bel_trans hb1 (((Below.refl w1.heap.size w1).alloc (Nat.le_refl _) (.cells #[] 5)).trans hb2); have hs12 := ((Below.refl w1.heap.size w1).alloc (Nat.le_refl _) (.cells #[] 5)).trans hb2 |>.size)
      | (at_builtin; refine wpList_appB w2 rfl _ _ 22 rfl w1.heap.size 5 Tryd.underlying22 hI _ n _ rfl hown2 w.heap.size A' n' c' l' rfl (HR'.out.below hb12 (Nat.le_refl _)) (by omega) hs12 ?_; intro A3 c3 w3 hown3 hb3; have hb13 := hb12.trans (hb3.mono hb1.size))
      | (go_at_call 13; (with_reducible refine (Sum_any A3 (n + n') c3 (l ++ l') _ w3 hown3.rd (Nat.le_refl _) (by omega) (HT.out.bel (by assumption))).mono ?_); rintro e w4 ⟨rfl, hb4⟩; have hb14 := bel_trans hb13 hb4)
      | (go_at_call 13; (with_reducible refine (Sum_any A n c l _ w4 (HR.out.below hb14 (Nat.le_refl _)) hb14.size (by omega) (HT.out.bel (by assumption))).mono ?_); rintro e w5 ⟨rfl, hb5⟩; have hb15 := bel_trans hb14 hb5)
      | (go_at_call 13; (with_reducible refine (Sum_any A' n' c' l' _ w5 (HR'.out.below hb15 (Nat.le_refl _)) hb15.size (by omega) (HT.out.bel (by assumption))).mono ?_); rintro e w6 ⟨rfl, hb6⟩; have hb16 := bel_trans hb15 hb6)
      | (go_at_call 19; refine (Join_any (sum l) (sum l') n' w6 HS.out HS'.out (by omega) (by omega)).mono ?_; rw [← HJ.out]; rintro e w7 ⟨rfl, hb7⟩; have hb17 := bel_trans hb16 hb7))
    all_goals go_ret
    all_goals exact ⟨ret_bool (by first | rfl | (simp; done) | (simp; omega)), hb17⟩
  · have hg1 : 2000 < n ∨ 2000 < n' := by omega
    clear hg
    rcases hg1 with h | h
    all_goals
      go_enter Tryd.func6, Tryd.ntmps6
      go_wp2_with (go_at_call 12; refine (live_any _ HT.out).mono ?_; rintro e w1 ⟨rfl, hb1⟩)
    all_goals go_ret
    all_goals exact ⟨rfl, hb1⟩
end Go.Proofs.YtkpemlfblpkjoaaDoor.Crc
