/- The walks of OctetVars and OctetTexts. -/
import Derived.Test.YtjjokjgakenhlaaOctNums
namespace Go.Proofs.Ytjjokjgakenhlaa.Oct
open Go.RowKit

set_option maxRecDepth 100000 in
set_option maxHeartbeats 2000000 in
theorem octetVars_core (A : Option Addr) (n c : Nat) (l : List UInt8) (x p : Int) (w : World) (hr : Rd w w.heap.size A n l) (hc : n ≤ c) (hf : fewB n = true) (hx : -9223372036854775808 ≤ x ∧ x ≤ 9223372036854775807) (hp : p ≤ 9223372036854775807) (X Y Z : Int) (hg : gv l p = (X, Y, Z)) :
    Calls Try.prog 4 #[.slice A n c, .int .i64 x, .int .i64 p] w fun e w' => e = .returned (.bool true) ∧ Below w.heap.size w w' := by
  have hn : n ≤ 5000 := fewB_iff.1 hf
  have HR := Lib.hid hr
  have HG := Lib.hid hg
  have HX := Lib.hid hx
  have HP := Lib.hid hp
  obtain ⟨L, hL⟩ : ∃ L, L = l ++ vb (zz x) := ⟨_, rfl⟩
  have HL := Lib.hid hL
  have hs1 := sameB_self L
  have hs2 := sameB_self l
  clear hr hg hx hL hp
  go_enter Try.func4, Try.ntmps4
  go_wp2_with (first
    | (go_at_call 11; refine (live_any _).mono ?_; rintro e w1 ⟨rfl, hb1⟩)
    | (go_at_call 12; refine (few_any _ _ _ _).mono ?_; rintro e w9 ⟨rfl, rfl⟩)
    | (go_at_call 13; refine (Copy_any A n c l w.heap.size w1 (HR.out.below hb1 (Nat.le_refl _)) (by omega)).mono ?_; rintro e w2 ⟨A2, n2, c2, rfl, hown2, hb2⟩; have hb12 := bel_trans hb1 hb2)
    | (go_at_call 19; refine (GetVar_is A n c _ l w.heap.size w2 (HR.out.below hb12 (Nat.le_refl _)) (by omega) HP.out HG.out).mono ?_; rintro e w9 ⟨rfl, rfl⟩)
    | (go_at_call 20; refine (refGetVar_is A n c _ l w.heap.size w2 (HR.out.below hb12 (Nat.le_refl _)) (by omega) HP.out HG.out).mono ?_; rintro e w9 ⟨rfl, rfl⟩)
    | (go_at_call 21; refine (PutVar_any A n c x l w.heap.size w2 (HR.out.below hb12 (Nat.le_refl _)) hb12.size (by omega) HX.out.1 HX.out.2).mono ?_; rw [← HL.out]; rintro e w3 ⟨A3, n3, c3, rfl, hown3, hb3⟩; have hb13 := bel_trans hb12 hb3)
    | (go_at_call 22; refine (refPutVar_any A n c x l w.heap.size w3 (HR.out.below hb13 (Nat.le_refl _)) (by omega) HX.out.1 HX.out.2).mono ?_; rw [← HL.out]; rintro e w4 ⟨A4, n4, c4, rfl, hown4, hb4⟩; have hb14 := bel_trans hb13 hb4)
    | (go_at_call 17; refine (Same_any _ _ _ _ _ _ L L _ _ w4 (hown3.rd.below hb4 (Nat.le_refl _)) hown4.rd).mono ?_; rintro e w9 ⟨rfl, rfl⟩))
  have hn3 : n3 ≤ 6000 := by
    have a1 := hown3.len
    have a2 := HR.out.len
    have a3 := vb_ten (zz_lt HX.out)
    rw [HL.out, List.length_append] at a1
    omega
  have hs12 := hb12.size
  have hb24 := hb3.trans (hb4.mono hb3.size)
  have HOWN2 := Lib.hid hown2
  have hown3' := hown3.below hb4
  clear hown4 hown2 hb3 hb4 hown3
  go_loopw [63] (fun i wr => incRel 5 w2.heap.size A3 n3 c3 w4 i wr) (fun i _ => n3 - (intOf i).toNat)
  case atStart => exact ⟨0, rfl, Nat.zero_le _, ⟨_, hown3'⟩, Below.refl _ _⟩
  case round =>
    obtain ⟨j, rfl, hj, ⟨l', hown⟩, hb⟩ := hrel
    by_cases hlt : j < n3
    · obtain ⟨g, rfl, hg⟩ := own_form hown (by omega)
      obtain ⟨d, hcell, hfz⟩ := own_cell hown hlt
      have hd255 : d.toNat ≤ 255 := by have := d.toNat_lt; omega
      obtain ⟨hset, hbel⟩ := own_set (j := j) hown hg ((d.toNat : Int) + 1)
      have HSET := Lib.hid hset
      have HBEL := Lib.hid (hb.trans hbel)
      clear hset hbel
      go_wp2
      go_roundw
      case rel => exact ⟨j + 1, by go_num, by omega, HSET.out, HBEL.out⟩
      case measure => simp [intOf]; omega
    · go_wp2_with (go_at_call 17; refine (Same_any _ _ _ _ _ _ l l _ _ wr (HR.out.below (hb14.trans (hb.mono hs12)) (Nat.le_refl _)) (HOWN2.out.rd.below (hb24.trans hb) (Nat.le_refl _))).mono ?_; rintro e w9 ⟨rfl, rfl⟩)
      go_ret
      exact ⟨rfl, hb14.trans (hb.mono hs12)⟩

theorem octetVars_walk (A : Option Addr) (n c : Nat) (l : List UInt8) (x p : Int) (w : World) (hr : Rd w w.heap.size A n l) (hc : n ≤ c) (hx0 : -9223372036854775808 ≤ x) (hx1 : x ≤ 9223372036854775807) (hp0 : -9223372036854775808 ≤ p) (hp1 : p ≤ 9223372036854775807) :
    Calls Try.prog 4 #[.slice A n c, .int .i64 x, .int .i64 p] w fun e w' => e = .returned (.bool true) ∧ Below w.heap.size w w' := by
  by_cases hf : fewB n = true
  · exact octetVars_core A n c l x p w hr hc hf ⟨hx0, hx1⟩ hp1 _ _ _ rfl
  · have hf' : fewB n = false := by simpa using hf
    clear hf hx0 hx1 hp0 hp1 hr
    go_enter Try.func4, Try.ntmps4
    go_wp2_with (first | (go_at_call 11; refine (live_any _).mono ?_; rintro e w1 ⟨rfl, hb1⟩) | (go_at_call 12; refine (few_any _ _ _ _).mono ?_; rintro e w9 ⟨rfl, rfl⟩))
    all_goals go_ret
    all_goals exact ⟨rfl, hb1⟩

set_option maxRecDepth 100000 in
set_option maxHeartbeats 2000000 in
theorem octetTexts_core (A : Option Addr) (n c : Nat) (l : List UInt8) (s : ByteArray) (p most : Int) (w : World) (hr : Rd w w.heap.size A n l) (hc : n ≤ c) (hf : fewB n = true) (hs : s.size ≤ 5000) (hp : p ≤ 9223372036854775807) (T : ByteArray) (Y Z : Int) (hg : gx l p most = (T, Y, Z)) :
    Calls Try.prog 5 #[.slice A n c, .string s, .int .i64 p, .int .i64 most] w fun e w' => e = .returned (.bool true) ∧ Below w.heap.size w w' := by
  have hn : n ≤ 5000 := fewB_iff.1 hf
  have HR := Lib.hid hr
  have HG := Lib.hid hg
  have HP := Lib.hid hp
  obtain ⟨L, hL⟩ : ∃ L, L = l ++ vb (zz s.size) ++ s.data.toList := ⟨_, rfl⟩
  have HL := Lib.hid hL
  have hs1 := sameB_self L
  clear hr hg hL hp
  go_enter Try.func5, Try.ntmps5
  go_wp2_with (first
    | (go_at_call 11; refine (live_any _).mono ?_; rintro e w1 ⟨rfl, hb1⟩)
    | (go_at_call 12; refine (few_any _ _ _ _).mono ?_; rintro e w9 ⟨rfl, rfl⟩)
    | (go_at_call 23; refine (GetText_is A n c _ _ l w.heap.size w1 (HR.out.below hb1 (Nat.le_refl _)) hc (by omega) HP.out HG.out).mono ?_; rintro e w9 ⟨rfl, rfl⟩)
    | (go_at_call 24; refine (refGetText_is A n c _ _ l w.heap.size w1 (HR.out.below hb1 (Nat.le_refl _)) hc (by omega) HP.out HG.out).mono ?_; rintro e w9 ⟨rfl, rfl⟩)
    | (go_at_call 25; refine (PutText_any A n c s l w.heap.size w1 (HR.out.below hb1 (Nat.le_refl _)) hb1.size (by omega) (by omega)).mono ?_; rw [← HL.out]; rintro e w3 ⟨A3, n3, c3, rfl, hown3, hb3⟩; have hb13 := bel_trans hb1 hb3)
    | (go_at_call 26; refine (refPutText_any A n c s l w.heap.size w3 (HR.out.below hb13 (Nat.le_refl _)) (by omega) (by omega)).mono ?_; rw [← HL.out]; rintro e w4 ⟨A4, n4, c4, rfl, hown4, hb4⟩; have hb14 := bel_trans hb13 hb4)
    | (go_at_call 17; refine (Same_any _ _ _ _ _ _ L L _ _ w4 (hown3.rd.below hb4 (Nat.le_refl _)) hown4.rd).mono ?_; rintro e w9 ⟨rfl, rfl⟩))
  all_goals go_ret
  all_goals exact ⟨ret_bool (by first | rfl | simp), hb14⟩

theorem octetTexts_walk (A : Option Addr) (n c : Nat) (l : List UInt8) (s : ByteArray) (p most : Int) (w : World) (hr : Rd w w.heap.size A n l) (hc : n ≤ c) (hs : s.size ≤ maxLen) (hp0 : -9223372036854775808 ≤ p) (hp1 : p ≤ 9223372036854775807) (hm0 : -9223372036854775808 ≤ most) (hm1 : most ≤ 9223372036854775807) :
    Calls Try.prog 5 #[.slice A n c, .string s, .int .i64 p, .int .i64 most] w fun e w' => e = .returned (.bool true) ∧ Below w.heap.size w w' := by
  by_cases hf : fewB n = true
  · by_cases h5 : s.size ≤ 5000
    · exact octetTexts_core A n c l s p most w hr hc hf h5 hp1 _ _ _ rfl
    · have h5' : (5000 : Int) < (s.size : Int) := by omega
      clear hp0 hp1 hm0 hm1 hr hs h5
      go_enter Try.func5, Try.ntmps5
      go_wp2_with (first | (go_at_call 11; refine (live_any _).mono ?_; rintro e w1 ⟨rfl, hb1⟩) | (go_at_call 12; refine (few_any _ _ _ _).mono ?_; rintro e w9 ⟨rfl, rfl⟩))
      all_goals go_ret
      all_goals exact ⟨rfl, hb1⟩
  · have hf' : fewB n = false := by simpa using hf
    clear hf hp0 hp1 hm0 hm1 hr hs
    go_enter Try.func5, Try.ntmps5
    go_wp2_with (first | (go_at_call 11; refine (live_any _).mono ?_; rintro e w1 ⟨rfl, hb1⟩) | (go_at_call 12; refine (few_any _ _ _ _).mono ?_; rintro e w9 ⟨rfl, rfl⟩))
    all_goals go_ret
    all_goals exact ⟨rfl, hb1⟩
end Go.Proofs.Ytjjokjgakenhlaa.Oct
