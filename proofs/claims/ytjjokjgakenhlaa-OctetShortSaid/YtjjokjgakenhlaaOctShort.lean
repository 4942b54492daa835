/- The walk of OctetShort. -/
import Derived.Test.YtjjokjgakenhlaaOctBack
namespace Go.Proofs.Ytjjokjgakenhlaa.Oct
open Go.RowKit

theorem short_get (l : List UInt8) (j K : Nat) (h1 : 1 ≤ K) (h8 : K ≤ 8) (hl : l.length = K) (hj : j < K) : gt (l.take j) 0 (K : Int) = (0, 10) := by
  unfold gt
  have hw : isW (K : Int) = true := by simp [isW]; omega
  have hh : hasB (l.take j).length 0 (K : Int) = false := by rw [List.length_take]; simp [hasB]; omega
  rw [if_neg (by simp [hw]), if_pos hh]
theorem short_var (m : Int) (j : Nat) (hm : -9223372036854775808 ≤ m ∧ m ≤ 9223372036854775807) (hj : j < (vb (zz m)).length) : gv ((vb (zz m)).take j) 0 = (0, 0, 10) := by
  unfold gv
  rw [if_neg (by omega)]
  have h := scan_cut (zz m) j 0 0 (by omega) (Or.inl rfl) (by simpa using zz_lt hm) hj
  simp only [Int.toNat_zero, List.drop_zero, h]
theorem short_text (s : ByteArray) (j : Nat) (hs : s.size ≤ 1000) (hj : j < (vb (zz s.size) ++ s.data.toList).length) : gx ((vb (zz s.size) ++ s.data.toList).take j) 0 (s.size : Int) = (ByteArray.empty, 0, 10) := by
  have hm : -9223372036854775808 ≤ (s.size : Int) ∧ (s.size : Int) ≤ 9223372036854775807 := by omega
  by_cases h : j < (vb (zz s.size)).length
  · have e : (vb (zz s.size) ++ s.data.toList).take j = (vb (zz s.size)).take j := by rw [List.take_append_of_le_length (by omega)]
    have hv := short_var (s.size : Int) j hm h
    unfold gx
    rw [e, hv]
    simp
  · have hlen : s.data.toList.length = s.size := by rw [Array.length_toList]; rfl
    have e : (vb (zz s.size) ++ s.data.toList).take j = [] ++ vb (zz s.size) ++ s.data.toList.take (j - (vb (zz s.size)).length) := by
      rw [List.take_append, List.take_of_length_le (by omega)]; rfl
    have hv := gv_at [] (s.data.toList.take (j - (vb (zz s.size)).length)) (s.size : Int) hm
    rw [← e] at hv
    rw [List.length_append, hlen] at hj
    have hlt : ((vb (zz s.size) ++ s.data.toList).take j).length = j := by rw [List.length_take, List.length_append, hlen]; omega
    have hv' : gv ((vb (zz s.size) ++ s.data.toList).take j) 0 = ((s.size : Int), (((vb (zz s.size)).length : Nat) : Int), 0) := by simpa using hv
    unfold gx
    rw [hv', hlt]
    simp only
    have hh : hasB j (((vb (zz s.size)).length : Nat) : Int) (s.size : Int) = false := by simp only [hasB, decide_eq_false_iff_not]; omega
    rw [if_neg (by simp), if_neg (by omega), if_neg (by omega), if_pos hh]

theorem cut_facts {C n c : Nat} (h : 1 ≤ n) (hc : n ≤ c) : 0 ≤ (C : Int) % (n : Int) ∧ (C : Int) % (n : Int) ≤ (c : Int) ∧ C % n < n ∧ C % n ≤ c := by
  have h1 := Nat.mod_lt C h
  rw [← Int.natCast_emod]
  omega

set_option maxRecDepth 100000 in
set_option maxHeartbeats 2000000 in
theorem octetShort_core (x K : Nat) (m : Int) (s : ByteArray) (C : Nat) (w : World) (hk1 : 1 ≤ K) (hk8 : K ≤ 8) (hm : -9223372036854775808 ≤ m ∧ m ≤ 9223372036854775807) (hs : s.size ≤ 1000) :
    Calls Try.prog 8 #[.int .u64 (x : Int), .int .i64 (K : Int), .int .i64 m, .string s, .int .i64 (C : Int)] w fun e w' => e = .returned (.bool true) ∧ Below w.heap.size w w' := by
  have HM := Lib.hid hm
  have HTEXT := Lib.hid (fun j => short_text s j hs)
  clear hm
  go_enter Try.func8, Try.ntmps8
  go_wp2_with (first
    | (go_at_call 11; refine (live_any _).mono ?_; rintro e w1 ⟨rfl, hb1⟩)
    | (go_at_call 16; refine (Put_yes none 0 0 x K [] 0 w1 Rd.nil (Nat.zero_le _) (by omega) hk1 hk8).mono ?_; rintro e w2 ⟨A2, n2, c2, rfl, hown2, hb2⟩; have hl2 : n2 = K := (by have a1 := hown2.len; rw [List.length_append, beN_length] at a1; simpa using a1.symm); have hne2 : ((n2 : Int) != (K : Int)) = false := (by simp; omega); have hle2 : 1 ≤ n2 ∧ n2 ≤ 8 := (by omega); have HL2 := Lib.hid hl2; clear hl2; obtain ⟨q1, q2, q3, q4⟩ := cut_facts (C := C) hle2.1 hown2.cap)
    | (go_at_call 21; refine (PutVar_any none 0 0 m [] 0 w2 Rd.nil (Nat.zero_le _) (by omega) HM.out.1 HM.out.2).mono ?_; rintro e w3 ⟨A3, n3, c3, rfl, hown3, hb3⟩; have hl3 : 1 ≤ n3 ∧ n3 ≤ 10 := (by have a1 := hown3.len; have a3 := vb_pos (zz m); have a4 := vb_ten (zz_lt HM.out); rw [List.nil_append] at a1; omega); have hne3 : ((n3 : Int) == 0) = false := beqF (by omega); obtain ⟨q5, q6, q7, q8⟩ := cut_facts (C := C) hl3.1 hown3.cap)
    | (go_at_call 25; refine (PutText_any none 0 0 s [] 0 w3 Rd.nil (Nat.zero_le _) (by omega) (by omega)).mono ?_; rintro e w4 ⟨A4, n4, c4, rfl, hown4, hb4⟩; have hl4 : 1 ≤ n4 ∧ n4 ≤ 1010 := (by have a1 := hown4.len; have a3 := vb_pos (zz (s.size : Int)); have a4 := vb_ten (zz_lt (n := (s.size : Int)) (by omega)); have a5 : s.data.toList.length = s.size := (by rw [Array.length_toList]; rfl); rw [List.nil_append, List.length_append] at a1; omega); have hne4 : ((n4 : Int) == 0) = false := beqF (by omega); obtain ⟨q9, q10, q11, q12⟩ := cut_facts (C := C) hl4.1 hown4.cap; have hb14 := bel_trans (bel_trans (bel_trans hb1 hb2) hb3) hb4)
    | (go_at_call 14; refine (Get_is A2 (C % n2) c2 _ _ _ _ w4 ((hown2.rd.below (bel_trans hb3 hb4) (Nat.le_refl _)).take (by omega)) (by omega) (by omega) (short_get _ _ K hk1 hk8 (beN_length x K K) (by have := HL2.out; omega))).mono ?_; rintro e w9 ⟨rfl, rfl⟩)
    | (go_at_call 19; refine (GetVar_is A3 (C % n3) c3 _ _ _ w4 ((hown3.rd.below hb4 (Nat.le_refl _)).take (by omega)) (by omega) (by omega) (short_var m _ HM.out (by have := hown3.len; rw [List.nil_append] at this; omega))).mono ?_; rintro e w9 ⟨rfl, rfl⟩)
    | (go_at_call 23; refine (GetText_is A4 (C % n4) c4 _ _ _ _ w4 (hown4.rd.take (by omega)) (by omega) (by omega) (by omega) (HTEXT.out _ (by have := hown4.len; rw [List.nil_append] at this; omega))).mono ?_; rintro e w9 ⟨rfl, rfl⟩))
  all_goals go_ret
  all_goals exact ⟨rfl, hb14⟩

theorem octetShort_walk (x k m : Int) (s : ByteArray) (cut : Int) (w : World) (hx0 : 0 ≤ x) (hx1 : x ≤ 18446744073709551615) (hk0 : -9223372036854775808 ≤ k) (hk1 : k ≤ 9223372036854775807)
    (hm0 : -9223372036854775808 ≤ m) (hm1 : m ≤ 9223372036854775807) (hs : s.size ≤ maxLen) (hc0 : -9223372036854775808 ≤ cut) (hc1 : cut ≤ 9223372036854775807) :
    Calls Try.prog 8 #[.int .u64 x, .int .i64 k, .int .i64 m, .string s, .int .i64 cut] w fun e w' => e = .returned (.bool true) ∧ Below w.heap.size w w' := by
  obtain ⟨X, rfl⟩ : ∃ X : Nat, x = (X : Int) := ⟨x.toNat, by omega⟩
  by_cases hg : s.size ≤ 1000 ∧ 1 ≤ k ∧ k ≤ 8 ∧ 0 ≤ cut
  · obtain ⟨h1, h2, h3, h4⟩ := hg
    obtain ⟨K, rfl⟩ : ∃ K : Nat, k = (K : Int) := ⟨k.toNat, by omega⟩
    obtain ⟨C, rfl⟩ : ∃ K : Nat, cut = (K : Int) := ⟨cut.toNat, by omega⟩
    exact octetShort_core X K m s C w (by omega) (by omega) ⟨hm0, hm1⟩ h1
  · have hg1 : ¬ ((s.size : Int) ≤ 1000 ∧ 1 ≤ k ∧ k ≤ 8 ∧ 0 ≤ cut) := by omega
    clear hg hx1 hk0 hk1 hm0 hm1 hs hc0 hc1
    go_enter Try.func8, Try.ntmps8
    go_wp2_with (first
      | (go_at_call 11; refine (live_any _).mono ?_; rintro e w1 ⟨rfl, hb1⟩)
      | (go_at_call 16; exfalso; exact hg1 (by omega)))
    all_goals go_ret
    all_goals exact ⟨rfl, hb1⟩
end Go.Proofs.Ytjjokjgakenhlaa.Oct
