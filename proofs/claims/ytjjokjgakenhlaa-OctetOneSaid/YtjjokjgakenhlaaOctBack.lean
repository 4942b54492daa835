/- The walk of OctetBack. -/
import Derived.Test.YtjjokjgakenhlaaOctGetText
namespace Go.Proofs.Ytjjokjgakenhlaa.Oct
open Go.RowKit

theorem gt_at (l r : List UInt8) (x k : Nat) (h1 : 1 ≤ k) (h8 : k ≤ 8) : gt (l ++ beN x k k ++ r) (l.length : Int) (k : Int) = (x % 256 ^ k, 0) := by
  unfold gt
  have hw : isW (k : Int) = true := by simp [isW]; omega
  have hh : hasB (l ++ beN x k k ++ r).length (l.length : Int) (k : Int) = true := by simp [hasB, beN_length]; omega
  rw [if_neg (by simp [hw]), if_neg (by rw [hh]; simp)]
  have e : ((l ++ beN x k k ++ r).drop (l.length : Int).toNat).take (k : Int).toNat = beN x k k := by
    rw [Int.toNat_natCast, Int.toNat_natCast, List.append_assoc, List.drop_left, List.take_left' (beN_length x k k)]
  rw [e, getN_be]
theorem gv_at (l r : List UInt8) (m : Int) (hm : -9223372036854775808 ≤ m ∧ m ≤ 9223372036854775807) : gv (l ++ vb (zz m) ++ r) (l.length : Int) = (m, (l.length : Int) + ((vb (zz m)).length : Int), 0) := by
  unfold gv
  rw [if_neg (by omega), Int.toNat_natCast, List.append_assoc, List.drop_left, scan_vb (zz m) r 0 0 (by omega) (Or.inl rfl) (by simpa using zz_lt hm)]
  simp [uz_zz]
theorem gx_at (l r : List UInt8) (s : ByteArray) (most : Int) (hs : s.size ≤ 9223372036854775807) (hm : (s.size : Int) ≤ most) :
    gx (l ++ vb (zz s.size) ++ s.data.toList ++ r) (l.length : Int) most = (s, (l.length : Int) + ((vb (zz s.size)).length : Int) + (s.size : Int), 0) := by
  have hg := gv_at l (s.data.toList ++ r) (s.size : Int) (by omega)
  rw [← List.append_assoc] at hg
  have hlen : s.data.toList.length = s.size := by rw [Array.length_toList]; rfl
  unfold gx
  rw [hg]
  simp only
  have hh : hasB (l ++ vb (zz s.size) ++ s.data.toList ++ r).length ((l.length : Int) + ((vb (zz s.size)).length : Int)) (s.size : Int) = true := by
    simp only [hasB, List.length_append, hlen, decide_eq_true_eq]; omega
  rw [if_neg (by simp), if_neg (by omega), if_neg (by omega), if_neg (by rw [hh]; simp)]
  have e : ((l ++ vb (zz s.size) ++ s.data.toList ++ r).drop ((l.length : Int) + ((vb (zz s.size)).length : Int)).toNat).take (s.size : Int).toNat = s.data.toList := by
    have e1 : ((l.length : Int) + ((vb (zz s.size)).length : Int)).toNat = (l ++ vb (zz s.size)).length := by rw [List.length_append]; omega
    rw [e1, Int.toNat_natCast, List.append_assoc, List.drop_left, List.take_left' hlen]
  rw [e]

def backZ (l : List UInt8) (x K : Nat) (m : Int) (s : ByteArray) : List UInt8 := l ++ beN x K K ++ vb (zz m) ++ vb (zz s.size) ++ s.data.toList
theorem back_get (l : List UInt8) (x K : Nat) (m : Int) (s : ByteArray) (n : Nat) (h1 : 1 ≤ K) (h8 : K ≤ 8) (hn : l.length = n) : gt (backZ l x K m s) (n : Int) (K : Int) = (x % 256 ^ K, 0) := by
  subst hn
  unfold backZ
  rw [List.append_assoc, List.append_assoc]
  exact gt_at l _ x K h1 h8
theorem back_var (l : List UInt8) (x K : Nat) (m : Int) (s : ByteArray) (n2 n3 : Nat) (hm : -9223372036854775808 ≤ m ∧ m ≤ 9223372036854775807) (h2 : (l ++ beN x K K).length = n2) (h3 : (l ++ beN x K K ++ vb (zz m)).length = n3) :
    gv (backZ l x K m s) (n2 : Int) = (m, (n3 : Int), 0) := by
  have e : (n3 : Int) = (n2 : Int) + ((vb (zz m)).length : Int) := by rw [← h3, ← h2, List.length_append]; omega
  subst h2
  unfold backZ
  rw [List.append_assoc (l ++ beN x K K ++ vb (zz m)), gv_at _ _ m hm, e]
theorem back_text (l : List UInt8) (x K : Nat) (m : Int) (s : ByteArray) (n3 n4 : Nat) (hs : s.size ≤ 5000) (h3 : (l ++ beN x K K ++ vb (zz m)).length = n3) (h4 : (l ++ beN x K K ++ vb (zz m) ++ vb (zz s.size) ++ s.data.toList).length = n4) :
    gx (backZ l x K m s) (n3 : Int) (s.size : Int) = (s, (n4 : Int), 0) := by
  have hlen : s.data.toList.length = s.size := by rw [Array.length_toList]; rfl
  have e : (n4 : Int) = (n3 : Int) + ((vb (zz s.size)).length : Int) + (s.size : Int) := by rw [← h4, ← h3, List.length_append, List.length_append, hlen]; omega
  subst h3
  have h := gx_at (l ++ beN x K K ++ vb (zz m)) [] s s.size (by omega) (by omega)
  rw [List.append_nil] at h
  rw [e]
  exact h

theorem low_wrap (K : Nat) (h : K < 8) : IntKind.u64.wrap (2 ^ (8 * K)) = (256 : Int) ^ K := by
  have e : (2 : Int) ^ (8 * K) = ((256 ^ K : Nat) : Int) := by rw [Int.pow_mul]; simp
  have h7 : 256 ^ K ≤ 256 ^ 7 := Nat.pow_le_pow_right (by omega) (by omega)
  have e2 : (256 : Int) ^ K = ((256 ^ K : Nat) : Int) := by simp
  rw [e, e2]
  generalize 256 ^ K = q at *
  exact IntWalk.u64_in _ (by omega)
theorem low_pos (K : Nat) (h : K < 8) (h0 : IntKind.u64.wrap (2 ^ (8 * K)) = 0) : False := by
  rw [low_wrap K h] at h0
  have hp : 0 < 256 ^ K := Nat.pow_pos (by omega)
  have e : (256 : Int) ^ K = ((256 ^ K : Nat) : Int) := by simp
  rw [e] at h0
  generalize 256 ^ K = q at *
  omega
theorem low_all (x K : Nat) (h : 8 ≤ K) (hx : x < 18446744073709551616) : (x : Int) % 256 ^ K = (x : Int) := by
  have h8 : 256 ^ 8 ≤ 256 ^ K := Nat.pow_le_pow_right (by omega) h
  have e : (256 : Int) ^ K = ((256 ^ K : Nat) : Int) := by simp
  rw [e]
  generalize 256 ^ K = q at *
  exact Int.emod_eq_of_lt (by omega) (by omega)

set_option maxRecDepth 100000 in
set_option maxHeartbeats 2000000 in
theorem octetBack_core (A : Option Addr) (n c : Nat) (l : List UInt8) (x K : Nat) (m : Int) (s : ByteArray) (w : World) (hr : Rd w w.heap.size A n l) (hc : n ≤ c) (hf : fewB n = true) (hk1 : 1 ≤ K) (hk8 : K ≤ 8)
    (hm : -9223372036854775808 ≤ m ∧ m ≤ 9223372036854775807) (hs : s.size ≤ 5000) (hx : x < 18446744073709551616) :
    Calls Try.prog 6 #[.slice A n c, .int .u64 (x : Int), .int .i64 (K : Int), .int .i64 m, .string s] w fun e w' => e = .returned (.bool true) ∧ Below w.heap.size w w' := by
  have hn : n ≤ 5000 := fewB_iff.1 hf
  have HM := Lib.hid hm
  have HX := Lib.hid hx
  have HR := Lib.hid hr
  have hss := sameB_self l
  have HGET := Lib.hid (back_get l x K m s n hk1 hk8 hr.len)
  have HVAR := Lib.hid (fun n2 n3 => back_var l x K m s n2 n3 hm)
  have HTEXT := Lib.hid (fun n3 n4 => back_text l x K m s n3 n4 hs)
  clear hm hx hr
  go_enter Try.func6, Try.ntmps6
  go_wp2_with (first
    | (go_at_call 11; refine (live_any _).mono ?_; rintro e w1 ⟨rfl, hb1⟩)
    | (go_at_call 12; refine (few_any _ _ _ _).mono ?_; rintro e w9 ⟨rfl, rfl⟩)
    | (go_at_call 16; refine (Put_yes A n c x K l w.heap.size w1 (HR.out.below hb1 (Nat.le_refl _)) hb1.size (by omega) hk1 hk8).mono ?_; rintro e w2 ⟨A2, n2, c2, rfl, hown2, hb2⟩; have hl2 : n2 = n + K := (by have a1 := hown2.len; have a2 := HR.out.len; rw [List.length_append, beN_length] at a1; omega); have hne2 : ((n2 : Int) != (n : Int) + (K : Int)) = false := (by simp; omega); have hle2 : n ≤ n2 ∧ n2 ≤ n + 8 := (by omega); clear hl2)
    | (go_at_call 21; refine (PutVar_any A2 n2 c2 m _ w2.heap.size w2 hown2.rd (Nat.le_refl _) (by omega) HM.out.1 HM.out.2).mono ?_; rintro e w3 ⟨A3, n3, c3, rfl, hown3, hb3⟩; have hl3 : n2 < n3 ∧ n3 ≤ n2 + 10 := (by have a1 := hown3.len; have a2 := hown2.len; have a3 := vb_pos (zz m); have a4 := vb_ten (zz_lt HM.out); rw [List.length_append] at a1; omega))
    | (go_at_call 25; refine (PutText_any A3 n3 c3 s _ w3.heap.size w3 hown3.rd (Nat.le_refl _) (by omega) (by omega)).mono ?_; rintro e w4 ⟨A4, n4, c4, rfl, hown4, hb4⟩; have hl4 : n3 < n4 ∧ n4 ≤ n3 + 6000 := (by have a1 := hown4.len; have a2 := hown3.len; have a3 := vb_pos (zz (s.size : Int)); have a4 := vb_ten (zz_lt (n := (s.size : Int)) (by omega)); have a5 : s.data.toList.length = s.size := (by rw [Array.length_toList]; rfl); rw [List.length_append, List.length_append] at a1; omega); have hc4 := hown4.cap; have hb14 := bel_trans (bel_trans (bel_trans hb1 hb2) hb3) hb4; have H2 := Lib.hid hown2.len; have H3 := Lib.hid hown3.len; have H4 := Lib.hid hown4.len; clear hown2 hown3 hb2 hb3 hb4)
    | (go_at_call 17; refine (Same_any _ _ _ _ _ _ l l _ _ w4 (((hown4.rd.pre rfl).pre rfl).pre rfl |>.pre HR.out.len) (HR.out.below hb14 (Nat.le_refl _))).mono ?_; rintro e w9 ⟨rfl, rfl⟩)
    | (go_at_call 14; refine (Get_is A4 n4 c4 _ _ _ _ w4 hown4.rd hc4 (by omega) HGET.out).mono ?_; rintro e w9 ⟨rfl, rfl⟩)
    | (go_at_call 19; refine (GetVar_is A4 n4 c4 _ _ _ w4 hown4.rd (by omega) (by omega) (HVAR.out n2 n3 H2.out H3.out)).mono ?_; rintro e w9 ⟨rfl, rfl⟩)
    | (go_at_call 23; refine (GetText_is A4 n4 c4 _ _ _ _ w4 hown4.rd hc4 (by omega) (by omega) (HTEXT.out n3 n4 H3.out H4.out)).mono ?_; rintro e w9 ⟨rfl, rfl⟩))
  all_goals first
    | (go_ret; exact ⟨rfl, hb14⟩)
    | (exfalso; have h : IntKind.u64.wrap (2 ^ (8 * K)) = 0 := (by assumption); have hK : (K : Int) < 8 := (by assumption); exact low_pos K (by omega) h)
    | (exfalso; have h : ¬ (x : Int) % 256 ^ K = (x : Int) % IntKind.u64.wrap (2 ^ (8 * K)) := (by assumption); have hK : (K : Int) < 8 := (by assumption); exact h (by rw [low_wrap K (by omega)]))
    | (exfalso; have h : ¬ (x : Int) % 256 ^ K = (x : Int) := (by assumption); have hK : (8 : Int) ≤ (K : Int) := (by assumption); exact h (low_all x K (by omega) HX.out))

theorem octetBack_walk (A : Option Addr) (n c : Nat) (l : List UInt8) (x k m : Int) (s : ByteArray) (w : World) (hr : Rd w w.heap.size A n l) (hc : n ≤ c) (hx0 : 0 ≤ x) (hx1 : x ≤ 18446744073709551615) (hk0 : -9223372036854775808 ≤ k) (hk1 : k ≤ 9223372036854775807)
    (hm0 : -9223372036854775808 ≤ m) (hm1 : m ≤ 9223372036854775807) (hs : s.size ≤ maxLen) :
    Calls Try.prog 6 #[.slice A n c, .int .u64 x, .int .i64 k, .int .i64 m, .string s] w fun e w' => e = .returned (.bool true) ∧ Below w.heap.size w w' := by
  obtain ⟨X, rfl⟩ : ∃ X : Nat, x = (X : Int) := ⟨x.toNat, by omega⟩
  by_cases hf : fewB n = true
  · by_cases hg : s.size ≤ 5000 ∧ 1 ≤ k ∧ k ≤ 8
    · obtain ⟨h1, h2, h3⟩ := hg
      obtain ⟨K, rfl⟩ : ∃ K : Nat, k = (K : Int) := ⟨k.toNat, by omega⟩
      exact octetBack_core A n c l X K m s w hr hc hf (by omega) (by omega) ⟨hm0, hm1⟩ h1 (by omega)
    · have hg1 : ¬ ((s.size : Int) ≤ 5000 ∧ 1 ≤ k ∧ k ≤ 8) := by omega
      clear hg hx1 hk0 hk1 hm0 hm1 hs hr
      go_enter Try.func6, Try.ntmps6
      go_wp2_with (first
        | (go_at_call 11; refine (live_any _).mono ?_; rintro e w1 ⟨rfl, hb1⟩)
        | (go_at_call 12; refine (few_any _ _ _ _).mono ?_; rintro e w9 ⟨rfl, rfl⟩)
        | (go_at_call 16; exfalso; exact hg1 (by omega)))
      all_goals go_ret
      all_goals exact ⟨rfl, hb1⟩
  · have hf' : fewB n = false := by simpa using hf
    clear hf hx1 hk0 hk1 hm0 hm1 hs hr
    go_enter Try.func6, Try.ntmps6
    go_wp2_with (first
      | (go_at_call 11; refine (live_any _).mono ?_; rintro e w1 ⟨rfl, hb1⟩)
      | (go_at_call 12; refine (few_any _ _ _ _).mono ?_; rintro e w9 ⟨rfl, rfl⟩))
    all_goals go_ret
    all_goals exact ⟨rfl, hb1⟩
end Go.Proofs.Ytjjokjgakenhlaa.Oct
