/- The walk of OctetOrder. -/
import Derived.Test.YtjjokjgakenhlaaOctSmall
import Derived.Deep.RegionHeld3
namespace Go.Proofs.Ytjjokjgakenhlaa.Oct
open Go.RowKit

theorem Put8 (x : Nat) (L : List UInt8) (hL : L = beN x 8 8) (w : World) :
    Calls Try.prog 16 #[.slice none 0 0, .int .u64 (x : Int), .int .i64 8] w (RB 5 w.heap.size w L) := by
  subst hL
  exact Put_yes none 0 0 x 8 [] 0 w Rd.nil (Nat.zero_le _) (by omega) (by omega) (by omega)
theorem str_of (w : World) (B : Nat) (A : Option Addr) (n c : Nat) (l : List UInt8) (hr : Rd w B A n l) : (convert 22 9 (.slice A n c)).run Try.prog w = .ok (.string ⟨l.toArray⟩) w :=
  run_toString (P := Try.prog) w 22 9 5 Try.underlying22 Try.underlying5 Try.underlying9 B A n c l hr

set_option maxRecDepth 100000 in
set_option maxHeartbeats 2000000 in
theorem octetOrder_core (M N : Nat) (w : World) (hm : M < 18446744073709551616) (hn : N < 18446744073709551616) :
    Calls Try.prog 9 #[.int .u64 (M : Int), .int .u64 (N : Int)] w fun e w' => e = .returned (.bool true) ∧ Below w.heap.size w w' := by
  obtain ⟨L1, hL1⟩ : ∃ L, L = beN M 8 8 := ⟨_, rfl⟩
  obtain ⟨L2, hL2⟩ : ∃ L, L = beN N 8 8 := ⟨_, rfl⟩
  have l1 : L1.length = 8 := by rw [hL1, beN_length]
  have l2 : L2.length = 8 := by rw [hL2, beN_length]
  have g1 : getN L1 = M := by rw [hL1, getN_be]; exact Nat.mod_eq_of_lt hm
  have g2 : getN L2 = N := by rw [hL2, getN_be]; exact Nat.mod_eq_of_lt hn
  have hless : Op.bytesLess L1 L2 = decide (M < N) := by rw [less_getN L1 L2 (by omega), g1, g2]
  have heq : (L1 == L2) = ((M : Int) == (N : Int)) := by
    rw [Bool.eq_iff_iff, beq_iff_eq, beq_iff_eq]
    constructor
    · intro h
      rw [← g1, ← g2, h]
    · intro h
      exact getN_inj L1 L2 (by omega) (by omega)
  have HL1 := Lib.hid hL1
  have HL2 := Lib.hid hL2
  clear hL1 hL2 g1 g2 hm hn
  go_enter Try.func9, Try.ntmps9
  go_wp2_with (go_at_call 11; refine (live_any _).mono ?_; rintro e w1 ⟨rfl, hb1⟩)
  go_region_with (first | (go_at_call 16; (with_reducible refine (Put8 M L1 HL1.out _).mono ?_); rintro e w2 ⟨A2, n2, c2, rfl, hown2, hb2⟩; have r1 := str_of w2 _ A2 n2 c2 L1 hown2.rd) | (go_at_call 16; (with_reducible refine (Put8 N L2 HL2.out _).mono ?_); rintro e w3 ⟨A3, n3, c3, rfl, hown3, hb3⟩; have r2 := str_of w3 _ A2 n2 c2 L1 (hown2.rd.below hb3 (Nat.le_refl _)); have r3 := str_of w3 _ A3 n3 c3 L2 hown3.rd))
  all_goals go_wp2
  all_goals go_ret
  all_goals exact ⟨ret_bool (by first | rfl | simp), bel_trans (bel_trans (bel_drew hb1) hb2) hb3⟩

theorem octetOrder_walk (m n : Int) (w : World) (hm0 : 0 ≤ m) (hm1 : m ≤ 18446744073709551615) (hn0 : 0 ≤ n) (hn1 : n ≤ 18446744073709551615) :
    Calls Try.prog 9 #[.int .u64 m, .int .u64 n] w fun e w' => e = .returned (.bool true) ∧ Below w.heap.size w w' := by
  obtain ⟨M, rfl⟩ : ∃ X : Nat, m = (X : Int) := ⟨m.toNat, by omega⟩
  obtain ⟨N, rfl⟩ : ∃ X : Nat, n = (X : Int) := ⟨n.toNat, by omega⟩
  exact octetOrder_core M N w (by omega) (by omega)
end Go.Proofs.Ytjjokjgakenhlaa.Oct
