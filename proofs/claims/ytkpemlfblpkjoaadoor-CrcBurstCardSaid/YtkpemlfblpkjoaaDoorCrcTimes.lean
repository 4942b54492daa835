/- The contracts of crc's step, times, eightSteps and Join. -/
import Derived.Test.YtkpemlfblpkjoaaDoorCrcSpec
import Derived.Test.YtkpemlfblpkjoaaDoorCrcMul
namespace Go.Proofs.YtkpemlfblpkjoaaDoor.Crc
open Go.RowKit Go.Proofs.YtkpemlfblpkjoaaDoor.Oct

theorem poly_u32 (v : Nat) (h : v < 4294967296) : bits .xor .u32 ((v : Int) / 2) 3988292384 = ((v / 2 ^^^ 3988292384 : Nat) : Int) := by
  have e : (v : Int) / 2 = ((v / 2 : Nat) : Int) := by omega
  rw [e]
  exact u32_xor_nat (v / 2) 3988292384 (by omega) (by omega)
theorem step_o {v : Nat} (h : v % 2 = 1) : step v = v / 2 ^^^ 3988292384 := by unfold step; rw [if_pos h]
theorem step_e {v : Nat} (h : ¬ v % 2 = 1) : step v = v / 2 := by unfold step; rw [if_neg h]

theorem and_one (v : Nat) (h : v < 4294967296) : bits .and .u32 (v : Int) 1 = ((v % 2 : Nat) : Int) := by
  have e := u32_and_nat v 1 h (by omega)
  rw [nat_mask1] at e
  exact e
theorem and_one64 (v : Nat) (h : v < 9223372036854775808) : bits .and .i64 (v : Int) 1 = ((v % 2 : Nat) : Int) := by
  show IntKind.i64.wrap ((BitVec.ofInt 64 (v : Int) &&& BitVec.ofInt 64 ((1 : Nat) : Int)).toNat : Int) = _
  rw [BitVec.toNat_and, ofInt_u64 v (by omega), ofInt_u64 1 (by omega), nat_mask1]
  exact IntWalk.i64_in _ (by omega)
theorem step_any (v : Nat) (w : World) (h : v < 4294967296) :
    Calls Tryd.prog 33 #[.int .u32 (v : Int)] w fun e w' => e = .returned (.int .u32 (step v : Int)) ∧ w = w' := by
  by_cases hp : v % 2 = 1
  · have H := Lib.hid ((poly_u32 v h).trans (congrArg Nat.cast (step_o hp).symm))
    have hp2 : (bits .and .u32 (v : Int) 1 == 1) = true := by rw [and_one v h, hp]; rfl
    have hb : (v : Int) ≤ 4294967295 := by omega
    clear h hp
    go_enter Tryd.func33, Tryd.ntmps33
    go_wp2
    go_ret
    exact ⟨ret_int H.out, rfl⟩
  · have H := Lib.hid (show (v : Int) / 2 = (step v : Int) by rw [step_e hp]; omega)
    have hp2 : (bits .and .u32 (v : Int) 1 == 1) = false := by rw [and_one v h]; exact beqF (by omega)
    have hb : (v : Int) ≤ 4294967295 := by omega
    clear h hp
    go_enter Tryd.func33, Tryd.ntmps33
    go_wp2
    go_ret
    exact ⟨ret_int H.out, rfl⟩

theorem top_and (x : Nat) (h : x < 4294967296) : x &&& 2147483648 = if 2147483648 ≤ x then 2147483648 else 0 := by
  have h31 : (2147483648 : Nat) = 2 ^ 31 := by decide
  apply Nat.eq_of_testBit_eq
  intro i
  rw [Nat.testBit_and]
  by_cases hi : i = 31
  · subst hi
    have e : x.testBit 31 = decide (2147483648 ≤ x) := by
      rw [Nat.testBit_eq_decide_div_mod_eq, ← h31]
      congr 1
      exact propext ⟨fun h => by omega, fun h => by omega⟩
    rw [e]
    by_cases hx : 2147483648 ≤ x
    · rw [if_pos hx, decide_eq_true hx, Bool.true_and]
    · rw [if_neg hx, decide_eq_false hx, Bool.false_and, Nat.zero_testBit]
  · have e : (2147483648 : Nat).testBit i = false := by rw [h31]; exact Nat.testBit_two_pow_of_ne (by omega)
    rw [e, Bool.and_false]
    split
    · exact e.symm
    · exact (Nat.zero_testBit i).symm
theorem and_top (x : Nat) (h : x < 4294967296) : bits .and .u32 (x : Int) 2147483648 = if 2147483648 ≤ x then 2147483648 else 0 := by
  have e := u32_and_nat x 2147483648 h (by omega)
  rw [top_and x h] at e
  refine e.trans ?_
  split <;> rfl
def timesRel (a b : Nat) (u v p : Value) : Prop := ∃ x y z : Nat, u = .int .u32 (x : Int) ∧ v = .int .u32 (y : Int) ∧ p = .int .u32 (z : Int) ∧ x < 4294967296 ∧ y < 4294967296 ∧ z < 4294967296 ∧ z ^^^ mul x y = mul a b
set_option maxRecDepth 100000 in
theorem times_any (a b : Nat) (w : World) (ha : a < 4294967296) (hb : b < 4294967296) :
    Calls Tryd.prog 27 #[.int .u32 (a : Int), .int .u32 (b : Int)] w fun e w' => e = .returned (.int .u32 (mul a b : Int)) ∧ w = w' := by
  have HA := Lib.hid ha
  have HB := Lib.hid hb
  clear ha hb
  go_enter Tryd.func27, Tryd.ntmps27
  go_wp2
  go_step3
  go_wp2
  go_step3
  go_wp2
  go_loop [0, 1, 5] (fun u v p => timesRel a b u v p) (fun u _ _ => left 32 (intOf u).toNat)
  case atStart => exact ⟨a, b, 0, rfl, rfl, rfl, HA.out, HB.out, by omega, Nat.zero_xor _⟩
  case round =>
    obtain ⟨x, y, z, rfl, rfl, rfl, hx, hy, hz, hm⟩ := hrel
    have HX := Lib.hid hx
    have HY := Lib.hid hy
    have HZ := Lib.hid hz
    have HM := Lib.hid hm
    by_cases h0 : x = 0
    · have HE := Lib.hid (show z = mul a b by rw [← HM.out, h0, mul_zero, Nat.xor_zero])
      clear hm
      have h1 : ((x : Int) == 0) = true := beqT (by omega)
      clear h0
      go_wp2
      go_ret
      exact ⟨ret_int (congrArg Nat.cast HE.out), rfl⟩
    · have h1 : ((x : Int) == 0) = false := beqF (by omega)
      have hx1 : (x : Int) ≤ 4294967295 := by omega
      have HL := Lib.hid (left_round h0)
      have HR := Lib.hid (mul_round x y)
      have HY2 := Lib.hid (step_lt hy)
      by_cases hbit : 2147483648 ≤ x
      · have h2 : (bits .and .u32 (x : Int) 2147483648 != 0) = true := by rw [and_top x hx, if_pos hbit]; rfl
        clear hm h0 hx
        go_wp2_with (go_at_call 33; refine (step_any y _ HY.out).mono ?_; rintro e w1 ⟨rfl, rfl⟩)
        go_round
        case rel => exact ⟨2 * x % 4294967296, step y, z ^^^ y, congrArg (Value.int .u32) (by omega), rfl, congrArg (Value.int .u32) (u32_xor_nat z y HZ.out HY.out), by omega, HY2.out, xor32 HZ.out HY.out, by rw [← HM.out, HR.out, if_pos hbit, Nat.xor_assoc]⟩
        case measure => rw [show (intOf (Value.int .u32 ((x : Int) * 2 % 4294967296))).toNat = 2 * x % 4294967296 by show ((x : Int) * 2 % 4294967296).toNat = _; omega]; exact HL.out
      · have h2 : (bits .and .u32 (x : Int) 2147483648 != 0) = false := by rw [and_top x hx, if_neg hbit]; rfl
        clear hm h0 hx
        go_wp2_with (go_at_call 33; refine (step_any y _ HY.out).mono ?_; rintro e w1 ⟨rfl, rfl⟩)
        go_round
        case rel => exact ⟨2 * x % 4294967296, step y, z, congrArg (Value.int .u32) (by omega), rfl, rfl, by omega, HY2.out, HZ.out, by rw [← HM.out, HR.out, if_neg hbit, Nat.zero_xor]⟩
        case measure => rw [show (intOf (Value.int .u32 ((x : Int) * 2))).toNat = 2 * x % 4294967296 by show ((x : Int) * 2).toNat = _; omega]; exact HL.out

theorem half_odd (i j M : Nat) (h : M % 2 = 1) : i + j + (j + j) * (M / 2) = i + j * M := by
  have e : M = 2 * (M / 2) + 1 := by omega
  conv => rhs; rw [e]
  rw [Nat.mul_add, Nat.mul_one, ← Nat.mul_assoc, Nat.mul_two]
  omega
theorem half_even (i j M : Nat) (h : ¬ M % 2 = 1) : i + (j + j) * (M / 2) = i + j * M := by
  have e : M = 2 * (M / 2) := by omega
  conv => rhs; rw [e]
  rw [← Nat.mul_assoc, Nat.mul_two]
def eightRel (N0 : Nat) (n p q : Value) : Prop := ∃ N i j : Nat, n = .int .i64 (N : Int) ∧ p = .int .u32 (xp i : Int) ∧ q = .int .u32 (xp j : Int) ∧ N ≤ N0 ∧ i + j * N = 8 * N0
set_option maxRecDepth 100000 in
theorem eight_any (N : Nat) (w : World) (hN : N ≤ 4096) :
    Calls Tryd.prog 28 #[.int .i64 (N : Int)] w fun e w' => e = .returned (.int .u32 (xp (8 * N) : Int)) ∧ w = w' := by
  have HN := Lib.hid hN
  clear hN
  go_enter Tryd.func28, Tryd.ntmps28
  go_wp2
  go_loop [0, 3, 4] (fun n p q => eightRel N n p q) (fun n _ _ => (intOf n).toNat)
  case atStart => exact ⟨N, 0, 8, rfl, rfl, congrArg (Value.int .u32) (by rw [← xp_eight]; rfl), Nat.le_refl _, by omega⟩
  case round =>
    obtain ⟨M, i, j, rfl, rfl, rfl, hM, hij⟩ := hrel
    have HIJ := Lib.hid hij
    have hM2 := HN.out
    obtain ⟨p, hp⟩ : ∃ p, p = xp i := ⟨_, rfl⟩
    obtain ⟨q, hq⟩ : ∃ q, q = xp j := ⟨_, rfl⟩
    rw [← hp, ← hq]
    have HP := Lib.hid hp
    have HQ := Lib.hid hq
    have HP1 := Lib.hid (show p < 4294967296 by rw [hp]; exact xp_lt i)
    have HQ1 := Lib.hid (show q < 4294967296 by rw [hq]; exact xp_lt j)
    clear hij hp hq
    by_cases h0 : M = 0
    · have HE := Lib.hid (show p = xp (8 * N) by rw [HP.out, ← HIJ.out, h0, Nat.mul_zero, Nat.add_zero])
      clear hM hM2
      subst h0
      go_wp2
      go_ret
      exact ⟨ret_int (congrArg Nat.cast HE.out), rfl⟩
    · have h1 : (0 : Int) < (M : Int) := by omega
      by_cases hodd : M % 2 = 1
      · have h2 : (bits .and .i64 (M : Int) 1 == 1) = true := by rw [and_one64 M (by omega), hodd]; rfl
        go_wp2_with (first
          | (go_at_call 27; (with_reducible refine (times_any q q _ HQ1.out HQ1.out).mono ?_); rintro e w1 ⟨rfl, rfl⟩)
          | (go_at_call 27; (with_reducible refine (times_any p q _ HP1.out HQ1.out).mono ?_); rintro e w1 ⟨rfl, rfl⟩))
        go_round
        case rel => exact ⟨M / 2, i + j, j + j, congrArg (Value.int .i64) (by omega), congrArg (fun z : Nat => Value.int .u32 (z : Int)) (by rw [HP.out, HQ.out, xp_mul]), congrArg (fun z : Nat => Value.int .u32 (z : Int)) (by rw [HQ.out, xp_mul]), by omega, (half_odd i j M hodd).trans HIJ.out⟩
        case measure => show ((M : Int) / 2).toNat < ((M : Int)).toNat; omega
      · have h2 : (bits .and .i64 (M : Int) 1 == 1) = false := by rw [and_one64 M (by omega)]; exact beqF (by omega)
        go_wp2_with (go_at_call 27; refine (times_any q q _ HQ1.out HQ1.out).mono ?_; rintro e w1 ⟨rfl, rfl⟩)
        go_round
        case rel => exact ⟨M / 2, i, j + j, congrArg (Value.int .i64) (by omega), congrArg (fun z : Nat => Value.int .u32 (z : Int)) HP.out, congrArg (fun z : Nat => Value.int .u32 (z : Int)) (by rw [HQ.out, xp_mul]), by omega, (half_even i j M hodd).trans HIJ.out⟩
        case measure => show ((M : Int) / 2).toNat < ((M : Int)).toNat; omega

theorem Join_any (a b : Nat) (n : Int) (w : World) (ha : a < 4294967296) (hb : b < 4294967296) (h0 : -9223372036854775808 ≤ n) (h1 : n ≤ 9223372036854775807) :
    Calls Tryd.prog 19 #[.int .u32 (a : Int), .int .u32 (b : Int), .int .i64 n] w (N32 w (join a b n)) := by
  have HA := Lib.hid ha
  have HB := Lib.hid hb
  clear ha hb
  rcases (show n < 0 ∨ 4096 < n ∨ 0 ≤ n ∧ n ≤ 4096 by omega) with h | h | ⟨h1, h2⟩
  · have H := Lib.hid (show (0 : Int) = (join a b n : Int) by unfold join; rw [if_pos (Or.inl h)]; rfl)
    go_enter Tryd.func19, Tryd.ntmps19
    go_wp2
    go_ret
    exact ⟨ret_int H.out, Below.refl _ _⟩
  · have H := Lib.hid (show (0 : Int) = (join a b n : Int) by unfold join; rw [if_pos (Or.inr h)]; rfl)
    go_enter Tryd.func19, Tryd.ntmps19
    go_wp2
    go_ret
    exact ⟨ret_int H.out, Below.refl _ _⟩
  · obtain ⟨N, rfl⟩ : ∃ N : Nat, n = (N : Int) := ⟨n.toNat, by omega⟩
    obtain ⟨x, hx⟩ : ∃ x, x = steps (8 * N) a := ⟨_, rfl⟩
    have HJ := Lib.hid ((u32_xor_nat x b (by rw [hx]; exact steps_lt HA.out) HB.out).trans (congrArg Nat.cast (show x ^^^ b = join a b (N : Int) by unfold join; rw [if_neg (by omega), hx, Int.toNat_natCast])))
    have HX := Lib.hid (show mul a (xp (8 * N)) = x by rw [hx, mul_xp HA.out])
    clear hx
    go_enter Tryd.func19, Tryd.ntmps19
    go_wp2_with (first
      | (go_at_call 28; refine (eight_any N _ (by omega)).mono ?_; rintro e w1 ⟨rfl, rfl⟩)
      | (go_at_call 27; refine (times_any a (xp (8 * N)) _ HA.out (xp_lt _)).mono ?_; rw [HX.out]; rintro e w1 ⟨rfl, rfl⟩))
    go_ret
    exact ⟨ret_int HJ.out, Below.refl _ _⟩
end Go.Proofs.YtkpemlfblpkjoaaDoor.Crc
