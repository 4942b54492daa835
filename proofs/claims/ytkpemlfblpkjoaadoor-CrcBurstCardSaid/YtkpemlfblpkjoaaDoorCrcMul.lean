/- The plain mathematics of how sums are joined by multiplying polynomials, and of the table of four steps. Nothing of the program. -/
import Derived.Test.YtkpemlfblpkjoaaDoorCrcMath
namespace Go.Proofs.YtkpemlfblpkjoaaDoor.Crc
open Go.Proofs.YtkpemlfblpkjoaaDoor.Oct

/-- k terms of a product, from the highest bit of a down -/
def mulK : Nat → Nat → Nat → Nat
  | 0, _, _ => 0
  | k + 1, a, b => (if 2147483648 ≤ a then b else 0) ^^^ mulK k (2 * a % 4294967296) (step b)
def mul (a b : Nat) : Nat := mulK 32 a b
/-- how many terms are left -/
def left : Nat → Nat → Nat
  | 0, _ => 0
  | k + 1, a => if a = 0 then 0 else left k (2 * a % 4294967296) + 1

theorem mulK_lt {k a b : Nat} (hb : b < 4294967296) : mulK k a b < 4294967296 := by
  induction k generalizing a b with
  | zero => show 0 < _; omega
  | succ k ih =>
    refine xor32 ?_ (ih (step_lt hb))
    split <;> omega
theorem mul_lt {a b : Nat} (hb : b < 4294967296) : mul a b < 4294967296 := mulK_lt hb
theorem mulK_zero (k b : Nat) : mulK k 0 b = 0 := by
  induction k generalizing b with
  | zero => rfl
  | succ k ih =>
    show (if 2147483648 ≤ 0 then b else 0) ^^^ mulK k (2 * 0 % 4294967296) (step b) = 0
    rw [if_neg (by omega), show 2 * 0 % 4294967296 = 0 from rfl, ih]
    rfl
theorem mul_zero (b : Nat) : mul 0 b = 0 := mulK_zero _ _
theorem sat_next {k a : Nat} (h : 2 ^ (k + 1) * a % 4294967296 = 0) : 2 ^ k * (2 * a % 4294967296) % 4294967296 = 0 := by
  rw [Nat.mul_mod, Nat.mod_mod, ← Nat.mul_mod, ← Nat.mul_assoc, ← Nat.pow_succ]
  exact h
theorem mulK_sat {k a b : Nat} (ha : a < 4294967296) (h : 2 ^ k * a % 4294967296 = 0) : mulK (k + 1) a b = mulK k a b := by
  induction k generalizing a b with
  | zero =>
    have : a = 0 := by rw [Nat.pow_zero, Nat.one_mul] at h; omega
    subst this
    rw [mulK_zero, mulK_zero]
  | succ k ih =>
    show _ ^^^ mulK (k + 1) _ _ = _ ^^^ mulK k _ _
    rw [ih (Nat.mod_lt _ (by omega)) (sat_next h)]
theorem left_sat {k a : Nat} (ha : a < 4294967296) (h : 2 ^ k * a % 4294967296 = 0) : left (k + 1) a = left k a := by
  induction k generalizing a with
  | zero =>
    have : a = 0 := by rw [Nat.pow_zero, Nat.one_mul] at h; omega
    subst this
    rfl
  | succ k ih =>
    show (if a = 0 then 0 else left (k + 1) _ + 1) = (if a = 0 then 0 else left k _ + 1)
    rw [ih (Nat.mod_lt _ (by omega)) (sat_next h)]
theorem sat31 (a : Nat) : 2 ^ 31 * (2 * a % 4294967296) % 4294967296 = 0 := sat_next (by rw [show 2 ^ (31 + 1) = 4294967296 by decide]; exact Nat.mul_mod_right _ _)
theorem mul_round (a b : Nat) : mul a b = (if 2147483648 ≤ a then b else 0) ^^^ mul (2 * a % 4294967296) (step b) := by
  show _ ^^^ mulK 31 _ _ = _ ^^^ mulK 32 _ _
  rw [mulK_sat (Nat.mod_lt _ (by omega)) (sat31 a)]
theorem left_round {a : Nat} (h : a ≠ 0) : left 32 (2 * a % 4294967296) < left 32 a := by
  rw [left_sat (k := 31) (Nat.mod_lt _ (by omega)) (sat31 a)]
  show _ < (if a = 0 then 0 else left 31 _ + 1)
  rw [if_neg h]
  omega

theorem mulK_step (k a b : Nat) : mulK k a (step b) = step (mulK k a b) := by
  induction k generalizing a b with
  | zero => exact step_zero.symm
  | succ k ih =>
    show (if 2147483648 ≤ a then step b else 0) ^^^ mulK k _ (step (step b)) = step ((if 2147483648 ≤ a then b else 0) ^^^ mulK k _ (step b))
    rw [ih, step_xor]
    split <;> rfl
theorem mul_steps (m a b : Nat) : mul a (steps m b) = steps m (mul a b) := by
  induction m generalizing b with
  | zero => rfl
  | succ m ih =>
    show mul a (steps m (step b)) = steps m (step (mul a b))
    rw [ih, mul, mulK_step]
    rfl
theorem pow_xor {k x : Nat} (h : x < 2 ^ k) : 2 ^ k ^^^ x = 2 ^ k + x := by
  have h1 := Nat.two_pow_add_eq_or_of_lt (i := k) h 1
  rw [Nat.mul_one] at h1
  rw [h1]
  apply Nat.eq_of_testBit_eq
  intro i
  rw [Nat.testBit_or, Nat.testBit_xor]
  by_cases hi : i < k
  · have : (2 ^ k).testBit i = false := Nat.testBit_two_pow_of_ne (by omega)
    rw [this]; simp
  · have : x.testBit i = false := Nat.testBit_lt_two_pow (Nat.lt_of_lt_of_le h (Nat.pow_le_pow_right (by omega) (by omega)))
    rw [this]; simp
theorem mulK_one {k a : Nat} (ha : a < 4294967296) (hk : k < 32) : mulK (k + 1) a (2 ^ k) = a / 2 ^ (31 - k) := by
  induction k generalizing a with
  | zero =>
    show (if 2147483648 ≤ a then 2 ^ 0 else 0) ^^^ 0 = a / 2 ^ 31
    rw [Nat.xor_zero, show (2 : Nat) ^ 31 = 2147483648 by decide]
    split <;> omega
  | succ k ih =>
    have hs : step (2 ^ (k + 1)) = 2 ^ k := by rw [Nat.pow_succ, Nat.mul_comm]; exact step_even _
    show (if 2147483648 ≤ a then 2 ^ (k + 1) else 0) ^^^ mulK (k + 1) _ (step (2 ^ (k + 1))) = _
    rw [hs, ih (Nat.mod_lt _ (by omega)) (by omega)]
    have e31 : (2 : Nat) ^ (31 - k) = 2 * 2 ^ (31 - (k + 1)) := by rw [show 31 - k = (31 - (k + 1)) + 1 by omega, Nat.pow_succ, Nat.mul_comm]
    have ek : (2147483648 : Nat) = 2 ^ (k + 1) * 2 ^ (31 - (k + 1)) := by rw [← Nat.pow_add, show k + 1 + (31 - (k + 1)) = 31 by omega]
    have hpos : 0 < 2 ^ (31 - (k + 1)) := Nat.pow_pos (by omega)
    have hm : 2 * a % 4294967296 = 2 * (a % 2147483648) := by omega
    rw [hm, e31, Nat.mul_div_mul_left _ _ (by omega)]
    by_cases h : 2147483648 ≤ a
    · rw [if_pos h, pow_xor]
      · have ha2 : a = a % 2147483648 + 2 ^ (31 - (k + 1)) * 2 ^ (k + 1) := by rw [Nat.mul_comm, ← ek]; omega
        rw [Nat.add_comm]
        conv => rhs; rw [ha2]
        rw [Nat.add_mul_div_left _ _ hpos]
      · rw [Nat.div_lt_iff_lt_mul hpos, ← ek]
        omega
    · rw [if_neg h, Nat.zero_xor, Nat.mod_eq_of_lt (by omega)]
theorem mul_one {a : Nat} (ha : a < 4294967296) : mul a 2147483648 = a := by
  have h := mulK_one (k := 31) ha (by omega)
  rw [show (2 : Nat) ^ 31 = 2147483648 by decide, Nat.sub_self, Nat.pow_zero, Nat.div_one] at h
  exact h
/-- x to the k -/
def xp (k : Nat) : Nat := steps k 2147483648
theorem xp_lt (k : Nat) : xp k < 4294967296 := steps_lt (by omega)
theorem mul_xp {a : Nat} (ha : a < 4294967296) (k : Nat) : mul a (xp k) = steps k a := by rw [xp, mul_steps, mul_one ha]
theorem xp_mul (i j : Nat) : mul (xp i) (xp j) = xp (i + j) := by rw [mul_xp (xp_lt i), xp, xp, steps_add]
theorem xp_zero : 2147483648 = xp 0 := rfl
theorem xp_eight : 8388608 = xp 8 := by decide

/-! ### the table of four steps -/
def tab : List Nat := [0, 498536548, 997073096, 651767980, 1994146192, 1802195444, 1303535960, 1342533948, 3988292384, 4027552580, 3604390888, 3412177804, 2607071920, 2262029012, 2685067896, 3183342108]
theorem tab_at {i : Nat} (h : i < 16) : tab.getD i 0 = steps 4 i := by
  have hall : ∀ j, j < 16 → tab.getD j 0 = steps 4 j := by decide
  exact hall i h
theorem four_low (y : Nat) : steps 4 (16 * y) = y := by
  have h : ∀ z, step (2 * z) = z := step_even
  show step (step (step (step (16 * y)))) = y
  rw [show 16 * y = 2 * (2 * (2 * (2 * y))) by omega]
  simp only [h]
theorem split16 (v : Nat) : v = 16 * (v / 16) ^^^ v % 16 := by
  have h1 := Nat.two_pow_add_eq_or_of_lt (i := 4) (b := v % 16) (Nat.mod_lt _ (by omega)) (v / 16)
  have e4 : (2 : Nat) ^ 4 = 16 := by decide
  rw [e4] at h1
  have hv : v = 16 * (v / 16) + v % 16 := by omega
  have hx : 16 * (v / 16) ||| v % 16 = 16 * (v / 16) ^^^ v % 16 := by
    apply Nat.eq_of_testBit_eq
    intro i
    rw [Nat.testBit_or, Nat.testBit_xor]
    by_cases hi : i < 4
    · have : (16 * (v / 16)).testBit i = false := by rw [← e4, Nat.testBit_two_pow_mul]; simp; omega
      rw [this]; simp
    · have : (v % 16).testBit i = false := Nat.testBit_lt_two_pow (Nat.lt_of_lt_of_le (Nat.mod_lt _ (by omega)) (by rw [← e4]; exact Nat.pow_le_pow_right (by omega) (by omega)))
      rw [this]; simp
  rw [← hx, ← h1]
  exact hv
theorem four_steps (v : Nat) : steps 4 v = v / 16 ^^^ tab.getD (v % 16) 0 := by
  rw [tab_at (Nat.mod_lt _ (by omega))]
  conv => lhs; rw [split16 v]
  rw [steps_xor, four_low]
theorem steps_four (k v : Nat) : steps (4 * (k + 1)) v = steps 4 (steps (4 * k) v) := by rw [Nat.mul_succ, steps_add]
end Go.Proofs.YtkpemlfblpkjoaaDoor.Crc
