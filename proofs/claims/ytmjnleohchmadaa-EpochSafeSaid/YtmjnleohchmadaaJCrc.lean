/- Joined: CrcMath, CrcSpec, CrcMul, CrcTab. -/
import Derived.Test.YtmjnleohchmadaaJOct
/- The plain mathematics of layer 2: one step, sums, what is joined, sealed and opened. Nothing of the program. -/
namespace Go.Proofs.Ytmjnleohchmadaa.Crc
open Go.Proofs.Ytmjnleohchmadaa.Oct

def step (v : Nat) : Nat := if v % 2 = 1 then (v / 2) ^^^ 3988292384 else v / 2
def steps : Nat → Nat → Nat
  | 0, v => v
  | n + 1, v => steps n (step v)

theorem step_lt {v : Nat} (h : v < 4294967296) : step v < 4294967296 := by
  unfold step
  split
  · exact Nat.xor_lt_two_pow (n := 32) (by omega) (by omega)
  · omega
theorem step_even (y : Nat) : step (2 * y) = y := by
  unfold step
  rw [if_neg (by omega)]
  omega
def crc (v : Nat) : List UInt8 → Nat
  | [] => v
  | c :: l => crc (steps 8 (v ^^^ c.toNat)) l
def sum (l : List UInt8) : Nat := crc 4294967295 l ^^^ 4294967295
def join (a b : Nat) (n : Int) : Nat := if n < 0 ∨ 4096 < n then 0 else steps (8 * n.toNat) a ^^^ b

/-! ### texts put on each other -/
def zx (l m : List UInt8) : List UInt8 := List.zipWith (· ^^^ ·) l m
/-! ### up to four bytes that follow each other -/
def le : List UInt8 → Nat
  | [] => 0
  | c :: l => c.toNat + 256 * le l
/-! ### what is sealed, and opened -/
def sealB (l : List UInt8) : List UInt8 := l ++ beN (sum l) 4 4
def openB (l : List UInt8) : List UInt8 × Int :=
  if l.length < 4 then ([], 10) else if l.drop (l.length - 4) = beN (sum (l.take (l.length - 4))) 4 4 then (l.take (l.length - 4), 0) else ([], 20)
theorem openB_ok {l x : List UInt8} (h : openB l = (x, 0)) : sealB x = l ∧ x.length + 4 = l.length := by
  unfold openB at h
  split at h
  · simp at h
  · split at h
    · rename_i h1 h2
      simp only [Prod.mk.injEq, and_true] at h
      subst h
      unfold sealB
      rw [← h2, List.take_append_drop]
      refine ⟨rfl, by rw [List.length_take]; omega⟩
    · simp at h
end Go.Proofs.Ytmjnleohchmadaa.Crc

/- What a call of layer 2 leaves, in the words of layer 1. -/
namespace Go.Proofs.Ytmjnleohchmadaa.Crc
open Go.RowKit Go.Proofs.Ytmjnleohchmadaa.Oct

def OPr (e : TypeId) (base : Nat) (w : World) (l : List UInt8) (z : Int) (en : Ending) (w' : World) : Prop :=
  ∃ A n c, en = .returned (.tuple #[.slice A n c, .int .i64 z]) ∧ OwnB w' e base (.slice A n c) n l ∧ Below base w w'
def N32 (w : World) (v : Nat) (en : Ending) (w' : World) : Prop := en = .returned (.int .u32 (v : Int)) ∧ Below w.heap.size w w'
end Go.Proofs.Ytmjnleohchmadaa.Crc

/- The plain mathematics of how sums are joined by multiplying polynomials, and of the table of four steps. Nothing of the program. -/
namespace Go.Proofs.Ytmjnleohchmadaa.Crc
open Go.Proofs.Ytmjnleohchmadaa.Oct

def mulK : Nat → Nat → Nat → Nat
  | 0, _, _ => 0
  | k + 1, a, b => (if 2147483648 ≤ a then b else 0) ^^^ mulK k (2 * a % 4294967296) (step b)
def mul (a b : Nat) : Nat := mulK 32 a b
def left : Nat → Nat → Nat
  | 0, _ => 0
  | k + 1, a => if a = 0 then 0 else left k (2 * a % 4294967296) + 1

theorem pow_xor {k x : Nat} (h : x < 2 ^ k) : 2 ^ k ^^^ x = 2 ^ k + x := by
  have h1 := Nat.two_pow_add_eq_or_of_lt (i := k) h 1
  rw [Nat.mul_one] at h1
  rw [h1]
  apply Nat.eq_of_testBit_eq
  intro i
  rw [Nat.testBit_or, Nat.testBit_xor]
  by_cases hi : i < k
  · have : (2 ^ k).testBit i = false := Nat.testBit_two_pow_of_ne (by omega)
    rw [this]; simp
  · have : x.testBit i = false := Nat.testBit_lt_two_pow (Nat.lt_of_lt_of_le h (Nat.pow_le_pow_right (by omega) (by omega)))
    rw [this]; simp
theorem mulK_one {k a : Nat} (ha : a < 4294967296) (hk : k < 32) : mulK (k + 1) a (2 ^ k) = a / 2 ^ (31 - k) := by
  induction k generalizing a with
  | zero =>
    show (if 2147483648 ≤ a then 2 ^ 0 else 0) ^^^ 0 = a / 2 ^ 31
    rw [Nat.xor_zero, show (2 : Nat) ^ 31 = 2147483648 by decide]
    split <;> omega
  | succ k ih =>
    have hs : step (2 ^ (k + 1)) = 2 ^ k := by rw [Nat.pow_succ, Nat.mul_comm]; exact step_even _
    show (if 2147483648 ≤ a then 2 ^ (k + 1) else 0) ^^^ mulK (k + 1) _ (step (2 ^ (k + 1))) = _
    rw [hs, ih (Nat.mod_lt _ (by omega)) (by omega)]
    have e31 : (2 : Nat) ^ (31 - k) = 2 * 2 ^ (31 - (k + 1)) := by rw [show 31 - k = (31 - (k + 1)) + 1 by omega, Nat.pow_succ, Nat.mul_comm]
    have ek : (2147483648 : Nat) = 2 ^ (k + 1) * 2 ^ (31 - (k + 1)) := by rw [← Nat.pow_add, show k + 1 + (31 - (k + 1)) = 31 by omega]
    have hpos : 0 < 2 ^ (31 - (k + 1)) := Nat.pow_pos (by omega)
    have hm : 2 * a % 4294967296 = 2 * (a % 2147483648) := by omega
    rw [hm, e31, Nat.mul_div_mul_left _ _ (by omega)]
    by_cases h : 2147483648 ≤ a
    · rw [if_pos h, pow_xor]
      · have ha2 : a = a % 2147483648 + 2 ^ (31 - (k + 1)) * 2 ^ (k + 1) := by rw [Nat.mul_comm, ← ek]; omega
        rw [Nat.add_comm]
        conv => rhs; rw [ha2]
        rw [Nat.add_mul_div_left _ _ hpos]
      · rw [Nat.div_lt_iff_lt_mul hpos, ← ek]
        omega
    · rw [if_neg h, Nat.zero_xor, Nat.mod_eq_of_lt (by omega)]
theorem mul_one {a : Nat} (ha : a < 4294967296) : mul a 2147483648 = a := by
  have h := mulK_one (k := 31) ha (by omega)
  rw [show (2 : Nat) ^ 31 = 2147483648 by decide, Nat.sub_self, Nat.pow_zero, Nat.div_one] at h
  exact h
def xp (k : Nat) : Nat := steps k 2147483648
/-! ### the table of four steps -/
def tab : List Nat := [0, 498536548, 997073096, 651767980, 1994146192, 1802195444, 1303535960, 1342533948, 3988292384, 4027552580, 3604390888, 3412177804, 2607071920, 2262029012, 2685067896, 3183342108]
end Go.Proofs.Ytmjnleohchmadaa.Crc

/- The package's table: what the walks ask of the world. -/
namespace Go.Proofs.Ytmjnleohchmadaa.Crc
open Go.RowKit Go.Proofs.Ytmjnleohchmadaa.Oct

end Go.Proofs.Ytmjnleohchmadaa.Crc
