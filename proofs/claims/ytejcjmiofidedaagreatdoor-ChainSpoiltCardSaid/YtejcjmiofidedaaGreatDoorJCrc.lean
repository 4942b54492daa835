/- Joined: CrcMath, CrcSpec, CrcMul, CrcTab, CrcRef, CrcRef2, CrcSum, CrcDev, CrcTied. -/
import Derived.Test.YtejcjmiofidedaaGreatDoorJOct
import Derived.Laws.OwnMore
import Derived.Deep.QuietTactic
import Derived.BigQuiet
import Derived.RegionTactic
import Derived.Lib.LazyBuf
import Derived.Test.YtejcjmiofidedaaGreatDoorRows
import Derived.ProofKit
import Derived.LaidMore
import Derived.OpenShut
import Derived.Stop.Joined
import Derived.Lib.LaidTab
/- The plain mathematics of layer 2: one step, sums, what is joined, sealed and opened. Nothing of the program. -/
namespace Go.Proofs.YtejcjmiofidedaaGreatDoor.Crc
open Oct

def step (v : Nat) : Nat := if v % 2 = 1 then (v / 2) ^^^ 3988292384 else v / 2
def steps : Nat → Nat → Nat
  | 0, v => v
  | n + 1, v => steps n (step v)

theorem step_lt {v : Nat} (h : v < 4294967296) : step v < 4294967296 := by
  unfold step
  split
  · exact Nat.xor_lt_two_pow (n := 32) (by omega) (by omega)
  · omega
theorem steps_lt {n v : Nat} (h : v < 4294967296) : steps n v < 4294967296 := by
  induction n generalizing v with
  | zero => exact h
  | succ n ih => exact ih (step_lt h)
theorem step_xor (a b : Nat) : step (a ^^^ b) = step a ^^^ step b := by
  have hd : (a ^^^ b) / 2 = a / 2 ^^^ b / 2 := Nat.xor_div_two
  have hm : (a ^^^ b) % 2 = (a + b) % 2 := by
    have h := Nat.xor_mod_two_pow (a := a) (b := b) (n := 1)
    simp only [Nat.pow_one] at h
    rw [h]
    rcases Nat.mod_two_eq_zero_or_one a with ha | ha <;> rcases Nat.mod_two_eq_zero_or_one b with hb | hb <;> rw [ha, hb]
    · show 0 = _; omega
    · show 1 = _; omega
    · show 1 = _; omega
    · show 0 = _; omega
  unfold step
  rw [hd, hm]
  rcases Nat.mod_two_eq_zero_or_one a with ha | ha <;> rcases Nat.mod_two_eq_zero_or_one b with hb | hb
  · rw [if_neg (by omega), if_neg (by omega), if_neg (by omega)]
  · rw [if_pos (by omega), if_neg (by omega), if_pos (by omega), Nat.xor_assoc]
  · rw [if_pos (by omega), if_pos (by omega), if_neg (by omega), Nat.xor_assoc, Nat.xor_assoc, Nat.xor_comm 3988292384]
  · rw [if_neg (by omega), if_pos (by omega), if_pos (by omega)]
    have : ∀ p q k : Nat, p ^^^ k ^^^ (q ^^^ k) = p ^^^ q := fun p q k => by
      rw [Nat.xor_assoc, Nat.xor_comm q k, ← Nat.xor_assoc k k q, Nat.xor_self, Nat.zero_xor]
    rw [this]
theorem steps_xor (n a b : Nat) : steps n (a ^^^ b) = steps n a ^^^ steps n b := by
  induction n generalizing a b with
  | zero => rfl
  | succ n ih => unfold steps; rw [step_xor, ih]
theorem steps_add (m n v : Nat) : steps (m + n) v = steps n (steps m v) := by
  induction m generalizing v with
  | zero => rw [Nat.zero_add]; rfl
  | succ m ih => rw [Nat.succ_add]; exact ih (step v)
theorem steps_zero (n : Nat) : steps n 0 = 0 := by
  induction n with
  | zero => rfl
  | succ n ih => exact ih
theorem step_null {v : Nat} (h : v < 4294967296) (h0 : step v = 0) : v = 0 := by
  unfold step at h0
  split at h0
  · rename_i h1
    exfalso
    have h2 : v / 2 = 3988292384 := by
      have := congrArg (· ^^^ 3988292384) h0
      simp only [Nat.xor_assoc, Nat.xor_self, Nat.xor_zero, Nat.zero_xor] at this
      exact this
    omega
  · omega
theorem steps_null {n v : Nat} (h : v < 4294967296) (h0 : steps n v = 0) : v = 0 := by
  induction n generalizing v with
  | zero => exact h0
  | succ n ih => exact step_null h (ih (step_lt h) h0)
theorem step_even (y : Nat) : step (2 * y) = y := by
  unfold step
  rw [if_neg (by omega)]
  omega
theorem steps_low (y : Nat) : steps 8 (256 * y) = y := by
  have h : ∀ z, step (2 * z) = z := step_even
  show step (step (step (step (step (step (step (step (256 * y)))))))) = y
  rw [show 256 * y = 2 * (2 * (2 * (2 * (2 * (2 * (2 * (2 * y))))))) by omega]
  simp only [h]

def crc (v : Nat) : List UInt8 → Nat
  | [] => v
  | c :: l => crc (steps 8 (v ^^^ c.toNat)) l
def sum (l : List UInt8) : Nat := crc 4294967295 l ^^^ 4294967295
def join (a b : Nat) (n : Int) : Nat := if n < 0 ∨ 4096 < n then 0 else steps (8 * n.toNat) a ^^^ b

theorem u8_32 (c : UInt8) : c.toNat < 4294967296 := by have := c.toNat_lt; omega
theorem xor32 {a b : Nat} (ha : a < 4294967296) (hb : b < 4294967296) : a ^^^ b < 4294967296 := Nat.xor_lt_two_pow (n := 32) ha hb
theorem crc_lt {v : Nat} {l : List UInt8} (h : v < 4294967296) : crc v l < 4294967296 := by
  induction l generalizing v with
  | nil => exact h
  | cons c l ih => exact ih (steps_lt (xor32 h (u8_32 c)))
theorem sum_lt (l : List UInt8) : sum l < 4294967296 := xor32 (crc_lt (by omega)) (by omega)
theorem crc_append (v : Nat) (l m : List UInt8) : crc v (l ++ m) = crc (crc v l) m := by
  induction l generalizing v with
  | nil => rfl
  | cons c l ih => exact ih _
theorem crc_snoc (v : Nat) (l : List UInt8) (c : UInt8) : crc v (l ++ [c]) = steps 8 (crc v l ^^^ c.toNat) := by rw [crc_append]; rfl
theorem crc_xor (v u : Nat) (l : List UInt8) : crc (v ^^^ u) l = crc v l ^^^ steps (8 * l.length) u := by
  induction l generalizing v u with
  | nil => rfl
  | cons c l ih =>
    show crc (steps 8 (v ^^^ u ^^^ c.toNat)) l = crc (steps 8 (v ^^^ c.toNat)) l ^^^ _
    have e : v ^^^ u ^^^ c.toNat = v ^^^ c.toNat ^^^ u := by rw [Nat.xor_assoc, Nat.xor_comm u, ← Nat.xor_assoc]
    rw [e, steps_xor, ih, List.length_cons, show 8 * (l.length + 1) = 8 + 8 * l.length by omega, steps_add]
theorem sum_append (a b : List UInt8) : sum (a ++ b) = steps (8 * b.length) (sum a) ^^^ sum b := by
  unfold sum
  have e : crc 4294967295 a = 4294967295 ^^^ (crc 4294967295 a ^^^ 4294967295) := by
    rw [Nat.xor_comm (crc _ _), ← Nat.xor_assoc, Nat.xor_self, Nat.zero_xor]
  rw [crc_append, e, crc_xor, ← e, Nat.xor_comm (crc 4294967295 b), Nat.xor_assoc]
/-! ### texts put on each other -/
def zx (l m : List UInt8) : List UInt8 := List.zipWith (· ^^^ ·) l m
theorem crc_zx (u v : Nat) (l m : List UInt8) (h : l.length = m.length) : crc (u ^^^ v) (zx l m) = crc u l ^^^ crc v m := by
  induction l generalizing u v m with
  | nil =>
    cases m with
    | nil => rfl
    | cons d m => simp at h
  | cons c l ih =>
    cases m with
    | nil => simp at h
    | cons d m =>
      show crc (steps 8 (u ^^^ v ^^^ (c ^^^ d).toNat)) (zx l m) = crc (steps 8 (u ^^^ c.toNat)) l ^^^ crc (steps 8 (v ^^^ d.toNat)) m
      rw [← ih _ _ m (by simpa using h), ← steps_xor, UInt8.toNat_xor]
      congr 2
      rw [Nat.xor_assoc, Nat.xor_assoc]
      congr 1
      rw [← Nat.xor_assoc, ← Nat.xor_assoc, Nat.xor_comm v]
/-! ### up to four bytes that follow each other -/
def le : List UInt8 → Nat
  | [] => 0
  | c :: l => c.toNat + 256 * le l
theorem le_lt (l : List UInt8) : le l < 256 ^ l.length := by
  induction l with
  | nil => simp [le]
  | cons c l ih =>
    rw [le, List.length_cons, Nat.pow_succ]
    have := c.toNat_lt
    omega
theorem le_null {l : List UInt8} : le l = 0 ↔ ∀ c ∈ l, c = 0 := by
  induction l with
  | nil => simp [le]
  | cons c l ih =>
    rw [le]
    constructor
    · intro h
      have h1 : c.toNat = 0 := by omega
      have h2 := ih.1 (by omega)
      intro d hd
      rcases List.mem_cons.1 hd with rfl | hd
      · exact UInt8.toNat_inj.1 h1
      · exact h2 d hd
    · intro h
      have h1 : c = 0 := h c (by simp)
      have h2 := ih.2 fun d hd => h d (by simp [hd])
      subst h1
      rw [h2]
      rfl
theorem add_xor (c : UInt8) (y : Nat) : c.toNat + 256 * y = 256 * y ^^^ c.toNat := by
  have hc := c.toNat_lt
  have h1 := Nat.two_pow_add_eq_or_of_lt (i := 8) (b := c.toNat) hc y
  have e8 : (2 : Nat) ^ 8 = 256 := by decide
  rw [e8] at h1
  rw [Nat.add_comm, h1]
  apply Nat.eq_of_testBit_eq
  intro i
  rw [Nat.testBit_or, Nat.testBit_xor]
  by_cases hi : i < 8
  · have : (256 * y).testBit i = false := by rw [← e8, Nat.testBit_two_pow_mul]; simp; omega
    rw [this]; simp
  · have : c.toNat.testBit i = false := Nat.testBit_lt_two_pow (Nat.lt_of_lt_of_le hc (Nat.pow_le_pow_right (by omega) (by omega)))
    rw [this]; simp
theorem crc_le (l : List UInt8) : crc 0 l = steps (8 * l.length) (le l) := by
  induction l with
  | nil => rfl
  | cons c l ih =>
    show crc (steps 8 (0 ^^^ c.toNat)) l = _
    have h := crc_xor 0 (steps 8 c.toNat) l
    rw [Nat.zero_xor] at h
    rw [Nat.zero_xor, h, ih, le, add_xor, List.length_cons, show 8 * (l.length + 1) = 8 + 8 * l.length by omega, steps_add, steps_xor 8, steps_low, steps_xor]
theorem crc_zeros (v k : Nat) : crc v (List.replicate k 0) = steps (8 * k) v := by
  induction k generalizing v with
  | zero => rfl
  | succ k ih =>
    show crc (steps 8 (v ^^^ (0 : UInt8).toNat)) (List.replicate k 0) = _
    rw [ih, show 8 * (k + 1) = 8 + 8 * k by omega, steps_add]
    simp
theorem sum_burst {b ds : List UInt8} {i k : Nat} (hl : b.length = i + ds.length + k) (h4 : ds.length ≤ 4) :
    sum (zx b (List.replicate i 0 ++ ds ++ List.replicate k 0)) = sum b ↔ ∀ c ∈ ds, c = 0 := by
  have h := crc_zx 4294967295 0 b (List.replicate i 0 ++ ds ++ List.replicate k 0) (by simp; omega)
  rw [Nat.xor_zero] at h
  unfold sum
  rw [h, crc_append, crc_append, crc_zeros 0 i, steps_zero, crc_le, crc_zeros, ← le_null]
  have hle : le ds < 4294967296 := by
    have h1 := le_lt ds
    have h2 : 256 ^ ds.length ≤ 256 ^ 4 := Nat.pow_le_pow_right (by omega) h4
    omega
  constructor
  · intro e
    have e1 := congrArg (· ^^^ 4294967295) e
    simp only [Nat.xor_assoc, Nat.xor_self, Nat.xor_zero] at e1
    have e2 : steps (8 * k) (steps (8 * ds.length) (le ds)) = 0 := by
      have e3 := congrArg (crc 4294967295 b ^^^ ·) e1
      simp only [← Nat.xor_assoc, Nat.xor_self, Nat.zero_xor] at e3
      exact e3
    rw [← steps_add] at e2
    exact steps_null hle e2
  · intro e
    rw [e, steps_zero, steps_zero, Nat.xor_zero]

/-! ### what is sealed, and opened -/
def sealB (l : List UInt8) : List UInt8 := l ++ beN (sum l) 4 4
def openB (l : List UInt8) : List UInt8 × Int :=
  if l.length < 4 then ([], 10) else if l.drop (l.length - 4) = beN (sum (l.take (l.length - 4))) 4 4 then (l.take (l.length - 4), 0) else ([], 20)
theorem sealB_length (l : List UInt8) : (sealB l).length = l.length + 4 := by simp [sealB, beN_length]
theorem openB_sealB (l : List UInt8) : openB (sealB l) = (l, 0) := by
  unfold openB
  rw [sealB_length, if_neg (by omega), Nat.add_sub_cancel]
  unfold sealB
  rw [List.drop_left, List.take_left, if_pos rfl]
theorem openB_ok {l x : List UInt8} (h : openB l = (x, 0)) : sealB x = l ∧ x.length + 4 = l.length := by
  unfold openB at h
  split at h
  · simp at h
  · split at h
    · rename_i h1 h2
      simp only [Prod.mk.injEq, and_true] at h
      subst h
      unfold sealB
      rw [← h2, List.take_append_drop]
      refine ⟨rfl, by rw [List.length_take]; omega⟩
    · simp at h
theorem openB_cases (l : List UInt8) : openB l = ([], 10) ∧ l.length < 4 ∨ openB l = ([], 20) ∧ 4 ≤ l.length ∨ (openB l = (l.take (l.length - 4), 0) ∧ 4 ≤ l.length) := by
  unfold openB
  split
  · exact Or.inl ⟨rfl, by assumption⟩
  · split
    · exact Or.inr (Or.inr ⟨rfl, by omega⟩)
    · exact Or.inr (Or.inl ⟨rfl, by omega⟩)
end Go.Proofs.YtejcjmiofidedaaGreatDoor.Crc

/- What a call of layer 2 leaves, in the words of layer 1. -/
namespace Go.Proofs.YtejcjmiofidedaaGreatDoor.Crc
open Go.RowKit Oct

def OPr (e : TypeId) (base : Nat) (w : World) (l : List UInt8) (z : Int) (en : Ending) (w' : World) : Prop :=
  ∃ A n c, en = .returned (.tuple #[.slice A n c, .int .i64 z]) ∧ OwnB w' e base (.slice A n c) n l ∧ Below base w w'
def N32 (w : World) (v : Nat) (en : Ending) (w' : World) : Prop := en = .returned (.int .u32 (v : Int)) ∧ Below w.heap.size w w'
theorem own_lit (w : World) (e : TypeId) (l : List UInt8) (n : Nat) (hn : l.length = n) (h : n ≤ 1099511627776) : OwnB (w.alloc (.cells (l.map bv).toArray e)) e w.heap.size (.slice (some ⟨w.heap.size, 0, none⟩) n n) n l := by
  subst hn
  have h1 := World.ownsRow_lit (base := w.heap.size) (e := e) (size := 1) w (l.map bv).toArray l.length (Nat.le_refl _) (by unfold maxLen; omega) (by simp)
  simpa [OwnB] using h1
end Go.Proofs.YtejcjmiofidedaaGreatDoor.Crc

/- The plain mathematics of how sums are joined by multiplying polynomials, and of the table of four steps. Nothing of the program. -/
namespace Go.Proofs.YtejcjmiofidedaaGreatDoor.Crc
open Oct

def mulK : Nat → Nat → Nat → Nat
  | 0, _, _ => 0
  | k + 1, a, b => (if 2147483648 ≤ a then b else 0) ^^^ mulK k (2 * a % 4294967296) (step b)
def mul (a b : Nat) : Nat := mulK 32 a b
def left : Nat → Nat → Nat
  | 0, _ => 0
  | k + 1, a => if a = 0 then 0 else left k (2 * a % 4294967296) + 1

theorem pow_xor {k x : Nat} (h : x < 2 ^ k) : 2 ^ k ^^^ x = 2 ^ k + x := by
  have h1 := Nat.two_pow_add_eq_or_of_lt (i := k) h 1
  rw [Nat.mul_one] at h1
  rw [h1]
  apply Nat.eq_of_testBit_eq
  intro i
  rw [Nat.testBit_or, Nat.testBit_xor]
  by_cases hi : i < k
  · have : (2 ^ k).testBit i = false := Nat.testBit_two_pow_of_ne (by omega)
    rw [this]; simp
  · have : x.testBit i = false := Nat.testBit_lt_two_pow (Nat.lt_of_lt_of_le h (Nat.pow_le_pow_right (by omega) (by omega)))
    rw [this]; simp
theorem mulK_one {k a : Nat} (ha : a < 4294967296) (hk : k < 32) : mulK (k + 1) a (2 ^ k) = a / 2 ^ (31 - k) := by
  induction k generalizing a with
  | zero =>
    show (if 2147483648 ≤ a then 2 ^ 0 else 0) ^^^ 0 = a / 2 ^ 31
    rw [Nat.xor_zero, show (2 : Nat) ^ 31 = 2147483648 by decide]
    split <;> omega
  | succ k ih =>
    have hs : step (2 ^ (k + 1)) = 2 ^ k := by rw [Nat.pow_succ, Nat.mul_comm]; exact step_even _
    show (if 2147483648 ≤ a then 2 ^ (k + 1) else 0) ^^^ mulK (k + 1) _ (step (2 ^ (k + 1))) = _
    rw [hs, ih (Nat.mod_lt _ (by omega)) (by omega)]
    have e31 : (2 : Nat) ^ (31 - k) = 2 * 2 ^ (31 - (k + 1)) := by rw [show 31 - k = (31 - (k + 1)) + 1 by omega, Nat.pow_succ, Nat.mul_comm]
    have ek : (2147483648 : Nat) = 2 ^ (k + 1) * 2 ^ (31 - (k + 1)) := by rw [← Nat.pow_add, show k + 1 + (31 - (k + 1)) = 31 by omega]
    have hpos : 0 < 2 ^ (31 - (k + 1)) := Nat.pow_pos (by omega)
    have hm : 2 * a % 4294967296 = 2 * (a % 2147483648) := by omega
    rw [hm, e31, Nat.mul_div_mul_left _ _ (by omega)]
    by_cases h : 2147483648 ≤ a
    · rw [if_pos h, pow_xor]
      · have ha2 : a = a % 2147483648 + 2 ^ (31 - (k + 1)) * 2 ^ (k + 1) := by rw [Nat.mul_comm, ← ek]; omega
        rw [Nat.add_comm]
        conv => rhs; rw [ha2]
        rw [Nat.add_mul_div_left _ _ hpos]
      · rw [Nat.div_lt_iff_lt_mul hpos, ← ek]
        omega
    · rw [if_neg h, Nat.zero_xor, Nat.mod_eq_of_lt (by omega)]
theorem mul_one {a : Nat} (ha : a < 4294967296) : mul a 2147483648 = a := by
  have h := mulK_one (k := 31) ha (by omega)
  rw [show (2 : Nat) ^ 31 = 2147483648 by decide, Nat.sub_self, Nat.pow_zero, Nat.div_one] at h
  exact h
def xp (k : Nat) : Nat := steps k 2147483648
/-! ### the table of four steps -/
def tab : List Nat := [0, 498536548, 997073096, 651767980, 1994146192, 1802195444, 1303535960, 1342533948, 3988292384, 4027552580, 3604390888, 3412177804, 2607071920, 2262029012, 2685067896, 3183342108]
theorem tab_at {i : Nat} (h : i < 16) : tab.getD i 0 = steps 4 i := by
  have hall : ∀ j, j < 16 → tab.getD j 0 = steps 4 j := by decide
  exact hall i h
theorem four_low (y : Nat) : steps 4 (16 * y) = y := by
  have h : ∀ z, step (2 * z) = z := step_even
  show step (step (step (step (16 * y)))) = y
  rw [show 16 * y = 2 * (2 * (2 * (2 * y))) by omega]
  simp only [h]
theorem split16 (v : Nat) : v = 16 * (v / 16) ^^^ v % 16 := by
  have h1 := Nat.two_pow_add_eq_or_of_lt (i := 4) (b := v % 16) (Nat.mod_lt _ (by omega)) (v / 16)
  have e4 : (2 : Nat) ^ 4 = 16 := by decide
  rw [e4] at h1
  have hv : v = 16 * (v / 16) + v % 16 := by omega
  have hx : 16 * (v / 16) ||| v % 16 = 16 * (v / 16) ^^^ v % 16 := by
    apply Nat.eq_of_testBit_eq
    intro i
    rw [Nat.testBit_or, Nat.testBit_xor]
    by_cases hi : i < 4
    · have : (16 * (v / 16)).testBit i = false := by rw [← e4, Nat.testBit_two_pow_mul]; simp; omega
      rw [this]; simp
    · have : (v % 16).testBit i = false := Nat.testBit_lt_two_pow (Nat.lt_of_lt_of_le (Nat.mod_lt _ (by omega)) (by rw [← e4]; exact Nat.pow_le_pow_right (by omega) (by omega)))
      rw [this]; simp
  rw [← hx, ← h1]
  exact hv
theorem four_steps (v : Nat) : steps 4 v = v / 16 ^^^ tab.getD (v % 16) 0 := by
  rw [tab_at (Nat.mod_lt _ (by omega))]
  conv => lhs; rw [split16 v]
  rw [steps_xor, four_low]
theorem steps_four (k v : Nat) : steps (4 * (k + 1)) v = steps 4 (steps (4 * k) v) := by rw [Nat.mul_succ, steps_add]
end Go.Proofs.YtejcjmiofidedaaGreatDoor.Crc

/- The package's table: what the walks ask of the world. -/
namespace Go.Proofs.YtejcjmiofidedaaGreatDoor.Crc
open Go.RowKit Oct

def Tab (w : World) : Prop := ∀ i, i < 16 → w.cell? ⟨0, i, none⟩ = some (.int .u32 ((tab.getD i 0 : Nat) : Int))
theorem Tab.pos {w : World} (h : Tab w) : 0 < w.heap.size := by
  have h0 := h 0 (by omega)
  rcases Nat.lt_or_ge 0 w.heap.size with hl | hl
  · exact hl
  · simp [World.cell?, Array.getElem?_eq_none hl] at h0
theorem Tab.below {B : Nat} {w w' : World} (h : Tab w) (hb : Below B w w') (hB : 0 < B) : Tab w' := fun i hi => (hb.cell (p := ⟨0, i, none⟩) hB).trans (h i hi)
theorem Tab.bel {w w' : World} (h : Tab w) (hb : Below w.heap.size w w') : Tab w' := h.below hb h.pos
theorem Tab.alloc {w : World} (h : Tab w) (o : Obj) : Tab (w.alloc o) := h.bel (bel_alloc (Below.refl _ _) o)
end Go.Proofs.YtejcjmiofidedaaGreatDoor.Crc

/- The contracts of the document's own answers of layer 2. -/
namespace Go.Proofs.YtejcjmiofidedaaGreatDoor.Crc
open Go.RowKit Oct

def rstRel (v N : Nat) (x i : Value) : Prop := ∃ j, x = .int .u32 (steps j v : Int) ∧ i = .int .i64 ((j : Nat) : Int) ∧ j ≤ N
def rsumRel (l : List UInt8) (n : Nat) (x i : Value) : Prop := ∃ j, x = .int .u32 (crc 4294967295 (l.take j) : Int) ∧ i = .int .i64 ((j : Nat) : Int) ∧ j ≤ n
end Go.Proofs.YtejcjmiofidedaaGreatDoor.Crc

/- The contracts of the document's own answers of layer 2: four, Seal, Open. -/
namespace Go.Proofs.YtejcjmiofidedaaGreatDoor.Crc
open Go.RowKit Oct

def ropRel (l f : List UInt8) (N : Nat) (w2 : World) (i : Value) (wr : World) : Prop :=
  ∃ j, i = .int .i64 ((j : Nat) : Int) ∧ j ≤ 4 ∧ (l.drop N).take j = f.take j ∧ Below w2.heap.size w2 wr
end Go.Proofs.YtejcjmiofidedaaGreatDoor.Crc

/- The contracts of crc's Sum and of the closure in it. -/
namespace Go.Proofs.YtejcjmiofidedaaGreatDoor.Crc
open Go.RowKit Oct

def goOnRel (b v : Nat) (w : World) (i : Value) (wr : World) : Prop := ∃ k : Nat, i = .int .i64 (k : Int) ∧ k ≤ 2 ∧ wr.heap[b]? = some (.cells #[.int .u32 (steps (4 * k) v : Int)] 138 (0, 0)) ∧ Below b w wr
theorem and_15 (v : Nat) (h : v < 4294967296) : bits .and .u32 (v : Int) 15 = ((v % 16 : Nat) : Int) := by
  have e := u32_and_nat v 15 h (by omega)
  rw [Nat.and_two_pow_sub_one_eq_mod v 4] at e
  exact e
theorem tab_lt (i : Nat) : tab.getD i 0 < 4294967296 := by
  by_cases h : i < 16
  · rw [tab_at h]
    exact steps_lt (by omega)
  · rw [List.getD_eq_getElem?_getD, List.getElem?_eq_none (by show 16 ≤ i; omega)]
    show 0 < _
    omega
set_option maxRecDepth 100000 in
theorem goOn_any (c : UInt8) (v b : Nat) (w : World) (hv : v < 4294967296) (hc : w.heap[b]? = some (.cells #[.int .u32 (v : Int)] 138 (0, 0))) (ht : Tab w) (hb : 0 < b) :
    Calls Tryz.prog 158 #[.int .u8 (c.toNat : Int), .pointer (some ⟨b, 0, none⟩)] w fun e w' => e = .returned (.tuple #[]) ∧ w'.heap[b]? = some (.cells #[.int .u32 (steps 8 (v ^^^ c.toNat) : Int)] 138 (0, 0)) ∧ Below b w w' := by
  have hcell := cell_of_one hc
  have hfree := free_of_one hc
  have hc255 : c.toNat ≤ 255 := by have := c.toNat_lt; omega
  have hxor := u32_xor_nat v c.toNat hv (by omega)
  obtain ⟨y, hy⟩ : ∃ y, y = v ^^^ c.toNat := ⟨_, rfl⟩
  have HY := Lib.hid (show y < 4294967296 by rw [hy]; exact xor32 hv (u8_32 c))
  rw [← hy] at hxor
  rw [← hy]
  have HC := Lib.hid hc
  have HT := Lib.hid ht
  have HV := Lib.hid hv
  clear hc ht hv hy
  go_enter Tryz.func158, Tryz.ntmps158
  go_wp2
  go_loopw [7] (fun i wr => goOnRel b y (w.setCell ⟨b, 0, none⟩ (.int .u32 (y : Int))) i wr) (fun i _ => 2 - (intOf i).toNat)
  case atStart => exact ⟨0, rfl, by omega, one_setCell HC.out, Below.refl _ _⟩
  case round =>
    obtain ⟨k, rfl, hk, hcr, hbr⟩ := hrel
    obtain ⟨x, hx⟩ : ∃ x, x = steps (4 * k) y := ⟨_, rfl⟩
    rw [← hx] at hcr
    have hx32 : x < 4294967296 := by rw [hx]; exact steps_lt HY.out
    by_cases hlt : k < 2
    · have hrc := cell_of_one hcr
      have hrf := free_of_one hcr
      have htc := ((HT.out.below (((Below.refl b w).setCell (Nat.le_refl b) (.int .u32 (y : Int))).trans hbr) hb) (x % 16) (Nat.mod_lt _ (by omega)))
      obtain ⟨m, hm⟩ : ∃ m, m = x % 16 := ⟨_, rfl⟩
      have hand := and_15 x hx32
      rw [← hm] at hand htc
      have hm16 : (m : Int) < 16 := by omega
      obtain ⟨t, hte⟩ : ∃ t, t = tab.getD m 0 := ⟨_, rfl⟩
      rw [← hte] at htc
      have hxr := u32_xor_nat (x / 16) t (by omega) (by rw [hte]; exact tab_lt m)
      obtain ⟨z, hz⟩ : ∃ z, z = x / 16 ^^^ t := ⟨_, rfl⟩
      rw [← hz] at hxr
      have HZ := Lib.hid (show z = steps (4 * (k + 1)) y by rw [hz, hte, hm, steps_four, ← hx, four_steps])
      have hq : ((x / 16 : Nat) : Int) = (x : Int) / 16 := by omega
      rw [hq] at hxr
      have hx1 : (x : Int) ≤ 4294967295 := by omega
      have HCR := Lib.hid hcr
      have HBR := Lib.hid hbr
      clear hcr hbr hz hte hq hx hx32 hm hxor hcell hfree
      go_wp2
      go_region
      go_wp2
      go_roundw
      case rel => exact ⟨k + 1, by go_num, by omega, HZ.out ▸ one_setCell HCR.out, (HBR.out.setCell (Nat.le_refl b) _).drew⟩
      case measure => simp [intOf]; omega
    · have hk2 : k = 2 := by omega
      have HE := Lib.hid (show x = steps 8 y by rw [hx, hk2])
      have HCR := Lib.hid hcr
      have HBR := Lib.hid (((Below.refl b w).setCell (Nat.le_refl b) (.int .u32 (y : Int))).trans hbr)
      subst hk2
      clear hcr hbr hx hx32 hxor hcell hfree
      go_wp2
      go_end0
      exact ⟨rfl, HE.out ▸ HCR.out, HBR.out⟩

theorem crc_take1 {v j : Nat} {l : List UInt8} {d : UInt8} (h : l[j]? = some d) : crc v (l.take (j + 1)) = steps 8 (crc v (l.take j) ^^^ d.toNat) := by
  rw [List.take_add_one, h]
  exact crc_snoc _ _ _
def sumRel (l : List UInt8) (n b : Nat) (w : World) (i : Value) (wr : World) : Prop := ∃ j : Nat, i = .int .i64 (j : Int) ∧ j ≤ n ∧ wr.heap[b]? = some (.cells #[.int .u32 (crc 4294967295 (l.take j) : Int)] 138 (0, 0)) ∧ Below b w wr
set_option maxRecDepth 100000 in
theorem Sum_any (A : Option Addr) (n c : Nat) (l : List UInt8) (B : Nat) (w : World) (hr : Rd w B A n l) (hB : B ≤ w.heap.size) (hn : n ≤ 549755813888) (ht : Tab w) :
    Calls Tryz.prog 147 #[.slice A n c] w (N32 w (sum l)) := by
  have HL := Lib.hid hr.len
  have HN := Lib.hid hn
  have HT := Lib.hid ht
  have HR := Lib.hid hr
  have H0 := Lib.hid (show (w.alloc (.cells #[.int .u32 4294967295] 138)).heap[w.heap.size]? = some (.cells #[.int .u32 4294967295] 138 (0, 0)) from heap_alloc_new w _)
  clear hn ht hr
  go_enter Tryz.func147, Tryz.ntmps147
  go_wp2
  go_loopw [10] (fun i wr => sumRel l n w.heap.size w i wr) (fun i _ => n - (intOf i).toNat)
  case atStart => exact ⟨0, rfl, Nat.zero_le _, H0.out, (Below.refl _ _).alloc (Nat.le_refl _) _⟩
  case round =>
    obtain ⟨j, rfl, hj, hcr, hbr⟩ := hrel
    obtain ⟨x, hx⟩ : ∃ x, x = crc 4294967295 (l.take j) := ⟨_, rfl⟩
    rw [← hx] at hcr
    have HX := Lib.hid hx
    have HX2 := Lib.hid (show x < 4294967296 by rw [hx]; exact crc_lt (by omega))
    have HCR := Lib.hid hcr
    have HBR := Lib.hid hbr
    clear hx hcr hbr
    have hnn := HN.out
    by_cases hlt : j < n
    · obtain ⟨b, o, d, rfl, _, hd, hcell⟩ := (HR.out.below HBR.out hB).at hlt
      have HD := Lib.hid hd
      clear hd
      go_wp2_with (go_at_call 158; refine (goOn_any d x w.heap.size wr HX2.out HCR.out (HT.out.bel HBR.out) HT.out.pos).mono ?_; rintro e w1 ⟨rfl, hc1, hb1⟩)
      go_roundw
      case rel => exact ⟨j + 1, by go_num, by omega, by rw [crc_take1 HD.out, ← HX.out]; exact hc1, HBR.out.trans hb1⟩
      case measure => simp [intOf]; omega
    · have hjn : j = n := by omega
      have hcell := cell_of_one HCR.out
      have HE := Lib.hid (show x ^^^ 4294967295 = sum l by rw [HX.out, List.take_of_length_le (by have := HL.out; omega)]; rfl)
      clear hjn
      go_wp2
      go_ret
      exact ⟨ret_int ((u32_xor_nat 4294967295 x (by omega) HX2.out).trans (congrArg Nat.cast ((Nat.xor_comm _ _).trans HE.out))), HBR.out⟩
end Go.Proofs.YtejcjmiofidedaaGreatDoor.Crc

/- The contracts of crc's Seal and Open, and of bytes.Clone in it. -/
namespace Go.Proofs.YtejcjmiofidedaaGreatDoor.Crc
open Go.RowKit Oct

theorem Clone_any (A : Option Addr) (n c : Nat) (l : List UInt8) (B : Nat) (w : World) (hr : Rd w B A n l) (hB : B ≤ w.heap.size) (hn : n ≤ 549755813888) :
    Calls Tryz.prog 94 #[.slice A n c] w (RB 5 w.heap.size w l) := by
  have hI := u8row
  have hq := Go.run_eql_slice_nil (P := Tryz.prog) w 57 5 A n c Tryz.underlying57
  cases A with
  | none =>
    have hl : n = 0 ∧ l = [] := hr.isNil
    obtain ⟨rfl, rfl⟩ := hl
    go_enter Tryz.func94, Tryz.ntmps94
    go_wp2
    go_ret
    exact ⟨none, 0, 0, rfl, OwnB.nil, Below.refl _ _⟩
  | some a =>
    go_enter Tryz.func94, Tryz.ntmps94
    go_wp2_with (at_builtin; refine wpList_app0 (w.alloc (.cells #[] 5)) rfl _ _ 57 rfl w.heap.size 5 Tryz.underlying57 hI _ rfl (own_lit w 5 [] 0 rfl (by omega)) B (some a) n c l rfl (hr.alloc hB _) (by omega) (by simp) ?_; intro A1 c1 w1 hown1 hb1)
    go_ret
    exact ⟨A1, n, c1, rfl, hown1, ((Below.refl w.heap.size w).alloc (Nat.le_refl _) (.cells #[] 5)).trans hb1⟩

theorem Seal_any (A : Option Addr) (n c : Nat) (l : List UInt8) (B : Nat) (w : World) (hr : Rd w B A n l) (hB : B ≤ w.heap.size) (_hc : n ≤ c) (hn : n ≤ 137438953472) (ht : Tab w) :
    Calls Tryz.prog 132 #[.slice A n c] w (RB 5 w.heap.size w (sealB l)) := by
  have HS := Lib.hid (sum_lt l)
  have HT := Lib.hid ht
  have HR := Lib.hid hr
  obtain ⟨s, hs⟩ : ∃ s, s = sum l := ⟨_, rfl⟩
  have HSE := Lib.hid hs
  have hs1 : (s : Int) ≤ 4294967295 := by have := HS.out; omega
  have HW := Lib.hid (show (l ++ if isW 4 = true then beN s (4 : Int).toNat (4 : Int).toNat else []) = sealB l by rw [if_pos (by decide), hs]; rfl)
  clear ht hr hs
  go_enter Tryz.func132, Tryz.ntmps132
  go_wp2_with (first
    | (go_at_call 147; refine (Sum_any A n c l B _ HR.out hB (by omega) HT.out).mono ?_; rw [← HSE.out]; rintro e w1 ⟨rfl, hb1⟩)
    | (go_at_call 133; refine (Put_any A n c s 4 l w.heap.size w1 ((HR.out.more hB).below hb1 (Nat.le_refl _)) hb1.size (by omega)).mono ?_; rw [HW.out]; rintro e w2 ⟨A2, n2, c2, rfl, hown2, hb2⟩))
  go_ret
  exact ⟨A2, n2, c2, rfl, hown2.more hb1.size, bel_trans hb1 hb2⟩

theorem openB_is {l : List UInt8} {N : Nat} (h : l.length = N + 4) : openB l = if getN ((l.drop N).take 4) = sum (l.take N) then (l.take N, 0) else ([], 20) := by
  have hd : (l.drop N).length = 4 := by rw [List.length_drop]; omega
  have e4 : l.length - 4 = N := by omega
  unfold openB
  rw [if_neg (by omega), e4, List.take_of_length_le (Nat.le_of_eq hd)]
  have hbe : getN (beN (sum (l.take N)) 4 4) = sum (l.take N) := by rw [getN_be, Nat.mod_eq_of_lt (sum_lt _)]
  by_cases he : l.drop N = beN (sum (l.take N)) 4 4
  · rw [if_pos he, if_pos (by rw [he]; exact hbe)]
  · rw [if_neg he, if_neg]
    intro e
    exact he (getN_inj _ _ (by rw [hd, beN_length]) (e.trans hbe.symm))
set_option maxRecDepth 100000 in
theorem Open_any (A : Option Addr) (n c : Nat) (l : List UInt8) (B : Nat) (w : World) (hr : Rd w B A n l) (hB : B ≤ w.heap.size) (hc : n ≤ c) (hn : n ≤ 137438953472) (ht : Tab w) :
    Calls Tryz.prog 126 #[.slice A n c] w (OPr 5 w.heap.size w (openB l).1 (openB l).2) := by
  have hl := hr.len
  by_cases h4 : n < 4
  · have HO := Lib.hid (show openB l = ([], 10) by unfold openB; rw [if_pos (by omega)])
    rw [HO.out]
    clear hr hl hB hc ht
    go_enter Tryz.func126, Tryz.ntmps126
    go_wp2
    go_ret2
    exact ⟨none, 0, 0, rfl, OwnB.nil, Below.refl _ _⟩
  · obtain ⟨N, rfl⟩ : ∃ N, n = N + 4 := ⟨n - 4, by omega⟩
    have HR := Lib.hid hr
    have HT := Lib.hid ht
    have HO := Lib.hid (openB_is hl)
    have hsub : ((N + 4 : Nat) : Int) - 4 = (N : Int) := by omega
    have HH := Lib.hid (show hasB (N + 4) (N : Int) ((4 : Nat) : Int) = true by simp [hasB]; omega)
    obtain ⟨U, hU⟩ : ∃ U, U = getN ((l.drop N).take 4) := ⟨_, rfl⟩
    obtain ⟨s, hs⟩ : ∃ s, s = sum (l.take N) := ⟨_, rfl⟩
    have HU := Lib.hid hU
    have HS := Lib.hid hs
    have hs1 : (s : Int) ≤ 4294967295 := by have := sum_lt (l.take N); omega
    rw [HO.out, ← hU, ← hs]
    clear hr ht hl h4 hU hs
    by_cases he : U = s
    · have hne : ((U : Int) != (s : Int)) = false := by rw [he]; simp
      rw [if_pos he]
      clear he
      go_enter Tryz.func126, Tryz.ntmps126
      go_wp2_with (first
        | (go_at_call 125; refine (Get_yes A (N + 4) c N 4 l B _ HR.out hc (by omega) (by decide) HH.out).mono ?_; rw [← HU.out]; rintro e w9 ⟨rfl, rfl⟩)
        | (go_at_call 147; refine (Sum_any A N c (l.take N) B _ (HR.out.take (by omega)) hB (by omega) HT.out).mono ?_; rw [← HS.out]; rintro e w1 ⟨rfl, hb1⟩)
        | (go_at_call 94; refine (Clone_any A N c (l.take N) w.heap.size w1 (((HR.out.take (by omega)).more hB).below hb1 (Nat.le_refl _)) hb1.size (by omega)).mono ?_; rintro e w2 ⟨A2, n2, c2, rfl, hown2, hb2⟩))
      go_ret2
      exact ⟨A2, n2, c2, rfl, hown2.more hb1.size, bel_trans hb1 hb2⟩
    · have hne : ((U : Int) != (s : Int)) = true := by simp; omega
      rw [if_neg he]
      clear he
      go_enter Tryz.func126, Tryz.ntmps126
      go_wp2_with (first
        | (go_at_call 125; refine (Get_yes A (N + 4) c N 4 l B _ HR.out hc (by omega) (by decide) HH.out).mono ?_; rw [← HU.out]; rintro e w9 ⟨rfl, rfl⟩)
        | (go_at_call 147; refine (Sum_any A N c (l.take N) B _ (HR.out.take (by omega)) hB (by omega) HT.out).mono ?_; rw [← HS.out]; rintro e w1 ⟨rfl, hb1⟩))
      go_ret2
      exact ⟨none, 0, 0, rfl, OwnB.nil, hb1⟩
end Go.Proofs.YtejcjmiofidedaaGreatDoor.Crc

/- The package's table as the row lists it: what the walks ask, and that the program's own start meets it. -/
namespace Go.Proofs.YtejcjmiofidedaaGreatDoor.Crc
open Go.ChangeShapes Go.WideShapes Go.ChangeAt Go.RowKit

abbrev listed : List (String × DataW Unit) := [("watermeet/crc.steps", Rows.laid_watermeet_crc_steps)]
theorem gSteps : Tryz.prog.globalNamed "watermeet/crc.steps" = some 0 := by kernel_rfl
theorem tSteps : (Tryz.prog.globals[0]?).map (·.type) = some 151 := by kernel_rfl
theorem door_met (os : Os) (args : Array Value) : laidMetH Tryz.prog listed ((World.doorLaid Tryz.prog 400 os).forCall (fun _ _ => 0) ⟨#[], args, []⟩).memory :=
  laidMetH_of_parts3 (fuel := 8) (laidMet_of_run' 8 (by kernel_rfl) (by kernel_rfl)) (by kernel_rfl) (by kernel_rfl)
theorem tab_of_laid {W : World} (h : laidMetH Tryz.prog listed W) : Tab W := by
  rw [MakeChecks.laidMetH_plain _ _ _ (by kernel_rfl)] at h
  have hT : Lib.TabIs Tryz.prog W "watermeet/crc.steps" .u32 (tab.map fun n : Nat => (n : Int)) := Lib.tabIs_of_head gSteps tSteps Tryz.underlying151 Tryz.underlying138 (by kernel_rfl) (by kernel_rfl) h
  intro i hi
  have h1 := hT.cell gSteps i (by show i < 16; exact hi)
  rw [h1]
  congr 2
  simp only [List.getD_eq_getElem?_getD, List.getElem?_map]
  have h2 : i < tab.length := hi
  rw [List.getElem?_eq_getElem h2]
  rfl
end Go.Proofs.YtejcjmiofidedaaGreatDoor.Crc
