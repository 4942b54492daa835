/- Joined: CrcMath, CrcSpec. -/
import Derived.Test.YthhdhdjdhekgpaaDoorJOct
/- The plain mathematics of layer 2: one step, sums, what is joined, sealed and opened. Nothing of the program. -/
namespace Go.Proofs.YthhdhdjdhekgpaaDoor.Crc
open Go.Proofs.YthhdhdjdhekgpaaDoor.Oct

def step (v : Nat) : Nat := if v % 2 = 1 then (v / 2) ^^^ 3988292384 else v / 2
def steps : Nat → Nat → Nat
  | 0, v => v
  | n + 1, v => steps n (step v)

theorem step_lt {v : Nat} (h : v < 4294967296) : step v < 4294967296 := by
  unfold step
  split
  · exact Nat.xor_lt_two_pow (n := 32) (by omega) (by omega)
  · omega
theorem steps_lt {n v : Nat} (h : v < 4294967296) : steps n v < 4294967296 := by
  induction n generalizing v with
  | zero => exact h
  | succ n ih => exact ih (step_lt h)
theorem step_xor (a b : Nat) : step (a ^^^ b) = step a ^^^ step b := by
  have hd : (a ^^^ b) / 2 = a / 2 ^^^ b / 2 := Nat.xor_div_two
  have hm : (a ^^^ b) % 2 = (a + b) % 2 := by
    have h := Nat.xor_mod_two_pow (a := a) (b := b) (n := 1)
    simp only [Nat.pow_one] at h
    rw [h]
    rcases Nat.mod_two_eq_zero_or_one a with ha | ha <;> rcases Nat.mod_two_eq_zero_or_one b with hb | hb <;> rw [ha, hb]
    · show 0 = _; omega
    · show 1 = _; omega
    · show 1 = _; omega
    · show 0 = _; omega
  unfold step
  rw [hd, hm]
  rcases Nat.mod_two_eq_zero_or_one a with ha | ha <;> rcases Nat.mod_two_eq_zero_or_one b with hb | hb
  · rw [if_neg (by omega), if_neg (by omega), if_neg (by omega)]
  · rw [if_pos (by omega), if_neg (by omega), if_pos (by omega), Nat.xor_assoc]
  · rw [if_pos (by omega), if_pos (by omega), if_neg (by omega), Nat.xor_assoc, Nat.xor_assoc, Nat.xor_comm 3988292384]
  · rw [if_neg (by omega), if_pos (by omega), if_pos (by omega)]
    have : ∀ p q k : Nat, p ^^^ k ^^^ (q ^^^ k) = p ^^^ q := fun p q k => by
      rw [Nat.xor_assoc, Nat.xor_comm q k, ← Nat.xor_assoc k k q, Nat.xor_self, Nat.zero_xor]
    rw [this]
theorem steps_xor (n a b : Nat) : steps n (a ^^^ b) = steps n a ^^^ steps n b := by
  induction n generalizing a b with
  | zero => rfl
  | succ n ih => unfold steps; rw [step_xor, ih]
theorem steps_add (m n v : Nat) : steps (m + n) v = steps n (steps m v) := by
  induction m generalizing v with
  | zero => rw [Nat.zero_add]; rfl
  | succ m ih => rw [Nat.succ_add]; exact ih (step v)
theorem steps_succ (n v : Nat) : steps (n + 1) v = step (steps n v) := by rw [steps_add]; rfl
theorem step_zero : step 0 = 0 := rfl
theorem steps_zero (n : Nat) : steps n 0 = 0 := by
  induction n with
  | zero => rfl
  | succ n ih => exact ih
theorem step_null {v : Nat} (h : v < 4294967296) (h0 : step v = 0) : v = 0 := by
  unfold step at h0
  split at h0
  · rename_i h1
    exfalso
    have h2 : v / 2 = 3988292384 := by
      have := congrArg (· ^^^ 3988292384) h0
      simp only [Nat.xor_assoc, Nat.xor_self, Nat.xor_zero, Nat.zero_xor] at this
      exact this
    omega
  · omega
theorem steps_null {n v : Nat} (h : v < 4294967296) (h0 : steps n v = 0) : v = 0 := by
  induction n generalizing v with
  | zero => exact h0
  | succ n ih => exact step_null h (ih (step_lt h) h0)
theorem step_even (y : Nat) : step (2 * y) = y := by
  unfold step
  rw [if_neg (by omega)]
  omega
theorem steps_low (y : Nat) : steps 8 (256 * y) = y := by
  have h : ∀ z, step (2 * z) = z := step_even
  show step (step (step (step (step (step (step (step (256 * y)))))))) = y
  rw [show 256 * y = 2 * (2 * (2 * (2 * (2 * (2 * (2 * (2 * y))))))) by omega]
  simp only [h]

/-- the sum's state behind bytes -/
def crc (v : Nat) : List UInt8 → Nat
  | [] => v
  | c :: l => crc (steps 8 (v ^^^ c.toNat)) l
def sum (l : List UInt8) : Nat := crc 4294967295 l ^^^ 4294967295
def join (a b : Nat) (n : Int) : Nat := if n < 0 ∨ 4096 < n then 0 else steps (8 * n.toNat) a ^^^ b

theorem u8_32 (c : UInt8) : c.toNat < 4294967296 := by have := c.toNat_lt; omega
theorem xor32 {a b : Nat} (ha : a < 4294967296) (hb : b < 4294967296) : a ^^^ b < 4294967296 := Nat.xor_lt_two_pow (n := 32) ha hb
theorem crc_lt {v : Nat} {l : List UInt8} (h : v < 4294967296) : crc v l < 4294967296 := by
  induction l generalizing v with
  | nil => exact h
  | cons c l ih => exact ih (steps_lt (xor32 h (u8_32 c)))
theorem sum_lt (l : List UInt8) : sum l < 4294967296 := xor32 (crc_lt (by omega)) (by omega)
theorem crc_append (v : Nat) (l m : List UInt8) : crc v (l ++ m) = crc (crc v l) m := by
  induction l generalizing v with
  | nil => rfl
  | cons c l ih => exact ih _
theorem crc_snoc (v : Nat) (l : List UInt8) (c : UInt8) : crc v (l ++ [c]) = steps 8 (crc v l ^^^ c.toNat) := by rw [crc_append]; rfl
theorem crc_xor (v u : Nat) (l : List UInt8) : crc (v ^^^ u) l = crc v l ^^^ steps (8 * l.length) u := by
  induction l generalizing v u with
  | nil => rfl
  | cons c l ih =>
    show crc (steps 8 (v ^^^ u ^^^ c.toNat)) l = crc (steps 8 (v ^^^ c.toNat)) l ^^^ _
    have e : v ^^^ u ^^^ c.toNat = v ^^^ c.toNat ^^^ u := by rw [Nat.xor_assoc, Nat.xor_comm u, ← Nat.xor_assoc]
    rw [e, steps_xor, ih, List.length_cons, show 8 * (l.length + 1) = 8 + 8 * l.length by omega, steps_add]
theorem sum_append (a b : List UInt8) : sum (a ++ b) = steps (8 * b.length) (sum a) ^^^ sum b := by
  unfold sum
  have e : crc 4294967295 a = 4294967295 ^^^ (crc 4294967295 a ^^^ 4294967295) := by
    rw [Nat.xor_comm (crc _ _), ← Nat.xor_assoc, Nat.xor_self, Nat.zero_xor]
  rw [crc_append, e, crc_xor, ← e, Nat.xor_comm (crc 4294967295 b), Nat.xor_assoc]
theorem sum_behind {a b : List UInt8} (h : b.length ≤ 4096) : sum (a ++ b) = join (sum a) (sum b) b.length := by
  rw [sum_append]
  unfold join
  rw [if_neg (by omega), Int.toNat_natCast]
theorem join_groups {a b c : Nat} {n m : Int} (hn : 0 ≤ n) (hm : 0 ≤ m) (h : n + m ≤ 4096) : join (join a b n) c m = join a (join b c m) (n + m) := by
  unfold join
  rw [if_neg (by omega), if_neg (by omega), if_neg (by omega), if_neg (by omega), steps_xor, ← steps_add, Nat.xor_assoc]
  congr 2
  omega
theorem join_zero {b : Nat} {n : Int} (hn : 0 ≤ n) (h : n ≤ 4096) : join 0 b n = b := by
  unfold join
  rw [if_neg (by omega), steps_zero, Nat.zero_xor]
theorem join_lt {a b : Nat} {n : Int} (ha : a < 4294967296) (hb : b < 4294967296) : join a b n < 4294967296 := by
  unfold join
  split
  · omega
  · exact xor32 (steps_lt ha) hb

/-! ### texts put on each other -/
def zx (l m : List UInt8) : List UInt8 := List.zipWith (· ^^^ ·) l m
theorem crc_zx (u v : Nat) (l m : List UInt8) (h : l.length = m.length) : crc (u ^^^ v) (zx l m) = crc u l ^^^ crc v m := by
  induction l generalizing u v m with
  | nil =>
    cases m with
    | nil => rfl
    | cons d m => simp at h
  | cons c l ih =>
    cases m with
    | nil => simp at h
    | cons d m =>
      show crc (steps 8 (u ^^^ v ^^^ (c ^^^ d).toNat)) (zx l m) = crc (steps 8 (u ^^^ c.toNat)) l ^^^ crc (steps 8 (v ^^^ d.toNat)) m
      rw [← ih _ _ m (by simpa using h), ← steps_xor, UInt8.toNat_xor]
      congr 2
      rw [Nat.xor_assoc, Nat.xor_assoc]
      congr 1
      rw [← Nat.xor_assoc, ← Nat.xor_assoc, Nat.xor_comm v]
theorem zx_length {l m : List UInt8} (h : l.length = m.length) : (zx l m).length = l.length := by simp [zx, h]
theorem sum_even {a b c : List UInt8} (h1 : a.length = b.length) (h2 : b.length = c.length) : sum (zx (zx a b) c) = sum a ^^^ sum b ^^^ sum c := by
  have h := crc_zx (4294967295 ^^^ 4294967295) 4294967295 (zx a b) c (by rw [zx_length h1]; omega)
  rw [crc_zx 4294967295 4294967295 a b h1, Nat.xor_self, Nat.zero_xor] at h
  unfold sum
  rw [h]
  generalize crc 4294967295 a = x
  generalize crc 4294967295 b = y
  generalize crc 4294967295 c = z
  have e : ∀ k : Nat, x ^^^ y ^^^ z ^^^ k = x ^^^ k ^^^ (y ^^^ k) ^^^ (z ^^^ k) := fun k => by
    rw [Nat.xor_assoc x k, ← Nat.xor_assoc k y k, Nat.xor_comm k y, Nat.xor_assoc y k k, Nat.xor_self, Nat.xor_zero, ← Nat.xor_assoc]
  exact e _

/-! ### up to four bytes that follow each other -/
def le : List UInt8 → Nat
  | [] => 0
  | c :: l => c.toNat + 256 * le l
theorem le_lt (l : List UInt8) : le l < 256 ^ l.length := by
  induction l with
  | nil => simp [le]
  | cons c l ih =>
    rw [le, List.length_cons, Nat.pow_succ]
    have := c.toNat_lt
    omega
theorem le_null {l : List UInt8} : le l = 0 ↔ ∀ c ∈ l, c = 0 := by
  induction l with
  | nil => simp [le]
  | cons c l ih =>
    rw [le]
    constructor
    · intro h
      have h1 : c.toNat = 0 := by omega
      have h2 := ih.1 (by omega)
      intro d hd
      rcases List.mem_cons.1 hd with rfl | hd
      · exact UInt8.toNat_inj.1 h1
      · exact h2 d hd
    · intro h
      have h1 : c = 0 := h c (by simp)
      have h2 := ih.2 fun d hd => h d (by simp [hd])
      subst h1
      rw [h2]
      rfl
theorem add_xor (c : UInt8) (y : Nat) : c.toNat + 256 * y = 256 * y ^^^ c.toNat := by
  have hc := c.toNat_lt
  have h1 := Nat.two_pow_add_eq_or_of_lt (i := 8) (b := c.toNat) hc y
  have e8 : (2 : Nat) ^ 8 = 256 := by decide
  rw [e8] at h1
  rw [Nat.add_comm, h1]
  apply Nat.eq_of_testBit_eq
  intro i
  rw [Nat.testBit_or, Nat.testBit_xor]
  by_cases hi : i < 8
  · have : (256 * y).testBit i = false := by rw [← e8, Nat.testBit_two_pow_mul]; simp; omega
    rw [this]; simp
  · have : c.toNat.testBit i = false := Nat.testBit_lt_two_pow (Nat.lt_of_lt_of_le hc (Nat.pow_le_pow_right (by omega) (by omega)))
    rw [this]; simp
theorem crc_le (l : List UInt8) : crc 0 l = steps (8 * l.length) (le l) := by
  induction l with
  | nil => rfl
  | cons c l ih =>
    show crc (steps 8 (0 ^^^ c.toNat)) l = _
    have h := crc_xor 0 (steps 8 c.toNat) l
    rw [Nat.zero_xor] at h
    rw [Nat.zero_xor, h, ih, le, add_xor, List.length_cons, show 8 * (l.length + 1) = 8 + 8 * l.length by omega, steps_add, steps_xor 8, steps_low, steps_xor]
theorem crc_zeros (v k : Nat) : crc v (List.replicate k 0) = steps (8 * k) v := by
  induction k generalizing v with
  | zero => rfl
  | succ k ih =>
    show crc (steps 8 (v ^^^ (0 : UInt8).toNat)) (List.replicate k 0) = _
    rw [ih, show 8 * (k + 1) = 8 + 8 * k by omega, steps_add]
    simp
/-- the sum of bytes on which others have been put, in a stretch of at most four -/
theorem sum_burst {b ds : List UInt8} {i k : Nat} (hl : b.length = i + ds.length + k) (h4 : ds.length ≤ 4) :
    sum (zx b (List.replicate i 0 ++ ds ++ List.replicate k 0)) = sum b ↔ ∀ c ∈ ds, c = 0 := by
  have h := crc_zx 4294967295 0 b (List.replicate i 0 ++ ds ++ List.replicate k 0) (by simp; omega)
  rw [Nat.xor_zero] at h
  unfold sum
  rw [h, crc_append, crc_append, crc_zeros 0 i, steps_zero, crc_le, crc_zeros, ← le_null]
  have hle : le ds < 4294967296 := by
    have h1 := le_lt ds
    have h2 : 256 ^ ds.length ≤ 256 ^ 4 := Nat.pow_le_pow_right (by omega) h4
    omega
  constructor
  · intro e
    have e1 := congrArg (· ^^^ 4294967295) e
    simp only [Nat.xor_assoc, Nat.xor_self, Nat.xor_zero] at e1
    have e2 : steps (8 * k) (steps (8 * ds.length) (le ds)) = 0 := by
      have e3 := congrArg (crc 4294967295 b ^^^ ·) e1
      simp only [← Nat.xor_assoc, Nat.xor_self, Nat.zero_xor] at e3
      exact e3
    rw [← steps_add] at e2
    exact steps_null hle e2
  · intro e
    rw [e, steps_zero, steps_zero, Nat.xor_zero]

/-! ### what is sealed, and opened -/
def sealB (l : List UInt8) : List UInt8 := l ++ beN (sum l) 4 4
/-- what Open tells: the bytes, and the error's number -/
def openB (l : List UInt8) : List UInt8 × Int :=
  if l.length < 4 then ([], 10) else if l.drop (l.length - 4) = beN (sum (l.take (l.length - 4))) 4 4 then (l.take (l.length - 4), 0) else ([], 20)
theorem sealB_length (l : List UInt8) : (sealB l).length = l.length + 4 := by simp [sealB, beN_length]
theorem openB_sealB (l : List UInt8) : openB (sealB l) = (l, 0) := by
  unfold openB
  rw [sealB_length, if_neg (by omega), Nat.add_sub_cancel]
  unfold sealB
  rw [List.drop_left, List.take_left, if_pos rfl]
theorem openB_ok {l x : List UInt8} (h : openB l = (x, 0)) : sealB x = l ∧ x.length + 4 = l.length := by
  unfold openB at h
  split at h
  · simp at h
  · split at h
    · rename_i h1 h2
      simp only [Prod.mk.injEq, and_true] at h
      subst h
      unfold sealB
      rw [← h2, List.take_append_drop]
      refine ⟨rfl, by rw [List.length_take]; omega⟩
    · simp at h
theorem openB_cases (l : List UInt8) : openB l = ([], 10) ∧ l.length < 4 ∨ openB l = ([], 20) ∧ 4 ≤ l.length ∨ (openB l = (l.take (l.length - 4), 0) ∧ 4 ≤ l.length) := by
  unfold openB
  split
  · exact Or.inl ⟨rfl, by assumption⟩
  · split
    · exact Or.inr (Or.inr ⟨rfl, by omega⟩)
    · exact Or.inr (Or.inl ⟨rfl, by omega⟩)
/-- of a text x that stands ahead of another one's sum -/
theorem openB_other {x b : List UInt8} : openB (x ++ beN (sum b) 4 4) = if sum x = sum b then (x, 0) else ([], 20) := by
  unfold openB
  rw [List.length_append, beN_length, if_neg (by omega), Nat.add_sub_cancel, List.drop_left, List.take_left]
  by_cases h : sum x = sum b
  · rw [if_pos h, if_pos (by rw [h])]
  · rw [if_neg h, if_neg]
    intro e
    have e2 := congrArg getN e
    rw [getN_be, getN_be, Nat.mod_eq_of_lt (sum_lt b), Nat.mod_eq_of_lt (sum_lt x)] at e2
    exact h e2.symm
end Go.Proofs.YthhdhdjdhekgpaaDoor.Crc

/- What a call of layer 2 leaves, in the words of layer 1. -/
namespace Go.Proofs.YthhdhdjdhekgpaaDoor.Crc
open Go.RowKit Go.Proofs.YthhdhdjdhekgpaaDoor.Oct

/-- bytes and an error's number -/
def OPr (e : TypeId) (base : Nat) (w : World) (l : List UInt8) (z : Int) (en : Ending) (w' : World) : Prop :=
  ∃ A n c, en = .returned (.tuple #[.slice A n c, .int .i64 z]) ∧ OwnB w' e base (.slice A n c) n l ∧ Below base w w'
/-- a number of 32 bits -/
def N32 (w : World) (v : Nat) (en : Ending) (w' : World) : Prop := en = .returned (.int .u32 (v : Int)) ∧ Below w.heap.size w w'
/-- a block that the call has just laid, of known bytes -/
theorem own_lit (w : World) (e : TypeId) (l : List UInt8) (n : Nat) (hn : l.length = n) (h : n ≤ 1099511627776) : OwnB (w.alloc (.cells (l.map bv).toArray e)) e w.heap.size (.slice (some ⟨w.heap.size, 0, none⟩) n n) n l := by
  subst hn
  have h1 := World.ownsRow_lit (base := w.heap.size) (e := e) (size := 1) w (l.map bv).toArray l.length (Nat.le_refl _) (by unfold maxLen; omega) (by simp)
  simpa [OwnB] using h1
/-- a block of known bytes reads, whatever is frozen in it -/
theorem rd_lit (w : World) (e : TypeId) (fr : Nat × Nat) (l : List UInt8) (n : Nat) (hn : l.length = n) : Rd (w.alloc (.cells (l.map bv).toArray e fr)) (w.heap.size + 1) (some ⟨w.heap.size, 0, none⟩) n l := by
  refine ⟨hn, fun k d hd => ⟨w.heap.size, 0, rfl, by omega, ?_⟩⟩
  rw [cell_of_row _ _ _ _ e fr (heap_alloc_new w _)]
  simp [hd, bv]
end Go.Proofs.YthhdhdjdhekgpaaDoor.Crc
