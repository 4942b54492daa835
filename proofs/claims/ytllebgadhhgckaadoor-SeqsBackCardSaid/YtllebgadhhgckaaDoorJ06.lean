/- Joined: RecMath, RecMath2, CrcMath. -/
import Derived.Test.YtllebgadhhgckaaDoorJ05
import Derived.Test.YtllebgadhhgckaaDoorJ00
/- The plain mathematics of layer 3: a record, its bytes, what bytes tell. Nothing of the program. -/
namespace Go.Proofs.YtllebgadhhgckaaDoor.Rec
open Oct

structure Rc where
  off : Int
  key : ByteArray
  val : ByteArray
  dead : Bool
  stamp : Int

def inR (n : Int) : Bool := decide (0 ≤ n ∧ n ≤ 1099511627776)
theorem inR_iff {n : Int} : inR n = true ↔ 0 ≤ n ∧ n ≤ 1099511627776 := by simp [inR]
def may (r : Rc) : Bool := decide ((0 ≤ r.off ∧ r.off ≤ 1099511627776) ∧ (0 ≤ r.stamp ∧ r.stamp ≤ 1099511627776) ∧ r.key.size ≤ 64 ∧ r.val.size ≤ 64 ∧ (r.dead = true → r.key.size ≠ 0 ∧ r.val.size = 0))
theorem may_iff {r : Rc} : may r = true ↔ (0 ≤ r.off ∧ r.off ≤ 1099511627776) ∧ (0 ≤ r.stamp ∧ r.stamp ≤ 1099511627776) ∧ r.key.size ≤ 64 ∧ r.val.size ≤ 64 ∧ (r.dead = true → r.key.size ≠ 0 ∧ r.val.size = 0) := by unfold may; exact decide_eq_true_iff
def nil : Rc := ⟨0, ByteArray.empty, ByteArray.empty, false, 0⟩
def tx (s : ByteArray) : List UInt8 := vb (zz s.size) ++ s.data.toList
def fl (d : Bool) : UInt8 := if d then 1 else 0
def rb (r : Rc) (base stamp : Int) : List UInt8 := vb (zz (r.off - base)) ++ vb (zz (r.stamp - stamp)) ++ [fl r.dead] ++ tx r.key ++ tx r.val
def pt (r : Rc) (base stamp : Int) : List UInt8 × Int := if may r && inR base && inR stamp then (rb r base stamp, 0) else ([], 1)
def bes (n d : Int) : Int := if d < -1099511627776 ∨ 1099511627776 < d ∨ inR (n + d) = false then -1 else n + d
def gr (l : List UInt8) (p base stamp : Int) : Rc × Int × Int :=
  if inR base && inR stamp && decide (0 ≤ p ∧ p ≤ l.length) then
    if (gv l p).2.2 ≠ 0 then (nil, 0, (gv l p).2.2)
    else if (gv l (gv l p).2.1).2.2 ≠ 0 then (nil, 0, (gv l (gv l p).2.1).2.2)
    else match l[(gv l (gv l p).2.1).2.1.toNat]? with
      | none => (nil, 0, 10)
      | some c =>
        if 1 < c.toNat then (nil, 0, 11)
        else if (gx l ((gv l (gv l p).2.1).2.1 + 1) 64).2.2 ≠ 0 then (nil, 0, (gx l ((gv l (gv l p).2.1).2.1 + 1) 64).2.2)
        else if (gx l (gx l ((gv l (gv l p).2.1).2.1 + 1) 64).2.1 64).2.2 ≠ 0 then (nil, 0, (gx l (gx l ((gv l (gv l p).2.1).2.1 + 1) 64).2.1 64).2.2)
        else if may ⟨bes base (gv l p).1, (gx l ((gv l (gv l p).2.1).2.1 + 1) 64).1, (gx l (gx l ((gv l (gv l p).2.1).2.1 + 1) 64).2.1 64).1, c == 1, bes stamp (gv l (gv l p).2.1).1⟩ then
          (⟨bes base (gv l p).1, (gx l ((gv l (gv l p).2.1).2.1 + 1) 64).1, (gx l (gx l ((gv l (gv l p).2.1).2.1 + 1) 64).2.1 64).1, c == 1, bes stamp (gv l (gv l p).2.1).1⟩, (gx l (gx l ((gv l (gv l p).2.1).2.1 + 1) 64).2.1 64).2.1, 0)
        else (nil, 0, 1)
  else (nil, 0, 1)

theorem size_list (s : ByteArray) : s.data.toList.length = s.size := by rw [Array.length_toList]; rfl
theorem tx_length (s : ByteArray) : (tx s).length = (vb (zz s.size)).length + s.size := by rw [tx, List.length_append, size_list]

theorem gr_fields {l : List UInt8} {p base stamp : Int} (hb : inR base = true) (hs : inR stamp = true) (hp : 0 ≤ p ∧ p ≤ l.length) {d i s j : Int} {c : UInt8} {k v : ByteArray} {m n : Int}
    (h1 : gv l p = (d, i, 0)) (h2 : gv l i = (s, j, 0)) (h3 : l[j.toNat]? = some c) (h4 : ¬ 1 < c.toNat) (h5 : gx l (j + 1) 64 = (k, m, 0)) (h6 : gx l m 64 = (v, n, 0)) :
    gr l p base stamp = if may ⟨bes base d, k, v, c == 1, bes stamp s⟩ then (⟨bes base d, k, v, c == 1, bes stamp s⟩, n, 0) else (nil, 0, 1) := by
  unfold gr
  rw [hb, hs]
  simp only [h1, h2, h3, h5, h6, Bool.true_and]
  rw [if_pos (by simpa using hp), if_neg (by simp), if_neg (by simp), if_neg h4, if_neg (by simp), if_neg (by simp)]

theorem bes_diff {n b : Int} (hn : 0 ≤ n ∧ n ≤ 1099511627776) (hb : 0 ≤ b ∧ b ≤ 1099511627776) : bes b (n - b) = n := by
  unfold bes
  have e : b + (n - b) = n := by omega
  rw [e, if_neg]
  simp [inR]
  omega
theorem fl_one (d : Bool) : (fl d == 1) = d := by cases d <;> rfl
theorem fl_small (d : Bool) : ¬ 1 < (fl d).toNat := by cases d <;> decide

theorem gr_rb {r : Rc} {base stamp : Int} (hm : may r = true) (hb : inR base = true) (hs : inR stamp = true) (h t : List UInt8) :
    gr (h ++ rb r base stamp ++ t) (h.length : Int) base stamp = (r, (h.length : Int) + ((rb r base stamp).length : Int), 0) := by
  obtain ⟨m1, m2, m3, m4, m5⟩ := may_iff.1 hm
  have b1 := inR_iff.1 hb
  have b2 := inR_iff.1 hs
  have e1 : h ++ rb r base stamp ++ t = h ++ vb (zz (r.off - base)) ++ (vb (zz (r.stamp - stamp)) ++ [fl r.dead] ++ tx r.key ++ tx r.val ++ t) := by simp [rb, List.append_assoc]
  have e2 : h ++ rb r base stamp ++ t = (h ++ vb (zz (r.off - base))) ++ vb (zz (r.stamp - stamp)) ++ ([fl r.dead] ++ tx r.key ++ tx r.val ++ t) := by simp [rb, List.append_assoc]
  have e3 : h ++ rb r base stamp ++ t = (h ++ vb (zz (r.off - base)) ++ vb (zz (r.stamp - stamp))) ++ (fl r.dead :: (tx r.key ++ tx r.val ++ t)) := by simp [rb, List.append_assoc]
  have e4 : h ++ rb r base stamp ++ t = (h ++ vb (zz (r.off - base)) ++ vb (zz (r.stamp - stamp)) ++ [fl r.dead]) ++ vb (zz r.key.size) ++ r.key.data.toList ++ (tx r.val ++ t) := by simp [rb, tx, List.append_assoc]
  have e5 : h ++ rb r base stamp ++ t = (h ++ vb (zz (r.off - base)) ++ vb (zz (r.stamp - stamp)) ++ [fl r.dead] ++ tx r.key) ++ vb (zz r.val.size) ++ r.val.data.toList ++ t := by simp [rb, tx, List.append_assoc]
  have g1 := gv_at h (vb (zz (r.stamp - stamp)) ++ [fl r.dead] ++ tx r.key ++ tx r.val ++ t) (r.off - base) (by omega)
  rw [← e1] at g1
  have g2 := gv_at (h ++ vb (zz (r.off - base))) ([fl r.dead] ++ tx r.key ++ tx r.val ++ t) (r.stamp - stamp) (by omega)
  rw [← e2] at g2
  have g4 := gx_at (h ++ vb (zz (r.off - base)) ++ vb (zz (r.stamp - stamp)) ++ [fl r.dead]) (tx r.val ++ t) r.key 64 (by omega) (by omega)
  rw [← e4] at g4
  have g5 := gx_at (h ++ vb (zz (r.off - base)) ++ vb (zz (r.stamp - stamp)) ++ [fl r.dead] ++ tx r.key) t r.val 64 (by omega) (by omega)
  rw [← e5] at g5
  have g3 : (h ++ rb r base stamp ++ t)[((h ++ vb (zz (r.off - base)) ++ vb (zz (r.stamp - stamp))).length : Int).toNat]? = some (fl r.dead) := by
    rw [e3, Int.toNat_natCast, List.getElem?_append_right (Nat.le_refl _), Nat.sub_self]; rfl
  simp only [List.length_append, Int.natCast_add, List.length_singleton] at g1 g2 g3 g4 g5
  have hf := gr_fields (l := h ++ rb r base stamp ++ t) (p := (h.length : Int)) hb hs (by simp only [List.length_append, Int.natCast_add]; omega) g1 g2 g3 (fl_small _) g4 (by
    rw [tx_length] at g5
    simp only [Int.natCast_add] at g5
    have e : (h.length : Int) + ((vb (zz (r.off - base))).length : Int) + ((vb (zz (r.stamp - stamp))).length : Int) + ((1 : Nat) : Int) + (((vb (zz (r.key.size : Int))).length : Int) + (r.key.size : Int)) = (h.length : Int) + ((vb (zz (r.off - base))).length : Int) + ((vb (zz (r.stamp - stamp))).length : Int) + ((1 : Nat) : Int) + ((vb (zz (r.key.size : Int))).length : Int) + (r.key.size : Int) := by omega
    rw [e] at g5
    exact g5)
  rw [hf, bes_diff m1 b1, bes_diff m2 b2, fl_one]
  have hr : (⟨r.off, r.key, r.val, r.dead, r.stamp⟩ : Rc) = r := rfl
  rw [hr, if_pos hm]
  congr 2
  unfold rb
  simp only [List.length_append, tx_length, List.length_singleton, Int.natCast_add]
  omega
end Go.Proofs.YtllebgadhhgckaaDoor.Rec

/- More plain mathematics of layer 3: what is told was put; cut short it is none; moved alike; how long. Nothing of the program. -/
namespace Go.Proofs.YtllebgadhhgckaaDoor.Rec
open Oct

theorem seg_join (l : List UInt8) {a b c : Int} (h0 : 0 ≤ a) (h1 : a ≤ b) (h2 : b ≤ c) :
    (l.drop a.toNat).take (b - a).toNat ++ (l.drop b.toNat).take (c - b).toNat = (l.drop a.toNat).take (c - a).toNat := by
  have e1 : (c - a).toNat = (b - a).toNat + (c - b).toNat := by omega
  have e2 : b.toNat = a.toNat + (b - a).toNat := by omega
  rw [e1, List.take_add, e2, List.drop_drop]

theorem bes_in {n d : Int} (h : 0 ≤ bes n d) : bes n d = n + d := by
  unfold bes at h ⊢
  split at h
  · omega
  · rename_i hh; rw [if_neg hh]

theorem fl_back {c : UInt8} (h : ¬ 1 < c.toNat) : fl (c == 1) = c := by
  have e : c.toNat = 0 ∨ c.toNat = 1 := by omega
  rcases e with e | e
  · have : c = 0 := UInt8.toNat.inj e
    subst this; rfl
  · have : c = 1 := UInt8.toNat.inj e
    subst this; rfl

theorem gr_good {l : List UInt8} {p base stamp n : Int} {r : Rc} (h : gr l p base stamp = (r, n, 0)) :
    inR base = true ∧ inR stamp = true ∧ may r = true ∧ 0 ≤ p ∧ p < n ∧ n ≤ l.length ∧ rb r base stamp = (l.drop p.toNat).take (n - p).toNat := by
  unfold gr at h
  by_cases hc : (inR base && inR stamp && decide (0 ≤ p ∧ p ≤ l.length)) = true
  case neg => rw [if_neg hc] at h; simp at h
  rw [if_pos hc] at h
  simp only [Bool.and_eq_true, decide_eq_true_eq] at hc
  obtain ⟨⟨hb, hs⟩, hp⟩ := hc
  rcases g1 : gv l p with ⟨d, i, x1⟩
  simp only [g1] at h
  by_cases h1 : x1 = 0
  case neg => rw [if_pos h1] at h; simp only [Prod.mk.injEq] at h; exact absurd h.2.2 h1
  rw [if_neg (by simpa using h1)] at h
  subst h1
  rcases g2 : gv l i with ⟨s, j, x2⟩
  simp only [g2] at h
  by_cases h2 : x2 = 0
  case neg => rw [if_pos h2] at h; simp only [Prod.mk.injEq] at h; exact absurd h.2.2 h2
  rw [if_neg (by simpa using h2)] at h
  subst h2
  cases g3 : l[j.toNat]? with
  | none => rw [g3] at h; simp at h
  | some c =>
    rw [g3] at h
    simp only at h
    by_cases h3 : 1 < c.toNat
    · rw [if_pos h3] at h; simp at h
    rw [if_neg h3] at h
    rcases g4 : gx l (j + 1) 64 with ⟨k, m, x3⟩
    simp only [g4] at h
    by_cases h4 : x3 = 0
    case neg => rw [if_pos h4] at h; simp only [Prod.mk.injEq] at h; exact absurd h.2.2 h4
    rw [if_neg (by simpa using h4)] at h
    subst h4
    rcases g5 : gx l m 64 with ⟨v, q, x4⟩
    simp only [g5] at h
    by_cases h5 : x4 = 0
    case neg => rw [if_pos h5] at h; simp only [Prod.mk.injEq] at h; exact absurd h.2.2 h5
    rw [if_neg (by simpa using h5)] at h
    subst h5
    by_cases hm : may ⟨bes base d, k, v, c == 1, bes stamp s⟩ = true
    case neg => rw [if_neg hm] at h; simp at h
    rw [if_pos hm] at h
    simp only [Prod.mk.injEq, and_true] at h
    obtain ⟨hr, hn⟩ := h
    subst hr hn
    obtain ⟨m1, m2, m3, m4, m5⟩ := may_iff.1 hm
    simp only at m1 m2
    obtain ⟨a1, a2, a3, a4, a5, a6, a7⟩ := gv_good g1
    obtain ⟨b1, b2, b3, b4, b5, b6, b7⟩ := gv_good g2
    obtain ⟨c1, c2, c3, c4, c5, c6⟩ := gx_good g4
    obtain ⟨d1, d2, d3, d4, d5, d6⟩ := gx_good g5
    refine ⟨hb, hs, hm, a1, by omega, d3, ?_⟩
    have e3 : [c] = (l.drop j.toNat).take (j + 1 - j).toNat := by
      have : (j + 1 - j).toNat = 1 := by omega
      rw [this, drop_at g3]; rfl
    unfold rb
    simp only
    rw [bes_in m1.1, bes_in m2.1, show base + d - base = d by omega, show stamp + s - stamp = s by omega, fl_back h3, tx, tx, a5, b5, c5, d5, e3]
    rw [seg_join l (by omega) (by omega) (by omega), seg_join l (by omega) (by omega) (by omega), seg_join l (by omega) (by omega) (by omega), seg_join l (by omega) (by omega) (by omega)]

theorem vb_len {x : Int} (h : -1099511627776 ≤ x ∧ x ≤ 1099511627776) : 1 ≤ (vb (zz x)).length ∧ (vb (zz x)).length ≤ 6 := by
  have h1 := vb_pos (zz x)
  have h2 := vb_le 5 (zz x) (by unfold zz; split <;> omega)
  omega
theorem tx_len {s : ByteArray} (h : s.size ≤ 64) : s.size + 1 ≤ (tx s).length ∧ (tx s).length ≤ s.size + 2 := by
  rw [tx_length]
  have h1 := vb_pos (zz s.size)
  have h2 := vb_le 1 (zz s.size) (by unfold zz; split <;> omega)
  omega
theorem rb_len (r : Rc) (base stamp : Int) : (rb r base stamp).length = (vb (zz (r.off - base))).length + (vb (zz (r.stamp - stamp))).length + 1 + (tx r.key).length + (tx r.val).length := by
  unfold rb; simp only [List.length_append, List.length_singleton]
theorem rb_size {r : Rc} {base stamp : Int} (hm : may r = true) (hb : inR base = true) (hs : inR stamp = true) :
    5 ≤ (rb r base stamp).length ∧ (rb r base stamp).length ≤ 145 ∧ r.key.size + r.val.size + 5 ≤ (rb r base stamp).length ∧ (rb r base stamp).length ≤ r.key.size + r.val.size + 17 ∧
    (rb ⟨r.off, ByteArray.empty, ByteArray.empty, false, r.stamp⟩ base stamp).length + (r.key.size + r.val.size) ≤ (rb r base stamp).length ∧ (rb r base stamp).length ≤ (rb ⟨r.off, ByteArray.empty, ByteArray.empty, false, r.stamp⟩ base stamp).length + (r.key.size + r.val.size) + 2 := by
  obtain ⟨m1, m2, m3, m4, m5⟩ := may_iff.1 hm
  have b1 := inR_iff.1 hb
  have b2 := inR_iff.1 hs
  have l1 := vb_len (x := r.off - base) (by omega)
  have l2 := vb_len (x := r.stamp - stamp) (by omega)
  have l3 := tx_len m3
  have l4 := tx_len m4
  have l0 : (tx ByteArray.empty).length = 1 := by rw [tx_length]; rw [vb_small (by decide)]; rfl
  rw [rb_len, rb_len]
  simp only [l0]
  omega
end Go.Proofs.YtllebgadhhgckaaDoor.Rec

/- The plain mathematics of layer 2: one step, sums, what is joined, sealed and opened. Nothing of the program. -/
namespace Go.Proofs.YtllebgadhhgckaaDoor.Crc
open Oct

def step (v : Nat) : Nat := if v % 2 = 1 then (v / 2) ^^^ 3988292384 else v / 2
def steps : Nat → Nat → Nat
  | 0, v => v
  | n + 1, v => steps n (step v)

theorem step_lt {v : Nat} (h : v < 4294967296) : step v < 4294967296 := by
  unfold step
  split
  · exact Nat.xor_lt_two_pow (n := 32) (by omega) (by omega)
  · omega
theorem steps_lt {n v : Nat} (h : v < 4294967296) : steps n v < 4294967296 := by
  induction n generalizing v with
  | zero => exact h
  | succ n ih => exact ih (step_lt h)
theorem step_xor (a b : Nat) : step (a ^^^ b) = step a ^^^ step b := by
  have hd : (a ^^^ b) / 2 = a / 2 ^^^ b / 2 := Nat.xor_div_two
  have hm : (a ^^^ b) % 2 = (a + b) % 2 := by
    have h := Nat.xor_mod_two_pow (a := a) (b := b) (n := 1)
    simp only [Nat.pow_one] at h
    rw [h]
    rcases Nat.mod_two_eq_zero_or_one a with ha | ha <;> rcases Nat.mod_two_eq_zero_or_one b with hb | hb <;> rw [ha, hb]
    · show 0 = _; omega
    · show 1 = _; omega
    · show 1 = _; omega
    · show 0 = _; omega
  unfold step
  rw [hd, hm]
  rcases Nat.mod_two_eq_zero_or_one a with ha | ha <;> rcases Nat.mod_two_eq_zero_or_one b with hb | hb
  · rw [if_neg (by omega), if_neg (by omega), if_neg (by omega)]
  · rw [if_pos (by omega), if_neg (by omega), if_pos (by omega), Nat.xor_assoc]
  · rw [if_pos (by omega), if_pos (by omega), if_neg (by omega), Nat.xor_assoc, Nat.xor_assoc, Nat.xor_comm 3988292384]
  · rw [if_neg (by omega), if_pos (by omega), if_pos (by omega)]
    have : ∀ p q k : Nat, p ^^^ k ^^^ (q ^^^ k) = p ^^^ q := fun p q k => by
      rw [Nat.xor_assoc, Nat.xor_comm q k, ← Nat.xor_assoc k k q, Nat.xor_self, Nat.zero_xor]
    rw [this]
theorem steps_xor (n a b : Nat) : steps n (a ^^^ b) = steps n a ^^^ steps n b := by
  induction n generalizing a b with
  | zero => rfl
  | succ n ih => unfold steps; rw [step_xor, ih]
theorem steps_add (m n v : Nat) : steps (m + n) v = steps n (steps m v) := by
  induction m generalizing v with
  | zero => rw [Nat.zero_add]; rfl
  | succ m ih => rw [Nat.succ_add]; exact ih (step v)
theorem steps_succ (n v : Nat) : steps (n + 1) v = step (steps n v) := by rw [steps_add]; rfl
theorem steps_zero (n : Nat) : steps n 0 = 0 := by
  induction n with
  | zero => rfl
  | succ n ih => exact ih
theorem step_null {v : Nat} (h : v < 4294967296) (h0 : step v = 0) : v = 0 := by
  unfold step at h0
  split at h0
  · rename_i h1
    exfalso
    have h2 : v / 2 = 3988292384 := by
      have := congrArg (· ^^^ 3988292384) h0
      simp only [Nat.xor_assoc, Nat.xor_self, Nat.xor_zero, Nat.zero_xor] at this
      exact this
    omega
  · omega
theorem steps_null {n v : Nat} (h : v < 4294967296) (h0 : steps n v = 0) : v = 0 := by
  induction n generalizing v with
  | zero => exact h0
  | succ n ih => exact step_null h (ih (step_lt h) h0)
theorem step_even (y : Nat) : step (2 * y) = y := by
  unfold step
  rw [if_neg (by omega)]
  omega
theorem steps_low (y : Nat) : steps 8 (256 * y) = y := by
  have h : ∀ z, step (2 * z) = z := step_even
  show step (step (step (step (step (step (step (step (256 * y)))))))) = y
  rw [show 256 * y = 2 * (2 * (2 * (2 * (2 * (2 * (2 * (2 * y))))))) by omega]
  simp only [h]

def crc (v : Nat) : List UInt8 → Nat
  | [] => v
  | c :: l => crc (steps 8 (v ^^^ c.toNat)) l
def sum (l : List UInt8) : Nat := crc 4294967295 l ^^^ 4294967295
def join (a b : Nat) (n : Int) : Nat := if n < 0 ∨ 4096 < n then 0 else steps (8 * n.toNat) a ^^^ b

theorem u8_32 (c : UInt8) : c.toNat < 4294967296 := by have := c.toNat_lt; omega
theorem xor32 {a b : Nat} (ha : a < 4294967296) (hb : b < 4294967296) : a ^^^ b < 4294967296 := Nat.xor_lt_two_pow (n := 32) ha hb
theorem crc_lt {v : Nat} {l : List UInt8} (h : v < 4294967296) : crc v l < 4294967296 := by
  induction l generalizing v with
  | nil => exact h
  | cons c l ih => exact ih (steps_lt (xor32 h (u8_32 c)))
theorem sum_lt (l : List UInt8) : sum l < 4294967296 := xor32 (crc_lt (by omega)) (by omega)
theorem crc_append (v : Nat) (l m : List UInt8) : crc v (l ++ m) = crc (crc v l) m := by
  induction l generalizing v with
  | nil => rfl
  | cons c l ih => exact ih _
theorem crc_snoc (v : Nat) (l : List UInt8) (c : UInt8) : crc v (l ++ [c]) = steps 8 (crc v l ^^^ c.toNat) := by rw [crc_append]; rfl
theorem crc_xor (v u : Nat) (l : List UInt8) : crc (v ^^^ u) l = crc v l ^^^ steps (8 * l.length) u := by
  induction l generalizing v u with
  | nil => rfl
  | cons c l ih =>
    show crc (steps 8 (v ^^^ u ^^^ c.toNat)) l = crc (steps 8 (v ^^^ c.toNat)) l ^^^ _
    have e : v ^^^ u ^^^ c.toNat = v ^^^ c.toNat ^^^ u := by rw [Nat.xor_assoc, Nat.xor_comm u, ← Nat.xor_assoc]
    rw [e, steps_xor, ih, List.length_cons, show 8 * (l.length + 1) = 8 + 8 * l.length by omega, steps_add]
/-! ### texts put on each other -/
def zx (l m : List UInt8) : List UInt8 := List.zipWith (· ^^^ ·) l m
theorem crc_zx (u v : Nat) (l m : List UInt8) (h : l.length = m.length) : crc (u ^^^ v) (zx l m) = crc u l ^^^ crc v m := by
  induction l generalizing u v m with
  | nil =>
    cases m with
    | nil => rfl
    | cons d m => simp at h
  | cons c l ih =>
    cases m with
    | nil => simp at h
    | cons d m =>
      show crc (steps 8 (u ^^^ v ^^^ (c ^^^ d).toNat)) (zx l m) = crc (steps 8 (u ^^^ c.toNat)) l ^^^ crc (steps 8 (v ^^^ d.toNat)) m
      rw [← ih _ _ m (by simpa using h), ← steps_xor, UInt8.toNat_xor]
      congr 2
      rw [Nat.xor_assoc, Nat.xor_assoc]
      congr 1
      rw [← Nat.xor_assoc, ← Nat.xor_assoc, Nat.xor_comm v]
/-! ### up to four bytes that follow each other -/
def le : List UInt8 → Nat
  | [] => 0
  | c :: l => c.toNat + 256 * le l
theorem le_lt (l : List UInt8) : le l < 256 ^ l.length := by
  induction l with
  | nil => simp [le]
  | cons c l ih =>
    rw [le, List.length_cons, Nat.pow_succ]
    have := c.toNat_lt
    omega
theorem le_null {l : List UInt8} : le l = 0 ↔ ∀ c ∈ l, c = 0 := by
  induction l with
  | nil => simp [le]
  | cons c l ih =>
    rw [le]
    constructor
    · intro h
      have h1 : c.toNat = 0 := by omega
      have h2 := ih.1 (by omega)
      intro d hd
      rcases List.mem_cons.1 hd with rfl | hd
      · exact UInt8.toNat_inj.1 h1
      · exact h2 d hd
    · intro h
      have h1 : c = 0 := h c (by simp)
      have h2 := ih.2 fun d hd => h d (by simp [hd])
      subst h1
      rw [h2]
      rfl
theorem add_xor (c : UInt8) (y : Nat) : c.toNat + 256 * y = 256 * y ^^^ c.toNat := by
  have hc := c.toNat_lt
  have h1 := Nat.two_pow_add_eq_or_of_lt (i := 8) (b := c.toNat) hc y
  have e8 : (2 : Nat) ^ 8 = 256 := by decide
  rw [e8] at h1
  rw [Nat.add_comm, h1]
  apply Nat.eq_of_testBit_eq
  intro i
  rw [Nat.testBit_or, Nat.testBit_xor]
  by_cases hi : i < 8
  · have : (256 * y).testBit i = false := by rw [← e8, Nat.testBit_two_pow_mul]; simp; omega
    rw [this]; simp
  · have : c.toNat.testBit i = false := Nat.testBit_lt_two_pow (Nat.lt_of_lt_of_le hc (Nat.pow_le_pow_right (by omega) (by omega)))
    rw [this]; simp
theorem crc_le (l : List UInt8) : crc 0 l = steps (8 * l.length) (le l) := by
  induction l with
  | nil => rfl
  | cons c l ih =>
    show crc (steps 8 (0 ^^^ c.toNat)) l = _
    have h := crc_xor 0 (steps 8 c.toNat) l
    rw [Nat.zero_xor] at h
    rw [Nat.zero_xor, h, ih, le, add_xor, List.length_cons, show 8 * (l.length + 1) = 8 + 8 * l.length by omega, steps_add, steps_xor 8, steps_low, steps_xor]
theorem crc_zeros (v k : Nat) : crc v (List.replicate k 0) = steps (8 * k) v := by
  induction k generalizing v with
  | zero => rfl
  | succ k ih =>
    show crc (steps 8 (v ^^^ (0 : UInt8).toNat)) (List.replicate k 0) = _
    rw [ih, show 8 * (k + 1) = 8 + 8 * k by omega, steps_add]
    simp
theorem sum_burst {b ds : List UInt8} {i k : Nat} (hl : b.length = i + ds.length + k) (h4 : ds.length ≤ 4) :
    sum (zx b (List.replicate i 0 ++ ds ++ List.replicate k 0)) = sum b ↔ ∀ c ∈ ds, c = 0 := by
  have h := crc_zx 4294967295 0 b (List.replicate i 0 ++ ds ++ List.replicate k 0) (by simp; omega)
  rw [Nat.xor_zero] at h
  unfold sum
  rw [h, crc_append, crc_append, crc_zeros 0 i, steps_zero, crc_le, crc_zeros, ← le_null]
  have hle : le ds < 4294967296 := by
    have h1 := le_lt ds
    have h2 : 256 ^ ds.length ≤ 256 ^ 4 := Nat.pow_le_pow_right (by omega) h4
    omega
  constructor
  · intro e
    have e1 := congrArg (· ^^^ 4294967295) e
    simp only [Nat.xor_assoc, Nat.xor_self, Nat.xor_zero] at e1
    have e2 : steps (8 * k) (steps (8 * ds.length) (le ds)) = 0 := by
      have e3 := congrArg (crc 4294967295 b ^^^ ·) e1
      simp only [← Nat.xor_assoc, Nat.xor_self, Nat.zero_xor] at e3
      exact e3
    rw [← steps_add] at e2
    exact steps_null hle e2
  · intro e
    rw [e, steps_zero, steps_zero, Nat.xor_zero]

/-! ### what is sealed, and opened -/
def sealB (l : List UInt8) : List UInt8 := l ++ beN (sum l) 4 4
def openB (l : List UInt8) : List UInt8 × Int :=
  if l.length < 4 then ([], 10) else if l.drop (l.length - 4) = beN (sum (l.take (l.length - 4))) 4 4 then (l.take (l.length - 4), 0) else ([], 20)
theorem sealB_length (l : List UInt8) : (sealB l).length = l.length + 4 := by simp [sealB, beN_length]
theorem openB_sealB (l : List UInt8) : openB (sealB l) = (l, 0) := by
  unfold openB
  rw [sealB_length, if_neg (by omega), Nat.add_sub_cancel]
  unfold sealB
  rw [List.drop_left, List.take_left, if_pos rfl]
theorem openB_ok {l x : List UInt8} (h : openB l = (x, 0)) : sealB x = l ∧ x.length + 4 = l.length := by
  unfold openB at h
  split at h
  · simp at h
  · split at h
    · rename_i h1 h2
      simp only [Prod.mk.injEq, and_true] at h
      subst h
      unfold sealB
      rw [← h2, List.take_append_drop]
      refine ⟨rfl, by rw [List.length_take]; omega⟩
    · simp at h
theorem openB_cases (l : List UInt8) : openB l = ([], 10) ∧ l.length < 4 ∨ openB l = ([], 20) ∧ 4 ≤ l.length ∨ (openB l = (l.take (l.length - 4), 0) ∧ 4 ≤ l.length) := by
  unfold openB
  split
  · exact Or.inl ⟨rfl, by assumption⟩
  · split
    · exact Or.inr (Or.inr ⟨rfl, by omega⟩)
    · exact Or.inr (Or.inl ⟨rfl, by omega⟩)
end Go.Proofs.YtllebgadhhgckaaDoor.Crc
