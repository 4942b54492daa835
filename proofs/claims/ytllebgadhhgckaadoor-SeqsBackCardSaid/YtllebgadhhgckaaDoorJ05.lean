/- Joined: OctSpec. -/
import Derived.Test.YtllebgadhhgckaaDoorJ00
import Derived.Test.YtllebgadhhgckaaDoorJ01
import Derived.Lib.Hide
import Derived.WalkSpells
import Derived.WalkLawsBesides
import Derived.Laws.OwnMore
/- What layer 1's calls answer, as plain functions, and lemmas of numbers and worlds: nothing of the program but the types' numbers. -/
namespace Go.Proofs.YtllebgadhhgckaaDoor.Oct
open Go.RowKit

def isW (k : Int) : Bool := decide (1 ≤ k ∧ k ≤ 8)

def hasB (n : Nat) (k m : Int) : Bool := decide (k ≤ n ∧ m ≤ n - k)

theorem fold_num (n : Int) (h : -9223372036854775808 ≤ n ∧ n ≤ 9223372036854775807) : bits .xor .u64 (IntKind.u64.wrap (IntKind.u64.wrap n * 2)) (IntKind.u64.wrap (n / 9223372036854775808)) = (zz n : Int) := by
  simp only [IntKind.wrap_u64]
  by_cases h0 : 0 ≤ n
  · have e1 : n / 9223372036854775808 = 0 := by omega
    have e2 : n % 18446744073709551616 * 2 % 18446744073709551616 = (((2 * n).toNat : Nat) : Int) := by omega
    have e3 : (0 : Int) % 18446744073709551616 = ((0 : Nat) : Int) := by omega
    rw [e1, e2, e3, u64_xor_nat _ _ (by omega) (by omega), Nat.xor_zero]
    simp [zz, h0]
  · have e1 : n / 9223372036854775808 % 18446744073709551616 = ((18446744073709551615 : Nat) : Int) := by omega
    have e2 : n % 18446744073709551616 * 2 % 18446744073709551616 = (((2 * n + 18446744073709551616).toNat : Nat) : Int) := by omega
    have hx : ∀ a : Nat, a < 18446744073709551616 → a ^^^ 18446744073709551615 = 18446744073709551615 - a := by
      intro a ha
      have h1 := BitVec.toNat_not (x := BitVec.ofNat 64 a)
      rw [← BitVec.xor_allOnes, BitVec.toNat_xor, BitVec.toNat_ofNat, BitVec.toNat_allOnes] at h1
      rw [Nat.mod_eq_of_lt (by omega)] at h1
      omega
    rw [e1, e2, u64_xor_nat _ _ (by omega) (by omega), hx _ (by omega)]
    simp only [zz, if_neg h0]
    omega

theorem unfold_num (u : Nat) (h : u < 18446744073709551616) : bits .xor .i64 ((u : Int) / 2) (wrap64 (-wrap64 (bits .and .u64 (u : Int) 1))) = uz u := by
  have e1 : bits .and .u64 (u : Int) 1 = ((u % 2 : Nat) : Int) := by
    have := u64_and_nat u 1 h (by omega)
    rw [nat_mask1] at this
    exact this
  rw [e1]
  have e2 : wrap64 (-wrap64 ((u % 2 : Nat) : Int)) = -((u % 2 : Nat) : Int) := by unfold wrap64; omega
  rw [e2]
  have hv : ∀ x : Int, bits .xor .i64 ((u : Int) / 2) x = IntKind.i64.wrap ((BitVec.ofInt 64 ((u : Int) / 2) ^^^ BitVec.ofInt 64 x).toNat : Int) := fun x => rfl
  have ea : (BitVec.ofInt 64 ((u : Int) / 2)).toNat = u / 2 := by
    have : ((u : Int) / 2) = ((u / 2 : Nat) : Int) := by omega
    rw [this]
    exact ofInt_u64 _ (by omega)
  rw [hv]
  unfold uz
  by_cases hu : u % 2 = 0
  · rw [if_pos hu, hu]
    have : BitVec.ofInt 64 (-((0 : Nat) : Int)) = 0#64 := by decide
    rw [this, BitVec.xor_zero, ea]
    exact IntWalk.i64_in _ (by omega)
  · rw [if_neg hu]
    have h1 : u % 2 = 1 := by omega
    rw [h1]
    have : BitVec.ofInt 64 (-((1 : Nat) : Int)) = BitVec.allOnes 64 := by decide
    rw [this, BitVec.xor_allOnes, BitVec.toNat_not, ea, IntKind.wrap_i64]
    omega

theorem or128 (u : Nat) : bits .or .u8 (IntKind.u8.wrap (u : Int)) 128 = ((UInt8.ofNat (u % 128 + 128)).toNat : Int) := by
  have e1 : IntKind.u8.wrap (u : Int) = ((u % 256 : Nat) : Int) := by rw [IntKind.wrap_u8']; omega
  rw [e1, ofNat_toNat' (by omega)]
  have h := u8_or_nat (u % 256) 128 (by omega) (by omega)
  have e : u % 256 ||| 128 = u % 128 + 128 := by
    have h2 : ∀ x : Fin 256, x.val ||| 128 = x.val % 128 + 128 := by decide +kernel
    have := h2 ⟨u % 256, by omega⟩
    simp only at this
    rw [this]
    omega
  rw [e] at h
  exact h

theorem low8 (u : Nat) : IntKind.u8.wrap (u : Int) = ((UInt8.ofNat u).toNat : Int) := by
  rw [IntKind.wrap_u8', UInt8.toNat_ofNat']
  omega

def avRel (base : Nat) (l : List UInt8) (z : Nat) (w : World) (v i : Value) (wr : World) : Prop :=
  ∃ A1 n1 c1 u l1, v = .slice A1 n1 c1 ∧ i = .int .u64 ((u : Nat) : Int) ∧ OwnB wr 5 base (.slice A1 n1 c1) n1 (l ++ l1) ∧ l1 ++ vb u = vb z ∧ u < 18446744073709551616 ∧ Below base w wr

def putRel (base : Nat) (l : List UInt8) (x k : Nat) (w : World) (v i : Value) (wr : World) : Prop :=
  ∃ A1 n1 c1 j, v = .slice A1 n1 c1 ∧ i = .int .i64 ((j : Nat) : Int) ∧ j ≤ k ∧ OwnB wr 5 base (.slice A1 n1 c1) n1 (l ++ beN x k j) ∧ Below base w wr

theorem putByte (x q : Nat) : (x : Int) / 2 ^ (8 * q) % 256 = ((UInt8.ofNat (x / 256 ^ q)).toNat : Int) := by
  rw [UInt8.toNat_ofNat']
  have e : (2 : Int) ^ (8 * q) = ((256 ^ q : Nat) : Int) := by
    rw [Int.pow_mul]
    simp
  rw [e]
  omega

def gv (l : List UInt8) (k : Int) : Int × Int × Int :=
  if k < 0 then (0, 0, 1) else match scan (l.drop k.toNat) 0 0 with
    | .short => (0, 0, 10)
    | .form => (0, 0, 11)
    | .ok u n => (uz u, k + n, 0)

def GV (l : List UInt8) (k : Int) (e : Ending) : Prop := e = .returned (.tuple #[.int .i64 (gv l k).1, .int .i64 (gv l k).2.1, .int .i64 (gv l k).2.2])

theorem GV.neg {l : List UInt8} {k : Int} (h : k < 0) : GV l k (.returned (.tuple #[.int .i64 0, .int .i64 0, .int .i64 1])) := by unfold GV gv; rw [if_pos h]

theorem GV.short {l : List UInt8} {m : Nat} (h : scan (l.drop m) 0 0 = .short) : GV l (m : Int) (.returned (.tuple #[.int .i64 0, .int .i64 0, .int .i64 10])) := by
  unfold GV gv; rw [if_neg (by omega), Int.toNat_natCast, h]

theorem GV.form {l : List UInt8} {m : Nat} (h : scan (l.drop m) 0 0 = .form) : GV l (m : Int) (.returned (.tuple #[.int .i64 0, .int .i64 0, .int .i64 11])) := by
  unfold GV gv; rw [if_neg (by omega), Int.toNat_natCast, h]

theorem GV.ok {l : List UInt8} {m u n : Nat} {x y : Int} (h : scan (l.drop m) 0 0 = .ok u n) (hx : x = uz u) (hy : y = (m : Int) + (n : Int)) : GV l (m : Int) (.returned (.tuple #[.int .i64 x, .int .i64 y, .int .i64 0])) := by
  unfold GV gv; rw [if_neg (by omega), Int.toNat_natCast, h, hx, hy]

theorem orVar (U j : Nat) (c : UInt8) (hU : U < 128 ^ j) (hj : j ≤ 9) (h9 : j = 9 → c.toNat ≤ 1) :
    bits .or .u64 (U : Int) (IntKind.u64.wrap (IntKind.u64.wrap (bits .and .u8 (c.toNat : Int) 127) * 2 ^ (7 * j))) = ((U + c.toNat % 128 * 128 ^ j : Nat) : Int) := by
  have hc := c.toNat_lt
  have e1 : bits .and .u8 (c.toNat : Int) 127 = ((c.toNat % 128 : Nat) : Int) := by
    have := u8_and_nat c.toNat 127 (by omega) (by omega)
    rw [nat_mask7] at this
    exact this
  have e2 : (2 : Int) ^ (7 * j) = ((128 ^ j : Nat) : Int) := by rw [Int.pow_mul]; simp
  have p9 : 128 ^ j ≤ 9223372036854775808 := by
    have : 128 ^ j ≤ 128 ^ 9 := Nat.pow_le_pow_right (by omega) hj
    exact this
  have hlt : c.toNat % 128 * 128 ^ j + 128 ^ j ≤ 18446744073709551616 := by
    by_cases h : j = 9
    · have := h9 h
      subst h
      have e : (128 : Nat) ^ 9 = 9223372036854775808 := by decide
      rw [e]
      omega
    · have : 128 ^ j ≤ 128 ^ 8 := Nat.pow_le_pow_right (by omega) (by omega)
      have e : (128 : Nat) ^ 8 = 72057594037927936 := by decide
      rw [e] at this
      have h2 : c.toNat % 128 * 128 ^ j ≤ 127 * 72057594037927936 := Nat.mul_le_mul (by omega) this
      omega
  have e0 : IntKind.u64.wrap ((c.toNat % 128 : Nat) : Int) = ((c.toNat % 128 : Nat) : Int) := IntWalk.u64_in _ (by omega)
  rw [e1, e0, e2, ← Int.natCast_mul, IntKind.wrap_u64]
  have e3 : ((c.toNat % 128 * 128 ^ j : Nat) : Int) % 18446744073709551616 = ((c.toNat % 128 * 128 ^ j : Nat) : Int) := by omega
  rw [e3, u64_or_nat _ _ (by omega) (by omega)]
  congr 1
  have e4 : (128 : Nat) ^ j = 2 ^ (7 * j) := by rw [Nat.pow_mul]
  rw [Nat.or_comm, Nat.add_comm]
  rw [e4] at hU ⊢
  exact nat_join (7 * j) _ _ (Nat.mul_mod_left _ _) hU

theorem scan_lt {l : List UInt8} {m u n : Nat} (h : scan (l.drop m) 0 0 = .ok u n) : u < 18446744073709551616 := by
  obtain ⟨z, r, _, rfl, _, _, hz, _⟩ := scan_ok _ 0 0 u n (by omega) h
  simpa using hz

theorem step_lt {U j d : Nat} (h : U < 128 ^ j) (hd : d < 256) : U + (d - 128) * 128 ^ j < 128 ^ (j + 1) := by
  have h2 : (d - 128) * 128 ^ j ≤ 127 * 128 ^ j := Nat.mul_le_mul_right _ (by omega)
  rw [Nat.pow_succ]
  omega

theorem drop_at {l : List UInt8} {k : Nat} {c : UInt8} (h : l[k]? = some c) : l.drop k = c :: l.drop (k + 1) := by
  obtain ⟨hk, rfl⟩ := List.getElem?_eq_some_iff.1 h
  exact List.drop_eq_getElem_cons hk

theorem drop_end {l : List UInt8} {k : Nat} (h : l.length ≤ k) : l.drop k = [] := List.drop_eq_nil_of_le h

def gvRel (l : List UInt8) (m : Nat) (v i : Value) : Prop :=
  ∃ U j, v = .int .u64 ((U : Nat) : Int) ∧ i = .int .i64 ((j : Nat) : Int) ∧ j ≤ 9 ∧ U < 128 ^ j ∧ scan (l.drop m) 0 0 = scan (l.drop (m + j)) j U

def gt (l : List UInt8) (p k : Int) : Nat × Int :=
  if isW k = false ∨ p < 0 then (0, 1) else if hasB l.length p k = false then (0, 10) else (getN ((l.drop p.toNat).take k.toNat), 0)

def GT (l : List UInt8) (p k : Int) (e : Ending) : Prop := e = .returned (.tuple #[.int .u64 ((gt l p k).1 : Int), .int .i64 (gt l p k).2])

theorem getN_take (l : List UInt8) (j : Nat) (d : UInt8) (h : l[j]? = some d) : getN (l.take (j + 1)) = getN (l.take j) * 256 + d.toNat := by
  rw [List.take_add_one, h]
  exact getN_snoc _ _

def gtRel (l : List UInt8) (k : Nat) (v i : Value) : Prop :=
  ∃ j U, v = .int .u64 ((U : Nat) : Int) ∧ i = .int .i64 ((j : Nat) : Int) ∧ j ≤ k ∧ U = getN (l.take j)

theorem or8 (U : Nat) (d : UInt8) (h : U < 72057594037927936) : bits .or .u64 (IntKind.u64.wrap ((U : Int) * 256)) (d.toNat : Int) = ((U * 256 + d.toNat : Nat) : Int) := by
  have hd := d.toNat_lt
  have e : IntKind.u64.wrap ((U : Int) * 256) = ((U * 256 : Nat) : Int) := by rw [IntKind.wrap_u64]; omega
  rw [e, u64_or_nat _ _ (by omega) (by omega)]
  congr 1
  exact nat_join 8 _ _ (by omega) (by omega)

theorem getN_small {l : List UInt8} (h : l.length ≤ 7) : getN l < 72057594037927936 := by
  have h1 := getN_lt l
  have h2 : 256 ^ l.length ≤ 256 ^ 7 := Nat.pow_le_pow_right (by omega) h
  omega

def gx (l : List UInt8) (p most : Int) : ByteArray × Int × Int :=
  if (gv l p).2.2 ≠ 0 then (ByteArray.empty, 0, (gv l p).2.2)
  else if (gv l p).1 < 0 then (ByteArray.empty, 0, 11)
  else if most < (gv l p).1 then (ByteArray.empty, 0, 2)
  else if hasB l.length (gv l p).2.1 (gv l p).1 = false then (ByteArray.empty, 0, 10)
  else (⟨((l.drop (gv l p).2.1.toNat).take (gv l p).1.toNat).toArray⟩, (gv l p).2.1 + (gv l p).1, 0)

def GX (l : List UInt8) (p most : Int) (e : Ending) : Prop := e = .returned (.tuple #[.string (gx l p most).1, .int .i64 (gx l p most).2.1, .int .i64 (gx l p most).2.2])

def sameB (l m : List UInt8) : Bool := l == m

def fewB (n : Nat) : Bool := decide ((n : Int) ≤ 5000)

theorem new1 (w : World) (e : TypeId) (a : UInt8) : Rd (w.alloc (.cells #[.int .u8 (a.toNat : Int)] e)) (w.heap.size + 1) (some ⟨w.heap.size, 0, none⟩) 1 [a] := by
  refine ⟨rfl, fun k d hd => ⟨w.heap.size, 0, rfl, by omega, ?_⟩⟩
  rw [cell_of_row _ _ _ _ e (0, 0) (heap_alloc_new w _)]
  match k, hd with
  | 0, hd => simp at hd; subst hd; rfl

theorem gt_at (l r : List UInt8) (x k : Nat) (h1 : 1 ≤ k) (h8 : k ≤ 8) : gt (l ++ beN x k k ++ r) (l.length : Int) (k : Int) = (x % 256 ^ k, 0) := by
  unfold gt
  have hw : isW (k : Int) = true := by simp [isW]; omega
  have hh : hasB (l ++ beN x k k ++ r).length (l.length : Int) (k : Int) = true := by simp [hasB, beN_length]; omega
  rw [if_neg (by simp [hw]), if_neg (by rw [hh]; simp)]
  have e : ((l ++ beN x k k ++ r).drop (l.length : Int).toNat).take (k : Int).toNat = beN x k k := by
    rw [Int.toNat_natCast, Int.toNat_natCast, List.append_assoc, List.drop_left, List.take_left' (beN_length x k k)]
  rw [e, getN_be]

theorem gv_at (l r : List UInt8) (m : Int) (hm : -9223372036854775808 ≤ m ∧ m ≤ 9223372036854775807) : gv (l ++ vb (zz m) ++ r) (l.length : Int) = (m, (l.length : Int) + ((vb (zz m)).length : Int), 0) := by
  unfold gv
  rw [if_neg (by omega), Int.toNat_natCast, List.append_assoc, List.drop_left, scan_vb (zz m) r 0 0 (by omega) (Or.inl rfl) (by simpa using zz_lt hm)]
  simp [uz_zz]

theorem gx_at (l r : List UInt8) (s : ByteArray) (most : Int) (hs : s.size ≤ 9223372036854775807) (hm : (s.size : Int) ≤ most) :
    gx (l ++ vb (zz s.size) ++ s.data.toList ++ r) (l.length : Int) most = (s, (l.length : Int) + ((vb (zz s.size)).length : Int) + (s.size : Int), 0) := by
  have hg := gv_at l (s.data.toList ++ r) (s.size : Int) (by omega)
  rw [← List.append_assoc] at hg
  have hlen : s.data.toList.length = s.size := by rw [Array.length_toList]; rfl
  unfold gx
  rw [hg]
  simp only
  have hh : hasB (l ++ vb (zz s.size) ++ s.data.toList ++ r).length ((l.length : Int) + ((vb (zz s.size)).length : Int)) (s.size : Int) = true := by
    simp only [hasB, List.length_append, hlen, decide_eq_true_eq]; omega
  rw [if_neg (by simp), if_neg (by omega), if_neg (by omega), if_neg (by rw [hh]; simp)]
  have e : ((l ++ vb (zz s.size) ++ s.data.toList ++ r).drop ((l.length : Int) + ((vb (zz s.size)).length : Int)).toNat).take (s.size : Int).toNat = s.data.toList := by
    have e1 : ((l.length : Int) + ((vb (zz s.size)).length : Int)).toNat = (l ++ vb (zz s.size)).length := by rw [List.length_append]; omega
    rw [e1, Int.toNat_natCast, List.append_assoc, List.drop_left, List.take_left' hlen]
  rw [e]

theorem gv_good {l : List UInt8} {p x y : Int} (h : gv l p = (x, y, 0)) :
    0 ≤ p ∧ p < y ∧ y ≤ l.length ∧ y ≤ p + 10 ∧ vb (zz x) = (l.drop p.toNat).take (y - p).toNat ∧ -9223372036854775808 ≤ x ∧ x ≤ 9223372036854775807 := by
  unfold gv at h
  by_cases h0 : p < 0
  · rw [if_pos h0] at h; simp at h
  · rw [if_neg h0] at h
    cases hs : scan (l.drop p.toNat) 0 0 with
    | short => rw [hs] at h; simp at h
    | form => rw [hs] at h; simp at h
    | ok u n =>
      rw [hs] at h
      simp only [Prod.mk.injEq, and_true] at h
      obtain ⟨h1, h2⟩ := h
      have hu := scan_lt hs
      obtain ⟨z, r, hl, hz, hk, _, hz2, h10⟩ := scan_ok _ 0 0 u n (by omega) hs
      have hz' : u = z := by simpa using hz
      subst hz'
      have h3 := congrArg List.length hl
      have h4 := vb_pos u
      have hi := uz_in hu
      simp only [List.length_drop, List.length_append] at h3
      refine ⟨by omega, by omega, by omega, by omega, ?_, by omega, by omega⟩
      rw [← h1, zz_uz, hl, List.take_left' (by omega)]

theorem gx_good {l : List UInt8} {p most y : Int} {t : ByteArray} (h : gx l p most = (t, y, 0)) :
    0 ≤ p ∧ p < y ∧ y ≤ l.length ∧ (t.size : Int) ≤ most ∧ vb (zz t.size) ++ t.data.toList = (l.drop p.toNat).take (y - p).toNat ∧ t.size ≤ l.length := by
  unfold gx at h
  by_cases h1 : (gv l p).2.2 ≠ 0
  · rw [if_pos h1] at h; simp only [Prod.mk.injEq] at h; exact absurd h.2.2 h1
  · rw [if_neg h1] at h
    have hz : (gv l p).2.2 = 0 := by omega
    by_cases h2 : (gv l p).1 < 0
    · rw [if_pos h2] at h; simp at h
    · rw [if_neg h2] at h
      by_cases h3 : most < (gv l p).1
      · rw [if_pos h3] at h; simp at h
      · rw [if_neg h3] at h
        by_cases h4 : hasB l.length (gv l p).2.1 (gv l p).1 = false
        · rw [if_pos h4] at h; simp at h
        · rw [if_neg h4] at h
          have h4' : hasB l.length (gv l p).2.1 (gv l p).1 = true := by simpa using h4
          obtain ⟨g1, g2, g3, g4, g5, g6, g7⟩ := gv_good (l := l) (p := p) (x := (gv l p).1) (y := (gv l p).2.1) (by rw [← hz])
          have h5 : (gv l p).2.1 + (gv l p).1 ≤ l.length := by simp [hasB] at h4'; omega
          simp only [Prod.mk.injEq, and_true] at h
          obtain ⟨rfl, rfl⟩ := h
          generalize (gv l p).1 = x at *
          generalize (gv l p).2.1 = y at *
          have hsz : (ByteArray.mk (List.take x.toNat (List.drop y.toNat l)).toArray).size = x.toNat := by
            show (List.take x.toNat (List.drop y.toNat l)).toArray.size = _
            simp; omega
          have hsi : ((ByteArray.mk (List.take x.toNat (List.drop y.toNat l)).toArray).size : Int) = x := by rw [hsz]; omega
          refine ⟨by omega, by omega, by omega, by omega, ?_, by omega⟩
          rw [hsi, g5]
          show _ ++ List.take x.toNat (List.drop y.toNat l) = _
          have e1 : (y + x - p).toNat = (y - p).toNat + x.toNat := by omega
          have e2 : y.toNat = p.toNat + (y - p).toNat := by omega
          rw [e1, List.take_add, e2, List.drop_drop]

theorem div_u64 (X q : Nat) (h : X < 18446744073709551616) : IntKind.u64.wrap ((X : Int) / (q : Int)) = ((X / q : Nat) : Int) := by
  have h1 : X / q ≤ X := Nat.div_le_self _ _
  rw [← Int.natCast_ediv]
  generalize X / q = z at *
  exact IntWalk.u64_in _ (by omega)

theorem mod128 (u : Nat) : (128 : Int) + (u : Int) % 128 = ((UInt8.ofNat (u % 128 + 128)).toNat : Int) := by
  rw [ofNat_toNat' (by omega)]
  omega

theorem zz_pos {x : Int} (h : 0 ≤ x) : 2 * x = (zz x : Int) := by
  unfold zz
  rw [if_pos h]
  omega

theorem zz_neg {x : Int} (h : x < 0) : 2 * -(x + 1) + 1 = (zz x : Int) := by
  unfold zz
  rw [if_neg (by omega)]
  omega

def incRel (e : TypeId) (base : Nat) (A : Option Addr) (n c : Nat) (w0 : World) (i : Value) (wr : World) : Prop :=
  ∃ j, i = .int .i64 ((j : Nat) : Int) ∧ j ≤ n ∧ (∃ l, OwnB wr e base (.slice A n c) n l) ∧ Below base w0 wr

end Go.Proofs.YtllebgadhhgckaaDoor.Oct
