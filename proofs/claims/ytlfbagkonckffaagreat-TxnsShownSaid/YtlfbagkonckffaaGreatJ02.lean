/- Joined: OctSpec, RecMath, RecMath2, CrcMath. -/
import Derived.Test.YtlfbagkonckffaaGreatJ00
import Derived.Test.YtlfbagkonckffaaGreatJ01
import Derived.Lib.Hide
import Derived.WalkSpells
import Derived.WalkLawsBesides
import Derived.Laws.OwnMore
/- What layer 1's calls answer, as plain functions, and lemmas of numbers and worlds: nothing of the program but the types' numbers. -/
namespace Go.Proofs.YtlfbagkonckffaaGreat.Oct
open Go.RowKit

def isW (k : Int) : Bool := decide (1 ≤ k ∧ k ≤ 8)

def hasB (n : Nat) (k m : Int) : Bool := decide (k ≤ n ∧ m ≤ n - k)

theorem fold_num (n : Int) (h : -9223372036854775808 ≤ n ∧ n ≤ 9223372036854775807) : bits .xor .u64 (IntKind.u64.wrap (IntKind.u64.wrap n * 2)) (IntKind.u64.wrap (n / 9223372036854775808)) = (zz n : Int) := by
  simp only [IntKind.wrap_u64]
  by_cases h0 : 0 ≤ n
  · have e1 : n / 9223372036854775808 = 0 := by omega
    have e2 : n % 18446744073709551616 * 2 % 18446744073709551616 = (((2 * n).toNat : Nat) : Int) := by omega
    have e3 : (0 : Int) % 18446744073709551616 = ((0 : Nat) : Int) := by omega
    rw [e1, e2, e3, u64_xor_nat _ _ (by omega) (by omega), Nat.xor_zero]
    simp [zz, h0]
  · have e1 : n / 9223372036854775808 % 18446744073709551616 = ((18446744073709551615 : Nat) : Int) := by omega
    have e2 : n % 18446744073709551616 * 2 % 18446744073709551616 = (((2 * n + 18446744073709551616).toNat : Nat) : Int) := by omega
    have hx : ∀ a : Nat, a < 18446744073709551616 → a ^^^ 18446744073709551615 = 18446744073709551615 - a := by
      intro a ha
      have h1 := BitVec.toNat_not (x := BitVec.ofNat 64 a)
      rw [← BitVec.xor_allOnes, BitVec.toNat_xor, BitVec.toNat_ofNat, BitVec.toNat_allOnes] at h1
      rw [Nat.mod_eq_of_lt (by omega)] at h1
      omega
    rw [e1, e2, u64_xor_nat _ _ (by omega) (by omega), hx _ (by omega)]
    simp only [zz, if_neg h0]
    omega

theorem or128 (u : Nat) : bits .or .u8 (IntKind.u8.wrap (u : Int)) 128 = ((UInt8.ofNat (u % 128 + 128)).toNat : Int) := by
  have e1 : IntKind.u8.wrap (u : Int) = ((u % 256 : Nat) : Int) := by rw [IntKind.wrap_u8']; omega
  rw [e1, ofNat_toNat' (by omega)]
  have h := u8_or_nat (u % 256) 128 (by omega) (by omega)
  have e : u % 256 ||| 128 = u % 128 + 128 := by
    have h2 : ∀ x : Fin 256, x.val ||| 128 = x.val % 128 + 128 := by decide +kernel
    have := h2 ⟨u % 256, by omega⟩
    simp only at this
    rw [this]
    omega
  rw [e] at h
  exact h

theorem low8 (u : Nat) : IntKind.u8.wrap (u : Int) = ((UInt8.ofNat u).toNat : Int) := by
  rw [IntKind.wrap_u8', UInt8.toNat_ofNat']
  omega

def avRel (base : Nat) (l : List UInt8) (z : Nat) (w : World) (v i : Value) (wr : World) : Prop :=
  ∃ A1 n1 c1 u l1, v = .slice A1 n1 c1 ∧ i = .int .u64 ((u : Nat) : Int) ∧ OwnB wr 5 base (.slice A1 n1 c1) n1 (l ++ l1) ∧ l1 ++ vb u = vb z ∧ u < 18446744073709551616 ∧ Below base w wr

def putRel (base : Nat) (l : List UInt8) (x k : Nat) (w : World) (v i : Value) (wr : World) : Prop :=
  ∃ A1 n1 c1 j, v = .slice A1 n1 c1 ∧ i = .int .i64 ((j : Nat) : Int) ∧ j ≤ k ∧ OwnB wr 5 base (.slice A1 n1 c1) n1 (l ++ beN x k j) ∧ Below base w wr

theorem putByte (x q : Nat) : (x : Int) / 2 ^ (8 * q) % 256 = ((UInt8.ofNat (x / 256 ^ q)).toNat : Int) := by
  rw [UInt8.toNat_ofNat']
  have e : (2 : Int) ^ (8 * q) = ((256 ^ q : Nat) : Int) := by
    rw [Int.pow_mul]
    simp
  rw [e]
  omega

def gv (l : List UInt8) (k : Int) : Int × Int × Int :=
  if k < 0 then (0, 0, 1) else match scan (l.drop k.toNat) 0 0 with
    | .short => (0, 0, 10)
    | .form => (0, 0, 11)
    | .ok u n => (uz u, k + n, 0)

def GV (l : List UInt8) (k : Int) (e : Ending) : Prop := e = .returned (.tuple #[.int .i64 (gv l k).1, .int .i64 (gv l k).2.1, .int .i64 (gv l k).2.2])

theorem GV.neg {l : List UInt8} {k : Int} (h : k < 0) : GV l k (.returned (.tuple #[.int .i64 0, .int .i64 0, .int .i64 1])) := by unfold GV gv; rw [if_pos h]

theorem GV.short {l : List UInt8} {m : Nat} (h : scan (l.drop m) 0 0 = .short) : GV l (m : Int) (.returned (.tuple #[.int .i64 0, .int .i64 0, .int .i64 10])) := by
  unfold GV gv; rw [if_neg (by omega), Int.toNat_natCast, h]

theorem GV.form {l : List UInt8} {m : Nat} (h : scan (l.drop m) 0 0 = .form) : GV l (m : Int) (.returned (.tuple #[.int .i64 0, .int .i64 0, .int .i64 11])) := by
  unfold GV gv; rw [if_neg (by omega), Int.toNat_natCast, h]

theorem GV.ok {l : List UInt8} {m u n : Nat} {x y : Int} (h : scan (l.drop m) 0 0 = .ok u n) (hx : x = uz u) (hy : y = (m : Int) + (n : Int)) : GV l (m : Int) (.returned (.tuple #[.int .i64 x, .int .i64 y, .int .i64 0])) := by
  unfold GV gv; rw [if_neg (by omega), Int.toNat_natCast, h, hx, hy]

theorem scan_lt {l : List UInt8} {m u n : Nat} (h : scan (l.drop m) 0 0 = .ok u n) : u < 18446744073709551616 := by
  obtain ⟨z, r, _, rfl, _, _, hz, _⟩ := scan_ok _ 0 0 u n (by omega) h
  simpa using hz

theorem step_lt {U j d : Nat} (h : U < 128 ^ j) (hd : d < 256) : U + (d - 128) * 128 ^ j < 128 ^ (j + 1) := by
  have h2 : (d - 128) * 128 ^ j ≤ 127 * 128 ^ j := Nat.mul_le_mul_right _ (by omega)
  rw [Nat.pow_succ]
  omega

theorem drop_at {l : List UInt8} {k : Nat} {c : UInt8} (h : l[k]? = some c) : l.drop k = c :: l.drop (k + 1) := by
  obtain ⟨hk, rfl⟩ := List.getElem?_eq_some_iff.1 h
  exact List.drop_eq_getElem_cons hk

def gvRel (l : List UInt8) (m : Nat) (v i : Value) : Prop :=
  ∃ U j, v = .int .u64 ((U : Nat) : Int) ∧ i = .int .i64 ((j : Nat) : Int) ∧ j ≤ 9 ∧ U < 128 ^ j ∧ scan (l.drop m) 0 0 = scan (l.drop (m + j)) j U

def gt (l : List UInt8) (p k : Int) : Nat × Int :=
  if isW k = false ∨ p < 0 then (0, 1) else if hasB l.length p k = false then (0, 10) else (getN ((l.drop p.toNat).take k.toNat), 0)

def GT (l : List UInt8) (p k : Int) (e : Ending) : Prop := e = .returned (.tuple #[.int .u64 ((gt l p k).1 : Int), .int .i64 (gt l p k).2])

def gtRel (l : List UInt8) (k : Nat) (v i : Value) : Prop :=
  ∃ j U, v = .int .u64 ((U : Nat) : Int) ∧ i = .int .i64 ((j : Nat) : Int) ∧ j ≤ k ∧ U = getN (l.take j)

def gx (l : List UInt8) (p most : Int) : ByteArray × Int × Int :=
  if (gv l p).2.2 ≠ 0 then (ByteArray.empty, 0, (gv l p).2.2)
  else if (gv l p).1 < 0 then (ByteArray.empty, 0, 11)
  else if most < (gv l p).1 then (ByteArray.empty, 0, 2)
  else if hasB l.length (gv l p).2.1 (gv l p).1 = false then (ByteArray.empty, 0, 10)
  else (⟨((l.drop (gv l p).2.1.toNat).take (gv l p).1.toNat).toArray⟩, (gv l p).2.1 + (gv l p).1, 0)

def GX (l : List UInt8) (p most : Int) (e : Ending) : Prop := e = .returned (.tuple #[.string (gx l p most).1, .int .i64 (gx l p most).2.1, .int .i64 (gx l p most).2.2])

def sameB (l m : List UInt8) : Bool := l == m

def fewB (n : Nat) : Bool := decide ((n : Int) ≤ 5000)

theorem new1 (w : World) (e : TypeId) (a : UInt8) : Rd (w.alloc (.cells #[.int .u8 (a.toNat : Int)] e)) (w.heap.size + 1) (some ⟨w.heap.size, 0, none⟩) 1 [a] := by
  refine ⟨rfl, fun k d hd => ⟨w.heap.size, 0, rfl, by omega, ?_⟩⟩
  rw [cell_of_row _ _ _ _ e (0, 0) (heap_alloc_new w _)]
  match k, hd with
  | 0, hd => simp at hd; subst hd; rfl

theorem gv_at (l r : List UInt8) (m : Int) (hm : -9223372036854775808 ≤ m ∧ m ≤ 9223372036854775807) : gv (l ++ vb (zz m) ++ r) (l.length : Int) = (m, (l.length : Int) + ((vb (zz m)).length : Int), 0) := by
  unfold gv
  rw [if_neg (by omega), Int.toNat_natCast, List.append_assoc, List.drop_left, scan_vb (zz m) r 0 0 (by omega) (Or.inl rfl) (by simpa using zz_lt hm)]
  simp [uz_zz]

theorem gx_at (l r : List UInt8) (s : ByteArray) (most : Int) (hs : s.size ≤ 9223372036854775807) (hm : (s.size : Int) ≤ most) :
    gx (l ++ vb (zz s.size) ++ s.data.toList ++ r) (l.length : Int) most = (s, (l.length : Int) + ((vb (zz s.size)).length : Int) + (s.size : Int), 0) := by
  have hg := gv_at l (s.data.toList ++ r) (s.size : Int) (by omega)
  rw [← List.append_assoc] at hg
  have hlen : s.data.toList.length = s.size := by rw [Array.length_toList]; rfl
  unfold gx
  rw [hg]
  simp only
  have hh : hasB (l ++ vb (zz s.size) ++ s.data.toList ++ r).length ((l.length : Int) + ((vb (zz s.size)).length : Int)) (s.size : Int) = true := by
    simp only [hasB, List.length_append, hlen, decide_eq_true_eq]; omega
  rw [if_neg (by simp), if_neg (by omega), if_neg (by omega), if_neg (by rw [hh]; simp)]
  have e : ((l ++ vb (zz s.size) ++ s.data.toList ++ r).drop ((l.length : Int) + ((vb (zz s.size)).length : Int)).toNat).take (s.size : Int).toNat = s.data.toList := by
    have e1 : ((l.length : Int) + ((vb (zz s.size)).length : Int)).toNat = (l ++ vb (zz s.size)).length := by rw [List.length_append]; omega
    rw [e1, Int.toNat_natCast, List.append_assoc, List.drop_left, List.take_left' hlen]
  rw [e]

theorem gv_good {l : List UInt8} {p x y : Int} (h : gv l p = (x, y, 0)) :
    0 ≤ p ∧ p < y ∧ y ≤ l.length ∧ y ≤ p + 10 ∧ vb (zz x) = (l.drop p.toNat).take (y - p).toNat ∧ -9223372036854775808 ≤ x ∧ x ≤ 9223372036854775807 := by
  unfold gv at h
  by_cases h0 : p < 0
  · rw [if_pos h0] at h; simp at h
  · rw [if_neg h0] at h
    cases hs : scan (l.drop p.toNat) 0 0 with
    | short => rw [hs] at h; simp at h
    | form => rw [hs] at h; simp at h
    | ok u n =>
      rw [hs] at h
      simp only [Prod.mk.injEq, and_true] at h
      obtain ⟨h1, h2⟩ := h
      have hu := scan_lt hs
      obtain ⟨z, r, hl, hz, hk, _, hz2, h10⟩ := scan_ok _ 0 0 u n (by omega) hs
      have hz' : u = z := by simpa using hz
      subst hz'
      have h3 := congrArg List.length hl
      have h4 := vb_pos u
      have hi := uz_in hu
      simp only [List.length_drop, List.length_append] at h3
      refine ⟨by omega, by omega, by omega, by omega, ?_, by omega, by omega⟩
      rw [← h1, zz_uz, hl, List.take_left' (by omega)]

theorem gx_good {l : List UInt8} {p most y : Int} {t : ByteArray} (h : gx l p most = (t, y, 0)) :
    0 ≤ p ∧ p < y ∧ y ≤ l.length ∧ (t.size : Int) ≤ most ∧ vb (zz t.size) ++ t.data.toList = (l.drop p.toNat).take (y - p).toNat ∧ t.size ≤ l.length := by
  unfold gx at h
  by_cases h1 : (gv l p).2.2 ≠ 0
  · rw [if_pos h1] at h; simp only [Prod.mk.injEq] at h; exact absurd h.2.2 h1
  · rw [if_neg h1] at h
    have hz : (gv l p).2.2 = 0 := by omega
    by_cases h2 : (gv l p).1 < 0
    · rw [if_pos h2] at h; simp at h
    · rw [if_neg h2] at h
      by_cases h3 : most < (gv l p).1
      · rw [if_pos h3] at h; simp at h
      · rw [if_neg h3] at h
        by_cases h4 : hasB l.length (gv l p).2.1 (gv l p).1 = false
        · rw [if_pos h4] at h; simp at h
        · rw [if_neg h4] at h
          have h4' : hasB l.length (gv l p).2.1 (gv l p).1 = true := by simpa using h4
          obtain ⟨g1, g2, g3, g4, g5, g6, g7⟩ := gv_good (l := l) (p := p) (x := (gv l p).1) (y := (gv l p).2.1) (by rw [← hz])
          have h5 : (gv l p).2.1 + (gv l p).1 ≤ l.length := by simp [hasB] at h4'; omega
          simp only [Prod.mk.injEq, and_true] at h
          obtain ⟨rfl, rfl⟩ := h
          generalize (gv l p).1 = x at *
          generalize (gv l p).2.1 = y at *
          have hsz : (ByteArray.mk (List.take x.toNat (List.drop y.toNat l)).toArray).size = x.toNat := by
            show (List.take x.toNat (List.drop y.toNat l)).toArray.size = _
            simp; omega
          have hsi : ((ByteArray.mk (List.take x.toNat (List.drop y.toNat l)).toArray).size : Int) = x := by rw [hsz]; omega
          refine ⟨by omega, by omega, by omega, by omega, ?_, by omega⟩
          rw [hsi, g5]
          show _ ++ List.take x.toNat (List.drop y.toNat l) = _
          have e1 : (y + x - p).toNat = (y - p).toNat + x.toNat := by omega
          have e2 : y.toNat = p.toNat + (y - p).toNat := by omega
          rw [e1, List.take_add, e2, List.drop_drop]

theorem div_u64 (X q : Nat) (h : X < 18446744073709551616) : IntKind.u64.wrap ((X : Int) / (q : Int)) = ((X / q : Nat) : Int) := by
  have h1 : X / q ≤ X := Nat.div_le_self _ _
  rw [← Int.natCast_ediv]
  generalize X / q = z at *
  exact IntWalk.u64_in _ (by omega)

theorem mod128 (u : Nat) : (128 : Int) + (u : Int) % 128 = ((UInt8.ofNat (u % 128 + 128)).toNat : Int) := by
  rw [ofNat_toNat' (by omega)]
  omega

theorem zz_pos {x : Int} (h : 0 ≤ x) : 2 * x = (zz x : Int) := by
  unfold zz
  rw [if_pos h]
  omega

theorem zz_neg {x : Int} (h : x < 0) : 2 * -(x + 1) + 1 = (zz x : Int) := by
  unfold zz
  rw [if_neg (by omega)]
  omega

theorem own_set {w : World} {e : TypeId} {base g n c j : Nat} {l : List UInt8} (h : OwnB w e base (.slice (some ⟨g, 0, none⟩) n c) n l) (hg : base ≤ g) (z : Int) :
    (∃ l', OwnB (w.setCell ⟨g, j, none⟩ (.int .u8 (z % 256))) e base (.slice (some ⟨g, 0, none⟩) n c) n l') ∧ Below base w (w.setCell ⟨g, j, none⟩ (.int .u8 (z % 256))) := by
  refine ⟨⟨l.set j (UInt8.ofNat (z % 256).toNat), ?_⟩, (Below.refl base w).setCell hg _⟩
  have h1 := (World.ownsRow.stored h j (.int .u8 (z % 256))).1
  unfold OwnB
  rw [List.map_set]
  have e1 : bv (UInt8.ofNat (z % 256).toNat) = .int .u8 (z % 256) := by
    unfold bv
    rw [ofNat_toNat' (by omega)]
    congr 1
    omega
  rw [e1]
  exact h1

def incRel (e : TypeId) (base : Nat) (A : Option Addr) (n c : Nat) (w0 : World) (i : Value) (wr : World) : Prop :=
  ∃ j, i = .int .i64 ((j : Nat) : Int) ∧ j ≤ n ∧ (∃ l, OwnB wr e base (.slice A n c) n l) ∧ Below base w0 wr

end Go.Proofs.YtlfbagkonckffaaGreat.Oct

/- The plain mathematics of layer 3: a record, its bytes, what bytes tell. Nothing of the program. -/
namespace Go.Proofs.YtlfbagkonckffaaGreat.Rec
open Oct

structure Rc where
  off : Int
  key : ByteArray
  val : ByteArray
  dead : Bool
  stamp : Int

def inR (n : Int) : Bool := decide (0 ≤ n ∧ n ≤ 1099511627776)
theorem inR_iff {n : Int} : inR n = true ↔ 0 ≤ n ∧ n ≤ 1099511627776 := by simp [inR]
def may (r : Rc) : Bool := decide ((0 ≤ r.off ∧ r.off ≤ 1099511627776) ∧ (0 ≤ r.stamp ∧ r.stamp ≤ 1099511627776) ∧ r.key.size ≤ 64 ∧ r.val.size ≤ 64 ∧ (r.dead = true → r.key.size ≠ 0 ∧ r.val.size = 0))
theorem may_iff {r : Rc} : may r = true ↔ (0 ≤ r.off ∧ r.off ≤ 1099511627776) ∧ (0 ≤ r.stamp ∧ r.stamp ≤ 1099511627776) ∧ r.key.size ≤ 64 ∧ r.val.size ≤ 64 ∧ (r.dead = true → r.key.size ≠ 0 ∧ r.val.size = 0) := by unfold may; exact decide_eq_true_iff
def nil : Rc := ⟨0, ByteArray.empty, ByteArray.empty, false, 0⟩
def tx (s : ByteArray) : List UInt8 := vb (zz s.size) ++ s.data.toList
def fl (d : Bool) : UInt8 := if d then 1 else 0
def rb (r : Rc) (base stamp : Int) : List UInt8 := vb (zz (r.off - base)) ++ vb (zz (r.stamp - stamp)) ++ [fl r.dead] ++ tx r.key ++ tx r.val
def pt (r : Rc) (base stamp : Int) : List UInt8 × Int := if may r && inR base && inR stamp then (rb r base stamp, 0) else ([], 1)
def bes (n d : Int) : Int := if d < -1099511627776 ∨ 1099511627776 < d ∨ inR (n + d) = false then -1 else n + d
def gr (l : List UInt8) (p base stamp : Int) : Rc × Int × Int :=
  if inR base && inR stamp && decide (0 ≤ p ∧ p ≤ l.length) then
    if (gv l p).2.2 ≠ 0 then (nil, 0, (gv l p).2.2)
    else if (gv l (gv l p).2.1).2.2 ≠ 0 then (nil, 0, (gv l (gv l p).2.1).2.2)
    else match l[(gv l (gv l p).2.1).2.1.toNat]? with
      | none => (nil, 0, 10)
      | some c =>
        if 1 < c.toNat then (nil, 0, 11)
        else if (gx l ((gv l (gv l p).2.1).2.1 + 1) 64).2.2 ≠ 0 then (nil, 0, (gx l ((gv l (gv l p).2.1).2.1 + 1) 64).2.2)
        else if (gx l (gx l ((gv l (gv l p).2.1).2.1 + 1) 64).2.1 64).2.2 ≠ 0 then (nil, 0, (gx l (gx l ((gv l (gv l p).2.1).2.1 + 1) 64).2.1 64).2.2)
        else if may ⟨bes base (gv l p).1, (gx l ((gv l (gv l p).2.1).2.1 + 1) 64).1, (gx l (gx l ((gv l (gv l p).2.1).2.1 + 1) 64).2.1 64).1, c == 1, bes stamp (gv l (gv l p).2.1).1⟩ then
          (⟨bes base (gv l p).1, (gx l ((gv l (gv l p).2.1).2.1 + 1) 64).1, (gx l (gx l ((gv l (gv l p).2.1).2.1 + 1) 64).2.1 64).1, c == 1, bes stamp (gv l (gv l p).2.1).1⟩, (gx l (gx l ((gv l (gv l p).2.1).2.1 + 1) 64).2.1 64).2.1, 0)
        else (nil, 0, 1)
  else (nil, 0, 1)

theorem size_list (s : ByteArray) : s.data.toList.length = s.size := by rw [Array.length_toList]; rfl
theorem tx_length (s : ByteArray) : (tx s).length = (vb (zz s.size)).length + s.size := by rw [tx, List.length_append, size_list]

end Go.Proofs.YtlfbagkonckffaaGreat.Rec

/- More plain mathematics of layer 3: what is told was put; cut short it is none; moved alike; how long. Nothing of the program. -/
namespace Go.Proofs.YtlfbagkonckffaaGreat.Rec
open Oct

theorem seg_join (l : List UInt8) {a b c : Int} (h0 : 0 ≤ a) (h1 : a ≤ b) (h2 : b ≤ c) :
    (l.drop a.toNat).take (b - a).toNat ++ (l.drop b.toNat).take (c - b).toNat = (l.drop a.toNat).take (c - a).toNat := by
  have e1 : (c - a).toNat = (b - a).toNat + (c - b).toNat := by omega
  have e2 : b.toNat = a.toNat + (b - a).toNat := by omega
  rw [e1, List.take_add, e2, List.drop_drop]

theorem bes_in {n d : Int} (h : 0 ≤ bes n d) : bes n d = n + d := by
  unfold bes at h ⊢
  split at h
  · omega
  · rename_i hh; rw [if_neg hh]

theorem fl_back {c : UInt8} (h : ¬ 1 < c.toNat) : fl (c == 1) = c := by
  have e : c.toNat = 0 ∨ c.toNat = 1 := by omega
  rcases e with e | e
  · have : c = 0 := UInt8.toNat.inj e
    subst this; rfl
  · have : c = 1 := UInt8.toNat.inj e
    subst this; rfl

theorem gr_good {l : List UInt8} {p base stamp n : Int} {r : Rc} (h : gr l p base stamp = (r, n, 0)) :
    inR base = true ∧ inR stamp = true ∧ may r = true ∧ 0 ≤ p ∧ p < n ∧ n ≤ l.length ∧ rb r base stamp = (l.drop p.toNat).take (n - p).toNat := by
  unfold gr at h
  by_cases hc : (inR base && inR stamp && decide (0 ≤ p ∧ p ≤ l.length)) = true
  case neg => rw [if_neg hc] at h; simp at h
  rw [if_pos hc] at h
  simp only [Bool.and_eq_true, decide_eq_true_eq] at hc
  obtain ⟨⟨hb, hs⟩, hp⟩ := hc
  rcases g1 : gv l p with ⟨d, i, x1⟩
  simp only [g1] at h
  by_cases h1 : x1 = 0
  case neg => rw [if_pos h1] at h; simp only [Prod.mk.injEq] at h; exact absurd h.2.2 h1
  rw [if_neg (by simpa using h1)] at h
  subst h1
  rcases g2 : gv l i with ⟨s, j, x2⟩
  simp only [g2] at h
  by_cases h2 : x2 = 0
  case neg => rw [if_pos h2] at h; simp only [Prod.mk.injEq] at h; exact absurd h.2.2 h2
  rw [if_neg (by simpa using h2)] at h
  subst h2
  cases g3 : l[j.toNat]? with
  | none => rw [g3] at h; simp at h
  | some c =>
    rw [g3] at h
    simp only at h
    by_cases h3 : 1 < c.toNat
    · rw [if_pos h3] at h; simp at h
    rw [if_neg h3] at h
    rcases g4 : gx l (j + 1) 64 with ⟨k, m, x3⟩
    simp only [g4] at h
    by_cases h4 : x3 = 0
    case neg => rw [if_pos h4] at h; simp only [Prod.mk.injEq] at h; exact absurd h.2.2 h4
    rw [if_neg (by simpa using h4)] at h
    subst h4
    rcases g5 : gx l m 64 with ⟨v, q, x4⟩
    simp only [g5] at h
    by_cases h5 : x4 = 0
    case neg => rw [if_pos h5] at h; simp only [Prod.mk.injEq] at h; exact absurd h.2.2 h5
    rw [if_neg (by simpa using h5)] at h
    subst h5
    by_cases hm : may ⟨bes base d, k, v, c == 1, bes stamp s⟩ = true
    case neg => rw [if_neg hm] at h; simp at h
    rw [if_pos hm] at h
    simp only [Prod.mk.injEq, and_true] at h
    obtain ⟨hr, hn⟩ := h
    subst hr hn
    obtain ⟨m1, m2, m3, m4, m5⟩ := may_iff.1 hm
    simp only at m1 m2
    obtain ⟨a1, a2, a3, a4, a5, a6, a7⟩ := gv_good g1
    obtain ⟨b1, b2, b3, b4, b5, b6, b7⟩ := gv_good g2
    obtain ⟨c1, c2, c3, c4, c5, c6⟩ := gx_good g4
    obtain ⟨d1, d2, d3, d4, d5, d6⟩ := gx_good g5
    refine ⟨hb, hs, hm, a1, by omega, d3, ?_⟩
    have e3 : [c] = (l.drop j.toNat).take (j + 1 - j).toNat := by
      have : (j + 1 - j).toNat = 1 := by omega
      rw [this, drop_at g3]; rfl
    unfold rb
    simp only
    rw [bes_in m1.1, bes_in m2.1, show base + d - base = d by omega, show stamp + s - stamp = s by omega, fl_back h3, tx, tx, a5, b5, c5, d5, e3]
    rw [seg_join l (by omega) (by omega) (by omega), seg_join l (by omega) (by omega) (by omega), seg_join l (by omega) (by omega) (by omega), seg_join l (by omega) (by omega) (by omega)]

theorem gv_cut (h : List UInt8) (m : Int) (j : Nat) (hm : -9223372036854775808 ≤ m ∧ m ≤ 9223372036854775807) (hj : j < (vb (zz m)).length) : gv (h ++ (vb (zz m)).take j) (h.length : Int) = (0, 0, 10) := by
  unfold gv
  rw [if_neg (by omega), Int.toNat_natCast, List.drop_left, scan_cut (zz m) j 0 0 (by omega) (Or.inl rfl) (by simpa using zz_lt hm) hj]

theorem gx_cut (h : List UInt8) (s : ByteArray) (most : Int) (j : Nat) (hs : s.size ≤ 9223372036854775807) (hm : (s.size : Int) ≤ most) (hj : j < (tx s).length) : gx (h ++ (tx s).take j) (h.length : Int) most = (ByteArray.empty, 0, 10) := by
  by_cases h1 : j < (vb (zz s.size)).length
  · have e : (tx s).take j = (vb (zz s.size)).take j := by rw [tx, List.take_append_of_le_length (by omega)]
    rw [e]
    unfold gx
    rw [gv_cut h s.size j (by omega) h1]
    rfl
  · rw [tx_length] at hj
    have e : (tx s).take j = vb (zz s.size) ++ s.data.toList.take (j - (vb (zz s.size)).length) := by
      rw [tx, List.take_append, List.take_of_length_le (by omega)]
    rw [e, ← List.append_assoc]
    unfold gx
    rw [gv_at h _ s.size (by omega)]
    simp only
    have hh : hasB (h ++ vb (zz s.size) ++ s.data.toList.take (j - (vb (zz s.size)).length)).length ((h.length : Int) + ((vb (zz s.size)).length : Int)) (s.size : Int) = false := by
      simp only [hasB, List.length_append, List.length_take, size_list, decide_eq_false_iff_not]; omega
    rw [if_neg (by simp), if_neg (by omega), if_neg (by omega), if_pos hh]

theorem vb_len {x : Int} (h : -1099511627776 ≤ x ∧ x ≤ 1099511627776) : 1 ≤ (vb (zz x)).length ∧ (vb (zz x)).length ≤ 6 := by
  have h1 := vb_pos (zz x)
  have h2 := vb_le 5 (zz x) (by unfold zz; split <;> omega)
  omega
theorem tx_len {s : ByteArray} (h : s.size ≤ 64) : s.size + 1 ≤ (tx s).length ∧ (tx s).length ≤ s.size + 2 := by
  rw [tx_length]
  have h1 := vb_pos (zz s.size)
  have h2 := vb_le 1 (zz s.size) (by unfold zz; split <;> omega)
  omega
theorem rb_len (r : Rc) (base stamp : Int) : (rb r base stamp).length = (vb (zz (r.off - base))).length + (vb (zz (r.stamp - stamp))).length + 1 + (tx r.key).length + (tx r.val).length := by
  unfold rb; simp only [List.length_append, List.length_singleton]
theorem rb_size {r : Rc} {base stamp : Int} (hm : may r = true) (hb : inR base = true) (hs : inR stamp = true) :
    5 ≤ (rb r base stamp).length ∧ (rb r base stamp).length ≤ 145 ∧ r.key.size + r.val.size + 5 ≤ (rb r base stamp).length ∧ (rb r base stamp).length ≤ r.key.size + r.val.size + 17 ∧
    (rb ⟨r.off, ByteArray.empty, ByteArray.empty, false, r.stamp⟩ base stamp).length + (r.key.size + r.val.size) ≤ (rb r base stamp).length ∧ (rb r base stamp).length ≤ (rb ⟨r.off, ByteArray.empty, ByteArray.empty, false, r.stamp⟩ base stamp).length + (r.key.size + r.val.size) + 2 := by
  obtain ⟨m1, m2, m3, m4, m5⟩ := may_iff.1 hm
  have b1 := inR_iff.1 hb
  have b2 := inR_iff.1 hs
  have l1 := vb_len (x := r.off - base) (by omega)
  have l2 := vb_len (x := r.stamp - stamp) (by omega)
  have l3 := tx_len m3
  have l4 := tx_len m4
  have l0 : (tx ByteArray.empty).length = 1 := by rw [tx_length]; rw [vb_small (by decide)]; rfl
  rw [rb_len, rb_len]
  simp only [l0]
  omega
end Go.Proofs.YtlfbagkonckffaaGreat.Rec

/- The plain mathematics of layer 2: one step, sums, what is joined, sealed and opened. Nothing of the program. -/
namespace Go.Proofs.YtlfbagkonckffaaGreat.Crc
open Oct

def step (v : Nat) : Nat := if v % 2 = 1 then (v / 2) ^^^ 3988292384 else v / 2
def steps : Nat → Nat → Nat
  | 0, v => v
  | n + 1, v => steps n (step v)

theorem step_lt {v : Nat} (h : v < 4294967296) : step v < 4294967296 := by
  unfold step
  split
  · exact Nat.xor_lt_two_pow (n := 32) (by omega) (by omega)
  · omega
theorem steps_lt {n v : Nat} (h : v < 4294967296) : steps n v < 4294967296 := by
  induction n generalizing v with
  | zero => exact h
  | succ n ih => exact ih (step_lt h)
theorem steps_add (m n v : Nat) : steps (m + n) v = steps n (steps m v) := by
  induction m generalizing v with
  | zero => rw [Nat.zero_add]; rfl
  | succ m ih => rw [Nat.succ_add]; exact ih (step v)
theorem steps_succ (n v : Nat) : steps (n + 1) v = step (steps n v) := by rw [steps_add]; rfl
theorem step_even (y : Nat) : step (2 * y) = y := by
  unfold step
  rw [if_neg (by omega)]
  omega
def crc (v : Nat) : List UInt8 → Nat
  | [] => v
  | c :: l => crc (steps 8 (v ^^^ c.toNat)) l
def sum (l : List UInt8) : Nat := crc 4294967295 l ^^^ 4294967295
def join (a b : Nat) (n : Int) : Nat := if n < 0 ∨ 4096 < n then 0 else steps (8 * n.toNat) a ^^^ b

theorem u8_32 (c : UInt8) : c.toNat < 4294967296 := by have := c.toNat_lt; omega
theorem xor32 {a b : Nat} (ha : a < 4294967296) (hb : b < 4294967296) : a ^^^ b < 4294967296 := Nat.xor_lt_two_pow (n := 32) ha hb
theorem crc_lt {v : Nat} {l : List UInt8} (h : v < 4294967296) : crc v l < 4294967296 := by
  induction l generalizing v with
  | nil => exact h
  | cons c l ih => exact ih (steps_lt (xor32 h (u8_32 c)))
theorem sum_lt (l : List UInt8) : sum l < 4294967296 := xor32 (crc_lt (by omega)) (by omega)
theorem crc_append (v : Nat) (l m : List UInt8) : crc v (l ++ m) = crc (crc v l) m := by
  induction l generalizing v with
  | nil => rfl
  | cons c l ih => exact ih _
theorem crc_snoc (v : Nat) (l : List UInt8) (c : UInt8) : crc v (l ++ [c]) = steps 8 (crc v l ^^^ c.toNat) := by rw [crc_append]; rfl
/-! ### texts put on each other -/
def zx (l m : List UInt8) : List UInt8 := List.zipWith (· ^^^ ·) l m
/-! ### up to four bytes that follow each other -/
def le : List UInt8 → Nat
  | [] => 0
  | c :: l => c.toNat + 256 * le l
/-! ### what is sealed, and opened -/
def sealB (l : List UInt8) : List UInt8 := l ++ beN (sum l) 4 4
def openB (l : List UInt8) : List UInt8 × Int :=
  if l.length < 4 then ([], 10) else if l.drop (l.length - 4) = beN (sum (l.take (l.length - 4))) 4 4 then (l.take (l.length - 4), 0) else ([], 20)
theorem sealB_length (l : List UInt8) : (sealB l).length = l.length + 4 := by simp [sealB, beN_length]
theorem openB_ok {l x : List UInt8} (h : openB l = (x, 0)) : sealB x = l ∧ x.length + 4 = l.length := by
  unfold openB at h
  split at h
  · simp at h
  · split at h
    · rename_i h1 h2
      simp only [Prod.mk.injEq, and_true] at h
      subst h
      unfold sealB
      rw [← h2, List.take_append_drop]
      refine ⟨rfl, by rw [List.length_take]; omega⟩
    · simp at h
end Go.Proofs.YtlfbagkonckffaaGreat.Crc
