/- Joined: CrcMul, CrcTab, BatDevS, BatRowM, SegMath, SqsMath. -/
import Derived.Test.YtllebgadhhgckaaDoorJ06
import Derived.Test.YtllebgadhhgckaaDoorJ08
import Derived.Test.YtllebgadhhgckaaDoorJ09
/- The plain mathematics of how sums are joined by multiplying polynomials, and of the table of four steps. Nothing of the program. -/
namespace Go.Proofs.YtllebgadhhgckaaDoor.Crc
open Oct

def mulK : Nat → Nat → Nat → Nat
  | 0, _, _ => 0
  | k + 1, a, b => (if 2147483648 ≤ a then b else 0) ^^^ mulK k (2 * a % 4294967296) (step b)
def mul (a b : Nat) : Nat := mulK 32 a b
def left : Nat → Nat → Nat
  | 0, _ => 0
  | k + 1, a => if a = 0 then 0 else left k (2 * a % 4294967296) + 1

theorem pow_xor {k x : Nat} (h : x < 2 ^ k) : 2 ^ k ^^^ x = 2 ^ k + x := by
  have h1 := Nat.two_pow_add_eq_or_of_lt (i := k) h 1
  rw [Nat.mul_one] at h1
  rw [h1]
  apply Nat.eq_of_testBit_eq
  intro i
  rw [Nat.testBit_or, Nat.testBit_xor]
  by_cases hi : i < k
  · have : (2 ^ k).testBit i = false := Nat.testBit_two_pow_of_ne (by omega)
    rw [this]; simp
  · have : x.testBit i = false := Nat.testBit_lt_two_pow (Nat.lt_of_lt_of_le h (Nat.pow_le_pow_right (by omega) (by omega)))
    rw [this]; simp
theorem mulK_one {k a : Nat} (ha : a < 4294967296) (hk : k < 32) : mulK (k + 1) a (2 ^ k) = a / 2 ^ (31 - k) := by
  induction k generalizing a with
  | zero =>
    show (if 2147483648 ≤ a then 2 ^ 0 else 0) ^^^ 0 = a / 2 ^ 31
    rw [Nat.xor_zero, show (2 : Nat) ^ 31 = 2147483648 by decide]
    split <;> omega
  | succ k ih =>
    have hs : step (2 ^ (k + 1)) = 2 ^ k := by rw [Nat.pow_succ, Nat.mul_comm]; exact step_even _
    show (if 2147483648 ≤ a then 2 ^ (k + 1) else 0) ^^^ mulK (k + 1) _ (step (2 ^ (k + 1))) = _
    rw [hs, ih (Nat.mod_lt _ (by omega)) (by omega)]
    have e31 : (2 : Nat) ^ (31 - k) = 2 * 2 ^ (31 - (k + 1)) := by rw [show 31 - k = (31 - (k + 1)) + 1 by omega, Nat.pow_succ, Nat.mul_comm]
    have ek : (2147483648 : Nat) = 2 ^ (k + 1) * 2 ^ (31 - (k + 1)) := by rw [← Nat.pow_add, show k + 1 + (31 - (k + 1)) = 31 by omega]
    have hpos : 0 < 2 ^ (31 - (k + 1)) := Nat.pow_pos (by omega)
    have hm : 2 * a % 4294967296 = 2 * (a % 2147483648) := by omega
    rw [hm, e31, Nat.mul_div_mul_left _ _ (by omega)]
    by_cases h : 2147483648 ≤ a
    · rw [if_pos h, pow_xor]
      · have ha2 : a = a % 2147483648 + 2 ^ (31 - (k + 1)) * 2 ^ (k + 1) := by rw [Nat.mul_comm, ← ek]; omega
        rw [Nat.add_comm]
        conv => rhs; rw [ha2]
        rw [Nat.add_mul_div_left _ _ hpos]
      · rw [Nat.div_lt_iff_lt_mul hpos, ← ek]
        omega
    · rw [if_neg h, Nat.zero_xor, Nat.mod_eq_of_lt (by omega)]
theorem mul_one {a : Nat} (ha : a < 4294967296) : mul a 2147483648 = a := by
  have h := mulK_one (k := 31) ha (by omega)
  rw [show (2 : Nat) ^ 31 = 2147483648 by decide, Nat.sub_self, Nat.pow_zero, Nat.div_one] at h
  exact h
def xp (k : Nat) : Nat := steps k 2147483648
/-! ### the table of four steps -/
def tab : List Nat := [0, 498536548, 997073096, 651767980, 1994146192, 1802195444, 1303535960, 1342533948, 3988292384, 4027552580, 3604390888, 3412177804, 2607071920, 2262029012, 2685067896, 3183342108]
theorem tab_at {i : Nat} (h : i < 16) : tab.getD i 0 = steps 4 i := by
  have hall : ∀ j, j < 16 → tab.getD j 0 = steps 4 j := by decide
  exact hall i h
theorem four_low (y : Nat) : steps 4 (16 * y) = y := by
  have h : ∀ z, step (2 * z) = z := step_even
  show step (step (step (step (16 * y)))) = y
  rw [show 16 * y = 2 * (2 * (2 * (2 * y))) by omega]
  simp only [h]
theorem split16 (v : Nat) : v = 16 * (v / 16) ^^^ v % 16 := by
  have h1 := Nat.two_pow_add_eq_or_of_lt (i := 4) (b := v % 16) (Nat.mod_lt _ (by omega)) (v / 16)
  have e4 : (2 : Nat) ^ 4 = 16 := by decide
  rw [e4] at h1
  have hv : v = 16 * (v / 16) + v % 16 := by omega
  have hx : 16 * (v / 16) ||| v % 16 = 16 * (v / 16) ^^^ v % 16 := by
    apply Nat.eq_of_testBit_eq
    intro i
    rw [Nat.testBit_or, Nat.testBit_xor]
    by_cases hi : i < 4
    · have : (16 * (v / 16)).testBit i = false := by rw [← e4, Nat.testBit_two_pow_mul]; simp; omega
      rw [this]; simp
    · have : (v % 16).testBit i = false := Nat.testBit_lt_two_pow (Nat.lt_of_lt_of_le (Nat.mod_lt _ (by omega)) (by rw [← e4]; exact Nat.pow_le_pow_right (by omega) (by omega)))
      rw [this]; simp
  rw [← hx, ← h1]
  exact hv
theorem four_steps (v : Nat) : steps 4 v = v / 16 ^^^ tab.getD (v % 16) 0 := by
  rw [tab_at (Nat.mod_lt _ (by omega))]
  conv => lhs; rw [split16 v]
  rw [steps_xor, four_low]
theorem steps_four (k v : Nat) : steps (4 * (k + 1)) v = steps 4 (steps (4 * k) v) := by rw [Nat.mul_succ, steps_add]
end Go.Proofs.YtllebgadhhgckaaDoor.Crc

/- The package's table: what the walks ask of the world. -/
namespace Go.Proofs.YtllebgadhhgckaaDoor.Crc
open Go.RowKit Oct

def Tab (w : World) : Prop := ∀ i, i < 16 → w.cell? ⟨0, i, none⟩ = some (.int .u32 ((tab.getD i 0 : Nat) : Int))
theorem Tab.pos {w : World} (h : Tab w) : 0 < w.heap.size := by
  have h0 := h 0 (by omega)
  rcases Nat.lt_or_ge 0 w.heap.size with hl | hl
  · exact hl
  · simp [World.cell?, Array.getElem?_eq_none hl] at h0
theorem Tab.below {B : Nat} {w w' : World} (h : Tab w) (hb : Below B w w') (hB : 0 < B) : Tab w' := fun i hi => (hb.cell (p := ⟨0, i, none⟩) hB).trans (h i hi)
theorem Tab.bel {w w' : World} (h : Tab w) (hb : Below w.heap.size w w') : Tab w' := h.below hb h.pos
theorem Tab.alloc {w : World} (h : Tab w) (o : Obj) : Tab (w.alloc o) := h.bel (bel_alloc (Below.refl _ _) o)
end Go.Proofs.YtllebgadhhgckaaDoor.Crc

/- The words for the contracts of the landed batch. -/
namespace Go.Proofs.YtllebgadhhgckaaDoor.Bat
open Go.RowKit Oct Rec Crc Lay

def OwnR (w : World) (B : Nat) (A : Option Addr) (n : Nat) (l : List Rc) : Prop :=
  RdR w w.heap.size A n l ∧ ∀ g o, A = some ⟨g, o, none⟩ → 0 < n → B ≤ g ∧ ∀ i, i < n * 5 → w.frozen? ⟨g, o + i, none⟩ = false
def RGB (w : World) (x : Bt × Int × Int) (en : Ending) (w' : World) : Prop :=
  ∃ A n c, en = .returned (.tuple #[bval x.1 (.slice A n c), .int .i64 x.2.1, .int .i64 x.2.2]) ∧ n ≤ c ∧ OwnR w' w.heap.size A n x.1.recs ∧ Below w.heap.size w w'
def RMB (w : World) (x : Bt × Int) (en : Ending) (w' : World) : Prop :=
  ∃ A n c, en = .returned (.tuple #[bval x.1 (.slice A n c), .int .i64 x.2]) ∧ n ≤ c ∧ OwnR w' w.heap.size A n x.1.recs ∧ Below w.heap.size w w'
noncomputable def eqB (a b : Bt) : Bool := @decide (a = b) (Classical.propDecidable _)
def fewR : List Rc → Nat → Bool
  | [], _ => true
  | r :: l, m => if 20000 < m + (r.key.size + r.val.size) then false else fewR l (m + (r.key.size + r.val.size))
def fewT (b : Bt) : Bool := fewR b.recs 0 && decide (b.recs.length ≤ 100)
theorem fewR_small {l : List Rc} {m : Nat} (h : fewR l m = true) : ∀ r ∈ l, r.key.size + r.val.size ≤ 20000 := by
  induction l generalizing m with
  | nil => simp
  | cons x l ih =>
    unfold fewR at h
    by_cases hh : 20000 < m + (x.key.size + x.val.size)
    · rw [if_pos hh] at h; cases h
    · rw [if_neg hh] at h
      intro r hr
      rcases List.mem_cons.1 hr with rfl | h9
      · omega
      · exact ih h r h9
theorem fewT_iff {b : Bt} (h : fewT b = true) : b.recs.length ≤ 100 ∧ ∀ r ∈ b.recs, r.key.size + r.val.size ≤ 20000 := by
  unfold fewT at h
  rw [Bool.and_eq_true, decide_eq_true_eq] at h
  exact ⟨h.2, fewR_small h.1⟩
theorem fits_of {b : Bt} (hn : FitN b) (hr : ∀ r ∈ b.recs, Fit r) (h : fewT b = true) : Fits b := by
  obtain ⟨h0, h1, h2, h3, h4, h5, h6, h8⟩ := hn
  exact ⟨h0, h1, h2, h3, h4, h5, h6, h8, fun r hm => ⟨(hr r hm).1, (hr r hm).2.1, by have := (fewT_iff h).2 r hm; omega, by have := (fewT_iff h).2 r hm; omega⟩⟩
end Go.Proofs.YtllebgadhhgckaaDoor.Bat

/- Batches put one after another: the mathematics. -/
namespace Go.Proofs.YtllebgadhhgckaaDoor.Bat
open Go.RowKit Oct Rec Crc Lay

def mayR (bs : List Bt) : List Bt := bs.filter fun b => decide (chB b = 0)
def byR (bs : List Bt) : List UInt8 := bs.flatMap byB
theorem byR_snoc (bs : List Bt) (b : Bt) : byR (bs ++ [b]) = byR bs ++ byB b := by unfold byR; rw [List.flatMap_append]; simp
theorem byR_split {bs : List Bt} {k : Nat} {b : Bt} (h : bs[k]? = some b) : byR bs = byR (bs.take k) ++ byB b ++ byR (bs.drop (k + 1)) ∧ byR (bs.take (k + 1)) = byR (bs.take k) ++ byB b := by
  have e : bs.take (k + 1) = bs.take k ++ [b] := by rw [List.take_add_one, h]; rfl
  have e2 : byR (bs.take (k + 1)) = byR (bs.take k) ++ byB b := by rw [e, byR_snoc]
  refine ⟨?_, e2⟩
  rw [← e2]
  conv => lhs; rw [← List.take_append_drop (k + 1) bs]
  unfold byR
  rw [List.flatMap_append]
theorem row_at {bs : List Bt} (hok : ∀ b ∈ bs, chB b = 0) {k : Nat} {b : Bt} (h : bs[k]? = some b) :
    grB (byR bs) ((byR (bs.take k)).length : Int) = (b, ((byR (bs.take (k + 1))).length : Int), 0) ∧ (byR (bs.take k)).length < (byR (bs.take (k + 1))).length := by
  obtain ⟨h1, h2⟩ := byR_split h
  have h3 := grB_at (hok b (List.mem_of_getElem? h)) (byR (bs.take k)) (byR (bs.drop (k + 1)))
  rw [← h1] at h3
  have h4 : 17 ≤ (byB b).length := by have := body_pos b; rw [byB_length]; omega
  rw [h3, h2, List.length_append, Int.natCast_add]
  exact ⟨rfl, by omega⟩
end Go.Proofs.YtllebgadhhgckaaDoor.Bat

/- The plain mathematics of layer 7: a segment's batches. Nothing of the program. -/
namespace Go.Proofs.YtllebgadhhgckaaDoor.Seg
open Oct Rec Crc Bat

theorem sc_dec {l : List UInt8} (h : (grB l 0).2.2 = 0) : (l.drop (grB l 0).2.1.toNat).length < l.length := by
  rcases hg : grB l 0 with ⟨b, n, z⟩
  rw [hg] at h
  obtain rfl : z = 0 := h
  have := grB_good hg
  rw [List.length_drop]
  simp only
  omega
def sc (lo : Int) (l : List UInt8) : List Bt × Nat :=
  if _h : (grB l 0).2.2 = 0 ∧ lo ≤ (grB l 0).1.base then
    ((grB l 0).1 :: (sc ((grB l 0).1.last + 1) (l.drop (grB l 0).2.1.toNat)).1, (grB l 0).2.1.toNat + (sc ((grB l 0).1.last + 1) (l.drop (grB l 0).2.1.toNat)).2)
  else ([], 0)
termination_by l.length
decreasing_by all_goals exact sc_dec _h.1
def ris : Int → List Bt → Bool
  | _, [] => true
  | lo, b :: bs => decide (chB b = 0 ∧ lo ≤ b.base) && ris (b.last + 1) bs
def endR : Int → List Bt → Int
  | lo, [] => lo
  | _, b :: bs => endR (b.last + 1) bs
/-! ### segments -/
structure Sg where
  base : Int
  bytes : List UInt8
def nilS : Sg := ⟨0, []⟩
def batS (s : Sg) : List Bt := (sc s.base s.bytes).1
def goodS (s : Sg) : Nat := (sc s.base s.bytes).2
def endS (s : Sg) : Int := endR s.base (batS s)
def wholeS (s : Sg) : Bool := decide (0 ≤ s.base ∧ s.base ≤ 1099511627776 ∧ goodS s = s.bytes.length)
def newS (base : Int) : Sg × Int := if base < 0 ∨ 1099511627776 < base then (nilS, 1) else (⟨base, []⟩, 0)
def apS (s : Sg) (b : Bt) (limit : Int) : Sg × Int :=
  if wholeS s = false ∨ limit < 1 ∨ 4096 < limit then (nilS, 1)
  else if chB b ≠ 0 then (nilS, chB b)
  else if b.base < endS s then (nilS, 71)
  else if limit < (s.bytes.length : Int) + (byB b).length then (nilS, 70)
  else (⟨s.base, s.bytes ++ byB b⟩, 0)
def allS (limit : Int) : Sg → List Bt → Sg × Int
  | s, [] => (s, 0)
  | s, b :: bs => if (apS s b limit).2 ≠ 0 then (nilS, (apS s b limit).2) else allS limit (apS s b limit).1 bs
def ofS (base : Int) (bs : List Bt) (limit : Int) : Sg × Int :=
  if (newS base).2 ≠ 0 ∨ limit < 1 ∨ 4096 < limit then (nilS, 1) else allS limit (newS base).1 bs
def ahead (off : Int) : List Bt → List Bt
  | [] => []
  | b :: bs => if off ≤ b.last then [] else b :: ahead off bs
def cutS (s : Sg) (off : Int) : Sg := ⟨s.base, byR (ahead off (batS s))⟩
def fixS (s : Sg) : Sg × Int := (⟨s.base, s.bytes.take (goodS s)⟩, (s.bytes.length : Int) - goodS s)
theorem drop_at {l : List Bt} {k : Nat} {b : Bt} (h : l[k]? = some b) : l.drop k = b :: l.drop (k + 1) := by
  obtain ⟨hlt, hr⟩ := List.getElem?_eq_some_iff.1 h
  rw [List.drop_eq_getElem_cons hlt, hr]
end Go.Proofs.YtllebgadhhgckaaDoor.Seg

/- The plain mathematics of layer 11: producers. Nothing of the program. -/
namespace Go.Proofs.YtllebgadhhgckaaDoor.Sqs
open Oct Rec Crc Bat Seg

structure Dd where
  sq : Int
  la : Int
  ba : Int
deriving DecidableEq
structure Pd where
  pid : Int
  gen : Int
  did : List Dd
deriving DecidableEq
def ddOk (d : Dd) : Bool := decide ((0 ≤ d.sq ∧ d.sq ≤ d.la) ∧ d.la ≤ 1048576 ∧ 0 ≤ d.ba ∧ d.ba ≤ 1099511627776)
def nextD : Option Int → Dd → Bool
  | none, _ => true
  | some v, d => decide (d.sq = v + 1)
def chD : Option Int → List Dd → Bool
  | _, [] => true
  | o, d :: l => (ddOk d && nextD o d) && chD (some d.la) l
def didOk (l : List Dd) : Bool := chD none l && decide (l.length ≤ 5)
def prOk (v : Int) (p : Pd) : Bool := decide ((0 ≤ p.pid ∧ p.pid ≤ 1099511627776) ∧ (0 ≤ p.gen ∧ p.gen ≤ 1048576) ∧ v < p.pid) && didOk p.did
def chP : Int → List Pd → Bool
  | _, [] => true
  | v, p :: l => prOk v p && chP p.pid l
def ckP (l : List Pd) : Int := if 1024 < l.length then 2 else if chP (-1) l then 0 else 1
def findP (l : List Pd) (pid : Int) : Option Pd := l.find? fun p => decide (p.pid = pid)
def lastN (b : Bt) : Int := b.seq + b.last - b.base
def didB (b : Bt) : Dd := ⟨b.seq, lastN b, b.base⟩
def freshP (l : List Pd) (b : Bt) : Bool := match findP l b.pid with
  | none => true
  | some p => decide (p.gen < b.gen) || p.did.isEmpty
def seqP (d : List Dd) (b : Bt) : Int × Bool × Int := match d.find? fun x => decide (x.sq = b.seq ∧ x.la = lastN b) with
  | some x => (x.ba, true, 0)
  | none => match d.getLast? with
    | none => (0, false, 111)
    | some y => if b.seq = y.la + 1 then (0, false, 0) else (0, false, 111)
def lookP (l : List Pd) (b : Bt) : Int × Bool × Int :=
  if ckP l ≠ 0 then (0, false, ckP l) else if chB b ≠ 0 then (0, false, chB b) else if b.pid = -1 then (0, false, 0)
  else match findP l b.pid with
    | none => if b.ctl ≠ 0 then (0, false, 0) else if b.seq = 0 then (0, false, 0) else (0, false, 111)
    | some p => if b.gen < p.gen then (0, false, 110) else if b.ctl ≠ 0 then (0, false, 0) else if p.gen < b.gen ∨ p.did = [] then (if b.seq = 0 then (0, false, 0) else (0, false, 111)) else seqP p.did b
def withP : List Pd → Pd → List Pd
  | [], p => [p]
  | x :: l, p => if p.pid < x.pid then p :: x :: l else if x.pid = p.pid then p :: l else x :: withP l p
def five (l : List Dd) : List Dd := if 5 < l.length then l.drop 1 else l
def writtenP (l : List Pd) (b : Bt) : Pd :=
  ⟨b.pid, b.gen, five ((if freshP l b then [] else match findP l b.pid with | none => [] | some p => p.did) ++ if b.ctl = 0 then [didB b] else [])⟩
def fullP (l : List Pd) (b : Bt) : Bool := decide (b.pid ≠ -1 ∧ findP l b.pid = none ∧ 1024 ≤ l.length)
def putP (l : List Pd) (b : Bt) : List Pd × Int :=
  if (lookP l b).2.2 ≠ 0 then ([], (lookP l b).2.2) else if fullP l b then ([], 2) else if (lookP l b).2.1 = true ∨ b.pid = -1 then (l, 0) else (withP l (writtenP l b), 0)
def aboveP (l : List Pd) (b : Bt) : Bool := freshP l b || match findP l b.pid with
  | none => true
  | some p => match p.did.getLast? with
    | none => true
    | some y => decide (y.la < b.seq)
def ofP : List Pd → List Bt → List Pd
  | l, [] => l
  | l, b :: bs => ofP (if (putP l b).2 = 0 then (putP l b).1 else if (putP l b).2 = 111 ∧ aboveP l b = true ∧ fullP l b = false then withP l ⟨b.pid, b.gen, [didB b]⟩ else l) bs

theorem chP_cons {v : Int} {p : Pd} {l : List Pd} : chP v (p :: l) = true ↔ (((0 ≤ p.pid ∧ p.pid ≤ 1099511627776) ∧ (0 ≤ p.gen ∧ p.gen ≤ 1048576) ∧ v < p.pid) ∧ didOk p.did = true) ∧ chP p.pid l = true := by
  show (prOk v p && chP p.pid l) = true ↔ _
  unfold prOk
  rw [Bool.and_eq_true, Bool.and_eq_true, decide_eq_true_iff]
theorem chP_mem {v : Int} {l : List Pd} (h : chP v l = true) : ∀ p ∈ l, v < p.pid ∧ (0 ≤ p.pid ∧ p.pid ≤ 1099511627776) ∧ (0 ≤ p.gen ∧ p.gen ≤ 1048576) ∧ didOk p.did = true := by
  induction l generalizing v with
  | nil => simp
  | cons x l ih =>
    obtain ⟨⟨⟨h1, h2, h3⟩, h4⟩, h5⟩ := chP_cons.1 h
    intro p hp
    rcases List.mem_cons.1 hp with rfl | hp
    · exact ⟨h3, h1, h2, h4⟩
    · have h6 := ih h5 p hp
      exact ⟨by omega, h6.2⟩
theorem ckP_iff {l : List Pd} : ckP l = 0 ↔ l.length ≤ 1024 ∧ chP (-1) l = true := by
  unfold ckP
  by_cases h : 1024 < l.length
  · rw [if_pos h]
    constructor
    · intro h9; cases h9
    · intro h9; omega
  · rw [if_neg h]
    by_cases h2 : chP (-1) l = true
    · rw [if_pos h2]; exact ⟨fun _ => ⟨by omega, h2⟩, fun _ => rfl⟩
    · rw [if_neg h2]
      constructor
      · intro h9; cases h9
      · intro h9; exact absurd h9.2 h2
theorem findP_cons (x : Pd) (l : List Pd) (v : Int) : findP (x :: l) v = if x.pid = v then some x else findP l v := by
  unfold findP
  rw [List.find?_cons]
  by_cases h : x.pid = v
  · rw [decide_eq_true h, if_pos h]
  · rw [decide_eq_false h, if_neg h]
theorem findP_low {v : Int} {l : List Pd} (h : chP v l = true) {u : Int} (hu : u ≤ v) : findP l u = none := by
  unfold findP
  rw [List.find?_eq_none]
  intro p hp
  have := (chP_mem h p hp).1
  simp
  omega
theorem findP_some {l : List Pd} {v : Int} {p : Pd} (h : findP l v = some p) : p ∈ l ∧ p.pid = v := by
  unfold findP at h
  exact ⟨List.mem_of_find?_eq_some h, by simpa using List.find?_some h⟩
theorem with_ch {v : Int} {l : List Pd} {p : Pd} (h : chP v l = true) (hp : chP v [p] = true) : chP v (withP l p) = true := by
  induction l generalizing v with
  | nil => exact hp
  | cons x l ih =>
    obtain ⟨⟨⟨h1, h2, h3⟩, h4⟩, h5⟩ := chP_cons.1 h
    obtain ⟨⟨⟨p1, p2, p3⟩, p4⟩, _⟩ := chP_cons.1 hp
    unfold withP
    by_cases h6 : p.pid < x.pid
    · rw [if_pos h6]
      exact chP_cons.2 ⟨⟨⟨p1, p2, p3⟩, p4⟩, chP_cons.2 ⟨⟨⟨h1, h2, h6⟩, h4⟩, h5⟩⟩
    · rw [if_neg h6]
      by_cases h7 : x.pid = p.pid
      · rw [if_pos h7]
        exact chP_cons.2 ⟨⟨⟨p1, p2, p3⟩, p4⟩, by rw [← h7]; exact h5⟩
      · rw [if_neg h7]
        exact chP_cons.2 ⟨⟨⟨h1, h2, h3⟩, h4⟩, ih h5 (chP_cons.2 ⟨⟨⟨p1, p2, by omega⟩, p4⟩, rfl⟩)⟩
theorem with_find {v : Int} {l : List Pd} {p : Pd} (h : chP v l = true) : findP (withP l p) p.pid = some p := by
  induction l generalizing v with
  | nil => show findP [p] p.pid = _; rw [findP_cons, if_pos rfl]
  | cons x l ih =>
    obtain ⟨⟨⟨h1, h2, h3⟩, h4⟩, h5⟩ := chP_cons.1 h
    unfold withP
    by_cases h6 : p.pid < x.pid
    · rw [if_pos h6, findP_cons, if_pos rfl]
    · rw [if_neg h6]
      by_cases h7 : x.pid = p.pid
      · rw [if_pos h7, findP_cons, if_pos rfl]
      · rw [if_neg h7, findP_cons, if_neg h7, ih h5]
theorem with_others (l : List Pd) (p : Pd) : (withP l p).filter (fun x => decide (x.pid ≠ p.pid)) = l.filter (fun x => decide (x.pid ≠ p.pid)) := by
  induction l with
  | nil => show [p].filter _ = []; simp
  | cons x l ih =>
    unfold withP
    by_cases h6 : p.pid < x.pid
    · rw [if_pos h6, List.filter_cons_of_neg (by simp)]
    · rw [if_neg h6]
      by_cases h7 : x.pid = p.pid
      · rw [if_pos h7, List.filter_cons_of_neg (by simp), List.filter_cons_of_neg (by simp [h7])]
      · rw [if_neg h7, List.filter_cons_of_pos (by simp [h7]), List.filter_cons_of_pos (by simp [h7]), ih]
theorem with_len (l : List Pd) (p : Pd) : (withP l p).length ≤ l.length + 1 := by
  induction l with
  | nil => exact Nat.le_refl _
  | cons x l ih =>
    unfold withP
    split
    · simp
    · split
      · simp
      · simp only [List.length_cons]; omega
theorem with_len2 {v : Int} {l : List Pd} {p q : Pd} (h : chP v l = true) (hf : findP l p.pid = some q) : (withP l p).length = l.length := by
  induction l generalizing v with
  | nil => cases hf
  | cons x l ih =>
    obtain ⟨⟨⟨h1, h2, h3⟩, h4⟩, h5⟩ := chP_cons.1 h
    unfold withP
    rw [findP_cons] at hf
    by_cases h7 : x.pid = p.pid
    · rw [if_neg (by omega), if_pos h7]; rfl
    · rw [if_neg h7] at hf
      have h8 := (chP_mem h5 q (findP_some hf).1).1
      have h9 := (findP_some hf).2
      rw [if_neg (by omega), if_neg h7, List.length_cons, ih h5 hf, List.length_cons]
theorem chD_snoc {o : Option Int} {l : List Dd} {d : Dd} : chD o (l ++ [d]) = true ↔ chD o l = true ∧ ddOk d = true ∧ nextD (match l.getLast? with | none => o | some y => some y.la) d = true := by
  induction l generalizing o with
  | nil =>
    show ((ddOk d && nextD o d) && true) = true ↔ _
    rw [Bool.and_true, Bool.and_eq_true]
    simp [chD]
  | cons x l ih =>
    show ((ddOk x && nextD o x) && chD (some x.la) (l ++ [d])) = true ↔ ((ddOk x && nextD o x) && chD (some x.la) l) = true ∧ _
    rw [Bool.and_eq_true, ih, Bool.and_eq_true, and_assoc]
    cases l with
    | nil =>
      show _ ↔ ((ddOk x && nextD o x) && chD (some x.la) []) = true ∧ ddOk d = true ∧ nextD (some x.la) d = true
      rw [Bool.and_eq_true, Bool.and_eq_true, and_assoc, and_assoc]
      rfl
    | cons y l => rw [List.getLast?_cons_cons]; cases h : (y :: l).getLast? with
      | none => exact absurd (List.getLast?_eq_none_iff.1 h) (by simp)
      | some z => simp only [Bool.and_eq_true, and_assoc]
theorem chD_tail {o : Option Int} {d : Dd} {l : List Dd} (h : chD o (d :: l) = true) : chD none l = true := by
  have h1 : chD (some d.la) l = true := by
    have h2 : ((ddOk d && nextD o d) && chD (some d.la) l) = true := h
    exact (Bool.and_eq_true _ _ ▸ h2 : _ ∧ _).2
  cases l with
  | nil => rfl
  | cons x l =>
    have h2 : ((ddOk x && nextD (some d.la) x) && chD (some x.la) l) = true := h1
    show ((ddOk x && true) && chD (some x.la) l) = true
    rw [Bool.and_eq_true, Bool.and_eq_true] at h2
    rw [h2.1.1, h2.2]
    rfl
end Go.Proofs.YtllebgadhhgckaaDoor.Sqs
