/- Joined: Lay, BatMath, BatMath2, BatMath3, BatMath4, BatW, BatArg, BatDevS. -/
import Derived.Test.YtmjnleohchmadaaJOct
import Derived.Deep.Slices
import Derived.SizedLaws
import Derived.Test.YtmjnleohchmadaaJRec
import Derived.Test.YtmjnleohchmadaaJCrc
/- How data lie in memory, and how a law's arguments are opened: one notion for all types. Nothing of the program: P, the types' numbers and the worlds are letters. -/
namespace Go.Proofs.Ytmjnleohchmadaa.Lay
open Go.RowKit Go.ChangeShapes Go.WideShapes Go.Deep Go.Proofs.Ytmjnleohchmadaa.Oct

class One (α : Type) where
  one : World → Nat → Value → α → Prop
  keep : ∀ {w w' : World} {B : Nat} {v : Value} {x : α}, one w B v x → (∀ p : Addr, p.block < B → w'.cell? p = w.cell? p) → one w' B v x
  more : ∀ {w : World} {B B' : Nat} {v : Value} {x : α}, one w B v x → B ≤ B' → one w B' v x
class Lay (α : Type) where
  sz : Nat
  pos : 0 < sz
  is : World → Nat → List Value → α → Prop
  len : ∀ {w : World} {B : Nat} {cs : List Value} {x : α}, is w B cs x → cs.length = sz
  keep : ∀ {w w' : World} {B : Nat} {cs : List Value} {x : α}, is w B cs x → (∀ p : Addr, p.block < B → w'.cell? p = w.cell? p) → is w' B cs x
  more : ∀ {w : World} {B B' : Nat} {cs : List Value} {x : α}, is w B cs x → B ≤ B' → is w B' cs x
def RdL {α : Type} [Lay α] (w : World) (B : Nat) (A : Option Addr) (n : Nat) (l : List α) : Prop :=
  l.length = n ∧ ∀ k x, l[k]? = some x → ∃ b o cs, A = some ⟨b, o, none⟩ ∧ b < B ∧ Lay.is w B cs x ∧ ∀ i v, cs[i]? = some v → w.cell? ⟨b, o + k * Lay.sz α + i, none⟩ = some v
def reach : Nat := 140737488351232
section
variable {α : Type} [Lay α] {w w' : World} {B B' n : Nat} {A : Option Addr} {l : List α}
theorem RdL.len (h : RdL w B A n l) : l.length = n := h.1
theorem RdL.nil : RdL w B A 0 ([] : List α) := ⟨rfl, by simp⟩
theorem RdL.keep (h : RdL w B A n l) (hk : ∀ p : Addr, p.block < B → w'.cell? p = w.cell? p) : RdL w' B A n l :=
  ⟨h.1, fun k x hx => by
    obtain ⟨b, o, cs, hA, hb, his, hc⟩ := h.2 k x hx
    exact ⟨b, o, cs, hA, hb, Lay.keep his hk, fun i v hv => (hk _ hb).trans (hc i v hv)⟩⟩
theorem RdL.more (h : RdL w B A n l) (hB : B ≤ B') : RdL w B' A n l :=
  ⟨h.1, fun k x hx => by
    obtain ⟨b, o, cs, hA, hb, his, hc⟩ := h.2 k x hx
    exact ⟨b, o, cs, hA, by omega, Lay.more his hB, hc⟩⟩
theorem RdL.below (h : RdL w B A n l) (hb : Below B' w w') (hB : B ≤ B') : RdL w' B A n l := h.keep fun _ hp => hb.cell (by omega)
theorem RdL.at {k : Nat} (h : RdL w B A n l) (hk : k < n) : ∃ b o x cs, A = some ⟨b, o, none⟩ ∧ b < B ∧ l[k]? = some x ∧ Lay.is w B cs x ∧ ∀ i v, cs[i]? = some v → w.cell? ⟨b, o + k * Lay.sz α + i, none⟩ = some v := by
  have hl : k < l.length := by have := h.1; omega
  obtain ⟨b, o, cs, hA, hb, his, hc⟩ := h.2 k l[k] (List.getElem?_eq_getElem hl)
  exact ⟨b, o, l[k], cs, hA, hb, List.getElem?_eq_getElem hl, his, hc⟩
theorem RdL.take {m : Nat} (h : RdL w B A n l) (hm : m ≤ n) : RdL w B A m (l.take m) := by
  refine ⟨by have := h.1; rw [List.length_take]; omega, fun k x hx => h.2 k x ?_⟩
  rw [List.getElem?_take] at hx
  split at hx
  · exact hx
  · cases hx
end

/-! ### one cell -/
instance : One Int where
  one _ _ v x := v = .int .i64 x ∧ I64 x
  keep h _ := h
  more h _ := h
instance : One Bool where
  one _ _ v x := v = .bool x
  keep h _ := h
  more h _ := h
instance : One ByteArray where
  one _ _ v x := v = .string x ∧ x.size ≤ reach
  keep h _ := h
  more h _ := h
instance {α : Type} [Lay α] : One (List α) where
  one w B v l := ∃ A n c, v = .slice A n c ∧ n ≤ c ∧ c ≤ reach ∧ RdL w B A n l
  keep h hk := by obtain ⟨A, n, c, e, hc, hr, hl⟩ := h; exact ⟨A, n, c, e, hc, hr, hl.keep hk⟩
  more h hB := by obtain ⟨A, n, c, e, hc, hr, hl⟩ := h; exact ⟨A, n, c, e, hc, hr, hl.more hB⟩
@[reducible] def lay1 (α : Type) [One α] : Lay α where
  sz := 1
  pos := by decide
  is w B cs x := ∃ v, cs = [v] ∧ One.one w B v x
  len h := by obtain ⟨v, rfl, _⟩ := h; rfl
  keep h hk := by obtain ⟨v, rfl, h⟩ := h; exact ⟨v, rfl, One.keep h hk⟩
  more h hB := by obtain ⟨v, rfl, h⟩ := h; exact ⟨v, rfl, One.more h hB⟩
instance : Lay Int := lay1 Int
instance : Lay ByteArray := lay1 ByteArray
instance : Lay Bool := lay1 Bool
instance : Lay UInt8 where
  sz := 1
  pos := by decide
  is _ _ cs x := cs = [.int .u8 (x.toNat : Int)]
  len h := by subst h; rfl
  keep h _ := h
  more h _ := h
theorem RdL.bytes {w : World} {B n : Nat} {A : Option Addr} {l : List UInt8} (h : RdL w B A n l) : Rd w B A n l :=
  ⟨h.1, fun k c hc => by
    obtain ⟨b, o, cs, hA, hb, his, hcell⟩ := h.2 k c hc
    obtain rfl : cs = [.int .u8 (c.toNat : Int)] := his
    refine ⟨b, o, hA, hb, ?_⟩
    have := hcell 0 _ rfl
    rw [show o + k * Lay.sz UInt8 + 0 = o + k from by show o + k * 1 + 0 = o + k; omega] at this
    exact this⟩

/-! ### opened -/
section
variable {P : Program} {t e : TypeId}
def Opens1 (P : Program) (t : TypeId) (α : Type) [One α] : Prop :=
  ∀ (H : Type) (enc : TypeId × Value → H) (w : World) (fuel : Nat) (v : Value) (d : DataW H) (pl : List MemPlace),
    DataW.trod enc P w 0 (fun _ => true) true fuel t [v] = some (d, pl) → (∀ z ∈ DataW.weights P t d, z ≤ reachBytes) → ∃ x : α, One.one w w.heap.size v x
def Opens (P : Program) (t : TypeId) (α : Type) [Lay α] : Prop :=
  ∀ (H : Type) (enc : TypeId × Value → H) (w : World) (fuel : Nat) (cs : List Value) (d : DataW H) (pl : List MemPlace),
    DataW.trod enc P w 0 (fun _ => true) true fuel t cs = some (d, pl) → cs.length = Lay.sz α → (∀ z ∈ DataW.weights P t d, z ≤ reachBytes) → ∃ x : α, Lay.is w w.heap.size cs x
end
end Go.Proofs.Ytmjnleohchmadaa.Lay

/- The plain mathematics of layer 4: a batch, its bytes, what bytes tell. Nothing of the program. -/
namespace Go.Proofs.Ytmjnleohchmadaa.Bat
open Go.Proofs.Ytmjnleohchmadaa.Oct Go.Proofs.Ytmjnleohchmadaa.Rec Go.Proofs.Ytmjnleohchmadaa.Crc

structure Bt where
  base : Int
  last : Int
  frm : Int
  epoch : Int
  pid : Int
  gen : Int
  seq : Int
  txn : Bool
  ctl : Int
  recs : List Rc

def W64 (x : Int) : Prop := -9223372036854775808 ≤ x ∧ x ≤ 9223372036854775807
def inG (n : Int) : Bool := decide (0 ≤ n ∧ n ≤ 1048576)
def rise (lo hi : Int) : List Rc → Bool
  | [] => true
  | r :: l => may r && decide (lo < r.off ∧ r.off ≤ hi) && rise r.off hi l
def form (b : Bt) : Bool :=
  decide (0 ≤ b.base ∧ b.base ≤ 1099511627776 ∧ 0 ≤ b.last ∧ b.last ≤ 1099511627776 ∧ 0 ≤ b.frm ∧ b.frm ≤ 1099511627776 ∧ b.base ≤ b.last ∧ b.last - b.base < 16 ∧
    b.frm + (b.last - b.base) ≤ 1099511627776 ∧ 0 ≤ b.epoch ∧ b.epoch ≤ 1048576 ∧ 0 ≤ b.gen ∧ b.gen ≤ 1048576 ∧ 0 ≤ b.seq ∧ b.seq ≤ 1048576 ∧ b.seq + (b.last - b.base) ≤ 1048576 ∧
    (b.pid = -1 ∧ b.gen = 0 ∧ b.seq = 0 ∧ b.txn = false ∧ b.ctl = 0 ∨ b.pid ≠ -1 ∧ 0 ≤ b.pid ∧ b.pid ≤ 1099511627776)) &&
  (if b.ctl = 0 then rise (b.base - 1) b.last b.recs else decide ((b.ctl = 1 ∨ b.ctl = 2) ∧ b.last = b.base ∧ b.recs = [] ∧ b.txn = true ∧ 0 ≤ b.pid))

def vs : List Int → List UInt8
  | [] => []
  | x :: l => vb (zz x) ++ vs l
def rs (base st : Int) : List Rc → List UInt8
  | [] => []
  | r :: l => rb r base st ++ rs base st l
def mark (b : Bt) : UInt8 := UInt8.ofNat (b.ctl.toNat + if b.txn then 4 else 0)
def hd (b : Bt) : List Int := [b.base, b.last - b.base, b.frm, b.epoch, b.pid, b.gen, b.seq]
def tl (base : Int) : List Rc → List UInt8
  | [] => []
  | r :: l => vb (zz r.stamp) ++ rs base r.stamp (r :: l)
def body (b : Bt) : List UInt8 := vs (hd b) ++ ([mark b] ++ (vb (zz b.recs.length) ++ tl b.base b.recs))
def byB (b : Bt) : List UInt8 := beN (sealB (body b)).length 4 4 ++ sealB (body b)
def chB (b : Bt) : Int := if form b then (if 2048 < (byB b).length then 2 else 0) else 1
def ptB (b : Bt) : List UInt8 × Int := if chB b = 0 then (byB b, 0) else ([], chB b)
def szB (b : Bt) : Int := if chB b = 0 then (byB b).length else 0

def rdV : Nat → List UInt8 → Int → Option (List Int × Int)
  | 0, _, p => some ([], p)
  | k + 1, l, p => if (gv l p).2.2 ≠ 0 then none else match rdV k l (gv l p).2.1 with
    | none => none
    | some (xs, q) => some ((gv l p).1 :: xs, q)
def rdR : Nat → List UInt8 → Int → Int → Int → Option (List Rc × Int)
  | 0, _, p, _, _ => some ([], p)
  | k + 1, l, p, base, st => if (gr l p base st).2.2 ≠ 0 then none else match rdR k l (gr l p base st).2.1 base st with
    | none => none
    | some (xs, q) => some ((gr l p base st).1 :: xs, q)
def rdT (k : Nat) (l : List UInt8) (p base : Int) : Option (List Rc × Int) :=
  if k = 0 then some ([], p) else if (gv l p).2.2 ≠ 0 then none else match rdR k l (gv l p).2.1 base (gv l p).1 with
    | none => none
    | some (xs, q) => if (xs.head?.map (·.stamp)) = some (gv l p).1 then some (xs, q) else none
def rdB (l : List UInt8) : Option (Bt × Int) :=
  match rdV 7 l 0 with
  | some ([n0, n1, n2, n3, n4, n5, n6], p) => match l[p.toNat]? with
    | none => none
    | some c => if 7 < c.toNat then none else if (gv l (p + 1)).2.2 ≠ 0 then none else
      if (gv l (p + 1)).1 < 0 ∨ 16 < (gv l (p + 1)).1 ∨ n1 < 0 ∨ 16 < n1 ∨ n0 < 0 ∨ 1099511627776 < n0 then none else
      match rdT (gv l (p + 1)).1.toNat l (gv l (p + 1)).2.1 n0 with
      | none => none
      | some (xs, q) => some (⟨n0, n0 + n1, n2, n3, n4, n5, n6, decide (4 ≤ c.toNat), ((c.toNat % 4 : Nat) : Int), xs⟩, q)
  | _ => none

/-! ### what is written is read -/
end Go.Proofs.Ytmjnleohchmadaa.Bat

/- More plain mathematics of layer 4: what is written is read, what is read was written, no body begins another one. Nothing of the program. -/
namespace Go.Proofs.Ytmjnleohchmadaa.Bat
open Go.Proofs.Ytmjnleohchmadaa.Oct Go.Proofs.Ytmjnleohchmadaa.Rec Go.Proofs.Ytmjnleohchmadaa.Crc

theorem rise_len {lo hi : Int} {l : List Rc} (h : rise lo hi l = true) : l = [] ∨ (l.length : Int) ≤ hi - lo := by
  induction l generalizing lo with
  | nil => exact .inl rfl
  | cons x l ih =>
    simp only [rise, Bool.and_eq_true, decide_eq_true_eq] at h
    right
    rcases ih h.2 with e | e
    · subst e; simp; omega
    · simp only [List.length_cons]; omega

structure Form (b : Bt) : Prop where
  base0 : 0 ≤ b.base
  base1 : b.base ≤ 1099511627776
  last0 : 0 ≤ b.last
  last1 : b.last ≤ 1099511627776
  frm0 : 0 ≤ b.frm
  frm1 : b.frm ≤ 1099511627776
  le : b.base ≤ b.last
  near : b.last - b.base < 16
  frm2 : b.frm + (b.last - b.base) ≤ 1099511627776
  ep0 : 0 ≤ b.epoch
  ep1 : b.epoch ≤ 1048576
  gen0 : 0 ≤ b.gen
  gen1 : b.gen ≤ 1048576
  seq0 : 0 ≤ b.seq
  seq1 : b.seq ≤ 1048576
  seq2 : b.seq + (b.last - b.base) ≤ 1048576
  pid0 : -1 ≤ b.pid
  pid1 : b.pid ≤ 1099511627776
  none : b.pid = -1 → b.gen = 0 ∧ b.seq = 0 ∧ b.txn = false ∧ b.ctl = 0
  ctl0 : 0 ≤ b.ctl
  ctl1 : b.ctl ≤ 2
  data : b.ctl = 0 → rise (b.base - 1) b.last b.recs = true
  ends : b.ctl ≠ 0 → b.last = b.base ∧ b.recs = [] ∧ b.txn = true ∧ 0 ≤ b.pid
theorem Form.few {b : Bt} (h : Form b) : b.recs.length ≤ 16 := by
  by_cases h0 : b.ctl = 0
  · have := h.near
    rcases rise_len (h.data h0) with e | e
    · rw [e]; simp
    · omega
  · rw [(h.ends h0).2.1]; simp
/-! ### what is read was written -/
theorem rdV_good {k : Nat} {l : List UInt8} {p q : Int} {xs : List Int} (h : rdV k l p = some (xs, q)) (hp : 0 ≤ p ∧ p ≤ l.length) :
    xs.length = k ∧ p ≤ q ∧ q ≤ l.length ∧ vs xs = (l.drop p.toNat).take (q - p).toNat ∧ ∀ x ∈ xs, W64 x := by
  induction k generalizing p q xs with
  | zero =>
    simp only [rdV, Option.some.injEq, Prod.mk.injEq] at h
    obtain ⟨rfl, rfl⟩ := h
    refine ⟨rfl, by omega, by omega, ?_, by simp⟩
    rw [Int.sub_self]; rfl
  | succ k ih =>
    rw [rdV] at h
    by_cases h0 : (gv l p).2.2 = 0
    case neg => rw [if_pos h0] at h; cases h
    rw [if_neg (by simpa using h0)] at h
    rcases g1 : gv l p with ⟨x, i, e⟩
    rw [g1] at h h0
    simp only at h h0
    subst h0
    obtain ⟨a1, a2, a3, a4, a5, a6, a7⟩ := gv_good g1
    cases hr : rdV k l i with
    | none => rw [hr] at h; cases h
    | some y =>
      obtain ⟨ys, q'⟩ := y
      rw [hr] at h
      simp only [Option.some.injEq, Prod.mk.injEq] at h
      obtain ⟨rfl, rfl⟩ := h
      obtain ⟨b1, b2, b3, b4, b5⟩ := ih hr (by omega)
      refine ⟨by simp [b1], by omega, b3, ?_, ?_⟩
      · rw [vs, a5, b4, seg_join l (by omega) (by omega) (by omega)]
      · intro y hy
        rcases List.mem_cons.1 hy with rfl | hy
        · exact ⟨a6, a7⟩
        · exact b5 y hy
theorem rdR_good {k : Nat} {l : List UInt8} {p q base st : Int} {xs : List Rc} (h : rdR k l p base st = some (xs, q)) (hp : 0 ≤ p ∧ p ≤ l.length) :
    xs.length = k ∧ p ≤ q ∧ q ≤ l.length ∧ rs base st xs = (l.drop p.toNat).take (q - p).toNat ∧ ∀ r ∈ xs, may r = true := by
  induction k generalizing p q xs with
  | zero =>
    simp only [rdR, Option.some.injEq, Prod.mk.injEq] at h
    obtain ⟨rfl, rfl⟩ := h
    refine ⟨rfl, by omega, by omega, ?_, by simp⟩
    rw [Int.sub_self]; rfl
  | succ k ih =>
    rw [rdR] at h
    by_cases h0 : (gr l p base st).2.2 = 0
    case neg => rw [if_pos h0] at h; cases h
    rw [if_neg (by simpa using h0)] at h
    rcases g1 : gr l p base st with ⟨x, i, e⟩
    rw [g1] at h h0
    simp only at h h0
    subst h0
    obtain ⟨_, _, a3, a4, a5, a6, a7⟩ := gr_good g1
    cases hr : rdR k l i base st with
    | none => rw [hr] at h; cases h
    | some y =>
      obtain ⟨ys, q'⟩ := y
      rw [hr] at h
      simp only [Option.some.injEq, Prod.mk.injEq] at h
      obtain ⟨rfl, rfl⟩ := h
      obtain ⟨b1, b2, b3, b4, b5⟩ := ih hr (by omega)
      refine ⟨by simp [b1], by omega, b3, ?_, ?_⟩
      · rw [rs, a7, b4, seg_join l (by omega) (by omega) (by omega)]
      · intro y hy
        rcases List.mem_cons.1 hy with rfl | hy
        · exact a3
        · exact b5 y hy
theorem rdT_good {k : Nat} {l : List UInt8} {p q base : Int} {xs : List Rc} (h : rdT k l p base = some (xs, q)) (hp : 0 ≤ p ∧ p ≤ l.length) :
    xs.length = k ∧ p ≤ q ∧ q ≤ l.length ∧ tl base xs = (l.drop p.toNat).take (q - p).toNat ∧ ∀ r ∈ xs, may r = true := by
  unfold rdT at h
  by_cases hk : k = 0
  · rw [if_pos hk] at h
    simp only [Option.some.injEq, Prod.mk.injEq] at h
    obtain ⟨rfl, rfl⟩ := h
    subst hk
    refine ⟨rfl, by omega, by omega, ?_, by simp⟩
    rw [Int.sub_self]; rfl
  · rw [if_neg hk] at h
    by_cases h0 : (gv l p).2.2 = 0
    case neg => rw [if_pos h0] at h; cases h
    rw [if_neg (by simpa using h0)] at h
    rcases g1 : gv l p with ⟨x, i, e⟩
    rw [g1] at h h0
    simp only at h h0
    subst h0
    obtain ⟨a1, a2, a3, a4, a5, a6, a7⟩ := gv_good g1
    cases hr : rdR k l i base x with
    | none => rw [hr] at h; cases h
    | some y =>
      obtain ⟨ys, q'⟩ := y
      rw [hr] at h
      simp only at h
      by_cases hh : (ys.head?.map (·.stamp)) = some x
      case neg => rw [if_neg hh] at h; cases h
      rw [if_pos hh] at h
      simp only [Option.some.injEq, Prod.mk.injEq] at h
      obtain ⟨rfl, rfl⟩ := h
      obtain ⟨b1, b2, b3, b4, b5⟩ := rdR_good hr (by omega)
      refine ⟨b1, by omega, b3, ?_, b5⟩
      cases ys with
      | nil => simp at hh
      | cons y ys =>
        simp only [List.head?_cons, Option.map_some, Option.some.injEq] at hh
        rw [tl, hh, a5, b4, seg_join l (by omega) (by omega) (by omega)]
theorem rdB_good {l : List UInt8} {b : Bt} {q : Int} (h : rdB l = some (b, q)) : 0 ≤ q ∧ q ≤ l.length ∧ body b = l.take q.toNat ∧ (∀ r ∈ b.recs, may r = true) ∧ b.recs.length ≤ 16 ∧ 0 ≤ b.base ∧ b.base ≤ 1099511627776 ∧ 0 ≤ b.last - b.base ∧ b.last - b.base ≤ 16 ∧ 0 ≤ b.ctl ∧ b.ctl ≤ 3 ∧ ∀ x ∈ hd b, W64 x := by
  unfold rdB at h
  split at h
  case h_2 => cases h
  rename_i n0 n1 n2 n3 n4 n5 n6 p hv
  obtain ⟨_, v2, v3, v4, v5⟩ := rdV_good hv (by omega)
  split at h
  case h_1 => cases h
  rename_i c hc
  split at h
  · cases h
  rename_i hc7
  split at h
  · cases h
  rename_i he
  have he0 : (gv l (p + 1)).2.2 = 0 := by simpa using he
  rcases g1 : gv l (p + 1) with ⟨m, i, e⟩
  simp only [g1] at h he0
  subst he0
  obtain ⟨a1, a2, a3, a4, a5, a6, a7⟩ := gv_good g1
  split at h
  · cases h
  rename_i hbd
  split at h
  case h_1 => cases h
  rename_i xs q' ht
  simp only [Option.some.injEq, Prod.mk.injEq] at h
  obtain ⟨rfl, rfl⟩ := h
  obtain ⟨t1, t2, t3, t4, t5⟩ := rdT_good ht (by omega)
  have hb1 : n0 + n1 - n0 = n1 := by omega
  refine ⟨by omega, t3, ?_, t5, by simp only; omega, by simp only; omega, by simp only; omega, by simp only; omega, by simp only; omega, by simp only; omega, by simp only; omega, by simp only [hd, hb1]; exact v5⟩
  have hmk : mark ⟨n0, n0 + n1, n2, n3, n4, n5, n6, decide (4 ≤ c.toNat), ((c.toNat % 4 : Nat) : Int), xs⟩ = c := by
    unfold mark
    simp only [Int.toNat_natCast, decide_eq_true_eq]
    apply UInt8.toNat.inj
    rw [ofNat_toNat' (by split <;> omega)]
    split <;> omega
  have hx : (zz ((xs.length : Nat) : Int)) = zz m := by congr 1; omega
  have e3 : [c] = (l.drop p.toNat).take (p + 1 - p).toNat := by
    have : (p + 1 - p).toNat = 1 := by omega
    rw [this, drop_at hc]; rfl
  unfold body
  rw [hmk]
  simp only [hd, hb1]
  rw [hx, v4, e3, a5, t4, seg_join l (by omega) (by omega) (by omega), seg_join l (by omega) (by omega) (by omega), seg_join l (by omega) (by omega) (by omega)]
  have e0 : (0 : Int).toNat = 0 := rfl
  rw [e0, List.drop_zero, Int.sub_zero]
end Go.Proofs.Ytmjnleohchmadaa.Bat

/- More plain mathematics of layer 4: the batch that bytes tell, cut and spoilt, moved, one behind the other. Nothing of the program. -/
namespace Go.Proofs.Ytmjnleohchmadaa.Bat
open Go.Proofs.Ytmjnleohchmadaa.Oct Go.Proofs.Ytmjnleohchmadaa.Rec Go.Proofs.Ytmjnleohchmadaa.Crc

def nilB : Bt := ⟨0, 0, 0, 0, 0, 0, 0, false, 0, []⟩
def opB (l : List UInt8) : Bt × Int :=
  if (openB l).2 ≠ 0 then (nilB, (openB l).2) else match rdB (openB l).1 with
    | none => (nilB, 11)
    | some (b, q) => if q = ((openB l).1.length : Int) ∧ chB b = 0 then (b, 0) else (nilB, 11)
def grB (l : List UInt8) (p : Int) : Bt × Int × Int :=
  if (gt l p 4).2 ≠ 0 then (nilB, 0, (gt l p 4).2)
  else if (gt l p 4).1 < 5 ∨ 2044 < (gt l p 4).1 then (nilB, 0, 11)
  else if (l.length : Int) < p + 4 + (gt l p 4).1 then (nilB, 0, 10)
  else if (opB ((l.drop (p + 4).toNat).take (gt l p 4).1)).2 ≠ 0 then (nilB, 0, (opB ((l.drop (p + 4).toNat).take (gt l p 4).1)).2)
  else ((opB ((l.drop (p + 4).toNat).take (gt l p 4).1)).1, p + 4 + (gt l p 4).1, 0)

theorem opB_good {l : List UInt8} {b : Bt} (h : opB l = (b, 0)) : chB b = 0 ∧ sealB (body b) = l := by
  unfold opB at h
  rcases ho : openB l with ⟨x, z⟩
  rw [ho] at h
  simp only at h
  by_cases hz : z = 0
  case neg => rw [if_pos hz] at h; simp only [Prod.mk.injEq] at h; exact absurd h.2 hz
  subst hz
  rw [if_neg (by simp)] at h
  cases hr : rdB x with
  | none => rw [hr] at h; simp at h
  | some y =>
    obtain ⟨b', q⟩ := y
    rw [hr] at h
    simp only at h
    by_cases hc : q = (x.length : Int) ∧ chB b' = 0
    case neg => rw [if_neg hc] at h; simp at h
    rw [if_pos hc] at h
    simp only [Prod.mk.injEq, and_true] at h
    subst h
    obtain ⟨h1, h2⟩ := hc
    obtain ⟨_, _, g, _⟩ := rdB_good hr
    have : x.take q.toNat = x := List.take_of_length_le (by omega)
    rw [this] at g
    exact ⟨h2, by rw [g]; exact (openB_ok ho).1⟩
theorem gt_four {l : List UInt8} {p : Int} (h : (gt l p 4).2 = 0) : 0 ≤ p ∧ p + 4 ≤ l.length ∧ (gt l p 4).1 = getN ((l.drop p.toNat).take 4) := by
  unfold gt at h ⊢
  by_cases h1 : isW 4 = false ∨ p < 0
  · rw [if_pos h1] at h; simp at h
  · rw [if_neg h1] at h ⊢
    have hp : ¬ p < 0 := fun hh => h1 (.inr hh)
    by_cases h2 : hasB l.length p 4 = false
    · rw [if_pos h2] at h; simp at h
    · rw [if_neg h2]
      have h3 : hasB l.length p 4 = true := by simpa using h2
      simp [hasB] at h3
      exact ⟨by omega, by omega, rfl⟩
theorem be_getN {l : List UInt8} (h : l.length = 4) : beN (getN l) 4 4 = l := by
  apply getN_inj
  · rw [beN_length, h]
  · rw [getN_be]
    have := getN_lt l
    rw [h] at this
    exact Nat.mod_eq_of_lt this
theorem grB_good {l : List UInt8} {p n : Int} {b : Bt} (h : grB l p = (b, n, 0)) : 0 ≤ p ∧ p < n ∧ n ≤ l.length ∧ chB b = 0 ∧ byB b = (l.drop p.toNat).take (n - p).toNat := by
  unfold grB at h
  by_cases h1 : (gt l p 4).2 = 0
  case neg => rw [if_pos h1] at h; simp only [Prod.mk.injEq] at h; exact absurd h.2.2 h1
  rw [if_neg (by simpa using h1)] at h
  obtain ⟨p0, p4, hg⟩ := gt_four h1
  by_cases h2 : (gt l p 4).1 < 5 ∨ 2044 < (gt l p 4).1
  · rw [if_pos h2] at h; simp at h
  rw [if_neg h2] at h
  by_cases h3 : (l.length : Int) < p + 4 + (gt l p 4).1
  · rw [if_pos h3] at h; simp at h
  rw [if_neg h3] at h
  rcases ho : opB ((l.drop (p + 4).toNat).take (gt l p 4).1) with ⟨b', z⟩
  rw [ho] at h
  simp only at h
  by_cases h4 : z = 0
  case neg => rw [if_pos h4] at h; simp only [Prod.mk.injEq] at h; exact absurd h.2.2 h4
  subst h4
  rw [if_neg (by simp)] at h
  simp only [Prod.mk.injEq, and_true] at h
  obtain ⟨rfl, rfl⟩ := h
  obtain ⟨c1, c2⟩ := opB_good ho
  refine ⟨p0, by omega, by omega, c1, ?_⟩
  have hlen : ((l.drop (p + 4).toNat).take (gt l p 4).1).length = (gt l p 4).1 := by rw [List.length_take, List.length_drop]; omega
  have hb4 : ((l.drop p.toNat).take 4).length = 4 := by rw [List.length_take, List.length_drop]; omega
  unfold byB
  rw [c2, hlen]
  have e1 : beN (gt l p 4).1 4 4 = (l.drop p.toNat).take (p + 4 - p).toNat := by
    have : (p + 4 - p).toNat = 4 := by omega
    rw [this, hg]
    exact be_getN hb4
  have e2 : (l.drop (p + 4).toNat).take (gt l p 4).1 = (l.drop (p + 4).toNat).take (p + 4 + ((gt l p 4).1 : Int) - (p + 4)).toNat := by congr 1; omega
  rw [e1, e2, seg_join l (by omega) (by omega) (by omega)]
end Go.Proofs.Ytmjnleohchmadaa.Bat

/- More plain mathematics of layer 4: a batch's bytes with one changed; a batch at other offsets. Nothing of the program. -/
namespace Go.Proofs.Ytmjnleohchmadaa.Bat
open Go.Proofs.Ytmjnleohchmadaa.Oct Go.Proofs.Ytmjnleohchmadaa.Rec Go.Proofs.Ytmjnleohchmadaa.Crc

/-! ### a batch at other offsets -/
def mvR (by_ : Int) (r : Rc) : Rc := { r with off := r.off + by_ }
def mvO (b : Bt) (base : Int) : Bt := { b with base := base, last := base + b.last - b.base, recs := b.recs.map (mvR (base - b.base)) }
def mvB (b : Bt) (base : Int) : Bt × Int :=
  if inR base = false then (nilB, 1) else if chB b ≠ 0 then (nilB, chB b) else if chB (mvO b base) ≠ 0 then (nilB, chB (mvO b base)) else (mvO b base, 0)
end Go.Proofs.Ytmjnleohchmadaa.Bat

/- Batches and lists of records in memory. -/
namespace Go.Proofs.Ytmjnleohchmadaa.Bat
open Go.RowKit Go.Proofs.Ytmjnleohchmadaa.Oct Go.Proofs.Ytmjnleohchmadaa.Rec Go.Proofs.Ytmjnleohchmadaa.Crc

def At (w : World) (b o : Nat) (r : Rc) : Prop :=
  w.cell? ⟨b, o, none⟩ = some (.int .i64 r.off) ∧ w.cell? ⟨b, o + 1, none⟩ = some (.string r.key) ∧ w.cell? ⟨b, o + 2, none⟩ = some (.string r.val) ∧ w.cell? ⟨b, o + 3, none⟩ = some (.bool r.dead) ∧ w.cell? ⟨b, o + 4, none⟩ = some (.int .i64 r.stamp)
def RdR (w : World) (B : Nat) (A : Option Addr) (n : Nat) (l : List Rc) : Prop :=
  l.length = n ∧ ∀ k r, l[k]? = some r → ∃ b o, A = some ⟨b, o, none⟩ ∧ b < B ∧ At w b (o + k * 5) r
theorem RdR.len {w : World} {B : Nat} {A : Option Addr} {n : Nat} {l : List Rc} (h : RdR w B A n l) : l.length = n := h.1
theorem RdR.nil {w : World} {B : Nat} {A : Option Addr} : RdR w B A 0 [] := ⟨rfl, by simp⟩
theorem At.keep {w w' : World} {b o : Nat} {r : Rc} (h : At w b o r) (hk : ∀ p : Addr, p.block = b → w'.cell? p = w.cell? p) : At w' b o r := by
  obtain ⟨h0, h1, h2, h3, h4⟩ := h
  exact ⟨(hk _ rfl).trans h0, (hk _ rfl).trans h1, (hk _ rfl).trans h2, (hk _ rfl).trans h3, (hk _ rfl).trans h4⟩
theorem RdR.keep {w w' : World} {B : Nat} {A : Option Addr} {n : Nat} {l : List Rc} (h : RdR w B A n l) (hk : ∀ p : Addr, p.block < B → w'.cell? p = w.cell? p) : RdR w' B A n l :=
  ⟨h.1, fun k r hr => by
    obtain ⟨b, o, hA, hb, hat⟩ := h.2 k r hr
    exact ⟨b, o, hA, hb, hat.keep fun p hp => hk p (by omega)⟩⟩
theorem RdR.more {w : World} {B B' : Nat} {A : Option Addr} {n : Nat} {l : List Rc} (h : RdR w B A n l) (hB : B ≤ B') : RdR w B' A n l :=
  ⟨h.1, fun k r hr => by
    obtain ⟨b, o, hA, hb, hat⟩ := h.2 k r hr
    exact ⟨b, o, hA, by omega, hat⟩⟩
theorem RdR.below {w w' : World} {B B' : Nat} {A : Option Addr} {n : Nat} {l : List Rc} (h : RdR w B A n l) (hb : Below B' w w') (hB : B ≤ B') : RdR w' B A n l := h.keep fun _ hp => hb.cell (by omega)
theorem RdR.at {w : World} {B : Nat} {A : Option Addr} {n k : Nat} {l : List Rc} (h : RdR w B A n l) (hk : k < n) : ∃ b o r, A = some ⟨b, o, none⟩ ∧ b < B ∧ l[k]? = some r ∧ At w b (o + k * 5) r := by
  have hl : k < l.length := by have := h.1; omega
  obtain ⟨b, o, hA, hb, hat⟩ := h.2 k l[k] (List.getElem?_eq_getElem hl)
  exact ⟨b, o, l[k], hA, hb, List.getElem?_eq_getElem hl, hat⟩
def BoxB (w : World) (g : Nat) (b : Bt) (v : Value) : Prop :=
  w.cell? ⟨g, 0, none⟩ = some (.int .i64 b.base) ∧ w.cell? ⟨g, 1, none⟩ = some (.int .i64 b.last) ∧ w.cell? ⟨g, 2, none⟩ = some (.int .i64 b.frm) ∧ w.cell? ⟨g, 3, none⟩ = some (.int .i64 b.epoch) ∧ w.cell? ⟨g, 4, none⟩ = some (.int .i64 b.pid) ∧
  w.cell? ⟨g, 5, none⟩ = some (.int .i64 b.gen) ∧ w.cell? ⟨g, 6, none⟩ = some (.int .i64 b.seq) ∧ w.cell? ⟨g, 7, none⟩ = some (.bool b.txn) ∧ w.cell? ⟨g, 8, none⟩ = some (.int .i64 b.ctl) ∧ w.cell? ⟨g, 9, none⟩ = some v
theorem BoxB.below {w w' : World} {g B : Nat} {b : Bt} {v : Value} (h : BoxB w g b v) (hb : Below B w w') (hg : g < B) : BoxB w' g b v := by
  obtain ⟨h0, h1, h2, h3, h4, h5, h6, h7, h8, h9⟩ := h
  exact ⟨(hb.cell hg).trans h0, (hb.cell hg).trans h1, (hb.cell hg).trans h2, (hb.cell hg).trans h3, (hb.cell hg).trans h4, (hb.cell hg).trans h5, (hb.cell hg).trans h6, (hb.cell hg).trans h7, (hb.cell hg).trans h8, (hb.cell hg).trans h9⟩
structure Fits (b : Bt) : Prop where
  base : I64 b.base
  last : I64 b.last
  frm : I64 b.frm
  epoch : I64 b.epoch
  pid : I64 b.pid
  gen : I64 b.gen
  seq : I64 b.seq
  ctl : I64 b.ctl
  recs : ∀ r ∈ b.recs, I64 r.off ∧ I64 r.stamp ∧ r.key.size ≤ 1099511627776 ∧ r.val.size ≤ 1099511627776
def bval (b : Bt) (v : Value) : Value := .agg #[.int .i64 b.base, .int .i64 b.last, .int .i64 b.frm, .int .i64 b.epoch, .int .i64 b.pid, .int .i64 b.gen, .int .i64 b.seq, .bool b.txn, .int .i64 b.ctl, v]
def inM (n most : Int) : Bool := decide (0 ≤ n ∧ n ≤ most)
end Go.Proofs.Ytmjnleohchmadaa.Bat

/- Records and batches as a law is handed them. -/
namespace Go.Proofs.Ytmjnleohchmadaa.Bat
open Go.RowKit Go.ChangeShapes Go.WideShapes Go.Deep Go.Proofs.Ytmjnleohchmadaa.Oct Go.Proofs.Ytmjnleohchmadaa.Rec Go.Proofs.Ytmjnleohchmadaa.Lay

instance : Lay Rc where
  sz := 5
  pos := by decide
  is _ _ cs r := cs = [.int .i64 r.off, .string r.key, .string r.val, .bool r.dead, .int .i64 r.stamp] ∧ I64 r.off ∧ I64 r.stamp ∧ r.key.size ≤ reach ∧ r.val.size ≤ reach
  len h := by rw [h.1]; rfl
  keep h _ := h
  more h _ := h
def Fit (r : Rc) : Prop := I64 r.off ∧ I64 r.stamp ∧ r.key.size ≤ reach ∧ r.val.size ≤ reach
def FitN (b : Bt) : Prop := I64 b.base ∧ I64 b.last ∧ I64 b.frm ∧ I64 b.epoch ∧ I64 b.pid ∧ I64 b.gen ∧ I64 b.seq ∧ I64 b.ctl
instance : Lay Bt where
  sz := 10
  pos := by decide
  is w B cs b := ∃ A n c, cs = [.int .i64 b.base, .int .i64 b.last, .int .i64 b.frm, .int .i64 b.epoch, .int .i64 b.pid, .int .i64 b.gen, .int .i64 b.seq, .bool b.txn, .int .i64 b.ctl, .slice A n c] ∧ FitN b ∧ n ≤ c ∧ c ≤ reach ∧ RdL w B A n b.recs
  len h := by obtain ⟨A, n, c, h, _⟩ := h; rw [h]; rfl
  keep h hk := by obtain ⟨A, n, c, h, hf, hc, hr, hl⟩ := h; exact ⟨A, n, c, h, hf, hc, hr, hl.keep hk⟩
  more h hB := by obtain ⟨A, n, c, h, hf, hc, hr, hl⟩ := h; exact ⟨A, n, c, h, hf, hc, hr, hl.more hB⟩

section
variable {H : Type} {enc : TypeId × Value → H} {W : World} {base : Nat} {v : Value} {d : DataW H} {p : List MemPlace}
end
end Go.Proofs.Ytmjnleohchmadaa.Bat

/- The words for the contracts of the landed batch. -/
namespace Go.Proofs.Ytmjnleohchmadaa.Bat
open Go.RowKit Go.Proofs.Ytmjnleohchmadaa.Oct Go.Proofs.Ytmjnleohchmadaa.Rec Go.Proofs.Ytmjnleohchmadaa.Crc Go.Proofs.Ytmjnleohchmadaa.Lay

def OwnR (w : World) (B : Nat) (A : Option Addr) (n : Nat) (l : List Rc) : Prop :=
  RdR w w.heap.size A n l ∧ ∀ g o, A = some ⟨g, o, none⟩ → 0 < n → B ≤ g ∧ ∀ i, i < n * 5 → w.frozen? ⟨g, o + i, none⟩ = false
def RGB (w : World) (x : Bt × Int × Int) (en : Ending) (w' : World) : Prop :=
  ∃ A n c, en = .returned (.tuple #[bval x.1 (.slice A n c), .int .i64 x.2.1, .int .i64 x.2.2]) ∧ n ≤ c ∧ OwnR w' w.heap.size A n x.1.recs ∧ Below w.heap.size w w'
def RMB (w : World) (x : Bt × Int) (en : Ending) (w' : World) : Prop :=
  ∃ A n c, en = .returned (.tuple #[bval x.1 (.slice A n c), .int .i64 x.2]) ∧ n ≤ c ∧ OwnR w' w.heap.size A n x.1.recs ∧ Below w.heap.size w w'
noncomputable def eqB (a b : Bt) : Bool := @decide (a = b) (Classical.propDecidable _)
theorem eqB_yes {a b : Bt} (h : a = b) : eqB a b = true := by exact @decide_eq_true _ (Classical.propDecidable _) h
theorem eqB_no {a b : Bt} (h : a ≠ b) : eqB a b = false := by exact @decide_eq_false _ (Classical.propDecidable _) h
theorem eqB_self (a : Bt) : eqB a a = true := eqB_yes rfl
def fewR : List Rc → Nat → Bool
  | [], _ => true
  | r :: l, m => if 20000 < m + (r.key.size + r.val.size) then false else fewR l (m + (r.key.size + r.val.size))
def fewT (b : Bt) : Bool := fewR b.recs 0 && decide (b.recs.length ≤ 100)
end Go.Proofs.Ytmjnleohchmadaa.Bat
