/- Joined: Lay, BatMath, BatMath2, BatMath3, BatMath4, BatW, BatArg, BatDevS, BatRecF, BatMem, BatDevM. -/
import Derived.Test.YtmjnleohchmadaaJOct
import Derived.Deep.Slices
import Derived.SizedLaws
import Derived.Test.YtmjnleohchmadaaJRec
import Derived.Test.YtmjnleohchmadaaJCrc
/- How data lie in memory, and how a law's arguments are opened: one notion for all types. Nothing of the program: P, the types' numbers and the worlds are letters. -/
namespace Go.Proofs.Ytmjnleohchmadaa.Lay
open Go.RowKit Go.ChangeShapes Go.WideShapes Go.Deep Go.Proofs.Ytmjnleohchmadaa.Oct

class One (α : Type) where
  one : World → Nat → Value → α → Prop
  keep : ∀ {w w' : World} {B : Nat} {v : Value} {x : α}, one w B v x → (∀ p : Addr, p.block < B → w'.cell? p = w.cell? p) → one w' B v x
  more : ∀ {w : World} {B B' : Nat} {v : Value} {x : α}, one w B v x → B ≤ B' → one w B' v x
class Lay (α : Type) where
  sz : Nat
  pos : 0 < sz
  is : World → Nat → List Value → α → Prop
  len : ∀ {w : World} {B : Nat} {cs : List Value} {x : α}, is w B cs x → cs.length = sz
  keep : ∀ {w w' : World} {B : Nat} {cs : List Value} {x : α}, is w B cs x → (∀ p : Addr, p.block < B → w'.cell? p = w.cell? p) → is w' B cs x
  more : ∀ {w : World} {B B' : Nat} {cs : List Value} {x : α}, is w B cs x → B ≤ B' → is w B' cs x
def RdL {α : Type} [Lay α] (w : World) (B : Nat) (A : Option Addr) (n : Nat) (l : List α) : Prop :=
  l.length = n ∧ ∀ k x, l[k]? = some x → ∃ b o cs, A = some ⟨b, o, none⟩ ∧ b < B ∧ Lay.is w B cs x ∧ ∀ i v, cs[i]? = some v → w.cell? ⟨b, o + k * Lay.sz α + i, none⟩ = some v
def reach : Nat := 140737488351232
section
variable {α : Type} [Lay α] {w w' : World} {B B' n : Nat} {A : Option Addr} {l : List α}
theorem RdL.len (h : RdL w B A n l) : l.length = n := h.1
theorem RdL.nil : RdL w B A 0 ([] : List α) := ⟨rfl, by simp⟩
theorem RdL.keep (h : RdL w B A n l) (hk : ∀ p : Addr, p.block < B → w'.cell? p = w.cell? p) : RdL w' B A n l :=
  ⟨h.1, fun k x hx => by
    obtain ⟨b, o, cs, hA, hb, his, hc⟩ := h.2 k x hx
    exact ⟨b, o, cs, hA, hb, Lay.keep his hk, fun i v hv => (hk _ hb).trans (hc i v hv)⟩⟩
theorem RdL.more (h : RdL w B A n l) (hB : B ≤ B') : RdL w B' A n l :=
  ⟨h.1, fun k x hx => by
    obtain ⟨b, o, cs, hA, hb, his, hc⟩ := h.2 k x hx
    exact ⟨b, o, cs, hA, by omega, Lay.more his hB, hc⟩⟩
theorem RdL.below (h : RdL w B A n l) (hb : Below B' w w') (hB : B ≤ B') : RdL w' B A n l := h.keep fun _ hp => hb.cell (by omega)
theorem RdL.at {k : Nat} (h : RdL w B A n l) (hk : k < n) : ∃ b o x cs, A = some ⟨b, o, none⟩ ∧ b < B ∧ l[k]? = some x ∧ Lay.is w B cs x ∧ ∀ i v, cs[i]? = some v → w.cell? ⟨b, o + k * Lay.sz α + i, none⟩ = some v := by
  have hl : k < l.length := by have := h.1; omega
  obtain ⟨b, o, cs, hA, hb, his, hc⟩ := h.2 k l[k] (List.getElem?_eq_getElem hl)
  exact ⟨b, o, l[k], cs, hA, hb, List.getElem?_eq_getElem hl, his, hc⟩
theorem RdL.take {m : Nat} (h : RdL w B A n l) (hm : m ≤ n) : RdL w B A m (l.take m) := by
  refine ⟨by have := h.1; rw [List.length_take]; omega, fun k x hx => h.2 k x ?_⟩
  rw [List.getElem?_take] at hx
  split at hx
  · exact hx
  · cases hx
end

/-! ### one cell -/
instance : One Int where
  one _ _ v x := v = .int .i64 x ∧ I64 x
  keep h _ := h
  more h _ := h
instance : One Bool where
  one _ _ v x := v = .bool x
  keep h _ := h
  more h _ := h
instance : One ByteArray where
  one _ _ v x := v = .string x ∧ x.size ≤ reach
  keep h _ := h
  more h _ := h
instance {α : Type} [Lay α] : One (List α) where
  one w B v l := ∃ A n c, v = .slice A n c ∧ n ≤ c ∧ c ≤ reach ∧ RdL w B A n l
  keep h hk := by obtain ⟨A, n, c, e, hc, hr, hl⟩ := h; exact ⟨A, n, c, e, hc, hr, hl.keep hk⟩
  more h hB := by obtain ⟨A, n, c, e, hc, hr, hl⟩ := h; exact ⟨A, n, c, e, hc, hr, hl.more hB⟩
@[reducible] def lay1 (α : Type) [One α] : Lay α where
  sz := 1
  pos := by decide
  is w B cs x := ∃ v, cs = [v] ∧ One.one w B v x
  len h := by obtain ⟨v, rfl, _⟩ := h; rfl
  keep h hk := by obtain ⟨v, rfl, h⟩ := h; exact ⟨v, rfl, One.keep h hk⟩
  more h hB := by obtain ⟨v, rfl, h⟩ := h; exact ⟨v, rfl, One.more h hB⟩
instance : Lay Int := lay1 Int
instance : Lay ByteArray := lay1 ByteArray
instance : Lay Bool := lay1 Bool
instance : Lay UInt8 where
  sz := 1
  pos := by decide
  is _ _ cs x := cs = [.int .u8 (x.toNat : Int)]
  len h := by subst h; rfl
  keep h _ := h
  more h _ := h
theorem RdL.bytes {w : World} {B n : Nat} {A : Option Addr} {l : List UInt8} (h : RdL w B A n l) : Rd w B A n l :=
  ⟨h.1, fun k c hc => by
    obtain ⟨b, o, cs, hA, hb, his, hcell⟩ := h.2 k c hc
    obtain rfl : cs = [.int .u8 (c.toNat : Int)] := his
    refine ⟨b, o, hA, hb, ?_⟩
    have := hcell 0 _ rfl
    rw [show o + k * Lay.sz UInt8 + 0 = o + k from by show o + k * 1 + 0 = o + k; omega] at this
    exact this⟩

/-! ### opened -/
section
variable {P : Program} {t e : TypeId}
def Opens1 (P : Program) (t : TypeId) (α : Type) [One α] : Prop :=
  ∀ (H : Type) (enc : TypeId × Value → H) (w : World) (fuel : Nat) (v : Value) (d : DataW H) (pl : List MemPlace),
    DataW.trod enc P w 0 (fun _ => true) true fuel t [v] = some (d, pl) → (∀ z ∈ DataW.weights P t d, z ≤ reachBytes) → ∃ x : α, One.one w w.heap.size v x
def Opens (P : Program) (t : TypeId) (α : Type) [Lay α] : Prop :=
  ∀ (H : Type) (enc : TypeId × Value → H) (w : World) (fuel : Nat) (cs : List Value) (d : DataW H) (pl : List MemPlace),
    DataW.trod enc P w 0 (fun _ => true) true fuel t cs = some (d, pl) → cs.length = Lay.sz α → (∀ z ∈ DataW.weights P t d, z ≤ reachBytes) → ∃ x : α, Lay.is w w.heap.size cs x
theorem opens_int (ht : P.underlying t = some (.int .i64)) : Opens1 P t Int := by
  intro H enc w fuel v d pl h _
  obtain ⟨n, hn, _, hw⟩ := DataW.trod_int ht h
  obtain rfl : v = .int .i64 n := by injection hn
  exact ⟨n, rfl, (bounds_i64 hw).1, (bounds_i64 hw).2⟩
theorem opens_bool (ht : P.underlying t = some .bool) : Opens1 P t Bool := by
  intro H enc w fuel v d pl h _
  obtain ⟨n, hn, _⟩ := DataW.trod_bool ht h
  obtain rfl : v = .bool n := by injection hn
  exact ⟨n, rfl⟩
theorem opens_string (ht : P.underlying t = some .string) : Opens1 P t ByteArray := by
  intro H enc w fuel v d pl h hz
  obtain ⟨n, hn, hx, _⟩ := DataW.trod_string ht h
  obtain rfl : v = .string n := by injection hn
  refine ⟨n, rfl, ?_⟩
  obtain rfl : d = .lit (.string n.data.toList) := congrArg Prod.fst hx
  have h1 := hz n.data.toList.length (by simp [DataW.weights])
  have h2 : reachBytes = reach := by decide
  rw [h2, Array.length_toList] at h1
  exact h1
theorem mem_all {H : Type} {e : TypeId} {x : DataW H} {l : List (DataW H)} {z : Nat} (hx : x ∈ l) (hz : z ∈ DataW.weights P e x) : z ∈ DataW.weightsAll P e l := by
  induction l with
  | nil => cases hx
  | cons y l ih =>
    unfold DataW.weightsAll
    rcases List.mem_cons.1 hx with rfl | h
    · exact List.mem_append_left _ hz
    · exact List.mem_append_right _ (ih h)
theorem opens_slice {α : Type} [Lay α] (ht : P.underlying t = some (.slice e)) (hc : P.cellsOf e = Lay.sz α) (hb : 1 ≤ P.bytesOf e) (he : Opens P e α) : Opens1 P t (List α) := by
  intro H enc w fuel v d pl h hz
  rcases open_slice ht h with ⟨hcs, _⟩ | ⟨a, len, cap, m, n, D, Pl, hcs, _, hl, _, hm, hx, hel⟩
  · obtain rfl : v = .slice none 0 0 := by injection hcs
    exact ⟨[], none, 0, 0, rfl, Nat.le_refl _, Nat.zero_le _, RdL.nil⟩
  · obtain rfl : v = .slice (some a) len cap := by injection hcs
    have hmc : m = cap := by simpa using hm
    subst hmc
    obtain rfl : d = _ := congrArg Prod.fst hx
    have hwt : ∀ z ∈ (((List.range len).map D).length + ((List.range (m - len)).map fun j => D (len + j)).length) * P.bytesOf e :: (DataW.weightsAll P e ((List.range len).map D) ++ DataW.weightsAll P e ((List.range (m - len)).map fun j => D (len + j))), z ≤ reachBytes := by
      intro z hz'
      exact hz z (by unfold DataW.weights; rw [ht]; exact hz')
    have h2 : reachBytes = reach := by decide
    have hcap : m ≤ reach := by
      have h1 := hwt _ List.mem_cons_self
      rw [List.length_map, List.length_map, List.length_range, List.length_range, show len + (m - len) = m by omega, h2] at h1
      exact Nat.le_trans (Nat.le_mul_of_pos_right m hb) h1
    have hwtl : ∀ i, i < len → ∀ z ∈ DataW.weights P e (D i), z ≤ reachBytes := by
      intro i hi z hzi
      refine hwt z (List.mem_cons_of_mem _ (List.mem_append_left _ (mem_all (List.mem_map.2 ⟨i, List.mem_range.2 hi, rfl⟩) hzi)))
    have hex : ∀ i, i < len → ∃ (x : α) (cs : List Value), Lay.is w w.heap.size cs x ∧ cs.length = Lay.sz α ∧ ∀ j v, cs[j]? = some v → w.cell? (a.add (i * Lay.sz α + j)) = some v := by
      intro i hi
      obtain ⟨cs, h1, h3⟩ := hel i (by omega)
      obtain ⟨_, hlen, hcell⟩ := World.cells?_some h1
      rw [hc] at hlen h1 hcell
      obtain ⟨x, hxx⟩ := he H enc w n cs _ _ h3 hlen (hwtl i hi)
      refine ⟨x, cs, hxx, hlen, fun j v hv => ?_⟩
      have hj := (List.getElem?_eq_some_iff.1 hv).1
      have := hcell j (by omega)
      rw [add_add, hv] at this
      exact this
    obtain ⟨b, o, spot⟩ := a
    have hspot : 0 < len → spot = none := by
      intro h0
      obtain ⟨x, cs, _, hlen, hcell⟩ := hex 0 h0
      have hp := Lay.pos (α := α)
      have h9 := hcell 0 cs[0] (List.getElem?_eq_getElem (by omega))
      simpa [Addr.add] using World.cell?_spot h9
    rcases Nat.eq_zero_or_pos len with rfl | h0
    · exact ⟨[], _, _, _, rfl, Nat.zero_le _, hcap, RdL.nil⟩
    obtain rfl := hspot h0
    have hE : ∀ i, i < len → ∃ x : α, ∃ cs, Lay.is w w.heap.size cs x ∧ b < w.heap.size ∧ ∀ j v, cs[j]? = some v → w.cell? ⟨b, o + i * Lay.sz α + j, none⟩ = some v := by
      intro i hi
      obtain ⟨x, cs, hxx, hlen, hcell⟩ := hex i hi
      have hp := Lay.pos (α := α)
      have hcc : ∀ j v, cs[j]? = some v → w.cell? ⟨b, o + i * Lay.sz α + j, none⟩ = some v := by
        intro j v hv
        have h9 := hcell j v hv
        rw [Addr.add_lit, ← Nat.add_assoc] at h9
        exact h9
      exact ⟨x, cs, hxx, World.block_lt_of_cell? w _ (hcc 0 cs[0] (List.getElem?_eq_getElem (by omega))), hcc⟩
    obtain ⟨x0, _⟩ := hE 0 h0
    have : Inhabited α := ⟨x0⟩
    obtain ⟨f, hf⟩ := choose_lt hE
    refine ⟨(List.range len).map f, _, _, _, rfl, hl, hcap, by simp, fun k x hk => ?_⟩
    have hkl : k < len := by have := (List.getElem?_eq_some_iff.1 hk).1; simpa using this
    rw [List.getElem?_map, List.getElem?_range hkl] at hk
    simp only [Option.map_some, Option.some.injEq] at hk
    obtain ⟨cs, h1, h2, h3⟩ := hf k hkl
    rw [hk] at h1
    exact ⟨b, o, cs, rfl, h2, h1, h3⟩
theorem opens_fields {fs : Array Field} (ht : P.underlying t = some (.struct fs)) (hone : oneCellFields P fs = true) {H : Type} {enc : TypeId × Value → H} {w : World} {fuel : Nat} {cs : List Value} {d : DataW H} {pl : List MemPlace}
    (h : DataW.trod enc P w 0 (fun _ => true) true fuel t cs = some (d, pl)) (hw : ∀ z ∈ DataW.weights P t d, z ≤ reachBytes) (hlen : cs.length = fs.size) :
    ∃ n, ∀ (i : Nat) (f : Field), fs[i]? = some f → ∃ u d' pl', cs[i]? = some u ∧ DataW.trod enc P w 0 (fun _ => true) true n f.type [u] = some (d', pl') ∧ ∀ z ∈ DataW.weights P f.type d', z ≤ reachBytes := by
  obtain ⟨xs, n, _, hx, _, hxl, hat⟩ := DataW.trod_struct ht h
  obtain rfl : d = .agg (xs.map (·.1)) := congrArg Prod.fst hx
  have hwe : ∀ z ∈ DataW.weightsEach P (fs.toList.map (·.type)) (xs.map (·.1)), z ≤ reachBytes := by
    intro z hz
    exact hw z (by unfold DataW.weights; rw [ht]; exact hz)
  refine ⟨n, fun i f hi => ?_⟩
  have hlt := (Array.getElem?_eq_some_iff.1 hi).1
  obtain ⟨ho, h1⟩ := hone_of hone i f hi
  have hu : cs[i]? = some (cs[i]'(by omega)) := List.getElem?_eq_getElem (by omega)
  have hy : xs[i]? = some (xs[i]'(by omega)) := List.getElem?_eq_getElem (by omega)
  have hcell := hat i f hi
  rw [ho, h1, hy] at hcell
  refine ⟨cs[i]'(by omega), (xs[i]'(by omega)).1, (xs[i]'(by omega)).2, hu, ?_, fun z hz => hwe z ?_⟩
  · have e : (List.drop i cs).take 1 = [cs[i]'(by omega)] := by
      apply List.ext_getElem?
      intro j
      rw [List.getElem?_take, List.getElem?_drop]
      cases j with
      | zero => rw [if_pos (by omega)]; exact hu
      | succ j => rw [if_neg (by omega)]; rfl
    rw [e] at hcell
    exact hcell
  · refine DataW.weights_mem_each (j := i) (t := f.type) (d := (xs[i]'(by omega)).1) ?_ ?_ z hz
    · rw [List.getElem?_map, ← Array.getElem?_toList] at *
      simp [hi]
    · rw [List.getElem?_map, hy]; rfl
end
end Go.Proofs.Ytmjnleohchmadaa.Lay

/- The plain mathematics of layer 4: a batch, its bytes, what bytes tell. Nothing of the program. -/
namespace Go.Proofs.Ytmjnleohchmadaa.Bat
open Go.Proofs.Ytmjnleohchmadaa.Oct Go.Proofs.Ytmjnleohchmadaa.Rec Go.Proofs.Ytmjnleohchmadaa.Crc

structure Bt where
  base : Int
  last : Int
  frm : Int
  epoch : Int
  pid : Int
  gen : Int
  seq : Int
  txn : Bool
  ctl : Int
  recs : List Rc

def W64 (x : Int) : Prop := -9223372036854775808 ≤ x ∧ x ≤ 9223372036854775807
def inG (n : Int) : Bool := decide (0 ≤ n ∧ n ≤ 1048576)
def rise (lo hi : Int) : List Rc → Bool
  | [] => true
  | r :: l => may r && decide (lo < r.off ∧ r.off ≤ hi) && rise r.off hi l
def form (b : Bt) : Bool :=
  decide (0 ≤ b.base ∧ b.base ≤ 1099511627776 ∧ 0 ≤ b.last ∧ b.last ≤ 1099511627776 ∧ 0 ≤ b.frm ∧ b.frm ≤ 1099511627776 ∧ b.base ≤ b.last ∧ b.last - b.base < 16 ∧
    b.frm + (b.last - b.base) ≤ 1099511627776 ∧ 0 ≤ b.epoch ∧ b.epoch ≤ 1048576 ∧ 0 ≤ b.gen ∧ b.gen ≤ 1048576 ∧ 0 ≤ b.seq ∧ b.seq ≤ 1048576 ∧ b.seq + (b.last - b.base) ≤ 1048576 ∧
    (b.pid = -1 ∧ b.gen = 0 ∧ b.seq = 0 ∧ b.txn = false ∧ b.ctl = 0 ∨ b.pid ≠ -1 ∧ 0 ≤ b.pid ∧ b.pid ≤ 1099511627776)) &&
  (if b.ctl = 0 then rise (b.base - 1) b.last b.recs else decide ((b.ctl = 1 ∨ b.ctl = 2) ∧ b.last = b.base ∧ b.recs = [] ∧ b.txn = true ∧ 0 ≤ b.pid))

def vs : List Int → List UInt8
  | [] => []
  | x :: l => vb (zz x) ++ vs l
def rs (base st : Int) : List Rc → List UInt8
  | [] => []
  | r :: l => rb r base st ++ rs base st l
def mark (b : Bt) : UInt8 := UInt8.ofNat (b.ctl.toNat + if b.txn then 4 else 0)
def hd (b : Bt) : List Int := [b.base, b.last - b.base, b.frm, b.epoch, b.pid, b.gen, b.seq]
def tl (base : Int) : List Rc → List UInt8
  | [] => []
  | r :: l => vb (zz r.stamp) ++ rs base r.stamp (r :: l)
def body (b : Bt) : List UInt8 := vs (hd b) ++ ([mark b] ++ (vb (zz b.recs.length) ++ tl b.base b.recs))
def byB (b : Bt) : List UInt8 := beN (sealB (body b)).length 4 4 ++ sealB (body b)
def chB (b : Bt) : Int := if form b then (if 2048 < (byB b).length then 2 else 0) else 1
def ptB (b : Bt) : List UInt8 × Int := if chB b = 0 then (byB b, 0) else ([], chB b)
def szB (b : Bt) : Int := if chB b = 0 then (byB b).length else 0

def rdV : Nat → List UInt8 → Int → Option (List Int × Int)
  | 0, _, p => some ([], p)
  | k + 1, l, p => if (gv l p).2.2 ≠ 0 then none else match rdV k l (gv l p).2.1 with
    | none => none
    | some (xs, q) => some ((gv l p).1 :: xs, q)
def rdR : Nat → List UInt8 → Int → Int → Int → Option (List Rc × Int)
  | 0, _, p, _, _ => some ([], p)
  | k + 1, l, p, base, st => if (gr l p base st).2.2 ≠ 0 then none else match rdR k l (gr l p base st).2.1 base st with
    | none => none
    | some (xs, q) => some ((gr l p base st).1 :: xs, q)
def rdT (k : Nat) (l : List UInt8) (p base : Int) : Option (List Rc × Int) :=
  if k = 0 then some ([], p) else if (gv l p).2.2 ≠ 0 then none else match rdR k l (gv l p).2.1 base (gv l p).1 with
    | none => none
    | some (xs, q) => if (xs.head?.map (·.stamp)) = some (gv l p).1 then some (xs, q) else none
def rdB (l : List UInt8) : Option (Bt × Int) :=
  match rdV 7 l 0 with
  | some ([n0, n1, n2, n3, n4, n5, n6], p) => match l[p.toNat]? with
    | none => none
    | some c => if 7 < c.toNat then none else if (gv l (p + 1)).2.2 ≠ 0 then none else
      if (gv l (p + 1)).1 < 0 ∨ 16 < (gv l (p + 1)).1 ∨ n1 < 0 ∨ 16 < n1 ∨ n0 < 0 ∨ 1099511627776 < n0 then none else
      match rdT (gv l (p + 1)).1.toNat l (gv l (p + 1)).2.1 n0 with
      | none => none
      | some (xs, q) => some (⟨n0, n0 + n1, n2, n3, n4, n5, n6, decide (4 ≤ c.toNat), ((c.toNat % 4 : Nat) : Int), xs⟩, q)
  | _ => none

/-! ### what is written is read -/
end Go.Proofs.Ytmjnleohchmadaa.Bat

/- More plain mathematics of layer 4: what is written is read, what is read was written, no body begins another one. Nothing of the program. -/
namespace Go.Proofs.Ytmjnleohchmadaa.Bat
open Go.Proofs.Ytmjnleohchmadaa.Oct Go.Proofs.Ytmjnleohchmadaa.Rec Go.Proofs.Ytmjnleohchmadaa.Crc

theorem rise_len {lo hi : Int} {l : List Rc} (h : rise lo hi l = true) : l = [] ∨ (l.length : Int) ≤ hi - lo := by
  induction l generalizing lo with
  | nil => exact .inl rfl
  | cons x l ih =>
    simp only [rise, Bool.and_eq_true, decide_eq_true_eq] at h
    right
    rcases ih h.2 with e | e
    · subst e; simp; omega
    · simp only [List.length_cons]; omega

structure Form (b : Bt) : Prop where
  base0 : 0 ≤ b.base
  base1 : b.base ≤ 1099511627776
  last0 : 0 ≤ b.last
  last1 : b.last ≤ 1099511627776
  frm0 : 0 ≤ b.frm
  frm1 : b.frm ≤ 1099511627776
  le : b.base ≤ b.last
  near : b.last - b.base < 16
  frm2 : b.frm + (b.last - b.base) ≤ 1099511627776
  ep0 : 0 ≤ b.epoch
  ep1 : b.epoch ≤ 1048576
  gen0 : 0 ≤ b.gen
  gen1 : b.gen ≤ 1048576
  seq0 : 0 ≤ b.seq
  seq1 : b.seq ≤ 1048576
  seq2 : b.seq + (b.last - b.base) ≤ 1048576
  pid0 : -1 ≤ b.pid
  pid1 : b.pid ≤ 1099511627776
  none : b.pid = -1 → b.gen = 0 ∧ b.seq = 0 ∧ b.txn = false ∧ b.ctl = 0
  ctl0 : 0 ≤ b.ctl
  ctl1 : b.ctl ≤ 2
  data : b.ctl = 0 → rise (b.base - 1) b.last b.recs = true
  ends : b.ctl ≠ 0 → b.last = b.base ∧ b.recs = [] ∧ b.txn = true ∧ 0 ≤ b.pid
theorem Form.few {b : Bt} (h : Form b) : b.recs.length ≤ 16 := by
  by_cases h0 : b.ctl = 0
  · have := h.near
    rcases rise_len (h.data h0) with e | e
    · rw [e]; simp
    · omega
  · rw [(h.ends h0).2.1]; simp
/-! ### what is read was written -/
end Go.Proofs.Ytmjnleohchmadaa.Bat

/- More plain mathematics of layer 4: the batch that bytes tell, cut and spoilt, moved, one behind the other. Nothing of the program. -/
namespace Go.Proofs.Ytmjnleohchmadaa.Bat
open Go.Proofs.Ytmjnleohchmadaa.Oct Go.Proofs.Ytmjnleohchmadaa.Rec Go.Proofs.Ytmjnleohchmadaa.Crc

def nilB : Bt := ⟨0, 0, 0, 0, 0, 0, 0, false, 0, []⟩
def opB (l : List UInt8) : Bt × Int :=
  if (openB l).2 ≠ 0 then (nilB, (openB l).2) else match rdB (openB l).1 with
    | none => (nilB, 11)
    | some (b, q) => if q = ((openB l).1.length : Int) ∧ chB b = 0 then (b, 0) else (nilB, 11)
def grB (l : List UInt8) (p : Int) : Bt × Int × Int :=
  if (gt l p 4).2 ≠ 0 then (nilB, 0, (gt l p 4).2)
  else if (gt l p 4).1 < 5 ∨ 2044 < (gt l p 4).1 then (nilB, 0, 11)
  else if (l.length : Int) < p + 4 + (gt l p 4).1 then (nilB, 0, 10)
  else if (opB ((l.drop (p + 4).toNat).take (gt l p 4).1)).2 ≠ 0 then (nilB, 0, (opB ((l.drop (p + 4).toNat).take (gt l p 4).1)).2)
  else ((opB ((l.drop (p + 4).toNat).take (gt l p 4).1)).1, p + 4 + (gt l p 4).1, 0)

end Go.Proofs.Ytmjnleohchmadaa.Bat

/- More plain mathematics of layer 4: a batch's bytes with one changed; a batch at other offsets. Nothing of the program. -/
namespace Go.Proofs.Ytmjnleohchmadaa.Bat
open Go.Proofs.Ytmjnleohchmadaa.Oct Go.Proofs.Ytmjnleohchmadaa.Rec Go.Proofs.Ytmjnleohchmadaa.Crc

/-! ### a batch at other offsets -/
def mvR (by_ : Int) (r : Rc) : Rc := { r with off := r.off + by_ }
def mvO (b : Bt) (base : Int) : Bt := { b with base := base, last := base + b.last - b.base, recs := b.recs.map (mvR (base - b.base)) }
def mvB (b : Bt) (base : Int) : Bt × Int :=
  if inR base = false then (nilB, 1) else if chB b ≠ 0 then (nilB, chB b) else if chB (mvO b base) ≠ 0 then (nilB, chB (mvO b base)) else (mvO b base, 0)
end Go.Proofs.Ytmjnleohchmadaa.Bat

/- Batches and lists of records in memory. -/
namespace Go.Proofs.Ytmjnleohchmadaa.Bat
open Go.RowKit Go.Proofs.Ytmjnleohchmadaa.Oct Go.Proofs.Ytmjnleohchmadaa.Rec Go.Proofs.Ytmjnleohchmadaa.Crc

def At (w : World) (b o : Nat) (r : Rc) : Prop :=
  w.cell? ⟨b, o, none⟩ = some (.int .i64 r.off) ∧ w.cell? ⟨b, o + 1, none⟩ = some (.string r.key) ∧ w.cell? ⟨b, o + 2, none⟩ = some (.string r.val) ∧ w.cell? ⟨b, o + 3, none⟩ = some (.bool r.dead) ∧ w.cell? ⟨b, o + 4, none⟩ = some (.int .i64 r.stamp)
def RdR (w : World) (B : Nat) (A : Option Addr) (n : Nat) (l : List Rc) : Prop :=
  l.length = n ∧ ∀ k r, l[k]? = some r → ∃ b o, A = some ⟨b, o, none⟩ ∧ b < B ∧ At w b (o + k * 5) r
theorem RdR.len {w : World} {B : Nat} {A : Option Addr} {n : Nat} {l : List Rc} (h : RdR w B A n l) : l.length = n := h.1
theorem RdR.nil {w : World} {B : Nat} {A : Option Addr} : RdR w B A 0 [] := ⟨rfl, by simp⟩
theorem At.keep {w w' : World} {b o : Nat} {r : Rc} (h : At w b o r) (hk : ∀ p : Addr, p.block = b → w'.cell? p = w.cell? p) : At w' b o r := by
  obtain ⟨h0, h1, h2, h3, h4⟩ := h
  exact ⟨(hk _ rfl).trans h0, (hk _ rfl).trans h1, (hk _ rfl).trans h2, (hk _ rfl).trans h3, (hk _ rfl).trans h4⟩
theorem RdR.keep {w w' : World} {B : Nat} {A : Option Addr} {n : Nat} {l : List Rc} (h : RdR w B A n l) (hk : ∀ p : Addr, p.block < B → w'.cell? p = w.cell? p) : RdR w' B A n l :=
  ⟨h.1, fun k r hr => by
    obtain ⟨b, o, hA, hb, hat⟩ := h.2 k r hr
    exact ⟨b, o, hA, hb, hat.keep fun p hp => hk p (by omega)⟩⟩
theorem RdR.more {w : World} {B B' : Nat} {A : Option Addr} {n : Nat} {l : List Rc} (h : RdR w B A n l) (hB : B ≤ B') : RdR w B' A n l :=
  ⟨h.1, fun k r hr => by
    obtain ⟨b, o, hA, hb, hat⟩ := h.2 k r hr
    exact ⟨b, o, hA, by omega, hat⟩⟩
theorem RdR.below {w w' : World} {B B' : Nat} {A : Option Addr} {n : Nat} {l : List Rc} (h : RdR w B A n l) (hb : Below B' w w') (hB : B ≤ B') : RdR w' B A n l := h.keep fun _ hp => hb.cell (by omega)
theorem RdR.at {w : World} {B : Nat} {A : Option Addr} {n k : Nat} {l : List Rc} (h : RdR w B A n l) (hk : k < n) : ∃ b o r, A = some ⟨b, o, none⟩ ∧ b < B ∧ l[k]? = some r ∧ At w b (o + k * 5) r := by
  have hl : k < l.length := by have := h.1; omega
  obtain ⟨b, o, hA, hb, hat⟩ := h.2 k l[k] (List.getElem?_eq_getElem hl)
  exact ⟨b, o, l[k], hA, hb, List.getElem?_eq_getElem hl, hat⟩
def BoxB (w : World) (g : Nat) (b : Bt) (v : Value) : Prop :=
  w.cell? ⟨g, 0, none⟩ = some (.int .i64 b.base) ∧ w.cell? ⟨g, 1, none⟩ = some (.int .i64 b.last) ∧ w.cell? ⟨g, 2, none⟩ = some (.int .i64 b.frm) ∧ w.cell? ⟨g, 3, none⟩ = some (.int .i64 b.epoch) ∧ w.cell? ⟨g, 4, none⟩ = some (.int .i64 b.pid) ∧
  w.cell? ⟨g, 5, none⟩ = some (.int .i64 b.gen) ∧ w.cell? ⟨g, 6, none⟩ = some (.int .i64 b.seq) ∧ w.cell? ⟨g, 7, none⟩ = some (.bool b.txn) ∧ w.cell? ⟨g, 8, none⟩ = some (.int .i64 b.ctl) ∧ w.cell? ⟨g, 9, none⟩ = some v
theorem BoxB.below {w w' : World} {g B : Nat} {b : Bt} {v : Value} (h : BoxB w g b v) (hb : Below B w w') (hg : g < B) : BoxB w' g b v := by
  obtain ⟨h0, h1, h2, h3, h4, h5, h6, h7, h8, h9⟩ := h
  exact ⟨(hb.cell hg).trans h0, (hb.cell hg).trans h1, (hb.cell hg).trans h2, (hb.cell hg).trans h3, (hb.cell hg).trans h4, (hb.cell hg).trans h5, (hb.cell hg).trans h6, (hb.cell hg).trans h7, (hb.cell hg).trans h8, (hb.cell hg).trans h9⟩
theorem boxB_new (w : World) (e : TypeId) (b : Bt) (v : Value) : BoxB (w.alloc (.cells #[.int .i64 b.base, .int .i64 b.last, .int .i64 b.frm, .int .i64 b.epoch, .int .i64 b.pid, .int .i64 b.gen, .int .i64 b.seq, .bool b.txn, .int .i64 b.ctl, v] e)) w.heap.size b v := by
  refine ⟨?_, ?_, ?_, ?_, ?_, ?_, ?_, ?_, ?_, ?_⟩ <;> (rw [cell_of_row _ _ _ _ e _ (heap_alloc_new w _)]; rfl)
structure Fits (b : Bt) : Prop where
  base : I64 b.base
  last : I64 b.last
  frm : I64 b.frm
  epoch : I64 b.epoch
  pid : I64 b.pid
  gen : I64 b.gen
  seq : I64 b.seq
  ctl : I64 b.ctl
  recs : ∀ r ∈ b.recs, I64 r.off ∧ I64 r.stamp ∧ r.key.size ≤ 1099511627776 ∧ r.val.size ≤ 1099511627776
def bval (b : Bt) (v : Value) : Value := .agg #[.int .i64 b.base, .int .i64 b.last, .int .i64 b.frm, .int .i64 b.epoch, .int .i64 b.pid, .int .i64 b.gen, .int .i64 b.seq, .bool b.txn, .int .i64 b.ctl, v]
def inM (n most : Int) : Bool := decide (0 ≤ n ∧ n ≤ most)
end Go.Proofs.Ytmjnleohchmadaa.Bat

/- Records and batches as a law is handed them. -/
namespace Go.Proofs.Ytmjnleohchmadaa.Bat
open Go.RowKit Go.ChangeShapes Go.WideShapes Go.Deep Go.Proofs.Ytmjnleohchmadaa.Oct Go.Proofs.Ytmjnleohchmadaa.Rec Go.Proofs.Ytmjnleohchmadaa.Lay

instance : Lay Rc where
  sz := 5
  pos := by decide
  is _ _ cs r := cs = [.int .i64 r.off, .string r.key, .string r.val, .bool r.dead, .int .i64 r.stamp] ∧ I64 r.off ∧ I64 r.stamp ∧ r.key.size ≤ reach ∧ r.val.size ≤ reach
  len h := by rw [h.1]; rfl
  keep h _ := h
  more h _ := h
def Fit (r : Rc) : Prop := I64 r.off ∧ I64 r.stamp ∧ r.key.size ≤ reach ∧ r.val.size ≤ reach
def FitN (b : Bt) : Prop := I64 b.base ∧ I64 b.last ∧ I64 b.frm ∧ I64 b.epoch ∧ I64 b.pid ∧ I64 b.gen ∧ I64 b.seq ∧ I64 b.ctl
instance : Lay Bt where
  sz := 10
  pos := by decide
  is w B cs b := ∃ A n c, cs = [.int .i64 b.base, .int .i64 b.last, .int .i64 b.frm, .int .i64 b.epoch, .int .i64 b.pid, .int .i64 b.gen, .int .i64 b.seq, .bool b.txn, .int .i64 b.ctl, .slice A n c] ∧ FitN b ∧ n ≤ c ∧ c ≤ reach ∧ RdL w B A n b.recs
  len h := by obtain ⟨A, n, c, h, _⟩ := h; rw [h]; rfl
  keep h hk := by obtain ⟨A, n, c, h, hf, hc, hr, hl⟩ := h; exact ⟨A, n, c, h, hf, hc, hr, hl.keep hk⟩
  more h hB := by obtain ⟨A, n, c, h, hf, hc, hr, hl⟩ := h; exact ⟨A, n, c, h, hf, hc, hr, hl.more hB⟩

theorem at_of_row {w : World} {b o : Nat} {r : Rc} {cs : List Value} (hc : cs = [.int .i64 r.off, .string r.key, .string r.val, .bool r.dead, .int .i64 r.stamp]) (h : ∀ i v, cs[i]? = some v → w.cell? ⟨b, o + i, none⟩ = some v) : At w b o r := by
  subst hc
  exact ⟨h 0 _ rfl, h 1 _ rfl, h 2 _ rfl, h 3 _ rfl, h 4 _ rfl⟩
theorem RdL_recs {w : World} {B n : Nat} {A : Option Addr} {l : List Rc} (h : RdL w B A n l) : RdR w B A n l :=
  ⟨h.1, fun k r hr => by
    obtain ⟨b, o, cs, hA, hb, his, hc⟩ := h.2 k r hr
    exact ⟨b, o, hA, hb, at_of_row his.1 hc⟩⟩
theorem RdL_fit {w : World} {B n : Nat} {A : Option Addr} {l : List Rc} (h : RdL w B A n l) : ∀ r ∈ l, Fit r := by
  intro r hr
  obtain ⟨k, hk⟩ := List.mem_iff_getElem?.1 hr
  obtain ⟨_, _, _, _, _, his, _⟩ := h.2 k r hk
  exact his.2

theorem opens_rec : Opens Try.prog 62 Rc := by
  intro H enc w fuel cs d pl h hl hz
  obtain ⟨n, hat⟩ := opens_fields Try.underlying62 (by kernel_rfl) h hz hl
  obtain ⟨u0, d0, p0, c0, t0, z0⟩ := hat 0 _ rfl
  obtain ⟨u1, d1, p1, c1, t1, z1⟩ := hat 1 _ rfl
  obtain ⟨u2, d2, p2, c2, t2, z2⟩ := hat 2 _ rfl
  obtain ⟨u3, d3, p3, c3, t3, z3⟩ := hat 3 _ rfl
  obtain ⟨u4, d4, p4, c4, t4, z4⟩ := hat 4 _ rfl
  obtain ⟨o, rfl, ho⟩ := opens_int Try.underlying3 H enc w n u0 d0 p0 t0 z0
  obtain ⟨k, rfl, hk⟩ := opens_string Try.underlying9 H enc w n u1 d1 p1 t1 z1
  obtain ⟨x, rfl, hx⟩ := opens_string Try.underlying9 H enc w n u2 d2 p2 t2 z2
  obtain ⟨b, rfl⟩ := opens_bool Try.underlying4 H enc w n u3 d3 p3 t3 z3
  obtain ⟨s, rfl, hs⟩ := opens_int Try.underlying3 H enc w n u4 d4 p4 t4 z4
  match cs, hl with
  | [_, _, _, _, _], _ =>
    simp only [List.getElem?_cons_zero, List.getElem?_cons_succ, Option.some.injEq] at c0 c1 c2 c3 c4
    exact ⟨⟨o, k, x, b, s⟩, by rw [c0, c1, c2, c3, c4], ho, hs, hk, hx⟩
theorem opens_recs : Opens1 Try.prog 44 (List Rc) := opens_slice Try.underlying44 (by kernel_rfl) (of_decide_eq_true (by kernel_rfl)) opens_rec
theorem opens_batch : Opens Try.prog 46 Bt := by
  intro H enc w fuel cs d pl h hl hz
  obtain ⟨n, hat⟩ := opens_fields Try.underlying46 (by kernel_rfl) h hz hl
  obtain ⟨u0, d0, p0, c0, t0, z0⟩ := hat 0 _ rfl
  obtain ⟨u1, d1, p1, c1, t1, z1⟩ := hat 1 _ rfl
  obtain ⟨u2, d2, p2, c2, t2, z2⟩ := hat 2 _ rfl
  obtain ⟨u3, d3, p3, c3, t3, z3⟩ := hat 3 _ rfl
  obtain ⟨u4, d4, p4, c4, t4, z4⟩ := hat 4 _ rfl
  obtain ⟨u5, d5, p5, c5, t5, z5⟩ := hat 5 _ rfl
  obtain ⟨u6, d6, p6, c6, t6, z6⟩ := hat 6 _ rfl
  obtain ⟨u7, d7, p7, c7, t7, z7⟩ := hat 7 _ rfl
  obtain ⟨u8, d8, p8, c8, t8, z8⟩ := hat 8 _ rfl
  obtain ⟨u9, d9, p9, c9, t9, z9⟩ := hat 9 _ rfl
  obtain ⟨x0, rfl, h0⟩ := opens_int Try.underlying3 H enc w n u0 d0 p0 t0 z0
  obtain ⟨x1, rfl, h1⟩ := opens_int Try.underlying3 H enc w n u1 d1 p1 t1 z1
  obtain ⟨x2, rfl, h2⟩ := opens_int Try.underlying3 H enc w n u2 d2 p2 t2 z2
  obtain ⟨x3, rfl, h3⟩ := opens_int Try.underlying3 H enc w n u3 d3 p3 t3 z3
  obtain ⟨x4, rfl, h4⟩ := opens_int Try.underlying3 H enc w n u4 d4 p4 t4 z4
  obtain ⟨x5, rfl, h5⟩ := opens_int Try.underlying3 H enc w n u5 d5 p5 t5 z5
  obtain ⟨x6, rfl, h6⟩ := opens_int Try.underlying3 H enc w n u6 d6 p6 t6 z6
  obtain ⟨x7, rfl⟩ := opens_bool Try.underlying4 H enc w n u7 d7 p7 t7 z7
  obtain ⟨x8, rfl, h8⟩ := opens_int Try.underlying3 H enc w n u8 d8 p8 t8 z8
  obtain ⟨x9, A, m, c, rfl, hc, hr, hR⟩ := opens_recs H enc w n u9 d9 p9 t9 z9
  match cs, hl with
  | [_, _, _, _, _, _, _, _, _, _], _ =>
    simp only [List.getElem?_cons_zero, List.getElem?_cons_succ, Option.some.injEq] at c0 c1 c2 c3 c4 c5 c6 c7 c8 c9
    exact ⟨⟨x0, x1, x2, x3, x4, x5, x6, x7, x8, x9⟩, A, m, c, by rw [c0, c1, c2, c3, c4, c5, c6, c7, c8, c9], ⟨h0, h1, h2, h3, h4, h5, h6, h8⟩, hc, hr, hR⟩
theorem opens_batches : Opens1 Try.prog 37 (List Bt) := opens_slice Try.underlying37 (by kernel_rfl) (of_decide_eq_true (by kernel_rfl)) opens_batch

section
variable {H : Type} {enc : TypeId × Value → H} {W : World} {base : Nat} {v : Value} {d : DataW H} {p : List MemPlace}
set_option maxRecDepth 100000 in
theorem open_batches (hv : Value.okWide Try.prog W .any base 37 v) (h : DataW.Trod enc Try.prog W 0 (fun _ => true) true 37 v d p) (hz : ∀ z ∈ DataW.weights Try.prog 37 d, z ≤ reachBytes) :
    ∃ (A : Option Addr) (n c : Nat) (l : List Bt), v = .slice A n c ∧ n ≤ c ∧ c ≤ reach ∧ RdL W W.heap.size A n l := by
  obtain ⟨A, n, c, rfl⟩ := okWide_slice Try.underlying37 hv
  obtain ⟨fuel, hf⟩ := h
  obtain ⟨l, A', n', c', e, hc, hr, hR⟩ := opens_batches H enc W fuel _ d p hf hz
  exact ⟨A', n', c', l, e, hc, hr, hR⟩
theorem weights_arg {P : Program} {ts : List TypeId} {ds : List (DataW H)} (h : (DataW.weightsEach P ts ds).all (· ≤ reachBytes) = true) {j : Nat} {t : TypeId} (ht : ts[j]? = some t) (hd : ds[j]? = some d) : ∀ z ∈ DataW.weights P t d, z ≤ reachBytes := by
  intro z hz
  simpa using List.all_eq_true.1 h z (DataW.weights_mem_each ht hd z hz)
end
end Go.Proofs.Ytmjnleohchmadaa.Bat

/- The words for the contracts of the landed batch. -/
namespace Go.Proofs.Ytmjnleohchmadaa.Bat
open Go.RowKit Go.Proofs.Ytmjnleohchmadaa.Oct Go.Proofs.Ytmjnleohchmadaa.Rec Go.Proofs.Ytmjnleohchmadaa.Crc Go.Proofs.Ytmjnleohchmadaa.Lay

def OwnR (w : World) (B : Nat) (A : Option Addr) (n : Nat) (l : List Rc) : Prop :=
  RdR w w.heap.size A n l ∧ ∀ g o, A = some ⟨g, o, none⟩ → 0 < n → B ≤ g ∧ ∀ i, i < n * 5 → w.frozen? ⟨g, o + i, none⟩ = false
def RGB (w : World) (x : Bt × Int × Int) (en : Ending) (w' : World) : Prop :=
  ∃ A n c, en = .returned (.tuple #[bval x.1 (.slice A n c), .int .i64 x.2.1, .int .i64 x.2.2]) ∧ n ≤ c ∧ OwnR w' w.heap.size A n x.1.recs ∧ Below w.heap.size w w'
def RMB (w : World) (x : Bt × Int) (en : Ending) (w' : World) : Prop :=
  ∃ A n c, en = .returned (.tuple #[bval x.1 (.slice A n c), .int .i64 x.2]) ∧ n ≤ c ∧ OwnR w' w.heap.size A n x.1.recs ∧ Below w.heap.size w w'
noncomputable def eqB (a b : Bt) : Bool := @decide (a = b) (Classical.propDecidable _)
def fewR : List Rc → Nat → Bool
  | [], _ => true
  | r :: l, m => if 20000 < m + (r.key.size + r.val.size) then false else fewR l (m + (r.key.size + r.val.size))
def fewT (b : Bt) : Bool := fewR b.recs 0 && decide (b.recs.length ≤ 100)
theorem fewR_small {l : List Rc} {m : Nat} (h : fewR l m = true) : ∀ r ∈ l, r.key.size + r.val.size ≤ 20000 := by
  induction l generalizing m with
  | nil => simp
  | cons x l ih =>
    unfold fewR at h
    by_cases hh : 20000 < m + (x.key.size + x.val.size)
    · rw [if_pos hh] at h; cases h
    · rw [if_neg hh] at h
      intro r hr
      rcases List.mem_cons.1 hr with rfl | h9
      · omega
      · exact ih h r h9
theorem fewT_iff {b : Bt} (h : fewT b = true) : b.recs.length ≤ 100 ∧ ∀ r ∈ b.recs, r.key.size + r.val.size ≤ 20000 := by
  unfold fewT at h
  rw [Bool.and_eq_true, decide_eq_true_eq] at h
  exact ⟨h.2, fewR_small h.1⟩
theorem fits_of {b : Bt} (hn : FitN b) (hr : ∀ r ∈ b.recs, Fit r) (h : fewT b = true) : Fits b := by
  obtain ⟨h0, h1, h2, h3, h4, h5, h6, h8⟩ := hn
  exact ⟨h0, h1, h2, h3, h4, h5, h6, h8, fun r hm => ⟨(hr r hm).1, (hr r hm).2.1, by have := (fewT_iff h).2 r hm; omega, by have := (fewT_iff h).2 r hm; omega⟩⟩
end Go.Proofs.Ytmjnleohchmadaa.Bat

/- Records as rows of structs. -/
namespace Go.Proofs.Ytmjnleohchmadaa.Bat
open Go.RowKit Go.Proofs.Ytmjnleohchmadaa.Oct Go.Proofs.Ytmjnleohchmadaa.Rec Go.Proofs.Ytmjnleohchmadaa.Crc Go.Proofs.Ytmjnleohchmadaa.Lay Go.Proofs.Ytmjnleohchmadaa.RowF

def recC (r : Rc) : List Value := [.int .i64 r.off, .string r.key, .string r.val, .bool r.dead, .int .i64 r.stamp]
section
variable {u0 u1 u2 u3 u4 u5 u6 u7 u8 u9 : Value}
end
end Go.Proofs.Ytmjnleohchmadaa.Bat

/- Boxes of batches in memory, stores into them; what so many numbers and records are, step by step. -/
namespace Go.Proofs.Ytmjnleohchmadaa.Bat
open Go.RowKit Go.Proofs.Ytmjnleohchmadaa.Oct Go.Proofs.Ytmjnleohchmadaa.Rec Go.Proofs.Ytmjnleohchmadaa.Crc Go.Proofs.Ytmjnleohchmadaa.Lay Go.Proofs.Ytmjnleohchmadaa.RowF

theorem frozen_set (w : World) (a p : Addr) (u : Value) : (w.setCell a u).frozen? p = w.frozen? p := by simp [go_sem]
structure ZB (w : World) (g : Nat) : Prop where
  c0 : w.cell? ⟨g, 0, none⟩ = some (.int .i64 0)
  c1 : w.cell? ⟨g, 1, none⟩ = some (.int .i64 0)
  c2 : w.cell? ⟨g, 2, none⟩ = some (.int .i64 0)
  c3 : w.cell? ⟨g, 3, none⟩ = some (.int .i64 0)
  c4 : w.cell? ⟨g, 4, none⟩ = some (.int .i64 0)
  c5 : w.cell? ⟨g, 5, none⟩ = some (.int .i64 0)
  c6 : w.cell? ⟨g, 6, none⟩ = some (.int .i64 0)
  c7 : w.cell? ⟨g, 7, none⟩ = some (.bool false)
  c8 : w.cell? ⟨g, 8, none⟩ = some (.int .i64 0)
  c9 : w.cell? ⟨g, 9, none⟩ = some (.slice none 0 0)
  f0 : w.frozen? ⟨g, 0, none⟩ = false
  f1 : w.frozen? ⟨g, 1, none⟩ = false
  f2 : w.frozen? ⟨g, 2, none⟩ = false
  f3 : w.frozen? ⟨g, 3, none⟩ = false
  f4 : w.frozen? ⟨g, 4, none⟩ = false
  f5 : w.frozen? ⟨g, 5, none⟩ = false
  f6 : w.frozen? ⟨g, 6, none⟩ = false
  f7 : w.frozen? ⟨g, 7, none⟩ = false
  f8 : w.frozen? ⟨g, 8, none⟩ = false
  f9 : w.frozen? ⟨g, 9, none⟩ = false
  lt : g < w.heap.size
theorem ZB.below {w w' : World} {g B : Nat} (h : ZB w g) (hb : Below B w w') (hg : g < B) : ZB w' g :=
  ⟨(hb.cell (p := ⟨g, 0, none⟩) hg).trans h.c0, (hb.cell (p := ⟨g, 1, none⟩) hg).trans h.c1, (hb.cell (p := ⟨g, 2, none⟩) hg).trans h.c2, (hb.cell (p := ⟨g, 3, none⟩) hg).trans h.c3, (hb.cell (p := ⟨g, 4, none⟩) hg).trans h.c4, (hb.cell (p := ⟨g, 5, none⟩) hg).trans h.c5, (hb.cell (p := ⟨g, 6, none⟩) hg).trans h.c6, (hb.cell (p := ⟨g, 7, none⟩) hg).trans h.c7, (hb.cell (p := ⟨g, 8, none⟩) hg).trans h.c8, (hb.cell (p := ⟨g, 9, none⟩) hg).trans h.c9, (hb.frozen (p := ⟨g, 0, none⟩) hg).trans h.f0, (hb.frozen (p := ⟨g, 1, none⟩) hg).trans h.f1, (hb.frozen (p := ⟨g, 2, none⟩) hg).trans h.f2, (hb.frozen (p := ⟨g, 3, none⟩) hg).trans h.f3, (hb.frozen (p := ⟨g, 4, none⟩) hg).trans h.f4, (hb.frozen (p := ⟨g, 5, none⟩) hg).trans h.f5, (hb.frozen (p := ⟨g, 6, none⟩) hg).trans h.f6, (hb.frozen (p := ⟨g, 7, none⟩) hg).trans h.f7, (hb.frozen (p := ⟨g, 8, none⟩) hg).trans h.f8, (hb.frozen (p := ⟨g, 9, none⟩) hg).trans h.f9, Nat.lt_of_lt_of_le h.lt hb.size⟩
theorem ZB.new (w : World) : ZB (w.alloc (.cells #[.int .i64 0, .int .i64 0, .int .i64 0, .int .i64 0, .int .i64 0, .int .i64 0, .int .i64 0, .bool false, .int .i64 0, .slice none 0 0] 46)) w.heap.size := by
  refine ⟨?_, ?_, ?_, ?_, ?_, ?_, ?_, ?_, ?_, ?_, ?_, ?_, ?_, ?_, ?_, ?_, ?_, ?_, ?_, ?_, ?_⟩
  case refine_21 => simp
  all_goals simp [go_sem]
theorem BoxB.set {w : World} {X g j : Nat} {b : Bt} {v u : Value} (h : BoxB w X b v) (hg : g ≠ X) : BoxB (w.setCell ⟨g, j, none⟩ u) X b v := by
  obtain ⟨h0, h1, h2, h3, h4, h5, h6, h7, h8, h9⟩ := h
  have e : ∀ k, (w.setCell ⟨g, j, none⟩ u).cell? ⟨X, k, none⟩ = w.cell? ⟨X, k, none⟩ := fun k => by unfold World.cell?; rw [Below.heap_setCell _ _ _ _ (by simp; omega)]
  exact ⟨(e _).trans h0, (e _).trans h1, (e _).trans h2, (e _).trans h3, (e _).trans h4, (e _).trans h5, (e _).trans h6, (e _).trans h7, (e _).trans h8, (e _).trans h9⟩
theorem ZB.set {w : World} {g X j : Nat} {u : Value} (h : ZB w X) (hg : g ≠ X) : ZB (w.setCell ⟨g, j, none⟩ u) X := by
  have e : ∀ k, (w.setCell ⟨g, j, none⟩ u).cell? ⟨X, k, none⟩ = w.cell? ⟨X, k, none⟩ := fun k => by unfold World.cell?; rw [Below.heap_setCell _ _ _ _ (by simp; omega)]
  exact ⟨(e _).trans h.c0, (e _).trans h.c1, (e _).trans h.c2, (e _).trans h.c3, (e _).trans h.c4, (e _).trans h.c5, (e _).trans h.c6, (e _).trans h.c7, (e _).trans h.c8, (e _).trans h.c9, (frozen_set _ _ _ _).trans h.f0, (frozen_set _ _ _ _).trans h.f1, (frozen_set _ _ _ _).trans h.f2, (frozen_set _ _ _ _).trans h.f3, (frozen_set _ _ _ _).trans h.f4, (frozen_set _ _ _ _).trans h.f5, (frozen_set _ _ _ _).trans h.f6, (frozen_set _ _ _ _).trans h.f7, (frozen_set _ _ _ _).trans h.f8, (frozen_set _ _ _ _).trans h.f9, by simpa [World.setCell] using h.lt⟩
theorem BoxB.recs {w : World} {g : Nat} {a b : Bt} {v : Value} (h : BoxB w g a v) (hb : b = { a with recs := b.recs }) : BoxB w g b v := by
  rw [hb]; exact h
theorem BoxB.drew {w : World} {g : Nat} {b : Bt} {v : Value} (h : BoxB w g b v) : BoxB w.drew g b v := h

theorem OwnR.lt {w : World} {B : Nat} {A : Option Addr} {n : Nat} {l : List Rc} (h : OwnR w B A n l) {g o : Nat} (hA : A = some ⟨g, o, none⟩) (hn : 0 < n) : g < w.heap.size := by
  obtain ⟨b, o', _, hA', hlt, _⟩ := h.1.at hn
  rw [hA] at hA'
  simp only [Option.some.injEq, Addr.mk.injEq, and_true] at hA'
  rw [hA'.1]; exact hlt
theorem OwnR.below {w w' : World} {B : Nat} {A : Option Addr} {n : Nat} {l : List Rc} (h : OwnR w B A n l) (hb : Below w.heap.size w w') : OwnR w' B A n l :=
  ⟨(h.1.below hb (Nat.le_refl _)).more hb.size, fun g o hA hn => ⟨(h.2 g o hA hn).1, fun i hi => (hb.frozen (p := ⟨g, o + i, none⟩) (h.lt hA hn)).trans ((h.2 g o hA hn).2 i hi)⟩⟩
theorem OwnR.set {w : World} {B X j : Nat} {A : Option Addr} {n : Nat} {l : List Rc} {u : Value} (h : OwnR w B A n l) (hX : X < B) : OwnR (w.setCell ⟨X, j, none⟩ u) B A n l := by
  refine ⟨⟨h.1.1, fun k r hr => ?_⟩, fun g o hA hn => ⟨(h.2 g o hA hn).1, fun i hi => (frozen_set _ _ _ _).trans ((h.2 g o hA hn).2 i hi)⟩⟩
  obtain ⟨b, o, hA, hlt, hat⟩ := h.1.2 k r hr
  have hn : 0 < n := by have := (List.getElem?_eq_some_iff.1 hr).1; have := h.1.1; omega
  have hg := (h.2 b o hA hn).1
  refine ⟨b, o, hA, by rw [World.size_setCell]; exact hlt, hat.keep fun p hp => ?_⟩
  unfold World.cell?
  rw [Below.heap_setCell _ _ _ _ (by show p.block ≠ X; omega)]
theorem OwnR.rd {w : World} {B : Nat} {A : Option Addr} {n : Nat} {l : List Rc} (h : OwnR w B A n l) : RdR w w.heap.size A n l := h.1
section
variable {u0 u1 u2 u3 u4 u5 u6 u7 u8 u9 : Value}
end
end Go.Proofs.Ytmjnleohchmadaa.Bat

/- The plain mathematics of the landed batch: what its read tells of a body, and that with the test of the own body it is the document's answer. -/
namespace Go.Proofs.Ytmjnleohchmadaa.Bat
open Go.RowKit Go.Proofs.Ytmjnleohchmadaa.Oct Go.Proofs.Ytmjnleohchmadaa.Rec Go.Proofs.Ytmjnleohchmadaa.Crc

def ctM (c : Nat) : Int := ((c - c / 4 % 2 * 4 : Nat) : Int)
def txM (c : Nat) : Bool := c / 4 % 2 != 0
def ldT (l : List UInt8) (p base : Int) : Option (List Rc) :=
  if (gv l p).2.2 ≠ 0 then none else if 0 < (gv l p).1 then
    (if (gv l (gv l p).2.1).2.2 ≠ 0 then none else (rdR (gv l p).1.toNat l (gv l (gv l p).2.1).2.1 base (gv l (gv l p).2.1).1).map (·.1))
  else some []
def ldB (l : List UInt8) : Option Bt :=
  match rdV 7 l 0 with
  | some ([n0, n1, n2, n3, n4, n5, n6], p) => match l[p.toNat]? with
    | none => none
    | some c => (ldT l (p + 1) n0).map fun xs => ⟨n0, wrap64 (n0 + n1), n2, n3, n4, n5, n6, txM c.toNat, ctM c.toNat, xs⟩
  | _ => none
def opL (l : List UInt8) : Bt × Int :=
  if (openB l).2 ≠ 0 then (nilB, (openB l).2) else match ldB (openB l).1 with
    | none => (nilB, 11)
    | some b => if chB b = 0 ∧ body b = (openB l).1 then (b, 0) else (nilB, 11)
end Go.Proofs.Ytmjnleohchmadaa.Bat
