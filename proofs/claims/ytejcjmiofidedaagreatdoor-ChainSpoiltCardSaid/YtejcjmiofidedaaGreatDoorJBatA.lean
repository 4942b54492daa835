/- Joined: Lay, BatMath, BatMath2, BatMath3, BatMath4, BatW, BatArg, BatDevS, BatRecF, BatMem, BatDevM. -/
import Derived.Test.YtejcjmiofidedaaGreatDoorJOct
import Derived.Deep.Slices
import Derived.SizedLaws
import Derived.Test.YtejcjmiofidedaaGreatDoorJRec
import Derived.Test.YtejcjmiofidedaaGreatDoorJCrc
/- How data lie in memory, and how a law's arguments are opened: one notion for all types. Nothing of the program: P, the types' numbers and the worlds are letters. -/
namespace Go.Proofs.YtejcjmiofidedaaGreatDoor.Lay
open Go.RowKit Go.ChangeShapes Go.WideShapes Go.Deep Oct

class One (α : Type) where
  one : World → Nat → Value → α → Prop
  keep : ∀ {w w' : World} {B : Nat} {v : Value} {x : α}, one w B v x → (∀ p : Addr, p.block < B → w'.cell? p = w.cell? p) → one w' B v x
  more : ∀ {w : World} {B B' : Nat} {v : Value} {x : α}, one w B v x → B ≤ B' → one w B' v x
class Lay (α : Type) where
  sz : Nat
  pos : 0 < sz
  is : World → Nat → List Value → α → Prop
  len : ∀ {w : World} {B : Nat} {cs : List Value} {x : α}, is w B cs x → cs.length = sz
  keep : ∀ {w w' : World} {B : Nat} {cs : List Value} {x : α}, is w B cs x → (∀ p : Addr, p.block < B → w'.cell? p = w.cell? p) → is w' B cs x
  more : ∀ {w : World} {B B' : Nat} {cs : List Value} {x : α}, is w B cs x → B ≤ B' → is w B' cs x
def RdL {α : Type} [Lay α] (w : World) (B : Nat) (A : Option Addr) (n : Nat) (l : List α) : Prop :=
  l.length = n ∧ ∀ k x, l[k]? = some x → ∃ b o cs, A = some ⟨b, o, none⟩ ∧ b < B ∧ Lay.is w B cs x ∧ ∀ i v, cs[i]? = some v → w.cell? ⟨b, o + k * Lay.sz α + i, none⟩ = some v
def reach : Nat := 140737488351232
section
variable {α : Type} [Lay α] {w w' : World} {B B' n : Nat} {A : Option Addr} {l : List α}
theorem RdL.len (h : RdL w B A n l) : l.length = n := h.1
theorem RdL.nil : RdL w B A 0 ([] : List α) := ⟨rfl, by simp⟩
theorem RdL.keep (h : RdL w B A n l) (hk : ∀ p : Addr, p.block < B → w'.cell? p = w.cell? p) : RdL w' B A n l :=
  ⟨h.1, fun k x hx => by
    obtain ⟨b, o, cs, hA, hb, his, hc⟩ := h.2 k x hx
    exact ⟨b, o, cs, hA, hb, Lay.keep his hk, fun i v hv => (hk _ hb).trans (hc i v hv)⟩⟩
theorem RdL.more (h : RdL w B A n l) (hB : B ≤ B') : RdL w B' A n l :=
  ⟨h.1, fun k x hx => by
    obtain ⟨b, o, cs, hA, hb, his, hc⟩ := h.2 k x hx
    exact ⟨b, o, cs, hA, by omega, Lay.more his hB, hc⟩⟩
theorem RdL.below (h : RdL w B A n l) (hb : Below B' w w') (hB : B ≤ B') : RdL w' B A n l := h.keep fun _ hp => hb.cell (by omega)
theorem RdL.at {k : Nat} (h : RdL w B A n l) (hk : k < n) : ∃ b o x cs, A = some ⟨b, o, none⟩ ∧ b < B ∧ l[k]? = some x ∧ Lay.is w B cs x ∧ ∀ i v, cs[i]? = some v → w.cell? ⟨b, o + k * Lay.sz α + i, none⟩ = some v := by
  have hl : k < l.length := by have := h.1; omega
  obtain ⟨b, o, cs, hA, hb, his, hc⟩ := h.2 k l[k] (List.getElem?_eq_getElem hl)
  exact ⟨b, o, l[k], cs, hA, hb, List.getElem?_eq_getElem hl, his, hc⟩
theorem RdL.take {m : Nat} (h : RdL w B A n l) (hm : m ≤ n) : RdL w B A m (l.take m) := by
  refine ⟨by have := h.1; rw [List.length_take]; omega, fun k x hx => h.2 k x ?_⟩
  rw [List.getElem?_take] at hx
  split at hx
  · exact hx
  · cases hx
end

/-! ### one cell -/
instance : One Int where
  one _ _ v x := v = .int .i64 x ∧ I64 x
  keep h _ := h
  more h _ := h
instance : One Bool where
  one _ _ v x := v = .bool x
  keep h _ := h
  more h _ := h
instance : One ByteArray where
  one _ _ v x := v = .string x ∧ x.size ≤ reach
  keep h _ := h
  more h _ := h
instance {α : Type} [Lay α] : One (List α) where
  one w B v l := ∃ A n c, v = .slice A n c ∧ n ≤ c ∧ c ≤ reach ∧ RdL w B A n l
  keep h hk := by obtain ⟨A, n, c, e, hc, hr, hl⟩ := h; exact ⟨A, n, c, e, hc, hr, hl.keep hk⟩
  more h hB := by obtain ⟨A, n, c, e, hc, hr, hl⟩ := h; exact ⟨A, n, c, e, hc, hr, hl.more hB⟩
@[reducible] def lay1 (α : Type) [One α] : Lay α where
  sz := 1
  pos := by decide
  is w B cs x := ∃ v, cs = [v] ∧ One.one w B v x
  len h := by obtain ⟨v, rfl, _⟩ := h; rfl
  keep h hk := by obtain ⟨v, rfl, h⟩ := h; exact ⟨v, rfl, One.keep h hk⟩
  more h hB := by obtain ⟨v, rfl, h⟩ := h; exact ⟨v, rfl, One.more h hB⟩
instance : Lay Int := lay1 Int
instance : Lay ByteArray := lay1 ByteArray
instance : Lay Bool := lay1 Bool
instance : Lay UInt8 where
  sz := 1
  pos := by decide
  is _ _ cs x := cs = [.int .u8 (x.toNat : Int)]
  len h := by subst h; rfl
  keep h _ := h
  more h _ := h
theorem RdL.bytes {w : World} {B n : Nat} {A : Option Addr} {l : List UInt8} (h : RdL w B A n l) : Rd w B A n l :=
  ⟨h.1, fun k c hc => by
    obtain ⟨b, o, cs, hA, hb, his, hcell⟩ := h.2 k c hc
    obtain rfl : cs = [.int .u8 (c.toNat : Int)] := his
    refine ⟨b, o, hA, hb, ?_⟩
    have := hcell 0 _ rfl
    rw [show o + k * Lay.sz UInt8 + 0 = o + k from by show o + k * 1 + 0 = o + k; omega] at this
    exact this⟩

/-! ### opened -/
section
variable {P : Program} {t e : TypeId}
def Opens1 (P : Program) (t : TypeId) (α : Type) [One α] : Prop :=
  ∀ (H : Type) (enc : TypeId × Value → H) (w : World) (fuel : Nat) (v : Value) (d : DataW H) (pl : List MemPlace),
    DataW.trod enc P w 0 (fun _ => true) true fuel t [v] = some (d, pl) → (∀ z ∈ DataW.weights P t d, z ≤ reachBytes) → ∃ x : α, One.one w w.heap.size v x
def Opens (P : Program) (t : TypeId) (α : Type) [Lay α] : Prop :=
  ∀ (H : Type) (enc : TypeId × Value → H) (w : World) (fuel : Nat) (cs : List Value) (d : DataW H) (pl : List MemPlace),
    DataW.trod enc P w 0 (fun _ => true) true fuel t cs = some (d, pl) → cs.length = Lay.sz α → (∀ z ∈ DataW.weights P t d, z ≤ reachBytes) → ∃ x : α, Lay.is w w.heap.size cs x
theorem opens_int (ht : P.underlying t = some (.int .i64)) : Opens1 P t Int := by
  intro H enc w fuel v d pl h _
  obtain ⟨n, hn, _, hw⟩ := DataW.trod_int ht h
  obtain rfl : v = .int .i64 n := by injection hn
  exact ⟨n, rfl, (bounds_i64 hw).1, (bounds_i64 hw).2⟩
theorem opens_bool (ht : P.underlying t = some .bool) : Opens1 P t Bool := by
  intro H enc w fuel v d pl h _
  obtain ⟨n, hn, _⟩ := DataW.trod_bool ht h
  obtain rfl : v = .bool n := by injection hn
  exact ⟨n, rfl⟩
theorem opens_string (ht : P.underlying t = some .string) : Opens1 P t ByteArray := by
  intro H enc w fuel v d pl h hz
  obtain ⟨n, hn, hx, _⟩ := DataW.trod_string ht h
  obtain rfl : v = .string n := by injection hn
  refine ⟨n, rfl, ?_⟩
  obtain rfl : d = .lit (.string n.data.toList) := congrArg Prod.fst hx
  have h1 := hz n.data.toList.length (by simp [DataW.weights])
  have h2 : reachBytes = reach := by decide
  rw [h2, Array.length_toList] at h1
  exact h1
theorem opens_byte (ht : P.underlying t = some (.int .u8)) : Opens P t UInt8 := by
  intro H enc w fuel cs d pl h hl _
  match cs, hl with
  | [v], _ =>
    obtain ⟨n, hn, _, hw⟩ := DataW.trod_int ht h
    obtain rfl : v = .int .u8 n := by injection hn
    have hb := bounds_u8 hw
    refine ⟨UInt8.ofNat n.toNat, ?_⟩
    show [Value.int .u8 n] = [Value.int .u8 ((UInt8.ofNat n.toNat).toNat : Int)]
    have : ((UInt8.ofNat n.toNat).toNat : Int) = n := by
      rw [UInt8.toNat_ofNat']
      omega
    rw [this]
theorem mem_all {H : Type} {e : TypeId} {x : DataW H} {l : List (DataW H)} {z : Nat} (hx : x ∈ l) (hz : z ∈ DataW.weights P e x) : z ∈ DataW.weightsAll P e l := by
  induction l with
  | nil => cases hx
  | cons y l ih =>
    unfold DataW.weightsAll
    rcases List.mem_cons.1 hx with rfl | h
    · exact List.mem_append_left _ hz
    · exact List.mem_append_right _ (ih h)
theorem opens_slice {α : Type} [Lay α] (ht : P.underlying t = some (.slice e)) (hc : P.cellsOf e = Lay.sz α) (hb : 1 ≤ P.bytesOf e) (he : Opens P e α) : Opens1 P t (List α) := by
  intro H enc w fuel v d pl h hz
  rcases open_slice ht h with ⟨hcs, _⟩ | ⟨a, len, cap, m, n, D, Pl, hcs, _, hl, _, hm, hx, hel⟩
  · obtain rfl : v = .slice none 0 0 := by injection hcs
    exact ⟨[], none, 0, 0, rfl, Nat.le_refl _, Nat.zero_le _, RdL.nil⟩
  · obtain rfl : v = .slice (some a) len cap := by injection hcs
    have hmc : m = cap := by simpa using hm
    subst hmc
    obtain rfl : d = _ := congrArg Prod.fst hx
    have hwt : ∀ z ∈ (((List.range len).map D).length + ((List.range (m - len)).map fun j => D (len + j)).length) * P.bytesOf e :: (DataW.weightsAll P e ((List.range len).map D) ++ DataW.weightsAll P e ((List.range (m - len)).map fun j => D (len + j))), z ≤ reachBytes := by
      intro z hz'
      exact hz z (by unfold DataW.weights; rw [ht]; exact hz')
    have h2 : reachBytes = reach := by decide
    have hcap : m ≤ reach := by
      have h1 := hwt _ List.mem_cons_self
      rw [List.length_map, List.length_map, List.length_range, List.length_range, show len + (m - len) = m by omega, h2] at h1
      exact Nat.le_trans (Nat.le_mul_of_pos_right m hb) h1
    have hwtl : ∀ i, i < len → ∀ z ∈ DataW.weights P e (D i), z ≤ reachBytes := by
      intro i hi z hzi
      refine hwt z (List.mem_cons_of_mem _ (List.mem_append_left _ (mem_all (List.mem_map.2 ⟨i, List.mem_range.2 hi, rfl⟩) hzi)))
    have hex : ∀ i, i < len → ∃ (x : α) (cs : List Value), Lay.is w w.heap.size cs x ∧ cs.length = Lay.sz α ∧ ∀ j v, cs[j]? = some v → w.cell? (a.add (i * Lay.sz α + j)) = some v := by
      intro i hi
      obtain ⟨cs, h1, h3⟩ := hel i (by omega)
      obtain ⟨_, hlen, hcell⟩ := World.cells?_some h1
      rw [hc] at hlen h1 hcell
      obtain ⟨x, hxx⟩ := he H enc w n cs _ _ h3 hlen (hwtl i hi)
      refine ⟨x, cs, hxx, hlen, fun j v hv => ?_⟩
      have hj := (List.getElem?_eq_some_iff.1 hv).1
      have := hcell j (by omega)
      rw [add_add, hv] at this
      exact this
    obtain ⟨b, o, spot⟩ := a
    have hspot : 0 < len → spot = none := by
      intro h0
      obtain ⟨x, cs, _, hlen, hcell⟩ := hex 0 h0
      have hp := Lay.pos (α := α)
      have h9 := hcell 0 cs[0] (List.getElem?_eq_getElem (by omega))
      simpa [Addr.add] using World.cell?_spot h9
    rcases Nat.eq_zero_or_pos len with rfl | h0
    · exact ⟨[], _, _, _, rfl, Nat.zero_le _, hcap, RdL.nil⟩
    obtain rfl := hspot h0
    have hE : ∀ i, i < len → ∃ x : α, ∃ cs, Lay.is w w.heap.size cs x ∧ b < w.heap.size ∧ ∀ j v, cs[j]? = some v → w.cell? ⟨b, o + i * Lay.sz α + j, none⟩ = some v := by
      intro i hi
      obtain ⟨x, cs, hxx, hlen, hcell⟩ := hex i hi
      have hp := Lay.pos (α := α)
      have hcc : ∀ j v, cs[j]? = some v → w.cell? ⟨b, o + i * Lay.sz α + j, none⟩ = some v := by
        intro j v hv
        have h9 := hcell j v hv
        rw [Addr.add_lit, ← Nat.add_assoc] at h9
        exact h9
      exact ⟨x, cs, hxx, World.block_lt_of_cell? w _ (hcc 0 cs[0] (List.getElem?_eq_getElem (by omega))), hcc⟩
    obtain ⟨x0, _⟩ := hE 0 h0
    have : Inhabited α := ⟨x0⟩
    obtain ⟨f, hf⟩ := choose_lt hE
    refine ⟨(List.range len).map f, _, _, _, rfl, hl, hcap, by simp, fun k x hk => ?_⟩
    have hkl : k < len := by have := (List.getElem?_eq_some_iff.1 hk).1; simpa using this
    rw [List.getElem?_map, List.getElem?_range hkl] at hk
    simp only [Option.map_some, Option.some.injEq] at hk
    obtain ⟨cs, h1, h2, h3⟩ := hf k hkl
    rw [hk] at h1
    exact ⟨b, o, cs, rfl, h2, h1, h3⟩
theorem opens_fields {fs : Array Field} (ht : P.underlying t = some (.struct fs)) (hone : oneCellFields P fs = true) {H : Type} {enc : TypeId × Value → H} {w : World} {fuel : Nat} {cs : List Value} {d : DataW H} {pl : List MemPlace}
    (h : DataW.trod enc P w 0 (fun _ => true) true fuel t cs = some (d, pl)) (hw : ∀ z ∈ DataW.weights P t d, z ≤ reachBytes) (hlen : cs.length = fs.size) :
    ∃ n, ∀ (i : Nat) (f : Field), fs[i]? = some f → ∃ u d' pl', cs[i]? = some u ∧ DataW.trod enc P w 0 (fun _ => true) true n f.type [u] = some (d', pl') ∧ ∀ z ∈ DataW.weights P f.type d', z ≤ reachBytes := by
  obtain ⟨xs, n, _, hx, _, hxl, hat⟩ := DataW.trod_struct ht h
  obtain rfl : d = .agg (xs.map (·.1)) := congrArg Prod.fst hx
  have hwe : ∀ z ∈ DataW.weightsEach P (fs.toList.map (·.type)) (xs.map (·.1)), z ≤ reachBytes := by
    intro z hz
    exact hw z (by unfold DataW.weights; rw [ht]; exact hz)
  refine ⟨n, fun i f hi => ?_⟩
  have hlt := (Array.getElem?_eq_some_iff.1 hi).1
  obtain ⟨ho, h1⟩ := hone_of hone i f hi
  have hu : cs[i]? = some (cs[i]'(by omega)) := List.getElem?_eq_getElem (by omega)
  have hy : xs[i]? = some (xs[i]'(by omega)) := List.getElem?_eq_getElem (by omega)
  have hcell := hat i f hi
  rw [ho, h1, hy] at hcell
  refine ⟨cs[i]'(by omega), (xs[i]'(by omega)).1, (xs[i]'(by omega)).2, hu, ?_, fun z hz => hwe z ?_⟩
  · have e : (List.drop i cs).take 1 = [cs[i]'(by omega)] := by
      apply List.ext_getElem?
      intro j
      rw [List.getElem?_take, List.getElem?_drop]
      cases j with
      | zero => rw [if_pos (by omega)]; exact hu
      | succ j => rw [if_neg (by omega)]; rfl
    rw [e] at hcell
    exact hcell
  · refine DataW.weights_mem_each (j := i) (t := f.type) (d := (xs[i]'(by omega)).1) ?_ ?_ z hz
    · rw [List.getElem?_map, ← Array.getElem?_toList] at *
      simp [hi]
    · rw [List.getElem?_map, hy]; rfl
end
end Go.Proofs.YtejcjmiofidedaaGreatDoor.Lay

/- The plain mathematics of layer 4: a batch, its bytes, what bytes tell. Nothing of the program. -/
namespace Go.Proofs.YtejcjmiofidedaaGreatDoor.Bat
open Oct Rec Crc

structure Bt where
  base : Int
  last : Int
  frm : Int
  epoch : Int
  pid : Int
  gen : Int
  seq : Int
  txn : Bool
  ctl : Int
  recs : List Rc

def W64 (x : Int) : Prop := -9223372036854775808 ≤ x ∧ x ≤ 9223372036854775807
def inG (n : Int) : Bool := decide (0 ≤ n ∧ n ≤ 1048576)
def rise (lo hi : Int) : List Rc → Bool
  | [] => true
  | r :: l => may r && decide (lo < r.off ∧ r.off ≤ hi) && rise r.off hi l
def form (b : Bt) : Bool :=
  decide (0 ≤ b.base ∧ b.base ≤ 1099511627776 ∧ 0 ≤ b.last ∧ b.last ≤ 1099511627776 ∧ 0 ≤ b.frm ∧ b.frm ≤ 1099511627776 ∧ b.base ≤ b.last ∧ b.last - b.base < 16 ∧
    b.frm + (b.last - b.base) ≤ 1099511627776 ∧ 0 ≤ b.epoch ∧ b.epoch ≤ 1048576 ∧ 0 ≤ b.gen ∧ b.gen ≤ 1048576 ∧ 0 ≤ b.seq ∧ b.seq ≤ 1048576 ∧ b.seq + (b.last - b.base) ≤ 1048576 ∧
    (b.pid = -1 ∧ b.gen = 0 ∧ b.seq = 0 ∧ b.txn = false ∧ b.ctl = 0 ∨ b.pid ≠ -1 ∧ 0 ≤ b.pid ∧ b.pid ≤ 1099511627776)) &&
  (if b.ctl = 0 then rise (b.base - 1) b.last b.recs else decide ((b.ctl = 1 ∨ b.ctl = 2) ∧ b.last = b.base ∧ b.recs = [] ∧ b.txn = true ∧ 0 ≤ b.pid))

def vs : List Int → List UInt8
  | [] => []
  | x :: l => vb (zz x) ++ vs l
def rs (base st : Int) : List Rc → List UInt8
  | [] => []
  | r :: l => rb r base st ++ rs base st l
def mark (b : Bt) : UInt8 := UInt8.ofNat (b.ctl.toNat + if b.txn then 4 else 0)
def hd (b : Bt) : List Int := [b.base, b.last - b.base, b.frm, b.epoch, b.pid, b.gen, b.seq]
def tl (base : Int) : List Rc → List UInt8
  | [] => []
  | r :: l => vb (zz r.stamp) ++ rs base r.stamp (r :: l)
def body (b : Bt) : List UInt8 := vs (hd b) ++ ([mark b] ++ (vb (zz b.recs.length) ++ tl b.base b.recs))
def byB (b : Bt) : List UInt8 := beN (sealB (body b)).length 4 4 ++ sealB (body b)
def chB (b : Bt) : Int := if form b then (if 2048 < (byB b).length then 2 else 0) else 1
def ptB (b : Bt) : List UInt8 × Int := if chB b = 0 then (byB b, 0) else ([], chB b)
def szB (b : Bt) : Int := if chB b = 0 then (byB b).length else 0

def rdV : Nat → List UInt8 → Int → Option (List Int × Int)
  | 0, _, p => some ([], p)
  | k + 1, l, p => if (gv l p).2.2 ≠ 0 then none else match rdV k l (gv l p).2.1 with
    | none => none
    | some (xs, q) => some ((gv l p).1 :: xs, q)
def rdR : Nat → List UInt8 → Int → Int → Int → Option (List Rc × Int)
  | 0, _, p, _, _ => some ([], p)
  | k + 1, l, p, base, st => if (gr l p base st).2.2 ≠ 0 then none else match rdR k l (gr l p base st).2.1 base st with
    | none => none
    | some (xs, q) => some ((gr l p base st).1 :: xs, q)
def rdT (k : Nat) (l : List UInt8) (p base : Int) : Option (List Rc × Int) :=
  if k = 0 then some ([], p) else if (gv l p).2.2 ≠ 0 then none else match rdR k l (gv l p).2.1 base (gv l p).1 with
    | none => none
    | some (xs, q) => if (xs.head?.map (·.stamp)) = some (gv l p).1 then some (xs, q) else none
def rdB (l : List UInt8) : Option (Bt × Int) :=
  match rdV 7 l 0 with
  | some ([n0, n1, n2, n3, n4, n5, n6], p) => match l[p.toNat]? with
    | none => none
    | some c => if 7 < c.toNat then none else if (gv l (p + 1)).2.2 ≠ 0 then none else
      if (gv l (p + 1)).1 < 0 ∨ 16 < (gv l (p + 1)).1 ∨ n1 < 0 ∨ 16 < n1 ∨ n0 < 0 ∨ 1099511627776 < n0 then none else
      match rdT (gv l (p + 1)).1.toNat l (gv l (p + 1)).2.1 n0 with
      | none => none
      | some (xs, q) => some (⟨n0, n0 + n1, n2, n3, n4, n5, n6, decide (4 ≤ c.toNat), ((c.toNat % 4 : Nat) : Int), xs⟩, q)
  | _ => none

/-! ### what is written is read -/
theorem rdV_at (xs : List Int) (h t : List UInt8) (hx : ∀ x ∈ xs, W64 x) : rdV xs.length (h ++ (vs xs ++ t)) (h.length : Int) = some (xs, ((h ++ vs xs).length : Int)) := by
  induction xs generalizing h with
  | nil => simp [rdV, vs]
  | cons x xs ih =>
    have g := gv_at h (vs xs ++ t) x (hx x (by simp))
    have e : h ++ (vs (x :: xs) ++ t) = h ++ vb (zz x) ++ (vs xs ++ t) := by simp [vs, List.append_assoc]
    have i := ih (h ++ vb (zz x)) (fun y hy => hx y (by simp [hy]))
    rw [List.length_cons, rdV, e, g]
    simp only
    rw [if_neg (by simp)]
    rw [List.length_append, Int.natCast_add] at i
    rw [i]
    simp [vs, List.append_assoc]
theorem rdR_at (xs : List Rc) (base st : Int) (h t : List UInt8) (hx : ∀ r ∈ xs, may r = true) (hb : inR base = true) (hs : inR st = true) :
    rdR xs.length (h ++ (rs base st xs ++ t)) (h.length : Int) base st = some (xs, ((h ++ rs base st xs).length : Int)) := by
  induction xs generalizing h with
  | nil => simp [rdR, rs]
  | cons x xs ih =>
    have g := gr_rb (hx x (by simp)) hb hs h (rs base st xs ++ t)
    have e : h ++ (rs base st (x :: xs) ++ t) = h ++ rb x base st ++ (rs base st xs ++ t) := by simp [rs, List.append_assoc]
    have i := ih (h ++ rb x base st) (fun y hy => hx y (by simp [hy]))
    rw [List.length_cons, rdR, e, g]
    simp only
    rw [if_neg (by simp)]
    rw [List.length_append, Int.natCast_add] at i
    rw [i]
    simp [rs, List.append_assoc]
theorem rdT_at (xs : List Rc) (base : Int) (h t : List UInt8) (hx : ∀ r ∈ xs, may r = true) (hb : inR base = true) :
    rdT xs.length (h ++ (tl base xs ++ t)) (h.length : Int) base = some (xs, ((h ++ tl base xs).length : Int)) := by
  cases xs with
  | nil => simp [rdT, tl]
  | cons x xs =>
    have hm := may_iff.1 (hx x (by simp))
    have hst : inR x.stamp = true := inR_iff.2 hm.2.1
    have g := gv_at h (rs base x.stamp (x :: xs) ++ t) x.stamp (by omega)
    have e : h ++ (tl base (x :: xs) ++ t) = h ++ vb (zz x.stamp) ++ (rs base x.stamp (x :: xs) ++ t) := by simp [tl, List.append_assoc]
    have i := rdR_at (x :: xs) base x.stamp (h ++ vb (zz x.stamp)) t hx hb hst
    rw [rdT, if_neg (by simp), e, g]
    simp only
    rw [if_neg (by simp)]
    rw [List.length_append, Int.natCast_add] at i
    rw [i]
    simp [tl, List.append_assoc]
end Go.Proofs.YtejcjmiofidedaaGreatDoor.Bat

/- More plain mathematics of layer 4: what is written is read, what is read was written, no body begins another one. Nothing of the program. -/
namespace Go.Proofs.YtejcjmiofidedaaGreatDoor.Bat
open Oct Rec Crc

theorem rise_may {lo hi : Int} {l : List Rc} (h : rise lo hi l = true) : ∀ r ∈ l, may r = true := by
  induction l generalizing lo with
  | nil => simp
  | cons x l ih =>
    simp only [rise, Bool.and_eq_true] at h
    intro r hr
    rcases List.mem_cons.1 hr with rfl | hr
    · exact h.1.1
    · exact ih h.2 r hr
theorem rise_len {lo hi : Int} {l : List Rc} (h : rise lo hi l = true) : l = [] ∨ (l.length : Int) ≤ hi - lo := by
  induction l generalizing lo with
  | nil => exact .inl rfl
  | cons x l ih =>
    simp only [rise, Bool.and_eq_true, decide_eq_true_eq] at h
    right
    rcases ih h.2 with e | e
    · subst e; simp; omega
    · simp only [List.length_cons]; omega

structure Form (b : Bt) : Prop where
  base0 : 0 ≤ b.base
  base1 : b.base ≤ 1099511627776
  last0 : 0 ≤ b.last
  last1 : b.last ≤ 1099511627776
  frm0 : 0 ≤ b.frm
  frm1 : b.frm ≤ 1099511627776
  le : b.base ≤ b.last
  near : b.last - b.base < 16
  frm2 : b.frm + (b.last - b.base) ≤ 1099511627776
  ep0 : 0 ≤ b.epoch
  ep1 : b.epoch ≤ 1048576
  gen0 : 0 ≤ b.gen
  gen1 : b.gen ≤ 1048576
  seq0 : 0 ≤ b.seq
  seq1 : b.seq ≤ 1048576
  seq2 : b.seq + (b.last - b.base) ≤ 1048576
  pid0 : -1 ≤ b.pid
  pid1 : b.pid ≤ 1099511627776
  none : b.pid = -1 → b.gen = 0 ∧ b.seq = 0 ∧ b.txn = false ∧ b.ctl = 0
  ctl0 : 0 ≤ b.ctl
  ctl1 : b.ctl ≤ 2
  data : b.ctl = 0 → rise (b.base - 1) b.last b.recs = true
  ends : b.ctl ≠ 0 → b.last = b.base ∧ b.recs = [] ∧ b.txn = true ∧ 0 ≤ b.pid
theorem form_iff (b : Bt) : form b = true ↔ Form b := by
  unfold form
  constructor
  · intro h
    simp only [Bool.and_eq_true, decide_eq_true_eq] at h
    obtain ⟨⟨h1, h2, h3, h4, h5, h6, h7, h8, h9, h10, h11, h12, h13, h14, h15, h16, h17⟩, hc⟩ := h
    by_cases h0 : b.ctl = 0
    · rw [if_pos h0] at hc
      exact ⟨h1, h2, h3, h4, h5, h6, h7, h8, h9, h10, h11, h12, h13, h14, h15, h16, by omega, by omega, fun hp => by rcases h17 with h | h; exact h.2; exact absurd hp h.1, by omega, by omega, fun _ => hc, fun hh => absurd h0 hh⟩
    · rw [if_neg h0] at hc
      simp only [decide_eq_true_eq] at hc
      exact ⟨h1, h2, h3, h4, h5, h6, h7, h8, h9, h10, h11, h12, h13, h14, h15, h16, by omega, by omega, fun hp => by rcases h17 with h | h; exact h.2; exact absurd hp h.1, by omega, by omega, fun hh => absurd hh h0, fun _ => hc.2⟩
  · intro h
    simp only [Bool.and_eq_true, decide_eq_true_eq]
    refine ⟨⟨h.base0, h.base1, h.last0, h.last1, h.frm0, h.frm1, h.le, h.near, h.frm2, h.ep0, h.ep1, h.gen0, h.gen1, h.seq0, h.seq1, h.seq2, ?_⟩, ?_⟩
    · by_cases hp : b.pid = -1
      · exact .inl ⟨hp, h.none hp⟩
      · have := h.pid0; exact .inr ⟨hp, by omega, h.pid1⟩
    · by_cases h0 : b.ctl = 0
      · rw [if_pos h0]; exact h.data h0
      · rw [if_neg h0]
        have := h.ctl0
        have := h.ctl1
        simp only [decide_eq_true_eq]
        exact ⟨by omega, h.ends h0⟩
theorem Form.mays {b : Bt} (h : Form b) : ∀ r ∈ b.recs, may r = true := by
  by_cases h0 : b.ctl = 0
  · exact rise_may (h.data h0)
  · rw [(h.ends h0).2.1]; simp
theorem Form.few {b : Bt} (h : Form b) : b.recs.length ≤ 16 := by
  by_cases h0 : b.ctl = 0
  · have := h.near
    rcases rise_len (h.data h0) with e | e
    · rw [e]; simp
    · omega
  · rw [(h.ends h0).2.1]; simp
theorem Form.heads {b : Bt} (h : Form b) : ∀ x ∈ hd b, W64 x := by
  obtain ⟨h1, h2, h3, h4, h5, h6, h7, h8, h9, h10, h11, h12, h13, h14, h15, h16, h17, h18, -, -, -, -, -⟩ := h
  intro x hx
  simp only [hd, List.mem_cons, List.not_mem_nil, or_false] at hx
  unfold W64
  rcases hx with rfl | rfl | rfl | rfl | rfl | rfl | rfl <;> omega
theorem mark_num {b : Bt} (h0 : 0 ≤ b.ctl) (h1 : b.ctl ≤ 3) : (mark b).toNat = b.ctl.toNat + if b.txn then 4 else 0 := by
  unfold mark
  apply ofNat_toNat'
  split <;> omega

theorem rdB_at {b : Bt} (hf : Form b) (t : List UInt8) : rdB (body b ++ t) = some (b, ((body b).length : Int)) := by
  have g1 := rdV_at (hd b) [] ([mark b] ++ (vb (zz b.recs.length) ++ tl b.base b.recs) ++ t) hf.heads
  have e1 : [] ++ (vs (hd b) ++ ([mark b] ++ (vb (zz b.recs.length) ++ tl b.base b.recs) ++ t)) = body b ++ t := by simp [body, List.append_assoc]
  rw [e1] at g1
  have g2 := gv_at (vs (hd b) ++ [mark b]) (tl b.base b.recs ++ t) (b.recs.length : Int) (by have := hf.few; omega)
  have e2 : vs (hd b) ++ [mark b] ++ vb (zz (b.recs.length : Int)) ++ (tl b.base b.recs ++ t) = body b ++ t := by simp [body, List.append_assoc]
  rw [e2] at g2
  have g3 := rdT_at b.recs b.base (vs (hd b) ++ [mark b] ++ vb (zz b.recs.length)) t hf.mays (inR_iff.2 ⟨hf.base0, hf.base1⟩)
  have e3 : vs (hd b) ++ [mark b] ++ vb (zz (b.recs.length : Int)) ++ (tl b.base b.recs ++ t) = body b ++ t := by simp [body, List.append_assoc]
  rw [e3] at g3
  have e4 : ((vs (hd b) ++ [mark b] ++ vb (zz (b.recs.length : Int)) ++ tl b.base b.recs).length : Int) = ((body b).length : Int) := by congr 2; simp [body, List.append_assoc]
  rw [e4] at g3
  have g4 : (body b ++ t)[((vs (hd b)).length : Int).toNat]? = some (mark b) := by
    have e : body b ++ t = vs (hd b) ++ (mark b :: ((vb (zz b.recs.length) ++ tl b.base b.recs) ++ t)) := by simp [body, List.append_assoc]
    rw [e, Int.toNat_natCast, List.getElem?_append_right (Nat.le_refl _), Nat.sub_self]; rfl
  have hm := mark_num (b := b) hf.ctl0 (by have := hf.ctl1; omega)
  have hc0 := hf.ctl0
  have hc1 := hf.ctl1
  have hfew := hf.few
  have hle := hf.le
  have hnear := hf.near
  have hb0 := hf.base0
  have hb1 := hf.base1
  have g1' : rdV 7 (body b ++ t) 0 = some ([b.base, b.last - b.base, b.frm, b.epoch, b.pid, b.gen, b.seq], ((vs (hd b)).length : Int)) := g1
  have g2' : gv (body b ++ t) (((vs (hd b)).length : Int) + 1) = ((b.recs.length : Int), ((vs (hd b) ++ [mark b] ++ vb (zz (b.recs.length : Int))).length : Int), 0) := by
    rw [@List.length_append _ (vs (hd b) ++ [mark b]) _, Int.natCast_add, ← g2]
    congr 1
    simp
  unfold rdB
  rw [g1']
  simp only [g4, g2']
  rw [if_neg (by rw [hm]; split <;> omega), if_neg (by simp), if_neg (by omega), Int.toNat_natCast, g3]
  simp only [Option.some.injEq, Prod.mk.injEq, and_true]
  have c1 : b.base + (b.last - b.base) = b.last := by omega
  have c2 : decide (4 ≤ (mark b).toNat) = b.txn := by
    rw [hm]
    cases b.txn
    · simp; omega
    · simp
  have c3 : (((mark b).toNat % 4 : Nat) : Int) = b.ctl := by
    rw [hm]
    cases b.txn <;> simp <;> omega
  rw [c1, c2, c3]

/-! ### what is read was written -/
theorem rdV_good {k : Nat} {l : List UInt8} {p q : Int} {xs : List Int} (h : rdV k l p = some (xs, q)) (hp : 0 ≤ p ∧ p ≤ l.length) :
    xs.length = k ∧ p ≤ q ∧ q ≤ l.length ∧ vs xs = (l.drop p.toNat).take (q - p).toNat ∧ ∀ x ∈ xs, W64 x := by
  induction k generalizing p q xs with
  | zero =>
    simp only [rdV, Option.some.injEq, Prod.mk.injEq] at h
    obtain ⟨rfl, rfl⟩ := h
    refine ⟨rfl, by omega, by omega, ?_, by simp⟩
    rw [Int.sub_self]; rfl
  | succ k ih =>
    rw [rdV] at h
    by_cases h0 : (gv l p).2.2 = 0
    case neg => rw [if_pos h0] at h; cases h
    rw [if_neg (by simpa using h0)] at h
    rcases g1 : gv l p with ⟨x, i, e⟩
    rw [g1] at h h0
    simp only at h h0
    subst h0
    obtain ⟨a1, a2, a3, a4, a5, a6, a7⟩ := gv_good g1
    cases hr : rdV k l i with
    | none => rw [hr] at h; cases h
    | some y =>
      obtain ⟨ys, q'⟩ := y
      rw [hr] at h
      simp only [Option.some.injEq, Prod.mk.injEq] at h
      obtain ⟨rfl, rfl⟩ := h
      obtain ⟨b1, b2, b3, b4, b5⟩ := ih hr (by omega)
      refine ⟨by simp [b1], by omega, b3, ?_, ?_⟩
      · rw [vs, a5, b4, seg_join l (by omega) (by omega) (by omega)]
      · intro y hy
        rcases List.mem_cons.1 hy with rfl | hy
        · exact ⟨a6, a7⟩
        · exact b5 y hy
theorem rdR_good {k : Nat} {l : List UInt8} {p q base st : Int} {xs : List Rc} (h : rdR k l p base st = some (xs, q)) (hp : 0 ≤ p ∧ p ≤ l.length) :
    xs.length = k ∧ p ≤ q ∧ q ≤ l.length ∧ rs base st xs = (l.drop p.toNat).take (q - p).toNat ∧ ∀ r ∈ xs, may r = true := by
  induction k generalizing p q xs with
  | zero =>
    simp only [rdR, Option.some.injEq, Prod.mk.injEq] at h
    obtain ⟨rfl, rfl⟩ := h
    refine ⟨rfl, by omega, by omega, ?_, by simp⟩
    rw [Int.sub_self]; rfl
  | succ k ih =>
    rw [rdR] at h
    by_cases h0 : (gr l p base st).2.2 = 0
    case neg => rw [if_pos h0] at h; cases h
    rw [if_neg (by simpa using h0)] at h
    rcases g1 : gr l p base st with ⟨x, i, e⟩
    rw [g1] at h h0
    simp only at h h0
    subst h0
    obtain ⟨_, _, a3, a4, a5, a6, a7⟩ := gr_good g1
    cases hr : rdR k l i base st with
    | none => rw [hr] at h; cases h
    | some y =>
      obtain ⟨ys, q'⟩ := y
      rw [hr] at h
      simp only [Option.some.injEq, Prod.mk.injEq] at h
      obtain ⟨rfl, rfl⟩ := h
      obtain ⟨b1, b2, b3, b4, b5⟩ := ih hr (by omega)
      refine ⟨by simp [b1], by omega, b3, ?_, ?_⟩
      · rw [rs, a7, b4, seg_join l (by omega) (by omega) (by omega)]
      · intro y hy
        rcases List.mem_cons.1 hy with rfl | hy
        · exact a3
        · exact b5 y hy
theorem rdT_good {k : Nat} {l : List UInt8} {p q base : Int} {xs : List Rc} (h : rdT k l p base = some (xs, q)) (hp : 0 ≤ p ∧ p ≤ l.length) :
    xs.length = k ∧ p ≤ q ∧ q ≤ l.length ∧ tl base xs = (l.drop p.toNat).take (q - p).toNat ∧ ∀ r ∈ xs, may r = true := by
  unfold rdT at h
  by_cases hk : k = 0
  · rw [if_pos hk] at h
    simp only [Option.some.injEq, Prod.mk.injEq] at h
    obtain ⟨rfl, rfl⟩ := h
    subst hk
    refine ⟨rfl, by omega, by omega, ?_, by simp⟩
    rw [Int.sub_self]; rfl
  · rw [if_neg hk] at h
    by_cases h0 : (gv l p).2.2 = 0
    case neg => rw [if_pos h0] at h; cases h
    rw [if_neg (by simpa using h0)] at h
    rcases g1 : gv l p with ⟨x, i, e⟩
    rw [g1] at h h0
    simp only at h h0
    subst h0
    obtain ⟨a1, a2, a3, a4, a5, a6, a7⟩ := gv_good g1
    cases hr : rdR k l i base x with
    | none => rw [hr] at h; cases h
    | some y =>
      obtain ⟨ys, q'⟩ := y
      rw [hr] at h
      simp only at h
      by_cases hh : (ys.head?.map (·.stamp)) = some x
      case neg => rw [if_neg hh] at h; cases h
      rw [if_pos hh] at h
      simp only [Option.some.injEq, Prod.mk.injEq] at h
      obtain ⟨rfl, rfl⟩ := h
      obtain ⟨b1, b2, b3, b4, b5⟩ := rdR_good hr (by omega)
      refine ⟨b1, by omega, b3, ?_, b5⟩
      cases ys with
      | nil => simp at hh
      | cons y ys =>
        simp only [List.head?_cons, Option.map_some, Option.some.injEq] at hh
        rw [tl, hh, a5, b4, seg_join l (by omega) (by omega) (by omega)]
theorem rdB_good {l : List UInt8} {b : Bt} {q : Int} (h : rdB l = some (b, q)) : 0 ≤ q ∧ q ≤ l.length ∧ body b = l.take q.toNat ∧ (∀ r ∈ b.recs, may r = true) ∧ b.recs.length ≤ 16 ∧ 0 ≤ b.base ∧ b.base ≤ 1099511627776 ∧ 0 ≤ b.last - b.base ∧ b.last - b.base ≤ 16 ∧ 0 ≤ b.ctl ∧ b.ctl ≤ 3 ∧ ∀ x ∈ hd b, W64 x := by
  unfold rdB at h
  split at h
  case h_2 => cases h
  rename_i n0 n1 n2 n3 n4 n5 n6 p hv
  obtain ⟨_, v2, v3, v4, v5⟩ := rdV_good hv (by omega)
  split at h
  case h_1 => cases h
  rename_i c hc
  split at h
  · cases h
  rename_i hc7
  split at h
  · cases h
  rename_i he
  have he0 : (gv l (p + 1)).2.2 = 0 := by simpa using he
  rcases g1 : gv l (p + 1) with ⟨m, i, e⟩
  simp only [g1] at h he0
  subst he0
  obtain ⟨a1, a2, a3, a4, a5, a6, a7⟩ := gv_good g1
  split at h
  · cases h
  rename_i hbd
  split at h
  case h_1 => cases h
  rename_i xs q' ht
  simp only [Option.some.injEq, Prod.mk.injEq] at h
  obtain ⟨rfl, rfl⟩ := h
  obtain ⟨t1, t2, t3, t4, t5⟩ := rdT_good ht (by omega)
  have hb1 : n0 + n1 - n0 = n1 := by omega
  refine ⟨by omega, t3, ?_, t5, by simp only; omega, by simp only; omega, by simp only; omega, by simp only; omega, by simp only; omega, by simp only; omega, by simp only; omega, by simp only [hd, hb1]; exact v5⟩
  have hmk : mark ⟨n0, n0 + n1, n2, n3, n4, n5, n6, decide (4 ≤ c.toNat), ((c.toNat % 4 : Nat) : Int), xs⟩ = c := by
    unfold mark
    simp only [Int.toNat_natCast, decide_eq_true_eq]
    apply UInt8.toNat.inj
    rw [ofNat_toNat' (by split <;> omega)]
    split <;> omega
  have hx : (zz ((xs.length : Nat) : Int)) = zz m := by congr 1; omega
  have e3 : [c] = (l.drop p.toNat).take (p + 1 - p).toNat := by
    have : (p + 1 - p).toNat = 1 := by omega
    rw [this, drop_at hc]; rfl
  unfold body
  rw [hmk]
  simp only [hd, hb1]
  rw [hx, v4, e3, a5, t4, seg_join l (by omega) (by omega) (by omega), seg_join l (by omega) (by omega) (by omega), seg_join l (by omega) (by omega) (by omega)]
  have e0 : (0 : Int).toNat = 0 := rfl
  rw [e0, List.drop_zero, Int.sub_zero]
theorem body_alone {a b : Bt} (ha : Form a) (hb : Form b) {t : List UInt8} (h : body b = body a ++ t) : t = [] ∧ a = b := by
  have h1 := rdB_at ha t
  have h2 := rdB_at hb []
  rw [List.append_nil, h, h1] at h2
  simp only [Option.some.injEq, Prod.mk.injEq] at h2
  obtain ⟨h3, h4⟩ := h2
  refine ⟨?_, h3⟩
  have h5 : (body a).length = (body a ++ t).length := by omega
  rw [List.length_append] at h5
  exact List.eq_nil_of_length_eq_zero (by omega)
end Go.Proofs.YtejcjmiofidedaaGreatDoor.Bat

/- More plain mathematics of layer 4: the batch that bytes tell, cut and spoilt, moved, one behind the other. Nothing of the program. -/
namespace Go.Proofs.YtejcjmiofidedaaGreatDoor.Bat
open Oct Rec Crc

def nilB : Bt := ⟨0, 0, 0, 0, 0, 0, 0, false, 0, []⟩
def opB (l : List UInt8) : Bt × Int :=
  if (openB l).2 ≠ 0 then (nilB, (openB l).2) else match rdB (openB l).1 with
    | none => (nilB, 11)
    | some (b, q) => if q = ((openB l).1.length : Int) ∧ chB b = 0 then (b, 0) else (nilB, 11)
def grB (l : List UInt8) (p : Int) : Bt × Int × Int :=
  if (gt l p 4).2 ≠ 0 then (nilB, 0, (gt l p 4).2)
  else if (gt l p 4).1 < 5 ∨ 2044 < (gt l p 4).1 then (nilB, 0, 11)
  else if (l.length : Int) < p + 4 + (gt l p 4).1 then (nilB, 0, 10)
  else if (opB ((l.drop (p + 4).toNat).take (gt l p 4).1)).2 ≠ 0 then (nilB, 0, (opB ((l.drop (p + 4).toNat).take (gt l p 4).1)).2)
  else ((opB ((l.drop (p + 4).toNat).take (gt l p 4).1)).1, p + 4 + (gt l p 4).1, 0)

theorem chB_form {b : Bt} (h : chB b = 0) : Form b ∧ (byB b).length ≤ 2048 := by
  unfold chB at h
  split at h
  · rename_i hf
    refine ⟨(form_iff b).1 hf, ?_⟩
    split at h
    · omega
    · omega
  · omega
theorem byB_length (b : Bt) : (byB b).length = (body b).length + 8 := by rw [byB, List.length_append, beN_length, sealB_length]; omega
theorem body_pos (b : Bt) : 9 ≤ (body b).length := by
  have h := fun x => vb_pos (zz x)
  unfold body hd
  simp only [vs, List.length_append, List.length_singleton, List.length_nil]
  have := h b.base; have := h (b.last - b.base); have := h b.frm; have := h b.epoch; have := h b.pid; have := h b.gen; have := h b.seq; have := vb_pos (zz (b.recs.length : Int))
  omega
theorem opB_seal {b : Bt} (h : chB b = 0) : opB (sealB (body b)) = (b, 0) := by
  have hr := rdB_at (chB_form h).1 []
  rw [List.append_nil] at hr
  unfold opB
  rw [openB_sealB]
  simp only [hr]
  rw [if_neg (by simp), if_pos ⟨trivial, h⟩]
theorem opB_good {l : List UInt8} {b : Bt} (h : opB l = (b, 0)) : chB b = 0 ∧ sealB (body b) = l := by
  unfold opB at h
  rcases ho : openB l with ⟨x, z⟩
  rw [ho] at h
  simp only at h
  by_cases hz : z = 0
  case neg => rw [if_pos hz] at h; simp only [Prod.mk.injEq] at h; exact absurd h.2 hz
  subst hz
  rw [if_neg (by simp)] at h
  cases hr : rdB x with
  | none => rw [hr] at h; simp at h
  | some y =>
    obtain ⟨b', q⟩ := y
    rw [hr] at h
    simp only at h
    by_cases hc : q = (x.length : Int) ∧ chB b' = 0
    case neg => rw [if_neg hc] at h; simp at h
    rw [if_pos hc] at h
    simp only [Prod.mk.injEq, and_true] at h
    subst h
    obtain ⟨h1, h2⟩ := hc
    obtain ⟨_, _, g, _⟩ := rdB_good hr
    have : x.take q.toNat = x := List.take_of_length_le (by omega)
    rw [this] at g
    exact ⟨h2, by rw [g]; exact (openB_ok ho).1⟩
theorem len_num {n : Nat} (h : n ≤ 2044) : getN (beN n 4 4) = n := by rw [getN_be]; omega
theorem grB_at {b : Bt} (h : chB b = 0) (u t : List UInt8) : grB (u ++ byB b ++ t) (u.length : Int) = (b, (u.length : Int) + ((byB b).length : Int), 0) := by
  have hl := (chB_form h).2
  have hb := byB_length b
  have hp := body_pos b
  have hs := sealB_length (body b)
  have g := gt_at u (sealB (body b) ++ t) (sealB (body b)).length 4 (by omega) (by omega)
  have e : u ++ beN (sealB (body b)).length 4 4 ++ (sealB (body b) ++ t) = u ++ byB b ++ t := by simp [byB, List.append_assoc]
  rw [e, Nat.mod_eq_of_lt (by omega)] at g
  have hd : ((u ++ byB b ++ t).drop ((u.length : Int) + 4).toNat).take (sealB (body b)).length = sealB (body b) := by
    have e1 : ((u.length : Int) + 4).toNat = (u ++ beN (sealB (body b)).length 4 4).length := by rw [List.length_append, beN_length]; omega
    have e2 : u ++ byB b ++ t = (u ++ beN (sealB (body b)).length 4 4) ++ (sealB (body b) ++ t) := by simp [byB, List.append_assoc]
    rw [e1, e2, List.drop_left, List.take_left]
  unfold grB
  have g4 : gt (u ++ byB b ++ t) (u.length : Int) 4 = ((sealB (body b)).length, 0) := g
  simp only [g4, hd, opB_seal h]
  rw [if_neg (by simp), if_neg (by omega), if_neg (by simp only [List.length_append, Int.natCast_add]; omega), if_neg (by simp)]
  congr 2
  omega
theorem gt_four {l : List UInt8} {p : Int} (h : (gt l p 4).2 = 0) : 0 ≤ p ∧ p + 4 ≤ l.length ∧ (gt l p 4).1 = getN ((l.drop p.toNat).take 4) := by
  unfold gt at h ⊢
  by_cases h1 : isW 4 = false ∨ p < 0
  · rw [if_pos h1] at h; simp at h
  · rw [if_neg h1] at h ⊢
    have hp : ¬ p < 0 := fun hh => h1 (.inr hh)
    by_cases h2 : hasB l.length p 4 = false
    · rw [if_pos h2] at h; simp at h
    · rw [if_neg h2]
      have h3 : hasB l.length p 4 = true := by simpa using h2
      simp [hasB] at h3
      exact ⟨by omega, by omega, rfl⟩
theorem be_getN {l : List UInt8} (h : l.length = 4) : beN (getN l) 4 4 = l := by
  apply getN_inj
  · rw [beN_length, h]
  · rw [getN_be]
    have := getN_lt l
    rw [h] at this
    exact Nat.mod_eq_of_lt this
theorem grB_good {l : List UInt8} {p n : Int} {b : Bt} (h : grB l p = (b, n, 0)) : 0 ≤ p ∧ p < n ∧ n ≤ l.length ∧ chB b = 0 ∧ byB b = (l.drop p.toNat).take (n - p).toNat := by
  unfold grB at h
  by_cases h1 : (gt l p 4).2 = 0
  case neg => rw [if_pos h1] at h; simp only [Prod.mk.injEq] at h; exact absurd h.2.2 h1
  rw [if_neg (by simpa using h1)] at h
  obtain ⟨p0, p4, hg⟩ := gt_four h1
  by_cases h2 : (gt l p 4).1 < 5 ∨ 2044 < (gt l p 4).1
  · rw [if_pos h2] at h; simp at h
  rw [if_neg h2] at h
  by_cases h3 : (l.length : Int) < p + 4 + (gt l p 4).1
  · rw [if_pos h3] at h; simp at h
  rw [if_neg h3] at h
  rcases ho : opB ((l.drop (p + 4).toNat).take (gt l p 4).1) with ⟨b', z⟩
  rw [ho] at h
  simp only at h
  by_cases h4 : z = 0
  case neg => rw [if_pos h4] at h; simp only [Prod.mk.injEq] at h; exact absurd h.2.2 h4
  subst h4
  rw [if_neg (by simp)] at h
  simp only [Prod.mk.injEq, and_true] at h
  obtain ⟨rfl, rfl⟩ := h
  obtain ⟨c1, c2⟩ := opB_good ho
  refine ⟨p0, by omega, by omega, c1, ?_⟩
  have hlen : ((l.drop (p + 4).toNat).take (gt l p 4).1).length = (gt l p 4).1 := by rw [List.length_take, List.length_drop]; omega
  have hb4 : ((l.drop p.toNat).take 4).length = 4 := by rw [List.length_take, List.length_drop]; omega
  unfold byB
  rw [c2, hlen]
  have e1 : beN (gt l p 4).1 4 4 = (l.drop p.toNat).take (p + 4 - p).toNat := by
    have : (p + 4 - p).toNat = 4 := by omega
    rw [this, hg]
    exact be_getN hb4
  have e2 : (l.drop (p + 4).toNat).take (gt l p 4).1 = (l.drop (p + 4).toNat).take (p + 4 + ((gt l p 4).1 : Int) - (p + 4)).toNat := by congr 1; omega
  rw [e1, e2, seg_join l (by omega) (by omega) (by omega)]
theorem grB_end (l : List UInt8) : grB l (l.length : Int) = (nilB, 0, 10) := by
  have g : gt l (l.length : Int) 4 = (0, 10) := by
    unfold gt
    rw [if_neg (by simp [isW]), if_pos (by simp [hasB])]
  unfold grB
  rw [g]
  rfl
theorem grB_cut {b : Bt} (h : chB b = 0) {k : Nat} (hk : k < (byB b).length) : grB ((byB b).take k) 0 = (nilB, 0, 10) := by
  have hl := (chB_form h).2
  have hb := byB_length b
  have hp := body_pos b
  have hs := sealB_length (body b)
  by_cases h4 : k < 4
  · have g : gt ((byB b).take k) 0 4 = (0, 10) := by
      unfold gt
      rw [if_neg (by simp [isW]), if_pos (by simp [hasB]; omega)]
    unfold grB
    rw [g]
    rfl
  · have e : (byB b).take k = [] ++ beN (sealB (body b)).length 4 4 ++ (sealB (body b)).take (k - 4) := by
      rw [byB, List.take_append, List.take_of_length_le (by rw [beN_length]; omega), beN_length]; rfl
    have g := gt_at [] ((sealB (body b)).take (k - 4)) (sealB (body b)).length 4 (by omega) (by omega)
    rw [← e, Nat.mod_eq_of_lt (by omega)] at g
    have g4 : gt ((byB b).take k) 0 4 = ((sealB (body b)).length, 0) := g
    unfold grB
    simp only [g4]
    rw [if_neg (by simp), if_neg (by omega), if_pos (by rw [List.length_take]; omega)]
end Go.Proofs.YtejcjmiofidedaaGreatDoor.Bat

/- More plain mathematics of layer 4: a batch's bytes with one changed; a batch at other offsets. Nothing of the program. -/
namespace Go.Proofs.YtejcjmiofidedaaGreatDoor.Bat
open Oct Rec Crc

theorem sum_set {l : List UInt8} {i : Nat} {d e : UInt8} (hi : l[i]? = some d) (h : sum (l.set i e) = sum l) : d = e := by
  have hlt := (List.getElem?_eq_some_iff.1 hi).1
  have hb := sum_burst (b := l) (ds := [d ^^^ e]) (i := i) (k := l.length - i - 1) (by simp; omega) (by simp)
  have hz : zx l (List.replicate i 0 ++ [d ^^^ e] ++ List.replicate (l.length - i - 1) 0) = l.set i e := by
    apply List.ext_getElem?
    intro j
    unfold zx
    rw [List.getElem?_zipWith, List.getElem?_set]
    by_cases hj : i = j
    · subst hj
      rw [if_pos rfl, if_pos hlt, hi, List.append_assoc, List.getElem?_append_right (by simp), List.length_replicate, Nat.sub_self]
      simp only [List.cons_append, List.nil_append, List.getElem?_cons_zero, Option.some.injEq]
      rw [← UInt8.xor_assoc, UInt8.xor_self, UInt8.zero_xor]
    · rw [if_neg hj]
      rcases Nat.lt_or_ge j l.length with hl | hl
      · rw [List.getElem?_eq_getElem hl]
        rcases Nat.lt_or_ge j i with h1 | h1
        · rw [List.append_assoc, List.getElem?_append_left (by simp; omega), List.getElem?_replicate, if_pos h1]
          simp
        · rw [List.getElem?_append_right (by simp; omega), List.getElem?_replicate, if_pos (by simp; omega)]
          simp
      · rw [List.getElem?_eq_none hl]
  rw [hz] at hb
  have h0 := hb.1 h (d ^^^ e) (by simp)
  have h1 := congrArg (d ^^^ ·) h0
  simp only [← UInt8.xor_assoc, UInt8.xor_self, UInt8.zero_xor, UInt8.xor_zero] at h1
  exact h1.symm
theorem seal_set {x y : List UInt8} {j : Nat} {d e : UInt8} (hd : (sealB x)[j]? = some d) (h : sealB y = (sealB x).set j e) : d = e := by
  have hl : y.length = x.length := by
    have := congrArg List.length h
    rw [List.length_set, sealB_length, sealB_length] at this
    omega
  have ht := congrArg (List.take x.length) h
  have hr := congrArg (List.drop x.length) h
  unfold sealB at ht hr hd
  rw [← hl, List.take_left, hl] at ht
  rw [← hl, List.drop_left, hl] at hr
  have hs4 : sum y = getN (((x ++ beN (sum x) 4 4).set j e).drop x.length) := by rw [← hr, getN_be, Nat.mod_eq_of_lt (sum_lt _)]
  by_cases hj : j < x.length
  · rw [List.getElem?_append_left hj] at hd
    rw [List.set_append_left _ _ hj, List.take_left' (by rw [List.length_set])] at ht
    rw [List.set_append_left _ _ hj, List.drop_left' (by rw [List.length_set]), getN_be, Nat.mod_eq_of_lt (sum_lt _)] at hs4
    rw [ht] at hs4
    exact sum_set hd hs4
  · rw [List.set_append_right _ _ (by omega), List.take_left] at ht
    subst ht
    unfold sealB at h
    rw [List.set_append_right _ _ (by omega)] at h
    have h2 := List.append_cancel_left h
    rw [List.getElem?_append_right (by omega)] at hd
    have h3 : ((beN (sum y) 4 4).set (j - y.length) e)[j - y.length]? = some e := by
      rw [List.getElem?_set, if_pos rfl, if_pos (List.getElem?_eq_some_iff.1 hd).1]
    rw [← h2, hd] at h3
    exact Option.some.inj h3
/-! ### a batch at other offsets -/
def mvR (by_ : Int) (r : Rc) : Rc := { r with off := r.off + by_ }
def mvO (b : Bt) (base : Int) : Bt := { b with base := base, last := base + b.last - b.base, recs := b.recs.map (mvR (base - b.base)) }
def mvB (b : Bt) (base : Int) : Bt × Int :=
  if inR base = false then (nilB, 1) else if chB b ≠ 0 then (nilB, chB b) else if chB (mvO b base) ≠ 0 then (nilB, chB (mvO b base)) else (mvO b base, 0)
end Go.Proofs.YtejcjmiofidedaaGreatDoor.Bat

/- Batches and lists of records in memory. -/
namespace Go.Proofs.YtejcjmiofidedaaGreatDoor.Bat
open Go.RowKit Oct Rec Crc

def At (w : World) (b o : Nat) (r : Rc) : Prop :=
  w.cell? ⟨b, o, none⟩ = some (.int .i64 r.off) ∧ w.cell? ⟨b, o + 1, none⟩ = some (.string r.key) ∧ w.cell? ⟨b, o + 2, none⟩ = some (.string r.val) ∧ w.cell? ⟨b, o + 3, none⟩ = some (.bool r.dead) ∧ w.cell? ⟨b, o + 4, none⟩ = some (.int .i64 r.stamp)
def RdR (w : World) (B : Nat) (A : Option Addr) (n : Nat) (l : List Rc) : Prop :=
  l.length = n ∧ ∀ k r, l[k]? = some r → ∃ b o, A = some ⟨b, o, none⟩ ∧ b < B ∧ At w b (o + k * 5) r
theorem RdR.len {w : World} {B : Nat} {A : Option Addr} {n : Nat} {l : List Rc} (h : RdR w B A n l) : l.length = n := h.1
theorem RdR.nil {w : World} {B : Nat} {A : Option Addr} : RdR w B A 0 [] := ⟨rfl, by simp⟩
theorem At.keep {w w' : World} {b o : Nat} {r : Rc} (h : At w b o r) (hk : ∀ p : Addr, p.block = b → w'.cell? p = w.cell? p) : At w' b o r := by
  obtain ⟨h0, h1, h2, h3, h4⟩ := h
  exact ⟨(hk _ rfl).trans h0, (hk _ rfl).trans h1, (hk _ rfl).trans h2, (hk _ rfl).trans h3, (hk _ rfl).trans h4⟩
theorem RdR.keep {w w' : World} {B : Nat} {A : Option Addr} {n : Nat} {l : List Rc} (h : RdR w B A n l) (hk : ∀ p : Addr, p.block < B → w'.cell? p = w.cell? p) : RdR w' B A n l :=
  ⟨h.1, fun k r hr => by
    obtain ⟨b, o, hA, hb, hat⟩ := h.2 k r hr
    exact ⟨b, o, hA, hb, hat.keep fun p hp => hk p (by omega)⟩⟩
theorem RdR.more {w : World} {B B' : Nat} {A : Option Addr} {n : Nat} {l : List Rc} (h : RdR w B A n l) (hB : B ≤ B') : RdR w B' A n l :=
  ⟨h.1, fun k r hr => by
    obtain ⟨b, o, hA, hb, hat⟩ := h.2 k r hr
    exact ⟨b, o, hA, by omega, hat⟩⟩
theorem RdR.below {w w' : World} {B B' : Nat} {A : Option Addr} {n : Nat} {l : List Rc} (h : RdR w B A n l) (hb : Below B' w w') (hB : B ≤ B') : RdR w' B A n l := h.keep fun _ hp => hb.cell (by omega)
theorem RdR.at {w : World} {B : Nat} {A : Option Addr} {n k : Nat} {l : List Rc} (h : RdR w B A n l) (hk : k < n) : ∃ b o r, A = some ⟨b, o, none⟩ ∧ b < B ∧ l[k]? = some r ∧ At w b (o + k * 5) r := by
  have hl : k < l.length := by have := h.1; omega
  obtain ⟨b, o, hA, hb, hat⟩ := h.2 k l[k] (List.getElem?_eq_getElem hl)
  exact ⟨b, o, l[k], hA, hb, List.getElem?_eq_getElem hl, hat⟩
def BoxB (w : World) (g : Nat) (b : Bt) (v : Value) : Prop :=
  w.cell? ⟨g, 0, none⟩ = some (.int .i64 b.base) ∧ w.cell? ⟨g, 1, none⟩ = some (.int .i64 b.last) ∧ w.cell? ⟨g, 2, none⟩ = some (.int .i64 b.frm) ∧ w.cell? ⟨g, 3, none⟩ = some (.int .i64 b.epoch) ∧ w.cell? ⟨g, 4, none⟩ = some (.int .i64 b.pid) ∧
  w.cell? ⟨g, 5, none⟩ = some (.int .i64 b.gen) ∧ w.cell? ⟨g, 6, none⟩ = some (.int .i64 b.seq) ∧ w.cell? ⟨g, 7, none⟩ = some (.bool b.txn) ∧ w.cell? ⟨g, 8, none⟩ = some (.int .i64 b.ctl) ∧ w.cell? ⟨g, 9, none⟩ = some v
theorem BoxB.below {w w' : World} {g B : Nat} {b : Bt} {v : Value} (h : BoxB w g b v) (hb : Below B w w') (hg : g < B) : BoxB w' g b v := by
  obtain ⟨h0, h1, h2, h3, h4, h5, h6, h7, h8, h9⟩ := h
  exact ⟨(hb.cell hg).trans h0, (hb.cell hg).trans h1, (hb.cell hg).trans h2, (hb.cell hg).trans h3, (hb.cell hg).trans h4, (hb.cell hg).trans h5, (hb.cell hg).trans h6, (hb.cell hg).trans h7, (hb.cell hg).trans h8, (hb.cell hg).trans h9⟩
theorem boxB_new (w : World) (e : TypeId) (b : Bt) (v : Value) : BoxB (w.alloc (.cells #[.int .i64 b.base, .int .i64 b.last, .int .i64 b.frm, .int .i64 b.epoch, .int .i64 b.pid, .int .i64 b.gen, .int .i64 b.seq, .bool b.txn, .int .i64 b.ctl, v] e)) w.heap.size b v := by
  refine ⟨?_, ?_, ?_, ?_, ?_, ?_, ?_, ?_, ?_, ?_⟩ <;> (rw [cell_of_row _ _ _ _ e _ (heap_alloc_new w _)]; rfl)
structure Fits (b : Bt) : Prop where
  base : I64 b.base
  last : I64 b.last
  frm : I64 b.frm
  epoch : I64 b.epoch
  pid : I64 b.pid
  gen : I64 b.gen
  seq : I64 b.seq
  ctl : I64 b.ctl
  recs : ∀ r ∈ b.recs, I64 r.off ∧ I64 r.stamp ∧ r.key.size ≤ 1099511627776 ∧ r.val.size ≤ 1099511627776
def bval (b : Bt) (v : Value) : Value := .agg #[.int .i64 b.base, .int .i64 b.last, .int .i64 b.frm, .int .i64 b.epoch, .int .i64 b.pid, .int .i64 b.gen, .int .i64 b.seq, .bool b.txn, .int .i64 b.ctl, v]
def inM (n most : Int) : Bool := decide (0 ≤ n ∧ n ≤ most)
end Go.Proofs.YtejcjmiofidedaaGreatDoor.Bat

/- Records and batches as a law is handed them. -/
namespace Go.Proofs.YtejcjmiofidedaaGreatDoor.Bat
open Go.RowKit Go.ChangeShapes Go.WideShapes Go.Deep Oct Rec Lay

instance : Lay Rc where
  sz := 5
  pos := by decide
  is _ _ cs r := cs = [.int .i64 r.off, .string r.key, .string r.val, .bool r.dead, .int .i64 r.stamp] ∧ I64 r.off ∧ I64 r.stamp ∧ r.key.size ≤ reach ∧ r.val.size ≤ reach
  len h := by rw [h.1]; rfl
  keep h _ := h
  more h _ := h
def Fit (r : Rc) : Prop := I64 r.off ∧ I64 r.stamp ∧ r.key.size ≤ reach ∧ r.val.size ≤ reach
def FitN (b : Bt) : Prop := I64 b.base ∧ I64 b.last ∧ I64 b.frm ∧ I64 b.epoch ∧ I64 b.pid ∧ I64 b.gen ∧ I64 b.seq ∧ I64 b.ctl
instance : Lay Bt where
  sz := 10
  pos := by decide
  is w B cs b := ∃ A n c, cs = [.int .i64 b.base, .int .i64 b.last, .int .i64 b.frm, .int .i64 b.epoch, .int .i64 b.pid, .int .i64 b.gen, .int .i64 b.seq, .bool b.txn, .int .i64 b.ctl, .slice A n c] ∧ FitN b ∧ n ≤ c ∧ c ≤ reach ∧ RdL w B A n b.recs
  len h := by obtain ⟨A, n, c, h, _⟩ := h; rw [h]; rfl
  keep h hk := by obtain ⟨A, n, c, h, hf, hc, hr, hl⟩ := h; exact ⟨A, n, c, h, hf, hc, hr, hl.keep hk⟩
  more h hB := by obtain ⟨A, n, c, h, hf, hc, hr, hl⟩ := h; exact ⟨A, n, c, h, hf, hc, hr, hl.more hB⟩

theorem at_of_row {w : World} {b o : Nat} {r : Rc} {cs : List Value} (hc : cs = [.int .i64 r.off, .string r.key, .string r.val, .bool r.dead, .int .i64 r.stamp]) (h : ∀ i v, cs[i]? = some v → w.cell? ⟨b, o + i, none⟩ = some v) : At w b o r := by
  subst hc
  exact ⟨h 0 _ rfl, h 1 _ rfl, h 2 _ rfl, h 3 _ rfl, h 4 _ rfl⟩
theorem RdL_recs {w : World} {B n : Nat} {A : Option Addr} {l : List Rc} (h : RdL w B A n l) : RdR w B A n l :=
  ⟨h.1, fun k r hr => by
    obtain ⟨b, o, cs, hA, hb, his, hc⟩ := h.2 k r hr
    exact ⟨b, o, hA, hb, at_of_row his.1 hc⟩⟩
theorem RdL_fit {w : World} {B n : Nat} {A : Option Addr} {l : List Rc} (h : RdL w B A n l) : ∀ r ∈ l, Fit r := by
  intro r hr
  obtain ⟨k, hk⟩ := List.mem_iff_getElem?.1 hr
  obtain ⟨_, _, _, _, _, his, _⟩ := h.2 k r hk
  exact his.2

theorem opens_rec : Opens Tryz.prog 79 Rc := by
  intro H enc w fuel cs d pl h hl hz
  obtain ⟨n, hat⟩ := opens_fields Tryz.underlying79 (by kernel_rfl) h hz hl
  obtain ⟨u0, d0, p0, c0, t0, z0⟩ := hat 0 _ rfl
  obtain ⟨u1, d1, p1, c1, t1, z1⟩ := hat 1 _ rfl
  obtain ⟨u2, d2, p2, c2, t2, z2⟩ := hat 2 _ rfl
  obtain ⟨u3, d3, p3, c3, t3, z3⟩ := hat 3 _ rfl
  obtain ⟨u4, d4, p4, c4, t4, z4⟩ := hat 4 _ rfl
  obtain ⟨o, rfl, ho⟩ := opens_int Tryz.underlying3 H enc w n u0 d0 p0 t0 z0
  obtain ⟨k, rfl, hk⟩ := opens_string Tryz.underlying9 H enc w n u1 d1 p1 t1 z1
  obtain ⟨x, rfl, hx⟩ := opens_string Tryz.underlying9 H enc w n u2 d2 p2 t2 z2
  obtain ⟨b, rfl⟩ := opens_bool Tryz.underlying4 H enc w n u3 d3 p3 t3 z3
  obtain ⟨s, rfl, hs⟩ := opens_int Tryz.underlying3 H enc w n u4 d4 p4 t4 z4
  match cs, hl with
  | [_, _, _, _, _], _ =>
    simp only [List.getElem?_cons_zero, List.getElem?_cons_succ, Option.some.injEq] at c0 c1 c2 c3 c4
    exact ⟨⟨o, k, x, b, s⟩, by rw [c0, c1, c2, c3, c4], ho, hs, hk, hx⟩
theorem opens_recs : Opens1 Tryz.prog 37 (List Rc) := opens_slice Tryz.underlying37 (by kernel_rfl) (of_decide_eq_true (by kernel_rfl)) opens_rec
theorem opens_batch : Opens Tryz.prog 39 Bt := by
  intro H enc w fuel cs d pl h hl hz
  obtain ⟨n, hat⟩ := opens_fields Tryz.underlying39 (by kernel_rfl) h hz hl
  obtain ⟨u0, d0, p0, c0, t0, z0⟩ := hat 0 _ rfl
  obtain ⟨u1, d1, p1, c1, t1, z1⟩ := hat 1 _ rfl
  obtain ⟨u2, d2, p2, c2, t2, z2⟩ := hat 2 _ rfl
  obtain ⟨u3, d3, p3, c3, t3, z3⟩ := hat 3 _ rfl
  obtain ⟨u4, d4, p4, c4, t4, z4⟩ := hat 4 _ rfl
  obtain ⟨u5, d5, p5, c5, t5, z5⟩ := hat 5 _ rfl
  obtain ⟨u6, d6, p6, c6, t6, z6⟩ := hat 6 _ rfl
  obtain ⟨u7, d7, p7, c7, t7, z7⟩ := hat 7 _ rfl
  obtain ⟨u8, d8, p8, c8, t8, z8⟩ := hat 8 _ rfl
  obtain ⟨u9, d9, p9, c9, t9, z9⟩ := hat 9 _ rfl
  obtain ⟨x0, rfl, h0⟩ := opens_int Tryz.underlying3 H enc w n u0 d0 p0 t0 z0
  obtain ⟨x1, rfl, h1⟩ := opens_int Tryz.underlying3 H enc w n u1 d1 p1 t1 z1
  obtain ⟨x2, rfl, h2⟩ := opens_int Tryz.underlying3 H enc w n u2 d2 p2 t2 z2
  obtain ⟨x3, rfl, h3⟩ := opens_int Tryz.underlying3 H enc w n u3 d3 p3 t3 z3
  obtain ⟨x4, rfl, h4⟩ := opens_int Tryz.underlying3 H enc w n u4 d4 p4 t4 z4
  obtain ⟨x5, rfl, h5⟩ := opens_int Tryz.underlying3 H enc w n u5 d5 p5 t5 z5
  obtain ⟨x6, rfl, h6⟩ := opens_int Tryz.underlying3 H enc w n u6 d6 p6 t6 z6
  obtain ⟨x7, rfl⟩ := opens_bool Tryz.underlying4 H enc w n u7 d7 p7 t7 z7
  obtain ⟨x8, rfl, h8⟩ := opens_int Tryz.underlying3 H enc w n u8 d8 p8 t8 z8
  obtain ⟨x9, A, m, c, rfl, hc, hr, hR⟩ := opens_recs H enc w n u9 d9 p9 t9 z9
  match cs, hl with
  | [_, _, _, _, _, _, _, _, _, _], _ =>
    simp only [List.getElem?_cons_zero, List.getElem?_cons_succ, Option.some.injEq] at c0 c1 c2 c3 c4 c5 c6 c7 c8 c9
    exact ⟨⟨x0, x1, x2, x3, x4, x5, x6, x7, x8, x9⟩, A, m, c, by rw [c0, c1, c2, c3, c4, c5, c6, c7, c8, c9], ⟨h0, h1, h2, h3, h4, h5, h6, h8⟩, hc, hr, hR⟩
theorem opens_batches : Opens1 Tryz.prog 33 (List Bt) := opens_slice Tryz.underlying33 (by kernel_rfl) (of_decide_eq_true (by kernel_rfl)) opens_batch

section
variable {H : Type} {enc : TypeId × Value → H} {W : World} {base : Nat} {v : Value} {d : DataW H} {p : List MemPlace}
set_option maxRecDepth 100000 in
theorem open_batch (hv : Value.okWide Tryz.prog W .any base 39 v) (h : DataW.Trod enc Tryz.prog W 0 (fun _ => true) true 39 v d p) (hz : ∀ z ∈ DataW.weights Tryz.prog 39 d, z ≤ reachBytes) :
    ∃ (ba la fr ep pi ge se : Int) (tx : Bool) (ct : Int) (A : Option Addr) (n c : Nat) (rs : List Rc), v = .agg #[.int .i64 ba, .int .i64 la, .int .i64 fr, .int .i64 ep, .int .i64 pi, .int .i64 ge, .int .i64 se, .bool tx, .int .i64 ct, .slice A n c] ∧
      FitN ⟨ba, la, fr, ep, pi, ge, se, tx, ct, rs⟩ ∧ n ≤ c ∧ c ≤ reach ∧ RdL W W.heap.size A n rs := by
  obtain ⟨cs, rfl, hsz⟩ := okWide_struct Tryz.underlying39 hv
  obtain ⟨fuel, hf⟩ := h
  have h10 : Tryz.prog.cellsOf 39 = 10 := by kernel_rfl
  obtain ⟨b, A, n, c, hcs, hfit, hc, hr, hR⟩ := opens_batch H enc W fuel _ d p hf (by show cs.toList.length = 10; rw [Array.length_toList, hsz, h10]) hz
  refine ⟨b.base, b.last, b.frm, b.epoch, b.pid, b.gen, b.seq, b.txn, b.ctl, A, n, c, b.recs, ?_, hfit, hc, hr, hR⟩
  congr 1
  exact Array.toList_inj.1 hcs
set_option maxRecDepth 100000 in
theorem open_batches (hv : Value.okWide Tryz.prog W .any base 33 v) (h : DataW.Trod enc Tryz.prog W 0 (fun _ => true) true 33 v d p) (hz : ∀ z ∈ DataW.weights Tryz.prog 33 d, z ≤ reachBytes) :
    ∃ (A : Option Addr) (n c : Nat) (l : List Bt), v = .slice A n c ∧ n ≤ c ∧ c ≤ reach ∧ RdL W W.heap.size A n l := by
  obtain ⟨A, n, c, rfl⟩ := okWide_slice Tryz.underlying33 hv
  obtain ⟨fuel, hf⟩ := h
  obtain ⟨l, A', n', c', e, hc, hr, hR⟩ := opens_batches H enc W fuel _ d p hf hz
  exact ⟨A', n', c', l, e, hc, hr, hR⟩
theorem weights_arg {P : Program} {ts : List TypeId} {ds : List (DataW H)} (h : (DataW.weightsEach P ts ds).all (· ≤ reachBytes) = true) {j : Nat} {t : TypeId} (ht : ts[j]? = some t) (hd : ds[j]? = some d) : ∀ z ∈ DataW.weights P t d, z ≤ reachBytes := by
  intro z hz
  simpa using List.all_eq_true.1 h z (DataW.weights_mem_each ht hd z hz)
end
end Go.Proofs.YtejcjmiofidedaaGreatDoor.Bat

/- The words for the contracts of the landed batch. -/
namespace Go.Proofs.YtejcjmiofidedaaGreatDoor.Bat
open Go.RowKit Oct Rec Crc Lay

def OwnR (w : World) (B : Nat) (A : Option Addr) (n : Nat) (l : List Rc) : Prop :=
  RdR w w.heap.size A n l ∧ ∀ g o, A = some ⟨g, o, none⟩ → 0 < n → B ≤ g ∧ ∀ i, i < n * 5 → w.frozen? ⟨g, o + i, none⟩ = false
def RGB (w : World) (x : Bt × Int × Int) (en : Ending) (w' : World) : Prop :=
  ∃ A n c, en = .returned (.tuple #[bval x.1 (.slice A n c), .int .i64 x.2.1, .int .i64 x.2.2]) ∧ n ≤ c ∧ OwnR w' w.heap.size A n x.1.recs ∧ Below w.heap.size w w'
def RMB (w : World) (x : Bt × Int) (en : Ending) (w' : World) : Prop :=
  ∃ A n c, en = .returned (.tuple #[bval x.1 (.slice A n c), .int .i64 x.2]) ∧ n ≤ c ∧ OwnR w' w.heap.size A n x.1.recs ∧ Below w.heap.size w w'
noncomputable def eqB (a b : Bt) : Bool := @decide (a = b) (Classical.propDecidable _)
theorem eqB_yes {a b : Bt} (h : a = b) : eqB a b = true := by exact @decide_eq_true _ (Classical.propDecidable _) h
theorem eqB_no {a b : Bt} (h : a ≠ b) : eqB a b = false := by exact @decide_eq_false _ (Classical.propDecidable _) h
theorem eqB_self (a : Bt) : eqB a a = true := eqB_yes rfl
def fewR : List Rc → Nat → Bool
  | [], _ => true
  | r :: l, m => if 20000 < m + (r.key.size + r.val.size) then false else fewR l (m + (r.key.size + r.val.size))
def fewT (b : Bt) : Bool := fewR b.recs 0 && decide (b.recs.length ≤ 100)
theorem fewR_small {l : List Rc} {m : Nat} (h : fewR l m = true) : ∀ r ∈ l, r.key.size + r.val.size ≤ 20000 := by
  induction l generalizing m with
  | nil => simp
  | cons x l ih =>
    unfold fewR at h
    by_cases hh : 20000 < m + (x.key.size + x.val.size)
    · rw [if_pos hh] at h; cases h
    · rw [if_neg hh] at h
      intro r hr
      rcases List.mem_cons.1 hr with rfl | h9
      · omega
      · exact ih h r h9
theorem fewT_iff {b : Bt} (h : fewT b = true) : b.recs.length ≤ 100 ∧ ∀ r ∈ b.recs, r.key.size + r.val.size ≤ 20000 := by
  unfold fewT at h
  rw [Bool.and_eq_true, decide_eq_true_eq] at h
  exact ⟨h.2, fewR_small h.1⟩
theorem fits_of {b : Bt} (hn : FitN b) (hr : ∀ r ∈ b.recs, Fit r) (h : fewT b = true) : Fits b := by
  obtain ⟨h0, h1, h2, h3, h4, h5, h6, h8⟩ := hn
  exact ⟨h0, h1, h2, h3, h4, h5, h6, h8, fun r hm => ⟨(hr r hm).1, (hr r hm).2.1, by have := (fewT_iff h).2 r hm; omega, by have := (fewT_iff h).2 r hm; omega⟩⟩
end Go.Proofs.YtejcjmiofidedaaGreatDoor.Bat

/- Records as rows of structs. -/
namespace Go.Proofs.YtejcjmiofidedaaGreatDoor.Bat
open Go.RowKit Oct Rec Crc Lay RowF

def recC (r : Rc) : List Value := [.int .i64 r.off, .string r.key, .string r.val, .bool r.dead, .int .i64 r.stamp]
theorem recS : Shape recC 5 := ⟨fun _ => rfl, fun x u hu => by
  simp only [recC, List.mem_cons, List.not_mem_nil, or_false] at hu
  rcases hu with rfl | rfl | rfl | rfl | rfl <;> rfl, by decide⟩
theorem rdR_of {w : World} {B n : Nat} {A : Option Addr} {l : List Rc} (h : RdF recC 5 w B A n l) : RdR w B A n l :=
  ⟨h.1, fun k x hk => by
    obtain ⟨b, o, hA, hb, hc⟩ := h.2 k x hk
    exact ⟨b, o, hA, hb, at_of_row rfl hc⟩⟩
theorem ownR_of {w : World} {e : TypeId} {B n c : Nat} {A : Option Addr} {l : List Rc} (h : OwnF recC 5 w e B (.slice A n c) n l) : OwnR w B A n l :=
  ⟨rdR_of (h.rd recS), fun g o hA hn => by
    obtain ⟨g', hA', hb, _⟩ := h.form hn
    rw [hA] at hA'
    simp only [Option.some.injEq, Addr.mk.injEq, and_true] at hA'
    obtain ⟨rfl, rfl⟩ := hA'
    subst hA
    exact ⟨hb, fun i _ => by rw [Nat.zero_add]; exact h.frozen i⟩⟩
theorem recInfo : Info Tryz.prog 79 5 56 := by
  have h : (Tryz.prog.info? 79).map (fun i => (i.zero, i.size, i.bytes)) = some (some (.agg #[.int .i64 0, .string ⟨#[]⟩, .string ⟨#[]⟩, .bool false, .int .i64 0]), 5, 56) := by kernel_rfl
  obtain ⟨i, hi, hz, hs, hb⟩ := info_parts h
  exact ⟨i, _, hi, hz, hs, hb, rfl⟩

section
variable {u0 u1 u2 u3 u4 u5 u6 u7 u8 u9 : Value}
theorem own10 {B g n : Nat} {w : World} {e : TypeId} {v : Value} {l : List Rc} (h : OwnF recC 5 w e B v n l) (hg : g < B) : OwnF recC 5 ((((((((((w.setCell ⟨g, 0, none⟩ u0).setCell ⟨g, 1, none⟩ u1).setCell ⟨g, 2, none⟩ u2).setCell ⟨g, 3, none⟩ u3).setCell ⟨g, 4, none⟩ u4).setCell ⟨g, 5, none⟩ u5).setCell ⟨g, 6, none⟩ u6).setCell ⟨g, 7, none⟩ u7).setCell ⟨g, 8, none⟩ u8).setCell ⟨g, 9, none⟩ u9) e B v n l :=
  (ownsRow_setCell_below (ownsRow_setCell_below (ownsRow_setCell_below (ownsRow_setCell_below (ownsRow_setCell_below (ownsRow_setCell_below (ownsRow_setCell_below (ownsRow_setCell_below (ownsRow_setCell_below (ownsRow_setCell_below h (by show g < B; exact hg) _) (by show g < B; exact hg) _) (by show g < B; exact hg) _) (by show g < B; exact hg) _) (by show g < B; exact hg) _) (by show g < B; exact hg) _) (by show g < B; exact hg) _) (by show g < B; exact hg) _) (by show g < B; exact hg) _) (by show g < B; exact hg) _)
end
end Go.Proofs.YtejcjmiofidedaaGreatDoor.Bat

/- Boxes of batches in memory, stores into them; what so many numbers and records are, step by step. -/
namespace Go.Proofs.YtejcjmiofidedaaGreatDoor.Bat
open Go.RowKit Oct Rec Crc Lay RowF

theorem frozen_set (w : World) (a p : Addr) (u : Value) : (w.setCell a u).frozen? p = w.frozen? p := by simp [go_sem]
theorem cell_set_off {w : World} {g o o' : Nat} {u : Value} (h : o ≠ o') : (w.setCell ⟨g, o, none⟩ u).cell? ⟨g, o', none⟩ = w.cell? ⟨g, o', none⟩ := by
  have := h
  simp [go_sem, *]
structure ZB (w : World) (g : Nat) : Prop where
  c0 : w.cell? ⟨g, 0, none⟩ = some (.int .i64 0)
  c1 : w.cell? ⟨g, 1, none⟩ = some (.int .i64 0)
  c2 : w.cell? ⟨g, 2, none⟩ = some (.int .i64 0)
  c3 : w.cell? ⟨g, 3, none⟩ = some (.int .i64 0)
  c4 : w.cell? ⟨g, 4, none⟩ = some (.int .i64 0)
  c5 : w.cell? ⟨g, 5, none⟩ = some (.int .i64 0)
  c6 : w.cell? ⟨g, 6, none⟩ = some (.int .i64 0)
  c7 : w.cell? ⟨g, 7, none⟩ = some (.bool false)
  c8 : w.cell? ⟨g, 8, none⟩ = some (.int .i64 0)
  c9 : w.cell? ⟨g, 9, none⟩ = some (.slice none 0 0)
  f0 : w.frozen? ⟨g, 0, none⟩ = false
  f1 : w.frozen? ⟨g, 1, none⟩ = false
  f2 : w.frozen? ⟨g, 2, none⟩ = false
  f3 : w.frozen? ⟨g, 3, none⟩ = false
  f4 : w.frozen? ⟨g, 4, none⟩ = false
  f5 : w.frozen? ⟨g, 5, none⟩ = false
  f6 : w.frozen? ⟨g, 6, none⟩ = false
  f7 : w.frozen? ⟨g, 7, none⟩ = false
  f8 : w.frozen? ⟨g, 8, none⟩ = false
  f9 : w.frozen? ⟨g, 9, none⟩ = false
  lt : g < w.heap.size
theorem ZB.below {w w' : World} {g B : Nat} (h : ZB w g) (hb : Below B w w') (hg : g < B) : ZB w' g :=
  ⟨(hb.cell (p := ⟨g, 0, none⟩) hg).trans h.c0, (hb.cell (p := ⟨g, 1, none⟩) hg).trans h.c1, (hb.cell (p := ⟨g, 2, none⟩) hg).trans h.c2, (hb.cell (p := ⟨g, 3, none⟩) hg).trans h.c3, (hb.cell (p := ⟨g, 4, none⟩) hg).trans h.c4, (hb.cell (p := ⟨g, 5, none⟩) hg).trans h.c5, (hb.cell (p := ⟨g, 6, none⟩) hg).trans h.c6, (hb.cell (p := ⟨g, 7, none⟩) hg).trans h.c7, (hb.cell (p := ⟨g, 8, none⟩) hg).trans h.c8, (hb.cell (p := ⟨g, 9, none⟩) hg).trans h.c9, (hb.frozen (p := ⟨g, 0, none⟩) hg).trans h.f0, (hb.frozen (p := ⟨g, 1, none⟩) hg).trans h.f1, (hb.frozen (p := ⟨g, 2, none⟩) hg).trans h.f2, (hb.frozen (p := ⟨g, 3, none⟩) hg).trans h.f3, (hb.frozen (p := ⟨g, 4, none⟩) hg).trans h.f4, (hb.frozen (p := ⟨g, 5, none⟩) hg).trans h.f5, (hb.frozen (p := ⟨g, 6, none⟩) hg).trans h.f6, (hb.frozen (p := ⟨g, 7, none⟩) hg).trans h.f7, (hb.frozen (p := ⟨g, 8, none⟩) hg).trans h.f8, (hb.frozen (p := ⟨g, 9, none⟩) hg).trans h.f9, Nat.lt_of_lt_of_le h.lt hb.size⟩
theorem ZB.new (w : World) : ZB (w.alloc (.cells #[.int .i64 0, .int .i64 0, .int .i64 0, .int .i64 0, .int .i64 0, .int .i64 0, .int .i64 0, .bool false, .int .i64 0, .slice none 0 0] 39)) w.heap.size := by
  refine ⟨?_, ?_, ?_, ?_, ?_, ?_, ?_, ?_, ?_, ?_, ?_, ?_, ?_, ?_, ?_, ?_, ?_, ?_, ?_, ?_, ?_⟩
  case refine_21 => simp
  all_goals simp [go_sem]
theorem BoxB.set {w : World} {X g j : Nat} {b : Bt} {v u : Value} (h : BoxB w X b v) (hg : g ≠ X) : BoxB (w.setCell ⟨g, j, none⟩ u) X b v := by
  obtain ⟨h0, h1, h2, h3, h4, h5, h6, h7, h8, h9⟩ := h
  have e : ∀ k, (w.setCell ⟨g, j, none⟩ u).cell? ⟨X, k, none⟩ = w.cell? ⟨X, k, none⟩ := fun k => by unfold World.cell?; rw [Below.heap_setCell _ _ _ _ (by simp; omega)]
  exact ⟨(e _).trans h0, (e _).trans h1, (e _).trans h2, (e _).trans h3, (e _).trans h4, (e _).trans h5, (e _).trans h6, (e _).trans h7, (e _).trans h8, (e _).trans h9⟩
theorem ZB.set {w : World} {g X j : Nat} {u : Value} (h : ZB w X) (hg : g ≠ X) : ZB (w.setCell ⟨g, j, none⟩ u) X := by
  have e : ∀ k, (w.setCell ⟨g, j, none⟩ u).cell? ⟨X, k, none⟩ = w.cell? ⟨X, k, none⟩ := fun k => by unfold World.cell?; rw [Below.heap_setCell _ _ _ _ (by simp; omega)]
  exact ⟨(e _).trans h.c0, (e _).trans h.c1, (e _).trans h.c2, (e _).trans h.c3, (e _).trans h.c4, (e _).trans h.c5, (e _).trans h.c6, (e _).trans h.c7, (e _).trans h.c8, (e _).trans h.c9, (frozen_set _ _ _ _).trans h.f0, (frozen_set _ _ _ _).trans h.f1, (frozen_set _ _ _ _).trans h.f2, (frozen_set _ _ _ _).trans h.f3, (frozen_set _ _ _ _).trans h.f4, (frozen_set _ _ _ _).trans h.f5, (frozen_set _ _ _ _).trans h.f6, (frozen_set _ _ _ _).trans h.f7, (frozen_set _ _ _ _).trans h.f8, (frozen_set _ _ _ _).trans h.f9, by simpa [World.setCell] using h.lt⟩
theorem gt_one_none {l : List UInt8} {p : Int} (hp : 0 ≤ p) (h : l[p.toNat]? = none) : gt l p 1 = (0, 10) := by
  have h1 : l.length ≤ p.toNat := by simpa using h
  unfold gt
  rw [if_neg (by simp [isW]; omega), if_pos (by simp [hasB]; omega)]
theorem gt_one_some {l : List UInt8} {p : Int} {c : UInt8} (hp : 0 ≤ p) (h : l[p.toNat]? = some c) : gt l p 1 = (c.toNat, 0) := by
  have h1 : p.toNat < l.length := (List.getElem?_eq_some_iff.1 h).1
  unfold gt
  rw [if_neg (by simp [isW]; omega), if_neg (by simp [hasB]; omega), drop_at h]
  show (getN [c], 0) = _
  rw [getN_cons, getN_nil]; simp
theorem box_put {w : World} {g : Nat} (h : ZB w g) (b : Bt) (v : Value) : BoxB ((((((((((w.setCell ⟨g, 0, none⟩ (.int .i64 b.base)).setCell ⟨g, 1, none⟩ (.int .i64 b.last)).setCell ⟨g, 2, none⟩ (.int .i64 b.frm)).setCell ⟨g, 3, none⟩ (.int .i64 b.epoch)).setCell ⟨g, 4, none⟩ (.int .i64 b.pid)).setCell ⟨g, 5, none⟩ (.int .i64 b.gen)).setCell ⟨g, 6, none⟩ (.int .i64 b.seq)).setCell ⟨g, 7, none⟩ (.bool b.txn)).setCell ⟨g, 8, none⟩ (.int .i64 b.ctl)).setCell ⟨g, 9, none⟩ (v)) g b v ∧ ((((((((((w.setCell ⟨g, 0, none⟩ (.int .i64 b.base)).setCell ⟨g, 1, none⟩ (.int .i64 b.last)).setCell ⟨g, 2, none⟩ (.int .i64 b.frm)).setCell ⟨g, 3, none⟩ (.int .i64 b.epoch)).setCell ⟨g, 4, none⟩ (.int .i64 b.pid)).setCell ⟨g, 5, none⟩ (.int .i64 b.gen)).setCell ⟨g, 6, none⟩ (.int .i64 b.seq)).setCell ⟨g, 7, none⟩ (.bool b.txn)).setCell ⟨g, 8, none⟩ (.int .i64 b.ctl)).setCell ⟨g, 9, none⟩ (v)).heap.size = w.heap.size ∧ ∀ j, ((((((((((w.setCell ⟨g, 0, none⟩ (.int .i64 b.base)).setCell ⟨g, 1, none⟩ (.int .i64 b.last)).setCell ⟨g, 2, none⟩ (.int .i64 b.frm)).setCell ⟨g, 3, none⟩ (.int .i64 b.epoch)).setCell ⟨g, 4, none⟩ (.int .i64 b.pid)).setCell ⟨g, 5, none⟩ (.int .i64 b.gen)).setCell ⟨g, 6, none⟩ (.int .i64 b.seq)).setCell ⟨g, 7, none⟩ (.bool b.txn)).setCell ⟨g, 8, none⟩ (.int .i64 b.ctl)).setCell ⟨g, 9, none⟩ (v)).frozen? ⟨g, j, none⟩ = w.frozen? ⟨g, j, none⟩ := by
  obtain ⟨h0, h1, h2, h3, h4, h5, h6, h7, h8, h9, f0, f1, f2, f3, f4, f5, f6, f7, f8, f9, hlt⟩ := h
  refine ⟨⟨?_, ?_, ?_, ?_, ?_, ?_, ?_, ?_, ?_, ?_⟩, ?_, fun j => ?_⟩
  all_goals simp [go_sem, h0, h1, h2, h3, h4, h5, h6, h7, h8, h9]
theorem BoxB.put9 {w : World} {g : Nat} {b : Bt} {v u : Value} (h : BoxB w g b v) : BoxB (w.setCell ⟨g, 9, none⟩ u) g b u := by
  obtain ⟨h0, h1, h2, h3, h4, h5, h6, h7, h8, h9⟩ := h
  exact ⟨(cell_set_off (by omega)).trans h0, (cell_set_off (by omega)).trans h1, (cell_set_off (by omega)).trans h2, (cell_set_off (by omega)).trans h3, (cell_set_off (by omega)).trans h4, (cell_set_off (by omega)).trans h5, (cell_set_off (by omega)).trans h6, (cell_set_off (by omega)).trans h7, (cell_set_off (by omega)).trans h8, World.cell?_setCell_same _ _ _ h9⟩
theorem BoxB.recs {w : World} {g : Nat} {a b : Bt} {v : Value} (h : BoxB w g a v) (hb : b = { a with recs := b.recs }) : BoxB w g b v := by
  rw [hb]; exact h
theorem rdR_fail {k : Nat} {l : List UInt8} {p b st : Int} (hk : 0 < k) (h : (gr l p b st).2.2 ≠ 0) : rdR k l p b st = none := by
  cases k with
  | zero => omega
  | succ k => rw [rdR, if_pos h]
theorem rdR_go {k : Nat} {l : List UInt8} {p b st q : Int} {x : Rc} (h : gr l p b st = (x, q, 0)) : rdR (k + 1) l p b st = (rdR k l q b st).map (fun y => (x :: y.1, y.2)) := by
  rw [rdR, h]
  simp only
  rw [if_neg (by simp)]
  cases rdR k l q b st with
  | none => rfl
  | some y => rfl
theorem rdR_step {m k : Nat} {l : List UInt8} {p3 p b st q : Int} {x : Rc} {xs : List Rc} (hk : k < m) (hR : rdR m l p3 b st = (rdR (m - k) l p b st).map (fun y => (xs ++ y.1, y.2))) (h : gr l p b st = (x, q, 0)) :
    rdR m l p3 b st = (rdR (m - (k + 1)) l q b st).map (fun y => ((xs ++ [x]) ++ y.1, y.2)) := by
  rw [hR, show m - k = (m - (k + 1)) + 1 by omega, rdR_go h, Option.map_map]
  congr 1
  funext y
  show (xs ++ x :: y.1, y.2) = ((xs ++ [x]) ++ y.1, y.2)
  simp
theorem rdV_at_least {l : List UInt8} {xs : List Int} {p : Int} (h : rdV 7 l 0 = some (xs, p)) : 0 ≤ p ∧ p ≤ (l.length : Int) := by
  have h1 := rdV_good h (by omega)
  omega
theorem cell_off {w : World} {a p : Addr} {u : Value} (h : p.block ≠ a.block) : (w.setCell a u).cell? p = w.cell? p := by
  unfold World.cell?; rw [Below.heap_setCell _ _ _ _ (by omega)]
theorem BoxB.put1 {w : World} {g : Nat} {b : Bt} {v : Value} (h : BoxB w g b v) : BoxB (w.setCell ⟨g, 1, none⟩ (.int .i64 b.last)) g b v := by
  obtain ⟨h0, h1, h2, h3, h4, h5, h6, h7, h8, h9⟩ := h
  exact ⟨(cell_set_off (by omega)).trans h0, World.cell?_setCell_same _ _ _ h1, (cell_set_off (by omega)).trans h2, (cell_set_off (by omega)).trans h3, (cell_set_off (by omega)).trans h4, (cell_set_off (by omega)).trans h5, (cell_set_off (by omega)).trans h6, (cell_set_off (by omega)).trans h7, (cell_set_off (by omega)).trans h8, (cell_set_off (by omega)).trans h9⟩
theorem BoxB.drew {w : World} {g : Nat} {b : Bt} {v : Value} (h : BoxB w g b v) : BoxB w.drew g b v := h

theorem OwnR.lt {w : World} {B : Nat} {A : Option Addr} {n : Nat} {l : List Rc} (h : OwnR w B A n l) {g o : Nat} (hA : A = some ⟨g, o, none⟩) (hn : 0 < n) : g < w.heap.size := by
  obtain ⟨b, o', _, hA', hlt, _⟩ := h.1.at hn
  rw [hA] at hA'
  simp only [Option.some.injEq, Addr.mk.injEq, and_true] at hA'
  rw [hA'.1]; exact hlt
theorem OwnR.below {w w' : World} {B : Nat} {A : Option Addr} {n : Nat} {l : List Rc} (h : OwnR w B A n l) (hb : Below w.heap.size w w') : OwnR w' B A n l :=
  ⟨(h.1.below hb (Nat.le_refl _)).more hb.size, fun g o hA hn => ⟨(h.2 g o hA hn).1, fun i hi => (hb.frozen (p := ⟨g, o + i, none⟩) (h.lt hA hn)).trans ((h.2 g o hA hn).2 i hi)⟩⟩
theorem OwnR.low {w : World} {B B' : Nat} {A : Option Addr} {n : Nat} {l : List Rc} (h : OwnR w B A n l) (hB : B' ≤ B) : OwnR w B' A n l := ⟨h.1, fun g o hA hn => ⟨Nat.le_trans hB (h.2 g o hA hn).1, (h.2 g o hA hn).2⟩⟩
theorem OwnR.set {w : World} {B X j : Nat} {A : Option Addr} {n : Nat} {l : List Rc} {u : Value} (h : OwnR w B A n l) (hX : X < B) : OwnR (w.setCell ⟨X, j, none⟩ u) B A n l := by
  refine ⟨⟨h.1.1, fun k r hr => ?_⟩, fun g o hA hn => ⟨(h.2 g o hA hn).1, fun i hi => (frozen_set _ _ _ _).trans ((h.2 g o hA hn).2 i hi)⟩⟩
  obtain ⟨b, o, hA, hlt, hat⟩ := h.1.2 k r hr
  have hn : 0 < n := by have := (List.getElem?_eq_some_iff.1 hr).1; have := h.1.1; omega
  have hg := (h.2 b o hA hn).1
  refine ⟨b, o, hA, by rw [World.size_setCell]; exact hlt, hat.keep fun p hp => ?_⟩
  unfold World.cell?
  rw [Below.heap_setCell _ _ _ _ (by show p.block ≠ X; omega)]
theorem OwnR.rd {w : World} {B : Nat} {A : Option Addr} {n : Nat} {l : List Rc} (h : OwnR w B A n l) : RdR w w.heap.size A n l := h.1
section
variable {u0 u1 u2 u3 u4 u5 u6 u7 u8 u9 : Value}
theorem bel10 {B g : Nat} {w w' : World} (h : Below B w w') (hg : B ≤ g) : Below B w ((((((((((w'.setCell ⟨g, 0, none⟩ u0).setCell ⟨g, 1, none⟩ u1).setCell ⟨g, 2, none⟩ u2).setCell ⟨g, 3, none⟩ u3).setCell ⟨g, 4, none⟩ u4).setCell ⟨g, 5, none⟩ u5).setCell ⟨g, 6, none⟩ u6).setCell ⟨g, 7, none⟩ u7).setCell ⟨g, 8, none⟩ u8).setCell ⟨g, 9, none⟩ u9) :=
  ((((((((((h.setCell (by show B ≤ g; exact hg) _).setCell (by show B ≤ g; exact hg) _).setCell (by show B ≤ g; exact hg) _).setCell (by show B ≤ g; exact hg) _).setCell (by show B ≤ g; exact hg) _).setCell (by show B ≤ g; exact hg) _).setCell (by show B ≤ g; exact hg) _).setCell (by show B ≤ g; exact hg) _).setCell (by show B ≤ g; exact hg) _).setCell (by show B ≤ g; exact hg) _)
end
end Go.Proofs.YtejcjmiofidedaaGreatDoor.Bat

/- The plain mathematics of the landed batch: what its read tells of a body, and that with the test of the own body it is the document's answer. -/
namespace Go.Proofs.YtejcjmiofidedaaGreatDoor.Bat
open Go.RowKit Oct Rec Crc

def ctM (c : Nat) : Int := ((c - c / 4 % 2 * 4 : Nat) : Int)
def txM (c : Nat) : Bool := c / 4 % 2 != 0
theorem bits_ct : ∀ c : Nat, c < 256 → bits .andNot .u64 (c : Int) 4 = ctM c := by decide +kernel
theorem bits_tx : ∀ c : Nat, c < 256 → (bits .and .u64 (c : Int) 4 != 0) = txM c := by decide +kernel
theorem mark_ct : ∀ c : Nat, c < 4 → ∀ t : Bool, ctM (c + if t then 4 else 0) = (c : Int) ∧ txM (c + if t then 4 else 0) = t := by decide
def ldT (l : List UInt8) (p base : Int) : Option (List Rc) :=
  if (gv l p).2.2 ≠ 0 then none else if 0 < (gv l p).1 then
    (if (gv l (gv l p).2.1).2.2 ≠ 0 then none else (rdR (gv l p).1.toNat l (gv l (gv l p).2.1).2.1 base (gv l (gv l p).2.1).1).map (·.1))
  else some []
def ldB (l : List UInt8) : Option Bt :=
  match rdV 7 l 0 with
  | some ([n0, n1, n2, n3, n4, n5, n6], p) => match l[p.toNat]? with
    | none => none
    | some c => (ldT l (p + 1) n0).map fun xs => ⟨n0, wrap64 (n0 + n1), n2, n3, n4, n5, n6, txM c.toNat, ctM c.toNat, xs⟩
  | _ => none
theorem ldT_at (xs : List Rc) (base : Int) (h t : List UInt8) (hx : ∀ r ∈ xs, may r = true) (hb : inR base = true) (hn : xs.length ≤ 16) :
    ldT (h ++ (vb (zz (xs.length : Int)) ++ (tl base xs ++ t))) (h.length : Int) base = some xs := by
  have g := gv_at h (tl base xs ++ t) (xs.length : Int) (by omega)
  rw [show h ++ vb (zz (xs.length : Int)) ++ (tl base xs ++ t) = h ++ (vb (zz (xs.length : Int)) ++ (tl base xs ++ t)) by simp] at g
  unfold ldT
  rw [g]
  simp only
  rw [if_neg (by simp)]
  cases xs with
  | nil => rw [if_neg (by simp)]
  | cons x xs =>
    have hm := may_iff.1 (hx x (by simp))
    have hst : inR x.stamp = true := inR_iff.2 hm.2.1
    have k := gv_at (h ++ vb (zz ((x :: xs).length : Int))) (rs base x.stamp (x :: xs) ++ t) x.stamp (by omega)
    have e : h ++ vb (zz ((x :: xs).length : Int)) ++ vb (zz x.stamp) ++ (rs base x.stamp (x :: xs) ++ t) = h ++ (vb (zz ((x :: xs).length : Int)) ++ (tl base (x :: xs) ++ t)) := by simp [tl, List.append_assoc]
    rw [e] at k
    have i := rdR_at (x :: xs) base x.stamp (h ++ vb (zz ((x :: xs).length : Int)) ++ vb (zz x.stamp)) t hx hb hst
    have e2 : h ++ vb (zz ((x :: xs).length : Int)) ++ vb (zz x.stamp) ++ (rs base x.stamp (x :: xs) ++ t) = h ++ (vb (zz ((x :: xs).length : Int)) ++ (tl base (x :: xs) ++ t)) := e
    rw [e2] at i
    rw [if_pos (by simp)]
    rw [show ((h.length : Int) + ((vb (zz ((x :: xs).length : Int))).length : Int)) = ((h ++ vb (zz ((x :: xs).length : Int))).length : Int) by rw [List.length_append, Int.natCast_add]]
    rw [k]
    simp only
    rw [if_neg (by simp), Int.toNat_natCast]
    rw [show (((h ++ vb (zz ((x :: xs).length : Int))).length : Int) + ((vb (zz x.stamp)).length : Int)) = ((h ++ vb (zz ((x :: xs).length : Int)) ++ vb (zz x.stamp)).length : Int) by rw [List.length_append (bs := vb (zz x.stamp)), Int.natCast_add]]
    rw [i]
    rfl
theorem ldB_at {b : Bt} (hf : Form b) : ldB (body b) = some b := by
  have g1 := rdV_at (hd b) [] ([mark b] ++ (vb (zz b.recs.length) ++ tl b.base b.recs)) hf.heads
  have e1 : [] ++ (vs (hd b) ++ ([mark b] ++ (vb (zz b.recs.length) ++ tl b.base b.recs))) = body b := by simp [body]
  rw [e1] at g1
  have g3 := ldT_at b.recs b.base (vs (hd b) ++ [mark b]) [] hf.mays (inR_iff.2 ⟨hf.base0, hf.base1⟩) hf.few
  have e3 : vs (hd b) ++ [mark b] ++ (vb (zz (b.recs.length : Int)) ++ (tl b.base b.recs ++ [])) = body b := by simp [body, List.append_assoc]
  rw [e3] at g3
  have g4 : (body b)[((vs (hd b)).length : Int).toNat]? = some (mark b) := by
    have e : body b = vs (hd b) ++ (mark b :: (vb (zz b.recs.length) ++ tl b.base b.recs)) := by simp [body]
    rw [e, Int.toNat_natCast, List.getElem?_append_right (Nat.le_refl _), Nat.sub_self]; rfl
  have hm := mark_num (b := b) hf.ctl0 (by have := hf.ctl1; omega)
  have hc0 := hf.ctl0
  have hc1 := hf.ctl1
  have hle := hf.le
  have hnear := hf.near
  have hb0 := hf.base0
  have hb1 := hf.base1
  have hmc := mark_ct b.ctl.toNat (by omega) b.txn
  have g1' : rdV 7 (body b) 0 = some ([b.base, b.last - b.base, b.frm, b.epoch, b.pid, b.gen, b.seq], ((vs (hd b)).length : Int)) := g1
  have g3' : ldT (body b) (((vs (hd b)).length : Int) + 1) b.base = some b.recs := by
    rw [← g3]; congr 1; simp
  unfold ldB
  rw [g1']
  simp only [g4, g3', Option.map_some, Option.some.injEq]
  have c1 : wrap64 (b.base + (b.last - b.base)) = b.last := by unfold wrap64; omega
  rw [c1, hm, hmc.1, hmc.2, show ((b.ctl.toNat : Nat) : Int) = b.ctl by omega]
theorem rdR_mays {k : Nat} {l : List UInt8} {p q base st : Int} {xs : List Rc} (h : rdR k l p base st = some (xs, q)) : ∀ r ∈ xs, may r = true := by
  induction k generalizing p q xs with
  | zero =>
    simp only [rdR, Option.some.injEq, Prod.mk.injEq] at h
    rw [← h.1]
    simp
  | succ k ih =>
    rw [rdR] at h
    by_cases hz : (gr l p base st).2.2 ≠ 0
    · rw [if_pos hz] at h; cases h
    rw [if_neg hz] at h
    rcases hg : gr l p base st with ⟨r, n, z⟩
    rw [hg] at h hz
    simp only at h hz
    have hz0 : z = 0 := by omega
    subst hz0
    cases hr : rdR k l n base st with
    | none => rw [hr] at h; cases h
    | some y =>
      obtain ⟨ys, q'⟩ := y
      rw [hr] at h
      simp only [Option.some.injEq, Prod.mk.injEq] at h
      rw [← h.1]
      intro r' hr'
      rcases List.mem_cons.1 hr' with rfl | h9
      · exact (gr_good hg).2.2.1
      · exact ih hr r' h9
theorem ldB_fits {l : List UInt8} {b : Bt} (h : ldB l = some b) : Fits b := by
  unfold ldB at h
  split at h
  · rename_i n0 n1 n2 n3 n4 n5 n6 p hv
    have hg := (rdV_good hv (by omega))
    split at h
    · cases h
    · rename_i c hc
      cases ht : ldT l (p + 1) n0 with
      | none => rw [ht] at h; cases h
      | some xs =>
        rw [ht] at h
        simp only [Option.map_some, Option.some.injEq] at h
        have hw : ∀ x ∈ [n0, n1, n2, n3, n4, n5, n6], W64 x := hg.2.2.2.2
        have hx : ∀ r ∈ xs, may r = true := by
          unfold ldT at ht
          split at ht
          · cases ht
          split at ht
          · split at ht
            · cases ht
            · rw [Option.map_eq_some_iff] at ht
              obtain ⟨⟨ys, q⟩, h1, h2⟩ := ht
              simp only at h2
              subst h2
              exact rdR_mays h1
          · simp only [Option.some.injEq] at ht
            rw [← ht]; simp
        have hc8 : c.toNat < 256 := c.toNat_lt
        rw [← h]
        refine ⟨hw _ (by simp), ?_, hw _ (by simp), hw _ (by simp), hw _ (by simp), hw _ (by simp), hw _ (by simp), ?_, fun r hr => ?_⟩
        · unfold I64 wrap64; simp only; omega
        · unfold I64 ctM; simp only; omega
        · have h5 := may_iff.1 (hx r hr)
          unfold I64
          omega
  · cases h
def opL (l : List UInt8) : Bt × Int :=
  if (openB l).2 ≠ 0 then (nilB, (openB l).2) else match ldB (openB l).1 with
    | none => (nilB, 11)
    | some b => if chB b = 0 ∧ body b = (openB l).1 then (b, 0) else (nilB, 11)
theorem opL_is (l : List UInt8) : opL l = opB l := by
  unfold opL opB
  by_cases hz : (openB l).2 ≠ 0
  · rw [if_pos hz, if_pos hz]
  rw [if_neg hz, if_neg hz]
  obtain ⟨t, ht⟩ : ∃ t, (openB l).1 = t := ⟨_, rfl⟩
  rw [ht]
  have key : ∀ b, (∃ q, rdB t = some (b, q) ∧ q = (t.length : Int)) → chB b = 0 → ldB t = some b ∧ body b = t := by
    rintro b ⟨q, hr, rfl⟩ hc
    have h1 := (rdB_good hr).2.2.1
    rw [Int.toNat_natCast, List.take_length] at h1
    exact ⟨by rw [← h1]; exact ldB_at (chB_form hc).1, h1⟩
  have key2 : ∀ b, ldB t = some b → chB b = 0 → body b = t → rdB t = some (b, (t.length : Int)) := by
    intro b _ hc hb
    have h1 := rdB_at (chB_form hc).1 []
    rw [List.append_nil, hb] at h1
    exact h1
  cases hl : ldB t with
  | none =>
    cases hr : rdB t with
    | none => rfl
    | some y =>
      obtain ⟨b, q⟩ := y
      simp only
      rw [if_neg]
      rintro ⟨hq, hc⟩
      have := (key b ⟨q, hr, hq⟩ hc).1
      rw [hl] at this
      cases this
  | some b =>
    simp only
    by_cases hc : chB b = 0 ∧ body b = t
    · rw [if_pos hc, key2 b hl hc.1 hc.2]
      simp only
      rw [if_pos ⟨trivial, hc.1⟩]
    · rw [if_neg hc]
      cases hr : rdB t with
      | none => rfl
      | some y =>
        obtain ⟨b', q⟩ := y
        simp only
        rw [if_neg]
        rintro ⟨hq, hc'⟩
        have h2 := key b' ⟨q, hr, hq⟩ hc'
        rw [hl] at h2
        obtain rfl := Option.some.inj h2.1
        exact hc ⟨hc', h2.2⟩
end Go.Proofs.YtejcjmiofidedaaGreatDoor.Bat
