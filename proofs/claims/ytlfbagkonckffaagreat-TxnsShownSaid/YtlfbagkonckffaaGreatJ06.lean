/- Joined: OctEnds, Ends, Lay. -/
import Derived.Test.YtlfbagkonckffaaGreatJ00
import Derived.Test.YtlfbagkonckffaaGreatJ01
import Derived.OpenShut
import Derived.ProofKit
import Derived.ShutString
import Derived.Carry
import Derived.Deep.Fields
import Derived.Deep.Slices
import Derived.SizedLaws
/- A slice of bytes that came in, in the words of this layer. -/
namespace Go.Proofs.YtlfbagkonckffaaGreat.Oct
open Go.RowKit

end Go.Proofs.YtlfbagkonckffaaGreat.Oct

/- What a law's frame opens: arguments as the walks take them. -/
namespace Go.Proofs.YtlfbagkonckffaaGreat.Oct
open Go.RowKit Go.ChangeShapes Go.WideShapes Go.Deep
open Go.ChangeMaps (open_string)

def I64 (n : Int) : Prop := -9223372036854775808 ≤ n ∧ n ≤ 9223372036854775807
section
variable {H : Type} {enc : TypeId × Value → H} {P : Program} {W : World} {base : Nat} {v : Value} {d : DataW H} {p : List MemPlace} {t e : TypeId}
theorem open_i64 (ht : P.underlying t = some (.int .i64)) (hv : Value.okWide P W .any base t v) (h : DataW.Trod enc P W 0 (fun _ => true) true t v d p) : ∃ a, v = .int .i64 a ∧ I64 a := by
  obtain ⟨a, rfl, _, _, w⟩ := open_int ht hv h
  exact ⟨a, rfl, (bounds_i64 w).1, (bounds_i64 w).2⟩
theorem open_flag (ht : P.underlying t = some .bool) (hv : Value.okWide P W .any base t v) (h : DataW.Trod enc P W 0 (fun _ => true) true t v d p) : ∃ a : Bool, v = .bool a := by
  obtain ⟨a, rfl, _⟩ := open_bool ht hv h
  exact ⟨a, rfl⟩
end
end Go.Proofs.YtlfbagkonckffaaGreat.Oct

/- How data lie in memory, and how a law's arguments are opened: one notion for all types. Nothing of the program: P, the types' numbers and the worlds are letters. -/
namespace Go.Proofs.YtlfbagkonckffaaGreat.Lay
open Go.RowKit Go.ChangeShapes Go.WideShapes Go.Deep Oct

class One (α : Type) where
  one : World → Nat → Value → α → Prop
  keep : ∀ {w w' : World} {B : Nat} {v : Value} {x : α}, one w B v x → (∀ p : Addr, p.block < B → w'.cell? p = w.cell? p) → one w' B v x
  more : ∀ {w : World} {B B' : Nat} {v : Value} {x : α}, one w B v x → B ≤ B' → one w B' v x
class Lay (α : Type) where
  sz : Nat
  pos : 0 < sz
  is : World → Nat → List Value → α → Prop
  len : ∀ {w : World} {B : Nat} {cs : List Value} {x : α}, is w B cs x → cs.length = sz
  keep : ∀ {w w' : World} {B : Nat} {cs : List Value} {x : α}, is w B cs x → (∀ p : Addr, p.block < B → w'.cell? p = w.cell? p) → is w' B cs x
  more : ∀ {w : World} {B B' : Nat} {cs : List Value} {x : α}, is w B cs x → B ≤ B' → is w B' cs x
def RdL {α : Type} [Lay α] (w : World) (B : Nat) (A : Option Addr) (n : Nat) (l : List α) : Prop :=
  l.length = n ∧ ∀ k x, l[k]? = some x → ∃ b o cs, A = some ⟨b, o, none⟩ ∧ b < B ∧ Lay.is w B cs x ∧ ∀ i v, cs[i]? = some v → w.cell? ⟨b, o + k * Lay.sz α + i, none⟩ = some v
def reach : Nat := 140737488351232
section
variable {α : Type} [Lay α] {w w' : World} {B B' n : Nat} {A : Option Addr} {l : List α}
theorem RdL.len (h : RdL w B A n l) : l.length = n := h.1
theorem RdL.nil : RdL w B A 0 ([] : List α) := ⟨rfl, by simp⟩
theorem RdL.keep (h : RdL w B A n l) (hk : ∀ p : Addr, p.block < B → w'.cell? p = w.cell? p) : RdL w' B A n l :=
  ⟨h.1, fun k x hx => by
    obtain ⟨b, o, cs, hA, hb, his, hc⟩ := h.2 k x hx
    exact ⟨b, o, cs, hA, hb, Lay.keep his hk, fun i v hv => (hk _ hb).trans (hc i v hv)⟩⟩
theorem RdL.more (h : RdL w B A n l) (hB : B ≤ B') : RdL w B' A n l :=
  ⟨h.1, fun k x hx => by
    obtain ⟨b, o, cs, hA, hb, his, hc⟩ := h.2 k x hx
    exact ⟨b, o, cs, hA, by omega, Lay.more his hB, hc⟩⟩
theorem RdL.below (h : RdL w B A n l) (hb : Below B' w w') (hB : B ≤ B') : RdL w' B A n l := h.keep fun _ hp => hb.cell (by omega)
theorem RdL.at {k : Nat} (h : RdL w B A n l) (hk : k < n) : ∃ b o x cs, A = some ⟨b, o, none⟩ ∧ b < B ∧ l[k]? = some x ∧ Lay.is w B cs x ∧ ∀ i v, cs[i]? = some v → w.cell? ⟨b, o + k * Lay.sz α + i, none⟩ = some v := by
  have hl : k < l.length := by have := h.1; omega
  obtain ⟨b, o, cs, hA, hb, his, hc⟩ := h.2 k l[k] (List.getElem?_eq_getElem hl)
  exact ⟨b, o, l[k], cs, hA, hb, List.getElem?_eq_getElem hl, his, hc⟩
theorem RdL.take {m : Nat} (h : RdL w B A n l) (hm : m ≤ n) : RdL w B A m (l.take m) := by
  refine ⟨by have := h.1; rw [List.length_take]; omega, fun k x hx => h.2 k x ?_⟩
  rw [List.getElem?_take] at hx
  split at hx
  · exact hx
  · cases hx
end

/-! ### one cell -/
instance : One Int where
  one _ _ v x := v = .int .i64 x ∧ I64 x
  keep h _ := h
  more h _ := h
instance : One Bool where
  one _ _ v x := v = .bool x
  keep h _ := h
  more h _ := h
instance : One ByteArray where
  one _ _ v x := v = .string x ∧ x.size ≤ reach
  keep h _ := h
  more h _ := h
instance {α : Type} [Lay α] : One (List α) where
  one w B v l := ∃ A n c, v = .slice A n c ∧ n ≤ c ∧ c ≤ reach ∧ RdL w B A n l
  keep h hk := by obtain ⟨A, n, c, e, hc, hr, hl⟩ := h; exact ⟨A, n, c, e, hc, hr, hl.keep hk⟩
  more h hB := by obtain ⟨A, n, c, e, hc, hr, hl⟩ := h; exact ⟨A, n, c, e, hc, hr, hl.more hB⟩
@[reducible] def lay1 (α : Type) [One α] : Lay α where
  sz := 1
  pos := by decide
  is w B cs x := ∃ v, cs = [v] ∧ One.one w B v x
  len h := by obtain ⟨v, rfl, _⟩ := h; rfl
  keep h hk := by obtain ⟨v, rfl, h⟩ := h; exact ⟨v, rfl, One.keep h hk⟩
  more h hB := by obtain ⟨v, rfl, h⟩ := h; exact ⟨v, rfl, One.more h hB⟩
instance : Lay Int := lay1 Int
instance : Lay ByteArray := lay1 ByteArray
instance : Lay Bool := lay1 Bool
instance : Lay UInt8 where
  sz := 1
  pos := by decide
  is _ _ cs x := cs = [.int .u8 (x.toNat : Int)]
  len h := by subst h; rfl
  keep h _ := h
  more h _ := h
theorem RdL.bytes {w : World} {B n : Nat} {A : Option Addr} {l : List UInt8} (h : RdL w B A n l) : Rd w B A n l :=
  ⟨h.1, fun k c hc => by
    obtain ⟨b, o, cs, hA, hb, his, hcell⟩ := h.2 k c hc
    obtain rfl : cs = [.int .u8 (c.toNat : Int)] := his
    refine ⟨b, o, hA, hb, ?_⟩
    have := hcell 0 _ rfl
    rw [show o + k * Lay.sz UInt8 + 0 = o + k from by show o + k * 1 + 0 = o + k; omega] at this
    exact this⟩

/-! ### opened -/
section
variable {P : Program} {t e : TypeId}
def Opens1 (P : Program) (t : TypeId) (α : Type) [One α] : Prop :=
  ∀ (H : Type) (enc : TypeId × Value → H) (w : World) (fuel : Nat) (v : Value) (d : DataW H) (pl : List MemPlace),
    DataW.trod enc P w 0 (fun _ => true) true fuel t [v] = some (d, pl) → (∀ z ∈ DataW.weights P t d, z ≤ reachBytes) → ∃ x : α, One.one w w.heap.size v x
def Opens (P : Program) (t : TypeId) (α : Type) [Lay α] : Prop :=
  ∀ (H : Type) (enc : TypeId × Value → H) (w : World) (fuel : Nat) (cs : List Value) (d : DataW H) (pl : List MemPlace),
    DataW.trod enc P w 0 (fun _ => true) true fuel t cs = some (d, pl) → cs.length = Lay.sz α → (∀ z ∈ DataW.weights P t d, z ≤ reachBytes) → ∃ x : α, Lay.is w w.heap.size cs x
theorem opens_int (ht : P.underlying t = some (.int .i64)) : Opens1 P t Int := by
  intro H enc w fuel v d pl h _
  obtain ⟨n, hn, _, hw⟩ := DataW.trod_int ht h
  obtain rfl : v = .int .i64 n := by injection hn
  exact ⟨n, rfl, (bounds_i64 hw).1, (bounds_i64 hw).2⟩
theorem opens_bool (ht : P.underlying t = some .bool) : Opens1 P t Bool := by
  intro H enc w fuel v d pl h _
  obtain ⟨n, hn, _⟩ := DataW.trod_bool ht h
  obtain rfl : v = .bool n := by injection hn
  exact ⟨n, rfl⟩
theorem opens_string (ht : P.underlying t = some .string) : Opens1 P t ByteArray := by
  intro H enc w fuel v d pl h hz
  obtain ⟨n, hn, hx, _⟩ := DataW.trod_string ht h
  obtain rfl : v = .string n := by injection hn
  refine ⟨n, rfl, ?_⟩
  obtain rfl : d = .lit (.string n.data.toList) := congrArg Prod.fst hx
  have h1 := hz n.data.toList.length (by simp [DataW.weights])
  have h2 : reachBytes = reach := by decide
  rw [h2, Array.length_toList] at h1
  exact h1
theorem mem_all {H : Type} {e : TypeId} {x : DataW H} {l : List (DataW H)} {z : Nat} (hx : x ∈ l) (hz : z ∈ DataW.weights P e x) : z ∈ DataW.weightsAll P e l := by
  induction l with
  | nil => cases hx
  | cons y l ih =>
    unfold DataW.weightsAll
    rcases List.mem_cons.1 hx with rfl | h
    · exact List.mem_append_left _ hz
    · exact List.mem_append_right _ (ih h)
theorem opens_slice {α : Type} [Lay α] (ht : P.underlying t = some (.slice e)) (hc : P.cellsOf e = Lay.sz α) (hb : 1 ≤ P.bytesOf e) (he : Opens P e α) : Opens1 P t (List α) := by
  intro H enc w fuel v d pl h hz
  rcases open_slice ht h with ⟨hcs, _⟩ | ⟨a, len, cap, m, n, D, Pl, hcs, _, hl, _, hm, hx, hel⟩
  · obtain rfl : v = .slice none 0 0 := by injection hcs
    exact ⟨[], none, 0, 0, rfl, Nat.le_refl _, Nat.zero_le _, RdL.nil⟩
  · obtain rfl : v = .slice (some a) len cap := by injection hcs
    have hmc : m = cap := by simpa using hm
    subst hmc
    obtain rfl : d = _ := congrArg Prod.fst hx
    have hwt : ∀ z ∈ (((List.range len).map D).length + ((List.range (m - len)).map fun j => D (len + j)).length) * P.bytesOf e :: (DataW.weightsAll P e ((List.range len).map D) ++ DataW.weightsAll P e ((List.range (m - len)).map fun j => D (len + j))), z ≤ reachBytes := by
      intro z hz'
      exact hz z (by unfold DataW.weights; rw [ht]; exact hz')
    have h2 : reachBytes = reach := by decide
    have hcap : m ≤ reach := by
      have h1 := hwt _ List.mem_cons_self
      rw [List.length_map, List.length_map, List.length_range, List.length_range, show len + (m - len) = m by omega, h2] at h1
      exact Nat.le_trans (Nat.le_mul_of_pos_right m hb) h1
    have hwtl : ∀ i, i < len → ∀ z ∈ DataW.weights P e (D i), z ≤ reachBytes := by
      intro i hi z hzi
      refine hwt z (List.mem_cons_of_mem _ (List.mem_append_left _ (mem_all (List.mem_map.2 ⟨i, List.mem_range.2 hi, rfl⟩) hzi)))
    have hex : ∀ i, i < len → ∃ (x : α) (cs : List Value), Lay.is w w.heap.size cs x ∧ cs.length = Lay.sz α ∧ ∀ j v, cs[j]? = some v → w.cell? (a.add (i * Lay.sz α + j)) = some v := by
      intro i hi
      obtain ⟨cs, h1, h3⟩ := hel i (by omega)
      obtain ⟨_, hlen, hcell⟩ := World.cells?_some h1
      rw [hc] at hlen h1 hcell
      obtain ⟨x, hxx⟩ := he H enc w n cs _ _ h3 hlen (hwtl i hi)
      refine ⟨x, cs, hxx, hlen, fun j v hv => ?_⟩
      have hj := (List.getElem?_eq_some_iff.1 hv).1
      have := hcell j (by omega)
      rw [add_add, hv] at this
      exact this
    obtain ⟨b, o, spot⟩ := a
    have hspot : 0 < len → spot = none := by
      intro h0
      obtain ⟨x, cs, _, hlen, hcell⟩ := hex 0 h0
      have hp := Lay.pos (α := α)
      have h9 := hcell 0 cs[0] (List.getElem?_eq_getElem (by omega))
      simpa [Addr.add] using World.cell?_spot h9
    rcases Nat.eq_zero_or_pos len with rfl | h0
    · exact ⟨[], _, _, _, rfl, Nat.zero_le _, hcap, RdL.nil⟩
    obtain rfl := hspot h0
    have hE : ∀ i, i < len → ∃ x : α, ∃ cs, Lay.is w w.heap.size cs x ∧ b < w.heap.size ∧ ∀ j v, cs[j]? = some v → w.cell? ⟨b, o + i * Lay.sz α + j, none⟩ = some v := by
      intro i hi
      obtain ⟨x, cs, hxx, hlen, hcell⟩ := hex i hi
      have hp := Lay.pos (α := α)
      have hcc : ∀ j v, cs[j]? = some v → w.cell? ⟨b, o + i * Lay.sz α + j, none⟩ = some v := by
        intro j v hv
        have h9 := hcell j v hv
        rw [Addr.add_lit, ← Nat.add_assoc] at h9
        exact h9
      exact ⟨x, cs, hxx, World.block_lt_of_cell? w _ (hcc 0 cs[0] (List.getElem?_eq_getElem (by omega))), hcc⟩
    obtain ⟨x0, _⟩ := hE 0 h0
    have : Inhabited α := ⟨x0⟩
    obtain ⟨f, hf⟩ := choose_lt hE
    refine ⟨(List.range len).map f, _, _, _, rfl, hl, hcap, by simp, fun k x hk => ?_⟩
    have hkl : k < len := by have := (List.getElem?_eq_some_iff.1 hk).1; simpa using this
    rw [List.getElem?_map, List.getElem?_range hkl] at hk
    simp only [Option.map_some, Option.some.injEq] at hk
    obtain ⟨cs, h1, h2, h3⟩ := hf k hkl
    rw [hk] at h1
    exact ⟨b, o, cs, rfl, h2, h1, h3⟩
theorem opens_fields {fs : Array Field} (ht : P.underlying t = some (.struct fs)) (hone : oneCellFields P fs = true) {H : Type} {enc : TypeId × Value → H} {w : World} {fuel : Nat} {cs : List Value} {d : DataW H} {pl : List MemPlace}
    (h : DataW.trod enc P w 0 (fun _ => true) true fuel t cs = some (d, pl)) (hw : ∀ z ∈ DataW.weights P t d, z ≤ reachBytes) (hlen : cs.length = fs.size) :
    ∃ n, ∀ (i : Nat) (f : Field), fs[i]? = some f → ∃ u d' pl', cs[i]? = some u ∧ DataW.trod enc P w 0 (fun _ => true) true n f.type [u] = some (d', pl') ∧ ∀ z ∈ DataW.weights P f.type d', z ≤ reachBytes := by
  obtain ⟨xs, n, _, hx, _, hxl, hat⟩ := DataW.trod_struct ht h
  obtain rfl : d = .agg (xs.map (·.1)) := congrArg Prod.fst hx
  have hwe : ∀ z ∈ DataW.weightsEach P (fs.toList.map (·.type)) (xs.map (·.1)), z ≤ reachBytes := by
    intro z hz
    exact hw z (by unfold DataW.weights; rw [ht]; exact hz)
  refine ⟨n, fun i f hi => ?_⟩
  have hlt := (Array.getElem?_eq_some_iff.1 hi).1
  obtain ⟨ho, h1⟩ := hone_of hone i f hi
  have hu : cs[i]? = some (cs[i]'(by omega)) := List.getElem?_eq_getElem (by omega)
  have hy : xs[i]? = some (xs[i]'(by omega)) := List.getElem?_eq_getElem (by omega)
  have hcell := hat i f hi
  rw [ho, h1, hy] at hcell
  refine ⟨cs[i]'(by omega), (xs[i]'(by omega)).1, (xs[i]'(by omega)).2, hu, ?_, fun z hz => hwe z ?_⟩
  · have e : (List.drop i cs).take 1 = [cs[i]'(by omega)] := by
      apply List.ext_getElem?
      intro j
      rw [List.getElem?_take, List.getElem?_drop]
      cases j with
      | zero => rw [if_pos (by omega)]; exact hu
      | succ j => rw [if_neg (by omega)]; rfl
    rw [e] at hcell
    exact hcell
  · refine DataW.weights_mem_each (j := i) (t := f.type) (d := (xs[i]'(by omega)).1) ?_ ?_ z hz
    · rw [List.getElem?_map, ← Array.getElem?_toList] at *
      simp [hi]
    · rw [List.getElem?_map, hy]; rfl
end
end Go.Proofs.YtlfbagkonckffaaGreat.Lay
