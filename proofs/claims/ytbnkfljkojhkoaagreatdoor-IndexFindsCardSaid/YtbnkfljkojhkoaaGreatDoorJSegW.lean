/- Joined: SegW. -/
import Derived.Test.YtbnkfljkojhkoaaGreatDoorJSegM
import Derived.Test.YtbnkfljkojhkoaaGreatDoorSegA
import Derived.Test.YtbnkfljkojhkoaaGreatDoorJSegS
import Derived.Test.YtbnkfljkojhkoaaGreatDoorSegF
import Derived.Test.YtbnkfljkojhkoaaGreatDoorSegAt
import Derived.Test.YtbnkfljkojhkoaaGreatDoorJOct
import Derived.Test.YtbnkfljkojhkoaaGreatDoorJBatK
/- Words for the walks of layer 7's laws: the contracts with their answers named, what is carried from world to world. -/
namespace Go.Proofs.YtbnkfljkojhkoaaGreatDoor.Seg
open Go.RowKit Oct Rec Crc Bat Lay

theorem rdUp {w w' : World} {A : Option Addr} {n : Nat} {l : List UInt8} (h : Rd w w.heap.size A n l) (hb : Below w.heap.size w w') : Rd w' w'.heap.size A n l := (h.below hb (Nat.le_refl _)).more hb.size
theorem belA (w : World) (o : Obj) : Below w.heap.size w (w.alloc o) := bel_alloc (Below.refl _ _) o
theorem rdr_nil (w : World) (B : Nat) : RdR w B none 0 [] := ⟨rfl, by simp⟩
section
variable {A : Option Addr} {n c : Nat} {base : Int} {bs : List UInt8} {w : World}
theorem Scan_is {L : List Bt} {g : Nat} (h : sc base bs = (L, g)) (hr : Rd w w.heap.size A n bs) (hc : n ≤ c) (hn : n ≤ 137438953472) (hI : I64 base) (ht : Tab w) :
    Calls Tryz.prog 33 #[.agg #[.int .i64 base, .slice A n c]] w (RSc w L g) := by
  have h1 := callsIn_wide.1 (Scan_in A n c base bs w hr hc hn hI ht)
  rw [h] at h1
  exact h1
def TSg (w : World) (xb : Int) (xs : List UInt8) (xe : Int) (en : Ending) (w' : World) : Prop :=
  ∃ A n c, en = .returned (.tuple #[.agg #[.int .i64 xb, .slice A n c], .int .i64 xe]) ∧ OwnB w' 5 w.heap.size (.slice A n c) n xs ∧ Below w.heap.size w w'
def TS (w : World) (xb : Int) (xs : List UInt8) (en : Ending) (w' : World) : Prop :=
  ∃ A n c, en = .returned (.agg #[.int .i64 xb, .slice A n c]) ∧ OwnB w' 5 w.heap.size (.slice A n c) n xs ∧ Below w.heap.size w w'
section
variable {xb xe : Int} {xs : List UInt8}
theorem New_is (h : newS base = (⟨xb, xs⟩, xe)) : Calls Tryz.prog 28 #[.int .i64 base] w (TSg w xb xs xe) := by
  have h1 := New_any base w
  rw [h] at h1
  exact h1
theorem Append_is {ba la fr ep pi ge se : Int} {tx : Bool} {ct : Int} {rs : List Rc} {A4 : Option Addr} {n4 c4 : Nat} {limit : Int} (h : apS ⟨base, bs⟩ ⟨ba, la, fr, ep, pi, ge, se, tx, ct, rs⟩ limit = (⟨xb, xs⟩, xe)) (hr : Rd w w.heap.size A n bs) (hc : n ≤ c) (hn : n ≤ 137438953472) (hI : I64 base)
    (hf : Fits ⟨ba, la, fr, ep, pi, ge, se, tx, ct, rs⟩) (hrb : RdR w w.heap.size A4 n4 rs) (hn4 : n4 ≤ 1099511627776) (ht : Tab w) :
    Calls Tryz.prog 29 #[.agg #[.int .i64 base, .slice A n c], .agg #[.int .i64 ba, .int .i64 la, .int .i64 fr, .int .i64 ep, .int .i64 pi, .int .i64 ge, .int .i64 se, .bool tx, .int .i64 ct, .slice A4 n4 c4], .int .i64 limit] w (TSg w xb xs xe) := by
  have h1 := Append_any A n c base bs ba la fr ep pi ge se tx ct rs A4 n4 c4 limit w hr hc hn hI hf hrb hn4 ht
  rw [h] at h1
  exact h1
end
end
def At1 (W : World) (g : Nat) (cs : List Value) : Prop := g < W.heap.size ∧ ∀ j v, cs[j]? = some v → W.cell? ⟨g, j, none⟩ = some v
theorem At1.below {W X : World} {g : Nat} {cs : List Value} (h : At1 W g cs) (hb : Below W.heap.size W X) : At1 X g cs := ⟨Nat.lt_of_lt_of_le h.1 hb.size, fun j v hv => (hb.cell (p := ⟨g, j, none⟩) h.1).trans (h.2 j v hv)⟩
theorem At1.two {W : World} {g : Nat} {u v : Value} (hl : g < W.heap.size) (h0 : W.cell? ⟨g, 0, none⟩ = some u) (h1 : W.cell? ⟨g, 1, none⟩ = some v) : At1 W g [u, v] := by
  refine ⟨hl, fun j x hx => ?_⟩
  match j, hx with
  | 0, hx => obtain rfl : u = x := Option.some.inj hx; exact h0
  | 1, hx => obtain rfl : v = x := Option.some.inj hx; exact h1
def bumpRel (e8 eS : TypeId) (N : Nat) (A : Option Addr) (n c : Nat) (xb : Int) (X : Nat) (w0 : World) (i : Value) (wr : World) : Prop :=
  ∃ j : Nat, i = .int .i64 (j : Int) ∧ j ≤ n ∧ (∃ l', OwnB wr e8 N (.slice A n c) n l') ∧ At0 wr X [.int .i64 xb, .slice A n c] eS ∧ (∀ g, (Value.slice A n c).ownBlock = some g → g ≠ X) ∧ Below N w0 wr

/-! ### the laws' own live -/
def exC : Bt := ⟨6, 6, 0, 0, -1, 0, 0, false, 0, []⟩
end Go.Proofs.YtbnkfljkojhkoaaGreatDoor.Seg
