/- Joined: SegW, SegX. -/
import Derived.Test.YtejcjmiofidedaaGreatDoorJSegM
import Derived.Test.YtejcjmiofidedaaGreatDoorSegA
import Derived.Test.YtejcjmiofidedaaGreatDoorJSegS
import Derived.Test.YtejcjmiofidedaaGreatDoorSegF
import Derived.Test.YtejcjmiofidedaaGreatDoorSegAt
import Derived.Test.YtejcjmiofidedaaGreatDoorJOct
import Derived.Test.YtejcjmiofidedaaGreatDoorJBatK
import Derived.Test.YtejcjmiofidedaaGreatDoorBatRow
/- Words for the walks of layer 7's laws: the contracts with their answers named, what is carried from world to world. -/
namespace Go.Proofs.YtejcjmiofidedaaGreatDoor.Seg
open Go.RowKit Oct Rec Crc Bat Lay

theorem rdUp {w w' : World} {A : Option Addr} {n : Nat} {l : List UInt8} (h : Rd w w.heap.size A n l) (hb : Below w.heap.size w w') : Rd w' w'.heap.size A n l := (h.below hb (Nat.le_refl _)).more hb.size
theorem rdtUp {w w' : World} {A : Option Addr} {n : Nat} {l : List Bt} (h : RdT w w.heap.size A n l) (hb : Below w.heap.size w w') : RdT w' w'.heap.size A n l := (h.below hb (Nat.le_refl _)).more hb.size
theorem rdlUp {w w' : World} {A : Option Addr} {n : Nat} {l : List Bt} (h : RdL w w.heap.size A n l) (hb : Below w.heap.size w w') : RdL w' w'.heap.size A n l := (h.below hb (Nat.le_refl _)).more hb.size
theorem belA (w : World) (o : Obj) : Below w.heap.size w (w.alloc o) := bel_alloc (Below.refl _ _) o
theorem same_self (b : Int) (xs : List UInt8) : (decide (b = b) && sameB xs xs) = true := by rw [sameB_self]; simp
section
variable {A : Option Addr} {n c : Nat} {base : Int} {bs : List UInt8} {w : World}
theorem Scan_is {L : List Bt} {g : Nat} (h : sc base bs = (L, g)) (hr : Rd w w.heap.size A n bs) (hc : n ≤ c) (hn : n ≤ 137438953472) (hI : I64 base) (ht : Tab w) :
    Calls Tryz.prog 43 #[.agg #[.int .i64 base, .slice A n c]] w (RSc w L g) := by
  have h1 := callsIn_wide.1 (Scan_in A n c base bs w hr hc hn hI ht)
  rw [h] at h1
  exact h1
theorem End_is {E : Int} (h : endS ⟨base, bs⟩ = E) (hr : Rd w w.heap.size A n bs) (hc : n ≤ c) (hn : n ≤ 137438953472) (hI : I64 base) (ht : Tab w) :
    Calls Tryz.prog 73 #[.agg #[.int .i64 base, .slice A n c]] w fun e w' => e = .returned (.int .i64 E) ∧ Below w.heap.size w w' := by
  subst h; exact End_any A n c base bs w hr hc hn hI ht
def TSg (w : World) (xb : Int) (xs : List UInt8) (xe : Int) (en : Ending) (w' : World) : Prop :=
  ∃ A n c, en = .returned (.tuple #[.agg #[.int .i64 xb, .slice A n c], .int .i64 xe]) ∧ OwnB w' 5 w.heap.size (.slice A n c) n xs ∧ Below w.heap.size w w'
def TS (w : World) (xb : Int) (xs : List UInt8) (en : Ending) (w' : World) : Prop :=
  ∃ A n c, en = .returned (.agg #[.int .i64 xb, .slice A n c]) ∧ OwnB w' 5 w.heap.size (.slice A n c) n xs ∧ Below w.heap.size w w'
section
variable {xb xe : Int} {xs : List UInt8}
theorem New_is (h : newS base = (⟨xb, xs⟩, xe)) : Calls Tryz.prog 89 #[.int .i64 base] w (TSg w xb xs xe) := by
  have h1 := New_any base w
  rw [h] at h1
  exact h1
theorem Fix_is (h : fixS ⟨base, bs⟩ = (⟨xb, xs⟩, xe)) (hr : Rd w w.heap.size A n bs) (hc : n ≤ c) (hn : n ≤ 137438953472) (hI : I64 base) (ht : Tab w) :
    Calls Tryz.prog 76 #[.agg #[.int .i64 base, .slice A n c]] w (TSg w xb xs xe) := by
  have h1 := Fix_any A n c base bs w hr hc hn hI ht
  rw [h] at h1
  exact h1
theorem Append_is {ba la fr ep pi ge se : Int} {tx : Bool} {ct : Int} {rs : List Rc} {A4 : Option Addr} {n4 c4 : Nat} {limit : Int} (h : apS ⟨base, bs⟩ ⟨ba, la, fr, ep, pi, ge, se, tx, ct, rs⟩ limit = (⟨xb, xs⟩, xe)) (hr : Rd w w.heap.size A n bs) (hc : n ≤ c) (hn : n ≤ 137438953472) (hI : I64 base)
    (hf : Fits ⟨ba, la, fr, ep, pi, ge, se, tx, ct, rs⟩) (hrb : RdR w w.heap.size A4 n4 rs) (hn4 : n4 ≤ 1099511627776) (ht : Tab w) :
    Calls Tryz.prog 59 #[.agg #[.int .i64 base, .slice A n c], .agg #[.int .i64 ba, .int .i64 la, .int .i64 fr, .int .i64 ep, .int .i64 pi, .int .i64 ge, .int .i64 se, .bool tx, .int .i64 ct, .slice A4 n4 c4], .int .i64 limit] w (TSg w xb xs xe) := by
  have h1 := Append_any A n c base bs ba la fr ep pi ge se tx ct rs A4 n4 c4 limit w hr hc hn hI hf hrb hn4 ht
  rw [h] at h1
  exact h1
end
end
def At1 (W : World) (g : Nat) (cs : List Value) : Prop := g < W.heap.size ∧ ∀ j v, cs[j]? = some v → W.cell? ⟨g, j, none⟩ = some v
theorem At1.below {W X : World} {g : Nat} {cs : List Value} (h : At1 W g cs) (hb : Below W.heap.size W X) : At1 X g cs := ⟨Nat.lt_of_lt_of_le h.1 hb.size, fun j v hv => (hb.cell (p := ⟨g, j, none⟩) h.1).trans (h.2 j v hv)⟩
theorem At1.two {W : World} {g : Nat} {u v : Value} (hl : g < W.heap.size) (h0 : W.cell? ⟨g, 0, none⟩ = some u) (h1 : W.cell? ⟨g, 1, none⟩ = some v) : At1 W g [u, v] := by
  refine ⟨hl, fun j x hx => ?_⟩
  match j, hx with
  | 0, hx => obtain rfl : u = x := Option.some.inj hx; exact h0
  | 1, hx => obtain rfl : v = x := Option.some.inj hx; exact h1
def bumpRel (e8 eS : TypeId) (N : Nat) (A : Option Addr) (n c : Nat) (xb : Int) (X : Nat) (w0 : World) (i : Value) (wr : World) : Prop :=
  ∃ j : Nat, i = .int .i64 (j : Int) ∧ j ≤ n ∧ (∃ l', OwnB wr e8 N (.slice A n c) n l') ∧ At0 wr X [.int .i64 xb, .slice A n c] eS ∧ (∀ g, (Value.slice A n c).ownBlock = some g → g ≠ X) ∧ Below N w0 wr

/-! ### the laws' own live -/
def exC : Bt := ⟨6, 6, 0, 0, -1, 0, 0, false, 0, []⟩
theorem exC_form : Bat.form exC = true := by decide +kernel
theorem exC_body : (body exC).length ≤ 60 := by
  unfold body exC hd tl
  simp only [vs]
  repeat rw [vb_small (by decide)]
  decide +kernel
theorem exC_ch : chB exC = 0 := by
  have h := byB_length exC
  have h2 := exC_body
  unfold chB
  rw [if_pos exC_form, if_neg (by omega)]
theorem exC_len : (byB exC).length ≤ 100 := by
  have h := byB_length exC
  have h2 := exC_body
  omega
end Go.Proofs.YtejcjmiofidedaaGreatDoor.Seg

/- What a segment's box and a row of batches of the call's own keep, while the box is stored into and the row grows; two rows of batches as one. -/
namespace Go.Proofs.YtejcjmiofidedaaGreatDoor.Seg
open Go.RowKit Oct Rec Crc Bat Lay RowF

def At2 (W : World) (g : Nat) (cs : List Value) : Prop := g < W.heap.size ∧ ∀ j v, cs[j]? = some v → W.cell? ⟨g, j, none⟩ = some v ∧ W.frozen? ⟨g, j, none⟩ = false
section
variable {W X : World} {g : Nat} {cs : List Value} {e : TypeId} {row : Option Nat}
theorem At2.of (h : At0 W g cs e) : At2 W g cs := ⟨h.lt, fun j _v hv => ⟨(h.cell j).trans hv, h.frozen j⟩⟩
theorem At2.below (h : At2 W g cs) (hb : Below W.heap.size W X) : At2 X g cs :=
  ⟨Nat.lt_of_lt_of_le h.1 hb.size, fun j v hv => ⟨(hb.cell (p := ⟨g, j, none⟩) h.1).trans (h.2 j v hv).1, (hb.frozen (p := ⟨g, j, none⟩) h.1).trans (h.2 j v hv).2⟩⟩
theorem At2.kept (h : At2 W g cs) (hg : W.grownBy X row) (hne : some g ≠ row) : At2 X g cs :=
  ⟨Nat.lt_of_lt_of_le h.1 hg.size, fun j v hv => ⟨(World.cell?_of_block (a := ⟨g, j, none⟩) (hg.block g h.1 hne)).trans (h.2 j v hv).1, (World.frozen?_of_block (a := ⟨g, j, none⟩) (hg.block g h.1 hne)).trans (h.2 j v hv).2⟩⟩
theorem At2.off (h : At2 W g cs) {p : Addr} (hne : g ≠ p.block) (u : Value) : At2 (W.setCell p u) g cs :=
  ⟨by simpa using h.1, fun j v hv => ⟨(cell_off (by simpa using hne)).trans (h.2 j v hv).1, by rw [World.frozen?_setCell]; exact (h.2 j v hv).2⟩⟩
theorem At2.put2 {u v u' v' : Value} (h : At2 W g [u, v]) : At2 ((W.setCell ⟨g, 0, none⟩ u').setCell ⟨g, 1, none⟩ v') g [u', v'] := by
  have h0 := h.2 0 _ rfl
  have h1 := h.2 1 _ rfl
  refine ⟨by simpa using h.1, fun j x hx => ?_⟩
  rw [World.frozen?_setCell, World.frozen?_setCell]
  match j, hx with
  | 0, hx => obtain rfl : u' = x := Option.some.inj hx; exact ⟨by simp [go_sem, h0.1], h0.2⟩
  | 1, hx => obtain rfl : v' = x := Option.some.inj hx; exact ⟨by simp [go_sem, h1.1], h1.2⟩
end
theorem grownBy_set (W : World) (p : Addr) (u : Value) : W.grownBy (W.setCell p u) (some p.block) :=
  ⟨rfl, rfl, rfl, by simp, fun k _ hne => Below.heap_setCell _ _ _ _ fun h => hne (by rw [h])⟩
theorem ownT_off {w : World} {e : TypeId} {R : Nat → Prop} {B : Nat} {v : Value} {n : Nat} {L : List Bt} (h : OwnT w e R B v n L) {p : Addr} (hv : v.ownBlock ≠ some p.block) (hR : ∀ b, R b → b ≠ p.block) (u : Value) : OwnT (w.setCell p u) e R B v n L := by
  obtain ⟨hs, h1, h2, h3⟩ := h
  exact ⟨hs, World.ownsRow.kept h1 (grownBy_set w p u) (.inr hv), h2, fun x hx => (h3 x hx).keep (by simp) fun b o _ hb _ => cell_off (by simpa using hR b hb)⟩
theorem lead_rd {w : World} {B : Nat} {b : Bt} {A : Option Addr} {n c : Nat} {row : Option Nat} (hr : RdR w B A n b.recs) (hB : B ≤ w.heap.size) (hc : n ≤ c) (hn : n ≤ 1099511627776) (hf : Fits b) (hrow : ∀ g, row = some g → B ≤ g) : LeadT w (fun g => g < B) row (b, A, n, c) := by
  refine ⟨hr.more hB, hc, hn, hf, fun a ha hn0 => ?_⟩
  obtain ⟨g, o, r, hA, hg, _⟩ := hr.at (k := 0) hn0
  rw [hA] at ha
  obtain rfl := Option.some.inj ha
  refine ⟨hg, fun he => ?_⟩
  have h9 := hrow g he.symm
  omega
end Go.Proofs.YtejcjmiofidedaaGreatDoor.Seg
