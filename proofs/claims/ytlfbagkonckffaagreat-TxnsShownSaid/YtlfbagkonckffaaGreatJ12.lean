/- Joined: Takes, InX, EpoW, TxnEw, TxnEO. -/
import Derived.WalkKit
import Derived.Deep.RegionHeld3
import Derived.Test.YtlfbagkonckffaaGreatJ11
import Derived.Test.YtlfbagkonckffaaGreatJ10
import Derived.Test.YtlfbagkonckffaaGreatJ09
import Derived.RangeFuncNested
import Derived.RangeFuncCalls
import Derived.RangeFuncLeaves
import Derived.RangeFuncBound
import Derived.Shelf.Abstract
import Derived.Shelf.RegionOpen
import Derived.OwnWalkIn
import Derived.TacticsInMore
import Derived.LoopNIn
import Derived.LoopIn
/- A region that draws its order, operation by operation: one that is not wanted, one that only reckons, the only one that may come up. Nothing of the program. -/
namespace Go.Proofs.YtlfbagkonckffaaGreat.Bat
open Go.RowKit
section
variable {P : Program} {ops : Array Oper} {Q : Exit → Act → World → Prop} {md : Region.Mode}
theorem takeU (i : Nat) (oi : Oper) {fuel : Nat} {listed : Array Bool} {a : Act} {w : World} (hi : ops[i]? = some oi) (hs : Region.noSelect ops = true) (hf : Region.free md ops listed i = true) (hr : (Region.ready md ops listed).contains i = true)
    (hw : Region.wanted oi (yielded ops a.tmps) = false) (h : wpAnyH P md ops Q (fun _ => True) fuel (listed.setIfInBounds i true) (a.put oi.dst undef) w) (hQ : ∀ c a w, Q (.panic c) (a.put oi.dst undef) w → Q (.panic c) a w := by exact fun _ _ _ h => h) : wpAnyH P md ops Q (fun _ => True) (fuel + 1) listed a w :=
  wpAnyH_take hi hs hf hr hQ (Or.inr ⟨hw, rfl⟩) trivial h
theorem takeP (i : Nat) (oi : Oper) (v : Value) {fuel : Nat} {listed : Array Bool} {a : Act} {w : World} (hi : ops[i]? = some oi) (hs : Region.noSelect ops = true) (hf : Region.free md ops listed i = true) (hr : (Region.ready md ops listed).contains i = true)
    (hw : Region.wanted oi (yielded ops a.tmps) = true) (hy : ∀ w : World, True → (execOp a.eval oi).run P w = .ok (.value v) w) (h : wpAnyH P md ops Q (fun _ => True) fuel (listed.setIfInBounds i true) (a.put oi.dst v) w) (hQ : ∀ c a w, Q (.panic c) (a.put oi.dst v) w → Q (.panic c) a w := by exact fun _ _ _ h => h) : wpAnyH P md ops Q (fun _ => True) (fuel + 1) listed a w :=
  wpAnyH_take hi hs hf hr hQ (Or.inl ⟨hw, hy⟩) trivial h
theorem takeB (i : Nat) (oi : Oper) {fuel : Nat} {listed : Array Bool} {a : Act} {w : World} (hr : Region.ready md ops listed = [i]) (hi : ops[i]? = some oi)
    (h : ∀ K' : Act → World → Prop, Shut (∀ a w, (fun _ : World => True) w → ((fun _ : World => True) w → wpAnyH P md ops Q (fun _ => True) fuel (listed.setIfInBounds i true) a w) → K' a w) → if Region.wanted oi (yielded ops a.tmps) = true then Oper.wp P oi a w K' Q else K' (a.put oi.dst undef) w) : wpAnyH P md ops Q (fun _ => True) (fuel + 1) listed a w :=
  wpAnyH_ready hr (by simp) (AllReadyH.cons hi h AllReadyH.nil)
theorem tU (i d : Nat) {oi : Oper} {fuel : Nat} {listed : Array Bool} {a : Act} {w : World} (hi : ops[i]? = some oi) (h : wpAnyH P md ops Q (fun _ => True) fuel (listed.setIfInBounds i true) (a.put (some d) undef) w) (hd : oi.dst = some d := by rfl) (hs : Region.noSelect ops = true := by kernel_rfl) (hf : Region.free md ops listed i = true := by kernel_rfl)
    (hr : (Region.ready md ops listed).contains i = true := by kernel_rfl) (hw : Region.wanted oi (yielded ops a.tmps) = false := by rfl)
    (hQ : ∀ c a w, Q (.panic c) (a.put (some d) undef) w → Q (.panic c) a w := by exact fun _ _ _ h => h) : wpAnyH P md ops Q (fun _ => True) (fuel + 1) listed a w := by
  rw [← hd] at h hQ
  exact takeU i oi hi hs hf hr hw h hQ
theorem tP (i d : Nat) (v : Value) {oi : Oper} {fuel : Nat} {listed : Array Bool} {a : Act} {w : World} (hi : ops[i]? = some oi) (h : wpAnyH P md ops Q (fun _ => True) fuel (listed.setIfInBounds i true) (a.put (some d) v) w) (hd : oi.dst = some d := by rfl) (hs : Region.noSelect ops = true := by kernel_rfl) (hf : Region.free md ops listed i = true := by kernel_rfl)
    (hr : (Region.ready md ops listed).contains i = true := by kernel_rfl) (hw : Region.wanted oi (yielded ops a.tmps) = true := by rfl)
    (hy : ∀ w : World, True → (execOp a.eval oi).run P w = .ok (.value v) w := by (intro w hSw; simp only [List.getElem_toArray, List.getElem_cons_succ, List.getElem_cons_zero]; go_simp; (first | done | with_reducible rfl)))
    (hQ : ∀ c a w, Q (.panic c) (a.put (some d) v) w → Q (.panic c) a w := by exact fun _ _ _ h => h) : wpAnyH P md ops Q (fun _ => True) (fuel + 1) listed a w := by
  rw [← hd] at h hQ
  exact takeP i oi v hi hs hf hr hw hy h hQ
theorem regN (n : Nat) {id : Nat} {a : Act} {w : World} (hm : P.follows .mixedOrders = true) (h : wpAnyH P .any ops Q (fun _ => True) n (Array.replicate n false) a w.drew) (hn : ops.size = n := by kernel_rfl) : (Code.region id ops true).wp P Q a w :=
  wp_region_held_drew (S := fun _ => True) hm trivial (fun _ => by rw [hn]; exact h)
theorem uN (n s : Nat) {oi : Oper} {fuel : Nat} {listed : Array Bool} {a : Act} {w : World} (hi : ops[n - fuel]? = some oi) (h : wpAnyH P md ops Q (fun _ => True) fuel (listed.setIfInBounds (n - fuel) true) (a.put (some (n - fuel + s)) undef) w) (hd : oi.dst = some (n - fuel + s) := by rfl) (hs : Region.noSelect ops = true := by kernel_rfl) (hf : Region.free md ops listed (n - fuel) = true := by kernel_rfl)
    (hr : (Region.ready md ops listed).contains (n - fuel) = true := by kernel_rfl) (hw : Region.wanted oi (yielded ops a.tmps) = false := by rfl)
    (hQ : ∀ c a w, Q (.panic c) (a.put (some (n - fuel + s)) undef) w → Q (.panic c) a w := by exact fun _ _ _ h => h) : wpAnyH P md ops Q (fun _ => True) (fuel + 1) listed a w :=
  tU (n - fuel) (n - fuel + s) hi h hd hs hf hr hw hQ
theorem pN (n s : Nat) (v : Value) {oi : Oper} {fuel : Nat} {listed : Array Bool} {a : Act} {w : World} (hi : ops[n - fuel]? = some oi) (h : wpAnyH P md ops Q (fun _ => True) fuel (listed.setIfInBounds (n - fuel) true) (a.put (some (n - fuel + s)) v) w) (hd : oi.dst = some (n - fuel + s) := by rfl) (hs : Region.noSelect ops = true := by kernel_rfl) (hf : Region.free md ops listed (n - fuel) = true := by kernel_rfl)
    (hr : (Region.ready md ops listed).contains (n - fuel) = true := by kernel_rfl) (hw : Region.wanted oi (yielded ops a.tmps) = true := by rfl)
    (hy : ∀ w : World, True → (execOp a.eval oi).run P w = .ok (.value v) w := by (intro w hSw; simp only [Nat.reduceSub, List.getElem_toArray, List.getElem_cons_succ, List.getElem_cons_zero]; go_simp; (first | done | with_reducible rfl)))
    (hQ : ∀ c a w, Q (.panic c) (a.put (some (n - fuel + s)) v) w → Q (.panic c) a w := by exact fun _ _ _ h => h) : wpAnyH P md ops Q (fun _ => True) (fuel + 1) listed a w :=
  tP (n - fuel) (n - fuel + s) v hi h hd hs hf hr hw hy hQ
theorem tpu {a : Act} {d : Tmp} {v : Value} : a.put (some d) v = { a with tmps := a.tmps.setIfInBounds d v } := rfl
theorem tsa {α : Type} {l : List α} {i : Nat} {x : α} : l.toArray.setIfInBounds i x = (l.set i x).toArray := List.setIfInBounds_toArray l i x
theorem ts0 {α : Type} {x y : α} {l : List α} : (x :: l).set 0 y = y :: l := rfl
theorem ts1 {α : Type} {x y : α} {l : List α} {i : Nat} : (x :: l).set (i + 1) y = x :: l.set i y := rfl
end
end Go.Proofs.YtlfbagkonckffaaGreat.Bat

/- A region that draws its order, in few letters: each operation by its number; what can be reckoned is left to default arguments. Nothing of the program. -/
namespace Go.Proofs.YtlfbagkonckffaaGreat.InR
open Go.RowKit

section
variable {P : Program} {md : Region.Mode} {ops L : Array Oper} {Q : Act → World → Prop} {S : World → Prop} {k d fuel m n i : Nat} {w : World} {oi : Oper} {tbl : List (Nat × Nat)} {v : Value}
theorem xq (i : Nat) {l : List Value} {ds} (hL : Hid (ops = L)) (hR : Hid (Reg md L k n tbl)) (hS : S w) (h : chn P md ops Q S k fuel (m ||| 2 ^ i) (Act.mk (l.set d v).toArray ds) w) (hi : L[i]? = some oi := by rfl) (hok : okT n tbl m i = true := by kernel_rfl) (hw : Region.wanted oi (yielded L l.toArray) = true := by kernel_rfl) (hd : oi.dst = some d := by rfl)
    (hy : ∀ w, S w → (execOp (Act.mk l.toArray ds).eval oi).run P w = .ok (.value v) w := by (intro w9 hS9; go_simp; (first | done | with_reducible rfl))) : chn P md ops Q S k (fuel + 1) m (Act.mk l.toArray ds) w := stepTQ hL hR i _ v rfl hi hok hw hd hy hS h
theorem xu (i : Nat) {l : List Value} {ds} (hL : Hid (ops = L)) (hR : Hid (Reg md L k n tbl)) (hS : S w) (h : chn P md ops Q S k fuel (m ||| 2 ^ i) (Act.mk (l.set d undef).toArray ds) w) (hi : L[i]? = some oi := by rfl) (hok : okT n tbl m i = true := by kernel_rfl) (hw : Region.wanted oi (yielded L l.toArray) = false := by kernel_rfl) (hd : oi.dst = some d := by rfl) :
    chn P md ops Q S k (fuel + 1) m (Act.mk l.toArray ds) w := stepTU hL hR i _ rfl hi hok hw hd hS h
theorem yq (i : Nat) {l : List Value} {ds} (hL : Hid (ops = L)) (hS : S w) (h : chn P md ops Q S k fuel (m ||| 2 ^ i) (Act.mk (l.set d v).toArray ds) w) (hi : L[i]? = some oi := by rfl) (hok : okQ md L k m i = true := by kernel_rfl) (hw : Region.wanted oi (yielded L l.toArray) = true := by kernel_rfl) (hd : oi.dst = some d := by rfl)
    (hy : ∀ w, S w → (execOp (Act.mk l.toArray ds).eval oi).run P w = .ok (.value v) w := by (intro w9 hS9; go_simp; (first | done | with_reducible rfl))) : chn P md ops Q S k (fuel + 1) m (Act.mk l.toArray ds) w := stepQL hL i _ v rfl hi hok hw hd hy hS h
theorem xc (i : Nat) {a : Act} (hL : Hid (ops = L)) (h : Oper.wp P oi a w (fun a' w' => S w' ∧ chn P md ops Q S k fuel (m ||| 2 ^ i) a' w') (Nrm (lift Q))) (hi : L[i]? = some oi := by rfl) (hok : okC md L m i = true := by kernel_rfl) (hw : Region.wanted oi (yielded L a.tmps) = true := by kernel_rfl) : chn P md ops Q S k (fuel + 1) m a w :=
  stepC hL i _ rfl hi hok hw (Oper.wp_mono (fun _ _ h => ⟨fun _ => h.1, h.2⟩) h)
theorem xl (i : Nat) {a : Act} (hL : Hid (ops = L)) (h : Oper.wp P oi a w (fun a' w' => chn P md ops Q S i fuel (m ||| 2 ^ i) a' w') (Nrm (lift Q))) (hi : L[i]? = some oi := by rfl) (hok : okC md L m i = true := by kernel_rfl) (hw : Region.wanted oi (yielded L a.tmps) = true := by kernel_rfl) : chn P md ops Q S i (fuel + 1) m a w :=
  stepC hL i _ rfl hi hok hw (Oper.wp_mono (fun _ _ h => ⟨fun h9 => absurd rfl h9, h⟩) h)
theorem ls0 {x y : Value} {l : List Value} : (x :: l).set 0 y = y :: l := rfl
theorem ls1 {x y : Value} {l : List Value} {i : Nat} : (x :: l).set (i + 1) y = x :: l.set i y := rfl
end
theorem xstepC2 {P : Program} {md : Region.Mode} {ops L : Array Oper} {Q : Act → World → Prop} {S : World → Prop} {k fuel m : Nat} {a : Act} {w : World} {oi oj : Oper} (hL : Hid (ops = L)) (i j m1 m2 : Nat) (hm1 : m1 = m ||| 2 ^ i) (hm2 : m2 = m ||| 2 ^ j) (hi : L[i]? = some oi) (hj : L[j]? = some oj)
    (hok : (Region.ready md L (bitsA L.size m) == [i, j]) = true) (hw : Region.wanted oi (yielded L a.tmps) = true) (hw2 : Region.wanted oj (yielded L a.tmps) = true)
    (h : Oper.wp P oi a w (fun a' w' => (i ≠ k → S w') ∧ chn P md ops Q S k fuel m1 a' w') (Nrm (lift Q))) (h2 : Oper.wp P oj a w (fun a' w' => (j ≠ k → S w') ∧ chn P md ops Q S k fuel m2 a' w') (Nrm (lift Q))) : chn P md ops Q S k (fuel + 1) m a w := by
  obtain rfl := hL.out
  subst hm1
  subst hm2
  have hr : Region.ready md ops (bitsA ops.size m) = [i, j] := by simpa using hok
  unfold chn at h h2 ⊢
  refine ⟨fun h0 => by (rw [hr] at h0; cases h0), fun x hx => ?_⟩
  rw [hr] at hx
  rcases List.mem_cons.1 hx with rfl | hx
  · refine wpOp_step hi fun K' hK => ?_
    rw [if_pos hw]
    refine Oper.wp_mono (fun a' w' h2 => hK a' w' ?_) h
    rw [bitsA_set (lt_of hi rfl)]
    exact h2
  · rw [List.mem_singleton] at hx
    subst hx
    refine wpOp_step hj fun K' hK => ?_
    rw [if_pos hw2]
    refine Oper.wp_mono (fun a' w' h3 => hK a' w' ?_) h2
    rw [bitsA_set (lt_of hj rfl)]
    exact h3
theorem xc2 (i j : Nat) {P : Program} {md : Region.Mode} {ops L : Array Oper} {Q : Act → World → Prop} {S : World → Prop} {k fuel m : Nat} {a : Act} {w : World} {oi oj : Oper} (hL : Hid (ops = L)) (h : Oper.wp P oi a w (fun a' w' => S w' ∧ chn P md ops Q S k fuel (m ||| 2 ^ i) a' w') (Nrm (lift Q))) (h2 : Oper.wp P oj a w (fun a' w' => S w' ∧ chn P md ops Q S k fuel (m ||| 2 ^ j) a' w') (Nrm (lift Q)))
    (hi : L[i]? = some oi := by rfl) (hj : L[j]? = some oj := by rfl) (hok : (Region.ready md L (bitsA L.size m) == [i, j]) = true := by kernel_rfl) (hw : Region.wanted oi (yielded L a.tmps) = true := by kernel_rfl) (hw2 : Region.wanted oj (yielded L a.tmps) = true := by kernel_rfl) : chn P md ops Q S k (fuel + 1) m a w :=
  xstepC2 hL i j _ _ rfl rfl hi hj hok hw hw2 (Oper.wp_mono (fun _ _ h => ⟨fun _ => h.1, h.2⟩) h) (Oper.wp_mono (fun _ _ h => ⟨fun _ => h.1, h.2⟩) h2)
theorem region_lr {P : Program} {ops : Array Oper} {l m : Nat} {a : Act} {w : World} {id : Nat} {Q : Exit → Act → World → Prop} (S : World → Prop) (k n : Nat) (hm : P.follows .mixedOrders = true) (hd : noDefer ops = true) (hn : ops.size = n)
    (h : ∀ (ops' : Array Oper) (Q' : Act → World → Prop), Hid (ops' = ops) → Hid (∀ a w, Q .normal a w → Q' a w) → chn P .any ops' Q' S k n 0 a w.drew) : (Code.region id ops true).wpIn (Fence.wide.inRound l) m P Q a w := by
  have h1 := h ops (fun a w => Q .normal a w) (Lib.hid rfl) (Lib.hid fun _ _ h => h)
  unfold chn at h1
  rw [bitsA_zero, ← hn] at h1
  refine wpIn_mono (region_round (Q := lift fun a w => Q .normal a w) S k hm hd h1) fun e a w h => ?_
  cases e <;> first | exact h | exact (h : False).elim
end Go.Proofs.YtlfbagkonckffaaGreat.InR

/- Words for the walks of layer 10: boxes, cells of a row. Nothing of the program. -/
namespace Go.Proofs.YtlfbagkonckffaaGreat.Epo
open Go.RowKit Oct RowF Lay

section
variable {W X w w' : World} {g o : Nat} {cs : List Value} {e : TypeId} {a b : Value}
def At0 (W : World) (g : Nat) (cs : List Value) (e : TypeId) : Prop := W.heap[g]? = some (.cells cs.toArray e (0, 0))
theorem At0.lt (h : At0 W g cs e) : g < W.heap.size := (Array.getElem?_eq_some_iff.1 h).1
theorem At0.new (W : World) (cs : List Value) (e : TypeId) : At0 (W.alloc (.cells cs.toArray e)) W.heap.size cs e := World.alloc_heap_new W _
theorem At0.below (h : At0 W g cs e) (hb : Below W.heap.size W X) : At0 X g cs e := (hb.block g h.lt).trans h
theorem At0.cell (h : At0 W g cs e) (j : Nat) : W.cell? ⟨g, j, none⟩ = cs[j]? := by rw [cell_of_row _ _ _ _ e _ h]; simp
theorem At0.frozen (h : At0 W g cs e) (j : Nat) : W.frozen? ⟨g, j, none⟩ = false := frozen_of_row W g j _ e h
theorem cel2 (h : At0 W g [a, b] e) : W.cell? ⟨g, 0, none⟩ = some a ∧ W.cell? ⟨g, 1, none⟩ = some b := ⟨h.cell 0, h.cell 1⟩
def AtO (W : World) (g o : Nat) (cs : List Value) : Prop := g < W.heap.size ∧ ∀ j v, cs[j]? = some v → W.cell? ⟨g, o + j, none⟩ = some v
theorem AtO.below (h : AtO W g o cs) (hb : Below W.heap.size W X) : AtO X g o cs := ⟨Nat.lt_of_lt_of_le h.1 hb.size, fun j v hv => (hb.cell (p := ⟨g, o + j, none⟩) h.1).trans (h.2 j v hv)⟩
theorem AtO.two (hl : g < W.heap.size) (h0 : W.cell? ⟨g, o, none⟩ = some a) (h1 : W.cell? ⟨g, o + 1, none⟩ = some b) : AtO W g o [a, b] := by
  refine ⟨hl, fun j x hx => ?_⟩
  match j, hx with
  | 0, hx => obtain rfl : a = x := Option.some.inj hx; exact h0
  | 1, hx => obtain rfl : b = x := Option.some.inj hx; exact h1
theorem belA (w : World) (o : Obj) : Below w.heap.size w (w.alloc o) := (Below.refl _ _).alloc (Nat.le_refl _) o
theorem bel_trans {w1 w2 : World} (h : Below w.heap.size w w1) (h2 : Below w1.heap.size w1 w2) : Below w.heap.size w w2 := h.trans (h2.mono h.size)
end
end Go.Proofs.YtlfbagkonckffaaGreat.Epo

/- Words for the landed txns' ranges: what is kept from round to round. Nothing of the program. -/
namespace Go.Proofs.YtlfbagkonckffaaGreat.Txn
open Go.RowKit Oct RowF RngQ Lay RowL
open Epo (At0 AtO belA)

section
variable {A B X Y W : World} {g n₀ N : Nat} {cs : List Value} {e : TypeId} {v : Value} {row : Option Nat}
theorem box_own (hv : Boxed A g e v) (hg : A.grownBy B row) (hrow : ∀ r, row = some r → N ≤ r ∧ ∃ o : Obj, A.heap[r]? = some o ∧ o.isCells = false) : Boxed B g e v := hv.kept hg fun e' => by
  obtain ⟨_, o, ho, hc⟩ := hrow g e'.symm
  rw [show A.heap[g]? = _ from hv] at ho; cases ho; cases hc
theorem at_own (h : At0 A g cs e) (hg : A.grownBy B row) (hrow : ∀ r, row = some r → N ≤ r ∧ ∃ o : Obj, A.heap[r]? = some o ∧ o.isCells = false) : At0 B g cs e := (grownBy_keeps_cells hg (fun r e => (hrow r e).2) h rfl).trans h
theorem bel_own (hn : n₀ ≤ W.heap.size) (hN : n₀ ≤ N) (h : Below n₀ W A) (hg : A.grownBy B row) (hrow : ∀ r, row = some r → N ≤ r ∧ ∃ o : Obj, A.heap[r]? = some o ∧ o.isCells = false) : Below n₀ W B := ownFrom_below (β := Unit) hn hN () A B row h hg hrow
theorem row_own {α : Type} {f : α → List Value} {size n : Nat} {l : List α} {B9 : Nat} (h : OwnF f size A e B9 v n l) (hg : A.grownBy B row) (hrow : ∀ r, row = some r → N ≤ r ∧ ∃ o : Obj, A.heap[r]? = some o ∧ o.isCells = false) : OwnF f size B e B9 v n l := by
  refine World.ownsRow.kept h hg ?_
  cases hv : v.ownBlock with
  | none => exact .inl rfl
  | some r =>
    refine .inr fun e' => ?_
    obtain ⟨_, o, ho, hc⟩ := hrow r e'.symm
    rcases h.2 with ⟨h', _⟩ | ⟨g', cap', cur, h', _, hg', _⟩
    · rw [h'] at hv; simp [Value.ownBlock] at hv
    · rw [h'] at hv
      simp only [Value.ownBlock, Option.some.injEq] at hv
      subst hv
      rw [hg'] at ho
      cases ho
      cases hc
theorem old_own {o : Obj} {D : Nat} (h : A.heap[D]? = some o) (hD : D < N) (hg : A.grownBy B row) (hrow : ∀ r, row = some r → N ≤ r ∧ ∃ o : Obj, A.heap[r]? = some o ∧ o.isCells = false) : B.heap[D]? = some o := (hg.block D (Array.getElem?_eq_some_iff.1 h).1 (fun e => by have := (hrow D e.symm).1; omega)).trans h
theorem old_below {o : Obj} {D : Nat} {m : Nat} (h : A.heap[D]? = some o) (hb : Below m A B) (hm : D < m) : B.heap[D]? = some o := (hb.block D hm).trans h
theorem at_set {b : Nat} (h : At0 A g cs e) (hne : b ≠ g) (j : Nat) (u : Value) : At0 (A.setCell ⟨b, j, none⟩ u) g cs e := (Below.heap_setCell _ _ _ _ (by rintro rfl; exact hne rfl)).trans h
structure FarR (n₀ m : Nat) (K : Nat → Prop) (A B : World) : Prop where
  keep : KeepsFrom n₀ A B
  kept : KeptQ K m A B
theorem keeps_bel (h : Below A.heap.size A B) : KeepsOthers A B := ⟨h.size, fun k _o hk _ => (h.block k (Array.getElem?_eq_some_iff.1 hk).1).trans hk⟩
theorem ea_one {α : Type} {f : α → List Value} {k n₀ bx br c : Nat} {x : LX α} {w : World} {e1 e2 : TypeId} (hr : RdF f k w n₀ x.A x.n x.l) (hn : x.n ≤ reach) (h0 : n₀ ≤ w.heap.size) (hb : At0 w br [.slice x.A x.n x.c] e1) (hx : At0 w bx [.slice (some ⟨br, 0, none⟩) 1 c] e2) : EaR f k n₀ bx br 1 c [x] w :=
  ⟨rfl, by omega, fun y hy => by rw [List.mem_singleton] at hy; subst hy; exact ⟨hr, hn⟩, h0, hx.lt, hb.lt, hx.cell 0, fun i y hi => by
    cases i with
    | zero => simp only [List.getElem?_cons_zero, Option.some.injEq] at hi; subst hi; exact hb.cell 0
    | succ i => simp at hi⟩
theorem ea_two {α : Type} {f : α → List Value} {k n₀ bx br c : Nat} {x y : LX α} {w : World} {e1 e2 : TypeId} (hr : RdF f k w n₀ x.A x.n x.l) (hn : x.n ≤ reach) (hr2 : RdF f k w n₀ y.A y.n y.l) (hn2 : y.n ≤ reach) (h0 : n₀ ≤ w.heap.size) (hb : At0 w br [.slice x.A x.n x.c, .slice y.A y.n y.c] e1) (hx : At0 w bx [.slice (some ⟨br, 0, none⟩) 2 c] e2) : EaR f k n₀ bx br 2 c [x, y] w :=
  ⟨rfl, by omega, fun z hz => by
    rcases List.mem_cons.1 hz with rfl | hz
    · exact ⟨hr, hn⟩
    · rw [List.mem_singleton] at hz; subst hz; exact ⟨hr2, hn2⟩, h0, hx.lt, hb.lt, hx.cell 0, fun i z hi => by
    match i with
    | 0 => simp only [List.getElem?_cons_zero, Option.some.injEq] at hi; subst hi; exact hb.cell 0
    | 1 => simp only [List.getElem?_cons_succ, List.getElem?_cons_zero, Option.some.injEq] at hi; subst hi; exact hb.cell 1
    | i + 2 => simp at hi⟩
theorem cat_one {α : Type} (x : LX α) : catL [x] = x.l := by simp [catL]
theorem cat_two {α : Type} (x y : LX α) : catL [x, y] = x.l ++ y.l := by simp [catL]
end
end Go.Proofs.YtlfbagkonckffaaGreat.Txn

/- The landed txns.each of watermeet/api.Open, and its iterator. -/
namespace Go.Proofs.YtlfbagkonckffaaGreat.Txn
open Go.RowKit Go.Shelf Oct RowF Lay InR RngQ Bat

attribute [local go_sem] Oper.semAt_some

theorem eachO_is (A : Option Addr) (n c : Nat) (w : World) : Calls Tryz.prog 62 #[.slice A n c] w fun e w' => e = .returned (.func (.func 88) #[] #[.pointer (some ⟨w.heap.size, 0, none⟩)]) ∧ w.alloc (.cells #[.slice A n c] 113) = w' := by
  go_enter Tryz.func62, Tryz.ntmps62
  go_wp2
  go_ret
  exact ⟨rfl, rfl⟩
def encO (x : Opn) : Array Value := #[.agg #[.int .i64 x.pid, .int .i64 x.fst]]
set_option maxRecDepth 100000 in
set_option maxHeartbeats 4000000 in
theorem eaO_in (d : Nat) (hd : 2 ≤ d) (l bx br n₀ m c : Nat) (Ls : List (LX Opn)) (J Jx : List Opn → World → Prop)
    (hY : ∀ pre x W0 W1, J pre W0 → Below W0.heap.size W0 W1 → EaQ (catL Ls) pre x W0 W1 → YieldAt Fence.wide (d - 1) Tryz.prog l (encO x) W1 fun e W2 =>
      (e = .returned (.bool true) ∧ J (pre ++ [x]) W2 ∧ KeptQ (EaB n₀ bx br) W0.heap.size W1 W2) ∨ (e = .returned (.bool false) ∧ Jx (pre ++ [x]) W2))
    (W : World) (hR : EaR opC 2 n₀ bx br m c Ls W) (h0 : J [] W) :
    CallsIn Fence.wide d Tryz.prog 88 #[.func (.yield l) #[] #[], .pointer (some ⟨bx, 0, none⟩)] W fun e W2 => (∃ v, e = .returned v) ∧ (J (catL Ls) W2 ∨ (∃ pre, Jx pre W2)) := by
  have hd1 : 1 ≤ d := by omega
  have hd2 : 1 ≤ d - 1 := by omega
  have HR := Lib.hid hR
  have hb0 := hR.bx
  have hm9 := hR.few
  have HK0 := Lib.hid (EaK.refl (n₀ := n₀) hR.lx hR.lr)
  clear hR
  refine callsIn_of_wp Tryz.func88 rfl trivial ?_ rfl
  simp only [Tryz.ntmps88, List.size_toArray, List.length_cons, List.length_nil, Nat.reduceAdd, Nat.reduceSub, Array.replicate_succ, Array.replicate_zero, List.push_toArray, List.append_toArray, List.nil_append, List.cons_append]
  gi_wp2
  gi_loopw [9] (fun p wr => eaRel n₀ bx br Ls J W p wr) (fun p _ => m - (intOf p).toNat)
  case atStart => exact ⟨0, rfl, Nat.zero_le _, h0, HK0.out⟩
  case round =>
    obtain ⟨i, rfl, hi, hJ, hK⟩ := hrel
    have HK := Lib.hid hK
    have HLEN := Lib.hid HR.out.len
    by_cases hlt : i < m
    case neg =>
      have him : i = m := by have := HLEN.out; omega
      have hq9 : ¬ ((i : Int) < (m : Int)) := by omega
      have HJ := Lib.hid (show J (catL Ls) wr from by rw [List.take_of_length_le (by have := HLEN.out; omega)] at hJ; exact hJ)
      clear hJ hK him hi
      gi_wp2
      go_end0
      exact ⟨⟨_, rfl⟩, .inl HJ.out⟩
    case pos =>
      obtain ⟨⟨A, n, c1, L⟩, hx, hrow, hrd, hnr⟩ := HR.out.at HK.out hlt
      have HX := Lib.hid hx
      have HRD := Lib.hid (show RdF opC 2 W n₀ A n L from (HR.out.rd _ (List.mem_of_getElem? hx)).1)
      have hq1 : (0 : Int) ≤ (i : Int) := by omega
      have hq2 : (i : Int) < (m : Int) := by omega
      have HN0 := Lib.hid (Nat.le_trans HR.out.n0 HK.out.bel.size)
      obtain ⟨pre0, hpre0⟩ : ∃ p, catL (Ls.take i) = p := ⟨_, rfl⟩
      have HCS := Lib.hid (catL_step hx)
      rw [hpre0] at HCS hJ
      have HJ := Lib.hid hJ
      simp only at hrow
      replace hnr : n ≤ 140737488351232 := hnr
      clear hx hrd hJ hK hpre0
      gi_wp2
      gi_loopw [15] (fun p wr => ebRel n₀ bx br pre0 ⟨A, n, c1, L⟩ J W p wr) (fun p _ => n - (intOf p).toNat)
      case atStart => exact ⟨0, rfl, Nat.zero_le _, by rw [List.take_zero, List.append_nil]; exact HJ.out, HK.out⟩
      case round =>
        obtain ⟨j, rfl, hj, hJ2, hK2⟩ := hrel
        rename World => w2
        have HK2 := Lib.hid hK2
        have HN2 := Lib.hid (Nat.le_trans HR.out.n0 HK2.out.bel.size)
        by_cases hlt2 : j < n
        case neg =>
          have hq9 : ¬ ((j : Int) < (n : Int)) := by simp only at hj; omega
          have HJ2 := Lib.hid (show J (catL (Ls.take (i + 1))) w2 from by
            rw [HCS.out.1]
            rw [List.take_of_length_le (by have := HRD.out.len; simp only at this hj ⊢; omega)] at hJ2
            exact hJ2)
          have hw9 : IntKind.i64.wrap ((i : Int) + 1) = (i : Int) + 1 := IntWalk.i64_in _ (by omega)
          clear hJ2 hK2 hj hrow
          gi_wp2
          go_roundw
          case rel => exact ⟨i + 1, rfl, by have := HLEN.out; omega, HJ2.out, HK2.out⟩
          case measure => simp [intOf]; omega
        case pos =>
          obtain ⟨b, o, ⟨x0, x1⟩, hA, hbl, hxk, hc⟩ := RdF.at (HRD.out.below HK2.out.bel (Nat.le_refl _)) hlt2
          subst hA
          have y0 : w2.cell? ⟨b, o + j * 2, none⟩ = some _ := hc 0 _ rfl
          have y1 := hc 1 _ rfl
          simp only at y0 y1
          have hQ : EaQ (catL Ls) (pre0 ++ L.take j) ⟨x0, x1⟩ w2 w2 := by
            refine ⟨L.drop (j + 1) ++ catL (Ls.drop (i + 1)), ?_⟩
            rw [HCS.out.2, List.append_assoc, ← List.cons_append]
            have h9 : L = L.take j ++ ⟨x0, x1⟩ :: L.drop (j + 1) := by
              obtain ⟨h8, h7⟩ := List.getElem?_eq_some_iff.1 hxk
              rw [← h7, List.getElem_cons_drop, List.take_append_drop]
            conv => lhs; rw [h9]
            rw [List.append_assoc, List.cons_append]
          have HXK := Lib.hid hxk
          have hq3 : (0 : Int) ≤ (j : Int) := by omega
          have hq4 : (j : Int) < (n : Int) := by omega
          have HSB := Lib.hid (Below.refl w2.heap.size w2)
          obtain ⟨fn, tmps, assign, body, hy, hR1⟩ := hY (pre0 ++ L.take j) ⟨x0, x1⟩ w2 (w2.alloc (.cells (opC ⟨x0, x1⟩).toArray 51)) hJ2 ((Below.refl _ _).alloc (Nat.le_refl _) _) hQ
          dsimp only [encO, opC] at hy
          clear hQ hJ2 hc hxk hbl hK2
          gi_wp2
          refine hR1.mono ?_
          rintro e W3 (⟨rfl, hJ3, hk3⟩ | ⟨rfl, hJx3⟩)
          · have HK3 := Lib.hid (((HK2.out.alloc HN2.out _).kept (Nat.le_trans HN2.out (by simp)) hk3))
            have HJ3 := Lib.hid (show J (pre0 ++ L.take (j + 1)) W3 from by
              have h9 := (List.getElem?_eq_some_iff.1 HXK.out)
              rw [List.take_succ_eq_append_getElem h9.1, h9.2, ← List.append_assoc]
              exact hJ3)
            have hw2 : IntKind.i64.wrap ((j : Int) + 1) = (j : Int) + 1 := IntWalk.i64_in _ (by omega)
            clear hk3 hJ3
            gi_wp2
            go_roundw
            case rel => exact ⟨j + 1, rfl, by simp only; omega, HJ3.out, HK3.out⟩
            case measure => simp [intOf]; omega
          · gi_wp2
            refine bodyPost_ret (results_none rfl _ _ _) rfl ?_
            exact ⟨⟨_, rfl⟩, .inr ⟨_, hJx3⟩⟩
theorem eaO_seq (d : Nat) (hd : 2 ≤ d) (bx br n₀ m c : Nat) (Ls : List (LX Opn)) (w : World) (hR : EaR opC 2 n₀ bx br m c Ls w) :
    SeqQ Fence.wide d Tryz.prog 88 #[.pointer (some ⟨bx, 0, none⟩)] encO (EaB n₀ bx br) (EaQ (catL Ls)) (fun ys => ys = catL Ls) w := fun l J Jx W hW _ _ hY h0 =>
  (eaO_in d hd l bx br n₀ m c Ls J Jx hY W (hR.below hW) h0).mono fun _e _W2 ⟨h1, h2⟩ => ⟨h1, h2.imp (fun h => ⟨_, rfl, h⟩) id⟩
end Go.Proofs.YtlfbagkonckffaaGreat.Txn
