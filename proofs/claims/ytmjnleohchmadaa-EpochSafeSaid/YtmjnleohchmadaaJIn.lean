/- Joined: InC, InT. -/
import Derived.Test.YtmjnleohchmadaaInR
import Derived.Lib.Hide
import Derived.WalkKit
/- A region that draws its order, walked in an order of one's own choice: the operations and the way on are letters, so that a step's goal stays small; what is listed is a number's bits. Nothing of the program. -/
namespace Go.Proofs.Ytmjnleohchmadaa.InR
open Go.RowKit

def bitsA (n m : Nat) : Array Bool := ((List.range n).map fun j => m.testBit j).toArray
theorem bitsA_zero (n : Nat) : bitsA n 0 = Array.replicate n false := by
  unfold bitsA
  apply Array.ext
  · simp
  · intro j h1 h2; simp
theorem bitsA_at (n m j : Nat) : (bitsA n m)[j]? = if j < n then some (m.testBit j) else none := by
  unfold bitsA
  rw [List.getElem?_toArray, List.getElem?_map]
  by_cases h : j < n
  · rw [List.getElem?_range h, if_pos h]; rfl
  · rw [List.getElem?_eq_none (by simpa using h), if_neg h]; rfl
theorem bitsA_set {n m i : Nat} (hi : i < n) : (bitsA n m).setIfInBounds i true = bitsA n (m ||| 2 ^ i) := by
  apply Array.ext_getElem?
  intro j
  have hs : (bitsA n m).size = n := by simp [bitsA]
  rw [Array.getElem?_setIfInBounds, bitsA_at, bitsA_at, hs]
  by_cases hj : i = j
  · subst hj; rw [if_pos rfl, if_pos hi, if_pos hi, Nat.testBit_or, Nat.testBit_two_pow_self]; simp
  · rw [if_neg hj]
    by_cases h : j < n
    · rw [if_pos h, if_pos h, Nat.testBit_or, Nat.testBit_two_pow_of_ne hj]; simp
    · rw [if_neg h, if_neg h]
def lift (Q : Act → World → Prop) : Exit → Act → World → Prop
  | .normal, a, w => Q a w
  | _, _, _ => False
section
variable {P : Program} {md : Region.Mode} {ops L : Array Oper} {Q : Act → World → Prop} {S : World → Prop} {k d fuel m : Nat} {a : Act} {w w' : World} {oi : Oper}
def chn (P : Program) (md : Region.Mode) (ops : Array Oper) (Q : Act → World → Prop) (S : World → Prop) (k fuel m : Nat) (a : Act) (w : World) : Prop :=
  anyK P md ops (lift Q) S k fuel (bitsA ops.size m) a w
def okQ (md : Region.Mode) (ops : Array Oper) (k m i : Nat) : Bool := Region.noSelect ops && Region.free md ops (bitsA ops.size m) i && (Region.ready md ops (bitsA ops.size m)).contains i && waits md ops k i
def okC (md : Region.Mode) (ops : Array Oper) (m i : Nat) : Bool := Region.ready md ops (bitsA ops.size m) == [i]
theorem lt_of {i : Nat} {x : Option Oper} (h : ops[i]? = x) (hx : x = some oi) : i < ops.size := by
  subst hx; exact (Array.getElem?_eq_some_iff.1 h).1
theorem stepQ (hL : Hid (ops = L)) (i m' : Nat) (v : Value) (hm : m' = m ||| 2 ^ i) (hi : L[i]? = some oi) (hok : okQ md L k m i = true) (hw : Region.wanted oi (yielded L a.tmps) = true) (hd : oi.dst = some d) (hy : ∀ w, S w → (execOp a.eval oi).run P w = .ok (.value v) w) (hS : S w)
    (h : chn P md ops Q S k fuel m' (a.put (some d) v) w) : chn P md ops Q S k (fuel + 1) m a w := by
  obtain rfl := hL.out
  subst hm
  have hlt := lt_of hi rfl
  simp only [okQ, Bool.and_eq_true] at hok
  obtain ⟨⟨⟨h1, h2⟩, h3⟩, h4⟩ := hok
  unfold chn at h ⊢
  refine takeK i oi v hi h1 h2 h3 h4 hw hy hS ?_
  rw [bitsA_set hlt, hd]
  exact h
theorem stepC (hL : Hid (ops = L)) (i m' : Nat) (hm : m' = m ||| 2 ^ i) (hi : L[i]? = some oi) (hok : okC md L m i = true) (hw : Region.wanted oi (yielded L a.tmps) = true)
    (h : Oper.wp P oi a w (fun a' w' => (i ≠ k → S w') ∧ chn P md ops Q S k fuel m' a' w') (Nrm (lift Q))) : chn P md ops Q S k (fuel + 1) m a w := by
  obtain rfl := hL.out
  subst hm
  have hlt := lt_of hi rfl
  have hr : Region.ready md ops (bitsA ops.size m) = [i] := by simpa [okC] using hok
  unfold chn at h ⊢
  refine ⟨fun h0 => by (rw [hr] at h0; cases h0), fun j hj => ?_⟩
  rw [hr, List.mem_singleton] at hj
  subst hj
  refine wpOp_step hi fun K' hK => ?_
  rw [if_pos hw]
  refine Oper.wp_mono (fun a' w' h2 => hK a' w' ?_) h
  rw [bitsA_set hlt]
  exact h2
theorem stepE (hL : Hid (ops = L)) (hr : Region.ready md L (bitsA L.size m) = []) (h : Q a w) : chn P md ops Q S k fuel m a w := by
  obtain rfl := hL.out
  unfold chn
  exact doneK hr h _
end
end Go.Proofs.Ytmjnleohchmadaa.InR

/- A region that draws its order: what may be taken next is read off the bits of numbers that are reckoned once for the region. Nothing of the program. -/
namespace Go.Proofs.Ytmjnleohchmadaa.InR
open Go.RowKit

def depM (md : Region.Mode) (o : Oper) : Nat := o.after.toList.foldr (fun e m => if Region.binds md e then m ||| 2 ^ e.on else m) 0
def saB (md : Region.Mode) (ops : Array Oper) (oi : Oper) (i j : Nat) : Bool := j == i || (match ops[j]? with | some oj => oj.after.any (fun e => Region.binds md e && e.on == i) || oi.apart ops oj | none => true)
def saM (md : Region.Mode) (ops : Array Oper) (oi : Oper) (i : Nat) : Nat := (List.range ops.size).foldr (fun j m => if saB md ops oi i j then m ||| 2 ^ j else m) 0
def masks (md : Region.Mode) (ops : Array Oper) : List (Nat × Nat) := (List.range ops.size).map fun i => match ops[i]? with | some o => (depM md o, saM md ops o i) | none => (0, 0)
def okT (n : Nat) (tbl : List (Nat × Nat)) (m i : Nat) : Bool :=
  !(m.testBit i) && decide (i < n) && ((tbl.getD i (0, 0)).1 &&& (m % 2 ^ n) == (tbl.getD i (0, 0)).1) && ((m ||| (tbl.getD i (0, 0)).2) &&& (2 ^ n - 1) == 2 ^ n - 1)
structure Reg (md : Region.Mode) (ops : Array Oper) (k n : Nat) (tbl : List (Nat × Nat)) : Prop where
  size : ops.size = n
  sel : Region.noSelect ops = true
  tab : masks md ops = tbl
  le : n ≤ k
section
variable {P : Program} {md : Region.Mode} {ops L : Array Oper} {Q : Act → World → Prop} {S : World → Prop} {k d fuel m n : Nat} {w w' : World} {oi : Oper} {tbl : List (Nat × Nat)}
/-! the frame written out: no rewriting is needed behind a step -/
theorem put_lit {l : List Value} {ds} {v : Value} : (Act.mk l.toArray ds).put (some d) v = Act.mk (l.set d v).toArray ds := by simp [Act.put]
theorem stepQL {l : List Value} {ds} (hL : Hid (ops = L)) (i m' : Nat) (v : Value) (hm : m' = m ||| 2 ^ i) (hi : L[i]? = some oi) (hok : okQ md L k m i = true) (hw : Region.wanted oi (yielded L l.toArray) = true) (hd : oi.dst = some d) (hy : ∀ w, S w → (execOp (Act.mk l.toArray ds).eval oi).run P w = .ok (.value v) w) (hS : S w)
    (h : chn P md ops Q S k fuel m' (Act.mk (l.set d v).toArray ds) w) : chn P md ops Q S k (fuel + 1) m (Act.mk l.toArray ds) w :=
  stepQ hL i m' v hm hi hok hw hd hy hS (put_lit (d := d) ▸ h)
end
end Go.Proofs.Ytmjnleohchmadaa.InR
