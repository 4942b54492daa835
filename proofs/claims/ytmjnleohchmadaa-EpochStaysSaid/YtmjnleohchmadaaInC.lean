/- A region that draws its order, walked in an order of one's own choice: the operations and the way on are letters, so that a step's goal stays small; what is listed is a number's bits. Nothing of the program. -/
import Derived.Test.YtmjnleohchmadaaInR
import Derived.Lib.Hide
namespace Go.Proofs.Ytmjnleohchmadaa.InR
open Go.RowKit

/-- the bits of m, n of them -/
def bitsA (n m : Nat) : Array Bool := ((List.range n).map fun j => m.testBit j).toArray
theorem bitsA_zero (n : Nat) : bitsA n 0 = Array.replicate n false := by
  unfold bitsA
  apply Array.ext
  · simp
  · intro j h1 h2; simp
theorem bitsA_at (n m j : Nat) : (bitsA n m)[j]? = if j < n then some (m.testBit j) else none := by
  unfold bitsA
  rw [List.getElem?_toArray, List.getElem?_map]
  by_cases h : j < n
  · rw [List.getElem?_range h, if_pos h]; rfl
  · rw [List.getElem?_eq_none (by simpa using h), if_neg h]; rfl
theorem bitsA_set {n m i : Nat} (hi : i < n) : (bitsA n m).setIfInBounds i true = bitsA n (m ||| 2 ^ i) := by
  apply Array.ext_getElem?
  intro j
  have hs : (bitsA n m).size = n := by simp [bitsA]
  rw [Array.getElem?_setIfInBounds, bitsA_at, bitsA_at, hs]
  by_cases hj : i = j
  · subst hj; rw [if_pos rfl, if_pos hi, if_pos hi, Nat.testBit_or, Nat.testBit_two_pow_self]; simp
  · rw [if_neg hj]
    by_cases h : j < n
    · rw [if_pos h, if_pos h, Nat.testBit_or, Nat.testBit_two_pow_of_ne hj]; simp
    · rw [if_neg h, if_neg h]
def lift (Q : Act → World → Prop) : Exit → Act → World → Prop
  | .normal, a, w => Q a w
  | _, _, _ => False
section
variable {P : Program} {md : Region.Mode} {ops L : Array Oper} {Q : Act → World → Prop} {S : World → Prop} {k d fuel m : Nat} {a : Act} {w w' : World} {oi : Oper}
/-- what is left, m being listed -/
def chn (P : Program) (md : Region.Mode) (ops : Array Oper) (Q : Act → World → Prop) (S : World → Prop) (k fuel m : Nat) (a : Act) (w : World) : Prop :=
  anyK P md ops (lift Q) S k fuel (bitsA ops.size m) a w
/-- number i may be taken first -/
def okQ (md : Region.Mode) (ops : Array Oper) (k m i : Nat) : Bool := Region.noSelect ops && Region.free md ops (bitsA ops.size m) i && (Region.ready md ops (bitsA ops.size m)).contains i && waits md ops k i
/-- number i is the only one that may come up -/
def okC (md : Region.Mode) (ops : Array Oper) (m i : Nat) : Bool := Region.ready md ops (bitsA ops.size m) == [i]
theorem lt_of {i : Nat} {x : Option Oper} (h : ops[i]? = x) (hx : x = some oi) : i < ops.size := by
  subst hx; exact (Array.getElem?_eq_some_iff.1 h).1
theorem stepQ (hL : Hid (ops = L)) (i m' : Nat) (v : Value) (hm : m' = m ||| 2 ^ i) (hi : L[i]? = some oi) (hok : okQ md L k m i = true) (hw : Region.wanted oi (yielded L a.tmps) = true) (hd : oi.dst = some d) (hy : ∀ w, S w → (execOp a.eval oi).run P w = .ok (.value v) w) (hS : S w)
    (h : chn P md ops Q S k fuel m' (a.put (some d) v) w) : chn P md ops Q S k (fuel + 1) m a w := by
  obtain rfl := hL.out
  subst hm
  have hlt := lt_of hi rfl
  simp only [okQ, Bool.and_eq_true] at hok
  obtain ⟨⟨⟨h1, h2⟩, h3⟩, h4⟩ := hok
  unfold chn at h ⊢
  refine takeK i oi v hi h1 h2 h3 h4 hw hy hS ?_
  rw [bitsA_set hlt, hd]
  exact h
theorem stepU (hL : Hid (ops = L)) (i m' : Nat) (hm : m' = m ||| 2 ^ i) (hi : L[i]? = some oi) (hok : okQ md L k m i = true) (hw : Region.wanted oi (yielded L a.tmps) = false) (hd : oi.dst = some d) (hS : S w)
    (h : chn P md ops Q S k fuel m' (a.put (some d) undef) w) : chn P md ops Q S k (fuel + 1) m a w := by
  obtain rfl := hL.out
  subst hm
  have hlt := lt_of hi rfl
  simp only [okQ, Bool.and_eq_true] at hok
  obtain ⟨⟨⟨h1, h2⟩, h3⟩, h4⟩ := hok
  unfold chn at h ⊢
  refine takeKU i oi hi h1 h2 h3 h4 hw hS ?_
  rw [bitsA_set hlt, hd]
  exact h
/-- the only one that may come up, run to its end -/
theorem stepC (hL : Hid (ops = L)) (i m' : Nat) (hm : m' = m ||| 2 ^ i) (hi : L[i]? = some oi) (hok : okC md L m i = true) (hw : Region.wanted oi (yielded L a.tmps) = true)
    (h : Oper.wp P oi a w (fun a' w' => (i ≠ k → S w') ∧ chn P md ops Q S k fuel m' a' w') (Nrm (lift Q))) : chn P md ops Q S k (fuel + 1) m a w := by
  obtain rfl := hL.out
  subst hm
  have hlt := lt_of hi rfl
  have hr : Region.ready md ops (bitsA ops.size m) = [i] := by simpa [okC] using hok
  unfold chn at h ⊢
  refine ⟨fun h0 => by (rw [hr] at h0; cases h0), fun j hj => ?_⟩
  rw [hr, List.mem_singleton] at hj
  subst hj
  refine wpOp_step hi fun K' hK => ?_
  rw [if_pos hw]
  refine Oper.wp_mono (fun a' w' h2 => hK a' w' ?_) h
  rw [bitsA_set hlt]
  exact h2
theorem stepE (hL : Hid (ops = L)) (hr : Region.ready md L (bitsA L.size m) = []) (h : Q a w) : chn P md ops Q S k fuel m a w := by
  obtain rfl := hL.out
  unfold chn
  exact doneK hr h _
/-- the beginning, outside of a round -/
theorem region_let {id : Nat} {Q : Exit → Act → World → Prop} (S : World → Prop) (k n : Nat) (hm : P.follows .mixedOrders = true) (hn : ops.size = n)
    (h : ∀ (ops' : Array Oper) (Q' : Act → World → Prop), Hid (ops' = ops) → Hid (∀ a w, Q .normal a w → Q' a w) → chn P .any ops' Q' S k n 0 a w.drew) : (Code.region id ops true).wp P Q a w := by
  have h1 := h ops (fun a w => Q .normal a w) (Lib.hid rfl) (Lib.hid fun _ _ h => h)
  unfold chn at h1
  rw [bitsA_zero, ← hn] at h1
  refine wp_mono (region_plain (Q := lift fun a w => Q .normal a w) S k hm h1) fun e a w h => ?_
  cases e <;> first | exact h | exact (h : False).elim
end
end Go.Proofs.Ytmjnleohchmadaa.InR
