/- Joined: InC, InT, Takes. -/
import Derived.Test.YtllebgadhhgckaaDoorJ13
import Derived.Lib.Hide
import Derived.WalkKit
import Derived.Deep.RegionHeld3
/- A region that draws its order, walked in an order of one's own choice: the operations and the way on are letters, so that a step's goal stays small; what is listed is a number's bits. Nothing of the program. -/
namespace Go.Proofs.YtllebgadhhgckaaDoor.InR
open Go.RowKit

def bitsA (n m : Nat) : Array Bool := ((List.range n).map fun j => m.testBit j).toArray
theorem bitsA_zero (n : Nat) : bitsA n 0 = Array.replicate n false := by
  unfold bitsA
  apply Array.ext
  · simp
  · intro j h1 h2; simp
theorem bitsA_at (n m j : Nat) : (bitsA n m)[j]? = if j < n then some (m.testBit j) else none := by
  unfold bitsA
  rw [List.getElem?_toArray, List.getElem?_map]
  by_cases h : j < n
  · rw [List.getElem?_range h, if_pos h]; rfl
  · rw [List.getElem?_eq_none (by simpa using h), if_neg h]; rfl
theorem bitsA_set {n m i : Nat} (hi : i < n) : (bitsA n m).setIfInBounds i true = bitsA n (m ||| 2 ^ i) := by
  apply Array.ext_getElem?
  intro j
  have hs : (bitsA n m).size = n := by simp [bitsA]
  rw [Array.getElem?_setIfInBounds, bitsA_at, bitsA_at, hs]
  by_cases hj : i = j
  · subst hj; rw [if_pos rfl, if_pos hi, if_pos hi, Nat.testBit_or, Nat.testBit_two_pow_self]; simp
  · rw [if_neg hj]
    by_cases h : j < n
    · rw [if_pos h, if_pos h, Nat.testBit_or, Nat.testBit_two_pow_of_ne hj]; simp
    · rw [if_neg h, if_neg h]
def lift (Q : Act → World → Prop) : Exit → Act → World → Prop
  | .normal, a, w => Q a w
  | _, _, _ => False
section
variable {P : Program} {md : Region.Mode} {ops L : Array Oper} {Q : Act → World → Prop} {S : World → Prop} {k d fuel m : Nat} {a : Act} {w w' : World} {oi : Oper}
def chn (P : Program) (md : Region.Mode) (ops : Array Oper) (Q : Act → World → Prop) (S : World → Prop) (k fuel m : Nat) (a : Act) (w : World) : Prop :=
  anyK P md ops (lift Q) S k fuel (bitsA ops.size m) a w
def okQ (md : Region.Mode) (ops : Array Oper) (k m i : Nat) : Bool := Region.noSelect ops && Region.free md ops (bitsA ops.size m) i && (Region.ready md ops (bitsA ops.size m)).contains i && waits md ops k i
def okC (md : Region.Mode) (ops : Array Oper) (m i : Nat) : Bool := Region.ready md ops (bitsA ops.size m) == [i]
theorem lt_of {i : Nat} {x : Option Oper} (h : ops[i]? = x) (hx : x = some oi) : i < ops.size := by
  subst hx; exact (Array.getElem?_eq_some_iff.1 h).1
theorem stepQ (hL : Hid (ops = L)) (i m' : Nat) (v : Value) (hm : m' = m ||| 2 ^ i) (hi : L[i]? = some oi) (hok : okQ md L k m i = true) (hw : Region.wanted oi (yielded L a.tmps) = true) (hd : oi.dst = some d) (hy : ∀ w, S w → (execOp a.eval oi).run P w = .ok (.value v) w) (hS : S w)
    (h : chn P md ops Q S k fuel m' (a.put (some d) v) w) : chn P md ops Q S k (fuel + 1) m a w := by
  obtain rfl := hL.out
  subst hm
  have hlt := lt_of hi rfl
  simp only [okQ, Bool.and_eq_true] at hok
  obtain ⟨⟨⟨h1, h2⟩, h3⟩, h4⟩ := hok
  unfold chn at h ⊢
  refine takeK i oi v hi h1 h2 h3 h4 hw hy hS ?_
  rw [bitsA_set hlt, hd]
  exact h
theorem stepU (hL : Hid (ops = L)) (i m' : Nat) (hm : m' = m ||| 2 ^ i) (hi : L[i]? = some oi) (hok : okQ md L k m i = true) (hw : Region.wanted oi (yielded L a.tmps) = false) (hd : oi.dst = some d) (hS : S w)
    (h : chn P md ops Q S k fuel m' (a.put (some d) undef) w) : chn P md ops Q S k (fuel + 1) m a w := by
  obtain rfl := hL.out
  subst hm
  have hlt := lt_of hi rfl
  simp only [okQ, Bool.and_eq_true] at hok
  obtain ⟨⟨⟨h1, h2⟩, h3⟩, h4⟩ := hok
  unfold chn at h ⊢
  refine takeKU i oi hi h1 h2 h3 h4 hw hS ?_
  rw [bitsA_set hlt, hd]
  exact h
theorem stepC (hL : Hid (ops = L)) (i m' : Nat) (hm : m' = m ||| 2 ^ i) (hi : L[i]? = some oi) (hok : okC md L m i = true) (hw : Region.wanted oi (yielded L a.tmps) = true)
    (h : Oper.wp P oi a w (fun a' w' => (i ≠ k → S w') ∧ chn P md ops Q S k fuel m' a' w') (Nrm (lift Q))) : chn P md ops Q S k (fuel + 1) m a w := by
  obtain rfl := hL.out
  subst hm
  have hlt := lt_of hi rfl
  have hr : Region.ready md ops (bitsA ops.size m) = [i] := by simpa [okC] using hok
  unfold chn at h ⊢
  refine ⟨fun h0 => by (rw [hr] at h0; cases h0), fun j hj => ?_⟩
  rw [hr, List.mem_singleton] at hj
  subst hj
  refine wpOp_step hi fun K' hK => ?_
  rw [if_pos hw]
  refine Oper.wp_mono (fun a' w' h2 => hK a' w' ?_) h
  rw [bitsA_set hlt]
  exact h2
theorem stepE (hL : Hid (ops = L)) (hr : Region.ready md L (bitsA L.size m) = []) (h : Q a w) : chn P md ops Q S k fuel m a w := by
  obtain rfl := hL.out
  unfold chn
  exact doneK hr h _
theorem region_let {id : Nat} {Q : Exit → Act → World → Prop} (S : World → Prop) (k n : Nat) (hm : P.follows .mixedOrders = true) (hn : ops.size = n)
    (h : ∀ (ops' : Array Oper) (Q' : Act → World → Prop), Hid (ops' = ops) → Hid (∀ a w, Q .normal a w → Q' a w) → chn P .any ops' Q' S k n 0 a w.drew) : (Code.region id ops true).wp P Q a w := by
  have h1 := h ops (fun a w => Q .normal a w) (Lib.hid rfl) (Lib.hid fun _ _ h => h)
  unfold chn at h1
  rw [bitsA_zero, ← hn] at h1
  refine wp_mono (region_plain (Q := lift fun a w => Q .normal a w) S k hm h1) fun e a w h => ?_
  cases e <;> first | exact h | exact (h : False).elim
end
end Go.Proofs.YtllebgadhhgckaaDoor.InR

/- A region that draws its order: what may be taken next is read off the bits of numbers that are reckoned once for the region. Nothing of the program. -/
namespace Go.Proofs.YtllebgadhhgckaaDoor.InR
open Go.RowKit

theorem fold_bit {α : Type} (l : List α) (p : α → Bool) (f : α → Nat) (j : Nat) :
    (l.foldr (fun e m => if p e then m ||| 2 ^ f e else m) 0).testBit j = true ↔ ∃ e ∈ l, p e = true ∧ f e = j := by
  induction l with
  | nil => simp
  | cons x l ih =>
    rw [List.foldr_cons]
    by_cases hp : p x = true
    · rw [if_pos hp, Nat.testBit_or, Bool.or_eq_true, ih, Nat.testBit_two_pow]
      constructor
      · rintro (⟨e, he, h1, h2⟩ | h)
        · exact ⟨e, List.mem_cons_of_mem _ he, h1, h2⟩
        · exact ⟨x, List.mem_cons_self, hp, of_decide_eq_true h⟩
      · rintro ⟨e, he, h1, h2⟩
        rcases List.mem_cons.1 he with rfl | he
        · exact .inr (decide_eq_true h2)
        · exact .inl ⟨e, he, h1, h2⟩
    · rw [if_neg hp, ih]
      constructor
      · rintro ⟨e, he, h1, h2⟩; exact ⟨e, List.mem_cons_of_mem _ he, h1, h2⟩
      · rintro ⟨e, he, h1, h2⟩
        rcases List.mem_cons.1 he with rfl | he
        · exact absurd h1 hp
        · exact ⟨e, he, h1, h2⟩
def depM (md : Region.Mode) (o : Oper) : Nat := o.after.toList.foldr (fun e m => if Region.binds md e then m ||| 2 ^ e.on else m) 0
def saB (md : Region.Mode) (ops : Array Oper) (oi : Oper) (i j : Nat) : Bool := j == i || (match ops[j]? with | some oj => oj.after.any (fun e => Region.binds md e && e.on == i) || oi.apart ops oj | none => true)
def saM (md : Region.Mode) (ops : Array Oper) (oi : Oper) (i : Nat) : Nat := (List.range ops.size).foldr (fun j m => if saB md ops oi i j then m ||| 2 ^ j else m) 0
def masks (md : Region.Mode) (ops : Array Oper) : List (Nat × Nat) := (List.range ops.size).map fun i => match ops[i]? with | some o => (depM md o, saM md ops o i) | none => (0, 0)
def okT (n : Nat) (tbl : List (Nat × Nat)) (m i : Nat) : Bool :=
  !(m.testBit i) && decide (i < n) && ((tbl.getD i (0, 0)).1 &&& (m % 2 ^ n) == (tbl.getD i (0, 0)).1) && ((m ||| (tbl.getD i (0, 0)).2) &&& (2 ^ n - 1) == 2 ^ n - 1)
structure Reg (md : Region.Mode) (ops : Array Oper) (k n : Nat) (tbl : List (Nat × Nat)) : Prop where
  size : ops.size = n
  sel : Region.noSelect ops = true
  tab : masks md ops = tbl
  le : n ≤ k
theorem bitsA_getD (n m j : Nat) (b : Bool) : (bitsA n m).getD j b = if j < n then m.testBit j else b := by
  rw [Array.getD_eq_getD_getElem?, bitsA_at]
  split <;> rfl
section
variable {P : Program} {md : Region.Mode} {ops L : Array Oper} {Q : Act → World → Prop} {S : World → Prop} {k d fuel m n : Nat} {w w' : World} {oi : Oper} {tbl : List (Nat × Nat)}
theorem okT_ok {i : Nat} (hR : Reg md ops k n tbl) (h : okT n tbl m i = true) : okQ md ops k m i = true := by
  obtain ⟨rfl, hs, ht, hk⟩ := hR
  unfold okT at h
  simp only [Bool.and_eq_true, Bool.not_eq_true', decide_eq_true_eq, beq_iff_eq] at h
  obtain ⟨⟨⟨h1, h2⟩, h3⟩, h4⟩ := h
  have hoi : ops[i]? = some (ops[i]'h2) := Array.getElem?_eq_getElem h2
  have hti : tbl.getD i (0, 0) = (depM md (ops[i]'h2), saM md ops (ops[i]'h2) i) := by
    rw [← ht, List.getD_eq_getElem?_getD]
    unfold masks
    rw [List.getElem?_map, List.getElem?_range h2]
    simp [hoi]
  rw [hti] at h3 h4
  simp only at h3 h4
  unfold okQ
  rw [hs, Bool.true_and]
  have a1 : Region.free md ops (bitsA ops.size m) i = true := by
    unfold Region.free
    rw [hoi]
    simp only
    rw [List.all_eq_true]
    intro j hj
    rw [List.mem_range] at hj
    have hb := congrArg (fun x => Nat.testBit x j) h4
    simp only [Nat.testBit_and, Nat.testBit_two_pow_sub_one, hj, decide_true, Bool.and_true, Nat.testBit_or] at hb
    rw [bitsA_getD, if_pos hj]
    rcases hm : m.testBit j with _ | _
    · rw [hm, Bool.false_or] at hb
      obtain ⟨j', _, h5, rfl⟩ := (fold_bit (List.range ops.size) (saB md ops (ops[i]'h2) i) id j).1 hb
      simp only [id] at hj ⊢
      unfold saB at h5
      cases hj' : ops[j']? with
      | none => simp
      | some oj => rw [hj'] at h5; simpa using h5
    · simp
  have a2 : (Region.ready md ops (bitsA ops.size m)).contains i = true := by
    rw [List.contains_iff_mem]
    unfold Region.ready
    rw [List.mem_filter, List.mem_range]
    refine ⟨h2, ?_⟩
    rw [bitsA_getD, if_pos h2, h1, hoi]
    simp only [Bool.not_false, Bool.true_and, Option.map_some, Option.getD_some]
    rw [Array.all_eq_true_iff_forall_mem]
    intro e he
    rcases hb : Region.binds md e with _ | _
    · rfl
    · have h5 : (depM md (ops[i]'h2)).testBit e.on = true := (fold_bit _ _ _ _).2 ⟨e, by simpa using he, hb, rfl⟩
      rw [← h3, Nat.testBit_and, Bool.and_eq_true, Nat.testBit_mod_two_pow, Bool.and_eq_true] at h5
      rw [bitsA_getD, if_pos (of_decide_eq_true h5.2.1), h5.2.2]
      rfl
  have a3 : waits md ops k i = true := by
    unfold waits
    rw [Array.getElem?_eq_none hk]
  rw [a1, a2, a3]
  rfl
/-! the frame written out: no rewriting is needed behind a step -/
theorem put_lit {l : List Value} {ds} {v : Value} : (Act.mk l.toArray ds).put (some d) v = Act.mk (l.set d v).toArray ds := by simp [Act.put]
theorem stepQL {l : List Value} {ds} (hL : Hid (ops = L)) (i m' : Nat) (v : Value) (hm : m' = m ||| 2 ^ i) (hi : L[i]? = some oi) (hok : okQ md L k m i = true) (hw : Region.wanted oi (yielded L l.toArray) = true) (hd : oi.dst = some d) (hy : ∀ w, S w → (execOp (Act.mk l.toArray ds).eval oi).run P w = .ok (.value v) w) (hS : S w)
    (h : chn P md ops Q S k fuel m' (Act.mk (l.set d v).toArray ds) w) : chn P md ops Q S k (fuel + 1) m (Act.mk l.toArray ds) w :=
  stepQ hL i m' v hm hi hok hw hd hy hS (put_lit (d := d) ▸ h)
theorem stepUL {l : List Value} {ds} (hL : Hid (ops = L)) (i m' : Nat) (hm : m' = m ||| 2 ^ i) (hi : L[i]? = some oi) (hok : okQ md L k m i = true) (hw : Region.wanted oi (yielded L l.toArray) = false) (hd : oi.dst = some d) (hS : S w)
    (h : chn P md ops Q S k fuel m' (Act.mk (l.set d undef).toArray ds) w) : chn P md ops Q S k (fuel + 1) m (Act.mk l.toArray ds) w :=
  stepU hL i m' hm hi hok hw hd hS (put_lit (d := d) ▸ h)
theorem stepTQ {l : List Value} {ds} (hL : Hid (ops = L)) (hR : Hid (Reg md L k n tbl)) (i m' : Nat) (v : Value) (hm : m' = m ||| 2 ^ i) (hi : L[i]? = some oi) (hok : okT n tbl m i = true) (hw : Region.wanted oi (yielded L l.toArray) = true) (hd : oi.dst = some d) (hy : ∀ w, S w → (execOp (Act.mk l.toArray ds).eval oi).run P w = .ok (.value v) w) (hS : S w)
    (h : chn P md ops Q S k fuel m' (Act.mk (l.set d v).toArray ds) w) : chn P md ops Q S k (fuel + 1) m (Act.mk l.toArray ds) w :=
  stepQL hL i m' v hm hi (okT_ok hR.out hok) hw hd hy hS h
theorem stepTU {l : List Value} {ds} (hL : Hid (ops = L)) (hR : Hid (Reg md L k n tbl)) (i m' : Nat) (hm : m' = m ||| 2 ^ i) (hi : L[i]? = some oi) (hok : okT n tbl m i = true) (hw : Region.wanted oi (yielded L l.toArray) = false) (hd : oi.dst = some d) (hS : S w)
    (h : chn P md ops Q S k fuel m' (Act.mk (l.set d undef).toArray ds) w) : chn P md ops Q S k (fuel + 1) m (Act.mk l.toArray ds) w :=
  stepUL hL i m' hm hi (okT_ok hR.out hok) hw hd hS h
theorem reg_of (_ : Hid (ops = L)) (tbl : List (Nat × Nat)) (h1 : L.size = n) (h2 : Region.noSelect L = true) (h3 : masks .any L = tbl) (h4 : n ≤ 99) : Hid (Reg .any L 99 n tbl) := Lib.hid ⟨h1, h2, h3, h4⟩
end
end Go.Proofs.YtllebgadhhgckaaDoor.InR

/- A region that draws its order, operation by operation: one that is not wanted, one that only reckons, the only one that may come up. Nothing of the program. -/
namespace Go.Proofs.YtllebgadhhgckaaDoor.Bat
open Go.RowKit
section
variable {P : Program} {ops : Array Oper} {Q : Exit → Act → World → Prop} {md : Region.Mode}
theorem takeU (i : Nat) (oi : Oper) {fuel : Nat} {listed : Array Bool} {a : Act} {w : World} (hi : ops[i]? = some oi) (hs : Region.noSelect ops = true) (hf : Region.free md ops listed i = true) (hr : (Region.ready md ops listed).contains i = true)
    (hw : Region.wanted oi (yielded ops a.tmps) = false) (h : wpAnyH P md ops Q (fun _ => True) fuel (listed.setIfInBounds i true) (a.put oi.dst undef) w) (hQ : ∀ c a w, Q (.panic c) (a.put oi.dst undef) w → Q (.panic c) a w := by exact fun _ _ _ h => h) : wpAnyH P md ops Q (fun _ => True) (fuel + 1) listed a w :=
  wpAnyH_take hi hs hf hr hQ (Or.inr ⟨hw, rfl⟩) trivial h
theorem takeP (i : Nat) (oi : Oper) (v : Value) {fuel : Nat} {listed : Array Bool} {a : Act} {w : World} (hi : ops[i]? = some oi) (hs : Region.noSelect ops = true) (hf : Region.free md ops listed i = true) (hr : (Region.ready md ops listed).contains i = true)
    (hw : Region.wanted oi (yielded ops a.tmps) = true) (hy : ∀ w : World, True → (execOp a.eval oi).run P w = .ok (.value v) w) (h : wpAnyH P md ops Q (fun _ => True) fuel (listed.setIfInBounds i true) (a.put oi.dst v) w) (hQ : ∀ c a w, Q (.panic c) (a.put oi.dst v) w → Q (.panic c) a w := by exact fun _ _ _ h => h) : wpAnyH P md ops Q (fun _ => True) (fuel + 1) listed a w :=
  wpAnyH_take hi hs hf hr hQ (Or.inl ⟨hw, hy⟩) trivial h
theorem takeB (i : Nat) (oi : Oper) {fuel : Nat} {listed : Array Bool} {a : Act} {w : World} (hr : Region.ready md ops listed = [i]) (hi : ops[i]? = some oi)
    (h : ∀ K' : Act → World → Prop, Shut (∀ a w, (fun _ : World => True) w → ((fun _ : World => True) w → wpAnyH P md ops Q (fun _ => True) fuel (listed.setIfInBounds i true) a w) → K' a w) → if Region.wanted oi (yielded ops a.tmps) = true then Oper.wp P oi a w K' Q else K' (a.put oi.dst undef) w) : wpAnyH P md ops Q (fun _ => True) (fuel + 1) listed a w :=
  wpAnyH_ready hr (by simp) (AllReadyH.cons hi h AllReadyH.nil)
theorem tU (i d : Nat) {oi : Oper} {fuel : Nat} {listed : Array Bool} {a : Act} {w : World} (hi : ops[i]? = some oi) (h : wpAnyH P md ops Q (fun _ => True) fuel (listed.setIfInBounds i true) (a.put (some d) undef) w) (hd : oi.dst = some d := by rfl) (hs : Region.noSelect ops = true := by kernel_rfl) (hf : Region.free md ops listed i = true := by kernel_rfl)
    (hr : (Region.ready md ops listed).contains i = true := by kernel_rfl) (hw : Region.wanted oi (yielded ops a.tmps) = false := by rfl)
    (hQ : ∀ c a w, Q (.panic c) (a.put (some d) undef) w → Q (.panic c) a w := by exact fun _ _ _ h => h) : wpAnyH P md ops Q (fun _ => True) (fuel + 1) listed a w := by
  rw [← hd] at h hQ
  exact takeU i oi hi hs hf hr hw h hQ
theorem tP (i d : Nat) (v : Value) {oi : Oper} {fuel : Nat} {listed : Array Bool} {a : Act} {w : World} (hi : ops[i]? = some oi) (h : wpAnyH P md ops Q (fun _ => True) fuel (listed.setIfInBounds i true) (a.put (some d) v) w) (hd : oi.dst = some d := by rfl) (hs : Region.noSelect ops = true := by kernel_rfl) (hf : Region.free md ops listed i = true := by kernel_rfl)
    (hr : (Region.ready md ops listed).contains i = true := by kernel_rfl) (hw : Region.wanted oi (yielded ops a.tmps) = true := by rfl)
    (hy : ∀ w : World, True → (execOp a.eval oi).run P w = .ok (.value v) w := by (intro w hSw; simp only [List.getElem_toArray, List.getElem_cons_succ, List.getElem_cons_zero]; go_simp; (first | done | with_reducible rfl)))
    (hQ : ∀ c a w, Q (.panic c) (a.put (some d) v) w → Q (.panic c) a w := by exact fun _ _ _ h => h) : wpAnyH P md ops Q (fun _ => True) (fuel + 1) listed a w := by
  rw [← hd] at h hQ
  exact takeP i oi v hi hs hf hr hw hy h hQ
theorem regN (n : Nat) {id : Nat} {a : Act} {w : World} (hm : P.follows .mixedOrders = true) (h : wpAnyH P .any ops Q (fun _ => True) n (Array.replicate n false) a w.drew) (hn : ops.size = n := by kernel_rfl) : (Code.region id ops true).wp P Q a w :=
  wp_region_held_drew (S := fun _ => True) hm trivial (fun _ => by rw [hn]; exact h)
theorem uN (n s : Nat) {oi : Oper} {fuel : Nat} {listed : Array Bool} {a : Act} {w : World} (hi : ops[n - fuel]? = some oi) (h : wpAnyH P md ops Q (fun _ => True) fuel (listed.setIfInBounds (n - fuel) true) (a.put (some (n - fuel + s)) undef) w) (hd : oi.dst = some (n - fuel + s) := by rfl) (hs : Region.noSelect ops = true := by kernel_rfl) (hf : Region.free md ops listed (n - fuel) = true := by kernel_rfl)
    (hr : (Region.ready md ops listed).contains (n - fuel) = true := by kernel_rfl) (hw : Region.wanted oi (yielded ops a.tmps) = false := by rfl)
    (hQ : ∀ c a w, Q (.panic c) (a.put (some (n - fuel + s)) undef) w → Q (.panic c) a w := by exact fun _ _ _ h => h) : wpAnyH P md ops Q (fun _ => True) (fuel + 1) listed a w :=
  tU (n - fuel) (n - fuel + s) hi h hd hs hf hr hw hQ
theorem pN (n s : Nat) (v : Value) {oi : Oper} {fuel : Nat} {listed : Array Bool} {a : Act} {w : World} (hi : ops[n - fuel]? = some oi) (h : wpAnyH P md ops Q (fun _ => True) fuel (listed.setIfInBounds (n - fuel) true) (a.put (some (n - fuel + s)) v) w) (hd : oi.dst = some (n - fuel + s) := by rfl) (hs : Region.noSelect ops = true := by kernel_rfl) (hf : Region.free md ops listed (n - fuel) = true := by kernel_rfl)
    (hr : (Region.ready md ops listed).contains (n - fuel) = true := by kernel_rfl) (hw : Region.wanted oi (yielded ops a.tmps) = true := by rfl)
    (hy : ∀ w : World, True → (execOp a.eval oi).run P w = .ok (.value v) w := by (intro w hSw; simp only [Nat.reduceSub, List.getElem_toArray, List.getElem_cons_succ, List.getElem_cons_zero]; go_simp; (first | done | with_reducible rfl)))
    (hQ : ∀ c a w, Q (.panic c) (a.put (some (n - fuel + s)) v) w → Q (.panic c) a w := by exact fun _ _ _ h => h) : wpAnyH P md ops Q (fun _ => True) (fuel + 1) listed a w :=
  tP (n - fuel) (n - fuel + s) v hi h hd hs hf hr hw hy hQ
theorem tpu {a : Act} {d : Tmp} {v : Value} : a.put (some d) v = { a with tmps := a.tmps.setIfInBounds d v } := rfl
theorem tsa {α : Type} {l : List α} {i : Nat} {x : α} : l.toArray.setIfInBounds i x = (l.set i x).toArray := List.setIfInBounds_toArray l i x
theorem ts0 {α : Type} {x y : α} {l : List α} : (x :: l).set 0 y = y :: l := rfl
theorem ts1 {α : Type} {x y : α} {l : List α} {i : Nat} : (x :: l).set (i + 1) y = x :: l.set i y := rfl
end
end Go.Proofs.YtllebgadhhgckaaDoor.Bat
