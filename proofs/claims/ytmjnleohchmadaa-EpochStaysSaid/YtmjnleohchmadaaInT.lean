/- A region that draws its order: what may be taken next is read off the bits of numbers that are reckoned once for the region. Nothing of the program. -/
import Derived.Test.YtmjnleohchmadaaInC
import Derived.WalkKit
namespace Go.Proofs.Ytmjnleohchmadaa.InR
open Go.RowKit

theorem fold_bit {α : Type} (l : List α) (p : α → Bool) (f : α → Nat) (j : Nat) :
    (l.foldr (fun e m => if p e then m ||| 2 ^ f e else m) 0).testBit j = true ↔ ∃ e ∈ l, p e = true ∧ f e = j := by
  induction l with
  | nil => simp
  | cons x l ih =>
    rw [List.foldr_cons]
    by_cases hp : p x = true
    · rw [if_pos hp, Nat.testBit_or, Bool.or_eq_true, ih, Nat.testBit_two_pow]
      constructor
      · rintro (⟨e, he, h1, h2⟩ | h)
        · exact ⟨e, List.mem_cons_of_mem _ he, h1, h2⟩
        · exact ⟨x, List.mem_cons_self, hp, of_decide_eq_true h⟩
      · rintro ⟨e, he, h1, h2⟩
        rcases List.mem_cons.1 he with rfl | he
        · exact .inr (decide_eq_true h2)
        · exact .inl ⟨e, he, h1, h2⟩
    · rw [if_neg hp, ih]
      constructor
      · rintro ⟨e, he, h1, h2⟩; exact ⟨e, List.mem_cons_of_mem _ he, h1, h2⟩
      · rintro ⟨e, he, h1, h2⟩
        rcases List.mem_cons.1 he with rfl | he
        · exact absurd h1 hp
        · exact ⟨e, he, h1, h2⟩
/-- upon which an operation waits -/
def depM (md : Region.Mode) (o : Oper) : Nat := o.after.toList.foldr (fun e m => if Region.binds md e then m ||| 2 ^ e.on else m) 0
/-- which ones do not matter when number i is taken -/
def saB (md : Region.Mode) (ops : Array Oper) (oi : Oper) (i j : Nat) : Bool := j == i || (match ops[j]? with | some oj => oj.after.any (fun e => Region.binds md e && e.on == i) || oi.apart ops oj | none => true)
def saM (md : Region.Mode) (ops : Array Oper) (oi : Oper) (i : Nat) : Nat := (List.range ops.size).foldr (fun j m => if saB md ops oi i j then m ||| 2 ^ j else m) 0
def masks (md : Region.Mode) (ops : Array Oper) : List (Nat × Nat) := (List.range ops.size).map fun i => match ops[i]? with | some o => (depM md o, saM md ops o i) | none => (0, 0)
def okT (n : Nat) (tbl : List (Nat × Nat)) (m i : Nat) : Bool :=
  !(m.testBit i) && decide (i < n) && ((tbl.getD i (0, 0)).1 &&& (m % 2 ^ n) == (tbl.getD i (0, 0)).1) && ((m ||| (tbl.getD i (0, 0)).2) &&& (2 ^ n - 1) == 2 ^ n - 1)
/-- a region's numbers -/
structure Reg (md : Region.Mode) (ops : Array Oper) (k n : Nat) (tbl : List (Nat × Nat)) : Prop where
  size : ops.size = n
  sel : Region.noSelect ops = true
  tab : masks md ops = tbl
  le : n ≤ k
theorem bitsA_getD (n m j : Nat) (b : Bool) : (bitsA n m).getD j b = if j < n then m.testBit j else b := by
  rw [Array.getD_eq_getD_getElem?, bitsA_at]
  split <;> rfl
section
variable {P : Program} {md : Region.Mode} {ops L : Array Oper} {Q : Act → World → Prop} {S : World → Prop} {k d fuel m n : Nat} {w w' : World} {oi : Oper} {tbl : List (Nat × Nat)}
theorem okT_ok {i : Nat} (hR : Reg md ops k n tbl) (h : okT n tbl m i = true) : okQ md ops k m i = true := by
  obtain ⟨rfl, hs, ht, hk⟩ := hR
  unfold okT at h
  simp only [Bool.and_eq_true, Bool.not_eq_true', decide_eq_true_eq, beq_iff_eq] at h
  obtain ⟨⟨⟨h1, h2⟩, h3⟩, h4⟩ := h
  have hoi : ops[i]? = some (ops[i]'h2) := Array.getElem?_eq_getElem h2
  have hti : tbl.getD i (0, 0) = (depM md (ops[i]'h2), saM md ops (ops[i]'h2) i) := by
    rw [← ht, List.getD_eq_getElem?_getD]
    unfold masks
    rw [List.getElem?_map, List.getElem?_range h2]
    simp [hoi]
  rw [hti] at h3 h4
  simp only at h3 h4
  unfold okQ
  rw [hs, Bool.true_and]
  have a1 : Region.free md ops (bitsA ops.size m) i = true := by
    unfold Region.free
    rw [hoi]
    simp only
    rw [List.all_eq_true]
    intro j hj
    rw [List.mem_range] at hj
    have hb := congrArg (fun x => Nat.testBit x j) h4
    simp only [Nat.testBit_and, Nat.testBit_two_pow_sub_one, hj, decide_true, Bool.and_true, Nat.testBit_or] at hb
    rw [bitsA_getD, if_pos hj]
    rcases hm : m.testBit j with _ | _
    · rw [hm, Bool.false_or] at hb
      obtain ⟨j', _, h5, rfl⟩ := (fold_bit (List.range ops.size) (saB md ops (ops[i]'h2) i) id j).1 hb
      simp only [id] at hj ⊢
      unfold saB at h5
      cases hj' : ops[j']? with
      | none => simp
      | some oj => rw [hj'] at h5; simpa using h5
    · simp
  have a2 : (Region.ready md ops (bitsA ops.size m)).contains i = true := by
    rw [List.contains_iff_mem]
    unfold Region.ready
    rw [List.mem_filter, List.mem_range]
    refine ⟨h2, ?_⟩
    rw [bitsA_getD, if_pos h2, h1, hoi]
    simp only [Bool.not_false, Bool.true_and, Option.map_some, Option.getD_some]
    rw [Array.all_eq_true_iff_forall_mem]
    intro e he
    rcases hb : Region.binds md e with _ | _
    · rfl
    · have h5 : (depM md (ops[i]'h2)).testBit e.on = true := (fold_bit _ _ _ _).2 ⟨e, by simpa using he, hb, rfl⟩
      rw [← h3, Nat.testBit_and, Bool.and_eq_true, Nat.testBit_mod_two_pow, Bool.and_eq_true] at h5
      rw [bitsA_getD, if_pos (of_decide_eq_true h5.2.1), h5.2.2]
      rfl
  have a3 : waits md ops k i = true := by
    unfold waits
    rw [Array.getElem?_eq_none hk]
  rw [a1, a2, a3]
  rfl
/-! the frame written out: no rewriting is needed behind a step -/
theorem put_lit {l : List Value} {ds} {v : Value} : (Act.mk l.toArray ds).put (some d) v = Act.mk (l.set d v).toArray ds := by simp [Act.put]
theorem stepQL {l : List Value} {ds} (hL : Hid (ops = L)) (i m' : Nat) (v : Value) (hm : m' = m ||| 2 ^ i) (hi : L[i]? = some oi) (hok : okQ md L k m i = true) (hw : Region.wanted oi (yielded L l.toArray) = true) (hd : oi.dst = some d) (hy : ∀ w, S w → (execOp (Act.mk l.toArray ds).eval oi).run P w = .ok (.value v) w) (hS : S w)
    (h : chn P md ops Q S k fuel m' (Act.mk (l.set d v).toArray ds) w) : chn P md ops Q S k (fuel + 1) m (Act.mk l.toArray ds) w :=
  stepQ hL i m' v hm hi hok hw hd hy hS (put_lit (d := d) ▸ h)
theorem stepUL {l : List Value} {ds} (hL : Hid (ops = L)) (i m' : Nat) (hm : m' = m ||| 2 ^ i) (hi : L[i]? = some oi) (hok : okQ md L k m i = true) (hw : Region.wanted oi (yielded L l.toArray) = false) (hd : oi.dst = some d) (hS : S w)
    (h : chn P md ops Q S k fuel m' (Act.mk (l.set d undef).toArray ds) w) : chn P md ops Q S k (fuel + 1) m (Act.mk l.toArray ds) w :=
  stepU hL i m' hm hi hok hw hd hS (put_lit (d := d) ▸ h)
theorem stepTQ {l : List Value} {ds} (hL : Hid (ops = L)) (hR : Hid (Reg md L k n tbl)) (i m' : Nat) (v : Value) (hm : m' = m ||| 2 ^ i) (hi : L[i]? = some oi) (hok : okT n tbl m i = true) (hw : Region.wanted oi (yielded L l.toArray) = true) (hd : oi.dst = some d) (hy : ∀ w, S w → (execOp (Act.mk l.toArray ds).eval oi).run P w = .ok (.value v) w) (hS : S w)
    (h : chn P md ops Q S k fuel m' (Act.mk (l.set d v).toArray ds) w) : chn P md ops Q S k (fuel + 1) m (Act.mk l.toArray ds) w :=
  stepQL hL i m' v hm hi (okT_ok hR.out hok) hw hd hy hS h
theorem stepTU {l : List Value} {ds} (hL : Hid (ops = L)) (hR : Hid (Reg md L k n tbl)) (i m' : Nat) (hm : m' = m ||| 2 ^ i) (hi : L[i]? = some oi) (hok : okT n tbl m i = true) (hw : Region.wanted oi (yielded L l.toArray) = false) (hd : oi.dst = some d) (hS : S w)
    (h : chn P md ops Q S k fuel m' (Act.mk (l.set d undef).toArray ds) w) : chn P md ops Q S k (fuel + 1) m (Act.mk l.toArray ds) w :=
  stepUL hL i m' hm hi (okT_ok hR.out hok) hw hd hS h
/-- the same, what can be reckoned left out: the world is known -/
theorem sQ {l : List Value} {ds} (hL : Hid (ops = L)) (hR : Hid (Reg md L k n tbl)) (i m' : Nat) (v : Value) (hi : L[i]? = some oi) (hS : S w) (h : chn P md ops Q S k fuel m' (Act.mk (l.set d v).toArray ds) w) (hm : m' = m ||| 2 ^ i := by decide) (hok : okT n tbl m i = true := by kernel_rfl) (hw : Region.wanted oi (yielded L l.toArray) = true := by kernel_rfl) (hd : oi.dst = some d := by rfl)
    (hy : ∀ w, S w → (execOp (Act.mk l.toArray ds).eval oi).run P w = .ok (.value v) w := by (intro w9 hS9; subst hS9; go_simp; (first | done | with_reducible rfl))) : chn P md ops Q S k (fuel + 1) m (Act.mk l.toArray ds) w := stepTQ hL hR i m' v hm hi hok hw hd hy hS h
/-- the same, with what the operation does told, and one that is not wanted -/
theorem sQx {l : List Value} {ds} (hL : Hid (ops = L)) (hR : Hid (Reg md L k n tbl)) (i m' : Nat) {v : Value} (hy : ∀ w, S w → (execOp (Act.mk l.toArray ds).eval oi).run P w = .ok (.value v) w) (hi : L[i]? = some oi) (hS : S w) (h : chn P md ops Q S k fuel m' (Act.mk (l.set d v).toArray ds) w) (hm : m' = m ||| 2 ^ i := by decide) (hok : okT n tbl m i = true := by kernel_rfl) (hw : Region.wanted oi (yielded L l.toArray) = true := by kernel_rfl) (hd : oi.dst = some d := by rfl) :
    chn P md ops Q S k (fuel + 1) m (Act.mk l.toArray ds) w := stepTQ hL hR i m' v hm hi hok hw hd hy hS h
theorem sU {l : List Value} {ds} (hL : Hid (ops = L)) (hR : Hid (Reg md L k n tbl)) (i m' : Nat) (hi : L[i]? = some oi) (hS : S w) (h : chn P md ops Q S k fuel m' (Act.mk (l.set d undef).toArray ds) w) (hm : m' = m ||| 2 ^ i := by decide) (hok : okT n tbl m i = true := by kernel_rfl) (hw : Region.wanted oi (yielded L l.toArray) = false := by kernel_rfl) (hd : oi.dst = some d := by rfl) :
    chn P md ops Q S k (fuel + 1) m (Act.mk l.toArray ds) w := stepTU hL hR i m' hm hi hok hw hd hS h
theorem reg_of (_ : Hid (ops = L)) (tbl : List (Nat × Nat)) (h1 : L.size = n) (h2 : Region.noSelect L = true) (h3 : masks .any L = tbl) (h4 : n ≤ 99) : Hid (Reg .any L 99 n tbl) := Lib.hid ⟨h1, h2, h3, h4⟩
end
end Go.Proofs.Ytmjnleohchmadaa.InR
