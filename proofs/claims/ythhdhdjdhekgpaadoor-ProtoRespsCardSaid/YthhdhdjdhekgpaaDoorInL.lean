/- Joined: InL. -/
import Derived.Test.YthhdhdjdhekgpaaDoorInT
/- A region in the text's order, walked step by step: the operations and the way on are letters. Nothing of the program. -/
namespace Go.Proofs.YthhdhdjdhekgpaaDoor.InR
open Go.RowKit

/-- what is left from number j on -/
def lchn (P : Program) (ops : Array Oper) (Q : Act → World → Prop) (j : Nat) (a : Act) (w : World) : Prop := wpList P ops (lift Q) (ops.toList.drop j) a w
section
variable {P : Program} {ops L : Array Oper} {Q : Act → World → Prop} {d j : Nat} {w : World} {oi : Oper} {a : Act}
theorem drop_op (h : L[j]? = some oi) : L.toList.drop j = oi :: L.toList.drop (j + 1) := by
  obtain ⟨hlt, hr⟩ := Array.getElem?_eq_some_iff.1 h
  rw [List.drop_eq_getElem_cons (by simpa using hlt)]
  congr 1
theorem lstepQ {l : List Value} {ds} (hL : Hid (ops = L)) (v : Value) (hi : L[j]? = some oi) (hw : Region.wanted oi (yielded L l.toArray) = true) (hd : oi.dst = some d) (hy : (execOp (Act.mk l.toArray ds).eval oi).run P w = .ok (.value v) w)
    (h : lchn P ops Q (j + 1) (Act.mk (l.set d v).toArray ds) w) : lchn P ops Q j (Act.mk l.toArray ds) w := by
  obtain rfl := hL.out
  unfold lchn at h ⊢
  rw [drop_op hi]
  refine wpList_step fun K hK => ?_
  rw [if_pos hw]
  show oi.upon P _ K _ ((execOp _ oi).run P w)
  rw [hy]
  show K (Act.put _ oi.dst v) w
  rw [hd, put_lit]
  exact hK _ _ h
theorem lstepU {l : List Value} {ds} (hL : Hid (ops = L)) (hi : L[j]? = some oi) (hw : Region.wanted oi (yielded L l.toArray) = false) (hd : oi.dst = some d)
    (h : lchn P ops Q (j + 1) (Act.mk (l.set d undef).toArray ds) w) : lchn P ops Q j (Act.mk l.toArray ds) w := by
  obtain rfl := hL.out
  unfold lchn at h ⊢
  rw [drop_op hi]
  refine wpList_skip hw ?_
  rw [hd, put_lit]
  exact h
/-- one that may do more: a call -/
theorem lstepC (hL : Hid (ops = L)) (hi : L[j]? = some oi) (hw : Region.wanted oi (yielded L a.tmps) = true) (h : Oper.wp P oi a w (fun a' w' => lchn P ops Q (j + 1) a' w') (lift Q)) : lchn P ops Q j a w := by
  obtain rfl := hL.out
  unfold lchn at h ⊢
  rw [drop_op hi]
  refine wpList_step fun K hK => ?_
  rw [if_pos hw]
  exact Oper.wp_mono (fun _ _ h2 => hK _ _ h2) h
theorem lstepE (hL : Hid (ops = L)) (hj : L.size ≤ j) (h : Q a w) : lchn P ops Q j a w := by
  obtain rfl := hL.out
  unfold lchn
  rw [List.drop_eq_nil_of_le (by simpa using hj)]
  exact h
theorem region_seq {id : Nat} {Q : Exit → Act → World → Prop} (h : ∀ (ops' : Array Oper) (Q' : Act → World → Prop), Hid (ops' = ops) → Hid (∀ a w, Q .normal a w → Q' a w) → lchn P ops' Q' 0 a w) : (Code.region id ops false).wp P Q a w := by
  have h1 := h ops (fun a w => Q .normal a w) (Lib.hid rfl) (Lib.hid fun _ _ h => h)
  unfold lchn at h1
  rw [List.drop_zero] at h1
  refine wp_mono (wp_region_list h1) fun e a w h => ?_
  cases e <;> first | exact h | exact (h : False).elim
end
end Go.Proofs.YthhdhdjdhekgpaaDoor.InR
