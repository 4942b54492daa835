/- Joined: BatRefA, BatRefG, BatRefB. -/
import Derived.Test.YtejcjmiofidedaaGreatDoorJBatA
import Derived.Test.YtejcjmiofidedaaGreatDoorJOct
import Derived.Test.YtejcjmiofidedaaGreatDoorJCrc
import Derived.Deep.RegionHeldLaw
/- The contracts of the document's own in and form. -/
namespace Go.Proofs.YtejcjmiofidedaaGreatDoor.Bat
open Go.RowKit Oct Rec Crc

end Go.Proofs.YtejcjmiofidedaaGreatDoor.Bat

/- The contract of the document's own form: the records. -/
namespace Go.Proofs.YtejcjmiofidedaaGreatDoor.Bat
open Go.RowKit Oct Rec Crc

theorem rise_step {lo hi : Int} {l : List Rc} {k : Nat} {r : Rc} (h : l[k]? = some r) : rise lo hi (l.drop k) = (may r && decide (lo < r.off ∧ r.off ≤ hi) && rise r.off hi (l.drop (k + 1))) := by
  rw [drop_one h]; rfl
where
  drop_one {l : List Rc} {k : Nat} {r : Rc} (h : l[k]? = some r) : l.drop k = r :: l.drop (k + 1) := by
    obtain ⟨hk, rfl⟩ := List.getElem?_eq_some_iff.1 h
    exact List.drop_eq_getElem_cons hk
def fmRel (ba la : Int) (rs : List Rc) (n : Nat) (w : World) (i v : Value) (wr : World) : Prop :=
  ∃ (k : Nat) (lo : Int), i = .int .i64 (k : Int) ∧ k ≤ n ∧ v = .int .i64 lo ∧ -1 ≤ lo ∧ lo ≤ 1099511627776 ∧ rise lo la (rs.drop k) = rise (ba - 1) la rs ∧ Below w.heap.size w wr
end Go.Proofs.YtejcjmiofidedaaGreatDoor.Bat

/- The contract of the document's own bytes. -/
namespace Go.Proofs.YtejcjmiofidedaaGreatDoor.Bat
open Go.RowKit Oct Rec Crc

theorem vs_take {l : List Int} {j : Nat} {x : Int} (h : l[j]? = some x) : vs (l.take (j + 1)) = vs (l.take j) ++ vb (zz x) := by
  rw [List.take_add_one, h]
  generalize l.take j = m
  induction m with
  | nil => simp [vs]
  | cons y m ih => simp only [Option.toList_some] at ih ⊢; simp [vs, ih, List.append_assoc]
theorem rs_take {l : List Rc} {j : Nat} {r : Rc} {ba st : Int} (h : l[j]? = some r) : rs ba st (l.take (j + 1)) = rs ba st (l.take j) ++ rb r ba st := by
  rw [List.take_add_one, h]
  generalize l.take j = m
  induction m with
  | nil => simp [rs]
  | cons y m ih => simp only [Option.toList_some] at ih ⊢; simp [rs, ih, List.append_assoc]
def mid (pre : List UInt8) (ba st : Int) (l : List Rc) (k : Nat) : List UInt8 := pre ++ (if k = 0 then [] else vb (zz st) ++ rs ba st (l.take k))
def by2Rel (base : Nat) (pre : List UInt8) (ba st : Int) (l : List Rc) (n : Nat) (w : World) (v i : Value) (wr : World) : Prop :=
  ∃ (k m : Nat) (A : Option Addr) (c : Nat), i = .int .i64 (k : Int) ∧ k ≤ n ∧ v = .slice A m c ∧ m ≤ 81 + 155 * k ∧ OwnB wr 5 base (.slice A m c) m (mid pre ba st l k) ∧ Below base w wr
def by1Rel (base : Nat) (l : List Int) (w : World) (v i : Value) (wr : World) : Prop :=
  ∃ (j m : Nat) (A : Option Addr) (c : Nat), i = .int .i64 (j : Int) ∧ j ≤ 7 ∧ v = .slice A m c ∧ m ≤ 10 * j ∧ OwnB wr 5 base (.slice A m c) m (vs (l.take j)) ∧ Below base w wr
end Go.Proofs.YtejcjmiofidedaaGreatDoor.Bat
