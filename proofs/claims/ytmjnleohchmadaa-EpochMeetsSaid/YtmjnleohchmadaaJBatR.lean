/- Joined: BatRefA, BatRefG, BatRefB. -/
import Derived.Test.YtmjnleohchmadaaJBatA
import Derived.Test.YtmjnleohchmadaaJOct
import Derived.Test.YtmjnleohchmadaaJCrc
import Derived.Deep.RegionHeldLaw
/- The contracts of the document's own in and form. -/
namespace Go.Proofs.Ytmjnleohchmadaa.Bat
open Go.RowKit Go.Proofs.Ytmjnleohchmadaa.Oct Go.Proofs.Ytmjnleohchmadaa.Rec Go.Proofs.Ytmjnleohchmadaa.Crc

end Go.Proofs.Ytmjnleohchmadaa.Bat

/- The contract of the document's own form: the records. -/
namespace Go.Proofs.Ytmjnleohchmadaa.Bat
open Go.RowKit Go.Proofs.Ytmjnleohchmadaa.Oct Go.Proofs.Ytmjnleohchmadaa.Rec Go.Proofs.Ytmjnleohchmadaa.Crc

def fmRel (ba la : Int) (rs : List Rc) (n : Nat) (w : World) (i v : Value) (wr : World) : Prop :=
  ∃ (k : Nat) (lo : Int), i = .int .i64 (k : Int) ∧ k ≤ n ∧ v = .int .i64 lo ∧ -1 ≤ lo ∧ lo ≤ 1099511627776 ∧ rise lo la (rs.drop k) = rise (ba - 1) la rs ∧ Below w.heap.size w wr
end Go.Proofs.Ytmjnleohchmadaa.Bat

/- The contract of the document's own bytes. -/
namespace Go.Proofs.Ytmjnleohchmadaa.Bat
open Go.RowKit Go.Proofs.Ytmjnleohchmadaa.Oct Go.Proofs.Ytmjnleohchmadaa.Rec Go.Proofs.Ytmjnleohchmadaa.Crc

def mid (pre : List UInt8) (ba st : Int) (l : List Rc) (k : Nat) : List UInt8 := pre ++ (if k = 0 then [] else vb (zz st) ++ rs ba st (l.take k))
def by2Rel (base : Nat) (pre : List UInt8) (ba st : Int) (l : List Rc) (n : Nat) (w : World) (v i : Value) (wr : World) : Prop :=
  ∃ (k m : Nat) (A : Option Addr) (c : Nat), i = .int .i64 (k : Int) ∧ k ≤ n ∧ v = .slice A m c ∧ m ≤ 81 + 155 * k ∧ OwnB wr 5 base (.slice A m c) m (mid pre ba st l k) ∧ Below base w wr
def by1Rel (base : Nat) (l : List Int) (w : World) (v i : Value) (wr : World) : Prop :=
  ∃ (j m : Nat) (A : Option Addr) (c : Nat), i = .int .i64 (j : Int) ∧ j ≤ 7 ∧ v = .slice A m c ∧ m ≤ 10 * j ∧ OwnB wr 5 base (.slice A m c) m (vs (l.take j)) ∧ Below base w wr
end Go.Proofs.Ytmjnleohchmadaa.Bat
