/- Joined: EpoR3. -/
import Derived.Test.YtmjnleohchmadaaEpoR2
/- The document's EndOf, Cut and Trim. -/
namespace Go.Proofs.Ytmjnleohchmadaa.Epo
open Go.RowKit Go.Proofs.Ytmjnleohchmadaa.Oct Go.Proofs.Ytmjnleohchmadaa.RowF Go.Proofs.Ytmjnleohchmadaa.Lay Go.Proofs.Ytmjnleohchmadaa.InR

def endRel (l : List Ep) (n : Nat) (q last : Int) (w : World) (a0 b0 : Int) (va vb vi : Value) (wr : World) : Prop :=
  ∃ (k : Nat) (a b : Int), va = .int .i64 a ∧ vb = .int .i64 b ∧ vi = .int .i64 (k : Int) ∧ k ≤ n ∧ endO q last (l.drop k) (a, b) = (a0, b0) ∧ Below w.heap.size w wr
def cutRel (f : List Ep → List Ep) (l : List Ep) (n : Nat) (w : World) (vo vi : Value) (wr : World) : Prop :=
  ∃ (k m : Nat) (A : Option Addr) (c : Nat), vi = .int .i64 (k : Int) ∧ vo = .slice A m c ∧ k ≤ n ∧ m ≤ k ∧ OwnE wr w.heap.size (.slice A m c) m (f (l.take k)) ∧ Below w.heap.size w wr
end Go.Proofs.Ytmjnleohchmadaa.Epo
