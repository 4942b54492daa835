/- Joined: BatDevHe, BatDevRf, BatDevHf. -/
import Derived.Test.YtmjnleohchmadaaJBatE
import Derived.Test.YtmjnleohchmadaaJBatA
import Derived.Test.YtmjnleohchmadaaJBatR
import Derived.Test.YtmjnleohchmadaaJRec
/- The contract of the landed hasForm: its numbers. -/
namespace Go.Proofs.Ytmjnleohchmadaa.Bat
open Go.RowKit Go.Proofs.Ytmjnleohchmadaa.Oct Go.Proofs.Ytmjnleohchmadaa.Rec Go.Proofs.Ytmjnleohchmadaa.Crc

def hdOk (b : Bt) : Bool :=
  decide ((0 ≤ b.base ∧ b.base ≤ 1099511627776) ∧ (0 ≤ wrap64 (b.last - b.base) ∧ wrap64 (b.last - b.base) ≤ 15 ∧ wrap64 (b.last - b.base) ≤ 1099511627776 - b.base) ∧ (0 ≤ b.frm ∧ b.frm ≤ 1099511627776 - wrap64 (b.last - b.base)) ∧
    (0 ≤ b.epoch ∧ b.epoch ≤ 1048576) ∧ (-1 ≤ b.pid ∧ b.pid ≤ 1099511627776) ∧ (0 ≤ b.gen ∧ b.gen ≤ 1048576) ∧ (0 ≤ b.seq ∧ b.seq ≤ 1048576 - wrap64 (b.last - b.base)))
def hdT (b : Bt) (sp : Int) : Nat → Prop
  | 0 => 0 ≤ b.base ∧ b.base ≤ 1099511627776
  | 1 => 0 ≤ sp ∧ sp ≤ 15 ∧ sp ≤ 1099511627776 - b.base
  | 2 => 0 ≤ b.frm ∧ b.frm ≤ 1099511627776 - sp
  | 3 => 0 ≤ b.epoch ∧ b.epoch ≤ 1048576
  | 4 => -1 ≤ b.pid ∧ b.pid ≤ 1099511627776
  | 5 => 0 ≤ b.gen ∧ b.gen ≤ 1048576
  | _ => 0 ≤ b.seq ∧ b.seq ≤ 1048576 - sp
end Go.Proofs.Ytmjnleohchmadaa.Bat

/- The contract of the landed recsHaveForm. -/
namespace Go.Proofs.Ytmjnleohchmadaa.Bat
open Go.RowKit Go.Proofs.Ytmjnleohchmadaa.Oct Go.Proofs.Ytmjnleohchmadaa.Rec Go.Proofs.Ytmjnleohchmadaa.Crc

def rfRel (ba la : Int) (rs : List Rc) (n : Nat) (w : World) (i v : Value) (wr : World) : Prop :=
  ∃ (k : Nat) (lo : Int), i = .int .i64 (k : Int) ∧ k ≤ n ∧ v = .int .i64 (lo + 1) ∧ -1 ≤ lo ∧ lo ≤ 1099511627776 ∧ rise lo la (rs.drop k) = rise (ba - 1) la rs ∧ Below w.heap.size w wr
end Go.Proofs.Ytmjnleohchmadaa.Bat

/- The contract of the landed hasForm. -/
namespace Go.Proofs.Ytmjnleohchmadaa.Bat
open Go.RowKit Go.Proofs.Ytmjnleohchmadaa.Oct Go.Proofs.Ytmjnleohchmadaa.Rec Go.Proofs.Ytmjnleohchmadaa.Crc

end Go.Proofs.Ytmjnleohchmadaa.Bat
