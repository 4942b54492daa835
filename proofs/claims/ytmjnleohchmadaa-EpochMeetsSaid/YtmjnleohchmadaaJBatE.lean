/- Joined: Takes, BatEach, BatDevW. -/
import Derived.WalkKit
import Derived.Deep.RegionHeld3
import Derived.Test.YtmjnleohchmadaaJBatA
import Derived.RegionTactic
import Derived.BigRegion
/- A region that draws its order, operation by operation: one that is not wanted, one that only reckons, the only one that may come up. Nothing of the program. -/
namespace Go.Proofs.Ytmjnleohchmadaa.Bat
open Go.RowKit
section
variable {P : Program} {ops : Array Oper} {Q : Exit → Act → World → Prop} {md : Region.Mode}
end
end Go.Proofs.Ytmjnleohchmadaa.Bat

/- The contract of the landed eachNumber, handed any function: it is called number by number till it answers false. -/
namespace Go.Proofs.Ytmjnleohchmadaa.Bat
open Go.RowKit Go.Proofs.Ytmjnleohchmadaa.Oct Go.Proofs.Ytmjnleohchmadaa.Rec Go.Proofs.Ytmjnleohchmadaa.Crc
def adE (g s : Nat) : Nat → Addr
  | 1 => ⟨s, 0, none⟩
  | k => ⟨g, k, none⟩
def loE : Nat → Int
  | 4 => -1
  | _ => 0
def hiE (x y : Int) : Nat → Int
  | 1 => if IntKind.i64.wrap (1099511627776 - x) < 15 then IntKind.i64.wrap (1099511627776 - x) else 15
  | 2 => IntKind.i64.wrap (1099511627776 - y)
  | 3 => 1048576
  | 5 => 1048576
  | 6 => IntKind.i64.wrap (1048576 - y)
  | _ => 1099511627776
def SeeE (g s : Nat) (w : World) (x y : Int) : Prop := w.cell? ⟨g, 0, none⟩ = some (.int .i64 x) ∧ w.cell? ⟨s, 0, none⟩ = some (.int .i64 y) ∧ (∃ z, w.cell? ⟨g, 1, none⟩ = some (.int .i64 z)) ∧ w.frozen? ⟨g, 1, none⟩ = false
end Go.Proofs.Ytmjnleohchmadaa.Bat

/- The contract of the landed hasForm's own function: is a number from one to another? -/
namespace Go.Proofs.Ytmjnleohchmadaa.Bat
open Go.RowKit Go.Proofs.Ytmjnleohchmadaa.Oct Go.Proofs.Ytmjnleohchmadaa.Rec Go.Proofs.Ytmjnleohchmadaa.Crc
def inL (v lo hi : Int) : Bool := decide (lo ≤ v ∧ v ≤ hi)
end Go.Proofs.Ytmjnleohchmadaa.Bat
