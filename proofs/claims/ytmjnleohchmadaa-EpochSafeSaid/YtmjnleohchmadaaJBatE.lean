/- Joined: Takes. -/
import Derived.WalkKit
import Derived.Deep.RegionHeld3
/- A region that draws its order, operation by operation: one that is not wanted, one that only reckons, the only one that may come up. Nothing of the program. -/
namespace Go.Proofs.Ytmjnleohchmadaa.Bat
open Go.RowKit
section
variable {P : Program} {ops : Array Oper} {Q : Exit → Act → World → Prop} {md : Region.Mode}
end
end Go.Proofs.Ytmjnleohchmadaa.Bat
