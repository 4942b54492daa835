/- Joined: BatRefA. -/
import Derived.Test.YtmjnleohchmadaaJBatA
/- The contracts of the document's own in and form. -/
namespace Go.Proofs.Ytmjnleohchmadaa.Bat
open Go.RowKit Go.Proofs.Ytmjnleohchmadaa.Oct Go.Proofs.Ytmjnleohchmadaa.Rec Go.Proofs.Ytmjnleohchmadaa.Crc

end Go.Proofs.Ytmjnleohchmadaa.Bat
