/- The byte's row of the table, and a slice of bytes as a string. -/
import Derived.Test.YtilnlmopdljeeaaRows
import Derived.Test.YtilnlmopdljeeaaOctSpec
namespace Go.Proofs.Ytilnlmopdljeeaa.Oct
open Go.RowKit

theorem u8row : U8 Try.prog 5 := by
  obtain ⟨i, h1, h2, h3, h4⟩ := info_parts (P := Try.prog) (e := 5) (z := .int .u8 0) (size := 1) (bytes := 1) (by kernel_rfl)
  exact ⟨i, h1, h2, h3, h4⟩

theorem str_of (w : World) (B : Nat) (A : Option Addr) (n c : Nat) (l : List UInt8) (hr : Rd w B A n l) : (convert 22 9 (.slice A n c)).run Try.prog w = .ok (.string ⟨l.toArray⟩) w :=
  run_toString (P := Try.prog) w 22 9 5 Try.underlying22 Try.underlying5 Try.underlying9 B A n c l hr

end Go.Proofs.Ytilnlmopdljeeaa.Oct
