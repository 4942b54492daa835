/- The contract of the document's own Size. -/
import Derived.Test.YtfjdalekpmlnaaaRecRefB
namespace Go.Proofs.Ytfjdalekpmlnaaa.Rec
open Go.RowKit Go.Proofs.Ytfjdalekpmlnaaa.Oct Go.Proofs.Ytfjdalekpmlnaaa.Crc

set_option maxRecDepth 100000 in
theorem refSize_any (o s : Int) (k v : ByteArray) (d : Bool) (b t : Int) (w : World) (hk : k.size ≤ 1099511627776) (hv : v.size ≤ 1099511627776) (hb0 : -9223372036854775808 ≤ b) (hb1 : b ≤ 9223372036854775807) (ht0 : -9223372036854775808 ≤ t) (ht1 : t ≤ 9223372036854775807) :
    Calls Try.prog 19 #[.agg #[.int .i64 o, .string k, .string v, .bool d, .int .i64 s], .int .i64 b, .int .i64 t] w fun e w' => e = .returned (.int .i64 ((pt ⟨o, k, v, d, s⟩ b t).1.length : Int)) ∧ Below w.heap.size w w' := by
  go_enter Try.func19, Try.ntmps19
  go_wp2_with (go_at_call 15; refine (refPut_any o s k v d b t _ hk hv hb0 hb1 ht0 ht1).mono ?_; rintro e w9 ⟨A9, n9, c9, rfl, hown9, hb9⟩)
  have hn := hown9.len
  go_ret
  exact ⟨by rw [hn]; rfl, bel_trans ((Below.refl _ _).alloc (Nat.le_refl _) _) hb9⟩

end Go.Proofs.Ytfjdalekpmlnaaa.Rec
