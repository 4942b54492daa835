/- The contract of the landed rec's Size. -/
import Derived.Test.YtfjdalekpmlnaaaRecDevP
namespace Go.Proofs.Ytfjdalekpmlnaaa.Rec
open Go.RowKit Go.Proofs.Ytfjdalekpmlnaaa.Oct Go.Proofs.Ytfjdalekpmlnaaa.Crc

set_option maxRecDepth 100000 in
theorem Size_any (o s : Int) (k v : ByteArray) (d : Bool) (b t : Int) (w : World) (_ho : I64 o) (_hs : I64 s) (hk : k.size ≤ 1099511627776) (hv : v.size ≤ 1099511627776) (hb : I64 b) (ht : I64 t) :
    Calls Try.prog 18 #[.agg #[.int .i64 o, .string k, .string v, .bool d, .int .i64 s], .int .i64 b, .int .i64 t] w fun e w' => e = .returned (.int .i64 ((pt ⟨o, k, v, d, s⟩ b t).1.length : Int)) ∧ Below w.heap.size w w' := by
  obtain ⟨hb0, hb1⟩ := hb
  obtain ⟨ht0, ht1⟩ := ht
  go_enter Try.func18, Try.ntmps18
  go_wp2_with (go_at_call 14; refine (Put_any' o s k v d b t _ hk hv hb0 hb1 ht0 ht1).mono ?_; rintro e w9 ⟨A9, n9, c9, rfl, hown9, hb9⟩)
  have hn := hown9.len
  go_ret
  exact ⟨by rw [hn]; rfl, bel_trans ((Below.refl _ _).alloc (Nat.le_refl _) _) hb9⟩

end Go.Proofs.Ytfjdalekpmlnaaa.Rec
