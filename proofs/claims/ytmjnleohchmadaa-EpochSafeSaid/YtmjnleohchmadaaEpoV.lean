/- Joined: EpoV. -/
import Derived.Test.YtmjnleohchmadaaEpoD2
import Derived.Test.YtmjnleohchmadaaEpoD4
import Derived.Deep.DeepCutAuto
/- The laws' own live and few. -/
namespace Go.Proofs.Ytmjnleohchmadaa.Epo
open Go.RowKit Go.Proofs.Ytmjnleohchmadaa.Oct Go.Proofs.Ytmjnleohchmadaa.RowF Go.Proofs.Ytmjnleohchmadaa.Lay Go.Proofs.Ytmjnleohchmadaa.InR Go.Proofs.Ytmjnleohchmadaa.Bat

def exE : List Ep := [⟨1, 0⟩, ⟨3, 10⟩]
theorem rd_ex (w : World) : RdE (w.alloc (.cells #[.int .i64 1, .int .i64 0, .int .i64 3, .int .i64 10] 32)) (w.alloc (.cells #[.int .i64 1, .int .i64 0, .int .i64 3, .int .i64 10] 32)).heap.size (some ⟨w.heap.size, 0, none⟩) 2 exE := by
  refine ⟨rfl, fun k x hx => ⟨w.heap.size, 0, rfl, by simp, fun i v hv => ?_⟩⟩
  rw [(At0.new w [.int .i64 1, .int .i64 0, .int .i64 3, .int .i64 10] 32).cell]
  match k, hx with
  | 0, hx =>
    obtain rfl : (⟨1, 0⟩ : Ep) = x := Option.some.inj hx
    match i, hv with
    | 0, hv => exact hv
    | 1, hv => exact hv
  | 1, hx =>
    obtain rfl : (⟨3, 10⟩ : Ep) = x := Option.some.inj hx
    match i, hv with
    | 0, hv => exact hv
    | 1, hv => exact hv
set_option maxRecDepth 100000 in
set_option maxHeartbeats 8000000 in
theorem live_any (w : World) : Calls Try.prog 11 #[] w fun e w' => e = .returned (.bool true) ∧ Below w.heap.size w w' := by
  have HE := Lib.hid (show endOf exE 2 15 = (1, 10) by decide)
  have HP := Lib.hid (show putE exE 4 12 = ([⟨1, 0⟩, ⟨3, 10⟩, ⟨4, 12⟩], 0) by decide)
  go_enter Try.func11, Try.ntmps11
  go_upto_region 2 with fail
  have HR1 := Lib.hid (rd_ex w)
  have HB1 := Lib.hid (belA w (.cells #[.int .i64 1, .int .i64 0, .int .i64 3, .int .i64 10] 32))
  generalize (w.alloc (.cells #[.int .i64 1, .int .i64 0, .int .i64 3, .int .i64 10] 32)) = w1 at *
  go_wp2_with (first
    | (go_at_call 19; (with_reducible refine (dEndOf_is _ 2 2 exE 2 15 _ HR1.out (by decide) HE.out).mono ?_); rintro e w2 ⟨rfl, hb⟩; have HB2 := Lib.hid (bel_trans HB1.out hb); have HR2 := Lib.hid (rdeUp HR1.out hb); clear hb)
    | (go_at_call 14; (with_reducible refine (dPut_is _ 2 2 exE 4 12 _ HR2.out (by decide) HP.out).mono ?_); rintro e w3 ⟨A', n', c', rfl, ho, hb⟩; have HB3 := Lib.hid (bel_trans HB2.out hb); obtain rfl : 3 = n' := OwnF.len epS ho; clear ho hb))
  go_ret
  exact ⟨rfl, HB3.out⟩
end Go.Proofs.Ytmjnleohchmadaa.Epo
