/- The contract of the document's own beside. -/
import Derived.Test.YtfjdalekpmlnaaaRecRefA
namespace Go.Proofs.Ytfjdalekpmlnaaa.Rec
open Go.RowKit Go.Proofs.Ytfjdalekpmlnaaa.Oct

theorem refBeside_any (n d : Int) (w : World) (h0 : 0 ≤ n) (h1 : n ≤ 1099511627776) : Calls Try.prog 42 #[.int .i64 n, .int .i64 d] w fun e w' => e = .returned (.int .i64 (bes n d)) ∧ w = w' := by
  by_cases h2 : d < -1099511627776
  · have hz := Lib.hid (show bes n d = -1 by unfold bes; rw [if_pos (.inl h2)])
    rw [hz.out]
    go_enter Try.func42, Try.ntmps42
    go_wp2
    go_ret
    exact ⟨rfl, rfl⟩
  by_cases h3 : 1099511627776 < d
  · have hz := Lib.hid (show bes n d = -1 by unfold bes; rw [if_pos (.inr (.inl h3))])
    rw [hz.out]
    go_enter Try.func42, Try.ntmps42
    go_wp2
    go_ret
    exact ⟨rfl, rfl⟩
  rcases h4 : inR (n + d) with _ | _
  · have hz := Lib.hid (show bes n d = -1 by unfold bes; rw [if_pos (.inr (.inr h4))])
    rw [hz.out]
    go_enter Try.func42, Try.ntmps42
    go_wp2_with (go_at_call 27; refine (refIn_any _ _ h4).mono ?_; rintro e w8 ⟨rfl, rfl⟩)
    go_ret
    exact ⟨rfl, rfl⟩
  · have hz := Lib.hid (show bes n d = n + d by unfold bes; rw [if_neg]; rw [h4]; simp; omega)
    rw [hz.out]
    go_enter Try.func42, Try.ntmps42
    go_wp2_with (go_at_call 27; refine (refIn_any _ _ h4).mono ?_; rintro e w8 ⟨rfl, rfl⟩)
    go_ret
    exact ⟨rfl, rfl⟩
end Go.Proofs.Ytfjdalekpmlnaaa.Rec
