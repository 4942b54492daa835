/- The contract of the document's GetText. -/
import Derived.Test.YtfjdalekpmlnaaaOctRGetVar
namespace Go.Proofs.Ytfjdalekpmlnaaa.Oct
open Go.RowKit

set_option maxRecDepth 100000 in
set_option maxHeartbeats 800000 in
theorem refGetText_any (A : Option Addr) (n c : Nat) (p most : Int) (l : List UInt8) (B : Nat) (w : World) (hr : Rd w B A n l) (hc : n ≤ c) (hn : n ≤ 1099511627776) (hp : p ≤ 9223372036854775807) :
    Calls Try.prog 41 #[.slice A n c, .int .i64 p, .int .i64 most] w fun e w' => GX l p most e ∧ w = w' := by
  have hl := hr.len
  have hnx := gv_next (l := l) (p := p)
  have HG := refGetVar_any A n c p l B w hr hn hp
  unfold GX gx
  unfold GV at HG
  rw [hl] at hnx ⊢
  generalize hx : (gv l p).1 = x at *
  generalize hy : (gv l p).2.1 = y at *
  generalize hz : (gv l p).2.2 = z at *
  have HG2 := Lib.hid HG
  clear hx hy hz HG
  by_cases h1 : z = 0
  · subst h1
    obtain ⟨g1, g2, g3⟩ := hnx rfl
    rw [if_neg (by simp)]
    by_cases h2 : x < 0
    · rw [if_pos h2]
      clear hr hl hnx
      go_enter Try.func41, Try.ntmps41
      go_wp2_with (go_at_call 40; refine HG2.out.mono ?_; rintro e w1 ⟨rfl, rfl⟩)
      go_ret3
      exact ⟨rfl, rfl⟩
    · rw [if_neg h2]
      by_cases h3 : most < x
      · rw [if_pos h3]
        clear hr hl hnx
        go_enter Try.func41, Try.ntmps41
        go_wp2_with (go_at_call 40; refine HG2.out.mono ?_; rintro e w1 ⟨rfl, rfl⟩)
        go_ret3
        exact ⟨rfl, rfl⟩
      · rw [if_neg h3]
        by_cases h4 : hasB n y x = true
        · rw [if_neg (by simp [h4])]
          have h5 : y + x ≤ n := by simp [hasB] at h4; omega
          obtain ⟨Y, rfl⟩ : ∃ m : Nat, y = (m : Int) := ⟨y.toNat, by omega⟩
          obtain ⟨X, rfl⟩ : ∃ m : Nat, x = (m : Int) := ⟨x.toNat, by omega⟩
          clear hl hnx
          go_enter Try.func41, Try.ntmps41
          go_wp2_with (first | (go_at_call 40; refine HG2.out.mono ?_; rintro e w1 ⟨rfl, rfl⟩) | (refine wpList_toStr _ rfl (.tmp 38) 26 9 5 rfl Try.underlying26 Try.underlying5 Try.underlying9 _ _ _ _ ((l.drop Y).take X) rfl (hr.cut' (i := Y) (m := X) (by omega) (by omega) (by intro h0; first | rfl | exact if_neg (by omega) | (exfalso; omega))) ?_))
          all_goals go_ret3
          all_goals exact ⟨rfl, rfl⟩
        · have h4' : hasB n y x = false := by simpa using h4
          have h5 : (n : Int) - y < x := by simp [hasB] at h4'; omega
          rw [if_pos h4']
          clear hr hl hnx h4 h4'
          go_enter Try.func41, Try.ntmps41
          go_wp2_with (go_at_call 40; refine HG2.out.mono ?_; rintro e w1 ⟨rfl, rfl⟩)
          go_ret3
          exact ⟨rfl, rfl⟩
  · rw [if_pos h1]
    have h1' : (z == 0) = false := beqF h1
    have h1'' : (z != 0) = true := by simp [h1]
    clear hr hl hnx h1
    go_enter Try.func41, Try.ntmps41
    go_wp2_with (go_at_call 40; refine HG2.out.mono ?_; rintro e w1 ⟨rfl, rfl⟩)
    go_ret3
    exact ⟨rfl, rfl⟩

theorem refGetText_is (A : Option Addr) (n c : Nat) (p most : Int) (l : List UInt8) (B : Nat) (w : World) (hr : Rd w B A n l) (hc : n ≤ c) (hn : n ≤ 1099511627776) (hp : p ≤ 9223372036854775807) {t : ByteArray} {y z : Int} (h : gx l p most = (t, y, z)) :
    Calls Try.prog 41 #[.slice A n c, .int .i64 p, .int .i64 most] w fun e w' => e = .returned (.tuple #[.string t, .int .i64 y, .int .i64 z]) ∧ w = w' := by
  have h1 := refGetText_any A n c p most l B w hr hc hn hp
  unfold GX at h1
  rw [h] at h1
  exact h1

end Go.Proofs.Ytfjdalekpmlnaaa.Oct
