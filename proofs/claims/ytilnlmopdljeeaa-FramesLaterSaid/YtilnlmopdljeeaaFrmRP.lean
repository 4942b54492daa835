/- The contract of the document's Put: watermeet/watermeetref05.Put. -/
import Derived.Test.YtilnlmopdljeeaaFrmW
import Derived.Test.YtilnlmopdljeeaaOctU8
import Derived.Test.YtilnlmopdljeeaaCrcSpec
namespace Go.Proofs.Ytilnlmopdljeeaa.Frm
open Go.RowKit Go.Proofs.Ytilnlmopdljeeaa.Oct Go.Proofs.Ytilnlmopdljeeaa.RowF Go.Proofs.Ytilnlmopdljeeaa.RowL Go.Proofs.Ytilnlmopdljeeaa.Lay

theorem be4 {n : Nat} (h : n ≤ 4096) : beN n 4 4 = [0, 0, UInt8.ofNat (n / 256), UInt8.ofNat n] := by
  have h1 : n / 16777216 = 0 := by omega
  have h2 : n / 65536 = 0 := by omega
  simp [beN, List.range, List.range.loop, h1, h2]
set_option maxRecDepth 100000 in
set_option maxHeartbeats 1000000 in
theorem refFPut_any (A : Option Addr) (n c : Nat) (l : List UInt8) (w : World) (hr : Rd w w.heap.size A n l) (_hc : n ≤ c) :
    Calls Try.prog 13 #[.slice A n c] w (RP 5 w (ptF l)) := by
  have hI := u8row
  have hlen := hr.len
  have HR := Lib.hid hr
  clear hr
  by_cases hz : 1 ≤ n ∧ n ≤ 4096
  · have hp := Lib.hid (show ptF l = (fr l, 0) by
      unfold ptF okF
      rw [hlen, if_pos]
      simp; omega)
    have h0 : ¬ n < 1 := by omega
    have h4 : ¬ 4096 < n := by omega
    obtain ⟨x, hx⟩ : ∃ x, x = UInt8.ofNat (n / 256) := ⟨_, rfl⟩
    obtain ⟨y, hy⟩ : ∃ y, y = UInt8.ofNat n := ⟨_, rfl⟩
    have hf := Lib.hid (show fr l = [0, 0, x, y] ++ l by rw [fr, hlen, be4 hz.2, hx, hy])
    have hx2 : (n : Int) / 256 = (x.toNat : Int) := by rw [hx, UInt8.toNat_ofNat']; omega
    have hy2 : (n : Int) % 256 = (y.toNat : Int) := by rw [hy, UInt8.toNat_ofNat']; omega
    have hxl : x.toNat ≤ 255 := by have := x.toNat_lt; omega
    have hyl : y.toNat ≤ 255 := by have := y.toNat_lt; omega
    have HX := Lib.hid hx2
    have HY := Lib.hid hy2
    rw [hp.out]
    clear hlen hx hy hx2 hy2
    go_enter Try.func13, Try.ntmps13
    go_wp2_with (at_builtin; go_loud (rw [HX.out, HY.out]; refine wpList_appB _ rfl _ _ 22 rfl w.heap.size 5 Try.underlying22 hI _ 4 [0, 0, x, y] rfl (Crc.own_lit w 5 [0, 0, x, y] 4 rfl (by omega)) w.heap.size A n c l rfl (HR.out.alloc (Nat.le_refl _) _) (by omega) (by simp) ?_; intro A3 c3 w3 hown3 hb3))
    go_ret2
    exact ⟨A3, 4 + n, c3, rfl, by rw [hf.out]; exact hown3, (bel_alloc (Below.refl _ _) _).trans hb3⟩
  · have hp := Lib.hid (show ptF l = ([], 11) by
      unfold ptF okF
      rw [hlen, if_neg]
      simp
      omega)
    rw [hp.out]
    clear hlen
    go_enter Try.func13, Try.ntmps13
    go_wp2
    all_goals go_ret2
    all_goals exact ⟨none, 0, 0, rfl, OwnB.nil, Below.refl _ _⟩
end Go.Proofs.Ytilnlmopdljeeaa.Frm
