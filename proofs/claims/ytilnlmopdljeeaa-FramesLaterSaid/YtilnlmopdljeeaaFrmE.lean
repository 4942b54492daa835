/- The contract of frames.Feed; what the calls tell, with the answer written out. -/
import Derived.Test.YtilnlmopdljeeaaFrmD
namespace Go.Proofs.Ytilnlmopdljeeaa.Frm
open Go.RowKit Go.Proofs.Ytilnlmopdljeeaa.Oct Go.Proofs.Ytilnlmopdljeeaa.RowF Go.Proofs.Ytilnlmopdljeeaa.RowL Go.Proofs.Ytilnlmopdljeeaa.Lay

theorem rs_base {eL e8 : TypeId} {w w1 : World} {x : List (List UInt8) × List UInt8 × Int} {en : Ending} {w' : World} (h : RS eL e8 w1 x en w') (hb : Below w.heap.size w w1) : RS eL e8 w x en w' := by
  obtain ⟨A, n, c, A2, n2, c2, h1, h2, h3, h4⟩ := h
  exact ⟨A, n, c, A2, n2, c2, h1, h2.more hb.size (fun b hk => Nat.le_trans hb.size hk), h3.more hb.size, bel_trans hb h4⟩
theorem rp_base {e8 : TypeId} {w w1 : World} {x : List UInt8 × Int} {en : Ending} {w' : World} (h : RP e8 w1 x en w') (hb : Below w.heap.size w w1) : RP e8 w x en w' := by
  obtain ⟨A, n, c, h1, h2, h3⟩ := h
  exact ⟨A, n, c, h1, h2.more hb.size, bel_trans hb h3⟩
set_option maxRecDepth 100000 in
set_option maxHeartbeats 1000000 in
theorem Feed_any (A : Option Addr) (n c : Nat) (l : List UInt8) (A2 : Option Addr) (n2 c2 : Nat) (l2 : List UInt8) (w : World) (hr : Rd w w.heap.size A n l) (hc : n ≤ c) (hr2 : Rd w w.heap.size A2 n2 l2) (hc2 : n2 ≤ c2) (hn : n + n2 ≤ 1099511627776) :
    Calls Try.prog 17 #[.slice A n c, .slice A2 n2 c2] w (RS 22 5 w (sp (l ++ l2))) := by
  have HR := Lib.hid hr
  have HR2 := Lib.hid hr2
  have HF := Lib.hid (show [l, l2].flatten = l ++ l2 by simp)
  have HFL := Lib.hid (show [l, l2].flatten.length ≤ 1099511627776 by rw [HF.out, List.length_append, hr.len, hr2.len]; exact hn)
  have HN := Lib.hid (show (l ++ l2).length ≤ 1099511627776 by rw [List.length_append, hr.len, hr2.len]; exact hn)
  clear hr hr2 hn
  go_enter Try.func17, Try.ntmps17
  go_wp2_with (first
    | (go_at_call 24; refine (joined_any _ 2 2 [l, l2] _ _ (rdn_two 22 (0, 0) A A2 n c n2 c2 l l2 (Nat.le_refl _) HR.out hc HR2.out hc2) (by simp) (by omega) HFL.out).mono ?_; rw [HF.out]; rintro e w3 ⟨A3, n3, c3, rfl, ho3, hb3⟩; have HO3 := Lib.hid ho3; have HW3 := Lib.hid (show Below w.heap.size w w3 from (bel_alloc (Below.refl _ _) _).trans (hb3.mono (by simp))); clear ho3 hb3)
    | (go_at_call 14; refine (Split_any A3 n3 c3 (l ++ l2) w3 HO3.out.rd HO3.out.cap (by rw [← HO3.out.len]; exact HN.out)).mono ?_; intro e w4 h4; have H4 := Lib.hid (rs_base h4 HW3.out); clear h4; obtain ⟨A4, n4, c4, A5, n5, c5, rfl, ho4, ho5, hb5⟩ := H4.out))
  go_ret3
  exact ⟨A4, n4, c4, A5, n5, c5, rfl, ho4, ho5, hb5⟩
end Go.Proofs.Ytilnlmopdljeeaa.Frm
