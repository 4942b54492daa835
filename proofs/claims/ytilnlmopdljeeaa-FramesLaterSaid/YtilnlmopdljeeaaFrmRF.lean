/- The contract of the document's Feed: watermeet/watermeetref05.Feed. -/
import Derived.Test.YtilnlmopdljeeaaFrmRS
namespace Go.Proofs.Ytilnlmopdljeeaa.Frm
open Go.RowKit Go.Proofs.Ytilnlmopdljeeaa.Oct Go.Proofs.Ytilnlmopdljeeaa.RowF Go.Proofs.Ytilnlmopdljeeaa.RowL Go.Proofs.Ytilnlmopdljeeaa.Lay

theorem rs_base2 {eL e8 : TypeId} {w w1 : World} {x : List (List UInt8) × List UInt8 × Int} {en : Ending} {w' : World} (h : RS eL e8 w1 x en w') (hb : Below w.heap.size w w1) : RS eL e8 w x en w' := by
  obtain ⟨A, n, c, A2, n2, c2, h1, h2, h3, h4⟩ := h
  exact ⟨A, n, c, A2, n2, c2, h1, h2.more hb.size (fun b hk => Nat.le_trans hb.size hk), h3.more hb.size, bel_trans hb h4⟩
set_option maxRecDepth 100000 in
set_option maxHeartbeats 1000000 in
theorem refFFeed_any (A : Option Addr) (n c : Nat) (l : List UInt8) (A2 : Option Addr) (n2 c2 : Nat) (l2 : List UInt8) (w : World) (hr : Rd w w.heap.size A n l) (hr2 : Rd w w.heap.size A2 n2 l2) (hn : n + n2 ≤ 1099511627776) :
    Calls Try.prog 18 #[.slice A n c, .slice A2 n2 c2] w (RS 22 5 w (sp (l ++ l2))) := by
  have hI := u8row
  have HR := Lib.hid hr
  have HR2 := Lib.hid hr2
  have HN := Lib.hid hn
  clear hr hr2 hn
  go_enter Try.func18, Try.ntmps18
  go_wp2_with (first
    | (at_builtin; refine wpList_appB w5 rfl _ _ 22 rfl w.heap.size 5 Try.underlying22 hI _ n _ rfl HO5.out w.heap.size A2 n2 c2 l2 rfl (HR2.out.below HW5.out (Nat.le_refl _)) HN.out hs5 ?_; intro A6 c6 w6 hown6 hb6; have HO6 := Lib.hid hown6; have HW6 := Lib.hid (HW5.out.trans hb6); clear hown6 hb6)
    | (at_builtin; refine wpList_app0 (w.alloc (.cells #[] 5)) rfl _ _ 22 rfl w.heap.size 5 Try.underlying22 hI _ rfl (Crc.own_lit w 5 [] 0 rfl (by omega)) w.heap.size A n c l rfl (HR.out.alloc (Nat.le_refl _) _) (by have := HN.out; omega) (by simp) ?_; intro A5 c5 w5 hown5 hb5; have HO5 := Lib.hid hown5; have HW5 := Lib.hid (show Below w.heap.size w w5 from (bel_alloc (Below.refl _ _) _).trans (hb5.mono (by simp))); have hs5 := HW5.out.size; clear hown5 hb5)
    | (go_at_call 15; refine (refFSplit_any A6 (n + n2) c6 (l ++ l2) w6 HO6.out.rd HO6.out.cap HN.out).mono ?_; intro e w4 h4; have H4 := Lib.hid (rs_base2 h4 HW6.out); clear h4; obtain ⟨A4, n4, c4, A7, n7, c7, rfl, ho4, ho7, hb7⟩ := H4.out))
  go_ret3
  exact ⟨A4, n4, c4, A7, n7, c7, rfl, ho4, ho7, hb7⟩
end Go.Proofs.Ytilnlmopdljeeaa.Frm
