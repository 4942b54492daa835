/- The walk of FramesLater. -/
import Derived.Test.YtilnlmopdljeeaaFrmLaws1
namespace Go.Proofs.Ytilnlmopdljeeaa.Frm
open Go.RowKit Go.Proofs.Ytilnlmopdljeeaa.Oct Go.Proofs.Ytilnlmopdljeeaa.RowF Go.Proofs.Ytilnlmopdljeeaa.RowL Go.Proofs.Ytilnlmopdljeeaa.Lay

set_option maxRecDepth 100000 in
set_option maxHeartbeats 2000000 in
theorem framesLater_walk (A : Option Addr) (n c : Nat) (l : List UInt8) (A' : Option Addr) (n' c' : Nat) (l' : List UInt8) (w : World) (hr : Rd w w.heap.size A n l) (hnc : n ≤ c) (hr' : Rd w w.heap.size A' n' l') (hnc' : n' ≤ c') :
    Calls Try.prog 10 #[.slice A n c, .slice A' n' c'] w fun e w' => e = .returned (.bool true) ∧ Below w.heap.size w w' := by
  have HR := Lib.hid hr
  have HR' := Lib.hid hr'
  have hlen := hr.len
  have hlen' := hr'.len
  clear hr hr'
  by_cases hbad : (sp (l ++ l')).2.2 = 0
  · obtain ⟨h1, h2, h3⟩ := sp_later hbad
    have hsz := (sp_size (l ++ l')).1
    rw [List.length_append] at hsz
    rcases hp : sp (l ++ l') with ⟨x, y, z⟩
    rcases hq : sp l with ⟨x2, y2, z2⟩
    rw [hp] at hbad h2 h3 hsz
    rw [hq] at h1 h2 h3
    simp only at hbad h1 h2 h3 hsz
    subst hbad h1
    have HP := Lib.hid hp
    have HQ := Lib.hid hq
    have HT := Lib.hid h3
    clear hp hq h3
    go_enter Try.func10, Try.ntmps10
    go_wp2_with (first
      | (go_at_call 11; (with_reducible refine (live_any _).mono ?_); rintro e w2 ⟨rfl, hb2⟩; have HB2 := Lib.hid hb2; clear hb2)
      | (go_at_call 14; (with_reducible refine (Split_is A n c l w2 (rd_on HR.out HB2.out) hnc (by omega) HQ.out).mono ?_); rintro e w3 ⟨A3, n3, c3, A5, n5, c5, rfl, ho3, ho5, hb3⟩; have hn3 := OwnL.len ho3; have HO3 := Lib.hid ho3; have HB3 := Lib.hid (bel_trans HB2.out hb3); clear ho3 ho5 hb3)
      | (go_at_call 17; (with_reducible refine (Feed_is A n c l A' n' c' l' w3 (rd_on HR.out HB3.out) hnc (rd_on HR'.out HB3.out) hnc' (by omega) HP.out).mono ?_); rintro e w4 ⟨A4, n4, c4, A6, n6, c6, rfl, ho4, ho6, hb4⟩; have hn4 := OwnL.len ho4; have hc4 := OwnL.cap ho4; have HO4 := Lib.hid ho4; have HX4 := Lib.hid hb4; have HB4 := Lib.hid (bel_trans HB3.out hb4); have h34 : n3 ≤ n4 := (by omega); have h34c : n3 ≤ c4 := (by omega); clear ho4 ho6 hb4)
      | (go_at_call 16; (with_reducible refine (Same_rows A3 n3 c3 A4 n3 _ w4 (rdn_on (OwnL.rd HO3.out) HX4.out) (by have h := (OwnL.rd HO4.out).take h34; rw [← hn3, HT.out] at h; rw [hn3] at h; exact h) (by omega)).mono ?_); rintro e w7 ⟨rfl, hb7⟩; have HB7 := Lib.hid (bel_trans HB4.out hb7); clear hb7))
    all_goals go_ret
    all_goals first | exact ⟨rfl, HB2.out⟩ | exact ⟨rfl, HB7.out⟩
  · have hp : sp (l ++ l') = ([], [], 11) := sp_err hbad
    have HP := Lib.hid hp
    rcases hq : sp l with ⟨x2, y2, z2⟩
    have HQ := Lib.hid hq
    clear hp hbad hq
    go_enter Try.func10, Try.ntmps10
    go_wp2_with (first
      | (go_at_call 11; (with_reducible refine (live_any _).mono ?_); rintro e w2 ⟨rfl, hb2⟩; have HB2 := Lib.hid hb2; clear hb2)
      | (go_at_call 14; (with_reducible refine (Split_is A n c l w2 (rd_on HR.out HB2.out) hnc (by omega) HQ.out).mono ?_); rintro e w3 ⟨A3, n3, c3, A5, n5, c5, rfl, ho3, ho5, hb3⟩; have HB3 := Lib.hid (bel_trans HB2.out hb3); clear ho3 ho5 hb3)
      | (go_at_call 17; (with_reducible refine (Feed_is A n c l A' n' c' l' w3 (rd_on HR.out HB3.out) hnc (rd_on HR'.out HB3.out) hnc' (by omega) HP.out).mono ?_); rintro e w4 ⟨A4, n4, c4, A6, n6, c6, rfl, ho4, ho6, hb4⟩; have hn4 : n4 = 0 := (by have := OwnL.len ho4; simpa using this.symm); subst hn4; have HB4 := Lib.hid (bel_trans HB3.out hb4); clear ho4 ho6 hb4))
    all_goals go_ret
    all_goals first | exact ⟨rfl, HB2.out⟩ | exact ⟨rfl, HB4.out⟩
end Go.Proofs.Ytilnlmopdljeeaa.Frm
