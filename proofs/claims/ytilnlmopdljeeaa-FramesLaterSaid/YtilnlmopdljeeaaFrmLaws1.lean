/- The walks of FramesPuts, FramesSplits, FramesFeeds. -/
import Derived.Test.YtilnlmopdljeeaaFrmLive
import Derived.Test.YtilnlmopdljeeaaFrmRP
import Derived.Test.YtilnlmopdljeeaaFrmRF
namespace Go.Proofs.Ytilnlmopdljeeaa.Frm
open Go.RowKit Go.Proofs.Ytilnlmopdljeeaa.Oct Go.Proofs.Ytilnlmopdljeeaa.RowF Go.Proofs.Ytilnlmopdljeeaa.RowL Go.Proofs.Ytilnlmopdljeeaa.Lay

theorem refFPut_is {x : List UInt8} {z : Int} (A : Option Addr) (n c : Nat) (l : List UInt8) (w : World) (hr : Rd w w.heap.size A n l) (hc : n ≤ c) (h : ptF l = (x, z)) :
    Calls Try.prog 13 #[.slice A n c] w (fun e w' => ∃ A n c, e = .returned (.tuple #[.slice A n c, .int .i64 z]) ∧ OwnB w' 5 w.heap.size (.slice A n c) n x ∧ Below w.heap.size w w') := by
  have h1 := refFPut_any A n c l w hr hc
  rw [h] at h1
  exact h1
theorem refFSplit_is {x : List (List UInt8)} {y : List UInt8} {z : Int} (A : Option Addr) (n c : Nat) (l : List UInt8) (w : World) (hr : Rd w w.heap.size A n l) (hc : n ≤ c) (hn : n ≤ 1099511627776) (h : sp l = (x, y, z)) :
    Calls Try.prog 15 #[.slice A n c] w (fun e w' => ∃ A n c A2 n2 c2, e = .returned (.tuple #[.slice A n c, .slice A2 n2 c2, .int .i64 z]) ∧ OwnL w' 22 (fun b => w.heap.size ≤ b) w.heap.size (.slice A n c) n x ∧ OwnB w' 5 w.heap.size (.slice A2 n2 c2) n2 y ∧ Below w.heap.size w w') := by
  have h1 := refFSplit_any A n c l w hr hc hn
  rw [h] at h1
  exact h1
theorem refFFeed_is {x : List (List UInt8)} {y : List UInt8} {z : Int} (A : Option Addr) (n c : Nat) (l : List UInt8) (A2 : Option Addr) (n2 c2 : Nat) (l2 : List UInt8) (w : World) (hr : Rd w w.heap.size A n l) (hr2 : Rd w w.heap.size A2 n2 l2) (hn : n + n2 ≤ 1099511627776) (h : sp (l ++ l2) = (x, y, z)) :
    Calls Try.prog 18 #[.slice A n c, .slice A2 n2 c2] w (fun e w' => ∃ A n c A2 n2 c2, e = .returned (.tuple #[.slice A n c, .slice A2 n2 c2, .int .i64 z]) ∧ OwnL w' 22 (fun b => w.heap.size ≤ b) w.heap.size (.slice A n c) n x ∧ OwnB w' 5 w.heap.size (.slice A2 n2 c2) n2 y ∧ Below w.heap.size w w') := by
  have h1 := refFFeed_any A n c l A2 n2 c2 l2 w hr hr2 hn
  rw [h] at h1
  exact h1
theorem Same_rows {L : List (List UInt8)} (A1 : Option Addr) (n1 c1 : Nat) (A2 : Option Addr) (n2 c2 : Nat) (w : World) (hr : RdN w w.heap.size A1 n1 L) (hr2 : RdN w w.heap.size A2 n2 L) (hn : n1 ≤ 1099511627776) :
    Calls Try.prog 16 #[.slice A1 n1 c1, .slice A2 n2 c2] w fun e w' => e = .returned (.bool true) ∧ Below w.heap.size w w' := by
  have h := refFSame_any A1 n1 c1 L A2 n2 c2 L w hr hr2 hn
  rw [sameL_yes rfl] at h
  exact h
theorem rdn_on {w w' : World} {A : Option Addr} {n : Nat} {L : List (List UInt8)} (h : RdN w w.heap.size A n L) (hb : Below w.heap.size w w') : RdN w' w'.heap.size A n L := (h.below hb (Nat.le_refl _)).more hb.size
theorem rd_on {w w' : World} {A : Option Addr} {n : Nat} {l : List UInt8} (h : Rd w w.heap.size A n l) (hb : Below w.heap.size w w') : Rd w' w'.heap.size A n l := (h.below hb (Nat.le_refl _)).more hb.size
set_option maxRecDepth 100000 in
set_option maxHeartbeats 2000000 in
theorem framesPuts_walk (A : Option Addr) (n c : Nat) (l : List UInt8) (w : World) (hr : Rd w w.heap.size A n l) (hnc : n ≤ c) :
    Calls Try.prog 3 #[.slice A n c] w fun e w' => e = .returned (.bool true) ∧ Below w.heap.size w w' := by
  have HR := Lib.hid hr
  clear hr
  rcases hp : ptF l with ⟨x, z⟩
  have HP := Lib.hid hp
  clear hp
  go_enter Try.func3, Try.ntmps3
  go_wp2_with (first
    | (go_at_call 11; (with_reducible refine (live_any _).mono ?_); rintro e w2 ⟨rfl, hb2⟩; have HB2 := Lib.hid hb2; clear hb2)
    | (go_at_call 12; (with_reducible refine (FPut_is A n c l _ w2 (rd_on HR.out HB2.out) (Nat.le_refl _) hnc HP.out).mono ?_); rintro e w3 ⟨A3, n3, c3, rfl, ho3, hb3⟩; have HO3 := Lib.hid ho3; have HB3 := Lib.hid (bel_trans HB2.out hb3); clear ho3 hb3)
    | (go_at_call 13; (with_reducible refine (refFPut_is A n c l w3 (rd_on HR.out HB3.out) hnc HP.out).mono ?_); rintro e w4 ⟨A4, n4, c4, rfl, ho4, hb4⟩; have HB4 := Lib.hid (bel_trans HB3.out hb4); have r1 := str_of w4 _ A3 n3 c3 x (HO3.out.rd.below hb4 (Nat.le_refl _)); have r2 := str_of w4 _ A4 n4 c4 x ho4.rd; clear ho4 hb4))
  all_goals go_ret
  all_goals first | exact ⟨rfl, HB2.out⟩ | exact ⟨rfl, HB4.out⟩
set_option maxRecDepth 100000 in
set_option maxHeartbeats 2000000 in
theorem framesSplits_walk (A : Option Addr) (n c : Nat) (l : List UInt8) (w : World) (hr : Rd w w.heap.size A n l) (hnc : n ≤ c) :
    Calls Try.prog 4 #[.slice A n c] w fun e w' => e = .returned (.bool true) ∧ Below w.heap.size w w' := by
  have HR := Lib.hid hr
  have hlen := hr.len
  clear hr
  have hsz := (sp_size l).1
  rcases hp : sp l with ⟨x, y, z⟩
  rw [hp] at hsz
  simp only at hsz
  have HP := Lib.hid hp
  clear hp
  go_enter Try.func4, Try.ntmps4
  go_wp2_with (first
    | (go_at_call 11; (with_reducible refine (live_any _).mono ?_); rintro e w2 ⟨rfl, hb2⟩; have HB2 := Lib.hid hb2; clear hb2)
    | (go_at_call 14; (with_reducible refine (Split_is A n c l w2 (rd_on HR.out HB2.out) hnc (by omega) HP.out).mono ?_); rintro e w3 ⟨A3, n3, c3, A5, n5, c5, rfl, ho3, ho5, hb3⟩; have HO3 := Lib.hid ho3; have HO5 := Lib.hid ho5; have HB3 := Lib.hid (bel_trans HB2.out hb3); clear ho3 ho5 hb3)
    | (go_at_call 15; (with_reducible refine (refFSplit_is A n c l w3 (rd_on HR.out HB3.out) hnc (by omega) HP.out).mono ?_); rintro e w4 ⟨A4, n4, c4, A6, n6, c6, rfl, ho4, ho6, hb4⟩; have HO4 := Lib.hid ho4; have HO6 := Lib.hid ho6; have HX4 := Lib.hid hb4; have HB4 := Lib.hid (bel_trans HB3.out hb4); clear ho4 ho6 hb4)
    | (go_at_call 16; (with_reducible refine (Same_rows A3 n3 c3 A4 n4 c4 w4 (rdn_on (OwnL.rd HO3.out) HX4.out) (OwnL.rd HO4.out) (by have := OwnL.len HO3.out; omega)).mono ?_); rintro e w7 ⟨rfl, hb7⟩; have HB7 := Lib.hid (bel_trans HB4.out hb7); have r1 := str_of w7 _ A5 n5 c5 y (HO5.out.rd.below (bel_trans HX4.out hb7) (Nat.le_refl _)); have r2 := str_of w7 _ A6 n6 c6 y (HO6.out.rd.below hb7 (Nat.le_refl _)); clear hb7))
  all_goals go_ret
  all_goals first | exact ⟨rfl, HB2.out⟩ | exact ⟨rfl, HB7.out⟩
set_option maxRecDepth 100000 in
set_option maxHeartbeats 2000000 in
theorem framesFeeds_walk (A : Option Addr) (n c : Nat) (l : List UInt8) (A' : Option Addr) (n' c' : Nat) (l' : List UInt8) (w : World) (hr : Rd w w.heap.size A n l) (hnc : n ≤ c) (hr' : Rd w w.heap.size A' n' l') (hnc' : n' ≤ c') :
    Calls Try.prog 5 #[.slice A n c, .slice A' n' c'] w fun e w' => e = .returned (.bool true) ∧ Below w.heap.size w w' := by
  have HR := Lib.hid hr
  have HR' := Lib.hid hr'
  have hlen := hr.len
  have hlen' := hr'.len
  clear hr hr'
  have hsz := (sp_size (l ++ l')).1
  rw [List.length_append] at hsz
  rcases hp : sp (l ++ l') with ⟨x, y, z⟩
  rw [hp] at hsz
  simp only at hsz
  have HP := Lib.hid hp
  clear hp
  go_enter Try.func5, Try.ntmps5
  go_wp2_with (first
    | (go_at_call 11; (with_reducible refine (live_any _).mono ?_); rintro e w2 ⟨rfl, hb2⟩; have HB2 := Lib.hid hb2; clear hb2)
    | (go_at_call 17; (with_reducible refine (Feed_is A n c l A' n' c' l' w2 (rd_on HR.out HB2.out) hnc (rd_on HR'.out HB2.out) hnc' (by omega) HP.out).mono ?_); rintro e w3 ⟨A3, n3, c3, A5, n5, c5, rfl, ho3, ho5, hb3⟩; have HO3 := Lib.hid ho3; have HO5 := Lib.hid ho5; have HB3 := Lib.hid (bel_trans HB2.out hb3); clear ho3 ho5 hb3)
    | (go_at_call 18; (with_reducible refine (refFFeed_is A n c l A' n' c' l' w3 (rd_on HR.out HB3.out) (rd_on HR'.out HB3.out) (by omega) HP.out).mono ?_); rintro e w4 ⟨A4, n4, c4, A6, n6, c6, rfl, ho4, ho6, hb4⟩; have HO4 := Lib.hid ho4; have HO6 := Lib.hid ho6; have HX4 := Lib.hid hb4; have HB4 := Lib.hid (bel_trans HB3.out hb4); clear ho4 ho6 hb4)
    | (go_at_call 16; (with_reducible refine (Same_rows A3 n3 c3 A4 n4 c4 w4 (rdn_on (OwnL.rd HO3.out) HX4.out) (OwnL.rd HO4.out) (by have := OwnL.len HO3.out; omega)).mono ?_); rintro e w7 ⟨rfl, hb7⟩; have HB7 := Lib.hid (bel_trans HB4.out hb7); have r1 := str_of w7 _ A5 n5 c5 y (HO5.out.rd.below (bel_trans HX4.out hb7) (Nat.le_refl _)); have r2 := str_of w7 _ A6 n6 c6 y (HO6.out.rd.below hb7 (Nat.le_refl _)); clear hb7))
  all_goals go_ret
  all_goals first | exact ⟨rfl, HB2.out⟩ | exact ⟨rfl, HB7.out⟩
end Go.Proofs.Ytilnlmopdljeeaa.Frm
