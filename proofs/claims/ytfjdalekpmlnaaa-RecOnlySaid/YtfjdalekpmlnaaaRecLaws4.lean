/- The walk of RecOnly. -/
import Derived.Test.YtfjdalekpmlnaaaRecLaws2
import Derived.Deep.RegionHeld3
namespace Go.Proofs.Ytfjdalekpmlnaaa.Rec
open Go.RowKit Go.Proofs.Ytfjdalekpmlnaaa.Oct Go.Proofs.Ytfjdalekpmlnaaa.Crc

set_option maxRecDepth 100000 in
set_option maxHeartbeats 2000000 in
theorem recOnly_walk (A : Option Addr) (n c : Nat) (l : List UInt8) (p b t : Int) (w : World) (hr : Rd w w.heap.size A n l) (hc : n ≤ c) (hp : I64 p) (hb : I64 b) (ht : I64 t) :
    Calls Try.prog 6 #[.slice A n c, .int .i64 p, .int .i64 b, .int .i64 t] w fun e w' => e = .returned (.bool true) ∧ Below w.heap.size w w' := by
  have HR := Lib.hid hr
  have hln := hr.len
  clear hr
  by_cases hg : n ≤ 500
  · rcases hgr : gr l p b t with ⟨⟨o, k, v, d, s⟩, q, z⟩
    by_cases hz : z = 0
    · subst hz
      have HG := Lib.hid hgr
      obtain ⟨g1, g2, g3, g4, g5, g6, g7⟩ := gr_good hgr
      obtain ⟨m1, m2, m3, m4, -⟩ := may_iff.1 g3
      simp only at m1 m2 m3 m4
      have HP := Lib.hid (pt_yes g3 g1 g2)
      have HC := Lib.hid (show chk ⟨o, k, v, d, s⟩ = 0 from if_pos g3)
      have HO := Lib.hid (show I64 o by unfold I64; omega)
      have HS := Lib.hid (show I64 s by unfold I64; omega)
      obtain ⟨P, rfl⟩ : ∃ P : Nat, p = (P : Int) := ⟨p.toNat, by omega⟩
      obtain ⟨Q, rfl⟩ : ∃ Q : Nat, q = (Q : Int) := ⟨q.toNat, by omega⟩
      obtain ⟨x, hx⟩ : ∃ x, x = rb ⟨o, k, v, d, s⟩ b t := ⟨_, rfl⟩
      rw [← hx] at g7
      have HX := Lib.hid hx
      have HX7 := Lib.hid (show x = (l.drop P).take (Q - P) by rw [g7]; congr 1 <;> omega)
      have y1 : (P : Int) < (Q : Int) := by omega
      have y2 : (Q : Int) ≤ (n : Int) := by omega
      have y3 : P ≤ Q := by omega
      have y4 : Q ≤ c := by omega
      have y5 : (0 : Int) ≤ (P : Int) := by omega
      have y6 : (P : Int) ≤ (Q : Int) := by omega
      have y7 : (Q : Int) ≤ (c : Int) := by omega
      have hxx : (x == x) = true := by simp
      clear hgr hx g7 m1 m2 g1 g2 g3 g4 g5 g6
      go_enter Try.func6, Try.ntmps6
      go_wp2_with (first
        | (go_at_call 12; refine (live_any _).mono ?_; rintro e w1 ⟨rfl, hb1⟩)
        | (go_at_call 20; refine (Get_f A n c l w.heap.size P b t w1 (HR.out.below hb1 (Nat.le_refl _)) hb1.size hc (by omega) hp hb ht HG.out).mono ?_; rintro e w2 ⟨rfl, hb2⟩; have hb13 := bel_alloc (bel_trans hb1 hb2) (.cells #[.int .i64 o, .string k, .string v, .bool d, .int .i64 s] 23); have HX2 := Lib.hid (box_new w2 23 ⟨o, k, v, d, s⟩))
        | (go_at_call 14; refine (Put_is o s k v d b t _ HO.out HS.out (by omega) (by omega) hb ht HP.out).mono ?_; rw [← HX.out]; rintro e w3 ⟨A3, n3, c3, rfl, hown3, hb3⟩))
      have hg3 : w2.heap.size < w3.drew.heap.size := Nat.lt_of_lt_of_le (by simp) hb3.size
      have hb03 := Lib.hid (show Below w.heap.size w w3.drew from bel_drew (bel_trans hb13 hb3))
      have ho3 := Lib.hid (show OwnB w3.drew 5 _ (.slice A3 n3 c3) n3 x from hown3.drew)
      have HX3 := Lib.hid (show Box w3.drew w2.heap.size ⟨o, k, v, d, s⟩ from (show Box w3 w2.heap.size ⟨o, k, v, d, s⟩ from HX2.out.below hb3 (by simp)))
      have HCUT := Lib.hid (fun (w' : World) (h : Rd w' w.heap.size A n l) => str_of w' w.heap.size (A.map (fun a => a.add P)) (Q - P) (c - P) x (by rw [HX7.out]; exact h.cut (by omega) _ (fun _ => rfl)))
      obtain ⟨x0, x1, x2, x3, x4⟩ := HX3.out
      have r0 := str_of w3.drew _ A3 n3 c3 x ho3.out.rd
      clear hb13 hb1 hb2 hb3 hown3
      have y8 : decide ((P : Int) < (Q : Int)) = true := by simp; omega
      have y9 : decide ((Q : Int) ≤ (n : Int)) = true := by simp; omega
      have y10 : decide ((0 : Int) ≤ (P : Int)) = true := by simp
      go_region_held (fun w' => w'.cell? ⟨w2.heap.size, 0, none⟩ = some (.int .i64 o) ∧ w'.cell? ⟨w2.heap.size, 1, none⟩ = some (.string k) ∧ w'.cell? ⟨w2.heap.size, 2, none⟩ = some (.string v) ∧ w'.cell? ⟨w2.heap.size, 3, none⟩ = some (.bool d) ∧ w'.cell? ⟨w2.heap.size, 4, none⟩ = some (.int .i64 s)) (first | exact hx4 | exact HX3.out) (first
        | (go_at_call 16; refine (Check_is o s k v d _ HO.out HS.out (by omega) (by omega) HC.out).mono ?_; rintro e w4 ⟨rfl, hb4⟩; have hb04 := bel_trans hb03.out hb4; have hx4 := HX3.out.below hb4 hg3; have r1 := str_of w4 _ A3 n3 c3 x (ho3.out.rd.below hb4 (Nat.le_refl _)); have r2 := HCUT.out w4 (HR.out.below hb04 (Nat.le_refl _))))
      all_goals go_wp2
      all_goals go_ret
      all_goals exact ⟨ret_bool (by first | rfl | (simp; done) | (simp; omega)), hb04⟩
    · obtain ⟨e1, e2⟩ := gr_bad hgr hz
      subst e2
      simp only [nil, Rc.mk.injEq] at e1
      obtain ⟨rfl, rfl, rfl, rfl, rfl⟩ := e1
      have HG := Lib.hid hgr
      have hz2 : (z != 0) = true := by simp [hz]
      clear hgr hz
      go_enter Try.func6, Try.ntmps6
      go_wp2_with (first
        | (go_at_call 12; refine (live_any _).mono ?_; rintro e w1 ⟨rfl, hb1⟩)
        | (go_at_call 20; refine (Get_f A n c l w.heap.size p b t w1 (HR.out.below hb1 (Nat.le_refl _)) hb1.size hc (by omega) hp hb ht HG.out).mono ?_; rintro e w2 ⟨rfl, hb2⟩))
      go_ret
      exact ⟨rfl, bel_alloc (bel_trans hb1 hb2) _⟩
  · have hg1 : 500 < n := by omega
    clear hg
    go_enter Try.func6, Try.ntmps6
    go_wp2_with (go_at_call 12; refine (live_any _).mono ?_; rintro e w1 ⟨rfl, hb1⟩)
    go_ret
    exact ⟨rfl, hb1⟩
end Go.Proofs.Ytfjdalekpmlnaaa.Rec
