/- The laws' own live(). -/
import Derived.Test.YtilnlmopdljeeaaFrmE
import Derived.Test.YtilnlmopdljeeaaFrmG
import Derived.Test.YtilnlmopdljeeaaFrmRM
import Derived.Test.YtilnlmopdljeeaaCrcSpec
import Derived.Lib.SlBytesConst
namespace Go.Proofs.Ytilnlmopdljeeaa.Frm
open Go.RowKit Go.Proofs.Ytilnlmopdljeeaa.Oct Go.Proofs.Ytilnlmopdljeeaa.RowF Go.Proofs.Ytilnlmopdljeeaa.RowL Go.Proofs.Ytilnlmopdljeeaa.Lay

theorem fr_ab : fr [97, 98] = [0, 0, 0, 2, 97, 98] := by decide +kernel
theorem sp_lit : sp [0, 0, 0, 2, 97, 98, 0, 0, 0, 2, 97, 98, 0, 0] = ([[97, 98], [97, 98]], [0, 0], 0) := by
  have e : ([0, 0, 0, 2, 97, 98, 0, 0, 0, 2, 97, 98, 0, 0] : List UInt8) = fr [97, 98] ++ (fr [97, 98] ++ [0, 0]) := by rw [fr_ab]; rfl
  rw [e, sp_fr (by decide), sp_fr (by decide), sp_few (by decide)]
  rfl
theorem sp_nul : sp [0, 0, 0, 0] = ([], [], 11) := sp_wrong (by decide) (.inl (by decide +kernel))
theorem Split_is {x : List (List UInt8)} {y : List UInt8} {z : Int} (A : Option Addr) (n c : Nat) (l : List UInt8) (w : World) (hr : Rd w w.heap.size A n l) (hc : n ≤ c) (hn : n ≤ 1099511627776) (h : sp l = (x, y, z)) :
    Calls Try.prog 14 #[.slice A n c] w (fun e w' => ∃ A n c A2 n2 c2, e = .returned (.tuple #[.slice A n c, .slice A2 n2 c2, .int .i64 z]) ∧ OwnL w' 22 (fun b => w.heap.size ≤ b) w.heap.size (.slice A n c) n x ∧ OwnB w' 5 w.heap.size (.slice A2 n2 c2) n2 y ∧ Below w.heap.size w w') := by
  have h1 := Split_any A n c l w hr hc hn
  rw [h] at h1
  exact h1
theorem Feed_is {x : List (List UInt8)} {y : List UInt8} {z : Int} (A : Option Addr) (n c : Nat) (l : List UInt8) (A2 : Option Addr) (n2 c2 : Nat) (l2 : List UInt8) (w : World) (hr : Rd w w.heap.size A n l) (hc : n ≤ c) (hr2 : Rd w w.heap.size A2 n2 l2) (hc2 : n2 ≤ c2) (hn : n + n2 ≤ 1099511627776) (h : sp (l ++ l2) = (x, y, z)) :
    Calls Try.prog 17 #[.slice A n c, .slice A2 n2 c2] w (fun e w' => ∃ A n c A2 n2 c2, e = .returned (.tuple #[.slice A n c, .slice A2 n2 c2, .int .i64 z]) ∧ OwnL w' 22 (fun b => w.heap.size ≤ b) w.heap.size (.slice A n c) n x ∧ OwnB w' 5 w.heap.size (.slice A2 n2 c2) n2 y ∧ Below w.heap.size w w') := by
  have h1 := Feed_any A n c l A2 n2 c2 l2 w hr hc hr2 hc2 hn
  rw [h] at h1
  exact h1
theorem Put_ab (W : World) : Calls Try.prog 12 #[.slice (some ⟨W.heap.size, 0, none⟩) 2 2] (W.alloc (.cells #[.int .u8 97, .int .u8 98] 5 (2, 3))) fun e w' => ∃ A n c, e = .returned (.tuple #[.slice A n c, .int .i64 0]) ∧ OwnB w' 5 W.heap.size (.slice A n c) n [0, 0, 0, 2, 97, 98] ∧ Below W.heap.size W w' := by
  have h := FPut_is (x := [0, 0, 0, 2, 97, 98]) (z := 0) _ 2 2 _ _ _ (Crc.rd_lit W 5 (2, 3) [97, 98] 2 rfl) (by simp) (by omega) (by unfold ptF; rw [if_pos (by decide), fr_ab])
  exact h.mono fun e w' ⟨A, n, c, he, ho, hb⟩ => ⟨A, n, c, he, ho.more (by simp), (bel_alloc (Below.refl _ _) _).trans (hb.mono (by simp))⟩
theorem Split_lit (W : World) : Calls Try.prog 14 #[.slice (some ⟨W.heap.size, 0, none⟩) 14 14] (W.alloc (.cells #[.int .u8 0, .int .u8 0, .int .u8 0, .int .u8 2, .int .u8 97, .int .u8 98, .int .u8 0, .int .u8 0, .int .u8 0, .int .u8 2, .int .u8 97, .int .u8 98, .int .u8 0, .int .u8 0] 5 (0, 0))) fun e w' => ∃ A n c A2 n2 c2, e = .returned (.tuple #[.slice A n c, .slice A2 n2 c2, .int .i64 0]) ∧ RdN w' w'.heap.size A n [[97, 98], [97, 98]] ∧ n ≤ 2 ∧ OwnB w' 5 W.heap.size (.slice A2 n2 c2) n2 [0, 0] ∧ Below W.heap.size W w' := by
  have h := Split_is _ 14 14 _ _ ((Crc.rd_lit W 5 (0, 0) [0, 0, 0, 2, 97, 98, 0, 0, 0, 2, 97, 98, 0, 0] 14 rfl).more (by simp)) (by omega) (by omega) sp_lit
  exact h.mono fun e w' ⟨A, n, c, A2, n2, c2, he, ho, ho2, hb⟩ => ⟨A, n, c, A2, n2, c2, he, ho.rd, by have := ho.len; simp at this; omega, ho2.more (by simp), (bel_alloc (Below.refl _ _) _).trans (hb.mono (by simp))⟩
theorem Same_lit (A : Option Addr) (n c : Nat) (W : World) (hr : RdN W W.heap.size A n [[97, 98], [97, 98]]) (hn : n ≤ 2) : Calls Try.prog 16 #[.slice A n c, .slice (some ⟨W.heap.size + 1 + 1, 0, none⟩) 2 2] (((W.alloc (.cells #[.int .u8 97, .int .u8 98] 5 (0, 0))).alloc (.cells #[.int .u8 97, .int .u8 98] 5 (0, 0))).alloc (.cells #[.slice (some ⟨W.heap.size, 0, none⟩) 2 2, .slice (some ⟨W.heap.size + 1, 0, none⟩) 2 2] 22 (0, 0))) fun e w' => e = .returned (.bool true) ∧ Below W.heap.size W w' := by
  have h1 : Rd ((W.alloc (.cells #[.int .u8 97, .int .u8 98] 5 (0, 0))).alloc (.cells #[.int .u8 97, .int .u8 98] 5 (0, 0))) (W.heap.size + 1) (some ⟨W.heap.size, 0, none⟩) 2 [97, 98] := (Crc.rd_lit W 5 (0, 0) [97, 98] 2 rfl).alloc (by simp) _
  have h2 : Rd ((W.alloc (.cells #[.int .u8 97, .int .u8 98] 5 (0, 0))).alloc (.cells #[.int .u8 97, .int .u8 98] 5 (0, 0))) (W.heap.size + 1 + 1) (some ⟨W.heap.size + 1, 0, none⟩) 2 [97, 98] := by
    have h := Crc.rd_lit (W.alloc (.cells #[.int .u8 97, .int .u8 98] 5 (0, 0))) 5 (0, 0) [97, 98] 2 rfl
    simp only [World.size_alloc] at h
    exact h
  have h3 := rdn_two (w := (W.alloc (.cells #[.int .u8 97, .int .u8 98] 5 (0, 0))).alloc (.cells #[.int .u8 97, .int .u8 98] 5 (0, 0))) (B := W.heap.size + 1 + 1) 22 (0, 0) _ _ 2 2 2 2 [97, 98] [97, 98] (by simp) (h1.more (by omega)) (by omega) h2 (by omega)
  simp only [World.size_alloc] at h3
  have h := refFSame_any A n c [[97, 98], [97, 98]] _ 2 2 [[97, 98], [97, 98]] _ ((((hr.alloc (Nat.le_refl _) _).alloc (by simp) _).alloc (by simp; omega) _).more (by simp; omega)) (h3.more (by simp)) (by omega)
  rw [sameL_yes rfl] at h
  exact h.mono fun e w' ⟨he, hb⟩ => ⟨he, bel_trans (bel_alloc (bel_alloc (bel_alloc (Below.refl _ _) _) _) _) hb⟩
theorem Feed_lit (W : World) : Calls Try.prog 17 #[.slice (some ⟨W.heap.size, 0, none⟩) 2 2, .slice (some ⟨W.heap.size + 1, 0, none⟩) 2 2] ((W.alloc (.cells #[.int .u8 0, .int .u8 0] 5 (0, 0))).alloc (.cells #[.int .u8 0, .int .u8 0] 5 (0, 0))) fun e w' => ∃ A n c A2 n2 c2, e = .returned (.tuple #[.slice A n c, .slice A2 n2 c2, .int .i64 11]) ∧ Below W.heap.size W w' := by
  have h1 : Rd ((W.alloc (.cells #[.int .u8 0, .int .u8 0] 5 (0, 0))).alloc (.cells #[.int .u8 0, .int .u8 0] 5 (0, 0))) (W.heap.size + 1) (some ⟨W.heap.size, 0, none⟩) 2 [0, 0] := (Crc.rd_lit W 5 (0, 0) [0, 0] 2 rfl).alloc (by simp) _
  have h2 : Rd ((W.alloc (.cells #[.int .u8 0, .int .u8 0] 5 (0, 0))).alloc (.cells #[.int .u8 0, .int .u8 0] 5 (0, 0))) (W.heap.size + 1 + 1) (some ⟨W.heap.size + 1, 0, none⟩) 2 [0, 0] := by
    have h := Crc.rd_lit (W.alloc (.cells #[.int .u8 0, .int .u8 0] 5 (0, 0))) 5 (0, 0) [0, 0] 2 rfl
    simp only [World.size_alloc] at h
    exact h
  have h := Feed_is _ 2 2 [0, 0] _ 2 2 [0, 0] _ (h1.more (by simp)) (by omega) (h2.more (by simp)) (by omega) (by omega) sp_nul
  exact h.mono fun e w' ⟨A, n, c, A2, n2, c2, he, _, _, hb⟩ => ⟨A, n, c, A2, n2, c2, he, bel_trans (bel_alloc (bel_alloc (Below.refl _ _) _) _) hb⟩
set_option maxRecDepth 100000 in
set_option maxHeartbeats 2000000 in
theorem live_any (w : World) : Calls Try.prog 11 #[] w fun e w' => e = .returned (.bool true) ∧ Below w.heap.size w w' := by
  have kc := fun (w : World) (C : Array Value) (n c : Nat) => Lib.run_convert_bytes_const (P := Try.prog) w 22 5 C n c Try.underlying22 Try.underlying5
  go_enter Try.func11, Try.ntmps11
  go_wp2_with (first
    | (go_at_call 12; (with_reducible refine (Put_ab _).mono ?_); rintro e w1 ⟨A1, n1, c1, rfl, ho1, hb1⟩; have HO1 := Lib.hid ho1; have HB1 := Lib.hid hb1; clear ho1 hb1)
    | (go_at_call 14; (with_reducible refine (Split_lit w1).mono ?_); rintro e w2 ⟨A2, n2, c2, A3, n3, c3, rfl, hr2, hn2, ho3, hb2⟩; have HR2 := Lib.hid hr2; have HO3 := Lib.hid ho3; have HB2 := Lib.hid hb2; clear hr2 ho3 hb2)
    | (go_at_call 16; (with_reducible refine (Same_lit A2 n2 c2 w2 HR2.out hn2).mono ?_); rintro e w3 ⟨rfl, hb3⟩; have HB3 := Lib.hid hb3; clear hb3)
    | (go_at_call 17; (with_reducible refine (Feed_lit w3).mono ?_); rintro e w4 ⟨A5, n5, c5, A6, n6, c6, rfl, hb4⟩; have HB4 := Lib.hid (bel_trans (bel_trans (bel_trans HB1.out HB2.out) HB3.out) hb4); have r1 := str_of w4 _ A1 n1 c1 [0, 0, 0, 2, 97, 98] (HO1.out.rd.below (bel_trans (bel_trans HB2.out HB3.out) hb4) (Nat.le_refl _)); have r2 := str_of w4 _ A3 n3 c3 [0, 0] (HO3.out.rd.below (bel_trans HB3.out hb4) (Nat.le_refl _))))
  go_ret
  exact ⟨rfl, HB4.out⟩
end Go.Proofs.Ytilnlmopdljeeaa.Frm
