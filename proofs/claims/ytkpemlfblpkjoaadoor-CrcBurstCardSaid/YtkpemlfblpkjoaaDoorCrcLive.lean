/- The law's own live(). -/
import Derived.Test.YtkpemlfblpkjoaaDoorCrcDev
import Derived.Lib.SlBytesConst
namespace Go.Proofs.YtkpemlfblpkjoaaDoor.Crc
open Go.RowKit Go.Proofs.YtkpemlfblpkjoaaDoor.Oct

theorem sum_nine : sum [49, 50, 51, 52, 53, 54, 55, 56, 57] = 3421780262 := by decide +kernel
theorem sum_nil : sum [] = 0 := by decide +kernel
theorem sum_a : sum [97] = 3904355907 := by decide +kernel
theorem Sum_9 (W : World) (ht : Tab W) : Calls Tryd.prog 13 #[.slice (some ⟨W.heap.size, 0, none⟩) 9 9] (W.alloc (.cells #[.int .u8 49, .int .u8 50, .int .u8 51, .int .u8 52, .int .u8 53, .int .u8 54, .int .u8 55, .int .u8 56, .int .u8 57] 5 (9, 10))) fun e w' => e = .returned (.int .u32 3421780262) ∧ Below W.heap.size W w' := by
  have h := Sum_any _ 9 9 _ _ _ (rd_lit W 5 (9, 10) [49, 50, 51, 52, 53, 54, 55, 56, 57] 9 rfl) (by simp) (by omega) (ht.alloc _)
  rw [sum_nine] at h
  exact h.mono fun e w' ⟨he, hb⟩ => ⟨he, (bel_alloc (Below.refl _ _) _).trans (hb.mono (by simp))⟩
theorem Sum_1 (W : World) (ht : Tab W) : Calls Tryd.prog 13 #[.slice (some ⟨W.heap.size, 0, none⟩) 1 1] (W.alloc (.cells #[.int .u8 97] 5 (1, 2))) fun e w' => e = .returned (.int .u32 3904355907) ∧ Below W.heap.size W w' := by
  have h := Sum_any _ 1 1 _ _ _ (rd_lit W 5 (1, 2) [97] 1 rfl) (by simp) (by omega) (ht.alloc _)
  rw [sum_a] at h
  exact h.mono fun e w' ⟨he, hb⟩ => ⟨he, (bel_alloc (Below.refl _ _) _).trans (hb.mono (by simp))⟩
theorem Sum_0 (W : World) (ht : Tab W) : Calls Tryd.prog 13 #[.slice none 0 0] W fun e w' => e = .returned (.int .u32 0) ∧ Below W.heap.size W w' := by
  have h := Sum_any none 0 0 [] 0 W Rd.nil (Nat.zero_le _) (by omega) ht
  rw [sum_nil] at h
  exact h
theorem Seal_1 (W : World) (ht : Tab W) : Calls Tryd.prog 17 #[.slice (some ⟨W.heap.size, 0, none⟩) 1 1] (W.alloc (.cells #[.int .u8 97] 5 (1, 2))) (RB 5 W.heap.size W (sealB [97])) := by
  have h := Seal_any _ 1 1 _ _ _ (rd_lit W 5 (1, 2) [97] 1 rfl) (by simp) (by omega) (by omega) (ht.alloc _)
  exact h.mono fun e w' ⟨A, n, c, he, ho, hb⟩ => ⟨A, n, c, he, ho.more (by simp), (bel_alloc (Below.refl _ _) _).trans (hb.mono (by simp))⟩
theorem Open_is (A : Option Addr) (n c : Nat) (l x : List UInt8) (z : Int) (B : Nat) (w : World) (hr : Rd w B A n l) (hB : B ≤ w.heap.size) (hc : n ≤ c) (hn : n ≤ 137438953472) (h : openB l = (x, z)) (ht : Tab w) :
    Calls Tryd.prog 15 #[.slice A n c] w (OPr 5 w.heap.size w x z) := by
  have h1 := Open_any A n c l B w hr hB hc hn ht
  rw [h] at h1
  exact h1

set_option maxRecDepth 100000 in
set_option maxHeartbeats 1000000 in
theorem live_any (w : World) (ht : Tab w) : Calls Tryd.prog 12 #[] w fun e w' => e = .returned (.bool true) ∧ Below w.heap.size w w' := by
  have HT := Lib.hid ht
  clear ht
  have kc := fun (w : World) (C : Array Value) (n c : Nat) => Lib.run_convert_bytes_const (P := Tryd.prog) w 22 5 C n c Tryd.underlying22 Tryd.underlying5
  go_enter Tryd.func12, Tryd.ntmps12
  go_wp2_with (first
    | (go_at_call 17; (with_reducible refine (Seal_1 w HT.out).mono ?_); rintro e w1 ⟨A1, n1, c1, rfl, hown1, hb1⟩; have hn1 : n1 = 5 := (by have := hown1.len; rw [sealB_length] at this; simpa using this.symm); subst hn1)
    | (go_at_call 15; refine (Open_is A1 5 c1 _ _ _ _ w1 hown1.rd (Nat.le_refl _) hown1.cap (by omega) (openB_sealB [97]) (HT.out.bel hb1)).mono ?_; rintro e w2 ⟨A2, n2, c2, rfl, hown2, hb2⟩; have hb02 := bel_trans hb1 hb2)
    | (go_at_call 13; (with_reducible refine (Sum_9 w2 (HT.out.bel hb02)).mono ?_); rintro e w3 ⟨rfl, hb3⟩; have hb03 := bel_trans hb02 hb3)
    | (go_at_call 13; (with_reducible refine (Sum_0 w3 (HT.out.bel hb03)).mono ?_); rintro e w4 ⟨rfl, hb4⟩; have hb04 := bel_trans hb03 hb4)
    | (go_at_call 13; (with_reducible refine (Sum_1 w4 (HT.out.bel hb04)).mono ?_); rintro e w5 ⟨rfl, hb5⟩; have hb05 := bel_trans hb04 hb5; have r1 := str_of w5 _ A2 n2 c2 [97] (hown2.rd.below (bel_trans (bel_trans hb3 hb4) hb5) (Nat.le_refl _))))
  go_ret
  exact ⟨rfl, hb05⟩
end Go.Proofs.YtkpemlfblpkjoaaDoor.Crc
