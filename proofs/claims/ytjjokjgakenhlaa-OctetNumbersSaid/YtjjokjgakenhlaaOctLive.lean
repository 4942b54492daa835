/- The contracts of Same, Copy, few and live. -/
import Derived.Test.YtjjokjgakenhlaaOctGetVar
namespace Go.Proofs.Ytjjokjgakenhlaa.Oct
open Go.RowKit

def sameB (l m : List UInt8) : Bool := l == m
theorem sameB_iff {l m : List UInt8} : sameB l m = true ↔ l = m := by simp [sameB]
def fewB (n : Nat) : Bool := decide ((n : Int) ≤ 5000)
theorem fewB_iff {n : Nat} : fewB n = true ↔ n ≤ 5000 := by simp [fewB]; omega
theorem sameB_self (l : List UInt8) : sameB l l = true := by simp [sameB]
theorem Same_any (A1 A2 : Option Addr) (n1 c1 n2 c2 : Nat) (l1 l2 : List UInt8) (B1 B2 : Nat) (w : World) (h1 : Rd w B1 A1 n1 l1) (h2 : Rd w B2 A2 n2 l2) :
    Calls Try.prog 17 #[.slice A1 n1 c1, .slice A2 n2 c2] w fun e w' => e = .returned (.bool (sameB l1 l2)) ∧ w = w' := by
  have r1 := run_toString (P := Try.prog) w 22 9 5 Try.underlying22 Try.underlying5 Try.underlying9 B1 A1 n1 c1 l1 h1
  have r2 := run_toString (P := Try.prog) w 22 9 5 Try.underlying22 Try.underlying5 Try.underlying9 B2 A2 n2 c2 l2 h2
  clear h1 h2
  go_enter Try.func17, Try.ntmps17
  go_wp2
  go_ret
  exact ⟨rfl, rfl⟩
theorem few_any (A : Option Addr) (n c : Nat) (w : World) :
    Calls Try.prog 12 #[.slice A n c] w fun e w' => e = .returned (.bool (fewB n)) ∧ w = w' := by
  go_enter Try.func12, Try.ntmps12
  go_wp2
  go_ret
  exact ⟨rfl, rfl⟩
theorem Copy_any (A : Option Addr) (n c : Nat) (l : List UInt8) (B : Nat) (w : World) (hr : Rd w B A n l) (hn : n ≤ 549755813888) :
    Calls Try.prog 13 #[.slice A n c] w (RB 5 w.heap.size w l) := by
  have hI := u8row
  go_enter Try.func13, Try.ntmps13
  go_wp2_with (at_builtin; refine wpList_appB _ rfl _ _ 22 rfl w.heap.size 5 Try.underlying22 hI _ 0 [] rfl OwnB.nil B A n c l rfl hr (by omega) (Nat.le_refl _) ?_; intro A2 c2 w2 hown2 hb2)
  go_ret
  exact ⟨A2, n, c2, rfl, by simpa using hown2, hb2⟩

theorem gv_live : gv [216, 4] 0 = (300, 2, 0) := by decide
theorem vb_300 : vb (zz 300) = [216, 4] := by
  have e : zz 300 = 600 := by decide
  rw [e, vb_big (by omega), vb_small (by omega)]
  rfl
theorem vb_m1 : vb (zz (-1)) = [1] := by
  have e : zz (-1) = 1 := by decide
  rw [e, vb_small (by omega)]
  rfl
theorem new2 (w : World) (e : TypeId) (a b : UInt8) : Rd (w.alloc (.cells #[.int .u8 (a.toNat : Int), .int .u8 (b.toNat : Int)] e)) (w.heap.size + 1) (some ⟨w.heap.size, 0, none⟩) 2 [a, b] := by
  refine ⟨rfl, fun k d hd => ⟨w.heap.size, 0, rfl, by omega, ?_⟩⟩
  rw [cell_of_row _ _ _ _ e (0, 0) (heap_alloc_new w _)]
  match k, hd with
  | 0, hd => simp at hd; subst hd; rfl
  | 1, hd => simp at hd; subst hd; rfl
theorem new1 (w : World) (e : TypeId) (a : UInt8) : Rd (w.alloc (.cells #[.int .u8 (a.toNat : Int)] e)) (w.heap.size + 1) (some ⟨w.heap.size, 0, none⟩) 1 [a] := by
  refine ⟨rfl, fun k d hd => ⟨w.heap.size, 0, rfl, by omega, ?_⟩⟩
  rw [cell_of_row _ _ _ _ e (0, 0) (heap_alloc_new w _)]
  match k, hd with
  | 0, hd => simp at hd; subst hd; rfl

theorem PutVar_300 (w : World) : Calls Try.prog 21 #[.slice none 0 0, .int .i64 300] w (RB 5 w.heap.size w [216, 4]) := by
  have h := PutVar_any none 0 0 300 [] 0 w Rd.nil (Nat.zero_le _) (by omega) (by omega) (by omega)
  rw [vb_300] at h
  exact h
theorem PutVar_m1 (w : World) : Calls Try.prog 21 #[.slice none 0 0, .int .i64 (-1)] w (RB 5 w.heap.size w [1]) := by
  have h := PutVar_any none 0 0 (-1) [] 0 w Rd.nil (Nat.zero_le _) (by omega) (by omega) (by omega)
  rw [vb_m1] at h
  exact h

set_option maxRecDepth 100000 in
set_option maxHeartbeats 400000 in
theorem live_any (w : World) : Calls Try.prog 11 #[] w fun e w' => e = .returned (.bool true) ∧ Below w.heap.size w w' := by
  have hs2 := sameB_self [216, 4]
  have hs1 := sameB_self [1]
  have hb0 := (Below.refl w.heap.size w).alloc (Nat.le_refl _) (.cells #[.int .u8 216, .int .u8 4] 5)
  go_enter Try.func11, Try.ntmps11
  go_wp2_with (first | (go_at_call 19; refine (GetVar_any _ 2 2 0 [216, 4] _ _ (new2 w 5 216 4) (by omega) (by omega)).mono ?_; rintro e w1 ⟨he, rfl⟩; unfold GV at he; rw [gv_live] at he; subst he) | (go_at_call 21; refine (PutVar_300 _).mono ?_; rintro e w1 ⟨A1, n1, c1, rfl, hown1, hb1⟩) | (go_at_call 21; refine (PutVar_m1 _).mono ?_; rintro e w2 ⟨A2, n2, c2, rfl, hown2, hb2⟩) | (go_at_call 17; refine (Same_any _ _ _ _ _ _ _ [1] _ _ _ (hown2.rd.alloc (Nat.le_refl _) _) (new1 w2 5 1)).mono ?_; rintro e w5 ⟨rfl, rfl⟩) | (go_at_call 17; refine (Same_any _ _ _ _ _ _ _ [216, 4] _ _ _ (hown1.rd.alloc (Nat.le_refl _) _) (new2 w1 5 216 4)).mono ?_; rintro e w5 ⟨rfl, rfl⟩))
  go_ret
  exact ⟨rfl, bel_alloc (bel_trans (bel_alloc (bel_trans hb0 hb1) _) hb2) _⟩
end Go.Proofs.Ytjjokjgakenhlaa.Oct
