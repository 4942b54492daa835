/- Joined: ProRt. -/
import Derived.Test.YthhdhdjdhekgpaaDoorProSp
import Derived.Test.YthhdhdjdhekgpaaDoorInC
/- The document's right: may spans be? -/
namespace Go.Proofs.YthhdhdjdhekgpaaDoor.Pro
open Go.RowKit Go.Proofs.YthhdhdjdhekgpaaDoor.Oct Go.Proofs.YthhdhdjdhekgpaaDoor.Lay Go.Proofs.YthhdhdjdhekgpaaDoor.RowF Go.Proofs.YthhdhdjdhekgpaaDoor.InR

def rgRel (l : List Sp) (n : Nat) (i : Value) (w wr : World) : Prop :=
  ∃ (k : Nat) (p : Int), i = .int .i64 (k : Int) ∧ k ≤ n ∧ right l = rt p (l.drop k) ∧ (k = 0 → p = -1) ∧ (0 < k → 0 ≤ p ∧ ∃ y, l[k - 1]? = some y ∧ y.kind = p) ∧ Below w.heap.size w wr
set_option maxRecDepth 100000 in
set_option maxHeartbeats 8000000 in
theorem refright_any (A : Option Addr) (n c : Nat) (l : List Sp) (w : World) (hr : RdL w w.heap.size A n l) (hn : n ≤ 140737488351232) :
    Calls Tryd.prog 76 #[.slice A n c] w fun e w' => e = .returned (.bool (right l)) ∧ Below w.heap.size w w' := by
  have HR := Lib.hid hr
  have hmx : Tryd.prog.follows .mixedOrders = true := by kernel_rfl
  clear hr
  go_enter Tryd.func76, Tryd.ntmps76
  go_wp2
  go_loopw [3] (fun i wr => rgRel l n i w wr) (fun i _ => n - (intOf i).toNat)
  case atStart => exact ⟨0, -1, rfl, Nat.zero_le _, rfl, fun _ => rfl, fun h => absurd h (Nat.lt_irrefl _), Below.refl _ _⟩
  case round =>
    obtain ⟨k, p, rfl, hk, hD, hp0, hp1, hB⟩ := hrel
    have HD := Lib.hid hD
    have HB := Lib.hid hB
    have HX := Lib.hid (HR.out.below hB (Nat.le_refl _))
    clear hD hB
    by_cases hlt : k < n
    · obtain ⟨b, o, x, rfl, hb, hx, hf, q0, q1, q2⟩ := sp_at HX.out hlt
      have HXX := Lib.hid hx
      have HS := Lib.hid (rt_at (p := p) hx)
      clear hx hf
      rcases k with _ | j
      · obtain rfl := hp0 rfl
        have HSS := Lib.hid (show wr.drew.cell? ⟨b, o, none⟩ = some (.int .i64 x.kind) ∧ wr.drew.cell? ⟨b, o + 1, none⟩ = some (.int .i64 x.lo) ∧ wr.drew.cell? ⟨b, o + 2, none⟩ = some (.int .i64 x.hi) by simp only [Nat.zero_mul, Nat.add_zero] at q0 q1 q2; exact ⟨q0, q1, q2⟩)
        clear hp0 hp1 q0 q1 q2
        rcases c1 : decide (x.kind < 0) with _ | _
        rotate_left
        · have c1' := of_decide_eq_true c1
          have HF := Lib.hid (show right l = false by rw [HD.out, HS.out, decide_eq_false (by omega)]; rfl)
          go_wp2
          refine region_let (fun W9 : World => W9.cell? ⟨b, o, none⟩ = some (.int .i64 x.kind) ∧ W9.cell? ⟨b, o + 1, none⟩ = some (.int .i64 x.lo) ∧ W9.cell? ⟨b, o + 2, none⟩ = some (.int .i64 x.hi)) 99 61 hmx rfl fun ops Q HOPS HQ => ?_
          refine stepQ HOPS 0 1 ?_ (by decide) rfl (by kernel_rfl) (by kernel_rfl) rfl ?_ HSS.out ?_
          rotate_left
          · intro w9 hS9; obtain ⟨q0, q1, q2⟩ := hS9; go_simp; (first | done | with_reducible rfl)
          try simp only [Act.put, List.setIfInBounds_toArray, List.set_cons_zero, List.set_cons_succ]
          refine stepQ HOPS 1 3 ?_ (by decide) rfl (by kernel_rfl) (by kernel_rfl) rfl ?_ HSS.out ?_
          rotate_left
          · intro w9 hS9; obtain ⟨q0, q1, q2⟩ := hS9; go_simp; (first | done | with_reducible rfl)
          try simp only [Act.put, List.setIfInBounds_toArray, List.set_cons_zero, List.set_cons_succ]
          refine stepQ HOPS 2 7 ?_ (by decide) rfl (by kernel_rfl) (by kernel_rfl) rfl ?_ HSS.out ?_
          rotate_left
          · intro w9 hS9; obtain ⟨q0, q1, q2⟩ := hS9; go_simp; (first | done | with_reducible rfl)
          try simp only [Act.put, List.setIfInBounds_toArray, List.set_cons_zero, List.set_cons_succ]
          refine stepQ HOPS 3 15 ?_ (by decide) rfl (by kernel_rfl) (by kernel_rfl) rfl ?_ HSS.out ?_
          rotate_left
          · intro w9 hS9; obtain ⟨q0, q1, q2⟩ := hS9; go_simp; (first | done | with_reducible rfl)
          try simp only [Act.put, List.setIfInBounds_toArray, List.set_cons_zero, List.set_cons_succ]
          refine stepQ HOPS 4 31 ?_ (by decide) rfl (by kernel_rfl) (by kernel_rfl) rfl ?_ HSS.out ?_
          rotate_left
          · intro w9 hS9; obtain ⟨q0, q1, q2⟩ := hS9; go_simp; (first | done | with_reducible rfl)
          try simp only [Act.put, List.setIfInBounds_toArray, List.set_cons_zero, List.set_cons_succ]
          refine stepQ HOPS 5 63 ?_ (by decide) rfl (by kernel_rfl) (by kernel_rfl) rfl ?_ HSS.out ?_
          rotate_left
          · intro w9 hS9; obtain ⟨q0, q1, q2⟩ := hS9; go_simp; (first | done | with_reducible rfl)
          try simp only [Act.put, List.setIfInBounds_toArray, List.set_cons_zero, List.set_cons_succ]
          refine stepQ HOPS 6 127 ?_ (by decide) rfl (by kernel_rfl) (by kernel_rfl) rfl ?_ HSS.out ?_
          rotate_left
          · intro w9 hS9; obtain ⟨q0, q1, q2⟩ := hS9; go_simp; (first | done | with_reducible rfl)
          try simp only [Act.put, List.setIfInBounds_toArray, List.set_cons_zero, List.set_cons_succ]
          refine stepU HOPS 7 255 (by decide) rfl (by kernel_rfl) (by kernel_rfl) rfl HSS.out ?_
          try simp only [Act.put, List.setIfInBounds_toArray, List.set_cons_zero, List.set_cons_succ]
          refine stepU HOPS 8 511 (by decide) rfl (by kernel_rfl) (by kernel_rfl) rfl HSS.out ?_
          try simp only [Act.put, List.setIfInBounds_toArray, List.set_cons_zero, List.set_cons_succ]
          refine stepU HOPS 9 1023 (by decide) rfl (by kernel_rfl) (by kernel_rfl) rfl HSS.out ?_
          try simp only [Act.put, List.setIfInBounds_toArray, List.set_cons_zero, List.set_cons_succ]
          refine stepU HOPS 10 2047 (by decide) rfl (by kernel_rfl) (by kernel_rfl) rfl HSS.out ?_
          try simp only [Act.put, List.setIfInBounds_toArray, List.set_cons_zero, List.set_cons_succ]
          refine stepU HOPS 11 4095 (by decide) rfl (by kernel_rfl) (by kernel_rfl) rfl HSS.out ?_
          try simp only [Act.put, List.setIfInBounds_toArray, List.set_cons_zero, List.set_cons_succ]
          refine stepU HOPS 12 8191 (by decide) rfl (by kernel_rfl) (by kernel_rfl) rfl HSS.out ?_
          try simp only [Act.put, List.setIfInBounds_toArray, List.set_cons_zero, List.set_cons_succ]
          refine stepQ HOPS 13 16383 ?_ (by decide) rfl (by kernel_rfl) (by kernel_rfl) rfl ?_ HSS.out ?_
          rotate_left
          · intro w9 hS9; obtain ⟨q0, q1, q2⟩ := hS9; go_simp; (first | done | with_reducible rfl)
          try simp only [Act.put, List.setIfInBounds_toArray, List.set_cons_zero, List.set_cons_succ]
          refine stepQ HOPS 14 32767 ?_ (by decide) rfl (by kernel_rfl) (by kernel_rfl) rfl ?_ HSS.out ?_
          rotate_left
          · intro w9 hS9; obtain ⟨q0, q1, q2⟩ := hS9; go_simp; (first | done | with_reducible rfl)
          try simp only [Act.put, List.setIfInBounds_toArray, List.set_cons_zero, List.set_cons_succ]
          refine stepU HOPS 15 65535 (by decide) rfl (by kernel_rfl) (by kernel_rfl) rfl HSS.out ?_
          try simp only [Act.put, List.setIfInBounds_toArray, List.set_cons_zero, List.set_cons_succ]
          refine stepU HOPS 16 131071 (by decide) rfl (by kernel_rfl) (by kernel_rfl) rfl HSS.out ?_
          try simp only [Act.put, List.setIfInBounds_toArray, List.set_cons_zero, List.set_cons_succ]
          refine stepU HOPS 17 262143 (by decide) rfl (by kernel_rfl) (by kernel_rfl) rfl HSS.out ?_
          try simp only [Act.put, List.setIfInBounds_toArray, List.set_cons_zero, List.set_cons_succ]
          refine stepU HOPS 18 524287 (by decide) rfl (by kernel_rfl) (by kernel_rfl) rfl HSS.out ?_
          try simp only [Act.put, List.setIfInBounds_toArray, List.set_cons_zero, List.set_cons_succ]
          refine stepU HOPS 19 1048575 (by decide) rfl (by kernel_rfl) (by kernel_rfl) rfl HSS.out ?_
          try simp only [Act.put, List.setIfInBounds_toArray, List.set_cons_zero, List.set_cons_succ]
          refine stepU HOPS 20 2097151 (by decide) rfl (by kernel_rfl) (by kernel_rfl) rfl HSS.out ?_
          try simp only [Act.put, List.setIfInBounds_toArray, List.set_cons_zero, List.set_cons_succ]
          refine stepU HOPS 21 4194303 (by decide) rfl (by kernel_rfl) (by kernel_rfl) rfl HSS.out ?_
          try simp only [Act.put, List.setIfInBounds_toArray, List.set_cons_zero, List.set_cons_succ]
          refine stepU HOPS 22 8388607 (by decide) rfl (by kernel_rfl) (by kernel_rfl) rfl HSS.out ?_
          try simp only [Act.put, List.setIfInBounds_toArray, List.set_cons_zero, List.set_cons_succ]
          refine stepU HOPS 23 16777215 (by decide) rfl (by kernel_rfl) (by kernel_rfl) rfl HSS.out ?_
          try simp only [Act.put, List.setIfInBounds_toArray, List.set_cons_zero, List.set_cons_succ]
          refine stepU HOPS 24 33554431 (by decide) rfl (by kernel_rfl) (by kernel_rfl) rfl HSS.out ?_
          try simp only [Act.put, List.setIfInBounds_toArray, List.set_cons_zero, List.set_cons_succ]
          refine stepU HOPS 25 67108863 (by decide) rfl (by kernel_rfl) (by kernel_rfl) rfl HSS.out ?_
          try simp only [Act.put, List.setIfInBounds_toArray, List.set_cons_zero, List.set_cons_succ]
          refine stepU HOPS 26 134217727 (by decide) rfl (by kernel_rfl) (by kernel_rfl) rfl HSS.out ?_
          try simp only [Act.put, List.setIfInBounds_toArray, List.set_cons_zero, List.set_cons_succ]
          refine stepU HOPS 27 268435455 (by decide) rfl (by kernel_rfl) (by kernel_rfl) rfl HSS.out ?_
          try simp only [Act.put, List.setIfInBounds_toArray, List.set_cons_zero, List.set_cons_succ]
          refine stepU HOPS 28 536870911 (by decide) rfl (by kernel_rfl) (by kernel_rfl) rfl HSS.out ?_
          try simp only [Act.put, List.setIfInBounds_toArray, List.set_cons_zero, List.set_cons_succ]
          refine stepU HOPS 29 1073741823 (by decide) rfl (by kernel_rfl) (by kernel_rfl) rfl HSS.out ?_
          try simp only [Act.put, List.setIfInBounds_toArray, List.set_cons_zero, List.set_cons_succ]
          refine stepU HOPS 30 2147483647 (by decide) rfl (by kernel_rfl) (by kernel_rfl) rfl HSS.out ?_
          try simp only [Act.put, List.setIfInBounds_toArray, List.set_cons_zero, List.set_cons_succ]
          refine stepQ HOPS 31 4294967295 ?_ (by decide) rfl (by kernel_rfl) (by kernel_rfl) rfl ?_ HSS.out ?_
          rotate_left
          · intro w9 hS9; obtain ⟨q0, q1, q2⟩ := hS9; go_simp; (first | done | with_reducible rfl)
          try simp only [Act.put, List.setIfInBounds_toArray, List.set_cons_zero, List.set_cons_succ]
          refine stepQ HOPS 32 8589934591 ?_ (by decide) rfl (by kernel_rfl) (by kernel_rfl) rfl ?_ HSS.out ?_
          rotate_left
          · intro w9 hS9; obtain ⟨q0, q1, q2⟩ := hS9; go_simp; (first | done | with_reducible rfl)
          try simp only [Act.put, List.setIfInBounds_toArray, List.set_cons_zero, List.set_cons_succ]
          refine stepU HOPS 33 17179869183 (by decide) rfl (by kernel_rfl) (by kernel_rfl) rfl HSS.out ?_
          try simp only [Act.put, List.setIfInBounds_toArray, List.set_cons_zero, List.set_cons_succ]
          refine stepU HOPS 34 34359738367 (by decide) rfl (by kernel_rfl) (by kernel_rfl) rfl HSS.out ?_
          try simp only [Act.put, List.setIfInBounds_toArray, List.set_cons_zero, List.set_cons_succ]
          refine stepU HOPS 35 68719476735 (by decide) rfl (by kernel_rfl) (by kernel_rfl) rfl HSS.out ?_
          try simp only [Act.put, List.setIfInBounds_toArray, List.set_cons_zero, List.set_cons_succ]
          refine stepU HOPS 36 137438953471 (by decide) rfl (by kernel_rfl) (by kernel_rfl) rfl HSS.out ?_
          try simp only [Act.put, List.setIfInBounds_toArray, List.set_cons_zero, List.set_cons_succ]
          refine stepU HOPS 37 274877906943 (by decide) rfl (by kernel_rfl) (by kernel_rfl) rfl HSS.out ?_
          try simp only [Act.put, List.setIfInBounds_toArray, List.set_cons_zero, List.set_cons_succ]
          refine stepU HOPS 38 549755813887 (by decide) rfl (by kernel_rfl) (by kernel_rfl) rfl HSS.out ?_
          try simp only [Act.put, List.setIfInBounds_toArray, List.set_cons_zero, List.set_cons_succ]
          refine stepQ HOPS 39 1099511627775 ?_ (by decide) rfl (by kernel_rfl) (by kernel_rfl) rfl ?_ HSS.out ?_
          rotate_left
          · intro w9 hS9; obtain ⟨q0, q1, q2⟩ := hS9; go_simp; (first | done | with_reducible rfl)
          try simp only [Act.put, List.setIfInBounds_toArray, List.set_cons_zero, List.set_cons_succ]
          refine stepQ HOPS 40 2199023255551 ?_ (by decide) rfl (by kernel_rfl) (by kernel_rfl) rfl ?_ HSS.out ?_
          rotate_left
          · intro w9 hS9; obtain ⟨q0, q1, q2⟩ := hS9; go_simp; (first | done | with_reducible rfl)
          try simp only [Act.put, List.setIfInBounds_toArray, List.set_cons_zero, List.set_cons_succ]
          refine stepU HOPS 41 4398046511103 (by decide) rfl (by kernel_rfl) (by kernel_rfl) rfl HSS.out ?_
          try simp only [Act.put, List.setIfInBounds_toArray, List.set_cons_zero, List.set_cons_succ]
          refine stepU HOPS 42 8796093022207 (by decide) rfl (by kernel_rfl) (by kernel_rfl) rfl HSS.out ?_
          try simp only [Act.put, List.setIfInBounds_toArray, List.set_cons_zero, List.set_cons_succ]
          refine stepU HOPS 43 17592186044415 (by decide) rfl (by kernel_rfl) (by kernel_rfl) rfl HSS.out ?_
          try simp only [Act.put, List.setIfInBounds_toArray, List.set_cons_zero, List.set_cons_succ]
          refine stepU HOPS 44 35184372088831 (by decide) rfl (by kernel_rfl) (by kernel_rfl) rfl HSS.out ?_
          try simp only [Act.put, List.setIfInBounds_toArray, List.set_cons_zero, List.set_cons_succ]
          refine stepU HOPS 45 70368744177663 (by decide) rfl (by kernel_rfl) (by kernel_rfl) rfl HSS.out ?_
          try simp only [Act.put, List.setIfInBounds_toArray, List.set_cons_zero, List.set_cons_succ]
          refine stepU HOPS 46 140737488355327 (by decide) rfl (by kernel_rfl) (by kernel_rfl) rfl HSS.out ?_
          try simp only [Act.put, List.setIfInBounds_toArray, List.set_cons_zero, List.set_cons_succ]
          refine stepU HOPS 47 281474976710655 (by decide) rfl (by kernel_rfl) (by kernel_rfl) rfl HSS.out ?_
          try simp only [Act.put, List.setIfInBounds_toArray, List.set_cons_zero, List.set_cons_succ]
          refine stepU HOPS 48 562949953421311 (by decide) rfl (by kernel_rfl) (by kernel_rfl) rfl HSS.out ?_
          try simp only [Act.put, List.setIfInBounds_toArray, List.set_cons_zero, List.set_cons_succ]
          refine stepU HOPS 49 1125899906842623 (by decide) rfl (by kernel_rfl) (by kernel_rfl) rfl HSS.out ?_
          try simp only [Act.put, List.setIfInBounds_toArray, List.set_cons_zero, List.set_cons_succ]
          refine stepU HOPS 50 2251799813685247 (by decide) rfl (by kernel_rfl) (by kernel_rfl) rfl HSS.out ?_
          try simp only [Act.put, List.setIfInBounds_toArray, List.set_cons_zero, List.set_cons_succ]
          refine stepU HOPS 51 4503599627370495 (by decide) rfl (by kernel_rfl) (by kernel_rfl) rfl HSS.out ?_
          try simp only [Act.put, List.setIfInBounds_toArray, List.set_cons_zero, List.set_cons_succ]
          refine stepQ HOPS 52 9007199254740991 ?_ (by decide) rfl (by kernel_rfl) (by kernel_rfl) rfl ?_ HSS.out ?_
          rotate_left
          · intro w9 hS9; obtain ⟨q0, q1, q2⟩ := hS9; go_simp; (first | done | with_reducible rfl)
          try simp only [Act.put, List.setIfInBounds_toArray, List.set_cons_zero, List.set_cons_succ]
          refine stepQ HOPS 53 18014398509481983 ?_ (by decide) rfl (by kernel_rfl) (by kernel_rfl) rfl ?_ HSS.out ?_
          rotate_left
          · intro w9 hS9; obtain ⟨q0, q1, q2⟩ := hS9; go_simp; (first | done | with_reducible rfl)
          try simp only [Act.put, List.setIfInBounds_toArray, List.set_cons_zero, List.set_cons_succ]
          refine stepU HOPS 54 36028797018963967 (by decide) rfl (by kernel_rfl) (by kernel_rfl) rfl HSS.out ?_
          try simp only [Act.put, List.setIfInBounds_toArray, List.set_cons_zero, List.set_cons_succ]
          refine stepU HOPS 55 72057594037927935 (by decide) rfl (by kernel_rfl) (by kernel_rfl) rfl HSS.out ?_
          try simp only [Act.put, List.setIfInBounds_toArray, List.set_cons_zero, List.set_cons_succ]
          refine stepU HOPS 56 144115188075855871 (by decide) rfl (by kernel_rfl) (by kernel_rfl) rfl HSS.out ?_
          try simp only [Act.put, List.setIfInBounds_toArray, List.set_cons_zero, List.set_cons_succ]
          refine stepU HOPS 57 288230376151711743 (by decide) rfl (by kernel_rfl) (by kernel_rfl) rfl HSS.out ?_
          try simp only [Act.put, List.setIfInBounds_toArray, List.set_cons_zero, List.set_cons_succ]
          refine stepU HOPS 58 576460752303423487 (by decide) rfl (by kernel_rfl) (by kernel_rfl) rfl HSS.out ?_
          try simp only [Act.put, List.setIfInBounds_toArray, List.set_cons_zero, List.set_cons_succ]
          refine stepU HOPS 59 1152921504606846975 (by decide) rfl (by kernel_rfl) (by kernel_rfl) rfl HSS.out ?_
          try simp only [Act.put, List.setIfInBounds_toArray, List.set_cons_zero, List.set_cons_succ]
          refine stepQ HOPS 60 2305843009213693951 ?_ (by decide) rfl (by kernel_rfl) (by kernel_rfl) rfl ?_ HSS.out ?_
          rotate_left
          · intro w9 hS9; obtain ⟨q0, q1, q2⟩ := hS9; go_simp; (first | done | with_reducible rfl)
          try simp only [Act.put, List.setIfInBounds_toArray, List.set_cons_zero, List.set_cons_succ]
          refine stepE HOPS (by kernel_rfl) (HQ.out _ _ ?_)
          clear HQ HOPS
          clear Q ops
          go_wp2
          go_ret
          exact ⟨by rw [HF.out]; rfl, bel_drew HB.out⟩
        have c1' := of_decide_eq_false c1
        rcases c2 : decide (255 < x.kind) with _ | _
        rotate_left
        · have c2' := of_decide_eq_true c2
          have HF := Lib.hid (show right l = false by rw [HD.out, HS.out, decide_eq_false (by omega)]; rfl)
          go_wp2
          refine region_let (fun W9 : World => W9.cell? ⟨b, o, none⟩ = some (.int .i64 x.kind) ∧ W9.cell? ⟨b, o + 1, none⟩ = some (.int .i64 x.lo) ∧ W9.cell? ⟨b, o + 2, none⟩ = some (.int .i64 x.hi)) 99 61 hmx rfl fun ops Q HOPS HQ => ?_
          refine stepQ HOPS 0 1 ?_ (by decide) rfl (by kernel_rfl) (by kernel_rfl) rfl ?_ HSS.out ?_
          rotate_left
          · intro w9 hS9; obtain ⟨q0, q1, q2⟩ := hS9; go_simp; (first | done | with_reducible rfl)
          try simp only [Act.put, List.setIfInBounds_toArray, List.set_cons_zero, List.set_cons_succ]
          refine stepQ HOPS 1 3 ?_ (by decide) rfl (by kernel_rfl) (by kernel_rfl) rfl ?_ HSS.out ?_
          rotate_left
          · intro w9 hS9; obtain ⟨q0, q1, q2⟩ := hS9; go_simp; (first | done | with_reducible rfl)
          try simp only [Act.put, List.setIfInBounds_toArray, List.set_cons_zero, List.set_cons_succ]
          refine stepQ HOPS 2 7 ?_ (by decide) rfl (by kernel_rfl) (by kernel_rfl) rfl ?_ HSS.out ?_
          rotate_left
          · intro w9 hS9; obtain ⟨q0, q1, q2⟩ := hS9; go_simp; (first | done | with_reducible rfl)
          try simp only [Act.put, List.setIfInBounds_toArray, List.set_cons_zero, List.set_cons_succ]
          refine stepQ HOPS 3 15 ?_ (by decide) rfl (by kernel_rfl) (by kernel_rfl) rfl ?_ HSS.out ?_
          rotate_left
          · intro w9 hS9; obtain ⟨q0, q1, q2⟩ := hS9; go_simp; (first | done | with_reducible rfl)
          try simp only [Act.put, List.setIfInBounds_toArray, List.set_cons_zero, List.set_cons_succ]
          refine stepQ HOPS 4 31 ?_ (by decide) rfl (by kernel_rfl) (by kernel_rfl) rfl ?_ HSS.out ?_
          rotate_left
          · intro w9 hS9; obtain ⟨q0, q1, q2⟩ := hS9; go_simp; (first | done | with_reducible rfl)
          try simp only [Act.put, List.setIfInBounds_toArray, List.set_cons_zero, List.set_cons_succ]
          refine stepQ HOPS 5 63 ?_ (by decide) rfl (by kernel_rfl) (by kernel_rfl) rfl ?_ HSS.out ?_
          rotate_left
          · intro w9 hS9; obtain ⟨q0, q1, q2⟩ := hS9; go_simp; (first | done | with_reducible rfl)
          try simp only [Act.put, List.setIfInBounds_toArray, List.set_cons_zero, List.set_cons_succ]
          refine stepQ HOPS 6 127 ?_ (by decide) rfl (by kernel_rfl) (by kernel_rfl) rfl ?_ HSS.out ?_
          rotate_left
          · intro w9 hS9; obtain ⟨q0, q1, q2⟩ := hS9; go_simp; (first | done | with_reducible rfl)
          try simp only [Act.put, List.setIfInBounds_toArray, List.set_cons_zero, List.set_cons_succ]
          refine stepQ HOPS 7 255 ?_ (by decide) rfl (by kernel_rfl) (by kernel_rfl) rfl ?_ HSS.out ?_
          rotate_left
          · intro w9 hS9; obtain ⟨q0, q1, q2⟩ := hS9; go_simp; (first | done | with_reducible rfl)
          try simp only [Act.put, List.setIfInBounds_toArray, List.set_cons_zero, List.set_cons_succ]
          refine stepQ HOPS 8 511 ?_ (by decide) rfl (by kernel_rfl) (by kernel_rfl) rfl ?_ HSS.out ?_
          rotate_left
          · intro w9 hS9; obtain ⟨q0, q1, q2⟩ := hS9; go_simp; (first | done | with_reducible rfl)
          try simp only [Act.put, List.setIfInBounds_toArray, List.set_cons_zero, List.set_cons_succ]
          refine stepQ HOPS 9 1023 ?_ (by decide) rfl (by kernel_rfl) (by kernel_rfl) rfl ?_ HSS.out ?_
          rotate_left
          · intro w9 hS9; obtain ⟨q0, q1, q2⟩ := hS9; go_simp; (first | done | with_reducible rfl)
          try simp only [Act.put, List.setIfInBounds_toArray, List.set_cons_zero, List.set_cons_succ]
          refine stepQ HOPS 10 2047 ?_ (by decide) rfl (by kernel_rfl) (by kernel_rfl) rfl ?_ HSS.out ?_
          rotate_left
          · intro w9 hS9; obtain ⟨q0, q1, q2⟩ := hS9; go_simp; (first | done | with_reducible rfl)
          try simp only [Act.put, List.setIfInBounds_toArray, List.set_cons_zero, List.set_cons_succ]
          refine stepQ HOPS 11 4095 ?_ (by decide) rfl (by kernel_rfl) (by kernel_rfl) rfl ?_ HSS.out ?_
          rotate_left
          · intro w9 hS9; obtain ⟨q0, q1, q2⟩ := hS9; go_simp; (first | done | with_reducible rfl)
          try simp only [Act.put, List.setIfInBounds_toArray, List.set_cons_zero, List.set_cons_succ]
          refine stepQ HOPS 12 8191 ?_ (by decide) rfl (by kernel_rfl) (by kernel_rfl) rfl ?_ HSS.out ?_
          rotate_left
          · intro w9 hS9; obtain ⟨q0, q1, q2⟩ := hS9; go_simp; (first | done | with_reducible rfl)
          try simp only [Act.put, List.setIfInBounds_toArray, List.set_cons_zero, List.set_cons_succ]
          refine stepQ HOPS 13 16383 ?_ (by decide) rfl (by kernel_rfl) (by kernel_rfl) rfl ?_ HSS.out ?_
          rotate_left
          · intro w9 hS9; obtain ⟨q0, q1, q2⟩ := hS9; go_simp; (first | done | with_reducible rfl)
          try simp only [Act.put, List.setIfInBounds_toArray, List.set_cons_zero, List.set_cons_succ]
          refine stepQ HOPS 14 32767 ?_ (by decide) rfl (by kernel_rfl) (by kernel_rfl) rfl ?_ HSS.out ?_
          rotate_left
          · intro w9 hS9; obtain ⟨q0, q1, q2⟩ := hS9; go_simp; (first | done | with_reducible rfl)
          try simp only [Act.put, List.setIfInBounds_toArray, List.set_cons_zero, List.set_cons_succ]
          refine stepU HOPS 15 65535 (by decide) rfl (by kernel_rfl) (by kernel_rfl) rfl HSS.out ?_
          try simp only [Act.put, List.setIfInBounds_toArray, List.set_cons_zero, List.set_cons_succ]
          refine stepU HOPS 16 131071 (by decide) rfl (by kernel_rfl) (by kernel_rfl) rfl HSS.out ?_
          try simp only [Act.put, List.setIfInBounds_toArray, List.set_cons_zero, List.set_cons_succ]
          refine stepU HOPS 17 262143 (by decide) rfl (by kernel_rfl) (by kernel_rfl) rfl HSS.out ?_
          try simp only [Act.put, List.setIfInBounds_toArray, List.set_cons_zero, List.set_cons_succ]
          refine stepU HOPS 18 524287 (by decide) rfl (by kernel_rfl) (by kernel_rfl) rfl HSS.out ?_
          try simp only [Act.put, List.setIfInBounds_toArray, List.set_cons_zero, List.set_cons_succ]
          refine stepU HOPS 19 1048575 (by decide) rfl (by kernel_rfl) (by kernel_rfl) rfl HSS.out ?_
          try simp only [Act.put, List.setIfInBounds_toArray, List.set_cons_zero, List.set_cons_succ]
          refine stepU HOPS 20 2097151 (by decide) rfl (by kernel_rfl) (by kernel_rfl) rfl HSS.out ?_
          try simp only [Act.put, List.setIfInBounds_toArray, List.set_cons_zero, List.set_cons_succ]
          refine stepU HOPS 21 4194303 (by decide) rfl (by kernel_rfl) (by kernel_rfl) rfl HSS.out ?_
          try simp only [Act.put, List.setIfInBounds_toArray, List.set_cons_zero, List.set_cons_succ]
          refine stepU HOPS 22 8388607 (by decide) rfl (by kernel_rfl) (by kernel_rfl) rfl HSS.out ?_
          try simp only [Act.put, List.setIfInBounds_toArray, List.set_cons_zero, List.set_cons_succ]
          refine stepU HOPS 23 16777215 (by decide) rfl (by kernel_rfl) (by kernel_rfl) rfl HSS.out ?_
          try simp only [Act.put, List.setIfInBounds_toArray, List.set_cons_zero, List.set_cons_succ]
          refine stepU HOPS 24 33554431 (by decide) rfl (by kernel_rfl) (by kernel_rfl) rfl HSS.out ?_
          try simp only [Act.put, List.setIfInBounds_toArray, List.set_cons_zero, List.set_cons_succ]
          refine stepU HOPS 25 67108863 (by decide) rfl (by kernel_rfl) (by kernel_rfl) rfl HSS.out ?_
          try simp only [Act.put, List.setIfInBounds_toArray, List.set_cons_zero, List.set_cons_succ]
          refine stepU HOPS 26 134217727 (by decide) rfl (by kernel_rfl) (by kernel_rfl) rfl HSS.out ?_
          try simp only [Act.put, List.setIfInBounds_toArray, List.set_cons_zero, List.set_cons_succ]
          refine stepU HOPS 27 268435455 (by decide) rfl (by kernel_rfl) (by kernel_rfl) rfl HSS.out ?_
          try simp only [Act.put, List.setIfInBounds_toArray, List.set_cons_zero, List.set_cons_succ]
          refine stepU HOPS 28 536870911 (by decide) rfl (by kernel_rfl) (by kernel_rfl) rfl HSS.out ?_
          try simp only [Act.put, List.setIfInBounds_toArray, List.set_cons_zero, List.set_cons_succ]
          refine stepU HOPS 29 1073741823 (by decide) rfl (by kernel_rfl) (by kernel_rfl) rfl HSS.out ?_
          try simp only [Act.put, List.setIfInBounds_toArray, List.set_cons_zero, List.set_cons_succ]
          refine stepU HOPS 30 2147483647 (by decide) rfl (by kernel_rfl) (by kernel_rfl) rfl HSS.out ?_
          try simp only [Act.put, List.setIfInBounds_toArray, List.set_cons_zero, List.set_cons_succ]
          refine stepQ HOPS 31 4294967295 ?_ (by decide) rfl (by kernel_rfl) (by kernel_rfl) rfl ?_ HSS.out ?_
          rotate_left
          · intro w9 hS9; obtain ⟨q0, q1, q2⟩ := hS9; go_simp; (first | done | with_reducible rfl)
          try simp only [Act.put, List.setIfInBounds_toArray, List.set_cons_zero, List.set_cons_succ]
          refine stepQ HOPS 32 8589934591 ?_ (by decide) rfl (by kernel_rfl) (by kernel_rfl) rfl ?_ HSS.out ?_
          rotate_left
          · intro w9 hS9; obtain ⟨q0, q1, q2⟩ := hS9; go_simp; (first | done | with_reducible rfl)
          try simp only [Act.put, List.setIfInBounds_toArray, List.set_cons_zero, List.set_cons_succ]
          refine stepU HOPS 33 17179869183 (by decide) rfl (by kernel_rfl) (by kernel_rfl) rfl HSS.out ?_
          try simp only [Act.put, List.setIfInBounds_toArray, List.set_cons_zero, List.set_cons_succ]
          refine stepU HOPS 34 34359738367 (by decide) rfl (by kernel_rfl) (by kernel_rfl) rfl HSS.out ?_
          try simp only [Act.put, List.setIfInBounds_toArray, List.set_cons_zero, List.set_cons_succ]
          refine stepU HOPS 35 68719476735 (by decide) rfl (by kernel_rfl) (by kernel_rfl) rfl HSS.out ?_
          try simp only [Act.put, List.setIfInBounds_toArray, List.set_cons_zero, List.set_cons_succ]
          refine stepU HOPS 36 137438953471 (by decide) rfl (by kernel_rfl) (by kernel_rfl) rfl HSS.out ?_
          try simp only [Act.put, List.setIfInBounds_toArray, List.set_cons_zero, List.set_cons_succ]
          refine stepU HOPS 37 274877906943 (by decide) rfl (by kernel_rfl) (by kernel_rfl) rfl HSS.out ?_
          try simp only [Act.put, List.setIfInBounds_toArray, List.set_cons_zero, List.set_cons_succ]
          refine stepU HOPS 38 549755813887 (by decide) rfl (by kernel_rfl) (by kernel_rfl) rfl HSS.out ?_
          try simp only [Act.put, List.setIfInBounds_toArray, List.set_cons_zero, List.set_cons_succ]
          refine stepQ HOPS 39 1099511627775 ?_ (by decide) rfl (by kernel_rfl) (by kernel_rfl) rfl ?_ HSS.out ?_
          rotate_left
          · intro w9 hS9; obtain ⟨q0, q1, q2⟩ := hS9; go_simp; (first | done | with_reducible rfl)
          try simp only [Act.put, List.setIfInBounds_toArray, List.set_cons_zero, List.set_cons_succ]
          refine stepQ HOPS 40 2199023255551 ?_ (by decide) rfl (by kernel_rfl) (by kernel_rfl) rfl ?_ HSS.out ?_
          rotate_left
          · intro w9 hS9; obtain ⟨q0, q1, q2⟩ := hS9; go_simp; (first | done | with_reducible rfl)
          try simp only [Act.put, List.setIfInBounds_toArray, List.set_cons_zero, List.set_cons_succ]
          refine stepU HOPS 41 4398046511103 (by decide) rfl (by kernel_rfl) (by kernel_rfl) rfl HSS.out ?_
          try simp only [Act.put, List.setIfInBounds_toArray, List.set_cons_zero, List.set_cons_succ]
          refine stepU HOPS 42 8796093022207 (by decide) rfl (by kernel_rfl) (by kernel_rfl) rfl HSS.out ?_
          try simp only [Act.put, List.setIfInBounds_toArray, List.set_cons_zero, List.set_cons_succ]
          refine stepU HOPS 43 17592186044415 (by decide) rfl (by kernel_rfl) (by kernel_rfl) rfl HSS.out ?_
          try simp only [Act.put, List.setIfInBounds_toArray, List.set_cons_zero, List.set_cons_succ]
          refine stepU HOPS 44 35184372088831 (by decide) rfl (by kernel_rfl) (by kernel_rfl) rfl HSS.out ?_
          try simp only [Act.put, List.setIfInBounds_toArray, List.set_cons_zero, List.set_cons_succ]
          refine stepU HOPS 45 70368744177663 (by decide) rfl (by kernel_rfl) (by kernel_rfl) rfl HSS.out ?_
          try simp only [Act.put, List.setIfInBounds_toArray, List.set_cons_zero, List.set_cons_succ]
          refine stepU HOPS 46 140737488355327 (by decide) rfl (by kernel_rfl) (by kernel_rfl) rfl HSS.out ?_
          try simp only [Act.put, List.setIfInBounds_toArray, List.set_cons_zero, List.set_cons_succ]
          refine stepU HOPS 47 281474976710655 (by decide) rfl (by kernel_rfl) (by kernel_rfl) rfl HSS.out ?_
          try simp only [Act.put, List.setIfInBounds_toArray, List.set_cons_zero, List.set_cons_succ]
          refine stepU HOPS 48 562949953421311 (by decide) rfl (by kernel_rfl) (by kernel_rfl) rfl HSS.out ?_
          try simp only [Act.put, List.setIfInBounds_toArray, List.set_cons_zero, List.set_cons_succ]
          refine stepU HOPS 49 1125899906842623 (by decide) rfl (by kernel_rfl) (by kernel_rfl) rfl HSS.out ?_
          try simp only [Act.put, List.setIfInBounds_toArray, List.set_cons_zero, List.set_cons_succ]
          refine stepU HOPS 50 2251799813685247 (by decide) rfl (by kernel_rfl) (by kernel_rfl) rfl HSS.out ?_
          try simp only [Act.put, List.setIfInBounds_toArray, List.set_cons_zero, List.set_cons_succ]
          refine stepU HOPS 51 4503599627370495 (by decide) rfl (by kernel_rfl) (by kernel_rfl) rfl HSS.out ?_
          try simp only [Act.put, List.setIfInBounds_toArray, List.set_cons_zero, List.set_cons_succ]
          refine stepQ HOPS 52 9007199254740991 ?_ (by decide) rfl (by kernel_rfl) (by kernel_rfl) rfl ?_ HSS.out ?_
          rotate_left
          · intro w9 hS9; obtain ⟨q0, q1, q2⟩ := hS9; go_simp; (first | done | with_reducible rfl)
          try simp only [Act.put, List.setIfInBounds_toArray, List.set_cons_zero, List.set_cons_succ]
          refine stepQ HOPS 53 18014398509481983 ?_ (by decide) rfl (by kernel_rfl) (by kernel_rfl) rfl ?_ HSS.out ?_
          rotate_left
          · intro w9 hS9; obtain ⟨q0, q1, q2⟩ := hS9; go_simp; (first | done | with_reducible rfl)
          try simp only [Act.put, List.setIfInBounds_toArray, List.set_cons_zero, List.set_cons_succ]
          refine stepU HOPS 54 36028797018963967 (by decide) rfl (by kernel_rfl) (by kernel_rfl) rfl HSS.out ?_
          try simp only [Act.put, List.setIfInBounds_toArray, List.set_cons_zero, List.set_cons_succ]
          refine stepU HOPS 55 72057594037927935 (by decide) rfl (by kernel_rfl) (by kernel_rfl) rfl HSS.out ?_
          try simp only [Act.put, List.setIfInBounds_toArray, List.set_cons_zero, List.set_cons_succ]
          refine stepU HOPS 56 144115188075855871 (by decide) rfl (by kernel_rfl) (by kernel_rfl) rfl HSS.out ?_
          try simp only [Act.put, List.setIfInBounds_toArray, List.set_cons_zero, List.set_cons_succ]
          refine stepU HOPS 57 288230376151711743 (by decide) rfl (by kernel_rfl) (by kernel_rfl) rfl HSS.out ?_
          try simp only [Act.put, List.setIfInBounds_toArray, List.set_cons_zero, List.set_cons_succ]
          refine stepU HOPS 58 576460752303423487 (by decide) rfl (by kernel_rfl) (by kernel_rfl) rfl HSS.out ?_
          try simp only [Act.put, List.setIfInBounds_toArray, List.set_cons_zero, List.set_cons_succ]
          refine stepU HOPS 59 1152921504606846975 (by decide) rfl (by kernel_rfl) (by kernel_rfl) rfl HSS.out ?_
          try simp only [Act.put, List.setIfInBounds_toArray, List.set_cons_zero, List.set_cons_succ]
          refine stepQ HOPS 60 2305843009213693951 ?_ (by decide) rfl (by kernel_rfl) (by kernel_rfl) rfl ?_ HSS.out ?_
          rotate_left
          · intro w9 hS9; obtain ⟨q0, q1, q2⟩ := hS9; go_simp; (first | done | with_reducible rfl)
          try simp only [Act.put, List.setIfInBounds_toArray, List.set_cons_zero, List.set_cons_succ]
          refine stepE HOPS (by kernel_rfl) (HQ.out _ _ ?_)
          clear HQ HOPS
          clear Q ops
          go_wp2
          go_ret
          exact ⟨by rw [HF.out]; rfl, bel_drew HB.out⟩
        have c2' := of_decide_eq_false c2
        rcases c5 : decide (x.lo < 0) with _ | _
        rotate_left
        · have c5' := of_decide_eq_true c5
          have HF := Lib.hid (show right l = false by rw [HD.out, HS.out, decide_eq_false (by omega)]; rfl)
          go_wp2
          refine region_let (fun W9 : World => W9.cell? ⟨b, o, none⟩ = some (.int .i64 x.kind) ∧ W9.cell? ⟨b, o + 1, none⟩ = some (.int .i64 x.lo) ∧ W9.cell? ⟨b, o + 2, none⟩ = some (.int .i64 x.hi)) 99 61 hmx rfl fun ops Q HOPS HQ => ?_
          refine stepQ HOPS 0 1 ?_ (by decide) rfl (by kernel_rfl) (by kernel_rfl) rfl ?_ HSS.out ?_
          rotate_left
          · intro w9 hS9; obtain ⟨q0, q1, q2⟩ := hS9; go_simp; (first | done | with_reducible rfl)
          try simp only [Act.put, List.setIfInBounds_toArray, List.set_cons_zero, List.set_cons_succ]
          refine stepQ HOPS 1 3 ?_ (by decide) rfl (by kernel_rfl) (by kernel_rfl) rfl ?_ HSS.out ?_
          rotate_left
          · intro w9 hS9; obtain ⟨q0, q1, q2⟩ := hS9; go_simp; (first | done | with_reducible rfl)
          try simp only [Act.put, List.setIfInBounds_toArray, List.set_cons_zero, List.set_cons_succ]
          refine stepQ HOPS 2 7 ?_ (by decide) rfl (by kernel_rfl) (by kernel_rfl) rfl ?_ HSS.out ?_
          rotate_left
          · intro w9 hS9; obtain ⟨q0, q1, q2⟩ := hS9; go_simp; (first | done | with_reducible rfl)
          try simp only [Act.put, List.setIfInBounds_toArray, List.set_cons_zero, List.set_cons_succ]
          refine stepQ HOPS 3 15 ?_ (by decide) rfl (by kernel_rfl) (by kernel_rfl) rfl ?_ HSS.out ?_
          rotate_left
          · intro w9 hS9; obtain ⟨q0, q1, q2⟩ := hS9; go_simp; (first | done | with_reducible rfl)
          try simp only [Act.put, List.setIfInBounds_toArray, List.set_cons_zero, List.set_cons_succ]
          refine stepQ HOPS 4 31 ?_ (by decide) rfl (by kernel_rfl) (by kernel_rfl) rfl ?_ HSS.out ?_
          rotate_left
          · intro w9 hS9; obtain ⟨q0, q1, q2⟩ := hS9; go_simp; (first | done | with_reducible rfl)
          try simp only [Act.put, List.setIfInBounds_toArray, List.set_cons_zero, List.set_cons_succ]
          refine stepQ HOPS 5 63 ?_ (by decide) rfl (by kernel_rfl) (by kernel_rfl) rfl ?_ HSS.out ?_
          rotate_left
          · intro w9 hS9; obtain ⟨q0, q1, q2⟩ := hS9; go_simp; (first | done | with_reducible rfl)
          try simp only [Act.put, List.setIfInBounds_toArray, List.set_cons_zero, List.set_cons_succ]
          refine stepQ HOPS 6 127 ?_ (by decide) rfl (by kernel_rfl) (by kernel_rfl) rfl ?_ HSS.out ?_
          rotate_left
          · intro w9 hS9; obtain ⟨q0, q1, q2⟩ := hS9; go_simp; (first | done | with_reducible rfl)
          try simp only [Act.put, List.setIfInBounds_toArray, List.set_cons_zero, List.set_cons_succ]
          refine stepQ HOPS 7 255 ?_ (by decide) rfl (by kernel_rfl) (by kernel_rfl) rfl ?_ HSS.out ?_
          rotate_left
          · intro w9 hS9; obtain ⟨q0, q1, q2⟩ := hS9; go_simp; (first | done | with_reducible rfl)
          try simp only [Act.put, List.setIfInBounds_toArray, List.set_cons_zero, List.set_cons_succ]
          refine stepQ HOPS 8 511 ?_ (by decide) rfl (by kernel_rfl) (by kernel_rfl) rfl ?_ HSS.out ?_
          rotate_left
          · intro w9 hS9; obtain ⟨q0, q1, q2⟩ := hS9; go_simp; (first | done | with_reducible rfl)
          try simp only [Act.put, List.setIfInBounds_toArray, List.set_cons_zero, List.set_cons_succ]
          refine stepQ HOPS 9 1023 ?_ (by decide) rfl (by kernel_rfl) (by kernel_rfl) rfl ?_ HSS.out ?_
          rotate_left
          · intro w9 hS9; obtain ⟨q0, q1, q2⟩ := hS9; go_simp; (first | done | with_reducible rfl)
          try simp only [Act.put, List.setIfInBounds_toArray, List.set_cons_zero, List.set_cons_succ]
          refine stepQ HOPS 10 2047 ?_ (by decide) rfl (by kernel_rfl) (by kernel_rfl) rfl ?_ HSS.out ?_
          rotate_left
          · intro w9 hS9; obtain ⟨q0, q1, q2⟩ := hS9; go_simp; (first | done | with_reducible rfl)
          try simp only [Act.put, List.setIfInBounds_toArray, List.set_cons_zero, List.set_cons_succ]
          refine stepQ HOPS 11 4095 ?_ (by decide) rfl (by kernel_rfl) (by kernel_rfl) rfl ?_ HSS.out ?_
          rotate_left
          · intro w9 hS9; obtain ⟨q0, q1, q2⟩ := hS9; go_simp; (first | done | with_reducible rfl)
          try simp only [Act.put, List.setIfInBounds_toArray, List.set_cons_zero, List.set_cons_succ]
          refine stepQ HOPS 12 8191 ?_ (by decide) rfl (by kernel_rfl) (by kernel_rfl) rfl ?_ HSS.out ?_
          rotate_left
          · intro w9 hS9; obtain ⟨q0, q1, q2⟩ := hS9; go_simp; (first | done | with_reducible rfl)
          try simp only [Act.put, List.setIfInBounds_toArray, List.set_cons_zero, List.set_cons_succ]
          refine stepQ HOPS 13 16383 ?_ (by decide) rfl (by kernel_rfl) (by kernel_rfl) rfl ?_ HSS.out ?_
          rotate_left
          · intro w9 hS9; obtain ⟨q0, q1, q2⟩ := hS9; go_simp; (first | done | with_reducible rfl)
          try simp only [Act.put, List.setIfInBounds_toArray, List.set_cons_zero, List.set_cons_succ]
          refine stepQ HOPS 14 32767 ?_ (by decide) rfl (by kernel_rfl) (by kernel_rfl) rfl ?_ HSS.out ?_
          rotate_left
          · intro w9 hS9; obtain ⟨q0, q1, q2⟩ := hS9; go_simp; (first | done | with_reducible rfl)
          try simp only [Act.put, List.setIfInBounds_toArray, List.set_cons_zero, List.set_cons_succ]
          refine stepQ HOPS 15 65535 ?_ (by decide) rfl (by kernel_rfl) (by kernel_rfl) rfl ?_ HSS.out ?_
          rotate_left
          · intro w9 hS9; obtain ⟨q0, q1, q2⟩ := hS9; go_simp; (first | done | with_reducible rfl)
          try simp only [Act.put, List.setIfInBounds_toArray, List.set_cons_zero, List.set_cons_succ]
          refine stepQ HOPS 16 131071 ?_ (by decide) rfl (by kernel_rfl) (by kernel_rfl) rfl ?_ HSS.out ?_
          rotate_left
          · intro w9 hS9; obtain ⟨q0, q1, q2⟩ := hS9; go_simp; (first | done | with_reducible rfl)
          try simp only [Act.put, List.setIfInBounds_toArray, List.set_cons_zero, List.set_cons_succ]
          refine stepQ HOPS 17 262143 ?_ (by decide) rfl (by kernel_rfl) (by kernel_rfl) rfl ?_ HSS.out ?_
          rotate_left
          · intro w9 hS9; obtain ⟨q0, q1, q2⟩ := hS9; go_simp; (first | done | with_reducible rfl)
          try simp only [Act.put, List.setIfInBounds_toArray, List.set_cons_zero, List.set_cons_succ]
          refine stepU HOPS 18 524287 (by decide) rfl (by kernel_rfl) (by kernel_rfl) rfl HSS.out ?_
          try simp only [Act.put, List.setIfInBounds_toArray, List.set_cons_zero, List.set_cons_succ]
          refine stepU HOPS 19 1048575 (by decide) rfl (by kernel_rfl) (by kernel_rfl) rfl HSS.out ?_
          try simp only [Act.put, List.setIfInBounds_toArray, List.set_cons_zero, List.set_cons_succ]
          refine stepU HOPS 20 2097151 (by decide) rfl (by kernel_rfl) (by kernel_rfl) rfl HSS.out ?_
          try simp only [Act.put, List.setIfInBounds_toArray, List.set_cons_zero, List.set_cons_succ]
          refine stepU HOPS 21 4194303 (by decide) rfl (by kernel_rfl) (by kernel_rfl) rfl HSS.out ?_
          try simp only [Act.put, List.setIfInBounds_toArray, List.set_cons_zero, List.set_cons_succ]
          refine stepU HOPS 22 8388607 (by decide) rfl (by kernel_rfl) (by kernel_rfl) rfl HSS.out ?_
          try simp only [Act.put, List.setIfInBounds_toArray, List.set_cons_zero, List.set_cons_succ]
          refine stepU HOPS 23 16777215 (by decide) rfl (by kernel_rfl) (by kernel_rfl) rfl HSS.out ?_
          try simp only [Act.put, List.setIfInBounds_toArray, List.set_cons_zero, List.set_cons_succ]
          refine stepU HOPS 24 33554431 (by decide) rfl (by kernel_rfl) (by kernel_rfl) rfl HSS.out ?_
          try simp only [Act.put, List.setIfInBounds_toArray, List.set_cons_zero, List.set_cons_succ]
          refine stepU HOPS 25 67108863 (by decide) rfl (by kernel_rfl) (by kernel_rfl) rfl HSS.out ?_
          try simp only [Act.put, List.setIfInBounds_toArray, List.set_cons_zero, List.set_cons_succ]
          refine stepU HOPS 26 134217727 (by decide) rfl (by kernel_rfl) (by kernel_rfl) rfl HSS.out ?_
          try simp only [Act.put, List.setIfInBounds_toArray, List.set_cons_zero, List.set_cons_succ]
          refine stepU HOPS 27 268435455 (by decide) rfl (by kernel_rfl) (by kernel_rfl) rfl HSS.out ?_
          try simp only [Act.put, List.setIfInBounds_toArray, List.set_cons_zero, List.set_cons_succ]
          refine stepU HOPS 28 536870911 (by decide) rfl (by kernel_rfl) (by kernel_rfl) rfl HSS.out ?_
          try simp only [Act.put, List.setIfInBounds_toArray, List.set_cons_zero, List.set_cons_succ]
          refine stepU HOPS 29 1073741823 (by decide) rfl (by kernel_rfl) (by kernel_rfl) rfl HSS.out ?_
          try simp only [Act.put, List.setIfInBounds_toArray, List.set_cons_zero, List.set_cons_succ]
          refine stepQ HOPS 30 2147483647 ?_ (by decide) rfl (by kernel_rfl) (by kernel_rfl) rfl ?_ HSS.out ?_
          rotate_left
          · intro w9 hS9; obtain ⟨q0, q1, q2⟩ := hS9; go_simp; (first | done | with_reducible rfl)
          try simp only [Act.put, List.setIfInBounds_toArray, List.set_cons_zero, List.set_cons_succ]
          refine stepQ HOPS 31 4294967295 ?_ (by decide) rfl (by kernel_rfl) (by kernel_rfl) rfl ?_ HSS.out ?_
          rotate_left
          · intro w9 hS9; obtain ⟨q0, q1, q2⟩ := hS9; go_simp; (first | done | with_reducible rfl)
          try simp only [Act.put, List.setIfInBounds_toArray, List.set_cons_zero, List.set_cons_succ]
          refine stepQ HOPS 32 8589934591 ?_ (by decide) rfl (by kernel_rfl) (by kernel_rfl) rfl ?_ HSS.out ?_
          rotate_left
          · intro w9 hS9; obtain ⟨q0, q1, q2⟩ := hS9; go_simp; (first | done | with_reducible rfl)
          try simp only [Act.put, List.setIfInBounds_toArray, List.set_cons_zero, List.set_cons_succ]
          refine stepQ HOPS 33 17179869183 ?_ (by decide) rfl (by kernel_rfl) (by kernel_rfl) rfl ?_ HSS.out ?_
          rotate_left
          · intro w9 hS9; obtain ⟨q0, q1, q2⟩ := hS9; go_simp; (first | done | with_reducible rfl)
          try simp only [Act.put, List.setIfInBounds_toArray, List.set_cons_zero, List.set_cons_succ]
          refine stepQ HOPS 34 34359738367 ?_ (by decide) rfl (by kernel_rfl) (by kernel_rfl) rfl ?_ HSS.out ?_
          rotate_left
          · intro w9 hS9; obtain ⟨q0, q1, q2⟩ := hS9; go_simp; (first | done | with_reducible rfl)
          try simp only [Act.put, List.setIfInBounds_toArray, List.set_cons_zero, List.set_cons_succ]
          refine stepQ HOPS 35 68719476735 ?_ (by decide) rfl (by kernel_rfl) (by kernel_rfl) rfl ?_ HSS.out ?_
          rotate_left
          · intro w9 hS9; obtain ⟨q0, q1, q2⟩ := hS9; go_simp; (first | done | with_reducible rfl)
          try simp only [Act.put, List.setIfInBounds_toArray, List.set_cons_zero, List.set_cons_succ]
          refine stepQ HOPS 36 137438953471 ?_ (by decide) rfl (by kernel_rfl) (by kernel_rfl) rfl ?_ HSS.out ?_
          rotate_left
          · intro w9 hS9; obtain ⟨q0, q1, q2⟩ := hS9; go_simp; (first | done | with_reducible rfl)
          try simp only [Act.put, List.setIfInBounds_toArray, List.set_cons_zero, List.set_cons_succ]
          refine stepQ HOPS 37 274877906943 ?_ (by decide) rfl (by kernel_rfl) (by kernel_rfl) rfl ?_ HSS.out ?_
          rotate_left
          · intro w9 hS9; obtain ⟨q0, q1, q2⟩ := hS9; go_simp; (first | done | with_reducible rfl)
          try simp only [Act.put, List.setIfInBounds_toArray, List.set_cons_zero, List.set_cons_succ]
          refine stepQ HOPS 38 549755813887 ?_ (by decide) rfl (by kernel_rfl) (by kernel_rfl) rfl ?_ HSS.out ?_
          rotate_left
          · intro w9 hS9; obtain ⟨q0, q1, q2⟩ := hS9; go_simp; (first | done | with_reducible rfl)
          try simp only [Act.put, List.setIfInBounds_toArray, List.set_cons_zero, List.set_cons_succ]
          refine stepQ HOPS 39 1099511627775 ?_ (by decide) rfl (by kernel_rfl) (by kernel_rfl) rfl ?_ HSS.out ?_
          rotate_left
          · intro w9 hS9; obtain ⟨q0, q1, q2⟩ := hS9; go_simp; (first | done | with_reducible rfl)
          try simp only [Act.put, List.setIfInBounds_toArray, List.set_cons_zero, List.set_cons_succ]
          refine stepQ HOPS 40 2199023255551 ?_ (by decide) rfl (by kernel_rfl) (by kernel_rfl) rfl ?_ HSS.out ?_
          rotate_left
          · intro w9 hS9; obtain ⟨q0, q1, q2⟩ := hS9; go_simp; (first | done | with_reducible rfl)
          try simp only [Act.put, List.setIfInBounds_toArray, List.set_cons_zero, List.set_cons_succ]
          refine stepU HOPS 41 4398046511103 (by decide) rfl (by kernel_rfl) (by kernel_rfl) rfl HSS.out ?_
          try simp only [Act.put, List.setIfInBounds_toArray, List.set_cons_zero, List.set_cons_succ]
          refine stepU HOPS 42 8796093022207 (by decide) rfl (by kernel_rfl) (by kernel_rfl) rfl HSS.out ?_
          try simp only [Act.put, List.setIfInBounds_toArray, List.set_cons_zero, List.set_cons_succ]
          refine stepU HOPS 43 17592186044415 (by decide) rfl (by kernel_rfl) (by kernel_rfl) rfl HSS.out ?_
          try simp only [Act.put, List.setIfInBounds_toArray, List.set_cons_zero, List.set_cons_succ]
          refine stepU HOPS 44 35184372088831 (by decide) rfl (by kernel_rfl) (by kernel_rfl) rfl HSS.out ?_
          try simp only [Act.put, List.setIfInBounds_toArray, List.set_cons_zero, List.set_cons_succ]
          refine stepU HOPS 45 70368744177663 (by decide) rfl (by kernel_rfl) (by kernel_rfl) rfl HSS.out ?_
          try simp only [Act.put, List.setIfInBounds_toArray, List.set_cons_zero, List.set_cons_succ]
          refine stepU HOPS 46 140737488355327 (by decide) rfl (by kernel_rfl) (by kernel_rfl) rfl HSS.out ?_
          try simp only [Act.put, List.setIfInBounds_toArray, List.set_cons_zero, List.set_cons_succ]
          refine stepU HOPS 47 281474976710655 (by decide) rfl (by kernel_rfl) (by kernel_rfl) rfl HSS.out ?_
          try simp only [Act.put, List.setIfInBounds_toArray, List.set_cons_zero, List.set_cons_succ]
          refine stepU HOPS 48 562949953421311 (by decide) rfl (by kernel_rfl) (by kernel_rfl) rfl HSS.out ?_
          try simp only [Act.put, List.setIfInBounds_toArray, List.set_cons_zero, List.set_cons_succ]
          refine stepU HOPS 49 1125899906842623 (by decide) rfl (by kernel_rfl) (by kernel_rfl) rfl HSS.out ?_
          try simp only [Act.put, List.setIfInBounds_toArray, List.set_cons_zero, List.set_cons_succ]
          refine stepU HOPS 50 2251799813685247 (by decide) rfl (by kernel_rfl) (by kernel_rfl) rfl HSS.out ?_
          try simp only [Act.put, List.setIfInBounds_toArray, List.set_cons_zero, List.set_cons_succ]
          refine stepU HOPS 51 4503599627370495 (by decide) rfl (by kernel_rfl) (by kernel_rfl) rfl HSS.out ?_
          try simp only [Act.put, List.setIfInBounds_toArray, List.set_cons_zero, List.set_cons_succ]
          refine stepQ HOPS 52 9007199254740991 ?_ (by decide) rfl (by kernel_rfl) (by kernel_rfl) rfl ?_ HSS.out ?_
          rotate_left
          · intro w9 hS9; obtain ⟨q0, q1, q2⟩ := hS9; go_simp; (first | done | with_reducible rfl)
          try simp only [Act.put, List.setIfInBounds_toArray, List.set_cons_zero, List.set_cons_succ]
          refine stepQ HOPS 53 18014398509481983 ?_ (by decide) rfl (by kernel_rfl) (by kernel_rfl) rfl ?_ HSS.out ?_
          rotate_left
          · intro w9 hS9; obtain ⟨q0, q1, q2⟩ := hS9; go_simp; (first | done | with_reducible rfl)
          try simp only [Act.put, List.setIfInBounds_toArray, List.set_cons_zero, List.set_cons_succ]
          refine stepU HOPS 54 36028797018963967 (by decide) rfl (by kernel_rfl) (by kernel_rfl) rfl HSS.out ?_
          try simp only [Act.put, List.setIfInBounds_toArray, List.set_cons_zero, List.set_cons_succ]
          refine stepU HOPS 55 72057594037927935 (by decide) rfl (by kernel_rfl) (by kernel_rfl) rfl HSS.out ?_
          try simp only [Act.put, List.setIfInBounds_toArray, List.set_cons_zero, List.set_cons_succ]
          refine stepU HOPS 56 144115188075855871 (by decide) rfl (by kernel_rfl) (by kernel_rfl) rfl HSS.out ?_
          try simp only [Act.put, List.setIfInBounds_toArray, List.set_cons_zero, List.set_cons_succ]
          refine stepU HOPS 57 288230376151711743 (by decide) rfl (by kernel_rfl) (by kernel_rfl) rfl HSS.out ?_
          try simp only [Act.put, List.setIfInBounds_toArray, List.set_cons_zero, List.set_cons_succ]
          refine stepU HOPS 58 576460752303423487 (by decide) rfl (by kernel_rfl) (by kernel_rfl) rfl HSS.out ?_
          try simp only [Act.put, List.setIfInBounds_toArray, List.set_cons_zero, List.set_cons_succ]
          refine stepU HOPS 59 1152921504606846975 (by decide) rfl (by kernel_rfl) (by kernel_rfl) rfl HSS.out ?_
          try simp only [Act.put, List.setIfInBounds_toArray, List.set_cons_zero, List.set_cons_succ]
          refine stepQ HOPS 60 2305843009213693951 ?_ (by decide) rfl (by kernel_rfl) (by kernel_rfl) rfl ?_ HSS.out ?_
          rotate_left
          · intro w9 hS9; obtain ⟨q0, q1, q2⟩ := hS9; go_simp; (first | done | with_reducible rfl)
          try simp only [Act.put, List.setIfInBounds_toArray, List.set_cons_zero, List.set_cons_succ]
          refine stepE HOPS (by kernel_rfl) (HQ.out _ _ ?_)
          clear HQ HOPS
          clear Q ops
          go_wp2
          go_ret
          exact ⟨by rw [HF.out]; rfl, bel_drew HB.out⟩
        have c5' := of_decide_eq_false c5
        rcases c6 : decide (x.hi < x.lo) with _ | _
        rotate_left
        · have c6' := of_decide_eq_true c6
          have HF := Lib.hid (show right l = false by rw [HD.out, HS.out, decide_eq_false (by omega)]; rfl)
          go_wp2
          refine region_let (fun W9 : World => W9.cell? ⟨b, o, none⟩ = some (.int .i64 x.kind) ∧ W9.cell? ⟨b, o + 1, none⟩ = some (.int .i64 x.lo) ∧ W9.cell? ⟨b, o + 2, none⟩ = some (.int .i64 x.hi)) 99 61 hmx rfl fun ops Q HOPS HQ => ?_
          refine stepQ HOPS 0 1 ?_ (by decide) rfl (by kernel_rfl) (by kernel_rfl) rfl ?_ HSS.out ?_
          rotate_left
          · intro w9 hS9; obtain ⟨q0, q1, q2⟩ := hS9; go_simp; (first | done | with_reducible rfl)
          try simp only [Act.put, List.setIfInBounds_toArray, List.set_cons_zero, List.set_cons_succ]
          refine stepQ HOPS 1 3 ?_ (by decide) rfl (by kernel_rfl) (by kernel_rfl) rfl ?_ HSS.out ?_
          rotate_left
          · intro w9 hS9; obtain ⟨q0, q1, q2⟩ := hS9; go_simp; (first | done | with_reducible rfl)
          try simp only [Act.put, List.setIfInBounds_toArray, List.set_cons_zero, List.set_cons_succ]
          refine stepQ HOPS 2 7 ?_ (by decide) rfl (by kernel_rfl) (by kernel_rfl) rfl ?_ HSS.out ?_
          rotate_left
          · intro w9 hS9; obtain ⟨q0, q1, q2⟩ := hS9; go_simp; (first | done | with_reducible rfl)
          try simp only [Act.put, List.setIfInBounds_toArray, List.set_cons_zero, List.set_cons_succ]
          refine stepQ HOPS 3 15 ?_ (by decide) rfl (by kernel_rfl) (by kernel_rfl) rfl ?_ HSS.out ?_
          rotate_left
          · intro w9 hS9; obtain ⟨q0, q1, q2⟩ := hS9; go_simp; (first | done | with_reducible rfl)
          try simp only [Act.put, List.setIfInBounds_toArray, List.set_cons_zero, List.set_cons_succ]
          refine stepQ HOPS 4 31 ?_ (by decide) rfl (by kernel_rfl) (by kernel_rfl) rfl ?_ HSS.out ?_
          rotate_left
          · intro w9 hS9; obtain ⟨q0, q1, q2⟩ := hS9; go_simp; (first | done | with_reducible rfl)
          try simp only [Act.put, List.setIfInBounds_toArray, List.set_cons_zero, List.set_cons_succ]
          refine stepQ HOPS 5 63 ?_ (by decide) rfl (by kernel_rfl) (by kernel_rfl) rfl ?_ HSS.out ?_
          rotate_left
          · intro w9 hS9; obtain ⟨q0, q1, q2⟩ := hS9; go_simp; (first | done | with_reducible rfl)
          try simp only [Act.put, List.setIfInBounds_toArray, List.set_cons_zero, List.set_cons_succ]
          refine stepQ HOPS 6 127 ?_ (by decide) rfl (by kernel_rfl) (by kernel_rfl) rfl ?_ HSS.out ?_
          rotate_left
          · intro w9 hS9; obtain ⟨q0, q1, q2⟩ := hS9; go_simp; (first | done | with_reducible rfl)
          try simp only [Act.put, List.setIfInBounds_toArray, List.set_cons_zero, List.set_cons_succ]
          refine stepQ HOPS 7 255 ?_ (by decide) rfl (by kernel_rfl) (by kernel_rfl) rfl ?_ HSS.out ?_
          rotate_left
          · intro w9 hS9; obtain ⟨q0, q1, q2⟩ := hS9; go_simp; (first | done | with_reducible rfl)
          try simp only [Act.put, List.setIfInBounds_toArray, List.set_cons_zero, List.set_cons_succ]
          refine stepQ HOPS 8 511 ?_ (by decide) rfl (by kernel_rfl) (by kernel_rfl) rfl ?_ HSS.out ?_
          rotate_left
          · intro w9 hS9; obtain ⟨q0, q1, q2⟩ := hS9; go_simp; (first | done | with_reducible rfl)
          try simp only [Act.put, List.setIfInBounds_toArray, List.set_cons_zero, List.set_cons_succ]
          refine stepQ HOPS 9 1023 ?_ (by decide) rfl (by kernel_rfl) (by kernel_rfl) rfl ?_ HSS.out ?_
          rotate_left
          · intro w9 hS9; obtain ⟨q0, q1, q2⟩ := hS9; go_simp; (first | done | with_reducible rfl)
          try simp only [Act.put, List.setIfInBounds_toArray, List.set_cons_zero, List.set_cons_succ]
          refine stepQ HOPS 10 2047 ?_ (by decide) rfl (by kernel_rfl) (by kernel_rfl) rfl ?_ HSS.out ?_
          rotate_left
          · intro w9 hS9; obtain ⟨q0, q1, q2⟩ := hS9; go_simp; (first | done | with_reducible rfl)
          try simp only [Act.put, List.setIfInBounds_toArray, List.set_cons_zero, List.set_cons_succ]
          refine stepQ HOPS 11 4095 ?_ (by decide) rfl (by kernel_rfl) (by kernel_rfl) rfl ?_ HSS.out ?_
          rotate_left
          · intro w9 hS9; obtain ⟨q0, q1, q2⟩ := hS9; go_simp; (first | done | with_reducible rfl)
          try simp only [Act.put, List.setIfInBounds_toArray, List.set_cons_zero, List.set_cons_succ]
          refine stepQ HOPS 12 8191 ?_ (by decide) rfl (by kernel_rfl) (by kernel_rfl) rfl ?_ HSS.out ?_
          rotate_left
          · intro w9 hS9; obtain ⟨q0, q1, q2⟩ := hS9; go_simp; (first | done | with_reducible rfl)
          try simp only [Act.put, List.setIfInBounds_toArray, List.set_cons_zero, List.set_cons_succ]
          refine stepQ HOPS 13 16383 ?_ (by decide) rfl (by kernel_rfl) (by kernel_rfl) rfl ?_ HSS.out ?_
          rotate_left
          · intro w9 hS9; obtain ⟨q0, q1, q2⟩ := hS9; go_simp; (first | done | with_reducible rfl)
          try simp only [Act.put, List.setIfInBounds_toArray, List.set_cons_zero, List.set_cons_succ]
          refine stepQ HOPS 14 32767 ?_ (by decide) rfl (by kernel_rfl) (by kernel_rfl) rfl ?_ HSS.out ?_
          rotate_left
          · intro w9 hS9; obtain ⟨q0, q1, q2⟩ := hS9; go_simp; (first | done | with_reducible rfl)
          try simp only [Act.put, List.setIfInBounds_toArray, List.set_cons_zero, List.set_cons_succ]
          refine stepQ HOPS 15 65535 ?_ (by decide) rfl (by kernel_rfl) (by kernel_rfl) rfl ?_ HSS.out ?_
          rotate_left
          · intro w9 hS9; obtain ⟨q0, q1, q2⟩ := hS9; go_simp; (first | done | with_reducible rfl)
          try simp only [Act.put, List.setIfInBounds_toArray, List.set_cons_zero, List.set_cons_succ]
          refine stepQ HOPS 16 131071 ?_ (by decide) rfl (by kernel_rfl) (by kernel_rfl) rfl ?_ HSS.out ?_
          rotate_left
          · intro w9 hS9; obtain ⟨q0, q1, q2⟩ := hS9; go_simp; (first | done | with_reducible rfl)
          try simp only [Act.put, List.setIfInBounds_toArray, List.set_cons_zero, List.set_cons_succ]
          refine stepQ HOPS 17 262143 ?_ (by decide) rfl (by kernel_rfl) (by kernel_rfl) rfl ?_ HSS.out ?_
          rotate_left
          · intro w9 hS9; obtain ⟨q0, q1, q2⟩ := hS9; go_simp; (first | done | with_reducible rfl)
          try simp only [Act.put, List.setIfInBounds_toArray, List.set_cons_zero, List.set_cons_succ]
          refine stepU HOPS 18 524287 (by decide) rfl (by kernel_rfl) (by kernel_rfl) rfl HSS.out ?_
          try simp only [Act.put, List.setIfInBounds_toArray, List.set_cons_zero, List.set_cons_succ]
          refine stepU HOPS 19 1048575 (by decide) rfl (by kernel_rfl) (by kernel_rfl) rfl HSS.out ?_
          try simp only [Act.put, List.setIfInBounds_toArray, List.set_cons_zero, List.set_cons_succ]
          refine stepU HOPS 20 2097151 (by decide) rfl (by kernel_rfl) (by kernel_rfl) rfl HSS.out ?_
          try simp only [Act.put, List.setIfInBounds_toArray, List.set_cons_zero, List.set_cons_succ]
          refine stepU HOPS 21 4194303 (by decide) rfl (by kernel_rfl) (by kernel_rfl) rfl HSS.out ?_
          try simp only [Act.put, List.setIfInBounds_toArray, List.set_cons_zero, List.set_cons_succ]
          refine stepU HOPS 22 8388607 (by decide) rfl (by kernel_rfl) (by kernel_rfl) rfl HSS.out ?_
          try simp only [Act.put, List.setIfInBounds_toArray, List.set_cons_zero, List.set_cons_succ]
          refine stepU HOPS 23 16777215 (by decide) rfl (by kernel_rfl) (by kernel_rfl) rfl HSS.out ?_
          try simp only [Act.put, List.setIfInBounds_toArray, List.set_cons_zero, List.set_cons_succ]
          refine stepU HOPS 24 33554431 (by decide) rfl (by kernel_rfl) (by kernel_rfl) rfl HSS.out ?_
          try simp only [Act.put, List.setIfInBounds_toArray, List.set_cons_zero, List.set_cons_succ]
          refine stepU HOPS 25 67108863 (by decide) rfl (by kernel_rfl) (by kernel_rfl) rfl HSS.out ?_
          try simp only [Act.put, List.setIfInBounds_toArray, List.set_cons_zero, List.set_cons_succ]
          refine stepU HOPS 26 134217727 (by decide) rfl (by kernel_rfl) (by kernel_rfl) rfl HSS.out ?_
          try simp only [Act.put, List.setIfInBounds_toArray, List.set_cons_zero, List.set_cons_succ]
          refine stepU HOPS 27 268435455 (by decide) rfl (by kernel_rfl) (by kernel_rfl) rfl HSS.out ?_
          try simp only [Act.put, List.setIfInBounds_toArray, List.set_cons_zero, List.set_cons_succ]
          refine stepU HOPS 28 536870911 (by decide) rfl (by kernel_rfl) (by kernel_rfl) rfl HSS.out ?_
          try simp only [Act.put, List.setIfInBounds_toArray, List.set_cons_zero, List.set_cons_succ]
          refine stepU HOPS 29 1073741823 (by decide) rfl (by kernel_rfl) (by kernel_rfl) rfl HSS.out ?_
          try simp only [Act.put, List.setIfInBounds_toArray, List.set_cons_zero, List.set_cons_succ]
          refine stepQ HOPS 30 2147483647 ?_ (by decide) rfl (by kernel_rfl) (by kernel_rfl) rfl ?_ HSS.out ?_
          rotate_left
          · intro w9 hS9; obtain ⟨q0, q1, q2⟩ := hS9; go_simp; (first | done | with_reducible rfl)
          try simp only [Act.put, List.setIfInBounds_toArray, List.set_cons_zero, List.set_cons_succ]
          refine stepQ HOPS 31 4294967295 ?_ (by decide) rfl (by kernel_rfl) (by kernel_rfl) rfl ?_ HSS.out ?_
          rotate_left
          · intro w9 hS9; obtain ⟨q0, q1, q2⟩ := hS9; go_simp; (first | done | with_reducible rfl)
          try simp only [Act.put, List.setIfInBounds_toArray, List.set_cons_zero, List.set_cons_succ]
          refine stepQ HOPS 32 8589934591 ?_ (by decide) rfl (by kernel_rfl) (by kernel_rfl) rfl ?_ HSS.out ?_
          rotate_left
          · intro w9 hS9; obtain ⟨q0, q1, q2⟩ := hS9; go_simp; (first | done | with_reducible rfl)
          try simp only [Act.put, List.setIfInBounds_toArray, List.set_cons_zero, List.set_cons_succ]
          refine stepQ HOPS 33 17179869183 ?_ (by decide) rfl (by kernel_rfl) (by kernel_rfl) rfl ?_ HSS.out ?_
          rotate_left
          · intro w9 hS9; obtain ⟨q0, q1, q2⟩ := hS9; go_simp; (first | done | with_reducible rfl)
          try simp only [Act.put, List.setIfInBounds_toArray, List.set_cons_zero, List.set_cons_succ]
          refine stepQ HOPS 34 34359738367 ?_ (by decide) rfl (by kernel_rfl) (by kernel_rfl) rfl ?_ HSS.out ?_
          rotate_left
          · intro w9 hS9; obtain ⟨q0, q1, q2⟩ := hS9; go_simp; (first | done | with_reducible rfl)
          try simp only [Act.put, List.setIfInBounds_toArray, List.set_cons_zero, List.set_cons_succ]
          refine stepQ HOPS 35 68719476735 ?_ (by decide) rfl (by kernel_rfl) (by kernel_rfl) rfl ?_ HSS.out ?_
          rotate_left
          · intro w9 hS9; obtain ⟨q0, q1, q2⟩ := hS9; go_simp; (first | done | with_reducible rfl)
          try simp only [Act.put, List.setIfInBounds_toArray, List.set_cons_zero, List.set_cons_succ]
          refine stepQ HOPS 36 137438953471 ?_ (by decide) rfl (by kernel_rfl) (by kernel_rfl) rfl ?_ HSS.out ?_
          rotate_left
          · intro w9 hS9; obtain ⟨q0, q1, q2⟩ := hS9; go_simp; (first | done | with_reducible rfl)
          try simp only [Act.put, List.setIfInBounds_toArray, List.set_cons_zero, List.set_cons_succ]
          refine stepQ HOPS 37 274877906943 ?_ (by decide) rfl (by kernel_rfl) (by kernel_rfl) rfl ?_ HSS.out ?_
          rotate_left
          · intro w9 hS9; obtain ⟨q0, q1, q2⟩ := hS9; go_simp; (first | done | with_reducible rfl)
          try simp only [Act.put, List.setIfInBounds_toArray, List.set_cons_zero, List.set_cons_succ]
          refine stepQ HOPS 38 549755813887 ?_ (by decide) rfl (by kernel_rfl) (by kernel_rfl) rfl ?_ HSS.out ?_
          rotate_left
          · intro w9 hS9; obtain ⟨q0, q1, q2⟩ := hS9; go_simp; (first | done | with_reducible rfl)
          try simp only [Act.put, List.setIfInBounds_toArray, List.set_cons_zero, List.set_cons_succ]
          refine stepQ HOPS 39 1099511627775 ?_ (by decide) rfl (by kernel_rfl) (by kernel_rfl) rfl ?_ HSS.out ?_
          rotate_left
          · intro w9 hS9; obtain ⟨q0, q1, q2⟩ := hS9; go_simp; (first | done | with_reducible rfl)
          try simp only [Act.put, List.setIfInBounds_toArray, List.set_cons_zero, List.set_cons_succ]
          refine stepQ HOPS 40 2199023255551 ?_ (by decide) rfl (by kernel_rfl) (by kernel_rfl) rfl ?_ HSS.out ?_
          rotate_left
          · intro w9 hS9; obtain ⟨q0, q1, q2⟩ := hS9; go_simp; (first | done | with_reducible rfl)
          try simp only [Act.put, List.setIfInBounds_toArray, List.set_cons_zero, List.set_cons_succ]
          refine stepQ HOPS 41 4398046511103 ?_ (by decide) rfl (by kernel_rfl) (by kernel_rfl) rfl ?_ HSS.out ?_
          rotate_left
          · intro w9 hS9; obtain ⟨q0, q1, q2⟩ := hS9; go_simp; (first | done | with_reducible rfl)
          try simp only [Act.put, List.setIfInBounds_toArray, List.set_cons_zero, List.set_cons_succ]
          refine stepQ HOPS 42 8796093022207 ?_ (by decide) rfl (by kernel_rfl) (by kernel_rfl) rfl ?_ HSS.out ?_
          rotate_left
          · intro w9 hS9; obtain ⟨q0, q1, q2⟩ := hS9; go_simp; (first | done | with_reducible rfl)
          try simp only [Act.put, List.setIfInBounds_toArray, List.set_cons_zero, List.set_cons_succ]
          refine stepQ HOPS 43 17592186044415 ?_ (by decide) rfl (by kernel_rfl) (by kernel_rfl) rfl ?_ HSS.out ?_
          rotate_left
          · intro w9 hS9; obtain ⟨q0, q1, q2⟩ := hS9; go_simp; (first | done | with_reducible rfl)
          try simp only [Act.put, List.setIfInBounds_toArray, List.set_cons_zero, List.set_cons_succ]
          refine stepQ HOPS 44 35184372088831 ?_ (by decide) rfl (by kernel_rfl) (by kernel_rfl) rfl ?_ HSS.out ?_
          rotate_left
          · intro w9 hS9; obtain ⟨q0, q1, q2⟩ := hS9; go_simp; (first | done | with_reducible rfl)
          try simp only [Act.put, List.setIfInBounds_toArray, List.set_cons_zero, List.set_cons_succ]
          refine stepQ HOPS 45 70368744177663 ?_ (by decide) rfl (by kernel_rfl) (by kernel_rfl) rfl ?_ HSS.out ?_
          rotate_left
          · intro w9 hS9; obtain ⟨q0, q1, q2⟩ := hS9; go_simp; (first | done | with_reducible rfl)
          try simp only [Act.put, List.setIfInBounds_toArray, List.set_cons_zero, List.set_cons_succ]
          refine stepQ HOPS 46 140737488355327 ?_ (by decide) rfl (by kernel_rfl) (by kernel_rfl) rfl ?_ HSS.out ?_
          rotate_left
          · intro w9 hS9; obtain ⟨q0, q1, q2⟩ := hS9; go_simp; (first | done | with_reducible rfl)
          try simp only [Act.put, List.setIfInBounds_toArray, List.set_cons_zero, List.set_cons_succ]
          refine stepQ HOPS 47 281474976710655 ?_ (by decide) rfl (by kernel_rfl) (by kernel_rfl) rfl ?_ HSS.out ?_
          rotate_left
          · intro w9 hS9; obtain ⟨q0, q1, q2⟩ := hS9; go_simp; (first | done | with_reducible rfl)
          try simp only [Act.put, List.setIfInBounds_toArray, List.set_cons_zero, List.set_cons_succ]
          refine stepQ HOPS 48 562949953421311 ?_ (by decide) rfl (by kernel_rfl) (by kernel_rfl) rfl ?_ HSS.out ?_
          rotate_left
          · intro w9 hS9; obtain ⟨q0, q1, q2⟩ := hS9; go_simp; (first | done | with_reducible rfl)
          try simp only [Act.put, List.setIfInBounds_toArray, List.set_cons_zero, List.set_cons_succ]
          refine stepQ HOPS 49 1125899906842623 ?_ (by decide) rfl (by kernel_rfl) (by kernel_rfl) rfl ?_ HSS.out ?_
          rotate_left
          · intro w9 hS9; obtain ⟨q0, q1, q2⟩ := hS9; go_simp; (first | done | with_reducible rfl)
          try simp only [Act.put, List.setIfInBounds_toArray, List.set_cons_zero, List.set_cons_succ]
          refine stepQ HOPS 50 2251799813685247 ?_ (by decide) rfl (by kernel_rfl) (by kernel_rfl) rfl ?_ HSS.out ?_
          rotate_left
          · intro w9 hS9; obtain ⟨q0, q1, q2⟩ := hS9; go_simp; (first | done | with_reducible rfl)
          try simp only [Act.put, List.setIfInBounds_toArray, List.set_cons_zero, List.set_cons_succ]
          refine stepQ HOPS 51 4503599627370495 ?_ (by decide) rfl (by kernel_rfl) (by kernel_rfl) rfl ?_ HSS.out ?_
          rotate_left
          · intro w9 hS9; obtain ⟨q0, q1, q2⟩ := hS9; go_simp; (first | done | with_reducible rfl)
          try simp only [Act.put, List.setIfInBounds_toArray, List.set_cons_zero, List.set_cons_succ]
          refine stepQ HOPS 52 9007199254740991 ?_ (by decide) rfl (by kernel_rfl) (by kernel_rfl) rfl ?_ HSS.out ?_
          rotate_left
          · intro w9 hS9; obtain ⟨q0, q1, q2⟩ := hS9; go_simp; (first | done | with_reducible rfl)
          try simp only [Act.put, List.setIfInBounds_toArray, List.set_cons_zero, List.set_cons_succ]
          refine stepQ HOPS 53 18014398509481983 ?_ (by decide) rfl (by kernel_rfl) (by kernel_rfl) rfl ?_ HSS.out ?_
          rotate_left
          · intro w9 hS9; obtain ⟨q0, q1, q2⟩ := hS9; go_simp; (first | done | with_reducible rfl)
          try simp only [Act.put, List.setIfInBounds_toArray, List.set_cons_zero, List.set_cons_succ]
          refine stepU HOPS 54 36028797018963967 (by decide) rfl (by kernel_rfl) (by kernel_rfl) rfl HSS.out ?_
          try simp only [Act.put, List.setIfInBounds_toArray, List.set_cons_zero, List.set_cons_succ]
          refine stepU HOPS 55 72057594037927935 (by decide) rfl (by kernel_rfl) (by kernel_rfl) rfl HSS.out ?_
          try simp only [Act.put, List.setIfInBounds_toArray, List.set_cons_zero, List.set_cons_succ]
          refine stepU HOPS 56 144115188075855871 (by decide) rfl (by kernel_rfl) (by kernel_rfl) rfl HSS.out ?_
          try simp only [Act.put, List.setIfInBounds_toArray, List.set_cons_zero, List.set_cons_succ]
          refine stepU HOPS 57 288230376151711743 (by decide) rfl (by kernel_rfl) (by kernel_rfl) rfl HSS.out ?_
          try simp only [Act.put, List.setIfInBounds_toArray, List.set_cons_zero, List.set_cons_succ]
          refine stepU HOPS 58 576460752303423487 (by decide) rfl (by kernel_rfl) (by kernel_rfl) rfl HSS.out ?_
          try simp only [Act.put, List.setIfInBounds_toArray, List.set_cons_zero, List.set_cons_succ]
          refine stepU HOPS 59 1152921504606846975 (by decide) rfl (by kernel_rfl) (by kernel_rfl) rfl HSS.out ?_
          try simp only [Act.put, List.setIfInBounds_toArray, List.set_cons_zero, List.set_cons_succ]
          refine stepQ HOPS 60 2305843009213693951 ?_ (by decide) rfl (by kernel_rfl) (by kernel_rfl) rfl ?_ HSS.out ?_
          rotate_left
          · intro w9 hS9; obtain ⟨q0, q1, q2⟩ := hS9; go_simp; (first | done | with_reducible rfl)
          try simp only [Act.put, List.setIfInBounds_toArray, List.set_cons_zero, List.set_cons_succ]
          refine stepE HOPS (by kernel_rfl) (HQ.out _ _ ?_)
          clear HQ HOPS
          clear Q ops
          go_wp2
          go_ret
          exact ⟨by rw [HF.out]; rfl, bel_drew HB.out⟩
        have c6' := of_decide_eq_false c6
        rcases c7 : decide (255 < x.hi) with _ | _
        rotate_left
        · have c7' := of_decide_eq_true c7
          have HF := Lib.hid (show right l = false by rw [HD.out, HS.out, decide_eq_false (by omega)]; rfl)
          go_wp2
          refine region_let (fun W9 : World => W9.cell? ⟨b, o, none⟩ = some (.int .i64 x.kind) ∧ W9.cell? ⟨b, o + 1, none⟩ = some (.int .i64 x.lo) ∧ W9.cell? ⟨b, o + 2, none⟩ = some (.int .i64 x.hi)) 99 61 hmx rfl fun ops Q HOPS HQ => ?_
          refine stepQ HOPS 0 1 ?_ (by decide) rfl (by kernel_rfl) (by kernel_rfl) rfl ?_ HSS.out ?_
          rotate_left
          · intro w9 hS9; obtain ⟨q0, q1, q2⟩ := hS9; go_simp; (first | done | with_reducible rfl)
          try simp only [Act.put, List.setIfInBounds_toArray, List.set_cons_zero, List.set_cons_succ]
          refine stepQ HOPS 1 3 ?_ (by decide) rfl (by kernel_rfl) (by kernel_rfl) rfl ?_ HSS.out ?_
          rotate_left
          · intro w9 hS9; obtain ⟨q0, q1, q2⟩ := hS9; go_simp; (first | done | with_reducible rfl)
          try simp only [Act.put, List.setIfInBounds_toArray, List.set_cons_zero, List.set_cons_succ]
          refine stepQ HOPS 2 7 ?_ (by decide) rfl (by kernel_rfl) (by kernel_rfl) rfl ?_ HSS.out ?_
          rotate_left
          · intro w9 hS9; obtain ⟨q0, q1, q2⟩ := hS9; go_simp; (first | done | with_reducible rfl)
          try simp only [Act.put, List.setIfInBounds_toArray, List.set_cons_zero, List.set_cons_succ]
          refine stepQ HOPS 3 15 ?_ (by decide) rfl (by kernel_rfl) (by kernel_rfl) rfl ?_ HSS.out ?_
          rotate_left
          · intro w9 hS9; obtain ⟨q0, q1, q2⟩ := hS9; go_simp; (first | done | with_reducible rfl)
          try simp only [Act.put, List.setIfInBounds_toArray, List.set_cons_zero, List.set_cons_succ]
          refine stepQ HOPS 4 31 ?_ (by decide) rfl (by kernel_rfl) (by kernel_rfl) rfl ?_ HSS.out ?_
          rotate_left
          · intro w9 hS9; obtain ⟨q0, q1, q2⟩ := hS9; go_simp; (first | done | with_reducible rfl)
          try simp only [Act.put, List.setIfInBounds_toArray, List.set_cons_zero, List.set_cons_succ]
          refine stepQ HOPS 5 63 ?_ (by decide) rfl (by kernel_rfl) (by kernel_rfl) rfl ?_ HSS.out ?_
          rotate_left
          · intro w9 hS9; obtain ⟨q0, q1, q2⟩ := hS9; go_simp; (first | done | with_reducible rfl)
          try simp only [Act.put, List.setIfInBounds_toArray, List.set_cons_zero, List.set_cons_succ]
          refine stepQ HOPS 6 127 ?_ (by decide) rfl (by kernel_rfl) (by kernel_rfl) rfl ?_ HSS.out ?_
          rotate_left
          · intro w9 hS9; obtain ⟨q0, q1, q2⟩ := hS9; go_simp; (first | done | with_reducible rfl)
          try simp only [Act.put, List.setIfInBounds_toArray, List.set_cons_zero, List.set_cons_succ]
          refine stepQ HOPS 7 255 ?_ (by decide) rfl (by kernel_rfl) (by kernel_rfl) rfl ?_ HSS.out ?_
          rotate_left
          · intro w9 hS9; obtain ⟨q0, q1, q2⟩ := hS9; go_simp; (first | done | with_reducible rfl)
          try simp only [Act.put, List.setIfInBounds_toArray, List.set_cons_zero, List.set_cons_succ]
          refine stepQ HOPS 8 511 ?_ (by decide) rfl (by kernel_rfl) (by kernel_rfl) rfl ?_ HSS.out ?_
          rotate_left
          · intro w9 hS9; obtain ⟨q0, q1, q2⟩ := hS9; go_simp; (first | done | with_reducible rfl)
          try simp only [Act.put, List.setIfInBounds_toArray, List.set_cons_zero, List.set_cons_succ]
          refine stepQ HOPS 9 1023 ?_ (by decide) rfl (by kernel_rfl) (by kernel_rfl) rfl ?_ HSS.out ?_
          rotate_left
          · intro w9 hS9; obtain ⟨q0, q1, q2⟩ := hS9; go_simp; (first | done | with_reducible rfl)
          try simp only [Act.put, List.setIfInBounds_toArray, List.set_cons_zero, List.set_cons_succ]
          refine stepQ HOPS 10 2047 ?_ (by decide) rfl (by kernel_rfl) (by kernel_rfl) rfl ?_ HSS.out ?_
          rotate_left
          · intro w9 hS9; obtain ⟨q0, q1, q2⟩ := hS9; go_simp; (first | done | with_reducible rfl)
          try simp only [Act.put, List.setIfInBounds_toArray, List.set_cons_zero, List.set_cons_succ]
          refine stepQ HOPS 11 4095 ?_ (by decide) rfl (by kernel_rfl) (by kernel_rfl) rfl ?_ HSS.out ?_
          rotate_left
          · intro w9 hS9; obtain ⟨q0, q1, q2⟩ := hS9; go_simp; (first | done | with_reducible rfl)
          try simp only [Act.put, List.setIfInBounds_toArray, List.set_cons_zero, List.set_cons_succ]
          refine stepQ HOPS 12 8191 ?_ (by decide) rfl (by kernel_rfl) (by kernel_rfl) rfl ?_ HSS.out ?_
          rotate_left
          · intro w9 hS9; obtain ⟨q0, q1, q2⟩ := hS9; go_simp; (first | done | with_reducible rfl)
          try simp only [Act.put, List.setIfInBounds_toArray, List.set_cons_zero, List.set_cons_succ]
          refine stepQ HOPS 13 16383 ?_ (by decide) rfl (by kernel_rfl) (by kernel_rfl) rfl ?_ HSS.out ?_
          rotate_left
          · intro w9 hS9; obtain ⟨q0, q1, q2⟩ := hS9; go_simp; (first | done | with_reducible rfl)
          try simp only [Act.put, List.setIfInBounds_toArray, List.set_cons_zero, List.set_cons_succ]
          refine stepQ HOPS 14 32767 ?_ (by decide) rfl (by kernel_rfl) (by kernel_rfl) rfl ?_ HSS.out ?_
          rotate_left
          · intro w9 hS9; obtain ⟨q0, q1, q2⟩ := hS9; go_simp; (first | done | with_reducible rfl)
          try simp only [Act.put, List.setIfInBounds_toArray, List.set_cons_zero, List.set_cons_succ]
          refine stepQ HOPS 15 65535 ?_ (by decide) rfl (by kernel_rfl) (by kernel_rfl) rfl ?_ HSS.out ?_
          rotate_left
          · intro w9 hS9; obtain ⟨q0, q1, q2⟩ := hS9; go_simp; (first | done | with_reducible rfl)
          try simp only [Act.put, List.setIfInBounds_toArray, List.set_cons_zero, List.set_cons_succ]
          refine stepQ HOPS 16 131071 ?_ (by decide) rfl (by kernel_rfl) (by kernel_rfl) rfl ?_ HSS.out ?_
          rotate_left
          · intro w9 hS9; obtain ⟨q0, q1, q2⟩ := hS9; go_simp; (first | done | with_reducible rfl)
          try simp only [Act.put, List.setIfInBounds_toArray, List.set_cons_zero, List.set_cons_succ]
          refine stepQ HOPS 17 262143 ?_ (by decide) rfl (by kernel_rfl) (by kernel_rfl) rfl ?_ HSS.out ?_
          rotate_left
          · intro w9 hS9; obtain ⟨q0, q1, q2⟩ := hS9; go_simp; (first | done | with_reducible rfl)
          try simp only [Act.put, List.setIfInBounds_toArray, List.set_cons_zero, List.set_cons_succ]
          refine stepU HOPS 18 524287 (by decide) rfl (by kernel_rfl) (by kernel_rfl) rfl HSS.out ?_
          try simp only [Act.put, List.setIfInBounds_toArray, List.set_cons_zero, List.set_cons_succ]
          refine stepU HOPS 19 1048575 (by decide) rfl (by kernel_rfl) (by kernel_rfl) rfl HSS.out ?_
          try simp only [Act.put, List.setIfInBounds_toArray, List.set_cons_zero, List.set_cons_succ]
          refine stepU HOPS 20 2097151 (by decide) rfl (by kernel_rfl) (by kernel_rfl) rfl HSS.out ?_
          try simp only [Act.put, List.setIfInBounds_toArray, List.set_cons_zero, List.set_cons_succ]
          refine stepU HOPS 21 4194303 (by decide) rfl (by kernel_rfl) (by kernel_rfl) rfl HSS.out ?_
          try simp only [Act.put, List.setIfInBounds_toArray, List.set_cons_zero, List.set_cons_succ]
          refine stepU HOPS 22 8388607 (by decide) rfl (by kernel_rfl) (by kernel_rfl) rfl HSS.out ?_
          try simp only [Act.put, List.setIfInBounds_toArray, List.set_cons_zero, List.set_cons_succ]
          refine stepU HOPS 23 16777215 (by decide) rfl (by kernel_rfl) (by kernel_rfl) rfl HSS.out ?_
          try simp only [Act.put, List.setIfInBounds_toArray, List.set_cons_zero, List.set_cons_succ]
          refine stepU HOPS 24 33554431 (by decide) rfl (by kernel_rfl) (by kernel_rfl) rfl HSS.out ?_
          try simp only [Act.put, List.setIfInBounds_toArray, List.set_cons_zero, List.set_cons_succ]
          refine stepU HOPS 25 67108863 (by decide) rfl (by kernel_rfl) (by kernel_rfl) rfl HSS.out ?_
          try simp only [Act.put, List.setIfInBounds_toArray, List.set_cons_zero, List.set_cons_succ]
          refine stepU HOPS 26 134217727 (by decide) rfl (by kernel_rfl) (by kernel_rfl) rfl HSS.out ?_
          try simp only [Act.put, List.setIfInBounds_toArray, List.set_cons_zero, List.set_cons_succ]
          refine stepU HOPS 27 268435455 (by decide) rfl (by kernel_rfl) (by kernel_rfl) rfl HSS.out ?_
          try simp only [Act.put, List.setIfInBounds_toArray, List.set_cons_zero, List.set_cons_succ]
          refine stepU HOPS 28 536870911 (by decide) rfl (by kernel_rfl) (by kernel_rfl) rfl HSS.out ?_
          try simp only [Act.put, List.setIfInBounds_toArray, List.set_cons_zero, List.set_cons_succ]
          refine stepU HOPS 29 1073741823 (by decide) rfl (by kernel_rfl) (by kernel_rfl) rfl HSS.out ?_
          try simp only [Act.put, List.setIfInBounds_toArray, List.set_cons_zero, List.set_cons_succ]
          refine stepQ HOPS 30 2147483647 ?_ (by decide) rfl (by kernel_rfl) (by kernel_rfl) rfl ?_ HSS.out ?_
          rotate_left
          · intro w9 hS9; obtain ⟨q0, q1, q2⟩ := hS9; go_simp; (first | done | with_reducible rfl)
          try simp only [Act.put, List.setIfInBounds_toArray, List.set_cons_zero, List.set_cons_succ]
          refine stepQ HOPS 31 4294967295 ?_ (by decide) rfl (by kernel_rfl) (by kernel_rfl) rfl ?_ HSS.out ?_
          rotate_left
          · intro w9 hS9; obtain ⟨q0, q1, q2⟩ := hS9; go_simp; (first | done | with_reducible rfl)
          try simp only [Act.put, List.setIfInBounds_toArray, List.set_cons_zero, List.set_cons_succ]
          refine stepQ HOPS 32 8589934591 ?_ (by decide) rfl (by kernel_rfl) (by kernel_rfl) rfl ?_ HSS.out ?_
          rotate_left
          · intro w9 hS9; obtain ⟨q0, q1, q2⟩ := hS9; go_simp; (first | done | with_reducible rfl)
          try simp only [Act.put, List.setIfInBounds_toArray, List.set_cons_zero, List.set_cons_succ]
          refine stepQ HOPS 33 17179869183 ?_ (by decide) rfl (by kernel_rfl) (by kernel_rfl) rfl ?_ HSS.out ?_
          rotate_left
          · intro w9 hS9; obtain ⟨q0, q1, q2⟩ := hS9; go_simp; (first | done | with_reducible rfl)
          try simp only [Act.put, List.setIfInBounds_toArray, List.set_cons_zero, List.set_cons_succ]
          refine stepQ HOPS 34 34359738367 ?_ (by decide) rfl (by kernel_rfl) (by kernel_rfl) rfl ?_ HSS.out ?_
          rotate_left
          · intro w9 hS9; obtain ⟨q0, q1, q2⟩ := hS9; go_simp; (first | done | with_reducible rfl)
          try simp only [Act.put, List.setIfInBounds_toArray, List.set_cons_zero, List.set_cons_succ]
          refine stepQ HOPS 35 68719476735 ?_ (by decide) rfl (by kernel_rfl) (by kernel_rfl) rfl ?_ HSS.out ?_
          rotate_left
          · intro w9 hS9; obtain ⟨q0, q1, q2⟩ := hS9; go_simp; (first | done | with_reducible rfl)
          try simp only [Act.put, List.setIfInBounds_toArray, List.set_cons_zero, List.set_cons_succ]
          refine stepQ HOPS 36 137438953471 ?_ (by decide) rfl (by kernel_rfl) (by kernel_rfl) rfl ?_ HSS.out ?_
          rotate_left
          · intro w9 hS9; obtain ⟨q0, q1, q2⟩ := hS9; go_simp; (first | done | with_reducible rfl)
          try simp only [Act.put, List.setIfInBounds_toArray, List.set_cons_zero, List.set_cons_succ]
          refine stepQ HOPS 37 274877906943 ?_ (by decide) rfl (by kernel_rfl) (by kernel_rfl) rfl ?_ HSS.out ?_
          rotate_left
          · intro w9 hS9; obtain ⟨q0, q1, q2⟩ := hS9; go_simp; (first | done | with_reducible rfl)
          try simp only [Act.put, List.setIfInBounds_toArray, List.set_cons_zero, List.set_cons_succ]
          refine stepQ HOPS 38 549755813887 ?_ (by decide) rfl (by kernel_rfl) (by kernel_rfl) rfl ?_ HSS.out ?_
          rotate_left
          · intro w9 hS9; obtain ⟨q0, q1, q2⟩ := hS9; go_simp; (first | done | with_reducible rfl)
          try simp only [Act.put, List.setIfInBounds_toArray, List.set_cons_zero, List.set_cons_succ]
          refine stepQ HOPS 39 1099511627775 ?_ (by decide) rfl (by kernel_rfl) (by kernel_rfl) rfl ?_ HSS.out ?_
          rotate_left
          · intro w9 hS9; obtain ⟨q0, q1, q2⟩ := hS9; go_simp; (first | done | with_reducible rfl)
          try simp only [Act.put, List.setIfInBounds_toArray, List.set_cons_zero, List.set_cons_succ]
          refine stepQ HOPS 40 2199023255551 ?_ (by decide) rfl (by kernel_rfl) (by kernel_rfl) rfl ?_ HSS.out ?_
          rotate_left
          · intro w9 hS9; obtain ⟨q0, q1, q2⟩ := hS9; go_simp; (first | done | with_reducible rfl)
          try simp only [Act.put, List.setIfInBounds_toArray, List.set_cons_zero, List.set_cons_succ]
          refine stepQ HOPS 41 4398046511103 ?_ (by decide) rfl (by kernel_rfl) (by kernel_rfl) rfl ?_ HSS.out ?_
          rotate_left
          · intro w9 hS9; obtain ⟨q0, q1, q2⟩ := hS9; go_simp; (first | done | with_reducible rfl)
          try simp only [Act.put, List.setIfInBounds_toArray, List.set_cons_zero, List.set_cons_succ]
          refine stepQ HOPS 42 8796093022207 ?_ (by decide) rfl (by kernel_rfl) (by kernel_rfl) rfl ?_ HSS.out ?_
          rotate_left
          · intro w9 hS9; obtain ⟨q0, q1, q2⟩ := hS9; go_simp; (first | done | with_reducible rfl)
          try simp only [Act.put, List.setIfInBounds_toArray, List.set_cons_zero, List.set_cons_succ]
          refine stepQ HOPS 43 17592186044415 ?_ (by decide) rfl (by kernel_rfl) (by kernel_rfl) rfl ?_ HSS.out ?_
          rotate_left
          · intro w9 hS9; obtain ⟨q0, q1, q2⟩ := hS9; go_simp; (first | done | with_reducible rfl)
          try simp only [Act.put, List.setIfInBounds_toArray, List.set_cons_zero, List.set_cons_succ]
          refine stepQ HOPS 44 35184372088831 ?_ (by decide) rfl (by kernel_rfl) (by kernel_rfl) rfl ?_ HSS.out ?_
          rotate_left
          · intro w9 hS9; obtain ⟨q0, q1, q2⟩ := hS9; go_simp; (first | done | with_reducible rfl)
          try simp only [Act.put, List.setIfInBounds_toArray, List.set_cons_zero, List.set_cons_succ]
          refine stepQ HOPS 45 70368744177663 ?_ (by decide) rfl (by kernel_rfl) (by kernel_rfl) rfl ?_ HSS.out ?_
          rotate_left
          · intro w9 hS9; obtain ⟨q0, q1, q2⟩ := hS9; go_simp; (first | done | with_reducible rfl)
          try simp only [Act.put, List.setIfInBounds_toArray, List.set_cons_zero, List.set_cons_succ]
          refine stepQ HOPS 46 140737488355327 ?_ (by decide) rfl (by kernel_rfl) (by kernel_rfl) rfl ?_ HSS.out ?_
          rotate_left
          · intro w9 hS9; obtain ⟨q0, q1, q2⟩ := hS9; go_simp; (first | done | with_reducible rfl)
          try simp only [Act.put, List.setIfInBounds_toArray, List.set_cons_zero, List.set_cons_succ]
          refine stepQ HOPS 47 281474976710655 ?_ (by decide) rfl (by kernel_rfl) (by kernel_rfl) rfl ?_ HSS.out ?_
          rotate_left
          · intro w9 hS9; obtain ⟨q0, q1, q2⟩ := hS9; go_simp; (first | done | with_reducible rfl)
          try simp only [Act.put, List.setIfInBounds_toArray, List.set_cons_zero, List.set_cons_succ]
          refine stepQ HOPS 48 562949953421311 ?_ (by decide) rfl (by kernel_rfl) (by kernel_rfl) rfl ?_ HSS.out ?_
          rotate_left
          · intro w9 hS9; obtain ⟨q0, q1, q2⟩ := hS9; go_simp; (first | done | with_reducible rfl)
          try simp only [Act.put, List.setIfInBounds_toArray, List.set_cons_zero, List.set_cons_succ]
          refine stepQ HOPS 49 1125899906842623 ?_ (by decide) rfl (by kernel_rfl) (by kernel_rfl) rfl ?_ HSS.out ?_
          rotate_left
          · intro w9 hS9; obtain ⟨q0, q1, q2⟩ := hS9; go_simp; (first | done | with_reducible rfl)
          try simp only [Act.put, List.setIfInBounds_toArray, List.set_cons_zero, List.set_cons_succ]
          refine stepQ HOPS 50 2251799813685247 ?_ (by decide) rfl (by kernel_rfl) (by kernel_rfl) rfl ?_ HSS.out ?_
          rotate_left
          · intro w9 hS9; obtain ⟨q0, q1, q2⟩ := hS9; go_simp; (first | done | with_reducible rfl)
          try simp only [Act.put, List.setIfInBounds_toArray, List.set_cons_zero, List.set_cons_succ]
          refine stepQ HOPS 51 4503599627370495 ?_ (by decide) rfl (by kernel_rfl) (by kernel_rfl) rfl ?_ HSS.out ?_
          rotate_left
          · intro w9 hS9; obtain ⟨q0, q1, q2⟩ := hS9; go_simp; (first | done | with_reducible rfl)
          try simp only [Act.put, List.setIfInBounds_toArray, List.set_cons_zero, List.set_cons_succ]
          refine stepQ HOPS 52 9007199254740991 ?_ (by decide) rfl (by kernel_rfl) (by kernel_rfl) rfl ?_ HSS.out ?_
          rotate_left
          · intro w9 hS9; obtain ⟨q0, q1, q2⟩ := hS9; go_simp; (first | done | with_reducible rfl)
          try simp only [Act.put, List.setIfInBounds_toArray, List.set_cons_zero, List.set_cons_succ]
          refine stepQ HOPS 53 18014398509481983 ?_ (by decide) rfl (by kernel_rfl) (by kernel_rfl) rfl ?_ HSS.out ?_
          rotate_left
          · intro w9 hS9; obtain ⟨q0, q1, q2⟩ := hS9; go_simp; (first | done | with_reducible rfl)
          try simp only [Act.put, List.setIfInBounds_toArray, List.set_cons_zero, List.set_cons_succ]
          refine stepQ HOPS 54 36028797018963967 ?_ (by decide) rfl (by kernel_rfl) (by kernel_rfl) rfl ?_ HSS.out ?_
          rotate_left
          · intro w9 hS9; obtain ⟨q0, q1, q2⟩ := hS9; go_simp; (first | done | with_reducible rfl)
          try simp only [Act.put, List.setIfInBounds_toArray, List.set_cons_zero, List.set_cons_succ]
          refine stepQ HOPS 55 72057594037927935 ?_ (by decide) rfl (by kernel_rfl) (by kernel_rfl) rfl ?_ HSS.out ?_
          rotate_left
          · intro w9 hS9; obtain ⟨q0, q1, q2⟩ := hS9; go_simp; (first | done | with_reducible rfl)
          try simp only [Act.put, List.setIfInBounds_toArray, List.set_cons_zero, List.set_cons_succ]
          refine stepQ HOPS 56 144115188075855871 ?_ (by decide) rfl (by kernel_rfl) (by kernel_rfl) rfl ?_ HSS.out ?_
          rotate_left
          · intro w9 hS9; obtain ⟨q0, q1, q2⟩ := hS9; go_simp; (first | done | with_reducible rfl)
          try simp only [Act.put, List.setIfInBounds_toArray, List.set_cons_zero, List.set_cons_succ]
          refine stepQ HOPS 57 288230376151711743 ?_ (by decide) rfl (by kernel_rfl) (by kernel_rfl) rfl ?_ HSS.out ?_
          rotate_left
          · intro w9 hS9; obtain ⟨q0, q1, q2⟩ := hS9; go_simp; (first | done | with_reducible rfl)
          try simp only [Act.put, List.setIfInBounds_toArray, List.set_cons_zero, List.set_cons_succ]
          refine stepQ HOPS 58 576460752303423487 ?_ (by decide) rfl (by kernel_rfl) (by kernel_rfl) rfl ?_ HSS.out ?_
          rotate_left
          · intro w9 hS9; obtain ⟨q0, q1, q2⟩ := hS9; go_simp; (first | done | with_reducible rfl)
          try simp only [Act.put, List.setIfInBounds_toArray, List.set_cons_zero, List.set_cons_succ]
          refine stepQ HOPS 59 1152921504606846975 ?_ (by decide) rfl (by kernel_rfl) (by kernel_rfl) rfl ?_ HSS.out ?_
          rotate_left
          · intro w9 hS9; obtain ⟨q0, q1, q2⟩ := hS9; go_simp; (first | done | with_reducible rfl)
          try simp only [Act.put, List.setIfInBounds_toArray, List.set_cons_zero, List.set_cons_succ]
          refine stepQ HOPS 60 2305843009213693951 ?_ (by decide) rfl (by kernel_rfl) (by kernel_rfl) rfl ?_ HSS.out ?_
          rotate_left
          · intro w9 hS9; obtain ⟨q0, q1, q2⟩ := hS9; go_simp; (first | done | with_reducible rfl)
          try simp only [Act.put, List.setIfInBounds_toArray, List.set_cons_zero, List.set_cons_succ]
          refine stepE HOPS (by kernel_rfl) (HQ.out _ _ ?_)
          clear HQ HOPS
          clear Q ops
          go_wp2
          go_ret
          exact ⟨by rw [HF.out]; rfl, bel_drew HB.out⟩
        have c7' := of_decide_eq_false c7
        have HN := Lib.hid (show right l = rt x.kind (l.drop (0 + 1)) by rw [HD.out, HS.out, decide_eq_true (by omega), Bool.true_and])
        have hk0 : 0 ≤ x.kind := by omega
        go_wp2
        refine region_let (fun W9 : World => W9.cell? ⟨b, o, none⟩ = some (.int .i64 x.kind) ∧ W9.cell? ⟨b, o + 1, none⟩ = some (.int .i64 x.lo) ∧ W9.cell? ⟨b, o + 2, none⟩ = some (.int .i64 x.hi)) 99 61 hmx rfl fun ops Q HOPS HQ => ?_
        refine stepQ HOPS 0 1 ?_ (by decide) rfl (by kernel_rfl) (by kernel_rfl) rfl ?_ HSS.out ?_
        rotate_left
        · intro w9 hS9; obtain ⟨q0, q1, q2⟩ := hS9; go_simp; (first | done | with_reducible rfl)
        try simp only [Act.put, List.setIfInBounds_toArray, List.set_cons_zero, List.set_cons_succ]
        refine stepQ HOPS 1 3 ?_ (by decide) rfl (by kernel_rfl) (by kernel_rfl) rfl ?_ HSS.out ?_
        rotate_left
        · intro w9 hS9; obtain ⟨q0, q1, q2⟩ := hS9; go_simp; (first | done | with_reducible rfl)
        try simp only [Act.put, List.setIfInBounds_toArray, List.set_cons_zero, List.set_cons_succ]
        refine stepQ HOPS 2 7 ?_ (by decide) rfl (by kernel_rfl) (by kernel_rfl) rfl ?_ HSS.out ?_
        rotate_left
        · intro w9 hS9; obtain ⟨q0, q1, q2⟩ := hS9; go_simp; (first | done | with_reducible rfl)
        try simp only [Act.put, List.setIfInBounds_toArray, List.set_cons_zero, List.set_cons_succ]
        refine stepQ HOPS 3 15 ?_ (by decide) rfl (by kernel_rfl) (by kernel_rfl) rfl ?_ HSS.out ?_
        rotate_left
        · intro w9 hS9; obtain ⟨q0, q1, q2⟩ := hS9; go_simp; (first | done | with_reducible rfl)
        try simp only [Act.put, List.setIfInBounds_toArray, List.set_cons_zero, List.set_cons_succ]
        refine stepQ HOPS 4 31 ?_ (by decide) rfl (by kernel_rfl) (by kernel_rfl) rfl ?_ HSS.out ?_
        rotate_left
        · intro w9 hS9; obtain ⟨q0, q1, q2⟩ := hS9; go_simp; (first | done | with_reducible rfl)
        try simp only [Act.put, List.setIfInBounds_toArray, List.set_cons_zero, List.set_cons_succ]
        refine stepQ HOPS 5 63 ?_ (by decide) rfl (by kernel_rfl) (by kernel_rfl) rfl ?_ HSS.out ?_
        rotate_left
        · intro w9 hS9; obtain ⟨q0, q1, q2⟩ := hS9; go_simp; (first | done | with_reducible rfl)
        try simp only [Act.put, List.setIfInBounds_toArray, List.set_cons_zero, List.set_cons_succ]
        refine stepQ HOPS 6 127 ?_ (by decide) rfl (by kernel_rfl) (by kernel_rfl) rfl ?_ HSS.out ?_
        rotate_left
        · intro w9 hS9; obtain ⟨q0, q1, q2⟩ := hS9; go_simp; (first | done | with_reducible rfl)
        try simp only [Act.put, List.setIfInBounds_toArray, List.set_cons_zero, List.set_cons_succ]
        refine stepQ HOPS 7 255 ?_ (by decide) rfl (by kernel_rfl) (by kernel_rfl) rfl ?_ HSS.out ?_
        rotate_left
        · intro w9 hS9; obtain ⟨q0, q1, q2⟩ := hS9; go_simp; (first | done | with_reducible rfl)
        try simp only [Act.put, List.setIfInBounds_toArray, List.set_cons_zero, List.set_cons_succ]
        refine stepQ HOPS 8 511 ?_ (by decide) rfl (by kernel_rfl) (by kernel_rfl) rfl ?_ HSS.out ?_
        rotate_left
        · intro w9 hS9; obtain ⟨q0, q1, q2⟩ := hS9; go_simp; (first | done | with_reducible rfl)
        try simp only [Act.put, List.setIfInBounds_toArray, List.set_cons_zero, List.set_cons_succ]
        refine stepQ HOPS 9 1023 ?_ (by decide) rfl (by kernel_rfl) (by kernel_rfl) rfl ?_ HSS.out ?_
        rotate_left
        · intro w9 hS9; obtain ⟨q0, q1, q2⟩ := hS9; go_simp; (first | done | with_reducible rfl)
        try simp only [Act.put, List.setIfInBounds_toArray, List.set_cons_zero, List.set_cons_succ]
        refine stepQ HOPS 10 2047 ?_ (by decide) rfl (by kernel_rfl) (by kernel_rfl) rfl ?_ HSS.out ?_
        rotate_left
        · intro w9 hS9; obtain ⟨q0, q1, q2⟩ := hS9; go_simp; (first | done | with_reducible rfl)
        try simp only [Act.put, List.setIfInBounds_toArray, List.set_cons_zero, List.set_cons_succ]
        refine stepQ HOPS 11 4095 ?_ (by decide) rfl (by kernel_rfl) (by kernel_rfl) rfl ?_ HSS.out ?_
        rotate_left
        · intro w9 hS9; obtain ⟨q0, q1, q2⟩ := hS9; go_simp; (first | done | with_reducible rfl)
        try simp only [Act.put, List.setIfInBounds_toArray, List.set_cons_zero, List.set_cons_succ]
        refine stepQ HOPS 12 8191 ?_ (by decide) rfl (by kernel_rfl) (by kernel_rfl) rfl ?_ HSS.out ?_
        rotate_left
        · intro w9 hS9; obtain ⟨q0, q1, q2⟩ := hS9; go_simp; (first | done | with_reducible rfl)
        try simp only [Act.put, List.setIfInBounds_toArray, List.set_cons_zero, List.set_cons_succ]
        refine stepQ HOPS 13 16383 ?_ (by decide) rfl (by kernel_rfl) (by kernel_rfl) rfl ?_ HSS.out ?_
        rotate_left
        · intro w9 hS9; obtain ⟨q0, q1, q2⟩ := hS9; go_simp; (first | done | with_reducible rfl)
        try simp only [Act.put, List.setIfInBounds_toArray, List.set_cons_zero, List.set_cons_succ]
        refine stepQ HOPS 14 32767 ?_ (by decide) rfl (by kernel_rfl) (by kernel_rfl) rfl ?_ HSS.out ?_
        rotate_left
        · intro w9 hS9; obtain ⟨q0, q1, q2⟩ := hS9; go_simp; (first | done | with_reducible rfl)
        try simp only [Act.put, List.setIfInBounds_toArray, List.set_cons_zero, List.set_cons_succ]
        refine stepQ HOPS 15 65535 ?_ (by decide) rfl (by kernel_rfl) (by kernel_rfl) rfl ?_ HSS.out ?_
        rotate_left
        · intro w9 hS9; obtain ⟨q0, q1, q2⟩ := hS9; go_simp; (first | done | with_reducible rfl)
        try simp only [Act.put, List.setIfInBounds_toArray, List.set_cons_zero, List.set_cons_succ]
        refine stepQ HOPS 16 131071 ?_ (by decide) rfl (by kernel_rfl) (by kernel_rfl) rfl ?_ HSS.out ?_
        rotate_left
        · intro w9 hS9; obtain ⟨q0, q1, q2⟩ := hS9; go_simp; (first | done | with_reducible rfl)
        try simp only [Act.put, List.setIfInBounds_toArray, List.set_cons_zero, List.set_cons_succ]
        refine stepQ HOPS 17 262143 ?_ (by decide) rfl (by kernel_rfl) (by kernel_rfl) rfl ?_ HSS.out ?_
        rotate_left
        · intro w9 hS9; obtain ⟨q0, q1, q2⟩ := hS9; go_simp; (first | done | with_reducible rfl)
        try simp only [Act.put, List.setIfInBounds_toArray, List.set_cons_zero, List.set_cons_succ]
        refine stepU HOPS 18 524287 (by decide) rfl (by kernel_rfl) (by kernel_rfl) rfl HSS.out ?_
        try simp only [Act.put, List.setIfInBounds_toArray, List.set_cons_zero, List.set_cons_succ]
        refine stepU HOPS 19 1048575 (by decide) rfl (by kernel_rfl) (by kernel_rfl) rfl HSS.out ?_
        try simp only [Act.put, List.setIfInBounds_toArray, List.set_cons_zero, List.set_cons_succ]
        refine stepU HOPS 20 2097151 (by decide) rfl (by kernel_rfl) (by kernel_rfl) rfl HSS.out ?_
        try simp only [Act.put, List.setIfInBounds_toArray, List.set_cons_zero, List.set_cons_succ]
        refine stepU HOPS 21 4194303 (by decide) rfl (by kernel_rfl) (by kernel_rfl) rfl HSS.out ?_
        try simp only [Act.put, List.setIfInBounds_toArray, List.set_cons_zero, List.set_cons_succ]
        refine stepU HOPS 22 8388607 (by decide) rfl (by kernel_rfl) (by kernel_rfl) rfl HSS.out ?_
        try simp only [Act.put, List.setIfInBounds_toArray, List.set_cons_zero, List.set_cons_succ]
        refine stepU HOPS 23 16777215 (by decide) rfl (by kernel_rfl) (by kernel_rfl) rfl HSS.out ?_
        try simp only [Act.put, List.setIfInBounds_toArray, List.set_cons_zero, List.set_cons_succ]
        refine stepU HOPS 24 33554431 (by decide) rfl (by kernel_rfl) (by kernel_rfl) rfl HSS.out ?_
        try simp only [Act.put, List.setIfInBounds_toArray, List.set_cons_zero, List.set_cons_succ]
        refine stepU HOPS 25 67108863 (by decide) rfl (by kernel_rfl) (by kernel_rfl) rfl HSS.out ?_
        try simp only [Act.put, List.setIfInBounds_toArray, List.set_cons_zero, List.set_cons_succ]
        refine stepU HOPS 26 134217727 (by decide) rfl (by kernel_rfl) (by kernel_rfl) rfl HSS.out ?_
        try simp only [Act.put, List.setIfInBounds_toArray, List.set_cons_zero, List.set_cons_succ]
        refine stepU HOPS 27 268435455 (by decide) rfl (by kernel_rfl) (by kernel_rfl) rfl HSS.out ?_
        try simp only [Act.put, List.setIfInBounds_toArray, List.set_cons_zero, List.set_cons_succ]
        refine stepU HOPS 28 536870911 (by decide) rfl (by kernel_rfl) (by kernel_rfl) rfl HSS.out ?_
        try simp only [Act.put, List.setIfInBounds_toArray, List.set_cons_zero, List.set_cons_succ]
        refine stepU HOPS 29 1073741823 (by decide) rfl (by kernel_rfl) (by kernel_rfl) rfl HSS.out ?_
        try simp only [Act.put, List.setIfInBounds_toArray, List.set_cons_zero, List.set_cons_succ]
        refine stepQ HOPS 30 2147483647 ?_ (by decide) rfl (by kernel_rfl) (by kernel_rfl) rfl ?_ HSS.out ?_
        rotate_left
        · intro w9 hS9; obtain ⟨q0, q1, q2⟩ := hS9; go_simp; (first | done | with_reducible rfl)
        try simp only [Act.put, List.setIfInBounds_toArray, List.set_cons_zero, List.set_cons_succ]
        refine stepQ HOPS 31 4294967295 ?_ (by decide) rfl (by kernel_rfl) (by kernel_rfl) rfl ?_ HSS.out ?_
        rotate_left
        · intro w9 hS9; obtain ⟨q0, q1, q2⟩ := hS9; go_simp; (first | done | with_reducible rfl)
        try simp only [Act.put, List.setIfInBounds_toArray, List.set_cons_zero, List.set_cons_succ]
        refine stepQ HOPS 32 8589934591 ?_ (by decide) rfl (by kernel_rfl) (by kernel_rfl) rfl ?_ HSS.out ?_
        rotate_left
        · intro w9 hS9; obtain ⟨q0, q1, q2⟩ := hS9; go_simp; (first | done | with_reducible rfl)
        try simp only [Act.put, List.setIfInBounds_toArray, List.set_cons_zero, List.set_cons_succ]
        refine stepQ HOPS 33 17179869183 ?_ (by decide) rfl (by kernel_rfl) (by kernel_rfl) rfl ?_ HSS.out ?_
        rotate_left
        · intro w9 hS9; obtain ⟨q0, q1, q2⟩ := hS9; go_simp; (first | done | with_reducible rfl)
        try simp only [Act.put, List.setIfInBounds_toArray, List.set_cons_zero, List.set_cons_succ]
        refine stepQ HOPS 34 34359738367 ?_ (by decide) rfl (by kernel_rfl) (by kernel_rfl) rfl ?_ HSS.out ?_
        rotate_left
        · intro w9 hS9; obtain ⟨q0, q1, q2⟩ := hS9; go_simp; (first | done | with_reducible rfl)
        try simp only [Act.put, List.setIfInBounds_toArray, List.set_cons_zero, List.set_cons_succ]
        refine stepQ HOPS 35 68719476735 ?_ (by decide) rfl (by kernel_rfl) (by kernel_rfl) rfl ?_ HSS.out ?_
        rotate_left
        · intro w9 hS9; obtain ⟨q0, q1, q2⟩ := hS9; go_simp; (first | done | with_reducible rfl)
        try simp only [Act.put, List.setIfInBounds_toArray, List.set_cons_zero, List.set_cons_succ]
        refine stepQ HOPS 36 137438953471 ?_ (by decide) rfl (by kernel_rfl) (by kernel_rfl) rfl ?_ HSS.out ?_
        rotate_left
        · intro w9 hS9; obtain ⟨q0, q1, q2⟩ := hS9; go_simp; (first | done | with_reducible rfl)
        try simp only [Act.put, List.setIfInBounds_toArray, List.set_cons_zero, List.set_cons_succ]
        refine stepQ HOPS 37 274877906943 ?_ (by decide) rfl (by kernel_rfl) (by kernel_rfl) rfl ?_ HSS.out ?_
        rotate_left
        · intro w9 hS9; obtain ⟨q0, q1, q2⟩ := hS9; go_simp; (first | done | with_reducible rfl)
        try simp only [Act.put, List.setIfInBounds_toArray, List.set_cons_zero, List.set_cons_succ]
        refine stepQ HOPS 38 549755813887 ?_ (by decide) rfl (by kernel_rfl) (by kernel_rfl) rfl ?_ HSS.out ?_
        rotate_left
        · intro w9 hS9; obtain ⟨q0, q1, q2⟩ := hS9; go_simp; (first | done | with_reducible rfl)
        try simp only [Act.put, List.setIfInBounds_toArray, List.set_cons_zero, List.set_cons_succ]
        refine stepQ HOPS 39 1099511627775 ?_ (by decide) rfl (by kernel_rfl) (by kernel_rfl) rfl ?_ HSS.out ?_
        rotate_left
        · intro w9 hS9; obtain ⟨q0, q1, q2⟩ := hS9; go_simp; (first | done | with_reducible rfl)
        try simp only [Act.put, List.setIfInBounds_toArray, List.set_cons_zero, List.set_cons_succ]
        refine stepQ HOPS 40 2199023255551 ?_ (by decide) rfl (by kernel_rfl) (by kernel_rfl) rfl ?_ HSS.out ?_
        rotate_left
        · intro w9 hS9; obtain ⟨q0, q1, q2⟩ := hS9; go_simp; (first | done | with_reducible rfl)
        try simp only [Act.put, List.setIfInBounds_toArray, List.set_cons_zero, List.set_cons_succ]
        refine stepQ HOPS 41 4398046511103 ?_ (by decide) rfl (by kernel_rfl) (by kernel_rfl) rfl ?_ HSS.out ?_
        rotate_left
        · intro w9 hS9; obtain ⟨q0, q1, q2⟩ := hS9; go_simp; (first | done | with_reducible rfl)
        try simp only [Act.put, List.setIfInBounds_toArray, List.set_cons_zero, List.set_cons_succ]
        refine stepQ HOPS 42 8796093022207 ?_ (by decide) rfl (by kernel_rfl) (by kernel_rfl) rfl ?_ HSS.out ?_
        rotate_left
        · intro w9 hS9; obtain ⟨q0, q1, q2⟩ := hS9; go_simp; (first | done | with_reducible rfl)
        try simp only [Act.put, List.setIfInBounds_toArray, List.set_cons_zero, List.set_cons_succ]
        refine stepQ HOPS 43 17592186044415 ?_ (by decide) rfl (by kernel_rfl) (by kernel_rfl) rfl ?_ HSS.out ?_
        rotate_left
        · intro w9 hS9; obtain ⟨q0, q1, q2⟩ := hS9; go_simp; (first | done | with_reducible rfl)
        try simp only [Act.put, List.setIfInBounds_toArray, List.set_cons_zero, List.set_cons_succ]
        refine stepQ HOPS 44 35184372088831 ?_ (by decide) rfl (by kernel_rfl) (by kernel_rfl) rfl ?_ HSS.out ?_
        rotate_left
        · intro w9 hS9; obtain ⟨q0, q1, q2⟩ := hS9; go_simp; (first | done | with_reducible rfl)
        try simp only [Act.put, List.setIfInBounds_toArray, List.set_cons_zero, List.set_cons_succ]
        refine stepQ HOPS 45 70368744177663 ?_ (by decide) rfl (by kernel_rfl) (by kernel_rfl) rfl ?_ HSS.out ?_
        rotate_left
        · intro w9 hS9; obtain ⟨q0, q1, q2⟩ := hS9; go_simp; (first | done | with_reducible rfl)
        try simp only [Act.put, List.setIfInBounds_toArray, List.set_cons_zero, List.set_cons_succ]
        refine stepQ HOPS 46 140737488355327 ?_ (by decide) rfl (by kernel_rfl) (by kernel_rfl) rfl ?_ HSS.out ?_
        rotate_left
        · intro w9 hS9; obtain ⟨q0, q1, q2⟩ := hS9; go_simp; (first | done | with_reducible rfl)
        try simp only [Act.put, List.setIfInBounds_toArray, List.set_cons_zero, List.set_cons_succ]
        refine stepQ HOPS 47 281474976710655 ?_ (by decide) rfl (by kernel_rfl) (by kernel_rfl) rfl ?_ HSS.out ?_
        rotate_left
        · intro w9 hS9; obtain ⟨q0, q1, q2⟩ := hS9; go_simp; (first | done | with_reducible rfl)
        try simp only [Act.put, List.setIfInBounds_toArray, List.set_cons_zero, List.set_cons_succ]
        refine stepQ HOPS 48 562949953421311 ?_ (by decide) rfl (by kernel_rfl) (by kernel_rfl) rfl ?_ HSS.out ?_
        rotate_left
        · intro w9 hS9; obtain ⟨q0, q1, q2⟩ := hS9; go_simp; (first | done | with_reducible rfl)
        try simp only [Act.put, List.setIfInBounds_toArray, List.set_cons_zero, List.set_cons_succ]
        refine stepQ HOPS 49 1125899906842623 ?_ (by decide) rfl (by kernel_rfl) (by kernel_rfl) rfl ?_ HSS.out ?_
        rotate_left
        · intro w9 hS9; obtain ⟨q0, q1, q2⟩ := hS9; go_simp; (first | done | with_reducible rfl)
        try simp only [Act.put, List.setIfInBounds_toArray, List.set_cons_zero, List.set_cons_succ]
        refine stepQ HOPS 50 2251799813685247 ?_ (by decide) rfl (by kernel_rfl) (by kernel_rfl) rfl ?_ HSS.out ?_
        rotate_left
        · intro w9 hS9; obtain ⟨q0, q1, q2⟩ := hS9; go_simp; (first | done | with_reducible rfl)
        try simp only [Act.put, List.setIfInBounds_toArray, List.set_cons_zero, List.set_cons_succ]
        refine stepQ HOPS 51 4503599627370495 ?_ (by decide) rfl (by kernel_rfl) (by kernel_rfl) rfl ?_ HSS.out ?_
        rotate_left
        · intro w9 hS9; obtain ⟨q0, q1, q2⟩ := hS9; go_simp; (first | done | with_reducible rfl)
        try simp only [Act.put, List.setIfInBounds_toArray, List.set_cons_zero, List.set_cons_succ]
        refine stepQ HOPS 52 9007199254740991 ?_ (by decide) rfl (by kernel_rfl) (by kernel_rfl) rfl ?_ HSS.out ?_
        rotate_left
        · intro w9 hS9; obtain ⟨q0, q1, q2⟩ := hS9; go_simp; (first | done | with_reducible rfl)
        try simp only [Act.put, List.setIfInBounds_toArray, List.set_cons_zero, List.set_cons_succ]
        refine stepQ HOPS 53 18014398509481983 ?_ (by decide) rfl (by kernel_rfl) (by kernel_rfl) rfl ?_ HSS.out ?_
        rotate_left
        · intro w9 hS9; obtain ⟨q0, q1, q2⟩ := hS9; go_simp; (first | done | with_reducible rfl)
        try simp only [Act.put, List.setIfInBounds_toArray, List.set_cons_zero, List.set_cons_succ]
        refine stepQ HOPS 54 36028797018963967 ?_ (by decide) rfl (by kernel_rfl) (by kernel_rfl) rfl ?_ HSS.out ?_
        rotate_left
        · intro w9 hS9; obtain ⟨q0, q1, q2⟩ := hS9; go_simp; (first | done | with_reducible rfl)
        try simp only [Act.put, List.setIfInBounds_toArray, List.set_cons_zero, List.set_cons_succ]
        refine stepQ HOPS 55 72057594037927935 ?_ (by decide) rfl (by kernel_rfl) (by kernel_rfl) rfl ?_ HSS.out ?_
        rotate_left
        · intro w9 hS9; obtain ⟨q0, q1, q2⟩ := hS9; go_simp; (first | done | with_reducible rfl)
        try simp only [Act.put, List.setIfInBounds_toArray, List.set_cons_zero, List.set_cons_succ]
        refine stepQ HOPS 56 144115188075855871 ?_ (by decide) rfl (by kernel_rfl) (by kernel_rfl) rfl ?_ HSS.out ?_
        rotate_left
        · intro w9 hS9; obtain ⟨q0, q1, q2⟩ := hS9; go_simp; (first | done | with_reducible rfl)
        try simp only [Act.put, List.setIfInBounds_toArray, List.set_cons_zero, List.set_cons_succ]
        refine stepQ HOPS 57 288230376151711743 ?_ (by decide) rfl (by kernel_rfl) (by kernel_rfl) rfl ?_ HSS.out ?_
        rotate_left
        · intro w9 hS9; obtain ⟨q0, q1, q2⟩ := hS9; go_simp; (first | done | with_reducible rfl)
        try simp only [Act.put, List.setIfInBounds_toArray, List.set_cons_zero, List.set_cons_succ]
        refine stepQ HOPS 58 576460752303423487 ?_ (by decide) rfl (by kernel_rfl) (by kernel_rfl) rfl ?_ HSS.out ?_
        rotate_left
        · intro w9 hS9; obtain ⟨q0, q1, q2⟩ := hS9; go_simp; (first | done | with_reducible rfl)
        try simp only [Act.put, List.setIfInBounds_toArray, List.set_cons_zero, List.set_cons_succ]
        refine stepQ HOPS 59 1152921504606846975 ?_ (by decide) rfl (by kernel_rfl) (by kernel_rfl) rfl ?_ HSS.out ?_
        rotate_left
        · intro w9 hS9; obtain ⟨q0, q1, q2⟩ := hS9; go_simp; (first | done | with_reducible rfl)
        try simp only [Act.put, List.setIfInBounds_toArray, List.set_cons_zero, List.set_cons_succ]
        refine stepQ HOPS 60 2305843009213693951 ?_ (by decide) rfl (by kernel_rfl) (by kernel_rfl) rfl ?_ HSS.out ?_
        rotate_left
        · intro w9 hS9; obtain ⟨q0, q1, q2⟩ := hS9; go_simp; (first | done | with_reducible rfl)
        try simp only [Act.put, List.setIfInBounds_toArray, List.set_cons_zero, List.set_cons_succ]
        refine stepE HOPS (by kernel_rfl) (HQ.out _ _ ?_)
        clear HQ HOPS
        clear Q ops
        go_wp2
        go_roundw
        case rel => exact ⟨0 + 1, x.kind, by go_num, by omega, HN.out, fun h => by omega, fun _ => ⟨hk0, x, HXX.out, rfl⟩, bel_drew HB.out⟩
        case measure => simp [intOf]; omega
      · obtain ⟨hp2, y, hy, hyp⟩ := hp1 (Nat.succ_pos _)
        obtain ⟨b2, o2, y2, e2, hb2, hy2, _, y0, _, _⟩ := sp_at (k := j) HX.out (by omega)
        obtain ⟨rfl, rfl⟩ : b = b2 ∧ o = o2 := by simpa using e2
        have hyy : y = y2 := by rw [Nat.add_sub_cancel] at hy; rw [hy] at hy2; exact Option.some.inj hy2
        subst hyy
        rw [hyp] at y0
        have hj1 : (0 : Int) ≤ (j : Int) + 1 := by omega
        have hj2 : j < n := by omega
        have hw : IntKind.i64.wrap (j : Int) = (j : Int) := IntWalk.i64_in _ (by omega)
        have HSS := Lib.hid (show wr.drew.cell? ⟨b, o + (j + 1) * 3, none⟩ = some (.int .i64 x.kind) ∧ wr.drew.cell? ⟨b, o + (j + 1) * 3 + 1, none⟩ = some (.int .i64 x.lo) ∧ wr.drew.cell? ⟨b, o + (j + 1) * 3 + 2, none⟩ = some (.int .i64 x.hi) ∧ wr.drew.cell? ⟨b, o + j * 3, none⟩ = some (.int .i64 p) from ⟨q0, q1, q2, y0⟩)
        clear hp0 hp1 q0 q1 q2 y0 hy hy2 hyp e2
        rcases c1 : decide (x.kind < 0) with _ | _
        rotate_left
        · have c1' := of_decide_eq_true c1
          have HF := Lib.hid (show right l = false by rw [HD.out, HS.out, decide_eq_false (by omega)]; rfl)
          go_wp2
          refine region_let (fun W9 : World => W9.cell? ⟨b, o + (j + 1) * 3, none⟩ = some (.int .i64 x.kind) ∧ W9.cell? ⟨b, o + (j + 1) * 3 + 1, none⟩ = some (.int .i64 x.lo) ∧ W9.cell? ⟨b, o + (j + 1) * 3 + 2, none⟩ = some (.int .i64 x.hi) ∧ W9.cell? ⟨b, o + j * 3, none⟩ = some (.int .i64 p)) 99 61 hmx rfl fun ops Q HOPS HQ => ?_
          refine stepQ HOPS 0 1 ?_ (by decide) rfl (by kernel_rfl) (by kernel_rfl) rfl ?_ HSS.out ?_
          rotate_left
          · intro w9 hS9; obtain ⟨q0, q1, q2, q3⟩ := hS9; go_simp; (first | done | with_reducible rfl)
          try simp only [Act.put, List.setIfInBounds_toArray, List.set_cons_zero, List.set_cons_succ]
          refine stepQ HOPS 1 3 ?_ (by decide) rfl (by kernel_rfl) (by kernel_rfl) rfl ?_ HSS.out ?_
          rotate_left
          · intro w9 hS9; obtain ⟨q0, q1, q2, q3⟩ := hS9; go_simp; (first | done | with_reducible rfl)
          try simp only [Act.put, List.setIfInBounds_toArray, List.set_cons_zero, List.set_cons_succ]
          refine stepQ HOPS 2 7 ?_ (by decide) rfl (by kernel_rfl) (by kernel_rfl) rfl ?_ HSS.out ?_
          rotate_left
          · intro w9 hS9; obtain ⟨q0, q1, q2, q3⟩ := hS9; go_simp; (first | done | with_reducible rfl)
          try simp only [Act.put, List.setIfInBounds_toArray, List.set_cons_zero, List.set_cons_succ]
          refine stepQ HOPS 3 15 ?_ (by decide) rfl (by kernel_rfl) (by kernel_rfl) rfl ?_ HSS.out ?_
          rotate_left
          · intro w9 hS9; obtain ⟨q0, q1, q2, q3⟩ := hS9; go_simp; (first | done | with_reducible rfl)
          try simp only [Act.put, List.setIfInBounds_toArray, List.set_cons_zero, List.set_cons_succ]
          refine stepQ HOPS 4 31 ?_ (by decide) rfl (by kernel_rfl) (by kernel_rfl) rfl ?_ HSS.out ?_
          rotate_left
          · intro w9 hS9; obtain ⟨q0, q1, q2, q3⟩ := hS9; go_simp; (first | done | with_reducible rfl)
          try simp only [Act.put, List.setIfInBounds_toArray, List.set_cons_zero, List.set_cons_succ]
          refine stepQ HOPS 5 63 ?_ (by decide) rfl (by kernel_rfl) (by kernel_rfl) rfl ?_ HSS.out ?_
          rotate_left
          · intro w9 hS9; obtain ⟨q0, q1, q2, q3⟩ := hS9; go_simp; (first | done | with_reducible rfl)
          try simp only [Act.put, List.setIfInBounds_toArray, List.set_cons_zero, List.set_cons_succ]
          refine stepQ HOPS 6 127 ?_ (by decide) rfl (by kernel_rfl) (by kernel_rfl) rfl ?_ HSS.out ?_
          rotate_left
          · intro w9 hS9; obtain ⟨q0, q1, q2, q3⟩ := hS9; go_simp; (first | done | with_reducible rfl)
          try simp only [Act.put, List.setIfInBounds_toArray, List.set_cons_zero, List.set_cons_succ]
          refine stepU HOPS 7 255 (by decide) rfl (by kernel_rfl) (by kernel_rfl) rfl HSS.out ?_
          try simp only [Act.put, List.setIfInBounds_toArray, List.set_cons_zero, List.set_cons_succ]
          refine stepU HOPS 8 511 (by decide) rfl (by kernel_rfl) (by kernel_rfl) rfl HSS.out ?_
          try simp only [Act.put, List.setIfInBounds_toArray, List.set_cons_zero, List.set_cons_succ]
          refine stepU HOPS 9 1023 (by decide) rfl (by kernel_rfl) (by kernel_rfl) rfl HSS.out ?_
          try simp only [Act.put, List.setIfInBounds_toArray, List.set_cons_zero, List.set_cons_succ]
          refine stepU HOPS 10 2047 (by decide) rfl (by kernel_rfl) (by kernel_rfl) rfl HSS.out ?_
          try simp only [Act.put, List.setIfInBounds_toArray, List.set_cons_zero, List.set_cons_succ]
          refine stepU HOPS 11 4095 (by decide) rfl (by kernel_rfl) (by kernel_rfl) rfl HSS.out ?_
          try simp only [Act.put, List.setIfInBounds_toArray, List.set_cons_zero, List.set_cons_succ]
          refine stepU HOPS 12 8191 (by decide) rfl (by kernel_rfl) (by kernel_rfl) rfl HSS.out ?_
          try simp only [Act.put, List.setIfInBounds_toArray, List.set_cons_zero, List.set_cons_succ]
          refine stepQ HOPS 13 16383 ?_ (by decide) rfl (by kernel_rfl) (by kernel_rfl) rfl ?_ HSS.out ?_
          rotate_left
          · intro w9 hS9; obtain ⟨q0, q1, q2, q3⟩ := hS9; go_simp; (first | done | with_reducible rfl)
          try simp only [Act.put, List.setIfInBounds_toArray, List.set_cons_zero, List.set_cons_succ]
          refine stepQ HOPS 14 32767 ?_ (by decide) rfl (by kernel_rfl) (by kernel_rfl) rfl ?_ HSS.out ?_
          rotate_left
          · intro w9 hS9; obtain ⟨q0, q1, q2, q3⟩ := hS9; go_simp; (first | done | with_reducible rfl)
          try simp only [Act.put, List.setIfInBounds_toArray, List.set_cons_zero, List.set_cons_succ]
          refine stepU HOPS 15 65535 (by decide) rfl (by kernel_rfl) (by kernel_rfl) rfl HSS.out ?_
          try simp only [Act.put, List.setIfInBounds_toArray, List.set_cons_zero, List.set_cons_succ]
          refine stepU HOPS 16 131071 (by decide) rfl (by kernel_rfl) (by kernel_rfl) rfl HSS.out ?_
          try simp only [Act.put, List.setIfInBounds_toArray, List.set_cons_zero, List.set_cons_succ]
          refine stepU HOPS 17 262143 (by decide) rfl (by kernel_rfl) (by kernel_rfl) rfl HSS.out ?_
          try simp only [Act.put, List.setIfInBounds_toArray, List.set_cons_zero, List.set_cons_succ]
          refine stepU HOPS 18 524287 (by decide) rfl (by kernel_rfl) (by kernel_rfl) rfl HSS.out ?_
          try simp only [Act.put, List.setIfInBounds_toArray, List.set_cons_zero, List.set_cons_succ]
          refine stepU HOPS 19 1048575 (by decide) rfl (by kernel_rfl) (by kernel_rfl) rfl HSS.out ?_
          try simp only [Act.put, List.setIfInBounds_toArray, List.set_cons_zero, List.set_cons_succ]
          refine stepU HOPS 20 2097151 (by decide) rfl (by kernel_rfl) (by kernel_rfl) rfl HSS.out ?_
          try simp only [Act.put, List.setIfInBounds_toArray, List.set_cons_zero, List.set_cons_succ]
          refine stepU HOPS 21 4194303 (by decide) rfl (by kernel_rfl) (by kernel_rfl) rfl HSS.out ?_
          try simp only [Act.put, List.setIfInBounds_toArray, List.set_cons_zero, List.set_cons_succ]
          refine stepU HOPS 22 8388607 (by decide) rfl (by kernel_rfl) (by kernel_rfl) rfl HSS.out ?_
          try simp only [Act.put, List.setIfInBounds_toArray, List.set_cons_zero, List.set_cons_succ]
          refine stepU HOPS 23 16777215 (by decide) rfl (by kernel_rfl) (by kernel_rfl) rfl HSS.out ?_
          try simp only [Act.put, List.setIfInBounds_toArray, List.set_cons_zero, List.set_cons_succ]
          refine stepU HOPS 24 33554431 (by decide) rfl (by kernel_rfl) (by kernel_rfl) rfl HSS.out ?_
          try simp only [Act.put, List.setIfInBounds_toArray, List.set_cons_zero, List.set_cons_succ]
          refine stepU HOPS 25 67108863 (by decide) rfl (by kernel_rfl) (by kernel_rfl) rfl HSS.out ?_
          try simp only [Act.put, List.setIfInBounds_toArray, List.set_cons_zero, List.set_cons_succ]
          refine stepU HOPS 26 134217727 (by decide) rfl (by kernel_rfl) (by kernel_rfl) rfl HSS.out ?_
          try simp only [Act.put, List.setIfInBounds_toArray, List.set_cons_zero, List.set_cons_succ]
          refine stepU HOPS 27 268435455 (by decide) rfl (by kernel_rfl) (by kernel_rfl) rfl HSS.out ?_
          try simp only [Act.put, List.setIfInBounds_toArray, List.set_cons_zero, List.set_cons_succ]
          refine stepU HOPS 28 536870911 (by decide) rfl (by kernel_rfl) (by kernel_rfl) rfl HSS.out ?_
          try simp only [Act.put, List.setIfInBounds_toArray, List.set_cons_zero, List.set_cons_succ]
          refine stepU HOPS 29 1073741823 (by decide) rfl (by kernel_rfl) (by kernel_rfl) rfl HSS.out ?_
          try simp only [Act.put, List.setIfInBounds_toArray, List.set_cons_zero, List.set_cons_succ]
          refine stepU HOPS 30 2147483647 (by decide) rfl (by kernel_rfl) (by kernel_rfl) rfl HSS.out ?_
          try simp only [Act.put, List.setIfInBounds_toArray, List.set_cons_zero, List.set_cons_succ]
          refine stepQ HOPS 31 4294967295 ?_ (by decide) rfl (by kernel_rfl) (by kernel_rfl) rfl ?_ HSS.out ?_
          rotate_left
          · intro w9 hS9; obtain ⟨q0, q1, q2, q3⟩ := hS9; go_simp; (first | done | with_reducible rfl)
          try simp only [Act.put, List.setIfInBounds_toArray, List.set_cons_zero, List.set_cons_succ]
          refine stepQ HOPS 32 8589934591 ?_ (by decide) rfl (by kernel_rfl) (by kernel_rfl) rfl ?_ HSS.out ?_
          rotate_left
          · intro w9 hS9; obtain ⟨q0, q1, q2, q3⟩ := hS9; go_simp; (first | done | with_reducible rfl)
          try simp only [Act.put, List.setIfInBounds_toArray, List.set_cons_zero, List.set_cons_succ]
          refine stepU HOPS 33 17179869183 (by decide) rfl (by kernel_rfl) (by kernel_rfl) rfl HSS.out ?_
          try simp only [Act.put, List.setIfInBounds_toArray, List.set_cons_zero, List.set_cons_succ]
          refine stepU HOPS 34 34359738367 (by decide) rfl (by kernel_rfl) (by kernel_rfl) rfl HSS.out ?_
          try simp only [Act.put, List.setIfInBounds_toArray, List.set_cons_zero, List.set_cons_succ]
          refine stepU HOPS 35 68719476735 (by decide) rfl (by kernel_rfl) (by kernel_rfl) rfl HSS.out ?_
          try simp only [Act.put, List.setIfInBounds_toArray, List.set_cons_zero, List.set_cons_succ]
          refine stepU HOPS 36 137438953471 (by decide) rfl (by kernel_rfl) (by kernel_rfl) rfl HSS.out ?_
          try simp only [Act.put, List.setIfInBounds_toArray, List.set_cons_zero, List.set_cons_succ]
          refine stepU HOPS 37 274877906943 (by decide) rfl (by kernel_rfl) (by kernel_rfl) rfl HSS.out ?_
          try simp only [Act.put, List.setIfInBounds_toArray, List.set_cons_zero, List.set_cons_succ]
          refine stepU HOPS 38 549755813887 (by decide) rfl (by kernel_rfl) (by kernel_rfl) rfl HSS.out ?_
          try simp only [Act.put, List.setIfInBounds_toArray, List.set_cons_zero, List.set_cons_succ]
          refine stepQ HOPS 39 1099511627775 ?_ (by decide) rfl (by kernel_rfl) (by kernel_rfl) rfl ?_ HSS.out ?_
          rotate_left
          · intro w9 hS9; obtain ⟨q0, q1, q2, q3⟩ := hS9; go_simp; (first | done | with_reducible rfl)
          try simp only [Act.put, List.setIfInBounds_toArray, List.set_cons_zero, List.set_cons_succ]
          refine stepQ HOPS 40 2199023255551 ?_ (by decide) rfl (by kernel_rfl) (by kernel_rfl) rfl ?_ HSS.out ?_
          rotate_left
          · intro w9 hS9; obtain ⟨q0, q1, q2, q3⟩ := hS9; go_simp; (first | done | with_reducible rfl)
          try simp only [Act.put, List.setIfInBounds_toArray, List.set_cons_zero, List.set_cons_succ]
          refine stepU HOPS 41 4398046511103 (by decide) rfl (by kernel_rfl) (by kernel_rfl) rfl HSS.out ?_
          try simp only [Act.put, List.setIfInBounds_toArray, List.set_cons_zero, List.set_cons_succ]
          refine stepU HOPS 42 8796093022207 (by decide) rfl (by kernel_rfl) (by kernel_rfl) rfl HSS.out ?_
          try simp only [Act.put, List.setIfInBounds_toArray, List.set_cons_zero, List.set_cons_succ]
          refine stepU HOPS 43 17592186044415 (by decide) rfl (by kernel_rfl) (by kernel_rfl) rfl HSS.out ?_
          try simp only [Act.put, List.setIfInBounds_toArray, List.set_cons_zero, List.set_cons_succ]
          refine stepU HOPS 44 35184372088831 (by decide) rfl (by kernel_rfl) (by kernel_rfl) rfl HSS.out ?_
          try simp only [Act.put, List.setIfInBounds_toArray, List.set_cons_zero, List.set_cons_succ]
          refine stepU HOPS 45 70368744177663 (by decide) rfl (by kernel_rfl) (by kernel_rfl) rfl HSS.out ?_
          try simp only [Act.put, List.setIfInBounds_toArray, List.set_cons_zero, List.set_cons_succ]
          refine stepU HOPS 46 140737488355327 (by decide) rfl (by kernel_rfl) (by kernel_rfl) rfl HSS.out ?_
          try simp only [Act.put, List.setIfInBounds_toArray, List.set_cons_zero, List.set_cons_succ]
          refine stepU HOPS 47 281474976710655 (by decide) rfl (by kernel_rfl) (by kernel_rfl) rfl HSS.out ?_
          try simp only [Act.put, List.setIfInBounds_toArray, List.set_cons_zero, List.set_cons_succ]
          refine stepU HOPS 48 562949953421311 (by decide) rfl (by kernel_rfl) (by kernel_rfl) rfl HSS.out ?_
          try simp only [Act.put, List.setIfInBounds_toArray, List.set_cons_zero, List.set_cons_succ]
          refine stepU HOPS 49 1125899906842623 (by decide) rfl (by kernel_rfl) (by kernel_rfl) rfl HSS.out ?_
          try simp only [Act.put, List.setIfInBounds_toArray, List.set_cons_zero, List.set_cons_succ]
          refine stepU HOPS 50 2251799813685247 (by decide) rfl (by kernel_rfl) (by kernel_rfl) rfl HSS.out ?_
          try simp only [Act.put, List.setIfInBounds_toArray, List.set_cons_zero, List.set_cons_succ]
          refine stepU HOPS 51 4503599627370495 (by decide) rfl (by kernel_rfl) (by kernel_rfl) rfl HSS.out ?_
          try simp only [Act.put, List.setIfInBounds_toArray, List.set_cons_zero, List.set_cons_succ]
          refine stepQ HOPS 52 9007199254740991 ?_ (by decide) rfl (by kernel_rfl) (by kernel_rfl) rfl ?_ HSS.out ?_
          rotate_left
          · intro w9 hS9; obtain ⟨q0, q1, q2, q3⟩ := hS9; go_simp; (first | done | with_reducible rfl)
          try simp only [Act.put, List.setIfInBounds_toArray, List.set_cons_zero, List.set_cons_succ]
          refine stepQ HOPS 53 18014398509481983 ?_ (by decide) rfl (by kernel_rfl) (by kernel_rfl) rfl ?_ HSS.out ?_
          rotate_left
          · intro w9 hS9; obtain ⟨q0, q1, q2, q3⟩ := hS9; go_simp; (first | done | with_reducible rfl)
          try simp only [Act.put, List.setIfInBounds_toArray, List.set_cons_zero, List.set_cons_succ]
          refine stepU HOPS 54 36028797018963967 (by decide) rfl (by kernel_rfl) (by kernel_rfl) rfl HSS.out ?_
          try simp only [Act.put, List.setIfInBounds_toArray, List.set_cons_zero, List.set_cons_succ]
          refine stepU HOPS 55 72057594037927935 (by decide) rfl (by kernel_rfl) (by kernel_rfl) rfl HSS.out ?_
          try simp only [Act.put, List.setIfInBounds_toArray, List.set_cons_zero, List.set_cons_succ]
          refine stepU HOPS 56 144115188075855871 (by decide) rfl (by kernel_rfl) (by kernel_rfl) rfl HSS.out ?_
          try simp only [Act.put, List.setIfInBounds_toArray, List.set_cons_zero, List.set_cons_succ]
          refine stepU HOPS 57 288230376151711743 (by decide) rfl (by kernel_rfl) (by kernel_rfl) rfl HSS.out ?_
          try simp only [Act.put, List.setIfInBounds_toArray, List.set_cons_zero, List.set_cons_succ]
          refine stepU HOPS 58 576460752303423487 (by decide) rfl (by kernel_rfl) (by kernel_rfl) rfl HSS.out ?_
          try simp only [Act.put, List.setIfInBounds_toArray, List.set_cons_zero, List.set_cons_succ]
          refine stepU HOPS 59 1152921504606846975 (by decide) rfl (by kernel_rfl) (by kernel_rfl) rfl HSS.out ?_
          try simp only [Act.put, List.setIfInBounds_toArray, List.set_cons_zero, List.set_cons_succ]
          refine stepQ HOPS 60 2305843009213693951 ?_ (by decide) rfl (by kernel_rfl) (by kernel_rfl) rfl ?_ HSS.out ?_
          rotate_left
          · intro w9 hS9; obtain ⟨q0, q1, q2, q3⟩ := hS9; go_simp; (first | done | with_reducible rfl)
          try simp only [Act.put, List.setIfInBounds_toArray, List.set_cons_zero, List.set_cons_succ]
          refine stepE HOPS (by kernel_rfl) (HQ.out _ _ ?_)
          clear HQ HOPS
          clear Q ops
          go_wp2
          go_ret
          exact ⟨by rw [HF.out]; rfl, bel_drew HB.out⟩
        have c1' := of_decide_eq_false c1
        rcases c2 : decide (255 < x.kind) with _ | _
        rotate_left
        · have c2' := of_decide_eq_true c2
          have HF := Lib.hid (show right l = false by rw [HD.out, HS.out, decide_eq_false (by omega)]; rfl)
          go_wp2
          refine region_let (fun W9 : World => W9.cell? ⟨b, o + (j + 1) * 3, none⟩ = some (.int .i64 x.kind) ∧ W9.cell? ⟨b, o + (j + 1) * 3 + 1, none⟩ = some (.int .i64 x.lo) ∧ W9.cell? ⟨b, o + (j + 1) * 3 + 2, none⟩ = some (.int .i64 x.hi) ∧ W9.cell? ⟨b, o + j * 3, none⟩ = some (.int .i64 p)) 99 61 hmx rfl fun ops Q HOPS HQ => ?_
          refine stepQ HOPS 0 1 ?_ (by decide) rfl (by kernel_rfl) (by kernel_rfl) rfl ?_ HSS.out ?_
          rotate_left
          · intro w9 hS9; obtain ⟨q0, q1, q2, q3⟩ := hS9; go_simp; (first | done | with_reducible rfl)
          try simp only [Act.put, List.setIfInBounds_toArray, List.set_cons_zero, List.set_cons_succ]
          refine stepQ HOPS 1 3 ?_ (by decide) rfl (by kernel_rfl) (by kernel_rfl) rfl ?_ HSS.out ?_
          rotate_left
          · intro w9 hS9; obtain ⟨q0, q1, q2, q3⟩ := hS9; go_simp; (first | done | with_reducible rfl)
          try simp only [Act.put, List.setIfInBounds_toArray, List.set_cons_zero, List.set_cons_succ]
          refine stepQ HOPS 2 7 ?_ (by decide) rfl (by kernel_rfl) (by kernel_rfl) rfl ?_ HSS.out ?_
          rotate_left
          · intro w9 hS9; obtain ⟨q0, q1, q2, q3⟩ := hS9; go_simp; (first | done | with_reducible rfl)
          try simp only [Act.put, List.setIfInBounds_toArray, List.set_cons_zero, List.set_cons_succ]
          refine stepQ HOPS 3 15 ?_ (by decide) rfl (by kernel_rfl) (by kernel_rfl) rfl ?_ HSS.out ?_
          rotate_left
          · intro w9 hS9; obtain ⟨q0, q1, q2, q3⟩ := hS9; go_simp; (first | done | with_reducible rfl)
          try simp only [Act.put, List.setIfInBounds_toArray, List.set_cons_zero, List.set_cons_succ]
          refine stepQ HOPS 4 31 ?_ (by decide) rfl (by kernel_rfl) (by kernel_rfl) rfl ?_ HSS.out ?_
          rotate_left
          · intro w9 hS9; obtain ⟨q0, q1, q2, q3⟩ := hS9; go_simp; (first | done | with_reducible rfl)
          try simp only [Act.put, List.setIfInBounds_toArray, List.set_cons_zero, List.set_cons_succ]
          refine stepQ HOPS 5 63 ?_ (by decide) rfl (by kernel_rfl) (by kernel_rfl) rfl ?_ HSS.out ?_
          rotate_left
          · intro w9 hS9; obtain ⟨q0, q1, q2, q3⟩ := hS9; go_simp; (first | done | with_reducible rfl)
          try simp only [Act.put, List.setIfInBounds_toArray, List.set_cons_zero, List.set_cons_succ]
          refine stepQ HOPS 6 127 ?_ (by decide) rfl (by kernel_rfl) (by kernel_rfl) rfl ?_ HSS.out ?_
          rotate_left
          · intro w9 hS9; obtain ⟨q0, q1, q2, q3⟩ := hS9; go_simp; (first | done | with_reducible rfl)
          try simp only [Act.put, List.setIfInBounds_toArray, List.set_cons_zero, List.set_cons_succ]
          refine stepQ HOPS 7 255 ?_ (by decide) rfl (by kernel_rfl) (by kernel_rfl) rfl ?_ HSS.out ?_
          rotate_left
          · intro w9 hS9; obtain ⟨q0, q1, q2, q3⟩ := hS9; go_simp; (first | done | with_reducible rfl)
          try simp only [Act.put, List.setIfInBounds_toArray, List.set_cons_zero, List.set_cons_succ]
          refine stepQ HOPS 8 511 ?_ (by decide) rfl (by kernel_rfl) (by kernel_rfl) rfl ?_ HSS.out ?_
          rotate_left
          · intro w9 hS9; obtain ⟨q0, q1, q2, q3⟩ := hS9; go_simp; (first | done | with_reducible rfl)
          try simp only [Act.put, List.setIfInBounds_toArray, List.set_cons_zero, List.set_cons_succ]
          refine stepQ HOPS 9 1023 ?_ (by decide) rfl (by kernel_rfl) (by kernel_rfl) rfl ?_ HSS.out ?_
          rotate_left
          · intro w9 hS9; obtain ⟨q0, q1, q2, q3⟩ := hS9; go_simp; (first | done | with_reducible rfl)
          try simp only [Act.put, List.setIfInBounds_toArray, List.set_cons_zero, List.set_cons_succ]
          refine stepQ HOPS 10 2047 ?_ (by decide) rfl (by kernel_rfl) (by kernel_rfl) rfl ?_ HSS.out ?_
          rotate_left
          · intro w9 hS9; obtain ⟨q0, q1, q2, q3⟩ := hS9; go_simp; (first | done | with_reducible rfl)
          try simp only [Act.put, List.setIfInBounds_toArray, List.set_cons_zero, List.set_cons_succ]
          refine stepQ HOPS 11 4095 ?_ (by decide) rfl (by kernel_rfl) (by kernel_rfl) rfl ?_ HSS.out ?_
          rotate_left
          · intro w9 hS9; obtain ⟨q0, q1, q2, q3⟩ := hS9; go_simp; (first | done | with_reducible rfl)
          try simp only [Act.put, List.setIfInBounds_toArray, List.set_cons_zero, List.set_cons_succ]
          refine stepQ HOPS 12 8191 ?_ (by decide) rfl (by kernel_rfl) (by kernel_rfl) rfl ?_ HSS.out ?_
          rotate_left
          · intro w9 hS9; obtain ⟨q0, q1, q2, q3⟩ := hS9; go_simp; (first | done | with_reducible rfl)
          try simp only [Act.put, List.setIfInBounds_toArray, List.set_cons_zero, List.set_cons_succ]
          refine stepQ HOPS 13 16383 ?_ (by decide) rfl (by kernel_rfl) (by kernel_rfl) rfl ?_ HSS.out ?_
          rotate_left
          · intro w9 hS9; obtain ⟨q0, q1, q2, q3⟩ := hS9; go_simp; (first | done | with_reducible rfl)
          try simp only [Act.put, List.setIfInBounds_toArray, List.set_cons_zero, List.set_cons_succ]
          refine stepQ HOPS 14 32767 ?_ (by decide) rfl (by kernel_rfl) (by kernel_rfl) rfl ?_ HSS.out ?_
          rotate_left
          · intro w9 hS9; obtain ⟨q0, q1, q2, q3⟩ := hS9; go_simp; (first | done | with_reducible rfl)
          try simp only [Act.put, List.setIfInBounds_toArray, List.set_cons_zero, List.set_cons_succ]
          refine stepU HOPS 15 65535 (by decide) rfl (by kernel_rfl) (by kernel_rfl) rfl HSS.out ?_
          try simp only [Act.put, List.setIfInBounds_toArray, List.set_cons_zero, List.set_cons_succ]
          refine stepU HOPS 16 131071 (by decide) rfl (by kernel_rfl) (by kernel_rfl) rfl HSS.out ?_
          try simp only [Act.put, List.setIfInBounds_toArray, List.set_cons_zero, List.set_cons_succ]
          refine stepU HOPS 17 262143 (by decide) rfl (by kernel_rfl) (by kernel_rfl) rfl HSS.out ?_
          try simp only [Act.put, List.setIfInBounds_toArray, List.set_cons_zero, List.set_cons_succ]
          refine stepU HOPS 18 524287 (by decide) rfl (by kernel_rfl) (by kernel_rfl) rfl HSS.out ?_
          try simp only [Act.put, List.setIfInBounds_toArray, List.set_cons_zero, List.set_cons_succ]
          refine stepU HOPS 19 1048575 (by decide) rfl (by kernel_rfl) (by kernel_rfl) rfl HSS.out ?_
          try simp only [Act.put, List.setIfInBounds_toArray, List.set_cons_zero, List.set_cons_succ]
          refine stepU HOPS 20 2097151 (by decide) rfl (by kernel_rfl) (by kernel_rfl) rfl HSS.out ?_
          try simp only [Act.put, List.setIfInBounds_toArray, List.set_cons_zero, List.set_cons_succ]
          refine stepU HOPS 21 4194303 (by decide) rfl (by kernel_rfl) (by kernel_rfl) rfl HSS.out ?_
          try simp only [Act.put, List.setIfInBounds_toArray, List.set_cons_zero, List.set_cons_succ]
          refine stepU HOPS 22 8388607 (by decide) rfl (by kernel_rfl) (by kernel_rfl) rfl HSS.out ?_
          try simp only [Act.put, List.setIfInBounds_toArray, List.set_cons_zero, List.set_cons_succ]
          refine stepU HOPS 23 16777215 (by decide) rfl (by kernel_rfl) (by kernel_rfl) rfl HSS.out ?_
          try simp only [Act.put, List.setIfInBounds_toArray, List.set_cons_zero, List.set_cons_succ]
          refine stepU HOPS 24 33554431 (by decide) rfl (by kernel_rfl) (by kernel_rfl) rfl HSS.out ?_
          try simp only [Act.put, List.setIfInBounds_toArray, List.set_cons_zero, List.set_cons_succ]
          refine stepU HOPS 25 67108863 (by decide) rfl (by kernel_rfl) (by kernel_rfl) rfl HSS.out ?_
          try simp only [Act.put, List.setIfInBounds_toArray, List.set_cons_zero, List.set_cons_succ]
          refine stepU HOPS 26 134217727 (by decide) rfl (by kernel_rfl) (by kernel_rfl) rfl HSS.out ?_
          try simp only [Act.put, List.setIfInBounds_toArray, List.set_cons_zero, List.set_cons_succ]
          refine stepU HOPS 27 268435455 (by decide) rfl (by kernel_rfl) (by kernel_rfl) rfl HSS.out ?_
          try simp only [Act.put, List.setIfInBounds_toArray, List.set_cons_zero, List.set_cons_succ]
          refine stepU HOPS 28 536870911 (by decide) rfl (by kernel_rfl) (by kernel_rfl) rfl HSS.out ?_
          try simp only [Act.put, List.setIfInBounds_toArray, List.set_cons_zero, List.set_cons_succ]
          refine stepU HOPS 29 1073741823 (by decide) rfl (by kernel_rfl) (by kernel_rfl) rfl HSS.out ?_
          try simp only [Act.put, List.setIfInBounds_toArray, List.set_cons_zero, List.set_cons_succ]
          refine stepU HOPS 30 2147483647 (by decide) rfl (by kernel_rfl) (by kernel_rfl) rfl HSS.out ?_
          try simp only [Act.put, List.setIfInBounds_toArray, List.set_cons_zero, List.set_cons_succ]
          refine stepQ HOPS 31 4294967295 ?_ (by decide) rfl (by kernel_rfl) (by kernel_rfl) rfl ?_ HSS.out ?_
          rotate_left
          · intro w9 hS9; obtain ⟨q0, q1, q2, q3⟩ := hS9; go_simp; (first | done | with_reducible rfl)
          try simp only [Act.put, List.setIfInBounds_toArray, List.set_cons_zero, List.set_cons_succ]
          refine stepQ HOPS 32 8589934591 ?_ (by decide) rfl (by kernel_rfl) (by kernel_rfl) rfl ?_ HSS.out ?_
          rotate_left
          · intro w9 hS9; obtain ⟨q0, q1, q2, q3⟩ := hS9; go_simp; (first | done | with_reducible rfl)
          try simp only [Act.put, List.setIfInBounds_toArray, List.set_cons_zero, List.set_cons_succ]
          refine stepU HOPS 33 17179869183 (by decide) rfl (by kernel_rfl) (by kernel_rfl) rfl HSS.out ?_
          try simp only [Act.put, List.setIfInBounds_toArray, List.set_cons_zero, List.set_cons_succ]
          refine stepU HOPS 34 34359738367 (by decide) rfl (by kernel_rfl) (by kernel_rfl) rfl HSS.out ?_
          try simp only [Act.put, List.setIfInBounds_toArray, List.set_cons_zero, List.set_cons_succ]
          refine stepU HOPS 35 68719476735 (by decide) rfl (by kernel_rfl) (by kernel_rfl) rfl HSS.out ?_
          try simp only [Act.put, List.setIfInBounds_toArray, List.set_cons_zero, List.set_cons_succ]
          refine stepU HOPS 36 137438953471 (by decide) rfl (by kernel_rfl) (by kernel_rfl) rfl HSS.out ?_
          try simp only [Act.put, List.setIfInBounds_toArray, List.set_cons_zero, List.set_cons_succ]
          refine stepU HOPS 37 274877906943 (by decide) rfl (by kernel_rfl) (by kernel_rfl) rfl HSS.out ?_
          try simp only [Act.put, List.setIfInBounds_toArray, List.set_cons_zero, List.set_cons_succ]
          refine stepU HOPS 38 549755813887 (by decide) rfl (by kernel_rfl) (by kernel_rfl) rfl HSS.out ?_
          try simp only [Act.put, List.setIfInBounds_toArray, List.set_cons_zero, List.set_cons_succ]
          refine stepQ HOPS 39 1099511627775 ?_ (by decide) rfl (by kernel_rfl) (by kernel_rfl) rfl ?_ HSS.out ?_
          rotate_left
          · intro w9 hS9; obtain ⟨q0, q1, q2, q3⟩ := hS9; go_simp; (first | done | with_reducible rfl)
          try simp only [Act.put, List.setIfInBounds_toArray, List.set_cons_zero, List.set_cons_succ]
          refine stepQ HOPS 40 2199023255551 ?_ (by decide) rfl (by kernel_rfl) (by kernel_rfl) rfl ?_ HSS.out ?_
          rotate_left
          · intro w9 hS9; obtain ⟨q0, q1, q2, q3⟩ := hS9; go_simp; (first | done | with_reducible rfl)
          try simp only [Act.put, List.setIfInBounds_toArray, List.set_cons_zero, List.set_cons_succ]
          refine stepU HOPS 41 4398046511103 (by decide) rfl (by kernel_rfl) (by kernel_rfl) rfl HSS.out ?_
          try simp only [Act.put, List.setIfInBounds_toArray, List.set_cons_zero, List.set_cons_succ]
          refine stepU HOPS 42 8796093022207 (by decide) rfl (by kernel_rfl) (by kernel_rfl) rfl HSS.out ?_
          try simp only [Act.put, List.setIfInBounds_toArray, List.set_cons_zero, List.set_cons_succ]
          refine stepU HOPS 43 17592186044415 (by decide) rfl (by kernel_rfl) (by kernel_rfl) rfl HSS.out ?_
          try simp only [Act.put, List.setIfInBounds_toArray, List.set_cons_zero, List.set_cons_succ]
          refine stepU HOPS 44 35184372088831 (by decide) rfl (by kernel_rfl) (by kernel_rfl) rfl HSS.out ?_
          try simp only [Act.put, List.setIfInBounds_toArray, List.set_cons_zero, List.set_cons_succ]
          refine stepU HOPS 45 70368744177663 (by decide) rfl (by kernel_rfl) (by kernel_rfl) rfl HSS.out ?_
          try simp only [Act.put, List.setIfInBounds_toArray, List.set_cons_zero, List.set_cons_succ]
          refine stepU HOPS 46 140737488355327 (by decide) rfl (by kernel_rfl) (by kernel_rfl) rfl HSS.out ?_
          try simp only [Act.put, List.setIfInBounds_toArray, List.set_cons_zero, List.set_cons_succ]
          refine stepU HOPS 47 281474976710655 (by decide) rfl (by kernel_rfl) (by kernel_rfl) rfl HSS.out ?_
          try simp only [Act.put, List.setIfInBounds_toArray, List.set_cons_zero, List.set_cons_succ]
          refine stepU HOPS 48 562949953421311 (by decide) rfl (by kernel_rfl) (by kernel_rfl) rfl HSS.out ?_
          try simp only [Act.put, List.setIfInBounds_toArray, List.set_cons_zero, List.set_cons_succ]
          refine stepU HOPS 49 1125899906842623 (by decide) rfl (by kernel_rfl) (by kernel_rfl) rfl HSS.out ?_
          try simp only [Act.put, List.setIfInBounds_toArray, List.set_cons_zero, List.set_cons_succ]
          refine stepU HOPS 50 2251799813685247 (by decide) rfl (by kernel_rfl) (by kernel_rfl) rfl HSS.out ?_
          try simp only [Act.put, List.setIfInBounds_toArray, List.set_cons_zero, List.set_cons_succ]
          refine stepU HOPS 51 4503599627370495 (by decide) rfl (by kernel_rfl) (by kernel_rfl) rfl HSS.out ?_
          try simp only [Act.put, List.setIfInBounds_toArray, List.set_cons_zero, List.set_cons_succ]
          refine stepQ HOPS 52 9007199254740991 ?_ (by decide) rfl (by kernel_rfl) (by kernel_rfl) rfl ?_ HSS.out ?_
          rotate_left
          · intro w9 hS9; obtain ⟨q0, q1, q2, q3⟩ := hS9; go_simp; (first | done | with_reducible rfl)
          try simp only [Act.put, List.setIfInBounds_toArray, List.set_cons_zero, List.set_cons_succ]
          refine stepQ HOPS 53 18014398509481983 ?_ (by decide) rfl (by kernel_rfl) (by kernel_rfl) rfl ?_ HSS.out ?_
          rotate_left
          · intro w9 hS9; obtain ⟨q0, q1, q2, q3⟩ := hS9; go_simp; (first | done | with_reducible rfl)
          try simp only [Act.put, List.setIfInBounds_toArray, List.set_cons_zero, List.set_cons_succ]
          refine stepU HOPS 54 36028797018963967 (by decide) rfl (by kernel_rfl) (by kernel_rfl) rfl HSS.out ?_
          try simp only [Act.put, List.setIfInBounds_toArray, List.set_cons_zero, List.set_cons_succ]
          refine stepU HOPS 55 72057594037927935 (by decide) rfl (by kernel_rfl) (by kernel_rfl) rfl HSS.out ?_
          try simp only [Act.put, List.setIfInBounds_toArray, List.set_cons_zero, List.set_cons_succ]
          refine stepU HOPS 56 144115188075855871 (by decide) rfl (by kernel_rfl) (by kernel_rfl) rfl HSS.out ?_
          try simp only [Act.put, List.setIfInBounds_toArray, List.set_cons_zero, List.set_cons_succ]
          refine stepU HOPS 57 288230376151711743 (by decide) rfl (by kernel_rfl) (by kernel_rfl) rfl HSS.out ?_
          try simp only [Act.put, List.setIfInBounds_toArray, List.set_cons_zero, List.set_cons_succ]
          refine stepU HOPS 58 576460752303423487 (by decide) rfl (by kernel_rfl) (by kernel_rfl) rfl HSS.out ?_
          try simp only [Act.put, List.setIfInBounds_toArray, List.set_cons_zero, List.set_cons_succ]
          refine stepU HOPS 59 1152921504606846975 (by decide) rfl (by kernel_rfl) (by kernel_rfl) rfl HSS.out ?_
          try simp only [Act.put, List.setIfInBounds_toArray, List.set_cons_zero, List.set_cons_succ]
          refine stepQ HOPS 60 2305843009213693951 ?_ (by decide) rfl (by kernel_rfl) (by kernel_rfl) rfl ?_ HSS.out ?_
          rotate_left
          · intro w9 hS9; obtain ⟨q0, q1, q2, q3⟩ := hS9; go_simp; (first | done | with_reducible rfl)
          try simp only [Act.put, List.setIfInBounds_toArray, List.set_cons_zero, List.set_cons_succ]
          refine stepE HOPS (by kernel_rfl) (HQ.out _ _ ?_)
          clear HQ HOPS
          clear Q ops
          go_wp2
          go_ret
          exact ⟨by rw [HF.out]; rfl, bel_drew HB.out⟩
        have c2' := of_decide_eq_false c2
        rcases c4 : decide (x.kind ≤ p) with _ | _
        rotate_left
        · have c4' := of_decide_eq_true c4
          have HF := Lib.hid (show right l = false by rw [HD.out, HS.out, decide_eq_false (by omega)]; rfl)
          go_wp2
          refine region_let (fun W9 : World => W9.cell? ⟨b, o + (j + 1) * 3, none⟩ = some (.int .i64 x.kind) ∧ W9.cell? ⟨b, o + (j + 1) * 3 + 1, none⟩ = some (.int .i64 x.lo) ∧ W9.cell? ⟨b, o + (j + 1) * 3 + 2, none⟩ = some (.int .i64 x.hi) ∧ W9.cell? ⟨b, o + j * 3, none⟩ = some (.int .i64 p)) 99 61 hmx rfl fun ops Q HOPS HQ => ?_
          refine stepQ HOPS 0 1 ?_ (by decide) rfl (by kernel_rfl) (by kernel_rfl) rfl ?_ HSS.out ?_
          rotate_left
          · intro w9 hS9; obtain ⟨q0, q1, q2, q3⟩ := hS9; go_simp; (first | done | with_reducible rfl)
          try simp only [Act.put, List.setIfInBounds_toArray, List.set_cons_zero, List.set_cons_succ]
          refine stepQ HOPS 1 3 ?_ (by decide) rfl (by kernel_rfl) (by kernel_rfl) rfl ?_ HSS.out ?_
          rotate_left
          · intro w9 hS9; obtain ⟨q0, q1, q2, q3⟩ := hS9; go_simp; (first | done | with_reducible rfl)
          try simp only [Act.put, List.setIfInBounds_toArray, List.set_cons_zero, List.set_cons_succ]
          refine stepQ HOPS 2 7 ?_ (by decide) rfl (by kernel_rfl) (by kernel_rfl) rfl ?_ HSS.out ?_
          rotate_left
          · intro w9 hS9; obtain ⟨q0, q1, q2, q3⟩ := hS9; go_simp; (first | done | with_reducible rfl)
          try simp only [Act.put, List.setIfInBounds_toArray, List.set_cons_zero, List.set_cons_succ]
          refine stepQ HOPS 3 15 ?_ (by decide) rfl (by kernel_rfl) (by kernel_rfl) rfl ?_ HSS.out ?_
          rotate_left
          · intro w9 hS9; obtain ⟨q0, q1, q2, q3⟩ := hS9; go_simp; (first | done | with_reducible rfl)
          try simp only [Act.put, List.setIfInBounds_toArray, List.set_cons_zero, List.set_cons_succ]
          refine stepQ HOPS 4 31 ?_ (by decide) rfl (by kernel_rfl) (by kernel_rfl) rfl ?_ HSS.out ?_
          rotate_left
          · intro w9 hS9; obtain ⟨q0, q1, q2, q3⟩ := hS9; go_simp; (first | done | with_reducible rfl)
          try simp only [Act.put, List.setIfInBounds_toArray, List.set_cons_zero, List.set_cons_succ]
          refine stepQ HOPS 5 63 ?_ (by decide) rfl (by kernel_rfl) (by kernel_rfl) rfl ?_ HSS.out ?_
          rotate_left
          · intro w9 hS9; obtain ⟨q0, q1, q2, q3⟩ := hS9; go_simp; (first | done | with_reducible rfl)
          try simp only [Act.put, List.setIfInBounds_toArray, List.set_cons_zero, List.set_cons_succ]
          refine stepQ HOPS 6 127 ?_ (by decide) rfl (by kernel_rfl) (by kernel_rfl) rfl ?_ HSS.out ?_
          rotate_left
          · intro w9 hS9; obtain ⟨q0, q1, q2, q3⟩ := hS9; go_simp; (first | done | with_reducible rfl)
          try simp only [Act.put, List.setIfInBounds_toArray, List.set_cons_zero, List.set_cons_succ]
          refine stepQ HOPS 7 255 ?_ (by decide) rfl (by kernel_rfl) (by kernel_rfl) rfl ?_ HSS.out ?_
          rotate_left
          · intro w9 hS9; obtain ⟨q0, q1, q2, q3⟩ := hS9; go_simp; (first | done | with_reducible rfl)
          try simp only [Act.put, List.setIfInBounds_toArray, List.set_cons_zero, List.set_cons_succ]
          refine stepQ HOPS 8 511 ?_ (by decide) rfl (by kernel_rfl) (by kernel_rfl) rfl ?_ HSS.out ?_
          rotate_left
          · intro w9 hS9; obtain ⟨q0, q1, q2, q3⟩ := hS9; go_simp; (first | done | with_reducible rfl)
          try simp only [Act.put, List.setIfInBounds_toArray, List.set_cons_zero, List.set_cons_succ]
          refine stepQ HOPS 9 1023 ?_ (by decide) rfl (by kernel_rfl) (by kernel_rfl) rfl ?_ HSS.out ?_
          rotate_left
          · intro w9 hS9; obtain ⟨q0, q1, q2, q3⟩ := hS9; go_simp; (first | done | with_reducible rfl)
          try simp only [Act.put, List.setIfInBounds_toArray, List.set_cons_zero, List.set_cons_succ]
          refine stepQ HOPS 10 2047 ?_ (by decide) rfl (by kernel_rfl) (by kernel_rfl) rfl ?_ HSS.out ?_
          rotate_left
          · intro w9 hS9; obtain ⟨q0, q1, q2, q3⟩ := hS9; go_simp; (first | done | with_reducible rfl)
          try simp only [Act.put, List.setIfInBounds_toArray, List.set_cons_zero, List.set_cons_succ]
          refine stepQ HOPS 11 4095 ?_ (by decide) rfl (by kernel_rfl) (by kernel_rfl) rfl ?_ HSS.out ?_
          rotate_left
          · intro w9 hS9; obtain ⟨q0, q1, q2, q3⟩ := hS9; go_simp; (first | done | with_reducible rfl)
          try simp only [Act.put, List.setIfInBounds_toArray, List.set_cons_zero, List.set_cons_succ]
          refine stepQ HOPS 12 8191 ?_ (by decide) rfl (by kernel_rfl) (by kernel_rfl) rfl ?_ HSS.out ?_
          rotate_left
          · intro w9 hS9; obtain ⟨q0, q1, q2, q3⟩ := hS9; go_simp; (first | done | with_reducible rfl)
          try simp only [Act.put, List.setIfInBounds_toArray, List.set_cons_zero, List.set_cons_succ]
          refine stepQ HOPS 13 16383 ?_ (by decide) rfl (by kernel_rfl) (by kernel_rfl) rfl ?_ HSS.out ?_
          rotate_left
          · intro w9 hS9; obtain ⟨q0, q1, q2, q3⟩ := hS9; go_simp; (first | done | with_reducible rfl)
          try simp only [Act.put, List.setIfInBounds_toArray, List.set_cons_zero, List.set_cons_succ]
          refine stepQ HOPS 14 32767 ?_ (by decide) rfl (by kernel_rfl) (by kernel_rfl) rfl ?_ HSS.out ?_
          rotate_left
          · intro w9 hS9; obtain ⟨q0, q1, q2, q3⟩ := hS9; go_simp; (first | done | with_reducible rfl)
          try simp only [Act.put, List.setIfInBounds_toArray, List.set_cons_zero, List.set_cons_succ]
          refine stepQ HOPS 15 65535 ?_ (by decide) rfl (by kernel_rfl) (by kernel_rfl) rfl ?_ HSS.out ?_
          rotate_left
          · intro w9 hS9; obtain ⟨q0, q1, q2, q3⟩ := hS9; go_simp; (first | done | with_reducible rfl)
          try simp only [Act.put, List.setIfInBounds_toArray, List.set_cons_zero, List.set_cons_succ]
          refine stepQ HOPS 16 131071 ?_ (by decide) rfl (by kernel_rfl) (by kernel_rfl) rfl ?_ HSS.out ?_
          rotate_left
          · intro w9 hS9; obtain ⟨q0, q1, q2, q3⟩ := hS9; go_simp; (first | done | with_reducible rfl)
          try simp only [Act.put, List.setIfInBounds_toArray, List.set_cons_zero, List.set_cons_succ]
          refine stepQ HOPS 17 262143 ?_ (by decide) rfl (by kernel_rfl) (by kernel_rfl) rfl ?_ HSS.out ?_
          rotate_left
          · intro w9 hS9; obtain ⟨q0, q1, q2, q3⟩ := hS9; go_simp; (first | done | with_reducible rfl)
          try simp only [Act.put, List.setIfInBounds_toArray, List.set_cons_zero, List.set_cons_succ]
          refine stepQ HOPS 18 524287 ?_ (by decide) rfl (by kernel_rfl) (by kernel_rfl) rfl ?_ HSS.out ?_
          rotate_left
          · intro w9 hS9; obtain ⟨q0, q1, q2, q3⟩ := hS9; go_simp; (first | done | with_reducible rfl)
          try simp only [Act.put, List.setIfInBounds_toArray, List.set_cons_zero, List.set_cons_succ]
          refine stepQ HOPS 19 1048575 ?_ (by decide) rfl (by kernel_rfl) (by kernel_rfl) rfl ?_ HSS.out ?_
          rotate_left
          · intro w9 hS9; obtain ⟨q0, q1, q2, q3⟩ := hS9; go_simp; (first | done | with_reducible rfl)
          try simp only [Act.put, List.setIfInBounds_toArray, List.set_cons_zero, List.set_cons_succ]
          refine stepQ HOPS 20 2097151 ?_ (by decide) rfl (by kernel_rfl) (by kernel_rfl) rfl ?_ HSS.out ?_
          rotate_left
          · intro w9 hS9; obtain ⟨q0, q1, q2, q3⟩ := hS9; go_simp; (first | done | with_reducible rfl)
          try simp only [Act.put, List.setIfInBounds_toArray, List.set_cons_zero, List.set_cons_succ]
          refine stepQ HOPS 21 4194303 ?_ (by decide) rfl (by kernel_rfl) (by kernel_rfl) rfl ?_ HSS.out ?_
          rotate_left
          · intro w9 hS9; obtain ⟨q0, q1, q2, q3⟩ := hS9; go_simp; (first | done | with_reducible rfl)
          try simp only [Act.put, List.setIfInBounds_toArray, List.set_cons_zero, List.set_cons_succ]
          refine stepQ HOPS 22 8388607 ?_ (by decide) rfl (by kernel_rfl) (by kernel_rfl) rfl ?_ HSS.out ?_
          rotate_left
          · intro w9 hS9; obtain ⟨q0, q1, q2, q3⟩ := hS9; go_simp; (first | done | with_reducible rfl)
          try simp only [Act.put, List.setIfInBounds_toArray, List.set_cons_zero, List.set_cons_succ]
          refine stepQ HOPS 23 16777215 ?_ (by decide) rfl (by kernel_rfl) (by kernel_rfl) rfl ?_ HSS.out ?_
          rotate_left
          · intro w9 hS9; obtain ⟨q0, q1, q2, q3⟩ := hS9; go_simp; (first | done | with_reducible rfl)
          try simp only [Act.put, List.setIfInBounds_toArray, List.set_cons_zero, List.set_cons_succ]
          refine stepQ HOPS 24 33554431 ?_ (by decide) rfl (by kernel_rfl) (by kernel_rfl) rfl ?_ HSS.out ?_
          rotate_left
          · intro w9 hS9; obtain ⟨q0, q1, q2, q3⟩ := hS9; go_simp; (first | done | with_reducible rfl)
          try simp only [Act.put, List.setIfInBounds_toArray, List.set_cons_zero, List.set_cons_succ]
          refine stepQ HOPS 25 67108863 ?_ (by decide) rfl (by kernel_rfl) (by kernel_rfl) rfl ?_ HSS.out ?_
          rotate_left
          · intro w9 hS9; obtain ⟨q0, q1, q2, q3⟩ := hS9; go_simp; (first | done | with_reducible rfl)
          try simp only [Act.put, List.setIfInBounds_toArray, List.set_cons_zero, List.set_cons_succ]
          refine stepQ HOPS 26 134217727 ?_ (by decide) rfl (by kernel_rfl) (by kernel_rfl) rfl ?_ HSS.out ?_
          rotate_left
          · intro w9 hS9; obtain ⟨q0, q1, q2, q3⟩ := hS9; go_simp; (first | done | with_reducible rfl)
          try simp only [Act.put, List.setIfInBounds_toArray, List.set_cons_zero, List.set_cons_succ]
          refine stepQ HOPS 27 268435455 ?_ (by decide) rfl (by kernel_rfl) (by kernel_rfl) rfl ?_ HSS.out ?_
          rotate_left
          · intro w9 hS9; obtain ⟨q0, q1, q2, q3⟩ := hS9; go_simp; (first | done | with_reducible rfl)
          try simp only [Act.put, List.setIfInBounds_toArray, List.set_cons_zero, List.set_cons_succ]
          refine stepQ HOPS 28 536870911 ?_ (by decide) rfl (by kernel_rfl) (by kernel_rfl) rfl ?_ HSS.out ?_
          rotate_left
          · intro w9 hS9; obtain ⟨q0, q1, q2, q3⟩ := hS9; go_simp; (first | done | with_reducible rfl)
          try simp only [Act.put, List.setIfInBounds_toArray, List.set_cons_zero, List.set_cons_succ]
          refine stepQ HOPS 29 1073741823 ?_ (by decide) rfl (by kernel_rfl) (by kernel_rfl) rfl ?_ HSS.out ?_
          rotate_left
          · intro w9 hS9; obtain ⟨q0, q1, q2, q3⟩ := hS9; go_simp; (first | done | with_reducible rfl)
          try simp only [Act.put, List.setIfInBounds_toArray, List.set_cons_zero, List.set_cons_succ]
          refine stepQ HOPS 30 2147483647 ?_ (by decide) rfl (by kernel_rfl) (by kernel_rfl) rfl ?_ HSS.out ?_
          rotate_left
          · intro w9 hS9; obtain ⟨q0, q1, q2, q3⟩ := hS9; go_simp; (first | done | with_reducible rfl)
          try simp only [Act.put, List.setIfInBounds_toArray, List.set_cons_zero, List.set_cons_succ]
          refine stepQ HOPS 31 4294967295 ?_ (by decide) rfl (by kernel_rfl) (by kernel_rfl) rfl ?_ HSS.out ?_
          rotate_left
          · intro w9 hS9; obtain ⟨q0, q1, q2, q3⟩ := hS9; go_simp; (first | done | with_reducible rfl)
          try simp only [Act.put, List.setIfInBounds_toArray, List.set_cons_zero, List.set_cons_succ]
          refine stepQ HOPS 32 8589934591 ?_ (by decide) rfl (by kernel_rfl) (by kernel_rfl) rfl ?_ HSS.out ?_
          rotate_left
          · intro w9 hS9; obtain ⟨q0, q1, q2, q3⟩ := hS9; go_simp; (first | done | with_reducible rfl)
          try simp only [Act.put, List.setIfInBounds_toArray, List.set_cons_zero, List.set_cons_succ]
          refine stepU HOPS 33 17179869183 (by decide) rfl (by kernel_rfl) (by kernel_rfl) rfl HSS.out ?_
          try simp only [Act.put, List.setIfInBounds_toArray, List.set_cons_zero, List.set_cons_succ]
          refine stepU HOPS 34 34359738367 (by decide) rfl (by kernel_rfl) (by kernel_rfl) rfl HSS.out ?_
          try simp only [Act.put, List.setIfInBounds_toArray, List.set_cons_zero, List.set_cons_succ]
          refine stepU HOPS 35 68719476735 (by decide) rfl (by kernel_rfl) (by kernel_rfl) rfl HSS.out ?_
          try simp only [Act.put, List.setIfInBounds_toArray, List.set_cons_zero, List.set_cons_succ]
          refine stepU HOPS 36 137438953471 (by decide) rfl (by kernel_rfl) (by kernel_rfl) rfl HSS.out ?_
          try simp only [Act.put, List.setIfInBounds_toArray, List.set_cons_zero, List.set_cons_succ]
          refine stepU HOPS 37 274877906943 (by decide) rfl (by kernel_rfl) (by kernel_rfl) rfl HSS.out ?_
          try simp only [Act.put, List.setIfInBounds_toArray, List.set_cons_zero, List.set_cons_succ]
          refine stepU HOPS 38 549755813887 (by decide) rfl (by kernel_rfl) (by kernel_rfl) rfl HSS.out ?_
          try simp only [Act.put, List.setIfInBounds_toArray, List.set_cons_zero, List.set_cons_succ]
          refine stepQ HOPS 39 1099511627775 ?_ (by decide) rfl (by kernel_rfl) (by kernel_rfl) rfl ?_ HSS.out ?_
          rotate_left
          · intro w9 hS9; obtain ⟨q0, q1, q2, q3⟩ := hS9; go_simp; (first | done | with_reducible rfl)
          try simp only [Act.put, List.setIfInBounds_toArray, List.set_cons_zero, List.set_cons_succ]
          refine stepQ HOPS 40 2199023255551 ?_ (by decide) rfl (by kernel_rfl) (by kernel_rfl) rfl ?_ HSS.out ?_
          rotate_left
          · intro w9 hS9; obtain ⟨q0, q1, q2, q3⟩ := hS9; go_simp; (first | done | with_reducible rfl)
          try simp only [Act.put, List.setIfInBounds_toArray, List.set_cons_zero, List.set_cons_succ]
          refine stepU HOPS 41 4398046511103 (by decide) rfl (by kernel_rfl) (by kernel_rfl) rfl HSS.out ?_
          try simp only [Act.put, List.setIfInBounds_toArray, List.set_cons_zero, List.set_cons_succ]
          refine stepU HOPS 42 8796093022207 (by decide) rfl (by kernel_rfl) (by kernel_rfl) rfl HSS.out ?_
          try simp only [Act.put, List.setIfInBounds_toArray, List.set_cons_zero, List.set_cons_succ]
          refine stepU HOPS 43 17592186044415 (by decide) rfl (by kernel_rfl) (by kernel_rfl) rfl HSS.out ?_
          try simp only [Act.put, List.setIfInBounds_toArray, List.set_cons_zero, List.set_cons_succ]
          refine stepU HOPS 44 35184372088831 (by decide) rfl (by kernel_rfl) (by kernel_rfl) rfl HSS.out ?_
          try simp only [Act.put, List.setIfInBounds_toArray, List.set_cons_zero, List.set_cons_succ]
          refine stepU HOPS 45 70368744177663 (by decide) rfl (by kernel_rfl) (by kernel_rfl) rfl HSS.out ?_
          try simp only [Act.put, List.setIfInBounds_toArray, List.set_cons_zero, List.set_cons_succ]
          refine stepU HOPS 46 140737488355327 (by decide) rfl (by kernel_rfl) (by kernel_rfl) rfl HSS.out ?_
          try simp only [Act.put, List.setIfInBounds_toArray, List.set_cons_zero, List.set_cons_succ]
          refine stepU HOPS 47 281474976710655 (by decide) rfl (by kernel_rfl) (by kernel_rfl) rfl HSS.out ?_
          try simp only [Act.put, List.setIfInBounds_toArray, List.set_cons_zero, List.set_cons_succ]
          refine stepU HOPS 48 562949953421311 (by decide) rfl (by kernel_rfl) (by kernel_rfl) rfl HSS.out ?_
          try simp only [Act.put, List.setIfInBounds_toArray, List.set_cons_zero, List.set_cons_succ]
          refine stepU HOPS 49 1125899906842623 (by decide) rfl (by kernel_rfl) (by kernel_rfl) rfl HSS.out ?_
          try simp only [Act.put, List.setIfInBounds_toArray, List.set_cons_zero, List.set_cons_succ]
          refine stepU HOPS 50 2251799813685247 (by decide) rfl (by kernel_rfl) (by kernel_rfl) rfl HSS.out ?_
          try simp only [Act.put, List.setIfInBounds_toArray, List.set_cons_zero, List.set_cons_succ]
          refine stepU HOPS 51 4503599627370495 (by decide) rfl (by kernel_rfl) (by kernel_rfl) rfl HSS.out ?_
          try simp only [Act.put, List.setIfInBounds_toArray, List.set_cons_zero, List.set_cons_succ]
          refine stepQ HOPS 52 9007199254740991 ?_ (by decide) rfl (by kernel_rfl) (by kernel_rfl) rfl ?_ HSS.out ?_
          rotate_left
          · intro w9 hS9; obtain ⟨q0, q1, q2, q3⟩ := hS9; go_simp; (first | done | with_reducible rfl)
          try simp only [Act.put, List.setIfInBounds_toArray, List.set_cons_zero, List.set_cons_succ]
          refine stepQ HOPS 53 18014398509481983 ?_ (by decide) rfl (by kernel_rfl) (by kernel_rfl) rfl ?_ HSS.out ?_
          rotate_left
          · intro w9 hS9; obtain ⟨q0, q1, q2, q3⟩ := hS9; go_simp; (first | done | with_reducible rfl)
          try simp only [Act.put, List.setIfInBounds_toArray, List.set_cons_zero, List.set_cons_succ]
          refine stepU HOPS 54 36028797018963967 (by decide) rfl (by kernel_rfl) (by kernel_rfl) rfl HSS.out ?_
          try simp only [Act.put, List.setIfInBounds_toArray, List.set_cons_zero, List.set_cons_succ]
          refine stepU HOPS 55 72057594037927935 (by decide) rfl (by kernel_rfl) (by kernel_rfl) rfl HSS.out ?_
          try simp only [Act.put, List.setIfInBounds_toArray, List.set_cons_zero, List.set_cons_succ]
          refine stepU HOPS 56 144115188075855871 (by decide) rfl (by kernel_rfl) (by kernel_rfl) rfl HSS.out ?_
          try simp only [Act.put, List.setIfInBounds_toArray, List.set_cons_zero, List.set_cons_succ]
          refine stepU HOPS 57 288230376151711743 (by decide) rfl (by kernel_rfl) (by kernel_rfl) rfl HSS.out ?_
          try simp only [Act.put, List.setIfInBounds_toArray, List.set_cons_zero, List.set_cons_succ]
          refine stepU HOPS 58 576460752303423487 (by decide) rfl (by kernel_rfl) (by kernel_rfl) rfl HSS.out ?_
          try simp only [Act.put, List.setIfInBounds_toArray, List.set_cons_zero, List.set_cons_succ]
          refine stepU HOPS 59 1152921504606846975 (by decide) rfl (by kernel_rfl) (by kernel_rfl) rfl HSS.out ?_
          try simp only [Act.put, List.setIfInBounds_toArray, List.set_cons_zero, List.set_cons_succ]
          refine stepQ HOPS 60 2305843009213693951 ?_ (by decide) rfl (by kernel_rfl) (by kernel_rfl) rfl ?_ HSS.out ?_
          rotate_left
          · intro w9 hS9; obtain ⟨q0, q1, q2, q3⟩ := hS9; go_simp; (first | done | with_reducible rfl)
          try simp only [Act.put, List.setIfInBounds_toArray, List.set_cons_zero, List.set_cons_succ]
          refine stepE HOPS (by kernel_rfl) (HQ.out _ _ ?_)
          clear HQ HOPS
          clear Q ops
          go_wp2
          go_ret
          exact ⟨by rw [HF.out]; rfl, bel_drew HB.out⟩
        have c4' := of_decide_eq_false c4
        rcases c5 : decide (x.lo < 0) with _ | _
        rotate_left
        · have c5' := of_decide_eq_true c5
          have HF := Lib.hid (show right l = false by rw [HD.out, HS.out, decide_eq_false (by omega)]; rfl)
          go_wp2
          refine region_let (fun W9 : World => W9.cell? ⟨b, o + (j + 1) * 3, none⟩ = some (.int .i64 x.kind) ∧ W9.cell? ⟨b, o + (j + 1) * 3 + 1, none⟩ = some (.int .i64 x.lo) ∧ W9.cell? ⟨b, o + (j + 1) * 3 + 2, none⟩ = some (.int .i64 x.hi) ∧ W9.cell? ⟨b, o + j * 3, none⟩ = some (.int .i64 p)) 99 61 hmx rfl fun ops Q HOPS HQ => ?_
          refine stepQ HOPS 0 1 ?_ (by decide) rfl (by kernel_rfl) (by kernel_rfl) rfl ?_ HSS.out ?_
          rotate_left
          · intro w9 hS9; obtain ⟨q0, q1, q2, q3⟩ := hS9; go_simp; (first | done | with_reducible rfl)
          try simp only [Act.put, List.setIfInBounds_toArray, List.set_cons_zero, List.set_cons_succ]
          refine stepQ HOPS 1 3 ?_ (by decide) rfl (by kernel_rfl) (by kernel_rfl) rfl ?_ HSS.out ?_
          rotate_left
          · intro w9 hS9; obtain ⟨q0, q1, q2, q3⟩ := hS9; go_simp; (first | done | with_reducible rfl)
          try simp only [Act.put, List.setIfInBounds_toArray, List.set_cons_zero, List.set_cons_succ]
          refine stepQ HOPS 2 7 ?_ (by decide) rfl (by kernel_rfl) (by kernel_rfl) rfl ?_ HSS.out ?_
          rotate_left
          · intro w9 hS9; obtain ⟨q0, q1, q2, q3⟩ := hS9; go_simp; (first | done | with_reducible rfl)
          try simp only [Act.put, List.setIfInBounds_toArray, List.set_cons_zero, List.set_cons_succ]
          refine stepQ HOPS 3 15 ?_ (by decide) rfl (by kernel_rfl) (by kernel_rfl) rfl ?_ HSS.out ?_
          rotate_left
          · intro w9 hS9; obtain ⟨q0, q1, q2, q3⟩ := hS9; go_simp; (first | done | with_reducible rfl)
          try simp only [Act.put, List.setIfInBounds_toArray, List.set_cons_zero, List.set_cons_succ]
          refine stepQ HOPS 4 31 ?_ (by decide) rfl (by kernel_rfl) (by kernel_rfl) rfl ?_ HSS.out ?_
          rotate_left
          · intro w9 hS9; obtain ⟨q0, q1, q2, q3⟩ := hS9; go_simp; (first | done | with_reducible rfl)
          try simp only [Act.put, List.setIfInBounds_toArray, List.set_cons_zero, List.set_cons_succ]
          refine stepQ HOPS 5 63 ?_ (by decide) rfl (by kernel_rfl) (by kernel_rfl) rfl ?_ HSS.out ?_
          rotate_left
          · intro w9 hS9; obtain ⟨q0, q1, q2, q3⟩ := hS9; go_simp; (first | done | with_reducible rfl)
          try simp only [Act.put, List.setIfInBounds_toArray, List.set_cons_zero, List.set_cons_succ]
          refine stepQ HOPS 6 127 ?_ (by decide) rfl (by kernel_rfl) (by kernel_rfl) rfl ?_ HSS.out ?_
          rotate_left
          · intro w9 hS9; obtain ⟨q0, q1, q2, q3⟩ := hS9; go_simp; (first | done | with_reducible rfl)
          try simp only [Act.put, List.setIfInBounds_toArray, List.set_cons_zero, List.set_cons_succ]
          refine stepQ HOPS 7 255 ?_ (by decide) rfl (by kernel_rfl) (by kernel_rfl) rfl ?_ HSS.out ?_
          rotate_left
          · intro w9 hS9; obtain ⟨q0, q1, q2, q3⟩ := hS9; go_simp; (first | done | with_reducible rfl)
          try simp only [Act.put, List.setIfInBounds_toArray, List.set_cons_zero, List.set_cons_succ]
          refine stepQ HOPS 8 511 ?_ (by decide) rfl (by kernel_rfl) (by kernel_rfl) rfl ?_ HSS.out ?_
          rotate_left
          · intro w9 hS9; obtain ⟨q0, q1, q2, q3⟩ := hS9; go_simp; (first | done | with_reducible rfl)
          try simp only [Act.put, List.setIfInBounds_toArray, List.set_cons_zero, List.set_cons_succ]
          refine stepQ HOPS 9 1023 ?_ (by decide) rfl (by kernel_rfl) (by kernel_rfl) rfl ?_ HSS.out ?_
          rotate_left
          · intro w9 hS9; obtain ⟨q0, q1, q2, q3⟩ := hS9; go_simp; (first | done | with_reducible rfl)
          try simp only [Act.put, List.setIfInBounds_toArray, List.set_cons_zero, List.set_cons_succ]
          refine stepQ HOPS 10 2047 ?_ (by decide) rfl (by kernel_rfl) (by kernel_rfl) rfl ?_ HSS.out ?_
          rotate_left
          · intro w9 hS9; obtain ⟨q0, q1, q2, q3⟩ := hS9; go_simp; (first | done | with_reducible rfl)
          try simp only [Act.put, List.setIfInBounds_toArray, List.set_cons_zero, List.set_cons_succ]
          refine stepQ HOPS 11 4095 ?_ (by decide) rfl (by kernel_rfl) (by kernel_rfl) rfl ?_ HSS.out ?_
          rotate_left
          · intro w9 hS9; obtain ⟨q0, q1, q2, q3⟩ := hS9; go_simp; (first | done | with_reducible rfl)
          try simp only [Act.put, List.setIfInBounds_toArray, List.set_cons_zero, List.set_cons_succ]
          refine stepQ HOPS 12 8191 ?_ (by decide) rfl (by kernel_rfl) (by kernel_rfl) rfl ?_ HSS.out ?_
          rotate_left
          · intro w9 hS9; obtain ⟨q0, q1, q2, q3⟩ := hS9; go_simp; (first | done | with_reducible rfl)
          try simp only [Act.put, List.setIfInBounds_toArray, List.set_cons_zero, List.set_cons_succ]
          refine stepQ HOPS 13 16383 ?_ (by decide) rfl (by kernel_rfl) (by kernel_rfl) rfl ?_ HSS.out ?_
          rotate_left
          · intro w9 hS9; obtain ⟨q0, q1, q2, q3⟩ := hS9; go_simp; (first | done | with_reducible rfl)
          try simp only [Act.put, List.setIfInBounds_toArray, List.set_cons_zero, List.set_cons_succ]
          refine stepQ HOPS 14 32767 ?_ (by decide) rfl (by kernel_rfl) (by kernel_rfl) rfl ?_ HSS.out ?_
          rotate_left
          · intro w9 hS9; obtain ⟨q0, q1, q2, q3⟩ := hS9; go_simp; (first | done | with_reducible rfl)
          try simp only [Act.put, List.setIfInBounds_toArray, List.set_cons_zero, List.set_cons_succ]
          refine stepQ HOPS 15 65535 ?_ (by decide) rfl (by kernel_rfl) (by kernel_rfl) rfl ?_ HSS.out ?_
          rotate_left
          · intro w9 hS9; obtain ⟨q0, q1, q2, q3⟩ := hS9; go_simp; (first | done | with_reducible rfl)
          try simp only [Act.put, List.setIfInBounds_toArray, List.set_cons_zero, List.set_cons_succ]
          refine stepQ HOPS 16 131071 ?_ (by decide) rfl (by kernel_rfl) (by kernel_rfl) rfl ?_ HSS.out ?_
          rotate_left
          · intro w9 hS9; obtain ⟨q0, q1, q2, q3⟩ := hS9; go_simp; (first | done | with_reducible rfl)
          try simp only [Act.put, List.setIfInBounds_toArray, List.set_cons_zero, List.set_cons_succ]
          refine stepQ HOPS 17 262143 ?_ (by decide) rfl (by kernel_rfl) (by kernel_rfl) rfl ?_ HSS.out ?_
          rotate_left
          · intro w9 hS9; obtain ⟨q0, q1, q2, q3⟩ := hS9; go_simp; (first | done | with_reducible rfl)
          try simp only [Act.put, List.setIfInBounds_toArray, List.set_cons_zero, List.set_cons_succ]
          refine stepQ HOPS 18 524287 ?_ (by decide) rfl (by kernel_rfl) (by kernel_rfl) rfl ?_ HSS.out ?_
          rotate_left
          · intro w9 hS9; obtain ⟨q0, q1, q2, q3⟩ := hS9; go_simp; (first | done | with_reducible rfl)
          try simp only [Act.put, List.setIfInBounds_toArray, List.set_cons_zero, List.set_cons_succ]
          refine stepQ HOPS 19 1048575 ?_ (by decide) rfl (by kernel_rfl) (by kernel_rfl) rfl ?_ HSS.out ?_
          rotate_left
          · intro w9 hS9; obtain ⟨q0, q1, q2, q3⟩ := hS9; go_simp; (first | done | with_reducible rfl)
          try simp only [Act.put, List.setIfInBounds_toArray, List.set_cons_zero, List.set_cons_succ]
          refine stepQ HOPS 20 2097151 ?_ (by decide) rfl (by kernel_rfl) (by kernel_rfl) rfl ?_ HSS.out ?_
          rotate_left
          · intro w9 hS9; obtain ⟨q0, q1, q2, q3⟩ := hS9; go_simp; (first | done | with_reducible rfl)
          try simp only [Act.put, List.setIfInBounds_toArray, List.set_cons_zero, List.set_cons_succ]
          refine stepQ HOPS 21 4194303 ?_ (by decide) rfl (by kernel_rfl) (by kernel_rfl) rfl ?_ HSS.out ?_
          rotate_left
          · intro w9 hS9; obtain ⟨q0, q1, q2, q3⟩ := hS9; go_simp; (first | done | with_reducible rfl)
          try simp only [Act.put, List.setIfInBounds_toArray, List.set_cons_zero, List.set_cons_succ]
          refine stepQ HOPS 22 8388607 ?_ (by decide) rfl (by kernel_rfl) (by kernel_rfl) rfl ?_ HSS.out ?_
          rotate_left
          · intro w9 hS9; obtain ⟨q0, q1, q2, q3⟩ := hS9; go_simp; (first | done | with_reducible rfl)
          try simp only [Act.put, List.setIfInBounds_toArray, List.set_cons_zero, List.set_cons_succ]
          refine stepQ HOPS 23 16777215 ?_ (by decide) rfl (by kernel_rfl) (by kernel_rfl) rfl ?_ HSS.out ?_
          rotate_left
          · intro w9 hS9; obtain ⟨q0, q1, q2, q3⟩ := hS9; go_simp; (first | done | with_reducible rfl)
          try simp only [Act.put, List.setIfInBounds_toArray, List.set_cons_zero, List.set_cons_succ]
          refine stepQ HOPS 24 33554431 ?_ (by decide) rfl (by kernel_rfl) (by kernel_rfl) rfl ?_ HSS.out ?_
          rotate_left
          · intro w9 hS9; obtain ⟨q0, q1, q2, q3⟩ := hS9; go_simp; (first | done | with_reducible rfl)
          try simp only [Act.put, List.setIfInBounds_toArray, List.set_cons_zero, List.set_cons_succ]
          refine stepQ HOPS 25 67108863 ?_ (by decide) rfl (by kernel_rfl) (by kernel_rfl) rfl ?_ HSS.out ?_
          rotate_left
          · intro w9 hS9; obtain ⟨q0, q1, q2, q3⟩ := hS9; go_simp; (first | done | with_reducible rfl)
          try simp only [Act.put, List.setIfInBounds_toArray, List.set_cons_zero, List.set_cons_succ]
          refine stepQ HOPS 26 134217727 ?_ (by decide) rfl (by kernel_rfl) (by kernel_rfl) rfl ?_ HSS.out ?_
          rotate_left
          · intro w9 hS9; obtain ⟨q0, q1, q2, q3⟩ := hS9; go_simp; (first | done | with_reducible rfl)
          try simp only [Act.put, List.setIfInBounds_toArray, List.set_cons_zero, List.set_cons_succ]
          refine stepQ HOPS 27 268435455 ?_ (by decide) rfl (by kernel_rfl) (by kernel_rfl) rfl ?_ HSS.out ?_
          rotate_left
          · intro w9 hS9; obtain ⟨q0, q1, q2, q3⟩ := hS9; go_simp; (first | done | with_reducible rfl)
          try simp only [Act.put, List.setIfInBounds_toArray, List.set_cons_zero, List.set_cons_succ]
          refine stepQ HOPS 28 536870911 ?_ (by decide) rfl (by kernel_rfl) (by kernel_rfl) rfl ?_ HSS.out ?_
          rotate_left
          · intro w9 hS9; obtain ⟨q0, q1, q2, q3⟩ := hS9; go_simp; (first | done | with_reducible rfl)
          try simp only [Act.put, List.setIfInBounds_toArray, List.set_cons_zero, List.set_cons_succ]
          refine stepQ HOPS 29 1073741823 ?_ (by decide) rfl (by kernel_rfl) (by kernel_rfl) rfl ?_ HSS.out ?_
          rotate_left
          · intro w9 hS9; obtain ⟨q0, q1, q2, q3⟩ := hS9; go_simp; (first | done | with_reducible rfl)
          try simp only [Act.put, List.setIfInBounds_toArray, List.set_cons_zero, List.set_cons_succ]
          refine stepQ HOPS 30 2147483647 ?_ (by decide) rfl (by kernel_rfl) (by kernel_rfl) rfl ?_ HSS.out ?_
          rotate_left
          · intro w9 hS9; obtain ⟨q0, q1, q2, q3⟩ := hS9; go_simp; (first | done | with_reducible rfl)
          try simp only [Act.put, List.setIfInBounds_toArray, List.set_cons_zero, List.set_cons_succ]
          refine stepQ HOPS 31 4294967295 ?_ (by decide) rfl (by kernel_rfl) (by kernel_rfl) rfl ?_ HSS.out ?_
          rotate_left
          · intro w9 hS9; obtain ⟨q0, q1, q2, q3⟩ := hS9; go_simp; (first | done | with_reducible rfl)
          try simp only [Act.put, List.setIfInBounds_toArray, List.set_cons_zero, List.set_cons_succ]
          refine stepQ HOPS 32 8589934591 ?_ (by decide) rfl (by kernel_rfl) (by kernel_rfl) rfl ?_ HSS.out ?_
          rotate_left
          · intro w9 hS9; obtain ⟨q0, q1, q2, q3⟩ := hS9; go_simp; (first | done | with_reducible rfl)
          try simp only [Act.put, List.setIfInBounds_toArray, List.set_cons_zero, List.set_cons_succ]
          refine stepQ HOPS 33 17179869183 ?_ (by decide) rfl (by kernel_rfl) (by kernel_rfl) rfl ?_ HSS.out ?_
          rotate_left
          · intro w9 hS9; obtain ⟨q0, q1, q2, q3⟩ := hS9; go_simp; (first | done | with_reducible rfl)
          try simp only [Act.put, List.setIfInBounds_toArray, List.set_cons_zero, List.set_cons_succ]
          refine stepQ HOPS 34 34359738367 ?_ (by decide) rfl (by kernel_rfl) (by kernel_rfl) rfl ?_ HSS.out ?_
          rotate_left
          · intro w9 hS9; obtain ⟨q0, q1, q2, q3⟩ := hS9; go_simp; (first | done | with_reducible rfl)
          try simp only [Act.put, List.setIfInBounds_toArray, List.set_cons_zero, List.set_cons_succ]
          refine stepQ HOPS 35 68719476735 ?_ (by decide) rfl (by kernel_rfl) (by kernel_rfl) rfl ?_ HSS.out ?_
          rotate_left
          · intro w9 hS9; obtain ⟨q0, q1, q2, q3⟩ := hS9; go_simp; (first | done | with_reducible rfl)
          try simp only [Act.put, List.setIfInBounds_toArray, List.set_cons_zero, List.set_cons_succ]
          refine stepQ HOPS 36 137438953471 ?_ (by decide) rfl (by kernel_rfl) (by kernel_rfl) rfl ?_ HSS.out ?_
          rotate_left
          · intro w9 hS9; obtain ⟨q0, q1, q2, q3⟩ := hS9; go_simp; (first | done | with_reducible rfl)
          try simp only [Act.put, List.setIfInBounds_toArray, List.set_cons_zero, List.set_cons_succ]
          refine stepQ HOPS 37 274877906943 ?_ (by decide) rfl (by kernel_rfl) (by kernel_rfl) rfl ?_ HSS.out ?_
          rotate_left
          · intro w9 hS9; obtain ⟨q0, q1, q2, q3⟩ := hS9; go_simp; (first | done | with_reducible rfl)
          try simp only [Act.put, List.setIfInBounds_toArray, List.set_cons_zero, List.set_cons_succ]
          refine stepQ HOPS 38 549755813887 ?_ (by decide) rfl (by kernel_rfl) (by kernel_rfl) rfl ?_ HSS.out ?_
          rotate_left
          · intro w9 hS9; obtain ⟨q0, q1, q2, q3⟩ := hS9; go_simp; (first | done | with_reducible rfl)
          try simp only [Act.put, List.setIfInBounds_toArray, List.set_cons_zero, List.set_cons_succ]
          refine stepQ HOPS 39 1099511627775 ?_ (by decide) rfl (by kernel_rfl) (by kernel_rfl) rfl ?_ HSS.out ?_
          rotate_left
          · intro w9 hS9; obtain ⟨q0, q1, q2, q3⟩ := hS9; go_simp; (first | done | with_reducible rfl)
          try simp only [Act.put, List.setIfInBounds_toArray, List.set_cons_zero, List.set_cons_succ]
          refine stepQ HOPS 40 2199023255551 ?_ (by decide) rfl (by kernel_rfl) (by kernel_rfl) rfl ?_ HSS.out ?_
          rotate_left
          · intro w9 hS9; obtain ⟨q0, q1, q2, q3⟩ := hS9; go_simp; (first | done | with_reducible rfl)
          try simp only [Act.put, List.setIfInBounds_toArray, List.set_cons_zero, List.set_cons_succ]
          refine stepU HOPS 41 4398046511103 (by decide) rfl (by kernel_rfl) (by kernel_rfl) rfl HSS.out ?_
          try simp only [Act.put, List.setIfInBounds_toArray, List.set_cons_zero, List.set_cons_succ]
          refine stepU HOPS 42 8796093022207 (by decide) rfl (by kernel_rfl) (by kernel_rfl) rfl HSS.out ?_
          try simp only [Act.put, List.setIfInBounds_toArray, List.set_cons_zero, List.set_cons_succ]
          refine stepU HOPS 43 17592186044415 (by decide) rfl (by kernel_rfl) (by kernel_rfl) rfl HSS.out ?_
          try simp only [Act.put, List.setIfInBounds_toArray, List.set_cons_zero, List.set_cons_succ]
          refine stepU HOPS 44 35184372088831 (by decide) rfl (by kernel_rfl) (by kernel_rfl) rfl HSS.out ?_
          try simp only [Act.put, List.setIfInBounds_toArray, List.set_cons_zero, List.set_cons_succ]
          refine stepU HOPS 45 70368744177663 (by decide) rfl (by kernel_rfl) (by kernel_rfl) rfl HSS.out ?_
          try simp only [Act.put, List.setIfInBounds_toArray, List.set_cons_zero, List.set_cons_succ]
          refine stepU HOPS 46 140737488355327 (by decide) rfl (by kernel_rfl) (by kernel_rfl) rfl HSS.out ?_
          try simp only [Act.put, List.setIfInBounds_toArray, List.set_cons_zero, List.set_cons_succ]
          refine stepU HOPS 47 281474976710655 (by decide) rfl (by kernel_rfl) (by kernel_rfl) rfl HSS.out ?_
          try simp only [Act.put, List.setIfInBounds_toArray, List.set_cons_zero, List.set_cons_succ]
          refine stepU HOPS 48 562949953421311 (by decide) rfl (by kernel_rfl) (by kernel_rfl) rfl HSS.out ?_
          try simp only [Act.put, List.setIfInBounds_toArray, List.set_cons_zero, List.set_cons_succ]
          refine stepU HOPS 49 1125899906842623 (by decide) rfl (by kernel_rfl) (by kernel_rfl) rfl HSS.out ?_
          try simp only [Act.put, List.setIfInBounds_toArray, List.set_cons_zero, List.set_cons_succ]
          refine stepU HOPS 50 2251799813685247 (by decide) rfl (by kernel_rfl) (by kernel_rfl) rfl HSS.out ?_
          try simp only [Act.put, List.setIfInBounds_toArray, List.set_cons_zero, List.set_cons_succ]
          refine stepU HOPS 51 4503599627370495 (by decide) rfl (by kernel_rfl) (by kernel_rfl) rfl HSS.out ?_
          try simp only [Act.put, List.setIfInBounds_toArray, List.set_cons_zero, List.set_cons_succ]
          refine stepQ HOPS 52 9007199254740991 ?_ (by decide) rfl (by kernel_rfl) (by kernel_rfl) rfl ?_ HSS.out ?_
          rotate_left
          · intro w9 hS9; obtain ⟨q0, q1, q2, q3⟩ := hS9; go_simp; (first | done | with_reducible rfl)
          try simp only [Act.put, List.setIfInBounds_toArray, List.set_cons_zero, List.set_cons_succ]
          refine stepQ HOPS 53 18014398509481983 ?_ (by decide) rfl (by kernel_rfl) (by kernel_rfl) rfl ?_ HSS.out ?_
          rotate_left
          · intro w9 hS9; obtain ⟨q0, q1, q2, q3⟩ := hS9; go_simp; (first | done | with_reducible rfl)
          try simp only [Act.put, List.setIfInBounds_toArray, List.set_cons_zero, List.set_cons_succ]
          refine stepU HOPS 54 36028797018963967 (by decide) rfl (by kernel_rfl) (by kernel_rfl) rfl HSS.out ?_
          try simp only [Act.put, List.setIfInBounds_toArray, List.set_cons_zero, List.set_cons_succ]
          refine stepU HOPS 55 72057594037927935 (by decide) rfl (by kernel_rfl) (by kernel_rfl) rfl HSS.out ?_
          try simp only [Act.put, List.setIfInBounds_toArray, List.set_cons_zero, List.set_cons_succ]
          refine stepU HOPS 56 144115188075855871 (by decide) rfl (by kernel_rfl) (by kernel_rfl) rfl HSS.out ?_
          try simp only [Act.put, List.setIfInBounds_toArray, List.set_cons_zero, List.set_cons_succ]
          refine stepU HOPS 57 288230376151711743 (by decide) rfl (by kernel_rfl) (by kernel_rfl) rfl HSS.out ?_
          try simp only [Act.put, List.setIfInBounds_toArray, List.set_cons_zero, List.set_cons_succ]
          refine stepU HOPS 58 576460752303423487 (by decide) rfl (by kernel_rfl) (by kernel_rfl) rfl HSS.out ?_
          try simp only [Act.put, List.setIfInBounds_toArray, List.set_cons_zero, List.set_cons_succ]
          refine stepU HOPS 59 1152921504606846975 (by decide) rfl (by kernel_rfl) (by kernel_rfl) rfl HSS.out ?_
          try simp only [Act.put, List.setIfInBounds_toArray, List.set_cons_zero, List.set_cons_succ]
          refine stepQ HOPS 60 2305843009213693951 ?_ (by decide) rfl (by kernel_rfl) (by kernel_rfl) rfl ?_ HSS.out ?_
          rotate_left
          · intro w9 hS9; obtain ⟨q0, q1, q2, q3⟩ := hS9; go_simp; (first | done | with_reducible rfl)
          try simp only [Act.put, List.setIfInBounds_toArray, List.set_cons_zero, List.set_cons_succ]
          refine stepE HOPS (by kernel_rfl) (HQ.out _ _ ?_)
          clear HQ HOPS
          clear Q ops
          go_wp2
          go_ret
          exact ⟨by rw [HF.out]; rfl, bel_drew HB.out⟩
        have c5' := of_decide_eq_false c5
        rcases c6 : decide (x.hi < x.lo) with _ | _
        rotate_left
        · have c6' := of_decide_eq_true c6
          have HF := Lib.hid (show right l = false by rw [HD.out, HS.out, decide_eq_false (by omega)]; rfl)
          go_wp2
          refine region_let (fun W9 : World => W9.cell? ⟨b, o + (j + 1) * 3, none⟩ = some (.int .i64 x.kind) ∧ W9.cell? ⟨b, o + (j + 1) * 3 + 1, none⟩ = some (.int .i64 x.lo) ∧ W9.cell? ⟨b, o + (j + 1) * 3 + 2, none⟩ = some (.int .i64 x.hi) ∧ W9.cell? ⟨b, o + j * 3, none⟩ = some (.int .i64 p)) 99 61 hmx rfl fun ops Q HOPS HQ => ?_
          refine stepQ HOPS 0 1 ?_ (by decide) rfl (by kernel_rfl) (by kernel_rfl) rfl ?_ HSS.out ?_
          rotate_left
          · intro w9 hS9; obtain ⟨q0, q1, q2, q3⟩ := hS9; go_simp; (first | done | with_reducible rfl)
          try simp only [Act.put, List.setIfInBounds_toArray, List.set_cons_zero, List.set_cons_succ]
          refine stepQ HOPS 1 3 ?_ (by decide) rfl (by kernel_rfl) (by kernel_rfl) rfl ?_ HSS.out ?_
          rotate_left
          · intro w9 hS9; obtain ⟨q0, q1, q2, q3⟩ := hS9; go_simp; (first | done | with_reducible rfl)
          try simp only [Act.put, List.setIfInBounds_toArray, List.set_cons_zero, List.set_cons_succ]
          refine stepQ HOPS 2 7 ?_ (by decide) rfl (by kernel_rfl) (by kernel_rfl) rfl ?_ HSS.out ?_
          rotate_left
          · intro w9 hS9; obtain ⟨q0, q1, q2, q3⟩ := hS9; go_simp; (first | done | with_reducible rfl)
          try simp only [Act.put, List.setIfInBounds_toArray, List.set_cons_zero, List.set_cons_succ]
          refine stepQ HOPS 3 15 ?_ (by decide) rfl (by kernel_rfl) (by kernel_rfl) rfl ?_ HSS.out ?_
          rotate_left
          · intro w9 hS9; obtain ⟨q0, q1, q2, q3⟩ := hS9; go_simp; (first | done | with_reducible rfl)
          try simp only [Act.put, List.setIfInBounds_toArray, List.set_cons_zero, List.set_cons_succ]
          refine stepQ HOPS 4 31 ?_ (by decide) rfl (by kernel_rfl) (by kernel_rfl) rfl ?_ HSS.out ?_
          rotate_left
          · intro w9 hS9; obtain ⟨q0, q1, q2, q3⟩ := hS9; go_simp; (first | done | with_reducible rfl)
          try simp only [Act.put, List.setIfInBounds_toArray, List.set_cons_zero, List.set_cons_succ]
          refine stepQ HOPS 5 63 ?_ (by decide) rfl (by kernel_rfl) (by kernel_rfl) rfl ?_ HSS.out ?_
          rotate_left
          · intro w9 hS9; obtain ⟨q0, q1, q2, q3⟩ := hS9; go_simp; (first | done | with_reducible rfl)
          try simp only [Act.put, List.setIfInBounds_toArray, List.set_cons_zero, List.set_cons_succ]
          refine stepQ HOPS 6 127 ?_ (by decide) rfl (by kernel_rfl) (by kernel_rfl) rfl ?_ HSS.out ?_
          rotate_left
          · intro w9 hS9; obtain ⟨q0, q1, q2, q3⟩ := hS9; go_simp; (first | done | with_reducible rfl)
          try simp only [Act.put, List.setIfInBounds_toArray, List.set_cons_zero, List.set_cons_succ]
          refine stepQ HOPS 7 255 ?_ (by decide) rfl (by kernel_rfl) (by kernel_rfl) rfl ?_ HSS.out ?_
          rotate_left
          · intro w9 hS9; obtain ⟨q0, q1, q2, q3⟩ := hS9; go_simp; (first | done | with_reducible rfl)
          try simp only [Act.put, List.setIfInBounds_toArray, List.set_cons_zero, List.set_cons_succ]
          refine stepQ HOPS 8 511 ?_ (by decide) rfl (by kernel_rfl) (by kernel_rfl) rfl ?_ HSS.out ?_
          rotate_left
          · intro w9 hS9; obtain ⟨q0, q1, q2, q3⟩ := hS9; go_simp; (first | done | with_reducible rfl)
          try simp only [Act.put, List.setIfInBounds_toArray, List.set_cons_zero, List.set_cons_succ]
          refine stepQ HOPS 9 1023 ?_ (by decide) rfl (by kernel_rfl) (by kernel_rfl) rfl ?_ HSS.out ?_
          rotate_left
          · intro w9 hS9; obtain ⟨q0, q1, q2, q3⟩ := hS9; go_simp; (first | done | with_reducible rfl)
          try simp only [Act.put, List.setIfInBounds_toArray, List.set_cons_zero, List.set_cons_succ]
          refine stepQ HOPS 10 2047 ?_ (by decide) rfl (by kernel_rfl) (by kernel_rfl) rfl ?_ HSS.out ?_
          rotate_left
          · intro w9 hS9; obtain ⟨q0, q1, q2, q3⟩ := hS9; go_simp; (first | done | with_reducible rfl)
          try simp only [Act.put, List.setIfInBounds_toArray, List.set_cons_zero, List.set_cons_succ]
          refine stepQ HOPS 11 4095 ?_ (by decide) rfl (by kernel_rfl) (by kernel_rfl) rfl ?_ HSS.out ?_
          rotate_left
          · intro w9 hS9; obtain ⟨q0, q1, q2, q3⟩ := hS9; go_simp; (first | done | with_reducible rfl)
          try simp only [Act.put, List.setIfInBounds_toArray, List.set_cons_zero, List.set_cons_succ]
          refine stepQ HOPS 12 8191 ?_ (by decide) rfl (by kernel_rfl) (by kernel_rfl) rfl ?_ HSS.out ?_
          rotate_left
          · intro w9 hS9; obtain ⟨q0, q1, q2, q3⟩ := hS9; go_simp; (first | done | with_reducible rfl)
          try simp only [Act.put, List.setIfInBounds_toArray, List.set_cons_zero, List.set_cons_succ]
          refine stepQ HOPS 13 16383 ?_ (by decide) rfl (by kernel_rfl) (by kernel_rfl) rfl ?_ HSS.out ?_
          rotate_left
          · intro w9 hS9; obtain ⟨q0, q1, q2, q3⟩ := hS9; go_simp; (first | done | with_reducible rfl)
          try simp only [Act.put, List.setIfInBounds_toArray, List.set_cons_zero, List.set_cons_succ]
          refine stepQ HOPS 14 32767 ?_ (by decide) rfl (by kernel_rfl) (by kernel_rfl) rfl ?_ HSS.out ?_
          rotate_left
          · intro w9 hS9; obtain ⟨q0, q1, q2, q3⟩ := hS9; go_simp; (first | done | with_reducible rfl)
          try simp only [Act.put, List.setIfInBounds_toArray, List.set_cons_zero, List.set_cons_succ]
          refine stepQ HOPS 15 65535 ?_ (by decide) rfl (by kernel_rfl) (by kernel_rfl) rfl ?_ HSS.out ?_
          rotate_left
          · intro w9 hS9; obtain ⟨q0, q1, q2, q3⟩ := hS9; go_simp; (first | done | with_reducible rfl)
          try simp only [Act.put, List.setIfInBounds_toArray, List.set_cons_zero, List.set_cons_succ]
          refine stepQ HOPS 16 131071 ?_ (by decide) rfl (by kernel_rfl) (by kernel_rfl) rfl ?_ HSS.out ?_
          rotate_left
          · intro w9 hS9; obtain ⟨q0, q1, q2, q3⟩ := hS9; go_simp; (first | done | with_reducible rfl)
          try simp only [Act.put, List.setIfInBounds_toArray, List.set_cons_zero, List.set_cons_succ]
          refine stepQ HOPS 17 262143 ?_ (by decide) rfl (by kernel_rfl) (by kernel_rfl) rfl ?_ HSS.out ?_
          rotate_left
          · intro w9 hS9; obtain ⟨q0, q1, q2, q3⟩ := hS9; go_simp; (first | done | with_reducible rfl)
          try simp only [Act.put, List.setIfInBounds_toArray, List.set_cons_zero, List.set_cons_succ]
          refine stepQ HOPS 18 524287 ?_ (by decide) rfl (by kernel_rfl) (by kernel_rfl) rfl ?_ HSS.out ?_
          rotate_left
          · intro w9 hS9; obtain ⟨q0, q1, q2, q3⟩ := hS9; go_simp; (first | done | with_reducible rfl)
          try simp only [Act.put, List.setIfInBounds_toArray, List.set_cons_zero, List.set_cons_succ]
          refine stepQ HOPS 19 1048575 ?_ (by decide) rfl (by kernel_rfl) (by kernel_rfl) rfl ?_ HSS.out ?_
          rotate_left
          · intro w9 hS9; obtain ⟨q0, q1, q2, q3⟩ := hS9; go_simp; (first | done | with_reducible rfl)
          try simp only [Act.put, List.setIfInBounds_toArray, List.set_cons_zero, List.set_cons_succ]
          refine stepQ HOPS 20 2097151 ?_ (by decide) rfl (by kernel_rfl) (by kernel_rfl) rfl ?_ HSS.out ?_
          rotate_left
          · intro w9 hS9; obtain ⟨q0, q1, q2, q3⟩ := hS9; go_simp; (first | done | with_reducible rfl)
          try simp only [Act.put, List.setIfInBounds_toArray, List.set_cons_zero, List.set_cons_succ]
          refine stepQ HOPS 21 4194303 ?_ (by decide) rfl (by kernel_rfl) (by kernel_rfl) rfl ?_ HSS.out ?_
          rotate_left
          · intro w9 hS9; obtain ⟨q0, q1, q2, q3⟩ := hS9; go_simp; (first | done | with_reducible rfl)
          try simp only [Act.put, List.setIfInBounds_toArray, List.set_cons_zero, List.set_cons_succ]
          refine stepQ HOPS 22 8388607 ?_ (by decide) rfl (by kernel_rfl) (by kernel_rfl) rfl ?_ HSS.out ?_
          rotate_left
          · intro w9 hS9; obtain ⟨q0, q1, q2, q3⟩ := hS9; go_simp; (first | done | with_reducible rfl)
          try simp only [Act.put, List.setIfInBounds_toArray, List.set_cons_zero, List.set_cons_succ]
          refine stepQ HOPS 23 16777215 ?_ (by decide) rfl (by kernel_rfl) (by kernel_rfl) rfl ?_ HSS.out ?_
          rotate_left
          · intro w9 hS9; obtain ⟨q0, q1, q2, q3⟩ := hS9; go_simp; (first | done | with_reducible rfl)
          try simp only [Act.put, List.setIfInBounds_toArray, List.set_cons_zero, List.set_cons_succ]
          refine stepQ HOPS 24 33554431 ?_ (by decide) rfl (by kernel_rfl) (by kernel_rfl) rfl ?_ HSS.out ?_
          rotate_left
          · intro w9 hS9; obtain ⟨q0, q1, q2, q3⟩ := hS9; go_simp; (first | done | with_reducible rfl)
          try simp only [Act.put, List.setIfInBounds_toArray, List.set_cons_zero, List.set_cons_succ]
          refine stepQ HOPS 25 67108863 ?_ (by decide) rfl (by kernel_rfl) (by kernel_rfl) rfl ?_ HSS.out ?_
          rotate_left
          · intro w9 hS9; obtain ⟨q0, q1, q2, q3⟩ := hS9; go_simp; (first | done | with_reducible rfl)
          try simp only [Act.put, List.setIfInBounds_toArray, List.set_cons_zero, List.set_cons_succ]
          refine stepQ HOPS 26 134217727 ?_ (by decide) rfl (by kernel_rfl) (by kernel_rfl) rfl ?_ HSS.out ?_
          rotate_left
          · intro w9 hS9; obtain ⟨q0, q1, q2, q3⟩ := hS9; go_simp; (first | done | with_reducible rfl)
          try simp only [Act.put, List.setIfInBounds_toArray, List.set_cons_zero, List.set_cons_succ]
          refine stepQ HOPS 27 268435455 ?_ (by decide) rfl (by kernel_rfl) (by kernel_rfl) rfl ?_ HSS.out ?_
          rotate_left
          · intro w9 hS9; obtain ⟨q0, q1, q2, q3⟩ := hS9; go_simp; (first | done | with_reducible rfl)
          try simp only [Act.put, List.setIfInBounds_toArray, List.set_cons_zero, List.set_cons_succ]
          refine stepQ HOPS 28 536870911 ?_ (by decide) rfl (by kernel_rfl) (by kernel_rfl) rfl ?_ HSS.out ?_
          rotate_left
          · intro w9 hS9; obtain ⟨q0, q1, q2, q3⟩ := hS9; go_simp; (first | done | with_reducible rfl)
          try simp only [Act.put, List.setIfInBounds_toArray, List.set_cons_zero, List.set_cons_succ]
          refine stepQ HOPS 29 1073741823 ?_ (by decide) rfl (by kernel_rfl) (by kernel_rfl) rfl ?_ HSS.out ?_
          rotate_left
          · intro w9 hS9; obtain ⟨q0, q1, q2, q3⟩ := hS9; go_simp; (first | done | with_reducible rfl)
          try simp only [Act.put, List.setIfInBounds_toArray, List.set_cons_zero, List.set_cons_succ]
          refine stepQ HOPS 30 2147483647 ?_ (by decide) rfl (by kernel_rfl) (by kernel_rfl) rfl ?_ HSS.out ?_
          rotate_left
          · intro w9 hS9; obtain ⟨q0, q1, q2, q3⟩ := hS9; go_simp; (first | done | with_reducible rfl)
          try simp only [Act.put, List.setIfInBounds_toArray, List.set_cons_zero, List.set_cons_succ]
          refine stepQ HOPS 31 4294967295 ?_ (by decide) rfl (by kernel_rfl) (by kernel_rfl) rfl ?_ HSS.out ?_
          rotate_left
          · intro w9 hS9; obtain ⟨q0, q1, q2, q3⟩ := hS9; go_simp; (first | done | with_reducible rfl)
          try simp only [Act.put, List.setIfInBounds_toArray, List.set_cons_zero, List.set_cons_succ]
          refine stepQ HOPS 32 8589934591 ?_ (by decide) rfl (by kernel_rfl) (by kernel_rfl) rfl ?_ HSS.out ?_
          rotate_left
          · intro w9 hS9; obtain ⟨q0, q1, q2, q3⟩ := hS9; go_simp; (first | done | with_reducible rfl)
          try simp only [Act.put, List.setIfInBounds_toArray, List.set_cons_zero, List.set_cons_succ]
          refine stepQ HOPS 33 17179869183 ?_ (by decide) rfl (by kernel_rfl) (by kernel_rfl) rfl ?_ HSS.out ?_
          rotate_left
          · intro w9 hS9; obtain ⟨q0, q1, q2, q3⟩ := hS9; go_simp; (first | done | with_reducible rfl)
          try simp only [Act.put, List.setIfInBounds_toArray, List.set_cons_zero, List.set_cons_succ]
          refine stepQ HOPS 34 34359738367 ?_ (by decide) rfl (by kernel_rfl) (by kernel_rfl) rfl ?_ HSS.out ?_
          rotate_left
          · intro w9 hS9; obtain ⟨q0, q1, q2, q3⟩ := hS9; go_simp; (first | done | with_reducible rfl)
          try simp only [Act.put, List.setIfInBounds_toArray, List.set_cons_zero, List.set_cons_succ]
          refine stepQ HOPS 35 68719476735 ?_ (by decide) rfl (by kernel_rfl) (by kernel_rfl) rfl ?_ HSS.out ?_
          rotate_left
          · intro w9 hS9; obtain ⟨q0, q1, q2, q3⟩ := hS9; go_simp; (first | done | with_reducible rfl)
          try simp only [Act.put, List.setIfInBounds_toArray, List.set_cons_zero, List.set_cons_succ]
          refine stepQ HOPS 36 137438953471 ?_ (by decide) rfl (by kernel_rfl) (by kernel_rfl) rfl ?_ HSS.out ?_
          rotate_left
          · intro w9 hS9; obtain ⟨q0, q1, q2, q3⟩ := hS9; go_simp; (first | done | with_reducible rfl)
          try simp only [Act.put, List.setIfInBounds_toArray, List.set_cons_zero, List.set_cons_succ]
          refine stepQ HOPS 37 274877906943 ?_ (by decide) rfl (by kernel_rfl) (by kernel_rfl) rfl ?_ HSS.out ?_
          rotate_left
          · intro w9 hS9; obtain ⟨q0, q1, q2, q3⟩ := hS9; go_simp; (first | done | with_reducible rfl)
          try simp only [Act.put, List.setIfInBounds_toArray, List.set_cons_zero, List.set_cons_succ]
          refine stepQ HOPS 38 549755813887 ?_ (by decide) rfl (by kernel_rfl) (by kernel_rfl) rfl ?_ HSS.out ?_
          rotate_left
          · intro w9 hS9; obtain ⟨q0, q1, q2, q3⟩ := hS9; go_simp; (first | done | with_reducible rfl)
          try simp only [Act.put, List.setIfInBounds_toArray, List.set_cons_zero, List.set_cons_succ]
          refine stepQ HOPS 39 1099511627775 ?_ (by decide) rfl (by kernel_rfl) (by kernel_rfl) rfl ?_ HSS.out ?_
          rotate_left
          · intro w9 hS9; obtain ⟨q0, q1, q2, q3⟩ := hS9; go_simp; (first | done | with_reducible rfl)
          try simp only [Act.put, List.setIfInBounds_toArray, List.set_cons_zero, List.set_cons_succ]
          refine stepQ HOPS 40 2199023255551 ?_ (by decide) rfl (by kernel_rfl) (by kernel_rfl) rfl ?_ HSS.out ?_
          rotate_left
          · intro w9 hS9; obtain ⟨q0, q1, q2, q3⟩ := hS9; go_simp; (first | done | with_reducible rfl)
          try simp only [Act.put, List.setIfInBounds_toArray, List.set_cons_zero, List.set_cons_succ]
          refine stepQ HOPS 41 4398046511103 ?_ (by decide) rfl (by kernel_rfl) (by kernel_rfl) rfl ?_ HSS.out ?_
          rotate_left
          · intro w9 hS9; obtain ⟨q0, q1, q2, q3⟩ := hS9; go_simp; (first | done | with_reducible rfl)
          try simp only [Act.put, List.setIfInBounds_toArray, List.set_cons_zero, List.set_cons_succ]
          refine stepQ HOPS 42 8796093022207 ?_ (by decide) rfl (by kernel_rfl) (by kernel_rfl) rfl ?_ HSS.out ?_
          rotate_left
          · intro w9 hS9; obtain ⟨q0, q1, q2, q3⟩ := hS9; go_simp; (first | done | with_reducible rfl)
          try simp only [Act.put, List.setIfInBounds_toArray, List.set_cons_zero, List.set_cons_succ]
          refine stepQ HOPS 43 17592186044415 ?_ (by decide) rfl (by kernel_rfl) (by kernel_rfl) rfl ?_ HSS.out ?_
          rotate_left
          · intro w9 hS9; obtain ⟨q0, q1, q2, q3⟩ := hS9; go_simp; (first | done | with_reducible rfl)
          try simp only [Act.put, List.setIfInBounds_toArray, List.set_cons_zero, List.set_cons_succ]
          refine stepQ HOPS 44 35184372088831 ?_ (by decide) rfl (by kernel_rfl) (by kernel_rfl) rfl ?_ HSS.out ?_
          rotate_left
          · intro w9 hS9; obtain ⟨q0, q1, q2, q3⟩ := hS9; go_simp; (first | done | with_reducible rfl)
          try simp only [Act.put, List.setIfInBounds_toArray, List.set_cons_zero, List.set_cons_succ]
          refine stepQ HOPS 45 70368744177663 ?_ (by decide) rfl (by kernel_rfl) (by kernel_rfl) rfl ?_ HSS.out ?_
          rotate_left
          · intro w9 hS9; obtain ⟨q0, q1, q2, q3⟩ := hS9; go_simp; (first | done | with_reducible rfl)
          try simp only [Act.put, List.setIfInBounds_toArray, List.set_cons_zero, List.set_cons_succ]
          refine stepQ HOPS 46 140737488355327 ?_ (by decide) rfl (by kernel_rfl) (by kernel_rfl) rfl ?_ HSS.out ?_
          rotate_left
          · intro w9 hS9; obtain ⟨q0, q1, q2, q3⟩ := hS9; go_simp; (first | done | with_reducible rfl)
          try simp only [Act.put, List.setIfInBounds_toArray, List.set_cons_zero, List.set_cons_succ]
          refine stepQ HOPS 47 281474976710655 ?_ (by decide) rfl (by kernel_rfl) (by kernel_rfl) rfl ?_ HSS.out ?_
          rotate_left
          · intro w9 hS9; obtain ⟨q0, q1, q2, q3⟩ := hS9; go_simp; (first | done | with_reducible rfl)
          try simp only [Act.put, List.setIfInBounds_toArray, List.set_cons_zero, List.set_cons_succ]
          refine stepQ HOPS 48 562949953421311 ?_ (by decide) rfl (by kernel_rfl) (by kernel_rfl) rfl ?_ HSS.out ?_
          rotate_left
          · intro w9 hS9; obtain ⟨q0, q1, q2, q3⟩ := hS9; go_simp; (first | done | with_reducible rfl)
          try simp only [Act.put, List.setIfInBounds_toArray, List.set_cons_zero, List.set_cons_succ]
          refine stepQ HOPS 49 1125899906842623 ?_ (by decide) rfl (by kernel_rfl) (by kernel_rfl) rfl ?_ HSS.out ?_
          rotate_left
          · intro w9 hS9; obtain ⟨q0, q1, q2, q3⟩ := hS9; go_simp; (first | done | with_reducible rfl)
          try simp only [Act.put, List.setIfInBounds_toArray, List.set_cons_zero, List.set_cons_succ]
          refine stepQ HOPS 50 2251799813685247 ?_ (by decide) rfl (by kernel_rfl) (by kernel_rfl) rfl ?_ HSS.out ?_
          rotate_left
          · intro w9 hS9; obtain ⟨q0, q1, q2, q3⟩ := hS9; go_simp; (first | done | with_reducible rfl)
          try simp only [Act.put, List.setIfInBounds_toArray, List.set_cons_zero, List.set_cons_succ]
          refine stepQ HOPS 51 4503599627370495 ?_ (by decide) rfl (by kernel_rfl) (by kernel_rfl) rfl ?_ HSS.out ?_
          rotate_left
          · intro w9 hS9; obtain ⟨q0, q1, q2, q3⟩ := hS9; go_simp; (first | done | with_reducible rfl)
          try simp only [Act.put, List.setIfInBounds_toArray, List.set_cons_zero, List.set_cons_succ]
          refine stepQ HOPS 52 9007199254740991 ?_ (by decide) rfl (by kernel_rfl) (by kernel_rfl) rfl ?_ HSS.out ?_
          rotate_left
          · intro w9 hS9; obtain ⟨q0, q1, q2, q3⟩ := hS9; go_simp; (first | done | with_reducible rfl)
          try simp only [Act.put, List.setIfInBounds_toArray, List.set_cons_zero, List.set_cons_succ]
          refine stepQ HOPS 53 18014398509481983 ?_ (by decide) rfl (by kernel_rfl) (by kernel_rfl) rfl ?_ HSS.out ?_
          rotate_left
          · intro w9 hS9; obtain ⟨q0, q1, q2, q3⟩ := hS9; go_simp; (first | done | with_reducible rfl)
          try simp only [Act.put, List.setIfInBounds_toArray, List.set_cons_zero, List.set_cons_succ]
          refine stepU HOPS 54 36028797018963967 (by decide) rfl (by kernel_rfl) (by kernel_rfl) rfl HSS.out ?_
          try simp only [Act.put, List.setIfInBounds_toArray, List.set_cons_zero, List.set_cons_succ]
          refine stepU HOPS 55 72057594037927935 (by decide) rfl (by kernel_rfl) (by kernel_rfl) rfl HSS.out ?_
          try simp only [Act.put, List.setIfInBounds_toArray, List.set_cons_zero, List.set_cons_succ]
          refine stepU HOPS 56 144115188075855871 (by decide) rfl (by kernel_rfl) (by kernel_rfl) rfl HSS.out ?_
          try simp only [Act.put, List.setIfInBounds_toArray, List.set_cons_zero, List.set_cons_succ]
          refine stepU HOPS 57 288230376151711743 (by decide) rfl (by kernel_rfl) (by kernel_rfl) rfl HSS.out ?_
          try simp only [Act.put, List.setIfInBounds_toArray, List.set_cons_zero, List.set_cons_succ]
          refine stepU HOPS 58 576460752303423487 (by decide) rfl (by kernel_rfl) (by kernel_rfl) rfl HSS.out ?_
          try simp only [Act.put, List.setIfInBounds_toArray, List.set_cons_zero, List.set_cons_succ]
          refine stepU HOPS 59 1152921504606846975 (by decide) rfl (by kernel_rfl) (by kernel_rfl) rfl HSS.out ?_
          try simp only [Act.put, List.setIfInBounds_toArray, List.set_cons_zero, List.set_cons_succ]
          refine stepQ HOPS 60 2305843009213693951 ?_ (by decide) rfl (by kernel_rfl) (by kernel_rfl) rfl ?_ HSS.out ?_
          rotate_left
          · intro w9 hS9; obtain ⟨q0, q1, q2, q3⟩ := hS9; go_simp; (first | done | with_reducible rfl)
          try simp only [Act.put, List.setIfInBounds_toArray, List.set_cons_zero, List.set_cons_succ]
          refine stepE HOPS (by kernel_rfl) (HQ.out _ _ ?_)
          clear HQ HOPS
          clear Q ops
          go_wp2
          go_ret
          exact ⟨by rw [HF.out]; rfl, bel_drew HB.out⟩
        have c6' := of_decide_eq_false c6
        rcases c7 : decide (255 < x.hi) with _ | _
        rotate_left
        · have c7' := of_decide_eq_true c7
          have HF := Lib.hid (show right l = false by rw [HD.out, HS.out, decide_eq_false (by omega)]; rfl)
          go_wp2
          refine region_let (fun W9 : World => W9.cell? ⟨b, o + (j + 1) * 3, none⟩ = some (.int .i64 x.kind) ∧ W9.cell? ⟨b, o + (j + 1) * 3 + 1, none⟩ = some (.int .i64 x.lo) ∧ W9.cell? ⟨b, o + (j + 1) * 3 + 2, none⟩ = some (.int .i64 x.hi) ∧ W9.cell? ⟨b, o + j * 3, none⟩ = some (.int .i64 p)) 99 61 hmx rfl fun ops Q HOPS HQ => ?_
          refine stepQ HOPS 0 1 ?_ (by decide) rfl (by kernel_rfl) (by kernel_rfl) rfl ?_ HSS.out ?_
          rotate_left
          · intro w9 hS9; obtain ⟨q0, q1, q2, q3⟩ := hS9; go_simp; (first | done | with_reducible rfl)
          try simp only [Act.put, List.setIfInBounds_toArray, List.set_cons_zero, List.set_cons_succ]
          refine stepQ HOPS 1 3 ?_ (by decide) rfl (by kernel_rfl) (by kernel_rfl) rfl ?_ HSS.out ?_
          rotate_left
          · intro w9 hS9; obtain ⟨q0, q1, q2, q3⟩ := hS9; go_simp; (first | done | with_reducible rfl)
          try simp only [Act.put, List.setIfInBounds_toArray, List.set_cons_zero, List.set_cons_succ]
          refine stepQ HOPS 2 7 ?_ (by decide) rfl (by kernel_rfl) (by kernel_rfl) rfl ?_ HSS.out ?_
          rotate_left
          · intro w9 hS9; obtain ⟨q0, q1, q2, q3⟩ := hS9; go_simp; (first | done | with_reducible rfl)
          try simp only [Act.put, List.setIfInBounds_toArray, List.set_cons_zero, List.set_cons_succ]
          refine stepQ HOPS 3 15 ?_ (by decide) rfl (by kernel_rfl) (by kernel_rfl) rfl ?_ HSS.out ?_
          rotate_left
          · intro w9 hS9; obtain ⟨q0, q1, q2, q3⟩ := hS9; go_simp; (first | done | with_reducible rfl)
          try simp only [Act.put, List.setIfInBounds_toArray, List.set_cons_zero, List.set_cons_succ]
          refine stepQ HOPS 4 31 ?_ (by decide) rfl (by kernel_rfl) (by kernel_rfl) rfl ?_ HSS.out ?_
          rotate_left
          · intro w9 hS9; obtain ⟨q0, q1, q2, q3⟩ := hS9; go_simp; (first | done | with_reducible rfl)
          try simp only [Act.put, List.setIfInBounds_toArray, List.set_cons_zero, List.set_cons_succ]
          refine stepQ HOPS 5 63 ?_ (by decide) rfl (by kernel_rfl) (by kernel_rfl) rfl ?_ HSS.out ?_
          rotate_left
          · intro w9 hS9; obtain ⟨q0, q1, q2, q3⟩ := hS9; go_simp; (first | done | with_reducible rfl)
          try simp only [Act.put, List.setIfInBounds_toArray, List.set_cons_zero, List.set_cons_succ]
          refine stepQ HOPS 6 127 ?_ (by decide) rfl (by kernel_rfl) (by kernel_rfl) rfl ?_ HSS.out ?_
          rotate_left
          · intro w9 hS9; obtain ⟨q0, q1, q2, q3⟩ := hS9; go_simp; (first | done | with_reducible rfl)
          try simp only [Act.put, List.setIfInBounds_toArray, List.set_cons_zero, List.set_cons_succ]
          refine stepQ HOPS 7 255 ?_ (by decide) rfl (by kernel_rfl) (by kernel_rfl) rfl ?_ HSS.out ?_
          rotate_left
          · intro w9 hS9; obtain ⟨q0, q1, q2, q3⟩ := hS9; go_simp; (first | done | with_reducible rfl)
          try simp only [Act.put, List.setIfInBounds_toArray, List.set_cons_zero, List.set_cons_succ]
          refine stepQ HOPS 8 511 ?_ (by decide) rfl (by kernel_rfl) (by kernel_rfl) rfl ?_ HSS.out ?_
          rotate_left
          · intro w9 hS9; obtain ⟨q0, q1, q2, q3⟩ := hS9; go_simp; (first | done | with_reducible rfl)
          try simp only [Act.put, List.setIfInBounds_toArray, List.set_cons_zero, List.set_cons_succ]
          refine stepQ HOPS 9 1023 ?_ (by decide) rfl (by kernel_rfl) (by kernel_rfl) rfl ?_ HSS.out ?_
          rotate_left
          · intro w9 hS9; obtain ⟨q0, q1, q2, q3⟩ := hS9; go_simp; (first | done | with_reducible rfl)
          try simp only [Act.put, List.setIfInBounds_toArray, List.set_cons_zero, List.set_cons_succ]
          refine stepQ HOPS 10 2047 ?_ (by decide) rfl (by kernel_rfl) (by kernel_rfl) rfl ?_ HSS.out ?_
          rotate_left
          · intro w9 hS9; obtain ⟨q0, q1, q2, q3⟩ := hS9; go_simp; (first | done | with_reducible rfl)
          try simp only [Act.put, List.setIfInBounds_toArray, List.set_cons_zero, List.set_cons_succ]
          refine stepQ HOPS 11 4095 ?_ (by decide) rfl (by kernel_rfl) (by kernel_rfl) rfl ?_ HSS.out ?_
          rotate_left
          · intro w9 hS9; obtain ⟨q0, q1, q2, q3⟩ := hS9; go_simp; (first | done | with_reducible rfl)
          try simp only [Act.put, List.setIfInBounds_toArray, List.set_cons_zero, List.set_cons_succ]
          refine stepQ HOPS 12 8191 ?_ (by decide) rfl (by kernel_rfl) (by kernel_rfl) rfl ?_ HSS.out ?_
          rotate_left
          · intro w9 hS9; obtain ⟨q0, q1, q2, q3⟩ := hS9; go_simp; (first | done | with_reducible rfl)
          try simp only [Act.put, List.setIfInBounds_toArray, List.set_cons_zero, List.set_cons_succ]
          refine stepQ HOPS 13 16383 ?_ (by decide) rfl (by kernel_rfl) (by kernel_rfl) rfl ?_ HSS.out ?_
          rotate_left
          · intro w9 hS9; obtain ⟨q0, q1, q2, q3⟩ := hS9; go_simp; (first | done | with_reducible rfl)
          try simp only [Act.put, List.setIfInBounds_toArray, List.set_cons_zero, List.set_cons_succ]
          refine stepQ HOPS 14 32767 ?_ (by decide) rfl (by kernel_rfl) (by kernel_rfl) rfl ?_ HSS.out ?_
          rotate_left
          · intro w9 hS9; obtain ⟨q0, q1, q2, q3⟩ := hS9; go_simp; (first | done | with_reducible rfl)
          try simp only [Act.put, List.setIfInBounds_toArray, List.set_cons_zero, List.set_cons_succ]
          refine stepQ HOPS 15 65535 ?_ (by decide) rfl (by kernel_rfl) (by kernel_rfl) rfl ?_ HSS.out ?_
          rotate_left
          · intro w9 hS9; obtain ⟨q0, q1, q2, q3⟩ := hS9; go_simp; (first | done | with_reducible rfl)
          try simp only [Act.put, List.setIfInBounds_toArray, List.set_cons_zero, List.set_cons_succ]
          refine stepQ HOPS 16 131071 ?_ (by decide) rfl (by kernel_rfl) (by kernel_rfl) rfl ?_ HSS.out ?_
          rotate_left
          · intro w9 hS9; obtain ⟨q0, q1, q2, q3⟩ := hS9; go_simp; (first | done | with_reducible rfl)
          try simp only [Act.put, List.setIfInBounds_toArray, List.set_cons_zero, List.set_cons_succ]
          refine stepQ HOPS 17 262143 ?_ (by decide) rfl (by kernel_rfl) (by kernel_rfl) rfl ?_ HSS.out ?_
          rotate_left
          · intro w9 hS9; obtain ⟨q0, q1, q2, q3⟩ := hS9; go_simp; (first | done | with_reducible rfl)
          try simp only [Act.put, List.setIfInBounds_toArray, List.set_cons_zero, List.set_cons_succ]
          refine stepQ HOPS 18 524287 ?_ (by decide) rfl (by kernel_rfl) (by kernel_rfl) rfl ?_ HSS.out ?_
          rotate_left
          · intro w9 hS9; obtain ⟨q0, q1, q2, q3⟩ := hS9; go_simp; (first | done | with_reducible rfl)
          try simp only [Act.put, List.setIfInBounds_toArray, List.set_cons_zero, List.set_cons_succ]
          refine stepQ HOPS 19 1048575 ?_ (by decide) rfl (by kernel_rfl) (by kernel_rfl) rfl ?_ HSS.out ?_
          rotate_left
          · intro w9 hS9; obtain ⟨q0, q1, q2, q3⟩ := hS9; go_simp; (first | done | with_reducible rfl)
          try simp only [Act.put, List.setIfInBounds_toArray, List.set_cons_zero, List.set_cons_succ]
          refine stepQ HOPS 20 2097151 ?_ (by decide) rfl (by kernel_rfl) (by kernel_rfl) rfl ?_ HSS.out ?_
          rotate_left
          · intro w9 hS9; obtain ⟨q0, q1, q2, q3⟩ := hS9; go_simp; (first | done | with_reducible rfl)
          try simp only [Act.put, List.setIfInBounds_toArray, List.set_cons_zero, List.set_cons_succ]
          refine stepQ HOPS 21 4194303 ?_ (by decide) rfl (by kernel_rfl) (by kernel_rfl) rfl ?_ HSS.out ?_
          rotate_left
          · intro w9 hS9; obtain ⟨q0, q1, q2, q3⟩ := hS9; go_simp; (first | done | with_reducible rfl)
          try simp only [Act.put, List.setIfInBounds_toArray, List.set_cons_zero, List.set_cons_succ]
          refine stepQ HOPS 22 8388607 ?_ (by decide) rfl (by kernel_rfl) (by kernel_rfl) rfl ?_ HSS.out ?_
          rotate_left
          · intro w9 hS9; obtain ⟨q0, q1, q2, q3⟩ := hS9; go_simp; (first | done | with_reducible rfl)
          try simp only [Act.put, List.setIfInBounds_toArray, List.set_cons_zero, List.set_cons_succ]
          refine stepQ HOPS 23 16777215 ?_ (by decide) rfl (by kernel_rfl) (by kernel_rfl) rfl ?_ HSS.out ?_
          rotate_left
          · intro w9 hS9; obtain ⟨q0, q1, q2, q3⟩ := hS9; go_simp; (first | done | with_reducible rfl)
          try simp only [Act.put, List.setIfInBounds_toArray, List.set_cons_zero, List.set_cons_succ]
          refine stepQ HOPS 24 33554431 ?_ (by decide) rfl (by kernel_rfl) (by kernel_rfl) rfl ?_ HSS.out ?_
          rotate_left
          · intro w9 hS9; obtain ⟨q0, q1, q2, q3⟩ := hS9; go_simp; (first | done | with_reducible rfl)
          try simp only [Act.put, List.setIfInBounds_toArray, List.set_cons_zero, List.set_cons_succ]
          refine stepQ HOPS 25 67108863 ?_ (by decide) rfl (by kernel_rfl) (by kernel_rfl) rfl ?_ HSS.out ?_
          rotate_left
          · intro w9 hS9; obtain ⟨q0, q1, q2, q3⟩ := hS9; go_simp; (first | done | with_reducible rfl)
          try simp only [Act.put, List.setIfInBounds_toArray, List.set_cons_zero, List.set_cons_succ]
          refine stepQ HOPS 26 134217727 ?_ (by decide) rfl (by kernel_rfl) (by kernel_rfl) rfl ?_ HSS.out ?_
          rotate_left
          · intro w9 hS9; obtain ⟨q0, q1, q2, q3⟩ := hS9; go_simp; (first | done | with_reducible rfl)
          try simp only [Act.put, List.setIfInBounds_toArray, List.set_cons_zero, List.set_cons_succ]
          refine stepQ HOPS 27 268435455 ?_ (by decide) rfl (by kernel_rfl) (by kernel_rfl) rfl ?_ HSS.out ?_
          rotate_left
          · intro w9 hS9; obtain ⟨q0, q1, q2, q3⟩ := hS9; go_simp; (first | done | with_reducible rfl)
          try simp only [Act.put, List.setIfInBounds_toArray, List.set_cons_zero, List.set_cons_succ]
          refine stepQ HOPS 28 536870911 ?_ (by decide) rfl (by kernel_rfl) (by kernel_rfl) rfl ?_ HSS.out ?_
          rotate_left
          · intro w9 hS9; obtain ⟨q0, q1, q2, q3⟩ := hS9; go_simp; (first | done | with_reducible rfl)
          try simp only [Act.put, List.setIfInBounds_toArray, List.set_cons_zero, List.set_cons_succ]
          refine stepQ HOPS 29 1073741823 ?_ (by decide) rfl (by kernel_rfl) (by kernel_rfl) rfl ?_ HSS.out ?_
          rotate_left
          · intro w9 hS9; obtain ⟨q0, q1, q2, q3⟩ := hS9; go_simp; (first | done | with_reducible rfl)
          try simp only [Act.put, List.setIfInBounds_toArray, List.set_cons_zero, List.set_cons_succ]
          refine stepQ HOPS 30 2147483647 ?_ (by decide) rfl (by kernel_rfl) (by kernel_rfl) rfl ?_ HSS.out ?_
          rotate_left
          · intro w9 hS9; obtain ⟨q0, q1, q2, q3⟩ := hS9; go_simp; (first | done | with_reducible rfl)
          try simp only [Act.put, List.setIfInBounds_toArray, List.set_cons_zero, List.set_cons_succ]
          refine stepQ HOPS 31 4294967295 ?_ (by decide) rfl (by kernel_rfl) (by kernel_rfl) rfl ?_ HSS.out ?_
          rotate_left
          · intro w9 hS9; obtain ⟨q0, q1, q2, q3⟩ := hS9; go_simp; (first | done | with_reducible rfl)
          try simp only [Act.put, List.setIfInBounds_toArray, List.set_cons_zero, List.set_cons_succ]
          refine stepQ HOPS 32 8589934591 ?_ (by decide) rfl (by kernel_rfl) (by kernel_rfl) rfl ?_ HSS.out ?_
          rotate_left
          · intro w9 hS9; obtain ⟨q0, q1, q2, q3⟩ := hS9; go_simp; (first | done | with_reducible rfl)
          try simp only [Act.put, List.setIfInBounds_toArray, List.set_cons_zero, List.set_cons_succ]
          refine stepQ HOPS 33 17179869183 ?_ (by decide) rfl (by kernel_rfl) (by kernel_rfl) rfl ?_ HSS.out ?_
          rotate_left
          · intro w9 hS9; obtain ⟨q0, q1, q2, q3⟩ := hS9; go_simp; (first | done | with_reducible rfl)
          try simp only [Act.put, List.setIfInBounds_toArray, List.set_cons_zero, List.set_cons_succ]
          refine stepQ HOPS 34 34359738367 ?_ (by decide) rfl (by kernel_rfl) (by kernel_rfl) rfl ?_ HSS.out ?_
          rotate_left
          · intro w9 hS9; obtain ⟨q0, q1, q2, q3⟩ := hS9; go_simp; (first | done | with_reducible rfl)
          try simp only [Act.put, List.setIfInBounds_toArray, List.set_cons_zero, List.set_cons_succ]
          refine stepQ HOPS 35 68719476735 ?_ (by decide) rfl (by kernel_rfl) (by kernel_rfl) rfl ?_ HSS.out ?_
          rotate_left
          · intro w9 hS9; obtain ⟨q0, q1, q2, q3⟩ := hS9; go_simp; (first | done | with_reducible rfl)
          try simp only [Act.put, List.setIfInBounds_toArray, List.set_cons_zero, List.set_cons_succ]
          refine stepQ HOPS 36 137438953471 ?_ (by decide) rfl (by kernel_rfl) (by kernel_rfl) rfl ?_ HSS.out ?_
          rotate_left
          · intro w9 hS9; obtain ⟨q0, q1, q2, q3⟩ := hS9; go_simp; (first | done | with_reducible rfl)
          try simp only [Act.put, List.setIfInBounds_toArray, List.set_cons_zero, List.set_cons_succ]
          refine stepQ HOPS 37 274877906943 ?_ (by decide) rfl (by kernel_rfl) (by kernel_rfl) rfl ?_ HSS.out ?_
          rotate_left
          · intro w9 hS9; obtain ⟨q0, q1, q2, q3⟩ := hS9; go_simp; (first | done | with_reducible rfl)
          try simp only [Act.put, List.setIfInBounds_toArray, List.set_cons_zero, List.set_cons_succ]
          refine stepQ HOPS 38 549755813887 ?_ (by decide) rfl (by kernel_rfl) (by kernel_rfl) rfl ?_ HSS.out ?_
          rotate_left
          · intro w9 hS9; obtain ⟨q0, q1, q2, q3⟩ := hS9; go_simp; (first | done | with_reducible rfl)
          try simp only [Act.put, List.setIfInBounds_toArray, List.set_cons_zero, List.set_cons_succ]
          refine stepQ HOPS 39 1099511627775 ?_ (by decide) rfl (by kernel_rfl) (by kernel_rfl) rfl ?_ HSS.out ?_
          rotate_left
          · intro w9 hS9; obtain ⟨q0, q1, q2, q3⟩ := hS9; go_simp; (first | done | with_reducible rfl)
          try simp only [Act.put, List.setIfInBounds_toArray, List.set_cons_zero, List.set_cons_succ]
          refine stepQ HOPS 40 2199023255551 ?_ (by decide) rfl (by kernel_rfl) (by kernel_rfl) rfl ?_ HSS.out ?_
          rotate_left
          · intro w9 hS9; obtain ⟨q0, q1, q2, q3⟩ := hS9; go_simp; (first | done | with_reducible rfl)
          try simp only [Act.put, List.setIfInBounds_toArray, List.set_cons_zero, List.set_cons_succ]
          refine stepQ HOPS 41 4398046511103 ?_ (by decide) rfl (by kernel_rfl) (by kernel_rfl) rfl ?_ HSS.out ?_
          rotate_left
          · intro w9 hS9; obtain ⟨q0, q1, q2, q3⟩ := hS9; go_simp; (first | done | with_reducible rfl)
          try simp only [Act.put, List.setIfInBounds_toArray, List.set_cons_zero, List.set_cons_succ]
          refine stepQ HOPS 42 8796093022207 ?_ (by decide) rfl (by kernel_rfl) (by kernel_rfl) rfl ?_ HSS.out ?_
          rotate_left
          · intro w9 hS9; obtain ⟨q0, q1, q2, q3⟩ := hS9; go_simp; (first | done | with_reducible rfl)
          try simp only [Act.put, List.setIfInBounds_toArray, List.set_cons_zero, List.set_cons_succ]
          refine stepQ HOPS 43 17592186044415 ?_ (by decide) rfl (by kernel_rfl) (by kernel_rfl) rfl ?_ HSS.out ?_
          rotate_left
          · intro w9 hS9; obtain ⟨q0, q1, q2, q3⟩ := hS9; go_simp; (first | done | with_reducible rfl)
          try simp only [Act.put, List.setIfInBounds_toArray, List.set_cons_zero, List.set_cons_succ]
          refine stepQ HOPS 44 35184372088831 ?_ (by decide) rfl (by kernel_rfl) (by kernel_rfl) rfl ?_ HSS.out ?_
          rotate_left
          · intro w9 hS9; obtain ⟨q0, q1, q2, q3⟩ := hS9; go_simp; (first | done | with_reducible rfl)
          try simp only [Act.put, List.setIfInBounds_toArray, List.set_cons_zero, List.set_cons_succ]
          refine stepQ HOPS 45 70368744177663 ?_ (by decide) rfl (by kernel_rfl) (by kernel_rfl) rfl ?_ HSS.out ?_
          rotate_left
          · intro w9 hS9; obtain ⟨q0, q1, q2, q3⟩ := hS9; go_simp; (first | done | with_reducible rfl)
          try simp only [Act.put, List.setIfInBounds_toArray, List.set_cons_zero, List.set_cons_succ]
          refine stepQ HOPS 46 140737488355327 ?_ (by decide) rfl (by kernel_rfl) (by kernel_rfl) rfl ?_ HSS.out ?_
          rotate_left
          · intro w9 hS9; obtain ⟨q0, q1, q2, q3⟩ := hS9; go_simp; (first | done | with_reducible rfl)
          try simp only [Act.put, List.setIfInBounds_toArray, List.set_cons_zero, List.set_cons_succ]
          refine stepQ HOPS 47 281474976710655 ?_ (by decide) rfl (by kernel_rfl) (by kernel_rfl) rfl ?_ HSS.out ?_
          rotate_left
          · intro w9 hS9; obtain ⟨q0, q1, q2, q3⟩ := hS9; go_simp; (first | done | with_reducible rfl)
          try simp only [Act.put, List.setIfInBounds_toArray, List.set_cons_zero, List.set_cons_succ]
          refine stepQ HOPS 48 562949953421311 ?_ (by decide) rfl (by kernel_rfl) (by kernel_rfl) rfl ?_ HSS.out ?_
          rotate_left
          · intro w9 hS9; obtain ⟨q0, q1, q2, q3⟩ := hS9; go_simp; (first | done | with_reducible rfl)
          try simp only [Act.put, List.setIfInBounds_toArray, List.set_cons_zero, List.set_cons_succ]
          refine stepQ HOPS 49 1125899906842623 ?_ (by decide) rfl (by kernel_rfl) (by kernel_rfl) rfl ?_ HSS.out ?_
          rotate_left
          · intro w9 hS9; obtain ⟨q0, q1, q2, q3⟩ := hS9; go_simp; (first | done | with_reducible rfl)
          try simp only [Act.put, List.setIfInBounds_toArray, List.set_cons_zero, List.set_cons_succ]
          refine stepQ HOPS 50 2251799813685247 ?_ (by decide) rfl (by kernel_rfl) (by kernel_rfl) rfl ?_ HSS.out ?_
          rotate_left
          · intro w9 hS9; obtain ⟨q0, q1, q2, q3⟩ := hS9; go_simp; (first | done | with_reducible rfl)
          try simp only [Act.put, List.setIfInBounds_toArray, List.set_cons_zero, List.set_cons_succ]
          refine stepQ HOPS 51 4503599627370495 ?_ (by decide) rfl (by kernel_rfl) (by kernel_rfl) rfl ?_ HSS.out ?_
          rotate_left
          · intro w9 hS9; obtain ⟨q0, q1, q2, q3⟩ := hS9; go_simp; (first | done | with_reducible rfl)
          try simp only [Act.put, List.setIfInBounds_toArray, List.set_cons_zero, List.set_cons_succ]
          refine stepQ HOPS 52 9007199254740991 ?_ (by decide) rfl (by kernel_rfl) (by kernel_rfl) rfl ?_ HSS.out ?_
          rotate_left
          · intro w9 hS9; obtain ⟨q0, q1, q2, q3⟩ := hS9; go_simp; (first | done | with_reducible rfl)
          try simp only [Act.put, List.setIfInBounds_toArray, List.set_cons_zero, List.set_cons_succ]
          refine stepQ HOPS 53 18014398509481983 ?_ (by decide) rfl (by kernel_rfl) (by kernel_rfl) rfl ?_ HSS.out ?_
          rotate_left
          · intro w9 hS9; obtain ⟨q0, q1, q2, q3⟩ := hS9; go_simp; (first | done | with_reducible rfl)
          try simp only [Act.put, List.setIfInBounds_toArray, List.set_cons_zero, List.set_cons_succ]
          refine stepQ HOPS 54 36028797018963967 ?_ (by decide) rfl (by kernel_rfl) (by kernel_rfl) rfl ?_ HSS.out ?_
          rotate_left
          · intro w9 hS9; obtain ⟨q0, q1, q2, q3⟩ := hS9; go_simp; (first | done | with_reducible rfl)
          try simp only [Act.put, List.setIfInBounds_toArray, List.set_cons_zero, List.set_cons_succ]
          refine stepQ HOPS 55 72057594037927935 ?_ (by decide) rfl (by kernel_rfl) (by kernel_rfl) rfl ?_ HSS.out ?_
          rotate_left
          · intro w9 hS9; obtain ⟨q0, q1, q2, q3⟩ := hS9; go_simp; (first | done | with_reducible rfl)
          try simp only [Act.put, List.setIfInBounds_toArray, List.set_cons_zero, List.set_cons_succ]
          refine stepQ HOPS 56 144115188075855871 ?_ (by decide) rfl (by kernel_rfl) (by kernel_rfl) rfl ?_ HSS.out ?_
          rotate_left
          · intro w9 hS9; obtain ⟨q0, q1, q2, q3⟩ := hS9; go_simp; (first | done | with_reducible rfl)
          try simp only [Act.put, List.setIfInBounds_toArray, List.set_cons_zero, List.set_cons_succ]
          refine stepQ HOPS 57 288230376151711743 ?_ (by decide) rfl (by kernel_rfl) (by kernel_rfl) rfl ?_ HSS.out ?_
          rotate_left
          · intro w9 hS9; obtain ⟨q0, q1, q2, q3⟩ := hS9; go_simp; (first | done | with_reducible rfl)
          try simp only [Act.put, List.setIfInBounds_toArray, List.set_cons_zero, List.set_cons_succ]
          refine stepQ HOPS 58 576460752303423487 ?_ (by decide) rfl (by kernel_rfl) (by kernel_rfl) rfl ?_ HSS.out ?_
          rotate_left
          · intro w9 hS9; obtain ⟨q0, q1, q2, q3⟩ := hS9; go_simp; (first | done | with_reducible rfl)
          try simp only [Act.put, List.setIfInBounds_toArray, List.set_cons_zero, List.set_cons_succ]
          refine stepQ HOPS 59 1152921504606846975 ?_ (by decide) rfl (by kernel_rfl) (by kernel_rfl) rfl ?_ HSS.out ?_
          rotate_left
          · intro w9 hS9; obtain ⟨q0, q1, q2, q3⟩ := hS9; go_simp; (first | done | with_reducible rfl)
          try simp only [Act.put, List.setIfInBounds_toArray, List.set_cons_zero, List.set_cons_succ]
          refine stepQ HOPS 60 2305843009213693951 ?_ (by decide) rfl (by kernel_rfl) (by kernel_rfl) rfl ?_ HSS.out ?_
          rotate_left
          · intro w9 hS9; obtain ⟨q0, q1, q2, q3⟩ := hS9; go_simp; (first | done | with_reducible rfl)
          try simp only [Act.put, List.setIfInBounds_toArray, List.set_cons_zero, List.set_cons_succ]
          refine stepE HOPS (by kernel_rfl) (HQ.out _ _ ?_)
          clear HQ HOPS
          clear Q ops
          go_wp2
          go_ret
          exact ⟨by rw [HF.out]; rfl, bel_drew HB.out⟩
        have c7' := of_decide_eq_false c7
        have HN := Lib.hid (show right l = rt x.kind (l.drop (j + 1 + 1)) by rw [HD.out, HS.out, decide_eq_true (by omega), Bool.true_and])
        have hk0 : 0 ≤ x.kind := by omega
        go_wp2
        refine region_let (fun W9 : World => W9.cell? ⟨b, o + (j + 1) * 3, none⟩ = some (.int .i64 x.kind) ∧ W9.cell? ⟨b, o + (j + 1) * 3 + 1, none⟩ = some (.int .i64 x.lo) ∧ W9.cell? ⟨b, o + (j + 1) * 3 + 2, none⟩ = some (.int .i64 x.hi) ∧ W9.cell? ⟨b, o + j * 3, none⟩ = some (.int .i64 p)) 99 61 hmx rfl fun ops Q HOPS HQ => ?_
        refine stepQ HOPS 0 1 ?_ (by decide) rfl (by kernel_rfl) (by kernel_rfl) rfl ?_ HSS.out ?_
        rotate_left
        · intro w9 hS9; obtain ⟨q0, q1, q2, q3⟩ := hS9; go_simp; (first | done | with_reducible rfl)
        try simp only [Act.put, List.setIfInBounds_toArray, List.set_cons_zero, List.set_cons_succ]
        refine stepQ HOPS 1 3 ?_ (by decide) rfl (by kernel_rfl) (by kernel_rfl) rfl ?_ HSS.out ?_
        rotate_left
        · intro w9 hS9; obtain ⟨q0, q1, q2, q3⟩ := hS9; go_simp; (first | done | with_reducible rfl)
        try simp only [Act.put, List.setIfInBounds_toArray, List.set_cons_zero, List.set_cons_succ]
        refine stepQ HOPS 2 7 ?_ (by decide) rfl (by kernel_rfl) (by kernel_rfl) rfl ?_ HSS.out ?_
        rotate_left
        · intro w9 hS9; obtain ⟨q0, q1, q2, q3⟩ := hS9; go_simp; (first | done | with_reducible rfl)
        try simp only [Act.put, List.setIfInBounds_toArray, List.set_cons_zero, List.set_cons_succ]
        refine stepQ HOPS 3 15 ?_ (by decide) rfl (by kernel_rfl) (by kernel_rfl) rfl ?_ HSS.out ?_
        rotate_left
        · intro w9 hS9; obtain ⟨q0, q1, q2, q3⟩ := hS9; go_simp; (first | done | with_reducible rfl)
        try simp only [Act.put, List.setIfInBounds_toArray, List.set_cons_zero, List.set_cons_succ]
        refine stepQ HOPS 4 31 ?_ (by decide) rfl (by kernel_rfl) (by kernel_rfl) rfl ?_ HSS.out ?_
        rotate_left
        · intro w9 hS9; obtain ⟨q0, q1, q2, q3⟩ := hS9; go_simp; (first | done | with_reducible rfl)
        try simp only [Act.put, List.setIfInBounds_toArray, List.set_cons_zero, List.set_cons_succ]
        refine stepQ HOPS 5 63 ?_ (by decide) rfl (by kernel_rfl) (by kernel_rfl) rfl ?_ HSS.out ?_
        rotate_left
        · intro w9 hS9; obtain ⟨q0, q1, q2, q3⟩ := hS9; go_simp; (first | done | with_reducible rfl)
        try simp only [Act.put, List.setIfInBounds_toArray, List.set_cons_zero, List.set_cons_succ]
        refine stepQ HOPS 6 127 ?_ (by decide) rfl (by kernel_rfl) (by kernel_rfl) rfl ?_ HSS.out ?_
        rotate_left
        · intro w9 hS9; obtain ⟨q0, q1, q2, q3⟩ := hS9; go_simp; (first | done | with_reducible rfl)
        try simp only [Act.put, List.setIfInBounds_toArray, List.set_cons_zero, List.set_cons_succ]
        refine stepQ HOPS 7 255 ?_ (by decide) rfl (by kernel_rfl) (by kernel_rfl) rfl ?_ HSS.out ?_
        rotate_left
        · intro w9 hS9; obtain ⟨q0, q1, q2, q3⟩ := hS9; go_simp; (first | done | with_reducible rfl)
        try simp only [Act.put, List.setIfInBounds_toArray, List.set_cons_zero, List.set_cons_succ]
        refine stepQ HOPS 8 511 ?_ (by decide) rfl (by kernel_rfl) (by kernel_rfl) rfl ?_ HSS.out ?_
        rotate_left
        · intro w9 hS9; obtain ⟨q0, q1, q2, q3⟩ := hS9; go_simp; (first | done | with_reducible rfl)
        try simp only [Act.put, List.setIfInBounds_toArray, List.set_cons_zero, List.set_cons_succ]
        refine stepQ HOPS 9 1023 ?_ (by decide) rfl (by kernel_rfl) (by kernel_rfl) rfl ?_ HSS.out ?_
        rotate_left
        · intro w9 hS9; obtain ⟨q0, q1, q2, q3⟩ := hS9; go_simp; (first | done | with_reducible rfl)
        try simp only [Act.put, List.setIfInBounds_toArray, List.set_cons_zero, List.set_cons_succ]
        refine stepQ HOPS 10 2047 ?_ (by decide) rfl (by kernel_rfl) (by kernel_rfl) rfl ?_ HSS.out ?_
        rotate_left
        · intro w9 hS9; obtain ⟨q0, q1, q2, q3⟩ := hS9; go_simp; (first | done | with_reducible rfl)
        try simp only [Act.put, List.setIfInBounds_toArray, List.set_cons_zero, List.set_cons_succ]
        refine stepQ HOPS 11 4095 ?_ (by decide) rfl (by kernel_rfl) (by kernel_rfl) rfl ?_ HSS.out ?_
        rotate_left
        · intro w9 hS9; obtain ⟨q0, q1, q2, q3⟩ := hS9; go_simp; (first | done | with_reducible rfl)
        try simp only [Act.put, List.setIfInBounds_toArray, List.set_cons_zero, List.set_cons_succ]
        refine stepQ HOPS 12 8191 ?_ (by decide) rfl (by kernel_rfl) (by kernel_rfl) rfl ?_ HSS.out ?_
        rotate_left
        · intro w9 hS9; obtain ⟨q0, q1, q2, q3⟩ := hS9; go_simp; (first | done | with_reducible rfl)
        try simp only [Act.put, List.setIfInBounds_toArray, List.set_cons_zero, List.set_cons_succ]
        refine stepQ HOPS 13 16383 ?_ (by decide) rfl (by kernel_rfl) (by kernel_rfl) rfl ?_ HSS.out ?_
        rotate_left
        · intro w9 hS9; obtain ⟨q0, q1, q2, q3⟩ := hS9; go_simp; (first | done | with_reducible rfl)
        try simp only [Act.put, List.setIfInBounds_toArray, List.set_cons_zero, List.set_cons_succ]
        refine stepQ HOPS 14 32767 ?_ (by decide) rfl (by kernel_rfl) (by kernel_rfl) rfl ?_ HSS.out ?_
        rotate_left
        · intro w9 hS9; obtain ⟨q0, q1, q2, q3⟩ := hS9; go_simp; (first | done | with_reducible rfl)
        try simp only [Act.put, List.setIfInBounds_toArray, List.set_cons_zero, List.set_cons_succ]
        refine stepQ HOPS 15 65535 ?_ (by decide) rfl (by kernel_rfl) (by kernel_rfl) rfl ?_ HSS.out ?_
        rotate_left
        · intro w9 hS9; obtain ⟨q0, q1, q2, q3⟩ := hS9; go_simp; (first | done | with_reducible rfl)
        try simp only [Act.put, List.setIfInBounds_toArray, List.set_cons_zero, List.set_cons_succ]
        refine stepQ HOPS 16 131071 ?_ (by decide) rfl (by kernel_rfl) (by kernel_rfl) rfl ?_ HSS.out ?_
        rotate_left
        · intro w9 hS9; obtain ⟨q0, q1, q2, q3⟩ := hS9; go_simp; (first | done | with_reducible rfl)
        try simp only [Act.put, List.setIfInBounds_toArray, List.set_cons_zero, List.set_cons_succ]
        refine stepQ HOPS 17 262143 ?_ (by decide) rfl (by kernel_rfl) (by kernel_rfl) rfl ?_ HSS.out ?_
        rotate_left
        · intro w9 hS9; obtain ⟨q0, q1, q2, q3⟩ := hS9; go_simp; (first | done | with_reducible rfl)
        try simp only [Act.put, List.setIfInBounds_toArray, List.set_cons_zero, List.set_cons_succ]
        refine stepQ HOPS 18 524287 ?_ (by decide) rfl (by kernel_rfl) (by kernel_rfl) rfl ?_ HSS.out ?_
        rotate_left
        · intro w9 hS9; obtain ⟨q0, q1, q2, q3⟩ := hS9; go_simp; (first | done | with_reducible rfl)
        try simp only [Act.put, List.setIfInBounds_toArray, List.set_cons_zero, List.set_cons_succ]
        refine stepQ HOPS 19 1048575 ?_ (by decide) rfl (by kernel_rfl) (by kernel_rfl) rfl ?_ HSS.out ?_
        rotate_left
        · intro w9 hS9; obtain ⟨q0, q1, q2, q3⟩ := hS9; go_simp; (first | done | with_reducible rfl)
        try simp only [Act.put, List.setIfInBounds_toArray, List.set_cons_zero, List.set_cons_succ]
        refine stepQ HOPS 20 2097151 ?_ (by decide) rfl (by kernel_rfl) (by kernel_rfl) rfl ?_ HSS.out ?_
        rotate_left
        · intro w9 hS9; obtain ⟨q0, q1, q2, q3⟩ := hS9; go_simp; (first | done | with_reducible rfl)
        try simp only [Act.put, List.setIfInBounds_toArray, List.set_cons_zero, List.set_cons_succ]
        refine stepQ HOPS 21 4194303 ?_ (by decide) rfl (by kernel_rfl) (by kernel_rfl) rfl ?_ HSS.out ?_
        rotate_left
        · intro w9 hS9; obtain ⟨q0, q1, q2, q3⟩ := hS9; go_simp; (first | done | with_reducible rfl)
        try simp only [Act.put, List.setIfInBounds_toArray, List.set_cons_zero, List.set_cons_succ]
        refine stepQ HOPS 22 8388607 ?_ (by decide) rfl (by kernel_rfl) (by kernel_rfl) rfl ?_ HSS.out ?_
        rotate_left
        · intro w9 hS9; obtain ⟨q0, q1, q2, q3⟩ := hS9; go_simp; (first | done | with_reducible rfl)
        try simp only [Act.put, List.setIfInBounds_toArray, List.set_cons_zero, List.set_cons_succ]
        refine stepQ HOPS 23 16777215 ?_ (by decide) rfl (by kernel_rfl) (by kernel_rfl) rfl ?_ HSS.out ?_
        rotate_left
        · intro w9 hS9; obtain ⟨q0, q1, q2, q3⟩ := hS9; go_simp; (first | done | with_reducible rfl)
        try simp only [Act.put, List.setIfInBounds_toArray, List.set_cons_zero, List.set_cons_succ]
        refine stepQ HOPS 24 33554431 ?_ (by decide) rfl (by kernel_rfl) (by kernel_rfl) rfl ?_ HSS.out ?_
        rotate_left
        · intro w9 hS9; obtain ⟨q0, q1, q2, q3⟩ := hS9; go_simp; (first | done | with_reducible rfl)
        try simp only [Act.put, List.setIfInBounds_toArray, List.set_cons_zero, List.set_cons_succ]
        refine stepQ HOPS 25 67108863 ?_ (by decide) rfl (by kernel_rfl) (by kernel_rfl) rfl ?_ HSS.out ?_
        rotate_left
        · intro w9 hS9; obtain ⟨q0, q1, q2, q3⟩ := hS9; go_simp; (first | done | with_reducible rfl)
        try simp only [Act.put, List.setIfInBounds_toArray, List.set_cons_zero, List.set_cons_succ]
        refine stepQ HOPS 26 134217727 ?_ (by decide) rfl (by kernel_rfl) (by kernel_rfl) rfl ?_ HSS.out ?_
        rotate_left
        · intro w9 hS9; obtain ⟨q0, q1, q2, q3⟩ := hS9; go_simp; (first | done | with_reducible rfl)
        try simp only [Act.put, List.setIfInBounds_toArray, List.set_cons_zero, List.set_cons_succ]
        refine stepQ HOPS 27 268435455 ?_ (by decide) rfl (by kernel_rfl) (by kernel_rfl) rfl ?_ HSS.out ?_
        rotate_left
        · intro w9 hS9; obtain ⟨q0, q1, q2, q3⟩ := hS9; go_simp; (first | done | with_reducible rfl)
        try simp only [Act.put, List.setIfInBounds_toArray, List.set_cons_zero, List.set_cons_succ]
        refine stepQ HOPS 28 536870911 ?_ (by decide) rfl (by kernel_rfl) (by kernel_rfl) rfl ?_ HSS.out ?_
        rotate_left
        · intro w9 hS9; obtain ⟨q0, q1, q2, q3⟩ := hS9; go_simp; (first | done | with_reducible rfl)
        try simp only [Act.put, List.setIfInBounds_toArray, List.set_cons_zero, List.set_cons_succ]
        refine stepQ HOPS 29 1073741823 ?_ (by decide) rfl (by kernel_rfl) (by kernel_rfl) rfl ?_ HSS.out ?_
        rotate_left
        · intro w9 hS9; obtain ⟨q0, q1, q2, q3⟩ := hS9; go_simp; (first | done | with_reducible rfl)
        try simp only [Act.put, List.setIfInBounds_toArray, List.set_cons_zero, List.set_cons_succ]
        refine stepQ HOPS 30 2147483647 ?_ (by decide) rfl (by kernel_rfl) (by kernel_rfl) rfl ?_ HSS.out ?_
        rotate_left
        · intro w9 hS9; obtain ⟨q0, q1, q2, q3⟩ := hS9; go_simp; (first | done | with_reducible rfl)
        try simp only [Act.put, List.setIfInBounds_toArray, List.set_cons_zero, List.set_cons_succ]
        refine stepQ HOPS 31 4294967295 ?_ (by decide) rfl (by kernel_rfl) (by kernel_rfl) rfl ?_ HSS.out ?_
        rotate_left
        · intro w9 hS9; obtain ⟨q0, q1, q2, q3⟩ := hS9; go_simp; (first | done | with_reducible rfl)
        try simp only [Act.put, List.setIfInBounds_toArray, List.set_cons_zero, List.set_cons_succ]
        refine stepQ HOPS 32 8589934591 ?_ (by decide) rfl (by kernel_rfl) (by kernel_rfl) rfl ?_ HSS.out ?_
        rotate_left
        · intro w9 hS9; obtain ⟨q0, q1, q2, q3⟩ := hS9; go_simp; (first | done | with_reducible rfl)
        try simp only [Act.put, List.setIfInBounds_toArray, List.set_cons_zero, List.set_cons_succ]
        refine stepQ HOPS 33 17179869183 ?_ (by decide) rfl (by kernel_rfl) (by kernel_rfl) rfl ?_ HSS.out ?_
        rotate_left
        · intro w9 hS9; obtain ⟨q0, q1, q2, q3⟩ := hS9; go_simp; (first | done | with_reducible rfl)
        try simp only [Act.put, List.setIfInBounds_toArray, List.set_cons_zero, List.set_cons_succ]
        refine stepQ HOPS 34 34359738367 ?_ (by decide) rfl (by kernel_rfl) (by kernel_rfl) rfl ?_ HSS.out ?_
        rotate_left
        · intro w9 hS9; obtain ⟨q0, q1, q2, q3⟩ := hS9; go_simp; (first | done | with_reducible rfl)
        try simp only [Act.put, List.setIfInBounds_toArray, List.set_cons_zero, List.set_cons_succ]
        refine stepQ HOPS 35 68719476735 ?_ (by decide) rfl (by kernel_rfl) (by kernel_rfl) rfl ?_ HSS.out ?_
        rotate_left
        · intro w9 hS9; obtain ⟨q0, q1, q2, q3⟩ := hS9; go_simp; (first | done | with_reducible rfl)
        try simp only [Act.put, List.setIfInBounds_toArray, List.set_cons_zero, List.set_cons_succ]
        refine stepQ HOPS 36 137438953471 ?_ (by decide) rfl (by kernel_rfl) (by kernel_rfl) rfl ?_ HSS.out ?_
        rotate_left
        · intro w9 hS9; obtain ⟨q0, q1, q2, q3⟩ := hS9; go_simp; (first | done | with_reducible rfl)
        try simp only [Act.put, List.setIfInBounds_toArray, List.set_cons_zero, List.set_cons_succ]
        refine stepQ HOPS 37 274877906943 ?_ (by decide) rfl (by kernel_rfl) (by kernel_rfl) rfl ?_ HSS.out ?_
        rotate_left
        · intro w9 hS9; obtain ⟨q0, q1, q2, q3⟩ := hS9; go_simp; (first | done | with_reducible rfl)
        try simp only [Act.put, List.setIfInBounds_toArray, List.set_cons_zero, List.set_cons_succ]
        refine stepQ HOPS 38 549755813887 ?_ (by decide) rfl (by kernel_rfl) (by kernel_rfl) rfl ?_ HSS.out ?_
        rotate_left
        · intro w9 hS9; obtain ⟨q0, q1, q2, q3⟩ := hS9; go_simp; (first | done | with_reducible rfl)
        try simp only [Act.put, List.setIfInBounds_toArray, List.set_cons_zero, List.set_cons_succ]
        refine stepQ HOPS 39 1099511627775 ?_ (by decide) rfl (by kernel_rfl) (by kernel_rfl) rfl ?_ HSS.out ?_
        rotate_left
        · intro w9 hS9; obtain ⟨q0, q1, q2, q3⟩ := hS9; go_simp; (first | done | with_reducible rfl)
        try simp only [Act.put, List.setIfInBounds_toArray, List.set_cons_zero, List.set_cons_succ]
        refine stepQ HOPS 40 2199023255551 ?_ (by decide) rfl (by kernel_rfl) (by kernel_rfl) rfl ?_ HSS.out ?_
        rotate_left
        · intro w9 hS9; obtain ⟨q0, q1, q2, q3⟩ := hS9; go_simp; (first | done | with_reducible rfl)
        try simp only [Act.put, List.setIfInBounds_toArray, List.set_cons_zero, List.set_cons_succ]
        refine stepQ HOPS 41 4398046511103 ?_ (by decide) rfl (by kernel_rfl) (by kernel_rfl) rfl ?_ HSS.out ?_
        rotate_left
        · intro w9 hS9; obtain ⟨q0, q1, q2, q3⟩ := hS9; go_simp; (first | done | with_reducible rfl)
        try simp only [Act.put, List.setIfInBounds_toArray, List.set_cons_zero, List.set_cons_succ]
        refine stepQ HOPS 42 8796093022207 ?_ (by decide) rfl (by kernel_rfl) (by kernel_rfl) rfl ?_ HSS.out ?_
        rotate_left
        · intro w9 hS9; obtain ⟨q0, q1, q2, q3⟩ := hS9; go_simp; (first | done | with_reducible rfl)
        try simp only [Act.put, List.setIfInBounds_toArray, List.set_cons_zero, List.set_cons_succ]
        refine stepQ HOPS 43 17592186044415 ?_ (by decide) rfl (by kernel_rfl) (by kernel_rfl) rfl ?_ HSS.out ?_
        rotate_left
        · intro w9 hS9; obtain ⟨q0, q1, q2, q3⟩ := hS9; go_simp; (first | done | with_reducible rfl)
        try simp only [Act.put, List.setIfInBounds_toArray, List.set_cons_zero, List.set_cons_succ]
        refine stepQ HOPS 44 35184372088831 ?_ (by decide) rfl (by kernel_rfl) (by kernel_rfl) rfl ?_ HSS.out ?_
        rotate_left
        · intro w9 hS9; obtain ⟨q0, q1, q2, q3⟩ := hS9; go_simp; (first | done | with_reducible rfl)
        try simp only [Act.put, List.setIfInBounds_toArray, List.set_cons_zero, List.set_cons_succ]
        refine stepQ HOPS 45 70368744177663 ?_ (by decide) rfl (by kernel_rfl) (by kernel_rfl) rfl ?_ HSS.out ?_
        rotate_left
        · intro w9 hS9; obtain ⟨q0, q1, q2, q3⟩ := hS9; go_simp; (first | done | with_reducible rfl)
        try simp only [Act.put, List.setIfInBounds_toArray, List.set_cons_zero, List.set_cons_succ]
        refine stepQ HOPS 46 140737488355327 ?_ (by decide) rfl (by kernel_rfl) (by kernel_rfl) rfl ?_ HSS.out ?_
        rotate_left
        · intro w9 hS9; obtain ⟨q0, q1, q2, q3⟩ := hS9; go_simp; (first | done | with_reducible rfl)
        try simp only [Act.put, List.setIfInBounds_toArray, List.set_cons_zero, List.set_cons_succ]
        refine stepQ HOPS 47 281474976710655 ?_ (by decide) rfl (by kernel_rfl) (by kernel_rfl) rfl ?_ HSS.out ?_
        rotate_left
        · intro w9 hS9; obtain ⟨q0, q1, q2, q3⟩ := hS9; go_simp; (first | done | with_reducible rfl)
        try simp only [Act.put, List.setIfInBounds_toArray, List.set_cons_zero, List.set_cons_succ]
        refine stepQ HOPS 48 562949953421311 ?_ (by decide) rfl (by kernel_rfl) (by kernel_rfl) rfl ?_ HSS.out ?_
        rotate_left
        · intro w9 hS9; obtain ⟨q0, q1, q2, q3⟩ := hS9; go_simp; (first | done | with_reducible rfl)
        try simp only [Act.put, List.setIfInBounds_toArray, List.set_cons_zero, List.set_cons_succ]
        refine stepQ HOPS 49 1125899906842623 ?_ (by decide) rfl (by kernel_rfl) (by kernel_rfl) rfl ?_ HSS.out ?_
        rotate_left
        · intro w9 hS9; obtain ⟨q0, q1, q2, q3⟩ := hS9; go_simp; (first | done | with_reducible rfl)
        try simp only [Act.put, List.setIfInBounds_toArray, List.set_cons_zero, List.set_cons_succ]
        refine stepQ HOPS 50 2251799813685247 ?_ (by decide) rfl (by kernel_rfl) (by kernel_rfl) rfl ?_ HSS.out ?_
        rotate_left
        · intro w9 hS9; obtain ⟨q0, q1, q2, q3⟩ := hS9; go_simp; (first | done | with_reducible rfl)
        try simp only [Act.put, List.setIfInBounds_toArray, List.set_cons_zero, List.set_cons_succ]
        refine stepQ HOPS 51 4503599627370495 ?_ (by decide) rfl (by kernel_rfl) (by kernel_rfl) rfl ?_ HSS.out ?_
        rotate_left
        · intro w9 hS9; obtain ⟨q0, q1, q2, q3⟩ := hS9; go_simp; (first | done | with_reducible rfl)
        try simp only [Act.put, List.setIfInBounds_toArray, List.set_cons_zero, List.set_cons_succ]
        refine stepQ HOPS 52 9007199254740991 ?_ (by decide) rfl (by kernel_rfl) (by kernel_rfl) rfl ?_ HSS.out ?_
        rotate_left
        · intro w9 hS9; obtain ⟨q0, q1, q2, q3⟩ := hS9; go_simp; (first | done | with_reducible rfl)
        try simp only [Act.put, List.setIfInBounds_toArray, List.set_cons_zero, List.set_cons_succ]
        refine stepQ HOPS 53 18014398509481983 ?_ (by decide) rfl (by kernel_rfl) (by kernel_rfl) rfl ?_ HSS.out ?_
        rotate_left
        · intro w9 hS9; obtain ⟨q0, q1, q2, q3⟩ := hS9; go_simp; (first | done | with_reducible rfl)
        try simp only [Act.put, List.setIfInBounds_toArray, List.set_cons_zero, List.set_cons_succ]
        refine stepQ HOPS 54 36028797018963967 ?_ (by decide) rfl (by kernel_rfl) (by kernel_rfl) rfl ?_ HSS.out ?_
        rotate_left
        · intro w9 hS9; obtain ⟨q0, q1, q2, q3⟩ := hS9; go_simp; (first | done | with_reducible rfl)
        try simp only [Act.put, List.setIfInBounds_toArray, List.set_cons_zero, List.set_cons_succ]
        refine stepQ HOPS 55 72057594037927935 ?_ (by decide) rfl (by kernel_rfl) (by kernel_rfl) rfl ?_ HSS.out ?_
        rotate_left
        · intro w9 hS9; obtain ⟨q0, q1, q2, q3⟩ := hS9; go_simp; (first | done | with_reducible rfl)
        try simp only [Act.put, List.setIfInBounds_toArray, List.set_cons_zero, List.set_cons_succ]
        refine stepQ HOPS 56 144115188075855871 ?_ (by decide) rfl (by kernel_rfl) (by kernel_rfl) rfl ?_ HSS.out ?_
        rotate_left
        · intro w9 hS9; obtain ⟨q0, q1, q2, q3⟩ := hS9; go_simp; (first | done | with_reducible rfl)
        try simp only [Act.put, List.setIfInBounds_toArray, List.set_cons_zero, List.set_cons_succ]
        refine stepQ HOPS 57 288230376151711743 ?_ (by decide) rfl (by kernel_rfl) (by kernel_rfl) rfl ?_ HSS.out ?_
        rotate_left
        · intro w9 hS9; obtain ⟨q0, q1, q2, q3⟩ := hS9; go_simp; (first | done | with_reducible rfl)
        try simp only [Act.put, List.setIfInBounds_toArray, List.set_cons_zero, List.set_cons_succ]
        refine stepQ HOPS 58 576460752303423487 ?_ (by decide) rfl (by kernel_rfl) (by kernel_rfl) rfl ?_ HSS.out ?_
        rotate_left
        · intro w9 hS9; obtain ⟨q0, q1, q2, q3⟩ := hS9; go_simp; (first | done | with_reducible rfl)
        try simp only [Act.put, List.setIfInBounds_toArray, List.set_cons_zero, List.set_cons_succ]
        refine stepQ HOPS 59 1152921504606846975 ?_ (by decide) rfl (by kernel_rfl) (by kernel_rfl) rfl ?_ HSS.out ?_
        rotate_left
        · intro w9 hS9; obtain ⟨q0, q1, q2, q3⟩ := hS9; go_simp; (first | done | with_reducible rfl)
        try simp only [Act.put, List.setIfInBounds_toArray, List.set_cons_zero, List.set_cons_succ]
        refine stepQ HOPS 60 2305843009213693951 ?_ (by decide) rfl (by kernel_rfl) (by kernel_rfl) rfl ?_ HSS.out ?_
        rotate_left
        · intro w9 hS9; obtain ⟨q0, q1, q2, q3⟩ := hS9; go_simp; (first | done | with_reducible rfl)
        try simp only [Act.put, List.setIfInBounds_toArray, List.set_cons_zero, List.set_cons_succ]
        refine stepE HOPS (by kernel_rfl) (HQ.out _ _ ?_)
        clear HQ HOPS
        clear Q ops
        go_wp2
        go_roundw
        case rel => exact ⟨j + 1 + 1, x.kind, by go_num, by omega, HN.out, fun h => by omega, fun _ => ⟨hk0, x, HXX.out, rfl⟩, bel_drew HB.out⟩
        case measure => simp [intOf]; omega
    · have HT := Lib.hid (show right l = true by rw [HD.out, List.drop_of_length_le (by have := HR.out.len; omega)]; rfl)
      go_wp2
      go_ret
      exact ⟨by rw [HT.out]; rfl, HB.out⟩
end Go.Proofs.YthhdhdjdhekgpaaDoor.Pro
