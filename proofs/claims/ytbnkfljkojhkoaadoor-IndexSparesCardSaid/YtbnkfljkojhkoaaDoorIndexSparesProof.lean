/- An index has few entries, which rise; no condition.
-/
import Derived.Test.YtbnkfljkojhkoaaDoorIdxW
import Derived.Test.YtbnkfljkojhkoaaDoorIdxV
import Derived.Test.YtbnkfljkojhkoaaDoorJIn
import Derived.Test.YtbnkfljkojhkoaaDoorJIdxM
import Derived.Test.YtbnkfljkojhkoaaDoorRows
import Derived.WalkKit
import Derived.ProofKit
import Derived.OpenShut
import Derived.ChangeOld
import Derived.Below
import Derived.Carry
import Derived.Test.YtbnkfljkojhkoaaDoorJOct
import Derived.Test.YtbnkfljkojhkoaaDoorSegArg
import Derived.Test.YtbnkfljkojhkoaaDoorJCrc
import Derived.Test.YtbnkfljkojhkoaaDoorTie
import Derived.Test.YtbnkfljkojhkoaaDoorCards
import Derived.SevenTiedAt
/- The walk of IndexSpares. -/
namespace Go.Proofs.YtbnkfljkojhkoaaDoor.Idx
open Go.RowKit Go.Proofs.YtbnkfljkojhkoaaDoor.Seg Go.Proofs.YtbnkfljkojhkoaaDoor.RowF Go.Proofs.YtbnkfljkojhkoaaDoor.Oct Go.Proofs.YtbnkfljkojhkoaaDoor.Rec Go.Proofs.YtbnkfljkojhkoaaDoor.Crc Go.Proofs.YtbnkfljkojhkoaaDoor.Bat Go.Proofs.YtbnkfljkojhkoaaDoor.Lay Go.Proofs.YtbnkfljkojhkoaaDoor.InR

def tb_IndexSpares12 : List (Nat × Nat) := [(0, 4398046511103), (0, 4398046511103), (3, 4398046511100), (4, 4398046511099), (8, 4398046511095), (0, 4398046511103), (0, 4398046511103), (64, 4398046511039), (160, 4398046510943), (256, 4398046510847), (512, 4398046510591), (1040, 4398046510063), (0, 4398046511103), (6144, 4398046504959), (8192, 4398046502911), (16384, 4398046494719), (16384, 4398046494719), (114688, 4398046396415), (147456, 4398046363647), (278528, 4398046232575), (16384, 4398046494719), (16384, 4398046494719), (2113536, 4398044397567), (5259264, 4398041251839), (8404992, 4398038106111), (16793600, 4398029717503), (34095104, 4398012415999), (67125248, 4397979385855), (134234112, 4397912293375), (268435456, 4397778075647), (268435456, 4397778075647), (1879048192, 4396167462911), (2415919104, 4395630591999), (4563402752, 4393483108351), (268435456, 4397778075647), (268435456, 4397778075647), (34628173824, 4363418337279), (86167781376, 4311878729727), (137707388928, 4260339122175), (275146342400, 4122900168703), (558614183936, 3839432327167), (1099780063232, 3298266447871)]
def isRel (n : Nat) (w : World) (i : Value) (wr : World) : Prop := ∃ j : Nat, i = .int .i64 (j : Int) ∧ 1 ≤ j ∧ j ≤ n + 1 ∧ Below w.heap.size w wr
set_option maxRecDepth 100000 in
set_option maxHeartbeats 8000000 in
theorem indexSpares_walk (sb : Int) (A : Option Addr) (n c : Nat) (l : List UInt8) (every : Int) (w : World) (hi : I64 sb) (hc : n ≤ c) (_hk : c ≤ reach) (hR : Rd w w.heap.size A n l) (_hi2 : I64 every) (ht : Tab w) :
    Calls Tryd.prog 7 #[.agg #[.int .i64 sb, .slice A n c], .int .i64 every] w fun e w' => e = .returned (.bool true) ∧ Below w.heap.size w w' := by
  have HW_0 := Lib.hid (belA w (.cells #[.int .i64 sb, .slice A n c] 28))
  have HS_0 := Lib.hid (At0.new w [.int .i64 sb, .slice A n c] 28)
  have HR_0 := Lib.hid (rdUp hR HW_0.out)
  have HT_0 := Lib.hid (ht.bel HW_0.out)
  have hmx : Tryd.prog.follows .mixedOrders = true := by kernel_rfl
  by_cases hn : (n : Int) ≤ 3000
  case neg =>
    have HFEW := Lib.hid (show (decide ((n : Int) ≤ 3000) && decide (((0 : Nat) : Int) ≤ 200)) = false by simp [hn])
    clear ht hR hn
    go_enter Tryd.func7, Tryd.ntmps7
    go_wp2_with (first
      | (go_at_call 9; (with_reducible refine (live8_any _ HT_0.out).mono ?_); rintro e w1 ⟨rfl, hb⟩; have HW_1 := Lib.hid (bel_trans HW_0.out hb); have HS_1 := Lib.hid (HS_0.out.below hb); have HR_1 := Lib.hid (rdUp HR_0.out hb); have HT_1 := Lib.hid (HT_0.out.bel hb); have hs1_0 : w1.cell? ⟨w.heap.size, 0, none⟩ = some (.int .i64 sb) := HS_1.out.cell 0; have hs1_1 : w1.cell? ⟨w.heap.size, 1, none⟩ = some (.slice A n c) := HS_1.out.cell 1; clear hb)
      | (go_at_call 14; (with_reducible refine (few_any sb A n c none 0 0 (z := false) HFEW.out _).mono ?_); rintro e w2 ⟨rfl, hb⟩; have HW_2 := Lib.hid (bel_trans HW_1.out hb); have HS_2 := Lib.hid (HS_1.out.below hb); have HR_2 := Lib.hid (rdUp HR_1.out hb); have HT_2 := Lib.hid (HT_1.out.bel hb); have hs2_0 : w2.cell? ⟨w.heap.size, 0, none⟩ = some (.int .i64 sb) := HS_2.out.cell 0; have hs2_1 : w2.cell? ⟨w.heap.size, 1, none⟩ = some (.slice A n c) := HS_2.out.cell 1; clear hb))
    go_ret
    exact ⟨rfl, HW_2.out⟩
  have HFEW := Lib.hid (show (decide ((n : Int) ≤ 3000) && decide (((0 : Nat) : Int) ≤ 200)) = true by simp [hn])
  have HLN := Lib.hid hR.len
  rcases makeX_ways ⟨sb, l⟩ every with hm | ⟨m, hm⟩
  · have HMK := Lib.hid hm
    clear ht hR hm
    go_enter Tryd.func7, Tryd.ntmps7
    go_wp2_with (first
      | (go_at_call 9; (with_reducible refine (live8_any _ HT_0.out).mono ?_); rintro e w1 ⟨rfl, hb⟩; have HW_1 := Lib.hid (bel_trans HW_0.out hb); have HS_1 := Lib.hid (HS_0.out.below hb); have HR_1 := Lib.hid (rdUp HR_0.out hb); have HT_1 := Lib.hid (HT_0.out.bel hb); have hs1_0 : w1.cell? ⟨w.heap.size, 0, none⟩ = some (.int .i64 sb) := HS_1.out.cell 0; have hs1_1 : w1.cell? ⟨w.heap.size, 1, none⟩ = some (.slice A n c) := HS_1.out.cell 1; clear hb)
      | (go_at_call 14; (with_reducible refine (few_any sb A n c none 0 0 (z := true) HFEW.out _).mono ?_); rintro e w2 ⟨rfl, hb⟩; have HW_2 := Lib.hid (bel_trans HW_1.out hb); have HS_2 := Lib.hid (HS_1.out.below hb); have HR_2 := Lib.hid (rdUp HR_1.out hb); have HT_2 := Lib.hid (HT_1.out.bel hb); have hs2_0 : w2.cell? ⟨w.heap.size, 0, none⟩ = some (.int .i64 sb) := HS_2.out.cell 0; have hs2_1 : w2.cell? ⟨w.heap.size, 1, none⟩ = some (.slice A n c) := HS_2.out.cell 1; clear hb)
      | (go_at_call 15; (with_reducible refine (Make_is A n c sb l every HMK.out _ HR_2.out hc hi HT_2.out).mono ?_); rintro e w3 ⟨A3, n3, c3, rfl, ho, hb⟩; have HW_3 := Lib.hid (bel_trans HW_2.out hb); have HS_3 := Lib.hid (HS_2.out.below hb); have HR_3 := Lib.hid (rdUp HR_2.out hb); have HT_3 := Lib.hid (HT_2.out.bel hb); obtain rfl : 0 = n3 := ho.len enS; have hs3_0 : w3.cell? ⟨w.heap.size, 0, none⟩ = some (.int .i64 sb) := HS_3.out.cell 0; have hs3_1 : w3.cell? ⟨w.heap.size, 1, none⟩ = some (.slice A n c) := HS_3.out.cell 1; clear hb ho))
    go_ret
    exact ⟨rfl, HW_3.out⟩
  · have HMK := Lib.hid hm
    obtain ⟨⟨he1, he2⟩, hsp, hpl, hnil, hln, hfi, hlen⟩ := make_facts hm
    simp only at hpl hnil hln hlen
    have HSP := Lib.hid hsp
    have HPL := Lib.hid hpl
    have HFI := Lib.hid hfi
    have HNIL := Lib.hid hnil
    have HLL := Lib.hid hln
    have hn4 : n ≤ 4096 := by have := HLN.out; omega
    clear ht hR hm hsp hpl hnil hln hfi hlen
    go_enter Tryd.func7, Tryd.ntmps7
    go_wp2_with (first
      | (go_at_call 9; (with_reducible refine (live8_any _ HT_0.out).mono ?_); rintro e w1 ⟨rfl, hb⟩; have HW_1 := Lib.hid (bel_trans HW_0.out hb); have HS_1 := Lib.hid (HS_0.out.below hb); have HR_1 := Lib.hid (rdUp HR_0.out hb); have HT_1 := Lib.hid (HT_0.out.bel hb); have hs1_0 : w1.cell? ⟨w.heap.size, 0, none⟩ = some (.int .i64 sb) := HS_1.out.cell 0; have hs1_1 : w1.cell? ⟨w.heap.size, 1, none⟩ = some (.slice A n c) := HS_1.out.cell 1; clear hb)
      | (go_at_call 14; (with_reducible refine (few_any sb A n c none 0 0 (z := true) HFEW.out _).mono ?_); rintro e w2 ⟨rfl, hb⟩; have HW_2 := Lib.hid (bel_trans HW_1.out hb); have HS_2 := Lib.hid (HS_1.out.below hb); have HR_2 := Lib.hid (rdUp HR_1.out hb); have HT_2 := Lib.hid (HT_1.out.bel hb); have hs2_0 : w2.cell? ⟨w.heap.size, 0, none⟩ = some (.int .i64 sb) := HS_2.out.cell 0; have hs2_1 : w2.cell? ⟨w.heap.size, 1, none⟩ = some (.slice A n c) := HS_2.out.cell 1; clear hb)
      | (go_at_call 15; (with_reducible refine (Make_is A n c sb l every HMK.out _ HR_2.out hc hi HT_2.out).mono ?_); rintro e w3 ⟨A3, n3, c3, rfl, ho, hb⟩; have HW_3 := Lib.hid (bel_trans HW_2.out hb); have HS_3 := Lib.hid (HS_2.out.below hb); have HR_3 := Lib.hid (rdUp HR_2.out hb); have HT_3 := Lib.hid (HT_2.out.bel hb); have HML := Lib.hid (ho.len enS); have hcap3 := ho.cap; have HE_3 := Lib.hid (OwnF.rd enS ho); have hs3_0 : w3.cell? ⟨w.heap.size, 0, none⟩ = some (.int .i64 sb) := HS_3.out.cell 0; have hs3_1 : w3.cell? ⟨w.heap.size, 1, none⟩ = some (.slice A n c) := HS_3.out.cell 1; clear hb ho))
    have hn3 : n3 ≤ 4097 := by
      rcases Nat.eq_zero_or_pos n3 with h0 | h0
      · omega
      · have h1 := HML.out
        rcases HLL.out with h | h
        · rw [h] at h1; simp at h1; omega
        · rw [h1, HLN.out] at h
          have h2 : ((n3 : Int) - 1) * 1 ≤ ((n3 : Int) - 1) * every := Int.mul_le_mul_of_nonneg_left he1 (by omega)
          omega
    go_loopw [8] (fun i wr => isRel n3 w3 i wr) (fun i _ => n3 + 1 - (intOf i).toNat)
    case atStart => exact ⟨1, rfl, Nat.le_refl _, by omega, Below.refl _ _⟩
    case round =>
      obtain ⟨j, rfl, hj1, hj2, hb⟩ := hrel
      have HBR := Lib.hid hb
      by_cases hlt : j < n3
      · obtain ⟨j0, hj0⟩ : ∃ j0, j0 = j - 1 := ⟨_, rfl⟩
        have hjj : j0 + 1 = j := by omega
        have HJJ := Lib.hid hjj
        have HRR := RdF.below HE_3.out hb (Nat.le_refl _)
        obtain ⟨b, o, ⟨x0, x1, x2⟩, rfl, hbl, hx, k0, k1, k2⟩ := en_at HRR (k := j0) (by omega)
        obtain ⟨b', o', ⟨y0, y1, y2⟩, hAA, _, hy, m0, m1, m2⟩ := en_at HRR (k := j) hlt
        injection hAA with hAA
        injection hAA with e1 e2
        subst e1 e2
        obtain ⟨s1, s2, s3⟩ := spread_at HSP.out hx (show m[j0 + 1]? = some _ by rw [hjj]; exact hy)
        have p1 := HPL.out _ (List.mem_of_getElem? hx)
        have p2 := HPL.out _ (List.mem_of_getElem? hy)
        rw [HLN.out] at p1 p2
        simp only at s1 s2 s3 p1 p2 k0 k1 k2 m0 m1 m2
        have hw1 : IntKind.i64.wrap ((j : Int) - 1) = (j0 : Int) := by rw [IntWalk.i64_in _ (by omega)]; omega
        have hw2 : IntKind.i64.wrap (y1 - x1) = y1 - x1 := IntWalk.i64_in _ (by omega)
        have t1 : decide ((j : Int) < (n3 : Int)) = true := decide_eq_true (by omega)
        have u1 : decide (y1 - x1 < every) = false := decide_eq_false (by omega)
        have u2 : decide (y0 ≤ x0) = false := decide_eq_false (by omega)
        have u3 : decide (y2 < x2) = false := decide_eq_false (by omega)
        have g1 : (j : Int) < (n3 : Int) := by omega
        have g2 : (j0 : Int) < (n3 : Int) := by omega
        have g3 : j0 < n3 := by omega
        have k0' : wr.drew.cell? ⟨b, o + j0 * 3, none⟩ = some (.int .i64 x0) := k0
        have k1' : wr.drew.cell? ⟨b, o + j0 * 3 + 1, none⟩ = some (.int .i64 x1) := k1
        have k2' : wr.drew.cell? ⟨b, o + j0 * 3 + 2, none⟩ = some (.int .i64 x2) := k2
        have m0' : wr.drew.cell? ⟨b, o + j * 3, none⟩ = some (.int .i64 y0) := m0
        have m1' : wr.drew.cell? ⟨b, o + j * 3 + 1, none⟩ = some (.int .i64 y1) := m1
        have m2' : wr.drew.cell? ⟨b, o + j * 3 + 2, none⟩ = some (.int .i64 y2) := m2
        clear hx hy s1 s2 s3 p1 p2 k0 k1 k2 m0 m1 m2 hb HRR hj0 hjj
        go_wp2
        have HSR := Lib.hid (show (fun W9 : World => W9 = wr.drew) wr.drew from rfl)
        refine region_let (fun W9 : World => W9 = wr.drew) 99 42 hmx rfl fun ops Q HOPS HQ => ?_
        have HREG := reg_of HOPS tb_IndexSpares12 rfl (by kernel_rfl) (by kernel_rfl) (by decide)
        refine stepTQ HOPS HREG 0 1 ?_ (by decide) rfl (by kernel_rfl) (by kernel_rfl) rfl ?_ HSR.out ?_
        rotate_left
        · intro w9 hS9; subst hS9; go_simp; (first | done | with_reducible rfl)
        dsimp only [List.set_cons_zero, List.set_cons_succ]
        refine stepTQ HOPS HREG 1 3 ?_ (by decide) rfl (by kernel_rfl) (by kernel_rfl) rfl ?_ HSR.out ?_
        rotate_left
        · intro w9 hS9; subst hS9; go_simp; (first | done | with_reducible rfl)
        dsimp only [List.set_cons_zero, List.set_cons_succ]
        refine stepTQ HOPS HREG 2 7 ?_ (by decide) rfl (by kernel_rfl) (by kernel_rfl) rfl ?_ HSR.out ?_
        rotate_left
        · intro w9 hS9; subst hS9; go_simp; (first | done | with_reducible rfl)
        dsimp only [List.set_cons_zero, List.set_cons_succ]
        refine stepTQ HOPS HREG 3 15 ?_ (by decide) rfl (by kernel_rfl) (by kernel_rfl) rfl ?_ HSR.out ?_
        rotate_left
        · intro w9 hS9; subst hS9; go_simp; (first | done | with_reducible rfl)
        dsimp only [List.set_cons_zero, List.set_cons_succ]
        refine stepTQ HOPS HREG 4 31 ?_ (by decide) rfl (by kernel_rfl) (by kernel_rfl) rfl ?_ HSR.out ?_
        rotate_left
        · intro w9 hS9; subst hS9; go_simp; (first | done | with_reducible rfl)
        dsimp only [List.set_cons_zero, List.set_cons_succ]
        refine stepTQ HOPS HREG 5 63 ?_ (by decide) rfl (by kernel_rfl) (by kernel_rfl) rfl ?_ HSR.out ?_
        rotate_left
        · intro w9 hS9; subst hS9; go_simp; (first | done | with_reducible rfl)
        dsimp only [List.set_cons_zero, List.set_cons_succ]
        refine stepTQ HOPS HREG 6 127 ?_ (by decide) rfl (by kernel_rfl) (by kernel_rfl) rfl ?_ HSR.out ?_
        rotate_left
        · intro w9 hS9; subst hS9; go_simp; (first | done | with_reducible rfl)
        dsimp only [List.set_cons_zero, List.set_cons_succ]
        refine stepTQ HOPS HREG 7 255 ?_ (by decide) rfl (by kernel_rfl) (by kernel_rfl) rfl ?_ HSR.out ?_
        rotate_left
        · intro w9 hS9; subst hS9; go_simp; (first | done | with_reducible rfl)
        dsimp only [List.set_cons_zero, List.set_cons_succ]
        refine stepTQ HOPS HREG 8 511 ?_ (by decide) rfl (by kernel_rfl) (by kernel_rfl) rfl ?_ HSR.out ?_
        rotate_left
        · intro w9 hS9; subst hS9; go_simp; (first | done | with_reducible rfl)
        dsimp only [List.set_cons_zero, List.set_cons_succ]
        refine stepTQ HOPS HREG 9 1023 ?_ (by decide) rfl (by kernel_rfl) (by kernel_rfl) rfl ?_ HSR.out ?_
        rotate_left
        · intro w9 hS9; subst hS9; go_simp; (first | done | with_reducible rfl)
        dsimp only [List.set_cons_zero, List.set_cons_succ]
        refine stepTQ HOPS HREG 10 2047 ?_ (by decide) rfl (by kernel_rfl) (by kernel_rfl) rfl ?_ HSR.out ?_
        rotate_left
        · intro w9 hS9; subst hS9; go_simp; (first | done | with_reducible rfl)
        dsimp only [List.set_cons_zero, List.set_cons_succ]
        refine stepTQ HOPS HREG 11 4095 ?_ (by decide) rfl (by kernel_rfl) (by kernel_rfl) rfl ?_ HSR.out ?_
        rotate_left
        · intro w9 hS9; subst hS9; go_simp; (first | done | with_reducible rfl)
        dsimp only [List.set_cons_zero, List.set_cons_succ]
        refine stepTQ HOPS HREG 12 8191 ?_ (by decide) rfl (by kernel_rfl) (by kernel_rfl) rfl ?_ HSR.out ?_
        rotate_left
        · intro w9 hS9; subst hS9; go_simp; (first | done | with_reducible rfl)
        dsimp only [List.set_cons_zero, List.set_cons_succ]
        refine stepTQ HOPS HREG 13 16383 ?_ (by decide) rfl (by kernel_rfl) (by kernel_rfl) rfl ?_ HSR.out ?_
        rotate_left
        · intro w9 hS9; subst hS9; go_simp; (first | done | with_reducible rfl)
        dsimp only [List.set_cons_zero, List.set_cons_succ]
        refine stepTQ HOPS HREG 14 32767 ?_ (by decide) rfl (by kernel_rfl) (by kernel_rfl) rfl ?_ HSR.out ?_
        rotate_left
        · intro w9 hS9; subst hS9; go_simp; (first | done | with_reducible rfl)
        dsimp only [List.set_cons_zero, List.set_cons_succ]
        refine stepTQ HOPS HREG 15 65535 ?_ (by decide) rfl (by kernel_rfl) (by kernel_rfl) rfl ?_ HSR.out ?_
        rotate_left
        · intro w9 hS9; subst hS9; go_simp; (first | done | with_reducible rfl)
        dsimp only [List.set_cons_zero, List.set_cons_succ]
        refine stepTQ HOPS HREG 16 131071 ?_ (by decide) rfl (by kernel_rfl) (by kernel_rfl) rfl ?_ HSR.out ?_
        rotate_left
        · intro w9 hS9; subst hS9; go_simp; (first | done | with_reducible rfl)
        dsimp only [List.set_cons_zero, List.set_cons_succ]
        refine stepTQ HOPS HREG 17 262143 ?_ (by decide) rfl (by kernel_rfl) (by kernel_rfl) rfl ?_ HSR.out ?_
        rotate_left
        · intro w9 hS9; subst hS9; go_simp; (first | done | with_reducible rfl)
        dsimp only [List.set_cons_zero, List.set_cons_succ]
        refine stepTQ HOPS HREG 18 524287 ?_ (by decide) rfl (by kernel_rfl) (by kernel_rfl) rfl ?_ HSR.out ?_
        rotate_left
        · intro w9 hS9; subst hS9; go_simp; (first | done | with_reducible rfl)
        dsimp only [List.set_cons_zero, List.set_cons_succ]
        refine stepTQ HOPS HREG 19 1048575 ?_ (by decide) rfl (by kernel_rfl) (by kernel_rfl) rfl ?_ HSR.out ?_
        rotate_left
        · intro w9 hS9; subst hS9; go_simp; (first | done | with_reducible rfl)
        dsimp only [List.set_cons_zero, List.set_cons_succ]
        refine stepTQ HOPS HREG 20 2097151 ?_ (by decide) rfl (by kernel_rfl) (by kernel_rfl) rfl ?_ HSR.out ?_
        rotate_left
        · intro w9 hS9; subst hS9; go_simp; (first | done | with_reducible rfl)
        dsimp only [List.set_cons_zero, List.set_cons_succ]
        refine stepTQ HOPS HREG 21 4194303 ?_ (by decide) rfl (by kernel_rfl) (by kernel_rfl) rfl ?_ HSR.out ?_
        rotate_left
        · intro w9 hS9; subst hS9; go_simp; (first | done | with_reducible rfl)
        dsimp only [List.set_cons_zero, List.set_cons_succ]
        refine stepTQ HOPS HREG 22 8388607 ?_ (by decide) rfl (by kernel_rfl) (by kernel_rfl) rfl ?_ HSR.out ?_
        rotate_left
        · intro w9 hS9; subst hS9; go_simp; (first | done | with_reducible rfl)
        dsimp only [List.set_cons_zero, List.set_cons_succ]
        refine stepTQ HOPS HREG 23 16777215 ?_ (by decide) rfl (by kernel_rfl) (by kernel_rfl) rfl ?_ HSR.out ?_
        rotate_left
        · intro w9 hS9; subst hS9; go_simp; (first | done | with_reducible rfl)
        dsimp only [List.set_cons_zero, List.set_cons_succ]
        refine stepTQ HOPS HREG 24 33554431 ?_ (by decide) rfl (by kernel_rfl) (by kernel_rfl) rfl ?_ HSR.out ?_
        rotate_left
        · intro w9 hS9; subst hS9; go_simp; (first | done | with_reducible rfl)
        dsimp only [List.set_cons_zero, List.set_cons_succ]
        refine stepTQ HOPS HREG 25 67108863 ?_ (by decide) rfl (by kernel_rfl) (by kernel_rfl) rfl ?_ HSR.out ?_
        rotate_left
        · intro w9 hS9; subst hS9; go_simp; (first | done | with_reducible rfl)
        dsimp only [List.set_cons_zero, List.set_cons_succ]
        refine stepTQ HOPS HREG 26 134217727 ?_ (by decide) rfl (by kernel_rfl) (by kernel_rfl) rfl ?_ HSR.out ?_
        rotate_left
        · intro w9 hS9; subst hS9; go_simp; (first | done | with_reducible rfl)
        dsimp only [List.set_cons_zero, List.set_cons_succ]
        refine stepTQ HOPS HREG 27 268435455 ?_ (by decide) rfl (by kernel_rfl) (by kernel_rfl) rfl ?_ HSR.out ?_
        rotate_left
        · intro w9 hS9; subst hS9; go_simp; (first | done | with_reducible rfl)
        dsimp only [List.set_cons_zero, List.set_cons_succ]
        refine stepTQ HOPS HREG 28 536870911 ?_ (by decide) rfl (by kernel_rfl) (by kernel_rfl) rfl ?_ HSR.out ?_
        rotate_left
        · intro w9 hS9; subst hS9; go_simp; (first | done | with_reducible rfl)
        dsimp only [List.set_cons_zero, List.set_cons_succ]
        refine stepTQ HOPS HREG 29 1073741823 ?_ (by decide) rfl (by kernel_rfl) (by kernel_rfl) rfl ?_ HSR.out ?_
        rotate_left
        · intro w9 hS9; subst hS9; go_simp; (first | done | with_reducible rfl)
        dsimp only [List.set_cons_zero, List.set_cons_succ]
        refine stepTQ HOPS HREG 30 2147483647 ?_ (by decide) rfl (by kernel_rfl) (by kernel_rfl) rfl ?_ HSR.out ?_
        rotate_left
        · intro w9 hS9; subst hS9; go_simp; (first | done | with_reducible rfl)
        dsimp only [List.set_cons_zero, List.set_cons_succ]
        refine stepTQ HOPS HREG 31 4294967295 ?_ (by decide) rfl (by kernel_rfl) (by kernel_rfl) rfl ?_ HSR.out ?_
        rotate_left
        · intro w9 hS9; subst hS9; go_simp; (first | done | with_reducible rfl)
        dsimp only [List.set_cons_zero, List.set_cons_succ]
        refine stepTQ HOPS HREG 32 8589934591 ?_ (by decide) rfl (by kernel_rfl) (by kernel_rfl) rfl ?_ HSR.out ?_
        rotate_left
        · intro w9 hS9; subst hS9; go_simp; (first | done | with_reducible rfl)
        dsimp only [List.set_cons_zero, List.set_cons_succ]
        refine stepTQ HOPS HREG 33 17179869183 ?_ (by decide) rfl (by kernel_rfl) (by kernel_rfl) rfl ?_ HSR.out ?_
        rotate_left
        · intro w9 hS9; subst hS9; go_simp; (first | done | with_reducible rfl)
        dsimp only [List.set_cons_zero, List.set_cons_succ]
        refine stepTQ HOPS HREG 34 34359738367 ?_ (by decide) rfl (by kernel_rfl) (by kernel_rfl) rfl ?_ HSR.out ?_
        rotate_left
        · intro w9 hS9; subst hS9; go_simp; (first | done | with_reducible rfl)
        dsimp only [List.set_cons_zero, List.set_cons_succ]
        refine stepTQ HOPS HREG 35 68719476735 ?_ (by decide) rfl (by kernel_rfl) (by kernel_rfl) rfl ?_ HSR.out ?_
        rotate_left
        · intro w9 hS9; subst hS9; go_simp; (first | done | with_reducible rfl)
        dsimp only [List.set_cons_zero, List.set_cons_succ]
        refine stepTQ HOPS HREG 36 137438953471 ?_ (by decide) rfl (by kernel_rfl) (by kernel_rfl) rfl ?_ HSR.out ?_
        rotate_left
        · intro w9 hS9; subst hS9; go_simp; (first | done | with_reducible rfl)
        dsimp only [List.set_cons_zero, List.set_cons_succ]
        refine stepTQ HOPS HREG 37 274877906943 ?_ (by decide) rfl (by kernel_rfl) (by kernel_rfl) rfl ?_ HSR.out ?_
        rotate_left
        · intro w9 hS9; subst hS9; go_simp; (first | done | with_reducible rfl)
        dsimp only [List.set_cons_zero, List.set_cons_succ]
        refine stepTQ HOPS HREG 38 549755813887 ?_ (by decide) rfl (by kernel_rfl) (by kernel_rfl) rfl ?_ HSR.out ?_
        rotate_left
        · intro w9 hS9; subst hS9; go_simp; (first | done | with_reducible rfl)
        dsimp only [List.set_cons_zero, List.set_cons_succ]
        refine stepTQ HOPS HREG 39 1099511627775 ?_ (by decide) rfl (by kernel_rfl) (by kernel_rfl) rfl ?_ HSR.out ?_
        rotate_left
        · intro w9 hS9; subst hS9; go_simp; (first | done | with_reducible rfl)
        dsimp only [List.set_cons_zero, List.set_cons_succ]
        refine stepTQ HOPS HREG 40 2199023255551 ?_ (by decide) rfl (by kernel_rfl) (by kernel_rfl) rfl ?_ HSR.out ?_
        rotate_left
        · intro w9 hS9; subst hS9; go_simp; (first | done | with_reducible rfl)
        dsimp only [List.set_cons_zero, List.set_cons_succ]
        refine stepTQ HOPS HREG 41 4398046511103 ?_ (by decide) rfl (by kernel_rfl) (by kernel_rfl) rfl ?_ HSR.out ?_
        rotate_left
        · intro w9 hS9; subst hS9; go_simp; (first | done | with_reducible rfl)
        dsimp only [List.set_cons_zero, List.set_cons_succ]
        refine stepE HOPS (by kernel_rfl) (HQ.out _ _ ?_)
        clear HQ HREG HOPS
        clear Q ops
        skip
        go_wp2
        go_roundw
        case rel => exact ⟨j + 1, by go_num, by omega, by omega, bel_drew HBR.out⟩
        case measure => simp [intOf]; omega
      · have hHS := HS_3.out.below hb
        have s1 : wr.cell? ⟨w.heap.size, 1, none⟩ = some (.slice A n c) := hHS.cell 1
        have t1 : decide ((j : Int) < (n3 : Int)) = false := decide_eq_false (by omega)
        have hRR := RdF.below HE_3.out hb (Nat.le_refl _)
        have hmx1 : ¬ every < 1 := by omega
        have hmx2 : ¬ every = 0 := by omega
        have hdiv : Int.tdiv (n : Int) every = (n : Int) / every := Int.tdiv_eq_ediv_of_nonneg (by omega)
        have hHL := hHS.lt
        rcases Nat.eq_zero_or_pos n3 with h0 | h0
        · subst h0
          have hm0 : m = [] := List.length_eq_zero_iff.1 HML.out
          have hl0 : n = 0 := by rw [← HLN.out, HNIL.out.1 hm0]; rfl
          subst hl0
          clear hm0 hHS hRR hb
          go_wp2
          go_ret
          exact ⟨rfl, bel_trans HW_3.out HBR.out⟩
        · have hne : m ≠ [] := fun e => by have h1 := HML.out; rw [e] at h1; simp at h1; omega
          have hnp : 0 < n := by rcases Nat.eq_zero_or_pos n with h9 | h9; exact absurd (HNIL.out.2 (List.length_eq_zero_iff.1 (HLN.out.trans h9))) hne; exact h9
          have hfe := few_entries (k := (n3 : Int)) (n := (n : Int)) (every := every) (by omega) he1 (by have h := HLL.out.resolve_left hne; rw [HML.out, HLN.out] at h; exact h)
          obtain ⟨b, o, ⟨x0, x1, x2⟩, rfl, hbl, hx, k0, k1, k2⟩ := en_at hRR (k := 0) h0
          have h10 := HFI.out _ hx
          simp only at h10 k0 k1 k2
          subst h10
          have k1' : wr.cell? ⟨b, o + 1, none⟩ = some (.int .i64 0) := by simpa using k1
          have v1 : decide ((0 : Int) < (n3 : Int)) = true := decide_eq_true (by omega)
          have v2 : decide ((0 : Int) < (n : Int)) = true := decide_eq_true (by omega)
          have v3 : ((n3 : Int) == 0) = false := beqF (by omega)
          have v4 : decide ((n3 : Int) ≤ (n : Int) / every + 1) = true := decide_eq_true hfe
          have v5 : IntKind.i64.wrap ((n : Int) / every) = (n : Int) / every := IntWalk.i64_in _ (by have := Int.ediv_le_self (a := (n : Int)) every (by omega); have := Int.ediv_nonneg (a := (n : Int)) (b := every) (by omega) (by omega); omega)
          have v6 : IntKind.i64.wrap ((n : Int) / every + 1) = (n : Int) / every + 1 := IntWalk.i64_in _ (by have := Int.ediv_le_self (a := (n : Int)) every (by omega); have := Int.ediv_nonneg (a := (n : Int)) (b := every) (by omega) (by omega); omega)
          have v7 : 0 < n3 := h0
          clear hne hx hRR hHS k0 k1 k2 hfe hb
          go_wp2
          go_ret
          exact ⟨rfl, bel_trans HW_3.out HBR.out⟩
end Go.Proofs.YtbnkfljkojhkoaaDoor.Idx

namespace Go.Proofs.YtbnkfljkojhkoaaDoor.indexSpares
open Go.ChangeShapes Go.WideShapes Go.ChangeAt Go.RowKit

theorem own : ownKnob Tryd.prog.godebug = none := by kernel_rfl
theorem laidOut : laidOutB Tryd.prog = true := by kernel_rfl

set_option maxRecDepth 100000 in
theorem lifted (os : Os) (started : os.Started) (H : Type) (enc : TypeId × Value → H) :
    ReturnsInHanded {} Tryd.checked os 7 .any (fun w args => (Rows.indexSparesSpec.pre enc Tryd.prog Tryd.f7 [] false w args ∧ laidMetH Tryd.prog Crc.listed w) ∧ sizedMet enc Tryd.prog Tryd.f7 (OpenSpec.ofChange Rows.indexSparesSpec) false w args)
      (Rows.indexSparesSpec.post enc Tryd.prog Tryd.f7 false true false false) := by
  refine returnsInHanded_of_change_and (C := Tryd.checked) (X := fun w _ => laidMetH Tryd.prog Crc.listed w) (fun _ _ _ hh h => h.of_heap hh) own started (by kernel_rfl) Tryd.func7
    (ChangeSpec.witness_shaped (enc := enc) (C := Tryd.checked) (os := os) (X := fun w _ => laidMetH Tryd.prog Crc.listed w) false (World.doorLaid Tryd.prog 400 os) #[.agg #[.int .i64 0, .slice none 0 0], .int .i64 0] 8 rfl (World.shaped_of_RefB (by kernel_rfl) (by kernel_rfl)) (by kernel_rfl) (by kernel_rfl) (by kernel_rfl) (Crc.door_met os _)) ?_
  intro W base args ds gs before hval0 hW _ hwt hL _
  have hval : ∀ (j : Nat) t v, Tryd.f7.params[j]? = some t → args[j]? = some v → Value.okWide Tryd.prog W .any base t v := hval0
  have hW' := hW
  obtain ⟨p, q, hA0, hV, rfl, hfz, hnd⟩ := hW
  have hA : DataW.TrodAll enc Tryd.prog W 0 (fun _ => true) true Tryd.f7.params.toList args.toList ds p := hA0
  rw [Tryd.params7] at hA hval
  obtain ⟨v0, vs0, d0, ds0, p0, q0, hargs, rfl, rfl, h0, r0⟩ := trodAll_cons hA
  obtain ⟨v1, vs1, d1, ds1, p1, q1, rfl, rfl, rfl, h1, r1⟩ := trodAll_cons r0
  obtain ⟨rfl, rfl, rfl⟩ := trodAll_nil r1
  obtain rfl : args = #[v0, v1] := by cases args; simp_all
  obtain ⟨rfl, rfl⟩ := trodVars_none hV
  have k0 := h0
  have lt0 : ∀ x ∈ p0, x.block < W.heap.size := by obtain ⟨m, hm⟩ := k0; exact DataW.trod_lt m _ _ _ hm
  obtain ⟨sb_0, A_0, n_0, c_0, l_0, rfl, hi_0, hc_0, hk_0, hR_0⟩ := Seg.open_seg (hval 0 28 v0 rfl rfl) h0 (Bat.weights_arg (j := 0) hwt (by kernel_rfl) rfl)
  have k1 := h1
  have lt1 : ∀ x ∈ p1, x.block < W.heap.size := by obtain ⟨m, hm⟩ := k1; exact DataW.trod_lt m _ _ _ hm
  obtain ⟨a1, rfl, hi1⟩ := Oct.open_i64 Tryd.underlying3 (hval 1 3 v1 rfl rfl) h1
  clear hA0 hval0
  refine (Idx.indexSpares_walk sb_0 A_0 n_0 c_0 l_0 a1 W hi_0 hc_0 hk_0 hR_0 hi1 (Crc.tab_of_laid hL)).mono fun e W' ⟨he, bel⟩ => ?_
  subst he
  exact ⟨_, rfl, _, _, _, [], _, [], hW', trodAll_mk1 (shut_bool Tryd.underlying4 _), (trodAll_cons_mk (Below.trod laidOut (by kernel_rfl) (of_decide_eq_true (by kernel_rfl)) k0 bel lt0) (trodAll_cons_mk (Below.trod laidOut (by kernel_rfl) (of_decide_eq_true (by kernel_rfl)) k1 bel lt1) trodAll_mk0)), rfl, bel.frame _, fun h => by cases h⟩

theorem over : Rows.indexSparesRow.holds Tryd.pinned (OpenSpec.ofChange Rows.indexSparesSpec) :=
  OpenClaim.holds_of_wide 7 Tryd.f7 rfl rfl rfl rfl rfl rfl rfl ⟨rfl, rfl, rfl, rfl, rfl⟩ rfl rfl rfl rfl rfl (by kernel_rfl) Tryd.func7 (by kernel_rfl)
    (of_decide_eq_true (by kernel_rfl)) (by unfold Func.isWrapper; first | (rw [if_pos (by decide +kernel)]; kernel_rfl) | (rw [if_neg (by decide +kernel)]; exact ⟨rfl, rfl⟩))
    (fun os started H enc _ => lifted os started H enc)

theorem proved : Rows.IndexSparesCardSaid :=
  Claim7.holds_tied_plain_at .later [] [.data] true (true, "41be7e607d66cfdd6008461b4b7c97f5871f9791b8cb61aa2317aa8070baa326") false
    over (fun _ h => by cases h) (by kernel_rfl) (fun _ h => by cases h) indexSpares_row_tie rfl ⟨rfl, rfl⟩ (by kernel_rfl) rfl
    (fun f fn hf hfn => by
      obtain rfl : f = 7 := Option.some.inj ((show Tryd.prog.funcNamed "watermeet/watermeetlaw08.IndexSpares" = some 7 by kernel_rfl).symm.trans hf) |>.symm
      obtain rfl : fn = Tryd.f7 := (Option.some.inj (Tryd.func7.symm.trans hfn)).symm
      exact ⟨by kernel_rfl, fun j t ht => by
        rw [Tryd.params7] at ht
        have hm : t ∈ [28, 3] := by simpa using Array.mem_of_getElem? ht
        have hall : ([28, 3].all fun u => !Tryd.prog.wantsStandIn u) = true := by kernel_rfl
        exact (show Tryd.prog.wantsStandIn t = false by simpa using List.all_eq_true.1 hall t hm)⟩)
    (by kernel_rfl)
#print axioms proved
end Go.Proofs.YtbnkfljkojhkoaaDoor.indexSpares
