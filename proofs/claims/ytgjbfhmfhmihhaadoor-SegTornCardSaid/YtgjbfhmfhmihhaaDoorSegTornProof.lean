/- For any segment (at most 9,000 bytes) that is cut off anywhere: the batches that are whole are told, what is mended is whole, and it ends no later (the law answers true, and changes nothing that was there). Conditions: none.
-/
import Derived.Test.YtgjbfhmfhmihhaaDoorSegW
import Derived.Test.YtgjbfhmfhmihhaaDoorSegMathT
import Derived.Test.YtgjbfhmfhmihhaaDoorSegSA
import Derived.Test.YtgjbfhmfhmihhaaDoorInT
import Derived.Test.YtgjbfhmfhmihhaaDoorRows
import Derived.WalkKit
import Derived.ProofKit
import Derived.OpenShut
import Derived.ChangeOld
import Derived.Below
import Derived.Carry
import Derived.Test.YtgjbfhmfhmihhaaDoorJOct
import Derived.Test.YtgjbfhmfhmihhaaDoorSegArg
import Derived.Test.YtgjbfhmfhmihhaaDoorJCrc
import Derived.Test.YtgjbfhmfhmihhaaDoorTie
import Derived.Test.YtgjbfhmfhmihhaaDoorCards
import Derived.SevenTiedAt
/- The walk of SegTorn. -/
namespace Go.Proofs.YtgjbfhmfhmihhaaDoor.Seg
open Go.RowKit Go.Proofs.YtgjbfhmfhmihhaaDoor.Oct Go.Proofs.YtgjbfhmfhmihhaaDoor.Rec Go.Proofs.YtgjbfhmfhmihhaaDoor.Crc Go.Proofs.YtgjbfhmfhmihhaaDoor.Bat Go.Proofs.YtgjbfhmfhmihhaaDoor.Lay Go.Proofs.YtgjbfhmfhmihhaaDoor.InR

def tb_SegTorn12 : List (Nat × Nat) := [(0, 137438953471), (0, 137438953471), (0, 137438953471), (6, 137438953465), (9, 137438953462), (16, 137438953455), (32, 137438953439), (32, 137438953439), (160, 137438953311), (288, 137438953183), (608, 137438952863), (1056, 137438952415), (2080, 137438951423), (4096, 137438949375), (4096, 137438949375), (28672, 137438924799), (36864, 137438916607), (69632, 137438887935), (131072, 137438822399), (131072, 137438822399), (917504, 137438035967), (1179648, 137437773823), (3145728, 137436856319), (4194304, 137434759167), (12582912, 137426370559), (4194304, 137434759167), (54525952, 137401204735), (88080384, 137350873087), (138412032, 137300541439), (335544320, 137170518015), (536870912, 136902082559), (1610612736, 135828340735), (536870912, 136902082559), (6979321856, 132607115263), (11274289152, 126164664319), (17716740096, 119722213375), (68719476735, 103079215103)]
set_option maxRecDepth 100000 in
set_option maxHeartbeats 8000000 in
theorem segTorn_walk (sb : Int) (A : Option Addr) (n c : Nat) (l : List UInt8) (cut : Int) (w : World) (hi : I64 sb) (hc : n ≤ c) (_hk : c ≤ reach) (hR : Rd w w.heap.size A n l) (_ho : I64 cut) (ht : Tab w) :
    Calls Tryd.prog 7 #[.agg #[.int .i64 sb, .slice A n c], .int .i64 cut] w fun e w' => e = .returned (.bool true) ∧ Below w.heap.size w w' := by
  have HW_0 := Lib.hid (belA w (.cells #[.int .i64 sb, .slice A n c] 24))
  have HS_0 := Lib.hid (At0.new w [.int .i64 sb, .slice A n c] 24)
  have HR_0 := Lib.hid (rdUp hR HW_0.out)
  have HT_0 := Lib.hid (ht.bel HW_0.out)
  have hmx : Tryd.prog.follows .mixedOrders = true := by kernel_rfl
  clear hR ht
  rcases hz : decide ((n : Int) ≤ 9000) with _ | _
  · have HZ := Lib.hid hz
    clear hz
    go_enter Tryd.func7, Tryd.ntmps7
    go_wp2_with (first
      | (go_at_call 12; (with_reducible refine (live_any _ HT_0.out).mono ?_); rintro e w1 ⟨rfl, hb⟩; have HW_1 := Lib.hid (bel_trans HW_0.out hb); have HS_1 := Lib.hid (HS_0.out.below hb); have HR_1 := Lib.hid (rdUp HR_0.out hb); have HT_1 := Lib.hid (HT_0.out.bel hb); have hs1_0 : w1.cell? ⟨w.heap.size, 0, none⟩ = some (.int .i64 sb) := HS_1.out.cell 0; have hs1_1 : w1.cell? ⟨w.heap.size, 1, none⟩ = some (.slice A n c) := HS_1.out.cell 1; clear hb)
      | (go_at_call 13; (with_reducible refine (refFewS_is sb A n c _ HZ.out).mono ?_); rintro e w2 ⟨rfl, hb⟩; have HW_2 := Lib.hid (bel_trans HW_1.out hb); have HS_2 := Lib.hid (HS_1.out.below hb); have HR_2 := Lib.hid (rdUp HR_1.out hb); have HT_2 := Lib.hid (HT_1.out.bel hb); have hs2_0 : w2.cell? ⟨w.heap.size, 0, none⟩ = some (.int .i64 sb) := HS_2.out.cell 0; have hs2_1 : w2.cell? ⟨w.heap.size, 1, none⟩ = some (.slice A n c) := HS_2.out.cell 1; clear hb))
    go_ret
    exact ⟨rfl, HW_2.out⟩
  have hn : n ≤ 9000 := by have := of_decide_eq_true hz; omega
  have HZ := Lib.hid hz
  clear hz
  have hlen := HR_0.out.len
  by_cases hneg : cut < 0
  · go_enter Tryd.func7, Tryd.ntmps7
    go_wp2_with (first
      | (go_at_call 12; (with_reducible refine (live_any _ HT_0.out).mono ?_); rintro e w1 ⟨rfl, hb⟩; have HW_1 := Lib.hid (bel_trans HW_0.out hb); have HS_1 := Lib.hid (HS_0.out.below hb); have HR_1 := Lib.hid (rdUp HR_0.out hb); have HT_1 := Lib.hid (HT_0.out.bel hb); have hs1_0 : w1.cell? ⟨w.heap.size, 0, none⟩ = some (.int .i64 sb) := HS_1.out.cell 0; have hs1_1 : w1.cell? ⟨w.heap.size, 1, none⟩ = some (.slice A n c) := HS_1.out.cell 1; clear hb)
      | (go_at_call 13; (with_reducible refine (refFewS_is sb A n c _ HZ.out).mono ?_); rintro e w2 ⟨rfl, hb⟩; have HW_2 := Lib.hid (bel_trans HW_1.out hb); have HS_2 := Lib.hid (HS_1.out.below hb); have HR_2 := Lib.hid (rdUp HR_1.out hb); have HT_2 := Lib.hid (HT_1.out.bel hb); have hs2_0 : w2.cell? ⟨w.heap.size, 0, none⟩ = some (.int .i64 sb) := HS_2.out.cell 0; have hs2_1 : w2.cell? ⟨w.heap.size, 1, none⟩ = some (.slice A n c) := HS_2.out.cell 1; clear hb))
    go_ret
    exact ⟨rfl, HW_2.out⟩
  by_cases hbig : (n : Int) < cut
  · go_enter Tryd.func7, Tryd.ntmps7
    go_wp2_with (first
      | (go_at_call 12; (with_reducible refine (live_any _ HT_0.out).mono ?_); rintro e w1 ⟨rfl, hb⟩; have HW_1 := Lib.hid (bel_trans HW_0.out hb); have HS_1 := Lib.hid (HS_0.out.below hb); have HR_1 := Lib.hid (rdUp HR_0.out hb); have HT_1 := Lib.hid (HT_0.out.bel hb); have hs1_0 : w1.cell? ⟨w.heap.size, 0, none⟩ = some (.int .i64 sb) := HS_1.out.cell 0; have hs1_1 : w1.cell? ⟨w.heap.size, 1, none⟩ = some (.slice A n c) := HS_1.out.cell 1; clear hb)
      | (go_at_call 13; (with_reducible refine (refFewS_is sb A n c _ HZ.out).mono ?_); rintro e w2 ⟨rfl, hb⟩; have HW_2 := Lib.hid (bel_trans HW_1.out hb); have HS_2 := Lib.hid (HS_1.out.below hb); have HR_2 := Lib.hid (rdUp HR_1.out hb); have HT_2 := Lib.hid (HT_1.out.bel hb); have hs2_0 : w2.cell? ⟨w.heap.size, 0, none⟩ = some (.int .i64 sb) := HS_2.out.cell 0; have hs2_1 : w2.cell? ⟨w.heap.size, 1, none⟩ = some (.slice A n c) := HS_2.out.cell 1; clear hb))
    go_ret
    exact ⟨rfl, HW_2.out⟩
  obtain ⟨m, rfl⟩ : ∃ m : Nat, cut = (m : Int) := ⟨cut.toNat, by omega⟩
  have hm : m ≤ n := by omega
  have hm2 : (m : Int) ≤ (n : Int) := by omega
  obtain ⟨L, g, hsc⟩ : ∃ L g, sc sb l = (L, g) := ⟨_, _, rfl⟩
  have hgl : g ≤ n := by have h := (sc_good sb l).2.2.2.1; rw [hsc] at h; simp only at h; omega
  have hLl : L.length ≤ 9000 := by have h := (sc_good sb l).2.1; rw [hsc] at h; have h2 := byR_ge L; simp only at h; omega
  have HSC := Lib.hid hsc
  have HI := Lib.hid hi
  obtain ⟨M, q, hsm⟩ : ∃ M q, sc sb (l.take m) = (M, q) := ⟨_, _, rfl⟩
  have htn := torn_all sb l (cut := m) (by omega)
  rw [hsc, hsm] at htn
  simp only at htn
  obtain ⟨t1, t2, t3, t4, t5, t6⟩ := htn
  have hfa := fix_all sb (l.take m)
  rw [hsm] at hfa
  simp only at hfa
  obtain ⟨f1, f2, f3⟩ := hfa
  have HT5 := Lib.hid t5
  clear t5
  have HSM := Lib.hid hsm
  have HFX := Lib.hid (show fixS ⟨sb, l.take m⟩ = (⟨sb, (l.take m).take q⟩, (m : Int) - q) by unfold fixS goodS; simp only [hsm]; rw [List.length_take, Nat.min_eq_left (by omega)])
  obtain ⟨y1, hy1⟩ : ∃ y1, y1 = l.take m := ⟨_, rfl⟩
  obtain ⟨ys, hys⟩ : ∃ ys, ys = y1.take q := ⟨_, rfl⟩
  rw [← hy1] at HSM HFX f1 f2 f3 t6
  rw [← hys] at HFX f1 f2 f3
  have hy1l : y1.length = m := by rw [hy1, List.length_take]; omega
  have HYL := Lib.hid hy1l
  have HYQ := Lib.hid f2
  obtain ⟨E, hE⟩ : ∃ E, endS ⟨sb, l⟩ = E := ⟨_, rfl⟩
  obtain ⟨E2, hE2⟩ : ∃ E2, endS ⟨sb, y1⟩ = E2 := ⟨_, rfl⟩
  rw [hE, hE2] at t6
  have HE := Lib.hid hE
  have HE2 := Lib.hid hE2
  have HE3 := Lib.hid (f3.trans hE2)
  have HF1 := Lib.hid f1
  have HT4 := Lib.hid (eqT_self M)
  have HTK := Lib.hid t4
  have HY1 := Lib.hid hy1
  have hml : M.length ≤ 9000 := by omega
  have hm0 : (0 : Int) ≤ (m : Int) := by omega
  have hmc : (m : Int) ≤ (c : Int) := by omega
  have u0 : decide ((m : Int) < 0) = false := decide_eq_false (by omega)
  have u1 : decide ((L.length : Int) < (M.length : Int)) = false := decide_eq_false (by omega)
  have u2 : decide ((m : Int) < (q : Int)) = false := decide_eq_false (by omega)
  have u3 : decide ((g : Int) < (q : Int)) = false := decide_eq_false (by omega)
  have u6 : decide (E2 ≤ E) = true := decide_eq_true t6
  have v1 : decide (L.length < M.length) = false := decide_eq_false (by omega)
  have v2 : decide (m < q) = false := decide_eq_false (by omega)
  have v3 : decide (g < q) = false := decide_eq_false (by omega)
  have hq1 : (M.length : Int) ≤ (L.length : Int) := by omega
  have hq2 : (q : Int) ≤ (m : Int) := by omega
  have hwr : IntKind.i64.wrap ((m : Int) - (q : Int)) = (m : Int) - (q : Int) := IntWalk.i64_in _ (by omega)
  clear hsc hsm f1 f2 f3 t4 t6 hy1 hys hE hE2 hneg hbig
  go_enter Tryd.func7, Tryd.ntmps7
  go_wp2_with (first
    | (go_at_call 12; (with_reducible refine (live_any _ HT_0.out).mono ?_); rintro e w1 ⟨rfl, hb⟩; have HW_1 := Lib.hid (bel_trans HW_0.out hb); have HS_1 := Lib.hid (HS_0.out.below hb); have HR_1 := Lib.hid (rdUp HR_0.out hb); have HT_1 := Lib.hid (HT_0.out.bel hb); have hs1_0 : w1.cell? ⟨w.heap.size, 0, none⟩ = some (.int .i64 sb) := HS_1.out.cell 0; have hs1_1 : w1.cell? ⟨w.heap.size, 1, none⟩ = some (.slice A n c) := HS_1.out.cell 1; clear hb)
    | (go_at_call 13; (with_reducible refine (refFewS_is sb A n c _ HZ.out).mono ?_); rintro e w2 ⟨rfl, hb⟩; have HW_2 := Lib.hid (bel_trans HW_1.out hb); have HS_2 := Lib.hid (HS_1.out.below hb); have HR_2 := Lib.hid (rdUp HR_1.out hb); have HT_2 := Lib.hid (HT_1.out.bel hb); have hs2_0 : w2.cell? ⟨w.heap.size, 0, none⟩ = some (.int .i64 sb) := HS_2.out.cell 0; have hs2_1 : w2.cell? ⟨w.heap.size, 1, none⟩ = some (.slice A n c) := HS_2.out.cell 1; clear hb)
    | (go_at_call 15; (with_reducible refine (Scan_is HSC.out HR_2.out hc (by omega) HI.out HT_2.out).mono ?_); rintro e w3 ⟨A3, n3, c3, rfl, ho, hb⟩; have HW_3 := Lib.hid (bel_trans HW_2.out hb); have HS_3 := Lib.hid (HS_2.out.below hb); have HR_3 := Lib.hid (rdUp HR_2.out hb); have HT_3 := Lib.hid (HT_2.out.bel hb); have HL_3 := Lib.hid (ho.rd); have hn3 : n3 ≤ 1099511627776 := (by have h9 := ho.len; omega); have hcap3 := ho.cap; obtain rfl : n3 = L.length := ho.len.symm; have hs3_0 : w3.cell? ⟨w.heap.size, 0, none⟩ = some (.int .i64 sb) := HS_3.out.cell 0; have hs3_1 : w3.cell? ⟨w.heap.size, 1, none⟩ = some (.slice A n c) := HS_3.out.cell 1; clear hb ho))
  go_cut [7] (fun s9 wx => ∃ X A4 c4, s9 = .pointer (some ⟨X, 0, none⟩) ∧ At1 wx X [.int .i64 sb, .slice A4 m c4] ∧ OwnB wx 5 w3.heap.size (.slice A4 m c4) m y1 ∧ (∀ g, (Value.slice A4 m c4).ownBlock = some g → g ≠ X) ∧ w3.heap.size ≤ X ∧ Below w3.heap.size w3 wx)
  case first =>
    have HRA := Lib.hid (show Rd w3.drew w3.heap.size A n l from HR_3.out.drew)
    have HRB := Lib.hid (show Rd (w3.alloc (.cells #[.int .i64 0, .slice none 0 0] 24)).drew w3.heap.size A n l from ((HR_3.out).alloc (Nat.le_refl _) _).drew)
    have S0 := HS_3.out.cell 0
    have S1 := HS_3.out.cell 1
    have hlt3 := HS_3.out.lt
    go_region_held3 (fun x : World => x.cell? ⟨w.heap.size, 0, none⟩ = some (.int .i64 sb) ∧ x.cell? ⟨w.heap.size, 1, none⟩ = some (.slice A n c)) (first | exact ⟨S0, S1⟩ | exact ⟨(World.cell?_alloc_lt _ _ _ hlt3).trans S0, (World.cell?_alloc_lt _ _ _ hlt3).trans S1⟩ | exact ⟨P0, P1⟩ | exact ⟨(World.cell?_alloc_lt _ _ _ hlt4).trans P0, (World.cell?_alloc_lt _ _ _ hlt4).trans P1⟩ | exact ⟨(cell_off (by simp; omega)).trans ((cell_off (by simp; omega)).trans P0), (cell_off (by simp; omega)).trans ((cell_off (by simp; omega)).trans P1)⟩ | exact ⟨(cell_off (by simp; omega)).trans ((cell_off (by simp; omega)).trans ((World.cell?_alloc_lt _ _ _ hlt4).trans P0)), (cell_off (by simp; omega)).trans ((cell_off (by simp; omega)).trans ((World.cell?_alloc_lt _ _ _ hlt4).trans P1))⟩) (first
      | (go_at_call 14; (with_reducible refine (Copy_any A m c y1 w3.heap.size w3.drew (by rw [HY1.out]; exact (HRA.out).take hm) (by omega)).mono ?_); rintro e w4 ⟨A4, n4, c4, rfl, ho, hb⟩; have hb3 := bel_trans (Below.refl w3.heap.size w3).drew hb; obtain rfl : m = n4 := HYL.out.symm.trans ho.len; have hcap4 := ho.cap; have hlt4 : w.heap.size < w4.heap.size := (Nat.lt_of_lt_of_le hlt3 hb3.size); have P0 := (hb3.cell (p := ⟨w.heap.size, 0, none⟩) hlt3).trans S0; have P1 := (hb3.cell (p := ⟨w.heap.size, 1, none⟩) hlt3).trans S1; have HB3 := Lib.hid hb3; have HO := Lib.hid ho; clear hb hb3 ho)
      | (go_at_call 14; (with_reducible refine (Copy_any A m c y1 w3.heap.size (w3.alloc (.cells #[.int .i64 0, .slice none 0 0] 24)).drew (by rw [HY1.out]; exact (HRB.out).take hm) (by omega)).mono ?_); rintro e w4 ⟨A4, n4, c4, rfl, ho, hb⟩; have hb3 := bel_trans (belA w3 (.cells #[.int .i64 0, .slice none 0 0] 24)).drew hb; have Z0 := (hb.cell (p := ⟨w3.heap.size, 0, none⟩) (by simp)).trans (show _ = some (.int .i64 0) by simp [go_sem]); have Z1 := (hb.cell (p := ⟨w3.heap.size, 1, none⟩) (by simp)).trans (show _ = some (.slice none 0 0) by simp [go_sem]); have F0 := (hb.frozen (p := ⟨w3.heap.size, 0, none⟩) (by simp)).trans (show _ = false by simp [go_sem]); have F1 := (hb.frozen (p := ⟨w3.heap.size, 1, none⟩) (by simp)).trans (show _ = false by simp [go_sem]); have hltX : w3.heap.size < w4.heap.size := (by have := hb.size; simp at this; omega); have HNE := Lib.hid (fun g hg => by have := (World.ownsRow.lt ho g hg).1; simp at this; omega : ∀ g, (Value.slice A4 n4 c4).ownBlock = some g → g ≠ w3.heap.size); obtain rfl : m = n4 := HYL.out.symm.trans ho.len; have hcap4 := ho.cap; have hlt4 : w.heap.size < w4.heap.size := (Nat.lt_of_lt_of_le hlt3 hb3.size); have P0 := (hb3.cell (p := ⟨w.heap.size, 0, none⟩) hlt3).trans S0; have P1 := (hb3.cell (p := ⟨w.heap.size, 1, none⟩) hlt3).trans S1; have HB3 := Lib.hid hb3; have HO := Lib.hid ho; clear hb hb3 ho))
    all_goals go_wp2
    all_goals go_meet
    · exact ⟨w4.heap.size, A4, c4, rfl, At1.two (by simp) (by simp [go_sem]) (by simp [go_sem]), World.ownsRow.alloc HO.out _, fun g hg h9 => absurd (World.ownsRow.lt HO.out g hg).2 (by omega), HB3.out.size, HB3.out.alloc HB3.out.size _⟩
    · exact ⟨w3.heap.size, A4, c4, rfl, At1.two (by simpa using hltX) (by simp [go_sem, Z0]) (by simp [go_sem, Z1]), OwnB.more (ownsRow_setCell_below (ownsRow_setCell_below HO.out (by simp) _) (by simp) _) (by simp), HNE.out, Nat.le_refl _, (HB3.out.setCell (by simp) _).setCell (by simp) _⟩
  case rest =>
    obtain ⟨X, A4, c4, rfl, hbx, ho, hnx, hX, hb⟩ := hcut
    rename World => w4
    have hcap4 := ho.cap
    have HW_4 := Lib.hid (bel_trans HW_3.out hb)
    have HS_4 := Lib.hid (HS_3.out.below hb)
    have HR_4 := Lib.hid (rdUp HR_3.out hb)
    have HT_4 := Lib.hid (HT_3.out.bel hb)
    have HL_4 := Lib.hid (rdtUp HL_3.out hb)
    have HQ_4 := Lib.hid (hbx)
    have HQR_4 := Lib.hid (ho.rd)
    have HQO := Lib.hid ho
    have HQN := Lib.hid hnx
    have HBW := Lib.hid hb
    have hs4_0 : w4.cell? ⟨w.heap.size, 0, none⟩ = some (.int .i64 sb) := HS_4.out.cell 0
    have hs4_1 : w4.cell? ⟨w.heap.size, 1, none⟩ = some (.slice A n c) := HS_4.out.cell 1
    have hq4_0 : w4.cell? ⟨X, 0, none⟩ = some (.int .i64 sb) := HQ_4.out.2 0 _ rfl
    have hq4_1 : w4.cell? ⟨X, 1, none⟩ = some (.slice A4 m c4) := HQ_4.out.2 1 _ rfl
    clear hbx ho hnx hb
    go_upto_region 8 with (go_at_call 15; (with_reducible refine (Scan_is HSM.out HQR_4.out hcap4 (by omega) HI.out HT_4.out).mono ?_); rintro e w5 ⟨A5, n5, c5, rfl, ho, hb⟩; have HW_5 := Lib.hid (bel_trans HW_4.out hb); have HS_5 := Lib.hid (HS_4.out.below hb); have HR_5 := Lib.hid (rdUp HR_4.out hb); have HT_5 := Lib.hid (HT_4.out.bel hb); have HL_5 := Lib.hid (rdtUp HL_4.out hb); have HQ_5 := Lib.hid (HQ_4.out.below hb); have HQR_5 := Lib.hid (rdUp HQR_4.out hb); have HM_5 := Lib.hid (ho.rd); have hn5 : n5 ≤ 1099511627776 := (by have h9 := ho.len; omega); have hcap5 := ho.cap; obtain rfl : n5 = M.length := ho.len.symm; have hs5_0 : w5.cell? ⟨w.heap.size, 0, none⟩ = some (.int .i64 sb) := HS_5.out.cell 0; have hs5_1 : w5.cell? ⟨w.heap.size, 1, none⟩ = some (.slice A n c) := HS_5.out.cell 1; have hq5_0 : w5.cell? ⟨X, 0, none⟩ = some (.int .i64 sb) := HQ_5.out.2 0 _ rfl; have hq5_1 : w5.cell? ⟨X, 1, none⟩ = some (.slice A4 m c4) := HQ_5.out.2 1 _ rfl; clear hb ho)
    go_cut [9, 81] (fun s9 s81 wx => s9 = .int .i64 (q : Int) ∧ s81 = .bool false ∧ Below w5.heap.size w5 wx)
    case first =>
      by_cases hgm : g ≤ m
      · have HQG := Lib.hid (HT5.out hgm)
        have u4 : decide ((g : Int) ≤ (m : Int)) = true := decide_eq_true (by omega)
        have u4n : decide (g ≤ m) = true := decide_eq_true hgm
        have u5 : ((q : Int) != (g : Int)) = false := by rw [HQG.out]; simp
        clear hgm
        go_wp2_with (first
          | (go_at_call 19; (with_reducible refine (SameAll_is A5 A3 M.length c5 M.length c3 M (L.take M.length) _ HM_5.out (HL_5.out.take t1) (by omega) (by omega) (eqT_iff.2 HTK.out)).mono ?_); rintro e w6 ⟨rfl, hb⟩; have HW_6 := Lib.hid (bel_trans HW_5.out hb); have HS_6 := Lib.hid (HS_5.out.below hb); have HR_6 := Lib.hid (rdUp HR_5.out hb); have HT_6 := Lib.hid (HT_5.out.bel hb); have HL_6 := Lib.hid (rdtUp HL_5.out hb); have HQ_6 := Lib.hid (HQ_5.out.below hb); have HQR_6 := Lib.hid (rdUp HQR_5.out hb); have HM_6 := Lib.hid (rdtUp HM_5.out hb); have HB6 := Lib.hid hb; have hs6_0 : w6.cell? ⟨w.heap.size, 0, none⟩ = some (.int .i64 sb) := HS_6.out.cell 0; have hs6_1 : w6.cell? ⟨w.heap.size, 1, none⟩ = some (.slice A n c) := HS_6.out.cell 1; have hq6_0 : w6.cell? ⟨X, 0, none⟩ = some (.int .i64 sb) := HQ_6.out.2 0 _ rfl; have hq6_1 : w6.cell? ⟨X, 1, none⟩ = some (.slice A4 m c4) := HQ_6.out.2 1 _ rfl; clear hb))
        go_meet
        exact ⟨by rw [HQG.out], by first | rfl | (simp; omega), HB6.out⟩
      · have u4 : decide ((g : Int) ≤ (m : Int)) = false := decide_eq_false (by omega)
        have u4n : decide (g ≤ m) = false := decide_eq_false hgm
        go_wp2_with (first
          | (go_at_call 19; (with_reducible refine (SameAll_is A5 A3 M.length c5 M.length c3 M (L.take M.length) _ HM_5.out (HL_5.out.take t1) (by omega) (by omega) (eqT_iff.2 HTK.out)).mono ?_); rintro e w6 ⟨rfl, hb⟩; have HW_6 := Lib.hid (bel_trans HW_5.out hb); have HS_6 := Lib.hid (HS_5.out.below hb); have HR_6 := Lib.hid (rdUp HR_5.out hb); have HT_6 := Lib.hid (HT_5.out.bel hb); have HL_6 := Lib.hid (rdtUp HL_5.out hb); have HQ_6 := Lib.hid (HQ_5.out.below hb); have HQR_6 := Lib.hid (rdUp HQR_5.out hb); have HM_6 := Lib.hid (rdtUp HM_5.out hb); have HB6 := Lib.hid hb; have hs6_0 : w6.cell? ⟨w.heap.size, 0, none⟩ = some (.int .i64 sb) := HS_6.out.cell 0; have hs6_1 : w6.cell? ⟨w.heap.size, 1, none⟩ = some (.slice A n c) := HS_6.out.cell 1; have hq6_0 : w6.cell? ⟨X, 0, none⟩ = some (.int .i64 sb) := HQ_6.out.2 0 _ rfl; have hq6_1 : w6.cell? ⟨X, 1, none⟩ = some (.slice A4 m c4) := HQ_6.out.2 1 _ rfl; clear hb))
        go_meet
        exact ⟨rfl, by first | rfl | (simp; omega), HB6.out⟩
    case rest =>
      obtain ⟨rfl, rfl, hb⟩ := hcut
      rename World => w6
      have HW_6 := Lib.hid (bel_trans HW_5.out hb)
      have HS_6 := Lib.hid (HS_5.out.below hb)
      have HR_6 := Lib.hid (rdUp HR_5.out hb)
      have HT_6 := Lib.hid (HT_5.out.bel hb)
      have HL_6 := Lib.hid (rdtUp HL_5.out hb)
      have HQ_6 := Lib.hid (HQ_5.out.below hb)
      have HQR_6 := Lib.hid (rdUp HQR_5.out hb)
      have HM_6 := Lib.hid (rdtUp HM_5.out hb)
      have hs6_0 : w6.cell? ⟨w.heap.size, 0, none⟩ = some (.int .i64 sb) := HS_6.out.cell 0
      have hs6_1 : w6.cell? ⟨w.heap.size, 1, none⟩ = some (.slice A n c) := HS_6.out.cell 1
      have hq6_0 : w6.cell? ⟨X, 0, none⟩ = some (.int .i64 sb) := HQ_6.out.2 0 _ rfl
      have hq6_1 : w6.cell? ⟨X, 1, none⟩ = some (.slice A4 m c4) := HQ_6.out.2 1 _ rfl
      clear hb
      go_wp2_with (first
        | (go_at_call 17; (with_reducible refine (Fix_is HFX.out HQR_6.out hcap4 (by omega) HI.out HT_6.out).mono ?_); rintro e w7 ⟨A7, n7, c7, rfl, ho, hb⟩; have HW_7 := Lib.hid (bel_trans HW_6.out hb); have HS_7 := Lib.hid (HS_6.out.below hb); have HR_7 := Lib.hid (rdUp HR_6.out hb); have HT_7 := Lib.hid (HT_6.out.bel hb); have HL_7 := Lib.hid (rdtUp HL_6.out hb); have HQ_7 := Lib.hid (HQ_6.out.below hb); have HQR_7 := Lib.hid (rdUp HQR_6.out hb); have HM_7 := Lib.hid (rdtUp HM_6.out hb); have hcap7 := ho.cap; obtain rfl : q = n7 := HYQ.out.symm.trans ho.len; have hq : q ≤ 137438953472 := (by omega); have HXR_7 := Lib.hid (ho.rd); have hba := belA w7 (.cells #[.int .i64 sb, .slice A7 q c7] 24); have HW_7a := Lib.hid (bel_trans HW_7.out hba); have HS_7a := Lib.hid (HS_7.out.below hba); have HR_7a := Lib.hid (rdUp HR_7.out hba); have HT_7a := Lib.hid (HT_7.out.bel hba); have HL_7a := Lib.hid (rdtUp HL_7.out hba); have HQ_7a := Lib.hid (HQ_7.out.below hba); have HQR_7a := Lib.hid (rdUp HQR_7.out hba); have HM_7a := Lib.hid (rdtUp HM_7.out hba); have HXR_7a := Lib.hid (rdUp HXR_7.out hba); have HX_7a := Lib.hid (At0.new w7 [.int .i64 sb, .slice A7 q c7] 24); have hs7a_0 : (w7.alloc (.cells #[.int .i64 sb, .slice A7 q c7] 24)).cell? ⟨w.heap.size, 0, none⟩ = some (.int .i64 sb) := HS_7a.out.cell 0; have hs7a_1 : (w7.alloc (.cells #[.int .i64 sb, .slice A7 q c7] 24)).cell? ⟨w.heap.size, 1, none⟩ = some (.slice A n c) := HS_7a.out.cell 1; have hq7a_0 : (w7.alloc (.cells #[.int .i64 sb, .slice A7 q c7] 24)).cell? ⟨X, 0, none⟩ = some (.int .i64 sb) := HQ_7a.out.2 0 _ rfl; have hq7a_1 : (w7.alloc (.cells #[.int .i64 sb, .slice A7 q c7] 24)).cell? ⟨X, 1, none⟩ = some (.slice A4 m c4) := HQ_7a.out.2 1 _ rfl; have hx7a_0 : (w7.alloc (.cells #[.int .i64 sb, .slice A7 q c7] 24)).cell? ⟨w7.heap.size, 0, none⟩ = some (.int .i64 sb) := HX_7a.out.cell 0; have hx7a_1 : (w7.alloc (.cells #[.int .i64 sb, .slice A7 q c7] 24)).cell? ⟨w7.heap.size, 1, none⟩ = some (.slice A7 q c7) := HX_7a.out.cell 1; clear hb hba ho)
        | (go_at_call 15; (with_reducible refine (Scan_is HF1.out HXR_7a.out hcap7 (by omega) HI.out HT_7a.out).mono ?_); rintro e w8 ⟨A8, n8, c8, rfl, ho, hb⟩; have HW_8 := Lib.hid (bel_trans HW_7a.out hb); have HS_8 := Lib.hid (HS_7a.out.below hb); have HR_8 := Lib.hid (rdUp HR_7a.out hb); have HT_8 := Lib.hid (HT_7a.out.bel hb); have HL_8 := Lib.hid (rdtUp HL_7a.out hb); have HQ_8 := Lib.hid (HQ_7a.out.below hb); have HQR_8 := Lib.hid (rdUp HQR_7a.out hb); have HM_8 := Lib.hid (rdtUp HM_7a.out hb); have HXR_8 := Lib.hid (rdUp HXR_7a.out hb); have HX_8 := Lib.hid (HX_7a.out.below hb); have HN_8 := Lib.hid (ho.rd); have hn8 : n8 ≤ 1099511627776 := (by have h9 := ho.len; omega); have hcap8 := ho.cap; obtain rfl : n8 = M.length := ho.len.symm; have hs8_0 : w8.cell? ⟨w.heap.size, 0, none⟩ = some (.int .i64 sb) := HS_8.out.cell 0; have hs8_1 : w8.cell? ⟨w.heap.size, 1, none⟩ = some (.slice A n c) := HS_8.out.cell 1; have hq8_0 : w8.cell? ⟨X, 0, none⟩ = some (.int .i64 sb) := HQ_8.out.2 0 _ rfl; have hq8_1 : w8.cell? ⟨X, 1, none⟩ = some (.slice A4 m c4) := HQ_8.out.2 1 _ rfl; have hx8_0 : w8.cell? ⟨w7.heap.size, 0, none⟩ = some (.int .i64 sb) := HX_8.out.cell 0; have hx8_1 : w8.cell? ⟨w7.heap.size, 1, none⟩ = some (.slice A7 q c7) := HX_8.out.cell 1; clear hb ho))
      have hbd := (Below.refl w8.heap.size w8).drew
      have HW_R12 := Lib.hid (bel_trans HW_8.out hbd)
      have HS_R12 := Lib.hid (HS_8.out.below hbd)
      have HR_R12 := Lib.hid (rdUp HR_8.out hbd)
      have HT_R12 := Lib.hid (HT_8.out.bel hbd)
      have HL_R12 := Lib.hid (rdtUp HL_8.out hbd)
      have HQ_R12 := Lib.hid (HQ_8.out.below hbd)
      have HQR_R12 := Lib.hid (rdUp HQR_8.out hbd)
      have HM_R12 := Lib.hid (rdtUp HM_8.out hbd)
      have HXR_R12 := Lib.hid (rdUp HXR_8.out hbd)
      have HX_R12 := Lib.hid (HX_8.out.below hbd)
      have HN_R12 := Lib.hid (rdtUp HN_8.out hbd)
      have HS12R := Lib.hid (show (fun W9 : World => W9.cell? ⟨w.heap.size, 0, none⟩ = some (.int .i64 sb) ∧ W9.cell? ⟨w.heap.size, 1, none⟩ = some (.slice A n c) ∧ W9.cell? ⟨X, 0, none⟩ = some (.int .i64 sb) ∧ W9.cell? ⟨X, 1, none⟩ = some (.slice A4 m c4) ∧ W9.cell? ⟨w7.heap.size, 0, none⟩ = some (.int .i64 sb) ∧ W9.cell? ⟨w7.heap.size, 1, none⟩ = some (.slice A7 q c7)) w8.drew from ⟨HS_R12.out.cell 0, HS_R12.out.cell 1, HQ_R12.out.2 0 _ rfl, HQ_R12.out.2 1 _ rfl, HX_R12.out.cell 0, HX_R12.out.cell 1⟩)
      clear hbd
      have hsR12_0 : w8.drew.cell? ⟨w.heap.size, 0, none⟩ = some (.int .i64 sb) := HS_R12.out.cell 0
      have hsR12_1 : w8.drew.cell? ⟨w.heap.size, 1, none⟩ = some (.slice A n c) := HS_R12.out.cell 1
      have hqR12_0 : w8.drew.cell? ⟨X, 0, none⟩ = some (.int .i64 sb) := HQ_R12.out.2 0 _ rfl
      have hqR12_1 : w8.drew.cell? ⟨X, 1, none⟩ = some (.slice A4 m c4) := HQ_R12.out.2 1 _ rfl
      have hxR12_0 : w8.drew.cell? ⟨w7.heap.size, 0, none⟩ = some (.int .i64 sb) := HX_R12.out.cell 0
      have hxR12_1 : w8.drew.cell? ⟨w7.heap.size, 1, none⟩ = some (.slice A7 q c7) := HX_R12.out.cell 1
      refine region_let (fun W9 : World => W9.cell? ⟨w.heap.size, 0, none⟩ = some (.int .i64 sb) ∧ W9.cell? ⟨w.heap.size, 1, none⟩ = some (.slice A n c) ∧ W9.cell? ⟨X, 0, none⟩ = some (.int .i64 sb) ∧ W9.cell? ⟨X, 1, none⟩ = some (.slice A4 m c4) ∧ W9.cell? ⟨w7.heap.size, 0, none⟩ = some (.int .i64 sb) ∧ W9.cell? ⟨w7.heap.size, 1, none⟩ = some (.slice A7 q c7)) 99 37 hmx rfl fun ops Q HOPS HQ => ?_
      have HREG := reg_of HOPS tb_SegTorn12 rfl (by kernel_rfl) (by kernel_rfl) (by decide)
      refine stepTQ HOPS HREG 0 1 ?_ (by decide) rfl (by kernel_rfl) (by kernel_rfl) rfl ?_ HS12R.out ?_
      rotate_left
      · intro w9 hS9; obtain ⟨q0, q1, q2, q3, q4, q5⟩ := hS9; go_simp; (first | done | with_reducible rfl)
      dsimp only [List.set_cons_zero, List.set_cons_succ]
      refine stepTQ HOPS HREG 1 3 ?_ (by decide) rfl (by kernel_rfl) (by kernel_rfl) rfl ?_ HS12R.out ?_
      rotate_left
      · intro w9 hS9; obtain ⟨q0, q1, q2, q3, q4, q5⟩ := hS9; go_simp; (first | done | with_reducible rfl)
      dsimp only [List.set_cons_zero, List.set_cons_succ]
      refine stepTQ HOPS HREG 2 7 ?_ (by decide) rfl (by kernel_rfl) (by kernel_rfl) rfl ?_ HS12R.out ?_
      rotate_left
      · intro w9 hS9; obtain ⟨q0, q1, q2, q3, q4, q5⟩ := hS9; go_simp; (first | done | with_reducible rfl)
      dsimp only [List.set_cons_zero, List.set_cons_succ]
      refine stepTQ HOPS HREG 3 15 ?_ (by decide) rfl (by kernel_rfl) (by kernel_rfl) rfl ?_ HS12R.out ?_
      rotate_left
      · intro w9 hS9; obtain ⟨q0, q1, q2, q3, q4, q5⟩ := hS9; go_simp; (first | done | with_reducible rfl)
      dsimp only [List.set_cons_zero, List.set_cons_succ]
      refine stepTQ HOPS HREG 4 31 ?_ (by decide) rfl (by kernel_rfl) (by kernel_rfl) rfl ?_ HS12R.out ?_
      rotate_left
      · intro w9 hS9; obtain ⟨q0, q1, q2, q3, q4, q5⟩ := hS9; go_simp; (first | done | with_reducible rfl)
      dsimp only [List.set_cons_zero, List.set_cons_succ]
      refine stepTQ HOPS HREG 5 63 ?_ (by decide) rfl (by kernel_rfl) (by kernel_rfl) rfl ?_ HS12R.out ?_
      rotate_left
      · intro w9 hS9; obtain ⟨q0, q1, q2, q3, q4, q5⟩ := hS9; go_simp; (first | done | with_reducible rfl)
      dsimp only [List.set_cons_zero, List.set_cons_succ]
      refine stepTQ HOPS HREG 6 127 ?_ (by decide) rfl (by kernel_rfl) (by kernel_rfl) rfl ?_ HS12R.out ?_
      rotate_left
      · intro w9 hS9; obtain ⟨q0, q1, q2, q3, q4, q5⟩ := hS9; go_simp; (first | done | with_reducible rfl)
      dsimp only [List.set_cons_zero, List.set_cons_succ]
      refine stepTQ HOPS HREG 7 255 ?_ (by decide) rfl (by kernel_rfl) (by kernel_rfl) rfl ?_ HS12R.out ?_
      rotate_left
      · intro w9 hS9; obtain ⟨q0, q1, q2, q3, q4, q5⟩ := hS9; go_simp; (first | done | with_reducible rfl)
      dsimp only [List.set_cons_zero, List.set_cons_succ]
      refine stepTQ HOPS HREG 8 511 ?_ (by decide) rfl (by kernel_rfl) (by kernel_rfl) rfl ?_ HS12R.out ?_
      rotate_left
      · intro w9 hS9; obtain ⟨q0, q1, q2, q3, q4, q5⟩ := hS9; go_simp; (first | done | with_reducible rfl)
      dsimp only [List.set_cons_zero, List.set_cons_succ]
      refine stepTQ HOPS HREG 9 1023 ?_ (by decide) rfl (by kernel_rfl) (by kernel_rfl) rfl ?_ HS12R.out ?_
      rotate_left
      · intro w9 hS9; obtain ⟨q0, q1, q2, q3, q4, q5⟩ := hS9; go_simp; (first | done | with_reducible rfl)
      dsimp only [List.set_cons_zero, List.set_cons_succ]
      refine stepTQ HOPS HREG 10 2047 ?_ (by decide) rfl (by kernel_rfl) (by kernel_rfl) rfl ?_ HS12R.out ?_
      rotate_left
      · intro w9 hS9; obtain ⟨q0, q1, q2, q3, q4, q5⟩ := hS9; go_simp; (first | done | with_reducible rfl)
      dsimp only [List.set_cons_zero, List.set_cons_succ]
      refine stepTQ HOPS HREG 11 4095 ?_ (by decide) rfl (by kernel_rfl) (by kernel_rfl) rfl ?_ HS12R.out ?_
      rotate_left
      · intro w9 hS9; obtain ⟨q0, q1, q2, q3, q4, q5⟩ := hS9; go_simp; (first | done | with_reducible rfl)
      dsimp only [List.set_cons_zero, List.set_cons_succ]
      refine stepTQ HOPS HREG 12 8191 ?_ (by decide) rfl (by kernel_rfl) (by kernel_rfl) rfl ?_ HS12R.out ?_
      rotate_left
      · intro w9 hS9; obtain ⟨q0, q1, q2, q3, q4, q5⟩ := hS9; go_simp; (first | done | with_reducible rfl)
      dsimp only [List.set_cons_zero, List.set_cons_succ]
      refine stepTQ HOPS HREG 13 16383 ?_ (by decide) rfl (by kernel_rfl) (by kernel_rfl) rfl ?_ HS12R.out ?_
      rotate_left
      · intro w9 hS9; obtain ⟨q0, q1, q2, q3, q4, q5⟩ := hS9; go_simp; (first | done | with_reducible rfl)
      dsimp only [List.set_cons_zero, List.set_cons_succ]
      refine stepTQ HOPS HREG 14 32767 ?_ (by decide) rfl (by kernel_rfl) (by kernel_rfl) rfl ?_ HS12R.out ?_
      rotate_left
      · intro w9 hS9; obtain ⟨q0, q1, q2, q3, q4, q5⟩ := hS9; go_simp; (first | done | with_reducible rfl)
      dsimp only [List.set_cons_zero, List.set_cons_succ]
      refine stepTQ HOPS HREG 15 65535 ?_ (by decide) rfl (by kernel_rfl) (by kernel_rfl) rfl ?_ HS12R.out ?_
      rotate_left
      · intro w9 hS9; obtain ⟨q0, q1, q2, q3, q4, q5⟩ := hS9; go_simp; (first | done | with_reducible rfl)
      dsimp only [List.set_cons_zero, List.set_cons_succ]
      refine stepTQ HOPS HREG 16 131071 ?_ (by decide) rfl (by kernel_rfl) (by kernel_rfl) rfl ?_ HS12R.out ?_
      rotate_left
      · intro w9 hS9; obtain ⟨q0, q1, q2, q3, q4, q5⟩ := hS9; go_simp; (first | done | with_reducible rfl)
      dsimp only [List.set_cons_zero, List.set_cons_succ]
      refine stepTQ HOPS HREG 17 262143 ?_ (by decide) rfl (by kernel_rfl) (by kernel_rfl) rfl ?_ HS12R.out ?_
      rotate_left
      · intro w9 hS9; obtain ⟨q0, q1, q2, q3, q4, q5⟩ := hS9; go_simp; (first | done | with_reducible rfl)
      dsimp only [List.set_cons_zero, List.set_cons_succ]
      refine stepTQ HOPS HREG 18 524287 ?_ (by decide) rfl (by kernel_rfl) (by kernel_rfl) rfl ?_ HS12R.out ?_
      rotate_left
      · intro w9 hS9; obtain ⟨q0, q1, q2, q3, q4, q5⟩ := hS9; go_simp; (first | done | with_reducible rfl)
      dsimp only [List.set_cons_zero, List.set_cons_succ]
      refine stepTQ HOPS HREG 19 1048575 ?_ (by decide) rfl (by kernel_rfl) (by kernel_rfl) rfl ?_ HS12R.out ?_
      rotate_left
      · intro w9 hS9; obtain ⟨q0, q1, q2, q3, q4, q5⟩ := hS9; go_simp; (first | done | with_reducible rfl)
      dsimp only [List.set_cons_zero, List.set_cons_succ]
      refine stepC HOPS 20 2097151 (by decide) rfl (by kernel_rfl) (by kernel_rfl) ?_
      go_simp
      with_reducible refine (SameAll_is A5 A8 M.length c5 M.length c8 M M _ HM_R12.out HN_R12.out (by omega) (by omega) (eqT_self M)).mono ?_
      rintro e w9 ⟨rfl, hb⟩
      have HW_9 := Lib.hid (bel_trans HW_R12.out hb)
      have HS_9 := Lib.hid (HS_R12.out.below hb)
      have HR_9 := Lib.hid (rdUp HR_R12.out hb)
      have HT_9 := Lib.hid (HT_R12.out.bel hb)
      have HL_9 := Lib.hid (rdtUp HL_R12.out hb)
      have HQ_9 := Lib.hid (HQ_R12.out.below hb)
      have HQR_9 := Lib.hid (rdUp HQR_R12.out hb)
      have HM_9 := Lib.hid (rdtUp HM_R12.out hb)
      have HXR_9 := Lib.hid (rdUp HXR_R12.out hb)
      have HX_9 := Lib.hid (HX_R12.out.below hb)
      have HN_9 := Lib.hid (rdtUp HN_R12.out hb)
      have HS12w9 := Lib.hid (show (fun W9 : World => W9.cell? ⟨w.heap.size, 0, none⟩ = some (.int .i64 sb) ∧ W9.cell? ⟨w.heap.size, 1, none⟩ = some (.slice A n c) ∧ W9.cell? ⟨X, 0, none⟩ = some (.int .i64 sb) ∧ W9.cell? ⟨X, 1, none⟩ = some (.slice A4 m c4) ∧ W9.cell? ⟨w7.heap.size, 0, none⟩ = some (.int .i64 sb) ∧ W9.cell? ⟨w7.heap.size, 1, none⟩ = some (.slice A7 q c7)) w9 from ⟨HS_9.out.cell 0, HS_9.out.cell 1, HQ_9.out.2 0 _ rfl, HQ_9.out.2 1 _ rfl, HX_9.out.cell 0, HX_9.out.cell 1⟩)
      clear hb
      dsimp only
      refine ⟨HS12w9.out, ?_⟩
      try simp only [Act.put, List.setIfInBounds_toArray, List.set_cons_zero, List.set_cons_succ]
      refine stepTQ HOPS HREG 21 4194303 ?_ (by decide) rfl (by kernel_rfl) (by kernel_rfl) rfl ?_ HS12w9.out ?_
      rotate_left
      · intro w9 hS9; obtain ⟨q0, q1, q2, q3, q4, q5⟩ := hS9; go_simp; (first | done | with_reducible rfl)
      dsimp only [List.set_cons_zero, List.set_cons_succ]
      refine stepTQ HOPS HREG 22 8388607 ?_ (by decide) rfl (by kernel_rfl) (by kernel_rfl) rfl ?_ HS12w9.out ?_
      rotate_left
      · intro w9 hS9; obtain ⟨q0, q1, q2, q3, q4, q5⟩ := hS9; go_simp; (first | done | with_reducible rfl)
      dsimp only [List.set_cons_zero, List.set_cons_succ]
      refine stepTQ HOPS HREG 23 16777215 ?_ (by decide) rfl (by kernel_rfl) (by kernel_rfl) rfl ?_ HS12w9.out ?_
      rotate_left
      · intro w9 hS9; obtain ⟨q0, q1, q2, q3, q4, q5⟩ := hS9; go_simp; (first | done | with_reducible rfl)
      dsimp only [List.set_cons_zero, List.set_cons_succ]
      refine stepTQ HOPS HREG 25 50331647 ?_ (by decide) rfl (by kernel_rfl) (by kernel_rfl) rfl ?_ HS12w9.out ?_
      rotate_left
      · intro w9 hS9; obtain ⟨q0, q1, q2, q3, q4, q5⟩ := hS9; go_simp; (first | done | with_reducible rfl)
      dsimp only [List.set_cons_zero, List.set_cons_succ]
      refine stepC HOPS 24 67108863 (by decide) rfl (by kernel_rfl) (by kernel_rfl) ?_
      go_simp
      with_reducible refine (End_is HE3.out HXR_9.out hcap7 (by omega) HI.out HT_9.out).mono ?_
      rintro e w10 ⟨rfl, hb⟩
      have HW_10 := Lib.hid (bel_trans HW_9.out hb)
      have HS_10 := Lib.hid (HS_9.out.below hb)
      have HR_10 := Lib.hid (rdUp HR_9.out hb)
      have HT_10 := Lib.hid (HT_9.out.bel hb)
      have HL_10 := Lib.hid (rdtUp HL_9.out hb)
      have HQ_10 := Lib.hid (HQ_9.out.below hb)
      have HQR_10 := Lib.hid (rdUp HQR_9.out hb)
      have HM_10 := Lib.hid (rdtUp HM_9.out hb)
      have HXR_10 := Lib.hid (rdUp HXR_9.out hb)
      have HX_10 := Lib.hid (HX_9.out.below hb)
      have HN_10 := Lib.hid (rdtUp HN_9.out hb)
      have HS12w10 := Lib.hid (show (fun W9 : World => W9.cell? ⟨w.heap.size, 0, none⟩ = some (.int .i64 sb) ∧ W9.cell? ⟨w.heap.size, 1, none⟩ = some (.slice A n c) ∧ W9.cell? ⟨X, 0, none⟩ = some (.int .i64 sb) ∧ W9.cell? ⟨X, 1, none⟩ = some (.slice A4 m c4) ∧ W9.cell? ⟨w7.heap.size, 0, none⟩ = some (.int .i64 sb) ∧ W9.cell? ⟨w7.heap.size, 1, none⟩ = some (.slice A7 q c7)) w10 from ⟨HS_10.out.cell 0, HS_10.out.cell 1, HQ_10.out.2 0 _ rfl, HQ_10.out.2 1 _ rfl, HX_10.out.cell 0, HX_10.out.cell 1⟩)
      clear hb
      dsimp only
      refine ⟨HS12w10.out, ?_⟩
      try simp only [Act.put, List.setIfInBounds_toArray, List.set_cons_zero, List.set_cons_succ]
      refine stepC HOPS 26 134217727 (by decide) rfl (by kernel_rfl) (by kernel_rfl) ?_
      go_simp
      with_reducible refine (End_is HE2.out HQR_10.out hcap4 (by omega) HI.out HT_10.out).mono ?_
      rintro e w11 ⟨rfl, hb⟩
      have HW_11 := Lib.hid (bel_trans HW_10.out hb)
      have HS_11 := Lib.hid (HS_10.out.below hb)
      have HR_11 := Lib.hid (rdUp HR_10.out hb)
      have HT_11 := Lib.hid (HT_10.out.bel hb)
      have HL_11 := Lib.hid (rdtUp HL_10.out hb)
      have HQ_11 := Lib.hid (HQ_10.out.below hb)
      have HQR_11 := Lib.hid (rdUp HQR_10.out hb)
      have HM_11 := Lib.hid (rdtUp HM_10.out hb)
      have HXR_11 := Lib.hid (rdUp HXR_10.out hb)
      have HX_11 := Lib.hid (HX_10.out.below hb)
      have HN_11 := Lib.hid (rdtUp HN_10.out hb)
      have HS12w11 := Lib.hid (show (fun W9 : World => W9.cell? ⟨w.heap.size, 0, none⟩ = some (.int .i64 sb) ∧ W9.cell? ⟨w.heap.size, 1, none⟩ = some (.slice A n c) ∧ W9.cell? ⟨X, 0, none⟩ = some (.int .i64 sb) ∧ W9.cell? ⟨X, 1, none⟩ = some (.slice A4 m c4) ∧ W9.cell? ⟨w7.heap.size, 0, none⟩ = some (.int .i64 sb) ∧ W9.cell? ⟨w7.heap.size, 1, none⟩ = some (.slice A7 q c7)) w11 from ⟨HS_11.out.cell 0, HS_11.out.cell 1, HQ_11.out.2 0 _ rfl, HQ_11.out.2 1 _ rfl, HX_11.out.cell 0, HX_11.out.cell 1⟩)
      clear hb
      dsimp only
      refine ⟨HS12w11.out, ?_⟩
      try simp only [Act.put, List.setIfInBounds_toArray, List.set_cons_zero, List.set_cons_succ]
      refine stepTQ HOPS HREG 27 268435455 ?_ (by decide) rfl (by kernel_rfl) (by kernel_rfl) rfl ?_ HS12w11.out ?_
      rotate_left
      · intro w9 hS9; obtain ⟨q0, q1, q2, q3, q4, q5⟩ := hS9; go_simp; (first | done | with_reducible rfl)
      dsimp only [List.set_cons_zero, List.set_cons_succ]
      refine stepTQ HOPS HREG 28 536870911 ?_ (by decide) rfl (by kernel_rfl) (by kernel_rfl) rfl ?_ HS12w11.out ?_
      rotate_left
      · intro w9 hS9; obtain ⟨q0, q1, q2, q3, q4, q5⟩ := hS9; go_simp; (first | done | with_reducible rfl)
      dsimp only [List.set_cons_zero, List.set_cons_succ]
      refine stepTQ HOPS HREG 29 1073741823 ?_ (by decide) rfl (by kernel_rfl) (by kernel_rfl) rfl ?_ HS12w11.out ?_
      rotate_left
      · intro w9 hS9; obtain ⟨q0, q1, q2, q3, q4, q5⟩ := hS9; go_simp; (first | done | with_reducible rfl)
      dsimp only [List.set_cons_zero, List.set_cons_succ]
      refine stepTQ HOPS HREG 30 2147483647 ?_ (by decide) rfl (by kernel_rfl) (by kernel_rfl) rfl ?_ HS12w11.out ?_
      rotate_left
      · intro w9 hS9; obtain ⟨q0, q1, q2, q3, q4, q5⟩ := hS9; go_simp; (first | done | with_reducible rfl)
      dsimp only [List.set_cons_zero, List.set_cons_succ]
      refine stepTQ HOPS HREG 32 6442450943 ?_ (by decide) rfl (by kernel_rfl) (by kernel_rfl) rfl ?_ HS12w11.out ?_
      rotate_left
      · intro w9 hS9; obtain ⟨q0, q1, q2, q3, q4, q5⟩ := hS9; go_simp; (first | done | with_reducible rfl)
      dsimp only [List.set_cons_zero, List.set_cons_succ]
      refine stepC HOPS 31 8589934591 (by decide) rfl (by kernel_rfl) (by kernel_rfl) ?_
      go_simp
      with_reducible refine (End_is HE2.out HQR_11.out hcap4 (by omega) HI.out HT_11.out).mono ?_
      rintro e w12 ⟨rfl, hb⟩
      have HW_12 := Lib.hid (bel_trans HW_11.out hb)
      have HS_12 := Lib.hid (HS_11.out.below hb)
      have HR_12 := Lib.hid (rdUp HR_11.out hb)
      have HT_12 := Lib.hid (HT_11.out.bel hb)
      have HL_12 := Lib.hid (rdtUp HL_11.out hb)
      have HQ_12 := Lib.hid (HQ_11.out.below hb)
      have HQR_12 := Lib.hid (rdUp HQR_11.out hb)
      have HM_12 := Lib.hid (rdtUp HM_11.out hb)
      have HXR_12 := Lib.hid (rdUp HXR_11.out hb)
      have HX_12 := Lib.hid (HX_11.out.below hb)
      have HN_12 := Lib.hid (rdtUp HN_11.out hb)
      have HS12w12 := Lib.hid (show (fun W9 : World => W9.cell? ⟨w.heap.size, 0, none⟩ = some (.int .i64 sb) ∧ W9.cell? ⟨w.heap.size, 1, none⟩ = some (.slice A n c) ∧ W9.cell? ⟨X, 0, none⟩ = some (.int .i64 sb) ∧ W9.cell? ⟨X, 1, none⟩ = some (.slice A4 m c4) ∧ W9.cell? ⟨w7.heap.size, 0, none⟩ = some (.int .i64 sb) ∧ W9.cell? ⟨w7.heap.size, 1, none⟩ = some (.slice A7 q c7)) w12 from ⟨HS_12.out.cell 0, HS_12.out.cell 1, HQ_12.out.2 0 _ rfl, HQ_12.out.2 1 _ rfl, HX_12.out.cell 0, HX_12.out.cell 1⟩)
      clear hb
      dsimp only
      refine ⟨HS12w12.out, ?_⟩
      try simp only [Act.put, List.setIfInBounds_toArray, List.set_cons_zero, List.set_cons_succ]
      refine stepC HOPS 33 17179869183 (by decide) rfl (by kernel_rfl) (by kernel_rfl) ?_
      go_simp
      with_reducible refine (End_is HE.out HR_12.out hc (by omega) HI.out HT_12.out).mono ?_
      rintro e w13 ⟨rfl, hb⟩
      have HW_13 := Lib.hid (bel_trans HW_12.out hb)
      have HS_13 := Lib.hid (HS_12.out.below hb)
      have HR_13 := Lib.hid (rdUp HR_12.out hb)
      have HT_13 := Lib.hid (HT_12.out.bel hb)
      have HL_13 := Lib.hid (rdtUp HL_12.out hb)
      have HQ_13 := Lib.hid (HQ_12.out.below hb)
      have HQR_13 := Lib.hid (rdUp HQR_12.out hb)
      have HM_13 := Lib.hid (rdtUp HM_12.out hb)
      have HXR_13 := Lib.hid (rdUp HXR_12.out hb)
      have HX_13 := Lib.hid (HX_12.out.below hb)
      have HN_13 := Lib.hid (rdtUp HN_12.out hb)
      have HS12w13 := Lib.hid (show (fun W9 : World => W9.cell? ⟨w.heap.size, 0, none⟩ = some (.int .i64 sb) ∧ W9.cell? ⟨w.heap.size, 1, none⟩ = some (.slice A n c) ∧ W9.cell? ⟨X, 0, none⟩ = some (.int .i64 sb) ∧ W9.cell? ⟨X, 1, none⟩ = some (.slice A4 m c4) ∧ W9.cell? ⟨w7.heap.size, 0, none⟩ = some (.int .i64 sb) ∧ W9.cell? ⟨w7.heap.size, 1, none⟩ = some (.slice A7 q c7)) w13 from ⟨HS_13.out.cell 0, HS_13.out.cell 1, HQ_13.out.2 0 _ rfl, HQ_13.out.2 1 _ rfl, HX_13.out.cell 0, HX_13.out.cell 1⟩)
      clear hb
      dsimp only
      refine ⟨HS12w13.out, ?_⟩
      try simp only [Act.put, List.setIfInBounds_toArray, List.set_cons_zero, List.set_cons_succ]
      refine stepTQ HOPS HREG 34 34359738367 ?_ (by decide) rfl (by kernel_rfl) (by kernel_rfl) rfl ?_ HS12w13.out ?_
      rotate_left
      · intro w9 hS9; obtain ⟨q0, q1, q2, q3, q4, q5⟩ := hS9; go_simp; (first | done | with_reducible rfl)
      dsimp only [List.set_cons_zero, List.set_cons_succ]
      refine stepTQ HOPS HREG 35 68719476735 ?_ (by decide) rfl (by kernel_rfl) (by kernel_rfl) rfl ?_ HS12w13.out ?_
      rotate_left
      · intro w9 hS9; obtain ⟨q0, q1, q2, q3, q4, q5⟩ := hS9; go_simp; (first | done | with_reducible rfl)
      dsimp only [List.set_cons_zero, List.set_cons_succ]
      refine stepTQ HOPS HREG 36 137438953471 ?_ (by decide) rfl (by kernel_rfl) (by kernel_rfl) rfl ?_ HS12w13.out ?_
      rotate_left
      · intro w9 hS9; obtain ⟨q0, q1, q2, q3, q4, q5⟩ := hS9; go_simp; (first | done | with_reducible rfl)
      dsimp only [List.set_cons_zero, List.set_cons_succ]
      refine stepE HOPS (by kernel_rfl) (HQ.out _ _ ?_)
      clear HQ HREG HOPS
      clear Q ops
      go_wp2
      go_ret
      exact ⟨rfl, HW_13.out⟩
end Go.Proofs.YtgjbfhmfhmihhaaDoor.Seg

namespace Go.Proofs.YtgjbfhmfhmihhaaDoor.segTorn
open Go.ChangeShapes Go.WideShapes Go.ChangeAt Go.RowKit

theorem own : ownKnob Tryd.prog.godebug = none := by kernel_rfl
theorem laidOut : laidOutB Tryd.prog = true := by kernel_rfl

set_option maxRecDepth 100000 in
theorem lifted (os : Os) (started : os.Started) (H : Type) (enc : TypeId × Value → H) :
    ReturnsInHanded {} Tryd.checked os 7 .any (fun w args => (Rows.segTornSpec.pre enc Tryd.prog Tryd.f7 [] false w args ∧ laidMetH Tryd.prog Crc.listed w) ∧ sizedMet enc Tryd.prog Tryd.f7 (OpenSpec.ofChange Rows.segTornSpec) false w args)
      (Rows.segTornSpec.post enc Tryd.prog Tryd.f7 false true false false) := by
  refine returnsInHanded_of_change_and (C := Tryd.checked) (X := fun w _ => laidMetH Tryd.prog Crc.listed w) (fun _ _ _ hh h => h.of_heap hh) own started (by kernel_rfl) Tryd.func7
    (ChangeSpec.witness_shaped (enc := enc) (C := Tryd.checked) (os := os) (X := fun w _ => laidMetH Tryd.prog Crc.listed w) false (World.doorLaid Tryd.prog 400 os) #[.agg #[.int .i64 0, .slice none 0 0], .int .i64 0] 8 rfl (World.shaped_of_RefB (by kernel_rfl) (by kernel_rfl)) (by kernel_rfl) (by kernel_rfl) (by kernel_rfl) (Crc.door_met os _)) ?_
  intro W base args ds gs before hval0 hW _ hwt hL _
  have hval : ∀ (j : Nat) t v, Tryd.f7.params[j]? = some t → args[j]? = some v → Value.okWide Tryd.prog W .any base t v := hval0
  have hW' := hW
  obtain ⟨p, q, hA0, hV, rfl, hfz, hnd⟩ := hW
  have hA : DataW.TrodAll enc Tryd.prog W 0 (fun _ => true) true Tryd.f7.params.toList args.toList ds p := hA0
  rw [Tryd.params7] at hA hval
  obtain ⟨v0, vs0, d0, ds0, p0, q0, hargs, rfl, rfl, h0, r0⟩ := trodAll_cons hA
  obtain ⟨v1, vs1, d1, ds1, p1, q1, rfl, rfl, rfl, h1, r1⟩ := trodAll_cons r0
  obtain ⟨rfl, rfl, rfl⟩ := trodAll_nil r1
  obtain rfl : args = #[v0, v1] := by cases args; simp_all
  obtain ⟨rfl, rfl⟩ := trodVars_none hV
  have k0 := h0
  have lt0 : ∀ x ∈ p0, x.block < W.heap.size := by obtain ⟨m, hm⟩ := k0; exact DataW.trod_lt m _ _ _ hm
  obtain ⟨sb_0, A_0, n_0, c_0, l_0, rfl, hi_0, hc_0, hk_0, hR_0⟩ := Seg.open_seg (hval 0 24 v0 rfl rfl) h0 (Bat.weights_arg (j := 0) hwt (by kernel_rfl) rfl)
  have k1 := h1
  have lt1 : ∀ x ∈ p1, x.block < W.heap.size := by obtain ⟨m, hm⟩ := k1; exact DataW.trod_lt m _ _ _ hm
  obtain ⟨a1, rfl, hi1⟩ := Oct.open_i64 Tryd.underlying3 (hval 1 3 v1 rfl rfl) h1
  clear hA0 hval0
  refine (Seg.segTorn_walk sb_0 A_0 n_0 c_0 l_0 a1 W hi_0 hc_0 hk_0 hR_0 hi1 (Crc.tab_of_laid hL)).mono fun e W' ⟨he, bel⟩ => ?_
  subst he
  exact ⟨_, rfl, _, _, _, [], _, [], hW', trodAll_mk1 (shut_bool Tryd.underlying4 _), (trodAll_cons_mk (Below.trod laidOut (by kernel_rfl) (of_decide_eq_true (by kernel_rfl)) k0 bel lt0) (trodAll_cons_mk (Below.trod laidOut (by kernel_rfl) (of_decide_eq_true (by kernel_rfl)) k1 bel lt1) trodAll_mk0)), rfl, bel.frame _, fun h => by cases h⟩

theorem over : Rows.segTornRow.holds Tryd.pinned (OpenSpec.ofChange Rows.segTornSpec) :=
  OpenClaim.holds_of_wide 7 Tryd.f7 rfl rfl rfl rfl rfl rfl rfl ⟨rfl, rfl, rfl, rfl, rfl⟩ rfl rfl rfl rfl rfl (by kernel_rfl) Tryd.func7 (by kernel_rfl)
    (of_decide_eq_true (by kernel_rfl)) (by unfold Func.isWrapper; first | (rw [if_pos (by decide +kernel)]; kernel_rfl) | (rw [if_neg (by decide +kernel)]; exact ⟨rfl, rfl⟩))
    (fun os started H enc _ => lifted os started H enc)

theorem proved : Rows.SegTornCardSaid :=
  Claim7.holds_tied_plain_at .later [] [.data] true (true, "8756dca365c3738ae7f7dad078bfa0200519ee75ee06b885abe2d0f8db900c1d") false
    over (fun _ h => by cases h) (by kernel_rfl) (fun _ h => by cases h) segTorn_row_tie rfl ⟨rfl, rfl⟩ (by kernel_rfl) rfl
    (fun f fn hf hfn => by
      obtain rfl : f = 7 := Option.some.inj ((show Tryd.prog.funcNamed "watermeet/watermeetlaw07.SegTorn" = some 7 by kernel_rfl).symm.trans hf) |>.symm
      obtain rfl : fn = Tryd.f7 := (Option.some.inj (Tryd.func7.symm.trans hfn)).symm
      exact ⟨by kernel_rfl, fun j t ht => by
        rw [Tryd.params7] at ht
        have hm : t ∈ [24, 3] := by simpa using Array.mem_of_getElem? ht
        have hall : ([24, 3].all fun u => !Tryd.prog.wantsStandIn u) = true := by kernel_rfl
        exact (show Tryd.prog.wantsStandIn t = false by simpa using List.all_eq_true.1 hall t hm)⟩)
    (by kernel_rfl)
#print axioms proved
end Go.Proofs.YtgjbfhmfhmihhaaDoor.segTorn
