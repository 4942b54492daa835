/- For any segment (at most 9,000 bytes) one byte of which is another one: the batches ahead of that are told, and no other one is as it was (the law answers true, and changes nothing that was there). Conditions: none.
-/
import Derived.Test.YtgjbfhmfhmihhaaDoorSegW
import Derived.Test.YtgjbfhmfhmihhaaDoorSegMathT
import Derived.Test.YtgjbfhmfhmihhaaDoorSegSA
import Derived.Test.YtgjbfhmfhmihhaaDoorInT
import Derived.Test.YtgjbfhmfhmihhaaDoorRows
import Derived.WalkKit
import Derived.ProofKit
import Derived.OpenShut
import Derived.ChangeOld
import Derived.Below
import Derived.Carry
import Derived.Test.YtgjbfhmfhmihhaaDoorJOct
import Derived.Test.YtgjbfhmfhmihhaaDoorSegArg
import Derived.Test.YtgjbfhmfhmihhaaDoorJCrc
import Derived.Test.YtgjbfhmfhmihhaaDoorTie
import Derived.Test.YtgjbfhmfhmihhaaDoorCards
import Derived.SevenTiedAt
/- The walk of SegSpoilt. -/
namespace Go.Proofs.YtgjbfhmfhmihhaaDoor.Seg
open Go.RowKit Go.Proofs.YtgjbfhmfhmihhaaDoor.Oct Go.Proofs.YtgjbfhmfhmihhaaDoor.Rec Go.Proofs.YtgjbfhmfhmihhaaDoor.Crc Go.Proofs.YtgjbfhmfhmihhaaDoor.Bat Go.Proofs.YtgjbfhmfhmihhaaDoor.Lay Go.Proofs.YtgjbfhmfhmihhaaDoor.InR

def spRel (L : List Bt) (kk : Nat) (w : World) (vn ve : Value) (wr : World) : Prop :=
  ∃ j : Nat, vn = .int .i64 (j : Int) ∧ j ≤ kk ∧ ve = .int .i64 ((byR (L.take j)).length : Int) ∧ Below w.heap.size w wr
set_option maxRecDepth 100000 in
set_option maxHeartbeats 8000000 in
theorem segSpoilt_walk (sb : Int) (A : Option Addr) (n c : Nat) (l : List UInt8) (at_ : Int) (tv : UInt8) (w : World) (hi : I64 sb) (hc : n ≤ c) (_hk : c ≤ reach) (hR : Rd w w.heap.size A n l) (_ho : I64 at_) (ht : Tab w) :
    Calls Tryd.prog 8 #[.agg #[.int .i64 sb, .slice A n c], .int .i64 at_, .int .u8 (tv.toNat : Int)] w fun e w' => e = .returned (.bool true) ∧ Below w.heap.size w w' := by
  have HW_0 := Lib.hid (belA w (.cells #[.int .i64 sb, .slice A n c] 24))
  have HS_0 := Lib.hid (At0.new w [.int .i64 sb, .slice A n c] 24)
  have HR_0 := Lib.hid (rdUp hR HW_0.out)
  have HT_0 := Lib.hid (ht.bel HW_0.out)
  have hmx : Tryd.prog.follows .mixedOrders = true := by kernel_rfl
  clear hR ht
  rcases hz : decide ((n : Int) ≤ 9000) with _ | _
  · have HZ := Lib.hid hz
    clear hz
    go_enter Tryd.func8, Tryd.ntmps8
    go_wp2_with (first
      | (go_at_call 12; (with_reducible refine (live_any _ HT_0.out).mono ?_); rintro e w1 ⟨rfl, hb⟩; have HW_1 := Lib.hid (bel_trans HW_0.out hb); have HS_1 := Lib.hid (HS_0.out.below hb); have HR_1 := Lib.hid (rdUp HR_0.out hb); have HT_1 := Lib.hid (HT_0.out.bel hb); have hs1_0 : w1.cell? ⟨w.heap.size, 0, none⟩ = some (.int .i64 sb) := HS_1.out.cell 0; have hs1_1 : w1.cell? ⟨w.heap.size, 1, none⟩ = some (.slice A n c) := HS_1.out.cell 1; clear hb)
      | (go_at_call 13; (with_reducible refine (refFewS_is sb A n c _ HZ.out).mono ?_); rintro e w2 ⟨rfl, hb⟩; have HW_2 := Lib.hid (bel_trans HW_1.out hb); have HS_2 := Lib.hid (HS_1.out.below hb); have HR_2 := Lib.hid (rdUp HR_1.out hb); have HT_2 := Lib.hid (HT_1.out.bel hb); have hs2_0 : w2.cell? ⟨w.heap.size, 0, none⟩ = some (.int .i64 sb) := HS_2.out.cell 0; have hs2_1 : w2.cell? ⟨w.heap.size, 1, none⟩ = some (.slice A n c) := HS_2.out.cell 1; clear hb))
    go_ret
    exact ⟨rfl, HW_2.out⟩
  have hn : n ≤ 9000 := by have := of_decide_eq_true hz; omega
  have HZ := Lib.hid hz
  clear hz
  have hlen := HR_0.out.len
  by_cases hneg : at_ < 0
  · go_enter Tryd.func8, Tryd.ntmps8
    go_wp2_with (first
      | (go_at_call 12; (with_reducible refine (live_any _ HT_0.out).mono ?_); rintro e w1 ⟨rfl, hb⟩; have HW_1 := Lib.hid (bel_trans HW_0.out hb); have HS_1 := Lib.hid (HS_0.out.below hb); have HR_1 := Lib.hid (rdUp HR_0.out hb); have HT_1 := Lib.hid (HT_0.out.bel hb); have hs1_0 : w1.cell? ⟨w.heap.size, 0, none⟩ = some (.int .i64 sb) := HS_1.out.cell 0; have hs1_1 : w1.cell? ⟨w.heap.size, 1, none⟩ = some (.slice A n c) := HS_1.out.cell 1; clear hb)
      | (go_at_call 13; (with_reducible refine (refFewS_is sb A n c _ HZ.out).mono ?_); rintro e w2 ⟨rfl, hb⟩; have HW_2 := Lib.hid (bel_trans HW_1.out hb); have HS_2 := Lib.hid (HS_1.out.below hb); have HR_2 := Lib.hid (rdUp HR_1.out hb); have HT_2 := Lib.hid (HT_1.out.bel hb); have hs2_0 : w2.cell? ⟨w.heap.size, 0, none⟩ = some (.int .i64 sb) := HS_2.out.cell 0; have hs2_1 : w2.cell? ⟨w.heap.size, 1, none⟩ = some (.slice A n c) := HS_2.out.cell 1; clear hb))
    go_ret
    exact ⟨rfl, HW_2.out⟩
  by_cases hbig : (n : Int) ≤ at_
  · go_enter Tryd.func8, Tryd.ntmps8
    go_wp2_with (first
      | (go_at_call 12; (with_reducible refine (live_any _ HT_0.out).mono ?_); rintro e w1 ⟨rfl, hb⟩; have HW_1 := Lib.hid (bel_trans HW_0.out hb); have HS_1 := Lib.hid (HS_0.out.below hb); have HR_1 := Lib.hid (rdUp HR_0.out hb); have HT_1 := Lib.hid (HT_0.out.bel hb); have hs1_0 : w1.cell? ⟨w.heap.size, 0, none⟩ = some (.int .i64 sb) := HS_1.out.cell 0; have hs1_1 : w1.cell? ⟨w.heap.size, 1, none⟩ = some (.slice A n c) := HS_1.out.cell 1; clear hb)
      | (go_at_call 13; (with_reducible refine (refFewS_is sb A n c _ HZ.out).mono ?_); rintro e w2 ⟨rfl, hb⟩; have HW_2 := Lib.hid (bel_trans HW_1.out hb); have HS_2 := Lib.hid (HS_1.out.below hb); have HR_2 := Lib.hid (rdUp HR_1.out hb); have HT_2 := Lib.hid (HT_1.out.bel hb); have hs2_0 : w2.cell? ⟨w.heap.size, 0, none⟩ = some (.int .i64 sb) := HS_2.out.cell 0; have hs2_1 : w2.cell? ⟨w.heap.size, 1, none⟩ = some (.slice A n c) := HS_2.out.cell 1; clear hb))
    go_ret
    exact ⟨rfl, HW_2.out⟩
  obtain ⟨m, rfl⟩ : ∃ m : Nat, at_ = (m : Int) := ⟨at_.toNat, by omega⟩
  have hm : m < n := by omega
  have hm0 : (0 : Int) ≤ (m : Int) := by omega
  have hm1 : (m : Int) < (n : Int) := by omega
  have hm2 : ¬ (n : Int) ≤ (m : Int) := by omega
  have hnc : (n : Int) ≤ (c : Int) := by omega
  obtain ⟨b0, o0, d, rfl, hb0, hd, hcell0⟩ := HR_0.out.at hm
  clear hneg hbig hcell0 hb0
  by_cases hdt : d = tv
  · subst hdt
    go_enter Tryd.func8, Tryd.ntmps8
    go_wp2_with (first
      | (go_at_call 12; (with_reducible refine (live_any _ HT_0.out).mono ?_); rintro e w1 ⟨rfl, hb⟩; have HW_1 := Lib.hid (bel_trans HW_0.out hb); have HS_1 := Lib.hid (HS_0.out.below hb); have HR_1 := Lib.hid (rdUp HR_0.out hb); have HT_1 := Lib.hid (HT_0.out.bel hb); have hs1_0 : w1.cell? ⟨w.heap.size, 0, none⟩ = some (.int .i64 sb) := HS_1.out.cell 0; have hs1_1 : w1.cell? ⟨w.heap.size, 1, none⟩ = some (.slice (some ⟨b0, o0, none⟩) n c) := HS_1.out.cell 1; clear hb)
      | (go_at_call 13; (with_reducible refine (refFewS_is sb (some ⟨b0, o0, none⟩) n c _ HZ.out).mono ?_); rintro e w2 ⟨rfl, hb⟩; have HW_2 := Lib.hid (bel_trans HW_1.out hb); have HS_2 := Lib.hid (HS_1.out.below hb); have HR_2 := Lib.hid (rdUp HR_1.out hb); have HT_2 := Lib.hid (HT_1.out.bel hb); have hs2_0 : w2.cell? ⟨w.heap.size, 0, none⟩ = some (.int .i64 sb) := HS_2.out.cell 0; have hs2_1 : w2.cell? ⟨w.heap.size, 1, none⟩ = some (.slice (some ⟨b0, o0, none⟩) n c) := HS_2.out.cell 1; obtain ⟨b1, o1, d1, hA1, _, hd1, hcell1⟩ := HR_2.out.at hm; injection hA1 with hA1; injection hA1 with hA2 hA3; subst hA2 hA3; obtain rfl : d = d1 := (by rw [hd] at hd1; exact Option.some.inj hd1); clear hb hd1))
    go_ret
    exact ⟨rfl, HW_2.out⟩
  have hdq : ((d.toNat : Int) == (tv.toNat : Int)) = false := beq_false_of_ne fun h => hdt (UInt8.toNat_inj.1 (by omega))
  obtain ⟨L, g, hsc⟩ : ∃ L g, sc sb l = (L, g) := ⟨_, _, rfl⟩
  have hgl : g ≤ n := by have h := (sc_good sb l).2.2.2.1; rw [hsc] at h; simp only at h; omega
  have hLl : L.length ≤ 9000 := by have h := (sc_good sb l).2.1; rw [hsc] at h; have h2 := byR_ge L; simp only at h; omega
  have HSC := Lib.hid hsc
  have HI := Lib.hid hi
  have HYL := Lib.hid hlen
  have HD := Lib.hid hd
  have HDT := Lib.hid hdt
  obtain ⟨M, q, hsm⟩ : ∃ M q, sc sb (l.set m tv) = (M, q) := ⟨_, _, rfl⟩
  have HSM := Lib.hid hsm
  have hq9 : q ≤ n := by have h := (sc_good sb (l.set m tv)).2.2.2.1; rw [hsm, List.length_set] at h; simp only at h; omega
  have hMl : M.length ≤ 9000 := by have h := (sc_good sb (l.set m tv)).2.1; rw [hsm] at h; have h2 := byR_ge M; simp only at h; omega
  have HBH := Lib.hid (fun h => by have h1 := spoilt_behind sb l (i := m) tv (by rw [hsc]; exact h); rw [hsc, hsm] at h1; exact h1 : g ≤ m → L.length ≤ M.length ∧ M.take L.length = L ∧ g ≤ q)
  have HWI := Lib.hid (fun h => by have h1 := spoilt_within sb l (i := m) tv (by rw [hsc]; exact h) hd hdt; rw [hsc, hsm] at h1; exact h1 : m < g → ∃ k b, L[k]? = some b ∧ (byR (L.take k)).length ≤ m ∧ m < (byR (L.take k)).length + (byB b).length ∧ (M, q) = (L.take k, (byR (L.take k)).length))
  have HCH := Lib.hid (fun b hb => by have h := sc_chB sb l b; rw [hsc] at h; exact h hb : ∀ b ∈ L, chB b = 0)
  have HGG := Lib.hid (show g = (byR L).length by have h := (sc_good sb l).2.1; rw [hsc] at h; exact h)
  clear hsc hsm hd hdt
  go_enter Tryd.func8, Tryd.ntmps8
  go_wp2_with (first
    | (go_at_call 12; (with_reducible refine (live_any _ HT_0.out).mono ?_); rintro e w1 ⟨rfl, hb⟩; have HW_1 := Lib.hid (bel_trans HW_0.out hb); have HS_1 := Lib.hid (HS_0.out.below hb); have HR_1 := Lib.hid (rdUp HR_0.out hb); have HT_1 := Lib.hid (HT_0.out.bel hb); have hs1_0 : w1.cell? ⟨w.heap.size, 0, none⟩ = some (.int .i64 sb) := HS_1.out.cell 0; have hs1_1 : w1.cell? ⟨w.heap.size, 1, none⟩ = some (.slice (some ⟨b0, o0, none⟩) n c) := HS_1.out.cell 1; clear hb)
    | (go_at_call 13; (with_reducible refine (refFewS_is sb (some ⟨b0, o0, none⟩) n c _ HZ.out).mono ?_); rintro e w2 ⟨rfl, hb⟩; have HW_2 := Lib.hid (bel_trans HW_1.out hb); have HS_2 := Lib.hid (HS_1.out.below hb); have HR_2 := Lib.hid (rdUp HR_1.out hb); have HT_2 := Lib.hid (HT_1.out.bel hb); have hs2_0 : w2.cell? ⟨w.heap.size, 0, none⟩ = some (.int .i64 sb) := HS_2.out.cell 0; have hs2_1 : w2.cell? ⟨w.heap.size, 1, none⟩ = some (.slice (some ⟨b0, o0, none⟩) n c) := HS_2.out.cell 1; obtain ⟨b1, o1, d1, hA1, _, hd1, hcell1⟩ := HR_2.out.at hm; injection hA1 with hA1; injection hA1 with hA2 hA3; subst hA2 hA3; obtain rfl : d = d1 := (by have h9 := HD.out; rw [hd1] at h9; exact (Option.some.inj h9).symm); clear hb hd1)
    | (go_at_call 15; (with_reducible refine (Scan_is HSC.out HR_2.out hc (by omega) HI.out HT_2.out).mono ?_); rintro e w3 ⟨A3, n3, c3, rfl, ho, hb⟩; have HW_3 := Lib.hid (bel_trans HW_2.out hb); have HS_3 := Lib.hid (HS_2.out.below hb); have HR_3 := Lib.hid (rdUp HR_2.out hb); have HT_3 := Lib.hid (HT_2.out.bel hb); have HL_3 := Lib.hid (ho.rd); have hn3 : n3 ≤ 1099511627776 := (by have h9 := ho.len; omega); have hcap3 := ho.cap; obtain rfl : n3 = L.length := ho.len.symm; have hs3_0 : w3.cell? ⟨w.heap.size, 0, none⟩ = some (.int .i64 sb) := HS_3.out.cell 0; have hs3_1 : w3.cell? ⟨w.heap.size, 1, none⟩ = some (.slice (some ⟨b0, o0, none⟩) n c) := HS_3.out.cell 1; clear hb ho))
  go_cut [9] (fun s9 wx => ∃ X A4 c4, s9 = .pointer (some ⟨X, 0, none⟩) ∧ At1 wx X [.int .i64 sb, .slice A4 n c4] ∧ OwnB wx 5 w3.heap.size (.slice A4 n c4) n l ∧ (∀ g, (Value.slice A4 n c4).ownBlock = some g → g ≠ X) ∧ w3.heap.size ≤ X ∧ Below w3.heap.size w3 wx)
  case first =>
    have HRA := Lib.hid (show Rd w3.drew w3.heap.size (some ⟨b0, o0, none⟩) n l from HR_3.out.drew)
    have HRB := Lib.hid (show Rd (w3.alloc (.cells #[.int .i64 0, .slice none 0 0] 24)).drew w3.heap.size (some ⟨b0, o0, none⟩) n l from ((HR_3.out).alloc (Nat.le_refl _) _).drew)
    have S0 := HS_3.out.cell 0
    have S1 := HS_3.out.cell 1
    have hlt3 := HS_3.out.lt
    go_region_held3 (fun x : World => x.cell? ⟨w.heap.size, 0, none⟩ = some (.int .i64 sb) ∧ x.cell? ⟨w.heap.size, 1, none⟩ = some (.slice (some ⟨b0, o0, none⟩) n c)) (first | exact ⟨S0, S1⟩ | exact ⟨(World.cell?_alloc_lt _ _ _ hlt3).trans S0, (World.cell?_alloc_lt _ _ _ hlt3).trans S1⟩ | exact ⟨P0, P1⟩ | exact ⟨(World.cell?_alloc_lt _ _ _ hlt4).trans P0, (World.cell?_alloc_lt _ _ _ hlt4).trans P1⟩ | exact ⟨(cell_off (by simp; omega)).trans ((cell_off (by simp; omega)).trans P0), (cell_off (by simp; omega)).trans ((cell_off (by simp; omega)).trans P1)⟩ | exact ⟨(cell_off (by simp; omega)).trans ((cell_off (by simp; omega)).trans ((World.cell?_alloc_lt _ _ _ hlt4).trans P0)), (cell_off (by simp; omega)).trans ((cell_off (by simp; omega)).trans ((World.cell?_alloc_lt _ _ _ hlt4).trans P1))⟩) (first
      | (go_at_call 14; (with_reducible refine (Copy_any (some ⟨b0, o0, none⟩) n c l w3.heap.size w3.drew (HRA.out) (by omega)).mono ?_); rintro e w4 ⟨A4, n4, c4, rfl, ho, hb⟩; have hb3 := bel_trans (Below.refl w3.heap.size w3).drew hb; obtain rfl : n = n4 := HYL.out.symm.trans ho.len; have hcap4 := ho.cap; have hlt4 : w.heap.size < w4.heap.size := (Nat.lt_of_lt_of_le hlt3 hb3.size); have P0 := (hb3.cell (p := ⟨w.heap.size, 0, none⟩) hlt3).trans S0; have P1 := (hb3.cell (p := ⟨w.heap.size, 1, none⟩) hlt3).trans S1; have HB3 := Lib.hid hb3; have HO := Lib.hid ho; clear hb hb3 ho)
      | (go_at_call 14; (with_reducible refine (Copy_any (some ⟨b0, o0, none⟩) n c l w3.heap.size (w3.alloc (.cells #[.int .i64 0, .slice none 0 0] 24)).drew (HRB.out) (by omega)).mono ?_); rintro e w4 ⟨A4, n4, c4, rfl, ho, hb⟩; have hb3 := bel_trans (belA w3 (.cells #[.int .i64 0, .slice none 0 0] 24)).drew hb; have Z0 := (hb.cell (p := ⟨w3.heap.size, 0, none⟩) (by simp)).trans (show _ = some (.int .i64 0) by simp [go_sem]); have Z1 := (hb.cell (p := ⟨w3.heap.size, 1, none⟩) (by simp)).trans (show _ = some (.slice none 0 0) by simp [go_sem]); have F0 := (hb.frozen (p := ⟨w3.heap.size, 0, none⟩) (by simp)).trans (show _ = false by simp [go_sem]); have F1 := (hb.frozen (p := ⟨w3.heap.size, 1, none⟩) (by simp)).trans (show _ = false by simp [go_sem]); have hltX : w3.heap.size < w4.heap.size := (by have := hb.size; simp at this; omega); have HNE := Lib.hid (fun g hg => by have := (World.ownsRow.lt ho g hg).1; simp at this; omega : ∀ g, (Value.slice A4 n4 c4).ownBlock = some g → g ≠ w3.heap.size); obtain rfl : n = n4 := HYL.out.symm.trans ho.len; have hcap4 := ho.cap; have hlt4 : w.heap.size < w4.heap.size := (Nat.lt_of_lt_of_le hlt3 hb3.size); have P0 := (hb3.cell (p := ⟨w.heap.size, 0, none⟩) hlt3).trans S0; have P1 := (hb3.cell (p := ⟨w.heap.size, 1, none⟩) hlt3).trans S1; have HB3 := Lib.hid hb3; have HO := Lib.hid ho; clear hb hb3 ho))
    all_goals go_wp2
    all_goals go_meet
    · exact ⟨w4.heap.size, A4, c4, rfl, At1.two (by simp) (by simp [go_sem]) (by simp [go_sem]), World.ownsRow.alloc HO.out _, fun g hg h9 => absurd (World.ownsRow.lt HO.out g hg).2 (by omega), HB3.out.size, HB3.out.alloc HB3.out.size _⟩
    · exact ⟨w3.heap.size, A4, c4, rfl, At1.two (by simpa using hltX) (by simp [go_sem, Z0]) (by simp [go_sem, Z1]), OwnB.more (ownsRow_setCell_below (ownsRow_setCell_below HO.out (by simp) _) (by simp) _) (by simp), HNE.out, Nat.le_refl _, (HB3.out.setCell (by simp) _).setCell (by simp) _⟩
  case rest =>
    obtain ⟨X, A4, c4, rfl, hbx, ho, hnx, hX, hb⟩ := hcut
    rename World => w4
    have hcap4 := ho.cap
    have HW_4 := Lib.hid (bel_trans HW_3.out hb)
    have HS_4 := Lib.hid (HS_3.out.below hb)
    have HR_4 := Lib.hid (rdUp HR_3.out hb)
    have HT_4 := Lib.hid (HT_3.out.bel hb)
    have HL_4 := Lib.hid (rdtUp HL_3.out hb)
    have HQ_4 := Lib.hid (hbx)
    have HQR_4 := Lib.hid (ho.rd)
    have HQO := Lib.hid ho
    have HQN := Lib.hid hnx
    have HBW := Lib.hid hb
    have hs4_0 : w4.cell? ⟨w.heap.size, 0, none⟩ = some (.int .i64 sb) := HS_4.out.cell 0
    have hs4_1 : w4.cell? ⟨w.heap.size, 1, none⟩ = some (.slice (some ⟨b0, o0, none⟩) n c) := HS_4.out.cell 1
    have hq4_0 : w4.cell? ⟨X, 0, none⟩ = some (.int .i64 sb) := HQ_4.out.2 0 _ rfl
    have hq4_1 : w4.cell? ⟨X, 1, none⟩ = some (.slice A4 n c4) := HQ_4.out.2 1 _ rfl
    clear hbx ho hnx hb
    obtain ⟨g4, rfl, hg4⟩ := own_form HQO.out (by omega)
    obtain ⟨p0, pf⟩ := own_cell_is HQO.out HD.out
    obtain ⟨hput, hbp⟩ := own_put (j := m) HQO.out hg4 tv
    have hgX := HQN.out g4 rfl
    have hb := HBW.out.trans hbp
    have HW_5 := Lib.hid (bel_trans HW_3.out hb)
    have HS_5 := Lib.hid (HS_3.out.below hb)
    have HR_5 := Lib.hid (rdUp HR_3.out hb)
    have HT_5 := Lib.hid (HT_3.out.bel hb)
    have HL_5 := Lib.hid (rdtUp HL_3.out hb)
    have HQ_5 := Lib.hid (show At1 (w4.setCell ⟨g4, m, none⟩ (.int .u8 (tv.toNat : Int))) X [.int .i64 sb, .slice (some ⟨g4, 0, none⟩) n c4] from ⟨by simpa using HQ_4.out.1, fun j v hv => (cell_off (by simp only; omega)).trans (HQ_4.out.2 j v hv)⟩)
    have HQR_5 := Lib.hid (hput.rd)
    clear hb hput hbp
    have hs5_0 : (w4.setCell ⟨g4, m, none⟩ (.int .u8 (tv.toNat : Int))).cell? ⟨w.heap.size, 0, none⟩ = some (.int .i64 sb) := HS_5.out.cell 0
    have hs5_1 : (w4.setCell ⟨g4, m, none⟩ (.int .u8 (tv.toNat : Int))).cell? ⟨w.heap.size, 1, none⟩ = some (.slice (some ⟨b0, o0, none⟩) n c) := HS_5.out.cell 1
    have hq5_0 : (w4.setCell ⟨g4, m, none⟩ (.int .u8 (tv.toNat : Int))).cell? ⟨X, 0, none⟩ = some (.int .i64 sb) := HQ_5.out.2 0 _ rfl
    have hq5_1 : (w4.setCell ⟨g4, m, none⟩ (.int .u8 (tv.toNat : Int))).cell? ⟨X, 1, none⟩ = some (.slice (some ⟨g4, 0, none⟩) n c4) := HQ_5.out.2 1 _ rfl
    by_cases hgm : g ≤ m
    · obtain ⟨e1, e2, e3⟩ := HBH.out hgm
      have u1 : decide ((g : Int) ≤ (m : Int)) = true := decide_eq_true (by omega)
      have u2 : decide ((L.length : Int) ≤ (M.length : Int)) = true := decide_eq_true (by omega)
      have u3 : decide ((g : Int) ≤ (q : Int)) = true := decide_eq_true (by omega)
      have u4 : decide (g ≤ m) = true := decide_eq_true (by omega)
      have u5 : decide (L.length ≤ M.length) = true := decide_eq_true (by omega)
      have u6 : decide (g ≤ q) = true := decide_eq_true (by omega)
      have u7 : (L.length : Int) ≤ (M.length : Int) := by omega
      have HE2 := Lib.hid e2
      clear e2
      go_wp2_with (first
        | (go_at_call 15; (with_reducible refine (Scan_is HSM.out HQR_5.out hcap4 (by omega) HI.out HT_5.out).mono ?_); rintro e w6 ⟨A6, n6, c6, rfl, ho, hb⟩; have HW_6 := Lib.hid (bel_trans HW_5.out hb); have HS_6 := Lib.hid (HS_5.out.below hb); have HR_6 := Lib.hid (rdUp HR_5.out hb); have HT_6 := Lib.hid (HT_5.out.bel hb); have HL_6 := Lib.hid (rdtUp HL_5.out hb); have HQ_6 := Lib.hid (HQ_5.out.below hb); have HQR_6 := Lib.hid (rdUp HQR_5.out hb); have HM_6 := Lib.hid (ho.rd); have hn6 : n6 ≤ 1099511627776 := (by have h9 := ho.len; omega); have hcap6 := ho.cap; obtain rfl : n6 = M.length := ho.len.symm; have hs6_0 : w6.cell? ⟨w.heap.size, 0, none⟩ = some (.int .i64 sb) := HS_6.out.cell 0; have hs6_1 : w6.cell? ⟨w.heap.size, 1, none⟩ = some (.slice (some ⟨b0, o0, none⟩) n c) := HS_6.out.cell 1; clear hb ho)
        | (go_at_call 19; (with_reducible refine (SameAll_is A6 A3 L.length c6 L.length c3 (M.take L.length) L _ (HM_6.out.take e1) HL_6.out (by omega) (by omega) (eqT_iff.2 HE2.out)).mono ?_); rintro e w7 ⟨rfl, hb⟩; have HW_7 := Lib.hid (bel_trans HW_6.out hb); have HS_7 := Lib.hid (HS_6.out.below hb); have HR_7 := Lib.hid (rdUp HR_6.out hb); have HT_7 := Lib.hid (HT_6.out.bel hb); have HL_7 := Lib.hid (rdtUp HL_6.out hb); have HQ_7 := Lib.hid (HQ_6.out.below hb); have HQR_7 := Lib.hid (rdUp HQR_6.out hb); have HM_7 := Lib.hid (rdtUp HM_6.out hb); clear hb))
      go_ret
      exact ⟨rfl, HW_7.out⟩
    · obtain ⟨kk, b, hkb, e1, e2, e3⟩ := HWI.out (by omega)
      obtain ⟨rfl, rfl⟩ : M = L.take kk ∧ q = (byR (L.take kk)).length := ⟨congrArg Prod.fst e3, congrArg Prod.snd e3⟩
      have hkl : kk < L.length := (List.getElem?_eq_some_iff.1 hkb).1
      have hkt : (L.take kk).length = kk := by rw [List.length_take]; omega
      have u1 : decide ((g : Int) ≤ (m : Int)) = false := decide_eq_false (by omega)
      have u4 : decide (g ≤ m) = false := decide_eq_false hgm
      have HKB := Lib.hid hkb
      have HKT := Lib.hid hkt
      obtain ⟨Q, hQ⟩ : ∃ Q, Q = (byR (L.take kk)).length := ⟨_, rfl⟩
      rw [← hQ] at HSM e1 e2
      have HQQ := Lib.hid hQ
      clear e3 hkb hkt hQ
      go_wp2_with (first
        | (go_at_call 15; (with_reducible refine (Scan_is HSM.out HQR_5.out hcap4 (by omega) HI.out HT_5.out).mono ?_); rintro e w6 ⟨A6, n6, c6, rfl, ho, hb⟩; have HW_6 := Lib.hid (bel_trans HW_5.out hb); have HS_6 := Lib.hid (HS_5.out.below hb); have HR_6 := Lib.hid (rdUp HR_5.out hb); have HT_6 := Lib.hid (HT_5.out.bel hb); have HL_6 := Lib.hid (rdtUp HL_5.out hb); have HQ_6 := Lib.hid (HQ_5.out.below hb); have HQR_6 := Lib.hid (rdUp HQR_5.out hb); have HM_6 := Lib.hid (ho.rd); have hn6 : n6 ≤ 1099511627776 := (by have h9 := ho.len; omega); have hcap6 := ho.cap; obtain rfl : kk = n6 := HKT.out.symm.trans ho.len; have hs6_0 : w6.cell? ⟨w.heap.size, 0, none⟩ = some (.int .i64 sb) := HS_6.out.cell 0; have hs6_1 : w6.cell? ⟨w.heap.size, 1, none⟩ = some (.slice (some ⟨b0, o0, none⟩) n c) := HS_6.out.cell 1; clear hb ho))
      go_loopw [12, 13] (fun vn ve wr => spRel L kk w6 vn ve wr) (fun vn _ _ => kk - (intOf vn).toNat)
      case atStart => exact ⟨0, rfl, Nat.zero_le _, by rw [List.take_zero, byR_nil]; rfl, Below.refl _ _⟩
      case round =>
        obtain ⟨j, rfl, hj, rfl, hb⟩ := hrel
        have HBL := Lib.hid hb
        have HW_r := Lib.hid (bel_trans HW_6.out hb)
        have HS_r := Lib.hid (HS_6.out.below hb)
        have HR_r := Lib.hid (rdUp HR_6.out hb)
        have HT_r := Lib.hid (HT_6.out.bel hb)
        have HL_r := Lib.hid (rdtUp HL_6.out hb)
        have HQ_r := Lib.hid (HQ_6.out.below hb)
        have HQR_r := Lib.hid (rdUp HQR_6.out hb)
        have HM_r := Lib.hid (rdtUp HM_6.out hb)
        clear hb
        have hlt : j < L.length := by omega
        obtain ⟨Z, hZ⟩ : ∃ Z, Z = (byR (L.take j)).length := ⟨_, rfl⟩
        rw [← hZ]
        obtain ⟨b, o, x, A9, n9, c9, rfl, hbl, hxk, hc9, hn9, hrd, hft, hcell⟩ := (HL_r.out).at (k := j) hlt
        obtain ⟨ba, la, fr, ep, pi, ge, se, tx, ct, rs⟩ := x
        have HFT := Lib.hid hft
        have HRD := Lib.hid hrd
        have a0 : wr.cell? ⟨b, o + j * 10, none⟩ = some (.int .i64 ba) := hcell 0 _ rfl
        have a1 : wr.cell? ⟨b, o + j * 10 + 1, none⟩ = some (.int .i64 la) := hcell 1 _ rfl
        have a2 : wr.cell? ⟨b, o + j * 10 + 2, none⟩ = some (.int .i64 fr) := hcell 2 _ rfl
        have a3 : wr.cell? ⟨b, o + j * 10 + 3, none⟩ = some (.int .i64 ep) := hcell 3 _ rfl
        have a4 : wr.cell? ⟨b, o + j * 10 + 4, none⟩ = some (.int .i64 pi) := hcell 4 _ rfl
        have a5 : wr.cell? ⟨b, o + j * 10 + 5, none⟩ = some (.int .i64 ge) := hcell 5 _ rfl
        have a6 : wr.cell? ⟨b, o + j * 10 + 6, none⟩ = some (.int .i64 se) := hcell 6 _ rfl
        have a7 : wr.cell? ⟨b, o + j * 10 + 7, none⟩ = some (.bool tx) := hcell 7 _ rfl
        have a8 : wr.cell? ⟨b, o + j * 10 + 8, none⟩ = some (.int .i64 ct) := hcell 8 _ rfl
        have a9 : wr.cell? ⟨b, o + j * 10 + 9, none⟩ = some (.slice A9 n9 c9) := hcell 9 _ rfl
        clear hcell hft hrd
        have hch := HCH.out _ (List.mem_of_getElem? hxk)
        have hst := byR_take_succ hxk
        obtain ⟨z, hz⟩ : ∃ z, z = (byB ⟨ba, la, fr, ep, pi, ge, se, tx, ct, rs⟩).length := ⟨_, rfl⟩
        rw [← hZ, ← hz] at hst
        have HSZ := Lib.hid (show szB ⟨ba, la, fr, ep, pi, ge, se, tx, ct, rs⟩ = (z : Int) by rw [szB_ok hch, hz])
        have hle := byR_take_le L (show j + 1 ≤ L.length by omega)
        rw [List.take_length] at hle
        have hgg := HGG.out
        have hzz : Z + z ≤ 9000 := by omega
        have u9 : decide ((j : Int) < (L.length : Int)) = true := decide_eq_true (by omega)
        have u10 : (j : Int) < (L.length : Int) := by omega
        have u11 : decide (j < L.length) = true := decide_eq_true (by omega)
        by_cases hjk : j < kk
        · have hle2 := byR_take_le L (show j + 1 ≤ kk by omega)
          rw [← HQQ.out] at hle2
          have HST := Lib.hid hst
          have u12 : decide ((Z : Int) + (z : Int) ≤ (m : Int)) = true := decide_eq_true (by omega)
          have u13 : decide (Z + z ≤ m) = true := decide_eq_true (by omega)
          have u14 : (Z : Int) + (z : Int) ≤ (m : Int) := by omega
          clear hxk hst hle hgg hle2 hz hZ hch
          go_wp2_with (first
            | (go_at_call 34; (with_reducible refine (BSize_is ba la fr ep pi ge se tx ct rs A9 n9 c9 _ HFT.out HRD.out hn9 HT_r.out HSZ.out).mono ?_); rintro e w7 ⟨rfl, hb7⟩; have HB7 := Lib.hid hb7; have HRD7 := Lib.hid ((HRD.out.below hb7 (Nat.le_refl _)).more hb7.size); have HT7 := Lib.hid (HT_r.out.bel hb7); have d0 := (hb7.cell (p := ⟨b, o + j * 10, none⟩) hbl).trans a0; have d1 := (hb7.cell (p := ⟨b, o + j * 10 + 1, none⟩) hbl).trans a1; have d2 := (hb7.cell (p := ⟨b, o + j * 10 + 2, none⟩) hbl).trans a2; have d3 := (hb7.cell (p := ⟨b, o + j * 10 + 3, none⟩) hbl).trans a3; have d4 := (hb7.cell (p := ⟨b, o + j * 10 + 4, none⟩) hbl).trans a4; have d5 := (hb7.cell (p := ⟨b, o + j * 10 + 5, none⟩) hbl).trans a5; have d6 := (hb7.cell (p := ⟨b, o + j * 10 + 6, none⟩) hbl).trans a6; have d7 := (hb7.cell (p := ⟨b, o + j * 10 + 7, none⟩) hbl).trans a7; have d8 := (hb7.cell (p := ⟨b, o + j * 10 + 8, none⟩) hbl).trans a8; have d9 := (hb7.cell (p := ⟨b, o + j * 10 + 9, none⟩) hbl).trans a9; clear hb7)
            | (go_at_call 34; (with_reducible refine (BSize_is ba la fr ep pi ge se tx ct rs A9 n9 c9 _ HFT.out HRD7.out hn9 HT7.out HSZ.out).mono ?_); rintro e w8 ⟨rfl, hb7⟩; have HB8 := Lib.hid (bel_trans HB7.out hb7); clear hb7))
          go_roundw
          case rel => exact ⟨j + 1, by go_num, by omega, by rw [HST.out]; go_num, bel_trans HBL.out HB8.out⟩
          case measure => simp [intOf]; omega
        · obtain rfl : j = kk := by omega
          have hbb := HKB.out
          rw [hxk] at hbb
          obtain rfl := Option.some.inj hbb
          obtain rfl : Q = Z := HQQ.out.trans hZ.symm
          rw [← hz] at e2
          have u12 : decide ((Q : Int) + (z : Int) ≤ (m : Int)) = false := decide_eq_false (by omega)
          have u13 : decide (Q + z ≤ m) = false := decide_eq_false (by omega)
          have u14 : ¬ (Q : Int) + (z : Int) ≤ (m : Int) := by omega
          have u15 : (j : Int) ≤ (L.length : Int) := by omega
          have u16 : ¬ Q + z ≤ m := by omega
          clear hxk hbb hst hle hgg hz hZ hch
          go_wp2_with (first
            | (go_at_call 34; (with_reducible refine (BSize_is ba la fr ep pi ge se tx ct rs A9 n9 c9 _ HFT.out HRD.out hn9 HT_r.out HSZ.out).mono ?_); rintro e w7 ⟨rfl, hb7⟩; have hb := hb7; have HW_7 := Lib.hid (bel_trans HW_r.out hb); have HS_7 := Lib.hid (HS_r.out.below hb); have HR_7 := Lib.hid (rdUp HR_r.out hb); have HT_7 := Lib.hid (HT_r.out.bel hb); have HL_7 := Lib.hid (rdtUp HL_r.out hb); have HQ_7 := Lib.hid (HQ_r.out.below hb); have HQR_7 := Lib.hid (rdUp HQR_r.out hb); have HM_7 := Lib.hid (rdtUp HM_r.out hb); clear hb7 hb)
            | (go_at_call 19; (with_reducible refine (SameAll_is A6 (some ⟨b, o, none⟩) j c6 j c3 (L.take j) (L.take j) _ HM_7.out (HL_7.out.take (by omega)) (by omega) (by omega) (eqT_self _)).mono ?_); rintro e w9 ⟨rfl, hb⟩; have HW_9 := Lib.hid (bel_trans HW_7.out hb); have HS_9 := Lib.hid (HS_7.out.below hb); have HR_9 := Lib.hid (rdUp HR_7.out hb); have HT_9 := Lib.hid (HT_7.out.bel hb); have HL_9 := Lib.hid (rdtUp HL_7.out hb); have HQ_9 := Lib.hid (HQ_7.out.below hb); have HQR_9 := Lib.hid (rdUp HQR_7.out hb); have HM_9 := Lib.hid (rdtUp HM_7.out hb); clear hb))
          go_ret
          exact ⟨rfl, HW_9.out⟩
end Go.Proofs.YtgjbfhmfhmihhaaDoor.Seg

namespace Go.Proofs.YtgjbfhmfhmihhaaDoor.segSpoilt
open Go.ChangeShapes Go.WideShapes Go.ChangeAt Go.RowKit

theorem own : ownKnob Tryd.prog.godebug = none := by kernel_rfl
theorem laidOut : laidOutB Tryd.prog = true := by kernel_rfl

set_option maxRecDepth 100000 in
theorem lifted (os : Os) (started : os.Started) (H : Type) (enc : TypeId × Value → H) :
    ReturnsInHanded {} Tryd.checked os 8 .any (fun w args => (Rows.segSpoiltSpec.pre enc Tryd.prog Tryd.f8 [] false w args ∧ laidMetH Tryd.prog Crc.listed w) ∧ sizedMet enc Tryd.prog Tryd.f8 (OpenSpec.ofChange Rows.segSpoiltSpec) false w args)
      (Rows.segSpoiltSpec.post enc Tryd.prog Tryd.f8 false true false false) := by
  refine returnsInHanded_of_change_and (C := Tryd.checked) (X := fun w _ => laidMetH Tryd.prog Crc.listed w) (fun _ _ _ hh h => h.of_heap hh) own started (by kernel_rfl) Tryd.func8
    (ChangeSpec.witness_shaped (enc := enc) (C := Tryd.checked) (os := os) (X := fun w _ => laidMetH Tryd.prog Crc.listed w) false (World.doorLaid Tryd.prog 400 os) #[.agg #[.int .i64 0, .slice none 0 0], .int .i64 0, .int .u8 0] 8 rfl (World.shaped_of_RefB (by kernel_rfl) (by kernel_rfl)) (by kernel_rfl) (by kernel_rfl) (by kernel_rfl) (Crc.door_met os _)) ?_
  intro W base args ds gs before hval0 hW _ hwt hL _
  have hval : ∀ (j : Nat) t v, Tryd.f8.params[j]? = some t → args[j]? = some v → Value.okWide Tryd.prog W .any base t v := hval0
  have hW' := hW
  obtain ⟨p, q, hA0, hV, rfl, hfz, hnd⟩ := hW
  have hA : DataW.TrodAll enc Tryd.prog W 0 (fun _ => true) true Tryd.f8.params.toList args.toList ds p := hA0
  rw [Tryd.params8] at hA hval
  obtain ⟨v0, vs0, d0, ds0, p0, q0, hargs, rfl, rfl, h0, r0⟩ := trodAll_cons hA
  obtain ⟨v1, vs1, d1, ds1, p1, q1, rfl, rfl, rfl, h1, r1⟩ := trodAll_cons r0
  obtain ⟨v2, vs2, d2, ds2, p2, q2, rfl, rfl, rfl, h2, r2⟩ := trodAll_cons r1
  obtain ⟨rfl, rfl, rfl⟩ := trodAll_nil r2
  obtain rfl : args = #[v0, v1, v2] := by cases args; simp_all
  obtain ⟨rfl, rfl⟩ := trodVars_none hV
  have k0 := h0
  have lt0 : ∀ x ∈ p0, x.block < W.heap.size := by obtain ⟨m, hm⟩ := k0; exact DataW.trod_lt m _ _ _ hm
  obtain ⟨sb_0, A_0, n_0, c_0, l_0, rfl, hi_0, hc_0, hk_0, hR_0⟩ := Seg.open_seg (hval 0 24 v0 rfl rfl) h0 (Bat.weights_arg (j := 0) hwt (by kernel_rfl) rfl)
  have k1 := h1
  have lt1 : ∀ x ∈ p1, x.block < W.heap.size := by obtain ⟨m, hm⟩ := k1; exact DataW.trod_lt m _ _ _ hm
  obtain ⟨a1, rfl, hi1⟩ := Oct.open_i64 Tryd.underlying3 (hval 1 3 v1 rfl rfl) h1
  have k2 := h2
  have lt2 : ∀ x ∈ p2, x.block < W.heap.size := by obtain ⟨m, hm⟩ := k2; exact DataW.trod_lt m _ _ _ hm
  obtain ⟨a2, rfl⟩ := Oct.open_u8 Tryd.underlying5 (hval 2 5 v2 rfl rfl) h2
  clear hA0 hval0
  refine (Seg.segSpoilt_walk sb_0 A_0 n_0 c_0 l_0 a1 a2 W hi_0 hc_0 hk_0 hR_0 hi1 (Crc.tab_of_laid hL)).mono fun e W' ⟨he, bel⟩ => ?_
  subst he
  exact ⟨_, rfl, _, _, _, [], _, [], hW', trodAll_mk1 (shut_bool Tryd.underlying4 _), (trodAll_cons_mk (Below.trod laidOut (by kernel_rfl) (of_decide_eq_true (by kernel_rfl)) k0 bel lt0) (trodAll_cons_mk (Below.trod laidOut (by kernel_rfl) (of_decide_eq_true (by kernel_rfl)) k1 bel lt1) (trodAll_cons_mk (Below.trod laidOut (by kernel_rfl) (of_decide_eq_true (by kernel_rfl)) k2 bel lt2) trodAll_mk0))), rfl, bel.frame _, fun h => by cases h⟩

theorem over : Rows.segSpoiltRow.holds Tryd.pinned (OpenSpec.ofChange Rows.segSpoiltSpec) :=
  OpenClaim.holds_of_wide 8 Tryd.f8 rfl rfl rfl rfl rfl rfl rfl ⟨rfl, rfl, rfl, rfl, rfl⟩ rfl rfl rfl rfl rfl (by kernel_rfl) Tryd.func8 (by kernel_rfl)
    (of_decide_eq_true (by kernel_rfl)) (by unfold Func.isWrapper; first | (rw [if_pos (by decide +kernel)]; kernel_rfl) | (rw [if_neg (by decide +kernel)]; exact ⟨rfl, rfl⟩))
    (fun os started H enc _ => lifted os started H enc)

theorem proved : Rows.SegSpoiltCardSaid :=
  Claim7.holds_tied_plain_at .later [] [.data] true (true, "8756dca365c3738ae7f7dad078bfa0200519ee75ee06b885abe2d0f8db900c1d") false
    over (fun _ h => by cases h) (by kernel_rfl) (fun _ h => by cases h) segSpoilt_row_tie rfl ⟨rfl, rfl⟩ (by kernel_rfl) rfl
    (fun f fn hf hfn => by
      obtain rfl : f = 8 := Option.some.inj ((show Tryd.prog.funcNamed "watermeet/watermeetlaw07.SegSpoilt" = some 8 by kernel_rfl).symm.trans hf) |>.symm
      obtain rfl : fn = Tryd.f8 := (Option.some.inj (Tryd.func8.symm.trans hfn)).symm
      exact ⟨by kernel_rfl, fun j t ht => by
        rw [Tryd.params8] at ht
        have hm : t ∈ [24, 3, 5] := by simpa using Array.mem_of_getElem? ht
        have hall : ([24, 3, 5].all fun u => !Tryd.prog.wantsStandIn u) = true := by kernel_rfl
        exact (show Tryd.prog.wantsStandIn t = false by simpa using List.all_eq_true.1 hall t hm)⟩)
    (by kernel_rfl)
#print axioms proved
end Go.Proofs.YtgjbfhmfhmihhaaDoor.segSpoilt
