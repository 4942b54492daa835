/- However many entries an index has, the same is found; no condition.
-/
import Derived.Test.YtbnkfljkojhkoaaDoorIdxW
import Derived.Test.YtbnkfljkojhkoaaDoorIdxV
import Derived.Test.YtbnkfljkojhkoaaDoorJIdxM
import Derived.Test.YtbnkfljkojhkoaaDoorJSegW
import Derived.Test.YtbnkfljkojhkoaaDoorJBatK
import Derived.Test.YtbnkfljkojhkoaaDoorIdxC
import Derived.Test.YtbnkfljkojhkoaaDoorRowA
import Derived.Test.YtbnkfljkojhkoaaDoorRows
import Derived.WalkKit
import Derived.ProofKit
import Derived.OpenShut
import Derived.ChangeOld
import Derived.Below
import Derived.Carry
import Derived.Test.YtbnkfljkojhkoaaDoorJOct
import Derived.Test.YtbnkfljkojhkoaaDoorSegArg
import Derived.Test.YtbnkfljkojhkoaaDoorJCrc
import Derived.Test.YtbnkfljkojhkoaaDoorTie
import Derived.Test.YtbnkfljkojhkoaaDoorCards
import Derived.SevenTiedAt
/- The walk of IndexLeaves. -/
namespace Go.Proofs.YtbnkfljkojhkoaaDoor.Idx
open Go.RowKit Go.Proofs.YtbnkfljkojhkoaaDoor.Seg Go.Proofs.YtbnkfljkojhkoaaDoor.RowF Go.Proofs.YtbnkfljkojhkoaaDoor.Oct Go.Proofs.YtbnkfljkojhkoaaDoor.Rec Go.Proofs.YtbnkfljkojhkoaaDoor.Crc Go.Proofs.YtbnkfljkojhkoaaDoor.Bat Go.Proofs.YtbnkfljkojhkoaaDoor.Lay Go.Proofs.YtbnkfljkojhkoaaDoor.RowL

theorem rdiUp {w w1 : World} {A : Option Addr} {n : Nat} {l : List Int} (h : RdL w w.heap.size A n l) (hb : Below w.heap.size w w1) : RdL w1 w1.heap.size A n l := (h.below hb (Nat.le_refl _)).more hb.size
def goneS (lv : List Int) (j k : Nat) (vg : Value) : Prop := (vg = .bool true ∧ 0 < j ∧ (j : Int) ∈ lv.take k) ∨ (vg = .bool false ∧ (0 < j → (j : Int) ∉ lv.take k))
def lvIn (lv : List Int) (j n : Nat) (wa : World) (vg vk : Value) (wr : World) : Prop := ∃ k : Nat, vk = .int .i64 (k : Int) ∧ k ≤ n ∧ goneS lv j k vg ∧ wa = wr
def lvRel (lv : List Int) (all : List En) (n N : Nat) (w : World) (vl vi : Value) (wr : World) : Prop :=
  ∃ (j : Nat) (A8 : Option Addr) (n8 c8 : Nat), vl = .slice A8 n8 c8 ∧ vi = .int .i64 (j : Int) ∧ j ≤ n ∧ OwnE wr N (.slice A8 n8 c8) n8 (lft lv all j) ∧ Below N w wr
theorem gone_end {lv : List Int} {j n : Nat} {vg : Value} (h : goneS lv j n vg) (hn : lv.length = n) : vg = .bool (goneB lv j) := by
  rcases h with ⟨rfl, h1, h2⟩ | ⟨rfl, h1⟩
  · rw [List.take_of_length_le (by omega)] at h2
    rw [show goneB lv j = true from decide_eq_true ⟨h1, h2⟩]
  · rw [List.take_of_length_le (by omega)] at h1
    rw [show goneB lv j = false from decide_eq_false fun h => h1 h.1 h.2]
theorem mem_next {lv : List Int} {k : Nat} {x y : Int} (hx : lv[k]? = some x) : y ∈ lv.take (k + 1) ↔ y ∈ lv.take k ∨ y = x := by
  rw [List.take_add_one, hx, List.mem_append]
  simp
set_option maxRecDepth 100000 in
set_option maxHeartbeats 16000000 in
theorem indexLeaves_walk (sb : Int) (A : Option Addr) (n c : Nat) (l : List UInt8) (every : Int) (A1 : Option Addr) (n1 c1 : Nat) (lv : List Int) (off st : Int) (w : World) (hi : I64 sb) (hc : n ≤ c) (_hk : c ≤ reach) (hR : Rd w w.heap.size A n l) (_hi2 : I64 every) (hnc : n1 ≤ c1) (_hcap : c1 ≤ reach) (hRv : RdL w w.heap.size A1 n1 lv) (_hi3 : I64 off) (_hi4 : I64 st) (ht : Tab w) :
    Calls Tryd.prog 5 #[.agg #[.int .i64 sb, .slice A n c], .int .i64 every, .slice A1 n1 c1, .int .i64 off, .int .i64 st] w fun e w' => e = .returned (.bool true) ∧ Below w.heap.size w w' := by
  have HW_0 := Lib.hid (belA w (.cells #[.int .i64 sb, .slice A n c] 28))
  have HS_0 := Lib.hid (At0.new w [.int .i64 sb, .slice A n c] 28)
  have HR_0 := Lib.hid (rdUp hR HW_0.out)
  have HT_0 := Lib.hid (ht.bel HW_0.out)
  have HV_0 := Lib.hid (rdiUp hRv HW_0.out)
  by_cases hn : (n : Int) ≤ 3000
  case neg =>
    have HFEW := Lib.hid (show (decide ((n : Int) ≤ 3000) && decide (((0 : Nat) : Int) ≤ 200)) = false by simp [hn])
    clear ht hR hRv hn
    go_enter Tryd.func5, Tryd.ntmps5
    go_wp2_with (first
      | (go_at_call 9; (with_reducible refine (live8_any _ HT_0.out).mono ?_); rintro e w1 ⟨rfl, hb⟩; have HW_1 := Lib.hid (bel_trans HW_0.out hb); have HS_1 := Lib.hid (HS_0.out.below hb); have HR_1 := Lib.hid (rdUp HR_0.out hb); have HT_1 := Lib.hid (HT_0.out.bel hb); have HV_1 := Lib.hid (rdiUp HV_0.out hb); have hs1_0 : w1.cell? ⟨w.heap.size, 0, none⟩ = some (.int .i64 sb) := HS_1.out.cell 0; have hs1_1 : w1.cell? ⟨w.heap.size, 1, none⟩ = some (.slice A n c) := HS_1.out.cell 1; clear hb)
      | (go_at_call 14; (with_reducible refine (few_any sb A n c none 0 0 (z := false) HFEW.out _).mono ?_); rintro e w2 ⟨rfl, hb⟩; have HW_2 := Lib.hid (bel_trans HW_1.out hb); have HS_2 := Lib.hid (HS_1.out.below hb); have HR_2 := Lib.hid (rdUp HR_1.out hb); have HT_2 := Lib.hid (HT_1.out.bel hb); have HV_2 := Lib.hid (rdiUp HV_1.out hb); have hs2_0 : w2.cell? ⟨w.heap.size, 0, none⟩ = some (.int .i64 sb) := HS_2.out.cell 0; have hs2_1 : w2.cell? ⟨w.heap.size, 1, none⟩ = some (.slice A n c) := HS_2.out.cell 1; clear hb))
    go_ret
    exact ⟨rfl, HW_2.out⟩
  have HFEW := Lib.hid (show (decide ((n : Int) ≤ 3000) && decide (((0 : Nat) : Int) ≤ 200)) = true by simp [hn])
  by_cases hlv : (60 : Int) < (n1 : Int)
  · clear ht hR hRv
    go_enter Tryd.func5, Tryd.ntmps5
    go_wp2_with (first
      | (go_at_call 9; (with_reducible refine (live8_any _ HT_0.out).mono ?_); rintro e w1 ⟨rfl, hb⟩; have HW_1 := Lib.hid (bel_trans HW_0.out hb); have HS_1 := Lib.hid (HS_0.out.below hb); have HR_1 := Lib.hid (rdUp HR_0.out hb); have HT_1 := Lib.hid (HT_0.out.bel hb); have HV_1 := Lib.hid (rdiUp HV_0.out hb); have hs1_0 : w1.cell? ⟨w.heap.size, 0, none⟩ = some (.int .i64 sb) := HS_1.out.cell 0; have hs1_1 : w1.cell? ⟨w.heap.size, 1, none⟩ = some (.slice A n c) := HS_1.out.cell 1; clear hb)
      | (go_at_call 14; (with_reducible refine (few_any sb A n c none 0 0 (z := true) HFEW.out _).mono ?_); rintro e w2 ⟨rfl, hb⟩; have HW_2 := Lib.hid (bel_trans HW_1.out hb); have HS_2 := Lib.hid (HS_1.out.below hb); have HR_2 := Lib.hid (rdUp HR_1.out hb); have HT_2 := Lib.hid (HT_1.out.bel hb); have HV_2 := Lib.hid (rdiUp HV_1.out hb); have hs2_0 : w2.cell? ⟨w.heap.size, 0, none⟩ = some (.int .i64 sb) := HS_2.out.cell 0; have hs2_1 : w2.cell? ⟨w.heap.size, 1, none⟩ = some (.slice A n c) := HS_2.out.cell 1; clear hb))
    go_ret
    exact ⟨rfl, HW_2.out⟩
  rcases hma : makeX ⟨sb, l⟩ 1 with ⟨a, z1⟩
  rcases hmb : makeX ⟨sb, l⟩ every with ⟨m, z2⟩
  have HMA := Lib.hid hma
  have HMB := Lib.hid hmb
  by_cases hz1 : z1 = 0
  case neg =>
    have hz2 := make_both hma hmb (.inl hz1)
    have hzF : (z1 == 0) = false := beqF hz1
    subst hz2
    clear ht hR hRv hma hmb
    go_enter Tryd.func5, Tryd.ntmps5
    go_wp2_with (first
      | (go_at_call 9; (with_reducible refine (live8_any _ HT_0.out).mono ?_); rintro e w1 ⟨rfl, hb⟩; have HW_1 := Lib.hid (bel_trans HW_0.out hb); have HS_1 := Lib.hid (HS_0.out.below hb); have HR_1 := Lib.hid (rdUp HR_0.out hb); have HT_1 := Lib.hid (HT_0.out.bel hb); have HV_1 := Lib.hid (rdiUp HV_0.out hb); have hs1_0 : w1.cell? ⟨w.heap.size, 0, none⟩ = some (.int .i64 sb) := HS_1.out.cell 0; have hs1_1 : w1.cell? ⟨w.heap.size, 1, none⟩ = some (.slice A n c) := HS_1.out.cell 1; clear hb)
      | (go_at_call 14; (with_reducible refine (few_any sb A n c none 0 0 (z := true) HFEW.out _).mono ?_); rintro e w2 ⟨rfl, hb⟩; have HW_2 := Lib.hid (bel_trans HW_1.out hb); have HS_2 := Lib.hid (HS_1.out.below hb); have HR_2 := Lib.hid (rdUp HR_1.out hb); have HT_2 := Lib.hid (HT_1.out.bel hb); have HV_2 := Lib.hid (rdiUp HV_1.out hb); have hs2_0 : w2.cell? ⟨w.heap.size, 0, none⟩ = some (.int .i64 sb) := HS_2.out.cell 0; have hs2_1 : w2.cell? ⟨w.heap.size, 1, none⟩ = some (.slice A n c) := HS_2.out.cell 1; clear hb)
      | (go_at_call 15; (with_reducible refine (Make_is A n c sb l 1 HMA.out _ HR_2.out hc hi HT_2.out).mono ?_); rintro e w3 ⟨A3, n3, c3, rfl, ho, hb⟩; have HW_3 := Lib.hid (bel_trans HW_2.out hb); have HS_3 := Lib.hid (HS_2.out.below hb); have HR_3 := Lib.hid (rdUp HR_2.out hb); have HT_3 := Lib.hid (HT_2.out.bel hb); have HV_3 := Lib.hid (rdiUp HV_2.out hb); have HE_3 := Lib.hid (OwnF.rd enS ho); have hcap3 := ho.cap; have HL3 := Lib.hid (ho.len enS); have hs3_0 : w3.cell? ⟨w.heap.size, 0, none⟩ = some (.int .i64 sb) := HS_3.out.cell 0; have hs3_1 : w3.cell? ⟨w.heap.size, 1, none⟩ = some (.slice A n c) := HS_3.out.cell 1; clear hb ho)
      | (go_at_call 15; (with_reducible refine (Make_is A n c sb l every HMB.out _ HR_3.out hc hi HT_3.out).mono ?_); rintro e w4 ⟨A4, n4, c4, rfl, ho, hb⟩; have HW_4 := Lib.hid (bel_trans HW_3.out hb); have HS_4 := Lib.hid (HS_3.out.below hb); have HR_4 := Lib.hid (rdUp HR_3.out hb); have HT_4 := Lib.hid (HT_3.out.bel hb); have HV_4 := Lib.hid (rdiUp HV_3.out hb); have HE_4 := Lib.hid (rdeUp HE_3.out hb); have HF_4 := Lib.hid (OwnF.rd enS ho); have hcap4 := ho.cap; have HL4 := Lib.hid (ho.len enS); have hs4_0 : w4.cell? ⟨w.heap.size, 0, none⟩ = some (.int .i64 sb) := HS_4.out.cell 0; have hs4_1 : w4.cell? ⟨w.heap.size, 1, none⟩ = some (.slice A n c) := HS_4.out.cell 1; clear hb ho))
    go_ret
    exact ⟨rfl, HW_4.out⟩
  subst hz1
  by_cases hz2 : z2 = 0
  case neg =>
    have hz2' := make_both hma hmb (.inr hz2)
    subst hz2'
    clear ht hR hRv hma hmb hz2
    go_enter Tryd.func5, Tryd.ntmps5
    go_wp2_with (first
      | (go_at_call 9; (with_reducible refine (live8_any _ HT_0.out).mono ?_); rintro e w1 ⟨rfl, hb⟩; have HW_1 := Lib.hid (bel_trans HW_0.out hb); have HS_1 := Lib.hid (HS_0.out.below hb); have HR_1 := Lib.hid (rdUp HR_0.out hb); have HT_1 := Lib.hid (HT_0.out.bel hb); have HV_1 := Lib.hid (rdiUp HV_0.out hb); have hs1_0 : w1.cell? ⟨w.heap.size, 0, none⟩ = some (.int .i64 sb) := HS_1.out.cell 0; have hs1_1 : w1.cell? ⟨w.heap.size, 1, none⟩ = some (.slice A n c) := HS_1.out.cell 1; clear hb)
      | (go_at_call 14; (with_reducible refine (few_any sb A n c none 0 0 (z := true) HFEW.out _).mono ?_); rintro e w2 ⟨rfl, hb⟩; have HW_2 := Lib.hid (bel_trans HW_1.out hb); have HS_2 := Lib.hid (HS_1.out.below hb); have HR_2 := Lib.hid (rdUp HR_1.out hb); have HT_2 := Lib.hid (HT_1.out.bel hb); have HV_2 := Lib.hid (rdiUp HV_1.out hb); have hs2_0 : w2.cell? ⟨w.heap.size, 0, none⟩ = some (.int .i64 sb) := HS_2.out.cell 0; have hs2_1 : w2.cell? ⟨w.heap.size, 1, none⟩ = some (.slice A n c) := HS_2.out.cell 1; clear hb)
      | (go_at_call 15; (with_reducible refine (Make_is A n c sb l 1 HMA.out _ HR_2.out hc hi HT_2.out).mono ?_); rintro e w3 ⟨A3, n3, c3, rfl, ho, hb⟩; have HW_3 := Lib.hid (bel_trans HW_2.out hb); have HS_3 := Lib.hid (HS_2.out.below hb); have HR_3 := Lib.hid (rdUp HR_2.out hb); have HT_3 := Lib.hid (HT_2.out.bel hb); have HV_3 := Lib.hid (rdiUp HV_2.out hb); have HE_3 := Lib.hid (OwnF.rd enS ho); have hcap3 := ho.cap; have HL3 := Lib.hid (ho.len enS); have hs3_0 : w3.cell? ⟨w.heap.size, 0, none⟩ = some (.int .i64 sb) := HS_3.out.cell 0; have hs3_1 : w3.cell? ⟨w.heap.size, 1, none⟩ = some (.slice A n c) := HS_3.out.cell 1; clear hb ho)
      | (go_at_call 15; (with_reducible refine (Make_is A n c sb l every HMB.out _ HR_3.out hc hi HT_3.out).mono ?_); rintro e w4 ⟨A4, n4, c4, rfl, ho, hb⟩; have HW_4 := Lib.hid (bel_trans HW_3.out hb); have HS_4 := Lib.hid (HS_3.out.below hb); have HR_4 := Lib.hid (rdUp HR_3.out hb); have HT_4 := Lib.hid (HT_3.out.bel hb); have HV_4 := Lib.hid (rdiUp HV_3.out hb); have HE_4 := Lib.hid (rdeUp HE_3.out hb); have HF_4 := Lib.hid (OwnF.rd enS ho); have hcap4 := ho.cap; have HL4 := Lib.hid (ho.len enS); have hs4_0 : w4.cell? ⟨w.heap.size, 0, none⟩ = some (.int .i64 sb) := HS_4.out.cell 0; have hs4_1 : w4.cell? ⟨w.heap.size, 1, none⟩ = some (.slice A n c) := HS_4.out.cell 1; clear hb ho))
    go_ret
    exact ⟨rfl, HW_4.out⟩
  subst hz2
  have hmg := makeX_good hma
  have hmg2 := makeX_good hmb
  have hlen := (allE_right hmg.1).2.2
  have hbs := (allE_right hmg.1).2.1
  simp only at hlen hbs
  have hall : (allE ⟨sb, l⟩).length ≤ 4096 := by have h4 : (allE ⟨sb, l⟩).length = (batS ⟨sb, l⟩).length := ents_len _ _ _; have h5 := byR_ge (batS ⟨sb, l⟩); rw [← hbs] at h5; omega
  have hal : a.length ≤ 4096 := by rw [hmg.2.2]; have h3 := pick_len 1 (allE ⟨sb, l⟩); omega
  have hml : m.length ≤ 4096 := by rw [hmg2.2.2]; have h3 := pick_len every (allE ⟨sb, l⟩); omega
  have hca := ckX_make hma
  have hcm := ckX_make hmb
  have hcl := lft_ck (lv := lv) hma
  have HCM := Lib.hid hcm
  have HCL := Lib.hid hcl
  have s1 := find_same hca hcm off st
  have s2 := find_same hca hcl off st
  rcases hfa : findX ⟨sb, l⟩ a off with ⟨⟨ba, la, fr, ep, pi, ge, se, tx, ct, rs⟩, zf⟩
  rcases hsa : sinceX ⟨sb, l⟩ a st with ⟨zo, zs⟩
  rw [hfa, hsa] at s1 s2
  have HFA := Lib.hid hfa
  have HFM := Lib.hid s1.1.symm
  have HFL := Lib.hid s2.1.symm
  have HSA := Lib.hid hsa
  have HSM := Lib.hid s1.2.symm
  have HSL := Lib.hid s2.2.symm
  clear ht hR hRv hma hmb hmg hmg2 hlen hbs hall hca hcm hcl s1 s2 hfa hsa
  go_enter Tryd.func5, Tryd.ntmps5
  go_wp2_with (first
    | (go_at_call 9; (with_reducible refine (live8_any _ HT_0.out).mono ?_); rintro e w1 ⟨rfl, hb⟩; have HW_1 := Lib.hid (bel_trans HW_0.out hb); have HS_1 := Lib.hid (HS_0.out.below hb); have HR_1 := Lib.hid (rdUp HR_0.out hb); have HT_1 := Lib.hid (HT_0.out.bel hb); have HV_1 := Lib.hid (rdiUp HV_0.out hb); have hs1_0 : w1.cell? ⟨w.heap.size, 0, none⟩ = some (.int .i64 sb) := HS_1.out.cell 0; have hs1_1 : w1.cell? ⟨w.heap.size, 1, none⟩ = some (.slice A n c) := HS_1.out.cell 1; clear hb)
    | (go_at_call 14; (with_reducible refine (few_any sb A n c none 0 0 (z := true) HFEW.out _).mono ?_); rintro e w2 ⟨rfl, hb⟩; have HW_2 := Lib.hid (bel_trans HW_1.out hb); have HS_2 := Lib.hid (HS_1.out.below hb); have HR_2 := Lib.hid (rdUp HR_1.out hb); have HT_2 := Lib.hid (HT_1.out.bel hb); have HV_2 := Lib.hid (rdiUp HV_1.out hb); have hs2_0 : w2.cell? ⟨w.heap.size, 0, none⟩ = some (.int .i64 sb) := HS_2.out.cell 0; have hs2_1 : w2.cell? ⟨w.heap.size, 1, none⟩ = some (.slice A n c) := HS_2.out.cell 1; clear hb)
    | (go_at_call 15; (with_reducible refine (Make_is A n c sb l 1 HMA.out _ HR_2.out hc hi HT_2.out).mono ?_); rintro e w3 ⟨A3, n3, c3, rfl, ho, hb⟩; have HW_3 := Lib.hid (bel_trans HW_2.out hb); have HS_3 := Lib.hid (HS_2.out.below hb); have HR_3 := Lib.hid (rdUp HR_2.out hb); have HT_3 := Lib.hid (HT_2.out.bel hb); have HV_3 := Lib.hid (rdiUp HV_2.out hb); have HE_3 := Lib.hid (OwnF.rd enS ho); have hcap3 := ho.cap; have HL3 := Lib.hid (ho.len enS); have hs3_0 : w3.cell? ⟨w.heap.size, 0, none⟩ = some (.int .i64 sb) := HS_3.out.cell 0; have hs3_1 : w3.cell? ⟨w.heap.size, 1, none⟩ = some (.slice A n c) := HS_3.out.cell 1; have hna : n3 = a.length := ho.len enS |>.symm; have HNA := Lib.hid hna; have hn3 : n3 ≤ 4096 := (by omega); clear hb ho hna)
    | (go_at_call 15; (with_reducible refine (Make_is A n c sb l every HMB.out _ HR_3.out hc hi HT_3.out).mono ?_); rintro e w4 ⟨A4, n4, c4, rfl, ho, hb⟩; have HW_4 := Lib.hid (bel_trans HW_3.out hb); have HS_4 := Lib.hid (HS_3.out.below hb); have HR_4 := Lib.hid (rdUp HR_3.out hb); have HT_4 := Lib.hid (HT_3.out.bel hb); have HV_4 := Lib.hid (rdiUp HV_3.out hb); have HE_4 := Lib.hid (rdeUp HE_3.out hb); have HF_4 := Lib.hid (OwnF.rd enS ho); have hcap4 := ho.cap; have HL4 := Lib.hid (ho.len enS); have hs4_0 : w4.cell? ⟨w.heap.size, 0, none⟩ = some (.int .i64 sb) := HS_4.out.cell 0; have hs4_1 : w4.cell? ⟨w.heap.size, 1, none⟩ = some (.slice A n c) := HS_4.out.cell 1; have hn4 : n4 ≤ 4096 := (by have h := ho.len enS; omega); clear hb ho))
  have HLE := Lib.hid (HE_4.out)
  go_loopw [16, 17] (fun vl vi wr => lvRel lv a n3 w4.heap.size w4 vl vi wr) (fun _ vi _ => n3 - (intOf vi).toNat)
  case atStart => exact ⟨0, none, 0, 0, rfl, rfl, Nat.zero_le _, OwnF.nil, Below.refl _ _⟩
  case round =>
    obtain ⟨j, A8, n8, c8, rfl, rfl, hj, ho8, hb⟩ := hrel
    have hsz := hb.size
    have HO8 := Lib.hid ho8
    have HBR := Lib.hid hb
    have hn8 : n8 ≤ j := by have h1 := ho8.len enS; have h2 := lft_len lv a j; omega
    by_cases hlt : j < n3
    · obtain ⟨b, o, ⟨x0, x1, x2⟩, rfl, hbl, hx, k0, k1, k2⟩ := en_at (RdF.below HLE.out hb (Nat.le_refl _)) hlt
      simp only at k0 k1 k2
      have HX := Lib.hid hx
      have HRV := Lib.hid (RdL.below HV_4.out hb (Nat.le_refl _))
      have hblr : b < wr.heap.size := by omega
      clear hx ho8 hb
      go_wp2
      obtain ⟨wa, rfl⟩ : ∃ wa, wa = wr := ⟨_, rfl⟩
      go_loopw [18, 19] (fun vg vk wr => lvIn lv j n1 wa vg vk wr) (fun _ vk _ => n1 - (intOf vk).toNat)
      case atStart => exact ⟨0, rfl, Nat.zero_le _, .inr ⟨rfl, by simp⟩, rfl⟩
      case round =>
        obtain ⟨kq, rfl, hk, hg, rfl⟩ := hrel
        by_cases hk2 : kq < n1
        · obtain ⟨b2, o2, y, rfl, hbl2, hy, _, hcell⟩ := RdL.num HRV.out hk2
          have HM := Lib.hid (fun z => mem_next (y := z) hy)
          have hblr2 : b2 < wa.heap.size := by omega
          clear hy
          rcases hg with ⟨rfl, hg1, hg2⟩ | ⟨rfl, hg1⟩
          · have HG := Lib.hid (show goneS lv j (kq + 1) (.bool true) from .inl ⟨rfl, hg1, (HM.out _).2 (.inl hg2)⟩)
            clear hg1 hg2
            go_wp2
            go_roundw
            case rel => exact ⟨kq + 1, by go_num, by omega, HG.out, rfl⟩
            case measure => simp [intOf]; omega
          · by_cases hj0 : (0 : Int) < (j : Int)
            · by_cases hyj : y = (j : Int)
              · have HG := Lib.hid (show goneS lv j (kq + 1) (.bool true) from .inl ⟨rfl, by omega, (HM.out _).2 (.inr hyj.symm)⟩)
                have hbT : (y == (j : Int)) = true := by rw [hyj]; simp
                clear hg1 hyj
                go_wp2
                go_roundw
                case rel => exact ⟨kq + 1, by go_num, by omega, HG.out, rfl⟩
                case measure => simp [intOf]; omega
              · have HG := Lib.hid (show goneS lv j (kq + 1) (.bool false) from .inr ⟨rfl, fun h9 h8 => by rcases (HM.out _).1 h8 with h7 | h7; exact hg1 h9 h7; exact hyj h7.symm⟩)
                have hbF : (y == (j : Int)) = false := beqF hyj
                clear hg1 hyj
                go_wp2
                go_roundw
                case rel => exact ⟨kq + 1, by go_num, by omega, HG.out, rfl⟩
                case measure => simp [intOf]; omega
            · have HG := Lib.hid (show goneS lv j (kq + 1) (.bool false) from .inr ⟨rfl, fun h9 => by omega⟩)
              clear hg1
              go_wp2
              go_roundw
              case rel => exact ⟨kq + 1, by go_num, by omega, HG.out, rfl⟩
              case measure => simp [intOf]; omega
        · obtain rfl : kq = n1 := by omega
          have hge := gone_end hg HRV.out.len
          subst hge
          clear hg
          rcases hgo : goneB lv j with _ | _
          · have HN := Lib.hid (lft_no hgo HX.out)
            obtain ⟨A7, c7, w7, hrun, ho7, hg7, hbel7⟩ := run_appE w4.heap.size HO8.out ⟨x0, x1, x2⟩ (by omega) (by omega)
            dsimp only [enC] at hrun hg7
            have HO7 := Lib.hid ho7
            have HB7 := Lib.hid (HBR.out.trans hbel7)
            clear ho7 hg7 hbel7 hgo
            go_wp2_with (at_builtin; refine wpList_app_run rfl _ _ 22 rfl rfl rfl hrun ?_)
            go_roundw
            case rel => exact ⟨j + 1, A7, n8 + 1, c7, rfl, by go_num, by omega, by rw [HN.out]; exact HO7.out, HB7.out⟩
            case measure => simp [intOf]; omega
          · have HN := Lib.hid (lft_yes (all := a) hgo)
            clear hgo
            go_wp2
            go_roundw
            case rel => exact ⟨j + 1, A8, n8, c8, rfl, by go_num, by omega, by rw [HN.out]; exact HO8.out, HBR.out⟩
            case measure => simp [intOf]; omega
    · obtain rfl : j = n3 := by omega
      have hcl8 := ho8.cap
      have HW_r := Lib.hid (bel_trans HW_4.out hb)
      have HS_r := Lib.hid (HS_4.out.below hb)
      have HR_r := Lib.hid (rdUp HR_4.out hb)
      have HT_r := Lib.hid (HT_4.out.bel hb)
      have HV_r := Lib.hid (rdiUp HV_4.out hb)
      have HE_r := Lib.hid (rdeUp HE_4.out hb)
      have HF_r := Lib.hid (rdeUp HF_4.out hb)
      have HG_r := Lib.hid ((HNA.out ▸ OwnF.rd enS ho8 : RdE wr wr.heap.size A8 n8 (lft lv a a.length)))
      have hsr_0 : wr.cell? ⟨w.heap.size, 0, none⟩ = some (.int .i64 sb) := HS_r.out.cell 0
      have hsr_1 : wr.cell? ⟨w.heap.size, 1, none⟩ = some (.slice A n c) := HS_r.out.cell 1
      clear ho8 hb
      go_wp2_with (first
        | (go_at_call 18; (with_reducible refine (Find_is A n c sb l A3 _ c3 a off HFA.out _ HR_r.out hc HE_r.out hcap3 (by omega) hi HT_r.out).mono ?_); rintro e w10 ⟨A10, n10, c10, rfl, hcp10, hn10, hr10, hb⟩; have HW_10 := Lib.hid (bel_trans HW_r.out hb); have HS_10 := Lib.hid (HS_r.out.below hb); have HR_10 := Lib.hid (rdUp HR_r.out hb); have HT_10 := Lib.hid (HT_r.out.bel hb); have HV_10 := Lib.hid (rdiUp HV_r.out hb); have HE_10 := Lib.hid (rdeUp HE_r.out hb); have HF_10 := Lib.hid (rdeUp HF_r.out hb); have HG_10 := Lib.hid (rdeUp HG_r.out hb); have hba := belA w10 (.cells #[.int .i64 ba, .int .i64 la, .int .i64 fr, .int .i64 ep, .int .i64 pi, .int .i64 ge, .int .i64 se, .bool tx, .int .i64 ct, .slice A10 n10 c10] 38); have HW_10a := Lib.hid (bel_trans HW_10.out hba); have HS_10a := Lib.hid (HS_10.out.below hba); have HR_10a := Lib.hid (rdUp HR_10.out hba); have HT_10a := Lib.hid (HT_10.out.bel hba); have HV_10a := Lib.hid (rdiUp HV_10.out hba); have HE_10a := Lib.hid (rdeUp HE_10.out hba); have HF_10a := Lib.hid (rdeUp HF_10.out hba); have HG_10a := Lib.hid (rdeUp HG_10.out hba); have HX_10a := Lib.hid (At0.new w10 [.int .i64 ba, .int .i64 la, .int .i64 fr, .int .i64 ep, .int .i64 pi, .int .i64 ge, .int .i64 se, .bool tx, .int .i64 ct, .slice A10 n10 c10] 38); have HXR_10a := Lib.hid (rdrUp hr10 hba); have hs10a_0 : (w10.alloc (.cells #[.int .i64 ba, .int .i64 la, .int .i64 fr, .int .i64 ep, .int .i64 pi, .int .i64 ge, .int .i64 se, .bool tx, .int .i64 ct, .slice A10 n10 c10] 38)).cell? ⟨w.heap.size, 0, none⟩ = some (.int .i64 sb) := HS_10a.out.cell 0; have hs10a_1 : (w10.alloc (.cells #[.int .i64 ba, .int .i64 la, .int .i64 fr, .int .i64 ep, .int .i64 pi, .int .i64 ge, .int .i64 se, .bool tx, .int .i64 ct, .slice A10 n10 c10] 38)).cell? ⟨w.heap.size, 1, none⟩ = some (.slice A n c) := HS_10a.out.cell 1; clear hb hba hr10)
        | (go_at_call 18; (with_reducible refine (Find_is A n c sb l A4 n4 c4 m off HFM.out _ HR_10a.out hc HF_10a.out hcap4 (by omega) hi HT_10a.out).mono ?_); rintro e w11 ⟨A11, n11, c11, rfl, hcp11, hn11, hr11, hb⟩; have HW_11 := Lib.hid (bel_trans HW_10a.out hb); have HS_11 := Lib.hid (HS_10a.out.below hb); have HR_11 := Lib.hid (rdUp HR_10a.out hb); have HT_11 := Lib.hid (HT_10a.out.bel hb); have HV_11 := Lib.hid (rdiUp HV_10a.out hb); have HE_11 := Lib.hid (rdeUp HE_10a.out hb); have HF_11 := Lib.hid (rdeUp HF_10a.out hb); have HG_11 := Lib.hid (rdeUp HG_10a.out hb); have HX_11 := Lib.hid (HX_10a.out.below hb); have HXR_11 := Lib.hid (rdrUp HXR_10a.out hb); have hba := belA w11 (.cells #[.int .i64 ba, .int .i64 la, .int .i64 fr, .int .i64 ep, .int .i64 pi, .int .i64 ge, .int .i64 se, .bool tx, .int .i64 ct, .slice A11 n11 c11] 38); have HW_11a := Lib.hid (bel_trans HW_11.out hba); have HS_11a := Lib.hid (HS_11.out.below hba); have HR_11a := Lib.hid (rdUp HR_11.out hba); have HT_11a := Lib.hid (HT_11.out.bel hba); have HV_11a := Lib.hid (rdiUp HV_11.out hba); have HE_11a := Lib.hid (rdeUp HE_11.out hba); have HF_11a := Lib.hid (rdeUp HF_11.out hba); have HG_11a := Lib.hid (rdeUp HG_11.out hba); have HX_11a := Lib.hid (HX_11.out.below hba); have HXR_11a := Lib.hid (rdrUp HXR_11.out hba); have HY_11a := Lib.hid (At0.new w11 [.int .i64 ba, .int .i64 la, .int .i64 fr, .int .i64 ep, .int .i64 pi, .int .i64 ge, .int .i64 se, .bool tx, .int .i64 ct, .slice A11 n11 c11] 38); have HYR_11a := Lib.hid (rdrUp hr11 hba); have hs11a_0 : (w11.alloc (.cells #[.int .i64 ba, .int .i64 la, .int .i64 fr, .int .i64 ep, .int .i64 pi, .int .i64 ge, .int .i64 se, .bool tx, .int .i64 ct, .slice A11 n11 c11] 38)).cell? ⟨w.heap.size, 0, none⟩ = some (.int .i64 sb) := HS_11a.out.cell 0; have hs11a_1 : (w11.alloc (.cells #[.int .i64 ba, .int .i64 la, .int .i64 fr, .int .i64 ep, .int .i64 pi, .int .i64 ge, .int .i64 se, .bool tx, .int .i64 ct, .slice A11 n11 c11] 38)).cell? ⟨w.heap.size, 1, none⟩ = some (.slice A n c) := HS_11a.out.cell 1; clear hb hba hr11)
        | (go_at_call 18; (with_reducible refine (Find_is A n c sb l A8 n8 c8 (lft lv a a.length) off HFL.out _ HR_11a.out hc HG_11a.out hcl8 (by omega) hi HT_11a.out).mono ?_); rintro e w12 ⟨A12, n12, c12, rfl, hcp12, hn12, hr12, hb⟩; have HW_12 := Lib.hid (bel_trans HW_11a.out hb); have HS_12 := Lib.hid (HS_11a.out.below hb); have HR_12 := Lib.hid (rdUp HR_11a.out hb); have HT_12 := Lib.hid (HT_11a.out.bel hb); have HV_12 := Lib.hid (rdiUp HV_11a.out hb); have HE_12 := Lib.hid (rdeUp HE_11a.out hb); have HF_12 := Lib.hid (rdeUp HF_11a.out hb); have HG_12 := Lib.hid (rdeUp HG_11a.out hb); have HX_12 := Lib.hid (HX_11a.out.below hb); have HXR_12 := Lib.hid (rdrUp HXR_11a.out hb); have HY_12 := Lib.hid (HY_11a.out.below hb); have HYR_12 := Lib.hid (rdrUp HYR_11a.out hb); have hba := belA w12 (.cells #[.int .i64 ba, .int .i64 la, .int .i64 fr, .int .i64 ep, .int .i64 pi, .int .i64 ge, .int .i64 se, .bool tx, .int .i64 ct, .slice A12 n12 c12] 38); have HW_12a := Lib.hid (bel_trans HW_12.out hba); have HS_12a := Lib.hid (HS_12.out.below hba); have HR_12a := Lib.hid (rdUp HR_12.out hba); have HT_12a := Lib.hid (HT_12.out.bel hba); have HV_12a := Lib.hid (rdiUp HV_12.out hba); have HE_12a := Lib.hid (rdeUp HE_12.out hba); have HF_12a := Lib.hid (rdeUp HF_12.out hba); have HG_12a := Lib.hid (rdeUp HG_12.out hba); have HX_12a := Lib.hid (HX_12.out.below hba); have HXR_12a := Lib.hid (rdrUp HXR_12.out hba); have HY_12a := Lib.hid (HY_12.out.below hba); have HYR_12a := Lib.hid (rdrUp HYR_12.out hba); have HZ_12a := Lib.hid (At0.new w12 [.int .i64 ba, .int .i64 la, .int .i64 fr, .int .i64 ep, .int .i64 pi, .int .i64 ge, .int .i64 se, .bool tx, .int .i64 ct, .slice A12 n12 c12] 38); have HZR_12a := Lib.hid (rdrUp hr12 hba); have hs12a_0 : (w12.alloc (.cells #[.int .i64 ba, .int .i64 la, .int .i64 fr, .int .i64 ep, .int .i64 pi, .int .i64 ge, .int .i64 se, .bool tx, .int .i64 ct, .slice A12 n12 c12] 38)).cell? ⟨w.heap.size, 0, none⟩ = some (.int .i64 sb) := HS_12a.out.cell 0; have hs12a_1 : (w12.alloc (.cells #[.int .i64 ba, .int .i64 la, .int .i64 fr, .int .i64 ep, .int .i64 pi, .int .i64 ge, .int .i64 se, .bool tx, .int .i64 ct, .slice A12 n12 c12] 38)).cell? ⟨w.heap.size, 1, none⟩ = some (.slice A n c) := HS_12a.out.cell 1; clear hb hba hr12)
        | (go_at_call 19; (with_reducible refine (Since_is A n c sb l A3 _ c3 a st HSA.out _ HR_12a.out hc HE_12a.out hcap3 (by omega) hi HT_12a.out).mono ?_); rintro e w13 ⟨rfl, hb⟩; have HW_13 := Lib.hid (bel_trans HW_12a.out hb); have HS_13 := Lib.hid (HS_12a.out.below hb); have HR_13 := Lib.hid (rdUp HR_12a.out hb); have HT_13 := Lib.hid (HT_12a.out.bel hb); have HV_13 := Lib.hid (rdiUp HV_12a.out hb); have HE_13 := Lib.hid (rdeUp HE_12a.out hb); have HF_13 := Lib.hid (rdeUp HF_12a.out hb); have HG_13 := Lib.hid (rdeUp HG_12a.out hb); have HX_13 := Lib.hid (HX_12a.out.below hb); have HXR_13 := Lib.hid (rdrUp HXR_12a.out hb); have HY_13 := Lib.hid (HY_12a.out.below hb); have HYR_13 := Lib.hid (rdrUp HYR_12a.out hb); have HZ_13 := Lib.hid (HZ_12a.out.below hb); have HZR_13 := Lib.hid (rdrUp HZR_12a.out hb); have hs13_0 : w13.cell? ⟨w.heap.size, 0, none⟩ = some (.int .i64 sb) := HS_13.out.cell 0; have hs13_1 : w13.cell? ⟨w.heap.size, 1, none⟩ = some (.slice A n c) := HS_13.out.cell 1; clear hb)
        | (go_at_call 19; (with_reducible refine (Since_is A n c sb l A4 n4 c4 m st HSM.out _ HR_13.out hc HF_13.out hcap4 (by omega) hi HT_13.out).mono ?_); rintro e w14 ⟨rfl, hb⟩; have HW_14 := Lib.hid (bel_trans HW_13.out hb); have HS_14 := Lib.hid (HS_13.out.below hb); have HR_14 := Lib.hid (rdUp HR_13.out hb); have HT_14 := Lib.hid (HT_13.out.bel hb); have HV_14 := Lib.hid (rdiUp HV_13.out hb); have HE_14 := Lib.hid (rdeUp HE_13.out hb); have HF_14 := Lib.hid (rdeUp HF_13.out hb); have HG_14 := Lib.hid (rdeUp HG_13.out hb); have HX_14 := Lib.hid (HX_13.out.below hb); have HXR_14 := Lib.hid (rdrUp HXR_13.out hb); have HY_14 := Lib.hid (HY_13.out.below hb); have HYR_14 := Lib.hid (rdrUp HYR_13.out hb); have HZ_14 := Lib.hid (HZ_13.out.below hb); have HZR_14 := Lib.hid (rdrUp HZR_13.out hb); have hs14_0 : w14.cell? ⟨w.heap.size, 0, none⟩ = some (.int .i64 sb) := HS_14.out.cell 0; have hs14_1 : w14.cell? ⟨w.heap.size, 1, none⟩ = some (.slice A n c) := HS_14.out.cell 1; clear hb)
        | (go_at_call 19; (with_reducible refine (Since_is A n c sb l A8 n8 c8 (lft lv a a.length) st HSL.out _ HR_14.out hc HG_14.out hcl8 (by omega) hi HT_14.out).mono ?_); rintro e w15 ⟨rfl, hb⟩; have HW_15 := Lib.hid (bel_trans HW_14.out hb); have HS_15 := Lib.hid (HS_14.out.below hb); have HR_15 := Lib.hid (rdUp HR_14.out hb); have HT_15 := Lib.hid (HT_14.out.bel hb); have HV_15 := Lib.hid (rdiUp HV_14.out hb); have HE_15 := Lib.hid (rdeUp HE_14.out hb); have HF_15 := Lib.hid (rdeUp HF_14.out hb); have HG_15 := Lib.hid (rdeUp HG_14.out hb); have HX_15 := Lib.hid (HX_14.out.below hb); have HXR_15 := Lib.hid (rdrUp HXR_14.out hb); have HY_15 := Lib.hid (HY_14.out.below hb); have HYR_15 := Lib.hid (rdrUp HYR_14.out hb); have HZ_15 := Lib.hid (HZ_14.out.below hb); have HZR_15 := Lib.hid (rdrUp HZR_14.out hb); have hs15_0 : w15.cell? ⟨w.heap.size, 0, none⟩ = some (.int .i64 sb) := HS_15.out.cell 0; have hs15_1 : w15.cell? ⟨w.heap.size, 1, none⟩ = some (.slice A n c) := HS_15.out.cell 1; have hx15_0 : w15.cell? ⟨w10.heap.size, 0, none⟩ = some (.int .i64 ba) := HX_15.out.cell 0; have hx15_1 : w15.cell? ⟨w10.heap.size, 1, none⟩ = some (.int .i64 la) := HX_15.out.cell 1; have hx15_2 : w15.cell? ⟨w10.heap.size, 2, none⟩ = some (.int .i64 fr) := HX_15.out.cell 2; have hx15_3 : w15.cell? ⟨w10.heap.size, 3, none⟩ = some (.int .i64 ep) := HX_15.out.cell 3; have hx15_4 : w15.cell? ⟨w10.heap.size, 4, none⟩ = some (.int .i64 pi) := HX_15.out.cell 4; have hx15_5 : w15.cell? ⟨w10.heap.size, 5, none⟩ = some (.int .i64 ge) := HX_15.out.cell 5; have hx15_6 : w15.cell? ⟨w10.heap.size, 6, none⟩ = some (.int .i64 se) := HX_15.out.cell 6; have hx15_7 : w15.cell? ⟨w10.heap.size, 7, none⟩ = some (.bool tx) := HX_15.out.cell 7; have hx15_8 : w15.cell? ⟨w10.heap.size, 8, none⟩ = some (.int .i64 ct) := HX_15.out.cell 8; have hx15_9 : w15.cell? ⟨w10.heap.size, 9, none⟩ = some (.slice A10 n10 c10) := HX_15.out.cell 9; have hy15_0 : w15.cell? ⟨w11.heap.size, 0, none⟩ = some (.int .i64 ba) := HY_15.out.cell 0; have hy15_1 : w15.cell? ⟨w11.heap.size, 1, none⟩ = some (.int .i64 la) := HY_15.out.cell 1; have hy15_2 : w15.cell? ⟨w11.heap.size, 2, none⟩ = some (.int .i64 fr) := HY_15.out.cell 2; have hy15_3 : w15.cell? ⟨w11.heap.size, 3, none⟩ = some (.int .i64 ep) := HY_15.out.cell 3; have hy15_4 : w15.cell? ⟨w11.heap.size, 4, none⟩ = some (.int .i64 pi) := HY_15.out.cell 4; have hy15_5 : w15.cell? ⟨w11.heap.size, 5, none⟩ = some (.int .i64 ge) := HY_15.out.cell 5; have hy15_6 : w15.cell? ⟨w11.heap.size, 6, none⟩ = some (.int .i64 se) := HY_15.out.cell 6; have hy15_7 : w15.cell? ⟨w11.heap.size, 7, none⟩ = some (.bool tx) := HY_15.out.cell 7; have hy15_8 : w15.cell? ⟨w11.heap.size, 8, none⟩ = some (.int .i64 ct) := HY_15.out.cell 8; have hy15_9 : w15.cell? ⟨w11.heap.size, 9, none⟩ = some (.slice A11 n11 c11) := HY_15.out.cell 9; clear hb)
        | (go_at_call 20; (with_reducible refine (BSame_is ba la fr ep pi ge se tx ct rs A10 n10 c10 ba la fr ep pi ge se tx ct rs A11 n11 c11 _ HXR_15.out HYR_15.out hn10 hn11 (eqB_self _)).mono ?_); rintro e w16 ⟨rfl, hb⟩; have HW_16 := Lib.hid (bel_trans HW_15.out hb); have HS_16 := Lib.hid (HS_15.out.below hb); have HR_16 := Lib.hid (rdUp HR_15.out hb); have HT_16 := Lib.hid (HT_15.out.bel hb); have HV_16 := Lib.hid (rdiUp HV_15.out hb); have HE_16 := Lib.hid (rdeUp HE_15.out hb); have HF_16 := Lib.hid (rdeUp HF_15.out hb); have HG_16 := Lib.hid (rdeUp HG_15.out hb); have HX_16 := Lib.hid (HX_15.out.below hb); have HXR_16 := Lib.hid (rdrUp HXR_15.out hb); have HY_16 := Lib.hid (HY_15.out.below hb); have HYR_16 := Lib.hid (rdrUp HYR_15.out hb); have HZ_16 := Lib.hid (HZ_15.out.below hb); have HZR_16 := Lib.hid (rdrUp HZR_15.out hb); have hx16_0 : w16.cell? ⟨w10.heap.size, 0, none⟩ = some (.int .i64 ba) := HX_16.out.cell 0; have hx16_1 : w16.cell? ⟨w10.heap.size, 1, none⟩ = some (.int .i64 la) := HX_16.out.cell 1; have hx16_2 : w16.cell? ⟨w10.heap.size, 2, none⟩ = some (.int .i64 fr) := HX_16.out.cell 2; have hx16_3 : w16.cell? ⟨w10.heap.size, 3, none⟩ = some (.int .i64 ep) := HX_16.out.cell 3; have hx16_4 : w16.cell? ⟨w10.heap.size, 4, none⟩ = some (.int .i64 pi) := HX_16.out.cell 4; have hx16_5 : w16.cell? ⟨w10.heap.size, 5, none⟩ = some (.int .i64 ge) := HX_16.out.cell 5; have hx16_6 : w16.cell? ⟨w10.heap.size, 6, none⟩ = some (.int .i64 se) := HX_16.out.cell 6; have hx16_7 : w16.cell? ⟨w10.heap.size, 7, none⟩ = some (.bool tx) := HX_16.out.cell 7; have hx16_8 : w16.cell? ⟨w10.heap.size, 8, none⟩ = some (.int .i64 ct) := HX_16.out.cell 8; have hx16_9 : w16.cell? ⟨w10.heap.size, 9, none⟩ = some (.slice A10 n10 c10) := HX_16.out.cell 9; have hz16_0 : w16.cell? ⟨w12.heap.size, 0, none⟩ = some (.int .i64 ba) := HZ_16.out.cell 0; have hz16_1 : w16.cell? ⟨w12.heap.size, 1, none⟩ = some (.int .i64 la) := HZ_16.out.cell 1; have hz16_2 : w16.cell? ⟨w12.heap.size, 2, none⟩ = some (.int .i64 fr) := HZ_16.out.cell 2; have hz16_3 : w16.cell? ⟨w12.heap.size, 3, none⟩ = some (.int .i64 ep) := HZ_16.out.cell 3; have hz16_4 : w16.cell? ⟨w12.heap.size, 4, none⟩ = some (.int .i64 pi) := HZ_16.out.cell 4; have hz16_5 : w16.cell? ⟨w12.heap.size, 5, none⟩ = some (.int .i64 ge) := HZ_16.out.cell 5; have hz16_6 : w16.cell? ⟨w12.heap.size, 6, none⟩ = some (.int .i64 se) := HZ_16.out.cell 6; have hz16_7 : w16.cell? ⟨w12.heap.size, 7, none⟩ = some (.bool tx) := HZ_16.out.cell 7; have hz16_8 : w16.cell? ⟨w12.heap.size, 8, none⟩ = some (.int .i64 ct) := HZ_16.out.cell 8; have hz16_9 : w16.cell? ⟨w12.heap.size, 9, none⟩ = some (.slice A12 n12 c12) := HZ_16.out.cell 9; clear hb)
        | (go_at_call 20; (with_reducible refine (BSame_is ba la fr ep pi ge se tx ct rs A10 n10 c10 ba la fr ep pi ge se tx ct rs A12 n12 c12 _ HXR_16.out HZR_16.out hn10 hn12 (eqB_self _)).mono ?_); rintro e w17 ⟨rfl, hb⟩; have HW_17 := Lib.hid (bel_trans HW_16.out hb); have HS_17 := Lib.hid (HS_16.out.below hb); have HR_17 := Lib.hid (rdUp HR_16.out hb); have HT_17 := Lib.hid (HT_16.out.bel hb); have HV_17 := Lib.hid (rdiUp HV_16.out hb); have HE_17 := Lib.hid (rdeUp HE_16.out hb); have HF_17 := Lib.hid (rdeUp HF_16.out hb); have HG_17 := Lib.hid (rdeUp HG_16.out hb); have HX_17 := Lib.hid (HX_16.out.below hb); have HXR_17 := Lib.hid (rdrUp HXR_16.out hb); have HY_17 := Lib.hid (HY_16.out.below hb); have HYR_17 := Lib.hid (rdrUp HYR_16.out hb); have HZ_17 := Lib.hid (HZ_16.out.below hb); have HZR_17 := Lib.hid (rdrUp HZR_16.out hb); have hs17_0 : w17.cell? ⟨w.heap.size, 0, none⟩ = some (.int .i64 sb) := HS_17.out.cell 0; have hs17_1 : w17.cell? ⟨w.heap.size, 1, none⟩ = some (.slice A n c) := HS_17.out.cell 1; clear hb)
        | (go_at_call 21; (with_reducible refine (Check_is A n c sb l A8 n8 c8 (lft lv a a.length) HCL.out _ HR_17.out hc HG_17.out (by omega) hi HT_17.out).mono ?_); rintro e w18 ⟨rfl, hb⟩; have HW_18 := Lib.hid (bel_trans HW_17.out hb); have HS_18 := Lib.hid (HS_17.out.below hb); have HR_18 := Lib.hid (rdUp HR_17.out hb); have HT_18 := Lib.hid (HT_17.out.bel hb); have HV_18 := Lib.hid (rdiUp HV_17.out hb); have HE_18 := Lib.hid (rdeUp HE_17.out hb); have HF_18 := Lib.hid (rdeUp HF_17.out hb); have HG_18 := Lib.hid (rdeUp HG_17.out hb); have HX_18 := Lib.hid (HX_17.out.below hb); have HXR_18 := Lib.hid (rdrUp HXR_17.out hb); have HY_18 := Lib.hid (HY_17.out.below hb); have HYR_18 := Lib.hid (rdrUp HYR_17.out hb); have HZ_18 := Lib.hid (HZ_17.out.below hb); have HZR_18 := Lib.hid (rdrUp HZR_17.out hb); have hs18_0 : w18.cell? ⟨w.heap.size, 0, none⟩ = some (.int .i64 sb) := HS_18.out.cell 0; have hs18_1 : w18.cell? ⟨w.heap.size, 1, none⟩ = some (.slice A n c) := HS_18.out.cell 1; clear hb)
        | (go_at_call 21; (with_reducible refine (Check_is A n c sb l A4 n4 c4 m HCM.out _ HR_18.out hc HF_18.out (by omega) hi HT_18.out).mono ?_); rintro e w19 ⟨rfl, hb⟩; have HW_19 := Lib.hid (bel_trans HW_18.out hb); have HS_19 := Lib.hid (HS_18.out.below hb); have HR_19 := Lib.hid (rdUp HR_18.out hb); have HT_19 := Lib.hid (HT_18.out.bel hb); have HV_19 := Lib.hid (rdiUp HV_18.out hb); have HE_19 := Lib.hid (rdeUp HE_18.out hb); have HF_19 := Lib.hid (rdeUp HF_18.out hb); have HG_19 := Lib.hid (rdeUp HG_18.out hb); have HX_19 := Lib.hid (HX_18.out.below hb); have HXR_19 := Lib.hid (rdrUp HXR_18.out hb); have HY_19 := Lib.hid (HY_18.out.below hb); have HYR_19 := Lib.hid (rdrUp HYR_18.out hb); have HZ_19 := Lib.hid (HZ_18.out.below hb); have HZR_19 := Lib.hid (rdrUp HZR_18.out hb); clear hb))
      go_ret
      exact ⟨rfl, HW_19.out⟩
end Go.Proofs.YtbnkfljkojhkoaaDoor.Idx

namespace Go.Proofs.YtbnkfljkojhkoaaDoor.indexLeaves
open Go.ChangeShapes Go.WideShapes Go.ChangeAt Go.RowKit

theorem own : ownKnob Tryd.prog.godebug = none := by kernel_rfl
theorem laidOut : laidOutB Tryd.prog = true := by kernel_rfl

set_option maxRecDepth 100000 in
theorem lifted (os : Os) (started : os.Started) (H : Type) (enc : TypeId × Value → H) :
    ReturnsInHanded {} Tryd.checked os 5 .any (fun w args => (Rows.indexLeavesSpec.pre enc Tryd.prog Tryd.f5 [] false w args ∧ laidMetH Tryd.prog Crc.listed w) ∧ sizedMet enc Tryd.prog Tryd.f5 (OpenSpec.ofChange Rows.indexLeavesSpec) false w args)
      (Rows.indexLeavesSpec.post enc Tryd.prog Tryd.f5 false true false false) := by
  refine returnsInHanded_of_change_and (C := Tryd.checked) (X := fun w _ => laidMetH Tryd.prog Crc.listed w) (fun _ _ _ hh h => h.of_heap hh) own started (by kernel_rfl) Tryd.func5
    (ChangeSpec.witness_shaped (enc := enc) (C := Tryd.checked) (os := os) (X := fun w _ => laidMetH Tryd.prog Crc.listed w) false (World.doorLaid Tryd.prog 400 os) #[.agg #[.int .i64 0, .slice none 0 0], .int .i64 0, .slice none 0 0, .int .i64 0, .int .i64 0] 8 rfl (World.shaped_of_RefB (by kernel_rfl) (by kernel_rfl)) (by kernel_rfl) (by kernel_rfl) (by kernel_rfl) (Crc.door_met os _)) ?_
  intro W base args ds gs before hval0 hW _ hwt hL _
  have hval : ∀ (j : Nat) t v, Tryd.f5.params[j]? = some t → args[j]? = some v → Value.okWide Tryd.prog W .any base t v := hval0
  have hW' := hW
  obtain ⟨p, q, hA0, hV, rfl, hfz, hnd⟩ := hW
  have hA : DataW.TrodAll enc Tryd.prog W 0 (fun _ => true) true Tryd.f5.params.toList args.toList ds p := hA0
  rw [Tryd.params5] at hA hval
  obtain ⟨v0, vs0, d0, ds0, p0, q0, hargs, rfl, rfl, h0, r0⟩ := trodAll_cons hA
  obtain ⟨v1, vs1, d1, ds1, p1, q1, rfl, rfl, rfl, h1, r1⟩ := trodAll_cons r0
  obtain ⟨v2, vs2, d2, ds2, p2, q2, rfl, rfl, rfl, h2, r2⟩ := trodAll_cons r1
  obtain ⟨v3, vs3, d3, ds3, p3, q3, rfl, rfl, rfl, h3, r3⟩ := trodAll_cons r2
  obtain ⟨v4, vs4, d4, ds4, p4, q4, rfl, rfl, rfl, h4, r4⟩ := trodAll_cons r3
  obtain ⟨rfl, rfl, rfl⟩ := trodAll_nil r4
  obtain rfl : args = #[v0, v1, v2, v3, v4] := by cases args; simp_all
  obtain ⟨rfl, rfl⟩ := trodVars_none hV
  have k0 := h0
  have lt0 : ∀ x ∈ p0, x.block < W.heap.size := by obtain ⟨m, hm⟩ := k0; exact DataW.trod_lt m _ _ _ hm
  obtain ⟨sb_0, A_0, n_0, c_0, l_0, rfl, hi_0, hc_0, hk_0, hR_0⟩ := Seg.open_seg (hval 0 28 v0 rfl rfl) h0 (Bat.weights_arg (j := 0) hwt (by kernel_rfl) rfl)
  have k1 := h1
  have lt1 : ∀ x ∈ p1, x.block < W.heap.size := by obtain ⟨m, hm⟩ := k1; exact DataW.trod_lt m _ _ _ hm
  obtain ⟨a1, rfl, hi1⟩ := Oct.open_i64 Tryd.underlying3 (hval 1 3 v1 rfl rfl) h1
  have k2 := h2
  have lt2 : ∀ x ∈ p2, x.block < W.heap.size := by obtain ⟨m, hm⟩ := k2; exact DataW.trod_lt m _ _ _ hm
  obtain ⟨A_2, n_2, c_2, l_2, rfl, hc_2, hk_2, hR_2⟩ := RowL.open_numbers Tryd.underlying43 (by kernel_rfl) (of_decide_eq_true (by kernel_rfl)) Tryd.underlying3 (hval 2 43 v2 rfl rfl) h2 (RowL.weights_arg (j := 2) hwt (by kernel_rfl) rfl)
  have k3 := h3
  have lt3 : ∀ x ∈ p3, x.block < W.heap.size := by obtain ⟨m, hm⟩ := k3; exact DataW.trod_lt m _ _ _ hm
  obtain ⟨a3, rfl, hi3⟩ := Oct.open_i64 Tryd.underlying3 (hval 3 3 v3 rfl rfl) h3
  have k4 := h4
  have lt4 : ∀ x ∈ p4, x.block < W.heap.size := by obtain ⟨m, hm⟩ := k4; exact DataW.trod_lt m _ _ _ hm
  obtain ⟨a4, rfl, hi4⟩ := Oct.open_i64 Tryd.underlying3 (hval 4 3 v4 rfl rfl) h4
  clear hA0 hval0
  refine (Idx.indexLeaves_walk sb_0 A_0 n_0 c_0 l_0 a1 A_2 n_2 c_2 l_2 a3 a4 W hi_0 hc_0 hk_0 hR_0 hi1 hc_2 hk_2 hR_2 hi3 hi4 (Crc.tab_of_laid hL)).mono fun e W' ⟨he, bel⟩ => ?_
  subst he
  exact ⟨_, rfl, _, _, _, [], _, [], hW', trodAll_mk1 (shut_bool Tryd.underlying4 _), (trodAll_cons_mk (Below.trod laidOut (by kernel_rfl) (of_decide_eq_true (by kernel_rfl)) k0 bel lt0) (trodAll_cons_mk (Below.trod laidOut (by kernel_rfl) (of_decide_eq_true (by kernel_rfl)) k1 bel lt1) (trodAll_cons_mk (Below.trod laidOut (by kernel_rfl) (of_decide_eq_true (by kernel_rfl)) k2 bel lt2) (trodAll_cons_mk (Below.trod laidOut (by kernel_rfl) (of_decide_eq_true (by kernel_rfl)) k3 bel lt3) (trodAll_cons_mk (Below.trod laidOut (by kernel_rfl) (of_decide_eq_true (by kernel_rfl)) k4 bel lt4) trodAll_mk0))))), rfl, bel.frame _, fun h => by cases h⟩

theorem over : Rows.indexLeavesRow.holds Tryd.pinned (OpenSpec.ofChange Rows.indexLeavesSpec) :=
  OpenClaim.holds_of_wide 5 Tryd.f5 rfl rfl rfl rfl rfl rfl rfl ⟨rfl, rfl, rfl, rfl, rfl⟩ rfl rfl rfl rfl rfl (by kernel_rfl) Tryd.func5 (by kernel_rfl)
    (of_decide_eq_true (by kernel_rfl)) (by unfold Func.isWrapper; first | (rw [if_pos (by decide +kernel)]; kernel_rfl) | (rw [if_neg (by decide +kernel)]; exact ⟨rfl, rfl⟩))
    (fun os started H enc _ => lifted os started H enc)

theorem proved : Rows.IndexLeavesCardSaid :=
  Claim7.holds_tied_plain_at .later [] [.data] true (true, "41be7e607d66cfdd6008461b4b7c97f5871f9791b8cb61aa2317aa8070baa326") false
    over (fun _ h => by cases h) (by kernel_rfl) (fun _ h => by cases h) indexLeaves_row_tie rfl ⟨rfl, rfl⟩ (by kernel_rfl) rfl
    (fun f fn hf hfn => by
      obtain rfl : f = 5 := Option.some.inj ((show Tryd.prog.funcNamed "watermeet/watermeetlaw08.IndexLeaves" = some 5 by kernel_rfl).symm.trans hf) |>.symm
      obtain rfl : fn = Tryd.f5 := (Option.some.inj (Tryd.func5.symm.trans hfn)).symm
      exact ⟨by kernel_rfl, fun j t ht => by
        rw [Tryd.params5] at ht
        have hm : t ∈ [28, 3, 43, 3, 3] := by simpa using Array.mem_of_getElem? ht
        have hall : ([28, 3, 43, 3, 3].all fun u => !Tryd.prog.wantsStandIn u) = true := by kernel_rfl
        exact (show Tryd.prog.wantsStandIn t = false by simpa using List.all_eq_true.1 hall t hm)⟩)
    (by kernel_rfl)
#print axioms proved
end Go.Proofs.YtbnkfljkojhkoaaDoor.indexLeaves
