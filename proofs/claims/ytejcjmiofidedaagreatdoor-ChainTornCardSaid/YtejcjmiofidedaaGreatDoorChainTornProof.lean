/- Of any log that may be, and any number of bytes that are cut off its last segment: what is recovered is its beginning, and loses nothing more the next time; no condition.
-/
import Derived.Test.YtejcjmiofidedaaGreatDoorChnLv
import Derived.Test.YtejcjmiofidedaaGreatDoorJChnN
import Derived.Test.YtejcjmiofidedaaGreatDoorChnBits
import Derived.Test.YtejcjmiofidedaaGreatDoorSegMathT
import Derived.Test.YtejcjmiofidedaaGreatDoorRows
import Derived.WalkKit
import Derived.ProofKit
import Derived.OpenShut
import Derived.ChangeOld
import Derived.Below
import Derived.Carry
import Derived.Test.YtejcjmiofidedaaGreatDoorJOct
import Derived.Test.YtejcjmiofidedaaGreatDoorJChnW
import Derived.Test.YtejcjmiofidedaaGreatDoorJCrc
import Derived.Test.YtejcjmiofidedaaGreatDoorTie
import Derived.Test.YtejcjmiofidedaaGreatDoorCards
import Derived.SevenTiedAt
/- The walk of ChainTorn. -/
namespace Go.Proofs.YtejcjmiofidedaaGreatDoor.Chn
open Go.RowKit Oct Rec Crc Bat Lay Seg RowF InR

def tb_ChainTorn9 : List (Nat × Nat) := [(0, 4194303), (1, 4194302), (0, 4194303), (0, 4194303), (8, 4194295), (0, 4194303), (48, 4194255), (64, 4194239), (128, 4194175), (0, 4194303), (512, 4193791), (0, 4194303), (3072, 4191231), (4096, 4190207), (8192, 4186111), (0, 4194303), (0, 4194303), (98304, 4095999), (147456, 4046847), (262400, 3931903), (1048575, 4194297), (2097151, 2621439)]
set_option maxRecDepth 100000 in
set_option maxHeartbeats 16000000 in
theorem chainTorn_walk (lim start : Int) (A : Option Addr) (n c : Nat) (l : List Sg) (j : Int) (w : World) (_hi : I64 lim) (_hs : I64 start) (hc : n ≤ c) (hk : c ≤ reach) (hR : RdL w w.heap.size A n l) (_hj : I64 j) (ht : Tab w) :
    Calls Tryz.prog 9 #[.agg #[.int .i64 lim, .int .i64 start, .slice A n c], .int .i64 j] w fun e w' => e = .returned (.bool true) ∧ Below w.heap.size w w' := by
  have hba := belA w (.cells #[.int .i64 lim, .int .i64 start, .slice A n c] 24)
  have HT_0 := Lib.hid (ht.bel hba)
  have HT0 := Lib.hid ht
  have HW_0 := Lib.hid hba
  have HL_0 := Lib.hid (At0.new w [.int .i64 lim, .int .i64 start, .slice A n c] 24)
  have HV_0 := Lib.hid (rdvUp hR hba)
  have hnr := Nat.le_trans hc hk
  have HF0 := Lib.hid (show ((([] : List Bt).all fewT && decide ((([] : List Bt).length : Int) ≤ 40))) = true by decide)
  have hmx : Tryz.prog.follows .mixedOrders = true := by kernel_rfl
  rcases hfg : fewG l with _ | _
  · have HFG := Lib.hid hfg
    clear hR ht hba hfg
    go_enter Tryz.func9, Tryz.ntmps9
    go_wp2_with (first
      | (go_at_call 12; (with_reducible refine (live9_any _ HT_0.out).mono ?_); rintro e w1 ⟨rfl, hb⟩; have HW_1 := Lib.hid (bel_trans HW_0.out hb); have HT_1 := Lib.hid (HT_0.out.bel hb); have HL_1 := Lib.hid (HL_0.out.below hb); have HV_1 := Lib.hid (rdvUp HV_0.out hb); obtain ⟨hl1_0, hl1_1, hl1_2⟩ := cel3 HL_1.out; clear hb)
      | (go_at_call 13; (with_reducible refine (few9_is lim start A n c l none 0 0 [] _ HV_1.out hnr RdL.nil (Nat.zero_le _) HFG.out HF0.out (Bool.and_true false)).mono ?_); rintro e w2 ⟨rfl, hb⟩; have HW_2 := Lib.hid (bel_trans HW_1.out hb); have HT_2 := Lib.hid (HT_1.out.bel hb); have HL_2 := Lib.hid (HL_1.out.below hb); have HV_2 := Lib.hid (rdvUp HV_1.out hb); clear hb))
    go_ret
    exact ⟨rfl, HW_2.out⟩
  have HFG := Lib.hid hfg
  obtain ⟨hrg, hn12⟩ := rdG_of hR hfg
  have HR_0 := Lib.hid (rdgUp hrg hba)
  obtain ⟨C, hC⟩ : ∃ C, ckL ⟨lim, start, l⟩ = C := ⟨_, rfl⟩
  have HC := Lib.hid hC
  by_cases hC0 : C = 0
  case neg =>
    have hcn := bne_iff_ne.2 hC0
    clear hR ht hba hfg hrg hC hC0
    go_enter Tryz.func9, Tryz.ntmps9
    go_wp2_with (first
      | (go_at_call 12; (with_reducible refine (live9_any _ HT_0.out).mono ?_); rintro e w1 ⟨rfl, hb⟩; have HW_1 := Lib.hid (bel_trans HW_0.out hb); have HT_1 := Lib.hid (HT_0.out.bel hb); have HL_1 := Lib.hid (HL_0.out.below hb); have HV_1 := Lib.hid (rdvUp HV_0.out hb); have HR_1 := Lib.hid (rdgUp HR_0.out hb); obtain ⟨hl1_0, hl1_1, hl1_2⟩ := cel3 HL_1.out; clear hb)
      | (go_at_call 13; (with_reducible refine (few9_is lim start A n c l none 0 0 [] _ HV_1.out hnr RdL.nil (Nat.zero_le _) HFG.out HF0.out (Bool.and_true true)).mono ?_); rintro e w2 ⟨rfl, hb⟩; have HW_2 := Lib.hid (bel_trans HW_1.out hb); have HT_2 := Lib.hid (HT_1.out.bel hb); have HL_2 := Lib.hid (HL_1.out.below hb); have HV_2 := Lib.hid (rdvUp HV_1.out hb); have HR_2 := Lib.hid (rdgUp HR_1.out hb); obtain ⟨hl2_0, hl2_1, hl2_2⟩ := cel3 HL_2.out; clear hb)
      | (go_at_call 16; (with_reducible refine (Check_is lim start A n c l _ HR_2.out HT_2.out (by omega) HC.out).mono ?_); rintro e w3 ⟨rfl, hb⟩; have HW_3 := Lib.hid (bel_trans HW_2.out hb); have HT_3 := Lib.hid (HT_2.out.bel hb); have HL_3 := Lib.hid (HL_2.out.below hb); have HV_3 := Lib.hid (rdvUp HV_2.out hb); have HR_3 := Lib.hid (rdgUp HR_2.out hb); clear hb))
    go_ret
    exact ⟨rfl, HW_3.out⟩
  subst hC0
  have hlen := hrg.len
  have hne : l ≠ [] := (ckL_iff.1 hC).1.2.2
  have hn1 : 0 < n := by rw [← hlen]; exact List.length_pos_iff.2 hne
  obtain ⟨q, hq⟩ : ∃ q, n - 1 = q := ⟨_, rfl⟩
  obtain ⟨b, o, ⟨sb, ss⟩, A5, n5, c5, hA, hbl, hxk, hc5, hn5, hrd, hIs, e0, e1⟩ := hrg.at (k := q) (by omega)
  subst hA
  simp only at e0 e1 hrd hIs
  have hn5' : n5 ≤ 1000000 := hn5
  obtain ⟨R, hR65, hRb⟩ := i64_and j 65535 (by decide)
  have hRb' : bits .and .i64 j 65535 = (R : Int) := hRb
  obtain ⟨LS, hLS⟩ : ∃ z, R % (n5 + 1) = z := ⟨_, rfl⟩
  have hLl : LS ≤ n5 := by rw [← hLS]; have := Nat.mod_lt R (show 0 < n5 + 1 by omega); omega
  have hqq : (R : Int) % ((n5 : Int) + 1) = (LS : Int) := by rw [← hLS]; exact (Int.natCast_emod _ _).symm
  obtain ⟨M5, hM5⟩ : ∃ z, n5 - LS = z := ⟨_, rfl⟩
  have hsp : l = l.take q ++ (⟨sb, ss⟩ : Sg) :: [] := by
    have h1 := split_at hxk
    rw [List.drop_of_length_le (by omega)] at h1
    exact h1
  have hset : l.set q ⟨sb, ss.take M5⟩ = l.take q ++ [⟨sb, ss.take M5⟩] := by
    conv => lhs; rw [hsp]
    have h9 : (l.take q).length = q := by rw [List.length_take]; omega
    rw [List.set_append_right _ _ (by omega), h9, Nat.sub_self]
    rfl
  obtain ⟨kb, hkb⟩ := torn_bat ⟨sb, ss⟩ M5
  have hlim : (((⟨sb, ss.take M5⟩ : Sg).bytes.length : Nat) : Int) ≤ lim := by
    have h1 := (ckL_iff.1 hC).2.1
    rw [show (⟨lim, start, l⟩ : Lg).segs = l from rfl, hsp] at h1
    have h2 := (chS_cons.1 (chS_app.1 h1).2).2.1
    simp only at h2 ⊢
    rw [List.length_take]
    omega
  have hbg := begins_all hC (show (⟨lim, start, l⟩ : Lg).segs = l.take q ++ (⟨sb, ss⟩ : Sg) :: [] from hsp) (t' := ⟨sb, ss.take M5⟩) rfl hlim hkb (.inr rfl)
  simp only at hbg
  rw [← hset] at hbg
  have hzero : LS = 0 → l.take q ++ [(fixS ⟨sb, ss.take M5⟩).1] = l := by
    intro h0
    have h1 : ss.take M5 = ss := List.take_of_length_le (by have := hrd.len; omega)
    have h2 := (ckL_iff.1 hC).2.1
    rw [show (⟨lim, start, l⟩ : Lg).segs = l from rfl, hsp] at h2
    have h3 := (chS_cons.1 (chS_app.1 h2).2).1
    rw [h1, fix_whole h3]
    exact hsp.symm
  obtain ⟨Y, hY⟩ : ∃ Y, Y = l.take q ++ [(fixS ⟨sb, ss.take M5⟩).1] := ⟨_, rfl⟩
  obtain ⟨lost, hlo⟩ : ∃ z, z = (fixS ⟨sb, ss.take M5⟩).2 + bytesL [] := ⟨_, rfl⟩
  rw [← hY] at hbg hzero
  rw [← hlo] at hbg
  obtain ⟨g1, g2, g3, g4, g5⟩ := hbg
  have HG1 := Lib.hid g1
  have HG2 := Lib.hid g2
  have HG3 := Lib.hid g3
  have HG4 := Lib.hid g4
  have HG5 := Lib.hid g5
  have HYL := Lib.hid (show Y.length = n by rw [hY, List.length_append, List.length_take, List.length_singleton]; omega)
  have HZR := Lib.hid hzero
  have HRG := Lib.hid hrg
  have HLEN := Lib.hid hlen
  have HRD0 := Lib.hid hrd
  have HS_0 := Lib.hid ((AtO.two hbl e0 e1).below hba)
  have HS0 := Lib.hid (AtO.two hbl e0 e1)
  have hw1 : IntKind.i64.wrap ((n : Int) - 1) = (q : Int) := by rw [← hq]; exact (IntWalk.i64_in _ (by omega)).trans (by omega)
  have hw2 : IntKind.i64.wrap ((n5 : Int) + 1) = (n5 : Int) + 1 := IntWalk.i64_in _ (by omega)
  have hw3 : IntKind.i64.wrap ((n5 : Int) - (LS : Int)) = (M5 : Int) := by rw [← hM5]; exact (IntWalk.i64_in _ (by omega)).trans (by omega)
  have hnz : ((n5 : Int) + 1 == 0) = false := beqF (by omega)
  have hnn : ((n : Int) == 0) = false := beqF (by omega)
  have hz1 : (1 : Int) ≤ (n5 : Int) + 1 := by omega
  have hz2 : (0 : Int) ≤ (R : Int) := by omega
  have hz3 : (0 : Int) ≤ (q : Int) := by omega
  have hz4 : (q : Int) < (n : Int) := by omega
  have hz5 : (0 : Int) ≤ (M5 : Int) := by omega
  have hz6 : (M5 : Int) ≤ (c5 : Int) := by omega
  have hqn : q < n := by omega
  have hMn : M5 ≤ n5 := by omega
  have HM5 := Lib.hid hM5
  clear hR ht hba hfg hrg hC hRb hLS hq hsp hset hkb hlim hlen hne g1 g2 g3 g4 g5 hY hlo hzero hxk hrd e0 e1 hM5
  go_enter Tryz.func9, Tryz.ntmps9
  go_upto_region 8 with (first
    | (go_at_call 12; (with_reducible refine (live9_any _ HT_0.out).mono ?_); rintro e w1 ⟨rfl, hb⟩; have HW_1 := Lib.hid (bel_trans HW_0.out hb); have HT_1 := Lib.hid (HT_0.out.bel hb); have HL_1 := Lib.hid (HL_0.out.below hb); have HV_1 := Lib.hid (rdvUp HV_0.out hb); have HR_1 := Lib.hid (rdgUp HR_0.out hb); have HS_1 := Lib.hid (HS_0.out.below hb); obtain ⟨hl1_0, hl1_1, hl1_2⟩ := cel3 HL_1.out; clear hb)
    | (go_at_call 13; (with_reducible refine (few9_is lim start (some ⟨b, o, none⟩) n c l none 0 0 [] _ HV_1.out hnr RdL.nil (Nat.zero_le _) HFG.out HF0.out (Bool.and_true true)).mono ?_); rintro e w2 ⟨rfl, hb⟩; have HW_2 := Lib.hid (bel_trans HW_1.out hb); have HT_2 := Lib.hid (HT_1.out.bel hb); have HL_2 := Lib.hid (HL_1.out.below hb); have HV_2 := Lib.hid (rdvUp HV_1.out hb); have HR_2 := Lib.hid (rdgUp HR_1.out hb); have HS_2 := Lib.hid (HS_1.out.below hb); obtain ⟨hl2_0, hl2_1, hl2_2⟩ := cel3 HL_2.out; clear hb)
    | (go_at_call 16; (with_reducible refine (Check_is lim start (some ⟨b, o, none⟩) n c l _ HR_2.out HT_2.out (by omega) HC.out).mono ?_); rintro e w3 ⟨rfl, hb⟩; have HW_3 := Lib.hid (bel_trans HW_2.out hb); have HT_3 := Lib.hid (HT_2.out.bel hb); have HL_3 := Lib.hid (HL_2.out.below hb); have HV_3 := Lib.hid (rdvUp HV_2.out hb); have HR_3 := Lib.hid (rdgUp HR_2.out hb); have HS_3 := Lib.hid (HS_2.out.below hb); obtain ⟨hl3_0, hl3_1, hl3_2⟩ := cel3 HL_3.out; obtain ⟨hs3_0, hs3_1⟩ := del2 HS_3.out; clear hb))
  have hba := belA w3 (.cells #[.int .i64 lim, .int .i64 start, .slice (some ⟨b, o, none⟩) n c] 24)
  have HW_7 := Lib.hid (bel_trans HW_3.out hba)
  have HL_7 := Lib.hid (HL_3.out.below hba)
  have HX_7 := Lib.hid (At0.new w3 [.int .i64 lim, .int .i64 start, .slice (some ⟨b, o, none⟩) n c] 24)
  clear hba hl3_0 hl3_1 hl3_2 hs3_0 hs3_1
  have HXG := Lib.hid (show w.heap.size < w3.heap.size from HL_3.out.lt)
  generalize (w3.alloc (.cells #[.int .i64 lim, .int .i64 start, .slice (some ⟨b, o, none⟩) n c] 24)) = W7 at *
  obtain ⟨A7, c7, w7, hrun, ho7, hb⟩ := copy_run (B0 := w.heap.size) W7 (HRG.out.below HW_7.out (Nat.le_refl _)) (HW_7.out.size) (by omega)
  have hlL := HL_7.out.lt
  have hlX := HX_7.out.lt
  obtain ⟨hl7_0, hl7_1, hl7_2⟩ := cel3 HL_7.out
  have HW_8 := Lib.hid (bel_trans HW_7.out hb)
  have HL_8 := Lib.hid (HL_7.out.below hb)
  have HX_8 := Lib.hid (HX_7.out.below hb)
  obtain ⟨hx8_0, hx8_1, hx8_2⟩ := cel3 HX_8.out
  obtain ⟨fhx8_0, fhx8_1, fhx8_2⟩ := frz3 HX_8.out
  have HO8 := Lib.hid ho7
  have HSZ8 := Lib.hid hb.size
  clear hb ho7
  go_wp2_with (at_builtin; refine wpList_app_run rfl _ _ 22 rfl rfl rfl hrun ?_)
  clear hrun hx8_0 hx8_1 hx8_2 fhx8_0 fhx8_1 fhx8_2
  have HL_9 := Lib.hid (HL_8.out.set (p := ⟨w3.heap.size, 2, none⟩) (by have h9 := HXG.out; simp only; omega) (.slice A7 n c7))
  have HX_9 := Lib.hid (at0_put HX_8.out 2 (.slice A7 n c7))
  have HW_9 := Lib.hid (HW_8.out.setCell (p := ⟨w3.heap.size, 2, none⟩) (by have h9 := HXG.out; simp only; omega) (.slice A7 n c7))
  have HO_9 := Lib.hid (HO8.out.off (p := ⟨w3.heap.size, 2, none⟩) (fun h9 => by have h8 := (HO8.out.lt _ h9).1; simp only at h8; omega) (fun b (h9 : b < w.heap.size) => by have h8 := HXG.out; simp only; omega) (.slice A7 n c7))
  have hsz9 : W7.heap.size ≤ (w7.setCell ⟨w3.heap.size, 2, none⟩ (.slice A7 n c7)).heap.size := by simpa using HSZ8.out
  clear hlL hlX
  simp only [List.set_cons_succ, List.set_cons_zero] at HX_9
  generalize (w7.setCell ⟨w3.heap.size, 2, none⟩ (.slice A7 n c7)) = W8 at *
  have HRD9 := Lib.hid ((HRD0.out.below HW_9.out (Nat.le_refl _)).take hMn)
  have HLD := Lib.hid (leadG_of (s := (⟨sb, ss.take M5⟩ : Sg)) (n1 := M5) (c1 := c5) (row := (Value.slice A7 n c7).ownBlock) HRD9.out (Nat.le_trans HW_9.out.size (Nat.le_refl _)) (by omega) (by unfold gMax; omega) hIs (fun g h9 => Nat.le_trans (Nat.le_trans (by have h8 := HXG.out; have h7 := HX_7.out.lt; omega) (Nat.le_refl _)) (HO_9.out.lt g h9).1))
  obtain ⟨g, u9, v9, rfl, hg1, hg2, r0, r1, f9, ho2, hb2⟩ := OwnG.putP (k := q) HO_9.out hqn HLD.out
  have f0 := f9 (q * 2)
  have f1 := f9 (q * 2 + 1)
  have HS_9 := Lib.hid (HS0.out.below HW_9.out)
  have HOP := Lib.hid ho2
  have HBP := Lib.hid hb2
  clear ho2 hb2 f9
  have hbd := (Below.refl W8.heap.size W8).drew
  have HW_R9 := Lib.hid (bel_trans HW_9.out hbd)
  have HX_R9 := Lib.hid (HX_9.out.below hbd)
  have HL_R9 := Lib.hid (HL_9.out.below hbd)
  have HS_R9 := Lib.hid (HS_9.out.below hbd)
  have HSR9 := Lib.hid (show (fun W9 : World => W9.cell? ⟨w3.heap.size, 0, none⟩ = some (.int .i64 lim) ∧ W9.cell? ⟨w3.heap.size, 1, none⟩ = some (.int .i64 start) ∧ W9.cell? ⟨w3.heap.size, 2, none⟩ = some (.slice (some ⟨g, 0, none⟩) n c7) ∧ W9.cell? ⟨w.heap.size, 0, none⟩ = some (.int .i64 lim) ∧ W9.cell? ⟨w.heap.size, 1, none⟩ = some (.int .i64 start) ∧ W9.cell? ⟨w.heap.size, 2, none⟩ = some (.slice (some ⟨b, o, none⟩) n c) ∧ W9.cell? ⟨b, o + q * 2, none⟩ = some (.int .i64 sb) ∧ W9.cell? ⟨b, o + q * 2 + 1, none⟩ = some (.slice A5 n5 c5)) W8.drew from ⟨HX_R9.out.cell 0, HX_R9.out.cell 1, HX_R9.out.cell 2, HL_R9.out.cell 0, HL_R9.out.cell 1, HL_R9.out.cell 2, HS_R9.out.2 0 _ rfl, HS_R9.out.2 1 _ rfl⟩)
  clear hbd
  refine region_let (fun W9 : World => W9.cell? ⟨w3.heap.size, 0, none⟩ = some (.int .i64 lim) ∧ W9.cell? ⟨w3.heap.size, 1, none⟩ = some (.int .i64 start) ∧ W9.cell? ⟨w3.heap.size, 2, none⟩ = some (.slice (some ⟨g, 0, none⟩) n c7) ∧ W9.cell? ⟨w.heap.size, 0, none⟩ = some (.int .i64 lim) ∧ W9.cell? ⟨w.heap.size, 1, none⟩ = some (.int .i64 start) ∧ W9.cell? ⟨w.heap.size, 2, none⟩ = some (.slice (some ⟨b, o, none⟩) n c) ∧ W9.cell? ⟨b, o + q * 2, none⟩ = some (.int .i64 sb) ∧ W9.cell? ⟨b, o + q * 2 + 1, none⟩ = some (.slice A5 n5 c5)) 21 22 hmx rfl fun ops Q HOPS HQ => ?_
  refine yq 0 HOPS HSR9.out ?_; simp only [ls0, ls1]; refine yq 1 HOPS HSR9.out ?_; simp only [ls0, ls1]; refine yq 2 HOPS HSR9.out ?_; simp only [ls0, ls1]; refine yq 3 HOPS HSR9.out ?_; simp only [ls0, ls1]; refine yq 4 HOPS HSR9.out ?_; simp only [ls0, ls1]; refine yq 5 HOPS HSR9.out ?_; simp only [ls0, ls1]; refine yq 6 HOPS HSR9.out ?_; simp only [ls0, ls1]; refine yq 7 HOPS HSR9.out ?_; simp only [ls0, ls1]; refine yq 8 HOPS HSR9.out ?_; simp only [ls0, ls1]; refine yq 9 HOPS HSR9.out ?_; simp only [ls0, ls1]; refine yq 10 HOPS HSR9.out ?_; simp only [ls0, ls1]; refine yq 11 HOPS HSR9.out ?_; simp only [ls0, ls1]; refine yq 12 HOPS HSR9.out ?_; simp only [ls0, ls1]; refine yq 13 HOPS HSR9.out ?_; simp only [ls0, ls1]; refine yq 14 HOPS HSR9.out ?_; simp only [ls0, ls1]; refine yq 15 HOPS HSR9.out ?_; simp only [ls0, ls1]; refine yq 16 HOPS HSR9.out ?_; simp only [ls0, ls1]; refine yq 17 HOPS HSR9.out ?_; simp only [ls0, ls1]; refine yq 18 HOPS HSR9.out ?_; simp only [ls0, ls1]; refine yq 19 HOPS HSR9.out ?_; simp only [ls0, ls1]; refine yq 20 HOPS HSR9.out ?_; simp only [ls0, ls1]
  refine xl 21 HOPS ?_
  go_simp
  refine stepE HOPS (by kernel_rfl) (HQ.out _ _ ?_)
  clear HQ HOPS
  clear Q ops
  have hgX : g ≠ w3.heap.size := by have h8 := HX_7.out.lt; omega
  have hgL : g ≠ w.heap.size := by have h8 := HX_7.out.lt; have h7 := HXG.out; omega
  have HL_p := Lib.hid (show At0 ((W8.setCell ⟨g, q * 2, none⟩ (.int .i64 sb)).setCell ⟨g, q * 2 + 1, none⟩ (.slice A5 M5 c5)).drew w.heap.size [.int .i64 lim, .int .i64 start, .slice (some ⟨b, o, none⟩) n c] 24 from (HL_9.out.set (p := ⟨g, q * 2, none⟩) hgL (.int .i64 sb)).set (p := ⟨g, q * 2 + 1, none⟩) hgL (.slice A5 M5 c5))
  have HX_p := Lib.hid (show At0 ((W8.setCell ⟨g, q * 2, none⟩ (.int .i64 sb)).setCell ⟨g, q * 2 + 1, none⟩ (.slice A5 M5 c5)).drew w3.heap.size [.int .i64 lim, .int .i64 start, .slice (some ⟨g, 0, none⟩) n c7] 24 from (HX_9.out.set (p := ⟨g, q * 2, none⟩) hgX (.int .i64 sb)).set (p := ⟨g, q * 2 + 1, none⟩) hgX (.slice A5 M5 c5))
  have HW_p := Lib.hid (show Below w.heap.size w ((W8.setCell ⟨g, q * 2, none⟩ (.int .i64 sb)).setCell ⟨g, q * 2 + 1, none⟩ (.slice A5 M5 c5)).drew from (HW_9.out.trans (HBP.out.mono (by have h8 := HX_7.out.lt; have h7 := HXG.out; omega))).drew)
  have hcp := OwnG.cap HOP.out
  have HXR_p := Lib.hid (show RdG ((W8.setCell ⟨g, q * 2, none⟩ (.int .i64 sb)).setCell ⟨g, q * 2 + 1, none⟩ (.slice A5 M5 c5)).drew ((W8.setCell ⟨g, q * 2, none⟩ (.int .i64 sb)).setCell ⟨g, q * 2 + 1, none⟩ (.slice A5 M5 c5)).drew.heap.size (some ⟨g, 0, none⟩) n (l.set q ⟨sb, ss.take M5⟩) from (OwnG.drew HOP.out).rd)
  clear r0 r1 f0 f1 hg2 hgX hgL
  generalize ((W8.setCell ⟨g, q * 2, none⟩ (.int .i64 sb)).setCell ⟨g, q * 2 + 1, none⟩ (.slice A5 M5 c5)).drew = W9 at *
  have HR_p := Lib.hid (rdgUp HRG.out HW_p.out)
  have HT_p := Lib.hid (HT0.out.bel HW_p.out)
  obtain ⟨hxp_0, hxp_1, hxp_2⟩ := cel3 HX_p.out
  by_cases hl0 : LS = 0
  · have hls : ¬ (0 : Int) < (LS : Int) := by omega
    obtain rfl : Y = l := HZR.out hl0
    clear hl0
    go_wp2_with (first
      | (go_at_call 35; (with_reducible refine (Recover_is lim start (some ⟨g, 0, none⟩) n c7 (Y.set q ⟨sb, ss.take M5⟩) _ HXR_p.out HT_p.out hcp (by omega) HG1.out).mono ?_); rintro e w10 ⟨A10, n10, c10, rfl, ho, hb⟩; have HW_10 := Lib.hid (bel_trans HW_p.out hb); have HL_10 := Lib.hid (HL_p.out.below hb); have HX_10 := Lib.hid (HX_p.out.below hb); have HXR_10 := Lib.hid (rdgUp HXR_p.out hb); have HR_10 := Lib.hid (rdgUp HR_p.out hb); have HT_10 := Lib.hid (HT_p.out.bel hb); have hc10 := ho.cap; have HN10 := Lib.hid ho.len; have HYR_10 := Lib.hid (ho.rd); have hba := belA w10 (.cells #[.int .i64 lim, .int .i64 start, .slice A10 n10 c10] 24); have HW_10a := Lib.hid (bel_trans HW_10.out hba); have HL_10a := Lib.hid (HL_10.out.below hba); have HX_10a := Lib.hid (HX_10.out.below hba); have HXR_10a := Lib.hid (rdgUp HXR_10.out hba); have HR_10a := Lib.hid (rdgUp HR_10.out hba); have HT_10a := Lib.hid (HT_10.out.bel hba); have HYR_10a := Lib.hid (rdgUp HYR_10.out hba); have HY_10a := Lib.hid (At0.new w10 [.int .i64 lim, .int .i64 start, .slice A10 n10 c10] 24); obtain ⟨hl10a_0, hl10a_1, hl10a_2⟩ := cel3 HL_10a.out; obtain ⟨hx10a_0, hx10a_1, hx10a_2⟩ := cel3 HX_10a.out; obtain rfl : n = n10 := HYL.out.symm.trans ho.len; clear hb hba ho)
      | (go_at_call 42; (with_reducible refine (begins9_is lim start (some ⟨b, o, none⟩) n c Y lim start (some ⟨g, 0, none⟩) n c7 (Y.set q ⟨sb, ss.take M5⟩) _ HR_10a.out HXR_10a.out HT_10a.out hc hcp (by omega) (by omega) HG1.out HG2.out HG3.out HG4.out HG5.out).mono ?_); rintro e w11 ⟨rfl, hb⟩; have HW_11 := Lib.hid (bel_trans HW_10a.out hb); have HL_11 := Lib.hid (HL_10a.out.below hb); have HX_11 := Lib.hid (HX_10a.out.below hb); have HXR_11 := Lib.hid (rdgUp HXR_10a.out hb); have HR_11 := Lib.hid (rdgUp HR_10a.out hb); have HT_11 := Lib.hid (HT_10a.out.bel hb); have HYR_11 := Lib.hid (rdgUp HYR_10a.out hb); have HY_11 := Lib.hid (HY_10a.out.below hb); obtain ⟨hy11_0, hy11_1, hy11_2⟩ := cel3 HY_11.out; obtain ⟨hl11_0, hl11_1, hl11_2⟩ := cel3 HL_11.out; clear hb)
      | (go_at_call 23; (with_reducible refine (rSame_is lim start A10 (some ⟨b, o, none⟩) n c10 c Y _ HYR_11.out HR_11.out (by omega)).mono ?_); rintro e w12 ⟨rfl, hb⟩; have HW_12 := Lib.hid (bel_trans HW_11.out hb); have HL_12 := Lib.hid (HL_11.out.below hb); have HX_12 := Lib.hid (HX_11.out.below hb); have HXR_12 := Lib.hid (rdgUp HXR_11.out hb); have HR_12 := Lib.hid (rdgUp HR_11.out hb); have HT_12 := Lib.hid (HT_11.out.bel hb); have HYR_12 := Lib.hid (rdgUp HYR_11.out hb); have HY_12 := Lib.hid (HY_11.out.below hb); clear hb))
    go_ret
    exact ⟨rfl, HW_12.out⟩
  · have hls : (0 : Int) < (LS : Int) := by omega
    clear hl0
    go_wp2_with (first
      | (go_at_call 35; (with_reducible refine (Recover_is lim start (some ⟨g, 0, none⟩) n c7 (l.set q ⟨sb, ss.take M5⟩) _ HXR_p.out HT_p.out hcp (by omega) HG1.out).mono ?_); rintro e w10 ⟨A10, n10, c10, rfl, ho, hb⟩; have HW_10 := Lib.hid (bel_trans HW_p.out hb); have HL_10 := Lib.hid (HL_p.out.below hb); have HX_10 := Lib.hid (HX_p.out.below hb); have HXR_10 := Lib.hid (rdgUp HXR_p.out hb); have HR_10 := Lib.hid (rdgUp HR_p.out hb); have HT_10 := Lib.hid (HT_p.out.bel hb); have hc10 := ho.cap; have HN10 := Lib.hid ho.len; have HYR_10 := Lib.hid (ho.rd); have hba := belA w10 (.cells #[.int .i64 lim, .int .i64 start, .slice A10 n10 c10] 24); have HW_10a := Lib.hid (bel_trans HW_10.out hba); have HL_10a := Lib.hid (HL_10.out.below hba); have HX_10a := Lib.hid (HX_10.out.below hba); have HXR_10a := Lib.hid (rdgUp HXR_10.out hba); have HR_10a := Lib.hid (rdgUp HR_10.out hba); have HT_10a := Lib.hid (HT_10.out.bel hba); have HYR_10a := Lib.hid (rdgUp HYR_10.out hba); have HY_10a := Lib.hid (At0.new w10 [.int .i64 lim, .int .i64 start, .slice A10 n10 c10] 24); obtain ⟨hl10a_0, hl10a_1, hl10a_2⟩ := cel3 HL_10a.out; obtain ⟨hx10a_0, hx10a_1, hx10a_2⟩ := cel3 HX_10a.out; obtain rfl : n = n10 := HYL.out.symm.trans ho.len; clear hb hba ho)
      | (go_at_call 42; (with_reducible refine (begins9_is lim start (some ⟨b, o, none⟩) n c l lim start (some ⟨g, 0, none⟩) n c7 (l.set q ⟨sb, ss.take M5⟩) _ HR_10a.out HXR_10a.out HT_10a.out hc hcp (by omega) (by omega) HG1.out HG2.out HG3.out HG4.out HG5.out).mono ?_); rintro e w11 ⟨rfl, hb⟩; have HW_11 := Lib.hid (bel_trans HW_10a.out hb); have HL_11 := Lib.hid (HL_10a.out.below hb); have HX_11 := Lib.hid (HX_10a.out.below hb); have HXR_11 := Lib.hid (rdgUp HXR_10a.out hb); have HR_11 := Lib.hid (rdgUp HR_10a.out hb); have HT_11 := Lib.hid (HT_10a.out.bel hb); have HYR_11 := Lib.hid (rdgUp HYR_10a.out hb); have HY_11 := Lib.hid (HY_10a.out.below hb); clear hb))
    go_ret
    exact ⟨rfl, HW_11.out⟩
end Go.Proofs.YtejcjmiofidedaaGreatDoor.Chn

namespace Go.Proofs.YtejcjmiofidedaaGreatDoor.chainTorn
open Go.ChangeShapes Go.WideShapes Go.ChangeAt Go.RowKit

theorem own : ownKnob Tryz.prog.godebug = none := by kernel_rfl
theorem laidOut : laidOutB Tryz.prog = true := by kernel_rfl

set_option maxRecDepth 100000 in
theorem lifted (os : Os) (started : os.Started) (H : Type) (enc : TypeId × Value → H) :
    ReturnsInHanded {} Tryz.checked os 9 .any (fun w args => (Rows.chainTornSpec.pre enc Tryz.prog Tryz.f9 [] false w args ∧ laidMetH Tryz.prog Crc.listed w) ∧ sizedMet enc Tryz.prog Tryz.f9 (OpenSpec.ofChange Rows.chainTornSpec) false w args)
      (Rows.chainTornSpec.post enc Tryz.prog Tryz.f9 false true false false) := by
  refine returnsInHanded_of_change_and (C := Tryz.checked) (X := fun w _ => laidMetH Tryz.prog Crc.listed w) (fun _ _ _ hh h => h.of_heap hh) own started (by kernel_rfl) Tryz.func9
    (ChangeSpec.witness_shaped (enc := enc) (C := Tryz.checked) (os := os) (X := fun w _ => laidMetH Tryz.prog Crc.listed w) false (World.doorLaid Tryz.prog 400 os) #[.agg #[.int .i64 0, .int .i64 0, .slice none 0 0], .int .i64 0] 8 rfl (World.shaped_of_RefB (by kernel_rfl) (by kernel_rfl)) (by kernel_rfl) (by kernel_rfl) (by kernel_rfl) (Crc.door_met os _)) ?_
  intro W base args ds gs before hval0 hW _ hwt hL _
  have hval : ∀ (j : Nat) t v, Tryz.f9.params[j]? = some t → args[j]? = some v → Value.okWide Tryz.prog W .any base t v := hval0
  have hW' := hW
  obtain ⟨p, q, hA0, hV, rfl, hfz, hnd⟩ := hW
  have hA : DataW.TrodAll enc Tryz.prog W 0 (fun _ => true) true Tryz.f9.params.toList args.toList ds p := hA0
  rw [Tryz.params9] at hA hval
  obtain ⟨v0, vs0, d0, ds0, p0, q0, hargs, rfl, rfl, h0, r0⟩ := trodAll_cons hA
  obtain ⟨v1, vs1, d1, ds1, p1, q1, rfl, rfl, rfl, h1, r1⟩ := trodAll_cons r0
  obtain ⟨rfl, rfl, rfl⟩ := trodAll_nil r1
  obtain rfl : args = #[v0, v1] := by cases args; simp_all
  obtain ⟨rfl, rfl⟩ := trodVars_none hV
  have k0 := h0
  have lt0 : ∀ x ∈ p0, x.block < W.heap.size := by obtain ⟨m, hm⟩ := k0; exact DataW.trod_lt m _ _ _ hm
  obtain ⟨lim_0, st_0, A_0, n_0, c_0, l_0, rfl, hi_0, hj_0, hc_0, hk_0, hR_0⟩ := Chn.open_log (hval 0 24 v0 rfl rfl) h0 (Bat.weights_arg (j := 0) hwt (by kernel_rfl) rfl)
  have k1 := h1
  have lt1 : ∀ x ∈ p1, x.block < W.heap.size := by obtain ⟨m, hm⟩ := k1; exact DataW.trod_lt m _ _ _ hm
  obtain ⟨a1, rfl, hi1⟩ := Oct.open_i64 Tryz.underlying3 (hval 1 3 v1 rfl rfl) h1
  clear hA0 hval0
  refine (Chn.chainTorn_walk lim_0 st_0 A_0 n_0 c_0 l_0 a1 W hi_0 hj_0 hc_0 hk_0 hR_0 hi1 (Crc.tab_of_laid hL)).mono fun e W' ⟨he, bel⟩ => ?_
  subst he
  exact ⟨_, rfl, _, _, _, [], _, [], hW', trodAll_mk1 (shut_bool Tryz.underlying4 _), (trodAll_cons_mk (Below.trod laidOut (by kernel_rfl) (of_decide_eq_true (by kernel_rfl)) k0 bel lt0) (trodAll_cons_mk (Below.trod laidOut (by kernel_rfl) (of_decide_eq_true (by kernel_rfl)) k1 bel lt1) trodAll_mk0)), rfl, bel.frame _, fun h => by cases h⟩

theorem over : Rows.chainTornRow.holds Tryz.pinned (OpenSpec.ofChange Rows.chainTornSpec) :=
  OpenClaim.holds_of_wide 9 Tryz.f9 rfl rfl rfl rfl rfl rfl rfl ⟨rfl, rfl, rfl, rfl, rfl⟩ rfl rfl rfl rfl rfl (by kernel_rfl) Tryz.func9 (by kernel_rfl)
    (of_decide_eq_true (by kernel_rfl)) (by unfold Func.isWrapper; first | (rw [if_pos (by decide +kernel)]; kernel_rfl) | (rw [if_neg (by decide +kernel)]; exact ⟨rfl, rfl⟩))
    (fun os started H enc _ => lifted os started H enc)

theorem proved : Rows.ChainTornCardSaid :=
  Claim7.holds_tied_plain_at .later [] [.data] true (true, "43519ac59a7675b2f2d9aeca7eaf360146488e8a78a978de494d5127d8d19227") false
    over (fun _ h => by cases h) (by kernel_rfl) (fun _ h => by cases h) chainTorn_row_tie rfl ⟨rfl, rfl⟩ (by kernel_rfl) rfl
    (fun f fn hf hfn => by
      obtain rfl : f = 9 := Option.some.inj ((show Tryz.prog.funcNamed "watermeet/watermeetlaw09.ChainTorn" = some 9 by kernel_rfl).symm.trans hf) |>.symm
      obtain rfl : fn = Tryz.f9 := (Option.some.inj (Tryz.func9.symm.trans hfn)).symm
      exact ⟨by kernel_rfl, fun j t ht => by
        rw [Tryz.params9] at ht
        have hm : t ∈ [24, 3] := by simpa using Array.mem_of_getElem? ht
        have hall : ([24, 3].all fun u => !Tryz.prog.wantsStandIn u) = true := by kernel_rfl
        exact (show Tryz.prog.wantsStandIn t = false by simpa using List.all_eq_true.1 hall t hm)⟩)
    (by kernel_rfl)
#print axioms proved
end Go.Proofs.YtejcjmiofidedaaGreatDoor.chainTorn
