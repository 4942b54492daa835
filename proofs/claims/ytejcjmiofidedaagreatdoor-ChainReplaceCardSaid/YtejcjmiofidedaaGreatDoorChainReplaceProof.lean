/- Of any log that may be, and one of its closed segments: with its own batches it is as it was; with some of these alone, all others stay, and it ends as it did; no condition.
-/
import Derived.Test.YtejcjmiofidedaaGreatDoorChnLv
import Derived.Test.YtejcjmiofidedaaGreatDoorJChnH
import Derived.Test.YtejcjmiofidedaaGreatDoorJChnW
import Derived.Test.YtejcjmiofidedaaGreatDoorJChnN
import Derived.Test.YtejcjmiofidedaaGreatDoorChnBits
import Derived.Test.YtejcjmiofidedaaGreatDoorSegSA
import Derived.Test.YtejcjmiofidedaaGreatDoorRows
import Derived.WalkKit
import Derived.ProofKit
import Derived.OpenShut
import Derived.ChangeOld
import Derived.Below
import Derived.Carry
import Derived.Test.YtejcjmiofidedaaGreatDoorJOct
import Derived.Test.YtejcjmiofidedaaGreatDoorJCrc
import Derived.Test.YtejcjmiofidedaaGreatDoorTie
import Derived.Test.YtejcjmiofidedaaGreatDoorCards
import Derived.SevenTiedAt
/- The walk of ChainReplace. -/
namespace Go.Proofs.YtejcjmiofidedaaGreatDoor.Chn
open Go.RowKit Oct Rec Crc Bat Lay Seg RowF InR

def tb_ChainReplace21 : List (Nat × Nat) := [(0, 8589934591), (1, 8589934590), (2, 8589934589), (6, 8589934585), (10, 8589934581), (18, 8589934575), (32, 8589934559), (32, 8589934559), (224, 8589934367), (288, 8589934303), (768, 8589934079), (1024, 8589933567), (3072, 8589931519), (5120, 8589929471), (9216, 8589926399), (16384, 8589918207), (49152, 8589885439), (81920, 8589852671), (147456, 8589787135), (327680, 8589672447), (524288, 8589410303), (1572864, 8588361727), (524288, 8589410303), (6815744, 8585215999), (11010048, 8578924543), (17301504, 8572633087), (41943040, 8556380159), (67108864, 8522825727), (201326592, 8388607999), (67108864, 8522825727), (872415232, 7717519359), (1140850688, 7449083903), (4294967295, 6442450943)]
def rpRel (L : List Bt) (n5 : Nat) (w : World) (vs vi : Value) (wr : World) : Prop :=
  ∃ (i : Nat) (S : List Bt) (A7 : Option Addr) (n7 c7 : Nat), vs = .slice A7 n7 c7 ∧ vi = .int .i64 (i : Int) ∧ i ≤ n5 ∧ n7 ≤ i ∧ S.Sublist (L.take i) ∧ OwnT wr 39 (fun b => b < w.heap.size) w.heap.size (.slice A7 n7 c7) n7 S ∧ Below w.heap.size w wr
def rqRel (T L S : List Bt) (n9 : Nat) (w : World) (vs vi : Value) (wr : World) : Prop :=
  ∃ (i : Nat) (A7 : Option Addr) (n7 c7 : Nat), vs = .slice A7 n7 c7 ∧ vi = .int .i64 (i : Int) ∧ i ≤ n9 ∧ n7 ≤ i ∧ OwnT wr 39 (fun b => b < w.heap.size) w.heap.size (.slice A7 n7 c7) n7 ((T.take i).filter (pB L S)) ∧ Below w.heap.size w wr
theorem sub_take1 {S L : List Bt} {i : Nat} {b : Bt} (h : S.Sublist (L.take i)) (hb : L[i]? = some b) : (S ++ [b]).Sublist (L.take (i + 1)) ∧ S.Sublist (L.take (i + 1)) := by
  rw [List.take_add_one, hb, Option.toList_some]
  exact ⟨List.Sublist.append h (List.Sublist.refl _), h.trans (List.sublist_append_left ..)⟩
set_option maxRecDepth 100000 in
set_option maxHeartbeats 16000000 in
theorem chainReplace_walk (lim start : Int) (A : Option Addr) (n c : Nat) (l : List Sg) (j keep : Int) (w : World) (_hi : I64 lim) (_hs : I64 start) (hc : n ≤ c) (hk : c ≤ reach) (hR : RdL w w.heap.size A n l) (_hj : I64 j) (_hk2 : I64 keep) (ht : Tab w) :
    Calls Tryz.prog 11 #[.agg #[.int .i64 lim, .int .i64 start, .slice A n c], .int .i64 j, .int .i64 keep] w fun e w' => e = .returned (.bool true) ∧ Below w.heap.size w w' := by
  have hba := belA w (.cells #[.int .i64 lim, .int .i64 start, .slice A n c] 24)
  have HT_0 := Lib.hid (ht.bel hba)
  have HW_0 := Lib.hid hba
  have HL_0 := Lib.hid (At0.new w [.int .i64 lim, .int .i64 start, .slice A n c] 24)
  have HV_0 := Lib.hid (rdvUp hR hba)
  have hnr := Nat.le_trans hc hk
  have HF0 := Lib.hid (show ((([] : List Bt).all fewT && decide ((([] : List Bt).length : Int) ≤ 40))) = true by decide)
  have hmx : Tryz.prog.follows .mixedOrders = true := by kernel_rfl
  rcases hfg : fewG l with _ | _
  · have HFG := Lib.hid hfg
    clear hR ht hba hfg
    go_enter Tryz.func11, Tryz.ntmps11
    go_wp2_with (first
      | (go_at_call 12; (with_reducible refine (live9_any _ HT_0.out).mono ?_); rintro e w1 ⟨rfl, hb⟩; have HW_1 := Lib.hid (bel_trans HW_0.out hb); have HT_1 := Lib.hid (HT_0.out.bel hb); have HL_1 := Lib.hid (HL_0.out.below hb); have HV_1 := Lib.hid (rdvUp HV_0.out hb); obtain ⟨hl1_0, hl1_1, hl1_2⟩ := cel3 HL_1.out; clear hb)
      | (go_at_call 13; (with_reducible refine (few9_is lim start A n c l none 0 0 [] _ HV_1.out hnr RdL.nil (Nat.zero_le _) HFG.out HF0.out (Bool.and_true false)).mono ?_); rintro e w2 ⟨rfl, hb⟩; have HW_2 := Lib.hid (bel_trans HW_1.out hb); have HT_2 := Lib.hid (HT_1.out.bel hb); have HL_2 := Lib.hid (HL_1.out.below hb); have HV_2 := Lib.hid (rdvUp HV_1.out hb); clear hb))
    go_ret
    exact ⟨rfl, HW_2.out⟩
  have HFG := Lib.hid hfg
  obtain ⟨hrg, hn12⟩ := rdG_of hR hfg
  have HR_0 := Lib.hid (rdgUp hrg hba)
  obtain ⟨C, hC⟩ : ∃ C, ckL ⟨lim, start, l⟩ = C := ⟨_, rfl⟩
  have HC := Lib.hid hC
  by_cases hC0 : C = 0
  case neg =>
    have hcn := bne_iff_ne.2 hC0
    clear hR ht hba hfg hrg hC hC0
    go_enter Tryz.func11, Tryz.ntmps11
    go_wp2_with (first
      | (go_at_call 12; (with_reducible refine (live9_any _ HT_0.out).mono ?_); rintro e w1 ⟨rfl, hb⟩; have HW_1 := Lib.hid (bel_trans HW_0.out hb); have HT_1 := Lib.hid (HT_0.out.bel hb); have HL_1 := Lib.hid (HL_0.out.below hb); have HV_1 := Lib.hid (rdvUp HV_0.out hb); have HR_1 := Lib.hid (rdgUp HR_0.out hb); obtain ⟨hl1_0, hl1_1, hl1_2⟩ := cel3 HL_1.out; clear hb)
      | (go_at_call 13; (with_reducible refine (few9_is lim start A n c l none 0 0 [] _ HV_1.out hnr RdL.nil (Nat.zero_le _) HFG.out HF0.out (Bool.and_true true)).mono ?_); rintro e w2 ⟨rfl, hb⟩; have HW_2 := Lib.hid (bel_trans HW_1.out hb); have HT_2 := Lib.hid (HT_1.out.bel hb); have HL_2 := Lib.hid (HL_1.out.below hb); have HV_2 := Lib.hid (rdvUp HV_1.out hb); have HR_2 := Lib.hid (rdgUp HR_1.out hb); obtain ⟨hl2_0, hl2_1, hl2_2⟩ := cel3 HL_2.out; clear hb)
      | (go_at_call 16; (with_reducible refine (Check_is lim start A n c l _ HR_2.out HT_2.out (by omega) HC.out).mono ?_); rintro e w3 ⟨rfl, hb⟩; have HW_3 := Lib.hid (bel_trans HW_2.out hb); have HT_3 := Lib.hid (HT_2.out.bel hb); have HL_3 := Lib.hid (HL_2.out.below hb); have HV_3 := Lib.hid (rdvUp HV_2.out hb); have HR_3 := Lib.hid (rdgUp HR_2.out hb); clear hb))
    go_ret
    exact ⟨rfl, HW_3.out⟩
  subst hC0
  by_cases hn2 : (n : Int) < 2
  · clear hR ht hba hfg hrg hC
    go_enter Tryz.func11, Tryz.ntmps11
    go_wp2_with (first
      | (go_at_call 12; (with_reducible refine (live9_any _ HT_0.out).mono ?_); rintro e w1 ⟨rfl, hb⟩; have HW_1 := Lib.hid (bel_trans HW_0.out hb); have HT_1 := Lib.hid (HT_0.out.bel hb); have HL_1 := Lib.hid (HL_0.out.below hb); have HV_1 := Lib.hid (rdvUp HV_0.out hb); have HR_1 := Lib.hid (rdgUp HR_0.out hb); obtain ⟨hl1_0, hl1_1, hl1_2⟩ := cel3 HL_1.out; clear hb)
      | (go_at_call 13; (with_reducible refine (few9_is lim start A n c l none 0 0 [] _ HV_1.out hnr RdL.nil (Nat.zero_le _) HFG.out HF0.out (Bool.and_true true)).mono ?_); rintro e w2 ⟨rfl, hb⟩; have HW_2 := Lib.hid (bel_trans HW_1.out hb); have HT_2 := Lib.hid (HT_1.out.bel hb); have HL_2 := Lib.hid (HL_1.out.below hb); have HV_2 := Lib.hid (rdvUp HV_1.out hb); have HR_2 := Lib.hid (rdgUp HR_1.out hb); obtain ⟨hl2_0, hl2_1, hl2_2⟩ := cel3 HL_2.out; clear hb)
      | (go_at_call 16; (with_reducible refine (Check_is lim start A n c l _ HR_2.out HT_2.out (by omega) HC.out).mono ?_); rintro e w3 ⟨rfl, hb⟩; have HW_3 := Lib.hid (bel_trans HW_2.out hb); have HT_3 := Lib.hid (HT_2.out.bel hb); have HL_3 := Lib.hid (HL_2.out.below hb); have HV_3 := Lib.hid (rdvUp HV_2.out hb); have HR_3 := Lib.hid (rdgUp HR_2.out hb); obtain ⟨hl3_0, hl3_1, hl3_2⟩ := cel3 HL_3.out; clear hb))
    go_ret
    exact ⟨rfl, HW_3.out⟩
  obtain ⟨R, hR65, hRb⟩ := i64_and j 65535 (by decide)
  have hRb' : bits .and .i64 j 65535 = (R : Int) := hRb
  have hnn : 2 ≤ n := by omega
  obtain ⟨q, hq⟩ : ∃ q, R % (n - 1) = q := ⟨_, rfl⟩
  have hql : q + 1 < n := by rw [← hq]; have := Nat.mod_lt R (show 0 < n - 1 by omega); omega
  have hqq : (R : Int) % ((n : Int) - 1) = (q : Int) := by rw [← hq, show ((n : Int) - 1) = ((n - 1 : Nat) : Int) by omega]; exact (Int.natCast_emod _ _).symm
  have hlen := hrg.len
  obtain ⟨s, hs⟩ : ∃ s, l[q]? = some s := ⟨_, List.getElem?_eq_getElem (by omega)⟩
  obtain ⟨s2, hs2⟩ : ∃ s, l[q + 1]? = some s := ⟨_, List.getElem?_eq_getElem (by omega)⟩
  have hsp : l = l.take q ++ s :: s2 :: l.drop (q + 2) := by
    have h1 := split_at hs
    have h2 : l.drop (q + 1) = s2 :: l.drop (q + 2) := by rw [List.drop_eq_getElem_cons (by omega : q + 1 < l.length), (List.getElem?_eq_some_iff.1 hs2).2]
    rw [h2] at h1
    exact h1
  have htk : (l.take q).length = q := by rw [List.length_take]; omega
  have HSP := Lib.hid (show (⟨lim, start, l⟩ : Lg).segs = l.take q ++ s :: s2 :: l.drop (q + 2) from hsp)
  have HTK := Lib.hid htk
  have hrp := repl_same hC (show (⟨lim, start, l⟩ : Lg).segs = l.take q ++ s :: s2 :: l.drop (q + 2) from hsp)
  rw [htk] at hrp
  obtain ⟨b, o, ⟨sb, ss⟩, A5, n5, c5, hA, hbl, hxk, hc5, hn5, hrd, hIs, e0, e1⟩ := hrg.at (k := q) (by omega)
  obtain rfl : s = ⟨sb, ss⟩ := Option.some.inj (hs.symm.trans hxk)
  subst hA
  simp only at e0 e1 hrd hIs
  rcases hsc : sc sb ss with ⟨L, g⟩
  have hLB : Seg.batS ⟨sb, ss⟩ = L := by show (sc sb ss).1 = L; rw [hsc]
  rw [hLB] at hrp
  have HLB := Lib.hid hLB
  have HSC := Lib.hid hsc
  have HRP := Lib.hid hrp
  have HLEN := Lib.hid hlen
  have HLL := Lib.hid (show L.length ≤ 1000000 by rw [← hLB]; have h1 := batS_len ⟨sb, ss⟩; have h2 := hrd.len; have h3 : n5 ≤ 1000000 := hn5; simp only at h1; omega)
  have HS_0 := Lib.hid ((AtO.two hbl e0 e1).below hba)
  have HRD_0 := Lib.hid (rdUp hrd hba)
  obtain ⟨T, hT⟩ : ∃ T, allT ⟨lim, start, l⟩ = T := ⟨_, rfl⟩
  have HT9 := Lib.hid hT
  have HTLL := Lib.hid (show T.length ≤ 12000000 by have h9 := allT_len (l := ⟨lim, start, l⟩) hrg.small; rw [hT] at h9; simp only [gMax] at h9; rw [hlen] at h9; omega)
  obtain ⟨E, hE⟩ : ∃ E, endT ⟨lim, start, l⟩ = E := ⟨_, rfl⟩
  have HE := Lib.hid hE
  have HCK := Lib.hid hC
  have hn5' : n5 ≤ 137438953472 := by unfold gMax at hn5; omega
  have hw1 : IntKind.i64.wrap ((n : Int) - 1) = (n : Int) - 1 := IntWalk.i64_in _ (by omega)
  have hnz : ((n : Int) - 1 == 0) = false := beqF (by omega)
  have hz1 : (1 : Int) ≤ (n : Int) - 1 := by omega
  have hz2 : (0 : Int) ≤ (R : Int) := by omega
  have hz3 : (0 : Int) ≤ (q : Int) := by omega
  have hz4 : (q : Int) < (n : Int) := by omega
  clear hR ht hba hfg hrg hC hRb hq hs hs2 hsp htk hrp hxk hrd e0 e1 hsc hLB hlen hbl hT hE
  go_enter Tryz.func11, Tryz.ntmps11
  go_wp2_with (first
    | (go_at_call 12; (with_reducible refine (live9_any _ HT_0.out).mono ?_); rintro e w1 ⟨rfl, hb⟩; have HW_1 := Lib.hid (bel_trans HW_0.out hb); have HT_1 := Lib.hid (HT_0.out.bel hb); have HL_1 := Lib.hid (HL_0.out.below hb); have HV_1 := Lib.hid (rdvUp HV_0.out hb); have HR_1 := Lib.hid (rdgUp HR_0.out hb); have HS_1 := Lib.hid (HS_0.out.below hb); have HRD_1 := Lib.hid (rdUp HRD_0.out hb); obtain ⟨hl1_0, hl1_1, hl1_2⟩ := cel3 HL_1.out; clear hb)
    | (go_at_call 13; (with_reducible refine (few9_is lim start (some ⟨b, o, none⟩) n c l none 0 0 [] _ HV_1.out hnr RdL.nil (Nat.zero_le _) HFG.out HF0.out (Bool.and_true true)).mono ?_); rintro e w2 ⟨rfl, hb⟩; have HW_2 := Lib.hid (bel_trans HW_1.out hb); have HT_2 := Lib.hid (HT_1.out.bel hb); have HL_2 := Lib.hid (HL_1.out.below hb); have HV_2 := Lib.hid (rdvUp HV_1.out hb); have HR_2 := Lib.hid (rdgUp HR_1.out hb); have HS_2 := Lib.hid (HS_1.out.below hb); have HRD_2 := Lib.hid (rdUp HRD_1.out hb); obtain ⟨hl2_0, hl2_1, hl2_2⟩ := cel3 HL_2.out; clear hb)
    | (go_at_call 16; (with_reducible refine (Check_is lim start (some ⟨b, o, none⟩) n c l _ HR_2.out HT_2.out (by omega) HC.out).mono ?_); rintro e w3 ⟨rfl, hb⟩; have HW_3 := Lib.hid (bel_trans HW_2.out hb); have HT_3 := Lib.hid (HT_2.out.bel hb); have HL_3 := Lib.hid (HL_2.out.below hb); have HV_3 := Lib.hid (rdvUp HV_2.out hb); have HR_3 := Lib.hid (rdgUp HR_2.out hb); have HS_3 := Lib.hid (HS_2.out.below hb); have HRD_3 := Lib.hid (rdUp HRD_2.out hb); obtain ⟨hl3_0, hl3_1, hl3_2⟩ := cel3 HL_3.out; obtain ⟨hs3_0, hs3_1⟩ := del2 HS_3.out; clear hb)
    | (go_at_call 43; (with_reducible refine (Seg.Scan_is HSC.out HRD_3.out hc5 hn5' hIs HT_3.out).mono ?_); rintro e w4 ⟨A4, n4, c4, rfl, ho, hb⟩; have HW_4 := Lib.hid (bel_trans HW_3.out hb); have HT_4 := Lib.hid (HT_3.out.bel hb); have HL_4 := Lib.hid (HL_3.out.below hb); have HV_4 := Lib.hid (rdvUp HV_3.out hb); have HR_4 := Lib.hid (rdgUp HR_3.out hb); have HS_4 := Lib.hid (HS_3.out.below hb); have HRD_4 := Lib.hid (rdUp HRD_3.out hb); have HN4 := Lib.hid ho.len; have HBS_4 := Lib.hid (ho.rd); obtain ⟨hl4_0, hl4_1, hl4_2⟩ := cel3 HL_4.out; have hn4 : n4 ≤ 1000000 := (by have h1 := HLL.out; have h2 := ho.len; omega); clear hb ho)
    | (go_at_call 31; (with_reducible refine (Replace_is lim start (some ⟨b, o, none⟩) n c l (q : Int) A4 n4 c4 L _ HR_4.out HT_4.out hc (by omega) HBS_4.out (by omega) HRP.out).mono ?_); rintro e w6 ⟨A6, n6, c6, rfl, ho, hb⟩; have HW_6 := Lib.hid (bel_trans HW_4.out hb); have HT_6 := Lib.hid (HT_4.out.bel hb); have HL_6 := Lib.hid (HL_4.out.below hb); have HV_6 := Lib.hid (rdvUp HV_4.out hb); have HR_6 := Lib.hid (rdgUp HR_4.out hb); have HBS_6 := Lib.hid (rdtUp HBS_4.out hb); have hc6 := ho.cap; have HN6 := Lib.hid ho.len; have HXR_6 := Lib.hid (ho.rd); have hba := belA w6 (.cells #[.int .i64 lim, .int .i64 start, .slice A6 n6 c6] 24); have HW_6a := Lib.hid (bel_trans HW_6.out hba); have HT_6a := Lib.hid (HT_6.out.bel hba); have HL_6a := Lib.hid (HL_6.out.below hba); have HV_6a := Lib.hid (rdvUp HV_6.out hba); have HR_6a := Lib.hid (rdgUp HR_6.out hba); have HBS_6a := Lib.hid (rdtUp HBS_6.out hba); have HXR_6a := Lib.hid (rdgUp HXR_6.out hba); have HX_6a := Lib.hid (At0.new w6 [.int .i64 lim, .int .i64 start, .slice A6 n6 c6] 24); obtain rfl : n = n6 := HLEN.out.symm.trans ho.len; clear hb hba ho))
  generalize (w6.alloc (.cells #[.int .i64 lim, .int .i64 start, .slice A6 n c6] 24)) = W6 at *
  go_loopw [13, 15] (fun vs vi wr => rpRel L n4 W6 vs vi wr) (fun _ vi _ => n4 - (intOf vi).toNat)
  case atStart => exact ⟨0, [], none, 0, 0, rfl, rfl, Nat.zero_le _, Nat.le_refl _, List.Sublist.refl _, OwnT.nil, Below.refl _ _⟩
  case round =>
    obtain ⟨i, S, A7, n7, c7, rfl, rfl, hi, hn7, hsub, ho, hb⟩ := hrel
    have HO := Lib.hid ho
    have HBR := Lib.hid hb
    have HSZ := Lib.hid hb.size
    have HSUB := Lib.hid hsub
    have HBX := Lib.hid (HBS_6a.out.below hb (Nat.le_refl _))
    clear hsub
    by_cases hlt : i < n4
    · obtain ⟨b2, o2, ⟨ba, la, fr, ep, pi, ge, se, tx, ct, rs⟩, A9, n9, c9, rfl, hbl2, hxk2, hc9, hn9, hrd2, hf2, hce2⟩ := HBX.out.at hlt
      have HLD := Lib.hid (lead_rd (c := c9) (row := (Value.slice A7 n7 c7).ownBlock) hrd2 HSZ.out hc9 hn9 hf2 (fun g hg => (OwnT.lt HO.out g hg).1))
      have hblr : b2 < wr.heap.size := Nat.lt_of_lt_of_le hbl2 HSZ.out
      have HS1 := Lib.hid (sub_take1 HSUB.out hxk2)
      have d0 : wr.cell? ⟨b2, o2 + i * 10, none⟩ = some (.int .i64 ba) := hce2 0 _ rfl
      have d1 : wr.cell? ⟨b2, o2 + i * 10 + 1, none⟩ = some (.int .i64 la) := hce2 1 _ rfl
      have d2 : wr.cell? ⟨b2, o2 + i * 10 + 2, none⟩ = some (.int .i64 fr) := hce2 2 _ rfl
      have d3 : wr.cell? ⟨b2, o2 + i * 10 + 3, none⟩ = some (.int .i64 ep) := hce2 3 _ rfl
      have d4 : wr.cell? ⟨b2, o2 + i * 10 + 4, none⟩ = some (.int .i64 pi) := hce2 4 _ rfl
      have d5 : wr.cell? ⟨b2, o2 + i * 10 + 5, none⟩ = some (.int .i64 ge) := hce2 5 _ rfl
      have d6 : wr.cell? ⟨b2, o2 + i * 10 + 6, none⟩ = some (.int .i64 se) := hce2 6 _ rfl
      have d7 : wr.cell? ⟨b2, o2 + i * 10 + 7, none⟩ = some (.bool tx) := hce2 7 _ rfl
      have d8 : wr.cell? ⟨b2, o2 + i * 10 + 8, none⟩ = some (.int .i64 ct) := hce2 8 _ rfl
      have d9 : wr.cell? ⟨b2, o2 + i * 10 + 9, none⟩ = some (.slice A9 n9 c9) := hce2 9 _ rfl
      have hwi : IntKind.i64.wrap ((i : Int) + 1) = (i : Int) + 1 := IntWalk.i64_in _ (by omega)
      have hil : (i : Int) < (n4 : Int) := by omega
      have hi0 : (0 : Int) ≤ (i : Int) := by omega
      obtain ⟨A8, c8, w8, hrun, ho8, hg8, hat8, hb8⟩ := run_appT (P := Tryz.prog) (w := wr) W6.heap.size 33 33 39 Tryz.underlying33 batInfo HO.out (x := (⟨ba, la, fr, ep, pi, ge, se, tx, ct, rs⟩, A9, n9, c9)) HLD.out (by omega) HSZ.out
      dsimp only [batC] at hrun
      have HO8 := Lib.hid ho8
      have HB8 := Lib.hid (HBR.out.trans hb8)
      clear ho8 hg8 hat8 hb8 ho hb hxk2 hrd2 hf2 hce2
      go_wp2_with (at_builtin; refine wpList_app_run rfl _ _ 33 rfl rfl rfl hrun ?_)
      all_goals go_roundw
      all_goals first
        | (simp [intOf]; omega)
        | exact ⟨i + 1, S ++ [_], A8, n7 + 1, c8, rfl, by go_num, by omega, by omega, HS1.out.1, HO8.out, HB8.out⟩
        | exact ⟨i + 1, S, A7, n7, c7, rfl, by go_num, by omega, by omega, HS1.out.2, HO.out, HBR.out⟩
    · obtain rfl : i = n4 := by omega
      have hSL : S.Sublist L := (by have h1 := HSUB.out; rw [List.take_of_length_le (by rw [HN4.out]; exact Nat.le_refl _)] at h1; exact h1)
      rw [← HLB.out] at hSL
      have hrs := repl_some HCK.out HSP.out hSL
      have hrw := repl_want HCK.out HSP.out hSL
      rw [HLB.out] at hSL hrw
      rw [HTK.out] at hrs
      obtain ⟨Y, hY⟩ : ∃ Y : List Sg, Y = l.take q ++ ⟨sb, byR S⟩ :: s2 :: l.drop (q + 2) := ⟨_, rfl⟩
      simp only at hrs hrw
      rw [← hY] at hrs hrw
      have HRP2 := Lib.hid hrs.1
      have HCY := Lib.hid hrs.2.1
      have HEY := Lib.hid (show endT ⟨lim, start, Y⟩ = E by rw [← HE.out]; unfold endT; rw [if_pos hrs.2.1, if_pos HCK.out, hrs.2.2.1])
      have HAY := Lib.hid (show allT ⟨lim, start, Y⟩ = T.filter (pB L S) by rw [← HT9.out]; unfold allT; rw [if_pos hrs.2.1, if_pos HCK.out, hrw])
      have HYL := Lib.hid (show Y.length = n by have h1 := congrArg List.length HSP.out; rw [hY]; simp only [List.length_append, List.length_cons, HLEN.out] at h1 ⊢; omega)
      have hnS : n7 ≤ 1000000 := (by omega)
      have HW_r := Lib.hid (bel_trans HW_6a.out hb)
      have HT_r := Lib.hid (HT_6a.out.bel hb)
      have HL_r := Lib.hid (HL_6a.out.below hb)
      have HV_r := Lib.hid (rdvUp HV_6a.out hb)
      have HR_r := Lib.hid (rdgUp HR_6a.out hb)
      have HBS_r := Lib.hid (rdtUp HBS_6a.out hb)
      have HXR_r := Lib.hid (rdgUp HXR_6a.out hb)
      have HX_r := Lib.hid (HX_6a.out.below hb)
      have HSS_r := Lib.hid (HO.out.rd)
      obtain ⟨hlr_0, hlr_1, hlr_2⟩ := cel3 HL_r.out
      clear ho hb hrs hrw hY hSL hlt
      go_wp2_with (first
        | (go_at_call 31; (with_reducible refine (Replace_is lim start (some ⟨b, o, none⟩) n c l (q : Int) A7 n7 c7 S _ HR_r.out HT_r.out hc (by omega) HSS_r.out (by omega) HRP2.out).mono ?_); rintro e w10 ⟨A10, n10, c10, rfl, ho, hb⟩; have HW_10 := Lib.hid (bel_trans HW_r.out hb); have HT_10 := Lib.hid (HT_r.out.bel hb); have HL_10 := Lib.hid (HL_r.out.below hb); have HV_10 := Lib.hid (rdvUp HV_r.out hb); have HR_10 := Lib.hid (rdgUp HR_r.out hb); have HBS_10 := Lib.hid (rdtUp HBS_r.out hb); have HXR_10 := Lib.hid (rdgUp HXR_r.out hb); have HX_10 := Lib.hid (HX_r.out.below hb); have HSS_10 := Lib.hid (rdtUp HSS_r.out hb); have hc10 := ho.cap; have HN10 := Lib.hid ho.len; have HYR_10 := Lib.hid (ho.rd); have hba := belA w10 (.cells #[.int .i64 lim, .int .i64 start, .slice A10 n10 c10] 24); have HW_10a := Lib.hid (bel_trans HW_10.out hba); have HT_10a := Lib.hid (HT_10.out.bel hba); have HL_10a := Lib.hid (HL_10.out.below hba); have HV_10a := Lib.hid (rdvUp HV_10.out hba); have HR_10a := Lib.hid (rdgUp HR_10.out hba); have HBS_10a := Lib.hid (rdtUp HBS_10.out hba); have HXR_10a := Lib.hid (rdgUp HXR_10.out hba); have HX_10a := Lib.hid (HX_10.out.below hba); have HSS_10a := Lib.hid (rdtUp HSS_10.out hba); have HYR_10a := Lib.hid (rdgUp HYR_10.out hba); have HY_10a := Lib.hid (At0.new w10 [.int .i64 lim, .int .i64 start, .slice A10 n10 c10] 24); obtain ⟨hl10a_0, hl10a_1, hl10a_2⟩ := cel3 HL_10a.out; obtain rfl : n = n10 := HYL.out.symm.trans ho.len; clear hb hba ho)
        | (go_at_call 21; (with_reducible refine (All_is lim start (some ⟨b, o, none⟩) n c l _ HR_10a.out HT_10a.out hc (by omega) HT9.out).mono ?_); rintro e w11 ⟨A11, n11, c11, rfl, ho, hb⟩; have HW_11 := Lib.hid (bel_trans HW_10a.out hb); have HT_11 := Lib.hid (HT_10a.out.bel hb); have HL_11 := Lib.hid (HL_10a.out.below hb); have HV_11 := Lib.hid (rdvUp HV_10a.out hb); have HR_11 := Lib.hid (rdgUp HR_10a.out hb); have HBS_11 := Lib.hid (rdtUp HBS_10a.out hb); have HXR_11 := Lib.hid (rdgUp HXR_10a.out hb); have HX_11 := Lib.hid (HX_10a.out.below hb); have HSS_11 := Lib.hid (rdtUp HSS_10a.out hb); have HYR_11 := Lib.hid (rdgUp HYR_10a.out hb); have HY_11 := Lib.hid (HY_10a.out.below hb); have hc11 := ho.cap; have HN11 := Lib.hid ho.len; have HOT11 := Lib.hid ho; have HTR_11 := Lib.hid (ho.rd); clear hb ho))
      have hn11 : n11 ≤ 12000000 := (by have h1 := HTLL.out; have h2 := HN11.out; omega)
      go_loopw [14, 19] (fun vs vi wr => rqRel T L S n11 w11 vs vi wr) (fun _ vi _ => n11 - (intOf vi).toNat)
      case atStart => exact ⟨0, none, 0, 0, rfl, rfl, Nat.zero_le _, Nat.le_refl _, OwnT.nil, Below.refl _ _⟩
      case round =>
        obtain ⟨m, A12, n12, c12, rfl, rfl, hm, hn12', ho, hb⟩ := hrel
        have HO2 := Lib.hid ho
        have HBR2 := Lib.hid hb
        have HSZ2 := Lib.hid hb.size
        have HTX := Lib.hid (HTR_11.out.below hb (Nat.le_refl _))
        have HW_q := Lib.hid (bel_trans HW_11.out hb)
        have HT_q := Lib.hid (HT_11.out.bel hb)
        have HL_q := Lib.hid (HL_11.out.below hb)
        have HV_q := Lib.hid (rdvUp HV_11.out hb)
        have HR_q := Lib.hid (rdgUp HR_11.out hb)
        have HBS_q := Lib.hid (rdtUp HBS_11.out hb)
        have HXR_q := Lib.hid (rdgUp HXR_11.out hb)
        have HX_q := Lib.hid (HX_11.out.below hb)
        have HSS_q := Lib.hid (rdtUp HSS_11.out hb)
        have HYR_q := Lib.hid (rdgUp HYR_11.out hb)
        have HY_q := Lib.hid (HY_11.out.below hb)
        have HTR_q := Lib.hid (rdtUp HTR_11.out hb)
        clear ho hb
        by_cases hlt : m < n11
        · obtain ⟨b2, o2, ⟨ba, la, fr, ep, pi, ge, se, tx, ct, rs⟩, A9, n9, c9, rfl, hbl2, hxk2, hc9, hn9, hrd2, hf2, hce2⟩ := HTX.out.at hlt
          have HLD2 := Lib.hid (lead_rd (c := c9) (row := (Value.slice A12 n12 c12).ownBlock) hrd2 HSZ2.out hc9 hn9 hf2 (fun g hg => (OwnT.lt HO2.out g hg).1))
          have HXK2 := Lib.hid hxk2
          have hblr : b2 < wr.heap.size := Nat.lt_of_lt_of_le hbl2 HSZ2.out
          have HD := Lib.hid (show AtO wr b2 (o2 + m * 10) [.int .i64 ba, .int .i64 la, .int .i64 fr, .int .i64 ep, .int .i64 pi, .int .i64 ge, .int .i64 se, .bool tx, .int .i64 ct, .slice A9 n9 c9] from ⟨hblr, fun j v hv => hce2 j v hv⟩)
          have d0 : wr.cell? ⟨b2, o2 + m * 10, none⟩ = some (.int .i64 ba) := hce2 0 _ rfl
          have d1 : wr.cell? ⟨b2, o2 + m * 10 + 1, none⟩ = some (.int .i64 la) := hce2 1 _ rfl
          have d2 : wr.cell? ⟨b2, o2 + m * 10 + 2, none⟩ = some (.int .i64 fr) := hce2 2 _ rfl
          have d3 : wr.cell? ⟨b2, o2 + m * 10 + 3, none⟩ = some (.int .i64 ep) := hce2 3 _ rfl
          have d4 : wr.cell? ⟨b2, o2 + m * 10 + 4, none⟩ = some (.int .i64 pi) := hce2 4 _ rfl
          have d5 : wr.cell? ⟨b2, o2 + m * 10 + 5, none⟩ = some (.int .i64 ge) := hce2 5 _ rfl
          have d6 : wr.cell? ⟨b2, o2 + m * 10 + 6, none⟩ = some (.int .i64 se) := hce2 6 _ rfl
          have d7 : wr.cell? ⟨b2, o2 + m * 10 + 7, none⟩ = some (.bool tx) := hce2 7 _ rfl
          have d8 : wr.cell? ⟨b2, o2 + m * 10 + 8, none⟩ = some (.int .i64 ct) := hce2 8 _ rfl
          have d9 : wr.cell? ⟨b2, o2 + m * 10 + 9, none⟩ = some (.slice A9 n9 c9) := hce2 9 _ rfl
          have hwi : IntKind.i64.wrap ((m : Int) + 1) = (m : Int) + 1 := IntWalk.i64_in _ (by omega)
          have hil : (m : Int) < (n11 : Int) := by omega
          have hi0 : (0 : Int) ≤ (m : Int) := by omega
          skip
          clear hxk2 hrd2 hf2 hce2 hblr
          rcases ha1 : (L.any fun x => decide (x.base = ba)) with _ | _
          · have HA1 := Lib.hid ha1
            have HPB := Lib.hid (show pB L S ⟨ba, la, fr, ep, pi, ge, se, tx, ct, rs⟩ = true by unfold pB; rw [HA1.out]; rfl)
            clear ha1
            have HFL := Lib.hid (show (T.take (m + 1)).filter (pB L S) = (T.take m).filter (pB L S) ++ [⟨ba, la, fr, ep, pi, ge, se, tx, ct, rs⟩] by rw [List.take_add_one, HXK2.out, Option.toList_some, List.filter_append, List.filter_cons_of_pos HPB.out, List.filter_nil])
            go_upto_region 20 with (first
              | (go_at_call 44; (with_reducible refine (among9_is A4 i c4 L ba la fr ep pi ge se tx ct A9 n9 c9 _ HBS_q.out (by omega) HA1.out).mono ?_); rintro e w13 ⟨rfl, hb⟩; have HW_13 := Lib.hid (bel_trans HW_q.out hb); have HT_13 := Lib.hid (HT_q.out.bel hb); have HL_13 := Lib.hid (HL_q.out.below hb); have HV_13 := Lib.hid (rdvUp HV_q.out hb); have HR_13 := Lib.hid (rdgUp HR_q.out hb); have HBS_13 := Lib.hid (rdtUp HBS_q.out hb); have HXR_13 := Lib.hid (rdgUp HXR_q.out hb); have HX_13 := Lib.hid (HX_q.out.below hb); have HSS_13 := Lib.hid (rdtUp HSS_q.out hb); have HYR_13 := Lib.hid (rdgUp HYR_q.out hb); have HY_13 := Lib.hid (HY_q.out.below hb); have HTR_13 := Lib.hid (rdtUp HTR_q.out hb); have HD13 := Lib.hid (HD.out.below hb); have HBQ13 := Lib.hid (hb); have x13_0 : w13.cell? ⟨b2, o2 + m * 10, none⟩ = some (.int .i64 ba) := HD13.out.2 0 _ rfl; have x13_1 : w13.cell? ⟨b2, o2 + m * 10 + 1, none⟩ = some (.int .i64 la) := HD13.out.2 1 _ rfl; have x13_2 : w13.cell? ⟨b2, o2 + m * 10 + 2, none⟩ = some (.int .i64 fr) := HD13.out.2 2 _ rfl; have x13_3 : w13.cell? ⟨b2, o2 + m * 10 + 3, none⟩ = some (.int .i64 ep) := HD13.out.2 3 _ rfl; have x13_4 : w13.cell? ⟨b2, o2 + m * 10 + 4, none⟩ = some (.int .i64 pi) := HD13.out.2 4 _ rfl; have x13_5 : w13.cell? ⟨b2, o2 + m * 10 + 5, none⟩ = some (.int .i64 ge) := HD13.out.2 5 _ rfl; have x13_6 : w13.cell? ⟨b2, o2 + m * 10 + 6, none⟩ = some (.int .i64 se) := HD13.out.2 6 _ rfl; have x13_7 : w13.cell? ⟨b2, o2 + m * 10 + 7, none⟩ = some (.bool tx) := HD13.out.2 7 _ rfl; have x13_8 : w13.cell? ⟨b2, o2 + m * 10 + 8, none⟩ = some (.int .i64 ct) := HD13.out.2 8 _ rfl; have x13_9 : w13.cell? ⟨b2, o2 + m * 10 + 9, none⟩ = some (.slice A9 n9 c9) := HD13.out.2 9 _ rfl; have hbx13 := HD13.out.1; clear hb))
            have HO13a := Lib.hid (HO2.out.below HBQ13.out)
            obtain ⟨A8, c8, w18, hrun, ho8, hg8, hat8, hb8⟩ := run_appT (P := Tryz.prog) (w := w13) w11.heap.size 33 33 39 Tryz.underlying33 batInfo HO13a.out (x := (⟨ba, la, fr, ep, pi, ge, se, tx, ct, rs⟩, A9, n9, c9)) (HLD2.out.below HBQ13.out) (by omega) (Nat.le_trans HSZ2.out HBQ13.out.size)
            dsimp only [batC] at hrun
            have HO8 := Lib.hid ho8
            have HB8 := Lib.hid ((HBR2.out.trans (HBQ13.out.mono HSZ2.out)).trans hb8)
            clear ho8 hg8 hat8 hb8
            go_wp2_with (at_builtin; refine wpList_app_run rfl _ _ 33 rfl rfl rfl hrun ?_)
            go_roundw
            case rel => exact ⟨m + 1, A8, n12 + 1, c8, rfl, by go_num, by omega, by omega, by rw [HFL.out]; exact HO8.out, HB8.out⟩
            case measure => simp [intOf]; omega
          · have HA1 := Lib.hid ha1
            clear ha1
            rcases ha2 : (S.any fun x => decide (x.base = ba)) with _ | _
            · have HA2 := Lib.hid ha2
              have HPB := Lib.hid (show pB L S ⟨ba, la, fr, ep, pi, ge, se, tx, ct, rs⟩ = false by unfold pB; rw [HA1.out, HA2.out]; rfl)
              clear ha2
              have HFL := Lib.hid (show (T.take (m + 1)).filter (pB L S) = (T.take m).filter (pB L S) by rw [List.take_add_one, HXK2.out, Option.toList_some, List.filter_append, List.filter_cons_of_neg (by rw [HPB.out]; simp), List.filter_nil, List.append_nil])
              go_wp2_with (first
                | (go_at_call 44; (with_reducible refine (among9_is A4 i c4 L ba la fr ep pi ge se tx ct A9 n9 c9 _ HBS_q.out (by omega) HA1.out).mono ?_); rintro e w13 ⟨rfl, hb⟩; have HW_13 := Lib.hid (bel_trans HW_q.out hb); have HT_13 := Lib.hid (HT_q.out.bel hb); have HL_13 := Lib.hid (HL_q.out.below hb); have HV_13 := Lib.hid (rdvUp HV_q.out hb); have HR_13 := Lib.hid (rdgUp HR_q.out hb); have HBS_13 := Lib.hid (rdtUp HBS_q.out hb); have HXR_13 := Lib.hid (rdgUp HXR_q.out hb); have HX_13 := Lib.hid (HX_q.out.below hb); have HSS_13 := Lib.hid (rdtUp HSS_q.out hb); have HYR_13 := Lib.hid (rdgUp HYR_q.out hb); have HY_13 := Lib.hid (HY_q.out.below hb); have HTR_13 := Lib.hid (rdtUp HTR_q.out hb); have HD13 := Lib.hid (HD.out.below hb); have HBQ13 := Lib.hid (hb); have x13_0 : w13.cell? ⟨b2, o2 + m * 10, none⟩ = some (.int .i64 ba) := HD13.out.2 0 _ rfl; have x13_1 : w13.cell? ⟨b2, o2 + m * 10 + 1, none⟩ = some (.int .i64 la) := HD13.out.2 1 _ rfl; have x13_2 : w13.cell? ⟨b2, o2 + m * 10 + 2, none⟩ = some (.int .i64 fr) := HD13.out.2 2 _ rfl; have x13_3 : w13.cell? ⟨b2, o2 + m * 10 + 3, none⟩ = some (.int .i64 ep) := HD13.out.2 3 _ rfl; have x13_4 : w13.cell? ⟨b2, o2 + m * 10 + 4, none⟩ = some (.int .i64 pi) := HD13.out.2 4 _ rfl; have x13_5 : w13.cell? ⟨b2, o2 + m * 10 + 5, none⟩ = some (.int .i64 ge) := HD13.out.2 5 _ rfl; have x13_6 : w13.cell? ⟨b2, o2 + m * 10 + 6, none⟩ = some (.int .i64 se) := HD13.out.2 6 _ rfl; have x13_7 : w13.cell? ⟨b2, o2 + m * 10 + 7, none⟩ = some (.bool tx) := HD13.out.2 7 _ rfl; have x13_8 : w13.cell? ⟨b2, o2 + m * 10 + 8, none⟩ = some (.int .i64 ct) := HD13.out.2 8 _ rfl; have x13_9 : w13.cell? ⟨b2, o2 + m * 10 + 9, none⟩ = some (.slice A9 n9 c9) := HD13.out.2 9 _ rfl; have hbx13 := HD13.out.1; clear hb)
                | (go_at_call 44; (with_reducible refine (among9_is A7 n7 c7 S ba la fr ep pi ge se tx ct A9 n9 c9 _ HSS_13.out (by omega) HA2.out).mono ?_); rintro e w14 ⟨rfl, hb⟩; have HW_14 := Lib.hid (bel_trans HW_13.out hb); have HT_14 := Lib.hid (HT_13.out.bel hb); have HL_14 := Lib.hid (HL_13.out.below hb); have HV_14 := Lib.hid (rdvUp HV_13.out hb); have HR_14 := Lib.hid (rdgUp HR_13.out hb); have HBS_14 := Lib.hid (rdtUp HBS_13.out hb); have HXR_14 := Lib.hid (rdgUp HXR_13.out hb); have HX_14 := Lib.hid (HX_13.out.below hb); have HSS_14 := Lib.hid (rdtUp HSS_13.out hb); have HYR_14 := Lib.hid (rdgUp HYR_13.out hb); have HY_14 := Lib.hid (HY_13.out.below hb); have HTR_14 := Lib.hid (rdtUp HTR_13.out hb); have HD14 := Lib.hid (HD13.out.below hb); have HBQ14 := Lib.hid (bel_trans HBQ13.out hb); have x14_0 : w14.cell? ⟨b2, o2 + m * 10, none⟩ = some (.int .i64 ba) := HD14.out.2 0 _ rfl; have x14_1 : w14.cell? ⟨b2, o2 + m * 10 + 1, none⟩ = some (.int .i64 la) := HD14.out.2 1 _ rfl; have x14_2 : w14.cell? ⟨b2, o2 + m * 10 + 2, none⟩ = some (.int .i64 fr) := HD14.out.2 2 _ rfl; have x14_3 : w14.cell? ⟨b2, o2 + m * 10 + 3, none⟩ = some (.int .i64 ep) := HD14.out.2 3 _ rfl; have x14_4 : w14.cell? ⟨b2, o2 + m * 10 + 4, none⟩ = some (.int .i64 pi) := HD14.out.2 4 _ rfl; have x14_5 : w14.cell? ⟨b2, o2 + m * 10 + 5, none⟩ = some (.int .i64 ge) := HD14.out.2 5 _ rfl; have x14_6 : w14.cell? ⟨b2, o2 + m * 10 + 6, none⟩ = some (.int .i64 se) := HD14.out.2 6 _ rfl; have x14_7 : w14.cell? ⟨b2, o2 + m * 10 + 7, none⟩ = some (.bool tx) := HD14.out.2 7 _ rfl; have x14_8 : w14.cell? ⟨b2, o2 + m * 10 + 8, none⟩ = some (.int .i64 ct) := HD14.out.2 8 _ rfl; have x14_9 : w14.cell? ⟨b2, o2 + m * 10 + 9, none⟩ = some (.slice A9 n9 c9) := HD14.out.2 9 _ rfl; have hbx14 := HD14.out.1; clear hb))
              go_roundw
              case rel => exact ⟨m + 1, A12, n12, c12, rfl, by go_num, by omega, by omega, by rw [HFL.out]; exact HO2.out.below HBQ14.out, HBR2.out.trans (HBQ14.out.mono HSZ2.out)⟩
              case measure => simp [intOf]; omega
            · have HA2 := Lib.hid ha2
              have HPB := Lib.hid (show pB L S ⟨ba, la, fr, ep, pi, ge, se, tx, ct, rs⟩ = true by unfold pB; rw [HA1.out, HA2.out]; rfl)
              clear ha2
              have HFL := Lib.hid (show (T.take (m + 1)).filter (pB L S) = (T.take m).filter (pB L S) ++ [⟨ba, la, fr, ep, pi, ge, se, tx, ct, rs⟩] by rw [List.take_add_one, HXK2.out, Option.toList_some, List.filter_append, List.filter_cons_of_pos HPB.out, List.filter_nil])
              go_upto_region 20 with (first
                | (go_at_call 44; (with_reducible refine (among9_is A4 i c4 L ba la fr ep pi ge se tx ct A9 n9 c9 _ HBS_q.out (by omega) HA1.out).mono ?_); rintro e w13 ⟨rfl, hb⟩; have HW_13 := Lib.hid (bel_trans HW_q.out hb); have HT_13 := Lib.hid (HT_q.out.bel hb); have HL_13 := Lib.hid (HL_q.out.below hb); have HV_13 := Lib.hid (rdvUp HV_q.out hb); have HR_13 := Lib.hid (rdgUp HR_q.out hb); have HBS_13 := Lib.hid (rdtUp HBS_q.out hb); have HXR_13 := Lib.hid (rdgUp HXR_q.out hb); have HX_13 := Lib.hid (HX_q.out.below hb); have HSS_13 := Lib.hid (rdtUp HSS_q.out hb); have HYR_13 := Lib.hid (rdgUp HYR_q.out hb); have HY_13 := Lib.hid (HY_q.out.below hb); have HTR_13 := Lib.hid (rdtUp HTR_q.out hb); have HD13 := Lib.hid (HD.out.below hb); have HBQ13 := Lib.hid (hb); have x13_0 : w13.cell? ⟨b2, o2 + m * 10, none⟩ = some (.int .i64 ba) := HD13.out.2 0 _ rfl; have x13_1 : w13.cell? ⟨b2, o2 + m * 10 + 1, none⟩ = some (.int .i64 la) := HD13.out.2 1 _ rfl; have x13_2 : w13.cell? ⟨b2, o2 + m * 10 + 2, none⟩ = some (.int .i64 fr) := HD13.out.2 2 _ rfl; have x13_3 : w13.cell? ⟨b2, o2 + m * 10 + 3, none⟩ = some (.int .i64 ep) := HD13.out.2 3 _ rfl; have x13_4 : w13.cell? ⟨b2, o2 + m * 10 + 4, none⟩ = some (.int .i64 pi) := HD13.out.2 4 _ rfl; have x13_5 : w13.cell? ⟨b2, o2 + m * 10 + 5, none⟩ = some (.int .i64 ge) := HD13.out.2 5 _ rfl; have x13_6 : w13.cell? ⟨b2, o2 + m * 10 + 6, none⟩ = some (.int .i64 se) := HD13.out.2 6 _ rfl; have x13_7 : w13.cell? ⟨b2, o2 + m * 10 + 7, none⟩ = some (.bool tx) := HD13.out.2 7 _ rfl; have x13_8 : w13.cell? ⟨b2, o2 + m * 10 + 8, none⟩ = some (.int .i64 ct) := HD13.out.2 8 _ rfl; have x13_9 : w13.cell? ⟨b2, o2 + m * 10 + 9, none⟩ = some (.slice A9 n9 c9) := HD13.out.2 9 _ rfl; have hbx13 := HD13.out.1; clear hb)
                | (go_at_call 44; (with_reducible refine (among9_is A7 n7 c7 S ba la fr ep pi ge se tx ct A9 n9 c9 _ HSS_13.out (by omega) HA2.out).mono ?_); rintro e w14 ⟨rfl, hb⟩; have HW_14 := Lib.hid (bel_trans HW_13.out hb); have HT_14 := Lib.hid (HT_13.out.bel hb); have HL_14 := Lib.hid (HL_13.out.below hb); have HV_14 := Lib.hid (rdvUp HV_13.out hb); have HR_14 := Lib.hid (rdgUp HR_13.out hb); have HBS_14 := Lib.hid (rdtUp HBS_13.out hb); have HXR_14 := Lib.hid (rdgUp HXR_13.out hb); have HX_14 := Lib.hid (HX_13.out.below hb); have HSS_14 := Lib.hid (rdtUp HSS_13.out hb); have HYR_14 := Lib.hid (rdgUp HYR_13.out hb); have HY_14 := Lib.hid (HY_13.out.below hb); have HTR_14 := Lib.hid (rdtUp HTR_13.out hb); have HD14 := Lib.hid (HD13.out.below hb); have HBQ14 := Lib.hid (bel_trans HBQ13.out hb); have x14_0 : w14.cell? ⟨b2, o2 + m * 10, none⟩ = some (.int .i64 ba) := HD14.out.2 0 _ rfl; have x14_1 : w14.cell? ⟨b2, o2 + m * 10 + 1, none⟩ = some (.int .i64 la) := HD14.out.2 1 _ rfl; have x14_2 : w14.cell? ⟨b2, o2 + m * 10 + 2, none⟩ = some (.int .i64 fr) := HD14.out.2 2 _ rfl; have x14_3 : w14.cell? ⟨b2, o2 + m * 10 + 3, none⟩ = some (.int .i64 ep) := HD14.out.2 3 _ rfl; have x14_4 : w14.cell? ⟨b2, o2 + m * 10 + 4, none⟩ = some (.int .i64 pi) := HD14.out.2 4 _ rfl; have x14_5 : w14.cell? ⟨b2, o2 + m * 10 + 5, none⟩ = some (.int .i64 ge) := HD14.out.2 5 _ rfl; have x14_6 : w14.cell? ⟨b2, o2 + m * 10 + 6, none⟩ = some (.int .i64 se) := HD14.out.2 6 _ rfl; have x14_7 : w14.cell? ⟨b2, o2 + m * 10 + 7, none⟩ = some (.bool tx) := HD14.out.2 7 _ rfl; have x14_8 : w14.cell? ⟨b2, o2 + m * 10 + 8, none⟩ = some (.int .i64 ct) := HD14.out.2 8 _ rfl; have x14_9 : w14.cell? ⟨b2, o2 + m * 10 + 9, none⟩ = some (.slice A9 n9 c9) := HD14.out.2 9 _ rfl; have hbx14 := HD14.out.1; clear hb))
              have HO14a := Lib.hid (HO2.out.below HBQ14.out)
              obtain ⟨A8, c8, w18, hrun, ho8, hg8, hat8, hb8⟩ := run_appT (P := Tryz.prog) (w := w14) w11.heap.size 33 33 39 Tryz.underlying33 batInfo HO14a.out (x := (⟨ba, la, fr, ep, pi, ge, se, tx, ct, rs⟩, A9, n9, c9)) (HLD2.out.below HBQ14.out) (by omega) (Nat.le_trans HSZ2.out HBQ14.out.size)
              dsimp only [batC] at hrun
              have HO8 := Lib.hid ho8
              have HB8 := Lib.hid ((HBR2.out.trans (HBQ14.out.mono HSZ2.out)).trans hb8)
              clear ho8 hg8 hat8 hb8
              go_wp2_with (at_builtin; refine wpList_app_run rfl _ _ 33 rfl rfl rfl hrun ?_)
              go_roundw
              case rel => exact ⟨m + 1, A8, n12 + 1, c8, rfl, by go_num, by omega, by omega, by rw [HFL.out]; exact HO8.out, HB8.out⟩
              case measure => simp [intOf]; omega
        · obtain rfl : m = n11 := by omega
          have hwt := HO2.out.rd
          rw [List.take_of_length_le (by rw [HN11.out]; exact Nat.le_refl _)] at hwt
          have HWT_q := Lib.hid hwt
          have HWL := Lib.hid hwt.len
          have hn12b : n12 ≤ 12000000 := (by omega)
          clear hwt
          go_wp2
          have hbd := (Below.refl wr.heap.size wr).drew
          have HW_R21 := Lib.hid (bel_trans HW_q.out hbd)
          have HT_R21 := Lib.hid (HT_q.out.bel hbd)
          have HL_R21 := Lib.hid (HL_q.out.below hbd)
          have HV_R21 := Lib.hid (rdvUp HV_q.out hbd)
          have HR_R21 := Lib.hid (rdgUp HR_q.out hbd)
          have HBS_R21 := Lib.hid (rdtUp HBS_q.out hbd)
          have HXR_R21 := Lib.hid (rdgUp HXR_q.out hbd)
          have HX_R21 := Lib.hid (HX_q.out.below hbd)
          have HSS_R21 := Lib.hid (rdtUp HSS_q.out hbd)
          have HYR_R21 := Lib.hid (rdgUp HYR_q.out hbd)
          have HY_R21 := Lib.hid (HY_q.out.below hbd)
          have HTR_R21 := Lib.hid (rdtUp HTR_q.out hbd)
          have HWT_R21 := Lib.hid (rdtUp HWT_q.out hbd)
          have HSR21 := Lib.hid (show (fun W9 : World => W9.cell? ⟨w6.heap.size, 0, none⟩ = some (.int .i64 lim) ∧ W9.cell? ⟨w6.heap.size, 1, none⟩ = some (.int .i64 start) ∧ W9.cell? ⟨w6.heap.size, 2, none⟩ = some (.slice A6 n c6) ∧ W9.cell? ⟨w.heap.size, 0, none⟩ = some (.int .i64 lim) ∧ W9.cell? ⟨w.heap.size, 1, none⟩ = some (.int .i64 start) ∧ W9.cell? ⟨w.heap.size, 2, none⟩ = some (.slice (some ⟨b, o, none⟩) n c) ∧ W9.cell? ⟨w10.heap.size, 0, none⟩ = some (.int .i64 lim) ∧ W9.cell? ⟨w10.heap.size, 1, none⟩ = some (.int .i64 start) ∧ W9.cell? ⟨w10.heap.size, 2, none⟩ = some (.slice A10 n c10)) wr.drew from ⟨HX_R21.out.cell 0, HX_R21.out.cell 1, HX_R21.out.cell 2, HL_R21.out.cell 0, HL_R21.out.cell 1, HL_R21.out.cell 2, HY_R21.out.cell 0, HY_R21.out.cell 1, HY_R21.out.cell 2⟩)
          clear hbd
          refine region_let (fun W9 : World => W9.cell? ⟨w6.heap.size, 0, none⟩ = some (.int .i64 lim) ∧ W9.cell? ⟨w6.heap.size, 1, none⟩ = some (.int .i64 start) ∧ W9.cell? ⟨w6.heap.size, 2, none⟩ = some (.slice A6 n c6) ∧ W9.cell? ⟨w.heap.size, 0, none⟩ = some (.int .i64 lim) ∧ W9.cell? ⟨w.heap.size, 1, none⟩ = some (.int .i64 start) ∧ W9.cell? ⟨w.heap.size, 2, none⟩ = some (.slice (some ⟨b, o, none⟩) n c) ∧ W9.cell? ⟨w10.heap.size, 0, none⟩ = some (.int .i64 lim) ∧ W9.cell? ⟨w10.heap.size, 1, none⟩ = some (.int .i64 start) ∧ W9.cell? ⟨w10.heap.size, 2, none⟩ = some (.slice A10 n c10)) 99 33 hmx rfl fun ops Q HOPS HQ => ?_
          have HREG := reg_of HOPS tb_ChainReplace21 rfl (by kernel_rfl) (by kernel_rfl) (by decide)
          refine xq 0 HOPS HREG HSR21.out ?_; simp only [ls0, ls1]; refine xq 1 HOPS HREG HSR21.out ?_; simp only [ls0, ls1]; refine xq 2 HOPS HREG HSR21.out ?_; simp only [ls0, ls1]; refine xq 3 HOPS HREG HSR21.out ?_; simp only [ls0, ls1]; refine xq 4 HOPS HREG HSR21.out ?_; simp only [ls0, ls1]; refine xq 5 HOPS HREG HSR21.out ?_; simp only [ls0, ls1]; refine xq 6 HOPS HREG HSR21.out ?_; simp only [ls0, ls1]; refine xq 7 HOPS HREG HSR21.out ?_; simp only [ls0, ls1]
          refine xc 8 HOPS ?_
          go_simp
          with_reducible refine (rSame_is lim start A6 (some ⟨b, o, none⟩) n c6 c l _ HXR_R21.out HR_R21.out (by omega)).mono ?_
          rintro e w15 ⟨rfl, hb⟩
          have HW_15 := Lib.hid (bel_trans HW_R21.out hb)
          have HT_15 := Lib.hid (HT_R21.out.bel hb)
          have HL_15 := Lib.hid (HL_R21.out.below hb)
          have HV_15 := Lib.hid (rdvUp HV_R21.out hb)
          have HR_15 := Lib.hid (rdgUp HR_R21.out hb)
          have HBS_15 := Lib.hid (rdtUp HBS_R21.out hb)
          have HXR_15 := Lib.hid (rdgUp HXR_R21.out hb)
          have HX_15 := Lib.hid (HX_R21.out.below hb)
          have HSS_15 := Lib.hid (rdtUp HSS_R21.out hb)
          have HYR_15 := Lib.hid (rdgUp HYR_R21.out hb)
          have HY_15 := Lib.hid (HY_R21.out.below hb)
          have HTR_15 := Lib.hid (rdtUp HTR_R21.out hb)
          have HWT_15 := Lib.hid (rdtUp HWT_R21.out hb)
          have HSR21w15 := Lib.hid (show (fun W9 : World => W9.cell? ⟨w6.heap.size, 0, none⟩ = some (.int .i64 lim) ∧ W9.cell? ⟨w6.heap.size, 1, none⟩ = some (.int .i64 start) ∧ W9.cell? ⟨w6.heap.size, 2, none⟩ = some (.slice A6 n c6) ∧ W9.cell? ⟨w.heap.size, 0, none⟩ = some (.int .i64 lim) ∧ W9.cell? ⟨w.heap.size, 1, none⟩ = some (.int .i64 start) ∧ W9.cell? ⟨w.heap.size, 2, none⟩ = some (.slice (some ⟨b, o, none⟩) n c) ∧ W9.cell? ⟨w10.heap.size, 0, none⟩ = some (.int .i64 lim) ∧ W9.cell? ⟨w10.heap.size, 1, none⟩ = some (.int .i64 start) ∧ W9.cell? ⟨w10.heap.size, 2, none⟩ = some (.slice A10 n c10)) w15 from ⟨HX_15.out.cell 0, HX_15.out.cell 1, HX_15.out.cell 2, HL_15.out.cell 0, HL_15.out.cell 1, HL_15.out.cell 2, HY_15.out.cell 0, HY_15.out.cell 1, HY_15.out.cell 2⟩)
          clear hb
          refine ⟨HSR21w15.out, ?_⟩
          refine xq 9 HOPS HREG HSR21w15.out ?_; simp only [ls0, ls1]; refine xq 10 HOPS HREG HSR21w15.out ?_; simp only [ls0, ls1]; refine xq 11 HOPS HREG HSR21w15.out ?_; simp only [ls0, ls1]; refine xq 12 HOPS HREG HSR21w15.out ?_; simp only [ls0, ls1]; refine xq 13 HOPS HREG HSR21w15.out ?_; simp only [ls0, ls1]; refine xq 14 HOPS HREG HSR21w15.out ?_; simp only [ls0, ls1]; refine xq 15 HOPS HREG HSR21w15.out ?_; simp only [ls0, ls1]
          refine xc 16 HOPS ?_
          go_simp
          with_reducible refine (Chn.Check_is lim start A10 n c10 Y _ HYR_15.out HT_15.out (by omega) HCY.out).mono ?_
          rintro e w16 ⟨rfl, hb⟩
          have HW_16 := Lib.hid (bel_trans HW_15.out hb)
          have HT_16 := Lib.hid (HT_15.out.bel hb)
          have HL_16 := Lib.hid (HL_15.out.below hb)
          have HV_16 := Lib.hid (rdvUp HV_15.out hb)
          have HR_16 := Lib.hid (rdgUp HR_15.out hb)
          have HBS_16 := Lib.hid (rdtUp HBS_15.out hb)
          have HXR_16 := Lib.hid (rdgUp HXR_15.out hb)
          have HX_16 := Lib.hid (HX_15.out.below hb)
          have HSS_16 := Lib.hid (rdtUp HSS_15.out hb)
          have HYR_16 := Lib.hid (rdgUp HYR_15.out hb)
          have HY_16 := Lib.hid (HY_15.out.below hb)
          have HTR_16 := Lib.hid (rdtUp HTR_15.out hb)
          have HWT_16 := Lib.hid (rdtUp HWT_15.out hb)
          have HSR21w16 := Lib.hid (show (fun W9 : World => W9.cell? ⟨w6.heap.size, 0, none⟩ = some (.int .i64 lim) ∧ W9.cell? ⟨w6.heap.size, 1, none⟩ = some (.int .i64 start) ∧ W9.cell? ⟨w6.heap.size, 2, none⟩ = some (.slice A6 n c6) ∧ W9.cell? ⟨w.heap.size, 0, none⟩ = some (.int .i64 lim) ∧ W9.cell? ⟨w.heap.size, 1, none⟩ = some (.int .i64 start) ∧ W9.cell? ⟨w.heap.size, 2, none⟩ = some (.slice (some ⟨b, o, none⟩) n c) ∧ W9.cell? ⟨w10.heap.size, 0, none⟩ = some (.int .i64 lim) ∧ W9.cell? ⟨w10.heap.size, 1, none⟩ = some (.int .i64 start) ∧ W9.cell? ⟨w10.heap.size, 2, none⟩ = some (.slice A10 n c10)) w16 from ⟨HX_16.out.cell 0, HX_16.out.cell 1, HX_16.out.cell 2, HL_16.out.cell 0, HL_16.out.cell 1, HL_16.out.cell 2, HY_16.out.cell 0, HY_16.out.cell 1, HY_16.out.cell 2⟩)
          clear hb
          refine ⟨HSR21w16.out, ?_⟩
          refine xq 17 HOPS HREG HSR21w16.out ?_; simp only [ls0, ls1]; refine xq 18 HOPS HREG HSR21w16.out ?_; simp only [ls0, ls1]; refine xq 19 HOPS HREG HSR21w16.out ?_; simp only [ls0, ls1]; refine xq 20 HOPS HREG HSR21w16.out ?_; simp only [ls0, ls1]; refine xq 22 HOPS HREG HSR21w16.out ?_; simp only [ls0, ls1]
          refine xc 21 HOPS ?_
          go_simp
          with_reducible refine (Chn.End_is lim start A10 n c10 Y _ HYR_16.out HT_16.out (by omega) HEY.out).mono ?_
          rintro e w17 ⟨rfl, hb⟩
          have HW_17 := Lib.hid (bel_trans HW_16.out hb)
          have HT_17 := Lib.hid (HT_16.out.bel hb)
          have HL_17 := Lib.hid (HL_16.out.below hb)
          have HV_17 := Lib.hid (rdvUp HV_16.out hb)
          have HR_17 := Lib.hid (rdgUp HR_16.out hb)
          have HBS_17 := Lib.hid (rdtUp HBS_16.out hb)
          have HXR_17 := Lib.hid (rdgUp HXR_16.out hb)
          have HX_17 := Lib.hid (HX_16.out.below hb)
          have HSS_17 := Lib.hid (rdtUp HSS_16.out hb)
          have HYR_17 := Lib.hid (rdgUp HYR_16.out hb)
          have HY_17 := Lib.hid (HY_16.out.below hb)
          have HTR_17 := Lib.hid (rdtUp HTR_16.out hb)
          have HWT_17 := Lib.hid (rdtUp HWT_16.out hb)
          have HSR21w17 := Lib.hid (show (fun W9 : World => W9.cell? ⟨w6.heap.size, 0, none⟩ = some (.int .i64 lim) ∧ W9.cell? ⟨w6.heap.size, 1, none⟩ = some (.int .i64 start) ∧ W9.cell? ⟨w6.heap.size, 2, none⟩ = some (.slice A6 n c6) ∧ W9.cell? ⟨w.heap.size, 0, none⟩ = some (.int .i64 lim) ∧ W9.cell? ⟨w.heap.size, 1, none⟩ = some (.int .i64 start) ∧ W9.cell? ⟨w.heap.size, 2, none⟩ = some (.slice (some ⟨b, o, none⟩) n c) ∧ W9.cell? ⟨w10.heap.size, 0, none⟩ = some (.int .i64 lim) ∧ W9.cell? ⟨w10.heap.size, 1, none⟩ = some (.int .i64 start) ∧ W9.cell? ⟨w10.heap.size, 2, none⟩ = some (.slice A10 n c10)) w17 from ⟨HX_17.out.cell 0, HX_17.out.cell 1, HX_17.out.cell 2, HL_17.out.cell 0, HL_17.out.cell 1, HL_17.out.cell 2, HY_17.out.cell 0, HY_17.out.cell 1, HY_17.out.cell 2⟩)
          clear hb
          refine ⟨HSR21w17.out, ?_⟩
          refine xc 23 HOPS ?_
          go_simp
          with_reducible refine (Chn.End_is lim start (some ⟨b, o, none⟩) n c l _ HR_17.out HT_17.out (by omega) HE.out).mono ?_
          rintro e w18 ⟨rfl, hb⟩
          have HW_18 := Lib.hid (bel_trans HW_17.out hb)
          have HT_18 := Lib.hid (HT_17.out.bel hb)
          have HL_18 := Lib.hid (HL_17.out.below hb)
          have HV_18 := Lib.hid (rdvUp HV_17.out hb)
          have HR_18 := Lib.hid (rdgUp HR_17.out hb)
          have HBS_18 := Lib.hid (rdtUp HBS_17.out hb)
          have HXR_18 := Lib.hid (rdgUp HXR_17.out hb)
          have HX_18 := Lib.hid (HX_17.out.below hb)
          have HSS_18 := Lib.hid (rdtUp HSS_17.out hb)
          have HYR_18 := Lib.hid (rdgUp HYR_17.out hb)
          have HY_18 := Lib.hid (HY_17.out.below hb)
          have HTR_18 := Lib.hid (rdtUp HTR_17.out hb)
          have HWT_18 := Lib.hid (rdtUp HWT_17.out hb)
          have HSR21w18 := Lib.hid (show (fun W9 : World => W9.cell? ⟨w6.heap.size, 0, none⟩ = some (.int .i64 lim) ∧ W9.cell? ⟨w6.heap.size, 1, none⟩ = some (.int .i64 start) ∧ W9.cell? ⟨w6.heap.size, 2, none⟩ = some (.slice A6 n c6) ∧ W9.cell? ⟨w.heap.size, 0, none⟩ = some (.int .i64 lim) ∧ W9.cell? ⟨w.heap.size, 1, none⟩ = some (.int .i64 start) ∧ W9.cell? ⟨w.heap.size, 2, none⟩ = some (.slice (some ⟨b, o, none⟩) n c) ∧ W9.cell? ⟨w10.heap.size, 0, none⟩ = some (.int .i64 lim) ∧ W9.cell? ⟨w10.heap.size, 1, none⟩ = some (.int .i64 start) ∧ W9.cell? ⟨w10.heap.size, 2, none⟩ = some (.slice A10 n c10)) w18 from ⟨HX_18.out.cell 0, HX_18.out.cell 1, HX_18.out.cell 2, HL_18.out.cell 0, HL_18.out.cell 1, HL_18.out.cell 2, HY_18.out.cell 0, HY_18.out.cell 1, HY_18.out.cell 2⟩)
          clear hb
          refine ⟨HSR21w18.out, ?_⟩
          refine xq 24 HOPS HREG HSR21w18.out ?_; simp only [ls0, ls1]; refine xq 25 HOPS HREG HSR21w18.out ?_; simp only [ls0, ls1]; refine xq 26 HOPS HREG HSR21w18.out ?_; simp only [ls0, ls1]; refine xq 27 HOPS HREG HSR21w18.out ?_; simp only [ls0, ls1]; refine xq 29 HOPS HREG HSR21w18.out ?_; simp only [ls0, ls1]
          refine xc 28 HOPS ?_
          go_simp
          with_reducible refine (All_is lim start A10 n c10 Y _ HYR_18.out HT_18.out hc10 (by omega) HAY.out).mono ?_
          rintro e w19 ⟨A19, n19, c19, rfl, ho, hb⟩
          have HW_19 := Lib.hid (bel_trans HW_18.out hb)
          have HT_19 := Lib.hid (HT_18.out.bel hb)
          have HL_19 := Lib.hid (HL_18.out.below hb)
          have HV_19 := Lib.hid (rdvUp HV_18.out hb)
          have HR_19 := Lib.hid (rdgUp HR_18.out hb)
          have HBS_19 := Lib.hid (rdtUp HBS_18.out hb)
          have HXR_19 := Lib.hid (rdgUp HXR_18.out hb)
          have HX_19 := Lib.hid (HX_18.out.below hb)
          have HSS_19 := Lib.hid (rdtUp HSS_18.out hb)
          have HYR_19 := Lib.hid (rdgUp HYR_18.out hb)
          have HY_19 := Lib.hid (HY_18.out.below hb)
          have HTR_19 := Lib.hid (rdtUp HTR_18.out hb)
          have HWT_19 := Lib.hid (rdtUp HWT_18.out hb)
          obtain rfl : n12 = n19 := HWL.out.symm.trans ho.len
          have HYT_19 := Lib.hid (ho.rd)
          clear ho
          have HSR21w19 := Lib.hid (show (fun W9 : World => W9.cell? ⟨w6.heap.size, 0, none⟩ = some (.int .i64 lim) ∧ W9.cell? ⟨w6.heap.size, 1, none⟩ = some (.int .i64 start) ∧ W9.cell? ⟨w6.heap.size, 2, none⟩ = some (.slice A6 n c6) ∧ W9.cell? ⟨w.heap.size, 0, none⟩ = some (.int .i64 lim) ∧ W9.cell? ⟨w.heap.size, 1, none⟩ = some (.int .i64 start) ∧ W9.cell? ⟨w.heap.size, 2, none⟩ = some (.slice (some ⟨b, o, none⟩) n c) ∧ W9.cell? ⟨w10.heap.size, 0, none⟩ = some (.int .i64 lim) ∧ W9.cell? ⟨w10.heap.size, 1, none⟩ = some (.int .i64 start) ∧ W9.cell? ⟨w10.heap.size, 2, none⟩ = some (.slice A10 n c10)) w19 from ⟨HX_19.out.cell 0, HX_19.out.cell 1, HX_19.out.cell 2, HL_19.out.cell 0, HL_19.out.cell 1, HL_19.out.cell 2, HY_19.out.cell 0, HY_19.out.cell 1, HY_19.out.cell 2⟩)
          clear hb
          refine ⟨HSR21w19.out, ?_⟩
          refine xc 30 HOPS ?_
          go_simp
          with_reducible refine (SameAll_is A19 A12 n12 c19 n12 c12 _ _ _ HYT_19.out HWT_19.out (by omega) (by omega) (eqT_self _)).mono ?_
          rintro e w20 ⟨rfl, hb⟩
          have HW_20 := Lib.hid (bel_trans HW_19.out hb)
          have HT_20 := Lib.hid (HT_19.out.bel hb)
          have HL_20 := Lib.hid (HL_19.out.below hb)
          have HV_20 := Lib.hid (rdvUp HV_19.out hb)
          have HR_20 := Lib.hid (rdgUp HR_19.out hb)
          have HBS_20 := Lib.hid (rdtUp HBS_19.out hb)
          have HXR_20 := Lib.hid (rdgUp HXR_19.out hb)
          have HX_20 := Lib.hid (HX_19.out.below hb)
          have HSS_20 := Lib.hid (rdtUp HSS_19.out hb)
          have HYR_20 := Lib.hid (rdgUp HYR_19.out hb)
          have HY_20 := Lib.hid (HY_19.out.below hb)
          have HTR_20 := Lib.hid (rdtUp HTR_19.out hb)
          have HWT_20 := Lib.hid (rdtUp HWT_19.out hb)
          have HYT_20 := Lib.hid (rdtUp HYT_19.out hb)
          have HSR21w20 := Lib.hid (show (fun W9 : World => W9.cell? ⟨w6.heap.size, 0, none⟩ = some (.int .i64 lim) ∧ W9.cell? ⟨w6.heap.size, 1, none⟩ = some (.int .i64 start) ∧ W9.cell? ⟨w6.heap.size, 2, none⟩ = some (.slice A6 n c6) ∧ W9.cell? ⟨w.heap.size, 0, none⟩ = some (.int .i64 lim) ∧ W9.cell? ⟨w.heap.size, 1, none⟩ = some (.int .i64 start) ∧ W9.cell? ⟨w.heap.size, 2, none⟩ = some (.slice (some ⟨b, o, none⟩) n c) ∧ W9.cell? ⟨w10.heap.size, 0, none⟩ = some (.int .i64 lim) ∧ W9.cell? ⟨w10.heap.size, 1, none⟩ = some (.int .i64 start) ∧ W9.cell? ⟨w10.heap.size, 2, none⟩ = some (.slice A10 n c10)) w20 from ⟨HX_20.out.cell 0, HX_20.out.cell 1, HX_20.out.cell 2, HL_20.out.cell 0, HL_20.out.cell 1, HL_20.out.cell 2, HY_20.out.cell 0, HY_20.out.cell 1, HY_20.out.cell 2⟩)
          clear hb
          refine ⟨HSR21w20.out, ?_⟩
          refine xq 31 HOPS HREG HSR21w20.out ?_; simp only [ls0, ls1]; refine xq 32 HOPS HREG HSR21w20.out ?_; simp only [ls0, ls1]
          refine stepE HOPS (by kernel_rfl) (HQ.out _ _ ?_)
          clear HQ HREG HOPS
          clear Q ops
          go_wp2
          go_ret
          exact ⟨rfl, HW_20.out⟩
end Go.Proofs.YtejcjmiofidedaaGreatDoor.Chn

namespace Go.Proofs.YtejcjmiofidedaaGreatDoor.chainReplace
open Go.ChangeShapes Go.WideShapes Go.ChangeAt Go.RowKit

theorem own : ownKnob Tryz.prog.godebug = none := by kernel_rfl
theorem laidOut : laidOutB Tryz.prog = true := by kernel_rfl

set_option maxRecDepth 100000 in
theorem lifted (os : Os) (started : os.Started) (H : Type) (enc : TypeId × Value → H) :
    ReturnsInHanded {} Tryz.checked os 11 .any (fun w args => (Rows.chainReplaceSpec.pre enc Tryz.prog Tryz.f11 [] false w args ∧ laidMetH Tryz.prog Crc.listed w) ∧ sizedMet enc Tryz.prog Tryz.f11 (OpenSpec.ofChange Rows.chainReplaceSpec) false w args)
      (Rows.chainReplaceSpec.post enc Tryz.prog Tryz.f11 false true false false) := by
  refine returnsInHanded_of_change_and (C := Tryz.checked) (X := fun w _ => laidMetH Tryz.prog Crc.listed w) (fun _ _ _ hh h => h.of_heap hh) own started (by kernel_rfl) Tryz.func11
    (ChangeSpec.witness_shaped (enc := enc) (C := Tryz.checked) (os := os) (X := fun w _ => laidMetH Tryz.prog Crc.listed w) false (World.doorLaid Tryz.prog 400 os) #[.agg #[.int .i64 0, .int .i64 0, .slice none 0 0], .int .i64 0, .int .i64 0] 8 rfl (World.shaped_of_RefB (by kernel_rfl) (by kernel_rfl)) (by kernel_rfl) (by kernel_rfl) (by kernel_rfl) (Crc.door_met os _)) ?_
  intro W base args ds gs before hval0 hW _ hwt hL _
  have hval : ∀ (j : Nat) t v, Tryz.f11.params[j]? = some t → args[j]? = some v → Value.okWide Tryz.prog W .any base t v := hval0
  have hW' := hW
  obtain ⟨p, q, hA0, hV, rfl, hfz, hnd⟩ := hW
  have hA : DataW.TrodAll enc Tryz.prog W 0 (fun _ => true) true Tryz.f11.params.toList args.toList ds p := hA0
  rw [Tryz.params11] at hA hval
  obtain ⟨v0, vs0, d0, ds0, p0, q0, hargs, rfl, rfl, h0, r0⟩ := trodAll_cons hA
  obtain ⟨v1, vs1, d1, ds1, p1, q1, rfl, rfl, rfl, h1, r1⟩ := trodAll_cons r0
  obtain ⟨v2, vs2, d2, ds2, p2, q2, rfl, rfl, rfl, h2, r2⟩ := trodAll_cons r1
  obtain ⟨rfl, rfl, rfl⟩ := trodAll_nil r2
  obtain rfl : args = #[v0, v1, v2] := by cases args; simp_all
  obtain ⟨rfl, rfl⟩ := trodVars_none hV
  have k0 := h0
  have lt0 : ∀ x ∈ p0, x.block < W.heap.size := by obtain ⟨m, hm⟩ := k0; exact DataW.trod_lt m _ _ _ hm
  obtain ⟨lim_0, st_0, A_0, n_0, c_0, l_0, rfl, hi_0, hj_0, hc_0, hk_0, hR_0⟩ := Chn.open_log (hval 0 24 v0 rfl rfl) h0 (Bat.weights_arg (j := 0) hwt (by kernel_rfl) rfl)
  have k1 := h1
  have lt1 : ∀ x ∈ p1, x.block < W.heap.size := by obtain ⟨m, hm⟩ := k1; exact DataW.trod_lt m _ _ _ hm
  obtain ⟨a1, rfl, hi1⟩ := Oct.open_i64 Tryz.underlying3 (hval 1 3 v1 rfl rfl) h1
  have k2 := h2
  have lt2 : ∀ x ∈ p2, x.block < W.heap.size := by obtain ⟨m, hm⟩ := k2; exact DataW.trod_lt m _ _ _ hm
  obtain ⟨a2, rfl, hi2⟩ := Oct.open_i64 Tryz.underlying3 (hval 2 3 v2 rfl rfl) h2
  clear hA0 hval0
  refine (Chn.chainReplace_walk lim_0 st_0 A_0 n_0 c_0 l_0 a1 a2 W hi_0 hj_0 hc_0 hk_0 hR_0 hi1 hi2 (Crc.tab_of_laid hL)).mono fun e W' ⟨he, bel⟩ => ?_
  subst he
  exact ⟨_, rfl, _, _, _, [], _, [], hW', trodAll_mk1 (shut_bool Tryz.underlying4 _), (trodAll_cons_mk (Below.trod laidOut (by kernel_rfl) (of_decide_eq_true (by kernel_rfl)) k0 bel lt0) (trodAll_cons_mk (Below.trod laidOut (by kernel_rfl) (of_decide_eq_true (by kernel_rfl)) k1 bel lt1) (trodAll_cons_mk (Below.trod laidOut (by kernel_rfl) (of_decide_eq_true (by kernel_rfl)) k2 bel lt2) trodAll_mk0))), rfl, bel.frame _, fun h => by cases h⟩

theorem over : Rows.chainReplaceRow.holds Tryz.pinned (OpenSpec.ofChange Rows.chainReplaceSpec) :=
  OpenClaim.holds_of_wide 11 Tryz.f11 rfl rfl rfl rfl rfl rfl rfl ⟨rfl, rfl, rfl, rfl, rfl⟩ rfl rfl rfl rfl rfl (by kernel_rfl) Tryz.func11 (by kernel_rfl)
    (of_decide_eq_true (by kernel_rfl)) (by unfold Func.isWrapper; first | (rw [if_pos (by decide +kernel)]; kernel_rfl) | (rw [if_neg (by decide +kernel)]; exact ⟨rfl, rfl⟩))
    (fun os started H enc _ => lifted os started H enc)

theorem proved : Rows.ChainReplaceCardSaid :=
  Claim7.holds_tied_plain_at .later [] [.data] true (true, "43519ac59a7675b2f2d9aeca7eaf360146488e8a78a978de494d5127d8d19227") false
    over (fun _ h => by cases h) (by kernel_rfl) (fun _ h => by cases h) chainReplace_row_tie rfl ⟨rfl, rfl⟩ (by kernel_rfl) rfl
    (fun f fn hf hfn => by
      obtain rfl : f = 11 := Option.some.inj ((show Tryz.prog.funcNamed "watermeet/watermeetlaw09.ChainReplace" = some 11 by kernel_rfl).symm.trans hf) |>.symm
      obtain rfl : fn = Tryz.f11 := (Option.some.inj (Tryz.func11.symm.trans hfn)).symm
      exact ⟨by kernel_rfl, fun j t ht => by
        rw [Tryz.params11] at ht
        have hm : t ∈ [24, 3, 3] := by simpa using Array.mem_of_getElem? ht
        have hall : ([24, 3, 3].all fun u => !Tryz.prog.wantsStandIn u) = true := by kernel_rfl
        exact (show Tryz.prog.wantsStandIn t = false by simpa using List.all_eq_true.1 hall t hm)⟩)
    (by kernel_rfl)
#print axioms proved
end Go.Proofs.YtejcjmiofidedaaGreatDoor.chainReplace
