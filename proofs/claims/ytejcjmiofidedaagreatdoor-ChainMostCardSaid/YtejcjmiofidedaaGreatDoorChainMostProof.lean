/- Of any log, offset and number of bytes: what is read has no more bytes, but for one batch alone, is the beginning of all, and one more would be too much; no condition.
-/
import Derived.Test.YtejcjmiofidedaaGreatDoorChnLv
import Derived.Test.YtejcjmiofidedaaGreatDoorJChnW
import Derived.Test.YtejcjmiofidedaaGreatDoorSegSA
import Derived.Test.YtejcjmiofidedaaGreatDoorRows
import Derived.WalkKit
import Derived.ProofKit
import Derived.OpenShut
import Derived.ChangeOld
import Derived.Below
import Derived.Carry
import Derived.Test.YtejcjmiofidedaaGreatDoorJOct
import Derived.Test.YtejcjmiofidedaaGreatDoorJCrc
import Derived.Test.YtejcjmiofidedaaGreatDoorTie
import Derived.Test.YtejcjmiofidedaaGreatDoorCards
import Derived.SevenTiedAt
/- The walk of ChainMost. -/
namespace Go.Proofs.YtejcjmiofidedaaGreatDoor.Chn
open Go.RowKit Oct Rec Crc Bat Lay Seg RowF InR

def msRel (T : List Bt) (n1 : Nat) (w : World) (mv iv : Value) (wr : World) : Prop := ∃ k m : Nat, mv = .int .i64 (m : Int) ∧ iv = .int .i64 (k : Int) ∧ k ≤ n1 ∧ (m : Int) = sizeB (T.take k) ∧ m ≤ k * 2048 ∧ Below w.heap.size w wr
set_option maxRecDepth 100000 in
set_option maxHeartbeats 16000000 in
theorem chainMost_walk (lim start : Int) (A : Option Addr) (n c : Nat) (l : List Sg) (off most : Int) (w : World) (_hi : I64 lim) (_hs : I64 start) (hc : n ≤ c) (hk : c ≤ reach) (hR : RdL w w.heap.size A n l) (_hj : I64 off) (hm : I64 most) (ht : Tab w) :
    Calls Tryz.prog 8 #[.agg #[.int .i64 lim, .int .i64 start, .slice A n c], .int .i64 off, .int .i64 most] w fun e w' => e = .returned (.bool true) ∧ Below w.heap.size w w' := by
  have hba := belA w (.cells #[.int .i64 lim, .int .i64 start, .slice A n c] 24)
  have HT_0 := Lib.hid (ht.bel hba)
  have HW_0 := Lib.hid hba
  have HL_0 := Lib.hid (At0.new w [.int .i64 lim, .int .i64 start, .slice A n c] 24)
  have HV_0 := Lib.hid (rdvUp hR hba)
  have hnr := Nat.le_trans hc hk
  have HF0 := Lib.hid (show ((([] : List Bt).all fewT && decide ((([] : List Bt).length : Int) ≤ 40))) = true by decide)
  rcases hfg : fewG l with _ | _
  · have HFG := Lib.hid hfg
    clear hR ht hba hfg
    go_enter Tryz.func8, Tryz.ntmps8
    go_wp2_with (first
      | (go_at_call 12; (with_reducible refine (live9_any _ HT_0.out).mono ?_); rintro e w1 ⟨rfl, hb⟩; have HW_1 := Lib.hid (bel_trans HW_0.out hb); have HT_1 := Lib.hid (HT_0.out.bel hb); have HL_1 := Lib.hid (HL_0.out.below hb); have HV_1 := Lib.hid (rdvUp HV_0.out hb); obtain ⟨hl1_0, hl1_1, hl1_2⟩ := cel3 HL_1.out; clear hb)
      | (go_at_call 13; (with_reducible refine (few9_is lim start A n c l none 0 0 [] _ HV_1.out hnr RdL.nil (Nat.zero_le _) HFG.out HF0.out (Bool.and_true false)).mono ?_); rintro e w2 ⟨rfl, hb⟩; have HW_2 := Lib.hid (bel_trans HW_1.out hb); have HT_2 := Lib.hid (HT_1.out.bel hb); have HL_2 := Lib.hid (HL_1.out.below hb); have HV_2 := Lib.hid (rdvUp HV_1.out hb); clear hb))
    go_ret
    exact ⟨rfl, HW_2.out⟩
  have HFG := Lib.hid hfg
  obtain ⟨hrg, hn12⟩ := rdG_of hR hfg
  have HR_0 := Lib.hid (rdgUp hrg hba)
  obtain ⟨hf1, hf2⟩ := fewG_iff.1 hfg
  by_cases hm0 : most < 0
  · clear hR ht hba hfg hrg hf1 hf2
    go_enter Tryz.func8, Tryz.ntmps8
    go_wp2_with (first
      | (go_at_call 12; (with_reducible refine (live9_any _ HT_0.out).mono ?_); rintro e w1 ⟨rfl, hb⟩; have HW_1 := Lib.hid (bel_trans HW_0.out hb); have HT_1 := Lib.hid (HT_0.out.bel hb); have HL_1 := Lib.hid (HL_0.out.below hb); have HV_1 := Lib.hid (rdvUp HV_0.out hb); obtain ⟨hl1_0, hl1_1, hl1_2⟩ := cel3 HL_1.out; clear hb)
      | (go_at_call 13; (with_reducible refine (few9_is lim start A n c l none 0 0 [] _ HV_1.out hnr RdL.nil (Nat.zero_le _) HFG.out HF0.out (Bool.and_true true)).mono ?_); rintro e w2 ⟨rfl, hb⟩; have HW_2 := Lib.hid (bel_trans HW_1.out hb); have HT_2 := Lib.hid (HT_1.out.bel hb); have HL_2 := Lib.hid (HL_1.out.below hb); have HV_2 := Lib.hid (rdvUp HV_1.out hb); clear hb))
    go_ret
    exact ⟨rfl, HW_2.out⟩
  have hI50 : I64 1125899906842624 := by unfold I64; omega
  rcases readL_two (l := ⟨lim, start, l⟩) (off := off) (a := most) (by omega) hf1 hf2 with ⟨e, he, hr1, hr2⟩ | ⟨Z, k1, hr1, hr2, hz1, hz2, hz3, hz4, hz5⟩
  · have HR1 := Lib.hid hr1
    have HR2 := Lib.hid hr2
    have hcn := bne_iff_ne.2 he
    clear hR ht hba hfg hrg hf1 hf2 hr1 hr2 he
    go_enter Tryz.func8, Tryz.ntmps8
    go_wp2_with (first
      | (go_at_call 12; (with_reducible refine (live9_any _ HT_0.out).mono ?_); rintro e w1 ⟨rfl, hb⟩; have HW_1 := Lib.hid (bel_trans HW_0.out hb); have HT_1 := Lib.hid (HT_0.out.bel hb); have HL_1 := Lib.hid (HL_0.out.below hb); have HV_1 := Lib.hid (rdvUp HV_0.out hb); have HR_1 := Lib.hid (rdgUp HR_0.out hb); obtain ⟨hl1_0, hl1_1, hl1_2⟩ := cel3 HL_1.out; clear hb)
      | (go_at_call 13; (with_reducible refine (few9_is lim start A n c l none 0 0 [] _ HV_1.out hnr RdL.nil (Nat.zero_le _) HFG.out HF0.out (Bool.and_true true)).mono ?_); rintro e w2 ⟨rfl, hb⟩; have HW_2 := Lib.hid (bel_trans HW_1.out hb); have HT_2 := Lib.hid (HT_1.out.bel hb); have HL_2 := Lib.hid (HL_1.out.below hb); have HV_2 := Lib.hid (rdvUp HV_1.out hb); have HR_2 := Lib.hid (rdgUp HR_1.out hb); obtain ⟨hl2_0, hl2_1, hl2_2⟩ := cel3 HL_2.out; clear hb)
      | (go_at_call 33; (with_reducible refine (Read_is lim start off most A n c l _ HR_2.out HT_2.out hc (by omega) hm HR1.out).mono ?_); rintro e w4 ⟨A4, n4, c4, rfl, ho, hb⟩; have HW_4 := Lib.hid (bel_trans HW_2.out hb); have HT_4 := Lib.hid (HT_2.out.bel hb); have HL_4 := Lib.hid (HL_2.out.below hb); have HV_4 := Lib.hid (rdvUp HV_2.out hb); have HR_4 := Lib.hid (rdgUp HR_2.out hb); have hc4 := ho.cap; have HN4 := Lib.hid ho.len; have HS_4 := Lib.hid (ho.rd); obtain ⟨hl4_0, hl4_1, hl4_2⟩ := cel3 HL_4.out; obtain rfl : 0 = n4 := ho.len; clear hb ho)
      | (go_at_call 33; (with_reducible refine (Read_is lim start off 1125899906842624 A n c l _ HR_4.out HT_4.out hc (by omega) hI50 HR2.out).mono ?_); rintro e w5 ⟨A5, n5, c5, rfl, ho, hb⟩; have HW_5 := Lib.hid (bel_trans HW_4.out hb); have HT_5 := Lib.hid (HT_4.out.bel hb); have HL_5 := Lib.hid (HL_4.out.below hb); have HV_5 := Lib.hid (rdvUp HV_4.out hb); have HR_5 := Lib.hid (rdgUp HR_4.out hb); have HS_5 := Lib.hid (rdtUp HS_4.out hb); have hc5 := ho.cap; have HN5 := Lib.hid ho.len; have HZ_5 := Lib.hid (ho.rd); clear hb ho))
    go_ret
    exact ⟨rfl, HW_5.out⟩
  obtain ⟨T, hTT⟩ : ∃ T, T = Z.take k1 := ⟨_, rfl⟩
  rw [← hTT] at hr1 hz3 hz4
  have HR1 := Lib.hid hr1
  have HR2 := Lib.hid hr2
  have HTT := Lib.hid hTT
  have hTL : T.length = k1 := by rw [hTT, List.length_take]; omega
  have HTL := Lib.hid hTL
  have HZ3 := Lib.hid hz3
  have HZ4 := Lib.hid hz4
  have HZ5 := Lib.hid hz5
  have HZ1 := Lib.hid hz1
  have HZ2 := Lib.hid hz2
  have hZL : Z.length ≤ 12000000 := by
    by_cases h0 : ckL ⟨lim, start, l⟩ = 0
    · have h1 := allL_len (l := ⟨lim, start, l⟩) (m := 5000) hf1
      have h2 : Z.length ≤ (allL ⟨lim, start, l⟩).length := by
        unfold readL at hr2
        rw [if_neg (by omega), if_neg (by decide)] at hr2
        split at hr2
        · injection hr2 with _ h9; cases h9
        · injection hr2 with h9 _
          rw [← h9]
          obtain ⟨k9, _, h8, _⟩ := takeB_pre 1125899906842624 ((allL ⟨lim, start, l⟩).filter fun b => decide (off ≤ b.last))
          rw [h8]
          exact Nat.le_trans (by rw [List.length_take]; exact Nat.min_le_right _ _) (List.length_filter_le _ _)
      simp only at h1
      omega
    · unfold readL at hr2
      rw [if_pos h0] at hr2
      injection hr2 with h9 _
      rw [← h9]
      exact Nat.zero_le _
  clear hR ht hba hfg hrg hf1 hf2 hr1 hr2 hz1 hz2 hz3 hz4 hz5 hTT hTL
  go_enter Tryz.func8, Tryz.ntmps8
  go_wp2_with (first
    | (go_at_call 12; (with_reducible refine (live9_any _ HT_0.out).mono ?_); rintro e w1 ⟨rfl, hb⟩; have HW_1 := Lib.hid (bel_trans HW_0.out hb); have HT_1 := Lib.hid (HT_0.out.bel hb); have HL_1 := Lib.hid (HL_0.out.below hb); have HV_1 := Lib.hid (rdvUp HV_0.out hb); have HR_1 := Lib.hid (rdgUp HR_0.out hb); obtain ⟨hl1_0, hl1_1, hl1_2⟩ := cel3 HL_1.out; clear hb)
    | (go_at_call 13; (with_reducible refine (few9_is lim start A n c l none 0 0 [] _ HV_1.out hnr RdL.nil (Nat.zero_le _) HFG.out HF0.out (Bool.and_true true)).mono ?_); rintro e w2 ⟨rfl, hb⟩; have HW_2 := Lib.hid (bel_trans HW_1.out hb); have HT_2 := Lib.hid (HT_1.out.bel hb); have HL_2 := Lib.hid (HL_1.out.below hb); have HV_2 := Lib.hid (rdvUp HV_1.out hb); have HR_2 := Lib.hid (rdgUp HR_1.out hb); obtain ⟨hl2_0, hl2_1, hl2_2⟩ := cel3 HL_2.out; clear hb)
    | (go_at_call 33; (with_reducible refine (Read_is lim start off most A n c l _ HR_2.out HT_2.out hc (by omega) hm HR1.out).mono ?_); rintro e w4 ⟨A4, n4, c4, rfl, ho, hb⟩; have HW_4 := Lib.hid (bel_trans HW_2.out hb); have HT_4 := Lib.hid (HT_2.out.bel hb); have HL_4 := Lib.hid (HL_2.out.below hb); have HV_4 := Lib.hid (rdvUp HV_2.out hb); have HR_4 := Lib.hid (rdgUp HR_2.out hb); have hc4 := ho.cap; have HN4 := Lib.hid ho.len; have HS_4 := Lib.hid (ho.rd); obtain ⟨hl4_0, hl4_1, hl4_2⟩ := cel3 HL_4.out; clear hb ho)
    | (go_at_call 33; (with_reducible refine (Read_is lim start off 1125899906842624 A n c l _ HR_4.out HT_4.out hc (by omega) hI50 HR2.out).mono ?_); rintro e w5 ⟨A5, n5, c5, rfl, ho, hb⟩; have HW_5 := Lib.hid (bel_trans HW_4.out hb); have HT_5 := Lib.hid (HT_4.out.bel hb); have HL_5 := Lib.hid (HL_4.out.below hb); have HV_5 := Lib.hid (rdvUp HV_4.out hb); have HR_5 := Lib.hid (rdgUp HR_4.out hb); have HS_5 := Lib.hid (rdtUp HS_4.out hb); have hc5 := ho.cap; have HN5 := Lib.hid ho.len; have HZ_5 := Lib.hid (ho.rd); clear hb ho))
  obtain rfl : k1 = n4 := HTL.out.symm.trans HN4.out
  have hkz : k1 ≤ n5 := by have h1 := HZ1.out; have h2 := HN5.out; omega
  have hn5 : n5 ≤ 12000000 := by have h2 := HN5.out; omega
  clear hZL
  have HW5 := HW_5
  go_loopw [12, 13] (fun mv iv wr => msRel T k1 w5 mv iv wr) (fun _ iv _ => k1 - (intOf iv).toNat)
  case atStart => exact ⟨0, 0, rfl, rfl, Nat.zero_le _, by rw [List.take_zero, sizeB_nil]; rfl, Nat.zero_le _, Below.refl _ _⟩
  case round =>
    obtain ⟨j, m, rfl, rfl, hj, hm1, hm2, hb⟩ := hrel
    have HM1 := Lib.hid hm1
    have HBR := Lib.hid hb
    have HW_r := Lib.hid (bel_trans HW_5.out hb)
    have HT_r := Lib.hid (HT_5.out.bel hb)
    have HL_r := Lib.hid (HL_5.out.below hb)
    have HV_r := Lib.hid (rdvUp HV_5.out hb)
    have HR_r := Lib.hid (rdgUp HR_5.out hb)
    have HS_r := Lib.hid (rdtUp HS_5.out hb)
    have HZ_r := Lib.hid (rdtUp HZ_5.out hb)
    clear hb hm1
    by_cases hlt : j < k1
    · obtain ⟨b, o, ⟨ba, la, fr, ep, pi, ge, se, tx, ct, rs⟩, A6, n6, c6, rfl, hbl, hxk, hc6, hn6, hrd, hf, hce⟩ := HS_r.out.at hlt
      have HXK := Lib.hid hxk
      have HF := Lib.hid hf
      have HRD := Lib.hid hrd
      have hch : chB ⟨ba, la, fr, ep, pi, ge, se, tx, ct, rs⟩ = 0 := HZ5.out _ (by have h9 := List.mem_of_getElem? hxk; rw [HTT.out] at h9; exact List.mem_of_mem_take h9)
      obtain ⟨z, hz⟩ : ∃ z : Nat, z = (byB ⟨ba, la, fr, ep, pi, ge, se, tx, ct, rs⟩).length := ⟨_, rfl⟩
      have hz9 : z ≤ 2048 := by rw [hz]; exact (chB_form hch).2
      have HSZ := Lib.hid (show szB ⟨ba, la, fr, ep, pi, ge, se, tx, ct, rs⟩ = (z : Int) by unfold szB; rw [if_pos hch, hz])
      have HZZ := Lib.hid hz
      have d0 : wr.cell? ⟨b, o + j * 10, none⟩ = some (.int .i64 ba) := hce 0 _ rfl
      have d1 : wr.cell? ⟨b, o + j * 10 + 1, none⟩ = some (.int .i64 la) := hce 1 _ rfl
      have d2 : wr.cell? ⟨b, o + j * 10 + 2, none⟩ = some (.int .i64 fr) := hce 2 _ rfl
      have d3 : wr.cell? ⟨b, o + j * 10 + 3, none⟩ = some (.int .i64 ep) := hce 3 _ rfl
      have d4 : wr.cell? ⟨b, o + j * 10 + 4, none⟩ = some (.int .i64 pi) := hce 4 _ rfl
      have d5 : wr.cell? ⟨b, o + j * 10 + 5, none⟩ = some (.int .i64 ge) := hce 5 _ rfl
      have d6 : wr.cell? ⟨b, o + j * 10 + 6, none⟩ = some (.int .i64 se) := hce 6 _ rfl
      have d7 : wr.cell? ⟨b, o + j * 10 + 7, none⟩ = some (.bool tx) := hce 7 _ rfl
      have d8 : wr.cell? ⟨b, o + j * 10 + 8, none⟩ = some (.int .i64 ct) := hce 8 _ rfl
      have d9 : wr.cell? ⟨b, o + j * 10 + 9, none⟩ = some (.slice A6 n6 c6) := hce 9 _ rfl
      have hw1 : IntKind.i64.wrap ((j : Int) + 1) = (j : Int) + 1 := IntWalk.i64_in _ (by omega)
      have hw2 : IntKind.i64.wrap ((m : Int) + (z : Int)) = (m : Int) + (z : Int) := IntWalk.i64_in _ (by omega)
      have hjl : (j : Int) < (k1 : Int) := by omega
      have hj0 : (0 : Int) ≤ (j : Int) := by omega
      clear hxk hf hrd hce hch hz
      go_wp2_with (go_at_call 41; (with_reducible refine (Chn.BSize_is HSZ.out A6 n6 c6 _ HF.out HRD.out hn6 HT_r.out).mono ?_); rintro e w6 ⟨rfl, hb⟩; have HB6 := Lib.hid (bel_trans HBR.out hb); clear hb)
      go_roundw
      case rel =>
        refine ⟨j + 1, m + z, by go_num, by go_num, by omega, ?_, by omega, HB6.out⟩
        rw [List.take_add_one, HXK.out, Option.toList_some, sizeB_snoc, ← HM1.out, ← HZZ.out]
        omega
      case measure => simp [intOf]; omega
    · obtain rfl : j = k1 := by omega
      have hmm : (m : Int) = sizeB T := by rw [HM1.out, List.take_of_length_le (by rw [HTL.out]; exact Nat.le_refl _)]
      have HMM := Lib.hid hmm
      have HEQ := Lib.hid (show eqT T (Z.take j) = true by rw [HTT.out]; exact eqT_self _)
      have hq1 : ¬ (n5 : Int) < (j : Int) := by omega
      have hq2 : (j : Int) ≤ (c5 : Int) := by omega
      have hq3 : (0 : Int) ≤ (j : Int) := by omega
      have hmo : 1 < j → ¬ most < (m : Int) := fun h => by have h9 := HZ3.out h; omega
      have h00 : j = 0 → n5 = 0 := fun h => by
        cases hZ0 : Z with
        | nil => rw [← HN5.out, hZ0]; rfl
        | cons x y => have h9 := HZ2.out (by rw [hZ0]; simp); omega
      have hml9 : m ≤ 100000000000 := by omega
      clear hlt hj hm2 hmm
      by_cases hj0 : j = 0
      · obtain rfl : n5 = 0 := h00 hj0
        subst hj0
        have hm0' : ((m : Int)) = 0 := by rw [HMM.out]; have h9 := HTL.out; rw [List.length_eq_zero_iff.1 h9, sizeB_nil]
        obtain rfl : m = 0 := by omega
        clear h00 hmo hm0' hq1 hq2 hq3 hkz hn5
        go_wp2_with (first
          | (go_at_call 20; (with_reducible refine (SameAll_is A4 A5 0 c4 0 c5 T (Z.take 0) _ HS_r.out (RdT.take HZ_r.out (by omega)) (by omega) (by omega) HEQ.out).mono ?_); rintro e w8 ⟨rfl, hb⟩; have HB8 := Lib.hid (bel_trans HW_r.out hb); clear hb))
        go_ret
        exact ⟨rfl, HB8.out⟩
      have hjj : ((j : Int) == 0) = false := beqF (by omega)
      have hm9 : most < (m : Int) → ¬ (1 : Int) < (j : Int) := fun h9 h8 => hmo (by omega) h9
      clear h00 hmo hj0
      by_cases hlz : j < n5
      · obtain ⟨b, o, ⟨ba, la, fr, ep, pi, ge, se, tx, ct, rs⟩, A6, n6, c6, rfl, hbl, hxk, hc6, hn6, hrd, hf, hce⟩ := HZ_r.out.at hlz
        have HF := Lib.hid hf
        have HRD := Lib.hid hrd
        have hch : chB ⟨ba, la, fr, ep, pi, ge, se, tx, ct, rs⟩ = 0 := HZ5.out _ (List.mem_of_getElem? hxk)
        obtain ⟨z, hz⟩ : ∃ z : Nat, z = (byB ⟨ba, la, fr, ep, pi, ge, se, tx, ct, rs⟩).length := ⟨_, rfl⟩
        have hz9 : z ≤ 2048 := by rw [hz]; exact (chB_form hch).2
        have HSZ := Lib.hid (show szB ⟨ba, la, fr, ep, pi, ge, se, tx, ct, rs⟩ = (z : Int) by unfold szB; rw [if_pos hch, hz])
        have hno : ¬ ((m : Int) + (z : Int)) ≤ most := by have h9 := HZ4.out _ hxk; rw [HMM.out, hz]; omega
        have hw2 : IntKind.i64.wrap ((m : Int) + (z : Int)) = (m : Int) + (z : Int) := IntWalk.i64_in _ (by omega)
        have hlz2 : (j : Int) < (n5 : Int) := by omega
        have d0 : wr.cell? ⟨b, o + j * 10, none⟩ = some (.int .i64 ba) := hce 0 _ rfl
        have d1 : wr.cell? ⟨b, o + j * 10 + 1, none⟩ = some (.int .i64 la) := hce 1 _ rfl
        have d2 : wr.cell? ⟨b, o + j * 10 + 2, none⟩ = some (.int .i64 fr) := hce 2 _ rfl
        have d3 : wr.cell? ⟨b, o + j * 10 + 3, none⟩ = some (.int .i64 ep) := hce 3 _ rfl
        have d4 : wr.cell? ⟨b, o + j * 10 + 4, none⟩ = some (.int .i64 pi) := hce 4 _ rfl
        have d5 : wr.cell? ⟨b, o + j * 10 + 5, none⟩ = some (.int .i64 ge) := hce 5 _ rfl
        have d6 : wr.cell? ⟨b, o + j * 10 + 6, none⟩ = some (.int .i64 se) := hce 6 _ rfl
        have d7 : wr.cell? ⟨b, o + j * 10 + 7, none⟩ = some (.bool tx) := hce 7 _ rfl
        have d8 : wr.cell? ⟨b, o + j * 10 + 8, none⟩ = some (.int .i64 ct) := hce 8 _ rfl
        have d9 : wr.cell? ⟨b, o + j * 10 + 9, none⟩ = some (.slice A6 n6 c6) := hce 9 _ rfl
        clear hxk hf hrd hce hch hz
        by_cases hmm : most < (m : Int)
        · have hm8 := hm9 hmm
          clear hm9
          go_wp2_with (first
            | (go_at_call 41; (with_reducible refine (Chn.BSize_is HSZ.out A6 n6 c6 _ HF.out HRD.out hn6 HT_r.out).mono ?_); rintro e w7 ⟨rfl, hb⟩; have HW_7 := Lib.hid (bel_trans HW_r.out hb); have HS_7 := Lib.hid (rdtUp HS_r.out hb); have HZ_7 := Lib.hid (rdtUp HZ_r.out hb); clear hb)
            | (go_at_call 20; (with_reducible refine (SameAll_is A4 (some ⟨b, o, none⟩) j c4 j c5 T (Z.take j) _ HS_7.out (RdT.take HZ_7.out (by omega)) (by omega) (by omega) HEQ.out).mono ?_); rintro e w8 ⟨rfl, hb⟩; have HB8 := Lib.hid (bel_trans HW_7.out hb); clear hb))
          go_ret
          exact ⟨rfl, HB8.out⟩
        · clear hm9
          go_wp2_with (first
            | (go_at_call 41; (with_reducible refine (Chn.BSize_is HSZ.out A6 n6 c6 _ HF.out HRD.out hn6 HT_r.out).mono ?_); rintro e w7 ⟨rfl, hb⟩; have HW_7 := Lib.hid (bel_trans HW_r.out hb); have HS_7 := Lib.hid (rdtUp HS_r.out hb); have HZ_7 := Lib.hid (rdtUp HZ_r.out hb); clear hb)
            | (go_at_call 20; (with_reducible refine (SameAll_is A4 (some ⟨b, o, none⟩) j c4 j c5 T (Z.take j) _ HS_7.out (RdT.take HZ_7.out (by omega)) (by omega) (by omega) HEQ.out).mono ?_); rintro e w8 ⟨rfl, hb⟩; have HB8 := Lib.hid (bel_trans HW_7.out hb); clear hb))
          go_ret
          exact ⟨rfl, HB8.out⟩
      · have hlz2 : ¬ (j : Int) < (n5 : Int) := by omega
        by_cases hmm : most < (m : Int)
        · have hm8 := hm9 hmm
          clear hm9
          go_wp2_with (first
            | (go_at_call 20; (with_reducible refine (SameAll_is A4 A5 j c4 j c5 T (Z.take j) _ HS_r.out (RdT.take HZ_r.out (by omega)) (by omega) (by omega) HEQ.out).mono ?_); rintro e w8 ⟨rfl, hb⟩; have HB8 := Lib.hid (bel_trans HW_r.out hb); clear hb))
          go_ret
          exact ⟨rfl, HB8.out⟩
        · clear hm9
          go_wp2_with (first
            | (go_at_call 20; (with_reducible refine (SameAll_is A4 A5 j c4 j c5 T (Z.take j) _ HS_r.out (RdT.take HZ_r.out (by omega)) (by omega) (by omega) HEQ.out).mono ?_); rintro e w8 ⟨rfl, hb⟩; have HB8 := Lib.hid (bel_trans HW_r.out hb); clear hb))
          go_ret
          exact ⟨rfl, HB8.out⟩
end Go.Proofs.YtejcjmiofidedaaGreatDoor.Chn

namespace Go.Proofs.YtejcjmiofidedaaGreatDoor.chainMost
open Go.ChangeShapes Go.WideShapes Go.ChangeAt Go.RowKit

theorem own : ownKnob Tryz.prog.godebug = none := by kernel_rfl
theorem laidOut : laidOutB Tryz.prog = true := by kernel_rfl

set_option maxRecDepth 100000 in
theorem lifted (os : Os) (started : os.Started) (H : Type) (enc : TypeId × Value → H) :
    ReturnsInHanded {} Tryz.checked os 8 .any (fun w args => (Rows.chainMostSpec.pre enc Tryz.prog Tryz.f8 [] false w args ∧ laidMetH Tryz.prog Crc.listed w) ∧ sizedMet enc Tryz.prog Tryz.f8 (OpenSpec.ofChange Rows.chainMostSpec) false w args)
      (Rows.chainMostSpec.post enc Tryz.prog Tryz.f8 false true false false) := by
  refine returnsInHanded_of_change_and (C := Tryz.checked) (X := fun w _ => laidMetH Tryz.prog Crc.listed w) (fun _ _ _ hh h => h.of_heap hh) own started (by kernel_rfl) Tryz.func8
    (ChangeSpec.witness_shaped (enc := enc) (C := Tryz.checked) (os := os) (X := fun w _ => laidMetH Tryz.prog Crc.listed w) false (World.doorLaid Tryz.prog 400 os) #[.agg #[.int .i64 0, .int .i64 0, .slice none 0 0], .int .i64 0, .int .i64 0] 8 rfl (World.shaped_of_RefB (by kernel_rfl) (by kernel_rfl)) (by kernel_rfl) (by kernel_rfl) (by kernel_rfl) (Crc.door_met os _)) ?_
  intro W base args ds gs before hval0 hW _ hwt hL _
  have hval : ∀ (j : Nat) t v, Tryz.f8.params[j]? = some t → args[j]? = some v → Value.okWide Tryz.prog W .any base t v := hval0
  have hW' := hW
  obtain ⟨p, q, hA0, hV, rfl, hfz, hnd⟩ := hW
  have hA : DataW.TrodAll enc Tryz.prog W 0 (fun _ => true) true Tryz.f8.params.toList args.toList ds p := hA0
  rw [Tryz.params8] at hA hval
  obtain ⟨v0, vs0, d0, ds0, p0, q0, hargs, rfl, rfl, h0, r0⟩ := trodAll_cons hA
  obtain ⟨v1, vs1, d1, ds1, p1, q1, rfl, rfl, rfl, h1, r1⟩ := trodAll_cons r0
  obtain ⟨v2, vs2, d2, ds2, p2, q2, rfl, rfl, rfl, h2, r2⟩ := trodAll_cons r1
  obtain ⟨rfl, rfl, rfl⟩ := trodAll_nil r2
  obtain rfl : args = #[v0, v1, v2] := by cases args; simp_all
  obtain ⟨rfl, rfl⟩ := trodVars_none hV
  have k0 := h0
  have lt0 : ∀ x ∈ p0, x.block < W.heap.size := by obtain ⟨m, hm⟩ := k0; exact DataW.trod_lt m _ _ _ hm
  obtain ⟨lim_0, st_0, A_0, n_0, c_0, l_0, rfl, hi_0, hj_0, hc_0, hk_0, hR_0⟩ := Chn.open_log (hval 0 24 v0 rfl rfl) h0 (Bat.weights_arg (j := 0) hwt (by kernel_rfl) rfl)
  have k1 := h1
  have lt1 : ∀ x ∈ p1, x.block < W.heap.size := by obtain ⟨m, hm⟩ := k1; exact DataW.trod_lt m _ _ _ hm
  obtain ⟨a1, rfl, hi1⟩ := Oct.open_i64 Tryz.underlying3 (hval 1 3 v1 rfl rfl) h1
  have k2 := h2
  have lt2 : ∀ x ∈ p2, x.block < W.heap.size := by obtain ⟨m, hm⟩ := k2; exact DataW.trod_lt m _ _ _ hm
  obtain ⟨a2, rfl, hi2⟩ := Oct.open_i64 Tryz.underlying3 (hval 2 3 v2 rfl rfl) h2
  clear hA0 hval0
  refine (Chn.chainMost_walk lim_0 st_0 A_0 n_0 c_0 l_0 a1 a2 W hi_0 hj_0 hc_0 hk_0 hR_0 hi1 hi2 (Crc.tab_of_laid hL)).mono fun e W' ⟨he, bel⟩ => ?_
  subst he
  exact ⟨_, rfl, _, _, _, [], _, [], hW', trodAll_mk1 (shut_bool Tryz.underlying4 _), (trodAll_cons_mk (Below.trod laidOut (by kernel_rfl) (of_decide_eq_true (by kernel_rfl)) k0 bel lt0) (trodAll_cons_mk (Below.trod laidOut (by kernel_rfl) (of_decide_eq_true (by kernel_rfl)) k1 bel lt1) (trodAll_cons_mk (Below.trod laidOut (by kernel_rfl) (of_decide_eq_true (by kernel_rfl)) k2 bel lt2) trodAll_mk0))), rfl, bel.frame _, fun h => by cases h⟩

theorem over : Rows.chainMostRow.holds Tryz.pinned (OpenSpec.ofChange Rows.chainMostSpec) :=
  OpenClaim.holds_of_wide 8 Tryz.f8 rfl rfl rfl rfl rfl rfl rfl ⟨rfl, rfl, rfl, rfl, rfl⟩ rfl rfl rfl rfl rfl (by kernel_rfl) Tryz.func8 (by kernel_rfl)
    (of_decide_eq_true (by kernel_rfl)) (by unfold Func.isWrapper; first | (rw [if_pos (by decide +kernel)]; kernel_rfl) | (rw [if_neg (by decide +kernel)]; exact ⟨rfl, rfl⟩))
    (fun os started H enc _ => lifted os started H enc)

theorem proved : Rows.ChainMostCardSaid :=
  Claim7.holds_tied_plain_at .later [] [.data] true (true, "43519ac59a7675b2f2d9aeca7eaf360146488e8a78a978de494d5127d8d19227") false
    over (fun _ h => by cases h) (by kernel_rfl) (fun _ h => by cases h) chainMost_row_tie rfl ⟨rfl, rfl⟩ (by kernel_rfl) rfl
    (fun f fn hf hfn => by
      obtain rfl : f = 8 := Option.some.inj ((show Tryz.prog.funcNamed "watermeet/watermeetlaw09.ChainMost" = some 8 by kernel_rfl).symm.trans hf) |>.symm
      obtain rfl : fn = Tryz.f8 := (Option.some.inj (Tryz.func8.symm.trans hfn)).symm
      exact ⟨by kernel_rfl, fun j t ht => by
        rw [Tryz.params8] at ht
        have hm : t ∈ [24, 3, 3] := by simpa using Array.mem_of_getElem? ht
        have hall : ([24, 3, 3].all fun u => !Tryz.prog.wantsStandIn u) = true := by kernel_rfl
        exact (show Tryz.prog.wantsStandIn t = false by simpa using List.all_eq_true.1 hall t hm)⟩)
    (by kernel_rfl)
#print axioms proved
end Go.Proofs.YtejcjmiofidedaaGreatDoor.chainMost
