/- Of any log that may be and any batch: it is taken just if it follows, and then it is the last one, and all others stay; no condition.
-/
import Derived.Test.YtejcjmiofidedaaGreatDoorChnLv
import Derived.Test.YtejcjmiofidedaaGreatDoorJChnW
import Derived.Test.YtejcjmiofidedaaGreatDoorJBatK
import Derived.Test.YtejcjmiofidedaaGreatDoorJBatA
import Derived.Test.YtejcjmiofidedaaGreatDoorSegSA
import Derived.Test.YtejcjmiofidedaaGreatDoorRows
import Derived.WalkKit
import Derived.ProofKit
import Derived.OpenShut
import Derived.ChangeOld
import Derived.Below
import Derived.Carry
import Derived.Test.YtejcjmiofidedaaGreatDoorJOct
import Derived.Test.YtejcjmiofidedaaGreatDoorJCrc
import Derived.Test.YtejcjmiofidedaaGreatDoorTie
import Derived.Test.YtejcjmiofidedaaGreatDoorCards
import Derived.SevenTiedAt
/- The walk of ChainOnce. -/
namespace Go.Proofs.YtejcjmiofidedaaGreatDoor.Chn
open Go.RowKit Oct Rec Crc Bat Lay Seg RowF InR

def tb_ChainOnce6 : List (Nat × Nat) := [(0, 8589934591), (1, 8589934590), (2, 8589934589), (6, 8589934585), (10, 8589934581), (18, 8589934573), (34, 8589934557), (66, 8589934527), (128, 8589934463), (384, 8589934207), (128, 8589934463), (1664, 8589932927), (2688, 8589932415), (4096, 8589930495), (12288, 8589922303), (20480, 8589914111), (32768, 8589901823), (98304, 8589836287), (32768, 8589901823), (294912, 8589639679), (688128, 8589246463), (1085440, 8588849151), (2101376, 8587833215), (4718720, 8585740159), (8388608, 8581545983), (25165824, 8564768767), (41943168, 8547991423), (75497600, 8522825599), (134217728, 8455716863), (402653184, 8187281407), (671088768, 7918845823), (1073741952, 7516192639), (4294967295, 6442450943)]
def tb_ChainOnce9 : List (Nat × Nat) := [(0, 576460752303423487), (1, 576460752303423486), (2, 576460752303423485), (6, 576460752303423481), (2, 576460752303423485), (18, 576460752303423469), (42, 576460752303423445), (66, 576460752303423421), (160, 576460752303423359), (256, 576460752303423231), (768, 576460752303422719), (1280, 576460752303422207), (2304, 576460752303421183), (5120, 576460752303419391), (8192, 576460752303415295), (24576, 576460752303398911), (8192, 576460752303415295), (73728, 576460752303349759), (172032, 576460752303251455), (270336, 576460752303153151), (557056, 576460752302899199), (1048576, 576460752302374911), (3145728, 576460752300277759), (5242880, 576460752298180607), (9437184, 576460752293986303), (20971520, 576460752286646271), (33554432, 576460752269869055), (100663296, 576460752202760191), (33554432, 576460752269869055), (301989888, 576460752001433599), (570425344, 576460751732998143), (1241513984, 576460751061909503), (2181038080, 576460750122385407), (4429185024, 576460748008456191), (8589934592, 576460743713488895), (25769803776, 576460726533619711), (8589934592, 576460743713488895), (111669149696, 576460640634273791), (146028888064, 576460606274535423), (412316860416, 576460477425516543), (549755813888, 576460202547609599), (1649267441664, 576459103035981823), (2748779069440, 576458003524354047), (549755813888, 576460202547609599), (9345848836096, 576451406454587391), (18141941858304, 576442610361565183), (40132174413824, 576420620129009663), (70918499991552, 576389833803431935), (140737488355328, 576320014815068159), (422212465065984, 576038539838357503), (703687441776640, 575757064861646847), (140737488355328, 576320014815068159), (2392537302040576, 574068215001382911), (4644337115725824, 571816415187697663), (9147936743096320, 567312815560327167), (19281035904679936, 557179716398743551), (36170084263133184, 540290668040290303), (72058143793741824, 504402608509681663), (288230376151711743, 432345564227567615)]
set_option maxRecDepth 100000 in
set_option maxHeartbeats 16000000 in
theorem chainOnce_walk (lim start : Int) (A : Option Addr) (n c : Nat) (l : List Sg) (ba la fr ep pi ge se : Int) (tx : Bool) (ct : Int) (A4 : Option Addr) (n4 c4 : Nat) (rs : List Rc) (w : World) (_hi : I64 lim) (_hs : I64 start) (hc : n ≤ c) (hk : c ≤ reach) (hR : RdL w w.heap.size A n l) (hfn : FitN ⟨ba, la, fr, ep, pi, ge, se, tx, ct, rs⟩) (hc4 : n4 ≤ c4) (hk4 : c4 ≤ reach) (hR4 : Lay.RdL w w.heap.size A4 n4 rs) (ht : Tab w) :
    Calls Tryz.prog 7 #[.agg #[.int .i64 lim, .int .i64 start, .slice A n c], .agg #[.int .i64 ba, .int .i64 la, .int .i64 fr, .int .i64 ep, .int .i64 pi, .int .i64 ge, .int .i64 se, .bool tx, .int .i64 ct, .slice A4 n4 c4]] w fun e w' => e = .returned (.bool true) ∧ Below w.heap.size w w' := by
  have hba : Below w.heap.size w ((w.alloc (.cells #[.int .i64 lim, .int .i64 start, .slice A n c] 24)).alloc (.cells #[.int .i64 ba, .int .i64 la, .int .i64 fr, .int .i64 ep, .int .i64 pi, .int .i64 ge, .int .i64 se, .bool tx, .int .i64 ct, .slice A4 n4 c4] 39)) := bel_alloc (belA w _) _
  have HT_0 := Lib.hid (ht.bel hba)
  have HW_0 := Lib.hid hba
  have HL_0 := Lib.hid ((At0.new w [.int .i64 lim, .int .i64 start, .slice A n c] 24).alloc (.cells #[.int .i64 ba, .int .i64 la, .int .i64 fr, .int .i64 ep, .int .i64 pi, .int .i64 ge, .int .i64 se, .bool tx, .int .i64 ct, .slice A4 n4 c4] 39))
  have HB_0 := Lib.hid (at0_1 w (.cells #[.int .i64 lim, .int .i64 start, .slice A n c] 24) [.int .i64 ba, .int .i64 la, .int .i64 fr, .int .i64 ep, .int .i64 pi, .int .i64 ge, .int .i64 se, .bool tx, .int .i64 ct, .slice A4 n4 c4] 39)
  have HV_0 := Lib.hid (rdvUp hR hba)
  have HRR_0 := Lib.hid (rdrUp (RdL_recs hR4) hba)
  have HFT := Lib.hid (RdL_fit hR4)
  have hnr := Nat.le_trans hc hk
  have hnr4 := Nat.le_trans hc4 hk4
  have HF0 := Lib.hid (show ((([] : List Bt).all fewT && decide ((([] : List Bt).length : Int) ≤ 40))) = true by decide)
  have hmx : Tryz.prog.follows .mixedOrders = true := by kernel_rfl
  rcases hfg : fewG l with _ | _
  · have HFG := Lib.hid hfg
    clear hR hR4 ht hba hfg
    go_enter Tryz.func7, Tryz.ntmps7
    go_wp2_with (first
      | (go_at_call 12; (with_reducible refine (live9_any _ HT_0.out).mono ?_); rintro e w1 ⟨rfl, hb⟩; have HW_1 := Lib.hid (bel_trans HW_0.out hb); have HT_1 := Lib.hid (HT_0.out.bel hb); have HL_1 := Lib.hid (HL_0.out.below hb); have HB_1 := Lib.hid (HB_0.out.below hb); have HV_1 := Lib.hid (rdvUp HV_0.out hb); have HRR_1 := Lib.hid (rdrUp HRR_0.out hb); obtain ⟨hl1_0, hl1_1, hl1_2⟩ := cel3 HL_1.out; clear hb)
      | (go_at_call 13; (with_reducible refine (few9_is lim start A n c l none 0 0 [] _ HV_1.out hnr RdL.nil (Nat.zero_le _) HFG.out HF0.out (Bool.and_true false)).mono ?_); rintro e w2 ⟨rfl, hb⟩; have HW_2 := Lib.hid (bel_trans HW_1.out hb); have HT_2 := Lib.hid (HT_1.out.bel hb); have HL_2 := Lib.hid (HL_1.out.below hb); have HB_2 := Lib.hid (HB_1.out.below hb); have HV_2 := Lib.hid (rdvUp HV_1.out hb); have HRR_2 := Lib.hid (rdrUp HRR_1.out hb); obtain ⟨hb2_0, hb2_1, hb2_2, hb2_3, hb2_4, hb2_5, hb2_6, hb2_7, hb2_8, hb2_9⟩ := cel10 HB_2.out; clear hb))
    go_ret
    exact ⟨rfl, HW_2.out⟩
  have HFG := Lib.hid hfg
  obtain ⟨hrg, hn12⟩ := rdG_of hR hfg
  have HR_0 := Lib.hid (rdgUp hrg hba)
  rcases hfb : fewT ⟨ba, la, fr, ep, pi, ge, se, tx, ct, rs⟩ with _ | _
  · have HFB := Lib.hid hfb
    clear hR hR4 ht hba hfg hrg hfb
    go_enter Tryz.func7, Tryz.ntmps7
    go_wp2_with (first
      | (go_at_call 12; (with_reducible refine (live9_any _ HT_0.out).mono ?_); rintro e w1 ⟨rfl, hb⟩; have HW_1 := Lib.hid (bel_trans HW_0.out hb); have HT_1 := Lib.hid (HT_0.out.bel hb); have HL_1 := Lib.hid (HL_0.out.below hb); have HB_1 := Lib.hid (HB_0.out.below hb); have HV_1 := Lib.hid (rdvUp HV_0.out hb); have HRR_1 := Lib.hid (rdrUp HRR_0.out hb); obtain ⟨hl1_0, hl1_1, hl1_2⟩ := cel3 HL_1.out; clear hb)
      | (go_at_call 13; (with_reducible refine (few9_is lim start A n c l none 0 0 [] _ HV_1.out hnr RdL.nil (Nat.zero_le _) HFG.out HF0.out (Bool.and_true true)).mono ?_); rintro e w2 ⟨rfl, hb⟩; have HW_2 := Lib.hid (bel_trans HW_1.out hb); have HT_2 := Lib.hid (HT_1.out.bel hb); have HL_2 := Lib.hid (HL_1.out.below hb); have HB_2 := Lib.hid (HB_1.out.below hb); have HV_2 := Lib.hid (rdvUp HV_1.out hb); have HRR_2 := Lib.hid (rdrUp HRR_1.out hb); obtain ⟨hb2_0, hb2_1, hb2_2, hb2_3, hb2_4, hb2_5, hb2_6, hb2_7, hb2_8, hb2_9⟩ := cel10 HB_2.out; clear hb)
      | (go_at_call 24; (with_reducible refine (refFew_is ba la fr ep pi ge se tx ct rs A4 n4 c4 _ HRR_2.out HFT.out hnr4 HFB.out).mono ?_); rintro e w4 ⟨rfl, hb⟩; have HW_4 := Lib.hid (bel_trans HW_2.out hb); have HT_4 := Lib.hid (HT_2.out.bel hb); have HL_4 := Lib.hid (HL_2.out.below hb); have HB_4 := Lib.hid (HB_2.out.below hb); have HV_4 := Lib.hid (rdvUp HV_2.out hb); have HRR_4 := Lib.hid (rdrUp HRR_2.out hb); obtain ⟨hl4_0, hl4_1, hl4_2⟩ := cel3 HL_4.out; clear hb))
    go_ret
    exact ⟨rfl, HW_4.out⟩
  have HFB := Lib.hid hfb
  have HF := Lib.hid (fits_of hfn (RdL_fit hR4) hfb)
  have hn4b : n4 ≤ 1099511627776 := by have h1 := (fewT_iff hfb).1; have h2 := hR4.len; simp only at h1; omega
  have hrl : ∀ a, A4 = some a → 0 < n4 → a.block < w.heap.size := by
    intro a ha hn0
    obtain ⟨b, o, x, cs, hA, hb, _⟩ := hR4.at (k := 0) hn0
    rw [ha] at hA
    obtain rfl := Option.some.inj hA
    exact hb
  have HRL := Lib.hid hrl
  obtain ⟨C, hC⟩ : ∃ C, ckL ⟨lim, start, l⟩ = C := ⟨_, rfl⟩
  have HC := Lib.hid hC
  by_cases hC0 : C = 0
  case neg =>
    have hcn := bne_iff_ne.2 hC0
    clear hR hR4 ht hba hfg hrg hfb hrl hC hC0
    go_enter Tryz.func7, Tryz.ntmps7
    go_wp2_with (first
      | (go_at_call 12; (with_reducible refine (live9_any _ HT_0.out).mono ?_); rintro e w1 ⟨rfl, hb⟩; have HW_1 := Lib.hid (bel_trans HW_0.out hb); have HT_1 := Lib.hid (HT_0.out.bel hb); have HL_1 := Lib.hid (HL_0.out.below hb); have HB_1 := Lib.hid (HB_0.out.below hb); have HV_1 := Lib.hid (rdvUp HV_0.out hb); have HRR_1 := Lib.hid (rdrUp HRR_0.out hb); have HR_1 := Lib.hid (rdgUp HR_0.out hb); obtain ⟨hl1_0, hl1_1, hl1_2⟩ := cel3 HL_1.out; clear hb)
      | (go_at_call 13; (with_reducible refine (few9_is lim start A n c l none 0 0 [] _ HV_1.out hnr RdL.nil (Nat.zero_le _) HFG.out HF0.out (Bool.and_true true)).mono ?_); rintro e w2 ⟨rfl, hb⟩; have HW_2 := Lib.hid (bel_trans HW_1.out hb); have HT_2 := Lib.hid (HT_1.out.bel hb); have HL_2 := Lib.hid (HL_1.out.below hb); have HB_2 := Lib.hid (HB_1.out.below hb); have HV_2 := Lib.hid (rdvUp HV_1.out hb); have HRR_2 := Lib.hid (rdrUp HRR_1.out hb); have HR_2 := Lib.hid (rdgUp HR_1.out hb); obtain ⟨hb2_0, hb2_1, hb2_2, hb2_3, hb2_4, hb2_5, hb2_6, hb2_7, hb2_8, hb2_9⟩ := cel10 HB_2.out; clear hb)
      | (go_at_call 24; (with_reducible refine (refFew_is ba la fr ep pi ge se tx ct rs A4 n4 c4 _ HRR_2.out HFT.out hnr4 HFB.out).mono ?_); rintro e w4 ⟨rfl, hb⟩; have HW_4 := Lib.hid (bel_trans HW_2.out hb); have HT_4 := Lib.hid (HT_2.out.bel hb); have HL_4 := Lib.hid (HL_2.out.below hb); have HB_4 := Lib.hid (HB_2.out.below hb); have HV_4 := Lib.hid (rdvUp HV_2.out hb); have HRR_4 := Lib.hid (rdrUp HRR_2.out hb); have HR_4 := Lib.hid (rdgUp HR_2.out hb); obtain ⟨hl4_0, hl4_1, hl4_2⟩ := cel3 HL_4.out; clear hb)
      | (go_at_call 16; (with_reducible refine (Check_is lim start A n c l _ HR_4.out HT_4.out (by omega) HC.out).mono ?_); rintro e w5 ⟨rfl, hb⟩; have HW_5 := Lib.hid (bel_trans HW_4.out hb); have HT_5 := Lib.hid (HT_4.out.bel hb); have HL_5 := Lib.hid (HL_4.out.below hb); have HB_5 := Lib.hid (HB_4.out.below hb); have HV_5 := Lib.hid (rdvUp HV_4.out hb); have HRR_5 := Lib.hid (rdrUp HRR_4.out hb); have HR_5 := Lib.hid (rdgUp HR_4.out hb); clear hb))
    go_ret
    exact ⟨rfl, HW_5.out⟩
  subst hC0
  rcases hap : apL ⟨lim, start, l⟩ ⟨ba, la, fr, ep, pi, ge, se, tx, ct, rs⟩ with ⟨⟨xl, xs, x⟩, e⟩
  have HAP := Lib.hid hap
  have HET := Lib.hid (show endT ⟨lim, start, l⟩ = endL ⟨lim, start, l⟩ by unfold endT; rw [if_pos hC])
  have HAT := Lib.hid (show allT ⟨lim, start, l⟩ = allL ⟨lim, start, l⟩ by unfold allT; rw [if_pos hC])
  by_cases he : e = 0
  case neg =>
    obtain ⟨hx0, hways⟩ := apL_bad hap he hC
    obtain ⟨rfl, rfl, rfl⟩ : 0 = xl ∧ 0 = xs ∧ [] = x := by injection hx0 with h1 h2 h3; exact ⟨h1.symm, h2.symm, h3.symm⟩
    have hcn := bne_iff_ne.2 he
    obtain ⟨cb, hcb⟩ : ∃ z, chB ⟨ba, la, fr, ep, pi, ge, se, tx, ct, rs⟩ = z := ⟨_, rfl⟩
    have HCB := Lib.hid hcb
    obtain ⟨E, hE⟩ : ∃ z, endL ⟨lim, start, l⟩ = z := ⟨_, rfl⟩
    have HE := Lib.hid (HET.out.trans hE)
    have hww : cb = e ∨ (cb ≠ e ∧ e = 71 ∧ ba < E) ∨ (cb ≠ e ∧ e = 70) ∨ (cb ≠ e ∧ e = 2) := by
      rw [hcb] at hways
      rw [hE] at hways
      by_cases h9 : cb = e
      · exact .inl h9
      · rcases hways with h8 | ⟨h8, h7⟩ | h8 | h8
        · exact absurd h8 h9
        · exact .inr (.inl ⟨h9, h8, h7⟩)
        · exact .inr (.inr (.inl ⟨h9, h8⟩))
        · exact .inr (.inr (.inr ⟨h9, h8⟩))
    clear hR hR4 ht hba hfg hrg hfb hrl hC hap hx0 hways hcb hE he
    go_enter Tryz.func7, Tryz.ntmps7
    go_wp2_with (first
      | (go_at_call 12; (with_reducible refine (live9_any _ HT_0.out).mono ?_); rintro e w1 ⟨rfl, hb⟩; have HW_1 := Lib.hid (bel_trans HW_0.out hb); have HT_1 := Lib.hid (HT_0.out.bel hb); have HL_1 := Lib.hid (HL_0.out.below hb); have HB_1 := Lib.hid (HB_0.out.below hb); have HV_1 := Lib.hid (rdvUp HV_0.out hb); have HRR_1 := Lib.hid (rdrUp HRR_0.out hb); have HR_1 := Lib.hid (rdgUp HR_0.out hb); obtain ⟨hl1_0, hl1_1, hl1_2⟩ := cel3 HL_1.out; clear hb)
      | (go_at_call 13; (with_reducible refine (few9_is lim start A n c l none 0 0 [] _ HV_1.out hnr RdL.nil (Nat.zero_le _) HFG.out HF0.out (Bool.and_true true)).mono ?_); rintro e w2 ⟨rfl, hb⟩; have HW_2 := Lib.hid (bel_trans HW_1.out hb); have HT_2 := Lib.hid (HT_1.out.bel hb); have HL_2 := Lib.hid (HL_1.out.below hb); have HB_2 := Lib.hid (HB_1.out.below hb); have HV_2 := Lib.hid (rdvUp HV_1.out hb); have HRR_2 := Lib.hid (rdrUp HRR_1.out hb); have HR_2 := Lib.hid (rdgUp HR_1.out hb); obtain ⟨hb2_0, hb2_1, hb2_2, hb2_3, hb2_4, hb2_5, hb2_6, hb2_7, hb2_8, hb2_9⟩ := cel10 HB_2.out; clear hb)
      | (go_at_call 24; (with_reducible refine (refFew_is ba la fr ep pi ge se tx ct rs A4 n4 c4 _ HRR_2.out HFT.out hnr4 HFB.out).mono ?_); rintro e w4 ⟨rfl, hb⟩; have HW_4 := Lib.hid (bel_trans HW_2.out hb); have HT_4 := Lib.hid (HT_2.out.bel hb); have HL_4 := Lib.hid (HL_2.out.below hb); have HB_4 := Lib.hid (HB_2.out.below hb); have HV_4 := Lib.hid (rdvUp HV_2.out hb); have HRR_4 := Lib.hid (rdrUp HRR_2.out hb); have HR_4 := Lib.hid (rdgUp HR_2.out hb); obtain ⟨hl4_0, hl4_1, hl4_2⟩ := cel3 HL_4.out; clear hb)
      | (go_at_call 16; (with_reducible refine (Check_is lim start A n c l _ HR_4.out HT_4.out (by omega) HC.out).mono ?_); rintro e w5 ⟨rfl, hb⟩; have HW_5 := Lib.hid (bel_trans HW_4.out hb); have HT_5 := Lib.hid (HT_4.out.bel hb); have HL_5 := Lib.hid (HL_4.out.below hb); have HB_5 := Lib.hid (HB_4.out.below hb); have HV_5 := Lib.hid (rdvUp HV_4.out hb); have HRR_5 := Lib.hid (rdrUp HRR_4.out hb); have HR_5 := Lib.hid (rdgUp HR_4.out hb); obtain ⟨hl5_0, hl5_1, hl5_2⟩ := cel3 HL_5.out; obtain ⟨hb5_0, hb5_1, hb5_2, hb5_3, hb5_4, hb5_5, hb5_6, hb5_7, hb5_8, hb5_9⟩ := cel10 HB_5.out; clear hb)
      | (go_at_call 25; (with_reducible refine (Append_is lim start A n c l ba la fr ep pi ge se tx ct rs A4 n4 c4 _ HR_5.out HT_5.out hc (by omega) HF.out HRR_5.out hc4 hn4b HAP.out).mono ?_); rintro e w6 ⟨A6, n6, c6, rfl, ho, hb⟩; have HW_6 := Lib.hid (bel_trans HW_5.out hb); have HT_6 := Lib.hid (HT_5.out.bel hb); have HL_6 := Lib.hid (HL_5.out.below hb); have HB_6 := Lib.hid (HB_5.out.below hb); have HV_6 := Lib.hid (rdvUp HV_5.out hb); have HRR_6 := Lib.hid (rdrUp HRR_5.out hb); have HR_6 := Lib.hid (rdgUp HR_5.out hb); have hc6 := ho.cap; have HN6 := Lib.hid ho.len; have HXR_6 := Lib.hid (ho.rd); have hba := belA w6 (.cells #[.int .i64 0, .int .i64 0, .slice A6 n6 c6] 24); have HW_6a := Lib.hid (bel_trans HW_6.out hba); have HT_6a := Lib.hid (HT_6.out.bel hba); have HL_6a := Lib.hid (HL_6.out.below hba); have HB_6a := Lib.hid (HB_6.out.below hba); have HV_6a := Lib.hid (rdvUp HV_6.out hba); have HRR_6a := Lib.hid (rdrUp HRR_6.out hba); have HR_6a := Lib.hid (rdgUp HR_6.out hba); have HXR_6a := Lib.hid (rdgUp HXR_6.out hba); have HX_6a := Lib.hid (At0.new w6 [.int .i64 0, .int .i64 0, .slice A6 n6 c6] 24); obtain rfl : 0 = n6 := ho.len; clear hb hba ho))
    generalize (w6.alloc (.cells #[.int .i64 0, .int .i64 0, .slice A6 0 c6] 24)) = W6 at *
    rcases hww with hq | ⟨hq, rfl, hq2⟩ | ⟨hq, rfl⟩ | ⟨hq, rfl⟩
    · have hqq := beqT hq
      skip
      have hbd := (Below.refl W6.heap.size W6).drew
      have HW_R6 := Lib.hid (bel_trans HW_6a.out hbd)
      have HT_R6 := Lib.hid (HT_6a.out.bel hbd)
      have HL_R6 := Lib.hid (HL_6a.out.below hbd)
      have HB_R6 := Lib.hid (HB_6a.out.below hbd)
      have HV_R6 := Lib.hid (rdvUp HV_6a.out hbd)
      have HRR_R6 := Lib.hid (rdrUp HRR_6a.out hbd)
      have HR_R6 := Lib.hid (rdgUp HR_6a.out hbd)
      have HXR_R6 := Lib.hid (rdgUp HXR_6a.out hbd)
      have HX_R6 := Lib.hid (HX_6a.out.below hbd)
      have HSR6 := Lib.hid (show (fun W9 : World => W9.cell? ⟨w6.heap.size, 0, none⟩ = some (.int .i64 0) ∧ W9.cell? ⟨w6.heap.size, 1, none⟩ = some (.int .i64 0) ∧ W9.cell? ⟨w6.heap.size, 2, none⟩ = some (.slice A6 0 c6) ∧ W9.cell? ⟨(w.heap.size + 1), 0, none⟩ = some (.int .i64 ba) ∧ W9.cell? ⟨(w.heap.size + 1), 1, none⟩ = some (.int .i64 la) ∧ W9.cell? ⟨(w.heap.size + 1), 2, none⟩ = some (.int .i64 fr) ∧ W9.cell? ⟨(w.heap.size + 1), 3, none⟩ = some (.int .i64 ep) ∧ W9.cell? ⟨(w.heap.size + 1), 4, none⟩ = some (.int .i64 pi) ∧ W9.cell? ⟨(w.heap.size + 1), 5, none⟩ = some (.int .i64 ge) ∧ W9.cell? ⟨(w.heap.size + 1), 6, none⟩ = some (.int .i64 se) ∧ W9.cell? ⟨(w.heap.size + 1), 7, none⟩ = some (.bool tx) ∧ W9.cell? ⟨(w.heap.size + 1), 8, none⟩ = some (.int .i64 ct) ∧ W9.cell? ⟨(w.heap.size + 1), 9, none⟩ = some (.slice A4 n4 c4) ∧ W9.cell? ⟨w.heap.size, 0, none⟩ = some (.int .i64 lim) ∧ W9.cell? ⟨w.heap.size, 1, none⟩ = some (.int .i64 start) ∧ W9.cell? ⟨w.heap.size, 2, none⟩ = some (.slice A n c)) W6.drew from ⟨HX_R6.out.cell 0, HX_R6.out.cell 1, HX_R6.out.cell 2, HB_R6.out.cell 0, HB_R6.out.cell 1, HB_R6.out.cell 2, HB_R6.out.cell 3, HB_R6.out.cell 4, HB_R6.out.cell 5, HB_R6.out.cell 6, HB_R6.out.cell 7, HB_R6.out.cell 8, HB_R6.out.cell 9, HL_R6.out.cell 0, HL_R6.out.cell 1, HL_R6.out.cell 2⟩)
      clear hbd
      refine region_let (fun W9 : World => W9.cell? ⟨w6.heap.size, 0, none⟩ = some (.int .i64 0) ∧ W9.cell? ⟨w6.heap.size, 1, none⟩ = some (.int .i64 0) ∧ W9.cell? ⟨w6.heap.size, 2, none⟩ = some (.slice A6 0 c6) ∧ W9.cell? ⟨(w.heap.size + 1), 0, none⟩ = some (.int .i64 ba) ∧ W9.cell? ⟨(w.heap.size + 1), 1, none⟩ = some (.int .i64 la) ∧ W9.cell? ⟨(w.heap.size + 1), 2, none⟩ = some (.int .i64 fr) ∧ W9.cell? ⟨(w.heap.size + 1), 3, none⟩ = some (.int .i64 ep) ∧ W9.cell? ⟨(w.heap.size + 1), 4, none⟩ = some (.int .i64 pi) ∧ W9.cell? ⟨(w.heap.size + 1), 5, none⟩ = some (.int .i64 ge) ∧ W9.cell? ⟨(w.heap.size + 1), 6, none⟩ = some (.int .i64 se) ∧ W9.cell? ⟨(w.heap.size + 1), 7, none⟩ = some (.bool tx) ∧ W9.cell? ⟨(w.heap.size + 1), 8, none⟩ = some (.int .i64 ct) ∧ W9.cell? ⟨(w.heap.size + 1), 9, none⟩ = some (.slice A4 n4 c4) ∧ W9.cell? ⟨w.heap.size, 0, none⟩ = some (.int .i64 lim) ∧ W9.cell? ⟨w.heap.size, 1, none⟩ = some (.int .i64 start) ∧ W9.cell? ⟨w.heap.size, 2, none⟩ = some (.slice A n c)) 99 33 hmx rfl fun ops Q HOPS HQ => ?_
      have HREG := reg_of HOPS tb_ChainOnce6 rfl (by kernel_rfl) (by kernel_rfl) (by decide)
      refine xq 0 HOPS HREG HSR6.out ?_; simp only [ls0, ls1]; refine xq 1 HOPS HREG HSR6.out ?_; simp only [ls0, ls1]; refine xq 2 HOPS HREG HSR6.out ?_; simp only [ls0, ls1]; refine xq 3 HOPS HREG HSR6.out ?_; simp only [ls0, ls1]; refine xq 4 HOPS HREG HSR6.out ?_; simp only [ls0, ls1]; refine xq 5 HOPS HREG HSR6.out ?_; simp only [ls0, ls1]; refine xq 6 HOPS HREG HSR6.out ?_; simp only [ls0, ls1]; refine xq 7 HOPS HREG HSR6.out ?_; simp only [ls0, ls1]; refine xq 8 HOPS HREG HSR6.out ?_; simp only [ls0, ls1]; refine xq 10 HOPS HREG HSR6.out ?_; simp only [ls0, ls1]
      refine xc 9 HOPS ?_
      go_simp
      with_reducible refine (Chn.BCheck_is HCB.out A4 n4 c4 _ HF.out HRR_R6.out hn4b HT_R6.out).mono ?_
      rintro e w7 ⟨rfl, hb⟩
      have HW_7 := Lib.hid (bel_trans HW_R6.out hb)
      have HT_7 := Lib.hid (HT_R6.out.bel hb)
      have HL_7 := Lib.hid (HL_R6.out.below hb)
      have HB_7 := Lib.hid (HB_R6.out.below hb)
      have HV_7 := Lib.hid (rdvUp HV_R6.out hb)
      have HRR_7 := Lib.hid (rdrUp HRR_R6.out hb)
      have HR_7 := Lib.hid (rdgUp HR_R6.out hb)
      have HXR_7 := Lib.hid (rdgUp HXR_R6.out hb)
      have HX_7 := Lib.hid (HX_R6.out.below hb)
      have HSR6w7 := Lib.hid (show (fun W9 : World => W9.cell? ⟨w6.heap.size, 0, none⟩ = some (.int .i64 0) ∧ W9.cell? ⟨w6.heap.size, 1, none⟩ = some (.int .i64 0) ∧ W9.cell? ⟨w6.heap.size, 2, none⟩ = some (.slice A6 0 c6) ∧ W9.cell? ⟨(w.heap.size + 1), 0, none⟩ = some (.int .i64 ba) ∧ W9.cell? ⟨(w.heap.size + 1), 1, none⟩ = some (.int .i64 la) ∧ W9.cell? ⟨(w.heap.size + 1), 2, none⟩ = some (.int .i64 fr) ∧ W9.cell? ⟨(w.heap.size + 1), 3, none⟩ = some (.int .i64 ep) ∧ W9.cell? ⟨(w.heap.size + 1), 4, none⟩ = some (.int .i64 pi) ∧ W9.cell? ⟨(w.heap.size + 1), 5, none⟩ = some (.int .i64 ge) ∧ W9.cell? ⟨(w.heap.size + 1), 6, none⟩ = some (.int .i64 se) ∧ W9.cell? ⟨(w.heap.size + 1), 7, none⟩ = some (.bool tx) ∧ W9.cell? ⟨(w.heap.size + 1), 8, none⟩ = some (.int .i64 ct) ∧ W9.cell? ⟨(w.heap.size + 1), 9, none⟩ = some (.slice A4 n4 c4) ∧ W9.cell? ⟨w.heap.size, 0, none⟩ = some (.int .i64 lim) ∧ W9.cell? ⟨w.heap.size, 1, none⟩ = some (.int .i64 start) ∧ W9.cell? ⟨w.heap.size, 2, none⟩ = some (.slice A n c)) w7 from ⟨HX_7.out.cell 0, HX_7.out.cell 1, HX_7.out.cell 2, HB_7.out.cell 0, HB_7.out.cell 1, HB_7.out.cell 2, HB_7.out.cell 3, HB_7.out.cell 4, HB_7.out.cell 5, HB_7.out.cell 6, HB_7.out.cell 7, HB_7.out.cell 8, HB_7.out.cell 9, HL_7.out.cell 0, HL_7.out.cell 1, HL_7.out.cell 2⟩)
      clear hb
      refine ⟨HSR6w7.out, ?_⟩
      refine xq 11 HOPS HREG HSR6w7.out ?_; simp only [ls0, ls1]; refine xq 12 HOPS HREG HSR6w7.out ?_; simp only [ls0, ls1]; refine xu 13 HOPS HREG HSR6w7.out ?_; simp only [ls0, ls1]; refine xu 14 HOPS HREG HSR6w7.out ?_; simp only [ls0, ls1]; refine xu 15 HOPS HREG HSR6w7.out ?_; simp only [ls0, ls1]; refine xu 16 HOPS HREG HSR6w7.out ?_; simp only [ls0, ls1]; refine xu 17 HOPS HREG HSR6w7.out ?_; simp only [ls0, ls1]; refine xu 18 HOPS HREG HSR6w7.out ?_; simp only [ls0, ls1]; refine xu 19 HOPS HREG HSR6w7.out ?_; simp only [ls0, ls1]; refine xu 20 HOPS HREG HSR6w7.out ?_; simp only [ls0, ls1]; refine xu 21 HOPS HREG HSR6w7.out ?_; simp only [ls0, ls1]; refine xq 22 HOPS HREG HSR6w7.out ?_; simp only [ls0, ls1]; refine xq 23 HOPS HREG HSR6w7.out ?_; simp only [ls0, ls1]; refine xu 24 HOPS HREG HSR6w7.out ?_; simp only [ls0, ls1]; refine xu 25 HOPS HREG HSR6w7.out ?_; simp only [ls0, ls1]; refine xq 26 HOPS HREG HSR6w7.out ?_; simp only [ls0, ls1]; refine xq 27 HOPS HREG HSR6w7.out ?_; simp only [ls0, ls1]; refine xu 28 HOPS HREG HSR6w7.out ?_; simp only [ls0, ls1]; refine xu 29 HOPS HREG HSR6w7.out ?_; simp only [ls0, ls1]; refine xq 30 HOPS HREG HSR6w7.out ?_; simp only [ls0, ls1]; refine xq 31 HOPS HREG HSR6w7.out ?_; simp only [ls0, ls1]; refine xq 32 HOPS HREG HSR6w7.out ?_; simp only [ls0, ls1]
      refine stepE HOPS (by kernel_rfl) (HQ.out _ _ ?_)
      clear HQ HREG HOPS
      clear Q ops
      go_wp2
      go_ret
      exact ⟨rfl, HW_7.out⟩
    · have hqq := beqF hq
      have hbd := (Below.refl W6.heap.size W6).drew
      have HW_R6 := Lib.hid (bel_trans HW_6a.out hbd)
      have HT_R6 := Lib.hid (HT_6a.out.bel hbd)
      have HL_R6 := Lib.hid (HL_6a.out.below hbd)
      have HB_R6 := Lib.hid (HB_6a.out.below hbd)
      have HV_R6 := Lib.hid (rdvUp HV_6a.out hbd)
      have HRR_R6 := Lib.hid (rdrUp HRR_6a.out hbd)
      have HR_R6 := Lib.hid (rdgUp HR_6a.out hbd)
      have HXR_R6 := Lib.hid (rdgUp HXR_6a.out hbd)
      have HX_R6 := Lib.hid (HX_6a.out.below hbd)
      have HSR6 := Lib.hid (show (fun W9 : World => W9.cell? ⟨w6.heap.size, 0, none⟩ = some (.int .i64 0) ∧ W9.cell? ⟨w6.heap.size, 1, none⟩ = some (.int .i64 0) ∧ W9.cell? ⟨w6.heap.size, 2, none⟩ = some (.slice A6 0 c6) ∧ W9.cell? ⟨(w.heap.size + 1), 0, none⟩ = some (.int .i64 ba) ∧ W9.cell? ⟨(w.heap.size + 1), 1, none⟩ = some (.int .i64 la) ∧ W9.cell? ⟨(w.heap.size + 1), 2, none⟩ = some (.int .i64 fr) ∧ W9.cell? ⟨(w.heap.size + 1), 3, none⟩ = some (.int .i64 ep) ∧ W9.cell? ⟨(w.heap.size + 1), 4, none⟩ = some (.int .i64 pi) ∧ W9.cell? ⟨(w.heap.size + 1), 5, none⟩ = some (.int .i64 ge) ∧ W9.cell? ⟨(w.heap.size + 1), 6, none⟩ = some (.int .i64 se) ∧ W9.cell? ⟨(w.heap.size + 1), 7, none⟩ = some (.bool tx) ∧ W9.cell? ⟨(w.heap.size + 1), 8, none⟩ = some (.int .i64 ct) ∧ W9.cell? ⟨(w.heap.size + 1), 9, none⟩ = some (.slice A4 n4 c4) ∧ W9.cell? ⟨w.heap.size, 0, none⟩ = some (.int .i64 lim) ∧ W9.cell? ⟨w.heap.size, 1, none⟩ = some (.int .i64 start) ∧ W9.cell? ⟨w.heap.size, 2, none⟩ = some (.slice A n c)) W6.drew from ⟨HX_R6.out.cell 0, HX_R6.out.cell 1, HX_R6.out.cell 2, HB_R6.out.cell 0, HB_R6.out.cell 1, HB_R6.out.cell 2, HB_R6.out.cell 3, HB_R6.out.cell 4, HB_R6.out.cell 5, HB_R6.out.cell 6, HB_R6.out.cell 7, HB_R6.out.cell 8, HB_R6.out.cell 9, HL_R6.out.cell 0, HL_R6.out.cell 1, HL_R6.out.cell 2⟩)
      clear hbd
      refine region_let (fun W9 : World => W9.cell? ⟨w6.heap.size, 0, none⟩ = some (.int .i64 0) ∧ W9.cell? ⟨w6.heap.size, 1, none⟩ = some (.int .i64 0) ∧ W9.cell? ⟨w6.heap.size, 2, none⟩ = some (.slice A6 0 c6) ∧ W9.cell? ⟨(w.heap.size + 1), 0, none⟩ = some (.int .i64 ba) ∧ W9.cell? ⟨(w.heap.size + 1), 1, none⟩ = some (.int .i64 la) ∧ W9.cell? ⟨(w.heap.size + 1), 2, none⟩ = some (.int .i64 fr) ∧ W9.cell? ⟨(w.heap.size + 1), 3, none⟩ = some (.int .i64 ep) ∧ W9.cell? ⟨(w.heap.size + 1), 4, none⟩ = some (.int .i64 pi) ∧ W9.cell? ⟨(w.heap.size + 1), 5, none⟩ = some (.int .i64 ge) ∧ W9.cell? ⟨(w.heap.size + 1), 6, none⟩ = some (.int .i64 se) ∧ W9.cell? ⟨(w.heap.size + 1), 7, none⟩ = some (.bool tx) ∧ W9.cell? ⟨(w.heap.size + 1), 8, none⟩ = some (.int .i64 ct) ∧ W9.cell? ⟨(w.heap.size + 1), 9, none⟩ = some (.slice A4 n4 c4) ∧ W9.cell? ⟨w.heap.size, 0, none⟩ = some (.int .i64 lim) ∧ W9.cell? ⟨w.heap.size, 1, none⟩ = some (.int .i64 start) ∧ W9.cell? ⟨w.heap.size, 2, none⟩ = some (.slice A n c)) 99 33 hmx rfl fun ops Q HOPS HQ => ?_
      have HREG := reg_of HOPS tb_ChainOnce6 rfl (by kernel_rfl) (by kernel_rfl) (by decide)
      refine xq 0 HOPS HREG HSR6.out ?_; simp only [ls0, ls1]; refine xq 1 HOPS HREG HSR6.out ?_; simp only [ls0, ls1]; refine xq 2 HOPS HREG HSR6.out ?_; simp only [ls0, ls1]; refine xq 3 HOPS HREG HSR6.out ?_; simp only [ls0, ls1]; refine xq 4 HOPS HREG HSR6.out ?_; simp only [ls0, ls1]; refine xq 5 HOPS HREG HSR6.out ?_; simp only [ls0, ls1]; refine xq 6 HOPS HREG HSR6.out ?_; simp only [ls0, ls1]; refine xq 7 HOPS HREG HSR6.out ?_; simp only [ls0, ls1]; refine xq 8 HOPS HREG HSR6.out ?_; simp only [ls0, ls1]; refine xq 10 HOPS HREG HSR6.out ?_; simp only [ls0, ls1]
      refine xc 9 HOPS ?_
      go_simp
      with_reducible refine (Chn.BCheck_is HCB.out A4 n4 c4 _ HF.out HRR_R6.out hn4b HT_R6.out).mono ?_
      rintro e w7 ⟨rfl, hb⟩
      have HW_7 := Lib.hid (bel_trans HW_R6.out hb)
      have HT_7 := Lib.hid (HT_R6.out.bel hb)
      have HL_7 := Lib.hid (HL_R6.out.below hb)
      have HB_7 := Lib.hid (HB_R6.out.below hb)
      have HV_7 := Lib.hid (rdvUp HV_R6.out hb)
      have HRR_7 := Lib.hid (rdrUp HRR_R6.out hb)
      have HR_7 := Lib.hid (rdgUp HR_R6.out hb)
      have HXR_7 := Lib.hid (rdgUp HXR_R6.out hb)
      have HX_7 := Lib.hid (HX_R6.out.below hb)
      have HSR6w7 := Lib.hid (show (fun W9 : World => W9.cell? ⟨w6.heap.size, 0, none⟩ = some (.int .i64 0) ∧ W9.cell? ⟨w6.heap.size, 1, none⟩ = some (.int .i64 0) ∧ W9.cell? ⟨w6.heap.size, 2, none⟩ = some (.slice A6 0 c6) ∧ W9.cell? ⟨(w.heap.size + 1), 0, none⟩ = some (.int .i64 ba) ∧ W9.cell? ⟨(w.heap.size + 1), 1, none⟩ = some (.int .i64 la) ∧ W9.cell? ⟨(w.heap.size + 1), 2, none⟩ = some (.int .i64 fr) ∧ W9.cell? ⟨(w.heap.size + 1), 3, none⟩ = some (.int .i64 ep) ∧ W9.cell? ⟨(w.heap.size + 1), 4, none⟩ = some (.int .i64 pi) ∧ W9.cell? ⟨(w.heap.size + 1), 5, none⟩ = some (.int .i64 ge) ∧ W9.cell? ⟨(w.heap.size + 1), 6, none⟩ = some (.int .i64 se) ∧ W9.cell? ⟨(w.heap.size + 1), 7, none⟩ = some (.bool tx) ∧ W9.cell? ⟨(w.heap.size + 1), 8, none⟩ = some (.int .i64 ct) ∧ W9.cell? ⟨(w.heap.size + 1), 9, none⟩ = some (.slice A4 n4 c4) ∧ W9.cell? ⟨w.heap.size, 0, none⟩ = some (.int .i64 lim) ∧ W9.cell? ⟨w.heap.size, 1, none⟩ = some (.int .i64 start) ∧ W9.cell? ⟨w.heap.size, 2, none⟩ = some (.slice A n c)) w7 from ⟨HX_7.out.cell 0, HX_7.out.cell 1, HX_7.out.cell 2, HB_7.out.cell 0, HB_7.out.cell 1, HB_7.out.cell 2, HB_7.out.cell 3, HB_7.out.cell 4, HB_7.out.cell 5, HB_7.out.cell 6, HB_7.out.cell 7, HB_7.out.cell 8, HB_7.out.cell 9, HL_7.out.cell 0, HL_7.out.cell 1, HL_7.out.cell 2⟩)
      clear hb
      refine ⟨HSR6w7.out, ?_⟩
      refine xq 11 HOPS HREG HSR6w7.out ?_; simp only [ls0, ls1]; refine xq 12 HOPS HREG HSR6w7.out ?_; simp only [ls0, ls1]; refine xq 13 HOPS HREG HSR6w7.out ?_; simp only [ls0, ls1]; refine xq 14 HOPS HREG HSR6w7.out ?_; simp only [ls0, ls1]; refine xq 15 HOPS HREG HSR6w7.out ?_; simp only [ls0, ls1]; refine xq 16 HOPS HREG HSR6w7.out ?_; simp only [ls0, ls1]; refine xq 17 HOPS HREG HSR6w7.out ?_; simp only [ls0, ls1]; refine xq 18 HOPS HREG HSR6w7.out ?_; simp only [ls0, ls1]
      refine xc 19 HOPS ?_
      go_simp
      with_reducible refine (Chn.End_is lim start A n c l _ HR_7.out HT_7.out (by omega) HE.out).mono ?_
      rintro e w8 ⟨rfl, hb⟩
      have HW_8 := Lib.hid (bel_trans HW_7.out hb)
      have HT_8 := Lib.hid (HT_7.out.bel hb)
      have HL_8 := Lib.hid (HL_7.out.below hb)
      have HB_8 := Lib.hid (HB_7.out.below hb)
      have HV_8 := Lib.hid (rdvUp HV_7.out hb)
      have HRR_8 := Lib.hid (rdrUp HRR_7.out hb)
      have HR_8 := Lib.hid (rdgUp HR_7.out hb)
      have HXR_8 := Lib.hid (rdgUp HXR_7.out hb)
      have HX_8 := Lib.hid (HX_7.out.below hb)
      have HSR6w8 := Lib.hid (show (fun W9 : World => W9.cell? ⟨w6.heap.size, 0, none⟩ = some (.int .i64 0) ∧ W9.cell? ⟨w6.heap.size, 1, none⟩ = some (.int .i64 0) ∧ W9.cell? ⟨w6.heap.size, 2, none⟩ = some (.slice A6 0 c6) ∧ W9.cell? ⟨(w.heap.size + 1), 0, none⟩ = some (.int .i64 ba) ∧ W9.cell? ⟨(w.heap.size + 1), 1, none⟩ = some (.int .i64 la) ∧ W9.cell? ⟨(w.heap.size + 1), 2, none⟩ = some (.int .i64 fr) ∧ W9.cell? ⟨(w.heap.size + 1), 3, none⟩ = some (.int .i64 ep) ∧ W9.cell? ⟨(w.heap.size + 1), 4, none⟩ = some (.int .i64 pi) ∧ W9.cell? ⟨(w.heap.size + 1), 5, none⟩ = some (.int .i64 ge) ∧ W9.cell? ⟨(w.heap.size + 1), 6, none⟩ = some (.int .i64 se) ∧ W9.cell? ⟨(w.heap.size + 1), 7, none⟩ = some (.bool tx) ∧ W9.cell? ⟨(w.heap.size + 1), 8, none⟩ = some (.int .i64 ct) ∧ W9.cell? ⟨(w.heap.size + 1), 9, none⟩ = some (.slice A4 n4 c4) ∧ W9.cell? ⟨w.heap.size, 0, none⟩ = some (.int .i64 lim) ∧ W9.cell? ⟨w.heap.size, 1, none⟩ = some (.int .i64 start) ∧ W9.cell? ⟨w.heap.size, 2, none⟩ = some (.slice A n c)) w8 from ⟨HX_8.out.cell 0, HX_8.out.cell 1, HX_8.out.cell 2, HB_8.out.cell 0, HB_8.out.cell 1, HB_8.out.cell 2, HB_8.out.cell 3, HB_8.out.cell 4, HB_8.out.cell 5, HB_8.out.cell 6, HB_8.out.cell 7, HB_8.out.cell 8, HB_8.out.cell 9, HL_8.out.cell 0, HL_8.out.cell 1, HL_8.out.cell 2⟩)
      clear hb
      refine ⟨HSR6w8.out, ?_⟩
      refine xq 20 HOPS HREG HSR6w8.out ?_; simp only [ls0, ls1]; refine xq 21 HOPS HREG HSR6w8.out ?_; simp only [ls0, ls1]; refine xq 22 HOPS HREG HSR6w8.out ?_; simp only [ls0, ls1]; refine xq 23 HOPS HREG HSR6w8.out ?_; simp only [ls0, ls1]; refine xu 24 HOPS HREG HSR6w8.out ?_; simp only [ls0, ls1]; refine xu 25 HOPS HREG HSR6w8.out ?_; simp only [ls0, ls1]; refine xq 26 HOPS HREG HSR6w8.out ?_; simp only [ls0, ls1]; refine xq 27 HOPS HREG HSR6w8.out ?_; simp only [ls0, ls1]; refine xu 28 HOPS HREG HSR6w8.out ?_; simp only [ls0, ls1]; refine xu 29 HOPS HREG HSR6w8.out ?_; simp only [ls0, ls1]; refine xq 30 HOPS HREG HSR6w8.out ?_; simp only [ls0, ls1]; refine xq 31 HOPS HREG HSR6w8.out ?_; simp only [ls0, ls1]; refine xq 32 HOPS HREG HSR6w8.out ?_; simp only [ls0, ls1]
      refine stepE HOPS (by kernel_rfl) (HQ.out _ _ ?_)
      clear HQ HREG HOPS
      clear Q ops
      go_wp2
      go_ret
      exact ⟨rfl, HW_8.out⟩
    · have hqq := beqF hq
      have hbd := (Below.refl W6.heap.size W6).drew
      have HW_R6 := Lib.hid (bel_trans HW_6a.out hbd)
      have HT_R6 := Lib.hid (HT_6a.out.bel hbd)
      have HL_R6 := Lib.hid (HL_6a.out.below hbd)
      have HB_R6 := Lib.hid (HB_6a.out.below hbd)
      have HV_R6 := Lib.hid (rdvUp HV_6a.out hbd)
      have HRR_R6 := Lib.hid (rdrUp HRR_6a.out hbd)
      have HR_R6 := Lib.hid (rdgUp HR_6a.out hbd)
      have HXR_R6 := Lib.hid (rdgUp HXR_6a.out hbd)
      have HX_R6 := Lib.hid (HX_6a.out.below hbd)
      have HSR6 := Lib.hid (show (fun W9 : World => W9.cell? ⟨w6.heap.size, 0, none⟩ = some (.int .i64 0) ∧ W9.cell? ⟨w6.heap.size, 1, none⟩ = some (.int .i64 0) ∧ W9.cell? ⟨w6.heap.size, 2, none⟩ = some (.slice A6 0 c6) ∧ W9.cell? ⟨(w.heap.size + 1), 0, none⟩ = some (.int .i64 ba) ∧ W9.cell? ⟨(w.heap.size + 1), 1, none⟩ = some (.int .i64 la) ∧ W9.cell? ⟨(w.heap.size + 1), 2, none⟩ = some (.int .i64 fr) ∧ W9.cell? ⟨(w.heap.size + 1), 3, none⟩ = some (.int .i64 ep) ∧ W9.cell? ⟨(w.heap.size + 1), 4, none⟩ = some (.int .i64 pi) ∧ W9.cell? ⟨(w.heap.size + 1), 5, none⟩ = some (.int .i64 ge) ∧ W9.cell? ⟨(w.heap.size + 1), 6, none⟩ = some (.int .i64 se) ∧ W9.cell? ⟨(w.heap.size + 1), 7, none⟩ = some (.bool tx) ∧ W9.cell? ⟨(w.heap.size + 1), 8, none⟩ = some (.int .i64 ct) ∧ W9.cell? ⟨(w.heap.size + 1), 9, none⟩ = some (.slice A4 n4 c4) ∧ W9.cell? ⟨w.heap.size, 0, none⟩ = some (.int .i64 lim) ∧ W9.cell? ⟨w.heap.size, 1, none⟩ = some (.int .i64 start) ∧ W9.cell? ⟨w.heap.size, 2, none⟩ = some (.slice A n c)) W6.drew from ⟨HX_R6.out.cell 0, HX_R6.out.cell 1, HX_R6.out.cell 2, HB_R6.out.cell 0, HB_R6.out.cell 1, HB_R6.out.cell 2, HB_R6.out.cell 3, HB_R6.out.cell 4, HB_R6.out.cell 5, HB_R6.out.cell 6, HB_R6.out.cell 7, HB_R6.out.cell 8, HB_R6.out.cell 9, HL_R6.out.cell 0, HL_R6.out.cell 1, HL_R6.out.cell 2⟩)
      clear hbd
      refine region_let (fun W9 : World => W9.cell? ⟨w6.heap.size, 0, none⟩ = some (.int .i64 0) ∧ W9.cell? ⟨w6.heap.size, 1, none⟩ = some (.int .i64 0) ∧ W9.cell? ⟨w6.heap.size, 2, none⟩ = some (.slice A6 0 c6) ∧ W9.cell? ⟨(w.heap.size + 1), 0, none⟩ = some (.int .i64 ba) ∧ W9.cell? ⟨(w.heap.size + 1), 1, none⟩ = some (.int .i64 la) ∧ W9.cell? ⟨(w.heap.size + 1), 2, none⟩ = some (.int .i64 fr) ∧ W9.cell? ⟨(w.heap.size + 1), 3, none⟩ = some (.int .i64 ep) ∧ W9.cell? ⟨(w.heap.size + 1), 4, none⟩ = some (.int .i64 pi) ∧ W9.cell? ⟨(w.heap.size + 1), 5, none⟩ = some (.int .i64 ge) ∧ W9.cell? ⟨(w.heap.size + 1), 6, none⟩ = some (.int .i64 se) ∧ W9.cell? ⟨(w.heap.size + 1), 7, none⟩ = some (.bool tx) ∧ W9.cell? ⟨(w.heap.size + 1), 8, none⟩ = some (.int .i64 ct) ∧ W9.cell? ⟨(w.heap.size + 1), 9, none⟩ = some (.slice A4 n4 c4) ∧ W9.cell? ⟨w.heap.size, 0, none⟩ = some (.int .i64 lim) ∧ W9.cell? ⟨w.heap.size, 1, none⟩ = some (.int .i64 start) ∧ W9.cell? ⟨w.heap.size, 2, none⟩ = some (.slice A n c)) 99 33 hmx rfl fun ops Q HOPS HQ => ?_
      have HREG := reg_of HOPS tb_ChainOnce6 rfl (by kernel_rfl) (by kernel_rfl) (by decide)
      refine xq 0 HOPS HREG HSR6.out ?_; simp only [ls0, ls1]; refine xq 1 HOPS HREG HSR6.out ?_; simp only [ls0, ls1]; refine xq 2 HOPS HREG HSR6.out ?_; simp only [ls0, ls1]; refine xq 3 HOPS HREG HSR6.out ?_; simp only [ls0, ls1]; refine xq 4 HOPS HREG HSR6.out ?_; simp only [ls0, ls1]; refine xq 5 HOPS HREG HSR6.out ?_; simp only [ls0, ls1]; refine xq 6 HOPS HREG HSR6.out ?_; simp only [ls0, ls1]; refine xq 7 HOPS HREG HSR6.out ?_; simp only [ls0, ls1]; refine xq 8 HOPS HREG HSR6.out ?_; simp only [ls0, ls1]; refine xq 10 HOPS HREG HSR6.out ?_; simp only [ls0, ls1]
      refine xc 9 HOPS ?_
      go_simp
      with_reducible refine (Chn.BCheck_is HCB.out A4 n4 c4 _ HF.out HRR_R6.out hn4b HT_R6.out).mono ?_
      rintro e w7 ⟨rfl, hb⟩
      have HW_7 := Lib.hid (bel_trans HW_R6.out hb)
      have HT_7 := Lib.hid (HT_R6.out.bel hb)
      have HL_7 := Lib.hid (HL_R6.out.below hb)
      have HB_7 := Lib.hid (HB_R6.out.below hb)
      have HV_7 := Lib.hid (rdvUp HV_R6.out hb)
      have HRR_7 := Lib.hid (rdrUp HRR_R6.out hb)
      have HR_7 := Lib.hid (rdgUp HR_R6.out hb)
      have HXR_7 := Lib.hid (rdgUp HXR_R6.out hb)
      have HX_7 := Lib.hid (HX_R6.out.below hb)
      have HSR6w7 := Lib.hid (show (fun W9 : World => W9.cell? ⟨w6.heap.size, 0, none⟩ = some (.int .i64 0) ∧ W9.cell? ⟨w6.heap.size, 1, none⟩ = some (.int .i64 0) ∧ W9.cell? ⟨w6.heap.size, 2, none⟩ = some (.slice A6 0 c6) ∧ W9.cell? ⟨(w.heap.size + 1), 0, none⟩ = some (.int .i64 ba) ∧ W9.cell? ⟨(w.heap.size + 1), 1, none⟩ = some (.int .i64 la) ∧ W9.cell? ⟨(w.heap.size + 1), 2, none⟩ = some (.int .i64 fr) ∧ W9.cell? ⟨(w.heap.size + 1), 3, none⟩ = some (.int .i64 ep) ∧ W9.cell? ⟨(w.heap.size + 1), 4, none⟩ = some (.int .i64 pi) ∧ W9.cell? ⟨(w.heap.size + 1), 5, none⟩ = some (.int .i64 ge) ∧ W9.cell? ⟨(w.heap.size + 1), 6, none⟩ = some (.int .i64 se) ∧ W9.cell? ⟨(w.heap.size + 1), 7, none⟩ = some (.bool tx) ∧ W9.cell? ⟨(w.heap.size + 1), 8, none⟩ = some (.int .i64 ct) ∧ W9.cell? ⟨(w.heap.size + 1), 9, none⟩ = some (.slice A4 n4 c4) ∧ W9.cell? ⟨w.heap.size, 0, none⟩ = some (.int .i64 lim) ∧ W9.cell? ⟨w.heap.size, 1, none⟩ = some (.int .i64 start) ∧ W9.cell? ⟨w.heap.size, 2, none⟩ = some (.slice A n c)) w7 from ⟨HX_7.out.cell 0, HX_7.out.cell 1, HX_7.out.cell 2, HB_7.out.cell 0, HB_7.out.cell 1, HB_7.out.cell 2, HB_7.out.cell 3, HB_7.out.cell 4, HB_7.out.cell 5, HB_7.out.cell 6, HB_7.out.cell 7, HB_7.out.cell 8, HB_7.out.cell 9, HL_7.out.cell 0, HL_7.out.cell 1, HL_7.out.cell 2⟩)
      clear hb
      refine ⟨HSR6w7.out, ?_⟩
      refine xq 11 HOPS HREG HSR6w7.out ?_; simp only [ls0, ls1]; refine xq 12 HOPS HREG HSR6w7.out ?_; simp only [ls0, ls1]; refine xq 13 HOPS HREG HSR6w7.out ?_; simp only [ls0, ls1]; refine xq 14 HOPS HREG HSR6w7.out ?_; simp only [ls0, ls1]; refine xq 15 HOPS HREG HSR6w7.out ?_; simp only [ls0, ls1]; refine xu 16 HOPS HREG HSR6w7.out ?_; simp only [ls0, ls1]; refine xu 17 HOPS HREG HSR6w7.out ?_; simp only [ls0, ls1]; refine xu 18 HOPS HREG HSR6w7.out ?_; simp only [ls0, ls1]; refine xu 19 HOPS HREG HSR6w7.out ?_; simp only [ls0, ls1]; refine xu 20 HOPS HREG HSR6w7.out ?_; simp only [ls0, ls1]; refine xq 21 HOPS HREG HSR6w7.out ?_; simp only [ls0, ls1]; refine xq 22 HOPS HREG HSR6w7.out ?_; simp only [ls0, ls1]; refine xq 23 HOPS HREG HSR6w7.out ?_; simp only [ls0, ls1]; refine xq 24 HOPS HREG HSR6w7.out ?_; simp only [ls0, ls1]; refine xq 25 HOPS HREG HSR6w7.out ?_; simp only [ls0, ls1]; refine xq 26 HOPS HREG HSR6w7.out ?_; simp only [ls0, ls1]; refine xq 27 HOPS HREG HSR6w7.out ?_; simp only [ls0, ls1]; refine xu 28 HOPS HREG HSR6w7.out ?_; simp only [ls0, ls1]; refine xu 29 HOPS HREG HSR6w7.out ?_; simp only [ls0, ls1]; refine xq 30 HOPS HREG HSR6w7.out ?_; simp only [ls0, ls1]; refine xq 31 HOPS HREG HSR6w7.out ?_; simp only [ls0, ls1]; refine xq 32 HOPS HREG HSR6w7.out ?_; simp only [ls0, ls1]
      refine stepE HOPS (by kernel_rfl) (HQ.out _ _ ?_)
      clear HQ HREG HOPS
      clear Q ops
      go_wp2
      go_ret
      exact ⟨rfl, HW_7.out⟩
    · have hqq := beqF hq
      have hbd := (Below.refl W6.heap.size W6).drew
      have HW_R6 := Lib.hid (bel_trans HW_6a.out hbd)
      have HT_R6 := Lib.hid (HT_6a.out.bel hbd)
      have HL_R6 := Lib.hid (HL_6a.out.below hbd)
      have HB_R6 := Lib.hid (HB_6a.out.below hbd)
      have HV_R6 := Lib.hid (rdvUp HV_6a.out hbd)
      have HRR_R6 := Lib.hid (rdrUp HRR_6a.out hbd)
      have HR_R6 := Lib.hid (rdgUp HR_6a.out hbd)
      have HXR_R6 := Lib.hid (rdgUp HXR_6a.out hbd)
      have HX_R6 := Lib.hid (HX_6a.out.below hbd)
      have HSR6 := Lib.hid (show (fun W9 : World => W9.cell? ⟨w6.heap.size, 0, none⟩ = some (.int .i64 0) ∧ W9.cell? ⟨w6.heap.size, 1, none⟩ = some (.int .i64 0) ∧ W9.cell? ⟨w6.heap.size, 2, none⟩ = some (.slice A6 0 c6) ∧ W9.cell? ⟨(w.heap.size + 1), 0, none⟩ = some (.int .i64 ba) ∧ W9.cell? ⟨(w.heap.size + 1), 1, none⟩ = some (.int .i64 la) ∧ W9.cell? ⟨(w.heap.size + 1), 2, none⟩ = some (.int .i64 fr) ∧ W9.cell? ⟨(w.heap.size + 1), 3, none⟩ = some (.int .i64 ep) ∧ W9.cell? ⟨(w.heap.size + 1), 4, none⟩ = some (.int .i64 pi) ∧ W9.cell? ⟨(w.heap.size + 1), 5, none⟩ = some (.int .i64 ge) ∧ W9.cell? ⟨(w.heap.size + 1), 6, none⟩ = some (.int .i64 se) ∧ W9.cell? ⟨(w.heap.size + 1), 7, none⟩ = some (.bool tx) ∧ W9.cell? ⟨(w.heap.size + 1), 8, none⟩ = some (.int .i64 ct) ∧ W9.cell? ⟨(w.heap.size + 1), 9, none⟩ = some (.slice A4 n4 c4) ∧ W9.cell? ⟨w.heap.size, 0, none⟩ = some (.int .i64 lim) ∧ W9.cell? ⟨w.heap.size, 1, none⟩ = some (.int .i64 start) ∧ W9.cell? ⟨w.heap.size, 2, none⟩ = some (.slice A n c)) W6.drew from ⟨HX_R6.out.cell 0, HX_R6.out.cell 1, HX_R6.out.cell 2, HB_R6.out.cell 0, HB_R6.out.cell 1, HB_R6.out.cell 2, HB_R6.out.cell 3, HB_R6.out.cell 4, HB_R6.out.cell 5, HB_R6.out.cell 6, HB_R6.out.cell 7, HB_R6.out.cell 8, HB_R6.out.cell 9, HL_R6.out.cell 0, HL_R6.out.cell 1, HL_R6.out.cell 2⟩)
      clear hbd
      refine region_let (fun W9 : World => W9.cell? ⟨w6.heap.size, 0, none⟩ = some (.int .i64 0) ∧ W9.cell? ⟨w6.heap.size, 1, none⟩ = some (.int .i64 0) ∧ W9.cell? ⟨w6.heap.size, 2, none⟩ = some (.slice A6 0 c6) ∧ W9.cell? ⟨(w.heap.size + 1), 0, none⟩ = some (.int .i64 ba) ∧ W9.cell? ⟨(w.heap.size + 1), 1, none⟩ = some (.int .i64 la) ∧ W9.cell? ⟨(w.heap.size + 1), 2, none⟩ = some (.int .i64 fr) ∧ W9.cell? ⟨(w.heap.size + 1), 3, none⟩ = some (.int .i64 ep) ∧ W9.cell? ⟨(w.heap.size + 1), 4, none⟩ = some (.int .i64 pi) ∧ W9.cell? ⟨(w.heap.size + 1), 5, none⟩ = some (.int .i64 ge) ∧ W9.cell? ⟨(w.heap.size + 1), 6, none⟩ = some (.int .i64 se) ∧ W9.cell? ⟨(w.heap.size + 1), 7, none⟩ = some (.bool tx) ∧ W9.cell? ⟨(w.heap.size + 1), 8, none⟩ = some (.int .i64 ct) ∧ W9.cell? ⟨(w.heap.size + 1), 9, none⟩ = some (.slice A4 n4 c4) ∧ W9.cell? ⟨w.heap.size, 0, none⟩ = some (.int .i64 lim) ∧ W9.cell? ⟨w.heap.size, 1, none⟩ = some (.int .i64 start) ∧ W9.cell? ⟨w.heap.size, 2, none⟩ = some (.slice A n c)) 99 33 hmx rfl fun ops Q HOPS HQ => ?_
      have HREG := reg_of HOPS tb_ChainOnce6 rfl (by kernel_rfl) (by kernel_rfl) (by decide)
      refine xq 0 HOPS HREG HSR6.out ?_; simp only [ls0, ls1]; refine xq 1 HOPS HREG HSR6.out ?_; simp only [ls0, ls1]; refine xq 2 HOPS HREG HSR6.out ?_; simp only [ls0, ls1]; refine xq 3 HOPS HREG HSR6.out ?_; simp only [ls0, ls1]; refine xq 4 HOPS HREG HSR6.out ?_; simp only [ls0, ls1]; refine xq 5 HOPS HREG HSR6.out ?_; simp only [ls0, ls1]; refine xq 6 HOPS HREG HSR6.out ?_; simp only [ls0, ls1]; refine xq 7 HOPS HREG HSR6.out ?_; simp only [ls0, ls1]; refine xq 8 HOPS HREG HSR6.out ?_; simp only [ls0, ls1]; refine xq 10 HOPS HREG HSR6.out ?_; simp only [ls0, ls1]
      refine xc 9 HOPS ?_
      go_simp
      with_reducible refine (Chn.BCheck_is HCB.out A4 n4 c4 _ HF.out HRR_R6.out hn4b HT_R6.out).mono ?_
      rintro e w7 ⟨rfl, hb⟩
      have HW_7 := Lib.hid (bel_trans HW_R6.out hb)
      have HT_7 := Lib.hid (HT_R6.out.bel hb)
      have HL_7 := Lib.hid (HL_R6.out.below hb)
      have HB_7 := Lib.hid (HB_R6.out.below hb)
      have HV_7 := Lib.hid (rdvUp HV_R6.out hb)
      have HRR_7 := Lib.hid (rdrUp HRR_R6.out hb)
      have HR_7 := Lib.hid (rdgUp HR_R6.out hb)
      have HXR_7 := Lib.hid (rdgUp HXR_R6.out hb)
      have HX_7 := Lib.hid (HX_R6.out.below hb)
      have HSR6w7 := Lib.hid (show (fun W9 : World => W9.cell? ⟨w6.heap.size, 0, none⟩ = some (.int .i64 0) ∧ W9.cell? ⟨w6.heap.size, 1, none⟩ = some (.int .i64 0) ∧ W9.cell? ⟨w6.heap.size, 2, none⟩ = some (.slice A6 0 c6) ∧ W9.cell? ⟨(w.heap.size + 1), 0, none⟩ = some (.int .i64 ba) ∧ W9.cell? ⟨(w.heap.size + 1), 1, none⟩ = some (.int .i64 la) ∧ W9.cell? ⟨(w.heap.size + 1), 2, none⟩ = some (.int .i64 fr) ∧ W9.cell? ⟨(w.heap.size + 1), 3, none⟩ = some (.int .i64 ep) ∧ W9.cell? ⟨(w.heap.size + 1), 4, none⟩ = some (.int .i64 pi) ∧ W9.cell? ⟨(w.heap.size + 1), 5, none⟩ = some (.int .i64 ge) ∧ W9.cell? ⟨(w.heap.size + 1), 6, none⟩ = some (.int .i64 se) ∧ W9.cell? ⟨(w.heap.size + 1), 7, none⟩ = some (.bool tx) ∧ W9.cell? ⟨(w.heap.size + 1), 8, none⟩ = some (.int .i64 ct) ∧ W9.cell? ⟨(w.heap.size + 1), 9, none⟩ = some (.slice A4 n4 c4) ∧ W9.cell? ⟨w.heap.size, 0, none⟩ = some (.int .i64 lim) ∧ W9.cell? ⟨w.heap.size, 1, none⟩ = some (.int .i64 start) ∧ W9.cell? ⟨w.heap.size, 2, none⟩ = some (.slice A n c)) w7 from ⟨HX_7.out.cell 0, HX_7.out.cell 1, HX_7.out.cell 2, HB_7.out.cell 0, HB_7.out.cell 1, HB_7.out.cell 2, HB_7.out.cell 3, HB_7.out.cell 4, HB_7.out.cell 5, HB_7.out.cell 6, HB_7.out.cell 7, HB_7.out.cell 8, HB_7.out.cell 9, HL_7.out.cell 0, HL_7.out.cell 1, HL_7.out.cell 2⟩)
      clear hb
      refine ⟨HSR6w7.out, ?_⟩
      refine xq 11 HOPS HREG HSR6w7.out ?_; simp only [ls0, ls1]; refine xq 12 HOPS HREG HSR6w7.out ?_; simp only [ls0, ls1]; refine xq 13 HOPS HREG HSR6w7.out ?_; simp only [ls0, ls1]; refine xq 14 HOPS HREG HSR6w7.out ?_; simp only [ls0, ls1]; refine xq 15 HOPS HREG HSR6w7.out ?_; simp only [ls0, ls1]; refine xu 16 HOPS HREG HSR6w7.out ?_; simp only [ls0, ls1]; refine xu 17 HOPS HREG HSR6w7.out ?_; simp only [ls0, ls1]; refine xu 18 HOPS HREG HSR6w7.out ?_; simp only [ls0, ls1]; refine xu 19 HOPS HREG HSR6w7.out ?_; simp only [ls0, ls1]; refine xu 20 HOPS HREG HSR6w7.out ?_; simp only [ls0, ls1]; refine xq 21 HOPS HREG HSR6w7.out ?_; simp only [ls0, ls1]; refine xq 22 HOPS HREG HSR6w7.out ?_; simp only [ls0, ls1]; refine xq 23 HOPS HREG HSR6w7.out ?_; simp only [ls0, ls1]; refine xq 24 HOPS HREG HSR6w7.out ?_; simp only [ls0, ls1]; refine xq 25 HOPS HREG HSR6w7.out ?_; simp only [ls0, ls1]; refine xq 26 HOPS HREG HSR6w7.out ?_; simp only [ls0, ls1]; refine xq 27 HOPS HREG HSR6w7.out ?_; simp only [ls0, ls1]; refine xq 28 HOPS HREG HSR6w7.out ?_; simp only [ls0, ls1]; refine xq 29 HOPS HREG HSR6w7.out ?_; simp only [ls0, ls1]; refine xq 30 HOPS HREG HSR6w7.out ?_; simp only [ls0, ls1]; refine xq 31 HOPS HREG HSR6w7.out ?_; simp only [ls0, ls1]; refine xq 32 HOPS HREG HSR6w7.out ?_; simp only [ls0, ls1]
      refine stepE HOPS (by kernel_rfl) (HQ.out _ _ ?_)
      clear HQ HREG HOPS
      clear Q ops
      go_wp2
      go_ret
      exact ⟨rfl, HW_7.out⟩
  subst he
  obtain ⟨g1, g2, g3, g4, g5, g6, g7, g8, g9, g10⟩ := apL_good hap
  simp only at g3 g4 g8 g9 g10
  obtain rfl : lim = xl := g8.symm
  obtain rfl : start = xs := g9.symm
  obtain ⟨E, hE⟩ : ∃ z, endL ⟨lim, start, l⟩ = z := ⟨_, rfl⟩
  obtain ⟨T, hTT⟩ : ∃ z, allL ⟨lim, start, l⟩ = z := ⟨_, rfl⟩
  have HE := Lib.hid (HET.out.trans hE)
  have HA := Lib.hid (HAT.out.trans hTT)
  have HCX := Lib.hid g5
  have hbl := chB_last g2
  simp only at hbl
  have HEX := Lib.hid (show endT ⟨lim, start, x⟩ = la + 1 by unfold endT; rw [if_pos g5, g6])
  have HAX := Lib.hid (show allT ⟨lim, start, x⟩ = T ++ [⟨ba, la, fr, ep, pi, ge, se, tx, ct, rs⟩] by unfold allT; rw [if_pos g5, g7, hTT])
  obtain ⟨Z, hZ⟩ : ∃ z : Nat, z = (byB ⟨ba, la, fr, ep, pi, ge, se, tx, ct, rs⟩).length := ⟨_, rfl⟩
  have HSZ := Lib.hid (show szB ⟨ba, la, fr, ep, pi, ge, se, tx, ct, rs⟩ = (Z : Int) by unfold szB; rw [if_pos g2, hZ])
  have HCB := Lib.hid g2
  have hw1 : IntKind.i64.wrap (la + 1) = la + 1 := IntWalk.i64_in _ (by omega)
  have hw2 : IntKind.i64.wrap ((n : Int) + 1) = (n : Int) + 1 := IntWalk.i64_in _ (by omega)
  have hqe : E ≤ ba := by rw [← hE]; exact g3
  have hqz : (Z : Int) ≤ lim := by rw [hZ]; exact g4
  have HLEN := Lib.hid hrg.len
  have HG10 := Lib.hid g10
  clear hR hR4 ht hba hfg hrg hfb hrl hC hap g1 g2 g3 g4 g5 g6 g7 g8 g9 g10 hE hTT hZ hbl
  go_enter Tryz.func7, Tryz.ntmps7
  go_upto_region 7 with (first
    | (go_at_call 12; (with_reducible refine (live9_any _ HT_0.out).mono ?_); rintro e w1 ⟨rfl, hb⟩; have HW_1 := Lib.hid (bel_trans HW_0.out hb); have HT_1 := Lib.hid (HT_0.out.bel hb); have HL_1 := Lib.hid (HL_0.out.below hb); have HB_1 := Lib.hid (HB_0.out.below hb); have HV_1 := Lib.hid (rdvUp HV_0.out hb); have HRR_1 := Lib.hid (rdrUp HRR_0.out hb); have HR_1 := Lib.hid (rdgUp HR_0.out hb); obtain ⟨hl1_0, hl1_1, hl1_2⟩ := cel3 HL_1.out; clear hb)
    | (go_at_call 13; (with_reducible refine (few9_is lim start A n c l none 0 0 [] _ HV_1.out hnr RdL.nil (Nat.zero_le _) HFG.out HF0.out (Bool.and_true true)).mono ?_); rintro e w2 ⟨rfl, hb⟩; have HW_2 := Lib.hid (bel_trans HW_1.out hb); have HT_2 := Lib.hid (HT_1.out.bel hb); have HL_2 := Lib.hid (HL_1.out.below hb); have HB_2 := Lib.hid (HB_1.out.below hb); have HV_2 := Lib.hid (rdvUp HV_1.out hb); have HRR_2 := Lib.hid (rdrUp HRR_1.out hb); have HR_2 := Lib.hid (rdgUp HR_1.out hb); obtain ⟨hb2_0, hb2_1, hb2_2, hb2_3, hb2_4, hb2_5, hb2_6, hb2_7, hb2_8, hb2_9⟩ := cel10 HB_2.out; clear hb)
    | (go_at_call 24; (with_reducible refine (refFew_is ba la fr ep pi ge se tx ct rs A4 n4 c4 _ HRR_2.out HFT.out hnr4 HFB.out).mono ?_); rintro e w4 ⟨rfl, hb⟩; have HW_4 := Lib.hid (bel_trans HW_2.out hb); have HT_4 := Lib.hid (HT_2.out.bel hb); have HL_4 := Lib.hid (HL_2.out.below hb); have HB_4 := Lib.hid (HB_2.out.below hb); have HV_4 := Lib.hid (rdvUp HV_2.out hb); have HRR_4 := Lib.hid (rdrUp HRR_2.out hb); have HR_4 := Lib.hid (rdgUp HR_2.out hb); obtain ⟨hl4_0, hl4_1, hl4_2⟩ := cel3 HL_4.out; clear hb)
    | (go_at_call 16; (with_reducible refine (Check_is lim start A n c l _ HR_4.out HT_4.out (by omega) HC.out).mono ?_); rintro e w5 ⟨rfl, hb⟩; have HW_5 := Lib.hid (bel_trans HW_4.out hb); have HT_5 := Lib.hid (HT_4.out.bel hb); have HL_5 := Lib.hid (HL_4.out.below hb); have HB_5 := Lib.hid (HB_4.out.below hb); have HV_5 := Lib.hid (rdvUp HV_4.out hb); have HRR_5 := Lib.hid (rdrUp HRR_4.out hb); have HR_5 := Lib.hid (rdgUp HR_4.out hb); obtain ⟨hl5_0, hl5_1, hl5_2⟩ := cel3 HL_5.out; obtain ⟨hb5_0, hb5_1, hb5_2, hb5_3, hb5_4, hb5_5, hb5_6, hb5_7, hb5_8, hb5_9⟩ := cel10 HB_5.out; clear hb)
    | (go_at_call 25; (with_reducible refine (Append_is lim start A n c l ba la fr ep pi ge se tx ct rs A4 n4 c4 _ HR_5.out HT_5.out hc (by omega) HF.out HRR_5.out hc4 hn4b HAP.out).mono ?_); rintro e w6 ⟨A6, n6, c6, rfl, ho, hb⟩; have HW_6 := Lib.hid (bel_trans HW_5.out hb); have HT_6 := Lib.hid (HT_5.out.bel hb); have HL_6 := Lib.hid (HL_5.out.below hb); have HB_6 := Lib.hid (HB_5.out.below hb); have HV_6 := Lib.hid (rdvUp HV_5.out hb); have HRR_6 := Lib.hid (rdrUp HRR_5.out hb); have HR_6 := Lib.hid (rdgUp HR_5.out hb); have hc6 := ho.cap; have HN6 := Lib.hid ho.len; have HXR_6 := Lib.hid (ho.rd); have hba := belA w6 (.cells #[.int .i64 lim, .int .i64 start, .slice A6 n6 c6] 24); have HW_6a := Lib.hid (bel_trans HW_6.out hba); have HT_6a := Lib.hid (HT_6.out.bel hba); have HL_6a := Lib.hid (HL_6.out.below hba); have HB_6a := Lib.hid (HB_6.out.below hba); have HV_6a := Lib.hid (rdvUp HV_6.out hba); have HRR_6a := Lib.hid (rdrUp HRR_6.out hba); have HR_6a := Lib.hid (rdgUp HR_6.out hba); have HXR_6a := Lib.hid (rdgUp HXR_6.out hba); have HX_6a := Lib.hid (At0.new w6 [.int .i64 lim, .int .i64 start, .slice A6 n6 c6] 24); obtain ⟨hl6a_0, hl6a_1, hl6a_2⟩ := cel3 HL_6a.out; have HNX := Lib.hid (show n6 = n ∨ n6 = n + 1 by have h1 := HG10.out; have h2 := ho.len; have h3 := HLEN.out; omega); clear hb hba ho))
  clear hl6a_0 hl6a_1 hl6a_2
  generalize (w6.alloc (.cells #[.int .i64 lim, .int .i64 start, .slice A6 n6 c6] 24)) = W6 at *
  obtain ⟨hl6g_0, hl6g_1, hl6g_2⟩ := cel3 HL_6a.out
  go_upto_region 8 with (first
    | (go_at_call 21; (with_reducible refine (All_is lim start A n c l _ HR_6a.out HT_6a.out hc (by omega) HA.out).mono ?_); rintro e w7 ⟨A7, n7, c7, rfl, ho, hb⟩; have HW_7 := Lib.hid (bel_trans HW_6a.out hb); have HT_7 := Lib.hid (HT_6a.out.bel hb); have HL_7 := Lib.hid (HL_6a.out.below hb); have HB_7 := Lib.hid (HB_6a.out.below hb); have HV_7 := Lib.hid (rdvUp HV_6a.out hb); have HRR_7 := Lib.hid (rdrUp HRR_6a.out hb); have HR_7 := Lib.hid (rdgUp HR_6a.out hb); have HXR_7 := Lib.hid (rdgUp HXR_6a.out hb); have HX_7 := Lib.hid (HX_6a.out.below hb); have hc7 := ho.cap; have HN7 := Lib.hid ho.len; have HOT7 := Lib.hid ho; have HTR_7 := Lib.hid (ho.rd); obtain ⟨hb7_0, hb7_1, hb7_2, hb7_3, hb7_4, hb7_5, hb7_6, hb7_7, hb7_8, hb7_9⟩ := cel10 HB_7.out; have HB67 := Lib.hid hb; clear hb ho))
  have HLD := Lib.hid (show LeadT w7 (fun _ => True) (Value.slice A7 n7 c7).ownBlock (⟨ba, la, fr, ep, pi, ge, se, tx, ct, rs⟩, A4, n4, c4) from lead_of (x := (⟨ba, la, fr, ep, pi, ge, se, tx, ct, rs⟩, A4, n4, c4)) HRR_7.out (Nat.le_refl _) rfl hc4 hn4b HF.out (fun a h1 h2 => ⟨trivial, fun h9 => by have h8 := (OwnT.lt HOT7.out _ h9.symm).1; have h7 := HRL.out a h1 h2; have h6 := (HW_6a.out.size); omega⟩))
  have hn7 : n7 ≤ 12000000 := by have h1 := HN7.out; have h2 := allT_len (l := ⟨lim, start, l⟩) HR_0.out.small; rw [HA.out, h1, HLEN.out] at h2; unfold gMax at h2; omega
  obtain ⟨A8, c8, w8, hrun, ho8, hg8, hat8, hb8⟩ := run_appT (P := Tryz.prog) (w := w7) W6.heap.size 33 33 39 Tryz.underlying33 batInfo (HOT7.out.more (B' := W6.heap.size) (P' := fun _ => True) (Nat.le_refl _) (fun _ _ => trivial)) HLD.out (by omega) HB67.out.size
  dsimp only [batC] at hrun
  have hb := HB67.out.trans hb8
  have HWT_8 := Lib.hid ho8.rd
  have HW_8 := Lib.hid (bel_trans HW_6a.out hb)
  have HT_8 := Lib.hid (HT_6a.out.bel hb)
  have HL_8 := Lib.hid (HL_6a.out.below hb)
  have HB_8 := Lib.hid (HB_6a.out.below hb)
  have HV_8 := Lib.hid (rdvUp HV_6a.out hb)
  have HRR_8 := Lib.hid (rdrUp HRR_6a.out hb)
  have HR_8 := Lib.hid (rdgUp HR_6a.out hb)
  have HXR_8 := Lib.hid (rdgUp HXR_6a.out hb)
  have HX_8 := Lib.hid (HX_6a.out.below hb)
  clear ho8 hg8 hat8 hb8 hb
  go_wp2_with (at_builtin; refine wpList_app_run rfl _ _ 33 rfl rfl rfl hrun ?_)
  clear hrun
  rcases HNX.out with hq | hq
  · obtain rfl : n = n6 := hq.symm
    clear HNX
    have hbd := (Below.refl w8.heap.size w8).drew
    have HW_R9 := Lib.hid (bel_trans HW_8.out hbd)
    have HT_R9 := Lib.hid (HT_8.out.bel hbd)
    have HL_R9 := Lib.hid (HL_8.out.below hbd)
    have HB_R9 := Lib.hid (HB_8.out.below hbd)
    have HV_R9 := Lib.hid (rdvUp HV_8.out hbd)
    have HRR_R9 := Lib.hid (rdrUp HRR_8.out hbd)
    have HR_R9 := Lib.hid (rdgUp HR_8.out hbd)
    have HXR_R9 := Lib.hid (rdgUp HXR_8.out hbd)
    have HX_R9 := Lib.hid (HX_8.out.below hbd)
    have HWT_R9 := Lib.hid (rdtUp HWT_8.out hbd)
    have HSR9 := Lib.hid (show (fun W9 : World => W9.cell? ⟨w6.heap.size, 0, none⟩ = some (.int .i64 lim) ∧ W9.cell? ⟨w6.heap.size, 1, none⟩ = some (.int .i64 start) ∧ W9.cell? ⟨w6.heap.size, 2, none⟩ = some (.slice A6 n c6) ∧ W9.cell? ⟨(w.heap.size + 1), 0, none⟩ = some (.int .i64 ba) ∧ W9.cell? ⟨(w.heap.size + 1), 1, none⟩ = some (.int .i64 la) ∧ W9.cell? ⟨(w.heap.size + 1), 2, none⟩ = some (.int .i64 fr) ∧ W9.cell? ⟨(w.heap.size + 1), 3, none⟩ = some (.int .i64 ep) ∧ W9.cell? ⟨(w.heap.size + 1), 4, none⟩ = some (.int .i64 pi) ∧ W9.cell? ⟨(w.heap.size + 1), 5, none⟩ = some (.int .i64 ge) ∧ W9.cell? ⟨(w.heap.size + 1), 6, none⟩ = some (.int .i64 se) ∧ W9.cell? ⟨(w.heap.size + 1), 7, none⟩ = some (.bool tx) ∧ W9.cell? ⟨(w.heap.size + 1), 8, none⟩ = some (.int .i64 ct) ∧ W9.cell? ⟨(w.heap.size + 1), 9, none⟩ = some (.slice A4 n4 c4) ∧ W9.cell? ⟨w.heap.size, 0, none⟩ = some (.int .i64 lim) ∧ W9.cell? ⟨w.heap.size, 1, none⟩ = some (.int .i64 start) ∧ W9.cell? ⟨w.heap.size, 2, none⟩ = some (.slice A n c)) w8.drew from ⟨HX_R9.out.cell 0, HX_R9.out.cell 1, HX_R9.out.cell 2, HB_R9.out.cell 0, HB_R9.out.cell 1, HB_R9.out.cell 2, HB_R9.out.cell 3, HB_R9.out.cell 4, HB_R9.out.cell 5, HB_R9.out.cell 6, HB_R9.out.cell 7, HB_R9.out.cell 8, HB_R9.out.cell 9, HL_R9.out.cell 0, HL_R9.out.cell 1, HL_R9.out.cell 2⟩)
    clear hbd
    refine region_let (fun W9 : World => W9.cell? ⟨w6.heap.size, 0, none⟩ = some (.int .i64 lim) ∧ W9.cell? ⟨w6.heap.size, 1, none⟩ = some (.int .i64 start) ∧ W9.cell? ⟨w6.heap.size, 2, none⟩ = some (.slice A6 n c6) ∧ W9.cell? ⟨(w.heap.size + 1), 0, none⟩ = some (.int .i64 ba) ∧ W9.cell? ⟨(w.heap.size + 1), 1, none⟩ = some (.int .i64 la) ∧ W9.cell? ⟨(w.heap.size + 1), 2, none⟩ = some (.int .i64 fr) ∧ W9.cell? ⟨(w.heap.size + 1), 3, none⟩ = some (.int .i64 ep) ∧ W9.cell? ⟨(w.heap.size + 1), 4, none⟩ = some (.int .i64 pi) ∧ W9.cell? ⟨(w.heap.size + 1), 5, none⟩ = some (.int .i64 ge) ∧ W9.cell? ⟨(w.heap.size + 1), 6, none⟩ = some (.int .i64 se) ∧ W9.cell? ⟨(w.heap.size + 1), 7, none⟩ = some (.bool tx) ∧ W9.cell? ⟨(w.heap.size + 1), 8, none⟩ = some (.int .i64 ct) ∧ W9.cell? ⟨(w.heap.size + 1), 9, none⟩ = some (.slice A4 n4 c4) ∧ W9.cell? ⟨w.heap.size, 0, none⟩ = some (.int .i64 lim) ∧ W9.cell? ⟨w.heap.size, 1, none⟩ = some (.int .i64 start) ∧ W9.cell? ⟨w.heap.size, 2, none⟩ = some (.slice A n c)) 99 59 hmx rfl fun ops Q HOPS HQ => ?_
    have HREG := reg_of HOPS tb_ChainOnce9 rfl (by kernel_rfl) (by kernel_rfl) (by decide)
    refine xq 0 HOPS HREG HSR9.out ?_; simp only [ls0, ls1]; refine xq 1 HOPS HREG HSR9.out ?_; simp only [ls0, ls1]; refine xq 2 HOPS HREG HSR9.out ?_; simp only [ls0, ls1]; refine xq 3 HOPS HREG HSR9.out ?_; simp only [ls0, ls1]; refine xq 4 HOPS HREG HSR9.out ?_; simp only [ls0, ls1]
    refine xc 5 HOPS ?_
    go_simp
    with_reducible refine (Chn.End_is lim start A n c l _ HR_R9.out HT_R9.out (by omega) HE.out).mono ?_
    rintro e w9 ⟨rfl, hb⟩
    have HW_9 := Lib.hid (bel_trans HW_R9.out hb)
    have HT_9 := Lib.hid (HT_R9.out.bel hb)
    have HL_9 := Lib.hid (HL_R9.out.below hb)
    have HB_9 := Lib.hid (HB_R9.out.below hb)
    have HV_9 := Lib.hid (rdvUp HV_R9.out hb)
    have HRR_9 := Lib.hid (rdrUp HRR_R9.out hb)
    have HR_9 := Lib.hid (rdgUp HR_R9.out hb)
    have HXR_9 := Lib.hid (rdgUp HXR_R9.out hb)
    have HX_9 := Lib.hid (HX_R9.out.below hb)
    have HWT_9 := Lib.hid (rdtUp HWT_R9.out hb)
    have HSR9w9 := Lib.hid (show (fun W9 : World => W9.cell? ⟨w6.heap.size, 0, none⟩ = some (.int .i64 lim) ∧ W9.cell? ⟨w6.heap.size, 1, none⟩ = some (.int .i64 start) ∧ W9.cell? ⟨w6.heap.size, 2, none⟩ = some (.slice A6 n c6) ∧ W9.cell? ⟨(w.heap.size + 1), 0, none⟩ = some (.int .i64 ba) ∧ W9.cell? ⟨(w.heap.size + 1), 1, none⟩ = some (.int .i64 la) ∧ W9.cell? ⟨(w.heap.size + 1), 2, none⟩ = some (.int .i64 fr) ∧ W9.cell? ⟨(w.heap.size + 1), 3, none⟩ = some (.int .i64 ep) ∧ W9.cell? ⟨(w.heap.size + 1), 4, none⟩ = some (.int .i64 pi) ∧ W9.cell? ⟨(w.heap.size + 1), 5, none⟩ = some (.int .i64 ge) ∧ W9.cell? ⟨(w.heap.size + 1), 6, none⟩ = some (.int .i64 se) ∧ W9.cell? ⟨(w.heap.size + 1), 7, none⟩ = some (.bool tx) ∧ W9.cell? ⟨(w.heap.size + 1), 8, none⟩ = some (.int .i64 ct) ∧ W9.cell? ⟨(w.heap.size + 1), 9, none⟩ = some (.slice A4 n4 c4) ∧ W9.cell? ⟨w.heap.size, 0, none⟩ = some (.int .i64 lim) ∧ W9.cell? ⟨w.heap.size, 1, none⟩ = some (.int .i64 start) ∧ W9.cell? ⟨w.heap.size, 2, none⟩ = some (.slice A n c)) w9 from ⟨HX_9.out.cell 0, HX_9.out.cell 1, HX_9.out.cell 2, HB_9.out.cell 0, HB_9.out.cell 1, HB_9.out.cell 2, HB_9.out.cell 3, HB_9.out.cell 4, HB_9.out.cell 5, HB_9.out.cell 6, HB_9.out.cell 7, HB_9.out.cell 8, HB_9.out.cell 9, HL_9.out.cell 0, HL_9.out.cell 1, HL_9.out.cell 2⟩)
    clear hb
    refine ⟨HSR9w9.out, ?_⟩
    refine xq 6 HOPS HREG HSR9w9.out ?_; simp only [ls0, ls1]; refine xq 7 HOPS HREG HSR9w9.out ?_; simp only [ls0, ls1]; refine xq 8 HOPS HREG HSR9w9.out ?_; simp only [ls0, ls1]; refine xq 9 HOPS HREG HSR9w9.out ?_; simp only [ls0, ls1]
    refine xc 10 HOPS ?_
    go_simp
    with_reducible refine (Chn.BCheck_is HCB.out A4 n4 c4 _ HF.out HRR_9.out hn4b HT_9.out).mono ?_
    rintro e w10 ⟨rfl, hb⟩
    have HW_10 := Lib.hid (bel_trans HW_9.out hb)
    have HT_10 := Lib.hid (HT_9.out.bel hb)
    have HL_10 := Lib.hid (HL_9.out.below hb)
    have HB_10 := Lib.hid (HB_9.out.below hb)
    have HV_10 := Lib.hid (rdvUp HV_9.out hb)
    have HRR_10 := Lib.hid (rdrUp HRR_9.out hb)
    have HR_10 := Lib.hid (rdgUp HR_9.out hb)
    have HXR_10 := Lib.hid (rdgUp HXR_9.out hb)
    have HX_10 := Lib.hid (HX_9.out.below hb)
    have HWT_10 := Lib.hid (rdtUp HWT_9.out hb)
    have HSR9w10 := Lib.hid (show (fun W9 : World => W9.cell? ⟨w6.heap.size, 0, none⟩ = some (.int .i64 lim) ∧ W9.cell? ⟨w6.heap.size, 1, none⟩ = some (.int .i64 start) ∧ W9.cell? ⟨w6.heap.size, 2, none⟩ = some (.slice A6 n c6) ∧ W9.cell? ⟨(w.heap.size + 1), 0, none⟩ = some (.int .i64 ba) ∧ W9.cell? ⟨(w.heap.size + 1), 1, none⟩ = some (.int .i64 la) ∧ W9.cell? ⟨(w.heap.size + 1), 2, none⟩ = some (.int .i64 fr) ∧ W9.cell? ⟨(w.heap.size + 1), 3, none⟩ = some (.int .i64 ep) ∧ W9.cell? ⟨(w.heap.size + 1), 4, none⟩ = some (.int .i64 pi) ∧ W9.cell? ⟨(w.heap.size + 1), 5, none⟩ = some (.int .i64 ge) ∧ W9.cell? ⟨(w.heap.size + 1), 6, none⟩ = some (.int .i64 se) ∧ W9.cell? ⟨(w.heap.size + 1), 7, none⟩ = some (.bool tx) ∧ W9.cell? ⟨(w.heap.size + 1), 8, none⟩ = some (.int .i64 ct) ∧ W9.cell? ⟨(w.heap.size + 1), 9, none⟩ = some (.slice A4 n4 c4) ∧ W9.cell? ⟨w.heap.size, 0, none⟩ = some (.int .i64 lim) ∧ W9.cell? ⟨w.heap.size, 1, none⟩ = some (.int .i64 start) ∧ W9.cell? ⟨w.heap.size, 2, none⟩ = some (.slice A n c)) w10 from ⟨HX_10.out.cell 0, HX_10.out.cell 1, HX_10.out.cell 2, HB_10.out.cell 0, HB_10.out.cell 1, HB_10.out.cell 2, HB_10.out.cell 3, HB_10.out.cell 4, HB_10.out.cell 5, HB_10.out.cell 6, HB_10.out.cell 7, HB_10.out.cell 8, HB_10.out.cell 9, HL_10.out.cell 0, HL_10.out.cell 1, HL_10.out.cell 2⟩)
    clear hb
    refine ⟨HSR9w10.out, ?_⟩
    refine xq 11 HOPS HREG HSR9w10.out ?_; simp only [ls0, ls1]; refine xq 12 HOPS HREG HSR9w10.out ?_; simp only [ls0, ls1]; refine xq 13 HOPS HREG HSR9w10.out ?_; simp only [ls0, ls1]; refine xq 14 HOPS HREG HSR9w10.out ?_; simp only [ls0, ls1]; refine xq 16 HOPS HREG HSR9w10.out ?_; simp only [ls0, ls1]; refine xq 17 HOPS HREG HSR9w10.out ?_; simp only [ls0, ls1]
    refine xc 15 HOPS ?_
    go_simp
    with_reducible refine (Chn.BSize_is HSZ.out A4 n4 c4 _ HF.out HRR_10.out hn4b HT_10.out).mono ?_
    rintro e w11 ⟨rfl, hb⟩
    have HW_11 := Lib.hid (bel_trans HW_10.out hb)
    have HT_11 := Lib.hid (HT_10.out.bel hb)
    have HL_11 := Lib.hid (HL_10.out.below hb)
    have HB_11 := Lib.hid (HB_10.out.below hb)
    have HV_11 := Lib.hid (rdvUp HV_10.out hb)
    have HRR_11 := Lib.hid (rdrUp HRR_10.out hb)
    have HR_11 := Lib.hid (rdgUp HR_10.out hb)
    have HXR_11 := Lib.hid (rdgUp HXR_10.out hb)
    have HX_11 := Lib.hid (HX_10.out.below hb)
    have HWT_11 := Lib.hid (rdtUp HWT_10.out hb)
    have HSR9w11 := Lib.hid (show (fun W9 : World => W9.cell? ⟨w6.heap.size, 0, none⟩ = some (.int .i64 lim) ∧ W9.cell? ⟨w6.heap.size, 1, none⟩ = some (.int .i64 start) ∧ W9.cell? ⟨w6.heap.size, 2, none⟩ = some (.slice A6 n c6) ∧ W9.cell? ⟨(w.heap.size + 1), 0, none⟩ = some (.int .i64 ba) ∧ W9.cell? ⟨(w.heap.size + 1), 1, none⟩ = some (.int .i64 la) ∧ W9.cell? ⟨(w.heap.size + 1), 2, none⟩ = some (.int .i64 fr) ∧ W9.cell? ⟨(w.heap.size + 1), 3, none⟩ = some (.int .i64 ep) ∧ W9.cell? ⟨(w.heap.size + 1), 4, none⟩ = some (.int .i64 pi) ∧ W9.cell? ⟨(w.heap.size + 1), 5, none⟩ = some (.int .i64 ge) ∧ W9.cell? ⟨(w.heap.size + 1), 6, none⟩ = some (.int .i64 se) ∧ W9.cell? ⟨(w.heap.size + 1), 7, none⟩ = some (.bool tx) ∧ W9.cell? ⟨(w.heap.size + 1), 8, none⟩ = some (.int .i64 ct) ∧ W9.cell? ⟨(w.heap.size + 1), 9, none⟩ = some (.slice A4 n4 c4) ∧ W9.cell? ⟨w.heap.size, 0, none⟩ = some (.int .i64 lim) ∧ W9.cell? ⟨w.heap.size, 1, none⟩ = some (.int .i64 start) ∧ W9.cell? ⟨w.heap.size, 2, none⟩ = some (.slice A n c)) w11 from ⟨HX_11.out.cell 0, HX_11.out.cell 1, HX_11.out.cell 2, HB_11.out.cell 0, HB_11.out.cell 1, HB_11.out.cell 2, HB_11.out.cell 3, HB_11.out.cell 4, HB_11.out.cell 5, HB_11.out.cell 6, HB_11.out.cell 7, HB_11.out.cell 8, HB_11.out.cell 9, HL_11.out.cell 0, HL_11.out.cell 1, HL_11.out.cell 2⟩)
    clear hb
    refine ⟨HSR9w11.out, ?_⟩
    refine xq 18 HOPS HREG HSR9w11.out ?_; simp only [ls0, ls1]; refine xq 19 HOPS HREG HSR9w11.out ?_; simp only [ls0, ls1]; refine xq 20 HOPS HREG HSR9w11.out ?_; simp only [ls0, ls1]; refine xq 21 HOPS HREG HSR9w11.out ?_; simp only [ls0, ls1]
    refine xc 22 HOPS ?_
    go_simp
    with_reducible refine (Chn.Check_is lim start A6 n c6 x _ HXR_11.out HT_11.out (by omega) HCX.out).mono ?_
    rintro e w12 ⟨rfl, hb⟩
    have HW_12 := Lib.hid (bel_trans HW_11.out hb)
    have HT_12 := Lib.hid (HT_11.out.bel hb)
    have HL_12 := Lib.hid (HL_11.out.below hb)
    have HB_12 := Lib.hid (HB_11.out.below hb)
    have HV_12 := Lib.hid (rdvUp HV_11.out hb)
    have HRR_12 := Lib.hid (rdrUp HRR_11.out hb)
    have HR_12 := Lib.hid (rdgUp HR_11.out hb)
    have HXR_12 := Lib.hid (rdgUp HXR_11.out hb)
    have HX_12 := Lib.hid (HX_11.out.below hb)
    have HWT_12 := Lib.hid (rdtUp HWT_11.out hb)
    have HSR9w12 := Lib.hid (show (fun W9 : World => W9.cell? ⟨w6.heap.size, 0, none⟩ = some (.int .i64 lim) ∧ W9.cell? ⟨w6.heap.size, 1, none⟩ = some (.int .i64 start) ∧ W9.cell? ⟨w6.heap.size, 2, none⟩ = some (.slice A6 n c6) ∧ W9.cell? ⟨(w.heap.size + 1), 0, none⟩ = some (.int .i64 ba) ∧ W9.cell? ⟨(w.heap.size + 1), 1, none⟩ = some (.int .i64 la) ∧ W9.cell? ⟨(w.heap.size + 1), 2, none⟩ = some (.int .i64 fr) ∧ W9.cell? ⟨(w.heap.size + 1), 3, none⟩ = some (.int .i64 ep) ∧ W9.cell? ⟨(w.heap.size + 1), 4, none⟩ = some (.int .i64 pi) ∧ W9.cell? ⟨(w.heap.size + 1), 5, none⟩ = some (.int .i64 ge) ∧ W9.cell? ⟨(w.heap.size + 1), 6, none⟩ = some (.int .i64 se) ∧ W9.cell? ⟨(w.heap.size + 1), 7, none⟩ = some (.bool tx) ∧ W9.cell? ⟨(w.heap.size + 1), 8, none⟩ = some (.int .i64 ct) ∧ W9.cell? ⟨(w.heap.size + 1), 9, none⟩ = some (.slice A4 n4 c4) ∧ W9.cell? ⟨w.heap.size, 0, none⟩ = some (.int .i64 lim) ∧ W9.cell? ⟨w.heap.size, 1, none⟩ = some (.int .i64 start) ∧ W9.cell? ⟨w.heap.size, 2, none⟩ = some (.slice A n c)) w12 from ⟨HX_12.out.cell 0, HX_12.out.cell 1, HX_12.out.cell 2, HB_12.out.cell 0, HB_12.out.cell 1, HB_12.out.cell 2, HB_12.out.cell 3, HB_12.out.cell 4, HB_12.out.cell 5, HB_12.out.cell 6, HB_12.out.cell 7, HB_12.out.cell 8, HB_12.out.cell 9, HL_12.out.cell 0, HL_12.out.cell 1, HL_12.out.cell 2⟩)
    clear hb
    refine ⟨HSR9w12.out, ?_⟩
    refine xq 23 HOPS HREG HSR9w12.out ?_; simp only [ls0, ls1]; refine xq 24 HOPS HREG HSR9w12.out ?_; simp only [ls0, ls1]; refine xq 25 HOPS HREG HSR9w12.out ?_; simp only [ls0, ls1]; refine xq 26 HOPS HREG HSR9w12.out ?_; simp only [ls0, ls1]; refine xq 28 HOPS HREG HSR9w12.out ?_; simp only [ls0, ls1]; refine xq 29 HOPS HREG HSR9w12.out ?_; simp only [ls0, ls1]; refine xq 30 HOPS HREG HSR9w12.out ?_; simp only [ls0, ls1]
    refine xc 27 HOPS ?_
    go_simp
    with_reducible refine (Chn.End_is lim start A6 n c6 x _ HXR_12.out HT_12.out (by omega) HEX.out).mono ?_
    rintro e w13 ⟨rfl, hb⟩
    have HW_13 := Lib.hid (bel_trans HW_12.out hb)
    have HT_13 := Lib.hid (HT_12.out.bel hb)
    have HL_13 := Lib.hid (HL_12.out.below hb)
    have HB_13 := Lib.hid (HB_12.out.below hb)
    have HV_13 := Lib.hid (rdvUp HV_12.out hb)
    have HRR_13 := Lib.hid (rdrUp HRR_12.out hb)
    have HR_13 := Lib.hid (rdgUp HR_12.out hb)
    have HXR_13 := Lib.hid (rdgUp HXR_12.out hb)
    have HX_13 := Lib.hid (HX_12.out.below hb)
    have HWT_13 := Lib.hid (rdtUp HWT_12.out hb)
    have HSR9w13 := Lib.hid (show (fun W9 : World => W9.cell? ⟨w6.heap.size, 0, none⟩ = some (.int .i64 lim) ∧ W9.cell? ⟨w6.heap.size, 1, none⟩ = some (.int .i64 start) ∧ W9.cell? ⟨w6.heap.size, 2, none⟩ = some (.slice A6 n c6) ∧ W9.cell? ⟨(w.heap.size + 1), 0, none⟩ = some (.int .i64 ba) ∧ W9.cell? ⟨(w.heap.size + 1), 1, none⟩ = some (.int .i64 la) ∧ W9.cell? ⟨(w.heap.size + 1), 2, none⟩ = some (.int .i64 fr) ∧ W9.cell? ⟨(w.heap.size + 1), 3, none⟩ = some (.int .i64 ep) ∧ W9.cell? ⟨(w.heap.size + 1), 4, none⟩ = some (.int .i64 pi) ∧ W9.cell? ⟨(w.heap.size + 1), 5, none⟩ = some (.int .i64 ge) ∧ W9.cell? ⟨(w.heap.size + 1), 6, none⟩ = some (.int .i64 se) ∧ W9.cell? ⟨(w.heap.size + 1), 7, none⟩ = some (.bool tx) ∧ W9.cell? ⟨(w.heap.size + 1), 8, none⟩ = some (.int .i64 ct) ∧ W9.cell? ⟨(w.heap.size + 1), 9, none⟩ = some (.slice A4 n4 c4) ∧ W9.cell? ⟨w.heap.size, 0, none⟩ = some (.int .i64 lim) ∧ W9.cell? ⟨w.heap.size, 1, none⟩ = some (.int .i64 start) ∧ W9.cell? ⟨w.heap.size, 2, none⟩ = some (.slice A n c)) w13 from ⟨HX_13.out.cell 0, HX_13.out.cell 1, HX_13.out.cell 2, HB_13.out.cell 0, HB_13.out.cell 1, HB_13.out.cell 2, HB_13.out.cell 3, HB_13.out.cell 4, HB_13.out.cell 5, HB_13.out.cell 6, HB_13.out.cell 7, HB_13.out.cell 8, HB_13.out.cell 9, HL_13.out.cell 0, HL_13.out.cell 1, HL_13.out.cell 2⟩)
    clear hb
    refine ⟨HSR9w13.out, ?_⟩
    refine xq 31 HOPS HREG HSR9w13.out ?_; simp only [ls0, ls1]; refine xq 32 HOPS HREG HSR9w13.out ?_; simp only [ls0, ls1]; refine xq 33 HOPS HREG HSR9w13.out ?_; simp only [ls0, ls1]; refine xq 34 HOPS HREG HSR9w13.out ?_; simp only [ls0, ls1]; refine xq 36 HOPS HREG HSR9w13.out ?_; simp only [ls0, ls1]
    refine xc 35 HOPS ?_
    go_simp
    with_reducible refine (All_is lim start A6 n c6 x _ HXR_13.out HT_13.out hc6 (by omega) HAX.out).mono ?_
    rintro e w14 ⟨A14, n14, c14, rfl, ho, hb⟩
    have HW_14 := Lib.hid (bel_trans HW_13.out hb)
    have HT_14 := Lib.hid (HT_13.out.bel hb)
    have HL_14 := Lib.hid (HL_13.out.below hb)
    have HB_14 := Lib.hid (HB_13.out.below hb)
    have HV_14 := Lib.hid (rdvUp HV_13.out hb)
    have HRR_14 := Lib.hid (rdrUp HRR_13.out hb)
    have HR_14 := Lib.hid (rdgUp HR_13.out hb)
    have HXR_14 := Lib.hid (rdgUp HXR_13.out hb)
    have HX_14 := Lib.hid (HX_13.out.below hb)
    have HWT_14 := Lib.hid (rdtUp HWT_13.out hb)
    have HYT_14 := Lib.hid (ho.rd)
    obtain rfl : n7 + 1 = n14 := by have h1 := ho.len; have h2 := HN7.out; simp only [List.length_append, List.length_singleton] at h1; omega
    clear ho
    have HSR9w14 := Lib.hid (show (fun W9 : World => W9.cell? ⟨w6.heap.size, 0, none⟩ = some (.int .i64 lim) ∧ W9.cell? ⟨w6.heap.size, 1, none⟩ = some (.int .i64 start) ∧ W9.cell? ⟨w6.heap.size, 2, none⟩ = some (.slice A6 n c6) ∧ W9.cell? ⟨(w.heap.size + 1), 0, none⟩ = some (.int .i64 ba) ∧ W9.cell? ⟨(w.heap.size + 1), 1, none⟩ = some (.int .i64 la) ∧ W9.cell? ⟨(w.heap.size + 1), 2, none⟩ = some (.int .i64 fr) ∧ W9.cell? ⟨(w.heap.size + 1), 3, none⟩ = some (.int .i64 ep) ∧ W9.cell? ⟨(w.heap.size + 1), 4, none⟩ = some (.int .i64 pi) ∧ W9.cell? ⟨(w.heap.size + 1), 5, none⟩ = some (.int .i64 ge) ∧ W9.cell? ⟨(w.heap.size + 1), 6, none⟩ = some (.int .i64 se) ∧ W9.cell? ⟨(w.heap.size + 1), 7, none⟩ = some (.bool tx) ∧ W9.cell? ⟨(w.heap.size + 1), 8, none⟩ = some (.int .i64 ct) ∧ W9.cell? ⟨(w.heap.size + 1), 9, none⟩ = some (.slice A4 n4 c4) ∧ W9.cell? ⟨w.heap.size, 0, none⟩ = some (.int .i64 lim) ∧ W9.cell? ⟨w.heap.size, 1, none⟩ = some (.int .i64 start) ∧ W9.cell? ⟨w.heap.size, 2, none⟩ = some (.slice A n c)) w14 from ⟨HX_14.out.cell 0, HX_14.out.cell 1, HX_14.out.cell 2, HB_14.out.cell 0, HB_14.out.cell 1, HB_14.out.cell 2, HB_14.out.cell 3, HB_14.out.cell 4, HB_14.out.cell 5, HB_14.out.cell 6, HB_14.out.cell 7, HB_14.out.cell 8, HB_14.out.cell 9, HL_14.out.cell 0, HL_14.out.cell 1, HL_14.out.cell 2⟩)
    clear hb
    refine ⟨HSR9w14.out, ?_⟩
    refine xc 37 HOPS ?_
    go_simp
    with_reducible refine (SameAll_is A14 A8 (n7 + 1) c14 (n7 + 1) c8 _ _ _ HYT_14.out HWT_14.out (by omega) (by omega) (eqT_self _)).mono ?_
    rintro e w15 ⟨rfl, hb⟩
    have HW_15 := Lib.hid (bel_trans HW_14.out hb)
    have HT_15 := Lib.hid (HT_14.out.bel hb)
    have HL_15 := Lib.hid (HL_14.out.below hb)
    have HB_15 := Lib.hid (HB_14.out.below hb)
    have HV_15 := Lib.hid (rdvUp HV_14.out hb)
    have HRR_15 := Lib.hid (rdrUp HRR_14.out hb)
    have HR_15 := Lib.hid (rdgUp HR_14.out hb)
    have HXR_15 := Lib.hid (rdgUp HXR_14.out hb)
    have HX_15 := Lib.hid (HX_14.out.below hb)
    have HWT_15 := Lib.hid (rdtUp HWT_14.out hb)
    have HYT_15 := Lib.hid (rdtUp HYT_14.out hb)
    have HSR9w15 := Lib.hid (show (fun W9 : World => W9.cell? ⟨w6.heap.size, 0, none⟩ = some (.int .i64 lim) ∧ W9.cell? ⟨w6.heap.size, 1, none⟩ = some (.int .i64 start) ∧ W9.cell? ⟨w6.heap.size, 2, none⟩ = some (.slice A6 n c6) ∧ W9.cell? ⟨(w.heap.size + 1), 0, none⟩ = some (.int .i64 ba) ∧ W9.cell? ⟨(w.heap.size + 1), 1, none⟩ = some (.int .i64 la) ∧ W9.cell? ⟨(w.heap.size + 1), 2, none⟩ = some (.int .i64 fr) ∧ W9.cell? ⟨(w.heap.size + 1), 3, none⟩ = some (.int .i64 ep) ∧ W9.cell? ⟨(w.heap.size + 1), 4, none⟩ = some (.int .i64 pi) ∧ W9.cell? ⟨(w.heap.size + 1), 5, none⟩ = some (.int .i64 ge) ∧ W9.cell? ⟨(w.heap.size + 1), 6, none⟩ = some (.int .i64 se) ∧ W9.cell? ⟨(w.heap.size + 1), 7, none⟩ = some (.bool tx) ∧ W9.cell? ⟨(w.heap.size + 1), 8, none⟩ = some (.int .i64 ct) ∧ W9.cell? ⟨(w.heap.size + 1), 9, none⟩ = some (.slice A4 n4 c4) ∧ W9.cell? ⟨w.heap.size, 0, none⟩ = some (.int .i64 lim) ∧ W9.cell? ⟨w.heap.size, 1, none⟩ = some (.int .i64 start) ∧ W9.cell? ⟨w.heap.size, 2, none⟩ = some (.slice A n c)) w15 from ⟨HX_15.out.cell 0, HX_15.out.cell 1, HX_15.out.cell 2, HB_15.out.cell 0, HB_15.out.cell 1, HB_15.out.cell 2, HB_15.out.cell 3, HB_15.out.cell 4, HB_15.out.cell 5, HB_15.out.cell 6, HB_15.out.cell 7, HB_15.out.cell 8, HB_15.out.cell 9, HL_15.out.cell 0, HL_15.out.cell 1, HL_15.out.cell 2⟩)
    clear hb
    refine ⟨HSR9w15.out, ?_⟩
    refine xq 38 HOPS HREG HSR9w15.out ?_; simp only [ls0, ls1]; refine xq 39 HOPS HREG HSR9w15.out ?_; simp only [ls0, ls1]; refine xq 40 HOPS HREG HSR9w15.out ?_; simp only [ls0, ls1]; refine xq 41 HOPS HREG HSR9w15.out ?_; simp only [ls0, ls1]; refine xq 42 HOPS HREG HSR9w15.out ?_; simp only [ls0, ls1]; refine xq 43 HOPS HREG HSR9w15.out ?_; simp only [ls0, ls1]; refine xq 44 HOPS HREG HSR9w15.out ?_; simp only [ls0, ls1]; refine xq 45 HOPS HREG HSR9w15.out ?_; simp only [ls0, ls1]; refine xq 46 HOPS HREG HSR9w15.out ?_; simp only [ls0, ls1]; refine xq 47 HOPS HREG HSR9w15.out ?_; simp only [ls0, ls1]; refine xu 48 HOPS HREG HSR9w15.out ?_; simp only [ls0, ls1]; refine xu 49 HOPS HREG HSR9w15.out ?_; simp only [ls0, ls1]; refine xu 50 HOPS HREG HSR9w15.out ?_; simp only [ls0, ls1]; refine xu 51 HOPS HREG HSR9w15.out ?_; simp only [ls0, ls1]; refine xu 52 HOPS HREG HSR9w15.out ?_; simp only [ls0, ls1]; refine xu 53 HOPS HREG HSR9w15.out ?_; simp only [ls0, ls1]; refine xu 54 HOPS HREG HSR9w15.out ?_; simp only [ls0, ls1]; refine xu 55 HOPS HREG HSR9w15.out ?_; simp only [ls0, ls1]; refine xq 56 HOPS HREG HSR9w15.out ?_; simp only [ls0, ls1]; refine xq 57 HOPS HREG HSR9w15.out ?_; simp only [ls0, ls1]; refine xq 58 HOPS HREG HSR9w15.out ?_; simp only [ls0, ls1]
    refine stepE HOPS (by kernel_rfl) (HQ.out _ _ ?_)
    clear HQ HREG HOPS
    clear Q ops
    go_wp2
    go_ret
    exact ⟨rfl, HW_15.out⟩
  · subst hq
    clear HNX
    have hnn : (((n + 1 : Nat) : Int) == (n : Int)) = false := beqF (by omega)
    have hnn2 : ((n : Int) + 1 == (n : Int)) = false := beqF (by omega)
    have hbd := (Below.refl w8.heap.size w8).drew
    have HW_R9 := Lib.hid (bel_trans HW_8.out hbd)
    have HT_R9 := Lib.hid (HT_8.out.bel hbd)
    have HL_R9 := Lib.hid (HL_8.out.below hbd)
    have HB_R9 := Lib.hid (HB_8.out.below hbd)
    have HV_R9 := Lib.hid (rdvUp HV_8.out hbd)
    have HRR_R9 := Lib.hid (rdrUp HRR_8.out hbd)
    have HR_R9 := Lib.hid (rdgUp HR_8.out hbd)
    have HXR_R9 := Lib.hid (rdgUp HXR_8.out hbd)
    have HX_R9 := Lib.hid (HX_8.out.below hbd)
    have HWT_R9 := Lib.hid (rdtUp HWT_8.out hbd)
    have HSR9 := Lib.hid (show (fun W9 : World => W9.cell? ⟨w6.heap.size, 0, none⟩ = some (.int .i64 lim) ∧ W9.cell? ⟨w6.heap.size, 1, none⟩ = some (.int .i64 start) ∧ W9.cell? ⟨w6.heap.size, 2, none⟩ = some (.slice A6 (n + 1) c6) ∧ W9.cell? ⟨(w.heap.size + 1), 0, none⟩ = some (.int .i64 ba) ∧ W9.cell? ⟨(w.heap.size + 1), 1, none⟩ = some (.int .i64 la) ∧ W9.cell? ⟨(w.heap.size + 1), 2, none⟩ = some (.int .i64 fr) ∧ W9.cell? ⟨(w.heap.size + 1), 3, none⟩ = some (.int .i64 ep) ∧ W9.cell? ⟨(w.heap.size + 1), 4, none⟩ = some (.int .i64 pi) ∧ W9.cell? ⟨(w.heap.size + 1), 5, none⟩ = some (.int .i64 ge) ∧ W9.cell? ⟨(w.heap.size + 1), 6, none⟩ = some (.int .i64 se) ∧ W9.cell? ⟨(w.heap.size + 1), 7, none⟩ = some (.bool tx) ∧ W9.cell? ⟨(w.heap.size + 1), 8, none⟩ = some (.int .i64 ct) ∧ W9.cell? ⟨(w.heap.size + 1), 9, none⟩ = some (.slice A4 n4 c4) ∧ W9.cell? ⟨w.heap.size, 0, none⟩ = some (.int .i64 lim) ∧ W9.cell? ⟨w.heap.size, 1, none⟩ = some (.int .i64 start) ∧ W9.cell? ⟨w.heap.size, 2, none⟩ = some (.slice A n c)) w8.drew from ⟨HX_R9.out.cell 0, HX_R9.out.cell 1, HX_R9.out.cell 2, HB_R9.out.cell 0, HB_R9.out.cell 1, HB_R9.out.cell 2, HB_R9.out.cell 3, HB_R9.out.cell 4, HB_R9.out.cell 5, HB_R9.out.cell 6, HB_R9.out.cell 7, HB_R9.out.cell 8, HB_R9.out.cell 9, HL_R9.out.cell 0, HL_R9.out.cell 1, HL_R9.out.cell 2⟩)
    clear hbd
    refine region_let (fun W9 : World => W9.cell? ⟨w6.heap.size, 0, none⟩ = some (.int .i64 lim) ∧ W9.cell? ⟨w6.heap.size, 1, none⟩ = some (.int .i64 start) ∧ W9.cell? ⟨w6.heap.size, 2, none⟩ = some (.slice A6 (n + 1) c6) ∧ W9.cell? ⟨(w.heap.size + 1), 0, none⟩ = some (.int .i64 ba) ∧ W9.cell? ⟨(w.heap.size + 1), 1, none⟩ = some (.int .i64 la) ∧ W9.cell? ⟨(w.heap.size + 1), 2, none⟩ = some (.int .i64 fr) ∧ W9.cell? ⟨(w.heap.size + 1), 3, none⟩ = some (.int .i64 ep) ∧ W9.cell? ⟨(w.heap.size + 1), 4, none⟩ = some (.int .i64 pi) ∧ W9.cell? ⟨(w.heap.size + 1), 5, none⟩ = some (.int .i64 ge) ∧ W9.cell? ⟨(w.heap.size + 1), 6, none⟩ = some (.int .i64 se) ∧ W9.cell? ⟨(w.heap.size + 1), 7, none⟩ = some (.bool tx) ∧ W9.cell? ⟨(w.heap.size + 1), 8, none⟩ = some (.int .i64 ct) ∧ W9.cell? ⟨(w.heap.size + 1), 9, none⟩ = some (.slice A4 n4 c4) ∧ W9.cell? ⟨w.heap.size, 0, none⟩ = some (.int .i64 lim) ∧ W9.cell? ⟨w.heap.size, 1, none⟩ = some (.int .i64 start) ∧ W9.cell? ⟨w.heap.size, 2, none⟩ = some (.slice A n c)) 99 59 hmx rfl fun ops Q HOPS HQ => ?_
    have HREG := reg_of HOPS tb_ChainOnce9 rfl (by kernel_rfl) (by kernel_rfl) (by decide)
    refine xq 0 HOPS HREG HSR9.out ?_; simp only [ls0, ls1]; refine xq 1 HOPS HREG HSR9.out ?_; simp only [ls0, ls1]; refine xq 2 HOPS HREG HSR9.out ?_; simp only [ls0, ls1]; refine xq 3 HOPS HREG HSR9.out ?_; simp only [ls0, ls1]; refine xq 4 HOPS HREG HSR9.out ?_; simp only [ls0, ls1]
    refine xc 5 HOPS ?_
    go_simp
    with_reducible refine (Chn.End_is lim start A n c l _ HR_R9.out HT_R9.out (by omega) HE.out).mono ?_
    rintro e w9 ⟨rfl, hb⟩
    have HW_9 := Lib.hid (bel_trans HW_R9.out hb)
    have HT_9 := Lib.hid (HT_R9.out.bel hb)
    have HL_9 := Lib.hid (HL_R9.out.below hb)
    have HB_9 := Lib.hid (HB_R9.out.below hb)
    have HV_9 := Lib.hid (rdvUp HV_R9.out hb)
    have HRR_9 := Lib.hid (rdrUp HRR_R9.out hb)
    have HR_9 := Lib.hid (rdgUp HR_R9.out hb)
    have HXR_9 := Lib.hid (rdgUp HXR_R9.out hb)
    have HX_9 := Lib.hid (HX_R9.out.below hb)
    have HWT_9 := Lib.hid (rdtUp HWT_R9.out hb)
    have HSR9w9 := Lib.hid (show (fun W9 : World => W9.cell? ⟨w6.heap.size, 0, none⟩ = some (.int .i64 lim) ∧ W9.cell? ⟨w6.heap.size, 1, none⟩ = some (.int .i64 start) ∧ W9.cell? ⟨w6.heap.size, 2, none⟩ = some (.slice A6 (n + 1) c6) ∧ W9.cell? ⟨(w.heap.size + 1), 0, none⟩ = some (.int .i64 ba) ∧ W9.cell? ⟨(w.heap.size + 1), 1, none⟩ = some (.int .i64 la) ∧ W9.cell? ⟨(w.heap.size + 1), 2, none⟩ = some (.int .i64 fr) ∧ W9.cell? ⟨(w.heap.size + 1), 3, none⟩ = some (.int .i64 ep) ∧ W9.cell? ⟨(w.heap.size + 1), 4, none⟩ = some (.int .i64 pi) ∧ W9.cell? ⟨(w.heap.size + 1), 5, none⟩ = some (.int .i64 ge) ∧ W9.cell? ⟨(w.heap.size + 1), 6, none⟩ = some (.int .i64 se) ∧ W9.cell? ⟨(w.heap.size + 1), 7, none⟩ = some (.bool tx) ∧ W9.cell? ⟨(w.heap.size + 1), 8, none⟩ = some (.int .i64 ct) ∧ W9.cell? ⟨(w.heap.size + 1), 9, none⟩ = some (.slice A4 n4 c4) ∧ W9.cell? ⟨w.heap.size, 0, none⟩ = some (.int .i64 lim) ∧ W9.cell? ⟨w.heap.size, 1, none⟩ = some (.int .i64 start) ∧ W9.cell? ⟨w.heap.size, 2, none⟩ = some (.slice A n c)) w9 from ⟨HX_9.out.cell 0, HX_9.out.cell 1, HX_9.out.cell 2, HB_9.out.cell 0, HB_9.out.cell 1, HB_9.out.cell 2, HB_9.out.cell 3, HB_9.out.cell 4, HB_9.out.cell 5, HB_9.out.cell 6, HB_9.out.cell 7, HB_9.out.cell 8, HB_9.out.cell 9, HL_9.out.cell 0, HL_9.out.cell 1, HL_9.out.cell 2⟩)
    clear hb
    refine ⟨HSR9w9.out, ?_⟩
    refine xq 6 HOPS HREG HSR9w9.out ?_; simp only [ls0, ls1]; refine xq 7 HOPS HREG HSR9w9.out ?_; simp only [ls0, ls1]; refine xq 8 HOPS HREG HSR9w9.out ?_; simp only [ls0, ls1]; refine xq 9 HOPS HREG HSR9w9.out ?_; simp only [ls0, ls1]
    refine xc 10 HOPS ?_
    go_simp
    with_reducible refine (Chn.BCheck_is HCB.out A4 n4 c4 _ HF.out HRR_9.out hn4b HT_9.out).mono ?_
    rintro e w10 ⟨rfl, hb⟩
    have HW_10 := Lib.hid (bel_trans HW_9.out hb)
    have HT_10 := Lib.hid (HT_9.out.bel hb)
    have HL_10 := Lib.hid (HL_9.out.below hb)
    have HB_10 := Lib.hid (HB_9.out.below hb)
    have HV_10 := Lib.hid (rdvUp HV_9.out hb)
    have HRR_10 := Lib.hid (rdrUp HRR_9.out hb)
    have HR_10 := Lib.hid (rdgUp HR_9.out hb)
    have HXR_10 := Lib.hid (rdgUp HXR_9.out hb)
    have HX_10 := Lib.hid (HX_9.out.below hb)
    have HWT_10 := Lib.hid (rdtUp HWT_9.out hb)
    have HSR9w10 := Lib.hid (show (fun W9 : World => W9.cell? ⟨w6.heap.size, 0, none⟩ = some (.int .i64 lim) ∧ W9.cell? ⟨w6.heap.size, 1, none⟩ = some (.int .i64 start) ∧ W9.cell? ⟨w6.heap.size, 2, none⟩ = some (.slice A6 (n + 1) c6) ∧ W9.cell? ⟨(w.heap.size + 1), 0, none⟩ = some (.int .i64 ba) ∧ W9.cell? ⟨(w.heap.size + 1), 1, none⟩ = some (.int .i64 la) ∧ W9.cell? ⟨(w.heap.size + 1), 2, none⟩ = some (.int .i64 fr) ∧ W9.cell? ⟨(w.heap.size + 1), 3, none⟩ = some (.int .i64 ep) ∧ W9.cell? ⟨(w.heap.size + 1), 4, none⟩ = some (.int .i64 pi) ∧ W9.cell? ⟨(w.heap.size + 1), 5, none⟩ = some (.int .i64 ge) ∧ W9.cell? ⟨(w.heap.size + 1), 6, none⟩ = some (.int .i64 se) ∧ W9.cell? ⟨(w.heap.size + 1), 7, none⟩ = some (.bool tx) ∧ W9.cell? ⟨(w.heap.size + 1), 8, none⟩ = some (.int .i64 ct) ∧ W9.cell? ⟨(w.heap.size + 1), 9, none⟩ = some (.slice A4 n4 c4) ∧ W9.cell? ⟨w.heap.size, 0, none⟩ = some (.int .i64 lim) ∧ W9.cell? ⟨w.heap.size, 1, none⟩ = some (.int .i64 start) ∧ W9.cell? ⟨w.heap.size, 2, none⟩ = some (.slice A n c)) w10 from ⟨HX_10.out.cell 0, HX_10.out.cell 1, HX_10.out.cell 2, HB_10.out.cell 0, HB_10.out.cell 1, HB_10.out.cell 2, HB_10.out.cell 3, HB_10.out.cell 4, HB_10.out.cell 5, HB_10.out.cell 6, HB_10.out.cell 7, HB_10.out.cell 8, HB_10.out.cell 9, HL_10.out.cell 0, HL_10.out.cell 1, HL_10.out.cell 2⟩)
    clear hb
    refine ⟨HSR9w10.out, ?_⟩
    refine xq 11 HOPS HREG HSR9w10.out ?_; simp only [ls0, ls1]; refine xq 12 HOPS HREG HSR9w10.out ?_; simp only [ls0, ls1]; refine xq 13 HOPS HREG HSR9w10.out ?_; simp only [ls0, ls1]; refine xq 14 HOPS HREG HSR9w10.out ?_; simp only [ls0, ls1]; refine xq 16 HOPS HREG HSR9w10.out ?_; simp only [ls0, ls1]; refine xq 17 HOPS HREG HSR9w10.out ?_; simp only [ls0, ls1]
    refine xc 15 HOPS ?_
    go_simp
    with_reducible refine (Chn.BSize_is HSZ.out A4 n4 c4 _ HF.out HRR_10.out hn4b HT_10.out).mono ?_
    rintro e w11 ⟨rfl, hb⟩
    have HW_11 := Lib.hid (bel_trans HW_10.out hb)
    have HT_11 := Lib.hid (HT_10.out.bel hb)
    have HL_11 := Lib.hid (HL_10.out.below hb)
    have HB_11 := Lib.hid (HB_10.out.below hb)
    have HV_11 := Lib.hid (rdvUp HV_10.out hb)
    have HRR_11 := Lib.hid (rdrUp HRR_10.out hb)
    have HR_11 := Lib.hid (rdgUp HR_10.out hb)
    have HXR_11 := Lib.hid (rdgUp HXR_10.out hb)
    have HX_11 := Lib.hid (HX_10.out.below hb)
    have HWT_11 := Lib.hid (rdtUp HWT_10.out hb)
    have HSR9w11 := Lib.hid (show (fun W9 : World => W9.cell? ⟨w6.heap.size, 0, none⟩ = some (.int .i64 lim) ∧ W9.cell? ⟨w6.heap.size, 1, none⟩ = some (.int .i64 start) ∧ W9.cell? ⟨w6.heap.size, 2, none⟩ = some (.slice A6 (n + 1) c6) ∧ W9.cell? ⟨(w.heap.size + 1), 0, none⟩ = some (.int .i64 ba) ∧ W9.cell? ⟨(w.heap.size + 1), 1, none⟩ = some (.int .i64 la) ∧ W9.cell? ⟨(w.heap.size + 1), 2, none⟩ = some (.int .i64 fr) ∧ W9.cell? ⟨(w.heap.size + 1), 3, none⟩ = some (.int .i64 ep) ∧ W9.cell? ⟨(w.heap.size + 1), 4, none⟩ = some (.int .i64 pi) ∧ W9.cell? ⟨(w.heap.size + 1), 5, none⟩ = some (.int .i64 ge) ∧ W9.cell? ⟨(w.heap.size + 1), 6, none⟩ = some (.int .i64 se) ∧ W9.cell? ⟨(w.heap.size + 1), 7, none⟩ = some (.bool tx) ∧ W9.cell? ⟨(w.heap.size + 1), 8, none⟩ = some (.int .i64 ct) ∧ W9.cell? ⟨(w.heap.size + 1), 9, none⟩ = some (.slice A4 n4 c4) ∧ W9.cell? ⟨w.heap.size, 0, none⟩ = some (.int .i64 lim) ∧ W9.cell? ⟨w.heap.size, 1, none⟩ = some (.int .i64 start) ∧ W9.cell? ⟨w.heap.size, 2, none⟩ = some (.slice A n c)) w11 from ⟨HX_11.out.cell 0, HX_11.out.cell 1, HX_11.out.cell 2, HB_11.out.cell 0, HB_11.out.cell 1, HB_11.out.cell 2, HB_11.out.cell 3, HB_11.out.cell 4, HB_11.out.cell 5, HB_11.out.cell 6, HB_11.out.cell 7, HB_11.out.cell 8, HB_11.out.cell 9, HL_11.out.cell 0, HL_11.out.cell 1, HL_11.out.cell 2⟩)
    clear hb
    refine ⟨HSR9w11.out, ?_⟩
    refine xq 18 HOPS HREG HSR9w11.out ?_; simp only [ls0, ls1]; refine xq 19 HOPS HREG HSR9w11.out ?_; simp only [ls0, ls1]; refine xq 20 HOPS HREG HSR9w11.out ?_; simp only [ls0, ls1]; refine xq 21 HOPS HREG HSR9w11.out ?_; simp only [ls0, ls1]
    refine xc 22 HOPS ?_
    go_simp
    with_reducible refine (Chn.Check_is lim start A6 (n + 1) c6 x _ HXR_11.out HT_11.out (by omega) HCX.out).mono ?_
    rintro e w12 ⟨rfl, hb⟩
    have HW_12 := Lib.hid (bel_trans HW_11.out hb)
    have HT_12 := Lib.hid (HT_11.out.bel hb)
    have HL_12 := Lib.hid (HL_11.out.below hb)
    have HB_12 := Lib.hid (HB_11.out.below hb)
    have HV_12 := Lib.hid (rdvUp HV_11.out hb)
    have HRR_12 := Lib.hid (rdrUp HRR_11.out hb)
    have HR_12 := Lib.hid (rdgUp HR_11.out hb)
    have HXR_12 := Lib.hid (rdgUp HXR_11.out hb)
    have HX_12 := Lib.hid (HX_11.out.below hb)
    have HWT_12 := Lib.hid (rdtUp HWT_11.out hb)
    have HSR9w12 := Lib.hid (show (fun W9 : World => W9.cell? ⟨w6.heap.size, 0, none⟩ = some (.int .i64 lim) ∧ W9.cell? ⟨w6.heap.size, 1, none⟩ = some (.int .i64 start) ∧ W9.cell? ⟨w6.heap.size, 2, none⟩ = some (.slice A6 (n + 1) c6) ∧ W9.cell? ⟨(w.heap.size + 1), 0, none⟩ = some (.int .i64 ba) ∧ W9.cell? ⟨(w.heap.size + 1), 1, none⟩ = some (.int .i64 la) ∧ W9.cell? ⟨(w.heap.size + 1), 2, none⟩ = some (.int .i64 fr) ∧ W9.cell? ⟨(w.heap.size + 1), 3, none⟩ = some (.int .i64 ep) ∧ W9.cell? ⟨(w.heap.size + 1), 4, none⟩ = some (.int .i64 pi) ∧ W9.cell? ⟨(w.heap.size + 1), 5, none⟩ = some (.int .i64 ge) ∧ W9.cell? ⟨(w.heap.size + 1), 6, none⟩ = some (.int .i64 se) ∧ W9.cell? ⟨(w.heap.size + 1), 7, none⟩ = some (.bool tx) ∧ W9.cell? ⟨(w.heap.size + 1), 8, none⟩ = some (.int .i64 ct) ∧ W9.cell? ⟨(w.heap.size + 1), 9, none⟩ = some (.slice A4 n4 c4) ∧ W9.cell? ⟨w.heap.size, 0, none⟩ = some (.int .i64 lim) ∧ W9.cell? ⟨w.heap.size, 1, none⟩ = some (.int .i64 start) ∧ W9.cell? ⟨w.heap.size, 2, none⟩ = some (.slice A n c)) w12 from ⟨HX_12.out.cell 0, HX_12.out.cell 1, HX_12.out.cell 2, HB_12.out.cell 0, HB_12.out.cell 1, HB_12.out.cell 2, HB_12.out.cell 3, HB_12.out.cell 4, HB_12.out.cell 5, HB_12.out.cell 6, HB_12.out.cell 7, HB_12.out.cell 8, HB_12.out.cell 9, HL_12.out.cell 0, HL_12.out.cell 1, HL_12.out.cell 2⟩)
    clear hb
    refine ⟨HSR9w12.out, ?_⟩
    refine xq 23 HOPS HREG HSR9w12.out ?_; simp only [ls0, ls1]; refine xq 24 HOPS HREG HSR9w12.out ?_; simp only [ls0, ls1]; refine xq 25 HOPS HREG HSR9w12.out ?_; simp only [ls0, ls1]; refine xq 26 HOPS HREG HSR9w12.out ?_; simp only [ls0, ls1]; refine xq 28 HOPS HREG HSR9w12.out ?_; simp only [ls0, ls1]; refine xq 29 HOPS HREG HSR9w12.out ?_; simp only [ls0, ls1]; refine xq 30 HOPS HREG HSR9w12.out ?_; simp only [ls0, ls1]
    refine xc 27 HOPS ?_
    go_simp
    with_reducible refine (Chn.End_is lim start A6 (n + 1) c6 x _ HXR_12.out HT_12.out (by omega) HEX.out).mono ?_
    rintro e w13 ⟨rfl, hb⟩
    have HW_13 := Lib.hid (bel_trans HW_12.out hb)
    have HT_13 := Lib.hid (HT_12.out.bel hb)
    have HL_13 := Lib.hid (HL_12.out.below hb)
    have HB_13 := Lib.hid (HB_12.out.below hb)
    have HV_13 := Lib.hid (rdvUp HV_12.out hb)
    have HRR_13 := Lib.hid (rdrUp HRR_12.out hb)
    have HR_13 := Lib.hid (rdgUp HR_12.out hb)
    have HXR_13 := Lib.hid (rdgUp HXR_12.out hb)
    have HX_13 := Lib.hid (HX_12.out.below hb)
    have HWT_13 := Lib.hid (rdtUp HWT_12.out hb)
    have HSR9w13 := Lib.hid (show (fun W9 : World => W9.cell? ⟨w6.heap.size, 0, none⟩ = some (.int .i64 lim) ∧ W9.cell? ⟨w6.heap.size, 1, none⟩ = some (.int .i64 start) ∧ W9.cell? ⟨w6.heap.size, 2, none⟩ = some (.slice A6 (n + 1) c6) ∧ W9.cell? ⟨(w.heap.size + 1), 0, none⟩ = some (.int .i64 ba) ∧ W9.cell? ⟨(w.heap.size + 1), 1, none⟩ = some (.int .i64 la) ∧ W9.cell? ⟨(w.heap.size + 1), 2, none⟩ = some (.int .i64 fr) ∧ W9.cell? ⟨(w.heap.size + 1), 3, none⟩ = some (.int .i64 ep) ∧ W9.cell? ⟨(w.heap.size + 1), 4, none⟩ = some (.int .i64 pi) ∧ W9.cell? ⟨(w.heap.size + 1), 5, none⟩ = some (.int .i64 ge) ∧ W9.cell? ⟨(w.heap.size + 1), 6, none⟩ = some (.int .i64 se) ∧ W9.cell? ⟨(w.heap.size + 1), 7, none⟩ = some (.bool tx) ∧ W9.cell? ⟨(w.heap.size + 1), 8, none⟩ = some (.int .i64 ct) ∧ W9.cell? ⟨(w.heap.size + 1), 9, none⟩ = some (.slice A4 n4 c4) ∧ W9.cell? ⟨w.heap.size, 0, none⟩ = some (.int .i64 lim) ∧ W9.cell? ⟨w.heap.size, 1, none⟩ = some (.int .i64 start) ∧ W9.cell? ⟨w.heap.size, 2, none⟩ = some (.slice A n c)) w13 from ⟨HX_13.out.cell 0, HX_13.out.cell 1, HX_13.out.cell 2, HB_13.out.cell 0, HB_13.out.cell 1, HB_13.out.cell 2, HB_13.out.cell 3, HB_13.out.cell 4, HB_13.out.cell 5, HB_13.out.cell 6, HB_13.out.cell 7, HB_13.out.cell 8, HB_13.out.cell 9, HL_13.out.cell 0, HL_13.out.cell 1, HL_13.out.cell 2⟩)
    clear hb
    refine ⟨HSR9w13.out, ?_⟩
    refine xq 31 HOPS HREG HSR9w13.out ?_; simp only [ls0, ls1]; refine xq 32 HOPS HREG HSR9w13.out ?_; simp only [ls0, ls1]; refine xq 33 HOPS HREG HSR9w13.out ?_; simp only [ls0, ls1]; refine xq 34 HOPS HREG HSR9w13.out ?_; simp only [ls0, ls1]; refine xq 36 HOPS HREG HSR9w13.out ?_; simp only [ls0, ls1]
    refine xc 35 HOPS ?_
    go_simp
    with_reducible refine (All_is lim start A6 (n + 1) c6 x _ HXR_13.out HT_13.out hc6 (by omega) HAX.out).mono ?_
    rintro e w14 ⟨A14, n14, c14, rfl, ho, hb⟩
    have HW_14 := Lib.hid (bel_trans HW_13.out hb)
    have HT_14 := Lib.hid (HT_13.out.bel hb)
    have HL_14 := Lib.hid (HL_13.out.below hb)
    have HB_14 := Lib.hid (HB_13.out.below hb)
    have HV_14 := Lib.hid (rdvUp HV_13.out hb)
    have HRR_14 := Lib.hid (rdrUp HRR_13.out hb)
    have HR_14 := Lib.hid (rdgUp HR_13.out hb)
    have HXR_14 := Lib.hid (rdgUp HXR_13.out hb)
    have HX_14 := Lib.hid (HX_13.out.below hb)
    have HWT_14 := Lib.hid (rdtUp HWT_13.out hb)
    have HYT_14 := Lib.hid (ho.rd)
    obtain rfl : n7 + 1 = n14 := by have h1 := ho.len; have h2 := HN7.out; simp only [List.length_append, List.length_singleton] at h1; omega
    clear ho
    have HSR9w14 := Lib.hid (show (fun W9 : World => W9.cell? ⟨w6.heap.size, 0, none⟩ = some (.int .i64 lim) ∧ W9.cell? ⟨w6.heap.size, 1, none⟩ = some (.int .i64 start) ∧ W9.cell? ⟨w6.heap.size, 2, none⟩ = some (.slice A6 (n + 1) c6) ∧ W9.cell? ⟨(w.heap.size + 1), 0, none⟩ = some (.int .i64 ba) ∧ W9.cell? ⟨(w.heap.size + 1), 1, none⟩ = some (.int .i64 la) ∧ W9.cell? ⟨(w.heap.size + 1), 2, none⟩ = some (.int .i64 fr) ∧ W9.cell? ⟨(w.heap.size + 1), 3, none⟩ = some (.int .i64 ep) ∧ W9.cell? ⟨(w.heap.size + 1), 4, none⟩ = some (.int .i64 pi) ∧ W9.cell? ⟨(w.heap.size + 1), 5, none⟩ = some (.int .i64 ge) ∧ W9.cell? ⟨(w.heap.size + 1), 6, none⟩ = some (.int .i64 se) ∧ W9.cell? ⟨(w.heap.size + 1), 7, none⟩ = some (.bool tx) ∧ W9.cell? ⟨(w.heap.size + 1), 8, none⟩ = some (.int .i64 ct) ∧ W9.cell? ⟨(w.heap.size + 1), 9, none⟩ = some (.slice A4 n4 c4) ∧ W9.cell? ⟨w.heap.size, 0, none⟩ = some (.int .i64 lim) ∧ W9.cell? ⟨w.heap.size, 1, none⟩ = some (.int .i64 start) ∧ W9.cell? ⟨w.heap.size, 2, none⟩ = some (.slice A n c)) w14 from ⟨HX_14.out.cell 0, HX_14.out.cell 1, HX_14.out.cell 2, HB_14.out.cell 0, HB_14.out.cell 1, HB_14.out.cell 2, HB_14.out.cell 3, HB_14.out.cell 4, HB_14.out.cell 5, HB_14.out.cell 6, HB_14.out.cell 7, HB_14.out.cell 8, HB_14.out.cell 9, HL_14.out.cell 0, HL_14.out.cell 1, HL_14.out.cell 2⟩)
    clear hb
    refine ⟨HSR9w14.out, ?_⟩
    refine xc 37 HOPS ?_
    go_simp
    with_reducible refine (SameAll_is A14 A8 (n7 + 1) c14 (n7 + 1) c8 _ _ _ HYT_14.out HWT_14.out (by omega) (by omega) (eqT_self _)).mono ?_
    rintro e w15 ⟨rfl, hb⟩
    have HW_15 := Lib.hid (bel_trans HW_14.out hb)
    have HT_15 := Lib.hid (HT_14.out.bel hb)
    have HL_15 := Lib.hid (HL_14.out.below hb)
    have HB_15 := Lib.hid (HB_14.out.below hb)
    have HV_15 := Lib.hid (rdvUp HV_14.out hb)
    have HRR_15 := Lib.hid (rdrUp HRR_14.out hb)
    have HR_15 := Lib.hid (rdgUp HR_14.out hb)
    have HXR_15 := Lib.hid (rdgUp HXR_14.out hb)
    have HX_15 := Lib.hid (HX_14.out.below hb)
    have HWT_15 := Lib.hid (rdtUp HWT_14.out hb)
    have HYT_15 := Lib.hid (rdtUp HYT_14.out hb)
    have HSR9w15 := Lib.hid (show (fun W9 : World => W9.cell? ⟨w6.heap.size, 0, none⟩ = some (.int .i64 lim) ∧ W9.cell? ⟨w6.heap.size, 1, none⟩ = some (.int .i64 start) ∧ W9.cell? ⟨w6.heap.size, 2, none⟩ = some (.slice A6 (n + 1) c6) ∧ W9.cell? ⟨(w.heap.size + 1), 0, none⟩ = some (.int .i64 ba) ∧ W9.cell? ⟨(w.heap.size + 1), 1, none⟩ = some (.int .i64 la) ∧ W9.cell? ⟨(w.heap.size + 1), 2, none⟩ = some (.int .i64 fr) ∧ W9.cell? ⟨(w.heap.size + 1), 3, none⟩ = some (.int .i64 ep) ∧ W9.cell? ⟨(w.heap.size + 1), 4, none⟩ = some (.int .i64 pi) ∧ W9.cell? ⟨(w.heap.size + 1), 5, none⟩ = some (.int .i64 ge) ∧ W9.cell? ⟨(w.heap.size + 1), 6, none⟩ = some (.int .i64 se) ∧ W9.cell? ⟨(w.heap.size + 1), 7, none⟩ = some (.bool tx) ∧ W9.cell? ⟨(w.heap.size + 1), 8, none⟩ = some (.int .i64 ct) ∧ W9.cell? ⟨(w.heap.size + 1), 9, none⟩ = some (.slice A4 n4 c4) ∧ W9.cell? ⟨w.heap.size, 0, none⟩ = some (.int .i64 lim) ∧ W9.cell? ⟨w.heap.size, 1, none⟩ = some (.int .i64 start) ∧ W9.cell? ⟨w.heap.size, 2, none⟩ = some (.slice A n c)) w15 from ⟨HX_15.out.cell 0, HX_15.out.cell 1, HX_15.out.cell 2, HB_15.out.cell 0, HB_15.out.cell 1, HB_15.out.cell 2, HB_15.out.cell 3, HB_15.out.cell 4, HB_15.out.cell 5, HB_15.out.cell 6, HB_15.out.cell 7, HB_15.out.cell 8, HB_15.out.cell 9, HL_15.out.cell 0, HL_15.out.cell 1, HL_15.out.cell 2⟩)
    clear hb
    refine ⟨HSR9w15.out, ?_⟩
    refine xq 38 HOPS HREG HSR9w15.out ?_; simp only [ls0, ls1]; refine xq 39 HOPS HREG HSR9w15.out ?_; simp only [ls0, ls1]; refine xq 40 HOPS HREG HSR9w15.out ?_; simp only [ls0, ls1]; refine xq 41 HOPS HREG HSR9w15.out ?_; simp only [ls0, ls1]; refine xq 42 HOPS HREG HSR9w15.out ?_; simp only [ls0, ls1]; refine xq 43 HOPS HREG HSR9w15.out ?_; simp only [ls0, ls1]; refine xq 44 HOPS HREG HSR9w15.out ?_; simp only [ls0, ls1]; refine xq 45 HOPS HREG HSR9w15.out ?_; simp only [ls0, ls1]; refine xq 46 HOPS HREG HSR9w15.out ?_; simp only [ls0, ls1]; refine xq 47 HOPS HREG HSR9w15.out ?_; simp only [ls0, ls1]; refine xq 48 HOPS HREG HSR9w15.out ?_; simp only [ls0, ls1]; refine xq 49 HOPS HREG HSR9w15.out ?_; simp only [ls0, ls1]; refine xq 50 HOPS HREG HSR9w15.out ?_; simp only [ls0, ls1]; refine xq 51 HOPS HREG HSR9w15.out ?_; simp only [ls0, ls1]; refine xq 52 HOPS HREG HSR9w15.out ?_; simp only [ls0, ls1]; refine xq 53 HOPS HREG HSR9w15.out ?_; simp only [ls0, ls1]; refine xq 54 HOPS HREG HSR9w15.out ?_; simp only [ls0, ls1]; refine xq 55 HOPS HREG HSR9w15.out ?_; simp only [ls0, ls1]; refine xq 56 HOPS HREG HSR9w15.out ?_; simp only [ls0, ls1]; refine xq 57 HOPS HREG HSR9w15.out ?_; simp only [ls0, ls1]; refine xq 58 HOPS HREG HSR9w15.out ?_; simp only [ls0, ls1]
    refine stepE HOPS (by kernel_rfl) (HQ.out _ _ ?_)
    clear HQ HREG HOPS
    clear Q ops
    go_wp2
    go_ret
    exact ⟨rfl, HW_15.out⟩
end Go.Proofs.YtejcjmiofidedaaGreatDoor.Chn

namespace Go.Proofs.YtejcjmiofidedaaGreatDoor.chainOnce
open Go.ChangeShapes Go.WideShapes Go.ChangeAt Go.RowKit

theorem own : ownKnob Tryz.prog.godebug = none := by kernel_rfl
theorem laidOut : laidOutB Tryz.prog = true := by kernel_rfl

set_option maxRecDepth 100000 in
theorem lifted (os : Os) (started : os.Started) (H : Type) (enc : TypeId × Value → H) :
    ReturnsInHanded {} Tryz.checked os 7 .any (fun w args => (Rows.chainOnceSpec.pre enc Tryz.prog Tryz.f7 [] false w args ∧ laidMetH Tryz.prog Crc.listed w) ∧ sizedMet enc Tryz.prog Tryz.f7 (OpenSpec.ofChange Rows.chainOnceSpec) false w args)
      (Rows.chainOnceSpec.post enc Tryz.prog Tryz.f7 false true false false) := by
  refine returnsInHanded_of_change_and (C := Tryz.checked) (X := fun w _ => laidMetH Tryz.prog Crc.listed w) (fun _ _ _ hh h => h.of_heap hh) own started (by kernel_rfl) Tryz.func7
    (ChangeSpec.witness_shaped (enc := enc) (C := Tryz.checked) (os := os) (X := fun w _ => laidMetH Tryz.prog Crc.listed w) false (World.doorLaid Tryz.prog 400 os) #[.agg #[.int .i64 0, .int .i64 0, .slice none 0 0], .agg #[.int .i64 0, .int .i64 0, .int .i64 0, .int .i64 0, .int .i64 0, .int .i64 0, .int .i64 0, .bool false, .int .i64 0, .slice none 0 0]] 8 rfl (World.shaped_of_RefB (by kernel_rfl) (by kernel_rfl)) (by kernel_rfl) (by kernel_rfl) (by kernel_rfl) (Crc.door_met os _)) ?_
  intro W base args ds gs before hval0 hW _ hwt hL _
  have hval : ∀ (j : Nat) t v, Tryz.f7.params[j]? = some t → args[j]? = some v → Value.okWide Tryz.prog W .any base t v := hval0
  have hW' := hW
  obtain ⟨p, q, hA0, hV, rfl, hfz, hnd⟩ := hW
  have hA : DataW.TrodAll enc Tryz.prog W 0 (fun _ => true) true Tryz.f7.params.toList args.toList ds p := hA0
  rw [Tryz.params7] at hA hval
  obtain ⟨v0, vs0, d0, ds0, p0, q0, hargs, rfl, rfl, h0, r0⟩ := trodAll_cons hA
  obtain ⟨v1, vs1, d1, ds1, p1, q1, rfl, rfl, rfl, h1, r1⟩ := trodAll_cons r0
  obtain ⟨rfl, rfl, rfl⟩ := trodAll_nil r1
  obtain rfl : args = #[v0, v1] := by cases args; simp_all
  obtain ⟨rfl, rfl⟩ := trodVars_none hV
  have k0 := h0
  have lt0 : ∀ x ∈ p0, x.block < W.heap.size := by obtain ⟨m, hm⟩ := k0; exact DataW.trod_lt m _ _ _ hm
  obtain ⟨lim_0, st_0, A_0, n_0, c_0, l_0, rfl, hi_0, hj_0, hc_0, hk_0, hR_0⟩ := Chn.open_log (hval 0 24 v0 rfl rfl) h0 (Bat.weights_arg (j := 0) hwt (by kernel_rfl) rfl)
  have k1 := h1
  have lt1 : ∀ x ∈ p1, x.block < W.heap.size := by obtain ⟨m, hm⟩ := k1; exact DataW.trod_lt m _ _ _ hm
  obtain ⟨ba_1, la_1, fr_1, ep_1, pi_1, ge_1, se_1, tx_1, ct_1, A_1, n_1, c_1, rs_1, rfl, hf_1, hc_1, hk_1, hR_1⟩ := Bat.open_batch (hval 1 39 v1 rfl rfl) h1 (Bat.weights_arg (j := 1) hwt (by kernel_rfl) rfl)
  clear hA0 hval0
  refine (Chn.chainOnce_walk lim_0 st_0 A_0 n_0 c_0 l_0 ba_1 la_1 fr_1 ep_1 pi_1 ge_1 se_1 tx_1 ct_1 A_1 n_1 c_1 rs_1 W hi_0 hj_0 hc_0 hk_0 hR_0 hf_1 hc_1 hk_1 hR_1 (Crc.tab_of_laid hL)).mono fun e W' ⟨he, bel⟩ => ?_
  subst he
  exact ⟨_, rfl, _, _, _, [], _, [], hW', trodAll_mk1 (shut_bool Tryz.underlying4 _), (trodAll_cons_mk (Below.trod laidOut (by kernel_rfl) (of_decide_eq_true (by kernel_rfl)) k0 bel lt0) (trodAll_cons_mk (Below.trod laidOut (by kernel_rfl) (of_decide_eq_true (by kernel_rfl)) k1 bel lt1) trodAll_mk0)), rfl, bel.frame _, fun h => by cases h⟩

theorem over : Rows.chainOnceRow.holds Tryz.pinned (OpenSpec.ofChange Rows.chainOnceSpec) :=
  OpenClaim.holds_of_wide 7 Tryz.f7 rfl rfl rfl rfl rfl rfl rfl ⟨rfl, rfl, rfl, rfl, rfl⟩ rfl rfl rfl rfl rfl (by kernel_rfl) Tryz.func7 (by kernel_rfl)
    (of_decide_eq_true (by kernel_rfl)) (by unfold Func.isWrapper; first | (rw [if_pos (by decide +kernel)]; kernel_rfl) | (rw [if_neg (by decide +kernel)]; exact ⟨rfl, rfl⟩))
    (fun os started H enc _ => lifted os started H enc)

theorem proved : Rows.ChainOnceCardSaid :=
  Claim7.holds_tied_plain_at .later [] [.data] true (true, "43519ac59a7675b2f2d9aeca7eaf360146488e8a78a978de494d5127d8d19227") false
    over (fun _ h => by cases h) (by kernel_rfl) (fun _ h => by cases h) chainOnce_row_tie rfl ⟨rfl, rfl⟩ (by kernel_rfl) rfl
    (fun f fn hf hfn => by
      obtain rfl : f = 7 := Option.some.inj ((show Tryz.prog.funcNamed "watermeet/watermeetlaw09.ChainOnce" = some 7 by kernel_rfl).symm.trans hf) |>.symm
      obtain rfl : fn = Tryz.f7 := (Option.some.inj (Tryz.func7.symm.trans hfn)).symm
      exact ⟨by kernel_rfl, fun j t ht => by
        rw [Tryz.params7] at ht
        have hm : t ∈ [24, 39] := by simpa using Array.mem_of_getElem? ht
        have hall : ([24, 39].all fun u => !Tryz.prog.wantsStandIn u) = true := by kernel_rfl
        exact (show Tryz.prog.wantsStandIn t = false by simpa using List.all_eq_true.1 hall t hm)⟩)
    (by kernel_rfl)
#print axioms proved
end Go.Proofs.YtejcjmiofidedaaGreatDoor.chainOnce
