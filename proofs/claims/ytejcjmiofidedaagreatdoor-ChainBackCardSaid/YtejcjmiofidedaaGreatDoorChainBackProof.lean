/- Of any limit, start and batches: those that are taken are all that there is, in order; read from any offset those that reach it are told; no condition.
-/
import Derived.Test.YtejcjmiofidedaaGreatDoorChnLv
import Derived.Test.YtejcjmiofidedaaGreatDoorJChnH
import Derived.Test.YtejcjmiofidedaaGreatDoorJChnW
import Derived.Test.YtejcjmiofidedaaGreatDoorSegSA
import Derived.Test.YtejcjmiofidedaaGreatDoorJBatK
import Derived.Test.YtejcjmiofidedaaGreatDoorJBatA
import Derived.Test.YtejcjmiofidedaaGreatDoorRows
import Derived.WalkKit
import Derived.ProofKit
import Derived.OpenShut
import Derived.ChangeOld
import Derived.Below
import Derived.Carry
import Derived.Test.YtejcjmiofidedaaGreatDoorJOct
import Derived.Test.YtejcjmiofidedaaGreatDoorJCrc
import Derived.Test.YtejcjmiofidedaaGreatDoorTie
import Derived.Test.YtejcjmiofidedaaGreatDoorCards
import Derived.SevenTiedAt
/- The walk of ChainBack. -/
namespace Go.Proofs.YtejcjmiofidedaaGreatDoor.Chn
open Go.RowKit Oct Rec Crc Bat Lay Seg RowF InR

theorem ris_len {lo : Int} {bs : List Bt} (h : ris lo bs = true) : (byR bs).length ≤ bs.length * 2048 ∧ ∀ b ∈ bs, b.last < 1099511627777 := by
  have h1 := ris_ge h
  refine ⟨?_, fun b hb => by have h2 := chB_last (h1 b hb).2; omega⟩
  have h3 : ∀ bs : List Bt, (∀ b ∈ bs, chB b = 0) → (byR bs).length ≤ bs.length * 2048 := by
    intro bs
    induction bs with
    | nil => intro _; rw [byR_nil]; exact Nat.zero_le _
    | cons b bs ih =>
      intro h
      have h4 := ih fun c hc => h c (List.mem_cons_of_mem _ hc)
      have h5 := (chB_form (h b (List.mem_cons_self ..))).2
      rw [byR_cons, List.length_append, List.length_cons, Nat.succ_mul]
      omega
  exact h3 bs fun b hb => (h1 b hb).2
theorem back_read {x : Lg} {off : Int} {ws : List Bt} (hc : ckL x = 0) (ha : allL x = ws) (hr : ris x.start ws = true) (hl : ws.length ≤ 40) : readL x off 1099511627776 = if off < x.start ∨ endL x < off then ([], 90) else (ws.filter (frP off 1099511627777), 0) := by
  unfold readL
  rw [if_neg (by omega), if_neg (by decide), ha]
  split
  · rfl
  · obtain ⟨h1, h2⟩ := ris_len hr
    have h3 : ws.filter (fun b => decide (off ≤ b.last)) = ws.filter (frP off 1099511627777) := List.filter_congr fun b hb => by
      have h4 := h2 b hb
      unfold frP
      rw [decide_eq_true h4, Bool.and_true]
    rw [h3, takeB_all]
    have h5 := sub_bytes (List.filter_sublist (p := frP off 1099511627777) (l := ws))
    unfold sizeB
    omega
theorem behind_len (l : Lg) (bs : List Bt) : (behindL l bs).2.length ≤ bs.length := by
  induction bs generalizing l with
  | nil => exact Nat.le_refl _
  | cons b bs ih =>
    unfold behindL
    split
    · simp only [List.length_cons]
      have := ih (apL l b).1
      omega
    · have := ih l
      simp only [List.length_cons]
      omega
set_option maxRecDepth 100000 in
set_option maxHeartbeats 16000000 in
theorem chainBack_walk (limit start : Int) (A : Option Addr) (n c : Nat) (bs : List Bt) (off : Int) (w : World) (_hl : I64 limit) (_hs : I64 start) (hc : n ≤ c) (hk : c ≤ reach) (hR : Lay.RdL w w.heap.size A n bs) (_ho : I64 off) (ht : Tab w) :
    Calls Tryz.prog 6 #[.int .i64 limit, .int .i64 start, .slice A n c, .int .i64 off] w fun e w' => e = .returned (.bool true) ∧ Below w.heap.size w w' := by
  have HT_0 := Lib.hid ht
  have HW_0 := Lib.hid (Below.refl w.heap.size w)
  have HV_0 := Lib.hid hR
  have hnr := Nat.le_trans hc hk
  have hI40 : I64 1099511627776 := by unfold I64; omega
  have hmx : Tryz.prog.follows .mixedOrders = true := by kernel_rfl
  rcases hzb : (bs.all fewT && decide ((bs.length : Int) ≤ 40)) with _ | _
  · have HZB := Lib.hid hzb
    clear hR ht hzb
    go_enter Tryz.func6, Tryz.ntmps6
    go_wp2_with (first
      | (go_at_call 12; (with_reducible refine (live9_any _ HT_0.out).mono ?_); rintro e w1 ⟨rfl, hb⟩; have HW_1 := Lib.hid (bel_trans HW_0.out hb); have HT_1 := Lib.hid (HT_0.out.bel hb); have HV_1 := Lib.hid (rdlUp HV_0.out hb); clear hb)
      | (go_at_call 37; (with_reducible refine (refFewAll_is bs A n c 40 _ HV_1.out hnr HZB.out).mono ?_); rintro e w2 ⟨rfl, hb⟩; have HW_2 := Lib.hid (bel_trans HW_1.out hb); have HT_2 := Lib.hid (HT_1.out.bel hb); have HV_2 := Lib.hid (rdlUp HV_1.out hb); clear hb))
    go_ret
    exact ⟨rfl, HW_2.out⟩
  have HZB := Lib.hid hzb
  rw [Bool.and_eq_true] at hzb
  have hn40 : n ≤ 40 := by have h1 := of_decide_eq_true hzb.2; have h2 := hR.len; omega
  have HX_0 := Lib.hid (rdT_of hR hzb.1)
  by_cases hbad : (newL limit start).2 = 0
  case neg =>
    have hnw : newL limit start = (⟨0, 0, []⟩, 1) := by
      unfold newL at hbad ⊢
      split
      · rfl
      · rename_i h9; rw [if_neg h9] at hbad; exact absurd rfl hbad
    have HNW := Lib.hid hnw
    clear hR ht hzb hbad hnw
    go_enter Tryz.func6, Tryz.ntmps6
    go_wp2_with (first
      | (go_at_call 12; (with_reducible refine (live9_any _ HT_0.out).mono ?_); rintro e w1 ⟨rfl, hb⟩; have HW_1 := Lib.hid (bel_trans HW_0.out hb); have HT_1 := Lib.hid (HT_0.out.bel hb); have HV_1 := Lib.hid (rdlUp HV_0.out hb); clear hb)
      | (go_at_call 37; (with_reducible refine (refFewAll_is bs A n c 40 _ HV_1.out hnr HZB.out).mono ?_); rintro e w2 ⟨rfl, hb⟩; have HW_2 := Lib.hid (bel_trans HW_1.out hb); have HT_2 := Lib.hid (HT_1.out.bel hb); have HV_2 := Lib.hid (rdlUp HV_1.out hb); clear hb)
      | (go_at_call 14; (with_reducible refine (New_is limit start _ HNW.out).mono ?_); rintro e w3 ⟨A3, n3, c3, rfl, hc3, hr3, hb⟩; have HW_3 := Lib.hid (bel_trans HW_2.out hb); have HT_3 := Lib.hid (HT_2.out.bel hb); have HV_3 := Lib.hid (rdlUp HV_2.out hb); obtain rfl : 0 = n3 := hr3.len; have HLR_3 := Lib.hid (hr3); have hba := belA w3 (.cells #[.int .i64 0, .int .i64 0, .slice A3 0 c3] 24); have HW_3a := Lib.hid (bel_trans HW_3.out hba); have HT_3a := Lib.hid (HT_3.out.bel hba); have HV_3a := Lib.hid (rdlUp HV_3.out hba); have HLR_3a := Lib.hid (rdgUp HLR_3.out hba); have HL_3a := Lib.hid (At0.new w3 [.int .i64 0, .int .i64 0, .slice A3 0 c3] 24); obtain ⟨hl3a_0, hl3a_1, hl3a_2⟩ := cel3 HL_3a.out; clear hb hba hr3))
    go_ret
    exact ⟨rfl, HW_3a.out⟩
  obtain ⟨q1, q2, q3, q4⟩ := newL_ok hbad
  have hnw : newL limit start = (⟨limit, start, [⟨start, []⟩]⟩, 0) := Prod.ext q1 hbad
  rw [q1] at q2 q3 q4
  have HNW := Lib.hid hnw
  obtain ⟨b1, b2, b3, b4, b5⟩ := behindL_ok q2 bs
  have b6 := behind_len ⟨limit, start, [⟨start, []⟩]⟩ bs
  rcases hbh : behindL ⟨limit, start, [⟨start, []⟩]⟩ bs with ⟨⟨yl, ys, y⟩, ws⟩
  rw [hbh] at b1 b2 b3 b4 b5 b6
  simp only at b1 b2 b3 b4 b5 b6
  obtain rfl : start = ys := b4.symm
  rw [q3] at b3 b5
  rw [q4, List.nil_append] at b2
  have hwl : ws.length ≤ 40 := by have h1 := of_decide_eq_true hzb.2; omega
  obtain ⟨E, hE⟩ : ∃ E, endL ⟨yl, start, y⟩ = E := ⟨_, rfl⟩
  have hrd := back_read (off := off) b1 b2 b5 hwl
  simp only at hrd
  rw [hE] at hrd b3
  have HBH := Lib.hid hbh
  have HCX := Lib.hid b1
  have HEX := Lib.hid (show endT ⟨yl, start, y⟩ = E by unfold endT; rw [if_pos b1, hE])
  have HAX := Lib.hid (show allT ⟨yl, start, y⟩ = ws by unfold allT; rw [if_pos b1, b2])
  have HWL := Lib.hid hwl
  obtain ⟨FT, hFT⟩ : ∃ FT, ws.filter (frP off 1099511627777) = FT := ⟨_, rfl⟩
  rw [hFT] at hrd
  have hfl : FT.length ≤ 40 := by have h3 := List.length_filter_le (frP off 1099511627777) ws; rw [hFT] at h3; omega
  have HFR := Lib.hid hFT
  have HFL := Lib.hid hfl
  have HQ5 := Lib.hid b5
  clear hR ht hzb hbad hnw q1 q2 q3 q4 hbh b1 b2 b4 b5 b6 hE hFT hfl
  by_cases hne : ws = []
  · subst hne
    simp only [List.getLast?_nil] at b3
    obtain rfl : start = E := b3.symm
    clear b3
    by_cases h1 : off < start
    · rw [if_pos (.inl h1)] at hrd
      have HRD := Lib.hid hrd
      clear hrd
      go_enter Tryz.func6, Tryz.ntmps6
      go_wp2_with (first
        | (go_at_call 12; (with_reducible refine (live9_any _ HT_0.out).mono ?_); rintro e w1 ⟨rfl, hb⟩; have HW_1 := Lib.hid (bel_trans HW_0.out hb); have HT_1 := Lib.hid (HT_0.out.bel hb); have HV_1 := Lib.hid (rdlUp HV_0.out hb); have HX_1 := Lib.hid (rdtUp HX_0.out hb); clear hb)
        | (go_at_call 37; (with_reducible refine (refFewAll_is bs A n c 40 _ HV_1.out hnr HZB.out).mono ?_); rintro e w2 ⟨rfl, hb⟩; have HW_2 := Lib.hid (bel_trans HW_1.out hb); have HT_2 := Lib.hid (HT_1.out.bel hb); have HV_2 := Lib.hid (rdlUp HV_1.out hb); have HX_2 := Lib.hid (rdtUp HX_1.out hb); clear hb)
        | (go_at_call 14; (with_reducible refine (New_is limit start _ HNW.out).mono ?_); rintro e w3 ⟨A3, n3, c3, rfl, hc3, hr3, hb⟩; have HW_3 := Lib.hid (bel_trans HW_2.out hb); have HT_3 := Lib.hid (HT_2.out.bel hb); have HV_3 := Lib.hid (rdlUp HV_2.out hb); have HX_3 := Lib.hid (rdtUp HX_2.out hb); obtain rfl : 1 = n3 := hr3.len; have HLR_3 := Lib.hid (hr3); have hba := belA w3 (.cells #[.int .i64 limit, .int .i64 start, .slice A3 1 c3] 24); have HW_3a := Lib.hid (bel_trans HW_3.out hba); have HT_3a := Lib.hid (HT_3.out.bel hba); have HV_3a := Lib.hid (rdlUp HV_3.out hba); have HX_3a := Lib.hid (rdtUp HX_3.out hba); have HLR_3a := Lib.hid (rdgUp HLR_3.out hba); have HL_3a := Lib.hid (At0.new w3 [.int .i64 limit, .int .i64 start, .slice A3 1 c3] 24); obtain ⟨hl3a_0, hl3a_1, hl3a_2⟩ := cel3 HL_3a.out; clear hb hba hr3)
        | (go_at_call 38; (with_reducible refine (behind9_is limit start A3 1 c3 [⟨start, []⟩] A n c bs _ HLR_3a.out HT_3a.out hc3 (by decide) HX_3a.out (by omega) HBH.out).mono ?_); rintro e w4 ⟨A4, n4, c4, A5, n5, c5, rfl, hc4, hn4, hr4, ho, hb⟩; have HW_4 := Lib.hid (bel_trans HW_3a.out hb); have HT_4 := Lib.hid (HT_3a.out.bel hb); have HV_4 := Lib.hid (rdlUp HV_3a.out hb); have HX_4 := Lib.hid (rdtUp HX_3a.out hb); have HLR_4 := Lib.hid (rdgUp HLR_3a.out hb); have HL_4 := Lib.hid (HL_3a.out.below hb); obtain rfl : 0 = n5 := ho.len; have hc5 := ho.cap; have HYR_4 := Lib.hid (hr4); have HWS_4 := Lib.hid (ho.rd); have hba := belA w4 (.cells #[.int .i64 yl, .int .i64 start, .slice A4 n4 c4] 24); have HW_4a := Lib.hid (bel_trans HW_4.out hba); have HT_4a := Lib.hid (HT_4.out.bel hba); have HV_4a := Lib.hid (rdlUp HV_4.out hba); have HX_4a := Lib.hid (rdtUp HX_4.out hba); have HLR_4a := Lib.hid (rdgUp HLR_4.out hba); have HL_4a := Lib.hid (HL_4.out.below hba); have HYR_4a := Lib.hid (rdgUp HYR_4.out hba); have HWS_4a := Lib.hid (rdtUp HWS_4.out hba); have HY_4a := Lib.hid (At0.new w4 [.int .i64 yl, .int .i64 start, .slice A4 n4 c4] 24); obtain ⟨hy4a_0, hy4a_1, hy4a_2⟩ := cel3 HY_4a.out; have hn4' : n4 ≤ 1000000 := (by omega); clear hb hba ho hr4)
        | (go_at_call 16; (with_reducible refine (Chn.Check_is yl start A4 n4 c4 y _ HYR_4a.out HT_4a.out (by omega) HCX.out).mono ?_); rintro e w6 ⟨rfl, hb⟩; have HW_6 := Lib.hid (bel_trans HW_4a.out hb); have HT_6 := Lib.hid (HT_4a.out.bel hb); have HV_6 := Lib.hid (rdlUp HV_4a.out hb); have HX_6 := Lib.hid (rdtUp HX_4a.out hb); have HLR_6 := Lib.hid (rdgUp HLR_4a.out hb); have HL_6 := Lib.hid (HL_4a.out.below hb); have HYR_6 := Lib.hid (rdgUp HYR_4a.out hb); have HWS_6 := Lib.hid (rdtUp HWS_4a.out hb); have HY_6 := Lib.hid (HY_4a.out.below hb); obtain ⟨hy6_0, hy6_1, hy6_2⟩ := cel3 HY_6.out; clear hb)
        | (go_at_call 18; (with_reducible refine (Chn.End_is yl start A4 n4 c4 y _ HYR_6.out HT_6.out (by omega) HEX.out).mono ?_); rintro e w7 ⟨rfl, hb⟩; have HW_7 := Lib.hid (bel_trans HW_6.out hb); have HT_7 := Lib.hid (HT_6.out.bel hb); have HV_7 := Lib.hid (rdlUp HV_6.out hb); have HX_7 := Lib.hid (rdtUp HX_6.out hb); have HLR_7 := Lib.hid (rdgUp HLR_6.out hb); have HL_7 := Lib.hid (HL_6.out.below hb); have HYR_7 := Lib.hid (rdgUp HYR_6.out hb); have HWS_7 := Lib.hid (rdtUp HWS_6.out hb); have HY_7 := Lib.hid (HY_6.out.below hb); obtain ⟨hy7_0, hy7_1, hy7_2⟩ := cel3 HY_7.out; clear hb)
        | (go_at_call 21; (with_reducible refine (All_is yl start A4 n4 c4 y _ HYR_7.out HT_7.out hc4 (by omega) HAX.out).mono ?_); rintro e w8 ⟨A8, n8, c8, rfl, ho, hb⟩; have HW_8 := Lib.hid (bel_trans HW_7.out hb); have HT_8 := Lib.hid (HT_7.out.bel hb); have HV_8 := Lib.hid (rdlUp HV_7.out hb); have HX_8 := Lib.hid (rdtUp HX_7.out hb); have HLR_8 := Lib.hid (rdgUp HLR_7.out hb); have HL_8 := Lib.hid (HL_7.out.below hb); have HYR_8 := Lib.hid (rdgUp HYR_7.out hb); have HWS_8 := Lib.hid (rdtUp HWS_7.out hb); have HY_8 := Lib.hid (HY_7.out.below hb); obtain rfl : 0 = n8 := ho.len; have HZT_8 := Lib.hid (ho.rd); obtain ⟨hy8_0, hy8_1, hy8_2⟩ := cel3 HY_8.out; clear hb ho)
        | (go_at_call 20; (with_reducible refine (SameAll_is A8 A5 0 c8 0 c5 _ _ _ HZT_8.out HWS_8.out (by omega) (by omega) (eqT_self _)).mono ?_); rintro e w9 ⟨rfl, hb⟩; have HW_9 := Lib.hid (bel_trans HW_8.out hb); have HT_9 := Lib.hid (HT_8.out.bel hb); have HV_9 := Lib.hid (rdlUp HV_8.out hb); have HX_9 := Lib.hid (rdtUp HX_8.out hb); have HLR_9 := Lib.hid (rdgUp HLR_8.out hb); have HL_9 := Lib.hid (HL_8.out.below hb); have HYR_9 := Lib.hid (rdgUp HYR_8.out hb); have HWS_9 := Lib.hid (rdtUp HWS_8.out hb); have HY_9 := Lib.hid (HY_8.out.below hb); have HZT_9 := Lib.hid (rdtUp HZT_8.out hb); obtain ⟨hy9_0, hy9_1, hy9_2⟩ := cel3 HY_9.out; clear hb)
        | (go_at_call 33; (with_reducible refine (Read_is yl start off 1099511627776 A4 n4 c4 y _ HYR_9.out HT_9.out hc4 (by omega) hI40 HRD.out).mono ?_); rintro e w10 ⟨A10, n10, c10, rfl, ho, hb⟩; have HW_10 := Lib.hid (bel_trans HW_9.out hb); have HT_10 := Lib.hid (HT_9.out.bel hb); have HV_10 := Lib.hid (rdlUp HV_9.out hb); have HX_10 := Lib.hid (rdtUp HX_9.out hb); have HLR_10 := Lib.hid (rdgUp HLR_9.out hb); have HL_10 := Lib.hid (HL_9.out.below hb); have HYR_10 := Lib.hid (rdgUp HYR_9.out hb); have HWS_10 := Lib.hid (rdtUp HWS_9.out hb); have HY_10 := Lib.hid (HY_9.out.below hb); have HZT_10 := Lib.hid (rdtUp HZT_9.out hb); obtain rfl : 0 = n10 := ho.len; have HGT_10 := Lib.hid (ho.rd); clear hb ho))
      go_ret
      exact ⟨rfl, HW_10.out⟩
    by_cases h2 : start < off
    · rw [if_pos (.inr h2)] at hrd
      have HRD := Lib.hid hrd
      clear hrd
      go_enter Tryz.func6, Tryz.ntmps6
      go_wp2_with (first
        | (go_at_call 12; (with_reducible refine (live9_any _ HT_0.out).mono ?_); rintro e w1 ⟨rfl, hb⟩; have HW_1 := Lib.hid (bel_trans HW_0.out hb); have HT_1 := Lib.hid (HT_0.out.bel hb); have HV_1 := Lib.hid (rdlUp HV_0.out hb); have HX_1 := Lib.hid (rdtUp HX_0.out hb); clear hb)
        | (go_at_call 37; (with_reducible refine (refFewAll_is bs A n c 40 _ HV_1.out hnr HZB.out).mono ?_); rintro e w2 ⟨rfl, hb⟩; have HW_2 := Lib.hid (bel_trans HW_1.out hb); have HT_2 := Lib.hid (HT_1.out.bel hb); have HV_2 := Lib.hid (rdlUp HV_1.out hb); have HX_2 := Lib.hid (rdtUp HX_1.out hb); clear hb)
        | (go_at_call 14; (with_reducible refine (New_is limit start _ HNW.out).mono ?_); rintro e w3 ⟨A3, n3, c3, rfl, hc3, hr3, hb⟩; have HW_3 := Lib.hid (bel_trans HW_2.out hb); have HT_3 := Lib.hid (HT_2.out.bel hb); have HV_3 := Lib.hid (rdlUp HV_2.out hb); have HX_3 := Lib.hid (rdtUp HX_2.out hb); obtain rfl : 1 = n3 := hr3.len; have HLR_3 := Lib.hid (hr3); have hba := belA w3 (.cells #[.int .i64 limit, .int .i64 start, .slice A3 1 c3] 24); have HW_3a := Lib.hid (bel_trans HW_3.out hba); have HT_3a := Lib.hid (HT_3.out.bel hba); have HV_3a := Lib.hid (rdlUp HV_3.out hba); have HX_3a := Lib.hid (rdtUp HX_3.out hba); have HLR_3a := Lib.hid (rdgUp HLR_3.out hba); have HL_3a := Lib.hid (At0.new w3 [.int .i64 limit, .int .i64 start, .slice A3 1 c3] 24); obtain ⟨hl3a_0, hl3a_1, hl3a_2⟩ := cel3 HL_3a.out; clear hb hba hr3)
        | (go_at_call 38; (with_reducible refine (behind9_is limit start A3 1 c3 [⟨start, []⟩] A n c bs _ HLR_3a.out HT_3a.out hc3 (by decide) HX_3a.out (by omega) HBH.out).mono ?_); rintro e w4 ⟨A4, n4, c4, A5, n5, c5, rfl, hc4, hn4, hr4, ho, hb⟩; have HW_4 := Lib.hid (bel_trans HW_3a.out hb); have HT_4 := Lib.hid (HT_3a.out.bel hb); have HV_4 := Lib.hid (rdlUp HV_3a.out hb); have HX_4 := Lib.hid (rdtUp HX_3a.out hb); have HLR_4 := Lib.hid (rdgUp HLR_3a.out hb); have HL_4 := Lib.hid (HL_3a.out.below hb); obtain rfl : 0 = n5 := ho.len; have hc5 := ho.cap; have HYR_4 := Lib.hid (hr4); have HWS_4 := Lib.hid (ho.rd); have hba := belA w4 (.cells #[.int .i64 yl, .int .i64 start, .slice A4 n4 c4] 24); have HW_4a := Lib.hid (bel_trans HW_4.out hba); have HT_4a := Lib.hid (HT_4.out.bel hba); have HV_4a := Lib.hid (rdlUp HV_4.out hba); have HX_4a := Lib.hid (rdtUp HX_4.out hba); have HLR_4a := Lib.hid (rdgUp HLR_4.out hba); have HL_4a := Lib.hid (HL_4.out.below hba); have HYR_4a := Lib.hid (rdgUp HYR_4.out hba); have HWS_4a := Lib.hid (rdtUp HWS_4.out hba); have HY_4a := Lib.hid (At0.new w4 [.int .i64 yl, .int .i64 start, .slice A4 n4 c4] 24); obtain ⟨hy4a_0, hy4a_1, hy4a_2⟩ := cel3 HY_4a.out; have hn4' : n4 ≤ 1000000 := (by omega); clear hb hba ho hr4)
        | (go_at_call 16; (with_reducible refine (Chn.Check_is yl start A4 n4 c4 y _ HYR_4a.out HT_4a.out (by omega) HCX.out).mono ?_); rintro e w6 ⟨rfl, hb⟩; have HW_6 := Lib.hid (bel_trans HW_4a.out hb); have HT_6 := Lib.hid (HT_4a.out.bel hb); have HV_6 := Lib.hid (rdlUp HV_4a.out hb); have HX_6 := Lib.hid (rdtUp HX_4a.out hb); have HLR_6 := Lib.hid (rdgUp HLR_4a.out hb); have HL_6 := Lib.hid (HL_4a.out.below hb); have HYR_6 := Lib.hid (rdgUp HYR_4a.out hb); have HWS_6 := Lib.hid (rdtUp HWS_4a.out hb); have HY_6 := Lib.hid (HY_4a.out.below hb); obtain ⟨hy6_0, hy6_1, hy6_2⟩ := cel3 HY_6.out; clear hb)
        | (go_at_call 18; (with_reducible refine (Chn.End_is yl start A4 n4 c4 y _ HYR_6.out HT_6.out (by omega) HEX.out).mono ?_); rintro e w7 ⟨rfl, hb⟩; have HW_7 := Lib.hid (bel_trans HW_6.out hb); have HT_7 := Lib.hid (HT_6.out.bel hb); have HV_7 := Lib.hid (rdlUp HV_6.out hb); have HX_7 := Lib.hid (rdtUp HX_6.out hb); have HLR_7 := Lib.hid (rdgUp HLR_6.out hb); have HL_7 := Lib.hid (HL_6.out.below hb); have HYR_7 := Lib.hid (rdgUp HYR_6.out hb); have HWS_7 := Lib.hid (rdtUp HWS_6.out hb); have HY_7 := Lib.hid (HY_6.out.below hb); obtain ⟨hy7_0, hy7_1, hy7_2⟩ := cel3 HY_7.out; clear hb)
        | (go_at_call 21; (with_reducible refine (All_is yl start A4 n4 c4 y _ HYR_7.out HT_7.out hc4 (by omega) HAX.out).mono ?_); rintro e w8 ⟨A8, n8, c8, rfl, ho, hb⟩; have HW_8 := Lib.hid (bel_trans HW_7.out hb); have HT_8 := Lib.hid (HT_7.out.bel hb); have HV_8 := Lib.hid (rdlUp HV_7.out hb); have HX_8 := Lib.hid (rdtUp HX_7.out hb); have HLR_8 := Lib.hid (rdgUp HLR_7.out hb); have HL_8 := Lib.hid (HL_7.out.below hb); have HYR_8 := Lib.hid (rdgUp HYR_7.out hb); have HWS_8 := Lib.hid (rdtUp HWS_7.out hb); have HY_8 := Lib.hid (HY_7.out.below hb); obtain rfl : 0 = n8 := ho.len; have HZT_8 := Lib.hid (ho.rd); obtain ⟨hy8_0, hy8_1, hy8_2⟩ := cel3 HY_8.out; clear hb ho)
        | (go_at_call 20; (with_reducible refine (SameAll_is A8 A5 0 c8 0 c5 _ _ _ HZT_8.out HWS_8.out (by omega) (by omega) (eqT_self _)).mono ?_); rintro e w9 ⟨rfl, hb⟩; have HW_9 := Lib.hid (bel_trans HW_8.out hb); have HT_9 := Lib.hid (HT_8.out.bel hb); have HV_9 := Lib.hid (rdlUp HV_8.out hb); have HX_9 := Lib.hid (rdtUp HX_8.out hb); have HLR_9 := Lib.hid (rdgUp HLR_8.out hb); have HL_9 := Lib.hid (HL_8.out.below hb); have HYR_9 := Lib.hid (rdgUp HYR_8.out hb); have HWS_9 := Lib.hid (rdtUp HWS_8.out hb); have HY_9 := Lib.hid (HY_8.out.below hb); have HZT_9 := Lib.hid (rdtUp HZT_8.out hb); obtain ⟨hy9_0, hy9_1, hy9_2⟩ := cel3 HY_9.out; clear hb)
        | (go_at_call 33; (with_reducible refine (Read_is yl start off 1099511627776 A4 n4 c4 y _ HYR_9.out HT_9.out hc4 (by omega) hI40 HRD.out).mono ?_); rintro e w10 ⟨A10, n10, c10, rfl, ho, hb⟩; have HW_10 := Lib.hid (bel_trans HW_9.out hb); have HT_10 := Lib.hid (HT_9.out.bel hb); have HV_10 := Lib.hid (rdlUp HV_9.out hb); have HX_10 := Lib.hid (rdtUp HX_9.out hb); have HLR_10 := Lib.hid (rdgUp HLR_9.out hb); have HL_10 := Lib.hid (HL_9.out.below hb); have HYR_10 := Lib.hid (rdgUp HYR_9.out hb); have HWS_10 := Lib.hid (rdtUp HWS_9.out hb); have HY_10 := Lib.hid (HY_9.out.below hb); have HZT_10 := Lib.hid (rdtUp HZT_9.out hb); obtain rfl : 0 = n10 := ho.len; have HGT_10 := Lib.hid (ho.rd); clear hb ho))
      go_ret
      exact ⟨rfl, HW_10.out⟩
    rw [if_neg (fun h => h.elim h1 h2)] at hrd
    have HRD := Lib.hid hrd
    clear hrd
    go_enter Tryz.func6, Tryz.ntmps6
    go_wp2_with (first
      | (go_at_call 12; (with_reducible refine (live9_any _ HT_0.out).mono ?_); rintro e w1 ⟨rfl, hb⟩; have HW_1 := Lib.hid (bel_trans HW_0.out hb); have HT_1 := Lib.hid (HT_0.out.bel hb); have HV_1 := Lib.hid (rdlUp HV_0.out hb); have HX_1 := Lib.hid (rdtUp HX_0.out hb); clear hb)
      | (go_at_call 37; (with_reducible refine (refFewAll_is bs A n c 40 _ HV_1.out hnr HZB.out).mono ?_); rintro e w2 ⟨rfl, hb⟩; have HW_2 := Lib.hid (bel_trans HW_1.out hb); have HT_2 := Lib.hid (HT_1.out.bel hb); have HV_2 := Lib.hid (rdlUp HV_1.out hb); have HX_2 := Lib.hid (rdtUp HX_1.out hb); clear hb)
      | (go_at_call 14; (with_reducible refine (New_is limit start _ HNW.out).mono ?_); rintro e w3 ⟨A3, n3, c3, rfl, hc3, hr3, hb⟩; have HW_3 := Lib.hid (bel_trans HW_2.out hb); have HT_3 := Lib.hid (HT_2.out.bel hb); have HV_3 := Lib.hid (rdlUp HV_2.out hb); have HX_3 := Lib.hid (rdtUp HX_2.out hb); obtain rfl : 1 = n3 := hr3.len; have HLR_3 := Lib.hid (hr3); have hba := belA w3 (.cells #[.int .i64 limit, .int .i64 start, .slice A3 1 c3] 24); have HW_3a := Lib.hid (bel_trans HW_3.out hba); have HT_3a := Lib.hid (HT_3.out.bel hba); have HV_3a := Lib.hid (rdlUp HV_3.out hba); have HX_3a := Lib.hid (rdtUp HX_3.out hba); have HLR_3a := Lib.hid (rdgUp HLR_3.out hba); have HL_3a := Lib.hid (At0.new w3 [.int .i64 limit, .int .i64 start, .slice A3 1 c3] 24); obtain ⟨hl3a_0, hl3a_1, hl3a_2⟩ := cel3 HL_3a.out; clear hb hba hr3)
      | (go_at_call 38; (with_reducible refine (behind9_is limit start A3 1 c3 [⟨start, []⟩] A n c bs _ HLR_3a.out HT_3a.out hc3 (by decide) HX_3a.out (by omega) HBH.out).mono ?_); rintro e w4 ⟨A4, n4, c4, A5, n5, c5, rfl, hc4, hn4, hr4, ho, hb⟩; have HW_4 := Lib.hid (bel_trans HW_3a.out hb); have HT_4 := Lib.hid (HT_3a.out.bel hb); have HV_4 := Lib.hid (rdlUp HV_3a.out hb); have HX_4 := Lib.hid (rdtUp HX_3a.out hb); have HLR_4 := Lib.hid (rdgUp HLR_3a.out hb); have HL_4 := Lib.hid (HL_3a.out.below hb); obtain rfl : 0 = n5 := ho.len; have hc5 := ho.cap; have HYR_4 := Lib.hid (hr4); have HWS_4 := Lib.hid (ho.rd); have hba := belA w4 (.cells #[.int .i64 yl, .int .i64 start, .slice A4 n4 c4] 24); have HW_4a := Lib.hid (bel_trans HW_4.out hba); have HT_4a := Lib.hid (HT_4.out.bel hba); have HV_4a := Lib.hid (rdlUp HV_4.out hba); have HX_4a := Lib.hid (rdtUp HX_4.out hba); have HLR_4a := Lib.hid (rdgUp HLR_4.out hba); have HL_4a := Lib.hid (HL_4.out.below hba); have HYR_4a := Lib.hid (rdgUp HYR_4.out hba); have HWS_4a := Lib.hid (rdtUp HWS_4.out hba); have HY_4a := Lib.hid (At0.new w4 [.int .i64 yl, .int .i64 start, .slice A4 n4 c4] 24); obtain ⟨hy4a_0, hy4a_1, hy4a_2⟩ := cel3 HY_4a.out; have hn4' : n4 ≤ 1000000 := (by omega); clear hb hba ho hr4)
      | (go_at_call 16; (with_reducible refine (Chn.Check_is yl start A4 n4 c4 y _ HYR_4a.out HT_4a.out (by omega) HCX.out).mono ?_); rintro e w6 ⟨rfl, hb⟩; have HW_6 := Lib.hid (bel_trans HW_4a.out hb); have HT_6 := Lib.hid (HT_4a.out.bel hb); have HV_6 := Lib.hid (rdlUp HV_4a.out hb); have HX_6 := Lib.hid (rdtUp HX_4a.out hb); have HLR_6 := Lib.hid (rdgUp HLR_4a.out hb); have HL_6 := Lib.hid (HL_4a.out.below hb); have HYR_6 := Lib.hid (rdgUp HYR_4a.out hb); have HWS_6 := Lib.hid (rdtUp HWS_4a.out hb); have HY_6 := Lib.hid (HY_4a.out.below hb); obtain ⟨hy6_0, hy6_1, hy6_2⟩ := cel3 HY_6.out; clear hb)
      | (go_at_call 18; (with_reducible refine (Chn.End_is yl start A4 n4 c4 y _ HYR_6.out HT_6.out (by omega) HEX.out).mono ?_); rintro e w7 ⟨rfl, hb⟩; have HW_7 := Lib.hid (bel_trans HW_6.out hb); have HT_7 := Lib.hid (HT_6.out.bel hb); have HV_7 := Lib.hid (rdlUp HV_6.out hb); have HX_7 := Lib.hid (rdtUp HX_6.out hb); have HLR_7 := Lib.hid (rdgUp HLR_6.out hb); have HL_7 := Lib.hid (HL_6.out.below hb); have HYR_7 := Lib.hid (rdgUp HYR_6.out hb); have HWS_7 := Lib.hid (rdtUp HWS_6.out hb); have HY_7 := Lib.hid (HY_6.out.below hb); obtain ⟨hy7_0, hy7_1, hy7_2⟩ := cel3 HY_7.out; clear hb)
      | (go_at_call 21; (with_reducible refine (All_is yl start A4 n4 c4 y _ HYR_7.out HT_7.out hc4 (by omega) HAX.out).mono ?_); rintro e w8 ⟨A8, n8, c8, rfl, ho, hb⟩; have HW_8 := Lib.hid (bel_trans HW_7.out hb); have HT_8 := Lib.hid (HT_7.out.bel hb); have HV_8 := Lib.hid (rdlUp HV_7.out hb); have HX_8 := Lib.hid (rdtUp HX_7.out hb); have HLR_8 := Lib.hid (rdgUp HLR_7.out hb); have HL_8 := Lib.hid (HL_7.out.below hb); have HYR_8 := Lib.hid (rdgUp HYR_7.out hb); have HWS_8 := Lib.hid (rdtUp HWS_7.out hb); have HY_8 := Lib.hid (HY_7.out.below hb); obtain rfl : 0 = n8 := ho.len; have HZT_8 := Lib.hid (ho.rd); obtain ⟨hy8_0, hy8_1, hy8_2⟩ := cel3 HY_8.out; clear hb ho)
      | (go_at_call 20; (with_reducible refine (SameAll_is A8 A5 0 c8 0 c5 _ _ _ HZT_8.out HWS_8.out (by omega) (by omega) (eqT_self _)).mono ?_); rintro e w9 ⟨rfl, hb⟩; have HW_9 := Lib.hid (bel_trans HW_8.out hb); have HT_9 := Lib.hid (HT_8.out.bel hb); have HV_9 := Lib.hid (rdlUp HV_8.out hb); have HX_9 := Lib.hid (rdtUp HX_8.out hb); have HLR_9 := Lib.hid (rdgUp HLR_8.out hb); have HL_9 := Lib.hid (HL_8.out.below hb); have HYR_9 := Lib.hid (rdgUp HYR_8.out hb); have HWS_9 := Lib.hid (rdtUp HWS_8.out hb); have HY_9 := Lib.hid (HY_8.out.below hb); have HZT_9 := Lib.hid (rdtUp HZT_8.out hb); obtain ⟨hy9_0, hy9_1, hy9_2⟩ := cel3 HY_9.out; clear hb)
      | (go_at_call 33; (with_reducible refine (Read_is yl start off 1099511627776 A4 n4 c4 y _ HYR_9.out HT_9.out hc4 (by omega) hI40 HRD.out).mono ?_); rintro e w10 ⟨A10, n10, c10, rfl, ho, hb⟩; have HW_10 := Lib.hid (bel_trans HW_9.out hb); have HT_10 := Lib.hid (HT_9.out.bel hb); have HV_10 := Lib.hid (rdlUp HV_9.out hb); have HX_10 := Lib.hid (rdtUp HX_9.out hb); have HLR_10 := Lib.hid (rdgUp HLR_9.out hb); have HL_10 := Lib.hid (HL_9.out.below hb); have HYR_10 := Lib.hid (rdgUp HYR_9.out hb); have HWS_10 := Lib.hid (rdtUp HWS_9.out hb); have HY_10 := Lib.hid (HY_9.out.below hb); have HZT_10 := Lib.hid (rdtUp HZT_9.out hb); have HN10 := Lib.hid ho.len; have hn10 : n10 ≤ 40 := (by have h1 := HFL.out; have h2 := ho.len; omega); have HGT_10 := Lib.hid (ho.rd); clear hb ho)
      | (go_at_call 39; (with_reducible refine (from9_is A5 0 c5 [] off 1099511627777 _ HWS_10.out (by omega) HFR.out).mono ?_); rintro e w11 ⟨A11, n11, c11, rfl, ho, hb⟩; have HW_11 := Lib.hid (bel_trans HW_10.out hb); have HT_11 := Lib.hid (HT_10.out.bel hb); have HV_11 := Lib.hid (rdlUp HV_10.out hb); have HX_11 := Lib.hid (rdtUp HX_10.out hb); have HLR_11 := Lib.hid (rdgUp HLR_10.out hb); have HL_11 := Lib.hid (HL_10.out.below hb); have HYR_11 := Lib.hid (rdgUp HYR_10.out hb); have HWS_11 := Lib.hid (rdtUp HWS_10.out hb); have HY_11 := Lib.hid (HY_10.out.below hb); have HZT_11 := Lib.hid (rdtUp HZT_10.out hb); have HGT_11 := Lib.hid (rdtUp HGT_10.out hb); obtain rfl : n10 = n11 := HN10.out.symm.trans ho.len; have HFT_11 := Lib.hid (ho.rd); clear hb ho)
      | (go_at_call 20; (with_reducible refine (SameAll_is A10 A11 n10 c10 n10 c11 _ _ _ HGT_11.out HFT_11.out (by omega) (by omega) (eqT_self _)).mono ?_); rintro e w12 ⟨rfl, hb⟩; have HW_12 := Lib.hid (bel_trans HW_11.out hb); have HT_12 := Lib.hid (HT_11.out.bel hb); have HV_12 := Lib.hid (rdlUp HV_11.out hb); have HX_12 := Lib.hid (rdtUp HX_11.out hb); have HLR_12 := Lib.hid (rdgUp HLR_11.out hb); have HL_12 := Lib.hid (HL_11.out.below hb); have HYR_12 := Lib.hid (rdgUp HYR_11.out hb); have HWS_12 := Lib.hid (rdtUp HWS_11.out hb); have HY_12 := Lib.hid (HY_11.out.below hb); have HZT_12 := Lib.hid (rdtUp HZT_11.out hb); have HGT_12 := Lib.hid (rdtUp HGT_11.out hb); have HFT_12 := Lib.hid (rdtUp HFT_11.out hb); clear hb))
    go_ret
    exact ⟨rfl, HW_12.out⟩
  · skip
    have HNE := Lib.hid hne
    obtain ⟨z, hz⟩ : ∃ z, ws.getLast? = some z := by
      cases h9 : ws.getLast? with
      | none => exact absurd (List.getLast?_eq_none_iff.1 h9) hne
      | some z => exact ⟨z, rfl⟩
    rw [hz] at b3
    simp only at b3
    obtain ⟨LL, hLL⟩ : ∃ LL, z.last = LL := ⟨_, rfl⟩
    have hzl := (ris_len HQ5.out).2 z (List.mem_of_getLast? hz)
    have hzc := chB_last ((ris_ge HQ5.out) z (List.mem_of_getLast? hz)).2
    rw [hLL] at b3 hzl hzc
    have hE1 : E = LL + 1 := b3
    have hw9 : IntKind.i64.wrap (LL + 1) = LL + 1 := IntWalk.i64_in _ (by omega)
    have HLL := Lib.hid hz
    have HLQ := Lib.hid hLL
    subst hE1
    clear hne hz hLL b3 hzl hzc
    by_cases h1 : off < start
    · rw [if_pos (.inl h1)] at hrd
      have HRD := Lib.hid hrd
      clear hrd
      go_enter Tryz.func6, Tryz.ntmps6
      go_wp2_with (first
        | (go_at_call 12; (with_reducible refine (live9_any _ HT_0.out).mono ?_); rintro e w1 ⟨rfl, hb⟩; have HW_1 := Lib.hid (bel_trans HW_0.out hb); have HT_1 := Lib.hid (HT_0.out.bel hb); have HV_1 := Lib.hid (rdlUp HV_0.out hb); have HX_1 := Lib.hid (rdtUp HX_0.out hb); clear hb)
        | (go_at_call 37; (with_reducible refine (refFewAll_is bs A n c 40 _ HV_1.out hnr HZB.out).mono ?_); rintro e w2 ⟨rfl, hb⟩; have HW_2 := Lib.hid (bel_trans HW_1.out hb); have HT_2 := Lib.hid (HT_1.out.bel hb); have HV_2 := Lib.hid (rdlUp HV_1.out hb); have HX_2 := Lib.hid (rdtUp HX_1.out hb); clear hb)
        | (go_at_call 14; (with_reducible refine (New_is limit start _ HNW.out).mono ?_); rintro e w3 ⟨A3, n3, c3, rfl, hc3, hr3, hb⟩; have HW_3 := Lib.hid (bel_trans HW_2.out hb); have HT_3 := Lib.hid (HT_2.out.bel hb); have HV_3 := Lib.hid (rdlUp HV_2.out hb); have HX_3 := Lib.hid (rdtUp HX_2.out hb); obtain rfl : 1 = n3 := hr3.len; have HLR_3 := Lib.hid (hr3); have hba := belA w3 (.cells #[.int .i64 limit, .int .i64 start, .slice A3 1 c3] 24); have HW_3a := Lib.hid (bel_trans HW_3.out hba); have HT_3a := Lib.hid (HT_3.out.bel hba); have HV_3a := Lib.hid (rdlUp HV_3.out hba); have HX_3a := Lib.hid (rdtUp HX_3.out hba); have HLR_3a := Lib.hid (rdgUp HLR_3.out hba); have HL_3a := Lib.hid (At0.new w3 [.int .i64 limit, .int .i64 start, .slice A3 1 c3] 24); obtain ⟨hl3a_0, hl3a_1, hl3a_2⟩ := cel3 HL_3a.out; clear hb hba hr3)
        | (go_at_call 38; (with_reducible refine (behind9_is limit start A3 1 c3 [⟨start, []⟩] A n c bs _ HLR_3a.out HT_3a.out hc3 (by decide) HX_3a.out (by omega) HBH.out).mono ?_); rintro e w4 ⟨A4, n4, c4, A5, n5, c5, rfl, hc4, hn4, hr4, ho, hb⟩; have HW_4 := Lib.hid (bel_trans HW_3a.out hb); have HT_4 := Lib.hid (HT_3a.out.bel hb); have HV_4 := Lib.hid (rdlUp HV_3a.out hb); have HX_4 := Lib.hid (rdtUp HX_3a.out hb); have HLR_4 := Lib.hid (rdgUp HLR_3a.out hb); have HL_4 := Lib.hid (HL_3a.out.below hb); have HN5 := Lib.hid ho.len; have hc5 := ho.cap; have HYR_4 := Lib.hid (hr4); have HWS_4 := Lib.hid (ho.rd); have hba := belA w4 (.cells #[.int .i64 yl, .int .i64 start, .slice A4 n4 c4] 24); have HW_4a := Lib.hid (bel_trans HW_4.out hba); have HT_4a := Lib.hid (HT_4.out.bel hba); have HV_4a := Lib.hid (rdlUp HV_4.out hba); have HX_4a := Lib.hid (rdtUp HX_4.out hba); have HLR_4a := Lib.hid (rdgUp HLR_4.out hba); have HL_4a := Lib.hid (HL_4.out.below hba); have HYR_4a := Lib.hid (rdgUp HYR_4.out hba); have HWS_4a := Lib.hid (rdtUp HWS_4.out hba); have HY_4a := Lib.hid (At0.new w4 [.int .i64 yl, .int .i64 start, .slice A4 n4 c4] 24); obtain ⟨hy4a_0, hy4a_1, hy4a_2⟩ := cel3 HY_4a.out; have hn5 : n5 ≤ 40 := (by have h1 := HWL.out; have h2 := HN5.out; omega); have hp5 : 0 < n5 := (by have h2 := HN5.out; have h3 := List.length_pos_iff.2 HNE.out; omega); obtain ⟨b, o, x, A9, n9, c9, rfl, hbl, hxk, _, _, _, _, hce⟩ := (HWS_4a.out).at (k := n5 - 1) (by omega); have hxl : x.last = LL := (by have h1 := HLL.out; rw [List.getLast?_eq_getElem?, HN5.out, hxk] at h1; injection h1 with h1; rw [h1]; exact HLQ.out); have d1 : (w4.alloc (.cells #[.int .i64 yl, .int .i64 start, .slice A4 n4 c4] 24)).cell? ⟨b, o + (n5 - 1) * 10 + 1, none⟩ = some (.int .i64 LL) := (by rw [← hxl]; exact hce 1 _ rfl); have hw1 : IntKind.i64.wrap ((n5 : Int) - 1) = (n5 : Int) - 1 := IntWalk.i64_in _ (by omega); have hg1 : (0 : Int) < (n5 : Int) := (by omega); have hg2 : (0 : Int) ≤ (n5 : Int) - 1 := (by omega); have hg3 : (n5 : Int) - 1 < (n5 : Int) := (by omega); have hg4 : ((n5 : Int) - 1).toNat = n5 - 1 := (by omega); have hg5 : (1 : Int) ≤ (n5 : Int) := (by omega); clear hxk hce hxl hp5; have hn4' : n4 ≤ 1000000 := (by omega); clear hb hba ho hr4)
        | (go_at_call 16; (with_reducible refine (Chn.Check_is yl start A4 n4 c4 y _ HYR_4a.out HT_4a.out (by omega) HCX.out).mono ?_); rintro e w6 ⟨rfl, hb⟩; have HW_6 := Lib.hid (bel_trans HW_4a.out hb); have HT_6 := Lib.hid (HT_4a.out.bel hb); have HV_6 := Lib.hid (rdlUp HV_4a.out hb); have HX_6 := Lib.hid (rdtUp HX_4a.out hb); have HLR_6 := Lib.hid (rdgUp HLR_4a.out hb); have HL_6 := Lib.hid (HL_4a.out.below hb); have HYR_6 := Lib.hid (rdgUp HYR_4a.out hb); have HWS_6 := Lib.hid (rdtUp HWS_4a.out hb); have HY_6 := Lib.hid (HY_4a.out.below hb); obtain ⟨hy6_0, hy6_1, hy6_2⟩ := cel3 HY_6.out; clear hb)
        | (go_at_call 18; (with_reducible refine (Chn.End_is yl start A4 n4 c4 y _ HYR_6.out HT_6.out (by omega) HEX.out).mono ?_); rintro e w7 ⟨rfl, hb⟩; have HW_7 := Lib.hid (bel_trans HW_6.out hb); have HT_7 := Lib.hid (HT_6.out.bel hb); have HV_7 := Lib.hid (rdlUp HV_6.out hb); have HX_7 := Lib.hid (rdtUp HX_6.out hb); have HLR_7 := Lib.hid (rdgUp HLR_6.out hb); have HL_7 := Lib.hid (HL_6.out.below hb); have HYR_7 := Lib.hid (rdgUp HYR_6.out hb); have HWS_7 := Lib.hid (rdtUp HWS_6.out hb); have HY_7 := Lib.hid (HY_6.out.below hb); obtain ⟨hy7_0, hy7_1, hy7_2⟩ := cel3 HY_7.out; clear hb)
        | (go_at_call 21; (with_reducible refine (All_is yl start A4 n4 c4 y _ HYR_7.out HT_7.out hc4 (by omega) HAX.out).mono ?_); rintro e w8 ⟨A8, n8, c8, rfl, ho, hb⟩; have HW_8 := Lib.hid (bel_trans HW_7.out hb); have HT_8 := Lib.hid (HT_7.out.bel hb); have HV_8 := Lib.hid (rdlUp HV_7.out hb); have HX_8 := Lib.hid (rdtUp HX_7.out hb); have HLR_8 := Lib.hid (rdgUp HLR_7.out hb); have HL_8 := Lib.hid (HL_7.out.below hb); have HYR_8 := Lib.hid (rdgUp HYR_7.out hb); have HWS_8 := Lib.hid (rdtUp HWS_7.out hb); have HY_8 := Lib.hid (HY_7.out.below hb); obtain rfl : n5 = n8 := HN5.out.symm.trans ho.len; have HZT_8 := Lib.hid (ho.rd); obtain ⟨hy8_0, hy8_1, hy8_2⟩ := cel3 HY_8.out; clear hb ho)
        | (go_at_call 20; (with_reducible refine (SameAll_is A8 (some ⟨b, o, none⟩) n5 c8 n5 c5 _ _ _ HZT_8.out HWS_8.out (by omega) (by omega) (eqT_self _)).mono ?_); rintro e w9 ⟨rfl, hb⟩; have HW_9 := Lib.hid (bel_trans HW_8.out hb); have HT_9 := Lib.hid (HT_8.out.bel hb); have HV_9 := Lib.hid (rdlUp HV_8.out hb); have HX_9 := Lib.hid (rdtUp HX_8.out hb); have HLR_9 := Lib.hid (rdgUp HLR_8.out hb); have HL_9 := Lib.hid (HL_8.out.below hb); have HYR_9 := Lib.hid (rdgUp HYR_8.out hb); have HWS_9 := Lib.hid (rdtUp HWS_8.out hb); have HY_9 := Lib.hid (HY_8.out.below hb); have HZT_9 := Lib.hid (rdtUp HZT_8.out hb); obtain ⟨hy9_0, hy9_1, hy9_2⟩ := cel3 HY_9.out; clear hb)
        | (go_at_call 33; (with_reducible refine (Read_is yl start off 1099511627776 A4 n4 c4 y _ HYR_9.out HT_9.out hc4 (by omega) hI40 HRD.out).mono ?_); rintro e w10 ⟨A10, n10, c10, rfl, ho, hb⟩; have HW_10 := Lib.hid (bel_trans HW_9.out hb); have HT_10 := Lib.hid (HT_9.out.bel hb); have HV_10 := Lib.hid (rdlUp HV_9.out hb); have HX_10 := Lib.hid (rdtUp HX_9.out hb); have HLR_10 := Lib.hid (rdgUp HLR_9.out hb); have HL_10 := Lib.hid (HL_9.out.below hb); have HYR_10 := Lib.hid (rdgUp HYR_9.out hb); have HWS_10 := Lib.hid (rdtUp HWS_9.out hb); have HY_10 := Lib.hid (HY_9.out.below hb); have HZT_10 := Lib.hid (rdtUp HZT_9.out hb); obtain rfl : 0 = n10 := ho.len; have HGT_10 := Lib.hid (ho.rd); clear hb ho))
      go_ret
      exact ⟨rfl, HW_10.out⟩
    by_cases h2 : LL + 1 < off
    · rw [if_pos (.inr h2)] at hrd
      have HRD := Lib.hid hrd
      clear hrd
      go_enter Tryz.func6, Tryz.ntmps6
      go_wp2_with (first
        | (go_at_call 12; (with_reducible refine (live9_any _ HT_0.out).mono ?_); rintro e w1 ⟨rfl, hb⟩; have HW_1 := Lib.hid (bel_trans HW_0.out hb); have HT_1 := Lib.hid (HT_0.out.bel hb); have HV_1 := Lib.hid (rdlUp HV_0.out hb); have HX_1 := Lib.hid (rdtUp HX_0.out hb); clear hb)
        | (go_at_call 37; (with_reducible refine (refFewAll_is bs A n c 40 _ HV_1.out hnr HZB.out).mono ?_); rintro e w2 ⟨rfl, hb⟩; have HW_2 := Lib.hid (bel_trans HW_1.out hb); have HT_2 := Lib.hid (HT_1.out.bel hb); have HV_2 := Lib.hid (rdlUp HV_1.out hb); have HX_2 := Lib.hid (rdtUp HX_1.out hb); clear hb)
        | (go_at_call 14; (with_reducible refine (New_is limit start _ HNW.out).mono ?_); rintro e w3 ⟨A3, n3, c3, rfl, hc3, hr3, hb⟩; have HW_3 := Lib.hid (bel_trans HW_2.out hb); have HT_3 := Lib.hid (HT_2.out.bel hb); have HV_3 := Lib.hid (rdlUp HV_2.out hb); have HX_3 := Lib.hid (rdtUp HX_2.out hb); obtain rfl : 1 = n3 := hr3.len; have HLR_3 := Lib.hid (hr3); have hba := belA w3 (.cells #[.int .i64 limit, .int .i64 start, .slice A3 1 c3] 24); have HW_3a := Lib.hid (bel_trans HW_3.out hba); have HT_3a := Lib.hid (HT_3.out.bel hba); have HV_3a := Lib.hid (rdlUp HV_3.out hba); have HX_3a := Lib.hid (rdtUp HX_3.out hba); have HLR_3a := Lib.hid (rdgUp HLR_3.out hba); have HL_3a := Lib.hid (At0.new w3 [.int .i64 limit, .int .i64 start, .slice A3 1 c3] 24); obtain ⟨hl3a_0, hl3a_1, hl3a_2⟩ := cel3 HL_3a.out; clear hb hba hr3)
        | (go_at_call 38; (with_reducible refine (behind9_is limit start A3 1 c3 [⟨start, []⟩] A n c bs _ HLR_3a.out HT_3a.out hc3 (by decide) HX_3a.out (by omega) HBH.out).mono ?_); rintro e w4 ⟨A4, n4, c4, A5, n5, c5, rfl, hc4, hn4, hr4, ho, hb⟩; have HW_4 := Lib.hid (bel_trans HW_3a.out hb); have HT_4 := Lib.hid (HT_3a.out.bel hb); have HV_4 := Lib.hid (rdlUp HV_3a.out hb); have HX_4 := Lib.hid (rdtUp HX_3a.out hb); have HLR_4 := Lib.hid (rdgUp HLR_3a.out hb); have HL_4 := Lib.hid (HL_3a.out.below hb); have HN5 := Lib.hid ho.len; have hc5 := ho.cap; have HYR_4 := Lib.hid (hr4); have HWS_4 := Lib.hid (ho.rd); have hba := belA w4 (.cells #[.int .i64 yl, .int .i64 start, .slice A4 n4 c4] 24); have HW_4a := Lib.hid (bel_trans HW_4.out hba); have HT_4a := Lib.hid (HT_4.out.bel hba); have HV_4a := Lib.hid (rdlUp HV_4.out hba); have HX_4a := Lib.hid (rdtUp HX_4.out hba); have HLR_4a := Lib.hid (rdgUp HLR_4.out hba); have HL_4a := Lib.hid (HL_4.out.below hba); have HYR_4a := Lib.hid (rdgUp HYR_4.out hba); have HWS_4a := Lib.hid (rdtUp HWS_4.out hba); have HY_4a := Lib.hid (At0.new w4 [.int .i64 yl, .int .i64 start, .slice A4 n4 c4] 24); obtain ⟨hy4a_0, hy4a_1, hy4a_2⟩ := cel3 HY_4a.out; have hn5 : n5 ≤ 40 := (by have h1 := HWL.out; have h2 := HN5.out; omega); have hp5 : 0 < n5 := (by have h2 := HN5.out; have h3 := List.length_pos_iff.2 HNE.out; omega); obtain ⟨b, o, x, A9, n9, c9, rfl, hbl, hxk, _, _, _, _, hce⟩ := (HWS_4a.out).at (k := n5 - 1) (by omega); have hxl : x.last = LL := (by have h1 := HLL.out; rw [List.getLast?_eq_getElem?, HN5.out, hxk] at h1; injection h1 with h1; rw [h1]; exact HLQ.out); have d1 : (w4.alloc (.cells #[.int .i64 yl, .int .i64 start, .slice A4 n4 c4] 24)).cell? ⟨b, o + (n5 - 1) * 10 + 1, none⟩ = some (.int .i64 LL) := (by rw [← hxl]; exact hce 1 _ rfl); have hw1 : IntKind.i64.wrap ((n5 : Int) - 1) = (n5 : Int) - 1 := IntWalk.i64_in _ (by omega); have hg1 : (0 : Int) < (n5 : Int) := (by omega); have hg2 : (0 : Int) ≤ (n5 : Int) - 1 := (by omega); have hg3 : (n5 : Int) - 1 < (n5 : Int) := (by omega); have hg4 : ((n5 : Int) - 1).toNat = n5 - 1 := (by omega); have hg5 : (1 : Int) ≤ (n5 : Int) := (by omega); clear hxk hce hxl hp5; have hn4' : n4 ≤ 1000000 := (by omega); clear hb hba ho hr4)
        | (go_at_call 16; (with_reducible refine (Chn.Check_is yl start A4 n4 c4 y _ HYR_4a.out HT_4a.out (by omega) HCX.out).mono ?_); rintro e w6 ⟨rfl, hb⟩; have HW_6 := Lib.hid (bel_trans HW_4a.out hb); have HT_6 := Lib.hid (HT_4a.out.bel hb); have HV_6 := Lib.hid (rdlUp HV_4a.out hb); have HX_6 := Lib.hid (rdtUp HX_4a.out hb); have HLR_6 := Lib.hid (rdgUp HLR_4a.out hb); have HL_6 := Lib.hid (HL_4a.out.below hb); have HYR_6 := Lib.hid (rdgUp HYR_4a.out hb); have HWS_6 := Lib.hid (rdtUp HWS_4a.out hb); have HY_6 := Lib.hid (HY_4a.out.below hb); obtain ⟨hy6_0, hy6_1, hy6_2⟩ := cel3 HY_6.out; clear hb)
        | (go_at_call 18; (with_reducible refine (Chn.End_is yl start A4 n4 c4 y _ HYR_6.out HT_6.out (by omega) HEX.out).mono ?_); rintro e w7 ⟨rfl, hb⟩; have HW_7 := Lib.hid (bel_trans HW_6.out hb); have HT_7 := Lib.hid (HT_6.out.bel hb); have HV_7 := Lib.hid (rdlUp HV_6.out hb); have HX_7 := Lib.hid (rdtUp HX_6.out hb); have HLR_7 := Lib.hid (rdgUp HLR_6.out hb); have HL_7 := Lib.hid (HL_6.out.below hb); have HYR_7 := Lib.hid (rdgUp HYR_6.out hb); have HWS_7 := Lib.hid (rdtUp HWS_6.out hb); have HY_7 := Lib.hid (HY_6.out.below hb); obtain ⟨hy7_0, hy7_1, hy7_2⟩ := cel3 HY_7.out; clear hb)
        | (go_at_call 21; (with_reducible refine (All_is yl start A4 n4 c4 y _ HYR_7.out HT_7.out hc4 (by omega) HAX.out).mono ?_); rintro e w8 ⟨A8, n8, c8, rfl, ho, hb⟩; have HW_8 := Lib.hid (bel_trans HW_7.out hb); have HT_8 := Lib.hid (HT_7.out.bel hb); have HV_8 := Lib.hid (rdlUp HV_7.out hb); have HX_8 := Lib.hid (rdtUp HX_7.out hb); have HLR_8 := Lib.hid (rdgUp HLR_7.out hb); have HL_8 := Lib.hid (HL_7.out.below hb); have HYR_8 := Lib.hid (rdgUp HYR_7.out hb); have HWS_8 := Lib.hid (rdtUp HWS_7.out hb); have HY_8 := Lib.hid (HY_7.out.below hb); obtain rfl : n5 = n8 := HN5.out.symm.trans ho.len; have HZT_8 := Lib.hid (ho.rd); obtain ⟨hy8_0, hy8_1, hy8_2⟩ := cel3 HY_8.out; clear hb ho)
        | (go_at_call 20; (with_reducible refine (SameAll_is A8 (some ⟨b, o, none⟩) n5 c8 n5 c5 _ _ _ HZT_8.out HWS_8.out (by omega) (by omega) (eqT_self _)).mono ?_); rintro e w9 ⟨rfl, hb⟩; have HW_9 := Lib.hid (bel_trans HW_8.out hb); have HT_9 := Lib.hid (HT_8.out.bel hb); have HV_9 := Lib.hid (rdlUp HV_8.out hb); have HX_9 := Lib.hid (rdtUp HX_8.out hb); have HLR_9 := Lib.hid (rdgUp HLR_8.out hb); have HL_9 := Lib.hid (HL_8.out.below hb); have HYR_9 := Lib.hid (rdgUp HYR_8.out hb); have HWS_9 := Lib.hid (rdtUp HWS_8.out hb); have HY_9 := Lib.hid (HY_8.out.below hb); have HZT_9 := Lib.hid (rdtUp HZT_8.out hb); obtain ⟨hy9_0, hy9_1, hy9_2⟩ := cel3 HY_9.out; clear hb)
        | (go_at_call 33; (with_reducible refine (Read_is yl start off 1099511627776 A4 n4 c4 y _ HYR_9.out HT_9.out hc4 (by omega) hI40 HRD.out).mono ?_); rintro e w10 ⟨A10, n10, c10, rfl, ho, hb⟩; have HW_10 := Lib.hid (bel_trans HW_9.out hb); have HT_10 := Lib.hid (HT_9.out.bel hb); have HV_10 := Lib.hid (rdlUp HV_9.out hb); have HX_10 := Lib.hid (rdtUp HX_9.out hb); have HLR_10 := Lib.hid (rdgUp HLR_9.out hb); have HL_10 := Lib.hid (HL_9.out.below hb); have HYR_10 := Lib.hid (rdgUp HYR_9.out hb); have HWS_10 := Lib.hid (rdtUp HWS_9.out hb); have HY_10 := Lib.hid (HY_9.out.below hb); have HZT_10 := Lib.hid (rdtUp HZT_9.out hb); obtain rfl : 0 = n10 := ho.len; have HGT_10 := Lib.hid (ho.rd); clear hb ho))
      go_ret
      exact ⟨rfl, HW_10.out⟩
    rw [if_neg (fun h => h.elim h1 h2)] at hrd
    have HRD := Lib.hid hrd
    clear hrd
    go_enter Tryz.func6, Tryz.ntmps6
    go_wp2_with (first
      | (go_at_call 12; (with_reducible refine (live9_any _ HT_0.out).mono ?_); rintro e w1 ⟨rfl, hb⟩; have HW_1 := Lib.hid (bel_trans HW_0.out hb); have HT_1 := Lib.hid (HT_0.out.bel hb); have HV_1 := Lib.hid (rdlUp HV_0.out hb); have HX_1 := Lib.hid (rdtUp HX_0.out hb); clear hb)
      | (go_at_call 37; (with_reducible refine (refFewAll_is bs A n c 40 _ HV_1.out hnr HZB.out).mono ?_); rintro e w2 ⟨rfl, hb⟩; have HW_2 := Lib.hid (bel_trans HW_1.out hb); have HT_2 := Lib.hid (HT_1.out.bel hb); have HV_2 := Lib.hid (rdlUp HV_1.out hb); have HX_2 := Lib.hid (rdtUp HX_1.out hb); clear hb)
      | (go_at_call 14; (with_reducible refine (New_is limit start _ HNW.out).mono ?_); rintro e w3 ⟨A3, n3, c3, rfl, hc3, hr3, hb⟩; have HW_3 := Lib.hid (bel_trans HW_2.out hb); have HT_3 := Lib.hid (HT_2.out.bel hb); have HV_3 := Lib.hid (rdlUp HV_2.out hb); have HX_3 := Lib.hid (rdtUp HX_2.out hb); obtain rfl : 1 = n3 := hr3.len; have HLR_3 := Lib.hid (hr3); have hba := belA w3 (.cells #[.int .i64 limit, .int .i64 start, .slice A3 1 c3] 24); have HW_3a := Lib.hid (bel_trans HW_3.out hba); have HT_3a := Lib.hid (HT_3.out.bel hba); have HV_3a := Lib.hid (rdlUp HV_3.out hba); have HX_3a := Lib.hid (rdtUp HX_3.out hba); have HLR_3a := Lib.hid (rdgUp HLR_3.out hba); have HL_3a := Lib.hid (At0.new w3 [.int .i64 limit, .int .i64 start, .slice A3 1 c3] 24); obtain ⟨hl3a_0, hl3a_1, hl3a_2⟩ := cel3 HL_3a.out; clear hb hba hr3)
      | (go_at_call 38; (with_reducible refine (behind9_is limit start A3 1 c3 [⟨start, []⟩] A n c bs _ HLR_3a.out HT_3a.out hc3 (by decide) HX_3a.out (by omega) HBH.out).mono ?_); rintro e w4 ⟨A4, n4, c4, A5, n5, c5, rfl, hc4, hn4, hr4, ho, hb⟩; have HW_4 := Lib.hid (bel_trans HW_3a.out hb); have HT_4 := Lib.hid (HT_3a.out.bel hb); have HV_4 := Lib.hid (rdlUp HV_3a.out hb); have HX_4 := Lib.hid (rdtUp HX_3a.out hb); have HLR_4 := Lib.hid (rdgUp HLR_3a.out hb); have HL_4 := Lib.hid (HL_3a.out.below hb); have HN5 := Lib.hid ho.len; have hc5 := ho.cap; have HYR_4 := Lib.hid (hr4); have HWS_4 := Lib.hid (ho.rd); have hba := belA w4 (.cells #[.int .i64 yl, .int .i64 start, .slice A4 n4 c4] 24); have HW_4a := Lib.hid (bel_trans HW_4.out hba); have HT_4a := Lib.hid (HT_4.out.bel hba); have HV_4a := Lib.hid (rdlUp HV_4.out hba); have HX_4a := Lib.hid (rdtUp HX_4.out hba); have HLR_4a := Lib.hid (rdgUp HLR_4.out hba); have HL_4a := Lib.hid (HL_4.out.below hba); have HYR_4a := Lib.hid (rdgUp HYR_4.out hba); have HWS_4a := Lib.hid (rdtUp HWS_4.out hba); have HY_4a := Lib.hid (At0.new w4 [.int .i64 yl, .int .i64 start, .slice A4 n4 c4] 24); obtain ⟨hy4a_0, hy4a_1, hy4a_2⟩ := cel3 HY_4a.out; have hn5 : n5 ≤ 40 := (by have h1 := HWL.out; have h2 := HN5.out; omega); have hp5 : 0 < n5 := (by have h2 := HN5.out; have h3 := List.length_pos_iff.2 HNE.out; omega); obtain ⟨b, o, x, A9, n9, c9, rfl, hbl, hxk, _, _, _, _, hce⟩ := (HWS_4a.out).at (k := n5 - 1) (by omega); have hxl : x.last = LL := (by have h1 := HLL.out; rw [List.getLast?_eq_getElem?, HN5.out, hxk] at h1; injection h1 with h1; rw [h1]; exact HLQ.out); have d1 : (w4.alloc (.cells #[.int .i64 yl, .int .i64 start, .slice A4 n4 c4] 24)).cell? ⟨b, o + (n5 - 1) * 10 + 1, none⟩ = some (.int .i64 LL) := (by rw [← hxl]; exact hce 1 _ rfl); have hw1 : IntKind.i64.wrap ((n5 : Int) - 1) = (n5 : Int) - 1 := IntWalk.i64_in _ (by omega); have hg1 : (0 : Int) < (n5 : Int) := (by omega); have hg2 : (0 : Int) ≤ (n5 : Int) - 1 := (by omega); have hg3 : (n5 : Int) - 1 < (n5 : Int) := (by omega); have hg4 : ((n5 : Int) - 1).toNat = n5 - 1 := (by omega); have hg5 : (1 : Int) ≤ (n5 : Int) := (by omega); clear hxk hce hxl hp5; have hn4' : n4 ≤ 1000000 := (by omega); clear hb hba ho hr4)
      | (go_at_call 16; (with_reducible refine (Chn.Check_is yl start A4 n4 c4 y _ HYR_4a.out HT_4a.out (by omega) HCX.out).mono ?_); rintro e w6 ⟨rfl, hb⟩; have HW_6 := Lib.hid (bel_trans HW_4a.out hb); have HT_6 := Lib.hid (HT_4a.out.bel hb); have HV_6 := Lib.hid (rdlUp HV_4a.out hb); have HX_6 := Lib.hid (rdtUp HX_4a.out hb); have HLR_6 := Lib.hid (rdgUp HLR_4a.out hb); have HL_6 := Lib.hid (HL_4a.out.below hb); have HYR_6 := Lib.hid (rdgUp HYR_4a.out hb); have HWS_6 := Lib.hid (rdtUp HWS_4a.out hb); have HY_6 := Lib.hid (HY_4a.out.below hb); obtain ⟨hy6_0, hy6_1, hy6_2⟩ := cel3 HY_6.out; clear hb)
      | (go_at_call 18; (with_reducible refine (Chn.End_is yl start A4 n4 c4 y _ HYR_6.out HT_6.out (by omega) HEX.out).mono ?_); rintro e w7 ⟨rfl, hb⟩; have HW_7 := Lib.hid (bel_trans HW_6.out hb); have HT_7 := Lib.hid (HT_6.out.bel hb); have HV_7 := Lib.hid (rdlUp HV_6.out hb); have HX_7 := Lib.hid (rdtUp HX_6.out hb); have HLR_7 := Lib.hid (rdgUp HLR_6.out hb); have HL_7 := Lib.hid (HL_6.out.below hb); have HYR_7 := Lib.hid (rdgUp HYR_6.out hb); have HWS_7 := Lib.hid (rdtUp HWS_6.out hb); have HY_7 := Lib.hid (HY_6.out.below hb); obtain ⟨hy7_0, hy7_1, hy7_2⟩ := cel3 HY_7.out; clear hb)
      | (go_at_call 21; (with_reducible refine (All_is yl start A4 n4 c4 y _ HYR_7.out HT_7.out hc4 (by omega) HAX.out).mono ?_); rintro e w8 ⟨A8, n8, c8, rfl, ho, hb⟩; have HW_8 := Lib.hid (bel_trans HW_7.out hb); have HT_8 := Lib.hid (HT_7.out.bel hb); have HV_8 := Lib.hid (rdlUp HV_7.out hb); have HX_8 := Lib.hid (rdtUp HX_7.out hb); have HLR_8 := Lib.hid (rdgUp HLR_7.out hb); have HL_8 := Lib.hid (HL_7.out.below hb); have HYR_8 := Lib.hid (rdgUp HYR_7.out hb); have HWS_8 := Lib.hid (rdtUp HWS_7.out hb); have HY_8 := Lib.hid (HY_7.out.below hb); obtain rfl : n5 = n8 := HN5.out.symm.trans ho.len; have HZT_8 := Lib.hid (ho.rd); obtain ⟨hy8_0, hy8_1, hy8_2⟩ := cel3 HY_8.out; clear hb ho)
      | (go_at_call 20; (with_reducible refine (SameAll_is A8 (some ⟨b, o, none⟩) n5 c8 n5 c5 _ _ _ HZT_8.out HWS_8.out (by omega) (by omega) (eqT_self _)).mono ?_); rintro e w9 ⟨rfl, hb⟩; have HW_9 := Lib.hid (bel_trans HW_8.out hb); have HT_9 := Lib.hid (HT_8.out.bel hb); have HV_9 := Lib.hid (rdlUp HV_8.out hb); have HX_9 := Lib.hid (rdtUp HX_8.out hb); have HLR_9 := Lib.hid (rdgUp HLR_8.out hb); have HL_9 := Lib.hid (HL_8.out.below hb); have HYR_9 := Lib.hid (rdgUp HYR_8.out hb); have HWS_9 := Lib.hid (rdtUp HWS_8.out hb); have HY_9 := Lib.hid (HY_8.out.below hb); have HZT_9 := Lib.hid (rdtUp HZT_8.out hb); obtain ⟨hy9_0, hy9_1, hy9_2⟩ := cel3 HY_9.out; clear hb)
      | (go_at_call 33; (with_reducible refine (Read_is yl start off 1099511627776 A4 n4 c4 y _ HYR_9.out HT_9.out hc4 (by omega) hI40 HRD.out).mono ?_); rintro e w10 ⟨A10, n10, c10, rfl, ho, hb⟩; have HW_10 := Lib.hid (bel_trans HW_9.out hb); have HT_10 := Lib.hid (HT_9.out.bel hb); have HV_10 := Lib.hid (rdlUp HV_9.out hb); have HX_10 := Lib.hid (rdtUp HX_9.out hb); have HLR_10 := Lib.hid (rdgUp HLR_9.out hb); have HL_10 := Lib.hid (HL_9.out.below hb); have HYR_10 := Lib.hid (rdgUp HYR_9.out hb); have HWS_10 := Lib.hid (rdtUp HWS_9.out hb); have HY_10 := Lib.hid (HY_9.out.below hb); have HZT_10 := Lib.hid (rdtUp HZT_9.out hb); have HN10 := Lib.hid ho.len; have hn10 : n10 ≤ 40 := (by have h1 := HFL.out; have h2 := ho.len; omega); have HGT_10 := Lib.hid (ho.rd); clear hb ho)
      | (go_at_call 39; (with_reducible refine (from9_is (some ⟨b, o, none⟩) n5 c5 ws off 1099511627777 _ HWS_10.out (by omega) HFR.out).mono ?_); rintro e w11 ⟨A11, n11, c11, rfl, ho, hb⟩; have HW_11 := Lib.hid (bel_trans HW_10.out hb); have HT_11 := Lib.hid (HT_10.out.bel hb); have HV_11 := Lib.hid (rdlUp HV_10.out hb); have HX_11 := Lib.hid (rdtUp HX_10.out hb); have HLR_11 := Lib.hid (rdgUp HLR_10.out hb); have HL_11 := Lib.hid (HL_10.out.below hb); have HYR_11 := Lib.hid (rdgUp HYR_10.out hb); have HWS_11 := Lib.hid (rdtUp HWS_10.out hb); have HY_11 := Lib.hid (HY_10.out.below hb); have HZT_11 := Lib.hid (rdtUp HZT_10.out hb); have HGT_11 := Lib.hid (rdtUp HGT_10.out hb); obtain rfl : n10 = n11 := HN10.out.symm.trans ho.len; have HFT_11 := Lib.hid (ho.rd); clear hb ho)
      | (go_at_call 20; (with_reducible refine (SameAll_is A10 A11 n10 c10 n10 c11 _ _ _ HGT_11.out HFT_11.out (by omega) (by omega) (eqT_self _)).mono ?_); rintro e w12 ⟨rfl, hb⟩; have HW_12 := Lib.hid (bel_trans HW_11.out hb); have HT_12 := Lib.hid (HT_11.out.bel hb); have HV_12 := Lib.hid (rdlUp HV_11.out hb); have HX_12 := Lib.hid (rdtUp HX_11.out hb); have HLR_12 := Lib.hid (rdgUp HLR_11.out hb); have HL_12 := Lib.hid (HL_11.out.below hb); have HYR_12 := Lib.hid (rdgUp HYR_11.out hb); have HWS_12 := Lib.hid (rdtUp HWS_11.out hb); have HY_12 := Lib.hid (HY_11.out.below hb); have HZT_12 := Lib.hid (rdtUp HZT_11.out hb); have HGT_12 := Lib.hid (rdtUp HGT_11.out hb); have HFT_12 := Lib.hid (rdtUp HFT_11.out hb); clear hb))
    go_ret
    exact ⟨rfl, HW_12.out⟩
end Go.Proofs.YtejcjmiofidedaaGreatDoor.Chn

namespace Go.Proofs.YtejcjmiofidedaaGreatDoor.chainBack
open Go.ChangeShapes Go.WideShapes Go.ChangeAt Go.RowKit

theorem own : ownKnob Tryz.prog.godebug = none := by kernel_rfl
theorem laidOut : laidOutB Tryz.prog = true := by kernel_rfl

set_option maxRecDepth 100000 in
theorem lifted (os : Os) (started : os.Started) (H : Type) (enc : TypeId × Value → H) :
    ReturnsInHanded {} Tryz.checked os 6 .any (fun w args => (Rows.chainBackSpec.pre enc Tryz.prog Tryz.f6 [] false w args ∧ laidMetH Tryz.prog Crc.listed w) ∧ sizedMet enc Tryz.prog Tryz.f6 (OpenSpec.ofChange Rows.chainBackSpec) false w args)
      (Rows.chainBackSpec.post enc Tryz.prog Tryz.f6 false true false false) := by
  refine returnsInHanded_of_change_and (C := Tryz.checked) (X := fun w _ => laidMetH Tryz.prog Crc.listed w) (fun _ _ _ hh h => h.of_heap hh) own started (by kernel_rfl) Tryz.func6
    (ChangeSpec.witness_shaped (enc := enc) (C := Tryz.checked) (os := os) (X := fun w _ => laidMetH Tryz.prog Crc.listed w) false (World.doorLaid Tryz.prog 400 os) #[.int .i64 0, .int .i64 0, .slice none 0 0, .int .i64 0] 8 rfl (World.shaped_of_RefB (by kernel_rfl) (by kernel_rfl)) (by kernel_rfl) (by kernel_rfl) (by kernel_rfl) (Crc.door_met os _)) ?_
  intro W base args ds gs before hval0 hW _ hwt hL _
  have hval : ∀ (j : Nat) t v, Tryz.f6.params[j]? = some t → args[j]? = some v → Value.okWide Tryz.prog W .any base t v := hval0
  have hW' := hW
  obtain ⟨p, q, hA0, hV, rfl, hfz, hnd⟩ := hW
  have hA : DataW.TrodAll enc Tryz.prog W 0 (fun _ => true) true Tryz.f6.params.toList args.toList ds p := hA0
  rw [Tryz.params6] at hA hval
  obtain ⟨v0, vs0, d0, ds0, p0, q0, hargs, rfl, rfl, h0, r0⟩ := trodAll_cons hA
  obtain ⟨v1, vs1, d1, ds1, p1, q1, rfl, rfl, rfl, h1, r1⟩ := trodAll_cons r0
  obtain ⟨v2, vs2, d2, ds2, p2, q2, rfl, rfl, rfl, h2, r2⟩ := trodAll_cons r1
  obtain ⟨v3, vs3, d3, ds3, p3, q3, rfl, rfl, rfl, h3, r3⟩ := trodAll_cons r2
  obtain ⟨rfl, rfl, rfl⟩ := trodAll_nil r3
  obtain rfl : args = #[v0, v1, v2, v3] := by cases args; simp_all
  obtain ⟨rfl, rfl⟩ := trodVars_none hV
  have k0 := h0
  have lt0 : ∀ x ∈ p0, x.block < W.heap.size := by obtain ⟨m, hm⟩ := k0; exact DataW.trod_lt m _ _ _ hm
  obtain ⟨a0, rfl, hi0⟩ := Oct.open_i64 Tryz.underlying3 (hval 0 3 v0 rfl rfl) h0
  have k1 := h1
  have lt1 : ∀ x ∈ p1, x.block < W.heap.size := by obtain ⟨m, hm⟩ := k1; exact DataW.trod_lt m _ _ _ hm
  obtain ⟨a1, rfl, hi1⟩ := Oct.open_i64 Tryz.underlying3 (hval 1 3 v1 rfl rfl) h1
  have k2 := h2
  have lt2 : ∀ x ∈ p2, x.block < W.heap.size := by obtain ⟨m, hm⟩ := k2; exact DataW.trod_lt m _ _ _ hm
  obtain ⟨A_2, n_2, c_2, l_2, rfl, hc_2, hk_2, hR_2⟩ := Bat.open_batches (hval 2 33 v2 rfl rfl) h2 (Bat.weights_arg (j := 2) hwt (by kernel_rfl) rfl)
  have k3 := h3
  have lt3 : ∀ x ∈ p3, x.block < W.heap.size := by obtain ⟨m, hm⟩ := k3; exact DataW.trod_lt m _ _ _ hm
  obtain ⟨a3, rfl, hi3⟩ := Oct.open_i64 Tryz.underlying3 (hval 3 3 v3 rfl rfl) h3
  clear hA0 hval0
  refine (Chn.chainBack_walk a0 a1 A_2 n_2 c_2 l_2 a3 W hi0 hi1 hc_2 hk_2 hR_2 hi3 (Crc.tab_of_laid hL)).mono fun e W' ⟨he, bel⟩ => ?_
  subst he
  exact ⟨_, rfl, _, _, _, [], _, [], hW', trodAll_mk1 (shut_bool Tryz.underlying4 _), (trodAll_cons_mk (Below.trod laidOut (by kernel_rfl) (of_decide_eq_true (by kernel_rfl)) k0 bel lt0) (trodAll_cons_mk (Below.trod laidOut (by kernel_rfl) (of_decide_eq_true (by kernel_rfl)) k1 bel lt1) (trodAll_cons_mk (Below.trod laidOut (by kernel_rfl) (of_decide_eq_true (by kernel_rfl)) k2 bel lt2) (trodAll_cons_mk (Below.trod laidOut (by kernel_rfl) (of_decide_eq_true (by kernel_rfl)) k3 bel lt3) trodAll_mk0)))), rfl, bel.frame _, fun h => by cases h⟩

theorem over : Rows.chainBackRow.holds Tryz.pinned (OpenSpec.ofChange Rows.chainBackSpec) :=
  OpenClaim.holds_of_wide 6 Tryz.f6 rfl rfl rfl rfl rfl rfl rfl ⟨rfl, rfl, rfl, rfl, rfl⟩ rfl rfl rfl rfl rfl (by kernel_rfl) Tryz.func6 (by kernel_rfl)
    (of_decide_eq_true (by kernel_rfl)) (by unfold Func.isWrapper; first | (rw [if_pos (by decide +kernel)]; kernel_rfl) | (rw [if_neg (by decide +kernel)]; exact ⟨rfl, rfl⟩))
    (fun os started H enc _ => lifted os started H enc)

theorem proved : Rows.ChainBackCardSaid :=
  Claim7.holds_tied_plain_at .later [] [.data] true (true, "43519ac59a7675b2f2d9aeca7eaf360146488e8a78a978de494d5127d8d19227") false
    over (fun _ h => by cases h) (by kernel_rfl) (fun _ h => by cases h) chainBack_row_tie rfl ⟨rfl, rfl⟩ (by kernel_rfl) rfl
    (fun f fn hf hfn => by
      obtain rfl : f = 6 := Option.some.inj ((show Tryz.prog.funcNamed "watermeet/watermeetlaw09.ChainBack" = some 6 by kernel_rfl).symm.trans hf) |>.symm
      obtain rfl : fn = Tryz.f6 := (Option.some.inj (Tryz.func6.symm.trans hfn)).symm
      exact ⟨by kernel_rfl, fun j t ht => by
        rw [Tryz.params6] at ht
        have hm : t ∈ [3, 3, 33, 3] := by simpa using Array.mem_of_getElem? ht
        have hall : ([3, 3, 33, 3].all fun u => !Tryz.prog.wantsStandIn u) = true := by kernel_rfl
        exact (show Tryz.prog.wantsStandIn t = false by simpa using List.all_eq_true.1 hall t hm)⟩)
    (by kernel_rfl)
#print axioms proved
end Go.Proofs.YtejcjmiofidedaaGreatDoor.chainBack
