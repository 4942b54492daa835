/- Joined: ChnLv. -/
import Derived.Test.YtejcjmiofidedaaGreatDoorJChnW
import Derived.Test.YtejcjmiofidedaaGreatDoorChnA
import Derived.Test.YtejcjmiofidedaaGreatDoorJChnI
import Derived.Test.YtejcjmiofidedaaGreatDoorJChnT
import Derived.Test.YtejcjmiofidedaaGreatDoorJChnV
/- The laws' own live. -/
namespace Go.Proofs.YtejcjmiofidedaaGreatDoor.Chn
open Go.RowKit Oct Rec Crc Bat Lay Seg RowF InR

theorem ex_fits (b c : Int) (h1 : I64 b) (h2 : I64 c) : Fits ⟨b, c, b, 0, -1, 0, 0, false, 0, [⟨b, { data := #[] }, { data := #[118] }, false, 0⟩, ⟨c, { data := #[] }, { data := #[119] }, false, 0⟩]⟩ := by
  have h0 : (ByteArray.mk #[]).size ≤ 1099511627776 := by decide
  have h3 : (ByteArray.mk #[118]).size ≤ 1099511627776 := by decide
  have h4 : (ByteArray.mk #[119]).size ≤ 1099511627776 := by decide
  refine ⟨h1, h2, h1, ?_, ?_, ?_, ?_, ?_, ?_⟩
  case refine_6 => intro r hr; simp only [List.mem_cons, List.not_mem_nil, or_false] at hr; rcases hr with rfl | rfl <;> (unfold I64 at *; simp [h0, h3, h4]; omega)
  all_goals (unfold I64; simp)
def tb_live2 : List (Nat × Nat) := [(0, 511), (0, 511), (3, 508), (4, 507), (8, 503), (8, 503), (0, 511), (95, 431), (255, 479)]
def tb_live6 : List (Nat × Nat) := [(0, 511), (0, 511), (3, 508), (4, 507), (8, 503), (8, 503), (0, 511), (95, 431), (255, 479)]
set_option maxRecDepth 100000 in
set_option maxHeartbeats 16000000 in
theorem live9_any (w : World) (ht : Tab w) : Calls Tryz.prog 12 #[] w fun e w' => e = .returned (.bool true) ∧ Below w.heap.size w w' := by
  have HT_0 := Lib.hid ht
  have HW_0 := Lib.hid (Below.refl w.heap.size w)
  have hI10 : I64 10 := by unfold I64; omega
  have hI12 : I64 12 := by unfold I64; omega
  have hI0 : I64 0 := by unfold I64; omega
  have HFC := Lib.hid (ex_fits 10 12 hI10 hI12)
  have HFD := Lib.hid (ex_fits 12 14 hI12 (by unfold I64; omega))
  have HX1 := Lib.hid (show IntKind.i64.wrap ((10 : Int) + 2) = 12 by decide)
  have HX2 := Lib.hid (show IntKind.i64.wrap ((12 : Int) + 2) = 14 by decide)
  obtain ⟨LA, hLA⟩ : ∃ LA : List Sg, LA = [⟨10, []⟩] := ⟨_, rfl⟩
  obtain ⟨LB, hLB⟩ : ∃ LB : List Sg, LB = [⟨10, byB exC⟩] := ⟨_, rfl⟩
  have HLA := Lib.hid (show LA.length = 1 by rw [hLA]; rfl)
  have HLB := Lib.hid (show LB.length = 1 by rw [hLB]; rfl)
  have eA : lgA = ⟨256, 10, LA⟩ := by rw [hLA]; rfl
  have eB : lgB = ⟨256, 10, LB⟩ := by rw [hLB]; rfl
  have eD : lgD = ⟨256, 13, LB⟩ := by rw [hLB]; rfl
  have HNEW := Lib.hid (eA ▸ ex_new : newL 256 10 = (⟨256, 10, LA⟩, 0))
  have HAP := Lib.hid (show apL ⟨256, 10, LA⟩ ⟨10, 12, 10, 0, -1, 0, 0, false, 0, [⟨10, { data := #[] }, { data := #[118] }, false, 0⟩, ⟨12, { data := #[] }, { data := #[119] }, false, 0⟩]⟩ = (⟨256, 10, LB⟩, 0) from eA ▸ eB ▸ ex_ap)
  have HAP2 := Lib.hid (show apL ⟨256, 10, LB⟩ ⟨12, 14, 12, 0, -1, 0, 0, false, 0, [⟨12, { data := #[] }, { data := #[118] }, false, 0⟩, ⟨14, { data := #[] }, { data := #[119] }, false, 0⟩]⟩ = (⟨0, 0, []⟩, 71) from eB ▸ ex_ap2)
  have HTR := Lib.hid (show truncL ⟨256, 10, LB⟩ 12 = (⟨256, 10, LA⟩, 0) from eA ▸ eB ▸ ex_trunc)
  have HRD := Lib.hid (show readL ⟨256, 10, LB⟩ 11 0 = ([exC], 0) from eB ▸ ex_read)
  have HRD2 := Lib.hid (show readL ⟨256, 10, LB⟩ 14 0 = ([], 90) from eB ▸ ex_read2)
  have HTM := Lib.hid (show trimL ⟨256, 10, LB⟩ 13 = (⟨256, 13, LB⟩, 0) from eD ▸ eB ▸ ex_trim)
  have HRC := Lib.hid (show recL ⟨256, 10, LB⟩ = (⟨256, 10, LB⟩, 0) from eB ▸ ex_rec)
  have HRP := Lib.hid (show replL ⟨256, 10, LB⟩ 0 [] = (⟨0, 0, []⟩, 90) from eB ▸ ex_repl)
  have HEA := Lib.hid (show endT ⟨256, 10, LA⟩ = 10 from eA ▸ ex_endTA)
  have HEB := Lib.hid (show endT ⟨256, 10, LB⟩ = 13 from eB ▸ ex_endTB)
  have HAA := Lib.hid (show allT ⟨256, 10, LA⟩ = [] from eA ▸ ex_allA)
  have HAB := Lib.hid (show allT ⟨256, 10, LB⟩ = [exC] from eB ▸ ex_allB)
  have HAD := Lib.hid (show allT ⟨256, 13, LB⟩ = [] from eD ▸ ex_allD)
  have HCB := Lib.hid (show ckL ⟨256, 10, LB⟩ = 0 from eB ▸ ex_ckB)
  have HCN := Lib.hid (show ckL ⟨0, 0, []⟩ = 1 from ex_nil)
  have hmx : Tryz.prog.follows .mixedOrders = true := by kernel_rfl
  clear ht hLA hLB eA eB eD
  go_enter Tryz.func12, Tryz.ntmps12
  go_wp2_with (first
    | (go_at_call 14; (with_reducible refine (New_is 256 10 _ HNEW.out).mono ?_); rintro e w1 ⟨A1, n1, c1, rfl, hc1, hr1, hb⟩; have HW_1 := Lib.hid (bel_trans HW_0.out hb); have HT_1 := Lib.hid (HT_0.out.bel hb); obtain rfl : 1 = n1 := HLA.out.symm.trans hr1.len; have HAR_1 := Lib.hid (hr1); have hba := belA w1 (.cells #[.int .i64 256, .int .i64 10, .slice A1 1 c1] 24); have HW_1a := Lib.hid (bel_trans HW_1.out hba); have HT_1a := Lib.hid (HT_1.out.bel hba); have HAR_1a := Lib.hid (rdgUp HAR_1.out hba); have HA_1a := Lib.hid (At0.new w1 [.int .i64 256, .int .i64 10, .slice A1 1 c1] 24); have hp9 := hb.size; clear hb hba hr1))
  generalize (w1.alloc (.cells #[.int .i64 256, .int .i64 10, .slice A1 1 c1] 24)) = W1 at *
  have HBW_2 := Lib.hid (Below.refl W1.heap.size W1)
  go_cut [3, 4] (fun s3 s4 wx => ∃ P A2 n2 c2, s3 = .pointer (some ⟨P, 0, none⟩) ∧ s4 = .int .i64 0 ∧ n2 ≤ c2 ∧ At0 wx P [.int .i64 256, .int .i64 10, .slice A2 n2 c2] 24 ∧ RdG wx wx.heap.size A2 n2 LB ∧ Below W1.heap.size W1 wx)
  case first =>
    have hbd := (Below.refl W1.heap.size W1).drew
    have HW_R2 := Lib.hid (bel_trans HW_1a.out hbd)
    have HT_R2 := Lib.hid (HT_1a.out.bel hbd)
    have HAR_R2 := Lib.hid (rdgUp HAR_1a.out hbd)
    have HA_R2 := Lib.hid (HA_1a.out.below hbd)
    have HBW_R2 := Lib.hid (bel_trans HBW_2.out hbd)
    have HSR2 := Lib.hid (show (fun W9 : World => W9.cell? ⟨w1.heap.size, 0, none⟩ = some (.int .i64 256) ∧ W9.cell? ⟨w1.heap.size, 1, none⟩ = some (.int .i64 10) ∧ W9.cell? ⟨w1.heap.size, 2, none⟩ = some (.slice A1 1 c1)) W1.drew from ⟨HA_R2.out.cell 0, HA_R2.out.cell 1, HA_R2.out.cell 2⟩)
    clear hbd
    refine region_let (fun W9 : World => W9.cell? ⟨w1.heap.size, 0, none⟩ = some (.int .i64 256) ∧ W9.cell? ⟨w1.heap.size, 1, none⟩ = some (.int .i64 10) ∧ W9.cell? ⟨w1.heap.size, 2, none⟩ = some (.slice A1 1 c1)) 99 9 hmx rfl fun ops Q HOPS HQ => ?_
    have HREG := reg_of HOPS tb_live2 rfl (by kernel_rfl) (by kernel_rfl) (by decide)
    refine xq 0 HOPS HREG HSR2.out ?_; simp only [ls0, ls1]
    refine xc2 1 6 HOPS ?_ ?_
    · go_simp
      with_reducible refine (three_is 10 12 _ HX1.out).mono ?_
      rintro e wR2_1 ⟨g9, rfl, hr9, hb⟩
      have HW_R2_1 := Lib.hid (bel_trans HW_R2.out hb)
      have HT_R2_1 := Lib.hid (HT_R2.out.bel hb)
      have HAR_R2_1 := Lib.hid (rdgUp HAR_R2.out hb)
      have HA_R2_1 := Lib.hid (HA_R2.out.below hb)
      have HBW_R2_1 := Lib.hid (bel_trans HBW_R2.out hb)
      have HRR_R2_1 := Lib.hid (hr9)
      clear hr9
      have HSR2_2 := Lib.hid (show (fun W9 : World => W9.cell? ⟨w1.heap.size, 0, none⟩ = some (.int .i64 256) ∧ W9.cell? ⟨w1.heap.size, 1, none⟩ = some (.int .i64 10) ∧ W9.cell? ⟨w1.heap.size, 2, none⟩ = some (.slice A1 1 c1)) wR2_1 from ⟨HA_R2_1.out.cell 0, HA_R2_1.out.cell 1, HA_R2_1.out.cell 2⟩)
      clear hb
      refine ⟨HSR2_2.out, ?_⟩
      refine xc2 2 6 HOPS ?_ ?_
      · go_simp
        with_reducible refine (Append_is 256 10 A1 1 c1 LA 10 12 10 0 (-1) 0 0 false 0 _ _ 2 2 _ HAR_R2_1.out HT_R2_1.out hc1 (by decide) HFC.out HRR_R2_1.out (Nat.le_refl _) (by decide) HAP.out).mono ?_
        rintro e wR2_3 ⟨A2, n2, c2, rfl, ho, hb⟩
        have HW_R2_3 := Lib.hid (bel_trans HW_R2_1.out hb)
        have HT_R2_3 := Lib.hid (HT_R2_1.out.bel hb)
        have HAR_R2_3 := Lib.hid (rdgUp HAR_R2_1.out hb)
        have HA_R2_3 := Lib.hid (HA_R2_1.out.below hb)
        have HBW_R2_3 := Lib.hid (bel_trans HBW_R2_1.out hb)
        have HRR_R2_3 := Lib.hid (rdrUp HRR_R2_1.out hb)
        have HO_R2_3 := Lib.hid (ho)
        clear ho
        have HSR2_4 := Lib.hid (show (fun W9 : World => W9.cell? ⟨w1.heap.size, 0, none⟩ = some (.int .i64 256) ∧ W9.cell? ⟨w1.heap.size, 1, none⟩ = some (.int .i64 10) ∧ W9.cell? ⟨w1.heap.size, 2, none⟩ = some (.slice A1 1 c1)) wR2_3 from ⟨HA_R2_3.out.cell 0, HA_R2_3.out.cell 1, HA_R2_3.out.cell 2⟩)
        clear hb
        refine ⟨HSR2_4.out, ?_⟩
        refine xq 3 HOPS HREG HSR2_4.out ?_; simp only [ls0, ls1]; refine xq 4 HOPS HREG HSR2_4.out ?_; simp only [ls0, ls1]; refine xq 5 HOPS HREG HSR2_4.out ?_; simp only [ls0, ls1]
        refine xc 6 HOPS ?_
        go_simp
        have hb := belA wR2_3 (.cells #[.int .i64 0, .int .i64 0, .slice none 0 0] 24)
        have HW_R2_y5 := Lib.hid (bel_trans HW_R2_3.out hb)
        have HT_R2_y5 := Lib.hid (HT_R2_3.out.bel hb)
        have HAR_R2_y5 := Lib.hid (rdgUp HAR_R2_3.out hb)
        have HA_R2_y5 := Lib.hid (HA_R2_3.out.below hb)
        have HBW_R2_y5 := Lib.hid (bel_trans HBW_R2_3.out hb)
        have HRR_R2_y5 := Lib.hid (rdrUp HRR_R2_3.out hb)
        have HO_R2_y5 := Lib.hid (HO_R2_3.out.below hb)
        have HP_R2_y5 := Lib.hid (At0.new wR2_3 [.int .i64 0, .int .i64 0, .slice none 0 0] 24)
        have HSR2_6 := Lib.hid (show (fun W9 : World => W9.cell? ⟨w1.heap.size, 0, none⟩ = some (.int .i64 256) ∧ W9.cell? ⟨w1.heap.size, 1, none⟩ = some (.int .i64 10) ∧ W9.cell? ⟨w1.heap.size, 2, none⟩ = some (.slice A1 1 c1)) (wR2_3.alloc (.cells #[.int .i64 0, .int .i64 0, .slice none 0 0] 24)) from ⟨HA_R2_y5.out.cell 0, HA_R2_y5.out.cell 1, HA_R2_y5.out.cell 2⟩)
        clear hb
        refine ⟨by exact HSR2_6.out, ?_⟩
        refine xc 7 HOPS ?_
        go_simp
        have hb := belA wR2_3 (.cells #[.int .i64 256, .int .i64 10, .slice A2 n2 c2] 24)
        have HW_R2_x7 := Lib.hid (bel_trans HW_R2_3.out hb)
        have HT_R2_x7 := Lib.hid (HT_R2_3.out.bel hb)
        have HAR_R2_x7 := Lib.hid (rdgUp HAR_R2_3.out hb)
        have HA_R2_x7 := Lib.hid (HA_R2_3.out.below hb)
        have HBW_R2_x7 := Lib.hid (bel_trans HBW_R2_3.out hb)
        have HRR_R2_x7 := Lib.hid (rdrUp HRR_R2_3.out hb)
        have HO_R2_x7 := Lib.hid (HO_R2_3.out.below hb)
        have HP_R2_x7 := Lib.hid (At0.new wR2_3 [.int .i64 256, .int .i64 10, .slice A2 n2 c2] 24)
        have HSR2_8 := Lib.hid (show (fun W9 : World => W9.cell? ⟨w1.heap.size, 0, none⟩ = some (.int .i64 256) ∧ W9.cell? ⟨w1.heap.size, 1, none⟩ = some (.int .i64 10) ∧ W9.cell? ⟨w1.heap.size, 2, none⟩ = some (.slice A1 1 c1)) (wR2_3.alloc (.cells #[.int .i64 256, .int .i64 10, .slice A2 n2 c2] 24)) from ⟨HA_R2_x7.out.cell 0, HA_R2_x7.out.cell 1, HA_R2_x7.out.cell 2⟩)
        clear hb
        refine ⟨HSR2_8.out, ?_⟩
        refine xq 8 HOPS HREG HSR2_8.out ?_; simp only [ls0, ls1]
        refine stepE HOPS (by kernel_rfl) (HQ.out _ _ ?_)
        clear HQ HREG HOPS
        clear Q ops
        go_wp2
        go_meet
        exact ⟨wR2_3.heap.size, A2, n2, c2, rfl, rfl, (OwnG.cap HO_R2_x7.out), HP_R2_x7.out, HO_R2_x7.out.rd, HBW_R2_x7.out⟩
      · go_simp
        have hb := belA wR2_1 (.cells #[.int .i64 0, .int .i64 0, .slice none 0 0] 24)
        have HW_R2_y9 := Lib.hid (bel_trans HW_R2_1.out hb)
        have HT_R2_y9 := Lib.hid (HT_R2_1.out.bel hb)
        have HAR_R2_y9 := Lib.hid (rdgUp HAR_R2_1.out hb)
        have HA_R2_y9 := Lib.hid (HA_R2_1.out.below hb)
        have HBW_R2_y9 := Lib.hid (bel_trans HBW_R2_1.out hb)
        have HRR_R2_y9 := Lib.hid (rdrUp HRR_R2_1.out hb)
        have HP_R2_y9 := Lib.hid (At0.new wR2_1 [.int .i64 0, .int .i64 0, .slice none 0 0] 24)
        have HSR2_10 := Lib.hid (show (fun W9 : World => W9.cell? ⟨w1.heap.size, 0, none⟩ = some (.int .i64 256) ∧ W9.cell? ⟨w1.heap.size, 1, none⟩ = some (.int .i64 10) ∧ W9.cell? ⟨w1.heap.size, 2, none⟩ = some (.slice A1 1 c1)) (wR2_1.alloc (.cells #[.int .i64 0, .int .i64 0, .slice none 0 0] 24)) from ⟨HA_R2_y9.out.cell 0, HA_R2_y9.out.cell 1, HA_R2_y9.out.cell 2⟩)
        clear hb
        refine ⟨by exact HSR2_10.out, ?_⟩
        refine xc 2 HOPS ?_
        go_simp
        with_reducible refine (Append_is 256 10 A1 1 c1 LA 10 12 10 0 (-1) 0 0 false 0 _ _ 2 2 _ HAR_R2_y9.out HT_R2_y9.out hc1 (by decide) HFC.out HRR_R2_y9.out (Nat.le_refl _) (by decide) HAP.out).mono ?_
        rintro e wR2_11 ⟨A2, n2, c2, rfl, ho, hb⟩
        have HW_R2_11 := Lib.hid (bel_trans HW_R2_y9.out hb)
        have HT_R2_11 := Lib.hid (HT_R2_y9.out.bel hb)
        have HAR_R2_11 := Lib.hid (rdgUp HAR_R2_y9.out hb)
        have HA_R2_11 := Lib.hid (HA_R2_y9.out.below hb)
        have HBW_R2_11 := Lib.hid (bel_trans HBW_R2_y9.out hb)
        have HRR_R2_11 := Lib.hid (rdrUp HRR_R2_y9.out hb)
        have HP_R2_11 := Lib.hid (HP_R2_y9.out.below hb)
        have HO_R2_11 := Lib.hid (ho)
        clear ho
        have HSR2_12 := Lib.hid (show (fun W9 : World => W9.cell? ⟨w1.heap.size, 0, none⟩ = some (.int .i64 256) ∧ W9.cell? ⟨w1.heap.size, 1, none⟩ = some (.int .i64 10) ∧ W9.cell? ⟨w1.heap.size, 2, none⟩ = some (.slice A1 1 c1)) wR2_11 from ⟨HA_R2_11.out.cell 0, HA_R2_11.out.cell 1, HA_R2_11.out.cell 2⟩)
        clear hb
        refine ⟨HSR2_12.out, ?_⟩
        refine xq 3 HOPS HREG HSR2_12.out ?_; simp only [ls0, ls1]; refine xq 4 HOPS HREG HSR2_12.out ?_; simp only [ls0, ls1]; refine xq 5 HOPS HREG HSR2_12.out ?_; simp only [ls0, ls1]
        refine xc 7 HOPS ?_
        have hPW := HBW_R2_1.out.size
        have hp := HP_R2_11.out
        have hpl := hp.lt
        have hp0 := hp.cell 0
        have hp1 := hp.cell 1
        have hp2 := hp.cell 2
        have hpf0 := hp.frozen 0
        have hpf1 := hp.frozen 1
        have hpf2 := hp.frozen 2
        simp only [List.getElem?_cons_zero, List.getElem?_cons_succ] at hp0 hp1 hp2
        go_simp
        have hblHA := HA_1a.out.lt
        obtain ⟨haB13_0, haB13_1, haB13_2⟩ := cel3 HA_R2_11.out
        have HSR2_14 := Lib.hid (show (fun W9 : World => W9.cell? ⟨w1.heap.size, 0, none⟩ = some (.int .i64 256) ∧ W9.cell? ⟨w1.heap.size, 1, none⟩ = some (.int .i64 10) ∧ W9.cell? ⟨w1.heap.size, 2, none⟩ = some (.slice A1 1 c1)) (((wR2_11.setCell ⟨wR2_1.heap.size, 0, none⟩ (.int .i64 256)).setCell ⟨wR2_1.heap.size, 1, none⟩ (.int .i64 10)).setCell ⟨wR2_1.heap.size, 2, none⟩ (.slice A2 n2 c2)) from ⟨(cell_off (by simp only; omega)).trans ((cell_off (by simp only; omega)).trans ((cell_off (by simp only; omega)).trans (HA_R2_11.out.cell 0))), (cell_off (by simp only; omega)).trans ((cell_off (by simp only; omega)).trans ((cell_off (by simp only; omega)).trans (HA_R2_11.out.cell 1))), (cell_off (by simp only; omega)).trans ((cell_off (by simp only; omega)).trans ((cell_off (by simp only; omega)).trans (HA_R2_11.out.cell 2)))⟩)
        refine ⟨by (repeat' apply And.intro) <;> first | assumption | exact (cell_off (by simp only; omega)).trans (by assumption) | exact (cell_off (by simp only; omega)).trans ((cell_off (by simp only; omega)).trans (by assumption)) | exact (cell_off (by simp only; omega)).trans ((cell_off (by simp only; omega)).trans ((cell_off (by simp only; omega)).trans (by assumption))), ?_⟩
        clear haB13_0 haB13_1 haB13_2
        refine xq 8 HOPS HREG HSR2_14.out ?_; simp only [ls0, ls1]
        refine stepE HOPS (by kernel_rfl) (HQ.out _ _ ?_)
        clear HQ HREG HOPS
        clear Q ops
        go_wp2
        go_meet
        exact ⟨wR2_1.heap.size, A2, n2, c2, rfl, rfl, (OwnG.cap HO_R2_11.out), put3 HP_R2_11.out _ _ _, (OwnG.off3 HO_R2_11.out (g := wR2_1.heap.size) HP_R2_y9.out.lt _ _ _).rd, bel3 HBW_R2_11.out (HBW_R2_1.out.size) _ _ _⟩
    · go_simp
      have hb := (show Below W1.heap.size W1 (W1.alloc (.cells #[.int .i64 0, .int .i64 0, .slice none 0 0] 24)).drew from (belA _ _).drew)
      have HW_R2_z15 := Lib.hid (bel_trans HW_1a.out hb)
      have HT_R2_z15 := Lib.hid (HT_1a.out.bel hb)
      have HAR_R2_z15 := Lib.hid (rdgUp HAR_1a.out hb)
      have HA_R2_z15 := Lib.hid (HA_1a.out.below hb)
      have HBW_R2_z15 := Lib.hid (bel_trans HBW_2.out hb)
      have HP_R2_z15 := Lib.hid (show At0 (W1.alloc (.cells #[.int .i64 0, .int .i64 0, .slice none 0 0] 24)).drew W1.heap.size [.int .i64 0, .int .i64 0, .slice none 0 0] 24 from At0.new W1 _ _)
      have HSR2_16 := Lib.hid (show (fun W9 : World => W9.cell? ⟨w1.heap.size, 0, none⟩ = some (.int .i64 256) ∧ W9.cell? ⟨w1.heap.size, 1, none⟩ = some (.int .i64 10) ∧ W9.cell? ⟨w1.heap.size, 2, none⟩ = some (.slice A1 1 c1)) (W1.alloc (.cells #[.int .i64 0, .int .i64 0, .slice none 0 0] 24)).drew from ⟨HA_R2_z15.out.cell 0, HA_R2_z15.out.cell 1, HA_R2_z15.out.cell 2⟩)
      clear hb
      refine ⟨by exact HSR2_16.out, ?_⟩
      refine xc 1 HOPS ?_
      go_simp
      with_reducible refine (three_is 10 12 _ HX1.out).mono ?_
      rintro e wR2_17 ⟨g9, rfl, hr9, hb⟩
      have HW_R2_17 := Lib.hid (bel_trans HW_R2_z15.out hb)
      have HT_R2_17 := Lib.hid (HT_R2_z15.out.bel hb)
      have HAR_R2_17 := Lib.hid (rdgUp HAR_R2_z15.out hb)
      have HA_R2_17 := Lib.hid (HA_R2_z15.out.below hb)
      have HBW_R2_17 := Lib.hid (bel_trans HBW_R2_z15.out hb)
      have HP_R2_17 := Lib.hid (HP_R2_z15.out.below hb)
      have HRR_R2_17 := Lib.hid (hr9)
      clear hr9
      have HSR2_18 := Lib.hid (show (fun W9 : World => W9.cell? ⟨w1.heap.size, 0, none⟩ = some (.int .i64 256) ∧ W9.cell? ⟨w1.heap.size, 1, none⟩ = some (.int .i64 10) ∧ W9.cell? ⟨w1.heap.size, 2, none⟩ = some (.slice A1 1 c1)) wR2_17 from ⟨HA_R2_17.out.cell 0, HA_R2_17.out.cell 1, HA_R2_17.out.cell 2⟩)
      clear hb
      refine ⟨HSR2_18.out, ?_⟩
      refine xc 2 HOPS ?_
      go_simp
      with_reducible refine (Append_is 256 10 A1 1 c1 LA 10 12 10 0 (-1) 0 0 false 0 _ _ 2 2 _ HAR_R2_17.out HT_R2_17.out hc1 (by decide) HFC.out HRR_R2_17.out (Nat.le_refl _) (by decide) HAP.out).mono ?_
      rintro e wR2_19 ⟨A2, n2, c2, rfl, ho, hb⟩
      have HW_R2_19 := Lib.hid (bel_trans HW_R2_17.out hb)
      have HT_R2_19 := Lib.hid (HT_R2_17.out.bel hb)
      have HAR_R2_19 := Lib.hid (rdgUp HAR_R2_17.out hb)
      have HA_R2_19 := Lib.hid (HA_R2_17.out.below hb)
      have HBW_R2_19 := Lib.hid (bel_trans HBW_R2_17.out hb)
      have HP_R2_19 := Lib.hid (HP_R2_17.out.below hb)
      have HRR_R2_19 := Lib.hid (rdrUp HRR_R2_17.out hb)
      have HO_R2_19 := Lib.hid (ho)
      clear ho
      have HSR2_20 := Lib.hid (show (fun W9 : World => W9.cell? ⟨w1.heap.size, 0, none⟩ = some (.int .i64 256) ∧ W9.cell? ⟨w1.heap.size, 1, none⟩ = some (.int .i64 10) ∧ W9.cell? ⟨w1.heap.size, 2, none⟩ = some (.slice A1 1 c1)) wR2_19 from ⟨HA_R2_19.out.cell 0, HA_R2_19.out.cell 1, HA_R2_19.out.cell 2⟩)
      clear hb
      refine ⟨HSR2_20.out, ?_⟩
      refine xq 3 HOPS HREG HSR2_20.out ?_; simp only [ls0, ls1]; refine xq 4 HOPS HREG HSR2_20.out ?_; simp only [ls0, ls1]; refine xq 5 HOPS HREG HSR2_20.out ?_; simp only [ls0, ls1]
      refine xc 7 HOPS ?_
      have hp := HP_R2_19.out
      have hpl := hp.lt
      have hp0 := hp.cell 0
      have hp1 := hp.cell 1
      have hp2 := hp.cell 2
      have hpf0 := hp.frozen 0
      have hpf1 := hp.frozen 1
      have hpf2 := hp.frozen 2
      simp only [List.getElem?_cons_zero, List.getElem?_cons_succ] at hp0 hp1 hp2
      go_simp
      have hblHA := HA_1a.out.lt
      obtain ⟨haB21_0, haB21_1, haB21_2⟩ := cel3 HA_R2_19.out
      have HSR2_22 := Lib.hid (show (fun W9 : World => W9.cell? ⟨w1.heap.size, 0, none⟩ = some (.int .i64 256) ∧ W9.cell? ⟨w1.heap.size, 1, none⟩ = some (.int .i64 10) ∧ W9.cell? ⟨w1.heap.size, 2, none⟩ = some (.slice A1 1 c1)) (((wR2_19.setCell ⟨W1.heap.size, 0, none⟩ (.int .i64 256)).setCell ⟨W1.heap.size, 1, none⟩ (.int .i64 10)).setCell ⟨W1.heap.size, 2, none⟩ (.slice A2 n2 c2)) from ⟨(cell_off (by simp only; omega)).trans ((cell_off (by simp only; omega)).trans ((cell_off (by simp only; omega)).trans (HA_R2_19.out.cell 0))), (cell_off (by simp only; omega)).trans ((cell_off (by simp only; omega)).trans ((cell_off (by simp only; omega)).trans (HA_R2_19.out.cell 1))), (cell_off (by simp only; omega)).trans ((cell_off (by simp only; omega)).trans ((cell_off (by simp only; omega)).trans (HA_R2_19.out.cell 2)))⟩)
      refine ⟨by (repeat' apply And.intro) <;> first | assumption | exact (cell_off (by simp only; omega)).trans (by assumption) | exact (cell_off (by simp only; omega)).trans ((cell_off (by simp only; omega)).trans (by assumption)) | exact (cell_off (by simp only; omega)).trans ((cell_off (by simp only; omega)).trans ((cell_off (by simp only; omega)).trans (by assumption))), ?_⟩
      clear haB21_0 haB21_1 haB21_2
      refine xq 8 HOPS HREG HSR2_22.out ?_; simp only [ls0, ls1]
      refine stepE HOPS (by kernel_rfl) (HQ.out _ _ ?_)
      clear HQ HREG HOPS
      clear Q ops
      go_wp2
      go_meet
      exact ⟨W1.heap.size, A2, n2, c2, rfl, rfl, (OwnG.cap HO_R2_19.out), put3 HP_R2_19.out _ _ _, (OwnG.off3 HO_R2_19.out (g := W1.heap.size) HP_R2_17.out.lt _ _ _).rd, bel3 HBW_R2_19.out (Nat.le_refl _) _ _ _⟩
  case rest =>
    obtain ⟨P2, A2, n2, c2, rfl, rfl, hc2, hbx, hrg, hb⟩ := hcut
    rename World => W2
    obtain rfl : 1 = n2 := HLB.out.symm.trans hrg.len
    have HW_2r := Lib.hid (bel_trans HW_1a.out hb)
    have HT_2r := Lib.hid (HT_1a.out.bel hb)
    have HAR_2r := Lib.hid (rdgUp HAR_1a.out hb)
    have HA_2r := Lib.hid (HA_1a.out.below hb)
    have HB_2r := Lib.hid (hbx)
    have HBR_2r := Lib.hid (hrg)
    obtain ⟨hb2r_0, hb2r_1, hb2r_2⟩ := cel3 HB_2r.out
    clear hb hbx hrg
    go_wp2_with (first
      | (go_at_call 27; (with_reducible refine (Truncate_is 256 10 A2 1 c2 LB 12 _ HBR_2r.out HT_2r.out hc2 (by decide) hI12 HTR.out).mono ?_); rintro e w3 ⟨A3, n3, c3, rfl, ho, hb⟩; have HW_3 := Lib.hid (bel_trans HW_2r.out hb); have HT_3 := Lib.hid (HT_2r.out.bel hb); have HAR_3 := Lib.hid (rdgUp HAR_2r.out hb); have HA_3 := Lib.hid (HA_2r.out.below hb); have HB_3 := Lib.hid (HB_2r.out.below hb); have HBR_3 := Lib.hid (rdgUp HBR_2r.out hb); obtain rfl : 1 = n3 := HLA.out.symm.trans ho.len; have hc3 := ho.cap; have HCR_3 := Lib.hid (ho.rd); have hba := belA w3 (.cells #[.int .i64 256, .int .i64 10, .slice A3 1 c3] 24); have HW_3a := Lib.hid (bel_trans HW_3.out hba); have HT_3a := Lib.hid (HT_3.out.bel hba); have HAR_3a := Lib.hid (rdgUp HAR_3.out hba); have HA_3a := Lib.hid (HA_3.out.below hba); have HB_3a := Lib.hid (HB_3.out.below hba); have HBR_3a := Lib.hid (rdgUp HBR_3.out hba); have HCR_3a := Lib.hid (rdgUp HCR_3.out hba); have HC_3a := Lib.hid (At0.new w3 [.int .i64 256, .int .i64 10, .slice A3 1 c3] 24); obtain ⟨hb3a_0, hb3a_1, hb3a_2⟩ := cel3 HB_3a.out; clear hb hba ho)
      | (go_at_call 33; (with_reducible refine (Read_is 256 10 11 0 A2 1 c2 LB _ HBR_3a.out HT_3a.out hc2 (by decide) hI0 HRD.out).mono ?_); rintro e w4 ⟨A4, n4, c4, rfl, ho, hb⟩; have HW_4 := Lib.hid (bel_trans HW_3a.out hb); have HT_4 := Lib.hid (HT_3a.out.bel hb); have HAR_4 := Lib.hid (rdgUp HAR_3a.out hb); have HA_4 := Lib.hid (HA_3a.out.below hb); have HB_4 := Lib.hid (HB_3a.out.below hb); have HBR_4 := Lib.hid (rdgUp HBR_3a.out hb); have HCR_4 := Lib.hid (rdgUp HCR_3a.out hb); have HC_4 := Lib.hid (HC_3a.out.below hb); obtain rfl : 1 = n4 := ho.len; have hc4 := ho.cap; have HLR_4 := Lib.hid (ho.rd); obtain ⟨hb4_0, hb4_1, hb4_2⟩ := cel3 HB_4.out; clear hb ho)
      | (go_at_call 33; (with_reducible refine (Read_is 256 10 14 0 A2 1 c2 LB _ HBR_4.out HT_4.out hc2 (by decide) hI0 HRD2.out).mono ?_); rintro e w5 ⟨A5, n5, c5, rfl, ho, hb⟩; have HW_5 := Lib.hid (bel_trans HW_4.out hb); have HT_5 := Lib.hid (HT_4.out.bel hb); have HAR_5 := Lib.hid (rdgUp HAR_4.out hb); have HA_5 := Lib.hid (HA_4.out.below hb); have HB_5 := Lib.hid (HB_4.out.below hb); have HBR_5 := Lib.hid (rdgUp HBR_4.out hb); have HCR_5 := Lib.hid (rdgUp HCR_4.out hb); have HC_5 := Lib.hid (HC_4.out.below hb); have HLR_5 := Lib.hid (rdtUp HLR_4.out hb); obtain ⟨hb5_0, hb5_1, hb5_2⟩ := cel3 HB_5.out; clear hb ho))
    have HBW_6 := Lib.hid (Below.refl w5.heap.size w5)
    go_cut [11, 12] (fun s11 s12 wx => ∃ P A6 n6 c6, s11 = .pointer (some ⟨P, 0, none⟩) ∧ s12 = .int .i64 71 ∧ n6 ≤ c6 ∧ At0 wx P [.int .i64 0, .int .i64 0, .slice A6 n6 c6] 24 ∧ RdG wx wx.heap.size A6 n6 [] ∧ Below w5.heap.size w5 wx)
    case first =>
      have hbd := (Below.refl w5.heap.size w5).drew
      have HW_R6 := Lib.hid (bel_trans HW_5.out hbd)
      have HT_R6 := Lib.hid (HT_5.out.bel hbd)
      have HAR_R6 := Lib.hid (rdgUp HAR_5.out hbd)
      have HA_R6 := Lib.hid (HA_5.out.below hbd)
      have HB_R6 := Lib.hid (HB_5.out.below hbd)
      have HBR_R6 := Lib.hid (rdgUp HBR_5.out hbd)
      have HCR_R6 := Lib.hid (rdgUp HCR_5.out hbd)
      have HC_R6 := Lib.hid (HC_5.out.below hbd)
      have HLR_R6 := Lib.hid (rdtUp HLR_5.out hbd)
      have HBW_R6 := Lib.hid (bel_trans HBW_6.out hbd)
      have HSR6 := Lib.hid (show (fun W9 : World => W9.cell? ⟨P2, 0, none⟩ = some (.int .i64 256) ∧ W9.cell? ⟨P2, 1, none⟩ = some (.int .i64 10) ∧ W9.cell? ⟨P2, 2, none⟩ = some (.slice A2 1 c2)) w5.drew from ⟨HB_R6.out.cell 0, HB_R6.out.cell 1, HB_R6.out.cell 2⟩)
      clear hbd
      refine region_let (fun W9 : World => W9.cell? ⟨P2, 0, none⟩ = some (.int .i64 256) ∧ W9.cell? ⟨P2, 1, none⟩ = some (.int .i64 10) ∧ W9.cell? ⟨P2, 2, none⟩ = some (.slice A2 1 c2)) 99 9 hmx rfl fun ops Q HOPS HQ => ?_
      have HREG := reg_of HOPS tb_live6 rfl (by kernel_rfl) (by kernel_rfl) (by decide)
      refine xq 0 HOPS HREG HSR6.out ?_; simp only [ls0, ls1]
      refine xc2 1 6 HOPS ?_ ?_
      · go_simp
        with_reducible refine (three_is 12 14 _ HX2.out).mono ?_
        rintro e wR6_1 ⟨g9, rfl, hr9, hb⟩
        have HW_R6_1 := Lib.hid (bel_trans HW_R6.out hb)
        have HT_R6_1 := Lib.hid (HT_R6.out.bel hb)
        have HAR_R6_1 := Lib.hid (rdgUp HAR_R6.out hb)
        have HA_R6_1 := Lib.hid (HA_R6.out.below hb)
        have HB_R6_1 := Lib.hid (HB_R6.out.below hb)
        have HBR_R6_1 := Lib.hid (rdgUp HBR_R6.out hb)
        have HCR_R6_1 := Lib.hid (rdgUp HCR_R6.out hb)
        have HC_R6_1 := Lib.hid (HC_R6.out.below hb)
        have HLR_R6_1 := Lib.hid (rdtUp HLR_R6.out hb)
        have HBW_R6_1 := Lib.hid (bel_trans HBW_R6.out hb)
        have HRR_R6_1 := Lib.hid (hr9)
        clear hr9
        have HSR6_2 := Lib.hid (show (fun W9 : World => W9.cell? ⟨P2, 0, none⟩ = some (.int .i64 256) ∧ W9.cell? ⟨P2, 1, none⟩ = some (.int .i64 10) ∧ W9.cell? ⟨P2, 2, none⟩ = some (.slice A2 1 c2)) wR6_1 from ⟨HB_R6_1.out.cell 0, HB_R6_1.out.cell 1, HB_R6_1.out.cell 2⟩)
        clear hb
        refine ⟨HSR6_2.out, ?_⟩
        refine xc2 2 6 HOPS ?_ ?_
        · go_simp
          with_reducible refine (Append_is 256 10 A2 1 c2 LB 12 14 12 0 (-1) 0 0 false 0 _ _ 2 2 _ HBR_R6_1.out HT_R6_1.out hc2 (by decide) HFD.out HRR_R6_1.out (Nat.le_refl _) (by decide) HAP2.out).mono ?_
          rintro e wR6_3 ⟨A6, n6, c6, rfl, ho, hb⟩
          have HW_R6_3 := Lib.hid (bel_trans HW_R6_1.out hb)
          have HT_R6_3 := Lib.hid (HT_R6_1.out.bel hb)
          have HAR_R6_3 := Lib.hid (rdgUp HAR_R6_1.out hb)
          have HA_R6_3 := Lib.hid (HA_R6_1.out.below hb)
          have HB_R6_3 := Lib.hid (HB_R6_1.out.below hb)
          have HBR_R6_3 := Lib.hid (rdgUp HBR_R6_1.out hb)
          have HCR_R6_3 := Lib.hid (rdgUp HCR_R6_1.out hb)
          have HC_R6_3 := Lib.hid (HC_R6_1.out.below hb)
          have HLR_R6_3 := Lib.hid (rdtUp HLR_R6_1.out hb)
          have HBW_R6_3 := Lib.hid (bel_trans HBW_R6_1.out hb)
          have HRR_R6_3 := Lib.hid (rdrUp HRR_R6_1.out hb)
          have HO_R6_3 := Lib.hid (ho)
          clear ho
          have HSR6_4 := Lib.hid (show (fun W9 : World => W9.cell? ⟨P2, 0, none⟩ = some (.int .i64 256) ∧ W9.cell? ⟨P2, 1, none⟩ = some (.int .i64 10) ∧ W9.cell? ⟨P2, 2, none⟩ = some (.slice A2 1 c2)) wR6_3 from ⟨HB_R6_3.out.cell 0, HB_R6_3.out.cell 1, HB_R6_3.out.cell 2⟩)
          clear hb
          refine ⟨HSR6_4.out, ?_⟩
          refine xq 3 HOPS HREG HSR6_4.out ?_; simp only [ls0, ls1]; refine xq 4 HOPS HREG HSR6_4.out ?_; simp only [ls0, ls1]; refine xq 5 HOPS HREG HSR6_4.out ?_; simp only [ls0, ls1]
          refine xc 6 HOPS ?_
          go_simp
          have hb := belA wR6_3 (.cells #[.int .i64 0, .int .i64 0, .slice none 0 0] 24)
          have HW_R6_y5 := Lib.hid (bel_trans HW_R6_3.out hb)
          have HT_R6_y5 := Lib.hid (HT_R6_3.out.bel hb)
          have HAR_R6_y5 := Lib.hid (rdgUp HAR_R6_3.out hb)
          have HA_R6_y5 := Lib.hid (HA_R6_3.out.below hb)
          have HB_R6_y5 := Lib.hid (HB_R6_3.out.below hb)
          have HBR_R6_y5 := Lib.hid (rdgUp HBR_R6_3.out hb)
          have HCR_R6_y5 := Lib.hid (rdgUp HCR_R6_3.out hb)
          have HC_R6_y5 := Lib.hid (HC_R6_3.out.below hb)
          have HLR_R6_y5 := Lib.hid (rdtUp HLR_R6_3.out hb)
          have HBW_R6_y5 := Lib.hid (bel_trans HBW_R6_3.out hb)
          have HRR_R6_y5 := Lib.hid (rdrUp HRR_R6_3.out hb)
          have HO_R6_y5 := Lib.hid (HO_R6_3.out.below hb)
          have HP_R6_y5 := Lib.hid (At0.new wR6_3 [.int .i64 0, .int .i64 0, .slice none 0 0] 24)
          have HSR6_6 := Lib.hid (show (fun W9 : World => W9.cell? ⟨P2, 0, none⟩ = some (.int .i64 256) ∧ W9.cell? ⟨P2, 1, none⟩ = some (.int .i64 10) ∧ W9.cell? ⟨P2, 2, none⟩ = some (.slice A2 1 c2)) (wR6_3.alloc (.cells #[.int .i64 0, .int .i64 0, .slice none 0 0] 24)) from ⟨HB_R6_y5.out.cell 0, HB_R6_y5.out.cell 1, HB_R6_y5.out.cell 2⟩)
          clear hb
          refine ⟨by exact HSR6_6.out, ?_⟩
          refine xc 7 HOPS ?_
          go_simp
          have hb := belA wR6_3 (.cells #[.int .i64 0, .int .i64 0, .slice A6 n6 c6] 24)
          have HW_R6_x7 := Lib.hid (bel_trans HW_R6_3.out hb)
          have HT_R6_x7 := Lib.hid (HT_R6_3.out.bel hb)
          have HAR_R6_x7 := Lib.hid (rdgUp HAR_R6_3.out hb)
          have HA_R6_x7 := Lib.hid (HA_R6_3.out.below hb)
          have HB_R6_x7 := Lib.hid (HB_R6_3.out.below hb)
          have HBR_R6_x7 := Lib.hid (rdgUp HBR_R6_3.out hb)
          have HCR_R6_x7 := Lib.hid (rdgUp HCR_R6_3.out hb)
          have HC_R6_x7 := Lib.hid (HC_R6_3.out.below hb)
          have HLR_R6_x7 := Lib.hid (rdtUp HLR_R6_3.out hb)
          have HBW_R6_x7 := Lib.hid (bel_trans HBW_R6_3.out hb)
          have HRR_R6_x7 := Lib.hid (rdrUp HRR_R6_3.out hb)
          have HO_R6_x7 := Lib.hid (HO_R6_3.out.below hb)
          have HP_R6_x7 := Lib.hid (At0.new wR6_3 [.int .i64 0, .int .i64 0, .slice A6 n6 c6] 24)
          have HSR6_8 := Lib.hid (show (fun W9 : World => W9.cell? ⟨P2, 0, none⟩ = some (.int .i64 256) ∧ W9.cell? ⟨P2, 1, none⟩ = some (.int .i64 10) ∧ W9.cell? ⟨P2, 2, none⟩ = some (.slice A2 1 c2)) (wR6_3.alloc (.cells #[.int .i64 0, .int .i64 0, .slice A6 n6 c6] 24)) from ⟨HB_R6_x7.out.cell 0, HB_R6_x7.out.cell 1, HB_R6_x7.out.cell 2⟩)
          clear hb
          refine ⟨HSR6_8.out, ?_⟩
          refine xq 8 HOPS HREG HSR6_8.out ?_; simp only [ls0, ls1]
          refine stepE HOPS (by kernel_rfl) (HQ.out _ _ ?_)
          clear HQ HREG HOPS
          clear Q ops
          go_wp2
          go_meet
          exact ⟨wR6_3.heap.size, A6, n6, c6, rfl, rfl, (OwnG.cap HO_R6_x7.out), HP_R6_x7.out, HO_R6_x7.out.rd, HBW_R6_x7.out⟩
        · go_simp
          have hb := belA wR6_1 (.cells #[.int .i64 0, .int .i64 0, .slice none 0 0] 24)
          have HW_R6_y9 := Lib.hid (bel_trans HW_R6_1.out hb)
          have HT_R6_y9 := Lib.hid (HT_R6_1.out.bel hb)
          have HAR_R6_y9 := Lib.hid (rdgUp HAR_R6_1.out hb)
          have HA_R6_y9 := Lib.hid (HA_R6_1.out.below hb)
          have HB_R6_y9 := Lib.hid (HB_R6_1.out.below hb)
          have HBR_R6_y9 := Lib.hid (rdgUp HBR_R6_1.out hb)
          have HCR_R6_y9 := Lib.hid (rdgUp HCR_R6_1.out hb)
          have HC_R6_y9 := Lib.hid (HC_R6_1.out.below hb)
          have HLR_R6_y9 := Lib.hid (rdtUp HLR_R6_1.out hb)
          have HBW_R6_y9 := Lib.hid (bel_trans HBW_R6_1.out hb)
          have HRR_R6_y9 := Lib.hid (rdrUp HRR_R6_1.out hb)
          have HP_R6_y9 := Lib.hid (At0.new wR6_1 [.int .i64 0, .int .i64 0, .slice none 0 0] 24)
          have HSR6_10 := Lib.hid (show (fun W9 : World => W9.cell? ⟨P2, 0, none⟩ = some (.int .i64 256) ∧ W9.cell? ⟨P2, 1, none⟩ = some (.int .i64 10) ∧ W9.cell? ⟨P2, 2, none⟩ = some (.slice A2 1 c2)) (wR6_1.alloc (.cells #[.int .i64 0, .int .i64 0, .slice none 0 0] 24)) from ⟨HB_R6_y9.out.cell 0, HB_R6_y9.out.cell 1, HB_R6_y9.out.cell 2⟩)
          clear hb
          refine ⟨by exact HSR6_10.out, ?_⟩
          refine xc 2 HOPS ?_
          go_simp
          with_reducible refine (Append_is 256 10 A2 1 c2 LB 12 14 12 0 (-1) 0 0 false 0 _ _ 2 2 _ HBR_R6_y9.out HT_R6_y9.out hc2 (by decide) HFD.out HRR_R6_y9.out (Nat.le_refl _) (by decide) HAP2.out).mono ?_
          rintro e wR6_11 ⟨A6, n6, c6, rfl, ho, hb⟩
          have HW_R6_11 := Lib.hid (bel_trans HW_R6_y9.out hb)
          have HT_R6_11 := Lib.hid (HT_R6_y9.out.bel hb)
          have HAR_R6_11 := Lib.hid (rdgUp HAR_R6_y9.out hb)
          have HA_R6_11 := Lib.hid (HA_R6_y9.out.below hb)
          have HB_R6_11 := Lib.hid (HB_R6_y9.out.below hb)
          have HBR_R6_11 := Lib.hid (rdgUp HBR_R6_y9.out hb)
          have HCR_R6_11 := Lib.hid (rdgUp HCR_R6_y9.out hb)
          have HC_R6_11 := Lib.hid (HC_R6_y9.out.below hb)
          have HLR_R6_11 := Lib.hid (rdtUp HLR_R6_y9.out hb)
          have HBW_R6_11 := Lib.hid (bel_trans HBW_R6_y9.out hb)
          have HRR_R6_11 := Lib.hid (rdrUp HRR_R6_y9.out hb)
          have HP_R6_11 := Lib.hid (HP_R6_y9.out.below hb)
          have HO_R6_11 := Lib.hid (ho)
          clear ho
          have HSR6_12 := Lib.hid (show (fun W9 : World => W9.cell? ⟨P2, 0, none⟩ = some (.int .i64 256) ∧ W9.cell? ⟨P2, 1, none⟩ = some (.int .i64 10) ∧ W9.cell? ⟨P2, 2, none⟩ = some (.slice A2 1 c2)) wR6_11 from ⟨HB_R6_11.out.cell 0, HB_R6_11.out.cell 1, HB_R6_11.out.cell 2⟩)
          clear hb
          refine ⟨HSR6_12.out, ?_⟩
          refine xq 3 HOPS HREG HSR6_12.out ?_; simp only [ls0, ls1]; refine xq 4 HOPS HREG HSR6_12.out ?_; simp only [ls0, ls1]; refine xq 5 HOPS HREG HSR6_12.out ?_; simp only [ls0, ls1]
          refine xc 7 HOPS ?_
          have hPW := HBW_R6_1.out.size
          have hp := HP_R6_11.out
          have hpl := hp.lt
          have hp0 := hp.cell 0
          have hp1 := hp.cell 1
          have hp2 := hp.cell 2
          have hpf0 := hp.frozen 0
          have hpf1 := hp.frozen 1
          have hpf2 := hp.frozen 2
          simp only [List.getElem?_cons_zero, List.getElem?_cons_succ] at hp0 hp1 hp2
          go_simp
          have hblHB := HB_5.out.lt
          obtain ⟨hbB13_0, hbB13_1, hbB13_2⟩ := cel3 HB_R6_11.out
          have HSR6_14 := Lib.hid (show (fun W9 : World => W9.cell? ⟨P2, 0, none⟩ = some (.int .i64 256) ∧ W9.cell? ⟨P2, 1, none⟩ = some (.int .i64 10) ∧ W9.cell? ⟨P2, 2, none⟩ = some (.slice A2 1 c2)) (((wR6_11.setCell ⟨wR6_1.heap.size, 0, none⟩ (.int .i64 0)).setCell ⟨wR6_1.heap.size, 1, none⟩ (.int .i64 0)).setCell ⟨wR6_1.heap.size, 2, none⟩ (.slice A6 n6 c6)) from ⟨(cell_off (by simp only; omega)).trans ((cell_off (by simp only; omega)).trans ((cell_off (by simp only; omega)).trans (HB_R6_11.out.cell 0))), (cell_off (by simp only; omega)).trans ((cell_off (by simp only; omega)).trans ((cell_off (by simp only; omega)).trans (HB_R6_11.out.cell 1))), (cell_off (by simp only; omega)).trans ((cell_off (by simp only; omega)).trans ((cell_off (by simp only; omega)).trans (HB_R6_11.out.cell 2)))⟩)
          refine ⟨by (repeat' apply And.intro) <;> first | assumption | exact (cell_off (by simp only; omega)).trans (by assumption) | exact (cell_off (by simp only; omega)).trans ((cell_off (by simp only; omega)).trans (by assumption)) | exact (cell_off (by simp only; omega)).trans ((cell_off (by simp only; omega)).trans ((cell_off (by simp only; omega)).trans (by assumption))), ?_⟩
          clear hbB13_0 hbB13_1 hbB13_2
          refine xq 8 HOPS HREG HSR6_14.out ?_; simp only [ls0, ls1]
          refine stepE HOPS (by kernel_rfl) (HQ.out _ _ ?_)
          clear HQ HREG HOPS
          clear Q ops
          go_wp2
          go_meet
          exact ⟨wR6_1.heap.size, A6, n6, c6, rfl, rfl, (OwnG.cap HO_R6_11.out), put3 HP_R6_11.out _ _ _, (OwnG.off3 HO_R6_11.out (g := wR6_1.heap.size) HP_R6_y9.out.lt _ _ _).rd, bel3 HBW_R6_11.out (HBW_R6_1.out.size) _ _ _⟩
      · go_simp
        have hb := (show Below w5.heap.size w5 (w5.alloc (.cells #[.int .i64 0, .int .i64 0, .slice none 0 0] 24)).drew from (belA _ _).drew)
        have HW_R6_z15 := Lib.hid (bel_trans HW_5.out hb)
        have HT_R6_z15 := Lib.hid (HT_5.out.bel hb)
        have HAR_R6_z15 := Lib.hid (rdgUp HAR_5.out hb)
        have HA_R6_z15 := Lib.hid (HA_5.out.below hb)
        have HB_R6_z15 := Lib.hid (HB_5.out.below hb)
        have HBR_R6_z15 := Lib.hid (rdgUp HBR_5.out hb)
        have HCR_R6_z15 := Lib.hid (rdgUp HCR_5.out hb)
        have HC_R6_z15 := Lib.hid (HC_5.out.below hb)
        have HLR_R6_z15 := Lib.hid (rdtUp HLR_5.out hb)
        have HBW_R6_z15 := Lib.hid (bel_trans HBW_6.out hb)
        have HP_R6_z15 := Lib.hid (show At0 (w5.alloc (.cells #[.int .i64 0, .int .i64 0, .slice none 0 0] 24)).drew w5.heap.size [.int .i64 0, .int .i64 0, .slice none 0 0] 24 from At0.new w5 _ _)
        have HSR6_16 := Lib.hid (show (fun W9 : World => W9.cell? ⟨P2, 0, none⟩ = some (.int .i64 256) ∧ W9.cell? ⟨P2, 1, none⟩ = some (.int .i64 10) ∧ W9.cell? ⟨P2, 2, none⟩ = some (.slice A2 1 c2)) (w5.alloc (.cells #[.int .i64 0, .int .i64 0, .slice none 0 0] 24)).drew from ⟨HB_R6_z15.out.cell 0, HB_R6_z15.out.cell 1, HB_R6_z15.out.cell 2⟩)
        clear hb
        refine ⟨by exact HSR6_16.out, ?_⟩
        refine xc 1 HOPS ?_
        go_simp
        with_reducible refine (three_is 12 14 _ HX2.out).mono ?_
        rintro e wR6_17 ⟨g9, rfl, hr9, hb⟩
        have HW_R6_17 := Lib.hid (bel_trans HW_R6_z15.out hb)
        have HT_R6_17 := Lib.hid (HT_R6_z15.out.bel hb)
        have HAR_R6_17 := Lib.hid (rdgUp HAR_R6_z15.out hb)
        have HA_R6_17 := Lib.hid (HA_R6_z15.out.below hb)
        have HB_R6_17 := Lib.hid (HB_R6_z15.out.below hb)
        have HBR_R6_17 := Lib.hid (rdgUp HBR_R6_z15.out hb)
        have HCR_R6_17 := Lib.hid (rdgUp HCR_R6_z15.out hb)
        have HC_R6_17 := Lib.hid (HC_R6_z15.out.below hb)
        have HLR_R6_17 := Lib.hid (rdtUp HLR_R6_z15.out hb)
        have HBW_R6_17 := Lib.hid (bel_trans HBW_R6_z15.out hb)
        have HP_R6_17 := Lib.hid (HP_R6_z15.out.below hb)
        have HRR_R6_17 := Lib.hid (hr9)
        clear hr9
        have HSR6_18 := Lib.hid (show (fun W9 : World => W9.cell? ⟨P2, 0, none⟩ = some (.int .i64 256) ∧ W9.cell? ⟨P2, 1, none⟩ = some (.int .i64 10) ∧ W9.cell? ⟨P2, 2, none⟩ = some (.slice A2 1 c2)) wR6_17 from ⟨HB_R6_17.out.cell 0, HB_R6_17.out.cell 1, HB_R6_17.out.cell 2⟩)
        clear hb
        refine ⟨HSR6_18.out, ?_⟩
        refine xc 2 HOPS ?_
        go_simp
        with_reducible refine (Append_is 256 10 A2 1 c2 LB 12 14 12 0 (-1) 0 0 false 0 _ _ 2 2 _ HBR_R6_17.out HT_R6_17.out hc2 (by decide) HFD.out HRR_R6_17.out (Nat.le_refl _) (by decide) HAP2.out).mono ?_
        rintro e wR6_19 ⟨A6, n6, c6, rfl, ho, hb⟩
        have HW_R6_19 := Lib.hid (bel_trans HW_R6_17.out hb)
        have HT_R6_19 := Lib.hid (HT_R6_17.out.bel hb)
        have HAR_R6_19 := Lib.hid (rdgUp HAR_R6_17.out hb)
        have HA_R6_19 := Lib.hid (HA_R6_17.out.below hb)
        have HB_R6_19 := Lib.hid (HB_R6_17.out.below hb)
        have HBR_R6_19 := Lib.hid (rdgUp HBR_R6_17.out hb)
        have HCR_R6_19 := Lib.hid (rdgUp HCR_R6_17.out hb)
        have HC_R6_19 := Lib.hid (HC_R6_17.out.below hb)
        have HLR_R6_19 := Lib.hid (rdtUp HLR_R6_17.out hb)
        have HBW_R6_19 := Lib.hid (bel_trans HBW_R6_17.out hb)
        have HP_R6_19 := Lib.hid (HP_R6_17.out.below hb)
        have HRR_R6_19 := Lib.hid (rdrUp HRR_R6_17.out hb)
        have HO_R6_19 := Lib.hid (ho)
        clear ho
        have HSR6_20 := Lib.hid (show (fun W9 : World => W9.cell? ⟨P2, 0, none⟩ = some (.int .i64 256) ∧ W9.cell? ⟨P2, 1, none⟩ = some (.int .i64 10) ∧ W9.cell? ⟨P2, 2, none⟩ = some (.slice A2 1 c2)) wR6_19 from ⟨HB_R6_19.out.cell 0, HB_R6_19.out.cell 1, HB_R6_19.out.cell 2⟩)
        clear hb
        refine ⟨HSR6_20.out, ?_⟩
        refine xq 3 HOPS HREG HSR6_20.out ?_; simp only [ls0, ls1]; refine xq 4 HOPS HREG HSR6_20.out ?_; simp only [ls0, ls1]; refine xq 5 HOPS HREG HSR6_20.out ?_; simp only [ls0, ls1]
        refine xc 7 HOPS ?_
        have hp := HP_R6_19.out
        have hpl := hp.lt
        have hp0 := hp.cell 0
        have hp1 := hp.cell 1
        have hp2 := hp.cell 2
        have hpf0 := hp.frozen 0
        have hpf1 := hp.frozen 1
        have hpf2 := hp.frozen 2
        simp only [List.getElem?_cons_zero, List.getElem?_cons_succ] at hp0 hp1 hp2
        go_simp
        have hblHB := HB_5.out.lt
        obtain ⟨hbB21_0, hbB21_1, hbB21_2⟩ := cel3 HB_R6_19.out
        have HSR6_22 := Lib.hid (show (fun W9 : World => W9.cell? ⟨P2, 0, none⟩ = some (.int .i64 256) ∧ W9.cell? ⟨P2, 1, none⟩ = some (.int .i64 10) ∧ W9.cell? ⟨P2, 2, none⟩ = some (.slice A2 1 c2)) (((wR6_19.setCell ⟨w5.heap.size, 0, none⟩ (.int .i64 0)).setCell ⟨w5.heap.size, 1, none⟩ (.int .i64 0)).setCell ⟨w5.heap.size, 2, none⟩ (.slice A6 n6 c6)) from ⟨(cell_off (by simp only; omega)).trans ((cell_off (by simp only; omega)).trans ((cell_off (by simp only; omega)).trans (HB_R6_19.out.cell 0))), (cell_off (by simp only; omega)).trans ((cell_off (by simp only; omega)).trans ((cell_off (by simp only; omega)).trans (HB_R6_19.out.cell 1))), (cell_off (by simp only; omega)).trans ((cell_off (by simp only; omega)).trans ((cell_off (by simp only; omega)).trans (HB_R6_19.out.cell 2)))⟩)
        refine ⟨by (repeat' apply And.intro) <;> first | assumption | exact (cell_off (by simp only; omega)).trans (by assumption) | exact (cell_off (by simp only; omega)).trans ((cell_off (by simp only; omega)).trans (by assumption)) | exact (cell_off (by simp only; omega)).trans ((cell_off (by simp only; omega)).trans ((cell_off (by simp only; omega)).trans (by assumption))), ?_⟩
        clear hbB21_0 hbB21_1 hbB21_2
        refine xq 8 HOPS HREG HSR6_22.out ?_; simp only [ls0, ls1]
        refine stepE HOPS (by kernel_rfl) (HQ.out _ _ ?_)
        clear HQ HREG HOPS
        clear Q ops
        go_wp2
        go_meet
        exact ⟨w5.heap.size, A6, n6, c6, rfl, rfl, (OwnG.cap HO_R6_19.out), put3 HP_R6_19.out _ _ _, (OwnG.off3 HO_R6_19.out (g := w5.heap.size) HP_R6_17.out.lt _ _ _).rd, bel3 HBW_R6_19.out (Nat.le_refl _) _ _ _⟩
    case rest =>
      obtain ⟨P6, A6, n6, c6, rfl, rfl, hc6, hbx, hrg, hb⟩ := hcut
      rename World => W6
      have HW_6r := Lib.hid (bel_trans HW_5.out hb)
      have HT_6r := Lib.hid (HT_5.out.bel hb)
      have HAR_6r := Lib.hid (rdgUp HAR_5.out hb)
      have HA_6r := Lib.hid (HA_5.out.below hb)
      have HB_6r := Lib.hid (HB_5.out.below hb)
      have HBR_6r := Lib.hid (rdgUp HBR_5.out hb)
      have HCR_6r := Lib.hid (rdgUp HCR_5.out hb)
      have HC_6r := Lib.hid (HC_5.out.below hb)
      have HLR_6r := Lib.hid (rdtUp HLR_5.out hb)
      obtain ⟨hb6r_0, hb6r_1, hb6r_2⟩ := cel3 HB_6r.out
      clear hb hbx hrg hc6
      go_wp2_with (first
        | (go_at_call 29; (with_reducible refine (Trim_is 256 10 A2 1 c2 LB 13 _ HBR_6r.out HT_6r.out hc2 (by decide) HTM.out).mono ?_); rintro e w7 ⟨A7, n7, c7, rfl, ho, hb⟩; have HW_7 := Lib.hid (bel_trans HW_6r.out hb); have HT_7 := Lib.hid (HT_6r.out.bel hb); have HAR_7 := Lib.hid (rdgUp HAR_6r.out hb); have HA_7 := Lib.hid (HA_6r.out.below hb); have HB_7 := Lib.hid (HB_6r.out.below hb); have HBR_7 := Lib.hid (rdgUp HBR_6r.out hb); have HCR_7 := Lib.hid (rdgUp HCR_6r.out hb); have HC_7 := Lib.hid (HC_6r.out.below hb); have HLR_7 := Lib.hid (rdtUp HLR_6r.out hb); obtain rfl : 1 = n7 := HLB.out.symm.trans ho.len; have hc7 := ho.cap; have HDR_7 := Lib.hid (ho.rd); have hba := belA w7 (.cells #[.int .i64 256, .int .i64 13, .slice A7 1 c7] 24); have HW_7a := Lib.hid (bel_trans HW_7.out hba); have HT_7a := Lib.hid (HT_7.out.bel hba); have HAR_7a := Lib.hid (rdgUp HAR_7.out hba); have HA_7a := Lib.hid (HA_7.out.below hba); have HB_7a := Lib.hid (HB_7.out.below hba); have HBR_7a := Lib.hid (rdgUp HBR_7.out hba); have HCR_7a := Lib.hid (rdgUp HCR_7.out hba); have HC_7a := Lib.hid (HC_7.out.below hba); have HLR_7a := Lib.hid (rdtUp HLR_7.out hba); have HDR_7a := Lib.hid (rdgUp HDR_7.out hba); have HD_7a := Lib.hid (At0.new w7 [.int .i64 256, .int .i64 13, .slice A7 1 c7] 24); obtain ⟨hb7a_0, hb7a_1, hb7a_2⟩ := cel3 HB_7a.out; clear hb hba ho)
        | (go_at_call 35; (with_reducible refine (Recover_is 256 10 A2 1 c2 LB _ HBR_7a.out HT_7a.out hc2 (by decide) HRC.out).mono ?_); rintro e w8 ⟨A8, n8, c8, rfl, ho, hb⟩; have HW_8 := Lib.hid (bel_trans HW_7a.out hb); have HT_8 := Lib.hid (HT_7a.out.bel hb); have HAR_8 := Lib.hid (rdgUp HAR_7a.out hb); have HA_8 := Lib.hid (HA_7a.out.below hb); have HB_8 := Lib.hid (HB_7a.out.below hb); have HBR_8 := Lib.hid (rdgUp HBR_7a.out hb); have HCR_8 := Lib.hid (rdgUp HCR_7a.out hb); have HC_8 := Lib.hid (HC_7a.out.below hb); have HLR_8 := Lib.hid (rdtUp HLR_7a.out hb); have HDR_8 := Lib.hid (rdgUp HDR_7a.out hb); have HD_8 := Lib.hid (HD_7a.out.below hb); obtain rfl : 1 = n8 := HLB.out.symm.trans ho.len; have hc8 := ho.cap; have HVR_8 := Lib.hid (ho.rd); have hba := belA w8 (.cells #[.int .i64 256, .int .i64 10, .slice A8 1 c8] 24); have HW_8a := Lib.hid (bel_trans HW_8.out hba); have HT_8a := Lib.hid (HT_8.out.bel hba); have HAR_8a := Lib.hid (rdgUp HAR_8.out hba); have HA_8a := Lib.hid (HA_8.out.below hba); have HB_8a := Lib.hid (HB_8.out.below hba); have HBR_8a := Lib.hid (rdgUp HBR_8.out hba); have HCR_8a := Lib.hid (rdgUp HCR_8.out hba); have HC_8a := Lib.hid (HC_8.out.below hba); have HLR_8a := Lib.hid (rdtUp HLR_8.out hba); have HDR_8a := Lib.hid (rdgUp HDR_8.out hba); have HD_8a := Lib.hid (HD_8.out.below hba); have HVR_8a := Lib.hid (rdgUp HVR_8.out hba); have HV_8a := Lib.hid (At0.new w8 [.int .i64 256, .int .i64 10, .slice A8 1 c8] 24); obtain ⟨hb8a_0, hb8a_1, hb8a_2⟩ := cel3 HB_8a.out; clear hb hba ho)
        | (go_at_call 31; (with_reducible refine (Replace_is 256 10 A2 1 c2 LB 0 none 0 0 [] _ HBR_8a.out HT_8a.out hc2 (by decide) RdT.nil (Nat.zero_le _) HRP.out).mono ?_); rintro e w9 ⟨A9, n9, c9, rfl, ho, hb⟩; have HW_9 := Lib.hid (bel_trans HW_8a.out hb); have HT_9 := Lib.hid (HT_8a.out.bel hb); have HAR_9 := Lib.hid (rdgUp HAR_8a.out hb); have HA_9 := Lib.hid (HA_8a.out.below hb); have HB_9 := Lib.hid (HB_8a.out.below hb); have HBR_9 := Lib.hid (rdgUp HBR_8a.out hb); have HCR_9 := Lib.hid (rdgUp HCR_8a.out hb); have HC_9 := Lib.hid (HC_8a.out.below hb); have HLR_9 := Lib.hid (rdtUp HLR_8a.out hb); have HDR_9 := Lib.hid (rdgUp HDR_8a.out hb); have HD_9 := Lib.hid (HD_8a.out.below hb); have HVR_9 := Lib.hid (rdgUp HVR_8a.out hb); have HV_9 := Lib.hid (HV_8a.out.below hb); have hba := belA w9 (.cells #[.int .i64 0, .int .i64 0, .slice A9 n9 c9] 24); have HW_9a := Lib.hid (bel_trans HW_9.out hba); have HT_9a := Lib.hid (HT_9.out.bel hba); have HAR_9a := Lib.hid (rdgUp HAR_9.out hba); have HA_9a := Lib.hid (HA_9.out.below hba); have HB_9a := Lib.hid (HB_9.out.below hba); have HBR_9a := Lib.hid (rdgUp HBR_9.out hba); have HCR_9a := Lib.hid (rdgUp HCR_9.out hba); have HC_9a := Lib.hid (HC_9.out.below hba); have HLR_9a := Lib.hid (rdtUp HLR_9.out hba); have HDR_9a := Lib.hid (rdgUp HDR_9.out hba); have HD_9a := Lib.hid (HD_9.out.below hba); have HVR_9a := Lib.hid (rdgUp HVR_9.out hba); have HV_9a := Lib.hid (HV_9.out.below hba); obtain ⟨ha9a_0, ha9a_1, ha9a_2⟩ := cel3 HA_9a.out; obtain ⟨hb9a_0, hb9a_1, hb9a_2⟩ := cel3 HB_9a.out; obtain ⟨hc9a_0, hc9a_1, hc9a_2⟩ := cel3 HC_9a.out; obtain ⟨hd9a_0, hd9a_1, hd9a_2⟩ := cel3 HD_9a.out; obtain ⟨hv9a_0, hv9a_1, hv9a_2⟩ := cel3 HV_9a.out; clear hb hba ho)
        | (go_at_call 18; (with_reducible refine (End_is 256 10 A1 1 c1 LA _ HAR_9a.out HT_9a.out (by decide) HEA.out).mono ?_); rintro e w10 ⟨rfl, hb⟩; have HW_10 := Lib.hid (bel_trans HW_9a.out hb); have HT_10 := Lib.hid (HT_9a.out.bel hb); have HAR_10 := Lib.hid (rdgUp HAR_9a.out hb); have HA_10 := Lib.hid (HA_9a.out.below hb); have HB_10 := Lib.hid (HB_9a.out.below hb); have HBR_10 := Lib.hid (rdgUp HBR_9a.out hb); have HCR_10 := Lib.hid (rdgUp HCR_9a.out hb); have HC_10 := Lib.hid (HC_9a.out.below hb); have HLR_10 := Lib.hid (rdtUp HLR_9a.out hb); have HDR_10 := Lib.hid (rdgUp HDR_9a.out hb); have HD_10 := Lib.hid (HD_9a.out.below hb); have HVR_10 := Lib.hid (rdgUp HVR_9a.out hb); have HV_10 := Lib.hid (HV_9a.out.below hb); obtain ⟨hb10_0, hb10_1, hb10_2⟩ := cel3 HB_10.out; obtain ⟨hc10_0, hc10_1, hc10_2⟩ := cel3 HC_10.out; obtain ⟨hd10_0, hd10_1, hd10_2⟩ := cel3 HD_10.out; obtain ⟨hv10_0, hv10_1, hv10_2⟩ := cel3 HV_10.out; clear hb)
        | (go_at_call 18; (with_reducible refine (End_is 256 10 A2 1 c2 LB _ HBR_10.out HT_10.out (by decide) HEB.out).mono ?_); rintro e w11 ⟨rfl, hb⟩; have HW_11 := Lib.hid (bel_trans HW_10.out hb); have HT_11 := Lib.hid (HT_10.out.bel hb); have HAR_11 := Lib.hid (rdgUp HAR_10.out hb); have HA_11 := Lib.hid (HA_10.out.below hb); have HB_11 := Lib.hid (HB_10.out.below hb); have HBR_11 := Lib.hid (rdgUp HBR_10.out hb); have HCR_11 := Lib.hid (rdgUp HCR_10.out hb); have HC_11 := Lib.hid (HC_10.out.below hb); have HLR_11 := Lib.hid (rdtUp HLR_10.out hb); have HDR_11 := Lib.hid (rdgUp HDR_10.out hb); have HD_11 := Lib.hid (HD_10.out.below hb); have HVR_11 := Lib.hid (rdgUp HVR_10.out hb); have HV_11 := Lib.hid (HV_10.out.below hb); obtain ⟨hb11_0, hb11_1, hb11_2⟩ := cel3 HB_11.out; obtain ⟨hc11_0, hc11_1, hc11_2⟩ := cel3 HC_11.out; obtain ⟨hd11_0, hd11_1, hd11_2⟩ := cel3 HD_11.out; obtain ⟨hv11_0, hv11_1, hv11_2⟩ := cel3 HV_11.out; clear hb)
        | (go_at_call 18; (with_reducible refine (End_is 256 10 A3 1 c3 LA _ HCR_11.out HT_11.out (by decide) HEA.out).mono ?_); rintro e w12 ⟨rfl, hb⟩; have HW_12 := Lib.hid (bel_trans HW_11.out hb); have HT_12 := Lib.hid (HT_11.out.bel hb); have HAR_12 := Lib.hid (rdgUp HAR_11.out hb); have HA_12 := Lib.hid (HA_11.out.below hb); have HB_12 := Lib.hid (HB_11.out.below hb); have HBR_12 := Lib.hid (rdgUp HBR_11.out hb); have HCR_12 := Lib.hid (rdgUp HCR_11.out hb); have HC_12 := Lib.hid (HC_11.out.below hb); have HLR_12 := Lib.hid (rdtUp HLR_11.out hb); have HDR_12 := Lib.hid (rdgUp HDR_11.out hb); have HD_12 := Lib.hid (HD_11.out.below hb); have HVR_12 := Lib.hid (rdgUp HVR_11.out hb); have HV_12 := Lib.hid (HV_11.out.below hb); obtain ⟨hb12_0, hb12_1, hb12_2⟩ := cel3 HB_12.out; obtain ⟨hc12_0, hc12_1, hc12_2⟩ := cel3 HC_12.out; obtain ⟨hd12_0, hd12_1, hd12_2⟩ := cel3 HD_12.out; obtain ⟨hv12_0, hv12_1, hv12_2⟩ := cel3 HV_12.out; clear hb)
        | (go_at_call 21; (with_reducible refine (All_is 256 10 A3 1 c3 LA _ HCR_12.out HT_12.out hc3 (by decide) HAA.out).mono ?_); rintro e w13 ⟨A13, n13, c13, rfl, ho, hb⟩; have HW_13 := Lib.hid (bel_trans HW_12.out hb); have HT_13 := Lib.hid (HT_12.out.bel hb); have HAR_13 := Lib.hid (rdgUp HAR_12.out hb); have HA_13 := Lib.hid (HA_12.out.below hb); have HB_13 := Lib.hid (HB_12.out.below hb); have HBR_13 := Lib.hid (rdgUp HBR_12.out hb); have HCR_13 := Lib.hid (rdgUp HCR_12.out hb); have HC_13 := Lib.hid (HC_12.out.below hb); have HLR_13 := Lib.hid (rdtUp HLR_12.out hb); have HDR_13 := Lib.hid (rdgUp HDR_12.out hb); have HD_13 := Lib.hid (HD_12.out.below hb); have HVR_13 := Lib.hid (rdgUp HVR_12.out hb); have HV_13 := Lib.hid (HV_12.out.below hb); obtain ⟨hb13_0, hb13_1, hb13_2⟩ := cel3 HB_13.out; obtain ⟨hd13_0, hd13_1, hd13_2⟩ := cel3 HD_13.out; obtain ⟨hv13_0, hv13_1, hv13_2⟩ := cel3 HV_13.out; obtain rfl : 0 = n13 := ho.len; clear ho; obtain ⟨b, o, x, A14, n14, c14, rfl, hbl, hxk, _, _, _, _, hce⟩ := (HLR_13.out).at (k := 0) (by decide); obtain rfl : exC = x := Option.some.inj hxk; have q0 : w13.cell? ⟨b, o, none⟩ = some (.int .i64 10) := (by exact hce 0 (.int .i64 10) rfl); clear hce hxk; clear hb)
        | (go_at_call 21; (with_reducible refine (All_is 256 10 A2 1 c2 LB _ HBR_13.out HT_13.out hc2 (by decide) HAB.out).mono ?_); rintro e w15 ⟨A15, n15, c15, rfl, ho, hb⟩; have HW_15 := Lib.hid (bel_trans HW_13.out hb); have HT_15 := Lib.hid (HT_13.out.bel hb); have HAR_15 := Lib.hid (rdgUp HAR_13.out hb); have HA_15 := Lib.hid (HA_13.out.below hb); have HB_15 := Lib.hid (HB_13.out.below hb); have HBR_15 := Lib.hid (rdgUp HBR_13.out hb); have HCR_15 := Lib.hid (rdgUp HCR_13.out hb); have HC_15 := Lib.hid (HC_13.out.below hb); have HLR_15 := Lib.hid (rdtUp HLR_13.out hb); have HDR_15 := Lib.hid (rdgUp HDR_13.out hb); have HD_15 := Lib.hid (HD_13.out.below hb); have HVR_15 := Lib.hid (rdgUp HVR_13.out hb); have HV_15 := Lib.hid (HV_13.out.below hb); obtain ⟨hb15_0, hb15_1, hb15_2⟩ := cel3 HB_15.out; obtain ⟨hd15_0, hd15_1, hd15_2⟩ := cel3 HD_15.out; obtain ⟨hv15_0, hv15_1, hv15_2⟩ := cel3 HV_15.out; obtain rfl : 1 = n15 := ho.len; clear ho; clear hb)
        | (go_at_call 21; (with_reducible refine (All_is 256 13 A7 1 c7 LB _ HDR_15.out HT_15.out hc7 (by decide) HAD.out).mono ?_); rintro e w16 ⟨A16, n16, c16, rfl, ho, hb⟩; have HW_16 := Lib.hid (bel_trans HW_15.out hb); have HT_16 := Lib.hid (HT_15.out.bel hb); have HAR_16 := Lib.hid (rdgUp HAR_15.out hb); have HA_16 := Lib.hid (HA_15.out.below hb); have HB_16 := Lib.hid (HB_15.out.below hb); have HBR_16 := Lib.hid (rdgUp HBR_15.out hb); have HCR_16 := Lib.hid (rdgUp HCR_15.out hb); have HC_16 := Lib.hid (HC_15.out.below hb); have HLR_16 := Lib.hid (rdtUp HLR_15.out hb); have HDR_16 := Lib.hid (rdgUp HDR_15.out hb); have HD_16 := Lib.hid (HD_15.out.below hb); have HVR_16 := Lib.hid (rdgUp HVR_15.out hb); have HV_16 := Lib.hid (HV_15.out.below hb); obtain ⟨hb16_0, hb16_1, hb16_2⟩ := cel3 HB_16.out; obtain ⟨hd16_0, hd16_1, hd16_2⟩ := cel3 HD_16.out; obtain ⟨hv16_0, hv16_1, hv16_2⟩ := cel3 HV_16.out; obtain rfl : 0 = n16 := ho.len; clear ho; clear hb)
        | (go_at_call 23; (with_reducible refine (rSame_is 256 10 A8 A2 1 c8 c2 LB _ HVR_16.out HBR_16.out (by decide)).mono ?_); rintro e w17 ⟨rfl, hb⟩; have HW_17 := Lib.hid (bel_trans HW_16.out hb); have HT_17 := Lib.hid (HT_16.out.bel hb); have HAR_17 := Lib.hid (rdgUp HAR_16.out hb); have HA_17 := Lib.hid (HA_16.out.below hb); have HB_17 := Lib.hid (HB_16.out.below hb); have HBR_17 := Lib.hid (rdgUp HBR_16.out hb); have HCR_17 := Lib.hid (rdgUp HCR_16.out hb); have HC_17 := Lib.hid (HC_16.out.below hb); have HLR_17 := Lib.hid (rdtUp HLR_16.out hb); have HDR_17 := Lib.hid (rdgUp HDR_16.out hb); have HD_17 := Lib.hid (HD_16.out.below hb); have HVR_17 := Lib.hid (rdgUp HVR_16.out hb); have HV_17 := Lib.hid (HV_16.out.below hb); obtain ⟨hb17_0, hb17_1, hb17_2⟩ := cel3 HB_17.out; clear hb)
        | (go_at_call 16; (with_reducible refine (Check_is 256 10 A2 1 c2 LB _ HBR_17.out HT_17.out (by decide) HCB.out).mono ?_); rintro e w18 ⟨rfl, hb⟩; have HW_18 := Lib.hid (bel_trans HW_17.out hb); have HT_18 := Lib.hid (HT_17.out.bel hb); have HAR_18 := Lib.hid (rdgUp HAR_17.out hb); have HA_18 := Lib.hid (HA_17.out.below hb); have HB_18 := Lib.hid (HB_17.out.below hb); have HBR_18 := Lib.hid (rdgUp HBR_17.out hb); have HCR_18 := Lib.hid (rdgUp HCR_17.out hb); have HC_18 := Lib.hid (HC_17.out.below hb); have HLR_18 := Lib.hid (rdtUp HLR_17.out hb); have HDR_18 := Lib.hid (rdgUp HDR_17.out hb); have HD_18 := Lib.hid (HD_17.out.below hb); have HVR_18 := Lib.hid (rdgUp HVR_17.out hb); have HV_18 := Lib.hid (HV_17.out.below hb); clear hb)
        | (go_at_call 16; (with_reducible refine (Check_is 0 0 none 0 0 [] _ RdG.nil HT_18.out (by decide) HCN.out).mono ?_); rintro e w19 ⟨rfl, hb⟩; have HW_19 := Lib.hid (bel_trans HW_18.out hb); have HT_19 := Lib.hid (HT_18.out.bel hb); have HAR_19 := Lib.hid (rdgUp HAR_18.out hb); have HA_19 := Lib.hid (HA_18.out.below hb); have HB_19 := Lib.hid (HB_18.out.below hb); have HBR_19 := Lib.hid (rdgUp HBR_18.out hb); have HCR_19 := Lib.hid (rdgUp HCR_18.out hb); have HC_19 := Lib.hid (HC_18.out.below hb); have HLR_19 := Lib.hid (rdtUp HLR_18.out hb); have HDR_19 := Lib.hid (rdgUp HDR_18.out hb); have HD_19 := Lib.hid (HD_18.out.below hb); have HVR_19 := Lib.hid (rdgUp HVR_18.out hb); have HV_19 := Lib.hid (HV_18.out.below hb); clear hb))
      go_ret
      exact ⟨rfl, HW_19.out⟩
end Go.Proofs.YtejcjmiofidedaaGreatDoor.Chn
