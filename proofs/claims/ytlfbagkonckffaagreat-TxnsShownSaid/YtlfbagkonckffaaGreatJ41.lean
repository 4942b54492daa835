/- Joined: TxnDA. -/
import Derived.Test.YtlfbagkonckffaaGreatJ29
import Derived.Test.YtlfbagkonckffaaGreatJ05
/- The landed txns: Put, where nothing turns. -/
namespace Go.Proofs.YtlfbagkonckffaaGreat.Txn
open Go.RowKit Go.Shelf Oct Rec RowF Lay InR RngQ Bat RowL
open Epo (At0 AtO belA cel2)
open Sqs (at0_grown at0_set9 grown_set9 grown_bel grown_then)

attribute [local go_sem] Oper.semAt_some

set_option maxRecDepth 100000 in
set_option maxHeartbeats 8000000 in
theorem pData_is (A : Option Addr) (n c : Nat) (A2 : Option Addr) (n2 c2 : Nat) (A3 : Option Addr) (n3 c3 : Nat) (t : Tx) (ba la fr ep pi ge se : Int) (tx : Bool) (ct : Int) (AR : Option Addr) (nR cR : Nat) (rs : List Rc) (w : World) (hr : RdT w A n A2 n2 A3 n3 t) (hn : Few3 n n2 n3) (hf : Fits ⟨ba, la, fr, ep, pi, ge, se, tx, ct, rs⟩) (hrr : RdR w w.heap.size AR nR rs) (hnR : nR ≤ 1099511627776) (h : ckT t = true) (h1 : chB ⟨ba, la, fr, ep, pi, ge, se, tx, ct, rs⟩ = 0) (h2 : topT t < ba) (h3 : hasO t.op pi = true) (h4 : ct = 0) :
    Calls Tryz.prog 15 #[.agg #[.slice A n c, .slice A2 n2 c2, .slice A3 n3 c3], .agg #[.int .i64 ba, .int .i64 la, .int .i64 fr, .int .i64 ep, .int .i64 pi, .int .i64 ge, .int .i64 se, .bool tx, .int .i64 ct, .slice AR nR cR]] w (PutTO w t 0) := by
  have HH := Lib.hid h3
  have HE := Lib.hid (show (!decide (ct = 0)) = false from by rw [h4]; rfl)
  clear h3 h4
  have HC := Lib.hid (show ceT t = 0 from by unfold ceT; rw [h]; rfl)
  have HCK := Lib.hid h
  have HBC := Lib.hid h1
  obtain ⟨m, hm⟩ : ∃ m, topT t = m := ⟨_, rfl⟩
  have HM := Lib.hid hm
  have hle : ¬ ba ≤ m := by omega
  have hmx : Tryz.prog.follows .mixedOrders = true := by kernel_rfl
  clear h h1 h2 hm
  have HR := Lib.hid hr
  have HN := Lib.hid hn
  have HF := Lib.hid hf
  have HRR := Lib.hid hrr
  clear hr hn hf hrr
  go_enter Tryz.func15, Tryz.ntmps15
  go_upto_region 1 with fail
  generalize hW : (World.alloc (World.alloc (World.alloc w _) _) _) = W
  have hW9 : Below w.heap.size w W ∧ At0 W w.heap.size [.slice A n c, .slice A2 n2 c2, .slice A3 n3 c3] 25 ∧ At0 W (w.heap.size + 1) [.int .i64 ba, .int .i64 la, .int .i64 fr, .int .i64 ep, .int .i64 pi, .int .i64 ge, .int .i64 se, .bool tx, .int .i64 ct, .slice AR nR cR] 28 ∧ At0 W (w.heap.size + 1 + 1) [.slice none 0 0, .slice none 0 0, .slice none 0 0] 25 := by
    rw [← hW]
    have h1 := At0.new (w.alloc (.cells #[.slice A n c, .slice A2 n2 c2, .slice A3 n3 c3] 25)) [.int .i64 ba, .int .i64 la, .int .i64 fr, .int .i64 ep, .int .i64 pi, .int .i64 ge, .int .i64 se, .bool tx, .int .i64 ct, .slice AR nR cR] 28
    have h2 := At0.new ((w.alloc (.cells #[.slice A n c, .slice A2 n2 c2, .slice A3 n3 c3] 25)).alloc (.cells #[.int .i64 ba, .int .i64 la, .int .i64 fr, .int .i64 ep, .int .i64 pi, .int .i64 ge, .int .i64 se, .bool tx, .int .i64 ct, .slice AR nR cR] 28)) [.slice none 0 0, .slice none 0 0, .slice none 0 0] 25
    simp only [World.size_alloc] at h1 h2
    exact ⟨bel_alloc (bel_alloc (bel_alloc (Below.refl _ _) _) _) _, ((At0.new w [.slice A n c, .slice A2 n2 c2, .slice A3 n3 c3] 25).below (belA _ _)).below (belA _ _), h1.below (belA _ _), h2⟩
  obtain ⟨hbW, hT, hB, hZ⟩ := hW9
  have hN2 := hZ.lt
  have HW_0 := Lib.hid hbW
  have HV_0 := Lib.hid (Below.refl W.heap.size W)
  have HT_0 := Lib.hid hT
  have HB_0 := Lib.hid hB
  have HZ_0 := Lib.hid hZ
  have HR_0 := Lib.hid (HR.out.below hbW)
  have HRR_0 := Lib.hid (rdrUp9 HRR.out hbW)
  clear hW hbW hT hB hZ
  obtain ⟨t00, t01, t02⟩ := cel3 HT_0.out
  obtain ⟨b00, b01, b02, b03, b04, b05, b06, b07, b08, b09⟩ := cel10 HB_0.out
  obtain ⟨z00, z01, z02⟩ := cel3 HZ_0.out
  obtain ⟨y00, y01, y02⟩ := frz3 HZ_0.out
  go_upto_region 6 with (first
    | (go_at_call 36; (with_reducible refine (BCheck0_is ba la fr ep pi ge se tx ct rs AR nR cR _ HF.out HRR_1.out hnR HBC.out).mono ?_); rintro e w2 ⟨rfl, hb⟩; have HW_2 := Lib.hid (bel_trans HW_1.out hb); have HV_2 := Lib.hid (bel_trans HV_1.out hb); have HT_2 := Lib.hid (HT_1.out.below hb); have HB_2 := Lib.hid (HB_1.out.below hb); have HZ_2 := Lib.hid (HZ_1.out.below hb); have HR_2 := Lib.hid (HR_1.out.below hb); have HRR_2 := Lib.hid (rdrUp9 HRR_1.out hb); clear hb; clear t10 t11 t12 b10 b11 b12 b13 b14 b15 b16 b17 b18 b19 z10 z11 z12 y10 y11 y12; obtain ⟨t20, t21, t22⟩ := cel3 HT_2.out; obtain ⟨b20, b21, b22, b23, b24, b25, b26, b27, b28, b29⟩ := cel10 HB_2.out; obtain ⟨z20, z21, z22⟩ := cel3 HZ_2.out; obtain ⟨y20, y21, y22⟩ := frz3 HZ_2.out)
    | (go_at_call 17; (with_reducible refine (dCheckT_is A n c A2 n2 c2 A3 n3 c3 t _ HR_0.out HN.out.reach HC.out).mono ?_); rintro e w1 ⟨rfl, hb⟩; have HW_1 := Lib.hid (bel_trans HW_0.out hb); have HV_1 := Lib.hid (bel_trans HV_0.out hb); have HT_1 := Lib.hid (HT_0.out.below hb); have HB_1 := Lib.hid (HB_0.out.below hb); have HZ_1 := Lib.hid (HZ_0.out.below hb); have HR_1 := Lib.hid (HR_0.out.below hb); have HRR_1 := Lib.hid (rdrUp9 HRR_0.out hb); clear hb; clear t00 t01 t02 b00 b01 b02 b03 b04 b05 b06 b07 b08 b09 z00 z01 z02 y00 y01 y02; obtain ⟨t10, t11, t12⟩ := cel3 HT_1.out; obtain ⟨b10, b11, b12, b13, b14, b15, b16, b17, b18, b19⟩ := cel10 HB_1.out; obtain ⟨z10, z11, z12⟩ := cel3 HZ_1.out; obtain ⟨y10, y11, y12⟩ := frz3 HZ_1.out))
  clear t20 t21 t22 b20 b21 b22 b23 b24 b25 b26 b27 b28 b29 z20 z21 z22 y20 y21 y22
  have hbd := (Below.refl w2.heap.size w2).drew
  have HW_R6 := Lib.hid (bel_trans HW_2.out hbd)
  have HV_R6 := Lib.hid (bel_trans HV_2.out hbd)
  have HT_R6 := Lib.hid (HT_2.out.below hbd)
  have HB_R6 := Lib.hid (HB_2.out.below hbd)
  have HZ_R6 := Lib.hid (HZ_2.out.below hbd)
  have HR_R6 := Lib.hid (HR_2.out.below hbd)
  have HRR_R6 := Lib.hid (rdrUp9 HRR_2.out hbd)
  have HSR6 := Lib.hid (show (fun W9 : World => W9.cell? ⟨w.heap.size, 0, none⟩ = some (.slice A n c) ∧ W9.cell? ⟨w.heap.size, 1, none⟩ = some (.slice A2 n2 c2) ∧ W9.cell? ⟨w.heap.size, 2, none⟩ = some (.slice A3 n3 c3) ∧ W9.cell? ⟨(w.heap.size + 1), 0, none⟩ = some (.int .i64 ba) ∧ W9.cell? ⟨(w.heap.size + 1), 1, none⟩ = some (.int .i64 la) ∧ W9.cell? ⟨(w.heap.size + 1), 2, none⟩ = some (.int .i64 fr) ∧ W9.cell? ⟨(w.heap.size + 1), 3, none⟩ = some (.int .i64 ep) ∧ W9.cell? ⟨(w.heap.size + 1), 4, none⟩ = some (.int .i64 pi) ∧ W9.cell? ⟨(w.heap.size + 1), 5, none⟩ = some (.int .i64 ge) ∧ W9.cell? ⟨(w.heap.size + 1), 6, none⟩ = some (.int .i64 se) ∧ W9.cell? ⟨(w.heap.size + 1), 7, none⟩ = some (.bool tx) ∧ W9.cell? ⟨(w.heap.size + 1), 8, none⟩ = some (.int .i64 ct) ∧ W9.cell? ⟨(w.heap.size + 1), 9, none⟩ = some (.slice AR nR cR)) w2.drew from ⟨HT_R6.out.cell 0, HT_R6.out.cell 1, HT_R6.out.cell 2, HB_R6.out.cell 0, HB_R6.out.cell 1, HB_R6.out.cell 2, HB_R6.out.cell 3, HB_R6.out.cell 4, HB_R6.out.cell 5, HB_R6.out.cell 6, HB_R6.out.cell 7, HB_R6.out.cell 8, HB_R6.out.cell 9⟩)
  clear hbd
  refine region_let (fun W9 : World => W9.cell? ⟨w.heap.size, 0, none⟩ = some (.slice A n c) ∧ W9.cell? ⟨w.heap.size, 1, none⟩ = some (.slice A2 n2 c2) ∧ W9.cell? ⟨w.heap.size, 2, none⟩ = some (.slice A3 n3 c3) ∧ W9.cell? ⟨(w.heap.size + 1), 0, none⟩ = some (.int .i64 ba) ∧ W9.cell? ⟨(w.heap.size + 1), 1, none⟩ = some (.int .i64 la) ∧ W9.cell? ⟨(w.heap.size + 1), 2, none⟩ = some (.int .i64 fr) ∧ W9.cell? ⟨(w.heap.size + 1), 3, none⟩ = some (.int .i64 ep) ∧ W9.cell? ⟨(w.heap.size + 1), 4, none⟩ = some (.int .i64 pi) ∧ W9.cell? ⟨(w.heap.size + 1), 5, none⟩ = some (.int .i64 ge) ∧ W9.cell? ⟨(w.heap.size + 1), 6, none⟩ = some (.int .i64 se) ∧ W9.cell? ⟨(w.heap.size + 1), 7, none⟩ = some (.bool tx) ∧ W9.cell? ⟨(w.heap.size + 1), 8, none⟩ = some (.int .i64 ct) ∧ W9.cell? ⟨(w.heap.size + 1), 9, none⟩ = some (.slice AR nR cR)) 99 6 hmx rfl fun ops Q HOPS HQ => ?_
  have HREG := reg_of HOPS tb_Put6 rfl (by kernel_rfl) (by kernel_rfl) (by decide)
  refine xq 0 HOPS HREG HSR6.out ?_; simp only [ls0, ls1]; refine xq 1 HOPS HREG HSR6.out ?_; simp only [ls0, ls1]; refine xq 2 HOPS HREG HSR6.out ?_; simp only [ls0, ls1]
  refine xc 3 HOPS ?_
  go_simp
  with_reducible refine (reach_is A n c A2 n2 c2 A3 n3 c3 t _ HR_R6.out HN.out.reach HM.out).mono ?_
  rintro e w3 ⟨rfl, hb⟩
  have HW_3 := Lib.hid (bel_trans HW_R6.out hb)
  have HV_3 := Lib.hid (bel_trans HV_R6.out hb)
  have HT_3 := Lib.hid (HT_R6.out.below hb)
  have HB_3 := Lib.hid (HB_R6.out.below hb)
  have HZ_3 := Lib.hid (HZ_R6.out.below hb)
  have HR_3 := Lib.hid (HR_R6.out.below hb)
  have HRR_3 := Lib.hid (rdrUp9 HRR_R6.out hb)
  have HSR6w3 := Lib.hid (show (fun W9 : World => W9.cell? ⟨w.heap.size, 0, none⟩ = some (.slice A n c) ∧ W9.cell? ⟨w.heap.size, 1, none⟩ = some (.slice A2 n2 c2) ∧ W9.cell? ⟨w.heap.size, 2, none⟩ = some (.slice A3 n3 c3) ∧ W9.cell? ⟨(w.heap.size + 1), 0, none⟩ = some (.int .i64 ba) ∧ W9.cell? ⟨(w.heap.size + 1), 1, none⟩ = some (.int .i64 la) ∧ W9.cell? ⟨(w.heap.size + 1), 2, none⟩ = some (.int .i64 fr) ∧ W9.cell? ⟨(w.heap.size + 1), 3, none⟩ = some (.int .i64 ep) ∧ W9.cell? ⟨(w.heap.size + 1), 4, none⟩ = some (.int .i64 pi) ∧ W9.cell? ⟨(w.heap.size + 1), 5, none⟩ = some (.int .i64 ge) ∧ W9.cell? ⟨(w.heap.size + 1), 6, none⟩ = some (.int .i64 se) ∧ W9.cell? ⟨(w.heap.size + 1), 7, none⟩ = some (.bool tx) ∧ W9.cell? ⟨(w.heap.size + 1), 8, none⟩ = some (.int .i64 ct) ∧ W9.cell? ⟨(w.heap.size + 1), 9, none⟩ = some (.slice AR nR cR)) w3 from ⟨HT_3.out.cell 0, HT_3.out.cell 1, HT_3.out.cell 2, HB_3.out.cell 0, HB_3.out.cell 1, HB_3.out.cell 2, HB_3.out.cell 3, HB_3.out.cell 4, HB_3.out.cell 5, HB_3.out.cell 6, HB_3.out.cell 7, HB_3.out.cell 8, HB_3.out.cell 9⟩)
  clear hb
  refine ⟨HSR6w3.out, ?_⟩
  refine xq 4 HOPS HREG HSR6w3.out ?_; simp only [ls0, ls1]; refine xq 5 HOPS HREG HSR6w3.out ?_; simp only [ls0, ls1]
  refine stepE HOPS (by kernel_rfl) (HQ.out _ _ ?_)
  clear HQ HREG HOPS
  clear Q ops
  obtain ⟨t30, t31, t32⟩ := cel3 HT_3.out
  obtain ⟨b30, b31, b32, b33, b34, b35, b36, b37, b38, b39⟩ := cel10 HB_3.out
  obtain ⟨z30, z31, z32⟩ := cel3 HZ_3.out
  obtain ⟨y30, y31, y32⟩ := frz3 HZ_3.out
  go_upto_region 9 with (go_at_call 39; (with_reducible refine (copies_is A n c A2 n2 c2 A3 n3 c3 t _ HR_3.out (by have := HN.out.a; omega) (by have := HN.out.b; omega) (by have := HN.out.c; omega)).mono ?_); rintro e w4 ⟨A4, c4, A5, c5, A6, c6, rfl, ho, hb⟩; have HW_4 := Lib.hid (bel_trans HW_3.out hb); have HV_4 := Lib.hid (bel_trans HV_3.out hb); have HT_4 := Lib.hid (HT_3.out.below hb); have HB_4 := Lib.hid (HB_3.out.below hb); have HZ_4 := Lib.hid (HZ_3.out.below hb); have HR_4 := Lib.hid (HR_3.out.below hb); have HRR_4 := Lib.hid (rdrUp9 HRR_3.out hb); have HO_4 := Lib.hid (ho.more (HV_3.out.size)); clear hb ho; clear t30 t31 t32 b30 b31 b32 b33 b34 b35 b36 b37 b38 b39 z30 z31 z32 y30 y31 y32; obtain ⟨t40, t41, t42⟩ := cel3 HT_4.out; obtain ⟨b40, b41, b42, b43, b44, b45, b46, b47, b48, b49⟩ := cel10 HB_4.out; obtain ⟨z40, z41, z42⟩ := cel3 HZ_4.out; obtain ⟨y40, y41, y42⟩ := frz3 HZ_4.out; obtain ⟨x40, x41, x42⟩ := frz3 HT_4.out)
  clear t40 t41 t42 b40 b41 b42 b43 b44 b45 b46 b47 b48 b49 z40 z41 z42 y40 y41 y42
  clear x40 x41 x42
  have hoff := HO_4.out.offBelow (g := w.heap.size) (Nat.lt_trans (by omega) hN2)
  have hT5 := at0_set9 (at0_set9 (at0_set9 HT_4.out 0 (.slice A4 n c4)) 1 (.slice A5 n2 c5)) 2 (.slice A6 n3 c6)
  have hB5 := at_set (at_set (at_set HB_4.out (b := w.heap.size) (by omega) 0 (.slice A4 n c4)) (b := w.heap.size) (by omega) 1 (.slice A5 n2 c5)) (b := w.heap.size) (by omega) 2 (.slice A6 n3 c6)
  have hZ5 := at_set (at_set (at_set HZ_4.out (b := w.heap.size) (by omega) 0 (.slice A4 n c4)) (b := w.heap.size) (by omega) 1 (.slice A5 n2 c5)) (b := w.heap.size) (by omega) 2 (.slice A6 n3 c6)
  have hO5 := ((HO_4.out.set hoff 0 (.slice A4 n c4)).set hoff 1 (.slice A5 n2 c5)).set hoff 2 (.slice A6 n3 c6)
  have hW5 := ((HW_4.out.setCell (p := ⟨w.heap.size, 0, none⟩) (Nat.le_refl _) (.slice A4 n c4)).setCell (p := ⟨w.heap.size, 1, none⟩) (Nat.le_refl _) (.slice A5 n2 c5)).setCell (p := ⟨w.heap.size, 2, none⟩) (Nat.le_refl _) (.slice A6 n3 c6)
  have hs5 : W.heap.size ≤ (((w4.setCell ⟨w.heap.size, 0, none⟩ (.slice A4 n c4)).setCell ⟨w.heap.size, 1, none⟩ (.slice A5 n2 c5)).setCell ⟨w.heap.size, 2, none⟩ (.slice A6 n3 c6)).heap.size := by simpa using HV_4.out.size
  generalize (((w4.setCell ⟨w.heap.size, 0, none⟩ (.slice A4 n c4)).setCell ⟨w.heap.size, 1, none⟩ (.slice A5 n2 c5)).setCell ⟨w.heap.size, 2, none⟩ (.slice A6 n3 c6)) = V at *
  have HT_5 := Lib.hid (show At0 V w.heap.size [.slice A4 n c4, .slice A5 n2 c5, .slice A6 n3 c6] 25 from hT5)
  have HB_5 := Lib.hid hB5
  have HZ_5 := Lib.hid hZ5
  have HO_5 := Lib.hid hO5
  have HW_5 := Lib.hid hW5
  have HS_5 := Lib.hid hs5
  have HV_5 := Lib.hid (Below.refl V.heap.size V)
  clear hT5 hB5 hZ5 hO5 hW5 hs5 hoff
  have HFI := Lib.hid (find_is A4 n c4 t.op pi V HO_5.out.rd.op (by have := HN.out.a; omega) (ckT_iff.1 HCK.out).1 (k := atO t.op pi) rfl HH.out)
  obtain ⟨t50, t51, t52⟩ := cel3 HT_5.out
  obtain ⟨b50, b51, b52, b53, b54, b55, b56, b57, b58, b59⟩ := cel10 HB_5.out
  obtain ⟨z50, z51, z52⟩ := cel3 HZ_5.out
  obtain ⟨y50, y51, y52⟩ := frz3 HZ_5.out
  go_wp2_with (first
        | (go_at_call 41; (with_reducible refine (ends_is ba la fr ep pi ge se tx ct AR nR cR _ HE.out).mono ?_); rintro e w7 ⟨rfl, hb⟩; have HW_7 := Lib.hid (bel_trans HW_6.out hb); have HV_7 := Lib.hid (bel_trans HV_6.out hb); have HT_7 := Lib.hid (HT_6.out.below hb); have HB_7 := Lib.hid (HB_6.out.below hb); have HZ_7 := Lib.hid (HZ_6.out.below hb); have HO_7 := Lib.hid (HO_6.out.below hb); clear hb; clear t60 t61 t62 b60 b61 b62 b63 b64 b65 b66 b67 b68 b69 z60 z61 z62 y60 y61 y62; clear x60 x61 x62; obtain ⟨t70, t71, t72⟩ := cel3 HT_7.out; obtain ⟨b70, b71, b72, b73, b74, b75, b76, b77, b78, b79⟩ := cel10 HB_7.out; obtain ⟨z70, z71, z72⟩ := cel3 HZ_7.out; obtain ⟨y70, y71, y72⟩ := frz3 HZ_7.out; obtain ⟨x70, x71, x72⟩ := frz3 HT_7.out)
        | (go_at_call 40; (with_reducible refine (HFI.out).mono ?_); rintro e w6 ⟨rfl, hb⟩; have HW_6 := Lib.hid (bel_trans HW_5.out hb); have HV_6 := Lib.hid (bel_trans HV_5.out hb); have HT_6 := Lib.hid (HT_5.out.below hb); have HB_6 := Lib.hid (HB_5.out.below hb); have HZ_6 := Lib.hid (HZ_5.out.below hb); have HO_6 := Lib.hid (HO_5.out.below hb); clear hb; clear t50 t51 t52 b50 b51 b52 b53 b54 b55 b56 b57 b58 b59 z50 z51 z52 y50 y51 y52; obtain ⟨t60, t61, t62⟩ := cel3 HT_6.out; obtain ⟨b60, b61, b62, b63, b64, b65, b66, b67, b68, b69⟩ := cel10 HB_6.out; obtain ⟨z60, z61, z62⟩ := cel3 HZ_6.out; obtain ⟨y60, y61, y62⟩ := frz3 HZ_6.out; obtain ⟨x60, x61, x62⟩ := frz3 HT_6.out))
  have hF := at0_set9 (at0_set9 (at0_set9 HZ_7.out 0 (.slice A4 n c4)) 1 (.slice A5 n2 c5)) 2 (.slice A6 n3 c6)
  obtain ⟨k0, k1, k2⟩ := cel3 (show At0 _ _ [.slice A4 n c4, .slice A5 n2 c5, .slice A6 n3 c6] _ from hF)
  refine bodyPost_ret (v := .tuple #[.agg #[.slice A4 n c4, .slice A5 n2 c5, .slice A6 n3 c6], .int .i64 0]) (by simp [results, Tryz.results15, go_sem, k0, k1, k2]) rfl ?_
  have hoff := HO_7.out.offBelow (g := w.heap.size + 1 + 1) hN2
  exact ⟨A4, n, c4, A5, n2, c5, A6, n3, c6, rfl, (((HO_7.out.set hoff _ _).set hoff _ _).set hoff _ _).more HW_0.out.size, ((HW_7.out.setCell (by simp only; omega) _).setCell (by simp only; omega) _).setCell (by simp only; omega) _⟩
set_option maxRecDepth 100000 in
set_option maxHeartbeats 8000000 in
theorem pNone_is (A : Option Addr) (n c : Nat) (A2 : Option Addr) (n2 c2 : Nat) (A3 : Option Addr) (n3 c3 : Nat) (t : Tx) (ba la fr ep pi ge se : Int) (tx : Bool) (ct : Int) (AR : Option Addr) (nR cR : Nat) (rs : List Rc) (w : World) (hr : RdT w A n A2 n2 A3 n3 t) (hn : Few3 n n2 n3) (hf : Fits ⟨ba, la, fr, ep, pi, ge, se, tx, ct, rs⟩) (hrr : RdR w w.heap.size AR nR rs) (hnR : nR ≤ 1099511627776) (h : ckT t = true) (h1 : chB ⟨ba, la, fr, ep, pi, ge, se, tx, ct, rs⟩ = 0) (h2 : topT t < ba) (h3 : hasO t.op pi = false) (h4 : decide (ct = 0 ∧ tx = true) = false) :
    Calls Tryz.prog 15 #[.agg #[.slice A n c, .slice A2 n2 c2, .slice A3 n3 c3], .agg #[.int .i64 ba, .int .i64 la, .int .i64 fr, .int .i64 ep, .int .i64 pi, .int .i64 ge, .int .i64 se, .bool tx, .int .i64 ct, .slice AR nR cR]] w (PutTO w t 0) := by
  have HH := Lib.hid h3
  have HG := Lib.hid h4
  clear h3 h4
  have HC := Lib.hid (show ceT t = 0 from by unfold ceT; rw [h]; rfl)
  have HCK := Lib.hid h
  have HBC := Lib.hid h1
  obtain ⟨m, hm⟩ : ∃ m, topT t = m := ⟨_, rfl⟩
  have HM := Lib.hid hm
  have hle : ¬ ba ≤ m := by omega
  have hmx : Tryz.prog.follows .mixedOrders = true := by kernel_rfl
  clear h h1 h2 hm
  have HR := Lib.hid hr
  have HN := Lib.hid hn
  have HF := Lib.hid hf
  have HRR := Lib.hid hrr
  clear hr hn hf hrr
  go_enter Tryz.func15, Tryz.ntmps15
  go_upto_region 1 with fail
  generalize hW : (World.alloc (World.alloc (World.alloc w _) _) _) = W
  have hW9 : Below w.heap.size w W ∧ At0 W w.heap.size [.slice A n c, .slice A2 n2 c2, .slice A3 n3 c3] 25 ∧ At0 W (w.heap.size + 1) [.int .i64 ba, .int .i64 la, .int .i64 fr, .int .i64 ep, .int .i64 pi, .int .i64 ge, .int .i64 se, .bool tx, .int .i64 ct, .slice AR nR cR] 28 ∧ At0 W (w.heap.size + 1 + 1) [.slice none 0 0, .slice none 0 0, .slice none 0 0] 25 := by
    rw [← hW]
    have h1 := At0.new (w.alloc (.cells #[.slice A n c, .slice A2 n2 c2, .slice A3 n3 c3] 25)) [.int .i64 ba, .int .i64 la, .int .i64 fr, .int .i64 ep, .int .i64 pi, .int .i64 ge, .int .i64 se, .bool tx, .int .i64 ct, .slice AR nR cR] 28
    have h2 := At0.new ((w.alloc (.cells #[.slice A n c, .slice A2 n2 c2, .slice A3 n3 c3] 25)).alloc (.cells #[.int .i64 ba, .int .i64 la, .int .i64 fr, .int .i64 ep, .int .i64 pi, .int .i64 ge, .int .i64 se, .bool tx, .int .i64 ct, .slice AR nR cR] 28)) [.slice none 0 0, .slice none 0 0, .slice none 0 0] 25
    simp only [World.size_alloc] at h1 h2
    exact ⟨bel_alloc (bel_alloc (bel_alloc (Below.refl _ _) _) _) _, ((At0.new w [.slice A n c, .slice A2 n2 c2, .slice A3 n3 c3] 25).below (belA _ _)).below (belA _ _), h1.below (belA _ _), h2⟩
  obtain ⟨hbW, hT, hB, hZ⟩ := hW9
  have hN2 := hZ.lt
  have HW_0 := Lib.hid hbW
  have HV_0 := Lib.hid (Below.refl W.heap.size W)
  have HT_0 := Lib.hid hT
  have HB_0 := Lib.hid hB
  have HZ_0 := Lib.hid hZ
  have HR_0 := Lib.hid (HR.out.below hbW)
  have HRR_0 := Lib.hid (rdrUp9 HRR.out hbW)
  clear hW hbW hT hB hZ
  obtain ⟨t00, t01, t02⟩ := cel3 HT_0.out
  obtain ⟨b00, b01, b02, b03, b04, b05, b06, b07, b08, b09⟩ := cel10 HB_0.out
  obtain ⟨z00, z01, z02⟩ := cel3 HZ_0.out
  obtain ⟨y00, y01, y02⟩ := frz3 HZ_0.out
  go_upto_region 6 with (first
    | (go_at_call 36; (with_reducible refine (BCheck0_is ba la fr ep pi ge se tx ct rs AR nR cR _ HF.out HRR_1.out hnR HBC.out).mono ?_); rintro e w2 ⟨rfl, hb⟩; have HW_2 := Lib.hid (bel_trans HW_1.out hb); have HV_2 := Lib.hid (bel_trans HV_1.out hb); have HT_2 := Lib.hid (HT_1.out.below hb); have HB_2 := Lib.hid (HB_1.out.below hb); have HZ_2 := Lib.hid (HZ_1.out.below hb); have HR_2 := Lib.hid (HR_1.out.below hb); have HRR_2 := Lib.hid (rdrUp9 HRR_1.out hb); clear hb; clear t10 t11 t12 b10 b11 b12 b13 b14 b15 b16 b17 b18 b19 z10 z11 z12 y10 y11 y12; obtain ⟨t20, t21, t22⟩ := cel3 HT_2.out; obtain ⟨b20, b21, b22, b23, b24, b25, b26, b27, b28, b29⟩ := cel10 HB_2.out; obtain ⟨z20, z21, z22⟩ := cel3 HZ_2.out; obtain ⟨y20, y21, y22⟩ := frz3 HZ_2.out)
    | (go_at_call 17; (with_reducible refine (dCheckT_is A n c A2 n2 c2 A3 n3 c3 t _ HR_0.out HN.out.reach HC.out).mono ?_); rintro e w1 ⟨rfl, hb⟩; have HW_1 := Lib.hid (bel_trans HW_0.out hb); have HV_1 := Lib.hid (bel_trans HV_0.out hb); have HT_1 := Lib.hid (HT_0.out.below hb); have HB_1 := Lib.hid (HB_0.out.below hb); have HZ_1 := Lib.hid (HZ_0.out.below hb); have HR_1 := Lib.hid (HR_0.out.below hb); have HRR_1 := Lib.hid (rdrUp9 HRR_0.out hb); clear hb; clear t00 t01 t02 b00 b01 b02 b03 b04 b05 b06 b07 b08 b09 z00 z01 z02 y00 y01 y02; obtain ⟨t10, t11, t12⟩ := cel3 HT_1.out; obtain ⟨b10, b11, b12, b13, b14, b15, b16, b17, b18, b19⟩ := cel10 HB_1.out; obtain ⟨z10, z11, z12⟩ := cel3 HZ_1.out; obtain ⟨y10, y11, y12⟩ := frz3 HZ_1.out))
  clear t20 t21 t22 b20 b21 b22 b23 b24 b25 b26 b27 b28 b29 z20 z21 z22 y20 y21 y22
  have hbd := (Below.refl w2.heap.size w2).drew
  have HW_R6 := Lib.hid (bel_trans HW_2.out hbd)
  have HV_R6 := Lib.hid (bel_trans HV_2.out hbd)
  have HT_R6 := Lib.hid (HT_2.out.below hbd)
  have HB_R6 := Lib.hid (HB_2.out.below hbd)
  have HZ_R6 := Lib.hid (HZ_2.out.below hbd)
  have HR_R6 := Lib.hid (HR_2.out.below hbd)
  have HRR_R6 := Lib.hid (rdrUp9 HRR_2.out hbd)
  have HSR6 := Lib.hid (show (fun W9 : World => W9.cell? ⟨w.heap.size, 0, none⟩ = some (.slice A n c) ∧ W9.cell? ⟨w.heap.size, 1, none⟩ = some (.slice A2 n2 c2) ∧ W9.cell? ⟨w.heap.size, 2, none⟩ = some (.slice A3 n3 c3) ∧ W9.cell? ⟨(w.heap.size + 1), 0, none⟩ = some (.int .i64 ba) ∧ W9.cell? ⟨(w.heap.size + 1), 1, none⟩ = some (.int .i64 la) ∧ W9.cell? ⟨(w.heap.size + 1), 2, none⟩ = some (.int .i64 fr) ∧ W9.cell? ⟨(w.heap.size + 1), 3, none⟩ = some (.int .i64 ep) ∧ W9.cell? ⟨(w.heap.size + 1), 4, none⟩ = some (.int .i64 pi) ∧ W9.cell? ⟨(w.heap.size + 1), 5, none⟩ = some (.int .i64 ge) ∧ W9.cell? ⟨(w.heap.size + 1), 6, none⟩ = some (.int .i64 se) ∧ W9.cell? ⟨(w.heap.size + 1), 7, none⟩ = some (.bool tx) ∧ W9.cell? ⟨(w.heap.size + 1), 8, none⟩ = some (.int .i64 ct) ∧ W9.cell? ⟨(w.heap.size + 1), 9, none⟩ = some (.slice AR nR cR)) w2.drew from ⟨HT_R6.out.cell 0, HT_R6.out.cell 1, HT_R6.out.cell 2, HB_R6.out.cell 0, HB_R6.out.cell 1, HB_R6.out.cell 2, HB_R6.out.cell 3, HB_R6.out.cell 4, HB_R6.out.cell 5, HB_R6.out.cell 6, HB_R6.out.cell 7, HB_R6.out.cell 8, HB_R6.out.cell 9⟩)
  clear hbd
  refine region_let (fun W9 : World => W9.cell? ⟨w.heap.size, 0, none⟩ = some (.slice A n c) ∧ W9.cell? ⟨w.heap.size, 1, none⟩ = some (.slice A2 n2 c2) ∧ W9.cell? ⟨w.heap.size, 2, none⟩ = some (.slice A3 n3 c3) ∧ W9.cell? ⟨(w.heap.size + 1), 0, none⟩ = some (.int .i64 ba) ∧ W9.cell? ⟨(w.heap.size + 1), 1, none⟩ = some (.int .i64 la) ∧ W9.cell? ⟨(w.heap.size + 1), 2, none⟩ = some (.int .i64 fr) ∧ W9.cell? ⟨(w.heap.size + 1), 3, none⟩ = some (.int .i64 ep) ∧ W9.cell? ⟨(w.heap.size + 1), 4, none⟩ = some (.int .i64 pi) ∧ W9.cell? ⟨(w.heap.size + 1), 5, none⟩ = some (.int .i64 ge) ∧ W9.cell? ⟨(w.heap.size + 1), 6, none⟩ = some (.int .i64 se) ∧ W9.cell? ⟨(w.heap.size + 1), 7, none⟩ = some (.bool tx) ∧ W9.cell? ⟨(w.heap.size + 1), 8, none⟩ = some (.int .i64 ct) ∧ W9.cell? ⟨(w.heap.size + 1), 9, none⟩ = some (.slice AR nR cR)) 99 6 hmx rfl fun ops Q HOPS HQ => ?_
  have HREG := reg_of HOPS tb_Put6 rfl (by kernel_rfl) (by kernel_rfl) (by decide)
  refine xq 0 HOPS HREG HSR6.out ?_; simp only [ls0, ls1]; refine xq 1 HOPS HREG HSR6.out ?_; simp only [ls0, ls1]; refine xq 2 HOPS HREG HSR6.out ?_; simp only [ls0, ls1]
  refine xc 3 HOPS ?_
  go_simp
  with_reducible refine (reach_is A n c A2 n2 c2 A3 n3 c3 t _ HR_R6.out HN.out.reach HM.out).mono ?_
  rintro e w3 ⟨rfl, hb⟩
  have HW_3 := Lib.hid (bel_trans HW_R6.out hb)
  have HV_3 := Lib.hid (bel_trans HV_R6.out hb)
  have HT_3 := Lib.hid (HT_R6.out.below hb)
  have HB_3 := Lib.hid (HB_R6.out.below hb)
  have HZ_3 := Lib.hid (HZ_R6.out.below hb)
  have HR_3 := Lib.hid (HR_R6.out.below hb)
  have HRR_3 := Lib.hid (rdrUp9 HRR_R6.out hb)
  have HSR6w3 := Lib.hid (show (fun W9 : World => W9.cell? ⟨w.heap.size, 0, none⟩ = some (.slice A n c) ∧ W9.cell? ⟨w.heap.size, 1, none⟩ = some (.slice A2 n2 c2) ∧ W9.cell? ⟨w.heap.size, 2, none⟩ = some (.slice A3 n3 c3) ∧ W9.cell? ⟨(w.heap.size + 1), 0, none⟩ = some (.int .i64 ba) ∧ W9.cell? ⟨(w.heap.size + 1), 1, none⟩ = some (.int .i64 la) ∧ W9.cell? ⟨(w.heap.size + 1), 2, none⟩ = some (.int .i64 fr) ∧ W9.cell? ⟨(w.heap.size + 1), 3, none⟩ = some (.int .i64 ep) ∧ W9.cell? ⟨(w.heap.size + 1), 4, none⟩ = some (.int .i64 pi) ∧ W9.cell? ⟨(w.heap.size + 1), 5, none⟩ = some (.int .i64 ge) ∧ W9.cell? ⟨(w.heap.size + 1), 6, none⟩ = some (.int .i64 se) ∧ W9.cell? ⟨(w.heap.size + 1), 7, none⟩ = some (.bool tx) ∧ W9.cell? ⟨(w.heap.size + 1), 8, none⟩ = some (.int .i64 ct) ∧ W9.cell? ⟨(w.heap.size + 1), 9, none⟩ = some (.slice AR nR cR)) w3 from ⟨HT_3.out.cell 0, HT_3.out.cell 1, HT_3.out.cell 2, HB_3.out.cell 0, HB_3.out.cell 1, HB_3.out.cell 2, HB_3.out.cell 3, HB_3.out.cell 4, HB_3.out.cell 5, HB_3.out.cell 6, HB_3.out.cell 7, HB_3.out.cell 8, HB_3.out.cell 9⟩)
  clear hb
  refine ⟨HSR6w3.out, ?_⟩
  refine xq 4 HOPS HREG HSR6w3.out ?_; simp only [ls0, ls1]; refine xq 5 HOPS HREG HSR6w3.out ?_; simp only [ls0, ls1]
  refine stepE HOPS (by kernel_rfl) (HQ.out _ _ ?_)
  clear HQ HREG HOPS
  clear Q ops
  obtain ⟨t30, t31, t32⟩ := cel3 HT_3.out
  obtain ⟨b30, b31, b32, b33, b34, b35, b36, b37, b38, b39⟩ := cel10 HB_3.out
  obtain ⟨z30, z31, z32⟩ := cel3 HZ_3.out
  obtain ⟨y30, y31, y32⟩ := frz3 HZ_3.out
  go_upto_region 9 with (go_at_call 39; (with_reducible refine (copies_is A n c A2 n2 c2 A3 n3 c3 t _ HR_3.out (by have := HN.out.a; omega) (by have := HN.out.b; omega) (by have := HN.out.c; omega)).mono ?_); rintro e w4 ⟨A4, c4, A5, c5, A6, c6, rfl, ho, hb⟩; have HW_4 := Lib.hid (bel_trans HW_3.out hb); have HV_4 := Lib.hid (bel_trans HV_3.out hb); have HT_4 := Lib.hid (HT_3.out.below hb); have HB_4 := Lib.hid (HB_3.out.below hb); have HZ_4 := Lib.hid (HZ_3.out.below hb); have HR_4 := Lib.hid (HR_3.out.below hb); have HRR_4 := Lib.hid (rdrUp9 HRR_3.out hb); have HO_4 := Lib.hid (ho.more (HV_3.out.size)); clear hb ho; clear t30 t31 t32 b30 b31 b32 b33 b34 b35 b36 b37 b38 b39 z30 z31 z32 y30 y31 y32; obtain ⟨t40, t41, t42⟩ := cel3 HT_4.out; obtain ⟨b40, b41, b42, b43, b44, b45, b46, b47, b48, b49⟩ := cel10 HB_4.out; obtain ⟨z40, z41, z42⟩ := cel3 HZ_4.out; obtain ⟨y40, y41, y42⟩ := frz3 HZ_4.out; obtain ⟨x40, x41, x42⟩ := frz3 HT_4.out)
  clear t40 t41 t42 b40 b41 b42 b43 b44 b45 b46 b47 b48 b49 z40 z41 z42 y40 y41 y42
  clear x40 x41 x42
  have hoff := HO_4.out.offBelow (g := w.heap.size) (Nat.lt_trans (by omega) hN2)
  have hT5 := at0_set9 (at0_set9 (at0_set9 HT_4.out 0 (.slice A4 n c4)) 1 (.slice A5 n2 c5)) 2 (.slice A6 n3 c6)
  have hB5 := at_set (at_set (at_set HB_4.out (b := w.heap.size) (by omega) 0 (.slice A4 n c4)) (b := w.heap.size) (by omega) 1 (.slice A5 n2 c5)) (b := w.heap.size) (by omega) 2 (.slice A6 n3 c6)
  have hZ5 := at_set (at_set (at_set HZ_4.out (b := w.heap.size) (by omega) 0 (.slice A4 n c4)) (b := w.heap.size) (by omega) 1 (.slice A5 n2 c5)) (b := w.heap.size) (by omega) 2 (.slice A6 n3 c6)
  have hO5 := ((HO_4.out.set hoff 0 (.slice A4 n c4)).set hoff 1 (.slice A5 n2 c5)).set hoff 2 (.slice A6 n3 c6)
  have hW5 := ((HW_4.out.setCell (p := ⟨w.heap.size, 0, none⟩) (Nat.le_refl _) (.slice A4 n c4)).setCell (p := ⟨w.heap.size, 1, none⟩) (Nat.le_refl _) (.slice A5 n2 c5)).setCell (p := ⟨w.heap.size, 2, none⟩) (Nat.le_refl _) (.slice A6 n3 c6)
  have hs5 : W.heap.size ≤ (((w4.setCell ⟨w.heap.size, 0, none⟩ (.slice A4 n c4)).setCell ⟨w.heap.size, 1, none⟩ (.slice A5 n2 c5)).setCell ⟨w.heap.size, 2, none⟩ (.slice A6 n3 c6)).heap.size := by simpa using HV_4.out.size
  generalize (((w4.setCell ⟨w.heap.size, 0, none⟩ (.slice A4 n c4)).setCell ⟨w.heap.size, 1, none⟩ (.slice A5 n2 c5)).setCell ⟨w.heap.size, 2, none⟩ (.slice A6 n3 c6)) = V at *
  have HT_5 := Lib.hid (show At0 V w.heap.size [.slice A4 n c4, .slice A5 n2 c5, .slice A6 n3 c6] 25 from hT5)
  have HB_5 := Lib.hid hB5
  have HZ_5 := Lib.hid hZ5
  have HO_5 := Lib.hid hO5
  have HW_5 := Lib.hid hW5
  have HS_5 := Lib.hid hs5
  have HV_5 := Lib.hid (Below.refl V.heap.size V)
  clear hT5 hB5 hZ5 hO5 hW5 hs5 hoff
  have HFI := Lib.hid (find_is A4 n c4 t.op pi V HO_5.out.rd.op (by have := HN.out.a; omega) (ckT_iff.1 HCK.out).1 (k := atO t.op pi) rfl HH.out)
  obtain ⟨t50, t51, t52⟩ := cel3 HT_5.out
  obtain ⟨b50, b51, b52, b53, b54, b55, b56, b57, b58, b59⟩ := cel10 HB_5.out
  obtain ⟨z50, z51, z52⟩ := cel3 HZ_5.out
  obtain ⟨y50, y51, y52⟩ := frz3 HZ_5.out
  go_wp2_with (first
        | (go_at_call 44; (with_reducible refine (begins_is ba la fr ep pi ge se tx ct AR nR cR _ HG.out).mono ?_); rintro e w7 ⟨rfl, hb⟩; have HW_7 := Lib.hid (bel_trans HW_6.out hb); have HV_7 := Lib.hid (bel_trans HV_6.out hb); have HT_7 := Lib.hid (HT_6.out.below hb); have HB_7 := Lib.hid (HB_6.out.below hb); have HZ_7 := Lib.hid (HZ_6.out.below hb); have HO_7 := Lib.hid (HO_6.out.below hb); clear hb; clear t60 t61 t62 b60 b61 b62 b63 b64 b65 b66 b67 b68 b69 z60 z61 z62 y60 y61 y62; clear x60 x61 x62; obtain ⟨t70, t71, t72⟩ := cel3 HT_7.out; obtain ⟨b70, b71, b72, b73, b74, b75, b76, b77, b78, b79⟩ := cel10 HB_7.out; obtain ⟨z70, z71, z72⟩ := cel3 HZ_7.out; obtain ⟨y70, y71, y72⟩ := frz3 HZ_7.out; obtain ⟨x70, x71, x72⟩ := frz3 HT_7.out)
        | (go_at_call 40; (with_reducible refine (HFI.out).mono ?_); rintro e w6 ⟨rfl, hb⟩; have HW_6 := Lib.hid (bel_trans HW_5.out hb); have HV_6 := Lib.hid (bel_trans HV_5.out hb); have HT_6 := Lib.hid (HT_5.out.below hb); have HB_6 := Lib.hid (HB_5.out.below hb); have HZ_6 := Lib.hid (HZ_5.out.below hb); have HO_6 := Lib.hid (HO_5.out.below hb); clear hb; clear t50 t51 t52 b50 b51 b52 b53 b54 b55 b56 b57 b58 b59 z50 z51 z52 y50 y51 y52; obtain ⟨t60, t61, t62⟩ := cel3 HT_6.out; obtain ⟨b60, b61, b62, b63, b64, b65, b66, b67, b68, b69⟩ := cel10 HB_6.out; obtain ⟨z60, z61, z62⟩ := cel3 HZ_6.out; obtain ⟨y60, y61, y62⟩ := frz3 HZ_6.out; obtain ⟨x60, x61, x62⟩ := frz3 HT_6.out))
  have hF := at0_set9 (at0_set9 (at0_set9 HZ_7.out 0 (.slice A4 n c4)) 1 (.slice A5 n2 c5)) 2 (.slice A6 n3 c6)
  obtain ⟨k0, k1, k2⟩ := cel3 (show At0 _ _ [.slice A4 n c4, .slice A5 n2 c5, .slice A6 n3 c6] _ from hF)
  refine bodyPost_ret (v := .tuple #[.agg #[.slice A4 n c4, .slice A5 n2 c5, .slice A6 n3 c6], .int .i64 0]) (by simp [results, Tryz.results15, go_sem, k0, k1, k2]) rfl ?_
  have hoff := HO_7.out.offBelow (g := w.heap.size + 1 + 1) hN2
  exact ⟨A4, n, c4, A5, n2, c5, A6, n3, c6, rfl, (((HO_7.out.set hoff _ _).set hoff _ _).set hoff _ _).more HW_0.out.size, ((HW_7.out.setCell (by simp only; omega) _).setCell (by simp only; omega) _).setCell (by simp only; omega) _⟩
end Go.Proofs.YtlfbagkonckffaaGreat.Txn
