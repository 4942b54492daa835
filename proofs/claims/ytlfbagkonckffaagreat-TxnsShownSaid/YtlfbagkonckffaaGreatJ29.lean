/- Joined: TxnBC, TxnD9, BatBox. -/
import Derived.Test.YtlfbagkonckffaaGreatJ28
import Derived.Test.YtlfbagkonckffaaGreatJ17
import Derived.Test.YtlfbagkonckffaaGreatJ19
import Derived.Test.YtlfbagkonckffaaGreatJ20
import Derived.LoopTactic
/- The landed batch.Check, at a program without the sum's table. -/
namespace Go.Proofs.YtlfbagkonckffaaGreat.Bat
open Go.RowKit Oct Rec

set_option maxRecDepth 100000 in
set_option maxHeartbeats 4000000 in
theorem BCheck0_any (ba la fr ep pi ge se : Int) (tx : Bool) (ct : Int) (rs : List Rc) (A : Option Addr) (n c : Nat) (w : World) (hF : Fits ⟨ba, la, fr, ep, pi, ge, se, tx, ct, rs⟩) (hr : RdR w w.heap.size A n rs) (hn : n ≤ 1099511627776) :
    Calls Tryz.prog 36 #[.agg #[.int .i64 ba, .int .i64 la, .int .i64 fr, .int .i64 ep, .int .i64 pi, .int .i64 ge, .int .i64 se, .bool tx, .int .i64 ct, .slice A n c]] w fun e w' => e = .returned (.int .i64 (chB ⟨ba, la, fr, ep, pi, ge, se, tx, ct, rs⟩)) ∧ Below w.heap.size w w' := by
  have hb0 := bel_alloc (Below.refl w.heap.size w) (.cells #[.int .i64 ba, .int .i64 la, .int .i64 fr, .int .i64 ep, .int .i64 pi, .int .i64 ge, .int .i64 se, .bool tx, .int .i64 ct, .slice A n c] 28)
  have hrA : ∀ w', Below w.heap.size w w' → RdR w' w'.heap.size A n rs := fun w' hb => (hr.below hb (Nat.le_refl _)).more hb.size
  have HB0 := Lib.hid hb0
  have HRA := Lib.hid hrA
  have HFT := Lib.hid hF
  have HBX := Lib.hid (boxB_new w 28 ⟨ba, la, fr, ep, pi, ge, se, tx, ct, rs⟩ (.slice A n c))
  have hsz : w.heap.size < (w.alloc (.cells #[.int .i64 ba, .int .i64 la, .int .i64 fr, .int .i64 ep, .int .i64 pi, .int .i64 ge, .int .i64 se, .bool tx, .int .i64 ct, .slice A n c] 28)).heap.size := by simp
  obtain ⟨z, hz⟩ : ∃ z, chB ⟨ba, la, fr, ep, pi, ge, se, tx, ct, rs⟩ = z := ⟨_, rfl⟩
  obtain ⟨l, hl⟩ : ∃ l, boB ⟨ba, la, fr, ep, pi, ge, se, tx, ct, rs⟩ = l := ⟨_, rfl⟩
  have HC := Lib.hid hz
  have HBO := Lib.hid hl
  rw [hz]
  clear hr hF hb0 hrA hz hl
  go_enter Tryz.func36, Tryz.ntmps36
  go_wp2_with (go_at_call 69; (with_reducible refine (bodyOf_any ba la fr ep pi ge se tx ct rs A n c _ HFT.out (HRA.out _ HB0.out) hn).mono ?_); rw [HC.out, HBO.out]; rintro e w2 ⟨A2, n2, c2, rfl, hown2, hb2⟩; have HO2 := Lib.hid hown2; have HB2 := Lib.hid (bel_trans HB0.out hb2); have hs2 := hb2.size; have hs0 := HB0.out.size; clear hown2 hb2)
  go_ret
  exact ⟨rfl, HB2.out⟩
theorem BCheck0_is (ba la fr ep pi ge se : Int) (tx : Bool) (ct : Int) (rs : List Rc) (A : Option Addr) (n c : Nat) (w : World) (hf : Fits ⟨ba, la, fr, ep, pi, ge, se, tx, ct, rs⟩) (hr : RdR w w.heap.size A n rs) (hn : n ≤ 1099511627776) {z : Int} (h : chB ⟨ba, la, fr, ep, pi, ge, se, tx, ct, rs⟩ = z) :
    Calls Tryz.prog 36 #[.agg #[.int .i64 ba, .int .i64 la, .int .i64 fr, .int .i64 ep, .int .i64 pi, .int .i64 ge, .int .i64 se, .bool tx, .int .i64 ct, .slice A n c]] w fun e w' => e = .returned (.int .i64 z) ∧ Below w.heap.size w w' := by
  subst h; exact BCheck0_any ba la fr ep pi ge se tx ct rs A n c w hf hr hn
end Go.Proofs.YtlfbagkonckffaaGreat.Bat

/- The landed txns: Put, where it tells an error. -/
namespace Go.Proofs.YtlfbagkonckffaaGreat.Txn
open Go.RowKit Go.Shelf Oct Rec RowF Lay InR RngQ Bat RowL
open Epo (At0 AtO belA cel2)
open Sqs (at0_grown at0_set9 grown_set9 grown_bel grown_then)

attribute [local go_sem] Oper.semAt_some

structure Few3 (n n2 n3 : Nat) : Prop where
  a : n ≤ 1000
  b : n2 ≤ 1000
  c : n3 ≤ 1000
theorem Few3.reach {n n2 n3 : Nat} (h : Few3 n n2 n3) : FewN n n2 n3 := ⟨Nat.le_trans h.a (by decide), Nat.le_trans h.b (by decide), Nat.le_trans h.c (by decide)⟩
def PutTO (w : World) (X : Tx) (E : Int) (e : Ending) (w' : World) : Prop :=
  ∃ A n c A2 n2 c2 A3 n3 c3, e = .returned (.tuple #[.agg #[.slice A n c, .slice A2 n2 c2, .slice A3 n3 c3], .int .i64 E]) ∧ OwnTx w' w.heap.size A n c A2 n2 c2 A3 n3 c3 X ∧ Below w.heap.size w w'
theorem rdrUp9 {w w' : World} {A : Option Addr} {n : Nat} {l : List Rc} (h : RdR w w.heap.size A n l) (hb : Below w.heap.size w w') : RdR w' w'.heap.size A n l := (h.below hb (Nat.le_refl _)).more hb.size
theorem cel10 {W : World} {g : Nat} {a0 a1 a2 a3 a4 a5 a6 a7 a8 a9 : Value} {e : TypeId} (h : At0 W g [a0, a1, a2, a3, a4, a5, a6, a7, a8, a9] e) : W.cell? ⟨g, 0, none⟩ = some a0 ∧ W.cell? ⟨g, 1, none⟩ = some a1 ∧ W.cell? ⟨g, 2, none⟩ = some a2 ∧ W.cell? ⟨g, 3, none⟩ = some a3 ∧ W.cell? ⟨g, 4, none⟩ = some a4 ∧ W.cell? ⟨g, 5, none⟩ = some a5 ∧ W.cell? ⟨g, 6, none⟩ = some a6 ∧ W.cell? ⟨g, 7, none⟩ = some a7 ∧ W.cell? ⟨g, 8, none⟩ = some a8 ∧ W.cell? ⟨g, 9, none⟩ = some a9 :=
  ⟨h.cell 0, h.cell 1, h.cell 2, h.cell 3, h.cell 4, h.cell 5, h.cell 6, h.cell 7, h.cell 8, h.cell 9⟩
set_option maxRecDepth 100000 in
set_option maxHeartbeats 8000000 in
theorem pCk_is (A : Option Addr) (n c : Nat) (A2 : Option Addr) (n2 c2 : Nat) (A3 : Option Addr) (n3 c3 : Nat) (t : Tx) (ba la fr ep pi ge se : Int) (tx : Bool) (ct : Int) (AR : Option Addr) (nR cR : Nat) (rs : List Rc) (w : World) (hr : RdT w A n A2 n2 A3 n3 t) (hn : Few3 n n2 n3) (hf : Fits ⟨ba, la, fr, ep, pi, ge, se, tx, ct, rs⟩) (hrr : RdR w w.heap.size AR nR rs) (_hnR : nR ≤ 1099511627776) (h : ckT t = false) :
    Calls Tryz.prog 15 #[.agg #[.slice A n c, .slice A2 n2 c2, .slice A3 n3 c3], .agg #[.int .i64 ba, .int .i64 la, .int .i64 fr, .int .i64 ep, .int .i64 pi, .int .i64 ge, .int .i64 se, .bool tx, .int .i64 ct, .slice AR nR cR]] w (PutTO w nilT 1) := by
  have HC := Lib.hid (show ceT t = 1 from by unfold ceT; rw [h]; rfl)
  clear h
  have HR := Lib.hid hr
  have HN := Lib.hid hn
  have HF := Lib.hid hf
  have HRR := Lib.hid hrr
  clear hr hn hf hrr
  go_enter Tryz.func15, Tryz.ntmps15
  go_upto_region 1 with fail
  generalize hW : (World.alloc (World.alloc (World.alloc w _) _) _) = W
  have hW9 : Below w.heap.size w W ∧ At0 W w.heap.size [.slice A n c, .slice A2 n2 c2, .slice A3 n3 c3] 25 ∧ At0 W (w.heap.size + 1) [.int .i64 ba, .int .i64 la, .int .i64 fr, .int .i64 ep, .int .i64 pi, .int .i64 ge, .int .i64 se, .bool tx, .int .i64 ct, .slice AR nR cR] 28 ∧ At0 W (w.heap.size + 1 + 1) [.slice none 0 0, .slice none 0 0, .slice none 0 0] 25 := by
    rw [← hW]
    have h1 := At0.new (w.alloc (.cells #[.slice A n c, .slice A2 n2 c2, .slice A3 n3 c3] 25)) [.int .i64 ba, .int .i64 la, .int .i64 fr, .int .i64 ep, .int .i64 pi, .int .i64 ge, .int .i64 se, .bool tx, .int .i64 ct, .slice AR nR cR] 28
    have h2 := At0.new ((w.alloc (.cells #[.slice A n c, .slice A2 n2 c2, .slice A3 n3 c3] 25)).alloc (.cells #[.int .i64 ba, .int .i64 la, .int .i64 fr, .int .i64 ep, .int .i64 pi, .int .i64 ge, .int .i64 se, .bool tx, .int .i64 ct, .slice AR nR cR] 28)) [.slice none 0 0, .slice none 0 0, .slice none 0 0] 25
    simp only [World.size_alloc] at h1 h2
    exact ⟨bel_alloc (bel_alloc (bel_alloc (Below.refl _ _) _) _) _, ((At0.new w [.slice A n c, .slice A2 n2 c2, .slice A3 n3 c3] 25).below (belA _ _)).below (belA _ _), h1.below (belA _ _), h2⟩
  obtain ⟨hbW, hT, hB, hZ⟩ := hW9
  have hN2 := hZ.lt
  have HW_0 := Lib.hid hbW
  have HV_0 := Lib.hid (Below.refl W.heap.size W)
  have HT_0 := Lib.hid hT
  have HB_0 := Lib.hid hB
  have HZ_0 := Lib.hid hZ
  have HR_0 := Lib.hid (HR.out.below hbW)
  have HRR_0 := Lib.hid (rdrUp9 HRR.out hbW)
  clear hW hbW hT hB hZ
  obtain ⟨t00, t01, t02⟩ := cel3 HT_0.out
  obtain ⟨b00, b01, b02, b03, b04, b05, b06, b07, b08, b09⟩ := cel10 HB_0.out
  obtain ⟨z00, z01, z02⟩ := cel3 HZ_0.out
  obtain ⟨y00, y01, y02⟩ := frz3 HZ_0.out
  go_wp2_with (first
    | (go_at_call 17; (with_reducible refine (dCheckT_is A n c A2 n2 c2 A3 n3 c3 t _ HR_0.out HN.out.reach HC.out).mono ?_); rintro e w1 ⟨rfl, hb⟩; have HW_1 := Lib.hid (bel_trans HW_0.out hb); have HV_1 := Lib.hid (bel_trans HV_0.out hb); have HT_1 := Lib.hid (HT_0.out.below hb); have HB_1 := Lib.hid (HB_0.out.below hb); have HZ_1 := Lib.hid (HZ_0.out.below hb); have HR_1 := Lib.hid (HR_0.out.below hb); have HRR_1 := Lib.hid (rdrUp9 HRR_0.out hb); clear hb; clear t00 t01 t02 b00 b01 b02 b03 b04 b05 b06 b07 b08 b09 z00 z01 z02 y00 y01 y02; obtain ⟨t10, t11, t12⟩ := cel3 HT_1.out; obtain ⟨b10, b11, b12, b13, b14, b15, b16, b17, b18, b19⟩ := cel10 HB_1.out; obtain ⟨z10, z11, z12⟩ := cel3 HZ_1.out; obtain ⟨y10, y11, y12⟩ := frz3 HZ_1.out))
  have hF := at0_set9 (at0_set9 (at0_set9 HZ_1.out 0 (.slice none 0 0)) 1 (.slice none 0 0)) 2 (.slice none 0 0)
  obtain ⟨k0, k1, k2⟩ := cel3 (show At0 _ _ [.slice none 0 0, .slice none 0 0, .slice none 0 0] _ from hF)
  refine bodyPost_ret (v := .tuple #[.agg #[.slice none 0 0, .slice none 0 0, .slice none 0 0], .int .i64 (1)]) (by simp [results, Tryz.results15, go_sem, k0, k1, k2]) rfl ?_
  exact ⟨none, 0, 0, none, 0, 0, none, 0, 0, rfl, nilTx _ _, ((HW_1.out.setCell (by simp only; omega) _).setCell (by simp only; omega) _).setCell (by simp only; omega) _⟩
set_option maxRecDepth 100000 in
set_option maxHeartbeats 8000000 in
theorem pBc_is (A : Option Addr) (n c : Nat) (A2 : Option Addr) (n2 c2 : Nat) (A3 : Option Addr) (n3 c3 : Nat) (t : Tx) (ba la fr ep pi ge se : Int) (tx : Bool) (ct : Int) (AR : Option Addr) (nR cR : Nat) (rs : List Rc) (w : World) (hr : RdT w A n A2 n2 A3 n3 t) (hn : Few3 n n2 n3) (hf : Fits ⟨ba, la, fr, ep, pi, ge, se, tx, ct, rs⟩) (hrr : RdR w w.heap.size AR nR rs) (hnR : nR ≤ 1099511627776) (h : ckT t = true) {z : Int} (h1 : chB ⟨ba, la, fr, ep, pi, ge, se, tx, ct, rs⟩ = z) (h2 : z ≠ 0) :
    Calls Tryz.prog 15 #[.agg #[.slice A n c, .slice A2 n2 c2, .slice A3 n3 c3], .agg #[.int .i64 ba, .int .i64 la, .int .i64 fr, .int .i64 ep, .int .i64 pi, .int .i64 ge, .int .i64 se, .bool tx, .int .i64 ct, .slice AR nR cR]] w (PutTO w nilT z) := by
  have HC := Lib.hid (show ceT t = 0 from by unfold ceT; rw [h]; rfl)
  have HBC := Lib.hid h1
  have g1 : (z == 0) = false := beq_eq_false_iff_ne.2 h2
  clear h h1 h2
  have HR := Lib.hid hr
  have HN := Lib.hid hn
  have HF := Lib.hid hf
  have HRR := Lib.hid hrr
  clear hr hn hf hrr
  go_enter Tryz.func15, Tryz.ntmps15
  go_upto_region 1 with fail
  generalize hW : (World.alloc (World.alloc (World.alloc w _) _) _) = W
  have hW9 : Below w.heap.size w W ∧ At0 W w.heap.size [.slice A n c, .slice A2 n2 c2, .slice A3 n3 c3] 25 ∧ At0 W (w.heap.size + 1) [.int .i64 ba, .int .i64 la, .int .i64 fr, .int .i64 ep, .int .i64 pi, .int .i64 ge, .int .i64 se, .bool tx, .int .i64 ct, .slice AR nR cR] 28 ∧ At0 W (w.heap.size + 1 + 1) [.slice none 0 0, .slice none 0 0, .slice none 0 0] 25 := by
    rw [← hW]
    have h1 := At0.new (w.alloc (.cells #[.slice A n c, .slice A2 n2 c2, .slice A3 n3 c3] 25)) [.int .i64 ba, .int .i64 la, .int .i64 fr, .int .i64 ep, .int .i64 pi, .int .i64 ge, .int .i64 se, .bool tx, .int .i64 ct, .slice AR nR cR] 28
    have h2 := At0.new ((w.alloc (.cells #[.slice A n c, .slice A2 n2 c2, .slice A3 n3 c3] 25)).alloc (.cells #[.int .i64 ba, .int .i64 la, .int .i64 fr, .int .i64 ep, .int .i64 pi, .int .i64 ge, .int .i64 se, .bool tx, .int .i64 ct, .slice AR nR cR] 28)) [.slice none 0 0, .slice none 0 0, .slice none 0 0] 25
    simp only [World.size_alloc] at h1 h2
    exact ⟨bel_alloc (bel_alloc (bel_alloc (Below.refl _ _) _) _) _, ((At0.new w [.slice A n c, .slice A2 n2 c2, .slice A3 n3 c3] 25).below (belA _ _)).below (belA _ _), h1.below (belA _ _), h2⟩
  obtain ⟨hbW, hT, hB, hZ⟩ := hW9
  have hN2 := hZ.lt
  have HW_0 := Lib.hid hbW
  have HV_0 := Lib.hid (Below.refl W.heap.size W)
  have HT_0 := Lib.hid hT
  have HB_0 := Lib.hid hB
  have HZ_0 := Lib.hid hZ
  have HR_0 := Lib.hid (HR.out.below hbW)
  have HRR_0 := Lib.hid (rdrUp9 HRR.out hbW)
  clear hW hbW hT hB hZ
  obtain ⟨t00, t01, t02⟩ := cel3 HT_0.out
  obtain ⟨b00, b01, b02, b03, b04, b05, b06, b07, b08, b09⟩ := cel10 HB_0.out
  obtain ⟨z00, z01, z02⟩ := cel3 HZ_0.out
  obtain ⟨y00, y01, y02⟩ := frz3 HZ_0.out
  go_wp2_with (first
    | (go_at_call 36; (with_reducible refine (BCheck0_is ba la fr ep pi ge se tx ct rs AR nR cR _ HF.out HRR_1.out hnR HBC.out).mono ?_); rintro e w2 ⟨rfl, hb⟩; have HW_2 := Lib.hid (bel_trans HW_1.out hb); have HV_2 := Lib.hid (bel_trans HV_1.out hb); have HT_2 := Lib.hid (HT_1.out.below hb); have HB_2 := Lib.hid (HB_1.out.below hb); have HZ_2 := Lib.hid (HZ_1.out.below hb); have HR_2 := Lib.hid (HR_1.out.below hb); have HRR_2 := Lib.hid (rdrUp9 HRR_1.out hb); clear hb; clear t10 t11 t12 b10 b11 b12 b13 b14 b15 b16 b17 b18 b19 z10 z11 z12 y10 y11 y12; obtain ⟨t20, t21, t22⟩ := cel3 HT_2.out; obtain ⟨b20, b21, b22, b23, b24, b25, b26, b27, b28, b29⟩ := cel10 HB_2.out; obtain ⟨z20, z21, z22⟩ := cel3 HZ_2.out; obtain ⟨y20, y21, y22⟩ := frz3 HZ_2.out)
    | (go_at_call 17; (with_reducible refine (dCheckT_is A n c A2 n2 c2 A3 n3 c3 t _ HR_0.out HN.out.reach HC.out).mono ?_); rintro e w1 ⟨rfl, hb⟩; have HW_1 := Lib.hid (bel_trans HW_0.out hb); have HV_1 := Lib.hid (bel_trans HV_0.out hb); have HT_1 := Lib.hid (HT_0.out.below hb); have HB_1 := Lib.hid (HB_0.out.below hb); have HZ_1 := Lib.hid (HZ_0.out.below hb); have HR_1 := Lib.hid (HR_0.out.below hb); have HRR_1 := Lib.hid (rdrUp9 HRR_0.out hb); clear hb; clear t00 t01 t02 b00 b01 b02 b03 b04 b05 b06 b07 b08 b09 z00 z01 z02 y00 y01 y02; obtain ⟨t10, t11, t12⟩ := cel3 HT_1.out; obtain ⟨b10, b11, b12, b13, b14, b15, b16, b17, b18, b19⟩ := cel10 HB_1.out; obtain ⟨z10, z11, z12⟩ := cel3 HZ_1.out; obtain ⟨y10, y11, y12⟩ := frz3 HZ_1.out))
  have hF := at0_set9 (at0_set9 (at0_set9 HZ_2.out 0 (.slice none 0 0)) 1 (.slice none 0 0)) 2 (.slice none 0 0)
  obtain ⟨k0, k1, k2⟩ := cel3 (show At0 _ _ [.slice none 0 0, .slice none 0 0, .slice none 0 0] _ from hF)
  refine bodyPost_ret (v := .tuple #[.agg #[.slice none 0 0, .slice none 0 0, .slice none 0 0], .int .i64 (z)]) (by simp [results, Tryz.results15, go_sem, k0, k1, k2]) rfl ?_
  exact ⟨none, 0, 0, none, 0, 0, none, 0, 0, rfl, nilTx _ _, ((HW_2.out.setCell (by simp only; omega) _).setCell (by simp only; omega) _).setCell (by simp only; omega) _⟩
def tb_Put6 : List (Nat × Nat) := [(0, 63), (1, 62), (0, 63), (4, 59), (10, 53), (24, 47)]
set_option maxRecDepth 100000 in
set_option maxHeartbeats 8000000 in
theorem pOrd_is (A : Option Addr) (n c : Nat) (A2 : Option Addr) (n2 c2 : Nat) (A3 : Option Addr) (n3 c3 : Nat) (t : Tx) (ba la fr ep pi ge se : Int) (tx : Bool) (ct : Int) (AR : Option Addr) (nR cR : Nat) (rs : List Rc) (w : World) (hr : RdT w A n A2 n2 A3 n3 t) (hn : Few3 n n2 n3) (hf : Fits ⟨ba, la, fr, ep, pi, ge, se, tx, ct, rs⟩) (hrr : RdR w w.heap.size AR nR rs) (hnR : nR ≤ 1099511627776) (h : ckT t = true) (h1 : chB ⟨ba, la, fr, ep, pi, ge, se, tx, ct, rs⟩ = 0) (h2 : ba ≤ topT t) :
    Calls Tryz.prog 15 #[.agg #[.slice A n c, .slice A2 n2 c2, .slice A3 n3 c3], .agg #[.int .i64 ba, .int .i64 la, .int .i64 fr, .int .i64 ep, .int .i64 pi, .int .i64 ge, .int .i64 se, .bool tx, .int .i64 ct, .slice AR nR cR]] w (PutTO w nilT 71) := by
  have HC := Lib.hid (show ceT t = 0 from by unfold ceT; rw [h]; rfl)
  have HBC := Lib.hid h1
  obtain ⟨m, hm⟩ : ∃ m, topT t = m := ⟨_, rfl⟩
  have HM := Lib.hid hm
  have hle : ba ≤ m := by omega
  have hmx : Tryz.prog.follows .mixedOrders = true := by kernel_rfl
  clear h h1 h2 hm
  have HR := Lib.hid hr
  have HN := Lib.hid hn
  have HF := Lib.hid hf
  have HRR := Lib.hid hrr
  clear hr hn hf hrr
  go_enter Tryz.func15, Tryz.ntmps15
  go_upto_region 1 with fail
  generalize hW : (World.alloc (World.alloc (World.alloc w _) _) _) = W
  have hW9 : Below w.heap.size w W ∧ At0 W w.heap.size [.slice A n c, .slice A2 n2 c2, .slice A3 n3 c3] 25 ∧ At0 W (w.heap.size + 1) [.int .i64 ba, .int .i64 la, .int .i64 fr, .int .i64 ep, .int .i64 pi, .int .i64 ge, .int .i64 se, .bool tx, .int .i64 ct, .slice AR nR cR] 28 ∧ At0 W (w.heap.size + 1 + 1) [.slice none 0 0, .slice none 0 0, .slice none 0 0] 25 := by
    rw [← hW]
    have h1 := At0.new (w.alloc (.cells #[.slice A n c, .slice A2 n2 c2, .slice A3 n3 c3] 25)) [.int .i64 ba, .int .i64 la, .int .i64 fr, .int .i64 ep, .int .i64 pi, .int .i64 ge, .int .i64 se, .bool tx, .int .i64 ct, .slice AR nR cR] 28
    have h2 := At0.new ((w.alloc (.cells #[.slice A n c, .slice A2 n2 c2, .slice A3 n3 c3] 25)).alloc (.cells #[.int .i64 ba, .int .i64 la, .int .i64 fr, .int .i64 ep, .int .i64 pi, .int .i64 ge, .int .i64 se, .bool tx, .int .i64 ct, .slice AR nR cR] 28)) [.slice none 0 0, .slice none 0 0, .slice none 0 0] 25
    simp only [World.size_alloc] at h1 h2
    exact ⟨bel_alloc (bel_alloc (bel_alloc (Below.refl _ _) _) _) _, ((At0.new w [.slice A n c, .slice A2 n2 c2, .slice A3 n3 c3] 25).below (belA _ _)).below (belA _ _), h1.below (belA _ _), h2⟩
  obtain ⟨hbW, hT, hB, hZ⟩ := hW9
  have hN2 := hZ.lt
  have HW_0 := Lib.hid hbW
  have HV_0 := Lib.hid (Below.refl W.heap.size W)
  have HT_0 := Lib.hid hT
  have HB_0 := Lib.hid hB
  have HZ_0 := Lib.hid hZ
  have HR_0 := Lib.hid (HR.out.below hbW)
  have HRR_0 := Lib.hid (rdrUp9 HRR.out hbW)
  clear hW hbW hT hB hZ
  obtain ⟨t00, t01, t02⟩ := cel3 HT_0.out
  obtain ⟨b00, b01, b02, b03, b04, b05, b06, b07, b08, b09⟩ := cel10 HB_0.out
  obtain ⟨z00, z01, z02⟩ := cel3 HZ_0.out
  obtain ⟨y00, y01, y02⟩ := frz3 HZ_0.out
  go_upto_region 6 with (first
    | (go_at_call 36; (with_reducible refine (BCheck0_is ba la fr ep pi ge se tx ct rs AR nR cR _ HF.out HRR_1.out hnR HBC.out).mono ?_); rintro e w2 ⟨rfl, hb⟩; have HW_2 := Lib.hid (bel_trans HW_1.out hb); have HV_2 := Lib.hid (bel_trans HV_1.out hb); have HT_2 := Lib.hid (HT_1.out.below hb); have HB_2 := Lib.hid (HB_1.out.below hb); have HZ_2 := Lib.hid (HZ_1.out.below hb); have HR_2 := Lib.hid (HR_1.out.below hb); have HRR_2 := Lib.hid (rdrUp9 HRR_1.out hb); clear hb; clear t10 t11 t12 b10 b11 b12 b13 b14 b15 b16 b17 b18 b19 z10 z11 z12 y10 y11 y12; obtain ⟨t20, t21, t22⟩ := cel3 HT_2.out; obtain ⟨b20, b21, b22, b23, b24, b25, b26, b27, b28, b29⟩ := cel10 HB_2.out; obtain ⟨z20, z21, z22⟩ := cel3 HZ_2.out; obtain ⟨y20, y21, y22⟩ := frz3 HZ_2.out)
    | (go_at_call 17; (with_reducible refine (dCheckT_is A n c A2 n2 c2 A3 n3 c3 t _ HR_0.out HN.out.reach HC.out).mono ?_); rintro e w1 ⟨rfl, hb⟩; have HW_1 := Lib.hid (bel_trans HW_0.out hb); have HV_1 := Lib.hid (bel_trans HV_0.out hb); have HT_1 := Lib.hid (HT_0.out.below hb); have HB_1 := Lib.hid (HB_0.out.below hb); have HZ_1 := Lib.hid (HZ_0.out.below hb); have HR_1 := Lib.hid (HR_0.out.below hb); have HRR_1 := Lib.hid (rdrUp9 HRR_0.out hb); clear hb; clear t00 t01 t02 b00 b01 b02 b03 b04 b05 b06 b07 b08 b09 z00 z01 z02 y00 y01 y02; obtain ⟨t10, t11, t12⟩ := cel3 HT_1.out; obtain ⟨b10, b11, b12, b13, b14, b15, b16, b17, b18, b19⟩ := cel10 HB_1.out; obtain ⟨z10, z11, z12⟩ := cel3 HZ_1.out; obtain ⟨y10, y11, y12⟩ := frz3 HZ_1.out))
  clear t20 t21 t22 b20 b21 b22 b23 b24 b25 b26 b27 b28 b29 z20 z21 z22 y20 y21 y22
  have hbd := (Below.refl w2.heap.size w2).drew
  have HW_R6 := Lib.hid (bel_trans HW_2.out hbd)
  have HV_R6 := Lib.hid (bel_trans HV_2.out hbd)
  have HT_R6 := Lib.hid (HT_2.out.below hbd)
  have HB_R6 := Lib.hid (HB_2.out.below hbd)
  have HZ_R6 := Lib.hid (HZ_2.out.below hbd)
  have HR_R6 := Lib.hid (HR_2.out.below hbd)
  have HRR_R6 := Lib.hid (rdrUp9 HRR_2.out hbd)
  have HSR6 := Lib.hid (show (fun W9 : World => W9.cell? ⟨w.heap.size, 0, none⟩ = some (.slice A n c) ∧ W9.cell? ⟨w.heap.size, 1, none⟩ = some (.slice A2 n2 c2) ∧ W9.cell? ⟨w.heap.size, 2, none⟩ = some (.slice A3 n3 c3) ∧ W9.cell? ⟨(w.heap.size + 1), 0, none⟩ = some (.int .i64 ba) ∧ W9.cell? ⟨(w.heap.size + 1), 1, none⟩ = some (.int .i64 la) ∧ W9.cell? ⟨(w.heap.size + 1), 2, none⟩ = some (.int .i64 fr) ∧ W9.cell? ⟨(w.heap.size + 1), 3, none⟩ = some (.int .i64 ep) ∧ W9.cell? ⟨(w.heap.size + 1), 4, none⟩ = some (.int .i64 pi) ∧ W9.cell? ⟨(w.heap.size + 1), 5, none⟩ = some (.int .i64 ge) ∧ W9.cell? ⟨(w.heap.size + 1), 6, none⟩ = some (.int .i64 se) ∧ W9.cell? ⟨(w.heap.size + 1), 7, none⟩ = some (.bool tx) ∧ W9.cell? ⟨(w.heap.size + 1), 8, none⟩ = some (.int .i64 ct) ∧ W9.cell? ⟨(w.heap.size + 1), 9, none⟩ = some (.slice AR nR cR)) w2.drew from ⟨HT_R6.out.cell 0, HT_R6.out.cell 1, HT_R6.out.cell 2, HB_R6.out.cell 0, HB_R6.out.cell 1, HB_R6.out.cell 2, HB_R6.out.cell 3, HB_R6.out.cell 4, HB_R6.out.cell 5, HB_R6.out.cell 6, HB_R6.out.cell 7, HB_R6.out.cell 8, HB_R6.out.cell 9⟩)
  clear hbd
  refine region_let (fun W9 : World => W9.cell? ⟨w.heap.size, 0, none⟩ = some (.slice A n c) ∧ W9.cell? ⟨w.heap.size, 1, none⟩ = some (.slice A2 n2 c2) ∧ W9.cell? ⟨w.heap.size, 2, none⟩ = some (.slice A3 n3 c3) ∧ W9.cell? ⟨(w.heap.size + 1), 0, none⟩ = some (.int .i64 ba) ∧ W9.cell? ⟨(w.heap.size + 1), 1, none⟩ = some (.int .i64 la) ∧ W9.cell? ⟨(w.heap.size + 1), 2, none⟩ = some (.int .i64 fr) ∧ W9.cell? ⟨(w.heap.size + 1), 3, none⟩ = some (.int .i64 ep) ∧ W9.cell? ⟨(w.heap.size + 1), 4, none⟩ = some (.int .i64 pi) ∧ W9.cell? ⟨(w.heap.size + 1), 5, none⟩ = some (.int .i64 ge) ∧ W9.cell? ⟨(w.heap.size + 1), 6, none⟩ = some (.int .i64 se) ∧ W9.cell? ⟨(w.heap.size + 1), 7, none⟩ = some (.bool tx) ∧ W9.cell? ⟨(w.heap.size + 1), 8, none⟩ = some (.int .i64 ct) ∧ W9.cell? ⟨(w.heap.size + 1), 9, none⟩ = some (.slice AR nR cR)) 99 6 hmx rfl fun ops Q HOPS HQ => ?_
  have HREG := reg_of HOPS tb_Put6 rfl (by kernel_rfl) (by kernel_rfl) (by decide)
  refine xq 0 HOPS HREG HSR6.out ?_; simp only [ls0, ls1]; refine xq 1 HOPS HREG HSR6.out ?_; simp only [ls0, ls1]; refine xq 2 HOPS HREG HSR6.out ?_; simp only [ls0, ls1]
  refine xc 3 HOPS ?_
  go_simp
  with_reducible refine (reach_is A n c A2 n2 c2 A3 n3 c3 t _ HR_R6.out HN.out.reach HM.out).mono ?_
  rintro e w3 ⟨rfl, hb⟩
  have HW_3 := Lib.hid (bel_trans HW_R6.out hb)
  have HV_3 := Lib.hid (bel_trans HV_R6.out hb)
  have HT_3 := Lib.hid (HT_R6.out.below hb)
  have HB_3 := Lib.hid (HB_R6.out.below hb)
  have HZ_3 := Lib.hid (HZ_R6.out.below hb)
  have HR_3 := Lib.hid (HR_R6.out.below hb)
  have HRR_3 := Lib.hid (rdrUp9 HRR_R6.out hb)
  have HSR6w3 := Lib.hid (show (fun W9 : World => W9.cell? ⟨w.heap.size, 0, none⟩ = some (.slice A n c) ∧ W9.cell? ⟨w.heap.size, 1, none⟩ = some (.slice A2 n2 c2) ∧ W9.cell? ⟨w.heap.size, 2, none⟩ = some (.slice A3 n3 c3) ∧ W9.cell? ⟨(w.heap.size + 1), 0, none⟩ = some (.int .i64 ba) ∧ W9.cell? ⟨(w.heap.size + 1), 1, none⟩ = some (.int .i64 la) ∧ W9.cell? ⟨(w.heap.size + 1), 2, none⟩ = some (.int .i64 fr) ∧ W9.cell? ⟨(w.heap.size + 1), 3, none⟩ = some (.int .i64 ep) ∧ W9.cell? ⟨(w.heap.size + 1), 4, none⟩ = some (.int .i64 pi) ∧ W9.cell? ⟨(w.heap.size + 1), 5, none⟩ = some (.int .i64 ge) ∧ W9.cell? ⟨(w.heap.size + 1), 6, none⟩ = some (.int .i64 se) ∧ W9.cell? ⟨(w.heap.size + 1), 7, none⟩ = some (.bool tx) ∧ W9.cell? ⟨(w.heap.size + 1), 8, none⟩ = some (.int .i64 ct) ∧ W9.cell? ⟨(w.heap.size + 1), 9, none⟩ = some (.slice AR nR cR)) w3 from ⟨HT_3.out.cell 0, HT_3.out.cell 1, HT_3.out.cell 2, HB_3.out.cell 0, HB_3.out.cell 1, HB_3.out.cell 2, HB_3.out.cell 3, HB_3.out.cell 4, HB_3.out.cell 5, HB_3.out.cell 6, HB_3.out.cell 7, HB_3.out.cell 8, HB_3.out.cell 9⟩)
  clear hb
  refine ⟨HSR6w3.out, ?_⟩
  refine xq 4 HOPS HREG HSR6w3.out ?_; simp only [ls0, ls1]; refine xq 5 HOPS HREG HSR6w3.out ?_; simp only [ls0, ls1]
  refine stepE HOPS (by kernel_rfl) (HQ.out _ _ ?_)
  clear HQ HREG HOPS
  clear Q ops
  obtain ⟨z30, z31, z32⟩ := cel3 HZ_3.out
  obtain ⟨y30, y31, y32⟩ := frz3 HZ_3.out
  go_wp2
  have hF := at0_set9 (at0_set9 (at0_set9 HZ_3.out 0 (.slice none 0 0)) 1 (.slice none 0 0)) 2 (.slice none 0 0)
  obtain ⟨k0, k1, k2⟩ := cel3 (show At0 _ _ [.slice none 0 0, .slice none 0 0, .slice none 0 0] _ from hF)
  refine bodyPost_ret (v := .tuple #[.agg #[.slice none 0 0, .slice none 0 0, .slice none 0 0], .int .i64 (71)]) (by simp [results, Tryz.results15, go_sem, k0, k1, k2]) rfl ?_
  exact ⟨none, 0, 0, none, 0, 0, none, 0, 0, rfl, nilTx _ _, ((HW_3.out.setCell (by simp only; omega) _).setCell (by simp only; omega) _).setCell (by simp only; omega) _⟩
end Go.Proofs.YtlfbagkonckffaaGreat.Txn

/- The contracts of the landed Check, Size and Put, their values written out; a batch in a box. -/
namespace Go.Proofs.YtlfbagkonckffaaGreat.Bat
open Go.RowKit Oct Rec Crc Lay

section
variable (ba la fr ep pi ge se : Int) (tx : Bool) (ct : Int) (rs : List Rc) (A : Option Addr) (n c : Nat) (w : World)
end

theorem RdR.alloc {w : World} {B : Nat} {A : Option Addr} {n : Nat} {l : List Rc} (h : RdR w B A n l) (hB : B ≤ w.heap.size) (o : Obj) : RdR (w.alloc o) B A n l := h.keep fun p hp => World.cell?_alloc_lt w o p (by omega)
structure BR (w : World) (g : Nat) (b : Bt) (A : Option Addr) (n c : Nat) : Prop where
  box : BoxB w g b (.slice A n c)
  lt : g < w.heap.size
  rd : RdR w w.heap.size A n b.recs
theorem BR.below {w w' : World} {g : Nat} {b : Bt} {A : Option Addr} {n c : Nat} (h : BR w g b A n c) (hb : Below w.heap.size w w') : BR w' g b A n c :=
  ⟨h.box.below hb h.lt, Nat.lt_of_lt_of_le h.lt hb.size, (h.rd.below hb (Nat.le_refl _)).more hb.size⟩
theorem BR.drew {w : World} {g : Nat} {b : Bt} {A : Option Addr} {n c : Nat} (h : BR w g b A n c) : BR w.drew g b A n c := ⟨h.box, h.lt, h.rd⟩
theorem BR.alloc {w : World} {g : Nat} {b : Bt} {A : Option Addr} {n c : Nat} (h : BR w g b A n c) (o : Obj) : BR (w.alloc o) g b A n c := h.below (bel_alloc (Below.refl _ _) o)
theorem BR.new {w : World} {b : Bt} {A : Option Addr} {n c : Nat} (e : TypeId) (h : RdR w w.heap.size A n b.recs) :
    BR (w.alloc (.cells #[.int .i64 b.base, .int .i64 b.last, .int .i64 b.frm, .int .i64 b.epoch, .int .i64 b.pid, .int .i64 b.gen, .int .i64 b.seq, .bool b.txn, .int .i64 b.ctl, .slice A n c] e)) w.heap.size b A n c :=
  ⟨boxB_new w e b _, by simp, (h.alloc (Nat.le_refl _) _).more (by simp)⟩

end Go.Proofs.YtlfbagkonckffaaGreat.Bat
