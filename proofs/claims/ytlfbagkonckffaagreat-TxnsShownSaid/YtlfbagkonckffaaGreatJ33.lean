/- Joined: TxnR2. -/
import Derived.Test.YtlfbagkonckffaaGreatJ05
import Derived.Test.YtlfbagkonckffaaGreatJ29
import Derived.Test.YtlfbagkonckffaaGreatJ15
import Derived.Test.YtlfbagkonckffaaGreatJ32
import Derived.Test.YtlfbagkonckffaaGreatJ12
import Derived.Test.YtlfbagkonckffaaGreatJ11
import Derived.Deep.RegionHeld
import Derived.BigRegion
/- The document's Rising; the laws' few, next, end. -/
namespace Go.Proofs.YtlfbagkonckffaaGreat.Txn
open Go.RowKit Oct Rec RowF Lay InR Bat
open Epo (At0 AtO belA cel2)

def tb_Rising4 : List (Nat × Nat) := [(0, 16777215), (0, 16777215), (3, 16777212), (4, 16777211), (8, 16777207), (16, 16777199), (48, 16777183), (64, 16777151), (192, 16777023), (320, 16776895), (512, 16776703), (512, 16776703), (3584, 16773631), (4608, 16772607), (8704, 16768511), (512, 16776703), (512, 16776703), (66048, 16711167), (164352, 16612863), (262656, 16514559), (524800, 16252415), (1065472, 15711743), (2097728, 14679487), (4194368, 12582847)]
theorem rdtUp9 {w w' : World} {A : Option Addr} {n : Nat} {l : List Bt} (h : Bat.RdT w w.heap.size A n l) (hb : Below w.heap.size w w') : Bat.RdT w' w'.heap.size A n l := (h.below hb (Nat.le_refl _)).more hb.size
def prvL (l : List Bt) : Nat → Int
  | 0 => -1
  | k + 1 => ((l[k]?).map Bt.last).getD 0
theorem risB_at {l : List Bt} {k : Nat} {x : Bt} {v : Int} (hk : l[k]? = some x) : risB v (l.drop k) = (decide (chB x = 0 ∧ v < x.base) && risB x.last (l.drop (k + 1))) := by
  rw [List.drop_eq_getElem_cons (List.getElem?_eq_some_iff.1 hk).1, (List.getElem?_eq_some_iff.1 hk).2]
  rfl
def riRel (l : List Bt) (n : Nat) (w : World) (iv : Value) (wr : World) : Prop :=
  ∃ k : Nat, iv = .int .i64 (k : Int) ∧ k ≤ n ∧ risB (-1) l = risB (prvL l k) (l.drop k) ∧ Below w.heap.size w wr
set_option maxRecDepth 100000 in
set_option maxHeartbeats 8000000 in
theorem rRising_is (A : Option Addr) (n c : Nat) (l : List Bt) (w : World) (hr : Bat.RdT w w.heap.size A n l) (hn : n ≤ reach) {z : Bool} (hz : risB (-1) l = z) :
    Calls Tryz.prog 33 #[.slice A n c] w fun e w' => e = .returned (.bool z) ∧ Below w.heap.size w w' := by
  have HR := Lib.hid hr
  have HLEN := Lib.hid hr.len
  have HZ := Lib.hid hz
  have hn9 : n ≤ 140737488351232 := hn
  have hmx : Tryz.prog.follows .mixedOrders = true := by kernel_rfl
  clear hr hz hn
  go_enter Tryz.func33, Tryz.ntmps33
  go_wp2
  go_loopw [3] (fun iv wr => riRel l n w iv wr) (fun iv _ => n - (intOf iv).toNat)
  case atStart => exact ⟨0, rfl, Nat.zero_le _, rfl, Below.refl _ _⟩
  case round =>
    obtain ⟨k, rfl, hk, hch, hb⟩ := hrel
    have HCH := Lib.hid hch
    have HB0 := Lib.hid hb
    have HR0 := Lib.hid (rdtUp9 HR.out hb)
    clear hch hb
    by_cases hlt : k < n
    · obtain ⟨b, o, ⟨ba, la, fr, ep, pi, ge, se, tx, ct, rs⟩, AR, nR, cR, hA, hbl, hxk, hc1, hc2, hrd, hfit, hcell⟩ := HR0.out.at hlt
      subst hA
      have HX := Lib.hid hxk
      have HAT := Lib.hid (risB_at (v := prvL l k) hxk)
      have HX_0 := Lib.hid (show AtO wr b (o + k * 10) [.int .i64 ba, .int .i64 la, .int .i64 fr, .int .i64 ep, .int .i64 pi, .int .i64 ge, .int .i64 se, .bool tx, .int .i64 ct, .slice AR nR cR] from ⟨hbl, hcell⟩)
      obtain ⟨zc, hzc⟩ : ∃ zc, chB ⟨ba, la, fr, ep, pi, ge, se, tx, ct, rs⟩ = zc := ⟨_, rfl⟩
      have HZC := Lib.hid hzc
      have HCHK := Lib.hid (refCheckB_is ba la fr ep pi ge se tx ct rs AR nR cR wr.drew hfit hrd hc2 hzc)
      have HBAD := Lib.hid (show decide (chB ⟨ba, la, fr, ep, pi, ge, se, tx, ct, rs⟩ = 0 ∧ prvL l k < ba) = false → z = false from fun h9 => by rw [← HZ.out, HCH.out, HAT.out, h9]; rfl)
      have HGOOD := Lib.hid (show decide (chB ⟨ba, la, fr, ep, pi, ge, se, tx, ct, rs⟩ = 0 ∧ prvL l k < ba) = true → risB (-1) l = risB (prvL l (k + 1)) (l.drop (k + 1)) from fun h9 => by
        rw [HCH.out, HAT.out, h9, Bool.true_and]
        show _ = risB (((l[k]?).map Bt.last).getD 0) _
        rw [HX.out]
        rfl)
      have HBAS := Lib.hid (show zc = 0 → 0 ≤ ba from fun h9 => (form_of (b := ⟨ba, la, fr, ep, pi, ge, se, tx, ct, rs⟩) (by rw [hzc]; exact h9)).1.1)
      have hw1 : IntKind.i64.wrap ((k : Int) + 1) = (k : Int) + 1 := IntWalk.i64_in _ (by omega)
      have hkl : (k : Int) < (n : Int) := by omega
      have hk0 : (0 : Int) ≤ (k : Int) := by omega
      clear hxk hcell hrd hfit hzc
      by_cases hz0 : zc = 0
      · subst hz0
        have HBA := Lib.hid (HBAS.out rfl)
        rcases Nat.eq_zero_or_pos k with hkz | hkp
        · have HG := Lib.hid (HGOOD.out (by rw [HZC.out, hkz]; exact decide_eq_true ⟨rfl, by show (-1 : Int) < ba; have := HBA.out; omega⟩))
          subst hkz
          have HX_1 := Lib.hid (show AtO wr b o [.int .i64 ba, .int .i64 la, .int .i64 fr, .int .i64 ep, .int .i64 pi, .int .i64 ge, .int .i64 se, .bool tx, .int .i64 ct, .slice AR nR cR] from by have h := HX_0.out; rwa [Nat.zero_mul, Nat.add_zero] at h)
          go_upto_region 4 with fail
          have hbd := (Below.refl wr.heap.size wr).drew
          have HX_R4 := Lib.hid (HX_1.out.below hbd)
          have HB_R4 := Lib.hid (bel_trans HB0.out hbd)
          have HSR4 := Lib.hid (show (fun W9 : World => W9.cell? ⟨b, o, none⟩ = some (.int .i64 ba) ∧ W9.cell? ⟨b, o + 1, none⟩ = some (.int .i64 la) ∧ W9.cell? ⟨b, o + 2, none⟩ = some (.int .i64 fr) ∧ W9.cell? ⟨b, o + 3, none⟩ = some (.int .i64 ep) ∧ W9.cell? ⟨b, o + 4, none⟩ = some (.int .i64 pi) ∧ W9.cell? ⟨b, o + 5, none⟩ = some (.int .i64 ge) ∧ W9.cell? ⟨b, o + 6, none⟩ = some (.int .i64 se) ∧ W9.cell? ⟨b, o + 7, none⟩ = some (.bool tx) ∧ W9.cell? ⟨b, o + 8, none⟩ = some (.int .i64 ct) ∧ W9.cell? ⟨b, o + 9, none⟩ = some (.slice AR nR cR)) wr.drew from ⟨HX_R4.out.2 0 _ rfl, HX_R4.out.2 1 _ rfl, HX_R4.out.2 2 _ rfl, HX_R4.out.2 3 _ rfl, HX_R4.out.2 4 _ rfl, HX_R4.out.2 5 _ rfl, HX_R4.out.2 6 _ rfl, HX_R4.out.2 7 _ rfl, HX_R4.out.2 8 _ rfl, HX_R4.out.2 9 _ rfl⟩)
          clear hbd
          refine region_let (fun W9 : World => W9.cell? ⟨b, o, none⟩ = some (.int .i64 ba) ∧ W9.cell? ⟨b, o + 1, none⟩ = some (.int .i64 la) ∧ W9.cell? ⟨b, o + 2, none⟩ = some (.int .i64 fr) ∧ W9.cell? ⟨b, o + 3, none⟩ = some (.int .i64 ep) ∧ W9.cell? ⟨b, o + 4, none⟩ = some (.int .i64 pi) ∧ W9.cell? ⟨b, o + 5, none⟩ = some (.int .i64 ge) ∧ W9.cell? ⟨b, o + 6, none⟩ = some (.int .i64 se) ∧ W9.cell? ⟨b, o + 7, none⟩ = some (.bool tx) ∧ W9.cell? ⟨b, o + 8, none⟩ = some (.int .i64 ct) ∧ W9.cell? ⟨b, o + 9, none⟩ = some (.slice AR nR cR)) 99 24 hmx rfl fun ops Q HOPS HQ => ?_
          have HREG := reg_of HOPS tb_Rising4 rfl (by kernel_rfl) (by kernel_rfl) (by decide)
          refine xq 0 HOPS HREG HSR4.out ?_; simp only [ls0, ls1]; refine xq 1 HOPS HREG HSR4.out ?_; simp only [ls0, ls1]; refine xq 2 HOPS HREG HSR4.out ?_; simp only [ls0, ls1]; refine xq 3 HOPS HREG HSR4.out ?_; simp only [ls0, ls1]
          refine xc 4 HOPS ?_
          go_simp
          with_reducible refine (HCHK.out).mono ?_
          rintro e w5 ⟨rfl, hb⟩
          have HX_5 := Lib.hid (HX_R4.out.below hb)
          have HB_5 := Lib.hid (bel_trans HB_R4.out hb)
          have HSR4w5 := Lib.hid (show (fun W9 : World => W9.cell? ⟨b, o, none⟩ = some (.int .i64 ba) ∧ W9.cell? ⟨b, o + 1, none⟩ = some (.int .i64 la) ∧ W9.cell? ⟨b, o + 2, none⟩ = some (.int .i64 fr) ∧ W9.cell? ⟨b, o + 3, none⟩ = some (.int .i64 ep) ∧ W9.cell? ⟨b, o + 4, none⟩ = some (.int .i64 pi) ∧ W9.cell? ⟨b, o + 5, none⟩ = some (.int .i64 ge) ∧ W9.cell? ⟨b, o + 6, none⟩ = some (.int .i64 se) ∧ W9.cell? ⟨b, o + 7, none⟩ = some (.bool tx) ∧ W9.cell? ⟨b, o + 8, none⟩ = some (.int .i64 ct) ∧ W9.cell? ⟨b, o + 9, none⟩ = some (.slice AR nR cR)) w5 from ⟨HX_5.out.2 0 _ rfl, HX_5.out.2 1 _ rfl, HX_5.out.2 2 _ rfl, HX_5.out.2 3 _ rfl, HX_5.out.2 4 _ rfl, HX_5.out.2 5 _ rfl, HX_5.out.2 6 _ rfl, HX_5.out.2 7 _ rfl, HX_5.out.2 8 _ rfl, HX_5.out.2 9 _ rfl⟩)
          clear hb
          refine ⟨HSR4w5.out, ?_⟩
          refine xq 5 HOPS HREG HSR4w5.out ?_; simp only [ls0, ls1]; refine xq 6 HOPS HREG HSR4w5.out ?_; simp only [ls0, ls1]; refine xq 7 HOPS HREG HSR4w5.out ?_; simp only [ls0, ls1]; refine xq 8 HOPS HREG HSR4w5.out ?_; simp only [ls0, ls1]; refine xq 9 HOPS HREG HSR4w5.out ?_; simp only [ls0, ls1]; refine xu 10 HOPS HREG HSR4w5.out ?_; simp only [ls0, ls1]; refine xu 11 HOPS HREG HSR4w5.out ?_; simp only [ls0, ls1]; refine xu 12 HOPS HREG HSR4w5.out ?_; simp only [ls0, ls1]; refine xu 13 HOPS HREG HSR4w5.out ?_; simp only [ls0, ls1]; refine xu 14 HOPS HREG HSR4w5.out ?_; simp only [ls0, ls1]; refine xu 15 HOPS HREG HSR4w5.out ?_; simp only [ls0, ls1]; refine xu 16 HOPS HREG HSR4w5.out ?_; simp only [ls0, ls1]; refine xu 17 HOPS HREG HSR4w5.out ?_; simp only [ls0, ls1]; refine xu 18 HOPS HREG HSR4w5.out ?_; simp only [ls0, ls1]; refine xu 19 HOPS HREG HSR4w5.out ?_; simp only [ls0, ls1]; refine xu 20 HOPS HREG HSR4w5.out ?_; simp only [ls0, ls1]; refine xu 21 HOPS HREG HSR4w5.out ?_; simp only [ls0, ls1]; refine xq 22 HOPS HREG HSR4w5.out ?_; simp only [ls0, ls1]; refine xq 23 HOPS HREG HSR4w5.out ?_; simp only [ls0, ls1]
          refine stepE HOPS (by kernel_rfl) (HQ.out _ _ ?_)
          clear HQ HREG HOPS
          clear Q ops
          go_wp2
          go_roundw
          case rel => exact ⟨0 + 1, by go_num, by omega, HG.out, HB_5.out⟩
          case measure => simp [intOf]; omega
        · obtain ⟨⟨ba9, la9, fr9, ep9, pi9, ge9, se9, tx9, ct9, rs9⟩, hyk⟩ : ∃ y, l[k - 1]? = some y := ⟨l[k - 1]'(by have := HLEN.out; omega), List.getElem?_eq_getElem _⟩
          obtain ⟨b2, o2, y2, AQ, nQ, cQ, hA2, hbl2, hx2, _, _, _, _, hcell2⟩ := HR0.out.at (k := k - 1) (by omega)
          obtain rfl : y2 = ⟨ba9, la9, fr9, ep9, pi9, ge9, se9, tx9, ct9, rs9⟩ := by rw [hyk] at hx2; exact (Option.some.inj hx2).symm
          injection hA2 with hA2
          injection hA2 with e1 e2 _
          subst e1 e2
          have HP_0 := Lib.hid (show AtO wr b (o + (k - 1) * 10 + 1) [.int .i64 la9] from ⟨hbl, fun j v hv => by
            cases j with
            | zero => simp only [List.getElem?_cons_zero, Option.some.injEq] at hv; subst hv; exact hcell2 1 _ rfl
            | succ j => simp at hv⟩)
          have HPR := Lib.hid (show prvL l k = la9 from by
            obtain ⟨j, rfl⟩ : ∃ j, k = j + 1 := ⟨k - 1, by omega⟩
            show ((l[j]?).map Bt.last).getD 0 = _
            rw [Nat.add_sub_cancel] at hyk; rw [hyk]; rfl)
          have hk9 : (0 : Int) < (k : Int) := by omega
          have hw2 : IntKind.i64.wrap ((k : Int) - 1) = (k : Int) - 1 := IntWalk.i64_in _ (by omega)
          have hp1 : (0 : Int) ≤ (k : Int) - 1 := by omega
          have hp2 : (1 : Int) ≤ (k : Int) := by omega
          have hp3 : (k : Int) - 1 < (n : Int) := by omega
          have hp5 : ((k : Int) - 1).toNat = k - 1 := by omega
          clear hyk hx2 hcell2 hbl2
          by_cases hle : ba ≤ la9
          · have HF := Lib.hid (HBAD.out (by rw [HPR.out]; exact decide_eq_false fun h => by have := h.2; omega))
            go_upto_region 4 with fail
            have hbd := (Below.refl wr.heap.size wr).drew
            have HX_R4 := Lib.hid (HX_0.out.below hbd)
            have HP_R4 := Lib.hid (HP_0.out.below hbd)
            have HB_R4 := Lib.hid (bel_trans HB0.out hbd)
            have HSR4 := Lib.hid (show (fun W9 : World => W9.cell? ⟨b, o + k * 10, none⟩ = some (.int .i64 ba) ∧ W9.cell? ⟨b, o + k * 10 + 1, none⟩ = some (.int .i64 la) ∧ W9.cell? ⟨b, o + k * 10 + 2, none⟩ = some (.int .i64 fr) ∧ W9.cell? ⟨b, o + k * 10 + 3, none⟩ = some (.int .i64 ep) ∧ W9.cell? ⟨b, o + k * 10 + 4, none⟩ = some (.int .i64 pi) ∧ W9.cell? ⟨b, o + k * 10 + 5, none⟩ = some (.int .i64 ge) ∧ W9.cell? ⟨b, o + k * 10 + 6, none⟩ = some (.int .i64 se) ∧ W9.cell? ⟨b, o + k * 10 + 7, none⟩ = some (.bool tx) ∧ W9.cell? ⟨b, o + k * 10 + 8, none⟩ = some (.int .i64 ct) ∧ W9.cell? ⟨b, o + k * 10 + 9, none⟩ = some (.slice AR nR cR) ∧ W9.cell? ⟨b, o + (k - 1) * 10 + 1, none⟩ = some (.int .i64 la9)) wr.drew from ⟨HX_R4.out.2 0 _ rfl, HX_R4.out.2 1 _ rfl, HX_R4.out.2 2 _ rfl, HX_R4.out.2 3 _ rfl, HX_R4.out.2 4 _ rfl, HX_R4.out.2 5 _ rfl, HX_R4.out.2 6 _ rfl, HX_R4.out.2 7 _ rfl, HX_R4.out.2 8 _ rfl, HX_R4.out.2 9 _ rfl, HP_R4.out.2 0 _ rfl⟩)
            clear hbd
            refine region_let (fun W9 : World => W9.cell? ⟨b, o + k * 10, none⟩ = some (.int .i64 ba) ∧ W9.cell? ⟨b, o + k * 10 + 1, none⟩ = some (.int .i64 la) ∧ W9.cell? ⟨b, o + k * 10 + 2, none⟩ = some (.int .i64 fr) ∧ W9.cell? ⟨b, o + k * 10 + 3, none⟩ = some (.int .i64 ep) ∧ W9.cell? ⟨b, o + k * 10 + 4, none⟩ = some (.int .i64 pi) ∧ W9.cell? ⟨b, o + k * 10 + 5, none⟩ = some (.int .i64 ge) ∧ W9.cell? ⟨b, o + k * 10 + 6, none⟩ = some (.int .i64 se) ∧ W9.cell? ⟨b, o + k * 10 + 7, none⟩ = some (.bool tx) ∧ W9.cell? ⟨b, o + k * 10 + 8, none⟩ = some (.int .i64 ct) ∧ W9.cell? ⟨b, o + k * 10 + 9, none⟩ = some (.slice AR nR cR) ∧ W9.cell? ⟨b, o + (k - 1) * 10 + 1, none⟩ = some (.int .i64 la9)) 99 24 hmx rfl fun ops Q HOPS HQ => ?_
            have HREG := reg_of HOPS tb_Rising4 rfl (by kernel_rfl) (by kernel_rfl) (by decide)
            refine xq 0 HOPS HREG HSR4.out ?_; simp only [ls0, ls1]; refine xq 1 HOPS HREG HSR4.out ?_; simp only [ls0, ls1]; refine xq 2 HOPS HREG HSR4.out ?_; simp only [ls0, ls1]; refine xq 3 HOPS HREG HSR4.out ?_; simp only [ls0, ls1]
            refine xc 4 HOPS ?_
            go_simp
            with_reducible refine (HCHK.out).mono ?_
            rintro e w5 ⟨rfl, hb⟩
            have HX_5 := Lib.hid (HX_R4.out.below hb)
            have HP_5 := Lib.hid (HP_R4.out.below hb)
            have HB_5 := Lib.hid (bel_trans HB_R4.out hb)
            have HSR4w5 := Lib.hid (show (fun W9 : World => W9.cell? ⟨b, o + k * 10, none⟩ = some (.int .i64 ba) ∧ W9.cell? ⟨b, o + k * 10 + 1, none⟩ = some (.int .i64 la) ∧ W9.cell? ⟨b, o + k * 10 + 2, none⟩ = some (.int .i64 fr) ∧ W9.cell? ⟨b, o + k * 10 + 3, none⟩ = some (.int .i64 ep) ∧ W9.cell? ⟨b, o + k * 10 + 4, none⟩ = some (.int .i64 pi) ∧ W9.cell? ⟨b, o + k * 10 + 5, none⟩ = some (.int .i64 ge) ∧ W9.cell? ⟨b, o + k * 10 + 6, none⟩ = some (.int .i64 se) ∧ W9.cell? ⟨b, o + k * 10 + 7, none⟩ = some (.bool tx) ∧ W9.cell? ⟨b, o + k * 10 + 8, none⟩ = some (.int .i64 ct) ∧ W9.cell? ⟨b, o + k * 10 + 9, none⟩ = some (.slice AR nR cR) ∧ W9.cell? ⟨b, o + (k - 1) * 10 + 1, none⟩ = some (.int .i64 la9)) w5 from ⟨HX_5.out.2 0 _ rfl, HX_5.out.2 1 _ rfl, HX_5.out.2 2 _ rfl, HX_5.out.2 3 _ rfl, HX_5.out.2 4 _ rfl, HX_5.out.2 5 _ rfl, HX_5.out.2 6 _ rfl, HX_5.out.2 7 _ rfl, HX_5.out.2 8 _ rfl, HX_5.out.2 9 _ rfl, HP_5.out.2 0 _ rfl⟩)
            clear hb
            refine ⟨HSR4w5.out, ?_⟩
            refine xq 5 HOPS HREG HSR4w5.out ?_; simp only [ls0, ls1]; refine xq 6 HOPS HREG HSR4w5.out ?_; simp only [ls0, ls1]; refine xq 7 HOPS HREG HSR4w5.out ?_; simp only [ls0, ls1]; refine xq 8 HOPS HREG HSR4w5.out ?_; simp only [ls0, ls1]; refine xq 9 HOPS HREG HSR4w5.out ?_; simp only [ls0, ls1]; refine xq 10 HOPS HREG HSR4w5.out ?_; simp only [ls0, ls1]; refine xq 11 HOPS HREG HSR4w5.out ?_; simp only [ls0, ls1]; refine xq 12 HOPS HREG HSR4w5.out ?_; simp only [ls0, ls1]; refine xq 13 HOPS HREG HSR4w5.out ?_; simp only [ls0, ls1]; refine xq 14 HOPS HREG HSR4w5.out ?_; simp only [ls0, ls1]; refine xq 15 HOPS HREG HSR4w5.out ?_; simp only [ls0, ls1]; refine xq 16 HOPS HREG HSR4w5.out ?_; simp only [ls0, ls1]; refine xq 17 HOPS HREG HSR4w5.out ?_; simp only [ls0, ls1]; refine xq 18 HOPS HREG HSR4w5.out ?_; simp only [ls0, ls1]; refine xq 19 HOPS HREG HSR4w5.out ?_; simp only [ls0, ls1]; refine xq 20 HOPS HREG HSR4w5.out ?_; simp only [ls0, ls1]; refine xq 21 HOPS HREG HSR4w5.out ?_; simp only [ls0, ls1]; refine xq 22 HOPS HREG HSR4w5.out ?_; simp only [ls0, ls1]; refine xq 23 HOPS HREG HSR4w5.out ?_; simp only [ls0, ls1]
            refine stepE HOPS (by kernel_rfl) (HQ.out _ _ ?_)
            clear HQ HREG HOPS
            clear Q ops
            go_wp2
            go_ret
            exact ⟨by rw [HF.out]; rfl, HB_5.out⟩
          · have hle9 : la9 < ba := by omega
            have HG := Lib.hid (HGOOD.out (by rw [HZC.out, HPR.out]; exact decide_eq_true ⟨rfl, hle9⟩))
            clear hle9
            go_upto_region 4 with fail
            have hbd := (Below.refl wr.heap.size wr).drew
            have HX_R4 := Lib.hid (HX_0.out.below hbd)
            have HP_R4 := Lib.hid (HP_0.out.below hbd)
            have HB_R4 := Lib.hid (bel_trans HB0.out hbd)
            have HSR4 := Lib.hid (show (fun W9 : World => W9.cell? ⟨b, o + k * 10, none⟩ = some (.int .i64 ba) ∧ W9.cell? ⟨b, o + k * 10 + 1, none⟩ = some (.int .i64 la) ∧ W9.cell? ⟨b, o + k * 10 + 2, none⟩ = some (.int .i64 fr) ∧ W9.cell? ⟨b, o + k * 10 + 3, none⟩ = some (.int .i64 ep) ∧ W9.cell? ⟨b, o + k * 10 + 4, none⟩ = some (.int .i64 pi) ∧ W9.cell? ⟨b, o + k * 10 + 5, none⟩ = some (.int .i64 ge) ∧ W9.cell? ⟨b, o + k * 10 + 6, none⟩ = some (.int .i64 se) ∧ W9.cell? ⟨b, o + k * 10 + 7, none⟩ = some (.bool tx) ∧ W9.cell? ⟨b, o + k * 10 + 8, none⟩ = some (.int .i64 ct) ∧ W9.cell? ⟨b, o + k * 10 + 9, none⟩ = some (.slice AR nR cR) ∧ W9.cell? ⟨b, o + (k - 1) * 10 + 1, none⟩ = some (.int .i64 la9)) wr.drew from ⟨HX_R4.out.2 0 _ rfl, HX_R4.out.2 1 _ rfl, HX_R4.out.2 2 _ rfl, HX_R4.out.2 3 _ rfl, HX_R4.out.2 4 _ rfl, HX_R4.out.2 5 _ rfl, HX_R4.out.2 6 _ rfl, HX_R4.out.2 7 _ rfl, HX_R4.out.2 8 _ rfl, HX_R4.out.2 9 _ rfl, HP_R4.out.2 0 _ rfl⟩)
            clear hbd
            refine region_let (fun W9 : World => W9.cell? ⟨b, o + k * 10, none⟩ = some (.int .i64 ba) ∧ W9.cell? ⟨b, o + k * 10 + 1, none⟩ = some (.int .i64 la) ∧ W9.cell? ⟨b, o + k * 10 + 2, none⟩ = some (.int .i64 fr) ∧ W9.cell? ⟨b, o + k * 10 + 3, none⟩ = some (.int .i64 ep) ∧ W9.cell? ⟨b, o + k * 10 + 4, none⟩ = some (.int .i64 pi) ∧ W9.cell? ⟨b, o + k * 10 + 5, none⟩ = some (.int .i64 ge) ∧ W9.cell? ⟨b, o + k * 10 + 6, none⟩ = some (.int .i64 se) ∧ W9.cell? ⟨b, o + k * 10 + 7, none⟩ = some (.bool tx) ∧ W9.cell? ⟨b, o + k * 10 + 8, none⟩ = some (.int .i64 ct) ∧ W9.cell? ⟨b, o + k * 10 + 9, none⟩ = some (.slice AR nR cR) ∧ W9.cell? ⟨b, o + (k - 1) * 10 + 1, none⟩ = some (.int .i64 la9)) 99 24 hmx rfl fun ops Q HOPS HQ => ?_
            have HREG := reg_of HOPS tb_Rising4 rfl (by kernel_rfl) (by kernel_rfl) (by decide)
            refine xq 0 HOPS HREG HSR4.out ?_; simp only [ls0, ls1]; refine xq 1 HOPS HREG HSR4.out ?_; simp only [ls0, ls1]; refine xq 2 HOPS HREG HSR4.out ?_; simp only [ls0, ls1]; refine xq 3 HOPS HREG HSR4.out ?_; simp only [ls0, ls1]
            refine xc 4 HOPS ?_
            go_simp
            with_reducible refine (HCHK.out).mono ?_
            rintro e w5 ⟨rfl, hb⟩
            have HX_5 := Lib.hid (HX_R4.out.below hb)
            have HP_5 := Lib.hid (HP_R4.out.below hb)
            have HB_5 := Lib.hid (bel_trans HB_R4.out hb)
            have HSR4w5 := Lib.hid (show (fun W9 : World => W9.cell? ⟨b, o + k * 10, none⟩ = some (.int .i64 ba) ∧ W9.cell? ⟨b, o + k * 10 + 1, none⟩ = some (.int .i64 la) ∧ W9.cell? ⟨b, o + k * 10 + 2, none⟩ = some (.int .i64 fr) ∧ W9.cell? ⟨b, o + k * 10 + 3, none⟩ = some (.int .i64 ep) ∧ W9.cell? ⟨b, o + k * 10 + 4, none⟩ = some (.int .i64 pi) ∧ W9.cell? ⟨b, o + k * 10 + 5, none⟩ = some (.int .i64 ge) ∧ W9.cell? ⟨b, o + k * 10 + 6, none⟩ = some (.int .i64 se) ∧ W9.cell? ⟨b, o + k * 10 + 7, none⟩ = some (.bool tx) ∧ W9.cell? ⟨b, o + k * 10 + 8, none⟩ = some (.int .i64 ct) ∧ W9.cell? ⟨b, o + k * 10 + 9, none⟩ = some (.slice AR nR cR) ∧ W9.cell? ⟨b, o + (k - 1) * 10 + 1, none⟩ = some (.int .i64 la9)) w5 from ⟨HX_5.out.2 0 _ rfl, HX_5.out.2 1 _ rfl, HX_5.out.2 2 _ rfl, HX_5.out.2 3 _ rfl, HX_5.out.2 4 _ rfl, HX_5.out.2 5 _ rfl, HX_5.out.2 6 _ rfl, HX_5.out.2 7 _ rfl, HX_5.out.2 8 _ rfl, HX_5.out.2 9 _ rfl, HP_5.out.2 0 _ rfl⟩)
            clear hb
            refine ⟨HSR4w5.out, ?_⟩
            refine xq 5 HOPS HREG HSR4w5.out ?_; simp only [ls0, ls1]; refine xq 6 HOPS HREG HSR4w5.out ?_; simp only [ls0, ls1]; refine xq 7 HOPS HREG HSR4w5.out ?_; simp only [ls0, ls1]; refine xq 8 HOPS HREG HSR4w5.out ?_; simp only [ls0, ls1]; refine xq 9 HOPS HREG HSR4w5.out ?_; simp only [ls0, ls1]; refine xq 10 HOPS HREG HSR4w5.out ?_; simp only [ls0, ls1]; refine xq 11 HOPS HREG HSR4w5.out ?_; simp only [ls0, ls1]; refine xq 12 HOPS HREG HSR4w5.out ?_; simp only [ls0, ls1]; refine xq 13 HOPS HREG HSR4w5.out ?_; simp only [ls0, ls1]; refine xq 14 HOPS HREG HSR4w5.out ?_; simp only [ls0, ls1]; refine xq 15 HOPS HREG HSR4w5.out ?_; simp only [ls0, ls1]; refine xq 16 HOPS HREG HSR4w5.out ?_; simp only [ls0, ls1]; refine xq 17 HOPS HREG HSR4w5.out ?_; simp only [ls0, ls1]; refine xq 18 HOPS HREG HSR4w5.out ?_; simp only [ls0, ls1]; refine xq 19 HOPS HREG HSR4w5.out ?_; simp only [ls0, ls1]; refine xq 20 HOPS HREG HSR4w5.out ?_; simp only [ls0, ls1]; refine xq 21 HOPS HREG HSR4w5.out ?_; simp only [ls0, ls1]; refine xq 22 HOPS HREG HSR4w5.out ?_; simp only [ls0, ls1]; refine xq 23 HOPS HREG HSR4w5.out ?_; simp only [ls0, ls1]
            refine stepE HOPS (by kernel_rfl) (HQ.out _ _ ?_)
            clear HQ HREG HOPS
            clear Q ops
            go_wp2
            go_roundw
            case rel => exact ⟨k + 1, by go_num, by omega, HG.out, HB_5.out⟩
            case measure => simp [intOf]; omega
      · have HF := Lib.hid (HBAD.out (by rw [HZC.out]; exact decide_eq_false fun h => hz0 h.1))
        have hzq : (zc == 0) = false := beq_eq_false_iff_ne.2 hz0
        have hzq2 : (zc != 0) = true := by simp [bne, hzq]
        clear hz0
        go_upto_region 4 with fail
        have hbd := (Below.refl wr.heap.size wr).drew
        have HX_R4 := Lib.hid (HX_0.out.below hbd)
        have HB_R4 := Lib.hid (bel_trans HB0.out hbd)
        have HSR4 := Lib.hid (show (fun W9 : World => W9.cell? ⟨b, o + k * 10, none⟩ = some (.int .i64 ba) ∧ W9.cell? ⟨b, o + k * 10 + 1, none⟩ = some (.int .i64 la) ∧ W9.cell? ⟨b, o + k * 10 + 2, none⟩ = some (.int .i64 fr) ∧ W9.cell? ⟨b, o + k * 10 + 3, none⟩ = some (.int .i64 ep) ∧ W9.cell? ⟨b, o + k * 10 + 4, none⟩ = some (.int .i64 pi) ∧ W9.cell? ⟨b, o + k * 10 + 5, none⟩ = some (.int .i64 ge) ∧ W9.cell? ⟨b, o + k * 10 + 6, none⟩ = some (.int .i64 se) ∧ W9.cell? ⟨b, o + k * 10 + 7, none⟩ = some (.bool tx) ∧ W9.cell? ⟨b, o + k * 10 + 8, none⟩ = some (.int .i64 ct) ∧ W9.cell? ⟨b, o + k * 10 + 9, none⟩ = some (.slice AR nR cR)) wr.drew from ⟨HX_R4.out.2 0 _ rfl, HX_R4.out.2 1 _ rfl, HX_R4.out.2 2 _ rfl, HX_R4.out.2 3 _ rfl, HX_R4.out.2 4 _ rfl, HX_R4.out.2 5 _ rfl, HX_R4.out.2 6 _ rfl, HX_R4.out.2 7 _ rfl, HX_R4.out.2 8 _ rfl, HX_R4.out.2 9 _ rfl⟩)
        clear hbd
        refine region_let (fun W9 : World => W9.cell? ⟨b, o + k * 10, none⟩ = some (.int .i64 ba) ∧ W9.cell? ⟨b, o + k * 10 + 1, none⟩ = some (.int .i64 la) ∧ W9.cell? ⟨b, o + k * 10 + 2, none⟩ = some (.int .i64 fr) ∧ W9.cell? ⟨b, o + k * 10 + 3, none⟩ = some (.int .i64 ep) ∧ W9.cell? ⟨b, o + k * 10 + 4, none⟩ = some (.int .i64 pi) ∧ W9.cell? ⟨b, o + k * 10 + 5, none⟩ = some (.int .i64 ge) ∧ W9.cell? ⟨b, o + k * 10 + 6, none⟩ = some (.int .i64 se) ∧ W9.cell? ⟨b, o + k * 10 + 7, none⟩ = some (.bool tx) ∧ W9.cell? ⟨b, o + k * 10 + 8, none⟩ = some (.int .i64 ct) ∧ W9.cell? ⟨b, o + k * 10 + 9, none⟩ = some (.slice AR nR cR)) 99 24 hmx rfl fun ops Q HOPS HQ => ?_
        have HREG := reg_of HOPS tb_Rising4 rfl (by kernel_rfl) (by kernel_rfl) (by decide)
        refine xq 0 HOPS HREG HSR4.out ?_; simp only [ls0, ls1]; refine xq 1 HOPS HREG HSR4.out ?_; simp only [ls0, ls1]; refine xq 2 HOPS HREG HSR4.out ?_; simp only [ls0, ls1]; refine xq 3 HOPS HREG HSR4.out ?_; simp only [ls0, ls1]
        refine xc 4 HOPS ?_
        go_simp
        with_reducible refine (HCHK.out).mono ?_
        rintro e w5 ⟨rfl, hb⟩
        have HX_5 := Lib.hid (HX_R4.out.below hb)
        have HB_5 := Lib.hid (bel_trans HB_R4.out hb)
        have HSR4w5 := Lib.hid (show (fun W9 : World => W9.cell? ⟨b, o + k * 10, none⟩ = some (.int .i64 ba) ∧ W9.cell? ⟨b, o + k * 10 + 1, none⟩ = some (.int .i64 la) ∧ W9.cell? ⟨b, o + k * 10 + 2, none⟩ = some (.int .i64 fr) ∧ W9.cell? ⟨b, o + k * 10 + 3, none⟩ = some (.int .i64 ep) ∧ W9.cell? ⟨b, o + k * 10 + 4, none⟩ = some (.int .i64 pi) ∧ W9.cell? ⟨b, o + k * 10 + 5, none⟩ = some (.int .i64 ge) ∧ W9.cell? ⟨b, o + k * 10 + 6, none⟩ = some (.int .i64 se) ∧ W9.cell? ⟨b, o + k * 10 + 7, none⟩ = some (.bool tx) ∧ W9.cell? ⟨b, o + k * 10 + 8, none⟩ = some (.int .i64 ct) ∧ W9.cell? ⟨b, o + k * 10 + 9, none⟩ = some (.slice AR nR cR)) w5 from ⟨HX_5.out.2 0 _ rfl, HX_5.out.2 1 _ rfl, HX_5.out.2 2 _ rfl, HX_5.out.2 3 _ rfl, HX_5.out.2 4 _ rfl, HX_5.out.2 5 _ rfl, HX_5.out.2 6 _ rfl, HX_5.out.2 7 _ rfl, HX_5.out.2 8 _ rfl, HX_5.out.2 9 _ rfl⟩)
        clear hb
        refine ⟨HSR4w5.out, ?_⟩
        refine xq 5 HOPS HREG HSR4w5.out ?_; simp only [ls0, ls1]; refine xq 6 HOPS HREG HSR4w5.out ?_; simp only [ls0, ls1]; refine xu 7 HOPS HREG HSR4w5.out ?_; simp only [ls0, ls1]; refine xu 8 HOPS HREG HSR4w5.out ?_; simp only [ls0, ls1]; refine xu 9 HOPS HREG HSR4w5.out ?_; simp only [ls0, ls1]; refine xu 10 HOPS HREG HSR4w5.out ?_; simp only [ls0, ls1]; refine xu 11 HOPS HREG HSR4w5.out ?_; simp only [ls0, ls1]; refine xu 12 HOPS HREG HSR4w5.out ?_; simp only [ls0, ls1]; refine xu 13 HOPS HREG HSR4w5.out ?_; simp only [ls0, ls1]; refine xu 14 HOPS HREG HSR4w5.out ?_; simp only [ls0, ls1]; refine xu 15 HOPS HREG HSR4w5.out ?_; simp only [ls0, ls1]; refine xu 16 HOPS HREG HSR4w5.out ?_; simp only [ls0, ls1]; refine xu 17 HOPS HREG HSR4w5.out ?_; simp only [ls0, ls1]; refine xu 18 HOPS HREG HSR4w5.out ?_; simp only [ls0, ls1]; refine xu 19 HOPS HREG HSR4w5.out ?_; simp only [ls0, ls1]; refine xu 20 HOPS HREG HSR4w5.out ?_; simp only [ls0, ls1]; refine xu 21 HOPS HREG HSR4w5.out ?_; simp only [ls0, ls1]; refine xu 22 HOPS HREG HSR4w5.out ?_; simp only [ls0, ls1]; refine xq 23 HOPS HREG HSR4w5.out ?_; simp only [ls0, ls1]
        refine stepE HOPS (by kernel_rfl) (HQ.out _ _ ?_)
        clear HQ HREG HOPS
        clear Q ops
        go_wp2
        go_ret
        exact ⟨by rw [HF.out]; rfl, HB_5.out⟩
    · obtain rfl : k = n := by omega
      have HF := Lib.hid (show z = true from by rw [← HZ.out, HCH.out, List.drop_of_length_le (by have := HLEN.out; omega)]; rfl)
      go_wp2
      go_ret
      exact ⟨by rw [HF.out]; rfl, HB0.out⟩
theorem few12_is (bs : List Bt) (A : Option Addr) (n c : Nat) (w : World) (hr : RdL w w.heap.size A n bs) (hn : n ≤ reach) {z : Bool} (hz : (bs.all fewT && decide ((bs.length : Int) ≤ 60)) = z) :
    Calls Tryz.prog 20 #[.slice A n c] w fun e w' => e = .returned (.bool z) ∧ Below w.heap.size w w' := by
  have HF := Lib.hid (refFewAll_is bs A n c 60 w hr hn hz)
  clear hr hz
  go_enter Tryz.func20, Tryz.ntmps20
  go_wp2_with (go_at_call 53; (with_reducible refine HF.out.mono ?_); rintro e w2 ⟨rfl, hb⟩; have HB := Lib.hid hb; clear hb)
  go_ret
  exact ⟨rfl, HB.out⟩
def nxRel (l : List Bt) (p : Int) (i n : Nat) (w : World) (kv : Value) (wr : World) : Prop :=
  ∃ k : Nat, kv = .int .i64 (k : Int) ∧ i + 1 ≤ k ∧ k ≤ n ∧ nxtB (l.drop (i + 1)) p = nxtB (l.drop k) p ∧ Below w.heap.size w wr
theorem nxtB_at {l : List Bt} {k : Nat} {x : Bt} {p : Int} (hk : l[k]? = some x) : nxtB (l.drop k) p = if x.pid = p ∧ x.ctl ≠ 0 then x.ctl else nxtB (l.drop (k + 1)) p := by
  rw [List.drop_eq_getElem_cons (List.getElem?_eq_some_iff.1 hk).1, (List.getElem?_eq_some_iff.1 hk).2]
  rfl
set_option maxRecDepth 100000 in
set_option maxHeartbeats 8000000 in
theorem next_is (A : Option Addr) (n c i : Nat) (l : List Bt) (x : Bt) (w : World) (hr : Bat.RdT w w.heap.size A n l) (hn : n ≤ reach) (hx : l[i]? = some x) {z : Int} (hz : nxtB (l.drop (i + 1)) x.pid = z) :
    Calls Tryz.prog 34 #[.slice A n c, .int .i64 (i : Int)] w fun e w' => e = .returned (.int .i64 z) ∧ Below w.heap.size w w' := by
  have HR := Lib.hid hr
  have HLEN := Lib.hid hr.len
  have HZ := Lib.hid hz
  have HI := Lib.hid hx
  have hn9 : n ≤ 140737488351232 := hn
  have hin : i < n := by have := (List.getElem?_eq_some_iff.1 hx).1; have := hr.len; omega
  have hwi : IntKind.i64.wrap ((i : Int) + 1) = (i : Int) + 1 := IntWalk.i64_in _ (by omega)
  clear hr hz hn hx
  go_enter Tryz.func34, Tryz.ntmps34
  go_wp2
  go_loopw [5] (fun kv wr => nxRel l x.pid i n w kv wr) (fun kv _ => n - (intOf kv).toNat)
  case atStart => exact ⟨i + 1, by go_num, Nat.le_refl _, by omega, rfl, Below.refl _ _⟩
  case round =>
    obtain ⟨k, rfl, hik, hk, hch, hb⟩ := hrel
    have HCH := Lib.hid hch
    have HB0 := Lib.hid hb
    have HR0 := Lib.hid (rdtUp9 HR.out hb)
    clear hch hb
    by_cases hlt : k < n
    · obtain ⟨b, o, ⟨ba, la, fr, ep, pi, ge, se, tx, ct, rs⟩, AR, nR, cR, hA, hbl, hxk, _, _, _, _, hcell⟩ := HR0.out.at hlt
      subst hA
      obtain ⟨b2, o2, y2, AQ, nQ, cQ, hA2, hbl2, hx2, _, _, _, _, hcell2⟩ := HR0.out.at (k := i) hin
      obtain rfl : y2 = x := by rw [HI.out] at hx2; exact (Option.some.inj hx2).symm
      injection hA2 with hA2
      injection hA2 with e1 e2 _
      subst e1 e2
      obtain ⟨y0, y1, y3, y4, yp, y5, y6, y7, y8, y9⟩ := y2
      have HAT := Lib.hid (nxtB_at (p := yp) hxk)
      have HCH2 := Lib.hid HCH.out
      have hw1 : IntKind.i64.wrap ((k : Int) + 1) = (k : Int) + 1 := IntWalk.i64_in _ (by omega)
      have hkl : (k : Int) < (n : Int) := by omega
      have hil : (i : Int) < (n : Int) := by omega
      have d4 : wr.drew.cell? ⟨b, o + k * 10 + 4, none⟩ = some (.int .i64 pi) := hcell 4 _ rfl
      have d8 : wr.drew.cell? ⟨b, o + k * 10 + 8, none⟩ = some (.int .i64 ct) := hcell 8 _ rfl
      have p4 : wr.drew.cell? ⟨b, o + i * 10 + 4, none⟩ = some (.int .i64 yp) := hcell2 4 _ rfl
      clear hxk hx2 hcell hcell2 hbl2
      by_cases hpi : pi = yp
      · have hq : (pi == yp) = true := beq_iff_eq.2 hpi
        by_cases hct : ct = 0
        · have HG := Lib.hid (show nxtB (l.drop (i + 1)) yp = nxtB (l.drop (k + 1)) yp from by rw [show nxtB (l.drop (i + 1)) yp = _ from HCH2.out, HAT.out, if_neg (fun h => h.2 hct)])
          have hq2 : (ct == 0) = true := beq_iff_eq.2 hct
          subst hct
          clear hpi
          go_upto_region 4 with fail
          go_big_region
          go_wp2
          go_roundw
          case rel => exact ⟨k + 1, by go_num, by omega, by omega, HG.out, bel_drew HB0.out⟩
          case measure => simp [intOf]; omega
        · have HF := Lib.hid (show z = ct from by rw [← HZ.out, show nxtB (l.drop (i + 1)) yp = _ from HCH2.out, HAT.out, if_pos ⟨hpi, hct⟩])
          have hq2 : (ct == 0) = false := beq_eq_false_iff_ne.2 hct
          clear hct hpi
          go_upto_region 4 with fail
          go_big_region
          go_wp2
          go_ret
          exact ⟨by rw [HF.out]; rfl, bel_drew HB0.out⟩
      · have HG := Lib.hid (show nxtB (l.drop (i + 1)) yp = nxtB (l.drop (k + 1)) yp from by rw [show nxtB (l.drop (i + 1)) yp = _ from HCH2.out, HAT.out, if_neg (fun h => hpi h.1)])
        have hq : (pi == yp) = false := beq_eq_false_iff_ne.2 hpi
        clear hpi
        go_upto_region 4 with fail
        go_big_region
        go_wp2
        go_roundw
        case rel => exact ⟨k + 1, by go_num, by omega, by omega, HG.out, bel_drew HB0.out⟩
        case measure => simp [intOf]; omega
    · obtain rfl : k = n := by omega
      have HF := Lib.hid (show z = 0 from by rw [← HZ.out, HCH.out, List.drop_of_length_le (by have := HLEN.out; omega)]; rfl)
      go_wp2
      go_ret
      exact ⟨by rw [HF.out]; rfl, HB0.out⟩
end Go.Proofs.YtlfbagkonckffaaGreat.Txn
