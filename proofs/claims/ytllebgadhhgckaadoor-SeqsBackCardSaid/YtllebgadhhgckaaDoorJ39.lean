/- Joined: SqsD2. -/
import Derived.Test.YtllebgadhhgckaaDoorJ15
/- The landed seqs: follow. -/
namespace Go.Proofs.YtllebgadhhgckaaDoor.Sqs
open Go.RowKit Oct RowF RowK Lay Bat InR
open Epo (At0 AtO belA)

def tb_follow6 : List (Nat × Nat) := [(0, 524287), (1, 524286), (2, 524285), (6, 524283), (8, 524279), (24, 524263), (40, 524247), (64, 524223), (192, 524095), (64, 524223), (64, 524223), (1088, 523199), (2624, 521663), (4160, 520127), (8256, 516031), (16448, 507839), (33088, 491199), (65608, 458679), (131080, 393207)]
set_option maxRecDepth 100000 in
set_option maxHeartbeats 8000000 in
theorem follow_is (A : Option Addr) (n c : Nat) (l : List Dd) (w : World) (hr : RdD w w.heap.size A n l) (hn : n ≤ reach) {z : Bool} (hz : didOk l = z) :
    Calls Tryd.prog 41 #[.slice A n c] w fun e w' => e = .returned (.bool z) ∧ Below w.heap.size w w' := by
  have hlen := hr.len
  have hn9 : n ≤ 140737488351232 := hn
  by_cases h4 : 5 < n
  · have h5 : (5 : Int) < (n : Int) := by omega
    obtain rfl : false = z := by rw [← hz]; exact (didOk_long (by omega)).symm
    clear hr hz hn hlen
    go_enter Tryd.func41, Tryd.ntmps41
    go_wp2
    go_ret
    exact ⟨rfl, Below.refl _ _⟩
  have h5 : ¬ (5 : Int) < (n : Int) := by omega
  have HZ := Lib.hid hz
  have HR := Lib.hid hr
  have HLEN := Lib.hid hlen
  have hmx : Tryd.prog.follows .mixedOrders = true := by kernel_rfl
  clear hr hz hn hlen
  go_enter Tryd.func41, Tryd.ntmps41
  go_wp2
  go_loopw [10] (fun iv wr => didRel l n w iv wr) (fun iv _ => n - (intOf iv).toNat)
  case atStart => exact ⟨0, rfl, Nat.zero_le _, rfl, fun y h => absurd h (Nat.lt_irrefl _), Below.refl _ _⟩
  case round =>
    obtain ⟨k, rfl, hk, hch, hpv, hb⟩ := hrel
    have HCH := Lib.hid hch
    have HPV := Lib.hid hpv
    have HB0 := Lib.hid hb
    have HR0 := Lib.hid (rddUp HR.out hb)
    clear hch hb hpv
    by_cases hlt : k < n
    · obtain ⟨b, o, ⟨x0, x1, x2⟩, rfl, hbl, hxk, d0, d1, d2⟩ := did_at HR0.out hlt
      simp only at d0 d1 d2
      have HX := Lib.hid hxk
      have HAT := Lib.hid (chD_at (o := prvD l k) hxk)
      have hw1 : IntKind.i64.wrap ((k : Int) + 1) = (k : Int) + 1 := IntWalk.i64_in _ (by omega)
      have hkl : (k : Int) < (n : Int) := by omega
      have hk0 : (0 : Int) ≤ (k : Int) := by omega
      go_upto_region 6 with fail
      have hba := belA wr (.cells #[.int .i64 x0, .int .i64 x1, .int .i64 x2] 58)
      have HB1 := Lib.hid (Epo.bel_trans HB0.out hba)
      have HR1 := Lib.hid (rddUp HR0.out hba)
      have HAT1 := Lib.hid (At0.new wr [.int .i64 x0, .int .i64 x1, .int .i64 x2] 58)
      obtain ⟨q0, q1, q2⟩ := cel3 HAT1.out
      clear hba d0 d1 d2 hxk hbl
      generalize (wr.alloc (.cells #[.int .i64 x0, .int .i64 x1, .int .i64 x2] 58)) = W at *
      have HBAD := Lib.hid (show (ddOk ⟨x0, x1, x2⟩ && nextD (prvD l k) ⟨x0, x1, x2⟩) = false → z = false from fun h9 => by rw [← HZ.out]; unfold didOk; rw [HCH.out, HAT.out, h9]; rfl)
      have HGOOD := Lib.hid (show (ddOk ⟨x0, x1, x2⟩ && nextD (prvD l k) ⟨x0, x1, x2⟩) = true → chD none l = chD (prvD l (k + 1)) (l.drop (k + 1)) from fun h9 => by rw [HCH.out, HAT.out, h9, Bool.true_and]; show _ = chD ((l[k]?).map Dd.la) _; rw [HX.out]; rfl)
      rcases hmb : ddOk ⟨x0, x1, x2⟩ with _ | _
      all_goals have HMB := Lib.hid hmb
      all_goals clear hmb
      · have HZF := Lib.hid (HBAD.out (by rw [HMB.out]; rfl))
        have hbd := (Below.refl W.heap.size W).drew
        have HBR_R6bk := Lib.hid (bel_trans HB1.out hbd)
        have HB_R6bk := Lib.hid (HAT1.out.below hbd)
        have HSR6bk := Lib.hid (show (fun W9 : World => W9.cell? ⟨wr.heap.size, 0, none⟩ = some (.int .i64 x0) ∧ W9.cell? ⟨wr.heap.size, 1, none⟩ = some (.int .i64 x1) ∧ W9.cell? ⟨wr.heap.size, 2, none⟩ = some (.int .i64 x2)) W.drew from ⟨HB_R6bk.out.cell 0, HB_R6bk.out.cell 1, HB_R6bk.out.cell 2⟩)
        clear hbd
        refine region_let (fun W9 : World => W9.cell? ⟨wr.heap.size, 0, none⟩ = some (.int .i64 x0) ∧ W9.cell? ⟨wr.heap.size, 1, none⟩ = some (.int .i64 x1) ∧ W9.cell? ⟨wr.heap.size, 2, none⟩ = some (.int .i64 x2)) 99 19 hmx rfl fun ops Q HOPS HQ => ?_
        have HREG := reg_of HOPS tb_follow6 rfl (by kernel_rfl) (by kernel_rfl) (by decide)
        refine xq 0 HOPS HREG HSR6bk.out ?_; simp only [ls0, ls1]
        refine xc 1 HOPS ?_
        go_simp
        with_reducible refine (mayBe_is x0 x1 x2 _ HMB.out).mono ?_
        rintro e w3 ⟨rfl, hb⟩
        have HBR_3 := Lib.hid (bel_trans HBR_R6bk.out hb)
        have HB_3 := Lib.hid (HB_R6bk.out.below hb)
        have HSR6bkw3 := Lib.hid (show (fun W9 : World => W9.cell? ⟨wr.heap.size, 0, none⟩ = some (.int .i64 x0) ∧ W9.cell? ⟨wr.heap.size, 1, none⟩ = some (.int .i64 x1) ∧ W9.cell? ⟨wr.heap.size, 2, none⟩ = some (.int .i64 x2)) w3 from ⟨HB_3.out.cell 0, HB_3.out.cell 1, HB_3.out.cell 2⟩)
        clear hb
        refine ⟨HSR6bkw3.out, ?_⟩
        refine xq 2 HOPS HREG HSR6bkw3.out ?_; simp only [ls0, ls1]; refine xq 3 HOPS HREG HSR6bkw3.out ?_; simp only [ls0, ls1]; refine xu 4 HOPS HREG HSR6bkw3.out ?_; simp only [ls0, ls1]; refine xu 5 HOPS HREG HSR6bkw3.out ?_; simp only [ls0, ls1]; refine xu 6 HOPS HREG HSR6bkw3.out ?_; simp only [ls0, ls1]; refine xu 7 HOPS HREG HSR6bkw3.out ?_; simp only [ls0, ls1]; refine xu 8 HOPS HREG HSR6bkw3.out ?_; simp only [ls0, ls1]; refine xu 9 HOPS HREG HSR6bkw3.out ?_; simp only [ls0, ls1]; refine xu 10 HOPS HREG HSR6bkw3.out ?_; simp only [ls0, ls1]; refine xu 11 HOPS HREG HSR6bkw3.out ?_; simp only [ls0, ls1]; refine xu 12 HOPS HREG HSR6bkw3.out ?_; simp only [ls0, ls1]; refine xu 13 HOPS HREG HSR6bkw3.out ?_; simp only [ls0, ls1]; refine xu 14 HOPS HREG HSR6bkw3.out ?_; simp only [ls0, ls1]; refine xu 15 HOPS HREG HSR6bkw3.out ?_; simp only [ls0, ls1]; refine xu 16 HOPS HREG HSR6bkw3.out ?_; simp only [ls0, ls1]; refine xu 17 HOPS HREG HSR6bkw3.out ?_; simp only [ls0, ls1]; refine xq 18 HOPS HREG HSR6bkw3.out ?_; simp only [ls0, ls1]
        refine stepE HOPS (by kernel_rfl) (HQ.out _ _ ?_)
        clear HQ HREG HOPS
        clear Q ops
        go_wp2
        go_ret
        exact ⟨by rw [HZF.out]; rfl, HBR_3.out⟩
      have HLA := Lib.hid (show 0 ≤ x1 ∧ x1 ≤ 1048576 from by have h9 := HMB.out; unfold ddOk at h9; have := of_decide_eq_true h9; simp only at this; omega)
      rcases Nat.eq_zero_or_pos k with hkz | hkp
      · have HG := Lib.hid (HGOOD.out (by rw [HMB.out, hkz]; rfl))
        subst hkz
        have hbd := (Below.refl W.heap.size W).drew
        have HBR_R6g0 := Lib.hid (bel_trans HB1.out hbd)
        have HB_R6g0 := Lib.hid (HAT1.out.below hbd)
        have HSR6g0 := Lib.hid (show (fun W9 : World => W9.cell? ⟨wr.heap.size, 0, none⟩ = some (.int .i64 x0) ∧ W9.cell? ⟨wr.heap.size, 1, none⟩ = some (.int .i64 x1) ∧ W9.cell? ⟨wr.heap.size, 2, none⟩ = some (.int .i64 x2)) W.drew from ⟨HB_R6g0.out.cell 0, HB_R6g0.out.cell 1, HB_R6g0.out.cell 2⟩)
        clear hbd
        refine region_let (fun W9 : World => W9.cell? ⟨wr.heap.size, 0, none⟩ = some (.int .i64 x0) ∧ W9.cell? ⟨wr.heap.size, 1, none⟩ = some (.int .i64 x1) ∧ W9.cell? ⟨wr.heap.size, 2, none⟩ = some (.int .i64 x2)) 99 19 hmx rfl fun ops Q HOPS HQ => ?_
        have HREG := reg_of HOPS tb_follow6 rfl (by kernel_rfl) (by kernel_rfl) (by decide)
        refine xq 0 HOPS HREG HSR6g0.out ?_; simp only [ls0, ls1]
        refine xc 1 HOPS ?_
        go_simp
        with_reducible refine (mayBe_is x0 x1 x2 _ HMB.out).mono ?_
        rintro e w3 ⟨rfl, hb⟩
        have HBR_3 := Lib.hid (bel_trans HBR_R6g0.out hb)
        have HB_3 := Lib.hid (HB_R6g0.out.below hb)
        have HSR6g0w3 := Lib.hid (show (fun W9 : World => W9.cell? ⟨wr.heap.size, 0, none⟩ = some (.int .i64 x0) ∧ W9.cell? ⟨wr.heap.size, 1, none⟩ = some (.int .i64 x1) ∧ W9.cell? ⟨wr.heap.size, 2, none⟩ = some (.int .i64 x2)) w3 from ⟨HB_3.out.cell 0, HB_3.out.cell 1, HB_3.out.cell 2⟩)
        clear hb
        refine ⟨HSR6g0w3.out, ?_⟩
        refine xq 2 HOPS HREG HSR6g0w3.out ?_; simp only [ls0, ls1]; refine xq 3 HOPS HREG HSR6g0w3.out ?_; simp only [ls0, ls1]; refine xq 4 HOPS HREG HSR6g0w3.out ?_; simp only [ls0, ls1]; refine xq 5 HOPS HREG HSR6g0w3.out ?_; simp only [ls0, ls1]; refine xq 6 HOPS HREG HSR6g0w3.out ?_; simp only [ls0, ls1]; refine xu 7 HOPS HREG HSR6g0w3.out ?_; simp only [ls0, ls1]; refine xu 8 HOPS HREG HSR6g0w3.out ?_; simp only [ls0, ls1]; refine xu 9 HOPS HREG HSR6g0w3.out ?_; simp only [ls0, ls1]; refine xu 10 HOPS HREG HSR6g0w3.out ?_; simp only [ls0, ls1]; refine xu 11 HOPS HREG HSR6g0w3.out ?_; simp only [ls0, ls1]; refine xu 12 HOPS HREG HSR6g0w3.out ?_; simp only [ls0, ls1]; refine xu 13 HOPS HREG HSR6g0w3.out ?_; simp only [ls0, ls1]; refine xu 14 HOPS HREG HSR6g0w3.out ?_; simp only [ls0, ls1]; refine xu 15 HOPS HREG HSR6g0w3.out ?_; simp only [ls0, ls1]; refine xu 16 HOPS HREG HSR6g0w3.out ?_; simp only [ls0, ls1]; refine xq 17 HOPS HREG HSR6g0w3.out ?_; simp only [ls0, ls1]; refine xq 18 HOPS HREG HSR6g0w3.out ?_; simp only [ls0, ls1]
        refine stepE HOPS (by kernel_rfl) (HQ.out _ _ ?_)
        clear HQ HREG HOPS
        clear Q ops
        go_wp2
        go_roundw
        case rel => exact ⟨0 + 1, by go_num, by omega, HG.out, fun y _ hy => by rw [Nat.add_sub_cancel, HX.out] at hy; obtain rfl := Option.some.inj hy; exact HLA.out, HBR_3.out⟩
        case measure => simp [intOf]; omega
      obtain ⟨⟨y0, y1, y2⟩, hyk⟩ : ∃ y, l[k - 1]? = some y := ⟨l[k - 1]'(by have := HLEN.out; omega), List.getElem?_eq_getElem _⟩
      obtain ⟨hbW, _, e1, _⟩ := didK HR1.out hyk
      have hyr := HPV.out _ hkp hyk
      have HPR := Lib.hid (show prvD l k = some y1 from by
        obtain ⟨j, rfl⟩ : ∃ j, k = j + 1 := ⟨k - 1, by omega⟩
        show (l[j]?).map Dd.la = _
        rw [Nat.add_sub_cancel] at hyk; rw [hyk]; rfl)
      simp only at e1 hyr
      have HP1 := Lib.hid (ato_one hbW e1)
      have hk9 : (0 : Int) < (k : Int) := by omega
      have hw2 : IntKind.i64.wrap ((k : Int) - 1) = (k : Int) - 1 := IntWalk.i64_in _ (by omega)
      have hp1 : (0 : Int) ≤ (k : Int) - 1 := by omega
      have hp2 : (1 : Int) ≤ (k : Int) := by omega
      have hp3 : (k : Int) - 1 < (n : Int) := by omega
      have hp5 : ((k : Int) - 1).toNat = k - 1 := by omega
      have hw3 : IntKind.i64.wrap (y1 + 1) = y1 + 1 := IntWalk.i64_in _ (by omega)
      clear hyk e1
      by_cases hne : x0 = y1 + 1
      · have hq : (x0 == y1 + 1) = true := beq_iff_eq.2 hne
        have HG := Lib.hid (HGOOD.out (by rw [HMB.out, HPR.out]; exact decide_eq_true hne))
        clear hne
        have hbd := (Below.refl W.heap.size W).drew
        have HBR_R6gk := Lib.hid (bel_trans HB1.out hbd)
        have HB_R6gk := Lib.hid (HAT1.out.below hbd)
        have HP_R6gk := Lib.hid (HP1.out.below hbd)
        have HSR6gk := Lib.hid (show (fun W9 : World => W9.cell? ⟨wr.heap.size, 0, none⟩ = some (.int .i64 x0) ∧ W9.cell? ⟨wr.heap.size, 1, none⟩ = some (.int .i64 x1) ∧ W9.cell? ⟨wr.heap.size, 2, none⟩ = some (.int .i64 x2) ∧ W9.cell? ⟨b, o + (k - 1) * 3 + 1, none⟩ = some (.int .i64 y1)) W.drew from ⟨HB_R6gk.out.cell 0, HB_R6gk.out.cell 1, HB_R6gk.out.cell 2, HP_R6gk.out.2 0 _ rfl⟩)
        clear hbd
        refine region_let (fun W9 : World => W9.cell? ⟨wr.heap.size, 0, none⟩ = some (.int .i64 x0) ∧ W9.cell? ⟨wr.heap.size, 1, none⟩ = some (.int .i64 x1) ∧ W9.cell? ⟨wr.heap.size, 2, none⟩ = some (.int .i64 x2) ∧ W9.cell? ⟨b, o + (k - 1) * 3 + 1, none⟩ = some (.int .i64 y1)) 99 19 hmx rfl fun ops Q HOPS HQ => ?_
        have HREG := reg_of HOPS tb_follow6 rfl (by kernel_rfl) (by kernel_rfl) (by decide)
        refine xq 0 HOPS HREG HSR6gk.out ?_; simp only [ls0, ls1]
        refine xc 1 HOPS ?_
        go_simp
        with_reducible refine (mayBe_is x0 x1 x2 _ HMB.out).mono ?_
        rintro e w3 ⟨rfl, hb⟩
        have HBR_3 := Lib.hid (bel_trans HBR_R6gk.out hb)
        have HB_3 := Lib.hid (HB_R6gk.out.below hb)
        have HP_3 := Lib.hid (HP_R6gk.out.below hb)
        have HSR6gkw3 := Lib.hid (show (fun W9 : World => W9.cell? ⟨wr.heap.size, 0, none⟩ = some (.int .i64 x0) ∧ W9.cell? ⟨wr.heap.size, 1, none⟩ = some (.int .i64 x1) ∧ W9.cell? ⟨wr.heap.size, 2, none⟩ = some (.int .i64 x2) ∧ W9.cell? ⟨b, o + (k - 1) * 3 + 1, none⟩ = some (.int .i64 y1)) w3 from ⟨HB_3.out.cell 0, HB_3.out.cell 1, HB_3.out.cell 2, HP_3.out.2 0 _ rfl⟩)
        clear hb
        refine ⟨HSR6gkw3.out, ?_⟩
        refine xq 2 HOPS HREG HSR6gkw3.out ?_; simp only [ls0, ls1]; refine xq 3 HOPS HREG HSR6gkw3.out ?_; simp only [ls0, ls1]; refine xq 4 HOPS HREG HSR6gkw3.out ?_; simp only [ls0, ls1]; refine xq 5 HOPS HREG HSR6gkw3.out ?_; simp only [ls0, ls1]; refine xq 6 HOPS HREG HSR6gkw3.out ?_; simp only [ls0, ls1]; refine xq 7 HOPS HREG HSR6gkw3.out ?_; simp only [ls0, ls1]; refine xq 8 HOPS HREG HSR6gkw3.out ?_; simp only [ls0, ls1]; refine xq 9 HOPS HREG HSR6gkw3.out ?_; simp only [ls0, ls1]; refine xq 10 HOPS HREG HSR6gkw3.out ?_; simp only [ls0, ls1]; refine xq 11 HOPS HREG HSR6gkw3.out ?_; simp only [ls0, ls1]; refine xq 12 HOPS HREG HSR6gkw3.out ?_; simp only [ls0, ls1]; refine xq 13 HOPS HREG HSR6gkw3.out ?_; simp only [ls0, ls1]; refine xq 14 HOPS HREG HSR6gkw3.out ?_; simp only [ls0, ls1]; refine xq 15 HOPS HREG HSR6gkw3.out ?_; simp only [ls0, ls1]; refine xq 16 HOPS HREG HSR6gkw3.out ?_; simp only [ls0, ls1]; refine xq 17 HOPS HREG HSR6gkw3.out ?_; simp only [ls0, ls1]; refine xq 18 HOPS HREG HSR6gkw3.out ?_; simp only [ls0, ls1]
        refine stepE HOPS (by kernel_rfl) (HQ.out _ _ ?_)
        clear HQ HREG HOPS
        clear Q ops
        go_wp2
        go_roundw
        case rel => exact ⟨k + 1, by go_num, by omega, HG.out, fun y _ hy => by rw [Nat.add_sub_cancel, HX.out] at hy; obtain rfl := Option.some.inj hy; exact HLA.out, HBR_3.out⟩
        case measure => simp [intOf]; omega
      · have hq : (x0 == y1 + 1) = false := beq_eq_false_iff_ne.2 hne
        have HZF := Lib.hid (HBAD.out (by rw [HMB.out, HPR.out]; exact decide_eq_false hne))
        clear hne
        have hbd := (Below.refl W.heap.size W).drew
        have HBR_R6gkn := Lib.hid (bel_trans HB1.out hbd)
        have HB_R6gkn := Lib.hid (HAT1.out.below hbd)
        have HP_R6gkn := Lib.hid (HP1.out.below hbd)
        have HSR6gkn := Lib.hid (show (fun W9 : World => W9.cell? ⟨wr.heap.size, 0, none⟩ = some (.int .i64 x0) ∧ W9.cell? ⟨wr.heap.size, 1, none⟩ = some (.int .i64 x1) ∧ W9.cell? ⟨wr.heap.size, 2, none⟩ = some (.int .i64 x2) ∧ W9.cell? ⟨b, o + (k - 1) * 3 + 1, none⟩ = some (.int .i64 y1)) W.drew from ⟨HB_R6gkn.out.cell 0, HB_R6gkn.out.cell 1, HB_R6gkn.out.cell 2, HP_R6gkn.out.2 0 _ rfl⟩)
        clear hbd
        refine region_let (fun W9 : World => W9.cell? ⟨wr.heap.size, 0, none⟩ = some (.int .i64 x0) ∧ W9.cell? ⟨wr.heap.size, 1, none⟩ = some (.int .i64 x1) ∧ W9.cell? ⟨wr.heap.size, 2, none⟩ = some (.int .i64 x2) ∧ W9.cell? ⟨b, o + (k - 1) * 3 + 1, none⟩ = some (.int .i64 y1)) 99 19 hmx rfl fun ops Q HOPS HQ => ?_
        have HREG := reg_of HOPS tb_follow6 rfl (by kernel_rfl) (by kernel_rfl) (by decide)
        refine xq 0 HOPS HREG HSR6gkn.out ?_; simp only [ls0, ls1]
        refine xc 1 HOPS ?_
        go_simp
        with_reducible refine (mayBe_is x0 x1 x2 _ HMB.out).mono ?_
        rintro e w3 ⟨rfl, hb⟩
        have HBR_3 := Lib.hid (bel_trans HBR_R6gkn.out hb)
        have HB_3 := Lib.hid (HB_R6gkn.out.below hb)
        have HP_3 := Lib.hid (HP_R6gkn.out.below hb)
        have HSR6gknw3 := Lib.hid (show (fun W9 : World => W9.cell? ⟨wr.heap.size, 0, none⟩ = some (.int .i64 x0) ∧ W9.cell? ⟨wr.heap.size, 1, none⟩ = some (.int .i64 x1) ∧ W9.cell? ⟨wr.heap.size, 2, none⟩ = some (.int .i64 x2) ∧ W9.cell? ⟨b, o + (k - 1) * 3 + 1, none⟩ = some (.int .i64 y1)) w3 from ⟨HB_3.out.cell 0, HB_3.out.cell 1, HB_3.out.cell 2, HP_3.out.2 0 _ rfl⟩)
        clear hb
        refine ⟨HSR6gknw3.out, ?_⟩
        refine xq 2 HOPS HREG HSR6gknw3.out ?_; simp only [ls0, ls1]; refine xq 3 HOPS HREG HSR6gknw3.out ?_; simp only [ls0, ls1]; refine xq 4 HOPS HREG HSR6gknw3.out ?_; simp only [ls0, ls1]; refine xq 5 HOPS HREG HSR6gknw3.out ?_; simp only [ls0, ls1]; refine xq 6 HOPS HREG HSR6gknw3.out ?_; simp only [ls0, ls1]; refine xq 7 HOPS HREG HSR6gknw3.out ?_; simp only [ls0, ls1]; refine xq 8 HOPS HREG HSR6gknw3.out ?_; simp only [ls0, ls1]; refine xq 9 HOPS HREG HSR6gknw3.out ?_; simp only [ls0, ls1]; refine xq 10 HOPS HREG HSR6gknw3.out ?_; simp only [ls0, ls1]; refine xq 11 HOPS HREG HSR6gknw3.out ?_; simp only [ls0, ls1]; refine xq 12 HOPS HREG HSR6gknw3.out ?_; simp only [ls0, ls1]; refine xq 13 HOPS HREG HSR6gknw3.out ?_; simp only [ls0, ls1]; refine xq 14 HOPS HREG HSR6gknw3.out ?_; simp only [ls0, ls1]; refine xq 15 HOPS HREG HSR6gknw3.out ?_; simp only [ls0, ls1]; refine xq 16 HOPS HREG HSR6gknw3.out ?_; simp only [ls0, ls1]; refine xq 17 HOPS HREG HSR6gknw3.out ?_; simp only [ls0, ls1]; refine xq 18 HOPS HREG HSR6gknw3.out ?_; simp only [ls0, ls1]
        refine stepE HOPS (by kernel_rfl) (HQ.out _ _ ?_)
        clear HQ HREG HOPS
        clear Q ops
        go_wp2
        go_ret
        exact ⟨by rw [HZF.out]; rfl, HBR_3.out⟩
    · have hkn : k = n := by omega
      subst hkn
      have HE := Lib.hid (show z = true from by
        rw [← HZ.out]
        unfold didOk
        rw [HCH.out, List.drop_of_length_le (by rw [HLEN.out]; exact Nat.le_refl _), HLEN.out, decide_eq_true (by omega)]
        rfl)
      go_wp2
      go_ret
      exact ⟨by rw [HE.out]; rfl, HB0.out⟩
end Go.Proofs.YtllebgadhhgckaaDoor.Sqs
