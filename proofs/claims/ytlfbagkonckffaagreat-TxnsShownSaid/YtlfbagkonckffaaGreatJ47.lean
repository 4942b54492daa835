/- Joined: TxnLv. -/
import Derived.Test.YtlfbagkonckffaaGreatJ15
import Derived.Test.YtlfbagkonckffaaGreatJ33
import Derived.Test.YtlfbagkonckffaaGreatJ37
import Derived.Test.YtlfbagkonckffaaGreatJ40
import Derived.Test.YtlfbagkonckffaaGreatJ43
import Derived.Test.YtlfbagkonckffaaGreatJ44
import Derived.Test.YtlfbagkonckffaaGreatJ34
import Derived.Test.YtlfbagkonckffaaGreatJ12
import Derived.Test.YtlfbagkonckffaaGreatJ11
import Derived.Deep.DeepCutAuto
import Derived.Test.YtlfbagkonckffaaGreatJ46
/- The laws' live. -/
namespace Go.Proofs.YtlfbagkonckffaaGreat.Txn
open Go.RowKit Oct Rec RowF Lay InR Bat
open Epo (At0 AtO belA)
open Sqs (at0_set9)

def tb_live3 : List (Nat × Nat) := [(0, 2047), (0, 2047), (2, 2045), (4, 2043), (9, 2038), (16, 2031), (32, 2015), (32, 2015), (0, 2047), (383, 1727), (1023, 1919)]
def tb_live4 : List (Nat × Nat) := [(0, 2047), (0, 2047), (2, 2045), (4, 2043), (9, 2038), (16, 2031), (32, 2015), (32, 2015), (0, 2047), (383, 1727), (1023, 1919)]
theorem rdT_of9 {w : World} {B n : Nat} {A : Option Addr} {hs : List BX} {l : List Bt} (h : RdF batC 10 w B A n hs) (hl : hs.map (·.1) = l) (hx : ∀ x ∈ hs, x.2.2.1 ≤ x.2.2.2 ∧ x.2.2.1 ≤ 1099511627776 ∧ RdR w B x.2.1 x.2.2.1 x.1.recs ∧ Fits x.1) : Bat.RdT w B A n l := by
  subst hl
  refine ⟨by rw [List.length_map]; exact h.1, fun k x hk => ?_⟩
  rw [List.getElem?_map] at hk
  obtain ⟨⟨y, A', n', c'⟩, hy, rfl⟩ := Option.map_eq_some_iff.1 hk
  obtain ⟨b, o, hA, hb, hc⟩ := h.2 k _ hy
  obtain ⟨h1, h2, h3, h4⟩ := hx _ (List.mem_of_getElem? hy)
  exact ⟨b, o, A', n', c', hA, hb, h1, h2, h3, h4, hc⟩
theorem rdgUp9 {w w' : World} {A : Option Addr} {n : Nat} {l : List Gon} (h : RdGn w w.heap.size A n l) (hb : Below w.heap.size w w') : RdGn w' w'.heap.size A n l := (RdF.below h hb (Nat.le_refl _)).more hb.size
theorem fld1 (a b c : Value) (W : World) : (Instr.field 25 (.agg #[a, b, c]) 1).run Tryz.prog W = .ok b W := by kernel_rfl
theorem fld2 (a b c : Value) (W : World) : (Instr.field 25 (.agg #[a, b, c]) 2).run Tryz.prog W = .ok c W := by kernel_rfl
theorem rd_first {α : Type} {f : α → List Value} {q n k : Nat} {w : World} {A : Option Addr} {l : List α} {x : α} (h : RdF f q w w.heap.size A n l) (hx : l[k]? = some x) : ∃ b o, A = some ⟨b, o, none⟩ ∧ AtO w b (o + k * q) (f x) := by
  obtain ⟨b, o, hA, hb, hc⟩ := h.2 k x hx
  exact ⟨b, o, hA, hb, hc⟩
theorem rdt_first {n k : Nat} {w : World} {A : Option Addr} {l : List Bt} {x : Bt} (h : Bat.RdT w w.heap.size A n l) (hx : l[k]? = some x) : ∃ b o, A = some ⟨b, o, none⟩ ∧ AtO w b (o + k * 10) [.int .i64 x.base] := by
  obtain ⟨b, o, A', n', c', hA, hb, _, _, _, _, hc⟩ := h.2 k x hx
  refine ⟨b, o, hA, hb, fun j v hv => ?_⟩
  cases j with
  | zero => simp only [List.getElem?_cons_zero, Option.some.injEq] at hv; subst hv; exact hc 0 _ rfl
  | succ j => simp at hv
theorem ex_rows (w : World) (A0 A1 A2 : Option Addr) (h0 : RdR w w.heap.size A0 1 (rcD 0)) (h1 : RdR w w.heap.size A1 1 (rcD 1)) (h2 : RdR w w.heap.size A2 1 (rcD 2)) {W : World} (hW : w.alloc (.cells #[.int .i64 0, .int .i64 0, .int .i64 0, .int .i64 0, .int .i64 7, .int .i64 0, .int .i64 0, .bool true, .int .i64 0, .slice A0 1 1, .int .i64 1, .int .i64 1, .int .i64 1, .int .i64 0, .int .i64 8, .int .i64 0, .int .i64 0, .bool true, .int .i64 0, .slice A1 1 1, .int .i64 2, .int .i64 2, .int .i64 2, .int .i64 0, .int .i64 7, .int .i64 0, .int .i64 0, .bool true, .int .i64 0, .slice A2 1 1, .int .i64 3, .int .i64 3, .int .i64 3, .int .i64 0, .int .i64 7, .int .i64 0, .int .i64 0, .bool true, .int .i64 1, .slice none 0 0, .int .i64 4, .int .i64 4, .int .i64 4, .int .i64 0, .int .i64 8, .int .i64 0, .int .i64 0, .bool true, .int .i64 2, .slice none 0 0] 28) = W) :
    Bat.RdT W W.heap.size (some ⟨w.heap.size, 0, none⟩) 5 exBs ∧ AtO W w.heap.size 0 [.int .i64 0, .int .i64 0, .int .i64 0, .int .i64 0, .int .i64 7, .int .i64 0, .int .i64 0, .bool true, .int .i64 0, .slice A0 1 1] ∧ AtO W w.heap.size 40 [.int .i64 4, .int .i64 4, .int .i64 4, .int .i64 0, .int .i64 8, .int .i64 0, .int .i64 0, .bool true, .int .i64 2, .slice none 0 0] ∧ Below w.heap.size w W := by
  subst hW
  have hb := belA w (.cells #[.int .i64 0, .int .i64 0, .int .i64 0, .int .i64 0, .int .i64 7, .int .i64 0, .int .i64 0, .bool true, .int .i64 0, .slice A0 1 1, .int .i64 1, .int .i64 1, .int .i64 1, .int .i64 0, .int .i64 8, .int .i64 0, .int .i64 0, .bool true, .int .i64 0, .slice A1 1 1, .int .i64 2, .int .i64 2, .int .i64 2, .int .i64 0, .int .i64 7, .int .i64 0, .int .i64 0, .bool true, .int .i64 0, .slice A2 1 1, .int .i64 3, .int .i64 3, .int .i64 3, .int .i64 0, .int .i64 7, .int .i64 0, .int .i64 0, .bool true, .int .i64 1, .slice none 0 0, .int .i64 4, .int .i64 4, .int .i64 4, .int .i64 0, .int .i64 8, .int .i64 0, .int .i64 0, .bool true, .int .i64 2, .slice none 0 0] 28)
  have hat := At0.new w [.int .i64 0, .int .i64 0, .int .i64 0, .int .i64 0, .int .i64 7, .int .i64 0, .int .i64 0, .bool true, .int .i64 0, .slice A0 1 1, .int .i64 1, .int .i64 1, .int .i64 1, .int .i64 0, .int .i64 8, .int .i64 0, .int .i64 0, .bool true, .int .i64 0, .slice A1 1 1, .int .i64 2, .int .i64 2, .int .i64 2, .int .i64 0, .int .i64 7, .int .i64 0, .int .i64 0, .bool true, .int .i64 0, .slice A2 1 1, .int .i64 3, .int .i64 3, .int .i64 3, .int .i64 0, .int .i64 7, .int .i64 0, .int .i64 0, .bool true, .int .i64 1, .slice none 0 0, .int .i64 4, .int .i64 4, .int .i64 4, .int .i64 0, .int .i64 8, .int .i64 0, .int .i64 0, .bool true, .int .i64 2, .slice none 0 0] 28
  refine ⟨?_, ⟨hat.lt, fun j v hv => ?_⟩, ⟨hat.lt, fun j v hv => ?_⟩, hb⟩
  · have hL := Pro.rdF_lit batS w 28 (0, 0) [((dB 0 7, A0, 1, 1) : BX), (dB 1 8, A1, 1, 1), (dB 2 7, A2, 1, 1), (eB 3 7 1, none, 0, 0), (eB 4 8 2, none, 0, 0)] 5 rfl
    refine (rdT_of9 (hL.more (Nat.le_refl _)) rfl ?_).more (by simp)
    intro x hx
    simp only [List.mem_cons, List.not_mem_nil, or_false] at hx
    rcases hx with rfl | rfl | rfl | rfl | rfl
    · exact ⟨Nat.le_refl _, by simp only; omega, ((h0.below hb (Nat.le_refl _)).more (by simp)), dB_fits _ _ (by unfold I64; simp) (by unfold I64; simp)⟩
    · exact ⟨Nat.le_refl _, by simp only; omega, ((h1.below hb (Nat.le_refl _)).more (by simp)), dB_fits _ _ (by unfold I64; simp) (by unfold I64; simp)⟩
    · exact ⟨Nat.le_refl _, by simp only; omega, ((h2.below hb (Nat.le_refl _)).more (by simp)), dB_fits _ _ (by unfold I64; simp) (by unfold I64; simp)⟩
    · exact ⟨Nat.le_refl _, by simp only; omega, RdR.nil, eB_fits _ _ _ (by unfold I64; simp) (by unfold I64; simp) (by unfold I64; simp)⟩
    · exact ⟨Nat.le_refl _, by simp only; omega, RdR.nil, eB_fits _ _ _ (by unfold I64; simp) (by unfold I64; simp) (by unfold I64; simp)⟩
  · rw [hat.cell (0 + j), Nat.zero_add]
    have hj : j < 10 := (List.getElem?_eq_some_iff.1 hv).1
    rw [← hv]
    match j, hj with
    | 0, _ | 1, _ | 2, _ | 3, _ | 4, _ | 5, _ | 6, _ | 7, _ | 8, _ | 9, _ => rfl
  · rw [hat.cell (40 + j)]
    have hj : j < 10 := (List.getElem?_eq_some_iff.1 hv).1
    rw [← hv]
    match j, hj with
    | 0, _ | 1, _ | 2, _ | 3, _ | 4, _ | 5, _ | 6, _ | 7, _ | 8, _ | 9, _ => rfl
set_option maxRecDepth 100000 in
set_option maxHeartbeats 16000000 in
theorem live12_any (w : World) : Calls Tryz.prog 12 #[] w fun e w' => e = .returned (.bool true) ∧ Below w.heap.size w w' := by
  have hmx : Tryz.prog.follows .mixedOrders = true := by kernel_rfl
  have HB0 := Lib.hid (Below.refl w.heap.size w)
  go_enter Tryz.func12, Tryz.ntmps12
  go_upto_region 2 with (first
    | (go_at_call 37; (with_reducible refine (data_is 0 7 w).mono ?_); rintro e w1 ⟨A0, rfl, hr, hb⟩; have HB1 := Lib.hid (bel_trans HB0.out hb); have HR0_1 := Lib.hid hr; clear hr hb)
    | (go_at_call 37; (with_reducible refine (data_is 1 8 w1).mono ?_); rintro e w2 ⟨A1, rfl, hr, hb⟩; have HB2 := Lib.hid (bel_trans HB1.out hb); have HR1_2 := Lib.hid hr; have HR0_2 := Lib.hid (rdrUp9 HR0_1.out hb); clear hr hb)
    | (go_at_call 37; (with_reducible refine (data_is 2 7 w2).mono ?_); rintro e w3 ⟨A2, rfl, hr, hb⟩; have HB3 := Lib.hid (bel_trans HB2.out hb); have HR2_3 := Lib.hid hr; have HR0_3 := Lib.hid (rdrUp9 HR0_2.out hb); have HR1_3 := Lib.hid (rdrUp9 HR1_2.out hb); clear hr hb)
    | (go_at_call 35; (with_reducible refine (end_is 3 7 1 w3).mono ?_); rintro e w4 ⟨rfl, hb⟩; have HB4 := Lib.hid (bel_trans HB3.out hb); have HR0_4 := Lib.hid (rdrUp9 HR0_3.out hb); have HR1_4 := Lib.hid (rdrUp9 HR1_3.out hb); have HR2_4 := Lib.hid (rdrUp9 HR2_3.out hb); clear hb)
    | (go_at_call 35; (with_reducible refine (end_is 4 8 2 w4).mono ?_); rintro e w5 ⟨rfl, hb⟩; have HB5 := Lib.hid (bel_trans HB4.out hb); have HR0_5 := Lib.hid (rdrUp9 HR0_4.out hb); have HR1_5 := Lib.hid (rdrUp9 HR1_4.out hb); have HR2_5 := Lib.hid (rdrUp9 HR2_4.out hb); clear hb))
  have HF4 := Lib.hid (show Fits ⟨4, 4, 4, 0, 8, 0, 0, true, 2, []⟩ from eB_fits 4 8 2 (by unfold I64; simp) (by unfold I64; simp) (by unfold I64; simp))
  have HF0 := Lib.hid (show Fits ⟨0, 0, 0, 0, 7, 0, 0, true, 0, rcD 0⟩ from dB_fits 0 7 (by unfold I64; simp) (by unfold I64; simp))
  have HPU := Lib.hid (show putT exT ⟨4, 4, 4, 0, 8, 0, 0, true, 2, []⟩ = (exU, 0) from ex_put)
  have HPN := Lib.hid (show putT exT ⟨0, 0, 0, 0, 7, 0, 0, true, 0, rcD 0⟩ = (nilT, 71) from ex_no)
  generalize hW6 : World.alloc w5 _ = w6
  obtain ⟨hq, h0, h4, hb⟩ := ex_rows w5 A0 A1 A2 HR0_5.out HR1_5.out HR2_5.out hW6
  obtain ⟨g, hg⟩ : ∃ g, w5.heap.size = g := ⟨_, rfl⟩
  rw [hg] at hq h0 h4
  simp only [hg]
  have HQ_6 := Lib.hid hq
  have HR0_6 := Lib.hid (rdrUp9 HR0_5.out hb)
  have HB0_6 := Lib.hid h0
  have HB4_6 := Lib.hid h4
  have HB_6 := Lib.hid (bel_trans HB5.out hb)
  clear hW6 hq h0 h4 hb hg HR0_5 HR1_5 HR2_5 HB5
  obtain ⟨hs4, hf1, hf2, hf3⟩ := rdF_of_rdT (HQ_6.out.take (m := 4) (by omega))
  have HOF := Lib.hid (of_is (some ⟨g, 0, none⟩) 4 5 hs4 w6 hf1 (by omega) hf3)
  have HM4 := Lib.hid (show ofT (hs4.map (·.1)) = exT from by rw [hf2]; exact ex_of)
  clear hf1 hf2 hf3
  go_upto_region 3 with (go_at_call 31; go_loud ((with_reducible refine HOF.out.mono ?_); rintro e w7 ⟨Av, nv, cv, Avg, nvg, cvg, Avd, nvd, cvd, rfl, ho, hb⟩; rw [HM4.out] at ho; obtain ⟨e1, e2, e3⟩ := ho.len; obtain rfl : 1 = nv := e1; obtain rfl : 0 = nvg := e2; obtain rfl : 1 = nvd := e3; have HO := Lib.hid ho; have HBV := Lib.hid hb; clear ho hb))
  have hba := belA w7 (.cells #[.slice Av 1 cv, .slice Avg 0 cvg, .slice Avd 1 cvd] 25)
  have HT_8 := Lib.hid (At0.new w7 [.slice Av 1 cv, .slice Avg 0 cvg, .slice Avd 1 cvd] 25)
  have HRT_8 := Lib.hid ((HO.out.rd).below hba)
  have HOP_8 := Lib.hid (HO.out.below hba)
  have HQ_8 := Lib.hid (rdtUp9 HQ_6.out (bel_trans HBV.out hba))
  have HR0_8 := Lib.hid (rdrUp9 HR0_6.out (bel_trans HBV.out hba))
  have HB0_8 := Lib.hid (HB0_6.out.below (bel_trans HBV.out hba))
  have HB4_8 := Lib.hid (HB4_6.out.below (bel_trans HBV.out hba))
  have HB_8 := Lib.hid (bel_trans HB_6.out (bel_trans HBV.out hba))
  clear hba
  generalize (w7.alloc (.cells #[.slice Av 1 cv, .slice Avg 0 cvg, .slice Avd 1 cvd] 25)) = w8 at *
  obtain ⟨pt, hpt⟩ : ∃ pt, w7.heap.size = pt := ⟨_, rfl⟩
  rw [hpt] at HT_8
  simp only [hpt]
  clear hpt
  go_cut [3, 4] (fun s3 s4 wx => ∃ P Au nu cu Aug nug cug Aud nud cud, s3 = .pointer (some ⟨P, 0, none⟩) ∧ s4 = .int .i64 0 ∧ At0 wx P [.slice Au nu cu, .slice Aug nug cug, .slice Aud nud cud] 25 ∧ OwnTx wx w8.heap.size Au nu cu Aug nug cug Aud nud cud exU ∧ Below w8.heap.size w8 wx)
  case first =>
    have hbd := (Below.refl w8.heap.size w8).drew
    have HT_R3 := Lib.hid (HT_8.out.below hbd)
    have HRT_R3 := Lib.hid (HRT_8.out.below hbd)
    have HQ_R3 := Lib.hid (rdtUp9 HQ_8.out hbd)
    have HB0_R3 := Lib.hid (HB0_8.out.below hbd)
    have HB4_R3 := Lib.hid (HB4_8.out.below hbd)
    have HB_R3 := Lib.hid (bel_trans HB_8.out hbd)
    have HR0_R3 := Lib.hid (rdrUp9 HR0_8.out hbd)
    have HOP_R3 := Lib.hid (HOP_8.out.below hbd)
    have HSR3 := Lib.hid (show (fun W9 : World => W9.cell? ⟨pt, 0, none⟩ = some (.slice Av 1 cv) ∧ W9.cell? ⟨pt, 1, none⟩ = some (.slice Avg 0 cvg) ∧ W9.cell? ⟨pt, 2, none⟩ = some (.slice Avd 1 cvd) ∧ W9.cell? ⟨g, 40, none⟩ = some (.int .i64 4) ∧ W9.cell? ⟨g, 40 + 1, none⟩ = some (.int .i64 4) ∧ W9.cell? ⟨g, 40 + 2, none⟩ = some (.int .i64 4) ∧ W9.cell? ⟨g, 40 + 3, none⟩ = some (.int .i64 0) ∧ W9.cell? ⟨g, 40 + 4, none⟩ = some (.int .i64 8) ∧ W9.cell? ⟨g, 40 + 5, none⟩ = some (.int .i64 0) ∧ W9.cell? ⟨g, 40 + 6, none⟩ = some (.int .i64 0) ∧ W9.cell? ⟨g, 40 + 7, none⟩ = some (.bool true) ∧ W9.cell? ⟨g, 40 + 8, none⟩ = some (.int .i64 2) ∧ W9.cell? ⟨g, 40 + 9, none⟩ = some (.slice none 0 0)) w8.drew from ⟨HT_R3.out.cell 0, HT_R3.out.cell 1, HT_R3.out.cell 2, HB4_R3.out.2 0 _ rfl, HB4_R3.out.2 1 _ rfl, HB4_R3.out.2 2 _ rfl, HB4_R3.out.2 3 _ rfl, HB4_R3.out.2 4 _ rfl, HB4_R3.out.2 5 _ rfl, HB4_R3.out.2 6 _ rfl, HB4_R3.out.2 7 _ rfl, HB4_R3.out.2 8 _ rfl, HB4_R3.out.2 9 _ rfl⟩)
    clear hbd
    refine region_let (fun W9 : World => W9.cell? ⟨pt, 0, none⟩ = some (.slice Av 1 cv) ∧ W9.cell? ⟨pt, 1, none⟩ = some (.slice Avg 0 cvg) ∧ W9.cell? ⟨pt, 2, none⟩ = some (.slice Avd 1 cvd) ∧ W9.cell? ⟨g, 40, none⟩ = some (.int .i64 4) ∧ W9.cell? ⟨g, 40 + 1, none⟩ = some (.int .i64 4) ∧ W9.cell? ⟨g, 40 + 2, none⟩ = some (.int .i64 4) ∧ W9.cell? ⟨g, 40 + 3, none⟩ = some (.int .i64 0) ∧ W9.cell? ⟨g, 40 + 4, none⟩ = some (.int .i64 8) ∧ W9.cell? ⟨g, 40 + 5, none⟩ = some (.int .i64 0) ∧ W9.cell? ⟨g, 40 + 6, none⟩ = some (.int .i64 0) ∧ W9.cell? ⟨g, 40 + 7, none⟩ = some (.bool true) ∧ W9.cell? ⟨g, 40 + 8, none⟩ = some (.int .i64 2) ∧ W9.cell? ⟨g, 40 + 9, none⟩ = some (.slice none 0 0)) 99 11 hmx rfl fun ops Q HOPS HQ => ?_
    have HREG := reg_of HOPS tb_live3 rfl (by kernel_rfl) (by kernel_rfl) (by decide)
    refine xq 0 HOPS HREG HSR3.out ?_; simp only [ls0, ls1]; refine xq 1 HOPS HREG HSR3.out ?_; simp only [ls0, ls1]; refine xq 2 HOPS HREG HSR3.out ?_; simp only [ls0, ls1]; refine xq 3 HOPS HREG HSR3.out ?_; simp only [ls0, ls1]
    refine xc2 4 8 HOPS ?_ ?_
    · go_simp
      with_reducible refine (dPutT_is Av 1 cv Avg 0 cvg Avd 1 cvd exT 4 4 4 0 8 0 0 true 2 none 0 0 [] _ HRT_R3.out ⟨by omega, by omega, by omega⟩ HF4.out RdR.nil (by omega) HPU.out).mono ?_
      rintro e wqR3 ⟨Au, nu, cu, Aug, nug, cug, Aud, nud, cud, rfl, ho, hb⟩
      have HT_qR34 := Lib.hid (HT_R3.out.below hb)
      have HRT_qR34 := Lib.hid (HRT_R3.out.below hb)
      have HQ_qR34 := Lib.hid (rdtUp9 HQ_R3.out hb)
      have HB0_qR34 := Lib.hid (HB0_R3.out.below hb)
      have HB4_qR34 := Lib.hid (HB4_R3.out.below hb)
      have HB_qR34 := Lib.hid (bel_trans HB_R3.out hb)
      have HR0_qR34 := Lib.hid (rdrUp9 HR0_R3.out hb)
      have HOP_qR34 := Lib.hid (HOP_R3.out.below hb)
      have HY := Lib.hid ho
      have HBW := Lib.hid hb
      clear ho
      have HSR3_4_4 := Lib.hid (show (fun W9 : World => W9.cell? ⟨pt, 0, none⟩ = some (.slice Av 1 cv) ∧ W9.cell? ⟨pt, 1, none⟩ = some (.slice Avg 0 cvg) ∧ W9.cell? ⟨pt, 2, none⟩ = some (.slice Avd 1 cvd) ∧ W9.cell? ⟨g, 40, none⟩ = some (.int .i64 4) ∧ W9.cell? ⟨g, 40 + 1, none⟩ = some (.int .i64 4) ∧ W9.cell? ⟨g, 40 + 2, none⟩ = some (.int .i64 4) ∧ W9.cell? ⟨g, 40 + 3, none⟩ = some (.int .i64 0) ∧ W9.cell? ⟨g, 40 + 4, none⟩ = some (.int .i64 8) ∧ W9.cell? ⟨g, 40 + 5, none⟩ = some (.int .i64 0) ∧ W9.cell? ⟨g, 40 + 6, none⟩ = some (.int .i64 0) ∧ W9.cell? ⟨g, 40 + 7, none⟩ = some (.bool true) ∧ W9.cell? ⟨g, 40 + 8, none⟩ = some (.int .i64 2) ∧ W9.cell? ⟨g, 40 + 9, none⟩ = some (.slice none 0 0)) wqR3 from ⟨HT_qR34.out.cell 0, HT_qR34.out.cell 1, HT_qR34.out.cell 2, HB4_qR34.out.2 0 _ rfl, HB4_qR34.out.2 1 _ rfl, HB4_qR34.out.2 2 _ rfl, HB4_qR34.out.2 3 _ rfl, HB4_qR34.out.2 4 _ rfl, HB4_qR34.out.2 5 _ rfl, HB4_qR34.out.2 6 _ rfl, HB4_qR34.out.2 7 _ rfl, HB4_qR34.out.2 8 _ rfl, HB4_qR34.out.2 9 _ rfl⟩)
      clear hb
      refine ⟨HSR3_4_4.out, ?_⟩
      refine xq 5 HOPS HREG HSR3_4_4.out ?_; simp only [ls0, ls1]; refine xq 6 HOPS HREG HSR3_4_4.out ?_; simp only [ls0, ls1]; refine xq 7 HOPS HREG HSR3_4_4.out ?_; simp only [ls0, ls1]
      refine xc 8 HOPS ?_
      go_simp
      have hb := belA wqR3 (.cells #[.slice none 0 0, .slice none 0 0, .slice none 0 0] 25)
      have HT_y := Lib.hid (HT_qR34.out.below hb)
      have HRT_y := Lib.hid (HRT_qR34.out.below hb)
      have HQ_y := Lib.hid (rdtUp9 HQ_qR34.out hb)
      have HB0_y := Lib.hid (HB0_qR34.out.below hb)
      have HB4_y := Lib.hid (HB4_qR34.out.below hb)
      have HB_y := Lib.hid (bel_trans HB_qR34.out hb)
      have HR0_y := Lib.hid (rdrUp9 HR0_qR34.out hb)
      have HOP_y := Lib.hid (HOP_qR34.out.below hb)
      have HSR3_4_8 := Lib.hid (show (fun W9 : World => W9.cell? ⟨pt, 0, none⟩ = some (.slice Av 1 cv) ∧ W9.cell? ⟨pt, 1, none⟩ = some (.slice Avg 0 cvg) ∧ W9.cell? ⟨pt, 2, none⟩ = some (.slice Avd 1 cvd) ∧ W9.cell? ⟨g, 40, none⟩ = some (.int .i64 4) ∧ W9.cell? ⟨g, 40 + 1, none⟩ = some (.int .i64 4) ∧ W9.cell? ⟨g, 40 + 2, none⟩ = some (.int .i64 4) ∧ W9.cell? ⟨g, 40 + 3, none⟩ = some (.int .i64 0) ∧ W9.cell? ⟨g, 40 + 4, none⟩ = some (.int .i64 8) ∧ W9.cell? ⟨g, 40 + 5, none⟩ = some (.int .i64 0) ∧ W9.cell? ⟨g, 40 + 6, none⟩ = some (.int .i64 0) ∧ W9.cell? ⟨g, 40 + 7, none⟩ = some (.bool true) ∧ W9.cell? ⟨g, 40 + 8, none⟩ = some (.int .i64 2) ∧ W9.cell? ⟨g, 40 + 9, none⟩ = some (.slice none 0 0)) (wqR3.alloc (.cells #[.slice none 0 0, .slice none 0 0, .slice none 0 0] 25)) from ⟨HT_y.out.cell 0, HT_y.out.cell 1, HT_y.out.cell 2, HB4_y.out.2 0 _ rfl, HB4_y.out.2 1 _ rfl, HB4_y.out.2 2 _ rfl, HB4_y.out.2 3 _ rfl, HB4_y.out.2 4 _ rfl, HB4_y.out.2 5 _ rfl, HB4_y.out.2 6 _ rfl, HB4_y.out.2 7 _ rfl, HB4_y.out.2 8 _ rfl, HB4_y.out.2 9 _ rfl⟩)
      clear hb
      refine ⟨by exact HSR3_4_8.out, ?_⟩
      refine xc 9 HOPS ?_
      go_simp
      have hb := belA wqR3 (.cells #[.slice Au nu cu, .slice Aug nug cug, .slice Aud nud cud] 25)
      have HT_x := Lib.hid (HT_qR34.out.below hb)
      have HRT_x := Lib.hid (HRT_qR34.out.below hb)
      have HQ_x := Lib.hid (rdtUp9 HQ_qR34.out hb)
      have HB0_x := Lib.hid (HB0_qR34.out.below hb)
      have HB4_x := Lib.hid (HB4_qR34.out.below hb)
      have HB_x := Lib.hid (bel_trans HB_qR34.out hb)
      have HR0_x := Lib.hid (rdrUp9 HR0_qR34.out hb)
      have HOP_x := Lib.hid (HOP_qR34.out.below hb)
      have HSR3_4_9 := Lib.hid (show (fun W9 : World => W9.cell? ⟨pt, 0, none⟩ = some (.slice Av 1 cv) ∧ W9.cell? ⟨pt, 1, none⟩ = some (.slice Avg 0 cvg) ∧ W9.cell? ⟨pt, 2, none⟩ = some (.slice Avd 1 cvd) ∧ W9.cell? ⟨g, 40, none⟩ = some (.int .i64 4) ∧ W9.cell? ⟨g, 40 + 1, none⟩ = some (.int .i64 4) ∧ W9.cell? ⟨g, 40 + 2, none⟩ = some (.int .i64 4) ∧ W9.cell? ⟨g, 40 + 3, none⟩ = some (.int .i64 0) ∧ W9.cell? ⟨g, 40 + 4, none⟩ = some (.int .i64 8) ∧ W9.cell? ⟨g, 40 + 5, none⟩ = some (.int .i64 0) ∧ W9.cell? ⟨g, 40 + 6, none⟩ = some (.int .i64 0) ∧ W9.cell? ⟨g, 40 + 7, none⟩ = some (.bool true) ∧ W9.cell? ⟨g, 40 + 8, none⟩ = some (.int .i64 2) ∧ W9.cell? ⟨g, 40 + 9, none⟩ = some (.slice none 0 0)) (wqR3.alloc (.cells #[.slice Au nu cu, .slice Aug nug cug, .slice Aud nud cud] 25)) from ⟨HT_x.out.cell 0, HT_x.out.cell 1, HT_x.out.cell 2, HB4_x.out.2 0 _ rfl, HB4_x.out.2 1 _ rfl, HB4_x.out.2 2 _ rfl, HB4_x.out.2 3 _ rfl, HB4_x.out.2 4 _ rfl, HB4_x.out.2 5 _ rfl, HB4_x.out.2 6 _ rfl, HB4_x.out.2 7 _ rfl, HB4_x.out.2 8 _ rfl, HB4_x.out.2 9 _ rfl⟩)
      clear hb
      refine ⟨HSR3_4_9.out, ?_⟩
      refine xq 10 HOPS HREG HSR3_4_9.out ?_; simp only [ls0, ls1]
      refine stepE HOPS (by kernel_rfl) (HQ.out _ _ ?_)
      clear HQ HREG HOPS
      clear Q ops
      go_wp2
      go_meet
      exact ⟨wqR3.heap.size, Au, nu, cu, Aug, nug, cug, Aud, nud, cud, rfl, rfl, At0.new wqR3 [.slice Au nu cu, .slice Aug nug cug, .slice Aud nud cud] _, HY.out.below (belA wqR3 _), bel_alloc (bel_trans (Below.refl w8.heap.size w8).drew HBW.out) _⟩
    · go_simp
      have hb := (show Below w8.heap.size w8 (w8.alloc (.cells #[.slice none 0 0, .slice none 0 0, .slice none 0 0] 25)).drew from (belA _ _).drew)
      have HT_z := Lib.hid (HT_8.out.below hb)
      have HRT_z := Lib.hid (HRT_8.out.below hb)
      have HQ_z := Lib.hid (rdtUp9 HQ_8.out hb)
      have HB0_z := Lib.hid (HB0_8.out.below hb)
      have HB4_z := Lib.hid (HB4_8.out.below hb)
      have HB_z := Lib.hid (bel_trans HB_8.out hb)
      have HR0_z := Lib.hid (rdrUp9 HR0_8.out hb)
      have HOP_z := Lib.hid (HOP_8.out.below hb)
      have HP_z := Lib.hid (show At0 (w8.alloc (.cells #[.slice none 0 0, .slice none 0 0, .slice none 0 0] 25)).drew w8.heap.size [.slice none 0 0, .slice none 0 0, .slice none 0 0] 25 from At0.new w8 _ _)
      have HSR3_8_8 := Lib.hid (show (fun W9 : World => W9.cell? ⟨pt, 0, none⟩ = some (.slice Av 1 cv) ∧ W9.cell? ⟨pt, 1, none⟩ = some (.slice Avg 0 cvg) ∧ W9.cell? ⟨pt, 2, none⟩ = some (.slice Avd 1 cvd) ∧ W9.cell? ⟨g, 40, none⟩ = some (.int .i64 4) ∧ W9.cell? ⟨g, 40 + 1, none⟩ = some (.int .i64 4) ∧ W9.cell? ⟨g, 40 + 2, none⟩ = some (.int .i64 4) ∧ W9.cell? ⟨g, 40 + 3, none⟩ = some (.int .i64 0) ∧ W9.cell? ⟨g, 40 + 4, none⟩ = some (.int .i64 8) ∧ W9.cell? ⟨g, 40 + 5, none⟩ = some (.int .i64 0) ∧ W9.cell? ⟨g, 40 + 6, none⟩ = some (.int .i64 0) ∧ W9.cell? ⟨g, 40 + 7, none⟩ = some (.bool true) ∧ W9.cell? ⟨g, 40 + 8, none⟩ = some (.int .i64 2) ∧ W9.cell? ⟨g, 40 + 9, none⟩ = some (.slice none 0 0)) (w8.alloc (.cells #[.slice none 0 0, .slice none 0 0, .slice none 0 0] 25)).drew from ⟨HT_z.out.cell 0, HT_z.out.cell 1, HT_z.out.cell 2, HB4_z.out.2 0 _ rfl, HB4_z.out.2 1 _ rfl, HB4_z.out.2 2 _ rfl, HB4_z.out.2 3 _ rfl, HB4_z.out.2 4 _ rfl, HB4_z.out.2 5 _ rfl, HB4_z.out.2 6 _ rfl, HB4_z.out.2 7 _ rfl, HB4_z.out.2 8 _ rfl, HB4_z.out.2 9 _ rfl⟩)
      clear hb
      refine ⟨by exact HSR3_8_8.out, ?_⟩
      refine xc 4 HOPS ?_
      go_simp
      with_reducible refine (dPutT_is Av 1 cv Avg 0 cvg Avd 1 cvd exT 4 4 4 0 8 0 0 true 2 none 0 0 [] _ HRT_z.out ⟨by omega, by omega, by omega⟩ HF4.out RdR.nil (by omega) HPU.out).mono ?_
      rintro e wqR3 ⟨Au, nu, cu, Aug, nug, cug, Aud, nud, cud, rfl, ho, hb⟩
      have HT_qR38 := Lib.hid (HT_z.out.below hb)
      have HRT_qR38 := Lib.hid (HRT_z.out.below hb)
      have HQ_qR38 := Lib.hid (rdtUp9 HQ_z.out hb)
      have HB0_qR38 := Lib.hid (HB0_z.out.below hb)
      have HB4_qR38 := Lib.hid (HB4_z.out.below hb)
      have HB_qR38 := Lib.hid (bel_trans HB_z.out hb)
      have HR0_qR38 := Lib.hid (rdrUp9 HR0_z.out hb)
      have HOP_qR38 := Lib.hid (HOP_z.out.below hb)
      have HP_qR38 := Lib.hid (HP_z.out.below hb)
      have HY := Lib.hid ho
      have HBW := Lib.hid hb
      clear ho
      have hltwqR3 := hb.size
      have HSR3_8_4 := Lib.hid (show (fun W9 : World => W9.cell? ⟨pt, 0, none⟩ = some (.slice Av 1 cv) ∧ W9.cell? ⟨pt, 1, none⟩ = some (.slice Avg 0 cvg) ∧ W9.cell? ⟨pt, 2, none⟩ = some (.slice Avd 1 cvd) ∧ W9.cell? ⟨g, 40, none⟩ = some (.int .i64 4) ∧ W9.cell? ⟨g, 40 + 1, none⟩ = some (.int .i64 4) ∧ W9.cell? ⟨g, 40 + 2, none⟩ = some (.int .i64 4) ∧ W9.cell? ⟨g, 40 + 3, none⟩ = some (.int .i64 0) ∧ W9.cell? ⟨g, 40 + 4, none⟩ = some (.int .i64 8) ∧ W9.cell? ⟨g, 40 + 5, none⟩ = some (.int .i64 0) ∧ W9.cell? ⟨g, 40 + 6, none⟩ = some (.int .i64 0) ∧ W9.cell? ⟨g, 40 + 7, none⟩ = some (.bool true) ∧ W9.cell? ⟨g, 40 + 8, none⟩ = some (.int .i64 2) ∧ W9.cell? ⟨g, 40 + 9, none⟩ = some (.slice none 0 0)) wqR3 from ⟨HT_qR38.out.cell 0, HT_qR38.out.cell 1, HT_qR38.out.cell 2, HB4_qR38.out.2 0 _ rfl, HB4_qR38.out.2 1 _ rfl, HB4_qR38.out.2 2 _ rfl, HB4_qR38.out.2 3 _ rfl, HB4_qR38.out.2 4 _ rfl, HB4_qR38.out.2 5 _ rfl, HB4_qR38.out.2 6 _ rfl, HB4_qR38.out.2 7 _ rfl, HB4_qR38.out.2 8 _ rfl, HB4_qR38.out.2 9 _ rfl⟩)
      clear hb
      refine ⟨HSR3_8_4.out, ?_⟩
      refine xq 5 HOPS HREG HSR3_8_4.out ?_; simp only [ls0, ls1]; refine xq 6 HOPS HREG HSR3_8_4.out ?_; simp only [ls0, ls1]; refine xq 7 HOPS HREG HSR3_8_4.out ?_; simp only [ls0, ls1]
      refine xc 9 HOPS ?_
      have hp := HP_qR38.out
      have hpl := hp.lt
      have hp0 := hp.cell 0
      have hp1 := hp.cell 1
      have hp2 := hp.cell 2
      have hpf0 := hp.frozen 0
      have hpf1 := hp.frozen 1
      have hpf2 := hp.frozen 2
      simp only [List.getElem?_cons_zero, List.getElem?_cons_succ] at hp0 hp1 hp2
      go_simp
      have hblHT := HT_8.out.lt
      have hblHB4 := HB4_8.out.1
      have htB_0 : wqR3.cell? ⟨pt, 0, none⟩ = some (.slice Av 1 cv) := HT_qR38.out.cell 0
      have htB_1 : wqR3.cell? ⟨pt, 1, none⟩ = some (.slice Avg 0 cvg) := HT_qR38.out.cell 1
      have htB_2 : wqR3.cell? ⟨pt, 2, none⟩ = some (.slice Avd 1 cvd) := HT_qR38.out.cell 2
      have hb4B_0 : wqR3.cell? ⟨g, 40, none⟩ = some (.int .i64 4) := HB4_qR38.out.2 0 _ rfl
      have hb4B_1 : wqR3.cell? ⟨g, 40 + 1, none⟩ = some (.int .i64 4) := HB4_qR38.out.2 1 _ rfl
      have hb4B_2 : wqR3.cell? ⟨g, 40 + 2, none⟩ = some (.int .i64 4) := HB4_qR38.out.2 2 _ rfl
      have hb4B_3 : wqR3.cell? ⟨g, 40 + 3, none⟩ = some (.int .i64 0) := HB4_qR38.out.2 3 _ rfl
      have hb4B_4 : wqR3.cell? ⟨g, 40 + 4, none⟩ = some (.int .i64 8) := HB4_qR38.out.2 4 _ rfl
      have hb4B_5 : wqR3.cell? ⟨g, 40 + 5, none⟩ = some (.int .i64 0) := HB4_qR38.out.2 5 _ rfl
      have hb4B_6 : wqR3.cell? ⟨g, 40 + 6, none⟩ = some (.int .i64 0) := HB4_qR38.out.2 6 _ rfl
      have hb4B_7 : wqR3.cell? ⟨g, 40 + 7, none⟩ = some (.bool true) := HB4_qR38.out.2 7 _ rfl
      have hb4B_8 : wqR3.cell? ⟨g, 40 + 8, none⟩ = some (.int .i64 2) := HB4_qR38.out.2 8 _ rfl
      have hb4B_9 : wqR3.cell? ⟨g, 40 + 9, none⟩ = some (.slice none 0 0) := HB4_qR38.out.2 9 _ rfl
      have HSR3_B9 := Lib.hid (show (fun W9 : World => W9.cell? ⟨pt, 0, none⟩ = some (.slice Av 1 cv) ∧ W9.cell? ⟨pt, 1, none⟩ = some (.slice Avg 0 cvg) ∧ W9.cell? ⟨pt, 2, none⟩ = some (.slice Avd 1 cvd) ∧ W9.cell? ⟨g, 40, none⟩ = some (.int .i64 4) ∧ W9.cell? ⟨g, 40 + 1, none⟩ = some (.int .i64 4) ∧ W9.cell? ⟨g, 40 + 2, none⟩ = some (.int .i64 4) ∧ W9.cell? ⟨g, 40 + 3, none⟩ = some (.int .i64 0) ∧ W9.cell? ⟨g, 40 + 4, none⟩ = some (.int .i64 8) ∧ W9.cell? ⟨g, 40 + 5, none⟩ = some (.int .i64 0) ∧ W9.cell? ⟨g, 40 + 6, none⟩ = some (.int .i64 0) ∧ W9.cell? ⟨g, 40 + 7, none⟩ = some (.bool true) ∧ W9.cell? ⟨g, 40 + 8, none⟩ = some (.int .i64 2) ∧ W9.cell? ⟨g, 40 + 9, none⟩ = some (.slice none 0 0)) (((wqR3.setCell ⟨w8.heap.size, 0, none⟩ (.slice Au nu cu)).setCell ⟨w8.heap.size, 1, none⟩ (.slice Aug nug cug)).setCell ⟨w8.heap.size, 2, none⟩ (.slice Aud nud cud)) from ⟨(cell_off (by simp only; omega)).trans ((cell_off (by simp only; omega)).trans ((cell_off (by simp only; omega)).trans (HT_qR38.out.cell 0))), (cell_off (by simp only; omega)).trans ((cell_off (by simp only; omega)).trans ((cell_off (by simp only; omega)).trans (HT_qR38.out.cell 1))), (cell_off (by simp only; omega)).trans ((cell_off (by simp only; omega)).trans ((cell_off (by simp only; omega)).trans (HT_qR38.out.cell 2))), (cell_off (by simp only; omega)).trans ((cell_off (by simp only; omega)).trans ((cell_off (by simp only; omega)).trans (HB4_qR38.out.2 0 _ rfl))), (cell_off (by simp only; omega)).trans ((cell_off (by simp only; omega)).trans ((cell_off (by simp only; omega)).trans (HB4_qR38.out.2 1 _ rfl))), (cell_off (by simp only; omega)).trans ((cell_off (by simp only; omega)).trans ((cell_off (by simp only; omega)).trans (HB4_qR38.out.2 2 _ rfl))), (cell_off (by simp only; omega)).trans ((cell_off (by simp only; omega)).trans ((cell_off (by simp only; omega)).trans (HB4_qR38.out.2 3 _ rfl))), (cell_off (by simp only; omega)).trans ((cell_off (by simp only; omega)).trans ((cell_off (by simp only; omega)).trans (HB4_qR38.out.2 4 _ rfl))), (cell_off (by simp only; omega)).trans ((cell_off (by simp only; omega)).trans ((cell_off (by simp only; omega)).trans (HB4_qR38.out.2 5 _ rfl))), (cell_off (by simp only; omega)).trans ((cell_off (by simp only; omega)).trans ((cell_off (by simp only; omega)).trans (HB4_qR38.out.2 6 _ rfl))), (cell_off (by simp only; omega)).trans ((cell_off (by simp only; omega)).trans ((cell_off (by simp only; omega)).trans (HB4_qR38.out.2 7 _ rfl))), (cell_off (by simp only; omega)).trans ((cell_off (by simp only; omega)).trans ((cell_off (by simp only; omega)).trans (HB4_qR38.out.2 8 _ rfl))), (cell_off (by simp only; omega)).trans ((cell_off (by simp only; omega)).trans ((cell_off (by simp only; omega)).trans (HB4_qR38.out.2 9 _ rfl)))⟩)
      refine ⟨by (repeat' apply And.intro) <;> first | assumption | exact (cell_off (by simp only; omega)).trans (by assumption) | exact (cell_off (by simp only; omega)).trans ((cell_off (by simp only; omega)).trans (by assumption)) | exact (cell_off (by simp only; omega)).trans ((cell_off (by simp only; omega)).trans ((cell_off (by simp only; omega)).trans (by assumption))), ?_⟩
      clear htB_0 htB_1 htB_2 hb4B_0 hb4B_1 hb4B_2 hb4B_3 hb4B_4 hb4B_5 hb4B_6 hb4B_7 hb4B_8 hb4B_9
      refine xq 10 HOPS HREG HSR3_B9.out ?_; simp only [ls0, ls1]
      refine stepE HOPS (by kernel_rfl) (HQ.out _ _ ?_)
      clear HQ HREG HOPS
      clear Q ops
      go_wp2
      go_meet
      have hoff := HY.out.offBelow (g := w8.heap.size) (by simp)
      exact ⟨w8.heap.size, Au, nu, cu, Aug, nug, cug, Aud, nud, cud, rfl, rfl, at0_set9 (at0_set9 (at0_set9 HP_qR38.out 0 _) 1 _) 2 _, (((HY.out.set hoff 0 _).set hoff 1 _).set hoff 2 _).more (by simp), (((bel_trans (show Below w8.heap.size w8 (w8.alloc (.cells #[.slice none 0 0, .slice none 0 0, .slice none 0 0] 25)).drew from (belA w8 _).drew) HBW.out).setCell (Nat.le_refl _) _).setCell (Nat.le_refl _) _).setCell (Nat.le_refl _) _⟩
  case rest =>
    obtain ⟨PR3, Au, nu, cu, Aug, nug, cug, Aud, nud, cud, rfl, rfl, hbx, ho, hb⟩ := hcut
    rename World => w10
    have HT_10 := Lib.hid (HT_8.out.below hb)
    have HRT_10 := Lib.hid (HRT_8.out.below hb)
    have HQ_10 := Lib.hid (rdtUp9 HQ_8.out hb)
    have HB0_10 := Lib.hid (HB0_8.out.below hb)
    have HB4_10 := Lib.hid (HB4_8.out.below hb)
    have HB_10 := Lib.hid (bel_trans HB_8.out hb)
    have HR0_10 := Lib.hid (rdrUp9 HR0_8.out hb)
    have HOP_10 := Lib.hid (HOP_8.out.below hb)
    have HU_10 := Lib.hid (hbx)
    have HOR3 := Lib.hid ho
    clear hbx ho hb
    obtain ⟨e1, e2, e3⟩ := HOR3.out.len
    obtain rfl : 0 = nu := e1
    obtain rfl : 1 = nug := e2
    obtain rfl : 1 = nud := e3
    have HRU_10 := Lib.hid (HOR3.out.rd)
    have HOU_10 := Lib.hid (HOR3.out)
    go_upto_region 4 with fail
    go_cut [5, 6] (fun s5 s6 wx => ∃ P Ax nx cx Axg nxg cxg Axd nxd cxd, s5 = .pointer (some ⟨P, 0, none⟩) ∧ s6 = .int .i64 71 ∧ At0 wx P [.slice Ax nx cx, .slice Axg nxg cxg, .slice Axd nxd cxd] 25 ∧ OwnTx wx w10.heap.size Ax nx cx Axg nxg cxg Axd nxd cxd nilT ∧ Below w10.heap.size w10 wx)
    case first =>
      have hbd := (Below.refl w10.heap.size w10).drew
      have HT_R4 := Lib.hid (HT_10.out.below hbd)
      have HRT_R4 := Lib.hid (HRT_10.out.below hbd)
      have HQ_R4 := Lib.hid (rdtUp9 HQ_10.out hbd)
      have HB0_R4 := Lib.hid (HB0_10.out.below hbd)
      have HB4_R4 := Lib.hid (HB4_10.out.below hbd)
      have HB_R4 := Lib.hid (bel_trans HB_10.out hbd)
      have HR0_R4 := Lib.hid (rdrUp9 HR0_10.out hbd)
      have HOP_R4 := Lib.hid (HOP_10.out.below hbd)
      have HU_R4 := Lib.hid (HU_10.out.below hbd)
      have HRU_R4 := Lib.hid (HRU_10.out.below hbd)
      have HOU_R4 := Lib.hid (HOU_10.out.below hbd)
      have HSR4 := Lib.hid (show (fun W9 : World => W9.cell? ⟨pt, 0, none⟩ = some (.slice Av 1 cv) ∧ W9.cell? ⟨pt, 1, none⟩ = some (.slice Avg 0 cvg) ∧ W9.cell? ⟨pt, 2, none⟩ = some (.slice Avd 1 cvd) ∧ W9.cell? ⟨g, 0, none⟩ = some (.int .i64 0) ∧ W9.cell? ⟨g, 0 + 1, none⟩ = some (.int .i64 0) ∧ W9.cell? ⟨g, 0 + 2, none⟩ = some (.int .i64 0) ∧ W9.cell? ⟨g, 0 + 3, none⟩ = some (.int .i64 0) ∧ W9.cell? ⟨g, 0 + 4, none⟩ = some (.int .i64 7) ∧ W9.cell? ⟨g, 0 + 5, none⟩ = some (.int .i64 0) ∧ W9.cell? ⟨g, 0 + 6, none⟩ = some (.int .i64 0) ∧ W9.cell? ⟨g, 0 + 7, none⟩ = some (.bool true) ∧ W9.cell? ⟨g, 0 + 8, none⟩ = some (.int .i64 0) ∧ W9.cell? ⟨g, 0 + 9, none⟩ = some (.slice A0 1 1)) w10.drew from ⟨HT_R4.out.cell 0, HT_R4.out.cell 1, HT_R4.out.cell 2, HB0_R4.out.2 0 _ rfl, HB0_R4.out.2 1 _ rfl, HB0_R4.out.2 2 _ rfl, HB0_R4.out.2 3 _ rfl, HB0_R4.out.2 4 _ rfl, HB0_R4.out.2 5 _ rfl, HB0_R4.out.2 6 _ rfl, HB0_R4.out.2 7 _ rfl, HB0_R4.out.2 8 _ rfl, HB0_R4.out.2 9 _ rfl⟩)
      clear hbd
      refine region_let (fun W9 : World => W9.cell? ⟨pt, 0, none⟩ = some (.slice Av 1 cv) ∧ W9.cell? ⟨pt, 1, none⟩ = some (.slice Avg 0 cvg) ∧ W9.cell? ⟨pt, 2, none⟩ = some (.slice Avd 1 cvd) ∧ W9.cell? ⟨g, 0, none⟩ = some (.int .i64 0) ∧ W9.cell? ⟨g, 0 + 1, none⟩ = some (.int .i64 0) ∧ W9.cell? ⟨g, 0 + 2, none⟩ = some (.int .i64 0) ∧ W9.cell? ⟨g, 0 + 3, none⟩ = some (.int .i64 0) ∧ W9.cell? ⟨g, 0 + 4, none⟩ = some (.int .i64 7) ∧ W9.cell? ⟨g, 0 + 5, none⟩ = some (.int .i64 0) ∧ W9.cell? ⟨g, 0 + 6, none⟩ = some (.int .i64 0) ∧ W9.cell? ⟨g, 0 + 7, none⟩ = some (.bool true) ∧ W9.cell? ⟨g, 0 + 8, none⟩ = some (.int .i64 0) ∧ W9.cell? ⟨g, 0 + 9, none⟩ = some (.slice A0 1 1)) 99 11 hmx rfl fun ops Q HOPS HQ => ?_
      have HREG := reg_of HOPS tb_live4 rfl (by kernel_rfl) (by kernel_rfl) (by decide)
      refine xq 0 HOPS HREG HSR4.out ?_; simp only [ls0, ls1]; refine xq 1 HOPS HREG HSR4.out ?_; simp only [ls0, ls1]; refine xq 2 HOPS HREG HSR4.out ?_; simp only [ls0, ls1]; refine xq 3 HOPS HREG HSR4.out ?_; simp only [ls0, ls1]
      refine xc2 4 8 HOPS ?_ ?_
      · go_simp
        with_reducible refine (dPutT_is Av 1 cv Avg 0 cvg Avd 1 cvd exT 0 0 0 0 7 0 0 true 0 A0 1 1 (rcD 0) _ HRT_R4.out ⟨by omega, by omega, by omega⟩ HF0.out HR0_R4.out (by omega) HPN.out).mono ?_
        rintro e wqR4 ⟨Ax, nx, cx, Axg, nxg, cxg, Axd, nxd, cxd, rfl, ho, hb⟩
        have HT_qR44 := Lib.hid (HT_R4.out.below hb)
        have HRT_qR44 := Lib.hid (HRT_R4.out.below hb)
        have HQ_qR44 := Lib.hid (rdtUp9 HQ_R4.out hb)
        have HB0_qR44 := Lib.hid (HB0_R4.out.below hb)
        have HB4_qR44 := Lib.hid (HB4_R4.out.below hb)
        have HB_qR44 := Lib.hid (bel_trans HB_R4.out hb)
        have HR0_qR44 := Lib.hid (rdrUp9 HR0_R4.out hb)
        have HOP_qR44 := Lib.hid (HOP_R4.out.below hb)
        have HU_qR44 := Lib.hid (HU_R4.out.below hb)
        have HRU_qR44 := Lib.hid (HRU_R4.out.below hb)
        have HOU_qR44 := Lib.hid (HOU_R4.out.below hb)
        have HY := Lib.hid ho
        have HBW := Lib.hid hb
        clear ho
        have HSR4_4_4 := Lib.hid (show (fun W9 : World => W9.cell? ⟨pt, 0, none⟩ = some (.slice Av 1 cv) ∧ W9.cell? ⟨pt, 1, none⟩ = some (.slice Avg 0 cvg) ∧ W9.cell? ⟨pt, 2, none⟩ = some (.slice Avd 1 cvd) ∧ W9.cell? ⟨g, 0, none⟩ = some (.int .i64 0) ∧ W9.cell? ⟨g, 0 + 1, none⟩ = some (.int .i64 0) ∧ W9.cell? ⟨g, 0 + 2, none⟩ = some (.int .i64 0) ∧ W9.cell? ⟨g, 0 + 3, none⟩ = some (.int .i64 0) ∧ W9.cell? ⟨g, 0 + 4, none⟩ = some (.int .i64 7) ∧ W9.cell? ⟨g, 0 + 5, none⟩ = some (.int .i64 0) ∧ W9.cell? ⟨g, 0 + 6, none⟩ = some (.int .i64 0) ∧ W9.cell? ⟨g, 0 + 7, none⟩ = some (.bool true) ∧ W9.cell? ⟨g, 0 + 8, none⟩ = some (.int .i64 0) ∧ W9.cell? ⟨g, 0 + 9, none⟩ = some (.slice A0 1 1)) wqR4 from ⟨HT_qR44.out.cell 0, HT_qR44.out.cell 1, HT_qR44.out.cell 2, HB0_qR44.out.2 0 _ rfl, HB0_qR44.out.2 1 _ rfl, HB0_qR44.out.2 2 _ rfl, HB0_qR44.out.2 3 _ rfl, HB0_qR44.out.2 4 _ rfl, HB0_qR44.out.2 5 _ rfl, HB0_qR44.out.2 6 _ rfl, HB0_qR44.out.2 7 _ rfl, HB0_qR44.out.2 8 _ rfl, HB0_qR44.out.2 9 _ rfl⟩)
        clear hb
        refine ⟨HSR4_4_4.out, ?_⟩
        refine xq 5 HOPS HREG HSR4_4_4.out ?_; simp only [ls0, ls1]; refine xq 6 HOPS HREG HSR4_4_4.out ?_; simp only [ls0, ls1]; refine xq 7 HOPS HREG HSR4_4_4.out ?_; simp only [ls0, ls1]
        refine xc 8 HOPS ?_
        go_simp
        have hb := belA wqR4 (.cells #[.slice none 0 0, .slice none 0 0, .slice none 0 0] 25)
        have HT_y := Lib.hid (HT_qR44.out.below hb)
        have HRT_y := Lib.hid (HRT_qR44.out.below hb)
        have HQ_y := Lib.hid (rdtUp9 HQ_qR44.out hb)
        have HB0_y := Lib.hid (HB0_qR44.out.below hb)
        have HB4_y := Lib.hid (HB4_qR44.out.below hb)
        have HB_y := Lib.hid (bel_trans HB_qR44.out hb)
        have HR0_y := Lib.hid (rdrUp9 HR0_qR44.out hb)
        have HOP_y := Lib.hid (HOP_qR44.out.below hb)
        have HU_y := Lib.hid (HU_qR44.out.below hb)
        have HRU_y := Lib.hid (HRU_qR44.out.below hb)
        have HOU_y := Lib.hid (HOU_qR44.out.below hb)
        have HSR4_4_8 := Lib.hid (show (fun W9 : World => W9.cell? ⟨pt, 0, none⟩ = some (.slice Av 1 cv) ∧ W9.cell? ⟨pt, 1, none⟩ = some (.slice Avg 0 cvg) ∧ W9.cell? ⟨pt, 2, none⟩ = some (.slice Avd 1 cvd) ∧ W9.cell? ⟨g, 0, none⟩ = some (.int .i64 0) ∧ W9.cell? ⟨g, 0 + 1, none⟩ = some (.int .i64 0) ∧ W9.cell? ⟨g, 0 + 2, none⟩ = some (.int .i64 0) ∧ W9.cell? ⟨g, 0 + 3, none⟩ = some (.int .i64 0) ∧ W9.cell? ⟨g, 0 + 4, none⟩ = some (.int .i64 7) ∧ W9.cell? ⟨g, 0 + 5, none⟩ = some (.int .i64 0) ∧ W9.cell? ⟨g, 0 + 6, none⟩ = some (.int .i64 0) ∧ W9.cell? ⟨g, 0 + 7, none⟩ = some (.bool true) ∧ W9.cell? ⟨g, 0 + 8, none⟩ = some (.int .i64 0) ∧ W9.cell? ⟨g, 0 + 9, none⟩ = some (.slice A0 1 1)) (wqR4.alloc (.cells #[.slice none 0 0, .slice none 0 0, .slice none 0 0] 25)) from ⟨HT_y.out.cell 0, HT_y.out.cell 1, HT_y.out.cell 2, HB0_y.out.2 0 _ rfl, HB0_y.out.2 1 _ rfl, HB0_y.out.2 2 _ rfl, HB0_y.out.2 3 _ rfl, HB0_y.out.2 4 _ rfl, HB0_y.out.2 5 _ rfl, HB0_y.out.2 6 _ rfl, HB0_y.out.2 7 _ rfl, HB0_y.out.2 8 _ rfl, HB0_y.out.2 9 _ rfl⟩)
        clear hb
        refine ⟨by exact HSR4_4_8.out, ?_⟩
        refine xc 9 HOPS ?_
        go_simp
        have hb := belA wqR4 (.cells #[.slice Ax nx cx, .slice Axg nxg cxg, .slice Axd nxd cxd] 25)
        have HT_x := Lib.hid (HT_qR44.out.below hb)
        have HRT_x := Lib.hid (HRT_qR44.out.below hb)
        have HQ_x := Lib.hid (rdtUp9 HQ_qR44.out hb)
        have HB0_x := Lib.hid (HB0_qR44.out.below hb)
        have HB4_x := Lib.hid (HB4_qR44.out.below hb)
        have HB_x := Lib.hid (bel_trans HB_qR44.out hb)
        have HR0_x := Lib.hid (rdrUp9 HR0_qR44.out hb)
        have HOP_x := Lib.hid (HOP_qR44.out.below hb)
        have HU_x := Lib.hid (HU_qR44.out.below hb)
        have HRU_x := Lib.hid (HRU_qR44.out.below hb)
        have HOU_x := Lib.hid (HOU_qR44.out.below hb)
        have HSR4_4_9 := Lib.hid (show (fun W9 : World => W9.cell? ⟨pt, 0, none⟩ = some (.slice Av 1 cv) ∧ W9.cell? ⟨pt, 1, none⟩ = some (.slice Avg 0 cvg) ∧ W9.cell? ⟨pt, 2, none⟩ = some (.slice Avd 1 cvd) ∧ W9.cell? ⟨g, 0, none⟩ = some (.int .i64 0) ∧ W9.cell? ⟨g, 0 + 1, none⟩ = some (.int .i64 0) ∧ W9.cell? ⟨g, 0 + 2, none⟩ = some (.int .i64 0) ∧ W9.cell? ⟨g, 0 + 3, none⟩ = some (.int .i64 0) ∧ W9.cell? ⟨g, 0 + 4, none⟩ = some (.int .i64 7) ∧ W9.cell? ⟨g, 0 + 5, none⟩ = some (.int .i64 0) ∧ W9.cell? ⟨g, 0 + 6, none⟩ = some (.int .i64 0) ∧ W9.cell? ⟨g, 0 + 7, none⟩ = some (.bool true) ∧ W9.cell? ⟨g, 0 + 8, none⟩ = some (.int .i64 0) ∧ W9.cell? ⟨g, 0 + 9, none⟩ = some (.slice A0 1 1)) (wqR4.alloc (.cells #[.slice Ax nx cx, .slice Axg nxg cxg, .slice Axd nxd cxd] 25)) from ⟨HT_x.out.cell 0, HT_x.out.cell 1, HT_x.out.cell 2, HB0_x.out.2 0 _ rfl, HB0_x.out.2 1 _ rfl, HB0_x.out.2 2 _ rfl, HB0_x.out.2 3 _ rfl, HB0_x.out.2 4 _ rfl, HB0_x.out.2 5 _ rfl, HB0_x.out.2 6 _ rfl, HB0_x.out.2 7 _ rfl, HB0_x.out.2 8 _ rfl, HB0_x.out.2 9 _ rfl⟩)
        clear hb
        refine ⟨HSR4_4_9.out, ?_⟩
        refine xq 10 HOPS HREG HSR4_4_9.out ?_; simp only [ls0, ls1]
        refine stepE HOPS (by kernel_rfl) (HQ.out _ _ ?_)
        clear HQ HREG HOPS
        clear Q ops
        go_wp2
        go_meet
        exact ⟨wqR4.heap.size, Ax, nx, cx, Axg, nxg, cxg, Axd, nxd, cxd, rfl, rfl, At0.new wqR4 [.slice Ax nx cx, .slice Axg nxg cxg, .slice Axd nxd cxd] _, HY.out.below (belA wqR4 _), bel_alloc (bel_trans (Below.refl w10.heap.size w10).drew HBW.out) _⟩
      · go_simp
        have hb := (show Below w10.heap.size w10 (w10.alloc (.cells #[.slice none 0 0, .slice none 0 0, .slice none 0 0] 25)).drew from (belA _ _).drew)
        have HT_z := Lib.hid (HT_10.out.below hb)
        have HRT_z := Lib.hid (HRT_10.out.below hb)
        have HQ_z := Lib.hid (rdtUp9 HQ_10.out hb)
        have HB0_z := Lib.hid (HB0_10.out.below hb)
        have HB4_z := Lib.hid (HB4_10.out.below hb)
        have HB_z := Lib.hid (bel_trans HB_10.out hb)
        have HR0_z := Lib.hid (rdrUp9 HR0_10.out hb)
        have HOP_z := Lib.hid (HOP_10.out.below hb)
        have HU_z := Lib.hid (HU_10.out.below hb)
        have HRU_z := Lib.hid (HRU_10.out.below hb)
        have HOU_z := Lib.hid (HOU_10.out.below hb)
        have HP_z := Lib.hid (show At0 (w10.alloc (.cells #[.slice none 0 0, .slice none 0 0, .slice none 0 0] 25)).drew w10.heap.size [.slice none 0 0, .slice none 0 0, .slice none 0 0] 25 from At0.new w10 _ _)
        have HSR4_8_8 := Lib.hid (show (fun W9 : World => W9.cell? ⟨pt, 0, none⟩ = some (.slice Av 1 cv) ∧ W9.cell? ⟨pt, 1, none⟩ = some (.slice Avg 0 cvg) ∧ W9.cell? ⟨pt, 2, none⟩ = some (.slice Avd 1 cvd) ∧ W9.cell? ⟨g, 0, none⟩ = some (.int .i64 0) ∧ W9.cell? ⟨g, 0 + 1, none⟩ = some (.int .i64 0) ∧ W9.cell? ⟨g, 0 + 2, none⟩ = some (.int .i64 0) ∧ W9.cell? ⟨g, 0 + 3, none⟩ = some (.int .i64 0) ∧ W9.cell? ⟨g, 0 + 4, none⟩ = some (.int .i64 7) ∧ W9.cell? ⟨g, 0 + 5, none⟩ = some (.int .i64 0) ∧ W9.cell? ⟨g, 0 + 6, none⟩ = some (.int .i64 0) ∧ W9.cell? ⟨g, 0 + 7, none⟩ = some (.bool true) ∧ W9.cell? ⟨g, 0 + 8, none⟩ = some (.int .i64 0) ∧ W9.cell? ⟨g, 0 + 9, none⟩ = some (.slice A0 1 1)) (w10.alloc (.cells #[.slice none 0 0, .slice none 0 0, .slice none 0 0] 25)).drew from ⟨HT_z.out.cell 0, HT_z.out.cell 1, HT_z.out.cell 2, HB0_z.out.2 0 _ rfl, HB0_z.out.2 1 _ rfl, HB0_z.out.2 2 _ rfl, HB0_z.out.2 3 _ rfl, HB0_z.out.2 4 _ rfl, HB0_z.out.2 5 _ rfl, HB0_z.out.2 6 _ rfl, HB0_z.out.2 7 _ rfl, HB0_z.out.2 8 _ rfl, HB0_z.out.2 9 _ rfl⟩)
        clear hb
        refine ⟨by exact HSR4_8_8.out, ?_⟩
        refine xc 4 HOPS ?_
        go_simp
        with_reducible refine (dPutT_is Av 1 cv Avg 0 cvg Avd 1 cvd exT 0 0 0 0 7 0 0 true 0 A0 1 1 (rcD 0) _ HRT_z.out ⟨by omega, by omega, by omega⟩ HF0.out HR0_z.out (by omega) HPN.out).mono ?_
        rintro e wqR4 ⟨Ax, nx, cx, Axg, nxg, cxg, Axd, nxd, cxd, rfl, ho, hb⟩
        have HT_qR48 := Lib.hid (HT_z.out.below hb)
        have HRT_qR48 := Lib.hid (HRT_z.out.below hb)
        have HQ_qR48 := Lib.hid (rdtUp9 HQ_z.out hb)
        have HB0_qR48 := Lib.hid (HB0_z.out.below hb)
        have HB4_qR48 := Lib.hid (HB4_z.out.below hb)
        have HB_qR48 := Lib.hid (bel_trans HB_z.out hb)
        have HR0_qR48 := Lib.hid (rdrUp9 HR0_z.out hb)
        have HOP_qR48 := Lib.hid (HOP_z.out.below hb)
        have HU_qR48 := Lib.hid (HU_z.out.below hb)
        have HRU_qR48 := Lib.hid (HRU_z.out.below hb)
        have HOU_qR48 := Lib.hid (HOU_z.out.below hb)
        have HP_qR48 := Lib.hid (HP_z.out.below hb)
        have HY := Lib.hid ho
        have HBW := Lib.hid hb
        clear ho
        have hltwqR4 := hb.size
        have HSR4_8_4 := Lib.hid (show (fun W9 : World => W9.cell? ⟨pt, 0, none⟩ = some (.slice Av 1 cv) ∧ W9.cell? ⟨pt, 1, none⟩ = some (.slice Avg 0 cvg) ∧ W9.cell? ⟨pt, 2, none⟩ = some (.slice Avd 1 cvd) ∧ W9.cell? ⟨g, 0, none⟩ = some (.int .i64 0) ∧ W9.cell? ⟨g, 0 + 1, none⟩ = some (.int .i64 0) ∧ W9.cell? ⟨g, 0 + 2, none⟩ = some (.int .i64 0) ∧ W9.cell? ⟨g, 0 + 3, none⟩ = some (.int .i64 0) ∧ W9.cell? ⟨g, 0 + 4, none⟩ = some (.int .i64 7) ∧ W9.cell? ⟨g, 0 + 5, none⟩ = some (.int .i64 0) ∧ W9.cell? ⟨g, 0 + 6, none⟩ = some (.int .i64 0) ∧ W9.cell? ⟨g, 0 + 7, none⟩ = some (.bool true) ∧ W9.cell? ⟨g, 0 + 8, none⟩ = some (.int .i64 0) ∧ W9.cell? ⟨g, 0 + 9, none⟩ = some (.slice A0 1 1)) wqR4 from ⟨HT_qR48.out.cell 0, HT_qR48.out.cell 1, HT_qR48.out.cell 2, HB0_qR48.out.2 0 _ rfl, HB0_qR48.out.2 1 _ rfl, HB0_qR48.out.2 2 _ rfl, HB0_qR48.out.2 3 _ rfl, HB0_qR48.out.2 4 _ rfl, HB0_qR48.out.2 5 _ rfl, HB0_qR48.out.2 6 _ rfl, HB0_qR48.out.2 7 _ rfl, HB0_qR48.out.2 8 _ rfl, HB0_qR48.out.2 9 _ rfl⟩)
        clear hb
        refine ⟨HSR4_8_4.out, ?_⟩
        refine xq 5 HOPS HREG HSR4_8_4.out ?_; simp only [ls0, ls1]; refine xq 6 HOPS HREG HSR4_8_4.out ?_; simp only [ls0, ls1]; refine xq 7 HOPS HREG HSR4_8_4.out ?_; simp only [ls0, ls1]
        refine xc 9 HOPS ?_
        have hp := HP_qR48.out
        have hpl := hp.lt
        have hp0 := hp.cell 0
        have hp1 := hp.cell 1
        have hp2 := hp.cell 2
        have hpf0 := hp.frozen 0
        have hpf1 := hp.frozen 1
        have hpf2 := hp.frozen 2
        simp only [List.getElem?_cons_zero, List.getElem?_cons_succ] at hp0 hp1 hp2
        go_simp
        have hblHT := HT_10.out.lt
        have hblHB0 := HB0_10.out.1
        have htB_0 : wqR4.cell? ⟨pt, 0, none⟩ = some (.slice Av 1 cv) := HT_qR48.out.cell 0
        have htB_1 : wqR4.cell? ⟨pt, 1, none⟩ = some (.slice Avg 0 cvg) := HT_qR48.out.cell 1
        have htB_2 : wqR4.cell? ⟨pt, 2, none⟩ = some (.slice Avd 1 cvd) := HT_qR48.out.cell 2
        have hb0B_0 : wqR4.cell? ⟨g, 0, none⟩ = some (.int .i64 0) := HB0_qR48.out.2 0 _ rfl
        have hb0B_1 : wqR4.cell? ⟨g, 0 + 1, none⟩ = some (.int .i64 0) := HB0_qR48.out.2 1 _ rfl
        have hb0B_2 : wqR4.cell? ⟨g, 0 + 2, none⟩ = some (.int .i64 0) := HB0_qR48.out.2 2 _ rfl
        have hb0B_3 : wqR4.cell? ⟨g, 0 + 3, none⟩ = some (.int .i64 0) := HB0_qR48.out.2 3 _ rfl
        have hb0B_4 : wqR4.cell? ⟨g, 0 + 4, none⟩ = some (.int .i64 7) := HB0_qR48.out.2 4 _ rfl
        have hb0B_5 : wqR4.cell? ⟨g, 0 + 5, none⟩ = some (.int .i64 0) := HB0_qR48.out.2 5 _ rfl
        have hb0B_6 : wqR4.cell? ⟨g, 0 + 6, none⟩ = some (.int .i64 0) := HB0_qR48.out.2 6 _ rfl
        have hb0B_7 : wqR4.cell? ⟨g, 0 + 7, none⟩ = some (.bool true) := HB0_qR48.out.2 7 _ rfl
        have hb0B_8 : wqR4.cell? ⟨g, 0 + 8, none⟩ = some (.int .i64 0) := HB0_qR48.out.2 8 _ rfl
        have hb0B_9 : wqR4.cell? ⟨g, 0 + 9, none⟩ = some (.slice A0 1 1) := HB0_qR48.out.2 9 _ rfl
        have HSR4_B9 := Lib.hid (show (fun W9 : World => W9.cell? ⟨pt, 0, none⟩ = some (.slice Av 1 cv) ∧ W9.cell? ⟨pt, 1, none⟩ = some (.slice Avg 0 cvg) ∧ W9.cell? ⟨pt, 2, none⟩ = some (.slice Avd 1 cvd) ∧ W9.cell? ⟨g, 0, none⟩ = some (.int .i64 0) ∧ W9.cell? ⟨g, 0 + 1, none⟩ = some (.int .i64 0) ∧ W9.cell? ⟨g, 0 + 2, none⟩ = some (.int .i64 0) ∧ W9.cell? ⟨g, 0 + 3, none⟩ = some (.int .i64 0) ∧ W9.cell? ⟨g, 0 + 4, none⟩ = some (.int .i64 7) ∧ W9.cell? ⟨g, 0 + 5, none⟩ = some (.int .i64 0) ∧ W9.cell? ⟨g, 0 + 6, none⟩ = some (.int .i64 0) ∧ W9.cell? ⟨g, 0 + 7, none⟩ = some (.bool true) ∧ W9.cell? ⟨g, 0 + 8, none⟩ = some (.int .i64 0) ∧ W9.cell? ⟨g, 0 + 9, none⟩ = some (.slice A0 1 1)) (((wqR4.setCell ⟨w10.heap.size, 0, none⟩ (.slice Ax nx cx)).setCell ⟨w10.heap.size, 1, none⟩ (.slice Axg nxg cxg)).setCell ⟨w10.heap.size, 2, none⟩ (.slice Axd nxd cxd)) from ⟨(cell_off (by simp only; omega)).trans ((cell_off (by simp only; omega)).trans ((cell_off (by simp only; omega)).trans (HT_qR48.out.cell 0))), (cell_off (by simp only; omega)).trans ((cell_off (by simp only; omega)).trans ((cell_off (by simp only; omega)).trans (HT_qR48.out.cell 1))), (cell_off (by simp only; omega)).trans ((cell_off (by simp only; omega)).trans ((cell_off (by simp only; omega)).trans (HT_qR48.out.cell 2))), (cell_off (by simp only; omega)).trans ((cell_off (by simp only; omega)).trans ((cell_off (by simp only; omega)).trans (HB0_qR48.out.2 0 _ rfl))), (cell_off (by simp only; omega)).trans ((cell_off (by simp only; omega)).trans ((cell_off (by simp only; omega)).trans (HB0_qR48.out.2 1 _ rfl))), (cell_off (by simp only; omega)).trans ((cell_off (by simp only; omega)).trans ((cell_off (by simp only; omega)).trans (HB0_qR48.out.2 2 _ rfl))), (cell_off (by simp only; omega)).trans ((cell_off (by simp only; omega)).trans ((cell_off (by simp only; omega)).trans (HB0_qR48.out.2 3 _ rfl))), (cell_off (by simp only; omega)).trans ((cell_off (by simp only; omega)).trans ((cell_off (by simp only; omega)).trans (HB0_qR48.out.2 4 _ rfl))), (cell_off (by simp only; omega)).trans ((cell_off (by simp only; omega)).trans ((cell_off (by simp only; omega)).trans (HB0_qR48.out.2 5 _ rfl))), (cell_off (by simp only; omega)).trans ((cell_off (by simp only; omega)).trans ((cell_off (by simp only; omega)).trans (HB0_qR48.out.2 6 _ rfl))), (cell_off (by simp only; omega)).trans ((cell_off (by simp only; omega)).trans ((cell_off (by simp only; omega)).trans (HB0_qR48.out.2 7 _ rfl))), (cell_off (by simp only; omega)).trans ((cell_off (by simp only; omega)).trans ((cell_off (by simp only; omega)).trans (HB0_qR48.out.2 8 _ rfl))), (cell_off (by simp only; omega)).trans ((cell_off (by simp only; omega)).trans ((cell_off (by simp only; omega)).trans (HB0_qR48.out.2 9 _ rfl)))⟩)
        refine ⟨by (repeat' apply And.intro) <;> first | assumption | exact (cell_off (by simp only; omega)).trans (by assumption) | exact (cell_off (by simp only; omega)).trans ((cell_off (by simp only; omega)).trans (by assumption)) | exact (cell_off (by simp only; omega)).trans ((cell_off (by simp only; omega)).trans ((cell_off (by simp only; omega)).trans (by assumption))), ?_⟩
        clear htB_0 htB_1 htB_2 hb0B_0 hb0B_1 hb0B_2 hb0B_3 hb0B_4 hb0B_5 hb0B_6 hb0B_7 hb0B_8 hb0B_9
        refine xq 10 HOPS HREG HSR4_B9.out ?_; simp only [ls0, ls1]
        refine stepE HOPS (by kernel_rfl) (HQ.out _ _ ?_)
        clear HQ HREG HOPS
        clear Q ops
        go_wp2
        go_meet
        have hoff := HY.out.offBelow (g := w10.heap.size) (by simp)
        exact ⟨w10.heap.size, Ax, nx, cx, Axg, nxg, cxg, Axd, nxd, cxd, rfl, rfl, at0_set9 (at0_set9 (at0_set9 HP_qR48.out 0 _) 1 _) 2 _, (((HY.out.set hoff 0 _).set hoff 1 _).set hoff 2 _).more (by simp), (((bel_trans (show Below w10.heap.size w10 (w10.alloc (.cells #[.slice none 0 0, .slice none 0 0, .slice none 0 0] 25)).drew from (belA w10 _).drew) HBW.out).setCell (Nat.le_refl _) _).setCell (Nat.le_refl _) _).setCell (Nat.le_refl _) _⟩
    case rest =>
      obtain ⟨PR4, Ax, nx, cx, Axg, nxg, cxg, Axd, nxd, cxd, rfl, rfl, hbx, ho, hb⟩ := hcut
      rename World => w11
      have HT_11 := Lib.hid (HT_10.out.below hb)
      have HRT_11 := Lib.hid (HRT_10.out.below hb)
      have HQ_11 := Lib.hid (rdtUp9 HQ_10.out hb)
      have HB0_11 := Lib.hid (HB0_10.out.below hb)
      have HB4_11 := Lib.hid (HB4_10.out.below hb)
      have HB_11 := Lib.hid (bel_trans HB_10.out hb)
      have HR0_11 := Lib.hid (rdrUp9 HR0_10.out hb)
      have HOP_11 := Lib.hid (HOP_10.out.below hb)
      have HU_11 := Lib.hid (HU_10.out.below hb)
      have HRU_11 := Lib.hid (HRU_10.out.below hb)
      have HOU_11 := Lib.hid (HOU_10.out.below hb)
      have HX_11 := Lib.hid (hbx)
      have HOR4 := Lib.hid ho
      clear hbx ho hb
      have hua_0 : w11.cell? ⟨PR3, 0, none⟩ = some (.slice Au 0 cu) := HU_11.out.cell 0
      have hua_1 : w11.cell? ⟨PR3, 1, none⟩ = some (.slice Aug 1 cug) := HU_11.out.cell 1
      have hua_2 : w11.cell? ⟨PR3, 2, none⟩ = some (.slice Aud 1 cud) := HU_11.out.cell 2
      go_upto_region 6 with (go_at_call 25; go_loud (have HSH := Lib.hid (show_is (some ⟨g, 0, none⟩) 5 5 exBs Aug 1 cug exU.gone 5 w11 HQ_11.out (by omega) HRU_11.out.gone (by omega) ex_show); (with_reducible refine HSH.out.mono ?_); clear HSH; rintro e w12 ⟨As, ns, cs, rfl, hcs, ho, hb⟩; have hr12 := OwnT.rd ho; obtain rfl : 2 = ns := hr12.len; have HSR_12 := Lib.hid hr12; have HT_12 := Lib.hid (HT_11.out.below hb); have HRT_12 := Lib.hid (HRT_11.out.below hb); have HQ_12 := Lib.hid (rdtUp9 HQ_11.out hb); have HB_12 := Lib.hid (bel_trans HB_11.out hb); have HOP_12 := Lib.hid (HOP_11.out.below hb); have HU_12 := Lib.hid (HU_11.out.below hb); have HRU_12 := Lib.hid (HRU_11.out.below hb); have HOU_12 := Lib.hid (HOU_11.out.below hb); clear hcs ho hb hr12))
      obtain ⟨bv, ov, rfl, hv⟩ := rd_first (k := 0) HRT_12.out.op (show exT.op[0]? = some ⟨8, 1⟩ from rfl)
      obtain ⟨bg, og, rfl, hg⟩ := rd_first (k := 0) HRU_12.out.gone (show exU.gone[0]? = some ⟨8, 0, 1, 4⟩ from rfl)
      obtain ⟨bd, od, rfl, hd⟩ := rd_first (k := 0) HRU_12.out.done (show exU.done[0]? = some ⟨7, 0, 0, 3⟩ from rfl)
      obtain ⟨bs, os, rfl, hs⟩ := rdt_first (k := 0) HSR_12.out (show [dB 0 7, dB 2 7][0]? = some (dB 0 7) from rfl)
      obtain ⟨bs2, os2, hAs, hs2⟩ := rdt_first (k := 1) HSR_12.out (show [dB 0 7, dB 2 7][1]? = some (dB 2 7) from rfl)
      injection hAs with hAs
      injection hAs with e1 e2 _
      subst e1 e2
      rw [Nat.zero_mul, Nat.add_zero] at hv hg hd hs
      rw [Nat.one_mul] at hs2
      have HV_12 := Lib.hid (show AtO w12 bv ov [.int .i64 8, .int .i64 1] from hv)
      have HG_12 := Lib.hid (show AtO w12 bg og [.int .i64 8, .int .i64 0, .int .i64 1, .int .i64 4] from hg)
      have HD_12 := Lib.hid (show AtO w12 bd od [.int .i64 7, .int .i64 0, .int .i64 0, .int .i64 3] from hd)
      have HS_12 := Lib.hid (show AtO w12 bs os [.int .i64 0] from hs)
      have HS2_12 := Lib.hid (show AtO w12 bs (os + 10) [.int .i64 2] from hs2)
      clear hv hg hd hs hs2 hua_0 hua_1 hua_2
      have ht12_0 : w12.cell? ⟨pt, 0, none⟩ = some (.slice (some ⟨bv, ov, none⟩) 1 cv) := HT_12.out.cell 0
      have ht12_1 : w12.cell? ⟨pt, 1, none⟩ = some (.slice Avg 0 cvg) := HT_12.out.cell 1
      have ht12_2 : w12.cell? ⟨pt, 2, none⟩ = some (.slice Avd 1 cvd) := HT_12.out.cell 2
      have hu12_0 : w12.cell? ⟨PR3, 0, none⟩ = some (.slice Au 0 cu) := HU_12.out.cell 0
      have hu12_1 : w12.cell? ⟨PR3, 1, none⟩ = some (.slice (some ⟨bg, og, none⟩) 1 cug) := HU_12.out.cell 1
      have hu12_2 : w12.cell? ⟨PR3, 2, none⟩ = some (.slice (some ⟨bd, od, none⟩) 1 cud) := HU_12.out.cell 2
      have hv12_0 : w12.cell? ⟨bv, ov, none⟩ = some (.int .i64 8) := HV_12.out.2 0 _ rfl
      have hv12_1 : w12.cell? ⟨bv, ov + 1, none⟩ = some (.int .i64 1) := HV_12.out.2 1 _ rfl
      have hg12_0 : w12.cell? ⟨bg, og, none⟩ = some (.int .i64 8) := HG_12.out.2 0 _ rfl
      have hg12_1 : w12.cell? ⟨bg, og + 1, none⟩ = some (.int .i64 0) := HG_12.out.2 1 _ rfl
      have hg12_2 : w12.cell? ⟨bg, og + 2, none⟩ = some (.int .i64 1) := HG_12.out.2 2 _ rfl
      have hg12_3 : w12.cell? ⟨bg, og + 3, none⟩ = some (.int .i64 4) := HG_12.out.2 3 _ rfl
      have hd12_0 : w12.cell? ⟨bd, od, none⟩ = some (.int .i64 7) := HD_12.out.2 0 _ rfl
      have hd12_1 : w12.cell? ⟨bd, od + 1, none⟩ = some (.int .i64 0) := HD_12.out.2 1 _ rfl
      have hd12_2 : w12.cell? ⟨bd, od + 2, none⟩ = some (.int .i64 0) := HD_12.out.2 2 _ rfl
      have hd12_3 : w12.cell? ⟨bd, od + 3, none⟩ = some (.int .i64 3) := HD_12.out.2 3 _ rfl
      have hs12_0 : w12.cell? ⟨bs, os, none⟩ = some (.int .i64 0) := HS_12.out.2 0 _ rfl
      have hs212_0 : w12.cell? ⟨bs, os + 10, none⟩ = some (.int .i64 2) := HS2_12.out.2 0 _ rfl
      go_upto_region 8 with fail
      go_wp2_with (first
        | (go_at_call 27; have HLK := Lib.hid (stable_is (some ⟨bv, ov, none⟩) 1 cv Avg 0 cvg Avd 1 cvd exT 4 w12 HRT_12.out (by decide) ex_stb1); (with_reducible refine HLK.out.mono ?_); go_loud (clear HLK; rintro e w13 ⟨rfl, hb⟩; have HT_13 := Lib.hid (HT_12.out.below hb); have HRT_13 := Lib.hid (HRT_12.out.below hb); have HB_13 := Lib.hid (bel_trans HB_12.out hb); have HU_13 := Lib.hid (HU_12.out.below hb); have HRU_13 := Lib.hid (HRU_12.out.below hb); have HV_13 := Lib.hid (HV_12.out.below hb); have HG_13 := Lib.hid (HG_12.out.below hb); have HD_13 := Lib.hid (HD_12.out.below hb); have HS_13 := Lib.hid (HS_12.out.below hb); have HS2_13 := Lib.hid (HS2_12.out.below hb); clear hb ht12_0 ht12_1 ht12_2 hu12_0 hu12_1 hu12_2 hv12_0 hv12_1 hg12_0 hg12_1 hg12_2 hg12_3 hd12_0 hd12_1 hd12_2 hd12_3 hs12_0 hs212_0; have ht13_0 : w13.cell? ⟨pt, 0, none⟩ = some (.slice (some ⟨bv, ov, none⟩) 1 cv) := HT_13.out.cell 0; have ht13_1 : w13.cell? ⟨pt, 1, none⟩ = some (.slice Avg 0 cvg) := HT_13.out.cell 1; have ht13_2 : w13.cell? ⟨pt, 2, none⟩ = some (.slice Avd 1 cvd) := HT_13.out.cell 2; have hu13_0 : w13.cell? ⟨PR3, 0, none⟩ = some (.slice Au 0 cu) := HU_13.out.cell 0; have hu13_1 : w13.cell? ⟨PR3, 1, none⟩ = some (.slice (some ⟨bg, og, none⟩) 1 cug) := HU_13.out.cell 1; have hu13_2 : w13.cell? ⟨PR3, 2, none⟩ = some (.slice (some ⟨bd, od, none⟩) 1 cud) := HU_13.out.cell 2; have hv13_0 : w13.cell? ⟨bv, ov, none⟩ = some (.int .i64 8) := HV_13.out.2 0 _ rfl; have hv13_1 : w13.cell? ⟨bv, ov + 1, none⟩ = some (.int .i64 1) := HV_13.out.2 1 _ rfl; have hg13_0 : w13.cell? ⟨bg, og, none⟩ = some (.int .i64 8) := HG_13.out.2 0 _ rfl; have hg13_1 : w13.cell? ⟨bg, og + 1, none⟩ = some (.int .i64 0) := HG_13.out.2 1 _ rfl; have hg13_2 : w13.cell? ⟨bg, og + 2, none⟩ = some (.int .i64 1) := HG_13.out.2 2 _ rfl; have hg13_3 : w13.cell? ⟨bg, og + 3, none⟩ = some (.int .i64 4) := HG_13.out.2 3 _ rfl; have hd13_0 : w13.cell? ⟨bd, od, none⟩ = some (.int .i64 7) := HD_13.out.2 0 _ rfl; have hd13_1 : w13.cell? ⟨bd, od + 1, none⟩ = some (.int .i64 0) := HD_13.out.2 1 _ rfl; have hd13_2 : w13.cell? ⟨bd, od + 2, none⟩ = some (.int .i64 0) := HD_13.out.2 2 _ rfl; have hd13_3 : w13.cell? ⟨bd, od + 3, none⟩ = some (.int .i64 3) := HD_13.out.2 3 _ rfl; have hs13_0 : w13.cell? ⟨bs, os, none⟩ = some (.int .i64 0) := HS_13.out.2 0 _ rfl; have hs213_0 : w13.cell? ⟨bs, os + 10, none⟩ = some (.int .i64 2) := HS2_13.out.2 0 _ rfl))
        | (go_at_call 27; have HLK := Lib.hid (stable_is Au 0 cu (some ⟨bg, og, none⟩) 1 cug (some ⟨bd, od, none⟩) 1 cud exU 5 w13 HRU_13.out (by decide) ex_stb2); (with_reducible refine HLK.out.mono ?_); go_loud (clear HLK; rintro e w14 ⟨rfl, hb⟩; have HT_14 := Lib.hid (HT_13.out.below hb); have HRT_14 := Lib.hid (HRT_13.out.below hb); have HB_14 := Lib.hid (bel_trans HB_13.out hb); have HU_14 := Lib.hid (HU_13.out.below hb); have HRU_14 := Lib.hid (HRU_13.out.below hb); have HV_14 := Lib.hid (HV_13.out.below hb); have HG_14 := Lib.hid (HG_13.out.below hb); have HD_14 := Lib.hid (HD_13.out.below hb); have HS_14 := Lib.hid (HS_13.out.below hb); have HS2_14 := Lib.hid (HS2_13.out.below hb); clear hb ht13_0 ht13_1 ht13_2 hu13_0 hu13_1 hu13_2 hv13_0 hv13_1 hg13_0 hg13_1 hg13_2 hg13_3 hd13_0 hd13_1 hd13_2 hd13_3 hs13_0 hs213_0; have ht14_0 : w14.cell? ⟨pt, 0, none⟩ = some (.slice (some ⟨bv, ov, none⟩) 1 cv) := HT_14.out.cell 0; have ht14_1 : w14.cell? ⟨pt, 1, none⟩ = some (.slice Avg 0 cvg) := HT_14.out.cell 1; have ht14_2 : w14.cell? ⟨pt, 2, none⟩ = some (.slice Avd 1 cvd) := HT_14.out.cell 2; have hu14_0 : w14.cell? ⟨PR3, 0, none⟩ = some (.slice Au 0 cu) := HU_14.out.cell 0; have hu14_1 : w14.cell? ⟨PR3, 1, none⟩ = some (.slice (some ⟨bg, og, none⟩) 1 cug) := HU_14.out.cell 1; have hu14_2 : w14.cell? ⟨PR3, 2, none⟩ = some (.slice (some ⟨bd, od, none⟩) 1 cud) := HU_14.out.cell 2; have hv14_0 : w14.cell? ⟨bv, ov, none⟩ = some (.int .i64 8) := HV_14.out.2 0 _ rfl; have hv14_1 : w14.cell? ⟨bv, ov + 1, none⟩ = some (.int .i64 1) := HV_14.out.2 1 _ rfl; have hg14_0 : w14.cell? ⟨bg, og, none⟩ = some (.int .i64 8) := HG_14.out.2 0 _ rfl; have hg14_1 : w14.cell? ⟨bg, og + 1, none⟩ = some (.int .i64 0) := HG_14.out.2 1 _ rfl; have hg14_2 : w14.cell? ⟨bg, og + 2, none⟩ = some (.int .i64 1) := HG_14.out.2 2 _ rfl; have hg14_3 : w14.cell? ⟨bg, og + 3, none⟩ = some (.int .i64 4) := HG_14.out.2 3 _ rfl; have hd14_0 : w14.cell? ⟨bd, od, none⟩ = some (.int .i64 7) := HD_14.out.2 0 _ rfl; have hd14_1 : w14.cell? ⟨bd, od + 1, none⟩ = some (.int .i64 0) := HD_14.out.2 1 _ rfl; have hd14_2 : w14.cell? ⟨bd, od + 2, none⟩ = some (.int .i64 0) := HD_14.out.2 2 _ rfl; have hd14_3 : w14.cell? ⟨bd, od + 3, none⟩ = some (.int .i64 3) := HD_14.out.2 3 _ rfl; have hs14_0 : w14.cell? ⟨bs, os, none⟩ = some (.int .i64 0) := HS_14.out.2 0 _ rfl; have hs214_0 : w14.cell? ⟨bs, os + 10, none⟩ = some (.int .i64 2) := HS2_14.out.2 0 _ rfl))
        | (go_at_call 22; have HLK := Lib.hid (hidden_is Au 0 cu (some ⟨bg, og, none⟩) 1 cug (some ⟨bd, od, none⟩) 1 cud exU 5 9 w14 HRU_14.out (by decide) ex_hid1); (with_reducible refine HLK.out.mono ?_); go_loud (clear HLK; rintro e w15 ⟨A13, n13, c13, rfl, ho, hb⟩; obtain rfl : 0 = n13 := OwnF.len goS ho; clear ho; have HT_15 := Lib.hid (HT_14.out.below hb); have HRT_15 := Lib.hid (HRT_14.out.below hb); have HB_15 := Lib.hid (bel_trans HB_14.out hb); have HU_15 := Lib.hid (HU_14.out.below hb); have HRU_15 := Lib.hid (HRU_14.out.below hb); have HV_15 := Lib.hid (HV_14.out.below hb); have HG_15 := Lib.hid (HG_14.out.below hb); have HD_15 := Lib.hid (HD_14.out.below hb); have HS_15 := Lib.hid (HS_14.out.below hb); have HS2_15 := Lib.hid (HS2_14.out.below hb); clear hb ht14_0 ht14_1 ht14_2 hu14_0 hu14_1 hu14_2 hv14_0 hv14_1 hg14_0 hg14_1 hg14_2 hg14_3 hd14_0 hd14_1 hd14_2 hd14_3 hs14_0 hs214_0; have ht15_0 : w15.cell? ⟨pt, 0, none⟩ = some (.slice (some ⟨bv, ov, none⟩) 1 cv) := HT_15.out.cell 0; have ht15_1 : w15.cell? ⟨pt, 1, none⟩ = some (.slice Avg 0 cvg) := HT_15.out.cell 1; have ht15_2 : w15.cell? ⟨pt, 2, none⟩ = some (.slice Avd 1 cvd) := HT_15.out.cell 2; have hu15_0 : w15.cell? ⟨PR3, 0, none⟩ = some (.slice Au 0 cu) := HU_15.out.cell 0; have hu15_1 : w15.cell? ⟨PR3, 1, none⟩ = some (.slice (some ⟨bg, og, none⟩) 1 cug) := HU_15.out.cell 1; have hu15_2 : w15.cell? ⟨PR3, 2, none⟩ = some (.slice (some ⟨bd, od, none⟩) 1 cud) := HU_15.out.cell 2; have hv15_0 : w15.cell? ⟨bv, ov, none⟩ = some (.int .i64 8) := HV_15.out.2 0 _ rfl; have hv15_1 : w15.cell? ⟨bv, ov + 1, none⟩ = some (.int .i64 1) := HV_15.out.2 1 _ rfl; have hg15_0 : w15.cell? ⟨bg, og, none⟩ = some (.int .i64 8) := HG_15.out.2 0 _ rfl; have hg15_1 : w15.cell? ⟨bg, og + 1, none⟩ = some (.int .i64 0) := HG_15.out.2 1 _ rfl; have hg15_2 : w15.cell? ⟨bg, og + 2, none⟩ = some (.int .i64 1) := HG_15.out.2 2 _ rfl; have hg15_3 : w15.cell? ⟨bg, og + 3, none⟩ = some (.int .i64 4) := HG_15.out.2 3 _ rfl; have hd15_0 : w15.cell? ⟨bd, od, none⟩ = some (.int .i64 7) := HD_15.out.2 0 _ rfl; have hd15_1 : w15.cell? ⟨bd, od + 1, none⟩ = some (.int .i64 0) := HD_15.out.2 1 _ rfl; have hd15_2 : w15.cell? ⟨bd, od + 2, none⟩ = some (.int .i64 0) := HD_15.out.2 2 _ rfl; have hd15_3 : w15.cell? ⟨bd, od + 3, none⟩ = some (.int .i64 3) := HD_15.out.2 3 _ rfl; have hs15_0 : w15.cell? ⟨bs, os, none⟩ = some (.int .i64 0) := HS_15.out.2 0 _ rfl; have hs215_0 : w15.cell? ⟨bs, os + 10, none⟩ = some (.int .i64 2) := HS2_15.out.2 0 _ rfl))
        | (go_at_call 22; have HLK := Lib.hid (hidden_is Au 0 cu (some ⟨bg, og, none⟩) 1 cug (some ⟨bd, od, none⟩) 1 cud exU 4 9 w15 HRU_15.out (by decide) ex_hid2); (with_reducible refine HLK.out.mono ?_); go_loud (clear HLK; rintro e w16 ⟨A14, n14, c14, rfl, ho, hb⟩; obtain rfl : 1 = n14 := OwnF.len goS ho; clear ho; have HT_16 := Lib.hid (HT_15.out.below hb); have HRT_16 := Lib.hid (HRT_15.out.below hb); have HB_16 := Lib.hid (bel_trans HB_15.out hb); have HU_16 := Lib.hid (HU_15.out.below hb); have HRU_16 := Lib.hid (HRU_15.out.below hb); have HV_16 := Lib.hid (HV_15.out.below hb); have HG_16 := Lib.hid (HG_15.out.below hb); have HD_16 := Lib.hid (HD_15.out.below hb); have HS_16 := Lib.hid (HS_15.out.below hb); have HS2_16 := Lib.hid (HS2_15.out.below hb); clear hb ht15_0 ht15_1 ht15_2 hu15_0 hu15_1 hu15_2 hv15_0 hv15_1 hg15_0 hg15_1 hg15_2 hg15_3 hd15_0 hd15_1 hd15_2 hd15_3 hs15_0 hs215_0; have ht16_0 : w16.cell? ⟨pt, 0, none⟩ = some (.slice (some ⟨bv, ov, none⟩) 1 cv) := HT_16.out.cell 0; have ht16_1 : w16.cell? ⟨pt, 1, none⟩ = some (.slice Avg 0 cvg) := HT_16.out.cell 1; have ht16_2 : w16.cell? ⟨pt, 2, none⟩ = some (.slice Avd 1 cvd) := HT_16.out.cell 2; have hu16_0 : w16.cell? ⟨PR3, 0, none⟩ = some (.slice Au 0 cu) := HU_16.out.cell 0; have hu16_1 : w16.cell? ⟨PR3, 1, none⟩ = some (.slice (some ⟨bg, og, none⟩) 1 cug) := HU_16.out.cell 1; have hu16_2 : w16.cell? ⟨PR3, 2, none⟩ = some (.slice (some ⟨bd, od, none⟩) 1 cud) := HU_16.out.cell 2; have hv16_0 : w16.cell? ⟨bv, ov, none⟩ = some (.int .i64 8) := HV_16.out.2 0 _ rfl; have hv16_1 : w16.cell? ⟨bv, ov + 1, none⟩ = some (.int .i64 1) := HV_16.out.2 1 _ rfl; have hg16_0 : w16.cell? ⟨bg, og, none⟩ = some (.int .i64 8) := HG_16.out.2 0 _ rfl; have hg16_1 : w16.cell? ⟨bg, og + 1, none⟩ = some (.int .i64 0) := HG_16.out.2 1 _ rfl; have hg16_2 : w16.cell? ⟨bg, og + 2, none⟩ = some (.int .i64 1) := HG_16.out.2 2 _ rfl; have hg16_3 : w16.cell? ⟨bg, og + 3, none⟩ = some (.int .i64 4) := HG_16.out.2 3 _ rfl; have hd16_0 : w16.cell? ⟨bd, od, none⟩ = some (.int .i64 7) := HD_16.out.2 0 _ rfl; have hd16_1 : w16.cell? ⟨bd, od + 1, none⟩ = some (.int .i64 0) := HD_16.out.2 1 _ rfl; have hd16_2 : w16.cell? ⟨bd, od + 2, none⟩ = some (.int .i64 0) := HD_16.out.2 2 _ rfl; have hd16_3 : w16.cell? ⟨bd, od + 3, none⟩ = some (.int .i64 3) := HD_16.out.2 3 _ rfl; have hs16_0 : w16.cell? ⟨bs, os, none⟩ = some (.int .i64 0) := HS_16.out.2 0 _ rfl; have hs216_0 : w16.cell? ⟨bs, os + 10, none⟩ = some (.int .i64 2) := HS2_16.out.2 0 _ rfl))
        | (go_at_call 29; have HLK := Lib.hid (trim_is Au 0 cu (some ⟨bg, og, none⟩) 1 cug (some ⟨bd, od, none⟩) 1 cud exU 4 w16 HRU_16.out (by decide) (by decide) (by decide) ex_trm); (with_reducible refine HLK.out.mono ?_); go_loud (clear HLK; rintro e w17 ⟨A15, n15, c15, A16, n16, c16, A17, n17, c17, rfl, ho, hb⟩; obtain ⟨e1, e2, e3⟩ := ho.len; obtain rfl : 0 = n17 := e3; have hfd := fld2 (.slice A15 n15 c15) (.slice A16 n16 c16) (.slice A17 0 c17); clear ho; have HT_17 := Lib.hid (HT_16.out.below hb); have HRT_17 := Lib.hid (HRT_16.out.below hb); have HB_17 := Lib.hid (bel_trans HB_16.out hb); have HU_17 := Lib.hid (HU_16.out.below hb); have HRU_17 := Lib.hid (HRU_16.out.below hb); have HV_17 := Lib.hid (HV_16.out.below hb); have HG_17 := Lib.hid (HG_16.out.below hb); have HD_17 := Lib.hid (HD_16.out.below hb); have HS_17 := Lib.hid (HS_16.out.below hb); have HS2_17 := Lib.hid (HS2_16.out.below hb); clear hb ht16_0 ht16_1 ht16_2 hu16_0 hu16_1 hu16_2 hv16_0 hv16_1 hg16_0 hg16_1 hg16_2 hg16_3 hd16_0 hd16_1 hd16_2 hd16_3 hs16_0 hs216_0; have ht17_0 : w17.cell? ⟨pt, 0, none⟩ = some (.slice (some ⟨bv, ov, none⟩) 1 cv) := HT_17.out.cell 0; have ht17_1 : w17.cell? ⟨pt, 1, none⟩ = some (.slice Avg 0 cvg) := HT_17.out.cell 1; have ht17_2 : w17.cell? ⟨pt, 2, none⟩ = some (.slice Avd 1 cvd) := HT_17.out.cell 2; have hu17_0 : w17.cell? ⟨PR3, 0, none⟩ = some (.slice Au 0 cu) := HU_17.out.cell 0; have hu17_1 : w17.cell? ⟨PR3, 1, none⟩ = some (.slice (some ⟨bg, og, none⟩) 1 cug) := HU_17.out.cell 1; have hu17_2 : w17.cell? ⟨PR3, 2, none⟩ = some (.slice (some ⟨bd, od, none⟩) 1 cud) := HU_17.out.cell 2; have hv17_0 : w17.cell? ⟨bv, ov, none⟩ = some (.int .i64 8) := HV_17.out.2 0 _ rfl; have hv17_1 : w17.cell? ⟨bv, ov + 1, none⟩ = some (.int .i64 1) := HV_17.out.2 1 _ rfl; have hg17_0 : w17.cell? ⟨bg, og, none⟩ = some (.int .i64 8) := HG_17.out.2 0 _ rfl; have hg17_1 : w17.cell? ⟨bg, og + 1, none⟩ = some (.int .i64 0) := HG_17.out.2 1 _ rfl; have hg17_2 : w17.cell? ⟨bg, og + 2, none⟩ = some (.int .i64 1) := HG_17.out.2 2 _ rfl; have hg17_3 : w17.cell? ⟨bg, og + 3, none⟩ = some (.int .i64 4) := HG_17.out.2 3 _ rfl; have hd17_0 : w17.cell? ⟨bd, od, none⟩ = some (.int .i64 7) := HD_17.out.2 0 _ rfl; have hd17_1 : w17.cell? ⟨bd, od + 1, none⟩ = some (.int .i64 0) := HD_17.out.2 1 _ rfl; have hd17_2 : w17.cell? ⟨bd, od + 2, none⟩ = some (.int .i64 0) := HD_17.out.2 2 _ rfl; have hd17_3 : w17.cell? ⟨bd, od + 3, none⟩ = some (.int .i64 3) := HD_17.out.2 3 _ rfl; have hs17_0 : w17.cell? ⟨bs, os, none⟩ = some (.int .i64 0) := HS_17.out.2 0 _ rfl; have hs217_0 : w17.cell? ⟨bs, os + 10, none⟩ = some (.int .i64 2) := HS2_17.out.2 0 _ rfl))
        | (go_at_call 17; have HLK := Lib.hid (dCheckT_is Au 0 cu (some ⟨bg, og, none⟩) 1 cug (some ⟨bd, od, none⟩) 1 cud exU w17 HRU_17.out ⟨by decide, by decide, by decide⟩ ex_ck1); (with_reducible refine HLK.out.mono ?_); go_loud (clear HLK; rintro e w18 ⟨rfl, hb⟩; have HT_18 := Lib.hid (HT_17.out.below hb); have HRT_18 := Lib.hid (HRT_17.out.below hb); have HB_18 := Lib.hid (bel_trans HB_17.out hb); have HU_18 := Lib.hid (HU_17.out.below hb); have HRU_18 := Lib.hid (HRU_17.out.below hb); have HV_18 := Lib.hid (HV_17.out.below hb); have HG_18 := Lib.hid (HG_17.out.below hb); have HD_18 := Lib.hid (HD_17.out.below hb); have HS_18 := Lib.hid (HS_17.out.below hb); have HS2_18 := Lib.hid (HS2_17.out.below hb); clear hb ht17_0 ht17_1 ht17_2 hu17_0 hu17_1 hu17_2 hv17_0 hv17_1 hg17_0 hg17_1 hg17_2 hg17_3 hd17_0 hd17_1 hd17_2 hd17_3 hs17_0 hs217_0; have ht18_0 : w18.cell? ⟨pt, 0, none⟩ = some (.slice (some ⟨bv, ov, none⟩) 1 cv) := HT_18.out.cell 0; have ht18_1 : w18.cell? ⟨pt, 1, none⟩ = some (.slice Avg 0 cvg) := HT_18.out.cell 1; have ht18_2 : w18.cell? ⟨pt, 2, none⟩ = some (.slice Avd 1 cvd) := HT_18.out.cell 2; have hu18_0 : w18.cell? ⟨PR3, 0, none⟩ = some (.slice Au 0 cu) := HU_18.out.cell 0; have hu18_1 : w18.cell? ⟨PR3, 1, none⟩ = some (.slice (some ⟨bg, og, none⟩) 1 cug) := HU_18.out.cell 1; have hu18_2 : w18.cell? ⟨PR3, 2, none⟩ = some (.slice (some ⟨bd, od, none⟩) 1 cud) := HU_18.out.cell 2; have hv18_0 : w18.cell? ⟨bv, ov, none⟩ = some (.int .i64 8) := HV_18.out.2 0 _ rfl; have hv18_1 : w18.cell? ⟨bv, ov + 1, none⟩ = some (.int .i64 1) := HV_18.out.2 1 _ rfl; have hg18_0 : w18.cell? ⟨bg, og, none⟩ = some (.int .i64 8) := HG_18.out.2 0 _ rfl; have hg18_1 : w18.cell? ⟨bg, og + 1, none⟩ = some (.int .i64 0) := HG_18.out.2 1 _ rfl; have hg18_2 : w18.cell? ⟨bg, og + 2, none⟩ = some (.int .i64 1) := HG_18.out.2 2 _ rfl; have hg18_3 : w18.cell? ⟨bg, og + 3, none⟩ = some (.int .i64 4) := HG_18.out.2 3 _ rfl; have hd18_0 : w18.cell? ⟨bd, od, none⟩ = some (.int .i64 7) := HD_18.out.2 0 _ rfl; have hd18_1 : w18.cell? ⟨bd, od + 1, none⟩ = some (.int .i64 0) := HD_18.out.2 1 _ rfl; have hd18_2 : w18.cell? ⟨bd, od + 2, none⟩ = some (.int .i64 0) := HD_18.out.2 2 _ rfl; have hd18_3 : w18.cell? ⟨bd, od + 3, none⟩ = some (.int .i64 3) := HD_18.out.2 3 _ rfl; have hs18_0 : w18.cell? ⟨bs, os, none⟩ = some (.int .i64 0) := HS_18.out.2 0 _ rfl; have hs218_0 : w18.cell? ⟨bs, os + 10, none⟩ = some (.int .i64 2) := HS2_18.out.2 0 _ rfl))
        | (go_at_call 17; have HLK := Lib.hid (dCheckT_is (some ⟨w18.heap.size, 0, none⟩) 1 1 none 0 0 none 0 0 ⟨[⟨-1, 0⟩], [], []⟩ (w18.alloc (.cells #[.int .i64 (-1), .int .i64 0] 51)) ⟨(rdF_new w18 opS 51 (⟨-1, 0⟩ : Opn)).more (by simp), RdF.nil, RdF.nil⟩ ⟨by decide, by decide, by decide⟩ ex_ck2); (with_reducible refine HLK.out.mono ?_); go_loud (clear HLK; rintro e wz ⟨rfl, hb⟩; have HBZ := Lib.hid (bel_trans HB_18.out (bel_trans (belA w18 _) hb)); clear hb)))
      go_ret
      exact ⟨rfl, HBZ.out⟩
end Go.Proofs.YtlfbagkonckffaaGreat.Txn
