/- Joined: ChnT, ChnT2. -/
import Derived.Test.YtejcjmiofidedaaGreatDoorJChnF
import Derived.Test.YtejcjmiofidedaaGreatDoorJChnI
import Derived.Test.YtejcjmiofidedaaGreatDoorJSegC
/- The contract of the landed chain's Truncate. -/
namespace Go.Proofs.YtejcjmiofidedaaGreatDoor.Chn
open Go.RowKit Oct Rec Crc Bat Lay Seg RowF InR

def tb_Truncate10 : List (Nat × Nat) := [(0, 65535), (1, 65534), (0, 65535), (6, 65529), (8, 65527), (0, 65535), (32, 65503), (0, 65535), (192, 65343), (256, 65279), (0, 65535), (1552, 63999), (2048, 63487), (6160, 61423), (16383, 65535), (32767, 40959)]
set_option maxRecDepth 100000 in
set_option maxHeartbeats 8000000 in
theorem Truncate_bad (lim start : Int) (A : Option Addr) (n c : Nat) (l : List Sg) (off : Int) (w : World) (hr : RdG w w.heap.size A n l) (ht : Tab w) (_hc : n ≤ c) (hn : n ≤ 1000000) {E C e9 : Int} (hE : endT ⟨lim, start, l⟩ = E) (hC : ckL ⟨lim, start, l⟩ = C) (hways : (C ≠ 0 ∧ e9 = C) ∨ (C = 0 ∧ off < start ∧ e9 = 90) ∨ (C = 0 ∧ ¬ off < start ∧ E < off ∧ e9 = 90)) :
    Calls Tryz.prog 27 #[.agg #[.int .i64 lim, .int .i64 start, .slice A n c], .int .i64 off] w (TO w 0 0 [] e9) := by
  have hba : Below w.heap.size w (((w.alloc (.cells #[.int .i64 lim, .int .i64 start, .slice A n c] 24)).alloc (.cells #[.int .i64 off] 3)).alloc (.cells #[.int .i64 0, .int .i64 0, .slice none 0 0] 24)) := bel_alloc (bel_alloc (belA w _) _) _
  have HW_0 := Lib.hid hba
  have HL_0 := Lib.hid (((At0.new w [.int .i64 lim, .int .i64 start, .slice A n c] 24).alloc (.cells #[.int .i64 off] 3)).alloc (.cells #[.int .i64 0, .int .i64 0, .slice none 0 0] 24))
  have HB_0 := Lib.hid ((at0_1 w (.cells #[.int .i64 lim, .int .i64 start, .slice A n c] 24) [.int .i64 off] 3).alloc (.cells #[.int .i64 0, .int .i64 0, .slice none 0 0] 24))
  have HZ_0 := Lib.hid (at0_2 w (.cells #[.int .i64 lim, .int .i64 start, .slice A n c] 24) (.cells #[.int .i64 off] 3) [.int .i64 0, .int .i64 0, .slice none 0 0] 24)
  have HR_0 := Lib.hid (rdgUp hr hba)
  have HT_0 := Lib.hid (ht.bel hba)
  have HE := Lib.hid hE
  have HC := Lib.hid hC
  clear hr ht hE hC hba
  rcases hways with ⟨h1, h9⟩ | ⟨rfl, h1, h9⟩ | ⟨rfl, h1, h2, h9⟩
  all_goals (try have hcF := beqF h1)
  all_goals (try have hcN := bne_iff_ne.2 h1)
  all_goals have H9 := Lib.hid h9
  all_goals clear h9
  all_goals go_enter Tryz.func27, Tryz.ntmps27
  all_goals go_wp2_with (first
    | (go_at_call 49; (with_reducible refine (reachC lim start A n c l _ HR_0.out HT_0.out (by omega) HE.out HC.out).mono ?_); rintro e w1 ⟨rfl, hb⟩; have HW_1 := Lib.hid (bel_trans HW_0.out hb); have HL_1 := Lib.hid (HL_0.out.below hb); have HB_1 := Lib.hid (HB_0.out.below hb); have HZ_1 := Lib.hid (HZ_0.out.below hb); have HR_1 := Lib.hid (rdgUp HR_0.out hb); have HT_1 := Lib.hid (HT_0.out.bel hb); obtain ⟨hl1_0, hl1_1, hl1_2⟩ := cel3 HL_1.out; obtain ⟨fhl1_0, fhl1_1, fhl1_2⟩ := frz3 HL_1.out; have hb1_0 := cel1 HB_1.out; obtain ⟨hz1_0, hz1_1, hz1_2⟩ := cel3 HZ_1.out; obtain ⟨fhz1_0, fhz1_1, fhz1_2⟩ := frz3 HZ_1.out; clear hb))
  all_goals exact bodyPost_ret (v := .tuple #[.agg #[.int .i64 0, .int .i64 0, .slice none 0 0], .int .i64 e9]) (by simp [results, Tryz.results27, go_sem, H9.out, hz1_0, hz1_1, hz1_2]) rfl ⟨none, 0, 0, rfl, OwnG.nil, bel3 HW_1.out (by omega) _ _ _⟩
set_option maxRecDepth 100000 in
set_option maxHeartbeats 8000000 in
theorem Truncate_no (lim start : Int) (A : Option Addr) (n c : Nat) (l : List Sg) (off : Int) (w : World) (hr : RdG w w.heap.size A n l) (ht : Tab w) (_hc : n ≤ c) (hn : n ≤ 1000000) (hC : ckL ⟨lim, start, l⟩ = 0) {E : Int} (hE : endT ⟨lim, start, l⟩ = E) (h1 : ¬ off < start) (h2 : ¬ E < off) (hI : I64 off) (hm : las (fun s => decide (s.base < off)) l = 0) :
    Calls Tryz.prog 27 #[.agg #[.int .i64 lim, .int .i64 start, .slice A n c], .int .i64 off] w (TO w lim start [⟨off, []⟩] 0) := by
  have hba : Below w.heap.size w (((w.alloc (.cells #[.int .i64 lim, .int .i64 start, .slice A n c] 24)).alloc (.cells #[.int .i64 off] 3)).alloc (.cells #[.int .i64 0, .int .i64 0, .slice none 0 0] 24)) := bel_alloc (bel_alloc (belA w _) _) _
  have HW_0 := Lib.hid hba
  have HL_0 := Lib.hid (((At0.new w [.int .i64 lim, .int .i64 start, .slice A n c] 24).alloc (.cells #[.int .i64 off] 3)).alloc (.cells #[.int .i64 0, .int .i64 0, .slice none 0 0] 24))
  have HB_0 := Lib.hid ((at0_1 w (.cells #[.int .i64 lim, .int .i64 start, .slice A n c] 24) [.int .i64 off] 3).alloc (.cells #[.int .i64 0, .int .i64 0, .slice none 0 0] 24))
  have HZ_0 := Lib.hid (at0_2 w (.cells #[.int .i64 lim, .int .i64 start, .slice A n c] 24) (.cells #[.int .i64 off] 3) [.int .i64 0, .int .i64 0, .slice none 0 0] 24)
  have HR_0 := Lib.hid (rdgUp hr hba)
  have HT_0 := Lib.hid (ht.bel hba)
  have HE := Lib.hid hE
  have HC := Lib.hid hC
  have HLA := Lib.hid hm
  have HQ := Lib.hid (show ((0 : Nat) : Int) - 1 = -1 by omega)
  clear hr ht hE hC hba hm
  go_enter Tryz.func27, Tryz.ntmps27
  go_wp2_with (first
    | (go_at_call 49; (with_reducible refine (reachC lim start A n c l _ HR_0.out HT_0.out (by omega) HE.out HC.out).mono ?_); rintro e w1 ⟨rfl, hb⟩; have HW_1 := Lib.hid (bel_trans HW_0.out hb); have HL_1 := Lib.hid (HL_0.out.below hb); have HB_1 := Lib.hid (HB_0.out.below hb); have HZ_1 := Lib.hid (HZ_0.out.below hb); have HR_1 := Lib.hid (rdgUp HR_0.out hb); have HT_1 := Lib.hid (HT_0.out.bel hb); obtain ⟨hl1_0, hl1_1, hl1_2⟩ := cel3 HL_1.out; obtain ⟨fhl1_0, fhl1_1, fhl1_2⟩ := frz3 HL_1.out; have hb1_0 := cel1 HB_1.out; obtain ⟨hz1_0, hz1_1, hz1_2⟩ := cel3 HZ_1.out; obtain ⟨fhz1_0, fhz1_1, fhz1_2⟩ := frz3 HZ_1.out; clear hb)
    | (go_at_call 66; (with_reducible refine (lastC 67 #[.pointer (some ⟨w.heap.size + 1, 0, none⟩)] (fun ys w => by go_simp) (fun s => decide (s.base < off)) A n _ l w1 HR_1.out (by omega) (fun s A1 n1 c1 w1 hb _ _ _ _ => cutAt_any (w.heap.size + 1) off _ s A1 n1 c1 w1 (HB_1.out.cell 0) hb) HLA.out).mono ?_); rintro e w2 ⟨rfl, hb⟩; rw [HQ.out]; have HW_2 := Lib.hid (bel_trans HW_1.out hb); have HL_2 := Lib.hid (HL_1.out.below hb); have HB_2 := Lib.hid (HB_1.out.below hb); have HZ_2 := Lib.hid (HZ_1.out.below hb); have HR_2 := Lib.hid (rdgUp HR_1.out hb); have HT_2 := Lib.hid (HT_1.out.bel hb); obtain ⟨hl2_0, hl2_1, hl2_2⟩ := cel3 HL_2.out; obtain ⟨fhl2_0, fhl2_1, fhl2_2⟩ := frz3 HL_2.out; have hb2_0 := cel1 HB_2.out; obtain ⟨hz2_0, hz2_1, hz2_2⟩ := cel3 HZ_2.out; obtain ⟨fhz2_0, fhz2_1, fhz2_2⟩ := frz3 HZ_2.out; have lL := HL_2.out.lt; have lB := HB_2.out.lt; have lZ := HZ_2.out.lt; clear hb))
  have HLM := Lib.hid (show w.heap.size ≤ w2.heap.size ∧ w.heap.size < w2.heap.size ∧ w.heap.size + 1 + 1 < w2.heap.size from ⟨Nat.le_of_lt lL, lL, lZ⟩)
  have HO9 := Lib.hid ((ownG_lit w2 off 59 hI (Nat.le_refl _)).off9 (g := w.heap.size) HLM.out.2.1 2 (.slice (some ⟨w2.heap.size, 0, none⟩) 1 1))
  have HO10 := Lib.hid (OwnG.off3 HO9.out (g := w.heap.size + 1 + 1) HLM.out.2.2 (.int .i64 lim) (.int .i64 start) (.slice (some ⟨w2.heap.size, 0, none⟩) 1 1))
  have HW9 := Lib.hid (show Below w.heap.size w ((w2.alloc (.cells #[.int .i64 off, .slice none 0 0] 59)).setCell ⟨w.heap.size, 2, none⟩ (.slice (some ⟨w2.heap.size, 0, none⟩) 1 1)) from (bel_alloc HW_2.out _).setCell (Nat.le_refl _) _)
  exact bodyPost_ret (v := .tuple #[.agg #[.int .i64 lim, .int .i64 start, .slice (some ⟨w2.heap.size, 0, none⟩) 1 1], .int .i64 0]) (by simp [results, Tryz.results27, go_sem, hz2_0, hz2_1, hz2_2, lZ]) rfl ⟨some ⟨w2.heap.size, 0, none⟩, 1, 1, rfl, by have h := HO10.out.more (B' := w.heap.size) (P' := fun b => w.heap.size ≤ b) HLM.out.1 (fun b hb => Nat.le_trans HLM.out.1 hb); simpa [go_sem, lL, lB, lZ] using h, by have h := bel3 (g := w.heap.size + 1 + 1) HW9.out (by omega) (.int .i64 lim) (.int .i64 start) (.slice (some ⟨w2.heap.size, 0, none⟩) 1 1); simpa [go_sem, lL, lB, lZ] using h⟩
set_option maxRecDepth 100000 in
set_option maxHeartbeats 8000000 in
theorem Truncate_ok (lim start : Int) (A : Option Addr) (n c : Nat) (l : List Sg) (off : Int) (w : World) (hr : RdG w w.heap.size A n l) (ht : Tab w) (hc : n ≤ c) (hn : n ≤ 1000000) (hC : ckL ⟨lim, start, l⟩ = 0) {E : Int} (hE : endT ⟨lim, start, l⟩ = E) (h1 : ¬ off < start) (h2 : ¬ E < off) {k : Nat} (hm : las (fun s => decide (s.base < off)) l = k + 1) {s0 : Sg} (hs0 : l[k]? = some s0) {yb : Int} {ys : List UInt8} (hcut : cutS s0 off = ⟨yb, ys⟩) :
    Calls Tryz.prog 27 #[.agg #[.int .i64 lim, .int .i64 start, .slice A n c], .int .i64 off] w (TO w lim start (l.take k ++ [⟨yb, ys⟩]) 0) := by
  have hkn : k < n := by have := (List.getElem?_eq_some_iff.1 hs0).1; have := hr.len; omega
  obtain ⟨b, o, ⟨sb, ss⟩, A5, n5, c5, hA, hbl, hxk, hc5, hn5, hrd, hIs, c0, c1'⟩ := hr.at hkn
  obtain rfl : s0 = ⟨sb, ss⟩ := Option.some.inj (hs0.symm.trans hxk)
  subst hA
  simp only at hrd hIs c0
  have hyl : ys.length ≤ gMax := by have h9 := cut_len ⟨sb, ss⟩ off; rw [hcut] at h9; have h8 := hrd.len; simp only at h9; omega
  have hyb : yb = sb := by have h9 := congrArg Sg.base hcut; exact h9.symm
  subst hyb
  have hba : Below w.heap.size w (((w.alloc (.cells #[.int .i64 lim, .int .i64 start, .slice (some ⟨b, o, none⟩) n c] 24)).alloc (.cells #[.int .i64 off] 3)).alloc (.cells #[.int .i64 0, .int .i64 0, .slice none 0 0] 24)) := bel_alloc (bel_alloc (belA w _) _) _
  have HW_0 := Lib.hid hba
  have HL_0 := Lib.hid (((At0.new w [.int .i64 lim, .int .i64 start, .slice (some ⟨b, o, none⟩) n c] 24).alloc (.cells #[.int .i64 off] 3)).alloc (.cells #[.int .i64 0, .int .i64 0, .slice none 0 0] 24))
  have HB_0 := Lib.hid ((at0_1 w (.cells #[.int .i64 lim, .int .i64 start, .slice (some ⟨b, o, none⟩) n c] 24) [.int .i64 off] 3).alloc (.cells #[.int .i64 0, .int .i64 0, .slice none 0 0] 24))
  have HZ_0 := Lib.hid (at0_2 w (.cells #[.int .i64 lim, .int .i64 start, .slice (some ⟨b, o, none⟩) n c] 24) (.cells #[.int .i64 off] 3) [.int .i64 0, .int .i64 0, .slice none 0 0] 24)
  have HR_0 := Lib.hid (rdgUp hr hba)
  have HT_0 := Lib.hid (ht.bel hba)
  have HS_0 := Lib.hid ((AtO.two hbl c0 c1').below hba)
  have HRD_0 := Lib.hid (rd_to hrd (Nat.le_refl _) hba)
  have HE := Lib.hid hE
  have HC := Lib.hid hC
  have HLA := Lib.hid hm
  have HCU := Lib.hid hcut
  have hn5' : n5 ≤ 137438953472 := by unfold gMax at hn5; omega
  have hql : (k : Int) < (n : Int) := by omega
  have hqk : (0 : Int) ≤ (k : Int) := by omega
  have hqc : k ≤ c := by omega
  have hcF : decide ((k : Int) < 0) = false := by simp only [decide_eq_false_iff_not]; omega
  have HQ := Lib.hid (show ((k + 1 : Nat) : Int) - 1 = (k : Int) by omega)
  have hmx : Tryz.prog.follows .mixedOrders = true := by kernel_rfl
  clear hr ht hE hC hba hm hs0 hcut hxk hrd c0 c1' hbl
  go_enter Tryz.func27, Tryz.ntmps27
  go_wp2_with (first
    | (go_at_call 49; (with_reducible refine (reachC lim start (some ⟨b, o, none⟩) n c l _ HR_0.out HT_0.out (by omega) HE.out HC.out).mono ?_); rintro e w1 ⟨rfl, hb⟩; have HW_1 := Lib.hid (bel_trans HW_0.out hb); have HL_1 := Lib.hid (HL_0.out.below hb); have HB_1 := Lib.hid (HB_0.out.below hb); have HZ_1 := Lib.hid (HZ_0.out.below hb); have HR_1 := Lib.hid (rdgUp HR_0.out hb); have HT_1 := Lib.hid (HT_0.out.bel hb); have HS_1 := Lib.hid (HS_0.out.below hb); have HRD_1 := Lib.hid (rdUp HRD_0.out hb); obtain ⟨hl1_0, hl1_1, hl1_2⟩ := cel3 HL_1.out; obtain ⟨fhl1_0, fhl1_1, fhl1_2⟩ := frz3 HL_1.out; have hb1_0 := cel1 HB_1.out; obtain ⟨hz1_0, hz1_1, hz1_2⟩ := cel3 HZ_1.out; obtain ⟨fhz1_0, fhz1_1, fhz1_2⟩ := frz3 HZ_1.out; clear hb)
    | (go_at_call 66; (with_reducible refine (lastC 67 #[.pointer (some ⟨w.heap.size + 1, 0, none⟩)] (fun ys w => by go_simp) (fun s => decide (s.base < off)) (some ⟨b, o, none⟩) n _ l w1 HR_1.out (by omega) (fun s A1 n1 c1 w1 hb _ _ _ _ => cutAt_any (w.heap.size + 1) off _ s A1 n1 c1 w1 (HB_1.out.cell 0) hb) HLA.out).mono ?_); rintro e w2 ⟨rfl, hb⟩; rw [HQ.out]; have HW_2 := Lib.hid (bel_trans HW_1.out hb); have HL_2 := Lib.hid (HL_1.out.below hb); have HB_2 := Lib.hid (HB_1.out.below hb); have HZ_2 := Lib.hid (HZ_1.out.below hb); have HR_2 := Lib.hid (rdgUp HR_1.out hb); have HT_2 := Lib.hid (HT_1.out.bel hb); have HS_2 := Lib.hid (HS_1.out.below hb); have HRD_2 := Lib.hid (rdUp HRD_1.out hb); obtain ⟨hl2_0, hl2_1, hl2_2⟩ := cel3 HL_2.out; obtain ⟨fhl2_0, fhl2_1, fhl2_2⟩ := frz3 HL_2.out; have hb2_0 := cel1 HB_2.out; obtain ⟨hz2_0, hz2_1, hz2_2⟩ := cel3 HZ_2.out; obtain ⟨fhz2_0, fhz2_1, fhz2_2⟩ := frz3 HZ_2.out; have lL := HL_2.out.lt; have lB := HB_2.out.lt; have lZ := HZ_2.out.lt; clear hb))
  have HLM := Lib.hid (show w.heap.size ≤ w2.heap.size ∧ w.heap.size < w2.heap.size ∧ w.heap.size + 1 + 1 < w2.heap.size from ⟨Nat.le_of_lt lL, lL, lZ⟩)
  clear lL lB lZ
  have hbd := (Below.refl w2.heap.size w2).drew
  have HW_R10 := Lib.hid (bel_trans HW_2.out hbd)
  have HL_R10 := Lib.hid (HL_2.out.below hbd)
  have HB_R10 := Lib.hid (HB_2.out.below hbd)
  have HZ_R10 := Lib.hid (HZ_2.out.below hbd)
  have HR_R10 := Lib.hid (rdgUp HR_2.out hbd)
  have HT_R10 := Lib.hid (HT_2.out.bel hbd)
  have HS_R10 := Lib.hid (HS_2.out.below hbd)
  have HRD_R10 := Lib.hid (rdUp HRD_2.out hbd)
  have HSR10 := Lib.hid (show (fun W9 : World => W9.cell? ⟨w.heap.size, 0, none⟩ = some (.int .i64 lim) ∧ W9.cell? ⟨w.heap.size, 1, none⟩ = some (.int .i64 start) ∧ W9.cell? ⟨w.heap.size, 2, none⟩ = some (.slice (some ⟨b, o, none⟩) n c) ∧ W9.cell? ⟨(w.heap.size + 1), 0, none⟩ = some (.int .i64 off) ∧ W9.cell? ⟨b, o + k * 2, none⟩ = some (.int .i64 yb) ∧ W9.cell? ⟨b, o + k * 2 + 1, none⟩ = some (.slice A5 n5 c5)) w2.drew from ⟨HL_R10.out.cell 0, HL_R10.out.cell 1, HL_R10.out.cell 2, HB_R10.out.cell 0, HS_R10.out.2 0 _ rfl, HS_R10.out.2 1 _ rfl⟩)
  clear hbd
  refine region_let (fun W9 : World => W9.cell? ⟨w.heap.size, 0, none⟩ = some (.int .i64 lim) ∧ W9.cell? ⟨w.heap.size, 1, none⟩ = some (.int .i64 start) ∧ W9.cell? ⟨w.heap.size, 2, none⟩ = some (.slice (some ⟨b, o, none⟩) n c) ∧ W9.cell? ⟨(w.heap.size + 1), 0, none⟩ = some (.int .i64 off) ∧ W9.cell? ⟨b, o + k * 2, none⟩ = some (.int .i64 yb) ∧ W9.cell? ⟨b, o + k * 2 + 1, none⟩ = some (.slice A5 n5 c5)) 15 16 hmx rfl fun ops Q HOPS HQ => ?_
  refine yq 0 HOPS HSR10.out ?_; simp only [ls0, ls1]; refine yq 1 HOPS HSR10.out ?_; simp only [ls0, ls1]; refine yq 2 HOPS HSR10.out ?_; simp only [ls0, ls1]; refine yq 3 HOPS HSR10.out ?_; simp only [ls0, ls1]; refine yq 5 HOPS HSR10.out ?_; simp only [ls0, ls1]; refine yq 6 HOPS HSR10.out ?_; simp only [ls0, ls1]; refine yq 7 HOPS HSR10.out ?_; simp only [ls0, ls1]; refine yq 8 HOPS HSR10.out ?_; simp only [ls0, ls1]; refine yq 9 HOPS HSR10.out ?_; simp only [ls0, ls1]; refine yq 10 HOPS HSR10.out ?_; simp only [ls0, ls1]
  refine xc 4 HOPS ?_
  go_simp
  with_reducible refine (copies_is (some ⟨b, o, none⟩) k _ (l.take k) _ (RdG.take HR_R10.out (by omega)) (by omega)).mono ?_
  rintro e w6 ⟨A7, c7, rfl, ho, hb⟩
  have HW_6 := Lib.hid (bel_trans HW_R10.out hb)
  have HL_6 := Lib.hid (HL_R10.out.below hb)
  have HB_6 := Lib.hid (HB_R10.out.below hb)
  have HZ_6 := Lib.hid (HZ_R10.out.below hb)
  have HR_6 := Lib.hid (rdgUp HR_R10.out hb)
  have HT_6 := Lib.hid (HT_R10.out.bel hb)
  have HS_6 := Lib.hid (HS_R10.out.below hb)
  have HRD_6 := Lib.hid (rdUp HRD_R10.out hb)
  have HOC := Lib.hid ho
  have HOS := Lib.hid hb.size
  have HB6 := Lib.hid (show Below w2.heap.size w2 w6 from (Below.refl w2.heap.size w2).drew.trans (hb.mono (Nat.le_refl _)))
  have HOL := Lib.hid fun g hg => (ho.lt g hg).2
  clear ho
  have HSR10w6 := Lib.hid (show (fun W9 : World => W9.cell? ⟨w.heap.size, 0, none⟩ = some (.int .i64 lim) ∧ W9.cell? ⟨w.heap.size, 1, none⟩ = some (.int .i64 start) ∧ W9.cell? ⟨w.heap.size, 2, none⟩ = some (.slice (some ⟨b, o, none⟩) n c) ∧ W9.cell? ⟨(w.heap.size + 1), 0, none⟩ = some (.int .i64 off) ∧ W9.cell? ⟨b, o + k * 2, none⟩ = some (.int .i64 yb) ∧ W9.cell? ⟨b, o + k * 2 + 1, none⟩ = some (.slice A5 n5 c5)) w6 from ⟨HL_6.out.cell 0, HL_6.out.cell 1, HL_6.out.cell 2, HB_6.out.cell 0, HS_6.out.2 0 _ rfl, HS_6.out.2 1 _ rfl⟩)
  clear hb
  refine ⟨HSR10w6.out, ?_⟩
  refine xc 11 HOPS ?_
  go_simp
  with_reducible refine (Seg.Cut_is HCU.out HRD_6.out hc5 hn5' hIs HT_6.out).mono ?_
  rintro e w8 ⟨A6, n6, c6, rfl, ho, hb⟩
  have HW_8 := Lib.hid (bel_trans HW_6.out hb)
  have HL_8 := Lib.hid (HL_6.out.below hb)
  have HB_8 := Lib.hid (HB_6.out.below hb)
  have HZ_8 := Lib.hid (HZ_6.out.below hb)
  have HR_8 := Lib.hid (rdgUp HR_6.out hb)
  have HT_8 := Lib.hid (HT_6.out.bel hb)
  have HS_8 := Lib.hid (HS_6.out.below hb)
  have HRD_8 := Lib.hid (rdUp HRD_6.out hb)
  have HOC8 := Lib.hid (HOC.out.below hb)
  have HOB8 := Lib.hid ho
  have HOS8 := Lib.hid (Nat.le_trans HOS.out hb.size)
  have HB8 := Lib.hid (HB6.out.trans (hb.mono HB6.out.size))
  have hn6 := ho.len
  clear ho
  have HSR10w8 := Lib.hid (show (fun W9 : World => W9.cell? ⟨w.heap.size, 0, none⟩ = some (.int .i64 lim) ∧ W9.cell? ⟨w.heap.size, 1, none⟩ = some (.int .i64 start) ∧ W9.cell? ⟨w.heap.size, 2, none⟩ = some (.slice (some ⟨b, o, none⟩) n c) ∧ W9.cell? ⟨(w.heap.size + 1), 0, none⟩ = some (.int .i64 off) ∧ W9.cell? ⟨b, o + k * 2, none⟩ = some (.int .i64 yb) ∧ W9.cell? ⟨b, o + k * 2 + 1, none⟩ = some (.slice A5 n5 c5)) w8 from ⟨HL_8.out.cell 0, HL_8.out.cell 1, HL_8.out.cell 2, HB_8.out.cell 0, HS_8.out.2 0 _ rfl, HS_8.out.2 1 _ rfl⟩)
  clear hb
  refine ⟨HSR10w8.out, ?_⟩
  refine xc 12 HOPS ?_
  go_simp
  have hb := belA w8 (.cells #[.int .i64 yb, .slice A6 n6 c6] 59)
  have HW_9 := Lib.hid (bel_trans HW_8.out hb)
  have HL_9 := Lib.hid (HL_8.out.below hb)
  have HB_9 := Lib.hid (HB_8.out.below hb)
  have HZ_9 := Lib.hid (HZ_8.out.below hb)
  have HR_9 := Lib.hid (rdgUp HR_8.out hb)
  have HT_9 := Lib.hid (HT_8.out.bel hb)
  have HS_9 := Lib.hid (HS_8.out.below hb)
  have HRD_9 := Lib.hid (rdUp HRD_8.out hb)
  have HRF := Lib.hid ((show RdF segC 2 (w8.alloc (.cells #[.int .i64 yb, .slice A6 n6 c6] 59)) (w8.heap.size + 1) (some ⟨w8.heap.size, 0, none⟩) 1 [(((⟨yb, ys⟩ : Sg), A6, n6, c6) : GX)] from (rdF_new w8 segSh 59 (((⟨yb, ys⟩ : Sg), A6, n6, c6) : GX))).more (B' := (w8.alloc (.cells #[.int .i64 yb, .slice A6 n6 c6] 59)).heap.size) (by simp))
  have HOC9 := Lib.hid (HOC8.out.alloc (.cells #[.int .i64 yb, .slice A6 n6 c6] 59))
  have HOB9 := Lib.hid (HOB8.out.alloc (.cells #[.int .i64 yb, .slice A6 n6 c6] 59))
  have HOS9 := Lib.hid (Nat.le_trans HOS8.out hb.size)
  have HB9 := Lib.hid (bel_alloc HB8.out (.cells #[.int .i64 yb, .slice A6 n6 c6] 59))
  clear hb
  have HSR10_12 := Lib.hid (show (fun W9 : World => W9.cell? ⟨w.heap.size, 0, none⟩ = some (.int .i64 lim) ∧ W9.cell? ⟨w.heap.size, 1, none⟩ = some (.int .i64 start) ∧ W9.cell? ⟨w.heap.size, 2, none⟩ = some (.slice (some ⟨b, o, none⟩) n c) ∧ W9.cell? ⟨(w.heap.size + 1), 0, none⟩ = some (.int .i64 off) ∧ W9.cell? ⟨b, o + k * 2, none⟩ = some (.int .i64 yb) ∧ W9.cell? ⟨b, o + k * 2 + 1, none⟩ = some (.slice A5 n5 c5)) (w8.alloc (.cells #[.int .i64 yb, .slice A6 n6 c6] 59)) from ⟨HL_9.out.cell 0, HL_9.out.cell 1, HL_9.out.cell 2, HB_9.out.cell 0, HS_9.out.2 0 _ rfl, HS_9.out.2 1 _ rfl⟩)
  refine ⟨HSR10_12.out, ?_⟩
  refine xc 13 HOPS ?_
  obtain ⟨A8, c8, w10, hrun, ho, hb⟩ := app_two (M := w2.heap.size) (y := (⟨yb, ys⟩ : Sg)) HOC9.out (by simp) (by omega) HOB9.out HB6.out.size (by omega) hIs HOL.out HRF.out HOS9.out
  have HO8 := Lib.hid ho
  have HB10 := Lib.hid (HB9.out.trans (hb.mono (by simp)))
  clear ho hb
  have HW_a := Lib.hid (bel_trans HW_2.out HB10.out)
  have HL_a := Lib.hid (HL_2.out.below HB10.out)
  have HB_a := Lib.hid (HB_2.out.below HB10.out)
  have HZ_a := Lib.hid (HZ_2.out.below HB10.out)
  have HR_a := Lib.hid (rdgUp HR_2.out HB10.out)
  have HT_a := Lib.hid (HT_2.out.bel HB10.out)
  have HS_a := Lib.hid (HS_2.out.below HB10.out)
  have HRD_a := Lib.hid (rdUp HRD_2.out HB10.out)
  refine wp_app (.tmp 45) (.tmp 53) 22 rfl rfl rfl hrun ?_
  clear hrun
  have HSR10_13 := Lib.hid (show (fun W9 : World => W9.cell? ⟨w.heap.size, 0, none⟩ = some (.int .i64 lim) ∧ W9.cell? ⟨w.heap.size, 1, none⟩ = some (.int .i64 start) ∧ W9.cell? ⟨w.heap.size, 2, none⟩ = some (.slice (some ⟨b, o, none⟩) n c) ∧ W9.cell? ⟨(w.heap.size + 1), 0, none⟩ = some (.int .i64 off) ∧ W9.cell? ⟨b, o + k * 2, none⟩ = some (.int .i64 yb) ∧ W9.cell? ⟨b, o + k * 2 + 1, none⟩ = some (.slice A5 n5 c5)) w10 from ⟨HL_a.out.cell 0, HL_a.out.cell 1, HL_a.out.cell 2, HB_a.out.cell 0, HS_a.out.2 0 _ rfl, HS_a.out.2 1 _ rfl⟩)
  refine ⟨HSR10_13.out, ?_⟩
  simp only [Act.put, lss]
  refine yq 14 HOPS HSR10_13.out ?_; simp only [ls0, ls1]
  refine xl 15 HOPS ?_
  obtain ⟨hls_0, hls_1, hls_2⟩ := cel3 HL_a.out
  obtain ⟨fhls_0, fhls_1, fhls_2⟩ := frz3 HL_a.out
  go_simp
  clear hls_0 hls_1 hls_2 fhls_0 fhls_1 fhls_2
  refine stepE HOPS (by kernel_rfl) (HQ.out _ _ ?_)
  clear HQ HOPS
  clear Q ops
  have HL9 := Lib.hid (at0_put HL_a.out 2 (.slice A8 (k + 1) c8))
  have HZ9 := Lib.hid (At0.set HZ_a.out (p := ⟨w.heap.size, 2, none⟩) (show w.heap.size ≠ w.heap.size + 1 + 1 by omega) (.slice A8 (k + 1) c8))
  have HW9 := Lib.hid (show Below w.heap.size w (w10.setCell ⟨w.heap.size, 2, none⟩ (.slice A8 (k + 1) c8)) from HW_a.out.setCell (Nat.le_refl _) _)
  have HO9 := Lib.hid (OwnG.off9 HO8.out (g := w.heap.size) HLM.out.2.1 2 (.slice A8 (k + 1) c8))
  simp only [List.set_cons_zero, List.set_cons_succ] at HL9
  generalize w10.setCell ⟨w.heap.size, 2, none⟩ (.slice A8 (k + 1) c8) = W9 at *
  have l9_0 := HL9.out.cell 0
  have l9_1 := HL9.out.cell 1
  have l9_2 := HL9.out.cell 2
  have z9_0 := HZ9.out.cell 0
  have g9_0 := HZ9.out.frozen 0
  have z9_1 := HZ9.out.cell 1
  have g9_1 := HZ9.out.frozen 1
  have z9_2 := HZ9.out.cell 2
  have g9_2 := HZ9.out.frozen 2
  simp only [List.getElem?_cons_zero, List.getElem?_cons_succ] at l9_0 l9_1 l9_2 z9_0 z9_1 z9_2
  go_wp2
  have HO10 := Lib.hid (OwnG.off3 HO9.out (g := w.heap.size + 1 + 1) HLM.out.2.2 (.int .i64 lim) (.int .i64 start) (.slice A8 (k + 1) c8))
  exact bodyPost_ret (v := .tuple #[.agg #[.int .i64 lim, .int .i64 start, .slice A8 (k + 1) c8], .int .i64 0]) (by simp [results, Tryz.results27, go_sem, z9_0, z9_1, z9_2]) rfl ⟨A8, (k + 1), c8, rfl, HO10.out.more HLM.out.1 (fun b hb => Nat.le_trans HLM.out.1 hb), bel3 HW9.out (by omega) _ _ _⟩
theorem Truncate_is (lim start : Int) (A : Option Addr) (n c : Nat) (l : List Sg) (off : Int) (w : World) (hr : RdG w w.heap.size A n l) (ht : Tab w) (hc : n ≤ c) (hn : n ≤ 1000000) (hI : I64 off) {xl xs e9 : Int} {x : List Sg} (h : truncL ⟨lim, start, l⟩ off = (⟨xl, xs, x⟩, e9)) :
    Calls Tryz.prog 27 #[.agg #[.int .i64 lim, .int .i64 start, .slice A n c], .int .i64 off] w (TO w xl xs x e9) := by
  unfold truncL at h
  by_cases h1 : ckL ⟨lim, start, l⟩ = 0
  · have hE : endT ⟨lim, start, l⟩ = endL ⟨lim, start, l⟩ := by unfold endT; rw [if_pos h1]
    rw [if_neg (by omega)] at h
    simp only at h
    by_cases h2 : off < start ∨ endL ⟨lim, start, l⟩ < off
    · rw [if_pos h2] at h
      injection h with a1 a2
      injection a1 with a3 a4 a5
      subst a3; subst a4; subst a5; subst a2
      refine Truncate_bad lim start A n c l off w hr ht hc hn hE h1 ?_
      by_cases h3 : off < start
      · exact .inr (.inl ⟨rfl, h3, rfl⟩)
      · exact .inr (.inr ⟨rfl, h3, by omega, rfl⟩)
    · rw [if_neg h2] at h
      have h9 := trunc_is h1 off
      simp only at h9
      rw [← h9] at h
      injection h with a1 a2
      injection a1 with a3 a4 a5
      subst a3; subst a4; subst a5; subst a2
      unfold truS
      cases hm : las (fun s => decide (s.base < off)) l with
      | zero => exact Truncate_no lim start A n c l off w hr ht hc hn h1 hE (by omega) (by omega) hI hm
      | succ k =>
        obtain ⟨s0, hs0, _⟩ := las_at hm
        rcases hcut : cutS s0 off with ⟨yb, ys⟩
        have h8 := Truncate_ok lim start A n c l off w hr ht hc hn h1 hE (by omega) (by omega) hm hs0 hcut
        simp only [hs0, Option.getD_some, hcut]
        exact h8
  · rw [if_pos h1] at h
    injection h with a1 a2
    injection a1 with a3 a4 a5
    subst a3; subst a4; subst a5
    exact Truncate_bad lim start A n c l off w hr ht hc hn rfl rfl (.inl ⟨h1, a2.symm⟩)
end Go.Proofs.YtejcjmiofidedaaGreatDoor.Chn

/- The contract of the landed chain's Trim. -/
namespace Go.Proofs.YtejcjmiofidedaaGreatDoor.Chn
open Go.RowKit Oct Rec Crc Bat Lay Seg RowF InR

def tb_Trim8 : List (Nat × Nat) := [(0, 2047), (0, 2047), (2, 2045), (0, 2047), (8, 2039), (20, 2027), (32, 2015), (7, 2047), (199, 1918), (511, 2047), (1023, 1471)]
set_option maxRecDepth 100000 in
set_option maxHeartbeats 8000000 in
theorem Trim_bad (lim start : Int) (A : Option Addr) (n c : Nat) (l : List Sg) (off : Int) (w : World) (hr : RdG w w.heap.size A n l) (ht : Tab w) (_hc : n ≤ c) (hn : n ≤ 1000000) {E C e9 : Int} (hE : endT ⟨lim, start, l⟩ = E) (hC : ckL ⟨lim, start, l⟩ = C) (hways : (C ≠ 0 ∧ e9 = C) ∨ (C = 0 ∧ off < start ∧ e9 = 90) ∨ (C = 0 ∧ ¬ off < start ∧ E < off ∧ e9 = 90) ∨ (C = 0 ∧ ¬ off < start ∧ ¬ E < off ∧ isO off = false ∧ e9 = 90)) :
    Calls Tryz.prog 29 #[.agg #[.int .i64 lim, .int .i64 start, .slice A n c], .int .i64 off] w (TO w 0 0 [] e9) := by
  have hba : Below w.heap.size w (((w.alloc (.cells #[.int .i64 lim, .int .i64 start, .slice A n c] 24)).alloc (.cells #[.int .i64 off] 3)).alloc (.cells #[.int .i64 0, .int .i64 0, .slice none 0 0] 24)) := bel_alloc (bel_alloc (belA w _) _) _
  have HW_0 := Lib.hid hba
  have HL_0 := Lib.hid (((At0.new w [.int .i64 lim, .int .i64 start, .slice A n c] 24).alloc (.cells #[.int .i64 off] 3)).alloc (.cells #[.int .i64 0, .int .i64 0, .slice none 0 0] 24))
  have HB_0 := Lib.hid ((at0_1 w (.cells #[.int .i64 lim, .int .i64 start, .slice A n c] 24) [.int .i64 off] 3).alloc (.cells #[.int .i64 0, .int .i64 0, .slice none 0 0] 24))
  have HZ_0 := Lib.hid (at0_2 w (.cells #[.int .i64 lim, .int .i64 start, .slice A n c] 24) (.cells #[.int .i64 off] 3) [.int .i64 0, .int .i64 0, .slice none 0 0] 24)
  have HR_0 := Lib.hid (rdgUp hr hba)
  have HT_0 := Lib.hid (ht.bel hba)
  have HE := Lib.hid hE
  have HC := Lib.hid hC
  clear hr ht hE hC hba
  rcases hways with ⟨h1, h9⟩ | ⟨rfl, h1, h9⟩ | ⟨rfl, h1, h2, h9⟩ | ⟨rfl, h1, h2, h3, h9⟩
  all_goals (try have hcF := beqF h1)
  all_goals (try have hcN := bne_iff_ne.2 h1)
  all_goals have H9 := Lib.hid h9
  all_goals clear h9
  all_goals go_enter Tryz.func29, Tryz.ntmps29
  all_goals go_wp2_with (first
    | (go_at_call 49; (with_reducible refine (reachC lim start A n c l _ HR_0.out HT_0.out (by omega) HE.out HC.out).mono ?_); rintro e w1 ⟨rfl, hb⟩; have HW_1 := Lib.hid (bel_trans HW_0.out hb); have HL_1 := Lib.hid (HL_0.out.below hb); have HB_1 := Lib.hid (HB_0.out.below hb); have HZ_1 := Lib.hid (HZ_0.out.below hb); have HR_1 := Lib.hid (rdgUp HR_0.out hb); have HT_1 := Lib.hid (HT_0.out.bel hb); obtain ⟨hl1_0, hl1_1, hl1_2⟩ := cel3 HL_1.out; obtain ⟨fhl1_0, fhl1_1, fhl1_2⟩ := frz3 HL_1.out; have hb1_0 := cel1 HB_1.out; obtain ⟨hz1_0, hz1_1, hz1_2⟩ := cel3 HZ_1.out; obtain ⟨fhz1_0, fhz1_1, fhz1_2⟩ := frz3 HZ_1.out; clear hb)
    | (go_at_call 71; (with_reducible refine (isOff_any off _).mono ?_); rintro e w9 ⟨rfl, rfl⟩; ))
  all_goals exact bodyPost_ret (v := .tuple #[.agg #[.int .i64 0, .int .i64 0, .slice none 0 0], .int .i64 e9]) (by simp [results, Tryz.results29, go_sem, H9.out, hz1_0, hz1_1, hz1_2]) rfl ⟨none, 0, 0, rfl, OwnG.nil, bel3 HW_1.out (by omega) _ _ _⟩
set_option maxRecDepth 100000 in
set_option maxHeartbeats 8000000 in
theorem Trim_ok (lim start : Int) (A : Option Addr) (n c : Nat) (l : List Sg) (off : Int) (w : World) (hr : RdG w w.heap.size A n l) (ht : Tab w) (hc : n ≤ c) (hn : n ≤ 1000000) (hC : ckL ⟨lim, start, l⟩ = 0) {E : Int} (hE : endT ⟨lim, start, l⟩ = E) (h1 : ¬ off < start) (h2 : ¬ E < off) (h3 : isO off = true) {m : Nat} (hm : trimN off l = m) :
    Calls Tryz.prog 29 #[.agg #[.int .i64 lim, .int .i64 start, .slice A n c], .int .i64 off] w (TO w lim off (l.drop m) 0) := by
  have hn0 : 0 < n := by
    obtain ⟨⟨_, _, g3⟩, _⟩ := ckL_iff.1 hC
    have := hr.len
    have h9 := List.length_pos_iff.2 g3
    simp only at h9
    omega
  obtain ⟨k, hk⟩ : ∃ k, n = k + 1 := ⟨n - 1, by omega⟩
  have hkm : m ≤ k := by
    rw [← hm]
    unfold trimN
    refine Nat.le_trans (las_le _ _) ?_
    rw [List.length_take]
    have := hr.len
    omega
  obtain ⟨b, o, s0, A5, n5, c5, hA, _⟩ := hr.at hn0
  subst hA
  have hba : Below w.heap.size w (((w.alloc (.cells #[.int .i64 lim, .int .i64 start, .slice (some ⟨b, o, none⟩) n c] 24)).alloc (.cells #[.int .i64 off] 3)).alloc (.cells #[.int .i64 0, .int .i64 0, .slice none 0 0] 24)) := bel_alloc (bel_alloc (belA w _) _) _
  have HW_0 := Lib.hid hba
  have HL_0 := Lib.hid (((At0.new w [.int .i64 lim, .int .i64 start, .slice (some ⟨b, o, none⟩) n c] 24).alloc (.cells #[.int .i64 off] 3)).alloc (.cells #[.int .i64 0, .int .i64 0, .slice none 0 0] 24))
  have HB_0 := Lib.hid ((at0_1 w (.cells #[.int .i64 lim, .int .i64 start, .slice (some ⟨b, o, none⟩) n c] 24) [.int .i64 off] 3).alloc (.cells #[.int .i64 0, .int .i64 0, .slice none 0 0] 24))
  have HZ_0 := Lib.hid (at0_2 w (.cells #[.int .i64 lim, .int .i64 start, .slice (some ⟨b, o, none⟩) n c] 24) (.cells #[.int .i64 off] 3) [.int .i64 0, .int .i64 0, .slice none 0 0] 24)
  have HR_0 := Lib.hid (rdgUp hr hba)
  have HT_0 := Lib.hid (ht.bel hba)
  have HE := Lib.hid hE
  have HC := Lib.hid hC
  have HLA := Lib.hid (show las (fun s => decide (endS s ≤ off)) (l.take k) = m by rw [← hm]; unfold trimN; rw [hr.len, hk]; rfl)
  have hw1 : IntKind.i64.wrap ((n : Int) - 1) = (k : Int) := by rw [IntWalk.i64_in _ (by omega)]; omega
  have hw2 : IntKind.i64.wrap (m : Int) = (m : Int) := IntWalk.i64_in _ (by omega)
  have hqk : (0 : Int) ≤ (k : Int) := by omega
  have hkc : k ≤ c := by omega
  have hkn : k ≤ n := by omega
  have hqm : (0 : Int) ≤ (m : Int) := by omega
  have hmn : m ≤ n := by omega
  have hmc : m ≤ c := by omega
  have hcm : ¬ c = m := by omega
  have HKN := Lib.hid hk
  have HQ := Lib.hid (show (m : Int) - 1 = (m : Int) - 1 from rfl)
  have hmx : Tryz.prog.follows .mixedOrders = true := by kernel_rfl
  clear hr ht hE hC hba hm hk
  go_enter Tryz.func29, Tryz.ntmps29
  go_wp2_with (first
    | (go_at_call 49; (with_reducible refine (reachC lim start (some ⟨b, o, none⟩) n c l _ HR_0.out HT_0.out (by omega) HE.out HC.out).mono ?_); rintro e w1 ⟨rfl, hb⟩; have HW_1 := Lib.hid (bel_trans HW_0.out hb); have HL_1 := Lib.hid (HL_0.out.below hb); have HB_1 := Lib.hid (HB_0.out.below hb); have HZ_1 := Lib.hid (HZ_0.out.below hb); have HR_1 := Lib.hid (rdgUp HR_0.out hb); have HT_1 := Lib.hid (HT_0.out.bel hb); obtain ⟨hl1_0, hl1_1, hl1_2⟩ := cel3 HL_1.out; obtain ⟨fhl1_0, fhl1_1, fhl1_2⟩ := frz3 HL_1.out; have hb1_0 := cel1 HB_1.out; obtain ⟨hz1_0, hz1_1, hz1_2⟩ := cel3 HZ_1.out; obtain ⟨fhz1_0, fhz1_1, fhz1_2⟩ := frz3 HZ_1.out; clear hb)
    | (go_at_call 66; (with_reducible refine (lastC 72 #[.pointer (some ⟨w.heap.size + 1, 0, none⟩)] (fun ys w => by go_simp) (fun s => decide (endS s ≤ off)) (some ⟨b, o, none⟩) k _ (l.take k) w1 (RdG.take HR_1.out (by omega)) (by omega) (fun s A1 n1 c1 w1 hb hr9 hc9 hn9 hI9 => endAt_any (w.heap.size + 1) off _ s A1 n1 c1 w1 (HB_1.out.cell 0) hb hr9 hc9 hn9 hI9 HT_1.out) HLA.out).mono ?_); rintro e w2 ⟨rfl, hb⟩; have HW_2 := Lib.hid (bel_trans HW_1.out hb); have HL_2 := Lib.hid (HL_1.out.below hb); have HB_2 := Lib.hid (HB_1.out.below hb); have HZ_2 := Lib.hid (HZ_1.out.below hb); have HR_2 := Lib.hid (rdgUp HR_1.out hb); have HT_2 := Lib.hid (HT_1.out.bel hb); obtain ⟨hl2_0, hl2_1, hl2_2⟩ := cel3 HL_2.out; obtain ⟨fhl2_0, fhl2_1, fhl2_2⟩ := frz3 HL_2.out; have hb2_0 := cel1 HB_2.out; obtain ⟨hz2_0, hz2_1, hz2_2⟩ := cel3 HZ_2.out; obtain ⟨fhz2_0, fhz2_1, fhz2_2⟩ := frz3 HZ_2.out; have lL := HL_2.out.lt; have lB := HB_2.out.lt; have lZ := HZ_2.out.lt; clear hb)
    | (go_at_call 71; (with_reducible refine (isOff_any off _).mono ?_); rintro e w9 ⟨rfl, rfl⟩; ))
  have HLM := Lib.hid (show w.heap.size ≤ w2.heap.size ∧ w.heap.size < w2.heap.size ∧ w.heap.size + 1 + 1 < w2.heap.size from ⟨Nat.le_of_lt lL, lL, lZ⟩)
  clear lL lB lZ
  have hbd := (Below.refl w2.heap.size w2).drew
  have HW_R8 := Lib.hid (bel_trans HW_2.out hbd)
  have HL_R8 := Lib.hid (HL_2.out.below hbd)
  have HB_R8 := Lib.hid (HB_2.out.below hbd)
  have HZ_R8 := Lib.hid (HZ_2.out.below hbd)
  have HR_R8 := Lib.hid (rdgUp HR_2.out hbd)
  have HT_R8 := Lib.hid (HT_2.out.bel hbd)
  have HSR8 := Lib.hid (show (fun W9 : World => W9.cell? ⟨(w.heap.size + 1), 0, none⟩ = some (.int .i64 off) ∧ W9.cell? ⟨w.heap.size, 2, none⟩ = some (.slice (some ⟨b, o, none⟩) n c)) w2.drew from ⟨HB_R8.out.cell 0, HL_R8.out.cell 2⟩)
  clear hbd
  refine region_let (fun W9 : World => W9.cell? ⟨(w.heap.size + 1), 0, none⟩ = some (.int .i64 off) ∧ W9.cell? ⟨w.heap.size, 2, none⟩ = some (.slice (some ⟨b, o, none⟩) n c)) 10 11 hmx rfl fun ops Q HOPS HQ => ?_
  refine yq 0 HOPS HSR8.out ?_; simp only [ls0, ls1]; refine yq 1 HOPS HSR8.out ?_; simp only [ls0, ls1]; refine yq 2 HOPS HSR8.out ?_; simp only [ls0, ls1]; refine yq 3 HOPS HSR8.out ?_; simp only [ls0, ls1]; refine yq 4 HOPS HSR8.out ?_; simp only [ls0, ls1]; refine yq 5 HOPS HSR8.out ?_; simp only [ls0, ls1]; refine yq 7 HOPS HSR8.out ?_; simp only [ls0, ls1]
  refine xc 6 HOPS ?_
  go_simp
  with_reducible refine (copies_is (some ⟨b, o + m * 2, none⟩) (n - m) _ (l.drop m) _ (RdG.drop HR_R8.out hmn (by intro _; simp [Addr.add])) (by omega)).mono ?_
  rintro e w6 ⟨A7, c7, rfl, ho, hb⟩
  have HW_6 := Lib.hid (bel_trans HW_R8.out hb)
  have HL_6 := Lib.hid (HL_R8.out.below hb)
  have HB_6 := Lib.hid (HB_R8.out.below hb)
  have HZ_6 := Lib.hid (HZ_R8.out.below hb)
  have HR_6 := Lib.hid (rdgUp HR_R8.out hb)
  have HT_6 := Lib.hid (HT_R8.out.bel hb)
  have HOC := Lib.hid ho
  clear ho
  obtain ⟨hls_0, hls_1, hls_2⟩ := cel3 HL_6.out
  obtain ⟨fhls_0, fhls_1, fhls_2⟩ := frz3 HL_6.out
  have HSR8w6 := Lib.hid (show (fun W9 : World => W9.cell? ⟨(w.heap.size + 1), 0, none⟩ = some (.int .i64 off) ∧ W9.cell? ⟨w.heap.size, 2, none⟩ = some (.slice (some ⟨b, o, none⟩) n c)) w6 from ⟨HB_6.out.cell 0, HL_6.out.cell 2⟩)
  clear hb
  refine ⟨HSR8w6.out, ?_⟩
  refine xc 8 HOPS ?_
  go_simp
  have hw8 := Lib.hid (show Below w.heap.size w (w6.setCell ⟨w.heap.size, 1, none⟩ (.int .i64 off)) from HW_6.out.setCell (Nat.le_refl _) _)
  have HL8 := Lib.hid (at0_put HL_6.out 1 (.int .i64 off))
  have HB8 := Lib.hid (At0.set HB_6.out (p := ⟨w.heap.size, 1, none⟩) (show w.heap.size ≠ w.heap.size + 1 by omega) (.int .i64 off))
  have HZ8 := Lib.hid (At0.set HZ_6.out (p := ⟨w.heap.size, 1, none⟩) (show w.heap.size ≠ w.heap.size + 1 + 1 by omega) (.int .i64 off))
  have HO8 := Lib.hid ((HOC.out.more (P' := fun b => w2.heap.size ≤ b) (B' := w2.heap.size) (by simp) (fun _ h => by simpa using h)).off9 (g := w.heap.size) HLM.out.2.1 1 (.int .i64 off))
  clear hls_0 hls_1 hls_2 fhls_0 fhls_1 fhls_2
  have HSR8_8 := Lib.hid (show (fun W9 : World => W9.cell? ⟨(w.heap.size + 1), 0, none⟩ = some (.int .i64 off) ∧ W9.cell? ⟨w.heap.size, 2, none⟩ = some (.slice (some ⟨b, o, none⟩) n c)) (w6.setCell ⟨w.heap.size, 1, none⟩ (.int .i64 off)) from ⟨HB8.out.cell 0, HL8.out.cell 2⟩)
  refine ⟨by (repeat' apply And.intro) <;> first | trivial | exact HB_6.out.cell 0 | exact HL_6.out.cell 2, ?_⟩
  refine yq 9 HOPS HSR8_8.out ?_; simp only [ls0, ls1]
  refine xl 10 HOPS ?_
  simp only [List.set_cons_zero, List.set_cons_succ] at HL8
  obtain ⟨hls_0, hls_1, hls_2⟩ := cel3 HL8.out
  obtain ⟨fhls_0, fhls_1, fhls_2⟩ := frz3 HL8.out
  generalize w6.setCell ⟨w.heap.size, 1, none⟩ (.int .i64 off) = W7 at *
  go_simp
  clear hls_0 hls_1 hls_2 fhls_0 fhls_1 fhls_2
  refine stepE HOPS (by kernel_rfl) (HQ.out _ _ ?_)
  clear HQ HOPS
  clear Q ops
  have HL9 := Lib.hid (at0_put HL8.out 2 (.slice A7 (n - m) c7))
  have HZ9 := Lib.hid (At0.set HZ8.out (p := ⟨w.heap.size, 2, none⟩) (show w.heap.size ≠ w.heap.size + 1 + 1 by omega) (.slice A7 (n - m) c7))
  have HW9 := Lib.hid (show Below w.heap.size w (W7.setCell ⟨w.heap.size, 2, none⟩ (.slice A7 (n - m) c7)) from hw8.out.setCell (Nat.le_refl _) _)
  have HO9 := Lib.hid (OwnG.off9 HO8.out (g := w.heap.size) HLM.out.2.1 2 (.slice A7 (n - m) c7))
  simp only [List.set_cons_zero, List.set_cons_succ] at HL9
  generalize W7.setCell ⟨w.heap.size, 2, none⟩ (.slice A7 (n - m) c7) = W9 at *
  have l9_0 := HL9.out.cell 0
  have l9_1 := HL9.out.cell 1
  have l9_2 := HL9.out.cell 2
  have z9_0 := HZ9.out.cell 0
  have g9_0 := HZ9.out.frozen 0
  have z9_1 := HZ9.out.cell 1
  have g9_1 := HZ9.out.frozen 1
  have z9_2 := HZ9.out.cell 2
  have g9_2 := HZ9.out.frozen 2
  simp only [List.getElem?_cons_zero, List.getElem?_cons_succ] at l9_0 l9_1 l9_2 z9_0 z9_1 z9_2
  go_wp2
  have HO10 := Lib.hid (OwnG.off3 HO9.out (g := w.heap.size + 1 + 1) HLM.out.2.2 (.int .i64 lim) (.int .i64 off) (.slice A7 (n - m) c7))
  exact bodyPost_ret (v := .tuple #[.agg #[.int .i64 lim, .int .i64 off, .slice A7 (n - m) c7], .int .i64 0]) (by simp [results, Tryz.results29, go_sem, z9_0, z9_1, z9_2]) rfl ⟨A7, (n - m), c7, rfl, HO10.out.more HLM.out.1 (fun b hb => Nat.le_trans HLM.out.1 hb), bel3 HW9.out (by omega) _ _ _⟩
theorem Trim_is (lim start : Int) (A : Option Addr) (n c : Nat) (l : List Sg) (off : Int) (w : World) (hr : RdG w w.heap.size A n l) (ht : Tab w) (hc : n ≤ c) (hn : n ≤ 1000000) {xl xs e9 : Int} {x : List Sg} (h : trimL ⟨lim, start, l⟩ off = (⟨xl, xs, x⟩, e9)) :
    Calls Tryz.prog 29 #[.agg #[.int .i64 lim, .int .i64 start, .slice A n c], .int .i64 off] w (TO w xl xs x e9) := by
  unfold trimL at h
  by_cases h1 : ckL ⟨lim, start, l⟩ = 0
  · have hE : endT ⟨lim, start, l⟩ = endL ⟨lim, start, l⟩ := by unfold endT; rw [if_pos h1]
    rw [if_neg (by omega)] at h
    simp only at h
    by_cases h2 : (off < start ∨ endL ⟨lim, start, l⟩ < off) ∨ off < 0 ∨ 1099511627776 < off
    · rw [if_pos h2] at h
      injection h with a1 a2
      injection a1 with a3 a4 a5
      subst a3; subst a4; subst a5; subst a2
      refine Trim_bad lim start A n c l off w hr ht hc hn hE h1 ?_
      by_cases h3 : off < start
      · exact .inr (.inl ⟨rfl, h3, rfl⟩)
      · by_cases h4 : endL ⟨lim, start, l⟩ < off
        · exact .inr (.inr (.inl ⟨rfl, h3, h4, rfl⟩))
        · refine .inr (.inr (.inr ⟨rfl, h3, h4, ?_, rfl⟩))
          unfold isO
          rw [decide_eq_false_iff_not]
          omega
    · rw [if_neg h2, trim_is (ckL_iff.1 h1).2.1 off] at h
      injection h with a1 a2
      injection a1 with a3 a4 a5
      subst a3; subst a4; subst a5; subst a2
      exact Trim_ok lim start A n c l off w hr ht hc hn h1 hE (by omega) (by omega) (by unfold isO; rw [decide_eq_true_iff]; omega) rfl
  · rw [if_pos h1] at h
    injection h with a1 a2
    injection a1 with a3 a4 a5
    subst a3; subst a4; subst a5
    exact Trim_bad lim start A n c l off w hr ht hc hn rfl rfl (.inl ⟨h1, a2.symm⟩)
end Go.Proofs.YtejcjmiofidedaaGreatDoor.Chn
