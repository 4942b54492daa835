/- Joined: ChnR, ChnV. -/
import Derived.Test.YtejcjmiofidedaaGreatDoorJChnF
import Derived.Test.YtejcjmiofidedaaGreatDoorJSegO
import Derived.Test.YtejcjmiofidedaaGreatDoorJChnM
import Derived.Test.YtejcjmiofidedaaGreatDoorJSegW
/- The contract of the landed chain's Replace. -/
namespace Go.Proofs.YtejcjmiofidedaaGreatDoor.Chn
open Go.RowKit Oct Rec Crc Bat Lay Seg RowF InR

def tb_Replace6 : List (Nat × Nat) := [(0, 65535), (1, 65534), (0, 65535), (6, 65529), (8, 65527), (16, 65519), (0, 65535), (0, 65535), (128, 65407), (352, 65183), (512, 65023), (1024, 64511), (1024, 64511), (0, 65535), (12287, 55295), (32767, 61439)]
def tb_Replace9 : List (Nat × Nat) := [(0, 2047), (1, 2046), (0, 2047), (4, 2043), (0, 2047), (16, 2031), (40, 2007), (64, 1983), (128, 1919), (258, 1789), (514, 1535)]
set_option maxRecDepth 100000 in
set_option maxHeartbeats 16000000 in
theorem Replace_bad (lim start : Int) (A : Option Addr) (n c : Nat) (l : List Sg) (j : Int) (A1 : Option Addr) (n1 c1 : Nat) (bs : List Bt) (w : World) (hr : RdG w w.heap.size A n l) (ht : Tab w) (_hc : n ≤ c) (hn : n ≤ 1000000) (hx : RdT w w.heap.size A1 n1 bs) (_hn1 : n1 ≤ 1099511627776) {C e9 : Int} (hC : ckL ⟨lim, start, l⟩ = C) (hways : (C ≠ 0 ∧ e9 = C) ∨ (C = 0 ∧ j < 0 ∧ e9 = 90) ∨ (C = 0 ∧ ¬ j < 0 ∧ (n : Int) - 1 ≤ j ∧ e9 = 90)) :
    Calls Tryz.prog 31 #[.agg #[.int .i64 lim, .int .i64 start, .slice A n c], .int .i64 j, .slice A1 n1 c1] w (TO w 0 0 [] e9) := by
  have hba : Below w.heap.size w ((w.alloc (.cells #[.int .i64 lim, .int .i64 start, .slice A n c] 24)).alloc (.cells #[.int .i64 0, .int .i64 0, .slice none 0 0] 24)) := bel_alloc (belA w _) _
  have HW_0 := Lib.hid hba
  have HL_0 := Lib.hid ((At0.new w [.int .i64 lim, .int .i64 start, .slice A n c] 24).alloc (.cells #[.int .i64 0, .int .i64 0, .slice none 0 0] 24))
  have HZ_0 := Lib.hid (at0_1 w (.cells #[.int .i64 lim, .int .i64 start, .slice A n c] 24) [.int .i64 0, .int .i64 0, .slice none 0 0] 24)
  have HR_0 := Lib.hid (rdgUp hr hba)
  have HX_0 := Lib.hid (rdtUp hx hba)
  have HT_0 := Lib.hid (ht.bel hba)
  have HC := Lib.hid hC
  have hw1 : IntKind.i64.wrap ((n : Int) - 1) = (n : Int) - 1 := IntWalk.i64_in _ (by omega)
  clear hr ht hx hC hba
  rcases hways with ⟨h1, h9⟩ | ⟨rfl, h1, h9⟩ | ⟨rfl, h1, h2, h9⟩
  all_goals (try have hcF := beqF h1)
  all_goals (try have hcN := bne_iff_ne.2 h1)
  all_goals have H9 := Lib.hid h9
  all_goals clear h9
  all_goals go_enter Tryz.func31, Tryz.ntmps31
  all_goals go_wp2_with (first
    | (go_at_call 16; (with_reducible refine (Chn.Check_is lim start A n c l _ HR_0.out HT_0.out (by omega) HC.out).mono ?_); rintro e w1 ⟨rfl, hb⟩; have HW_1 := Lib.hid (bel_trans HW_0.out hb); have HL_1 := Lib.hid (HL_0.out.below hb); have HZ_1 := Lib.hid (HZ_0.out.below hb); have HR_1 := Lib.hid (rdgUp HR_0.out hb); have HX_1 := Lib.hid (rdtUp HX_0.out hb); have HT_1 := Lib.hid (HT_0.out.bel hb); obtain ⟨hl1_0, hl1_1, hl1_2⟩ := cel3 HL_1.out; obtain ⟨hz1_0, hz1_1, hz1_2⟩ := cel3 HZ_1.out; obtain ⟨fhz1_0, fhz1_1, fhz1_2⟩ := frz3 HZ_1.out; clear hb))
  all_goals exact bodyPost_ret (v := .tuple #[.agg #[.int .i64 0, .int .i64 0, .slice none 0 0], .int .i64 e9]) (by simp [results, Tryz.results31, go_sem, H9.out, hz1_0, hz1_1, hz1_2]) rfl ⟨none, 0, 0, rfl, OwnG.nil, bel3 HW_1.out (by omega) _ _ _⟩
set_option maxRecDepth 100000 in
set_option maxHeartbeats 16000000 in
theorem Replace_ok (lim start : Int) (A : Option Addr) (n c : Nat) (l : List Sg) (A1 : Option Addr) (n1 c1 : Nat) (bs : List Bt) (w : World) (hr : RdG w w.heap.size A n l) (ht : Tab w) (_hc : n ≤ c) (hn : n ≤ 1000000) (hx : RdT w w.heap.size A1 n1 bs) (hn1 : n1 ≤ 1099511627776) {k : Nat} (hC : ckL ⟨lim, start, l⟩ = 0) (hkn : k + 1 < n) {s0 t0 : Sg} (hs0 : l[k]? = some s0) (ht0 : l[k + 1]? = some t0) {xb : Int} {xs : List UInt8} {xe E : Int} (hOF : ofS s0.base bs lim = (⟨xb, xs⟩, xe)) (hE : endS ⟨xb, xs⟩ = E)
    {xl xt e9 : Int} {x : List Sg} (hways : (xe ≠ 0 ∧ x = [] ∧ xl = 0 ∧ xt = 0 ∧ e9 = xe) ∨ (xe = 0 ∧ t0.base < E ∧ x = [] ∧ xl = 0 ∧ xt = 0 ∧ e9 = 71) ∨ (xe = 0 ∧ ¬ t0.base < E ∧ x = l.set k ⟨xb, xs⟩ ∧ lim = xl ∧ start = xt ∧ e9 = 0)) :
    Calls Tryz.prog 31 #[.agg #[.int .i64 lim, .int .i64 start, .slice A n c], .int .i64 (k : Int), .slice A1 n1 c1] w (TO w xl xt x e9) := by
  obtain ⟨b, o, ⟨sb, ss⟩, A5, n5, c5, hA, hbl, hxk, hc5, hn5, hrd, hIs, c0, c1'⟩ := hr.at (k := k) (by omega)
  obtain rfl : s0 = ⟨sb, ss⟩ := Option.some.inj (hs0.symm.trans hxk)
  obtain ⟨b', o', ⟨tb, ts⟩, A8, n8, c8, hA', hbl', hxk', hc8, hn8, hrd', hIt, d0, d1⟩ := hr.at (k := k + 1) hkn
  obtain rfl : t0 = ⟨tb, ts⟩ := Option.some.inj (ht0.symm.trans hxk')
  subst hA
  obtain ⟨rfl, rfl⟩ : b = b' ∧ o = o' := by injection hA' with h; injection h with h1 h2; exact ⟨h1, h2⟩
  simp only at hIs c0 hIt d0 hOF hways
  have hba : Below w.heap.size w ((w.alloc (.cells #[.int .i64 lim, .int .i64 start, .slice (some ⟨b, o, none⟩) n c] 24)).alloc (.cells #[.int .i64 0, .int .i64 0, .slice none 0 0] 24)) := bel_alloc (belA w _) _
  have HW_0 := Lib.hid hba
  have HL_0 := Lib.hid ((At0.new w [.int .i64 lim, .int .i64 start, .slice (some ⟨b, o, none⟩) n c] 24).alloc (.cells #[.int .i64 0, .int .i64 0, .slice none 0 0] 24))
  have HZ_0 := Lib.hid (at0_1 w (.cells #[.int .i64 lim, .int .i64 start, .slice (some ⟨b, o, none⟩) n c] 24) [.int .i64 0, .int .i64 0, .slice none 0 0] 24)
  have HR_0 := Lib.hid (rdgUp hr hba)
  have HX_0 := Lib.hid (rdtUp hx hba)
  have HT_0 := Lib.hid (ht.bel hba)
  have HS_0 := Lib.hid ((AtO.two hbl c0 c1').below hba)
  have HS2_0 := Lib.hid ((AtO.two hbl d0 d1).below hba)
  have HC := Lib.hid hC
  have HOF := Lib.hid hOF
  have HE := Lib.hid hE
  have hw1 : IntKind.i64.wrap ((n : Int) - 1) = (n : Int) - 1 := IntWalk.i64_in _ (by omega)
  have hw2 : IntKind.i64.wrap ((k : Int) + 1) = (k : Int) + 1 := IntWalk.i64_in _ (by omega)
  have hql : (k : Int) < (n : Int) := by omega
  have hqk : (0 : Int) ≤ (k : Int) := by omega
  have hql2 : (k : Int) + 1 < (n : Int) := by omega
  have hqk2 : (0 : Int) ≤ (k : Int) + 1 := by omega
  have hqn : ¬ (n : Int) - 1 ≤ (k : Int) := by omega
  have hqz : ¬ (k : Int) < 0 := by omega
  have hmx : Tryz.prog.follows .mixedOrders = true := by kernel_rfl
  clear hr ht hx hC hba hs0 ht0 hOF hE hA' hxk hxk' hrd hrd' c0 c1' d0 d1 hbl hbl'
  go_enter Tryz.func31, Tryz.ntmps31
  go_wp2_with (first
    | (go_at_call 16; (with_reducible refine (Chn.Check_is lim start (some ⟨b, o, none⟩) n c l _ HR_0.out HT_0.out (by omega) HC.out).mono ?_); rintro e w1 ⟨rfl, hb⟩; have HW_1 := Lib.hid (bel_trans HW_0.out hb); have HL_1 := Lib.hid (HL_0.out.below hb); have HZ_1 := Lib.hid (HZ_0.out.below hb); have HR_1 := Lib.hid (rdgUp HR_0.out hb); have HX_1 := Lib.hid (rdtUp HX_0.out hb); have HT_1 := Lib.hid (HT_0.out.bel hb); have HS_1 := Lib.hid (HS_0.out.below hb); have HS2_1 := Lib.hid (HS2_0.out.below hb); have lL := HL_1.out.lt; have lZ := HZ_1.out.lt; obtain ⟨hl1_0, hl1_1, hl1_2⟩ := cel3 HL_1.out; obtain ⟨hz1_0, hz1_1, hz1_2⟩ := cel3 HZ_1.out; obtain ⟨fhz1_0, fhz1_1, fhz1_2⟩ := frz3 HZ_1.out; clear hb))
  have HLM := Lib.hid (show w.heap.size ≤ w1.heap.size ∧ w.heap.size < w1.heap.size ∧ w.heap.size + 1 < w1.heap.size from ⟨Nat.le_of_lt lL, lL, lZ⟩)
  clear lL lZ
  go_cut [9, 10] (fun s9 s10 wx => ∃ P A6 n6 c6, s9 = .pointer (some ⟨P, 0, none⟩) ∧ s10 = .int .i64 xe ∧ At0 wx P [.int .i64 xb, .slice A6 n6 c6] 59 ∧ OwnB wx 5 w1.heap.size (.slice A6 n6 c6) n6 xs ∧ Below w1.heap.size w1 wx)
  case first =>
    have hbd := (Below.refl w1.heap.size w1).drew
    have HW_R6 := Lib.hid (bel_trans HW_1.out hbd)
    have HL_R6 := Lib.hid (HL_1.out.below hbd)
    have HZ_R6 := Lib.hid (HZ_1.out.below hbd)
    have HR_R6 := Lib.hid (rdgUp HR_1.out hbd)
    have HX_R6 := Lib.hid (rdtUp HX_1.out hbd)
    have HT_R6 := Lib.hid (HT_1.out.bel hbd)
    have HS_R6 := Lib.hid (HS_1.out.below hbd)
    have HS2_R6 := Lib.hid (HS2_1.out.below hbd)
    have HSR6 := Lib.hid (show (fun W9 : World => W9.cell? ⟨w.heap.size, 0, none⟩ = some (.int .i64 lim) ∧ W9.cell? ⟨w.heap.size, 1, none⟩ = some (.int .i64 start) ∧ W9.cell? ⟨w.heap.size, 2, none⟩ = some (.slice (some ⟨b, o, none⟩) n c) ∧ W9.cell? ⟨b, o + k * 2, none⟩ = some (.int .i64 sb) ∧ W9.cell? ⟨b, o + k * 2 + 1, none⟩ = some (.slice A5 n5 c5)) w1.drew from ⟨HL_R6.out.cell 0, HL_R6.out.cell 1, HL_R6.out.cell 2, HS_R6.out.2 0 _ rfl, HS_R6.out.2 1 _ rfl⟩)
    clear hbd
    refine region_let (fun W9 : World => W9.cell? ⟨w.heap.size, 0, none⟩ = some (.int .i64 lim) ∧ W9.cell? ⟨w.heap.size, 1, none⟩ = some (.int .i64 start) ∧ W9.cell? ⟨w.heap.size, 2, none⟩ = some (.slice (some ⟨b, o, none⟩) n c) ∧ W9.cell? ⟨b, o + k * 2, none⟩ = some (.int .i64 sb) ∧ W9.cell? ⟨b, o + k * 2 + 1, none⟩ = some (.slice A5 n5 c5)) 99 16 hmx rfl fun ops Q HOPS HQ => ?_
    have HREG := reg_of HOPS tb_Replace6 rfl (by kernel_rfl) (by kernel_rfl) (by decide)
    refine xq 0 HOPS HREG HSR6.out ?_; simp only [ls0, ls1]; refine xq 1 HOPS HREG HSR6.out ?_; simp only [ls0, ls1]; refine xq 2 HOPS HREG HSR6.out ?_; simp only [ls0, ls1]; refine xq 3 HOPS HREG HSR6.out ?_; simp only [ls0, ls1]; refine xq 4 HOPS HREG HSR6.out ?_; simp only [ls0, ls1]; refine xq 5 HOPS HREG HSR6.out ?_; simp only [ls0, ls1]; refine xq 6 HOPS HREG HSR6.out ?_; simp only [ls0, ls1]; refine xq 7 HOPS HREG HSR6.out ?_; simp only [ls0, ls1]; refine xq 8 HOPS HREG HSR6.out ?_; simp only [ls0, ls1]
    refine xc2 9 13 HOPS ?_ ?_
    · go_simp
      with_reducible refine (Seg.Of_is HOF.out HX_R6.out hn1 hIs HT_R6.out).mono ?_
      rintro e w5 ⟨A6, n6, c6, rfl, ho, hb⟩
      have HW_59 := Lib.hid (bel_trans HW_R6.out hb)
      have HL_59 := Lib.hid (HL_R6.out.below hb)
      have HZ_59 := Lib.hid (HZ_R6.out.below hb)
      have HR_59 := Lib.hid (rdgUp HR_R6.out hb)
      have HX_59 := Lib.hid (rdtUp HX_R6.out hb)
      have HT_59 := Lib.hid (HT_R6.out.bel hb)
      have HS_59 := Lib.hid (HS_R6.out.below hb)
      have HS2_59 := Lib.hid (HS2_R6.out.below hb)
      have HY := Lib.hid ho
      have HBW := Lib.hid hb
      clear ho
      have HSR6_9_9 := Lib.hid (show (fun W9 : World => W9.cell? ⟨w.heap.size, 0, none⟩ = some (.int .i64 lim) ∧ W9.cell? ⟨w.heap.size, 1, none⟩ = some (.int .i64 start) ∧ W9.cell? ⟨w.heap.size, 2, none⟩ = some (.slice (some ⟨b, o, none⟩) n c) ∧ W9.cell? ⟨b, o + k * 2, none⟩ = some (.int .i64 sb) ∧ W9.cell? ⟨b, o + k * 2 + 1, none⟩ = some (.slice A5 n5 c5)) w5 from ⟨HL_59.out.cell 0, HL_59.out.cell 1, HL_59.out.cell 2, HS_59.out.2 0 _ rfl, HS_59.out.2 1 _ rfl⟩)
      clear hb
      refine ⟨HSR6_9_9.out, ?_⟩
      refine xq 10 HOPS HREG HSR6_9_9.out ?_; simp only [ls0, ls1]; refine xq 11 HOPS HREG HSR6_9_9.out ?_; simp only [ls0, ls1]; refine xq 12 HOPS HREG HSR6_9_9.out ?_; simp only [ls0, ls1]
      refine xc 13 HOPS ?_
      go_simp
      have hb := belA w5 (.cells #[.int .i64 0, .slice none 0 0] 59)
      have HW_y := Lib.hid (bel_trans HW_59.out hb)
      have HL_y := Lib.hid (HL_59.out.below hb)
      have HZ_y := Lib.hid (HZ_59.out.below hb)
      have HR_y := Lib.hid (rdgUp HR_59.out hb)
      have HX_y := Lib.hid (rdtUp HX_59.out hb)
      have HT_y := Lib.hid (HT_59.out.bel hb)
      have HS_y := Lib.hid (HS_59.out.below hb)
      have HS2_y := Lib.hid (HS2_59.out.below hb)
      have HSR6_9_13 := Lib.hid (show (fun W9 : World => W9.cell? ⟨w.heap.size, 0, none⟩ = some (.int .i64 lim) ∧ W9.cell? ⟨w.heap.size, 1, none⟩ = some (.int .i64 start) ∧ W9.cell? ⟨w.heap.size, 2, none⟩ = some (.slice (some ⟨b, o, none⟩) n c) ∧ W9.cell? ⟨b, o + k * 2, none⟩ = some (.int .i64 sb) ∧ W9.cell? ⟨b, o + k * 2 + 1, none⟩ = some (.slice A5 n5 c5)) (w5.alloc (.cells #[.int .i64 0, .slice none 0 0] 59)) from ⟨HL_y.out.cell 0, HL_y.out.cell 1, HL_y.out.cell 2, HS_y.out.2 0 _ rfl, HS_y.out.2 1 _ rfl⟩)
      clear hb
      refine ⟨by exact HSR6_9_13.out, ?_⟩
      refine xc 14 HOPS ?_
      go_simp
      have hb := belA w5 (.cells #[.int .i64 xb, .slice A6 n6 c6] 59)
      have HW_x := Lib.hid (bel_trans HW_59.out hb)
      have HL_x := Lib.hid (HL_59.out.below hb)
      have HZ_x := Lib.hid (HZ_59.out.below hb)
      have HR_x := Lib.hid (rdgUp HR_59.out hb)
      have HX_x := Lib.hid (rdtUp HX_59.out hb)
      have HT_x := Lib.hid (HT_59.out.bel hb)
      have HS_x := Lib.hid (HS_59.out.below hb)
      have HS2_x := Lib.hid (HS2_59.out.below hb)
      have HSR6_9_14 := Lib.hid (show (fun W9 : World => W9.cell? ⟨w.heap.size, 0, none⟩ = some (.int .i64 lim) ∧ W9.cell? ⟨w.heap.size, 1, none⟩ = some (.int .i64 start) ∧ W9.cell? ⟨w.heap.size, 2, none⟩ = some (.slice (some ⟨b, o, none⟩) n c) ∧ W9.cell? ⟨b, o + k * 2, none⟩ = some (.int .i64 sb) ∧ W9.cell? ⟨b, o + k * 2 + 1, none⟩ = some (.slice A5 n5 c5)) (w5.alloc (.cells #[.int .i64 xb, .slice A6 n6 c6] 59)) from ⟨HL_x.out.cell 0, HL_x.out.cell 1, HL_x.out.cell 2, HS_x.out.2 0 _ rfl, HS_x.out.2 1 _ rfl⟩)
      clear hb
      refine ⟨HSR6_9_14.out, ?_⟩
      refine xq 15 HOPS HREG HSR6_9_14.out ?_; simp only [ls0, ls1]
      refine stepE HOPS (by kernel_rfl) (HQ.out _ _ ?_)
      clear HQ HREG HOPS
      clear Q ops
      go_wp2
      go_meet
      exact ⟨w5.heap.size, A6, n6, c6, rfl, rfl, At0.new w5 [.int .i64 xb, .slice A6 n6 c6] _, World.ownsRow.alloc HY.out _, bel_alloc (bel_trans (Below.refl w1.heap.size w1).drew HBW.out) _⟩
    · go_simp
      have hb := (show Below w1.heap.size w1 (w1.alloc (.cells #[.int .i64 0, .slice none 0 0] 59)).drew from (belA _ _).drew)
      have HW_z := Lib.hid (bel_trans HW_1.out hb)
      have HL_z := Lib.hid (HL_1.out.below hb)
      have HZ_z := Lib.hid (HZ_1.out.below hb)
      have HR_z := Lib.hid (rdgUp HR_1.out hb)
      have HX_z := Lib.hid (rdtUp HX_1.out hb)
      have HT_z := Lib.hid (HT_1.out.bel hb)
      have HS_z := Lib.hid (HS_1.out.below hb)
      have HS2_z := Lib.hid (HS2_1.out.below hb)
      have HP_z := Lib.hid (show At0 (w1.alloc (.cells #[.int .i64 0, .slice none 0 0] 59)).drew w1.heap.size [.int .i64 0, .slice none 0 0] 59 from At0.new w1 _ _)
      have HSR6_13_13 := Lib.hid (show (fun W9 : World => W9.cell? ⟨w.heap.size, 0, none⟩ = some (.int .i64 lim) ∧ W9.cell? ⟨w.heap.size, 1, none⟩ = some (.int .i64 start) ∧ W9.cell? ⟨w.heap.size, 2, none⟩ = some (.slice (some ⟨b, o, none⟩) n c) ∧ W9.cell? ⟨b, o + k * 2, none⟩ = some (.int .i64 sb) ∧ W9.cell? ⟨b, o + k * 2 + 1, none⟩ = some (.slice A5 n5 c5)) (w1.alloc (.cells #[.int .i64 0, .slice none 0 0] 59)).drew from ⟨HL_z.out.cell 0, HL_z.out.cell 1, HL_z.out.cell 2, HS_z.out.2 0 _ rfl, HS_z.out.2 1 _ rfl⟩)
      clear hb
      refine ⟨by exact HSR6_13_13.out, ?_⟩
      refine xc 9 HOPS ?_
      go_simp
      with_reducible refine (Seg.Of_is HOF.out HX_z.out hn1 hIs HT_z.out).mono ?_
      rintro e w5 ⟨A6, n6, c6, rfl, ho, hb⟩
      have HW_513 := Lib.hid (bel_trans HW_z.out hb)
      have HL_513 := Lib.hid (HL_z.out.below hb)
      have HZ_513 := Lib.hid (HZ_z.out.below hb)
      have HR_513 := Lib.hid (rdgUp HR_z.out hb)
      have HX_513 := Lib.hid (rdtUp HX_z.out hb)
      have HT_513 := Lib.hid (HT_z.out.bel hb)
      have HS_513 := Lib.hid (HS_z.out.below hb)
      have HS2_513 := Lib.hid (HS2_z.out.below hb)
      have HP_513 := Lib.hid (HP_z.out.below hb)
      have HY := Lib.hid ho
      have HBW := Lib.hid hb
      clear ho
      have hltw5 := hb.size
      have HSR6_13_9 := Lib.hid (show (fun W9 : World => W9.cell? ⟨w.heap.size, 0, none⟩ = some (.int .i64 lim) ∧ W9.cell? ⟨w.heap.size, 1, none⟩ = some (.int .i64 start) ∧ W9.cell? ⟨w.heap.size, 2, none⟩ = some (.slice (some ⟨b, o, none⟩) n c) ∧ W9.cell? ⟨b, o + k * 2, none⟩ = some (.int .i64 sb) ∧ W9.cell? ⟨b, o + k * 2 + 1, none⟩ = some (.slice A5 n5 c5)) w5 from ⟨HL_513.out.cell 0, HL_513.out.cell 1, HL_513.out.cell 2, HS_513.out.2 0 _ rfl, HS_513.out.2 1 _ rfl⟩)
      clear hb
      refine ⟨HSR6_13_9.out, ?_⟩
      refine xq 10 HOPS HREG HSR6_13_9.out ?_; simp only [ls0, ls1]; refine xq 11 HOPS HREG HSR6_13_9.out ?_; simp only [ls0, ls1]; refine xq 12 HOPS HREG HSR6_13_9.out ?_; simp only [ls0, ls1]
      refine xc 14 HOPS ?_
      have hp := HP_513.out
      have hpl := hp.lt
      have hp0 := hp.cell 0
      have hp1 := hp.cell 1
      have hpf0 := hp.frozen 0
      have hpf1 := hp.frozen 1
      simp only [List.getElem?_cons_zero, List.getElem?_cons_succ] at hp0 hp1
      go_simp
      have hblHL := HL_1.out.lt
      have hblHS := HS_1.out.1
      obtain ⟨hlB_0, hlB_1, hlB_2⟩ := cel3 HL_513.out
      obtain ⟨hsB_0, hsB_1⟩ := del2 HS_513.out
      have HSR6_B14 := Lib.hid (show (fun W9 : World => W9.cell? ⟨w.heap.size, 0, none⟩ = some (.int .i64 lim) ∧ W9.cell? ⟨w.heap.size, 1, none⟩ = some (.int .i64 start) ∧ W9.cell? ⟨w.heap.size, 2, none⟩ = some (.slice (some ⟨b, o, none⟩) n c) ∧ W9.cell? ⟨b, o + k * 2, none⟩ = some (.int .i64 sb) ∧ W9.cell? ⟨b, o + k * 2 + 1, none⟩ = some (.slice A5 n5 c5)) ((w5.setCell ⟨w1.heap.size, 0, none⟩ (.int .i64 xb)).setCell ⟨w1.heap.size, 1, none⟩ (.slice A6 n6 c6)) from ⟨(cell_off (by simp only; omega)).trans ((cell_off (by simp only; omega)).trans (HL_513.out.cell 0)), (cell_off (by simp only; omega)).trans ((cell_off (by simp only; omega)).trans (HL_513.out.cell 1)), (cell_off (by simp only; omega)).trans ((cell_off (by simp only; omega)).trans (HL_513.out.cell 2)), (cell_off (by simp only; omega)).trans ((cell_off (by simp only; omega)).trans (HS_513.out.2 0 _ rfl)), (cell_off (by simp only; omega)).trans ((cell_off (by simp only; omega)).trans (HS_513.out.2 1 _ rfl))⟩)
      refine ⟨by (repeat' apply And.intro) <;> first | assumption | exact (cell_off (by simp only; omega)).trans (by assumption) | exact (cell_off (by simp only; omega)).trans ((cell_off (by simp only; omega)).trans (by assumption)) | exact (cell_off (by simp only; omega)).trans ((cell_off (by simp only; omega)).trans ((cell_off (by simp only; omega)).trans (by assumption))), ?_⟩
      clear hlB_0 hlB_1 hlB_2 hsB_0 hsB_1
      refine xq 15 HOPS HREG HSR6_B14.out ?_; simp only [ls0, ls1]
      refine stepE HOPS (by kernel_rfl) (HQ.out _ _ ?_)
      clear HQ HREG HOPS
      clear Q ops
      go_wp2
      go_meet
      exact ⟨w1.heap.size, A6, n6, c6, rfl, rfl, at0_put (at0_put HP_513.out 0 _) 1 _, OwnB.more (ownsRow_setCell_below (ownsRow_setCell_below HY.out (by simp) _) (by simp) _) (by simp), ((bel_trans (show Below w1.heap.size w1 (w1.alloc (.cells #[.int .i64 0, .slice none 0 0] 59)).drew from (belA w1 _).drew) HBW.out).setCell (Nat.le_refl _) _).setCell (Nat.le_refl _) _⟩
  case rest =>
    obtain ⟨P, A6, n6, c6, rfl, rfl, hbx, ho, hb⟩ := hcut
    rename World => w5
    have HP_5 := Lib.hid hbx
    have HO_5 := Lib.hid ho
    have hn6 := ho.len
    have HM5 := Lib.hid hb.size
    have HW_5 := Lib.hid (bel_trans HW_1.out hb)
    have HL_5 := Lib.hid (HL_1.out.below hb)
    have HZ_5 := Lib.hid (HZ_1.out.below hb)
    have HR_5 := Lib.hid (rdgUp HR_1.out hb)
    have HT_5 := Lib.hid (HT_1.out.bel hb)
    have HS2_5 := Lib.hid (HS2_1.out.below hb)
    clear hbx ho hb
    have hn6' := of_len HOF.out
    simp only at hn6'
    rcases hways with ⟨hz, rfl, rfl, rfl, rfl⟩ | ⟨rfl, hz, rfl, rfl, rfl, rfl⟩ | ⟨rfl, hz, rfl, rfl, rfl, rfl⟩
    · have hcN := bne_iff_ne.2 hz
      obtain ⟨hl5_0, hl5_1, hl5_2⟩ := cel3 HL_5.out
      obtain ⟨hz5_0, hz5_1, hz5_2⟩ := cel3 HZ_5.out
      obtain ⟨fhz5_0, fhz5_1, fhz5_2⟩ := frz3 HZ_5.out
      go_wp2
      exact bodyPost_ret (v := .tuple #[.agg #[.int .i64 0, .int .i64 0, .slice none 0 0], .int .i64 e9]) (by simp [results, Tryz.results31, go_sem, hz5_0, hz5_1, hz5_2]) rfl ⟨none, 0, 0, rfl, OwnG.nil, bel3 HW_5.out (by omega) _ _ _⟩
    · have hIx : I64 xb := by have h9 := of_base HOF.out; simp only at h9; rw [h9]; exact hIs
      go_wp2
      have hbd := (Below.refl w5.heap.size w5).drew
      have HW_R9 := Lib.hid (bel_trans HW_5.out hbd)
      have HL_R9 := Lib.hid (HL_5.out.below hbd)
      have HZ_R9 := Lib.hid (HZ_5.out.below hbd)
      have HR_R9 := Lib.hid (rdgUp HR_5.out hbd)
      have HT_R9 := Lib.hid (HT_5.out.bel hbd)
      have HS2_R9 := Lib.hid (HS2_5.out.below hbd)
      have HP_R9 := Lib.hid (HP_5.out.below hbd)
      have HO_R9 := Lib.hid (HO_5.out.below hbd)
      have HSR9 := Lib.hid (show (fun W9 : World => W9.cell? ⟨P, 0, none⟩ = some (.int .i64 xb) ∧ W9.cell? ⟨P, 1, none⟩ = some (.slice A6 n6 c6) ∧ W9.cell? ⟨w.heap.size, 0, none⟩ = some (.int .i64 lim) ∧ W9.cell? ⟨w.heap.size, 1, none⟩ = some (.int .i64 start) ∧ W9.cell? ⟨w.heap.size, 2, none⟩ = some (.slice (some ⟨b, o, none⟩) n c) ∧ W9.cell? ⟨b, o + (k + 1) * 2, none⟩ = some (.int .i64 tb) ∧ W9.cell? ⟨b, o + (k + 1) * 2 + 1, none⟩ = some (.slice A8 n8 c8)) w5.drew from ⟨HP_R9.out.cell 0, HP_R9.out.cell 1, HL_R9.out.cell 0, HL_R9.out.cell 1, HL_R9.out.cell 2, HS2_R9.out.2 0 _ rfl, HS2_R9.out.2 1 _ rfl⟩)
      clear hbd
      refine region_let (fun W9 : World => W9.cell? ⟨P, 0, none⟩ = some (.int .i64 xb) ∧ W9.cell? ⟨P, 1, none⟩ = some (.slice A6 n6 c6) ∧ W9.cell? ⟨w.heap.size, 0, none⟩ = some (.int .i64 lim) ∧ W9.cell? ⟨w.heap.size, 1, none⟩ = some (.int .i64 start) ∧ W9.cell? ⟨w.heap.size, 2, none⟩ = some (.slice (some ⟨b, o, none⟩) n c) ∧ W9.cell? ⟨b, o + (k + 1) * 2, none⟩ = some (.int .i64 tb) ∧ W9.cell? ⟨b, o + (k + 1) * 2 + 1, none⟩ = some (.slice A8 n8 c8)) 99 11 hmx rfl fun ops Q HOPS HQ => ?_
      have HREG := reg_of HOPS tb_Replace9 rfl (by kernel_rfl) (by kernel_rfl) (by decide)
      refine xq 0 HOPS HREG HSR9.out ?_; simp only [ls0, ls1]; refine xq 2 HOPS HREG HSR9.out ?_; simp only [ls0, ls1]; refine xq 3 HOPS HREG HSR9.out ?_; simp only [ls0, ls1]; refine xq 4 HOPS HREG HSR9.out ?_; simp only [ls0, ls1]; refine xq 5 HOPS HREG HSR9.out ?_; simp only [ls0, ls1]; refine xq 6 HOPS HREG HSR9.out ?_; simp only [ls0, ls1]; refine xq 7 HOPS HREG HSR9.out ?_; simp only [ls0, ls1]; refine xq 8 HOPS HREG HSR9.out ?_; simp only [ls0, ls1]
      refine xc 1 HOPS ?_
      go_simp
      with_reducible refine (Seg.End_is HE.out HO_R9.out.rd (OwnB.cap HO_R9.out) (by omega) hIx HT_R9.out).mono ?_
      rintro e w7 ⟨rfl, hb⟩
      have HW_7 := Lib.hid (bel_trans HW_R9.out hb)
      have HL_7 := Lib.hid (HL_R9.out.below hb)
      have HZ_7 := Lib.hid (HZ_R9.out.below hb)
      have HR_7 := Lib.hid (rdgUp HR_R9.out hb)
      have HT_7 := Lib.hid (HT_R9.out.bel hb)
      have HS2_7 := Lib.hid (HS2_R9.out.below hb)
      have HP_7 := Lib.hid (HP_R9.out.below hb)
      have HO_7 := Lib.hid (HO_R9.out.below hb)
      have hs57 := Lib.hid (show w5.heap.size ≤ w7.heap.size from hb.size)
      have HSR9w7 := Lib.hid (show (fun W9 : World => W9.cell? ⟨P, 0, none⟩ = some (.int .i64 xb) ∧ W9.cell? ⟨P, 1, none⟩ = some (.slice A6 n6 c6) ∧ W9.cell? ⟨w.heap.size, 0, none⟩ = some (.int .i64 lim) ∧ W9.cell? ⟨w.heap.size, 1, none⟩ = some (.int .i64 start) ∧ W9.cell? ⟨w.heap.size, 2, none⟩ = some (.slice (some ⟨b, o, none⟩) n c) ∧ W9.cell? ⟨b, o + (k + 1) * 2, none⟩ = some (.int .i64 tb) ∧ W9.cell? ⟨b, o + (k + 1) * 2 + 1, none⟩ = some (.slice A8 n8 c8)) w7 from ⟨HP_7.out.cell 0, HP_7.out.cell 1, HL_7.out.cell 0, HL_7.out.cell 1, HL_7.out.cell 2, HS2_7.out.2 0 _ rfl, HS2_7.out.2 1 _ rfl⟩)
      clear hb
      refine ⟨HSR9w7.out, ?_⟩
      refine xq 9 HOPS HREG HSR9w7.out ?_; simp only [ls0, ls1]; refine xq 10 HOPS HREG HSR9w7.out ?_; simp only [ls0, ls1]
      refine stepE HOPS (by kernel_rfl) (HQ.out _ _ ?_)
      clear HQ HREG HOPS
      clear Q ops
      obtain ⟨hl7_0, hl7_1, hl7_2⟩ := cel3 HL_7.out
      obtain ⟨hz7_0, hz7_1, hz7_2⟩ := cel3 HZ_7.out
      obtain ⟨fhz7_0, fhz7_1, fhz7_2⟩ := frz3 HZ_7.out
      go_wp2
      exact bodyPost_ret (v := .tuple #[.agg #[.int .i64 0, .int .i64 0, .slice none 0 0], .int .i64 71]) (by simp [results, Tryz.results31, go_sem, hz7_0, hz7_1, hz7_2]) rfl ⟨none, 0, 0, rfl, OwnG.nil, bel3 HW_7.out (by omega) _ _ _⟩
    · have hIx : I64 xb := by have h9 := of_base HOF.out; simp only at h9; rw [h9]; exact hIs
      go_wp2
      have hbd := (Below.refl w5.heap.size w5).drew
      have HW_R9 := Lib.hid (bel_trans HW_5.out hbd)
      have HL_R9 := Lib.hid (HL_5.out.below hbd)
      have HZ_R9 := Lib.hid (HZ_5.out.below hbd)
      have HR_R9 := Lib.hid (rdgUp HR_5.out hbd)
      have HT_R9 := Lib.hid (HT_5.out.bel hbd)
      have HS2_R9 := Lib.hid (HS2_5.out.below hbd)
      have HP_R9 := Lib.hid (HP_5.out.below hbd)
      have HO_R9 := Lib.hid (HO_5.out.below hbd)
      have HSR9 := Lib.hid (show (fun W9 : World => W9.cell? ⟨P, 0, none⟩ = some (.int .i64 xb) ∧ W9.cell? ⟨P, 1, none⟩ = some (.slice A6 n6 c6) ∧ W9.cell? ⟨w.heap.size, 0, none⟩ = some (.int .i64 lim) ∧ W9.cell? ⟨w.heap.size, 1, none⟩ = some (.int .i64 start) ∧ W9.cell? ⟨w.heap.size, 2, none⟩ = some (.slice (some ⟨b, o, none⟩) n c) ∧ W9.cell? ⟨b, o + (k + 1) * 2, none⟩ = some (.int .i64 tb) ∧ W9.cell? ⟨b, o + (k + 1) * 2 + 1, none⟩ = some (.slice A8 n8 c8)) w5.drew from ⟨HP_R9.out.cell 0, HP_R9.out.cell 1, HL_R9.out.cell 0, HL_R9.out.cell 1, HL_R9.out.cell 2, HS2_R9.out.2 0 _ rfl, HS2_R9.out.2 1 _ rfl⟩)
      clear hbd
      refine region_let (fun W9 : World => W9.cell? ⟨P, 0, none⟩ = some (.int .i64 xb) ∧ W9.cell? ⟨P, 1, none⟩ = some (.slice A6 n6 c6) ∧ W9.cell? ⟨w.heap.size, 0, none⟩ = some (.int .i64 lim) ∧ W9.cell? ⟨w.heap.size, 1, none⟩ = some (.int .i64 start) ∧ W9.cell? ⟨w.heap.size, 2, none⟩ = some (.slice (some ⟨b, o, none⟩) n c) ∧ W9.cell? ⟨b, o + (k + 1) * 2, none⟩ = some (.int .i64 tb) ∧ W9.cell? ⟨b, o + (k + 1) * 2 + 1, none⟩ = some (.slice A8 n8 c8)) 99 11 hmx rfl fun ops Q HOPS HQ => ?_
      have HREG := reg_of HOPS tb_Replace9 rfl (by kernel_rfl) (by kernel_rfl) (by decide)
      refine xq 0 HOPS HREG HSR9.out ?_; simp only [ls0, ls1]; refine xq 2 HOPS HREG HSR9.out ?_; simp only [ls0, ls1]; refine xq 3 HOPS HREG HSR9.out ?_; simp only [ls0, ls1]; refine xq 4 HOPS HREG HSR9.out ?_; simp only [ls0, ls1]; refine xq 5 HOPS HREG HSR9.out ?_; simp only [ls0, ls1]; refine xq 6 HOPS HREG HSR9.out ?_; simp only [ls0, ls1]; refine xq 7 HOPS HREG HSR9.out ?_; simp only [ls0, ls1]; refine xq 8 HOPS HREG HSR9.out ?_; simp only [ls0, ls1]
      refine xc 1 HOPS ?_
      go_simp
      with_reducible refine (Seg.End_is HE.out HO_R9.out.rd (OwnB.cap HO_R9.out) (by omega) hIx HT_R9.out).mono ?_
      rintro e w7 ⟨rfl, hb⟩
      have HW_7 := Lib.hid (bel_trans HW_R9.out hb)
      have HL_7 := Lib.hid (HL_R9.out.below hb)
      have HZ_7 := Lib.hid (HZ_R9.out.below hb)
      have HR_7 := Lib.hid (rdgUp HR_R9.out hb)
      have HT_7 := Lib.hid (HT_R9.out.bel hb)
      have HS2_7 := Lib.hid (HS2_R9.out.below hb)
      have HP_7 := Lib.hid (HP_R9.out.below hb)
      have HO_7 := Lib.hid (HO_R9.out.below hb)
      have hs57 := Lib.hid (show w5.heap.size ≤ w7.heap.size from hb.size)
      have HSR9w7 := Lib.hid (show (fun W9 : World => W9.cell? ⟨P, 0, none⟩ = some (.int .i64 xb) ∧ W9.cell? ⟨P, 1, none⟩ = some (.slice A6 n6 c6) ∧ W9.cell? ⟨w.heap.size, 0, none⟩ = some (.int .i64 lim) ∧ W9.cell? ⟨w.heap.size, 1, none⟩ = some (.int .i64 start) ∧ W9.cell? ⟨w.heap.size, 2, none⟩ = some (.slice (some ⟨b, o, none⟩) n c) ∧ W9.cell? ⟨b, o + (k + 1) * 2, none⟩ = some (.int .i64 tb) ∧ W9.cell? ⟨b, o + (k + 1) * 2 + 1, none⟩ = some (.slice A8 n8 c8)) w7 from ⟨HP_7.out.cell 0, HP_7.out.cell 1, HL_7.out.cell 0, HL_7.out.cell 1, HL_7.out.cell 2, HS2_7.out.2 0 _ rfl, HS2_7.out.2 1 _ rfl⟩)
      clear hb
      refine ⟨HSR9w7.out, ?_⟩
      refine xq 9 HOPS HREG HSR9w7.out ?_; simp only [ls0, ls1]; refine xq 10 HOPS HREG HSR9w7.out ?_; simp only [ls0, ls1]
      refine stepE HOPS (by kernel_rfl) (HQ.out _ _ ?_)
      clear HQ HREG HOPS
      clear Q ops
      have HM7 := Lib.hid (Nat.le_trans HM5.out hs57.out)
      obtain ⟨hl7_0, hl7_1, hl7_2⟩ := cel3 HL_7.out
      obtain ⟨fhl7_0, fhl7_1, fhl7_2⟩ := frz3 HL_7.out
      obtain ⟨hp7_0, hp7_1⟩ := cel2 HP_7.out
      go_wp2_with (first
        | (go_at_call 60; (with_reducible refine (copies_is (some ⟨b, o, none⟩) n c l _ HR_7.out (by omega)).mono ?_); rintro e w9 ⟨A7, c7, rfl, ho, hb⟩; have HOC := Lib.hid ho; have HB9 := Lib.hid hb; have HW_9 := Lib.hid (bel_trans HW_7.out hb); have HL_9 := Lib.hid (HL_7.out.below hb); have HZ_9 := Lib.hid (HZ_7.out.below hb); have HP_9 := Lib.hid (HP_7.out.below hb); obtain ⟨hl9_0, hl9_1, hl9_2⟩ := cel3 HL_9.out; obtain ⟨fhl9_0, fhl9_1, fhl9_2⟩ := frz3 HL_9.out; obtain ⟨hz9_0, hz9_1, hz9_2⟩ := cel3 HZ_9.out; obtain ⟨fhz9_0, fhz9_1, fhz9_2⟩ := frz3 HZ_9.out; obtain ⟨hp9_0, hp9_1⟩ := cel2 HP_9.out; have HLD := Lib.hid (lead_old (M := w1.heap.size) (y := (⟨xb, xs⟩ : Sg)) HOC.out (Nat.le_refl _) HO_7.out (Nat.le_refl _) (by unfold gMax; omega) hIx hb); have HOD := Lib.hid (HOC.out.more (B' := w1.heap.size) (P' := fun b => w1.heap.size ≤ b) HM7.out (fun _ h => Nat.le_trans HM7.out h)); obtain ⟨g, u9, v9, rfl, hg1, hg2, r0, r1, f9, ho2, hb2⟩ := OwnG.put2 (k := k) HOD.out (by omega) HLD.out; have f0 := f9 (k * 2); have f1 := f9 (k * 2 + 1); have hgl : w.heap.size < g := Nat.lt_of_lt_of_le HLM.out.2.1 hg1; have hgz : w.heap.size + 1 < g := Nat.lt_of_lt_of_le HLM.out.2.2 hg1; have hne1 : ¬ w.heap.size = g := (by omega); have hne2 : ¬ g = w.heap.size := (by omega); have hne3 : ¬ w.heap.size + 1 = g := (by omega); have hne4 : ¬ g = w.heap.size + 1 := (by omega); clear ho hb ho2 hb2 f9))
      have HX9 := Lib.hid (HOD.out.off9 (g := w.heap.size) HLM.out.2.1 2 (.slice (some ⟨g, 0, none⟩) n c7))
      have HL9 := Lib.hid (LeadG.keep HLD.out (w' := w9.setCell ⟨w.heap.size, 2, none⟩ (.slice (some ⟨g, 0, none⟩) n c7)) (by simp) fun b o _ (hP : w1.heap.size ≤ b) _ => cell_off (show b ≠ w.heap.size by have h9 := HLM.out.2.1; omega))
      obtain ⟨g', _, _, hgg, _, _, _, _, _, ho2, hb2⟩ := OwnG.put2 (k := k) HX9.out (by omega) HL9.out
      obtain rfl : g = g' := by injection hgg with h; injection h
      have HO2 := Lib.hid (OwnG.off3 ho2 (g := w.heap.size + 1) HLM.out.2.2 (.int .i64 lim) (.int .i64 start) (.slice (some ⟨g, 0, none⟩) n c7))
      have HB2 := Lib.hid ((show Below w.heap.size w (w9.setCell ⟨w.heap.size, 2, none⟩ (.slice (some ⟨g, 0, none⟩) n c7)) from HW_9.out.setCell (Nat.le_refl _) _).trans (hb2.mono HLM.out.1))
      clear ho2 hb2 hgg
      exact bodyPost_ret (v := .tuple #[.agg #[.int .i64 lim, .int .i64 start, .slice (some ⟨g, 0, none⟩) n c7], .int .i64 0]) (by simp [results, Tryz.results31, go_sem, hz9_0, hz9_1, hz9_2]) rfl ⟨some ⟨g, 0, none⟩, n, c7, rfl, HO2.out.more HLM.out.1 (fun b hb => Nat.le_trans HLM.out.1 hb), bel3 HB2.out (by omega) _ _ _⟩
theorem Replace_is (lim start : Int) (A : Option Addr) (n c : Nat) (l : List Sg) (j : Int) (A1 : Option Addr) (n1 c1 : Nat) (bs : List Bt) (w : World) (hr : RdG w w.heap.size A n l) (ht : Tab w) (hc : n ≤ c) (hn : n ≤ 1000000) (hx : RdT w w.heap.size A1 n1 bs) (hn1 : n1 ≤ 1099511627776) {xl xt e9 : Int} {x : List Sg} (h : replL ⟨lim, start, l⟩ j bs = (⟨xl, xt, x⟩, e9)) :
    Calls Tryz.prog 31 #[.agg #[.int .i64 lim, .int .i64 start, .slice A n c], .int .i64 j, .slice A1 n1 c1] w (TO w xl xt x e9) := by
  have hlen := hr.len
  unfold replL at h
  by_cases h1 : ckL ⟨lim, start, l⟩ = 0
  · rw [if_neg (by omega)] at h
    simp only at h
    rw [hlen] at h
    by_cases h2 : j < 0 ∨ (n : Int) - 1 ≤ j
    · rw [if_pos h2] at h
      injection h with a1 a2
      injection a1 with a3 a4 a5
      subst a3; subst a4; subst a5; subst a2
      refine Replace_bad lim start A n c l j A1 n1 c1 bs w hr ht hc hn hx hn1 h1 ?_
      by_cases h3 : j < 0
      · exact .inr (.inl ⟨rfl, h3, rfl⟩)
      · exact .inr (.inr ⟨rfl, h3, by omega, rfl⟩)
    · rw [if_neg h2] at h
      obtain ⟨k, rfl⟩ : ∃ k : Nat, j = (k : Int) := ⟨j.toNat, by omega⟩
      have hkn : k + 1 < n := by omega
      obtain ⟨s0, hs0⟩ : ∃ s, l[k]? = some s := ⟨_, List.getElem?_eq_getElem (by omega)⟩
      obtain ⟨t0, ht0⟩ : ∃ s, l[k + 1]? = some s := ⟨_, List.getElem?_eq_getElem (by omega)⟩
      simp only [Int.toNat_natCast, hs0, ht0] at h
      rcases hof : ofS s0.base bs lim with ⟨⟨xb, xs⟩, xe⟩
      rw [hof] at h
      simp only at h
      refine Replace_ok lim start A n c l A1 n1 c1 bs w hr ht hc hn hx hn1 h1 hkn hs0 ht0 hof rfl ?_
      by_cases h3 : xe = 0
      · rw [if_neg (by omega)] at h
        by_cases h4 : t0.base < endS ⟨xb, xs⟩
        · rw [if_pos h4] at h
          injection h with a1 a2
          injection a1 with a3 a4 a5
          exact .inr (.inl ⟨h3, h4, a5.symm, a3.symm, a4.symm, a2.symm⟩)
        · rw [if_neg h4] at h
          injection h with a1 a2
          injection a1 with a3 a4 a5
          exact .inr (.inr ⟨h3, h4, a5.symm, a3, a4, a2.symm⟩)
      · rw [if_pos h3] at h
        injection h with a1 a2
        injection a1 with a3 a4 a5
        exact .inl ⟨h3, a5.symm, a3.symm, a4.symm, a2.symm⟩
  · rw [if_pos h1] at h
    injection h with a1 a2
    injection a1 with a3 a4 a5
    subst a3; subst a4; subst a5
    exact Replace_bad lim start A n c l j A1 n1 c1 bs w hr ht hc hn hx hn1 rfl (.inl ⟨h1, a2.symm⟩)
end Go.Proofs.YtejcjmiofidedaaGreatDoor.Chn

/- The contract of the landed chain's Recover. -/
namespace Go.Proofs.YtejcjmiofidedaaGreatDoor.Chn
open Go.RowKit RowL Oct Rec Crc Bat Lay Seg RowF InR

def fixL (l : List Sg) : List Sg := l.map fun s => (fixS s).1
theorem fixL_snoc (l : List Sg) (s : Sg) : fixL (l ++ [s]) = fixL l ++ [(fixS s).1] := by unfold fixL; rw [List.map_append]; rfl
theorem fix_len (s : Sg) : (fixS s).1.bytes.length ≤ s.bytes.length := by unfold fixS; simp only [List.length_take]; omega
theorem recL_ways {l x : Lg} {v : Int} (h : recL l = (x, v)) : (x = nilL ∧ v = 0 ∧ (headI l.limit l.start l.segs.length = false ∨ ∃ s, l.segs[0]? = some s ∧ isO s.base = false)) ∨
    (headI l.limit l.start l.segs.length = true ∧ (∃ s, l.segs[0]? = some s ∧ isO s.base = true) ∧ x = ⟨l.limit, l.start, fixL (l.segs.take (man none l.segs))⟩ ∧ v = bytesL l.segs - bytesL (fixL (l.segs.take (man none l.segs)))) := by
  obtain ⟨lim, start, m⟩ := l
  unfold recL at h
  unfold headI
  cases m with
  | nil => injection h with h1 h2; exact .inl ⟨h1.symm, h2.symm, .inl (by simp)⟩
  | cons s m =>
    simp only at h ⊢
    have hlen : 0 < (s :: m).length := by simp
    by_cases h1 : (256 ≤ lim ∧ lim ≤ 4096) ∧ (0 ≤ start ∧ start ≤ 1099511627776)
    · by_cases h2 : inO s.base = true
      · rw [if_pos ⟨h1.1, h1.2, h2⟩] at h
        injection h with h3 h4
        have h5 := rec_man none (s :: m)
        have h6 := rec_lost true none (s :: m)
        have h7 : wholeO none = true := rfl
        rw [h7] at h5
        rw [h5] at h3 h6
        exact .inr ⟨by rw [decide_eq_true_iff]; exact ⟨h1.1, h1.2, hlen⟩, ⟨s, rfl, h2⟩, h3.symm, by rw [← h4, h6]; rfl⟩
      · rw [if_neg (fun h9 => h2 h9.2.2)] at h
        injection h with h3 h4
        exact .inl ⟨h3.symm, h4.symm, .inr ⟨s, rfl, by simpa [inO, isO] using h2⟩⟩
    · rw [if_neg (fun h9 => h1 ⟨h9.1, h9.2.1⟩)] at h
      injection h with h3 h4
      exact .inl ⟨h3.symm, h4.symm, .inl (by rw [decide_eq_false_iff_not]; exact fun h9 => h1 ⟨h9.1, h9.2.1⟩)⟩
theorem at0_low {W X : World} {g M : Nat} {cs : List Value} {e : TypeId} (h : At0 W g cs e) (hb : Below M W X) (hg : g < M) : At0 X g cs e := (hb.block g hg).trans h
def rvRel (l : List Sg) (n : Nat) (W : World) (sv iv : Value) (wr : World) : Prop :=
  ∃ (k : Nat) (S : Int), sv = .int .i64 S ∧ iv = .int .i64 (k : Int) ∧ k ≤ n ∧ S = bytesL (l.take k) ∧ (0 ≤ S ∧ S ≤ (k : Int) * 1000000) ∧ Below W.heap.size W wr
def rvFix (l : List Sg) (lim start T : Int) (m : Nat) (w : World) (sv iv : Value) (wr : World) : Prop :=
  ∃ (k : Nat) (S : Int) (A7 : Option Addr) (c7 : Nat), sv = .int .i64 S ∧ iv = .int .i64 (k : Int) ∧ k ≤ m ∧ S = T - bytesL (fixL (l.take k)) ∧ (T - (k : Int) * 1000000 ≤ S ∧ S ≤ T) ∧ At0 wr (w.heap.size + 1) [.int .i64 lim, .int .i64 start, .slice A7 k c7] 24 ∧
    OwnG wr 59 (fun b => w.heap.size + 2 ≤ b) (w.heap.size + 2) (.slice A7 k c7) k (fixL (l.take k)) ∧ Below w.heap.size w wr ∧ w.heap.size + 2 ≤ wr.heap.size
set_option maxRecDepth 100000 in
set_option maxHeartbeats 16000000 in
theorem Recover_bad1 (lim start : Int) (A : Option Addr) (n c : Nat) (l : List Sg) (w : World) (_hr : RdG w w.heap.size A n l) (_ht : Tab w) (_hc : n ≤ c) (_hn : n ≤ 1000000) (h : headI lim start n = false) :
    Calls Tryz.prog 35 #[.agg #[.int .i64 lim, .int .i64 start, .slice A n c]] w (TO w 0 0 [] 0) := by
  have hba : Below w.heap.size w ((w.alloc (.cells #[.int .i64 lim, .int .i64 start, .slice A n c] 24)).alloc (.cells #[.int .i64 0, .int .i64 0, .slice none 0 0] 24)) := bel_alloc (belA w _) _
  have HW_0 := Lib.hid hba
  have HL_0 := Lib.hid ((At0.new w [.int .i64 lim, .int .i64 start, .slice A n c] 24).alloc (.cells #[.int .i64 0, .int .i64 0, .slice none 0 0] 24))
  have HZ_0 := Lib.hid (at0_1 w (.cells #[.int .i64 lim, .int .i64 start, .slice A n c] 24) [.int .i64 0, .int .i64 0, .slice none 0 0] 24)
  have HH := Lib.hid h
  clear hba h
  go_enter Tryz.func35, Tryz.ntmps35
  go_wp2_with (first
    | (go_at_call 47; (with_reducible refine (hasHead_is lim start A n c _ HH.out).mono ?_); rintro e w1 ⟨rfl, hb⟩; have HW_1 := Lib.hid (bel_trans HW_0.out hb); have HL_1 := Lib.hid (HL_0.out.below hb); have HZ_1 := Lib.hid (HZ_0.out.below hb); obtain ⟨hl1_0, hl1_1, hl1_2⟩ := cel3 HL_1.out; obtain ⟨hz1_0, hz1_1, hz1_2⟩ := cel3 HZ_1.out; obtain ⟨fhz1_0, fhz1_1, fhz1_2⟩ := frz3 HZ_1.out; clear hb))
  exact bodyPost_ret (v := .tuple #[.agg #[.int .i64 0, .int .i64 0, .slice none 0 0], .int .i64 0]) (by simp [results, Tryz.results35, go_sem, hz1_0, hz1_1, hz1_2]) rfl ⟨none, 0, 0, rfl, OwnG.nil, bel3 HW_1.out (by omega) _ _ _⟩
set_option maxRecDepth 100000 in
set_option maxHeartbeats 16000000 in
theorem Recover_bad2 (lim start : Int) (A : Option Addr) (n c : Nat) (l : List Sg) (w : World) (hr : RdG w w.heap.size A n l) (_ht : Tab w) (_hc : n ≤ c) (_hn : n ≤ 1000000) (h : headI lim start n = true) (hn0 : 0 < n) {s0 : Sg} (hs0 : l[0]? = some s0) (hO : isO s0.base = false) :
    Calls Tryz.prog 35 #[.agg #[.int .i64 lim, .int .i64 start, .slice A n c]] w (TO w 0 0 [] 0) := by
  obtain ⟨b, o, ⟨sb, ss⟩, A5, n5, c5, hA, hbl, hxk, hc5, hn5, hrd, hIs, c0, c1'⟩ := hr.at (k := 0) hn0
  obtain rfl : s0 = ⟨sb, ss⟩ := Option.some.inj (hs0.symm.trans hxk)
  subst hA
  simp only [Nat.zero_mul, Nat.add_zero] at c0 c1' hO
  have hba : Below w.heap.size w ((w.alloc (.cells #[.int .i64 lim, .int .i64 start, .slice (some ⟨b, o, none⟩) n c] 24)).alloc (.cells #[.int .i64 0, .int .i64 0, .slice none 0 0] 24)) := bel_alloc (belA w _) _
  have HW_0 := Lib.hid hba
  have HL_0 := Lib.hid ((At0.new w [.int .i64 lim, .int .i64 start, .slice (some ⟨b, o, none⟩) n c] 24).alloc (.cells #[.int .i64 0, .int .i64 0, .slice none 0 0] 24))
  have HZ_0 := Lib.hid (at0_1 w (.cells #[.int .i64 lim, .int .i64 start, .slice (some ⟨b, o, none⟩) n c] 24) [.int .i64 0, .int .i64 0, .slice none 0 0] 24)
  have HS_0 := Lib.hid ((AtO.two hbl c0 c1').below hba)
  have HH := Lib.hid h
  clear hr hba h hs0 hxk hrd c0 c1' hbl
  go_enter Tryz.func35, Tryz.ntmps35
  go_wp2_with (first
    | (go_at_call 47; (with_reducible refine (hasHead_is lim start (some ⟨b, o, none⟩) n c _ HH.out).mono ?_); rintro e w1 ⟨rfl, hb⟩; have HW_1 := Lib.hid (bel_trans HW_0.out hb); have HL_1 := Lib.hid (HL_0.out.below hb); have HZ_1 := Lib.hid (HZ_0.out.below hb); have HS_1 := Lib.hid (HS_0.out.below hb); obtain ⟨hl1_0, hl1_1, hl1_2⟩ := cel3 HL_1.out; obtain ⟨hz1_0, hz1_1, hz1_2⟩ := cel3 HZ_1.out; obtain ⟨fhz1_0, fhz1_1, fhz1_2⟩ := frz3 HZ_1.out; obtain ⟨hs1_0, hs1_1⟩ := del2 HS_1.out; clear hb)
    | (go_at_call 71; (with_reducible refine (isOff_any _ _).mono ?_); rintro e w9 ⟨rfl, rfl⟩; ))
  exact bodyPost_ret (v := .tuple #[.agg #[.int .i64 0, .int .i64 0, .slice none 0 0], .int .i64 0]) (by simp [results, Tryz.results35, go_sem, hz1_0, hz1_1, hz1_2]) rfl ⟨none, 0, 0, rfl, OwnG.nil, bel3 HW_1.out (by omega) _ _ _⟩
set_option maxRecDepth 100000 in
set_option maxHeartbeats 16000000 in
theorem Recover_ok (lim start : Int) (A : Option Addr) (n c : Nat) (l : List Sg) (w : World) (hr : RdG w w.heap.size A n l) (ht : Tab w) (hc : n ≤ c) (hn : n ≤ 1000000) (h : headI lim start n = true) (hn0 : 0 < n) {s0 : Sg} (hs0 : l[0]? = some s0) (hO : isO s0.base = true) {m : Nat} (hm : man none l = m) {T : Int} (hT : bytesL l = T) :
    Calls Tryz.prog 35 #[.agg #[.int .i64 lim, .int .i64 start, .slice A n c]] w (TO w lim start (fixL (l.take m)) (T - bytesL (fixL (l.take m)))) := by
  have HR := Lib.hid hr
  have HTB := Lib.hid ht
  have HM := Lib.hid hm
  have HBT := Lib.hid hT
  have HLEN := Lib.hid hr.len
  have hmn : m ≤ n := by have := man_le none l; have := hr.len; omega
  obtain ⟨b, o, ⟨sb, ss⟩, A5, n5, c5, hA, hbl, hxk, hc5, hn5, hrd, hIs, c0, c1'⟩ := hr.at (k := 0) hn0
  obtain rfl : s0 = ⟨sb, ss⟩ := Option.some.inj (hs0.symm.trans hxk)
  subst hA
  simp only [Nat.zero_mul, Nat.add_zero] at c0 c1' hO
  have hba : Below w.heap.size w ((w.alloc (.cells #[.int .i64 lim, .int .i64 start, .slice (some ⟨b, o, none⟩) n c] 24)).alloc (.cells #[.int .i64 0, .int .i64 0, .slice none 0 0] 24)) := bel_alloc (belA w _) _
  have HW_0 := Lib.hid hba
  have HL_0 := Lib.hid ((At0.new w [.int .i64 lim, .int .i64 start, .slice (some ⟨b, o, none⟩) n c] 24).alloc (.cells #[.int .i64 0, .int .i64 0, .slice none 0 0] 24))
  have HZ_0 := Lib.hid (at0_1 w (.cells #[.int .i64 lim, .int .i64 start, .slice (some ⟨b, o, none⟩) n c] 24) [.int .i64 0, .int .i64 0, .slice none 0 0] 24)
  have HS_0 := Lib.hid ((AtO.two hbl c0 c1').below hba)
  have HH := Lib.hid h
  have hmx : Tryz.prog.follows .mixedOrders = true := by kernel_rfl
  clear hr ht hba h hs0 hxk hrd c0 c1' hbl hm hT
  go_enter Tryz.func35, Tryz.ntmps35
  go_wp2_with (first
    | (go_at_call 47; (with_reducible refine (hasHead_is lim start (some ⟨b, o, none⟩) n c _ HH.out).mono ?_); rintro e w1 ⟨rfl, hb⟩; have HW_1 := Lib.hid (bel_trans HW_0.out hb); have HL_1 := Lib.hid (HL_0.out.below hb); have HZ_1 := Lib.hid (HZ_0.out.below hb); have HS_1 := Lib.hid (HS_0.out.below hb); obtain ⟨hl1_0, hl1_1, hl1_2⟩ := cel3 HL_1.out; obtain ⟨hz1_0, hz1_1, hz1_2⟩ := cel3 HZ_1.out; obtain ⟨fhz1_0, fhz1_1, fhz1_2⟩ := frz3 HZ_1.out; obtain ⟨hs1_0, hs1_1⟩ := del2 HS_1.out; clear hb)
    | (go_at_call 71; (with_reducible refine (isOff_any _ _).mono ?_); rintro e w9 ⟨rfl, rfl⟩; ))
  go_loopw [3, 29] (fun sv iv wr => rvRel l n w1 sv iv wr) (fun _ iv _ => n - (intOf iv).toNat)
  case atStart => exact ⟨0, 0, rfl, rfl, Nat.zero_le _, rfl, ⟨Int.le_refl _, by omega⟩, Below.refl _ _⟩
  case round =>
    obtain ⟨k, S, rfl, rfl, hk, hS, hSb, hb⟩ := hrel
    have HS9 := Lib.hid hS
    have HB := Lib.hid hb
    have HB1 := Lib.hid (bel_trans HW_1.out hb)
    have HRR := Lib.hid (rdgUp HR.out HB1.out)
    clear hS hb
    by_cases hlt : k < n
    · obtain ⟨b', o', ⟨rb, rs⟩, A1, n1, c1, hA, hbl, hxk, hc1, hn1, hrd, hI, d0, d1⟩ := HRR.out.at hlt
      obtain ⟨rfl, rfl⟩ : b = b' ∧ o = o' := by injection hA with h; injection h with h1 h2; exact ⟨h1, h2⟩
      have hlen := hrd.len
      simp only at d0 hlen
      have HX := Lib.hid hxk
      have hn1' : n1 ≤ 1000000 := hn1
      have hw1 : IntKind.i64.wrap ((k : Int) + 1) = (k : Int) + 1 := IntWalk.i64_in _ (by omega)
      have hw2 : IntKind.i64.wrap (S + (n1 : Int)) = S + (n1 : Int) := IntWalk.i64_in _ (by omega)
      have HBX := Lib.hid (belA wr (.cells #[.int .i64 rb, .slice A1 n1 c1] 59))
      clear hA hxk hrd
      go_wp2
      go_roundw
      case rel =>
        refine ⟨k + 1, S + (n1 : Int), rfl, by go_num, by omega, ?_, by omega, bel_trans HB.out HBX.out⟩
        rw [List.take_add_one, HX.out, Option.toList_some, bytesL_one, ← HS9.out, hlen]
      case measure => simp [intOf]; omega
    · obtain rfl : k = n := by omega
      have hST : S = T := by rw [HS9.out, ← HBT.out, List.take_of_length_le (by rw [HLEN.out]; exact Nat.le_refl _)]
      subst hST
      have HL_2 := Lib.hid (HL_1.out.below HB.out)
      have HZ_2 := Lib.hid (HZ_1.out.below HB.out)
      obtain ⟨E, hE⟩ : ∃ E, lkE (prv l m) = E := ⟨_, rfl⟩
      obtain ⟨z, hz⟩ : ∃ z, okW (prv l m) = z := ⟨_, rfl⟩
      have HE := Lib.hid hE
      have HZZ := Lib.hid hz
      have hmc : m ≤ c := by omega
      have hm0 : (0 : Int) ≤ (m : Int) := by omega
      have HB3 := Lib.hid (bel3 (g := w.heap.size + 1) HB1.out (by omega) (.int .i64 lim) (.int .i64 start) (.slice none 0 0))
      have HZ_3 := Lib.hid (put3 HZ_2.out (.int .i64 lim) (.int .i64 start) (.slice none 0 0))
      have HL_3 := Lib.hid (At0.set (At0.set (At0.set HL_2.out (p := ⟨w.heap.size + 1, 0, none⟩) (show w.heap.size + 1 ≠ w.heap.size by omega) (.int .i64 lim)) (p := ⟨w.heap.size + 1, 1, none⟩) (show w.heap.size + 1 ≠ w.heap.size by omega) (.int .i64 start)) (p := ⟨w.heap.size + 1, 2, none⟩) (show w.heap.size + 1 ≠ w.heap.size by omega) (.slice none 0 0))
      have HT_3 := Lib.hid (HTB.out.bel HB3.out)
      have HR_3 := Lib.hid (rdgUp HR.out HB3.out)
      have hsz3 := HZ_3.out.lt
      clear hE hz
      obtain ⟨hl2_0, hl2_1, hl2_2⟩ := cel3 HL_2.out
      obtain ⟨hz2_0, hz2_1, hz2_2⟩ := cel3 HZ_2.out
      obtain ⟨fhz2_0, fhz2_1, fhz2_2⟩ := frz3 HZ_2.out
      go_wp2_with (first
        | (go_at_call 75; (with_reducible refine (linked_is (some ⟨b, o, none⟩) k c l _ HR_3.out HT_3.out (by omega) HM.out HE.out HZZ.out).mono ?_); rintro e w4 ⟨rfl, hb⟩; have HB_4 := Lib.hid (bel_trans HB3.out hb); have HL_4 := Lib.hid (HL_3.out.below hb); have HZ_4 := Lib.hid (HZ_3.out.below hb); obtain ⟨hl4_0, hl4_1, hl4_2⟩ := cel3 HL_4.out; obtain ⟨hz4_0, hz4_1, hz4_2⟩ := cel3 HZ_4.out; obtain ⟨fhz4_0, fhz4_1, fhz4_2⟩ := frz3 HZ_4.out; have hs4 := Lib.hid (show w.heap.size + 2 ≤ w4.heap.size from Nat.le_trans hsz3 hb.size); clear hb))
      go_loopw [3, 56] (fun sv iv wr => rvFix l lim start S m w sv iv wr) (fun _ iv _ => m - (intOf iv).toNat)
      case atStart => exact ⟨0, S, none, 0, rfl, rfl, Nat.zero_le _, by show S = S - 0; omega, ⟨by omega, Int.le_refl _⟩, HZ_4.out, OwnG.nil, HB_4.out, hs4.out⟩
      case round =>
        obtain ⟨j, S2, A7, c7, rfl, rfl, hj, hS2, hSb, hzb, hown, hb, hs2⟩ := hrel
        have HS2 := Lib.hid hS2
        have HZR := Lib.hid hzb
        have HOW := Lib.hid hown
        have HBR := Lib.hid hb
        have HSZ := Lib.hid hs2
        have HRR2 := Lib.hid (rdgUp HR.out HBR.out)
        have HTR := Lib.hid (HTB.out.bel HBR.out)
        clear hS2 hzb hown hb hs2
        by_cases hlt2 : j < m
        · obtain ⟨b', o', ⟨rb, rs⟩, A1, n1, c1, hA, hbl, hxk, hc1, hn1, hrd, hI, d0, d1⟩ := HRR2.out.at (k := j) (by omega)
          obtain ⟨rfl, rfl⟩ : b = b' ∧ o = o' := by injection hA with h; injection h with h1 h2; exact ⟨h1, h2⟩
          rcases hfix : fixS ⟨rb, rs⟩ with ⟨⟨xb, xs⟩, xe⟩
          have hlen := hrd.len
          have hfl := fix_len ⟨rb, rs⟩
          rw [hfix] at hfl
          obtain rfl : rb = xb := by have h := congrArg (fun p : Sg × Int => p.1.base) hfix; exact h
          simp only at d0 d1 hlen hfl hI hrd
          have hn1' : n1 ≤ 1000000 := hn1
          have hn1'' : n1 ≤ 137438953472 := by omega
          have HX := Lib.hid hxk
          have HFX := Lib.hid hfix
          have HBX := Lib.hid (belA wr (.cells #[.int .i64 rb, .slice A1 n1 c1] 59))
          have HRD := Lib.hid (rd_to hrd (Nat.le_refl _) HBX.out)
          have HTX := Lib.hid (HTR.out.bel HBX.out)
          have hw1 : IntKind.i64.wrap ((j : Int) + 1) = (j : Int) + 1 := IntWalk.i64_in _ (by omega)
          have hjm : (j : Int) < (m : Int) := by omega
          have hj0 : (0 : Int) ≤ (j : Int) := by omega
          clear hA hxk hrd hfix
          go_wp2_with (first
            | (go_at_call 76; (with_reducible refine (Seg.Fix_is HFX.out HRD.out hc1 hn1'' hI HTX.out).mono ?_); rintro e w5 ⟨A2, n2, c2, rfl, ho, hb⟩; have HBA := Lib.hid (bel_trans HBX.out hb); have HF := Lib.hid ho; have hn2 := ho.len; have hb5 := hb.size; have hb4 := HBX.out.size; have hw2 : IntKind.i64.wrap (S2 - (n2 : Int)) = S2 - (n2 : Int) := IntWalk.i64_in _ (by omega); have HB6 := Lib.hid (bel_alloc HBA.out (.cells #[.int .i64 rb, .slice A2 n2 c2] 59)); have HO6 := Lib.hid (HOW.out.below HB6.out); have hsw := HSZ.out; have HLD := Lib.hid (leadG_own (s := (⟨rb, xs⟩ : Sg)) (B' := w.heap.size + 2) (row := (Value.slice A7 j c7).ownBlock) (OwnB.alloc HF.out (.cells #[.int .i64 rb, .slice A2 n2 c2] 59)) (by unfold gMax; omega) hI (Nat.le_trans hsw hb4) (fun g hg => Nat.lt_of_lt_of_le (HOW.out.lt g hg).2 hb4)); have hz5 := HZR.out.below HBA.out; have hz5_2 := hz5.cell 2; have hz5_0 := hz5.cell 0; have hz5_1 := hz5.cell 1; simp only [List.getElem?_cons_zero, List.getElem?_cons_succ] at hz5_0 hz5_1 hz5_2; have lz5 : w.heap.size + 1 < w5.heap.size := (by omega); have lw5 : w.heap.size + 2 ≤ w5.heap.size := (by omega); obtain ⟨A9, c9, w9, hrun, ho9, hg9, hat9, hb9⟩ := run_appG (P := Tryz.prog) (w := w5.alloc (.cells #[.int .i64 rb, .slice A2 n2 c2] 59)) (w.heap.size + 2) 22 22 59 Tryz.underlying22 segInfo HO6.out (x := (((⟨rb, xs⟩ : Sg), A2, n2, c2) : GX)) HLD.out (by omega) (by rw [World.size_alloc]; omega); have HG9 := Lib.hid hg9; have HOW9 := Lib.hid ho9; have HB9 := Lib.hid hb9; dsimp only [segC] at hrun; simp only [World.size_alloc] at hrun; have HP9 := Lib.hid (show At0 w9 w5.heap.size [.int .i64 rb, .slice A2 n2 c2] 59 from (hg9.block w5.heap.size (by simp only [World.size_alloc]; omega) (fun h => by have h9 := (HOW.out.lt _ h.symm).2; omega)).trans ((At0.new w5 [.int .i64 rb, .slice A2 n2 c2] 59).alloc _)); have HZ9 := Lib.hid (at0_low (HZR.out.below HB6.out) hb9 (by omega)); have hz9_0 := HZ9.out.cell 0; have hz9_1 := HZ9.out.cell 1; have hz9_2 := HZ9.out.cell 2; have fz9_0 := HZ9.out.frozen 0; have fz9_1 := HZ9.out.frozen 1; have fz9_2 := HZ9.out.frozen 2; have hp9_0 := HP9.out.cell 0; have hp9_1 := HP9.out.cell 1; simp only [List.getElem?_cons_zero, List.getElem?_cons_succ] at hz9_0 hz9_1 hz9_2 hp9_0 hp9_1; clear ho hb hb4 hb5 hz5 ho9 hg9 hat9 hb9)
            | (at_builtin; refine wpList_app_run rfl (.tmp 66) (.tmp 68) 22 rfl rfl rfl hrun ?_))
          go_roundw
          case rel =>
            refine ⟨j + 1, S2 - (n2 : Int), A9, c9, rfl, by go_num, by omega, ?_, ⟨by omega, by omega⟩, at0_put HZ9.out 2 (.slice A9 (j + 1) c9), ?_, (HBR.out.trans ((HB6.out.mono HBR.out.size).trans (HB9.out.mono (Nat.le_add_right _ 2)))).setCell (Nat.le_add_right _ 1) _, Nat.le_trans (Nat.le_trans HSZ.out (Nat.le_trans HB6.out.size HB9.out.size)) (by simp)⟩
            · have h9 := congrArg Prod.fst HFX.out
              simp only at h9
              rw [List.take_add_one, HX.out, Option.toList_some, fixL_snoc, bytesL_one, h9]
              have h8 := HS2.out
              simp only
              omega
            · have h9 := congrArg Prod.fst HFX.out
              simp only at h9
              rw [List.take_add_one, HX.out, Option.toList_some, fixL_snoc, h9]
              exact HOW9.out.off9 (g := w.heap.size + 1) (by omega) 2 _
          case measure => simp [intOf]; omega
        · obtain rfl : j = m := by omega
          have hr_0 := HZR.out.cell 0
          have hr_1 := HZR.out.cell 1
          have hr_2 := HZR.out.cell 2
          have fr_0 := HZR.out.frozen 0
          have fr_1 := HZR.out.frozen 1
          have fr_2 := HZR.out.frozen 2
          simp only [List.getElem?_cons_zero, List.getElem?_cons_succ] at hr_0 hr_1 hr_2
          have HO9 := Lib.hid (OwnG.off3 HOW.out (g := w.heap.size + 1) (by omega) (.int .i64 lim) (.int .i64 start) (.slice A7 j c7))
          go_wp2
          exact bodyPost_ret (v := .tuple #[.agg #[.int .i64 lim, .int .i64 start, .slice A7 j c7], .int .i64 S2]) (by simp [results, Tryz.results35, go_sem, hr_0, hr_1, hr_2]) rfl ⟨A7, j, c7, by rw [HS2.out], HO9.out.more (by omega) (fun b (hb : w.heap.size + 2 ≤ b) => (by omega : w.heap.size ≤ b)), bel3 HBR.out (by omega) _ _ _⟩
theorem Recover_is (lim start : Int) (A : Option Addr) (n c : Nat) (l : List Sg) (w : World) (hr : RdG w w.heap.size A n l) (ht : Tab w) (hc : n ≤ c) (hn : n ≤ 1000000) {xl xs v : Int} {x : List Sg} (h : recL ⟨lim, start, l⟩ = (⟨xl, xs, x⟩, v)) :
    Calls Tryz.prog 35 #[.agg #[.int .i64 lim, .int .i64 start, .slice A n c]] w (TO w xl xs x v) := by
  have hlen := hr.len
  rcases recL_ways h with ⟨h1, h2, h3⟩ | ⟨h1, ⟨s0, hs0, h2⟩, h3, h4⟩
  · injection h1 with a1 a2 a3
    subst a1; subst a2; subst a3; subst h2
    simp only at h3
    rw [hlen] at h3
    by_cases h4 : headI lim start n = false
    · exact Recover_bad1 lim start A n c l w hr ht hc hn h4
    · rcases h3 with h3 | ⟨s0, hs0, h5⟩
      · exact absurd h3 h4
      · have hn0 : 0 < n := by have := (List.getElem?_eq_some_iff.1 hs0).1; omega
        exact Recover_bad2 lim start A n c l w hr ht hc hn (by simpa using h4) hn0 hs0 h5
  · injection h3 with a1 a2 a3
    simp only at h1 hs0 h4
    rw [hlen] at h1
    have hn0 : 0 < n := by have := (List.getElem?_eq_some_iff.1 hs0).1; omega
    subst a1; subst a2; subst a3; subst h4
    exact Recover_ok _ _ A n c l w hr ht hc hn h1 hn0 hs0 h2 rfl rfl
end Go.Proofs.YtejcjmiofidedaaGreatDoor.Chn
