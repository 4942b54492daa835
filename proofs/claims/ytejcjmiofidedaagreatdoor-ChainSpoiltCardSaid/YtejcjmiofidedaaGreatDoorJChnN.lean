/- Joined: ChnMath5, ChnBg, ChnMath6. -/
import Derived.Test.YtejcjmiofidedaaGreatDoorJChnM
import Derived.Test.YtejcjmiofidedaaGreatDoorJChnH
import Derived.Test.YtejcjmiofidedaaGreatDoorJChnI
import Derived.Test.YtejcjmiofidedaaGreatDoorJChnV
import Derived.Test.YtejcjmiofidedaaGreatDoorJChnW
import Derived.Test.YtejcjmiofidedaaGreatDoorSegSA
import Derived.Test.YtejcjmiofidedaaGreatDoorJChnF
/- What a log's batches are behind a closed segment's batches were left out. Nothing of the program. -/
namespace Go.Proofs.YtejcjmiofidedaaGreatDoor.Chn
open Oct Rec Crc Bat Seg

theorem ris_mono {lo lo' : Int} {l : List Bt} (h : lo' ≤ lo) (hr : ris lo l = true) : ris lo' l = true := by
  cases l with
  | nil => rfl
  | cons b l =>
    obtain ⟨⟨h1, h2⟩, h3⟩ := ris_cons.1 hr
    exact ris_cons.2 ⟨⟨h1, by omega⟩, h3⟩
theorem ris_pair {lo : Int} {l : List Bt} (h : ris lo l = true) : l.Pairwise fun a b => a.base < b.base := by
  induction l generalizing lo with
  | nil => exact List.Pairwise.nil
  | cons b l ih =>
    obtain ⟨⟨h1, h2⟩, h3⟩ := ris_cons.1 h
    have h4 := chB_last h1
    exact List.pairwise_cons.2 ⟨fun c hc => by have h5 := (ris_ge h3 c hc).1; omega, ih h3⟩
theorem chain_ris {limit : Int} {l : List Sg} : ∀ {o : Option Sg}, chS limit o l = true → ∀ s r, l = s :: r → ris s.base (l.flatMap Seg.batS) = true := by
  induction l with
  | nil => intro o _ s r h; cases h
  | cons u l ih =>
    intro o h s r he
    obtain ⟨rfl, rfl⟩ : u = s ∧ l = r := by injection he with h1 h2; exact ⟨h1, h2⟩
    obtain ⟨h1, h2, h3, h4⟩ := chS_cons.1 h
    rw [List.flatMap_cons, ris_app]
    refine ⟨(sc_good u.base u.bytes).1, ?_⟩
    cases l with
    | nil => rfl
    | cons t l =>
      obtain ⟨_, _, g3, _⟩ := chS_cons.1 h4
      exact ris_mono (folS_iff.1 g3).2 (ih h4 t l rfl)
theorem log_pair {l : Lg} (hc : ckL l = 0) : (batL l).Pairwise fun a b => a.base < b.base := by
  obtain ⟨⟨_, _, c3⟩, c4, _⟩ := ckL_iff.1 hc
  cases hs : l.segs with
  | nil => exact absurd hs c3
  | cons s r => unfold batL; exact ris_pair (chain_ris c4 s r hs)
def pB (L S : List Bt) (b : Bt) : Bool := !(L.any fun x => decide (x.base = b.base)) || S.any fun x => decide (x.base = b.base)
theorem any_no {L : List Bt} {v : Int} (h : ∀ x ∈ L, x.base ≠ v) : (L.any fun x => decide (x.base = v)) = false := by
  rw [List.any_eq_false]
  intro x hx
  simpa using h x hx
theorem any_yes {L : List Bt} {b : Bt} (h : b ∈ L) : (L.any fun x => decide (x.base = b.base)) = true := List.any_eq_true.2 ⟨b, h, decide_eq_true rfl⟩
theorem filt_sub {S L : List Bt} (h : S.Sublist L) (hp : L.Pairwise fun a b => a.base < b.base) : L.filter (fun b => S.any fun x => decide (x.base = b.base)) = S := by
  induction h with
  | slnil => rfl
  | cons a h ih =>
    obtain ⟨h1, h2⟩ := List.pairwise_cons.1 hp
    rw [List.filter_cons_of_neg, ih h2]
    rw [any_no fun x hx => by have h3 := h1 x (h.subset hx); omega]
    simp
  | cons_cons a h ih =>
    obtain ⟨h1, h2⟩ := List.pairwise_cons.1 hp
    rw [List.filter_cons_of_pos (by simp)]
    congr 1
    refine Eq.trans (List.filter_congr fun b hb => ?_) (ih h2)
    have h3 := h1 b hb
    rw [List.any_cons, decide_eq_false (show ¬ a.base = b.base by omega), Bool.false_or]
theorem filt_mid {P L Q S : List Bt} (hp : (P ++ (L ++ Q)).Pairwise fun a b => a.base < b.base) (hS : S.Sublist L) : (P ++ (L ++ Q)).filter (pB L S) = P ++ (S ++ Q) := by
  obtain ⟨_, p2, p3⟩ := List.pairwise_append.1 hp
  obtain ⟨q1, _, q3⟩ := List.pairwise_append.1 p2
  rw [List.filter_append, List.filter_append]
  congr 1
  · refine List.filter_eq_self.2 fun b hb => ?_
    unfold pB
    rw [any_no fun x hx => by have h3 := p3 b hb x (List.mem_append_left _ hx); omega]
    rfl
  · congr 1
    · refine Eq.trans (List.filter_congr fun b hb => ?_) (filt_sub hS q1)
      unfold pB
      rw [any_yes hb]
      rfl
    · refine List.filter_eq_self.2 fun b hb => ?_
      unfold pB
      rw [any_no fun x hx => by have h3 := q3 x hx b hb; omega]
      rfl
theorem repl_want {l : Lg} (hc : ckL l = 0) {pre post : List Sg} {s t : Sg} (hs : l.segs = pre ++ s :: t :: post) {S : List Bt} (hS : S.Sublist (Seg.batS s)) : allL ⟨l.limit, l.start, pre ++ ⟨s.base, byR S⟩ :: t :: post⟩ = (allL l).filter (pB (Seg.batS s) S) := by
  have h4 := (repl_some hc hs hS).2.2.2
  have hp := log_pair hc
  have hb : batL l = pre.flatMap Seg.batS ++ (Seg.batS s ++ (t :: post).flatMap Seg.batS) := by unfold batL; rw [hs, List.flatMap_append, List.flatMap_cons]
  rw [hb] at hp
  unfold allL
  rw [h4, hb, ← filt_mid hp hS, List.filter_filter, List.filter_filter]
  exact List.filter_congr fun b _ => Bool.and_comm _ _
theorem repl_same {l : Lg} (hc : ckL l = 0) {pre post : List Sg} {s t : Sg} (hs : l.segs = pre ++ s :: t :: post) : replL l (pre.length : Int) (Seg.batS s) = (l, 0) := by
  have h1 := (repl_some hc hs (List.Sublist.refl _)).1
  have hw : wholeS s = true := by
    have h2 := (ckL_iff.1 hc).2.1
    rw [hs] at h2
    obtain ⟨_, h3⟩ := chS_app.1 h2
    exact (chS_cons.1 h3).1
  have h5 : (⟨s.base, byR (Seg.batS s)⟩ : Sg) = s := by rw [← (wholeS_iff.1 hw).2]
  rw [h1, h5, ← hs]
end Go.Proofs.YtejcjmiofidedaaGreatDoor.Chn

/- The laws' own begins. -/
namespace Go.Proofs.YtejcjmiofidedaaGreatDoor.Chn
open Go.RowKit Oct Rec Crc Bat Lay Seg RowF InR

def tb_begins5 : List (Nat × Nat) := [(0, 536870911), (1, 536870910), (2, 536870909), (6, 536870907), (8, 536870903), (24, 536870887), (8, 536870903), (72, 536870839), (168, 536870743), (264, 536870647), (520, 536870399), (1024, 536869887), (3072, 536867839), (5120, 536865791), (9216, 536862719), (16384, 536854527), (16384, 536854527), (114688, 536756223), (147456, 536723455), (278528, 536592383), (655360, 536346623), (1048576, 535822335), (1048576, 535822335), (5242880, 531628031), (1048576, 535822335), (26214400, 519045119), (42991616, 493879295), (70254592, 466616319), (135266304, 401604607)]
theorem bytesL_le {m : Nat} : ∀ {l : List Sg}, (∀ s ∈ l, s.bytes.length ≤ m) → 0 ≤ bytesL l ∧ bytesL l ≤ (l.length * m : Nat)
  | [], _ => by unfold bytesL; simp
  | s :: l, h => by
    have h1 := bytesL_le (l := l) fun t ht => h t (List.mem_cons_of_mem _ ht)
    have h2 := h s (List.mem_cons_self ..)
    unfold bytesL at h1 ⊢
    rw [List.map_cons, List.sum_cons, List.length_cons, Nat.succ_mul]
    omega
set_option maxRecDepth 100000 in
set_option maxHeartbeats 16000000 in
theorem begins9_is (lim start : Int) (A : Option Addr) (n c : Nat) (l : List Sg) (lm2 st2 : Int) (A1 : Option Addr) (n1 c1 : Nat) (x : List Sg) (w : World) (hr : RdG w w.heap.size A n l) (hx : RdG w w.heap.size A1 n1 x) (ht : Tab w) (hc : n ≤ c) (hc1 : n1 ≤ c1) (hn : n ≤ 300) (hn1 : n1 ≤ 300)
    {yl ys lost : Int} {y : List Sg} (h1 : recL ⟨lm2, st2, x⟩ = (⟨yl, ys, y⟩, lost)) (h2 : recL ⟨yl, ys, y⟩ = (⟨yl, ys, y⟩, 0)) (h3 : ckL ⟨yl, ys, y⟩ = 0) (h6 : allT ⟨yl, ys, y⟩ = (allT ⟨lim, start, l⟩).take (allT ⟨yl, ys, y⟩).length) (h7 : lost = bytesL x - bytesL y) :
    Calls Tryz.prog 42 #[.agg #[.int .i64 lim, .int .i64 start, .slice A n c], .agg #[.int .i64 lm2, .int .i64 st2, .slice A1 n1 c1]] w fun e w' => e = .returned (.bool true) ∧ Below w.heap.size w w' := by
  have hba : Below w.heap.size w ((w.alloc (.cells #[.int .i64 lim, .int .i64 start, .slice A n c] 24)).alloc (.cells #[.int .i64 lm2, .int .i64 st2, .slice A1 n1 c1] 24)) := bel_alloc (belA w _) _
  have HT_0 := Lib.hid (ht.bel hba)
  have HW_0 := Lib.hid hba
  have HL_0 := Lib.hid ((At0.new w [.int .i64 lim, .int .i64 start, .slice A n c] 24).alloc (.cells #[.int .i64 lm2, .int .i64 st2, .slice A1 n1 c1] 24))
  have HX_0 := Lib.hid (at0_1 w (.cells #[.int .i64 lim, .int .i64 start, .slice A n c] 24) [.int .i64 lm2, .int .i64 st2, .slice A1 n1 c1] 24)
  have HLR_0 := Lib.hid (rdgUp hr hba)
  have HXR_0 := Lib.hid (rdgUp hx hba)
  have hmx : Tryz.prog.follows .mixedOrders = true := by kernel_rfl
  have hyl : y.length ≤ 256 := (ckL_iff.1 h3).2.2
  obtain ⟨T, hT⟩ : ∃ T, allT ⟨lim, start, l⟩ = T := ⟨_, rfl⟩
  obtain ⟨U, hU⟩ : ∃ U, allT ⟨yl, ys, y⟩ = U := ⟨_, rfl⟩
  rw [hT, hU] at h6
  have hul : U.length ≤ T.length := by have h9 := congrArg List.length h6; rw [List.length_take] at h9; omega
  have htl : T.length ≤ 300000000 := by have h9 := allT_len (l := ⟨lim, start, l⟩) hr.small; have h8 := hr.len; rw [hT] at h9; simp only [gMax] at h9; rw [h8] at h9; omega
  obtain ⟨BX, hBX⟩ : ∃ z, bytesL x = z := ⟨_, rfl⟩
  obtain ⟨BY, hBY⟩ : ∃ z, bytesL y = z := ⟨_, rfl⟩
  have hbx := bytesL_le hx.small
  rw [hBX, hx.len] at hbx
  simp only [gMax] at hbx
  have H1 := Lib.hid h1
  have H2 := Lib.hid h2
  have H3 := Lib.hid h3
  have H6 := Lib.hid h6
  have HT9 := Lib.hid hT
  have HU9 := Lib.hid hU
  have HBX := Lib.hid hBX
  have HBY := Lib.hid hBY
  have HYL := Lib.hid hyl
  have HUL := Lib.hid hul
  have HTL := Lib.hid htl
  have HL7 := Lib.hid (show lost = BX - BY by rw [← hBX, ← hBY]; exact h7)
  have hbx1 := hbx.1
  have hbx2 : BX ≤ 300000000 := by omega
  clear hr hx ht hba h1 h2 h3 h6 h7 hT hU hBX hBY hyl hul htl hbx
  go_enter Tryz.func42, Tryz.ntmps42
  go_wp2_with (first
    | (go_at_call 35; (with_reducible refine (Recover_is lm2 st2 A1 n1 c1 x _ HXR_0.out HT_0.out hc1 (by omega) H1.out).mono ?_); rintro e w3 ⟨A3, n3, c3, rfl, ho, hb⟩; have HW_3 := Lib.hid (bel_trans HW_0.out hb); have HT_3 := Lib.hid (HT_0.out.bel hb); have HL_3 := Lib.hid (HL_0.out.below hb); have HX_3 := Lib.hid (HX_0.out.below hb); have HLR_3 := Lib.hid (rdgUp HLR_0.out hb); have HXR_3 := Lib.hid (rdgUp HXR_0.out hb); have hc3 := ho.cap; have HN3 := Lib.hid ho.len; have HYR_3 := Lib.hid (ho.rd); have hba := belA w3 (.cells #[.int .i64 yl, .int .i64 ys, .slice A3 n3 c3] 24); have HW_3a := Lib.hid (bel_trans HW_3.out hba); have HT_3a := Lib.hid (HT_3.out.bel hba); have HL_3a := Lib.hid (HL_3.out.below hba); have HX_3a := Lib.hid (HX_3.out.below hba); have HLR_3a := Lib.hid (rdgUp HLR_3.out hba); have HXR_3a := Lib.hid (rdgUp HXR_3.out hba); have HYR_3a := Lib.hid (rdgUp HYR_3.out hba); have HY_3a := Lib.hid (At0.new w3 [.int .i64 yl, .int .i64 ys, .slice A3 n3 c3] 24); have hn3 : n3 ≤ 256 := (by have h8 := HYL.out; have h9 := ho.len; omega); have HYS := Lib.hid ho.rd.small; clear hb hba ho)
    | (go_at_call 35; (with_reducible refine (Recover_is yl ys A3 n3 c3 y _ HYR_3a.out HT_3a.out hc3 (by omega) H2.out).mono ?_); rintro e w4 ⟨A4, n4, c4, rfl, ho, hb⟩; have HW_4 := Lib.hid (bel_trans HW_3a.out hb); have HT_4 := Lib.hid (HT_3a.out.bel hb); have HL_4 := Lib.hid (HL_3a.out.below hb); have HX_4 := Lib.hid (HX_3a.out.below hb); have HLR_4 := Lib.hid (rdgUp HLR_3a.out hb); have HXR_4 := Lib.hid (rdgUp HXR_3a.out hb); have HYR_4 := Lib.hid (rdgUp HYR_3a.out hb); have HY_4 := Lib.hid (HY_3a.out.below hb); have hc4 := ho.cap; have HN4 := Lib.hid ho.len; have HVR_4 := Lib.hid (ho.rd); have hba := belA w4 (.cells #[.int .i64 yl, .int .i64 ys, .slice A4 n4 c4] 24); have HW_4a := Lib.hid (bel_trans HW_4.out hba); have HT_4a := Lib.hid (HT_4.out.bel hba); have HL_4a := Lib.hid (HL_4.out.below hba); have HX_4a := Lib.hid (HX_4.out.below hba); have HLR_4a := Lib.hid (rdgUp HLR_4.out hba); have HXR_4a := Lib.hid (rdgUp HXR_4.out hba); have HYR_4a := Lib.hid (rdgUp HYR_4.out hba); have HY_4a := Lib.hid (HY_4.out.below hba); have HVR_4a := Lib.hid (rdgUp HVR_4.out hba); have HV_4a := Lib.hid (At0.new w4 [.int .i64 yl, .int .i64 ys, .slice A4 n4 c4] 24); obtain ⟨hl4a_0, hl4a_1, hl4a_2⟩ := cel3 HL_4a.out; obtain rfl : n3 = n4 := HN3.out.symm.trans ho.len; clear hb hba ho)
    | (go_at_call 21; (with_reducible refine (All_is lim start A n c l _ HLR_4a.out HT_4a.out hc (by omega) HT9.out).mono ?_); rintro e w5 ⟨A5, n5, c5, rfl, ho, hb⟩; have HW_5 := Lib.hid (bel_trans HW_4a.out hb); have HT_5 := Lib.hid (HT_4a.out.bel hb); have HL_5 := Lib.hid (HL_4a.out.below hb); have HX_5 := Lib.hid (HX_4a.out.below hb); have HLR_5 := Lib.hid (rdgUp HLR_4a.out hb); have HXR_5 := Lib.hid (rdgUp HXR_4a.out hb); have HYR_5 := Lib.hid (rdgUp HYR_4a.out hb); have HY_5 := Lib.hid (HY_4a.out.below hb); have HVR_5 := Lib.hid (rdgUp HVR_4a.out hb); have HV_5 := Lib.hid (HV_4a.out.below hb); have hc5 := ho.cap; have HN5 := Lib.hid ho.len; have HOT5 := Lib.hid ho; have HTR_5 := Lib.hid (ho.rd); obtain ⟨hy5_0, hy5_1, hy5_2⟩ := cel3 HY_5.out; clear hb ho)
    | (go_at_call 21; (with_reducible refine (All_is yl ys A3 n3 c3 y _ HYR_5.out HT_5.out hc3 (by omega) HU9.out).mono ?_); rintro e w6 ⟨A6, n6, c6, rfl, ho, hb⟩; have HW_6 := Lib.hid (bel_trans HW_5.out hb); have HT_6 := Lib.hid (HT_5.out.bel hb); have HL_6 := Lib.hid (HL_5.out.below hb); have HX_6 := Lib.hid (HX_5.out.below hb); have HLR_6 := Lib.hid (rdgUp HLR_5.out hb); have HXR_6 := Lib.hid (rdgUp HXR_5.out hb); have HYR_6 := Lib.hid (rdgUp HYR_5.out hb); have HY_6 := Lib.hid (HY_5.out.below hb); have HVR_6 := Lib.hid (rdgUp HVR_5.out hb); have HV_6 := Lib.hid (HV_5.out.below hb); have HTR_6 := Lib.hid (rdtUp HTR_5.out hb); have hc6 := ho.cap; have HN6 := Lib.hid ho.len; have HOT6 := Lib.hid ho; have HUR_6 := Lib.hid (ho.rd); clear hb ho))
  have hbl : 0 ≤ BY ∧ BY ≤ 256000000 := (by have h9 := bytesL_le HYS.out; rw [HBY.out] at h9; simp only [gMax] at h9; have h8 := HYL.out; have h7 : y.length * 1000000 ≤ 256 * 1000000 := Nat.mul_le_mul_right _ h8; omega)
  have hww : IntKind.i64.wrap (BX - BY) = lost := (by rw [HL7.out]; exact IntWalk.i64_in _ (by omega))
  have hls : (lost != lost) = false := (by simp)
  have hn56 : n6 ≤ n5 := (by have h1 := HUL.out; have h2 := HN5.out; have h3 := HN6.out; omega)
  have hn5 : n5 ≤ 300000000 := (by have h1 := HTL.out; have h2 := HN5.out; omega)
  have hle : ¬ (n5 : Int) < (n6 : Int) := (by omega)
  have hq1 : (n6 : Int) ≤ (c5 : Int) := (by omega)
  have hq2 : (0 : Int) ≤ (n6 : Int) := (by omega)
  clear hbl hbx1 hbx2
  have hbd := (Below.refl w6.heap.size w6).drew
  have HW_R5 := Lib.hid (bel_trans HW_6.out hbd)
  have HT_R5 := Lib.hid (HT_6.out.bel hbd)
  have HL_R5 := Lib.hid (HL_6.out.below hbd)
  have HX_R5 := Lib.hid (HX_6.out.below hbd)
  have HLR_R5 := Lib.hid (rdgUp HLR_6.out hbd)
  have HXR_R5 := Lib.hid (rdgUp HXR_6.out hbd)
  have HYR_R5 := Lib.hid (rdgUp HYR_6.out hbd)
  have HY_R5 := Lib.hid (HY_6.out.below hbd)
  have HVR_R5 := Lib.hid (rdgUp HVR_6.out hbd)
  have HV_R5 := Lib.hid (HV_6.out.below hbd)
  have HTR_R5 := Lib.hid (rdtUp HTR_6.out hbd)
  have HUR_R5 := Lib.hid (rdtUp HUR_6.out hbd)
  have HSR5 := Lib.hid (show (fun W9 : World => W9.cell? ⟨w3.heap.size, 0, none⟩ = some (.int .i64 yl) ∧ W9.cell? ⟨w3.heap.size, 1, none⟩ = some (.int .i64 ys) ∧ W9.cell? ⟨w3.heap.size, 2, none⟩ = some (.slice A3 n3 c3) ∧ W9.cell? ⟨w4.heap.size, 0, none⟩ = some (.int .i64 yl) ∧ W9.cell? ⟨w4.heap.size, 1, none⟩ = some (.int .i64 ys) ∧ W9.cell? ⟨w4.heap.size, 2, none⟩ = some (.slice A4 n3 c4) ∧ W9.cell? ⟨(w.heap.size + 1), 0, none⟩ = some (.int .i64 lm2) ∧ W9.cell? ⟨(w.heap.size + 1), 1, none⟩ = some (.int .i64 st2) ∧ W9.cell? ⟨(w.heap.size + 1), 2, none⟩ = some (.slice A1 n1 c1)) w6.drew from ⟨HY_R5.out.cell 0, HY_R5.out.cell 1, HY_R5.out.cell 2, HV_R5.out.cell 0, HV_R5.out.cell 1, HV_R5.out.cell 2, HX_R5.out.cell 0, HX_R5.out.cell 1, HX_R5.out.cell 2⟩)
  clear hbd
  refine region_let (fun W9 : World => W9.cell? ⟨w3.heap.size, 0, none⟩ = some (.int .i64 yl) ∧ W9.cell? ⟨w3.heap.size, 1, none⟩ = some (.int .i64 ys) ∧ W9.cell? ⟨w3.heap.size, 2, none⟩ = some (.slice A3 n3 c3) ∧ W9.cell? ⟨w4.heap.size, 0, none⟩ = some (.int .i64 yl) ∧ W9.cell? ⟨w4.heap.size, 1, none⟩ = some (.int .i64 ys) ∧ W9.cell? ⟨w4.heap.size, 2, none⟩ = some (.slice A4 n3 c4) ∧ W9.cell? ⟨(w.heap.size + 1), 0, none⟩ = some (.int .i64 lm2) ∧ W9.cell? ⟨(w.heap.size + 1), 1, none⟩ = some (.int .i64 st2) ∧ W9.cell? ⟨(w.heap.size + 1), 2, none⟩ = some (.slice A1 n1 c1)) 99 29 hmx rfl fun ops Q HOPS HQ => ?_
  have HREG := reg_of HOPS tb_begins5 rfl (by kernel_rfl) (by kernel_rfl) (by decide)
  refine xq 0 HOPS HREG HSR5.out ?_; simp only [ls0, ls1]
  refine xc 1 HOPS ?_
  go_simp
  with_reducible refine (Chn.Check_is yl ys A3 n3 c3 y _ HYR_R5.out HT_R5.out (by omega) H3.out).mono ?_
  rintro e w7 ⟨rfl, hb⟩
  have HW_7 := Lib.hid (bel_trans HW_R5.out hb)
  have HT_7 := Lib.hid (HT_R5.out.bel hb)
  have HL_7 := Lib.hid (HL_R5.out.below hb)
  have HX_7 := Lib.hid (HX_R5.out.below hb)
  have HLR_7 := Lib.hid (rdgUp HLR_R5.out hb)
  have HXR_7 := Lib.hid (rdgUp HXR_R5.out hb)
  have HYR_7 := Lib.hid (rdgUp HYR_R5.out hb)
  have HY_7 := Lib.hid (HY_R5.out.below hb)
  have HVR_7 := Lib.hid (rdgUp HVR_R5.out hb)
  have HV_7 := Lib.hid (HV_R5.out.below hb)
  have HTR_7 := Lib.hid (rdtUp HTR_R5.out hb)
  have HUR_7 := Lib.hid (rdtUp HUR_R5.out hb)
  have HSR5w7 := Lib.hid (show (fun W9 : World => W9.cell? ⟨w3.heap.size, 0, none⟩ = some (.int .i64 yl) ∧ W9.cell? ⟨w3.heap.size, 1, none⟩ = some (.int .i64 ys) ∧ W9.cell? ⟨w3.heap.size, 2, none⟩ = some (.slice A3 n3 c3) ∧ W9.cell? ⟨w4.heap.size, 0, none⟩ = some (.int .i64 yl) ∧ W9.cell? ⟨w4.heap.size, 1, none⟩ = some (.int .i64 ys) ∧ W9.cell? ⟨w4.heap.size, 2, none⟩ = some (.slice A4 n3 c4) ∧ W9.cell? ⟨(w.heap.size + 1), 0, none⟩ = some (.int .i64 lm2) ∧ W9.cell? ⟨(w.heap.size + 1), 1, none⟩ = some (.int .i64 st2) ∧ W9.cell? ⟨(w.heap.size + 1), 2, none⟩ = some (.slice A1 n1 c1)) w7 from ⟨HY_7.out.cell 0, HY_7.out.cell 1, HY_7.out.cell 2, HV_7.out.cell 0, HV_7.out.cell 1, HV_7.out.cell 2, HX_7.out.cell 0, HX_7.out.cell 1, HX_7.out.cell 2⟩)
  clear hb
  refine ⟨HSR5w7.out, ?_⟩
  refine xq 2 HOPS HREG HSR5w7.out ?_; simp only [ls0, ls1]; refine xq 3 HOPS HREG HSR5w7.out ?_; simp only [ls0, ls1]; refine xq 4 HOPS HREG HSR5w7.out ?_; simp only [ls0, ls1]; refine xq 5 HOPS HREG HSR5w7.out ?_; simp only [ls0, ls1]; refine xq 6 HOPS HREG HSR5w7.out ?_; simp only [ls0, ls1]; refine xq 7 HOPS HREG HSR5w7.out ?_; simp only [ls0, ls1]; refine xq 8 HOPS HREG HSR5w7.out ?_; simp only [ls0, ls1]; refine xq 9 HOPS HREG HSR5w7.out ?_; simp only [ls0, ls1]; refine xq 10 HOPS HREG HSR5w7.out ?_; simp only [ls0, ls1]; refine xq 11 HOPS HREG HSR5w7.out ?_; simp only [ls0, ls1]; refine xq 12 HOPS HREG HSR5w7.out ?_; simp only [ls0, ls1]; refine xq 13 HOPS HREG HSR5w7.out ?_; simp only [ls0, ls1]; refine xq 14 HOPS HREG HSR5w7.out ?_; simp only [ls0, ls1]; refine xq 15 HOPS HREG HSR5w7.out ?_; simp only [ls0, ls1]; refine xq 16 HOPS HREG HSR5w7.out ?_; simp only [ls0, ls1]
  refine xc 17 HOPS ?_
  go_simp
  with_reducible refine (rSame_is yl ys A4 A3 n3 c4 c3 y _ HVR_7.out HYR_7.out (by omega)).mono ?_
  rintro e w8 ⟨rfl, hb⟩
  have HW_8 := Lib.hid (bel_trans HW_7.out hb)
  have HT_8 := Lib.hid (HT_7.out.bel hb)
  have HL_8 := Lib.hid (HL_7.out.below hb)
  have HX_8 := Lib.hid (HX_7.out.below hb)
  have HLR_8 := Lib.hid (rdgUp HLR_7.out hb)
  have HXR_8 := Lib.hid (rdgUp HXR_7.out hb)
  have HYR_8 := Lib.hid (rdgUp HYR_7.out hb)
  have HY_8 := Lib.hid (HY_7.out.below hb)
  have HVR_8 := Lib.hid (rdgUp HVR_7.out hb)
  have HV_8 := Lib.hid (HV_7.out.below hb)
  have HTR_8 := Lib.hid (rdtUp HTR_7.out hb)
  have HUR_8 := Lib.hid (rdtUp HUR_7.out hb)
  have HSR5w8 := Lib.hid (show (fun W9 : World => W9.cell? ⟨w3.heap.size, 0, none⟩ = some (.int .i64 yl) ∧ W9.cell? ⟨w3.heap.size, 1, none⟩ = some (.int .i64 ys) ∧ W9.cell? ⟨w3.heap.size, 2, none⟩ = some (.slice A3 n3 c3) ∧ W9.cell? ⟨w4.heap.size, 0, none⟩ = some (.int .i64 yl) ∧ W9.cell? ⟨w4.heap.size, 1, none⟩ = some (.int .i64 ys) ∧ W9.cell? ⟨w4.heap.size, 2, none⟩ = some (.slice A4 n3 c4) ∧ W9.cell? ⟨(w.heap.size + 1), 0, none⟩ = some (.int .i64 lm2) ∧ W9.cell? ⟨(w.heap.size + 1), 1, none⟩ = some (.int .i64 st2) ∧ W9.cell? ⟨(w.heap.size + 1), 2, none⟩ = some (.slice A1 n1 c1)) w8 from ⟨HY_8.out.cell 0, HY_8.out.cell 1, HY_8.out.cell 2, HV_8.out.cell 0, HV_8.out.cell 1, HV_8.out.cell 2, HX_8.out.cell 0, HX_8.out.cell 1, HX_8.out.cell 2⟩)
  clear hb
  refine ⟨HSR5w8.out, ?_⟩
  refine xq 18 HOPS HREG HSR5w8.out ?_; simp only [ls0, ls1]; refine xq 19 HOPS HREG HSR5w8.out ?_; simp only [ls0, ls1]; refine xq 20 HOPS HREG HSR5w8.out ?_; simp only [ls0, ls1]; refine xq 21 HOPS HREG HSR5w8.out ?_; simp only [ls0, ls1]; refine xq 22 HOPS HREG HSR5w8.out ?_; simp only [ls0, ls1]; refine xq 24 HOPS HREG HSR5w8.out ?_; simp only [ls0, ls1]
  refine xc 23 HOPS ?_
  go_simp
  with_reducible refine (bytes9_is lm2 st2 A1 n1 c1 x _ HXR_8.out (by omega) HBX.out).mono ?_
  rintro e w9 ⟨rfl, hb⟩
  have HW_9 := Lib.hid (bel_trans HW_8.out hb)
  have HT_9 := Lib.hid (HT_8.out.bel hb)
  have HL_9 := Lib.hid (HL_8.out.below hb)
  have HX_9 := Lib.hid (HX_8.out.below hb)
  have HLR_9 := Lib.hid (rdgUp HLR_8.out hb)
  have HXR_9 := Lib.hid (rdgUp HXR_8.out hb)
  have HYR_9 := Lib.hid (rdgUp HYR_8.out hb)
  have HY_9 := Lib.hid (HY_8.out.below hb)
  have HVR_9 := Lib.hid (rdgUp HVR_8.out hb)
  have HV_9 := Lib.hid (HV_8.out.below hb)
  have HTR_9 := Lib.hid (rdtUp HTR_8.out hb)
  have HUR_9 := Lib.hid (rdtUp HUR_8.out hb)
  have HSR5w9 := Lib.hid (show (fun W9 : World => W9.cell? ⟨w3.heap.size, 0, none⟩ = some (.int .i64 yl) ∧ W9.cell? ⟨w3.heap.size, 1, none⟩ = some (.int .i64 ys) ∧ W9.cell? ⟨w3.heap.size, 2, none⟩ = some (.slice A3 n3 c3) ∧ W9.cell? ⟨w4.heap.size, 0, none⟩ = some (.int .i64 yl) ∧ W9.cell? ⟨w4.heap.size, 1, none⟩ = some (.int .i64 ys) ∧ W9.cell? ⟨w4.heap.size, 2, none⟩ = some (.slice A4 n3 c4) ∧ W9.cell? ⟨(w.heap.size + 1), 0, none⟩ = some (.int .i64 lm2) ∧ W9.cell? ⟨(w.heap.size + 1), 1, none⟩ = some (.int .i64 st2) ∧ W9.cell? ⟨(w.heap.size + 1), 2, none⟩ = some (.slice A1 n1 c1)) w9 from ⟨HY_9.out.cell 0, HY_9.out.cell 1, HY_9.out.cell 2, HV_9.out.cell 0, HV_9.out.cell 1, HV_9.out.cell 2, HX_9.out.cell 0, HX_9.out.cell 1, HX_9.out.cell 2⟩)
  clear hb
  refine ⟨HSR5w9.out, ?_⟩
  refine xc 25 HOPS ?_
  go_simp
  with_reducible refine (bytes9_is yl ys A3 n3 c3 y _ HYR_9.out (by omega) HBY.out).mono ?_
  rintro e w10 ⟨rfl, hb⟩
  have HW_10 := Lib.hid (bel_trans HW_9.out hb)
  have HT_10 := Lib.hid (HT_9.out.bel hb)
  have HL_10 := Lib.hid (HL_9.out.below hb)
  have HX_10 := Lib.hid (HX_9.out.below hb)
  have HLR_10 := Lib.hid (rdgUp HLR_9.out hb)
  have HXR_10 := Lib.hid (rdgUp HXR_9.out hb)
  have HYR_10 := Lib.hid (rdgUp HYR_9.out hb)
  have HY_10 := Lib.hid (HY_9.out.below hb)
  have HVR_10 := Lib.hid (rdgUp HVR_9.out hb)
  have HV_10 := Lib.hid (HV_9.out.below hb)
  have HTR_10 := Lib.hid (rdtUp HTR_9.out hb)
  have HUR_10 := Lib.hid (rdtUp HUR_9.out hb)
  have HSR5w10 := Lib.hid (show (fun W9 : World => W9.cell? ⟨w3.heap.size, 0, none⟩ = some (.int .i64 yl) ∧ W9.cell? ⟨w3.heap.size, 1, none⟩ = some (.int .i64 ys) ∧ W9.cell? ⟨w3.heap.size, 2, none⟩ = some (.slice A3 n3 c3) ∧ W9.cell? ⟨w4.heap.size, 0, none⟩ = some (.int .i64 yl) ∧ W9.cell? ⟨w4.heap.size, 1, none⟩ = some (.int .i64 ys) ∧ W9.cell? ⟨w4.heap.size, 2, none⟩ = some (.slice A4 n3 c4) ∧ W9.cell? ⟨(w.heap.size + 1), 0, none⟩ = some (.int .i64 lm2) ∧ W9.cell? ⟨(w.heap.size + 1), 1, none⟩ = some (.int .i64 st2) ∧ W9.cell? ⟨(w.heap.size + 1), 2, none⟩ = some (.slice A1 n1 c1)) w10 from ⟨HY_10.out.cell 0, HY_10.out.cell 1, HY_10.out.cell 2, HV_10.out.cell 0, HV_10.out.cell 1, HV_10.out.cell 2, HX_10.out.cell 0, HX_10.out.cell 1, HX_10.out.cell 2⟩)
  clear hb
  refine ⟨HSR5w10.out, ?_⟩
  refine xq 26 HOPS HREG HSR5w10.out ?_; simp only [ls0, ls1]; refine xq 27 HOPS HREG HSR5w10.out ?_; simp only [ls0, ls1]; refine xq 28 HOPS HREG HSR5w10.out ?_; simp only [ls0, ls1]
  refine stepE HOPS (by kernel_rfl) (HQ.out _ _ ?_)
  clear HQ HREG HOPS
  clear Q ops
  go_wp2_with (first
    | (go_at_call 20; (with_reducible refine (SameAll_is A6 A5 n6 c6 n6 c5 U (T.take n6) _ HUR_10.out (RdT.take HTR_10.out hn56) (by omega) (by omega) (show eqT U (T.take n6) = true by rw [← HN6.out, ← H6.out]; exact eqT_self _)).mono ?_); rintro e w11 ⟨rfl, hb⟩; have HW11 := Lib.hid (bel_trans HW_10.out hb); clear hb))
  go_ret
  exact ⟨rfl, HW11.out⟩
end Go.Proofs.YtejcjmiofidedaaGreatDoor.Chn

/- What is recovered of a log one of whose segments is another one, and a row of segments copied. -/
namespace Go.Proofs.YtejcjmiofidedaaGreatDoor.Chn
open Go.RowKit Oct Rec Crc Bat Seg RowF

theorem recL_cons {lim st : Int} {s : Sg} {r : List Sg} (h1 : 256 ≤ lim ∧ lim ≤ 4096) (h2 : 0 ≤ st ∧ st ≤ 1099511627776) (h3 : inO s.base = true) : recL ⟨lim, st, s :: r⟩ = (⟨lim, st, (recS true none (s :: r)).1⟩, (recS true none (s :: r)).2) := by
  show (if ((256 ≤ lim ∧ lim ≤ 4096) ∧ (0 ≤ st ∧ st ≤ 1099511627776) ∧ inO s.base = true) then _ else _) = _
  rw [if_pos ⟨h1, h2, h3⟩]
theorem recL_app {lim st : Int} {pre post : List Sg} {t t' : Sg} (h1 : 256 ≤ lim ∧ lim ≤ 4096) (h2 : 0 ≤ st ∧ st ≤ 1099511627776) (h3 : chS lim none (pre ++ t :: post) = true) (hb : t'.base = t.base) (r : List Sg) : recL ⟨lim, st, pre ++ t' :: r⟩ = (⟨lim, st, (recS true none (pre ++ t' :: r)).1⟩, (recS true none (pre ++ t' :: r)).2) := by
  cases pre with
  | nil =>
    have h4 := (wholeS_iff.1 (chS_cons.1 h3).1).1
    exact recL_cons h1 h2 (by rw [hb]; exact decide_eq_true h4)
  | cons s pre =>
    have h4 := (wholeS_iff.1 (chS_cons.1 h3).1).1
    exact recL_cons h1 h2 (decide_eq_true h4)
theorem take_self {U T : List Bt} {j : Nat} (h : U = T.take j) : U = T.take U.length := by
  have h1 : U.length = min j T.length := by rw [h, List.length_take]
  rw [h1, h]
  by_cases h2 : j ≤ T.length
  · rw [Nat.min_eq_left h2]
  · rw [Nat.min_eq_right (by omega), List.take_length, List.take_of_length_le (by omega)]
theorem begins_all {l : Lg} (hc : ckL l = 0) {pre post : List Sg} {t t' : Sg} (hs : l.segs = pre ++ t :: post) (hb : t'.base = t.base) (hl : (t'.bytes.length : Int) ≤ l.limit) {k : Nat} (hk : batS t' = (batS t).take k) (hw : wholeS t' = false ∨ post = []) :
    recL ⟨l.limit, l.start, pre ++ t' :: post⟩ = (⟨l.limit, l.start, pre ++ [(fixS t').1]⟩, (fixS t').2 + bytesL post) ∧ recL ⟨l.limit, l.start, pre ++ [(fixS t').1]⟩ = (⟨l.limit, l.start, pre ++ [(fixS t').1]⟩, 0) ∧ ckL ⟨l.limit, l.start, pre ++ [(fixS t').1]⟩ = 0 ∧
      allT ⟨l.limit, l.start, pre ++ [(fixS t').1]⟩ = (allT l).take (allT ⟨l.limit, l.start, pre ++ [(fixS t').1]⟩).length ∧ (fixS t').2 + bytesL post = bytesL (pre ++ t' :: post) - bytesL (pre ++ [(fixS t').1]) := by
  obtain ⟨b1, b2, ⟨j, b3⟩, b4⟩ := begins_ok hc hs hb hl hk hw
  obtain ⟨⟨c1, c2, _⟩, c4, _⟩ := ckL_iff.1 hc
  rw [hs] at c4
  have hf : (fixS t').1.base = t.base := hb
  refine ⟨by rw [recL_app c1 c2 c4 hb, b1], by rw [recL_app c1 c2 c4 hf, b4], b2, ?_, ?_⟩
  · unfold allT
    rw [if_pos b2, if_pos hc]
    exact take_self b3
  · have h9 := rec_lost true none (pre ++ t' :: post)
    rw [b1] at h9
    exact h9
section
variable {P : Nat → Prop} {B0 M n c : Nat} {A : Option Addr} {l : List Sg}
theorem copy_run (w : World) (hr : RdG w B0 A n l) (hB : B0 ≤ w.heap.size) (hn : n ≤ 1000000) :
    ∃ A7 c7 w7, (Builtin.append_ #[22, 22] 22 #[.slice (some ⟨w.heap.size, 0, none⟩) 0 0, .slice A n c]).run Tryz.prog (w.alloc (.cells #[] 59)) = .ok (.slice A7 n c7) w7 ∧ OwnG w7 59 (fun b => b < B0) w.heap.size (.slice A7 n c7) n l ∧ Below w.heap.size w w7 := by
  have hbel := belA w (.cells #[] 59)
  obtain ⟨hs, h1, h2, h3⟩ := rdF_of_rdG (hr.below hbel hB)
  have h0 : OwnF segC 2 (w.alloc (.cells #[] 59)) 59 w.heap.size (.slice (some ⟨w.heap.size, 0, none⟩) 0 0) 0 [] := World.ownsRow_lit w _ 0 (Nat.le_refl _) (by unfold maxLen; omega) (by simp)
  obtain ⟨A7, c7, w7, k1, k2, k3, k4⟩ := run_appFG (P := Tryz.prog) (w.alloc (.cells #[] 59)) segSh 32 w.heap.size 22 22 59 Tryz.underlying22 segInfo _ 0 [] h0 _ A n c hs h1 (by omega) (by omega) hbel.size
  rw [Nat.zero_add] at k1 k2 k4
  refine ⟨A7, c7, w7, k1, ⟨hs, k2, h2, fun x hx => ?_⟩, hbel.trans (below_of_grown _ h0 k3 hbel.size)⟩
  obtain ⟨g1, g2, g3, g4⟩ := h3 x hx
  have hkeep : ∀ p : Addr, p.block < B0 → w7.cell? p = (w.alloc (.cells #[] 59)).cell? p := fun p hp => World.cell?_of_block (k3.block p.block (by have := hbel.size; omega) (by simp [Value.ownBlock]; omega))
  have hlt : ∀ g, (Value.slice A7 n c7).ownBlock = some g → B0 ≤ g := fun g hg => Nat.le_trans hB (World.ownsRow.lt k2 g hg).1
  exact leadG_of (s := x.1) (g3.keep hkeep) (by have := k3.size; have := hbel.size; omega) g1 g2 g4 hlt
theorem OwnG.putP {w : World} {e : TypeId} {k n6 c6 : Nat} {A6 : Option Addr} {y : Sg} (h : OwnG w e P M (.slice A n c) n l) (hk : k < n) (hl : LeadG w P (Value.slice A n c).ownBlock ((y, A6, n6, c6) : GX)) :
    ∃ g u v, A = some ⟨g, 0, none⟩ ∧ M ≤ g ∧ g < w.heap.size ∧ w.cell? ⟨g, k * 2, none⟩ = some u ∧ w.cell? ⟨g, k * 2 + 1, none⟩ = some v ∧ (∀ j, w.frozen? ⟨g, j, none⟩ = false) ∧
      OwnG ((w.setCell ⟨g, k * 2, none⟩ (.int .i64 y.base)).setCell ⟨g, k * 2 + 1, none⟩ (.slice A6 n6 c6)) e P M (.slice A n c) n (l.set k y) ∧ Below M w ((w.setCell ⟨g, k * 2, none⟩ (.int .i64 y.base)).setCell ⟨g, k * 2 + 1, none⟩ (.slice A6 n6 c6)) := by
  obtain ⟨hs, h1, h2, h3⟩ := h
  obtain ⟨g, rfl, hMg, hgl⟩ := h1.form (by omega)
  have hlen := h1.len segSh
  obtain ⟨x, hx⟩ : ∃ x, hs[k]? = some x := ⟨_, List.getElem?_eq_getElem (by omega)⟩
  have s1 := h1.set segSh hMg hx (i := 0) (y := ((⟨y.base, x.1.bytes⟩ : Sg), x.2)) (u := .int .i64 y.base) (by omega) rfl
  have hx2 : (hs.set k ((⟨y.base, x.1.bytes⟩ : Sg), x.2))[k]? = some ((⟨y.base, x.1.bytes⟩ : Sg), x.2) := by rw [List.getElem?_set_self (by omega)]
  have s2 := s1.1.set segSh hMg hx2 (i := 1) (y := ((y, A6, n6, c6) : GX)) (u := .slice A6 n6 c6) (by omega) rfl
  rw [List.set_set] at s2
  refine ⟨g, _, _, rfl, hMg, hgl, h1.cellAt segSh hx (i := 0) rfl, h1.cellAt segSh hx (i := 1) rfl, fun j => h1.frozen j, ⟨hs.set k (y, A6, n6, c6), s2.1, by rw [List.map_set, h2], fun z hz => ?_⟩, s1.2.trans s2.2⟩
  have hz9 : LeadG w P (some g) z := by
    rcases List.mem_or_eq_of_mem_set hz with h9 | h9
    · exact h3 z h9
    · rw [h9]; exact hl
  exact hz9.keep (by simp) fun b o hb _ hne => (cell_off (show b ≠ g from fun h9 => hne (by rw [h9]))).trans (cell_off (show b ≠ g from fun h9 => hne (by rw [h9])))
end
end Go.Proofs.YtejcjmiofidedaaGreatDoor.Chn
