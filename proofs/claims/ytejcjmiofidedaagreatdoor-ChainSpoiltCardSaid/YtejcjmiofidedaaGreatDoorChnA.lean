/- Joined: ChnA. -/
import Derived.Test.YtejcjmiofidedaaGreatDoorJChnI
import Derived.Test.YtejcjmiofidedaaGreatDoorJChnF
import Derived.Test.YtejcjmiofidedaaGreatDoorJSegO
/- The contract of the landed chain's Append. -/
namespace Go.Proofs.YtejcjmiofidedaaGreatDoor.Chn
open Go.RowKit RowL Oct Rec Crc Bat Lay Seg RowF InR

theorem apL_ways {l x : Lg} {b : Bt} {e9 : Int} (h : apL l b = (x, e9)) :
    (x = nilL ∧ ((ckL l ≠ 0 ∧ e9 = ckL l) ∨ (ckL l = 0 ∧ chB b ≠ 0 ∧ e9 = chB b) ∨ (ckL l = 0 ∧ chB b = 0 ∧ b.base < endL l ∧ e9 = 71) ∨ (ckL l = 0 ∧ chB b = 0 ∧ ¬ b.base < endL l ∧ ofS b.base [b] l.limit = (nilS, 70) ∧ e9 = 70))) ∨
    (ckL l = 0 ∧ chB b = 0 ∧ ¬ b.base < endL l ∧ ofS b.base [b] l.limit = (⟨b.base, byB b⟩, 0) ∧ ∃ s, l.segs[l.segs.length - 1]? = some s ∧ ((∃ y, apS s b l.limit = (y, 0) ∧ x = ⟨l.limit, l.start, l.segs.take (l.segs.length - 1) ++ [y]⟩ ∧ e9 = 0) ∨
      (∃ y z, apS s b l.limit = (y, z) ∧ z ≠ 0 ∧ ((l.segs.length = 256 ∧ x = nilL ∧ e9 = 2) ∨ (l.segs.length ≠ 256 ∧ x = ⟨l.limit, l.start, l.segs ++ [⟨b.base, byB b⟩]⟩ ∧ e9 = 0))))) := by
  unfold apL at h
  by_cases h1 : ckL l ≠ 0
  · rw [if_pos h1] at h; injection h with h8 h9; exact .inl ⟨h8.symm, .inl ⟨h1, h9.symm⟩⟩
  rw [if_neg h1] at h
  have hck : ckL l = 0 := by omega
  by_cases h2 : chB b ≠ 0
  · rw [if_pos h2] at h; injection h with h8 h9; exact .inl ⟨h8.symm, .inr (.inl ⟨hck, h2, h9.symm⟩)⟩
  rw [if_neg h2] at h
  have hcb : chB b = 0 := by omega
  obtain ⟨⟨c1, c2, c3⟩, c4, c5⟩ := ckL_iff.1 hck
  have hof := of_one hcb (limit := l.limit) (by omega)
  by_cases h3 : b.base < endL l
  · rw [if_pos h3] at h; injection h with h8 h9; exact .inl ⟨h8.symm, .inr (.inr (.inl ⟨hck, hcb, h3, h9.symm⟩))⟩
  rw [if_neg h3] at h
  by_cases h4 : l.limit < ((byB b).length : Int)
  · rw [if_pos h4] at h hof; injection h with h8 h9; exact .inl ⟨h8.symm, .inr (.inr (.inr ⟨hck, hcb, h3, hof, h9.symm⟩))⟩
  rw [if_neg h4] at h hof
  refine .inr ⟨hck, hcb, h3, hof, ?_⟩
  obtain ⟨t, ht, hs⟩ := last_is c3
  have hti : l.segs[l.segs.length - 1]? = some t := by rw [← List.getLast?_eq_getElem?]; exact ht
  refine ⟨t, hti, ?_⟩
  rw [ht] at h
  simp only at h
  rcases hap : apS t b l.limit with ⟨y, z⟩
  rw [hap] at h
  by_cases h5 : z = 0
  · subst h5
    rw [if_pos rfl] at h
    injection h with h8 h9
    exact .inl ⟨y, rfl, by rw [← h8, List.dropLast_eq_take], h9.symm⟩
  · rw [if_neg h5] at h
    refine .inr ⟨y, z, rfl, h5, ?_⟩
    by_cases h6 : l.segs.length = 256
    · rw [if_pos h6] at h; injection h with h8 h9; exact .inl ⟨h6, h8.symm, h9.symm⟩
    · rw [if_neg h6] at h; injection h with h8 h9; exact .inr ⟨h6, h8.symm, h9.symm⟩
theorem rdT_one {W : World} {g : Nat} {x : BX} {e : TypeId} (h : BoxT W g e x) (hr : RdR W W.heap.size x.2.1 x.2.2.1 x.1.recs) (hc : x.2.2.1 ≤ x.2.2.2) (hn : x.2.2.1 ≤ 1099511627776) (hf : Fits x.1) : RdT W W.heap.size (some ⟨g, 0, none⟩) 1 [x.1] := by
  refine ⟨rfl, fun k y hk => ?_⟩
  match k, hk with
  | 0, hk =>
    obtain rfl := Option.some.inj hk
    refine ⟨g, 0, x.2.1, x.2.2.1, x.2.2.2, rfl, h.lt, hc, hn, hr, hf, fun i u hu => ?_⟩
    rw [cell_of_row _ _ _ _ _ _ h]
    simpa using hu
theorem BCheck_is {ba la fr ep pi ge se : Int} {tx : Bool} {ct : Int} {rs : List Rc} {z : Int} (hz : chB ⟨ba, la, fr, ep, pi, ge, se, tx, ct, rs⟩ = z) (A1 : Option Addr) (n1 c1 : Nat) (w : World) (hF : Fits ⟨ba, la, fr, ep, pi, ge, se, tx, ct, rs⟩) (hr : RdR w w.heap.size A1 n1 rs) (hn : n1 ≤ 1099511627776) (ht : Tab w) :
    Calls Tryz.prog 40 #[.agg #[.int .i64 ba, .int .i64 la, .int .i64 fr, .int .i64 ep, .int .i64 pi, .int .i64 ge, .int .i64 se, .bool tx, .int .i64 ct, .slice A1 n1 c1]] w fun e w' => e = .returned (.int .i64 z) ∧ Below w.heap.size w w' := hz ▸ BCheck_any ba la fr ep pi ge se tx ct rs A1 n1 c1 w hF hr hn ht
set_option maxRecDepth 100000 in
set_option maxHeartbeats 8000000 in
theorem Append_bad (lim start : Int) (A : Option Addr) (n c : Nat) (l : List Sg) (ba la fr ep pi ge se : Int) (tx : Bool) (ct : Int) (rs : List Rc) (A1 : Option Addr) (n1 c1 : Nat) (w : World) (hr : RdG w w.heap.size A n l) (ht : Tab w) (_hc : n ≤ c) (hn : n ≤ 1000000) (hf : Fits ⟨ba, la, fr, ep, pi, ge, se, tx, ct, rs⟩) (hx : RdR w w.heap.size A1 n1 rs) (hnc : n1 ≤ c1) (hn1 : n1 ≤ 1099511627776) {E C CB e9 xe : Int} {xb : Int} {xs : List UInt8} (hE : endT ⟨lim, start, l⟩ = E) (hC : ckL ⟨lim, start, l⟩ = C) (hCB : chB ⟨ba, la, fr, ep, pi, ge, se, tx, ct, rs⟩ = CB) (hOF : ofS ba [⟨ba, la, fr, ep, pi, ge, se, tx, ct, rs⟩] lim = (⟨xb, xs⟩, xe))
    (hways : (C ≠ 0 ∧ e9 = C) ∨ (C = 0 ∧ CB ≠ 0 ∧ e9 = CB) ∨ (C = 0 ∧ CB = 0 ∧ ba < E ∧ e9 = 71) ∨ (C = 0 ∧ CB = 0 ∧ ¬ ba < E ∧ xe = 70 ∧ e9 = 70)) :
    Calls Tryz.prog 25 #[.agg #[.int .i64 lim, .int .i64 start, .slice A n c], .agg #[.int .i64 ba, .int .i64 la, .int .i64 fr, .int .i64 ep, .int .i64 pi, .int .i64 ge, .int .i64 se, .bool tx, .int .i64 ct, .slice A1 n1 c1]] w (TO w 0 0 [] e9) := by
  have hba : Below w.heap.size w (((w.alloc (.cells #[.int .i64 lim, .int .i64 start, .slice A n c] 24)).alloc (.cells #[.int .i64 ba, .int .i64 la, .int .i64 fr, .int .i64 ep, .int .i64 pi, .int .i64 ge, .int .i64 se, .bool tx, .int .i64 ct, .slice A1 n1 c1] 39)).alloc (.cells #[.int .i64 0, .int .i64 0, .slice none 0 0] 24)) := bel_alloc (bel_alloc (belA w _) _) _
  have HW_0 := Lib.hid hba
  have HL_0 := Lib.hid (((At0.new w [.int .i64 lim, .int .i64 start, .slice A n c] 24).alloc (.cells #[.int .i64 ba, .int .i64 la, .int .i64 fr, .int .i64 ep, .int .i64 pi, .int .i64 ge, .int .i64 se, .bool tx, .int .i64 ct, .slice A1 n1 c1] 39)).alloc (.cells #[.int .i64 0, .int .i64 0, .slice none 0 0] 24))
  have HB_0 := Lib.hid ((at0_1 w (.cells #[.int .i64 lim, .int .i64 start, .slice A n c] 24) [.int .i64 ba, .int .i64 la, .int .i64 fr, .int .i64 ep, .int .i64 pi, .int .i64 ge, .int .i64 se, .bool tx, .int .i64 ct, .slice A1 n1 c1] 39).alloc (.cells #[.int .i64 0, .int .i64 0, .slice none 0 0] 24))
  have HZ_0 := Lib.hid (at0_2 w (.cells #[.int .i64 lim, .int .i64 start, .slice A n c] 24) (.cells #[.int .i64 ba, .int .i64 la, .int .i64 fr, .int .i64 ep, .int .i64 pi, .int .i64 ge, .int .i64 se, .bool tx, .int .i64 ct, .slice A1 n1 c1] 39) [.int .i64 0, .int .i64 0, .slice none 0 0] 24)
  have HR_0 := Lib.hid (rdgUp hr hba)
  have HX_0 := Lib.hid (rdrUp hx hba)
  have HT_0 := Lib.hid (ht.bel hba)
  have HE := Lib.hid hE
  have HC := Lib.hid hC
  have HCB := Lib.hid hCB
  have HOF := Lib.hid hOF
  have HFIT := Lib.hid hf
  have hbI := hf.base
  simp only at hbI
  clear hr ht hx hE hC hCB hOF hf hba
  rcases hways with ⟨h1, h9⟩ | ⟨rfl, h1, h9⟩ | ⟨rfl, rfl, h1, h9⟩ | ⟨rfl, rfl, h1, rfl, h9⟩
  all_goals (try have hcF := beqF h1)
  all_goals (try have hcN := bne_iff_ne.2 h1)
  all_goals have H9 := Lib.hid h9
  all_goals clear h9
  all_goals go_enter Tryz.func25, Tryz.ntmps25
  all_goals go_wp2_with (first
    | (go_at_call 49; (with_reducible refine (reachC lim start A n c l _ HR_0.out HT_0.out (by omega) HE.out HC.out).mono ?_); rintro e w1 ⟨rfl, hb⟩; have HW_1 := Lib.hid (bel_trans HW_0.out hb); have HL_1 := Lib.hid (HL_0.out.below hb); have HB_1 := Lib.hid (HB_0.out.below hb); have HZ_1 := Lib.hid (HZ_0.out.below hb); have HR_1 := Lib.hid (rdgUp HR_0.out hb); have HX_1 := Lib.hid (rdrUp HX_0.out hb); have HT_1 := Lib.hid (HT_0.out.bel hb); obtain ⟨hl1_0, hl1_1, hl1_2⟩ := cel3 HL_1.out; obtain ⟨hb1_0, hb1_1, hb1_2, hb1_3, hb1_4, hb1_5, hb1_6, hb1_7, hb1_8, hb1_9⟩ := cel10 HB_1.out; obtain ⟨hz1_0, hz1_1, hz1_2⟩ := cel3 HZ_1.out; obtain ⟨fhz1_0, fhz1_1, fhz1_2⟩ := frz3 HZ_1.out; clear hb)
    | (go_at_call 40; (with_reducible refine (BCheck_is HCB.out A1 n1 c1 _ HFIT.out HX_1.out hn1 HT_1.out).mono ?_); rintro e w2 ⟨rfl, hb⟩; have HW_2 := Lib.hid (bel_trans HW_1.out hb); have HL_2 := Lib.hid (HL_1.out.below hb); have HB_2 := Lib.hid (HB_1.out.below hb); have HZ_2 := Lib.hid (HZ_1.out.below hb); have HR_2 := Lib.hid (rdgUp HR_1.out hb); have HX_2 := Lib.hid (rdrUp HX_1.out hb); have HT_2 := Lib.hid (HT_1.out.bel hb); obtain ⟨hl2_0, hl2_1, hl2_2⟩ := cel3 HL_2.out; obtain ⟨hb2_0, hb2_1, hb2_2, hb2_3, hb2_4, hb2_5, hb2_6, hb2_7, hb2_8, hb2_9⟩ := cel10 HB_2.out; obtain ⟨hz2_0, hz2_1, hz2_2⟩ := cel3 HZ_2.out; obtain ⟨fhz2_0, fhz2_1, fhz2_2⟩ := frz3 HZ_2.out; have lL := HL_2.out.lt; have lB := HB_2.out.lt; have lZ := HZ_2.out.lt; clear hb)
    | (go_at_call 58; have hbx := belA w2 (.cells #[.int .i64 ba, .int .i64 la, .int .i64 fr, .int .i64 ep, .int .i64 pi, .int .i64 ge, .int .i64 se, .bool tx, .int .i64 ct, .slice A1 n1 c1] 39); have HW_2x := Lib.hid (bel_trans HW_2.out hbx); have HL_2x := Lib.hid (HL_2.out.below hbx); have HB_2x := Lib.hid (HB_2.out.below hbx); have HZ_2x := Lib.hid (HZ_2.out.below hbx); have HR_2x := Lib.hid (rdgUp HR_2.out hbx); have HX_2x := Lib.hid (rdrUp HX_2.out hbx); have HT_2x := Lib.hid (HT_2.out.bel hbx); clear hbx; refine (Seg.Of_is HOF.out (rdT_one (BoxT.new w2 39 (⟨ba, la, fr, ep, pi, ge, se, tx, ct, rs⟩, A1, n1, c1)) HX_2x.out hnc hn1 HFIT.out) (by decide) hbI HT_2x.out).mono ?_; rintro e w3 ⟨A3, n3, c3, rfl, ho, hb⟩; have HO3 := Lib.hid ho; have HC3 := Lib.hid ho.cap; have hl3 := ho.len; clear ho; have HW_3 := Lib.hid (bel_trans HW_2x.out hb); have HL_3 := Lib.hid (HL_2x.out.below hb); have HB_3 := Lib.hid (HB_2x.out.below hb); have HZ_3 := Lib.hid (HZ_2x.out.below hb); have HR_3 := Lib.hid (rdgUp HR_2x.out hb); have HX_3 := Lib.hid (rdrUp HX_2x.out hb); have HT_3 := Lib.hid (HT_2x.out.bel hb); obtain ⟨hl3_0, hl3_1, hl3_2⟩ := cel3 HL_3.out; obtain ⟨hb3_0, hb3_1, hb3_2, hb3_3, hb3_4, hb3_5, hb3_6, hb3_7, hb3_8, hb3_9⟩ := cel10 HB_3.out; obtain ⟨hz3_0, hz3_1, hz3_2⟩ := cel3 HZ_3.out; obtain ⟨fhz3_0, fhz3_1, fhz3_2⟩ := frz3 HZ_3.out; have lL3 := HL_3.out.lt; have lB3 := HB_3.out.lt; have lZ3 := HZ_3.out.lt; have hw3 := hb.size; clear hb))
  · exact bodyPost_ret (v := .tuple #[.agg #[.int .i64 0, .int .i64 0, .slice none 0 0], .int .i64 e9]) (by simp [results, Tryz.results25, go_sem, H9.out, hz1_0, hz1_1, hz1_2]) rfl ⟨none, 0, 0, rfl, OwnG.nil, bel3 HW_1.out (by omega) _ _ _⟩
  · exact bodyPost_ret (v := .tuple #[.agg #[.int .i64 0, .int .i64 0, .slice none 0 0], .int .i64 e9]) (by simp [results, Tryz.results25, go_sem, H9.out, hz2_0, hz2_1, hz2_2]) rfl ⟨none, 0, 0, rfl, OwnG.nil, bel3 HW_2.out (by omega) _ _ _⟩
  · exact bodyPost_ret (v := .tuple #[.agg #[.int .i64 0, .int .i64 0, .slice none 0 0], .int .i64 e9]) (by simp [results, Tryz.results25, go_sem, H9.out, hz2_0, hz2_1, hz2_2]) rfl ⟨none, 0, 0, rfl, OwnG.nil, bel3 HW_2.out (by omega) _ _ _⟩
  · have Z := put3_cells HZ_3.out (.int .i64 0) (.int .i64 0) (.slice none 0 0)
    exact bodyPost_ret (v := .tuple #[.agg #[.int .i64 0, .int .i64 0, .slice none 0 0], .int .i64 e9]) (by simp [results, Tryz.results25, go_sem, H9.out, Z]) rfl ⟨none, 0, 0, rfl, OwnG.nil, bel_alloc (bel3 HW_3.out (by omega) _ _ _) _⟩
def tb_Append12 : List (Nat × Nat) := [(0, 32767), (1, 32766), (0, 32767), (6, 32761), (8, 32759), (0, 32767), (0, 32767), (64, 32703), (176, 32591), (256, 32511), (512, 32255), (512, 32255), (0, 32767), (6143, 27647), (16383, 30719)]
def tb_Append14 : List (Nat × Nat) := [(0, 1023), (1, 1022), (0, 1023), (6, 1017), (8, 1015), (0, 1023), (32, 991), (80, 943), (255, 1023), (511, 639)]
def tb_Append18 : List (Nat × Nat) := [(0, 255), (1, 254), (2, 253), (0, 255), (8, 247), (20, 235), (63, 255), (127, 159)]
set_option maxRecDepth 100000 in
set_option maxHeartbeats 16000000 in
theorem Append_ok (lim start : Int) (A : Option Addr) (n c : Nat) (l : List Sg) (ba la fr ep pi ge se : Int) (tx : Bool) (ct : Int) (rs : List Rc) (A1 : Option Addr) (n1 c1 : Nat) (w : World) (hr : RdG w w.heap.size A n l) (ht : Tab w) (hc : n ≤ c) (hn : n ≤ 1000000) (hf : Fits ⟨ba, la, fr, ep, pi, ge, se, tx, ct, rs⟩) (hx : RdR w w.heap.size A1 n1 rs) (hnc : n1 ≤ c1) (hn1 : n1 ≤ 1099511627776) {E : Int} (hE : endT ⟨lim, start, l⟩ = E) (hC : ckL ⟨lim, start, l⟩ = 0) (hCB : chB ⟨ba, la, fr, ep, pi, ge, se, tx, ct, rs⟩ = 0) (h3 : ¬ ba < E) (hOF : ofS ba [⟨ba, la, fr, ep, pi, ge, se, tx, ct, rs⟩] lim = (⟨ba, byB ⟨ba, la, fr, ep, pi, ge, se, tx, ct, rs⟩⟩, 0)) {s0 : Sg} (hs0 : l[n - 1]? = some s0) {yb : Int} {ys : List UInt8} {z : Int} (hAP : apS s0 ⟨ba, la, fr, ep, pi, ge, se, tx, ct, rs⟩ lim = (⟨yb, ys⟩, z)) {x : List Sg} {xl xs e9 : Int}
    (hways : (z = 0 ∧ x = l.take (n - 1) ++ [⟨yb, ys⟩] ∧ lim = xl ∧ start = xs ∧ e9 = 0) ∨ (z ≠ 0 ∧ n = 256 ∧ x = [] ∧ xl = 0 ∧ xs = 0 ∧ e9 = 2) ∨ (z ≠ 0 ∧ n ≠ 256 ∧ x = l ++ [⟨ba, byB ⟨ba, la, fr, ep, pi, ge, se, tx, ct, rs⟩⟩] ∧ lim = xl ∧ start = xs ∧ e9 = 0)) :
    Calls Tryz.prog 25 #[.agg #[.int .i64 lim, .int .i64 start, .slice A n c], .agg #[.int .i64 ba, .int .i64 la, .int .i64 fr, .int .i64 ep, .int .i64 pi, .int .i64 ge, .int .i64 se, .bool tx, .int .i64 ct, .slice A1 n1 c1]] w (TO w xl xs x e9) := by
  have hba : Below w.heap.size w (((w.alloc (.cells #[.int .i64 lim, .int .i64 start, .slice A n c] 24)).alloc (.cells #[.int .i64 ba, .int .i64 la, .int .i64 fr, .int .i64 ep, .int .i64 pi, .int .i64 ge, .int .i64 se, .bool tx, .int .i64 ct, .slice A1 n1 c1] 39)).alloc (.cells #[.int .i64 0, .int .i64 0, .slice none 0 0] 24)) := bel_alloc (bel_alloc (belA w _) _) _
  have HW_0 := Lib.hid hba
  have HL_0 := Lib.hid (((At0.new w [.int .i64 lim, .int .i64 start, .slice A n c] 24).alloc (.cells #[.int .i64 ba, .int .i64 la, .int .i64 fr, .int .i64 ep, .int .i64 pi, .int .i64 ge, .int .i64 se, .bool tx, .int .i64 ct, .slice A1 n1 c1] 39)).alloc (.cells #[.int .i64 0, .int .i64 0, .slice none 0 0] 24))
  have HB_0 := Lib.hid ((at0_1 w (.cells #[.int .i64 lim, .int .i64 start, .slice A n c] 24) [.int .i64 ba, .int .i64 la, .int .i64 fr, .int .i64 ep, .int .i64 pi, .int .i64 ge, .int .i64 se, .bool tx, .int .i64 ct, .slice A1 n1 c1] 39).alloc (.cells #[.int .i64 0, .int .i64 0, .slice none 0 0] 24))
  have HZ_0 := Lib.hid (at0_2 w (.cells #[.int .i64 lim, .int .i64 start, .slice A n c] 24) (.cells #[.int .i64 ba, .int .i64 la, .int .i64 fr, .int .i64 ep, .int .i64 pi, .int .i64 ge, .int .i64 se, .bool tx, .int .i64 ct, .slice A1 n1 c1] 39) [.int .i64 0, .int .i64 0, .slice none 0 0] 24)
  have HR_0 := Lib.hid (rdgUp hr hba)
  have HX_0 := Lib.hid (rdrUp hx hba)
  have HT_0 := Lib.hid (ht.bel hba)
  have HE := Lib.hid hE
  have HC := Lib.hid hC
  have HCB := Lib.hid hCB
  have HOF := Lib.hid hOF
  have HFIT := Lib.hid hf
  have hbI := hf.base
  simp only at hbI
  have hn0 : 0 < n := by have := (List.getElem?_eq_some_iff.1 hs0).1; have := hr.len; omega
  obtain ⟨k, hk⟩ : ∃ k, k = n - 1 := ⟨_, rfl⟩
  have hw1 : IntKind.i64.wrap ((n : Int) - 1) = (k : Int) := by rw [IntWalk.i64_in _ (by omega)]; omega
  rw [← hk] at hs0 hways
  have hkn : k < n := by omega
  have HK := Lib.hid hk
  have hmx : Tryz.prog.follows .mixedOrders = true := by kernel_rfl
  have HS0 := Lib.hid hs0
  have HAP := Lib.hid hAP
  have HLEN := Lib.hid hr.len
  have hbl16 : (byB ⟨ba, la, fr, ep, pi, ge, se, tx, ct, rs⟩).length ≤ 2048 := (chB_form hCB).2
  clear hr ht hx hE hC hCB hOF hf hba hs0 hAP hk
  go_enter Tryz.func25, Tryz.ntmps25
  go_wp2_with (first
    | (go_at_call 49; (with_reducible refine (reachC lim start A n c l _ HR_0.out HT_0.out (by omega) HE.out HC.out).mono ?_); rintro e w1 ⟨rfl, hb⟩; have HW_1 := Lib.hid (bel_trans HW_0.out hb); have HL_1 := Lib.hid (HL_0.out.below hb); have HB_1 := Lib.hid (HB_0.out.below hb); have HZ_1 := Lib.hid (HZ_0.out.below hb); have HR_1 := Lib.hid (rdgUp HR_0.out hb); have HX_1 := Lib.hid (rdrUp HX_0.out hb); have HT_1 := Lib.hid (HT_0.out.bel hb); obtain ⟨hl1_0, hl1_1, hl1_2⟩ := cel3 HL_1.out; obtain ⟨hb1_0, hb1_1, hb1_2, hb1_3, hb1_4, hb1_5, hb1_6, hb1_7, hb1_8, hb1_9⟩ := cel10 HB_1.out; obtain ⟨hz1_0, hz1_1, hz1_2⟩ := cel3 HZ_1.out; obtain ⟨fhz1_0, fhz1_1, fhz1_2⟩ := frz3 HZ_1.out; clear hb)
    | (go_at_call 40; (with_reducible refine (BCheck_is HCB.out A1 n1 c1 _ HFIT.out HX_1.out hn1 HT_1.out).mono ?_); rintro e w2 ⟨rfl, hb⟩; have HW_2 := Lib.hid (bel_trans HW_1.out hb); have HL_2 := Lib.hid (HL_1.out.below hb); have HB_2 := Lib.hid (HB_1.out.below hb); have HZ_2 := Lib.hid (HZ_1.out.below hb); have HR_2 := Lib.hid (rdgUp HR_1.out hb); have HX_2 := Lib.hid (rdrUp HX_1.out hb); have HT_2 := Lib.hid (HT_1.out.bel hb); obtain ⟨hl2_0, hl2_1, hl2_2⟩ := cel3 HL_2.out; obtain ⟨hb2_0, hb2_1, hb2_2, hb2_3, hb2_4, hb2_5, hb2_6, hb2_7, hb2_8, hb2_9⟩ := cel10 HB_2.out; obtain ⟨hz2_0, hz2_1, hz2_2⟩ := cel3 HZ_2.out; obtain ⟨fhz2_0, fhz2_1, fhz2_2⟩ := frz3 HZ_2.out; have lL := HL_2.out.lt; have lB := HB_2.out.lt; have lZ := HZ_2.out.lt; clear hb)
    | (go_at_call 58; have hbx := belA w2 (.cells #[.int .i64 ba, .int .i64 la, .int .i64 fr, .int .i64 ep, .int .i64 pi, .int .i64 ge, .int .i64 se, .bool tx, .int .i64 ct, .slice A1 n1 c1] 39); have HW_2x := Lib.hid (bel_trans HW_2.out hbx); have HL_2x := Lib.hid (HL_2.out.below hbx); have HB_2x := Lib.hid (HB_2.out.below hbx); have HZ_2x := Lib.hid (HZ_2.out.below hbx); have HR_2x := Lib.hid (rdgUp HR_2.out hbx); have HX_2x := Lib.hid (rdrUp HX_2.out hbx); have HT_2x := Lib.hid (HT_2.out.bel hbx); clear hbx; refine (Seg.Of_is HOF.out (rdT_one (BoxT.new w2 39 (⟨ba, la, fr, ep, pi, ge, se, tx, ct, rs⟩, A1, n1, c1)) HX_2x.out hnc hn1 HFIT.out) (by decide) hbI HT_2x.out).mono ?_; rintro e w3 ⟨A3, n3, c3, rfl, ho, hb⟩; have HO3 := Lib.hid ho; have HC3 := Lib.hid ho.cap; have hl3 := ho.len; clear ho; have HW_3 := Lib.hid (bel_trans HW_2x.out hb); have HL_3 := Lib.hid (HL_2x.out.below hb); have HB_3 := Lib.hid (HB_2x.out.below hb); have HZ_3 := Lib.hid (HZ_2x.out.below hb); have HR_3 := Lib.hid (rdgUp HR_2x.out hb); have HX_3 := Lib.hid (rdrUp HX_2x.out hb); have HT_3 := Lib.hid (HT_2x.out.bel hb); obtain ⟨hl3_0, hl3_1, hl3_2⟩ := cel3 HL_3.out; obtain ⟨hb3_0, hb3_1, hb3_2, hb3_3, hb3_4, hb3_5, hb3_6, hb3_7, hb3_8, hb3_9⟩ := cel10 HB_3.out; obtain ⟨hz3_0, hz3_1, hz3_2⟩ := cel3 HZ_3.out; obtain ⟨fhz3_0, fhz3_1, fhz3_2⟩ := frz3 HZ_3.out; have lL3 := HL_3.out.lt; have lB3 := HB_3.out.lt; have lZ3 := HZ_3.out.lt; have hw3 := hb.size; clear hb))
  have hba4 := belA w3 (.cells #[.int .i64 ba, .slice A3 n3 c3] 59)
  have HW_4 := Lib.hid (bel_trans HW_3.out hba4)
  have HL_4 := Lib.hid (HL_3.out.below hba4)
  have HB_4 := Lib.hid (HB_3.out.below hba4)
  have HZ_4 := Lib.hid (HZ_3.out.below hba4)
  have HR_4 := Lib.hid (rdgUp HR_3.out hba4)
  have HX_4 := Lib.hid (rdrUp HX_3.out hba4)
  have HT_4 := Lib.hid (HT_3.out.bel hba4)
  have HO_4 := Lib.hid (HO3.out.below hba4)
  have HA_4 := Lib.hid (At0.new w3 [.int .i64 ba, .slice A3 n3 c3] 59)
  obtain ⟨b, o, ⟨sb, ss⟩, A5, n5, c5, hA, hbl, hxk, hc5, hn5, hrd, hI, c0, c1'⟩ := HR_4.out.at hkn
  have hs0 : s0 = ⟨sb, ss⟩ := Option.some.inj (HS0.out.symm.trans hxk)
  subst hs0
  subst hA
  simp only at hrd hI c0
  have HS_4 := Lib.hid (show AtO (w3.alloc (.cells #[.int .i64 ba, .slice A3 n3 c3] 59)) b (o + k * 2) [.int .i64 sb, .slice A5 n5 c5] from AtO.two hbl c0 c1')
  have hn5' : n5 ≤ 137438953472 := by unfold gMax at hn5; omega
  have HRD_4 := Lib.hid hrd
  have hql : (k : Int) < (n : Int) := by omega
  have hkc : k ≤ c := by omega
  have hqk : (0 : Int) ≤ (k : Int) := by omega
  clear hba4 hrd hxk c0 c1' hbl
  have HM4 := Lib.hid (show w2.heap.size ≤ (w3.alloc (.cells #[.int .i64 ba, .slice A3 n3 c3] 59)).heap.size from Nat.le_trans (Nat.le_trans (by simp) hw3) (belA w3 (.cells #[.int .i64 ba, .slice A3 n3 c3] 59)).size)
  have HLM := Lib.hid (show w.heap.size ≤ w2.heap.size ∧ w.heap.size < w2.heap.size ∧ w.heap.size + 1 + 1 < w2.heap.size from ⟨Nat.le_of_lt lL, lL, lZ⟩)
  clear hw3
  generalize w3.alloc (.cells #[.int .i64 ba, .slice A3 n3 c3] 59) = W4 at *
  go_cut [10, 11] (fun s10 s11 wx => ∃ P A6 n6 c6, s10 = .pointer (some ⟨P, 0, none⟩) ∧ s11 = .int .i64 z ∧ At0 wx P [.int .i64 yb, .slice A6 n6 c6] 59 ∧ OwnB wx 5 W4.heap.size (.slice A6 n6 c6) n6 ys ∧ Below W4.heap.size W4 wx)
  case first =>
    have hbd := (Below.refl W4.heap.size W4).drew
    have HW_R12 := Lib.hid (bel_trans HW_4.out hbd)
    have HL_R12 := Lib.hid (HL_4.out.below hbd)
    have HB_R12 := Lib.hid (HB_4.out.below hbd)
    have HZ_R12 := Lib.hid (HZ_4.out.below hbd)
    have HR_R12 := Lib.hid (rdgUp HR_4.out hbd)
    have HX_R12 := Lib.hid (rdrUp HX_4.out hbd)
    have HT_R12 := Lib.hid (HT_4.out.bel hbd)
    have HO_R12 := Lib.hid (HO_4.out.below hbd)
    have HA_R12 := Lib.hid (HA_4.out.below hbd)
    have HS_R12 := Lib.hid (HS_4.out.below hbd)
    have HRD_R12 := Lib.hid (rdUp HRD_4.out hbd)
    have HSR12 := Lib.hid (show (fun W9 : World => W9.cell? ⟨w.heap.size, 0, none⟩ = some (.int .i64 lim) ∧ W9.cell? ⟨w.heap.size, 1, none⟩ = some (.int .i64 start) ∧ W9.cell? ⟨w.heap.size, 2, none⟩ = some (.slice (some ⟨b, o, none⟩) n c) ∧ W9.cell? ⟨(w.heap.size + 1), 0, none⟩ = some (.int .i64 ba) ∧ W9.cell? ⟨(w.heap.size + 1), 1, none⟩ = some (.int .i64 la) ∧ W9.cell? ⟨(w.heap.size + 1), 2, none⟩ = some (.int .i64 fr) ∧ W9.cell? ⟨(w.heap.size + 1), 3, none⟩ = some (.int .i64 ep) ∧ W9.cell? ⟨(w.heap.size + 1), 4, none⟩ = some (.int .i64 pi) ∧ W9.cell? ⟨(w.heap.size + 1), 5, none⟩ = some (.int .i64 ge) ∧ W9.cell? ⟨(w.heap.size + 1), 6, none⟩ = some (.int .i64 se) ∧ W9.cell? ⟨(w.heap.size + 1), 7, none⟩ = some (.bool tx) ∧ W9.cell? ⟨(w.heap.size + 1), 8, none⟩ = some (.int .i64 ct) ∧ W9.cell? ⟨(w.heap.size + 1), 9, none⟩ = some (.slice A1 n1 c1) ∧ W9.cell? ⟨b, o + k * 2, none⟩ = some (.int .i64 sb) ∧ W9.cell? ⟨b, o + k * 2 + 1, none⟩ = some (.slice A5 n5 c5)) W4.drew from ⟨HL_R12.out.cell 0, HL_R12.out.cell 1, HL_R12.out.cell 2, HB_R12.out.cell 0, HB_R12.out.cell 1, HB_R12.out.cell 2, HB_R12.out.cell 3, HB_R12.out.cell 4, HB_R12.out.cell 5, HB_R12.out.cell 6, HB_R12.out.cell 7, HB_R12.out.cell 8, HB_R12.out.cell 9, HS_R12.out.2 0 _ rfl, HS_R12.out.2 1 _ rfl⟩)
    clear hbd
    refine region_let (fun W9 : World => W9.cell? ⟨w.heap.size, 0, none⟩ = some (.int .i64 lim) ∧ W9.cell? ⟨w.heap.size, 1, none⟩ = some (.int .i64 start) ∧ W9.cell? ⟨w.heap.size, 2, none⟩ = some (.slice (some ⟨b, o, none⟩) n c) ∧ W9.cell? ⟨(w.heap.size + 1), 0, none⟩ = some (.int .i64 ba) ∧ W9.cell? ⟨(w.heap.size + 1), 1, none⟩ = some (.int .i64 la) ∧ W9.cell? ⟨(w.heap.size + 1), 2, none⟩ = some (.int .i64 fr) ∧ W9.cell? ⟨(w.heap.size + 1), 3, none⟩ = some (.int .i64 ep) ∧ W9.cell? ⟨(w.heap.size + 1), 4, none⟩ = some (.int .i64 pi) ∧ W9.cell? ⟨(w.heap.size + 1), 5, none⟩ = some (.int .i64 ge) ∧ W9.cell? ⟨(w.heap.size + 1), 6, none⟩ = some (.int .i64 se) ∧ W9.cell? ⟨(w.heap.size + 1), 7, none⟩ = some (.bool tx) ∧ W9.cell? ⟨(w.heap.size + 1), 8, none⟩ = some (.int .i64 ct) ∧ W9.cell? ⟨(w.heap.size + 1), 9, none⟩ = some (.slice A1 n1 c1) ∧ W9.cell? ⟨b, o + k * 2, none⟩ = some (.int .i64 sb) ∧ W9.cell? ⟨b, o + k * 2 + 1, none⟩ = some (.slice A5 n5 c5)) 99 15 hmx rfl fun ops Q HOPS HQ => ?_
    have HREG := reg_of HOPS tb_Append12 rfl (by kernel_rfl) (by kernel_rfl) (by decide)
    refine xq 0 HOPS HREG HSR12.out ?_; simp only [ls0, ls1]; refine xq 1 HOPS HREG HSR12.out ?_; simp only [ls0, ls1]; refine xq 2 HOPS HREG HSR12.out ?_; simp only [ls0, ls1]; refine xq 3 HOPS HREG HSR12.out ?_; simp only [ls0, ls1]; refine xq 4 HOPS HREG HSR12.out ?_; simp only [ls0, ls1]; refine xq 5 HOPS HREG HSR12.out ?_; simp only [ls0, ls1]; refine xq 6 HOPS HREG HSR12.out ?_; simp only [ls0, ls1]; refine xq 7 HOPS HREG HSR12.out ?_; simp only [ls0, ls1]
    refine xc2 8 12 HOPS ?_ ?_
    · go_simp
      with_reducible refine (Seg.Append_is HAP.out HRD_R12.out hc5 hn5' hI HFIT.out HX_R12.out hn1 HT_R12.out).mono ?_
      rintro e w5 ⟨A6, n6, c6, rfl, ho, hb⟩
      have HW_58 := Lib.hid (bel_trans HW_R12.out hb)
      have HL_58 := Lib.hid (HL_R12.out.below hb)
      have HB_58 := Lib.hid (HB_R12.out.below hb)
      have HZ_58 := Lib.hid (HZ_R12.out.below hb)
      have HR_58 := Lib.hid (rdgUp HR_R12.out hb)
      have HX_58 := Lib.hid (rdrUp HX_R12.out hb)
      have HT_58 := Lib.hid (HT_R12.out.bel hb)
      have HO_58 := Lib.hid (HO_R12.out.below hb)
      have HA_58 := Lib.hid (HA_R12.out.below hb)
      have HS_58 := Lib.hid (HS_R12.out.below hb)
      have HRD_58 := Lib.hid (rdUp HRD_R12.out hb)
      have HY := Lib.hid ho
      have HBW := Lib.hid hb
      clear ho
      have HSR12_8_8 := Lib.hid (show (fun W9 : World => W9.cell? ⟨w.heap.size, 0, none⟩ = some (.int .i64 lim) ∧ W9.cell? ⟨w.heap.size, 1, none⟩ = some (.int .i64 start) ∧ W9.cell? ⟨w.heap.size, 2, none⟩ = some (.slice (some ⟨b, o, none⟩) n c) ∧ W9.cell? ⟨(w.heap.size + 1), 0, none⟩ = some (.int .i64 ba) ∧ W9.cell? ⟨(w.heap.size + 1), 1, none⟩ = some (.int .i64 la) ∧ W9.cell? ⟨(w.heap.size + 1), 2, none⟩ = some (.int .i64 fr) ∧ W9.cell? ⟨(w.heap.size + 1), 3, none⟩ = some (.int .i64 ep) ∧ W9.cell? ⟨(w.heap.size + 1), 4, none⟩ = some (.int .i64 pi) ∧ W9.cell? ⟨(w.heap.size + 1), 5, none⟩ = some (.int .i64 ge) ∧ W9.cell? ⟨(w.heap.size + 1), 6, none⟩ = some (.int .i64 se) ∧ W9.cell? ⟨(w.heap.size + 1), 7, none⟩ = some (.bool tx) ∧ W9.cell? ⟨(w.heap.size + 1), 8, none⟩ = some (.int .i64 ct) ∧ W9.cell? ⟨(w.heap.size + 1), 9, none⟩ = some (.slice A1 n1 c1) ∧ W9.cell? ⟨b, o + k * 2, none⟩ = some (.int .i64 sb) ∧ W9.cell? ⟨b, o + k * 2 + 1, none⟩ = some (.slice A5 n5 c5)) w5 from ⟨HL_58.out.cell 0, HL_58.out.cell 1, HL_58.out.cell 2, HB_58.out.cell 0, HB_58.out.cell 1, HB_58.out.cell 2, HB_58.out.cell 3, HB_58.out.cell 4, HB_58.out.cell 5, HB_58.out.cell 6, HB_58.out.cell 7, HB_58.out.cell 8, HB_58.out.cell 9, HS_58.out.2 0 _ rfl, HS_58.out.2 1 _ rfl⟩)
      clear hb
      refine ⟨HSR12_8_8.out, ?_⟩
      refine xq 9 HOPS HREG HSR12_8_8.out ?_; simp only [ls0, ls1]; refine xq 10 HOPS HREG HSR12_8_8.out ?_; simp only [ls0, ls1]; refine xq 11 HOPS HREG HSR12_8_8.out ?_; simp only [ls0, ls1]
      refine xc 12 HOPS ?_
      go_simp
      have hb := belA w5 (.cells #[.int .i64 0, .slice none 0 0] 59)
      have HW_y := Lib.hid (bel_trans HW_58.out hb)
      have HL_y := Lib.hid (HL_58.out.below hb)
      have HB_y := Lib.hid (HB_58.out.below hb)
      have HZ_y := Lib.hid (HZ_58.out.below hb)
      have HR_y := Lib.hid (rdgUp HR_58.out hb)
      have HX_y := Lib.hid (rdrUp HX_58.out hb)
      have HT_y := Lib.hid (HT_58.out.bel hb)
      have HO_y := Lib.hid (HO_58.out.below hb)
      have HA_y := Lib.hid (HA_58.out.below hb)
      have HS_y := Lib.hid (HS_58.out.below hb)
      have HRD_y := Lib.hid (rdUp HRD_58.out hb)
      have HSR12_8_12 := Lib.hid (show (fun W9 : World => W9.cell? ⟨w.heap.size, 0, none⟩ = some (.int .i64 lim) ∧ W9.cell? ⟨w.heap.size, 1, none⟩ = some (.int .i64 start) ∧ W9.cell? ⟨w.heap.size, 2, none⟩ = some (.slice (some ⟨b, o, none⟩) n c) ∧ W9.cell? ⟨(w.heap.size + 1), 0, none⟩ = some (.int .i64 ba) ∧ W9.cell? ⟨(w.heap.size + 1), 1, none⟩ = some (.int .i64 la) ∧ W9.cell? ⟨(w.heap.size + 1), 2, none⟩ = some (.int .i64 fr) ∧ W9.cell? ⟨(w.heap.size + 1), 3, none⟩ = some (.int .i64 ep) ∧ W9.cell? ⟨(w.heap.size + 1), 4, none⟩ = some (.int .i64 pi) ∧ W9.cell? ⟨(w.heap.size + 1), 5, none⟩ = some (.int .i64 ge) ∧ W9.cell? ⟨(w.heap.size + 1), 6, none⟩ = some (.int .i64 se) ∧ W9.cell? ⟨(w.heap.size + 1), 7, none⟩ = some (.bool tx) ∧ W9.cell? ⟨(w.heap.size + 1), 8, none⟩ = some (.int .i64 ct) ∧ W9.cell? ⟨(w.heap.size + 1), 9, none⟩ = some (.slice A1 n1 c1) ∧ W9.cell? ⟨b, o + k * 2, none⟩ = some (.int .i64 sb) ∧ W9.cell? ⟨b, o + k * 2 + 1, none⟩ = some (.slice A5 n5 c5)) (w5.alloc (.cells #[.int .i64 0, .slice none 0 0] 59)) from ⟨HL_y.out.cell 0, HL_y.out.cell 1, HL_y.out.cell 2, HB_y.out.cell 0, HB_y.out.cell 1, HB_y.out.cell 2, HB_y.out.cell 3, HB_y.out.cell 4, HB_y.out.cell 5, HB_y.out.cell 6, HB_y.out.cell 7, HB_y.out.cell 8, HB_y.out.cell 9, HS_y.out.2 0 _ rfl, HS_y.out.2 1 _ rfl⟩)
      clear hb
      refine ⟨by exact HSR12_8_12.out, ?_⟩
      refine xc 13 HOPS ?_
      go_simp
      have hb := belA w5 (.cells #[.int .i64 yb, .slice A6 n6 c6] 59)
      have HW_x := Lib.hid (bel_trans HW_58.out hb)
      have HL_x := Lib.hid (HL_58.out.below hb)
      have HB_x := Lib.hid (HB_58.out.below hb)
      have HZ_x := Lib.hid (HZ_58.out.below hb)
      have HR_x := Lib.hid (rdgUp HR_58.out hb)
      have HX_x := Lib.hid (rdrUp HX_58.out hb)
      have HT_x := Lib.hid (HT_58.out.bel hb)
      have HO_x := Lib.hid (HO_58.out.below hb)
      have HA_x := Lib.hid (HA_58.out.below hb)
      have HS_x := Lib.hid (HS_58.out.below hb)
      have HRD_x := Lib.hid (rdUp HRD_58.out hb)
      have HSR12_8_13 := Lib.hid (show (fun W9 : World => W9.cell? ⟨w.heap.size, 0, none⟩ = some (.int .i64 lim) ∧ W9.cell? ⟨w.heap.size, 1, none⟩ = some (.int .i64 start) ∧ W9.cell? ⟨w.heap.size, 2, none⟩ = some (.slice (some ⟨b, o, none⟩) n c) ∧ W9.cell? ⟨(w.heap.size + 1), 0, none⟩ = some (.int .i64 ba) ∧ W9.cell? ⟨(w.heap.size + 1), 1, none⟩ = some (.int .i64 la) ∧ W9.cell? ⟨(w.heap.size + 1), 2, none⟩ = some (.int .i64 fr) ∧ W9.cell? ⟨(w.heap.size + 1), 3, none⟩ = some (.int .i64 ep) ∧ W9.cell? ⟨(w.heap.size + 1), 4, none⟩ = some (.int .i64 pi) ∧ W9.cell? ⟨(w.heap.size + 1), 5, none⟩ = some (.int .i64 ge) ∧ W9.cell? ⟨(w.heap.size + 1), 6, none⟩ = some (.int .i64 se) ∧ W9.cell? ⟨(w.heap.size + 1), 7, none⟩ = some (.bool tx) ∧ W9.cell? ⟨(w.heap.size + 1), 8, none⟩ = some (.int .i64 ct) ∧ W9.cell? ⟨(w.heap.size + 1), 9, none⟩ = some (.slice A1 n1 c1) ∧ W9.cell? ⟨b, o + k * 2, none⟩ = some (.int .i64 sb) ∧ W9.cell? ⟨b, o + k * 2 + 1, none⟩ = some (.slice A5 n5 c5)) (w5.alloc (.cells #[.int .i64 yb, .slice A6 n6 c6] 59)) from ⟨HL_x.out.cell 0, HL_x.out.cell 1, HL_x.out.cell 2, HB_x.out.cell 0, HB_x.out.cell 1, HB_x.out.cell 2, HB_x.out.cell 3, HB_x.out.cell 4, HB_x.out.cell 5, HB_x.out.cell 6, HB_x.out.cell 7, HB_x.out.cell 8, HB_x.out.cell 9, HS_x.out.2 0 _ rfl, HS_x.out.2 1 _ rfl⟩)
      clear hb
      refine ⟨HSR12_8_13.out, ?_⟩
      refine xq 14 HOPS HREG HSR12_8_13.out ?_; simp only [ls0, ls1]
      refine stepE HOPS (by kernel_rfl) (HQ.out _ _ ?_)
      clear HQ HREG HOPS
      clear Q ops
      go_wp2
      go_meet
      exact ⟨w5.heap.size, A6, n6, c6, rfl, rfl, At0.new w5 [.int .i64 yb, .slice A6 n6 c6] _, World.ownsRow.alloc HY.out _, bel_alloc (bel_trans (Below.refl W4.heap.size W4).drew HBW.out) _⟩
    · go_simp
      have hb := (show Below W4.heap.size W4 (W4.alloc (.cells #[.int .i64 0, .slice none 0 0] 59)).drew from (belA _ _).drew)
      have HW_z := Lib.hid (bel_trans HW_4.out hb)
      have HL_z := Lib.hid (HL_4.out.below hb)
      have HB_z := Lib.hid (HB_4.out.below hb)
      have HZ_z := Lib.hid (HZ_4.out.below hb)
      have HR_z := Lib.hid (rdgUp HR_4.out hb)
      have HX_z := Lib.hid (rdrUp HX_4.out hb)
      have HT_z := Lib.hid (HT_4.out.bel hb)
      have HO_z := Lib.hid (HO_4.out.below hb)
      have HA_z := Lib.hid (HA_4.out.below hb)
      have HS_z := Lib.hid (HS_4.out.below hb)
      have HRD_z := Lib.hid (rdUp HRD_4.out hb)
      have HP_z := Lib.hid (show At0 (W4.alloc (.cells #[.int .i64 0, .slice none 0 0] 59)).drew W4.heap.size [.int .i64 0, .slice none 0 0] 59 from At0.new W4 _ _)
      have HSR12_12_12 := Lib.hid (show (fun W9 : World => W9.cell? ⟨w.heap.size, 0, none⟩ = some (.int .i64 lim) ∧ W9.cell? ⟨w.heap.size, 1, none⟩ = some (.int .i64 start) ∧ W9.cell? ⟨w.heap.size, 2, none⟩ = some (.slice (some ⟨b, o, none⟩) n c) ∧ W9.cell? ⟨(w.heap.size + 1), 0, none⟩ = some (.int .i64 ba) ∧ W9.cell? ⟨(w.heap.size + 1), 1, none⟩ = some (.int .i64 la) ∧ W9.cell? ⟨(w.heap.size + 1), 2, none⟩ = some (.int .i64 fr) ∧ W9.cell? ⟨(w.heap.size + 1), 3, none⟩ = some (.int .i64 ep) ∧ W9.cell? ⟨(w.heap.size + 1), 4, none⟩ = some (.int .i64 pi) ∧ W9.cell? ⟨(w.heap.size + 1), 5, none⟩ = some (.int .i64 ge) ∧ W9.cell? ⟨(w.heap.size + 1), 6, none⟩ = some (.int .i64 se) ∧ W9.cell? ⟨(w.heap.size + 1), 7, none⟩ = some (.bool tx) ∧ W9.cell? ⟨(w.heap.size + 1), 8, none⟩ = some (.int .i64 ct) ∧ W9.cell? ⟨(w.heap.size + 1), 9, none⟩ = some (.slice A1 n1 c1) ∧ W9.cell? ⟨b, o + k * 2, none⟩ = some (.int .i64 sb) ∧ W9.cell? ⟨b, o + k * 2 + 1, none⟩ = some (.slice A5 n5 c5)) (W4.alloc (.cells #[.int .i64 0, .slice none 0 0] 59)).drew from ⟨HL_z.out.cell 0, HL_z.out.cell 1, HL_z.out.cell 2, HB_z.out.cell 0, HB_z.out.cell 1, HB_z.out.cell 2, HB_z.out.cell 3, HB_z.out.cell 4, HB_z.out.cell 5, HB_z.out.cell 6, HB_z.out.cell 7, HB_z.out.cell 8, HB_z.out.cell 9, HS_z.out.2 0 _ rfl, HS_z.out.2 1 _ rfl⟩)
      clear hb
      refine ⟨by exact HSR12_12_12.out, ?_⟩
      refine xc 8 HOPS ?_
      go_simp
      with_reducible refine (Seg.Append_is HAP.out HRD_z.out hc5 hn5' hI HFIT.out HX_z.out hn1 HT_z.out).mono ?_
      rintro e w5 ⟨A6, n6, c6, rfl, ho, hb⟩
      have HW_512 := Lib.hid (bel_trans HW_z.out hb)
      have HL_512 := Lib.hid (HL_z.out.below hb)
      have HB_512 := Lib.hid (HB_z.out.below hb)
      have HZ_512 := Lib.hid (HZ_z.out.below hb)
      have HR_512 := Lib.hid (rdgUp HR_z.out hb)
      have HX_512 := Lib.hid (rdrUp HX_z.out hb)
      have HT_512 := Lib.hid (HT_z.out.bel hb)
      have HO_512 := Lib.hid (HO_z.out.below hb)
      have HA_512 := Lib.hid (HA_z.out.below hb)
      have HS_512 := Lib.hid (HS_z.out.below hb)
      have HRD_512 := Lib.hid (rdUp HRD_z.out hb)
      have HP_512 := Lib.hid (HP_z.out.below hb)
      have HY := Lib.hid ho
      have HBW := Lib.hid hb
      clear ho
      have hltw5 := hb.size
      have HSR12_12_8 := Lib.hid (show (fun W9 : World => W9.cell? ⟨w.heap.size, 0, none⟩ = some (.int .i64 lim) ∧ W9.cell? ⟨w.heap.size, 1, none⟩ = some (.int .i64 start) ∧ W9.cell? ⟨w.heap.size, 2, none⟩ = some (.slice (some ⟨b, o, none⟩) n c) ∧ W9.cell? ⟨(w.heap.size + 1), 0, none⟩ = some (.int .i64 ba) ∧ W9.cell? ⟨(w.heap.size + 1), 1, none⟩ = some (.int .i64 la) ∧ W9.cell? ⟨(w.heap.size + 1), 2, none⟩ = some (.int .i64 fr) ∧ W9.cell? ⟨(w.heap.size + 1), 3, none⟩ = some (.int .i64 ep) ∧ W9.cell? ⟨(w.heap.size + 1), 4, none⟩ = some (.int .i64 pi) ∧ W9.cell? ⟨(w.heap.size + 1), 5, none⟩ = some (.int .i64 ge) ∧ W9.cell? ⟨(w.heap.size + 1), 6, none⟩ = some (.int .i64 se) ∧ W9.cell? ⟨(w.heap.size + 1), 7, none⟩ = some (.bool tx) ∧ W9.cell? ⟨(w.heap.size + 1), 8, none⟩ = some (.int .i64 ct) ∧ W9.cell? ⟨(w.heap.size + 1), 9, none⟩ = some (.slice A1 n1 c1) ∧ W9.cell? ⟨b, o + k * 2, none⟩ = some (.int .i64 sb) ∧ W9.cell? ⟨b, o + k * 2 + 1, none⟩ = some (.slice A5 n5 c5)) w5 from ⟨HL_512.out.cell 0, HL_512.out.cell 1, HL_512.out.cell 2, HB_512.out.cell 0, HB_512.out.cell 1, HB_512.out.cell 2, HB_512.out.cell 3, HB_512.out.cell 4, HB_512.out.cell 5, HB_512.out.cell 6, HB_512.out.cell 7, HB_512.out.cell 8, HB_512.out.cell 9, HS_512.out.2 0 _ rfl, HS_512.out.2 1 _ rfl⟩)
      clear hb
      refine ⟨HSR12_12_8.out, ?_⟩
      refine xq 9 HOPS HREG HSR12_12_8.out ?_; simp only [ls0, ls1]; refine xq 10 HOPS HREG HSR12_12_8.out ?_; simp only [ls0, ls1]; refine xq 11 HOPS HREG HSR12_12_8.out ?_; simp only [ls0, ls1]
      refine xc 13 HOPS ?_
      have hp := HP_512.out
      have hpl := hp.lt
      have hp0 := hp.cell 0
      have hp1 := hp.cell 1
      have hpf0 := hp.frozen 0
      have hpf1 := hp.frozen 1
      simp only [List.getElem?_cons_zero, List.getElem?_cons_succ] at hp0 hp1
      go_simp
      have hblHL := HL_4.out.lt
      have hblHB := HB_4.out.lt
      have hblHS := HS_4.out.1
      obtain ⟨hlB_0, hlB_1, hlB_2⟩ := cel3 HL_512.out
      obtain ⟨hbB_0, hbB_1, hbB_2, hbB_3, hbB_4, hbB_5, hbB_6, hbB_7, hbB_8, hbB_9⟩ := cel10 HB_512.out
      obtain ⟨hsB_0, hsB_1⟩ := del2 HS_512.out
      have HSR12_B13 := Lib.hid (show (fun W9 : World => W9.cell? ⟨w.heap.size, 0, none⟩ = some (.int .i64 lim) ∧ W9.cell? ⟨w.heap.size, 1, none⟩ = some (.int .i64 start) ∧ W9.cell? ⟨w.heap.size, 2, none⟩ = some (.slice (some ⟨b, o, none⟩) n c) ∧ W9.cell? ⟨(w.heap.size + 1), 0, none⟩ = some (.int .i64 ba) ∧ W9.cell? ⟨(w.heap.size + 1), 1, none⟩ = some (.int .i64 la) ∧ W9.cell? ⟨(w.heap.size + 1), 2, none⟩ = some (.int .i64 fr) ∧ W9.cell? ⟨(w.heap.size + 1), 3, none⟩ = some (.int .i64 ep) ∧ W9.cell? ⟨(w.heap.size + 1), 4, none⟩ = some (.int .i64 pi) ∧ W9.cell? ⟨(w.heap.size + 1), 5, none⟩ = some (.int .i64 ge) ∧ W9.cell? ⟨(w.heap.size + 1), 6, none⟩ = some (.int .i64 se) ∧ W9.cell? ⟨(w.heap.size + 1), 7, none⟩ = some (.bool tx) ∧ W9.cell? ⟨(w.heap.size + 1), 8, none⟩ = some (.int .i64 ct) ∧ W9.cell? ⟨(w.heap.size + 1), 9, none⟩ = some (.slice A1 n1 c1) ∧ W9.cell? ⟨b, o + k * 2, none⟩ = some (.int .i64 sb) ∧ W9.cell? ⟨b, o + k * 2 + 1, none⟩ = some (.slice A5 n5 c5)) ((w5.setCell ⟨W4.heap.size, 0, none⟩ (.int .i64 yb)).setCell ⟨W4.heap.size, 1, none⟩ (.slice A6 n6 c6)) from ⟨(cell_off (by simp only; omega)).trans ((cell_off (by simp only; omega)).trans (HL_512.out.cell 0)), (cell_off (by simp only; omega)).trans ((cell_off (by simp only; omega)).trans (HL_512.out.cell 1)), (cell_off (by simp only; omega)).trans ((cell_off (by simp only; omega)).trans (HL_512.out.cell 2)), (cell_off (by simp only; omega)).trans ((cell_off (by simp only; omega)).trans (HB_512.out.cell 0)), (cell_off (by simp only; omega)).trans ((cell_off (by simp only; omega)).trans (HB_512.out.cell 1)), (cell_off (by simp only; omega)).trans ((cell_off (by simp only; omega)).trans (HB_512.out.cell 2)), (cell_off (by simp only; omega)).trans ((cell_off (by simp only; omega)).trans (HB_512.out.cell 3)), (cell_off (by simp only; omega)).trans ((cell_off (by simp only; omega)).trans (HB_512.out.cell 4)), (cell_off (by simp only; omega)).trans ((cell_off (by simp only; omega)).trans (HB_512.out.cell 5)), (cell_off (by simp only; omega)).trans ((cell_off (by simp only; omega)).trans (HB_512.out.cell 6)), (cell_off (by simp only; omega)).trans ((cell_off (by simp only; omega)).trans (HB_512.out.cell 7)), (cell_off (by simp only; omega)).trans ((cell_off (by simp only; omega)).trans (HB_512.out.cell 8)), (cell_off (by simp only; omega)).trans ((cell_off (by simp only; omega)).trans (HB_512.out.cell 9)), (cell_off (by simp only; omega)).trans ((cell_off (by simp only; omega)).trans (HS_512.out.2 0 _ rfl)), (cell_off (by simp only; omega)).trans ((cell_off (by simp only; omega)).trans (HS_512.out.2 1 _ rfl))⟩)
      refine ⟨by (repeat' apply And.intro) <;> first | assumption | exact (cell_off (by simp only; omega)).trans (by assumption) | exact (cell_off (by simp only; omega)).trans ((cell_off (by simp only; omega)).trans (by assumption)) | exact (cell_off (by simp only; omega)).trans ((cell_off (by simp only; omega)).trans ((cell_off (by simp only; omega)).trans (by assumption))), ?_⟩
      clear hlB_0 hlB_1 hlB_2 hbB_0 hbB_1 hbB_2 hbB_3 hbB_4 hbB_5 hbB_6 hbB_7 hbB_8 hbB_9 hsB_0 hsB_1
      refine xq 14 HOPS HREG HSR12_B13.out ?_; simp only [ls0, ls1]
      refine stepE HOPS (by kernel_rfl) (HQ.out _ _ ?_)
      clear HQ HREG HOPS
      clear Q ops
      go_wp2
      go_meet
      exact ⟨W4.heap.size, A6, n6, c6, rfl, rfl, at0_put (at0_put HP_512.out 0 _) 1 _, OwnB.more (ownsRow_setCell_below (ownsRow_setCell_below HY.out (by simp) _) (by simp) _) (by simp), ((bel_trans (show Below W4.heap.size W4 (W4.alloc (.cells #[.int .i64 0, .slice none 0 0] 59)).drew from (belA W4 _).drew) HBW.out).setCell (Nat.le_refl _) _).setCell (Nat.le_refl _) _⟩
  case rest =>
    obtain ⟨P, A6, n6, c6, rfl, rfl, hbx, ho, hb⟩ := hcut
    rename World => w5
    have HP_5 := Lib.hid hbx
    have HO6 := Lib.hid ho
    have hn6 := ho.len
    have HM5 := Lib.hid (Nat.le_trans HM4.out hb.size)
    have HW_5 := Lib.hid (bel_trans HW_4.out hb)
    have HL_5 := Lib.hid (HL_4.out.below hb)
    have HZ_5 := Lib.hid (HZ_4.out.below hb)
    have HR_5 := Lib.hid (rdgUp HR_4.out hb)
    have HO_5 := Lib.hid (HO_4.out.below hb)
    have HA_5 := Lib.hid (HA_4.out.below hb)
    clear hbx ho hb
    rcases hways with ⟨rfl, rfl, rfl, rfl, rfl⟩ | ⟨hz, hn9, rfl, rfl, rfl, rfl⟩ | ⟨hz, hn9, rfl, rfl, rfl, rfl⟩
    · -- put behind the last one
      have HYI := Lib.hid (show I64 yb by have h9 := (apS_good HAP.out).2.2.2.2.2.1; injection h9 with h10 _; rw [h10]; exact hI)
      go_wp2
      have hbd := (Below.refl w5.heap.size w5).drew
      have HW_R14 := Lib.hid (bel_trans HW_5.out hbd)
      have HL_R14 := Lib.hid (HL_5.out.below hbd)
      have HZ_R14 := Lib.hid (HZ_5.out.below hbd)
      have HR_R14 := Lib.hid (rdgUp HR_5.out hbd)
      have HO_R14 := Lib.hid (HO_5.out.below hbd)
      have HA_R14 := Lib.hid (HA_5.out.below hbd)
      have HP_R14 := Lib.hid (HP_5.out.below hbd)
      have HBBR14 := Lib.hid hbd
      have HSR14 := Lib.hid (show (fun W9 : World => W9.cell? ⟨w.heap.size, 0, none⟩ = some (.int .i64 lim) ∧ W9.cell? ⟨w.heap.size, 1, none⟩ = some (.int .i64 start) ∧ W9.cell? ⟨w.heap.size, 2, none⟩ = some (.slice (some ⟨b, o, none⟩) n c) ∧ W9.cell? ⟨P, 0, none⟩ = some (.int .i64 yb) ∧ W9.cell? ⟨P, 1, none⟩ = some (.slice A6 n6 c6)) w5.drew from ⟨HL_R14.out.cell 0, HL_R14.out.cell 1, HL_R14.out.cell 2, HP_R14.out.cell 0, HP_R14.out.cell 1⟩)
      clear hbd
      refine region_let (fun W9 : World => W9.cell? ⟨w.heap.size, 0, none⟩ = some (.int .i64 lim) ∧ W9.cell? ⟨w.heap.size, 1, none⟩ = some (.int .i64 start) ∧ W9.cell? ⟨w.heap.size, 2, none⟩ = some (.slice (some ⟨b, o, none⟩) n c) ∧ W9.cell? ⟨P, 0, none⟩ = some (.int .i64 yb) ∧ W9.cell? ⟨P, 1, none⟩ = some (.slice A6 n6 c6)) 9 10 hmx rfl fun ops Q HOPS HQ => ?_
      refine yq 0 HOPS HSR14.out ?_; simp only [ls0, ls1]; refine yq 1 HOPS HSR14.out ?_; simp only [ls0, ls1]; refine yq 2 HOPS HSR14.out ?_; simp only [ls0, ls1]; refine yq 3 HOPS HSR14.out ?_; simp only [ls0, ls1]; refine yq 5 HOPS HSR14.out ?_; simp only [ls0, ls1]
      refine xc2 4 6 HOPS ?_ ?_
      · go_simp
        with_reducible refine (copies_is (some ⟨b, o, none⟩) k _ (l.take k) _ (RdG.take HR_R14.out (by omega)) (by omega)).mono ?_
        rintro e w6 ⟨A7, c7, rfl, ho, hb⟩
        have HOCR14_4 := Lib.hid ho
        have HW_c4 := Lib.hid (bel_trans HW_R14.out hb)
        have HL_c4 := Lib.hid (HL_R14.out.below hb)
        have HZ_c4 := Lib.hid (HZ_R14.out.below hb)
        have HR_c4 := Lib.hid (rdgUp HR_R14.out hb)
        have HO_c4 := Lib.hid (HO_R14.out.below hb)
        have HA_c4 := Lib.hid (HA_R14.out.below hb)
        have HP_c4 := Lib.hid (HP_R14.out.below hb)
        have HBWR14_4 := Lib.hid (show Below w5.heap.size w5 w6 from HBBR14.out.trans (hb.mono (Nat.le_refl _)))
        have hBSR14_4 := Lib.hid hb.size
        have HSR14_4_4 := Lib.hid (show (fun W9 : World => W9.cell? ⟨w.heap.size, 0, none⟩ = some (.int .i64 lim) ∧ W9.cell? ⟨w.heap.size, 1, none⟩ = some (.int .i64 start) ∧ W9.cell? ⟨w.heap.size, 2, none⟩ = some (.slice (some ⟨b, o, none⟩) n c) ∧ W9.cell? ⟨P, 0, none⟩ = some (.int .i64 yb) ∧ W9.cell? ⟨P, 1, none⟩ = some (.slice A6 n6 c6)) w6 from ⟨HL_c4.out.cell 0, HL_c4.out.cell 1, HL_c4.out.cell 2, HP_c4.out.cell 0, HP_c4.out.cell 1⟩)
        clear ho hb
        refine ⟨HSR14_4_4.out, ?_⟩
        refine xc 6 HOPS ?_
        go_simp
        have hb := belA w6 (.cells #[.int .i64 yb, .slice A6 n6 c6] 59)
        have HW_b4 := Lib.hid (bel_trans HW_c4.out hb)
        have HL_b4 := Lib.hid (HL_c4.out.below hb)
        have HZ_b4 := Lib.hid (HZ_c4.out.below hb)
        have HR_b4 := Lib.hid (rdgUp HR_c4.out hb)
        have HO_b4 := Lib.hid (HO_c4.out.below hb)
        have HA_b4 := Lib.hid (HA_c4.out.below hb)
        have HP_b4 := Lib.hid (HP_c4.out.below hb)
        have HBWR14_4 := Lib.hid (bel_alloc HBWR14_4.out (.cells #[.int .i64 yb, .slice A6 n6 c6] 59))
        have HOCR14_4 := Lib.hid (HOCR14_4.out.alloc (.cells #[.int .i64 yb, .slice A6 n6 c6] 59))
        have HRFR14_4 := Lib.hid ((show RdF segC 2 (w6.alloc (.cells #[.int .i64 yb, .slice A6 n6 c6] 59)) (w6.heap.size + 1) (some ⟨w6.heap.size, 0, none⟩) 1 [(((⟨yb, ys⟩ : Sg), A6, n6, c6) : GX)] from (rdF_new w6 segSh 59 (((⟨yb, ys⟩ : Sg), A6, n6, c6) : GX))).more (B' := (w6.alloc (.cells #[.int .i64 yb, .slice A6 n6 c6] 59)).heap.size) (by simp))
        have hBSR14_4 := Lib.hid (Nat.le_trans hBSR14_4.out hb.size)
        have HSR14_4_6 := Lib.hid (show (fun W9 : World => W9.cell? ⟨w.heap.size, 0, none⟩ = some (.int .i64 lim) ∧ W9.cell? ⟨w.heap.size, 1, none⟩ = some (.int .i64 start) ∧ W9.cell? ⟨w.heap.size, 2, none⟩ = some (.slice (some ⟨b, o, none⟩) n c) ∧ W9.cell? ⟨P, 0, none⟩ = some (.int .i64 yb) ∧ W9.cell? ⟨P, 1, none⟩ = some (.slice A6 n6 c6)) (w6.alloc (.cells #[.int .i64 yb, .slice A6 n6 c6] 59)) from ⟨HL_b4.out.cell 0, HL_b4.out.cell 1, HL_b4.out.cell 2, HP_b4.out.cell 0, HP_b4.out.cell 1⟩)
        clear hb
        refine ⟨HSR14_4_6.out, ?_⟩
        refine xc 7 HOPS ?_
        obtain ⟨A8, c8, w7, hrun, ho, hb⟩ := app_one (M := w2.heap.size) (w5 := w5) (y := (⟨yb, ys⟩ : Sg)) HOCR14_4.out (by simp) HM5.out (by omega) HO6.out HM4.out (by have h9 := ap_len HAP.out; simp only at h9; unfold gMax; omega) HYI.out HBWR14_4.out HRFR14_4.out hBSR14_4.out
        have HO8_4 := Lib.hid ho
        have HB8_4 := Lib.hid hb
        have HW_a4 := Lib.hid (bel_trans HW_5.out hb)
        have HL_a4 := Lib.hid (HL_5.out.below hb)
        have HZ_a4 := Lib.hid (HZ_5.out.below hb)
        have HR_a4 := Lib.hid (rdgUp HR_5.out hb)
        have HO_a4 := Lib.hid (HO_5.out.below hb)
        have HA_a4 := Lib.hid (HA_5.out.below hb)
        have HP_a4 := Lib.hid (HP_5.out.below hb)
        have HSR14_4_7 := Lib.hid (show (fun W9 : World => W9.cell? ⟨w.heap.size, 0, none⟩ = some (.int .i64 lim) ∧ W9.cell? ⟨w.heap.size, 1, none⟩ = some (.int .i64 start) ∧ W9.cell? ⟨w.heap.size, 2, none⟩ = some (.slice (some ⟨b, o, none⟩) n c) ∧ W9.cell? ⟨P, 0, none⟩ = some (.int .i64 yb) ∧ W9.cell? ⟨P, 1, none⟩ = some (.slice A6 n6 c6)) w7 from ⟨HL_a4.out.cell 0, HL_a4.out.cell 1, HL_a4.out.cell 2, HP_a4.out.cell 0, HP_a4.out.cell 1⟩)
        clear ho hb
        refine wp_app (.tmp 68) (.tmp 70) 22 rfl rfl rfl hrun ?_
        clear hrun
        refine ⟨HSR14_4_7.out, ?_⟩
        simp only [Act.put, lss]
        refine yq 8 HOPS HSR14_4_7.out ?_; simp only [ls0, ls1]
        refine xl 9 HOPS ?_
        obtain ⟨hls_0, hls_1, hls_2⟩ := cel3 HL_a4.out
        obtain ⟨fhls_0, fhls_1, fhls_2⟩ := frz3 HL_a4.out
        go_simp
        clear hls_0 fhls_0 hls_1 fhls_1 hls_2 fhls_2
        refine stepE HOPS (by kernel_rfl) (HQ.out _ _ ?_)
        clear HQ HOPS
        clear Q ops
        have HL9 := Lib.hid (at0_put HL_a4.out 2 (.slice A8 (k + 1) c8))
        have HZ9 := Lib.hid (At0.set HZ_a4.out (p := ⟨w.heap.size, 2, none⟩) (show w.heap.size ≠ w.heap.size + 1 + 1 by omega) (.slice A8 (k + 1) c8))
        have HW9 := Lib.hid (show Below w.heap.size w (w7.setCell ⟨w.heap.size, 2, none⟩ (.slice A8 (k + 1) c8)) from HW_a4.out.setCell (Nat.le_refl _) _)
        have HO9 := Lib.hid (OwnG.off9 HO8_4.out (g := w.heap.size) HLM.out.2.1 2 (.slice A8 (k + 1) c8))
        simp only [List.set_cons_zero, List.set_cons_succ] at HL9
        generalize w7.setCell ⟨w.heap.size, 2, none⟩ (.slice A8 (k + 1) c8) = W9 at *
        have l9_0 := HL9.out.cell 0
        have l9_1 := HL9.out.cell 1
        have l9_2 := HL9.out.cell 2
        have z9_0 := HZ9.out.cell 0
        have g9_0 := HZ9.out.frozen 0
        have z9_1 := HZ9.out.cell 1
        have g9_1 := HZ9.out.frozen 1
        have z9_2 := HZ9.out.cell 2
        have g9_2 := HZ9.out.frozen 2
        simp only [List.getElem?_cons_zero, List.getElem?_cons_succ] at l9_0 l9_1 l9_2 z9_0 z9_1 z9_2
        go_wp2
        have HO10 := Lib.hid (OwnG.off3 HO9.out (g := w.heap.size + 1 + 1) HLM.out.2.2 (.int .i64 lim) (.int .i64 start) (.slice A8 (k + 1) c8))
        exact bodyPost_ret (v := .tuple #[.agg #[.int .i64 lim, .int .i64 start, .slice A8 (k + 1) c8], .int .i64 0]) (by simp [results, Tryz.results25, go_sem, z9_0, z9_1, z9_2]) rfl ⟨A8, k + 1, c8, rfl, HO10.out.more HLM.out.1 (fun b hb => Nat.le_trans HLM.out.1 hb), bel3 HW9.out (by omega) _ _ _⟩
      · go_simp
        have hb := (show Below w5.heap.size w5 (w5.alloc (.cells #[.int .i64 yb, .slice A6 n6 c6] 59)).drew from (belA _ _).drew)
        have HW_b := Lib.hid (bel_trans HW_5.out hb)
        have HL_b := Lib.hid (HL_5.out.below hb)
        have HZ_b := Lib.hid (HZ_5.out.below hb)
        have HR_b := Lib.hid (rdgUp HR_5.out hb)
        have HO_b := Lib.hid (HO_5.out.below hb)
        have HA_b := Lib.hid (HA_5.out.below hb)
        have HP_b := Lib.hid (HP_5.out.below hb)
        have HBXR14_6 := Lib.hid hb
        have HRXR14_6 := Lib.hid (show RdF segC 2 (w5.alloc (.cells #[.int .i64 yb, .slice A6 n6 c6] 59)).drew (w5.heap.size + 1) (some ⟨w5.heap.size, 0, none⟩) 1 [(((⟨yb, ys⟩ : Sg), A6, n6, c6) : GX)] from (rdF_new w5 segSh 59 (((⟨yb, ys⟩ : Sg), A6, n6, c6) : GX)))
        have HRXR14_6 := Lib.hid (HRXR14_6.out.more (B' := (w5.alloc (.cells #[.int .i64 yb, .slice A6 n6 c6] 59)).drew.heap.size) (by simp))
        have HSR14_6_6 := Lib.hid (show (fun W9 : World => W9.cell? ⟨w.heap.size, 0, none⟩ = some (.int .i64 lim) ∧ W9.cell? ⟨w.heap.size, 1, none⟩ = some (.int .i64 start) ∧ W9.cell? ⟨w.heap.size, 2, none⟩ = some (.slice (some ⟨b, o, none⟩) n c) ∧ W9.cell? ⟨P, 0, none⟩ = some (.int .i64 yb) ∧ W9.cell? ⟨P, 1, none⟩ = some (.slice A6 n6 c6)) (w5.alloc (.cells #[.int .i64 yb, .slice A6 n6 c6] 59)).drew from ⟨HL_b.out.cell 0, HL_b.out.cell 1, HL_b.out.cell 2, HP_b.out.cell 0, HP_b.out.cell 1⟩)
        clear hb
        refine ⟨HSR14_6_6.out, ?_⟩
        refine xc 4 HOPS ?_
        go_simp
        with_reducible refine (copies_is (some ⟨b, o, none⟩) k _ (l.take k) _ (RdG.take HR_b.out (by omega)) (by omega)).mono ?_
        rintro e w6 ⟨A7, c7, rfl, ho, hb⟩
        have HOCR14_6 := Lib.hid ho
        have HW_c6 := Lib.hid (bel_trans HW_b.out hb)
        have HL_c6 := Lib.hid (HL_b.out.below hb)
        have HZ_c6 := Lib.hid (HZ_b.out.below hb)
        have HR_c6 := Lib.hid (rdgUp HR_b.out hb)
        have HO_c6 := Lib.hid (HO_b.out.below hb)
        have HA_c6 := Lib.hid (HA_b.out.below hb)
        have HP_c6 := Lib.hid (HP_b.out.below hb)
        have HBWR14_6 := Lib.hid (show Below w5.heap.size w5 w6 from HBXR14_6.out.trans (hb.mono HBXR14_6.out.size))
        have HRFR14_6 := Lib.hid ((HRXR14_6.out.below hb (Nat.le_refl _)).more hb.size)
        have hBSR14_6 := Lib.hid hb.size
        have HSR14_6_4 := Lib.hid (show (fun W9 : World => W9.cell? ⟨w.heap.size, 0, none⟩ = some (.int .i64 lim) ∧ W9.cell? ⟨w.heap.size, 1, none⟩ = some (.int .i64 start) ∧ W9.cell? ⟨w.heap.size, 2, none⟩ = some (.slice (some ⟨b, o, none⟩) n c) ∧ W9.cell? ⟨P, 0, none⟩ = some (.int .i64 yb) ∧ W9.cell? ⟨P, 1, none⟩ = some (.slice A6 n6 c6)) w6 from ⟨HL_c6.out.cell 0, HL_c6.out.cell 1, HL_c6.out.cell 2, HP_c6.out.cell 0, HP_c6.out.cell 1⟩)
        clear ho hb
        refine ⟨HSR14_6_4.out, ?_⟩
        refine xc 7 HOPS ?_
        obtain ⟨A8, c8, w7, hrun, ho, hb⟩ := app_one (M := w2.heap.size) (w5 := w5) (y := (⟨yb, ys⟩ : Sg)) HOCR14_6.out (by simp) HM5.out (by omega) HO6.out HM4.out (by have h9 := ap_len HAP.out; simp only at h9; unfold gMax; omega) HYI.out HBWR14_6.out HRFR14_6.out hBSR14_6.out
        have HO8_6 := Lib.hid ho
        have HB8_6 := Lib.hid hb
        have HW_a6 := Lib.hid (bel_trans HW_5.out hb)
        have HL_a6 := Lib.hid (HL_5.out.below hb)
        have HZ_a6 := Lib.hid (HZ_5.out.below hb)
        have HR_a6 := Lib.hid (rdgUp HR_5.out hb)
        have HO_a6 := Lib.hid (HO_5.out.below hb)
        have HA_a6 := Lib.hid (HA_5.out.below hb)
        have HP_a6 := Lib.hid (HP_5.out.below hb)
        have HSR14_6_7 := Lib.hid (show (fun W9 : World => W9.cell? ⟨w.heap.size, 0, none⟩ = some (.int .i64 lim) ∧ W9.cell? ⟨w.heap.size, 1, none⟩ = some (.int .i64 start) ∧ W9.cell? ⟨w.heap.size, 2, none⟩ = some (.slice (some ⟨b, o, none⟩) n c) ∧ W9.cell? ⟨P, 0, none⟩ = some (.int .i64 yb) ∧ W9.cell? ⟨P, 1, none⟩ = some (.slice A6 n6 c6)) w7 from ⟨HL_a6.out.cell 0, HL_a6.out.cell 1, HL_a6.out.cell 2, HP_a6.out.cell 0, HP_a6.out.cell 1⟩)
        clear ho hb
        refine wp_app (.tmp 68) (.tmp 70) 22 rfl rfl rfl hrun ?_
        clear hrun
        refine ⟨HSR14_6_7.out, ?_⟩
        simp only [Act.put, lss]
        refine yq 8 HOPS HSR14_6_7.out ?_; simp only [ls0, ls1]
        refine xl 9 HOPS ?_
        obtain ⟨hls_0, hls_1, hls_2⟩ := cel3 HL_a6.out
        obtain ⟨fhls_0, fhls_1, fhls_2⟩ := frz3 HL_a6.out
        go_simp
        clear hls_0 fhls_0 hls_1 fhls_1 hls_2 fhls_2
        refine stepE HOPS (by kernel_rfl) (HQ.out _ _ ?_)
        clear HQ HOPS
        clear Q ops
        have HL9 := Lib.hid (at0_put HL_a6.out 2 (.slice A8 (k + 1) c8))
        have HZ9 := Lib.hid (At0.set HZ_a6.out (p := ⟨w.heap.size, 2, none⟩) (show w.heap.size ≠ w.heap.size + 1 + 1 by omega) (.slice A8 (k + 1) c8))
        have HW9 := Lib.hid (show Below w.heap.size w (w7.setCell ⟨w.heap.size, 2, none⟩ (.slice A8 (k + 1) c8)) from HW_a6.out.setCell (Nat.le_refl _) _)
        have HO9 := Lib.hid (OwnG.off9 HO8_6.out (g := w.heap.size) HLM.out.2.1 2 (.slice A8 (k + 1) c8))
        simp only [List.set_cons_zero, List.set_cons_succ] at HL9
        generalize w7.setCell ⟨w.heap.size, 2, none⟩ (.slice A8 (k + 1) c8) = W9 at *
        have l9_0 := HL9.out.cell 0
        have l9_1 := HL9.out.cell 1
        have l9_2 := HL9.out.cell 2
        have z9_0 := HZ9.out.cell 0
        have g9_0 := HZ9.out.frozen 0
        have z9_1 := HZ9.out.cell 1
        have g9_1 := HZ9.out.frozen 1
        have z9_2 := HZ9.out.cell 2
        have g9_2 := HZ9.out.frozen 2
        simp only [List.getElem?_cons_zero, List.getElem?_cons_succ] at l9_0 l9_1 l9_2 z9_0 z9_1 z9_2
        go_wp2
        have HO10 := Lib.hid (OwnG.off3 HO9.out (g := w.heap.size + 1 + 1) HLM.out.2.2 (.int .i64 lim) (.int .i64 start) (.slice A8 (k + 1) c8))
        exact bodyPost_ret (v := .tuple #[.agg #[.int .i64 lim, .int .i64 start, .slice A8 (k + 1) c8], .int .i64 0]) (by simp [results, Tryz.results25, go_sem, z9_0, z9_1, z9_2]) rfl ⟨A8, k + 1, c8, rfl, HO10.out.more HLM.out.1 (fun b hb => Nat.le_trans HLM.out.1 hb), bel3 HW9.out (by omega) _ _ _⟩
    · -- there are too many
      have hcF := beqF hz
      have hc2 : ((n : Int) == 256) = true := by rw [hn9]; rfl
      obtain ⟨hl5_0, hl5_1, hl5_2⟩ := cel3 HL_5.out
      obtain ⟨hz5_0, hz5_1, hz5_2⟩ := cel3 HZ_5.out
      obtain ⟨fhz5_0, fhz5_1, fhz5_2⟩ := frz3 HZ_5.out
      go_wp2
      exact bodyPost_ret (v := .tuple #[.agg #[.int .i64 0, .int .i64 0, .slice none 0 0], .int .i64 2]) (by simp [results, Tryz.results25, go_sem, hz5_0, hz5_1, hz5_2]) rfl ⟨none, 0, 0, rfl, OwnG.nil, bel3 HW_5.out (by omega) _ _ _⟩
    · -- a segment of its own
      have hcF := beqF hz
      have hc2 : ((n : Int) == 256) = false := by simp only [beq_eq_false_iff_ne]; omega
      have HMO := Lib.hid (show w2.heap.size ≤ (w2.alloc (.cells #[.int .i64 ba, .int .i64 la, .int .i64 fr, .int .i64 ep, .int .i64 pi, .int .i64 ge, .int .i64 se, .bool tx, .int .i64 ct, .slice A1 n1 c1] 39)).heap.size by simp)
      obtain ⟨hl5_0, hl5_1, hl5_2⟩ := cel3 HL_5.out
      go_wp2
      have hbd := (Below.refl w5.heap.size w5).drew
      have HW_R18 := Lib.hid (bel_trans HW_5.out hbd)
      have HL_R18 := Lib.hid (HL_5.out.below hbd)
      have HZ_R18 := Lib.hid (HZ_5.out.below hbd)
      have HR_R18 := Lib.hid (rdgUp HR_5.out hbd)
      have HO_R18 := Lib.hid (HO_5.out.below hbd)
      have HA_R18 := Lib.hid (HA_5.out.below hbd)
      have HP_R18 := Lib.hid (HP_5.out.below hbd)
      have HBBR18 := Lib.hid hbd
      have HSR18 := Lib.hid (show (fun W9 : World => W9.cell? ⟨w.heap.size, 0, none⟩ = some (.int .i64 lim) ∧ W9.cell? ⟨w.heap.size, 1, none⟩ = some (.int .i64 start) ∧ W9.cell? ⟨w.heap.size, 2, none⟩ = some (.slice (some ⟨b, o, none⟩) n c) ∧ W9.cell? ⟨w3.heap.size, 0, none⟩ = some (.int .i64 ba) ∧ W9.cell? ⟨w3.heap.size, 1, none⟩ = some (.slice A3 n3 c3)) w5.drew from ⟨HL_R18.out.cell 0, HL_R18.out.cell 1, HL_R18.out.cell 2, HA_R18.out.cell 0, HA_R18.out.cell 1⟩)
      clear hbd
      refine region_let (fun W9 : World => W9.cell? ⟨w.heap.size, 0, none⟩ = some (.int .i64 lim) ∧ W9.cell? ⟨w.heap.size, 1, none⟩ = some (.int .i64 start) ∧ W9.cell? ⟨w.heap.size, 2, none⟩ = some (.slice (some ⟨b, o, none⟩) n c) ∧ W9.cell? ⟨w3.heap.size, 0, none⟩ = some (.int .i64 ba) ∧ W9.cell? ⟨w3.heap.size, 1, none⟩ = some (.slice A3 n3 c3)) 7 8 hmx rfl fun ops Q HOPS HQ => ?_
      refine yq 0 HOPS HSR18.out ?_; simp only [ls0, ls1]; refine yq 1 HOPS HSR18.out ?_; simp only [ls0, ls1]; refine yq 3 HOPS HSR18.out ?_; simp only [ls0, ls1]
      refine xc2 2 4 HOPS ?_ ?_
      · go_simp
        with_reducible refine (copies_is (some ⟨b, o, none⟩) n _ l _ HR_R18.out (by omega)).mono ?_
        rintro e w6 ⟨A7, c7, rfl, ho, hb⟩
        have HOCR18_2 := Lib.hid ho
        have HW_c2 := Lib.hid (bel_trans HW_R18.out hb)
        have HL_c2 := Lib.hid (HL_R18.out.below hb)
        have HZ_c2 := Lib.hid (HZ_R18.out.below hb)
        have HR_c2 := Lib.hid (rdgUp HR_R18.out hb)
        have HO_c2 := Lib.hid (HO_R18.out.below hb)
        have HA_c2 := Lib.hid (HA_R18.out.below hb)
        have HP_c2 := Lib.hid (HP_R18.out.below hb)
        have HBWR18_2 := Lib.hid (show Below w5.heap.size w5 w6 from HBBR18.out.trans (hb.mono (Nat.le_refl _)))
        have hBSR18_2 := Lib.hid hb.size
        have HSR18_2_2 := Lib.hid (show (fun W9 : World => W9.cell? ⟨w.heap.size, 0, none⟩ = some (.int .i64 lim) ∧ W9.cell? ⟨w.heap.size, 1, none⟩ = some (.int .i64 start) ∧ W9.cell? ⟨w.heap.size, 2, none⟩ = some (.slice (some ⟨b, o, none⟩) n c) ∧ W9.cell? ⟨w3.heap.size, 0, none⟩ = some (.int .i64 ba) ∧ W9.cell? ⟨w3.heap.size, 1, none⟩ = some (.slice A3 n3 c3)) w6 from ⟨HL_c2.out.cell 0, HL_c2.out.cell 1, HL_c2.out.cell 2, HA_c2.out.cell 0, HA_c2.out.cell 1⟩)
        clear ho hb
        refine ⟨HSR18_2_2.out, ?_⟩
        refine xc 4 HOPS ?_
        go_simp
        have hb := belA w6 (.cells #[.int .i64 ba, .slice A3 n3 c3] 59)
        have HW_b2 := Lib.hid (bel_trans HW_c2.out hb)
        have HL_b2 := Lib.hid (HL_c2.out.below hb)
        have HZ_b2 := Lib.hid (HZ_c2.out.below hb)
        have HR_b2 := Lib.hid (rdgUp HR_c2.out hb)
        have HO_b2 := Lib.hid (HO_c2.out.below hb)
        have HA_b2 := Lib.hid (HA_c2.out.below hb)
        have HP_b2 := Lib.hid (HP_c2.out.below hb)
        have HBWR18_2 := Lib.hid (bel_alloc HBWR18_2.out (.cells #[.int .i64 ba, .slice A3 n3 c3] 59))
        have HOCR18_2 := Lib.hid (HOCR18_2.out.alloc (.cells #[.int .i64 ba, .slice A3 n3 c3] 59))
        have HRFR18_2 := Lib.hid ((show RdF segC 2 (w6.alloc (.cells #[.int .i64 ba, .slice A3 n3 c3] 59)) (w6.heap.size + 1) (some ⟨w6.heap.size, 0, none⟩) 1 [(((⟨ba, byB ⟨ba, la, fr, ep, pi, ge, se, tx, ct, rs⟩⟩ : Sg), A3, n3, c3) : GX)] from (rdF_new w6 segSh 59 (((⟨ba, byB ⟨ba, la, fr, ep, pi, ge, se, tx, ct, rs⟩⟩ : Sg), A3, n3, c3) : GX))).more (B' := (w6.alloc (.cells #[.int .i64 ba, .slice A3 n3 c3] 59)).heap.size) (by simp))
        have hBSR18_2 := Lib.hid (Nat.le_trans hBSR18_2.out hb.size)
        have HSR18_2_4 := Lib.hid (show (fun W9 : World => W9.cell? ⟨w.heap.size, 0, none⟩ = some (.int .i64 lim) ∧ W9.cell? ⟨w.heap.size, 1, none⟩ = some (.int .i64 start) ∧ W9.cell? ⟨w.heap.size, 2, none⟩ = some (.slice (some ⟨b, o, none⟩) n c) ∧ W9.cell? ⟨w3.heap.size, 0, none⟩ = some (.int .i64 ba) ∧ W9.cell? ⟨w3.heap.size, 1, none⟩ = some (.slice A3 n3 c3)) (w6.alloc (.cells #[.int .i64 ba, .slice A3 n3 c3] 59)) from ⟨HL_b2.out.cell 0, HL_b2.out.cell 1, HL_b2.out.cell 2, HA_b2.out.cell 0, HA_b2.out.cell 1⟩)
        clear hb
        refine ⟨HSR18_2_4.out, ?_⟩
        refine xc 5 HOPS ?_
        obtain ⟨A8, c8, w7, hrun, ho, hb⟩ := app_one (M := w2.heap.size) (w5 := w5) (y := (⟨ba, byB ⟨ba, la, fr, ep, pi, ge, se, tx, ct, rs⟩⟩ : Sg)) HOCR18_2.out (by simp) HM5.out (by omega) HO_5.out HMO.out (by unfold gMax; have h9 := HO_5.out.len; omega) hbI HBWR18_2.out HRFR18_2.out hBSR18_2.out
        have HO8_2 := Lib.hid ho
        have HB8_2 := Lib.hid hb
        have HW_a2 := Lib.hid (bel_trans HW_5.out hb)
        have HL_a2 := Lib.hid (HL_5.out.below hb)
        have HZ_a2 := Lib.hid (HZ_5.out.below hb)
        have HR_a2 := Lib.hid (rdgUp HR_5.out hb)
        have HO_a2 := Lib.hid (HO_5.out.below hb)
        have HA_a2 := Lib.hid (HA_5.out.below hb)
        have HP_a2 := Lib.hid (HP_5.out.below hb)
        have HSR18_2_5 := Lib.hid (show (fun W9 : World => W9.cell? ⟨w.heap.size, 0, none⟩ = some (.int .i64 lim) ∧ W9.cell? ⟨w.heap.size, 1, none⟩ = some (.int .i64 start) ∧ W9.cell? ⟨w.heap.size, 2, none⟩ = some (.slice (some ⟨b, o, none⟩) n c) ∧ W9.cell? ⟨w3.heap.size, 0, none⟩ = some (.int .i64 ba) ∧ W9.cell? ⟨w3.heap.size, 1, none⟩ = some (.slice A3 n3 c3)) w7 from ⟨HL_a2.out.cell 0, HL_a2.out.cell 1, HL_a2.out.cell 2, HA_a2.out.cell 0, HA_a2.out.cell 1⟩)
        clear ho hb
        refine wp_app (.tmp 81) (.tmp 83) 22 rfl rfl rfl hrun ?_
        clear hrun
        refine ⟨HSR18_2_5.out, ?_⟩
        simp only [Act.put, lss]
        refine yq 6 HOPS HSR18_2_5.out ?_; simp only [ls0, ls1]
        refine xl 7 HOPS ?_
        obtain ⟨hls_0, hls_1, hls_2⟩ := cel3 HL_a2.out
        obtain ⟨fhls_0, fhls_1, fhls_2⟩ := frz3 HL_a2.out
        go_simp
        clear hls_0 fhls_0 hls_1 fhls_1 hls_2 fhls_2
        refine stepE HOPS (by kernel_rfl) (HQ.out _ _ ?_)
        clear HQ HOPS
        clear Q ops
        have HL9 := Lib.hid (at0_put HL_a2.out 2 (.slice A8 (n + 1) c8))
        have HZ9 := Lib.hid (At0.set HZ_a2.out (p := ⟨w.heap.size, 2, none⟩) (show w.heap.size ≠ w.heap.size + 1 + 1 by omega) (.slice A8 (n + 1) c8))
        have HW9 := Lib.hid (show Below w.heap.size w (w7.setCell ⟨w.heap.size, 2, none⟩ (.slice A8 (n + 1) c8)) from HW_a2.out.setCell (Nat.le_refl _) _)
        have HO9 := Lib.hid (OwnG.off9 HO8_2.out (g := w.heap.size) HLM.out.2.1 2 (.slice A8 (n + 1) c8))
        simp only [List.set_cons_zero, List.set_cons_succ] at HL9
        generalize w7.setCell ⟨w.heap.size, 2, none⟩ (.slice A8 (n + 1) c8) = W9 at *
        have l9_0 := HL9.out.cell 0
        have l9_1 := HL9.out.cell 1
        have l9_2 := HL9.out.cell 2
        have z9_0 := HZ9.out.cell 0
        have g9_0 := HZ9.out.frozen 0
        have z9_1 := HZ9.out.cell 1
        have g9_1 := HZ9.out.frozen 1
        have z9_2 := HZ9.out.cell 2
        have g9_2 := HZ9.out.frozen 2
        simp only [List.getElem?_cons_zero, List.getElem?_cons_succ] at l9_0 l9_1 l9_2 z9_0 z9_1 z9_2
        go_wp2
        have HO10 := Lib.hid (OwnG.off3 HO9.out (g := w.heap.size + 1 + 1) HLM.out.2.2 (.int .i64 lim) (.int .i64 start) (.slice A8 (n + 1) c8))
        exact bodyPost_ret (v := .tuple #[.agg #[.int .i64 lim, .int .i64 start, .slice A8 (n + 1) c8], .int .i64 0]) (by simp [results, Tryz.results25, go_sem, z9_0, z9_1, z9_2]) rfl ⟨A8, n + 1, c8, rfl, HO10.out.more HLM.out.1 (fun b hb => Nat.le_trans HLM.out.1 hb), bel3 HW9.out (by omega) _ _ _⟩
      · go_simp
        have hb := (show Below w5.heap.size w5 (w5.alloc (.cells #[.int .i64 ba, .slice A3 n3 c3] 59)).drew from (belA _ _).drew)
        have HW_b := Lib.hid (bel_trans HW_5.out hb)
        have HL_b := Lib.hid (HL_5.out.below hb)
        have HZ_b := Lib.hid (HZ_5.out.below hb)
        have HR_b := Lib.hid (rdgUp HR_5.out hb)
        have HO_b := Lib.hid (HO_5.out.below hb)
        have HA_b := Lib.hid (HA_5.out.below hb)
        have HP_b := Lib.hid (HP_5.out.below hb)
        have HBXR18_4 := Lib.hid hb
        have HRXR18_4 := Lib.hid (show RdF segC 2 (w5.alloc (.cells #[.int .i64 ba, .slice A3 n3 c3] 59)).drew (w5.heap.size + 1) (some ⟨w5.heap.size, 0, none⟩) 1 [(((⟨ba, byB ⟨ba, la, fr, ep, pi, ge, se, tx, ct, rs⟩⟩ : Sg), A3, n3, c3) : GX)] from (rdF_new w5 segSh 59 (((⟨ba, byB ⟨ba, la, fr, ep, pi, ge, se, tx, ct, rs⟩⟩ : Sg), A3, n3, c3) : GX)))
        have HRXR18_4 := Lib.hid (HRXR18_4.out.more (B' := (w5.alloc (.cells #[.int .i64 ba, .slice A3 n3 c3] 59)).drew.heap.size) (by simp))
        have HSR18_4_4 := Lib.hid (show (fun W9 : World => W9.cell? ⟨w.heap.size, 0, none⟩ = some (.int .i64 lim) ∧ W9.cell? ⟨w.heap.size, 1, none⟩ = some (.int .i64 start) ∧ W9.cell? ⟨w.heap.size, 2, none⟩ = some (.slice (some ⟨b, o, none⟩) n c) ∧ W9.cell? ⟨w3.heap.size, 0, none⟩ = some (.int .i64 ba) ∧ W9.cell? ⟨w3.heap.size, 1, none⟩ = some (.slice A3 n3 c3)) (w5.alloc (.cells #[.int .i64 ba, .slice A3 n3 c3] 59)).drew from ⟨HL_b.out.cell 0, HL_b.out.cell 1, HL_b.out.cell 2, HA_b.out.cell 0, HA_b.out.cell 1⟩)
        clear hb
        refine ⟨HSR18_4_4.out, ?_⟩
        refine xc 2 HOPS ?_
        go_simp
        with_reducible refine (copies_is (some ⟨b, o, none⟩) n _ l _ HR_b.out (by omega)).mono ?_
        rintro e w6 ⟨A7, c7, rfl, ho, hb⟩
        have HOCR18_4 := Lib.hid ho
        have HW_c4 := Lib.hid (bel_trans HW_b.out hb)
        have HL_c4 := Lib.hid (HL_b.out.below hb)
        have HZ_c4 := Lib.hid (HZ_b.out.below hb)
        have HR_c4 := Lib.hid (rdgUp HR_b.out hb)
        have HO_c4 := Lib.hid (HO_b.out.below hb)
        have HA_c4 := Lib.hid (HA_b.out.below hb)
        have HP_c4 := Lib.hid (HP_b.out.below hb)
        have HBWR18_4 := Lib.hid (show Below w5.heap.size w5 w6 from HBXR18_4.out.trans (hb.mono HBXR18_4.out.size))
        have HRFR18_4 := Lib.hid ((HRXR18_4.out.below hb (Nat.le_refl _)).more hb.size)
        have hBSR18_4 := Lib.hid hb.size
        have HSR18_4_2 := Lib.hid (show (fun W9 : World => W9.cell? ⟨w.heap.size, 0, none⟩ = some (.int .i64 lim) ∧ W9.cell? ⟨w.heap.size, 1, none⟩ = some (.int .i64 start) ∧ W9.cell? ⟨w.heap.size, 2, none⟩ = some (.slice (some ⟨b, o, none⟩) n c) ∧ W9.cell? ⟨w3.heap.size, 0, none⟩ = some (.int .i64 ba) ∧ W9.cell? ⟨w3.heap.size, 1, none⟩ = some (.slice A3 n3 c3)) w6 from ⟨HL_c4.out.cell 0, HL_c4.out.cell 1, HL_c4.out.cell 2, HA_c4.out.cell 0, HA_c4.out.cell 1⟩)
        clear ho hb
        refine ⟨HSR18_4_2.out, ?_⟩
        refine xc 5 HOPS ?_
        obtain ⟨A8, c8, w7, hrun, ho, hb⟩ := app_one (M := w2.heap.size) (w5 := w5) (y := (⟨ba, byB ⟨ba, la, fr, ep, pi, ge, se, tx, ct, rs⟩⟩ : Sg)) HOCR18_4.out (by simp) HM5.out (by omega) HO_5.out HMO.out (by unfold gMax; have h9 := HO_5.out.len; omega) hbI HBWR18_4.out HRFR18_4.out hBSR18_4.out
        have HO8_4 := Lib.hid ho
        have HB8_4 := Lib.hid hb
        have HW_a4 := Lib.hid (bel_trans HW_5.out hb)
        have HL_a4 := Lib.hid (HL_5.out.below hb)
        have HZ_a4 := Lib.hid (HZ_5.out.below hb)
        have HR_a4 := Lib.hid (rdgUp HR_5.out hb)
        have HO_a4 := Lib.hid (HO_5.out.below hb)
        have HA_a4 := Lib.hid (HA_5.out.below hb)
        have HP_a4 := Lib.hid (HP_5.out.below hb)
        have HSR18_4_5 := Lib.hid (show (fun W9 : World => W9.cell? ⟨w.heap.size, 0, none⟩ = some (.int .i64 lim) ∧ W9.cell? ⟨w.heap.size, 1, none⟩ = some (.int .i64 start) ∧ W9.cell? ⟨w.heap.size, 2, none⟩ = some (.slice (some ⟨b, o, none⟩) n c) ∧ W9.cell? ⟨w3.heap.size, 0, none⟩ = some (.int .i64 ba) ∧ W9.cell? ⟨w3.heap.size, 1, none⟩ = some (.slice A3 n3 c3)) w7 from ⟨HL_a4.out.cell 0, HL_a4.out.cell 1, HL_a4.out.cell 2, HA_a4.out.cell 0, HA_a4.out.cell 1⟩)
        clear ho hb
        refine wp_app (.tmp 81) (.tmp 83) 22 rfl rfl rfl hrun ?_
        clear hrun
        refine ⟨HSR18_4_5.out, ?_⟩
        simp only [Act.put, lss]
        refine yq 6 HOPS HSR18_4_5.out ?_; simp only [ls0, ls1]
        refine xl 7 HOPS ?_
        obtain ⟨hls_0, hls_1, hls_2⟩ := cel3 HL_a4.out
        obtain ⟨fhls_0, fhls_1, fhls_2⟩ := frz3 HL_a4.out
        go_simp
        clear hls_0 fhls_0 hls_1 fhls_1 hls_2 fhls_2
        refine stepE HOPS (by kernel_rfl) (HQ.out _ _ ?_)
        clear HQ HOPS
        clear Q ops
        have HL9 := Lib.hid (at0_put HL_a4.out 2 (.slice A8 (n + 1) c8))
        have HZ9 := Lib.hid (At0.set HZ_a4.out (p := ⟨w.heap.size, 2, none⟩) (show w.heap.size ≠ w.heap.size + 1 + 1 by omega) (.slice A8 (n + 1) c8))
        have HW9 := Lib.hid (show Below w.heap.size w (w7.setCell ⟨w.heap.size, 2, none⟩ (.slice A8 (n + 1) c8)) from HW_a4.out.setCell (Nat.le_refl _) _)
        have HO9 := Lib.hid (OwnG.off9 HO8_4.out (g := w.heap.size) HLM.out.2.1 2 (.slice A8 (n + 1) c8))
        simp only [List.set_cons_zero, List.set_cons_succ] at HL9
        generalize w7.setCell ⟨w.heap.size, 2, none⟩ (.slice A8 (n + 1) c8) = W9 at *
        have l9_0 := HL9.out.cell 0
        have l9_1 := HL9.out.cell 1
        have l9_2 := HL9.out.cell 2
        have z9_0 := HZ9.out.cell 0
        have g9_0 := HZ9.out.frozen 0
        have z9_1 := HZ9.out.cell 1
        have g9_1 := HZ9.out.frozen 1
        have z9_2 := HZ9.out.cell 2
        have g9_2 := HZ9.out.frozen 2
        simp only [List.getElem?_cons_zero, List.getElem?_cons_succ] at l9_0 l9_1 l9_2 z9_0 z9_1 z9_2
        go_wp2
        have HO10 := Lib.hid (OwnG.off3 HO9.out (g := w.heap.size + 1 + 1) HLM.out.2.2 (.int .i64 lim) (.int .i64 start) (.slice A8 (n + 1) c8))
        exact bodyPost_ret (v := .tuple #[.agg #[.int .i64 lim, .int .i64 start, .slice A8 (n + 1) c8], .int .i64 0]) (by simp [results, Tryz.results25, go_sem, z9_0, z9_1, z9_2]) rfl ⟨A8, n + 1, c8, rfl, HO10.out.more HLM.out.1 (fun b hb => Nat.le_trans HLM.out.1 hb), bel3 HW9.out (by omega) _ _ _⟩
theorem Append_is (lim start : Int) (A : Option Addr) (n c : Nat) (l : List Sg) (ba la fr ep pi ge se : Int) (tx : Bool) (ct : Int) (rs : List Rc) (A1 : Option Addr) (n1 c1 : Nat) (w : World) (hr : RdG w w.heap.size A n l) (ht : Tab w) (hc : n ≤ c) (hn : n ≤ 1000000) (hf : Fits ⟨ba, la, fr, ep, pi, ge, se, tx, ct, rs⟩) (hx : RdR w w.heap.size A1 n1 rs) (hnc : n1 ≤ c1) (hn1 : n1 ≤ 1099511627776) {xl xs e9 : Int} {x : List Sg} (h : apL ⟨lim, start, l⟩ ⟨ba, la, fr, ep, pi, ge, se, tx, ct, rs⟩ = (⟨xl, xs, x⟩, e9)) :
    Calls Tryz.prog 25 #[.agg #[.int .i64 lim, .int .i64 start, .slice A n c], .agg #[.int .i64 ba, .int .i64 la, .int .i64 fr, .int .i64 ep, .int .i64 pi, .int .i64 ge, .int .i64 se, .bool tx, .int .i64 ct, .slice A1 n1 c1]] w (TO w xl xs x e9) := by
  rcases apL_ways h with ⟨h0, hw⟩ | ⟨h1, h2, h3, h4, s0, hs0, hw⟩
  · injection h0 with a1 a2 a3
    subst a1; subst a2; subst a3
    rcases hO : ofS ba [⟨ba, la, fr, ep, pi, ge, se, tx, ct, rs⟩] lim with ⟨⟨xb, xy⟩, xe⟩
    refine Append_bad lim start A n c l ba la fr ep pi ge se tx ct rs A1 n1 c1 w hr ht hc hn hf hx hnc hn1 rfl rfl rfl hO ?_
    rcases hw with hw | ⟨h1, h2, h3⟩ | ⟨h1, h2, h3, h4⟩ | ⟨h1, h2, h3, h4, h5⟩
    · exact .inl hw
    · exact .inr (.inl ⟨h1, h2, h3⟩)
    · exact .inr (.inr (.inl ⟨h1, h2, by unfold endT; rw [if_pos h1]; exact h3, h4⟩))
    · rw [hO] at h4
      injection h4 with _ h6
      exact .inr (.inr (.inr ⟨h1, h2, by unfold endT; rw [if_pos h1]; exact h3, h6, h5⟩))
  · have hlen := hr.len
    have hE : endT ⟨lim, start, l⟩ = endL ⟨lim, start, l⟩ := by unfold endT; rw [if_pos h1]
    simp only at hs0 hw
    rw [hlen] at hs0 hw
    rcases hw with ⟨⟨yb, ys⟩, hap, hx0, h9⟩ | ⟨⟨yb, ys⟩, z, hap, hz, hw⟩
    · injection hx0 with a1 a2 a3
      exact Append_ok lim start A n c l ba la fr ep pi ge se tx ct rs A1 n1 c1 w hr ht hc hn hf hx hnc hn1 hE h1 h2 h3 h4 hs0 hap (.inl ⟨rfl, a3, a1.symm, a2.symm, h9⟩)
    · rcases hw with ⟨h5, hx0, h9⟩ | ⟨h5, hx0, h9⟩
      · injection hx0 with a1 a2 a3
        exact Append_ok lim start A n c l ba la fr ep pi ge se tx ct rs A1 n1 c1 w hr ht hc hn hf hx hnc hn1 hE h1 h2 h3 h4 hs0 hap (.inr (.inl ⟨hz, h5, a3, a1, a2, h9⟩))
      · injection hx0 with a1 a2 a3
        exact Append_ok lim start A n c l ba la fr ep pi ge se tx ct rs A1 n1 c1 w hr ht hc hn hf hx hnc hn1 hE h1 h2 h3 h4 hs0 hap (.inr (.inr ⟨hz, h5, a3, a1.symm, a2.symm, h9⟩))
end Go.Proofs.YtejcjmiofidedaaGreatDoor.Chn
