/- Joined: TxnDN. -/
import Derived.Test.YtlfbagkonckffaaGreatJ36
/- The landed txns: Of. -/
namespace Go.Proofs.YtlfbagkonckffaaGreat.Txn
open Go.RowKit Go.Shelf Go.Sort Oct Rec RowF Lay InR RngQ Bat RowL
open Epo (At0 AtO belA cel2)
open Sqs (at0_grown at0_set9 grown_set9 grown_bel grown_then)

attribute [local go_sem] Oper.semAt_some

theorem keeps_row {A V : World} {row : Option Nat} (hg : A.grownBy V row) (hc : ∀ k, row = some k → ∀ o, A.heap[k]? = some o → o.isCells = true) (B : Nat) : KeepsFrom B A V := ⟨hg.size, fun k o _ ho hn => (hg.block k (Array.getElem?_eq_some_iff.1 ho).1 (fun e => by have := hc k e.symm o ho; rw [hn] at this; cases this)).trans ho⟩
set_option maxRecDepth 100000 in
set_option maxHeartbeats 32000000 in
theorem of_is (A : Option Addr) (n c : Nat) (L : List BX) (w : World) (hr : RdF batC 10 w w.heap.size A n L) (hn : n ≤ 1000) (hx : ∀ x ∈ L, x.2.2.1 ≤ x.2.2.2 ∧ x.2.2.1 ≤ 1099511627776 ∧ RdR w w.heap.size x.2.1 x.2.2.1 x.1.recs ∧ Fits x.1) :
    Calls Tryz.prog 31 #[.slice A n c] w fun e w' => ∃ A1 n1 c1 A2 n2 c2 A3 n3 c3, e = .returned (.agg #[.slice A1 n1 c1, .slice A2 n2 c2, .slice A3 n3 c3]) ∧ OwnTx w' w.heap.size A1 n1 c1 A2 n2 c2 A3 n3 c3 (ofT (L.map (·.1))) ∧ Below w.heap.size w w' := by
  have HR := Lib.hid hr
  have HX := Lib.hid hx
  have HLN := Lib.hid hr.len
  have hnr : n ≤ reach := Nat.le_trans hn (by decide)
  clear hr hx
  have hmm := @run_makeMap Tryz.prog
  refine (callsIn_wide (n := 6)).1 ?_
  refine callsIn_of_wp_marks Tryz.func31 rfl trivial ?_ rfl
  simp only [Tryz.ntmps31, List.size_toArray, List.length_cons, List.length_nil, Nat.reduceAdd, Nat.reduceSub, Array.replicate_succ, Array.replicate_zero, List.push_toArray, List.append_toArray, List.nil_append, List.cons_append]
  refine wpIn_wide.2 ?_
  go_wp2_with (go_at_call 66; (with_reducible refine (eachB_is _ _ _ _).mono ?_); rintro e w' ⟨rfl, rfl⟩)
  generalize hw0 : (World.alloc (World.alloc (World.alloc (World.alloc (World.alloc (World.alloc (World.alloc w _) _) _) _) _) _) _) = W0
  obtain ⟨hsz, hB0, hA0, hA1, hA3, hA4, hA5, hA6, hM⟩ := of_start A n c w hw0
  clear hw0 hmm
  refine (wpIn_wide (n := 6)).1 ?_
  refine wpIn_rangeQ (F := Fence.wide) rfl (by omega) (gf := 89) (lb := #[.pointer (some ⟨w.heap.size + 1 + 1 + 1 + 1 + 1 + 1, 0, none⟩)]) rfl trivial (enters_of Tryz.func89 (by kernel_rfl) rfl)
    (eaB_seq (6 - 1) (by omega) (w.heap.size + 1 + 1 + 1 + 1 + 1 + 1) (w.heap.size + 1 + 1 + 1 + 1 + 1) w.heap.size 1 1 _ W0 (ea_one (x := ⟨A, n, c, L⟩) (HR.out.below hB0 (Nat.le_refl _)) hnr hB0.size hA5 hA6)) (fun k h => by rcases h with h | h | h <;> omega) (Below.refl _ _) (fun _ => rfl)
    (fun pre W => (∃ A2 n2 c2 A3 n3 c3 cnt rest, L = pre ++ rest ∧ cnt ≤ pre.length ∧ OfS W w.heap.size W0.heap.size A2 n2 c2 A3 n3 c3 cnt (ofT (pre.map (·.1)))) ∧ Below w.heap.size w W)
    (fun _ _ _ => False)
    (fun pre X Y row hs hg hrow => by
      obtain ⟨⟨A2, n2, c2, A3, n3, c3, cnt, rest, h1, h2, h3⟩, h5⟩ := hs
      exact ⟨⟨A2, n2, c2, A3, n3, c3, cnt, rest, h1, h2, h3.turn (M := W0.heap.size) (by omega) hg hrow⟩, bel_own (Nat.le_refl _) hB0.size h5 hg hrow⟩)
    (fun _ _ _ _ _ hs _ _ => hs)
    ⟨⟨none, 0, 0, none, 0, 0, 0, L, rfl, Nat.le_refl _, ⟨hA0, hA1, hA3, hA4, nilTx W0 W0.heap.size, hM⟩⟩, hB0⟩
    (fun pre x W1 a' W => (∃ Bx A2 n2 c2 A3 n3 c3 cnt rest, W1.heap.size ≤ Bx ∧ W0.heap.size ≤ W1.heap.size ∧ L = pre ++ x :: rest ∧ cnt ≤ pre.length ∧ (∀ g, (Value.slice A2 n2 c2).ownBlock = some g ∨ (Value.slice A3 n3 c3).ownBlock = some g → g < W1.heap.size) ∧ OfS W w.heap.size W0.heap.size A2 n2 c2 A3 n3 c3 cnt (ofT (pre.map (·.1))) ∧ At0 W Bx (batC x) 28 ∧ a' = { tmps := #[.slice A n c, undef, .pointer (some ⟨w.heap.size, 0, none⟩), .pointer (some ⟨w.heap.size + 1, 0, none⟩), .pointer (some ⟨w.heap.size + 1 + 1 + 1, 0, none⟩), .pointer (some ⟨w.heap.size + 1 + 1 + 1 + 1, 0, none⟩), .pointer (some ⟨Bx, 0, none⟩), undef, undef, undef, undef, .map (some (w.heap.size + 1 + 1)), .slice A n c, .slice (some ⟨w.heap.size + 1 + 1 + 1 + 1 + 1, 0, none⟩) 1 1, .func (.func 89) #[] #[.pointer (some ⟨w.heap.size + 1 + 1 + 1 + 1 + 1 + 1, 0, none⟩)], (encB x)[0]!, undef, undef, undef, undef, undef, undef, undef, undef, undef, undef, undef, undef, undef, undef, undef, undef, undef, undef, undef, undef, undef, undef, undef, undef, undef, undef, undef, undef, undef, undef, undef, undef, undef, undef, undef, undef, undef, undef, undef, undef, undef, undef, undef, undef, undef, undef, undef, undef, undef, undef, undef, undef, undef, undef, undef, undef, undef, undef, undef, undef, undef, undef, undef, undef, undef], defers := [] }) ∧ Below w.heap.size w W)
    (fun pre x W1 a' => fun s X Y row hs hg hrow => by
      obtain ⟨⟨Bx, A2, n2, c2, A3, n3, c3, cnt, rest, h0, h0', h1, h2, h1', h3, h6, h7⟩, h8⟩ := hs
      exact ⟨⟨Bx, A2, n2, c2, A3, n3, c3, cnt, rest, h0, h0', h1, h2, h1', h3.turn (M := W0.heap.size) (by omega) hg hrow, at_own h6 hg hrow, h7⟩, bel_own (Nat.le_refl _) hB0.size h8 hg hrow⟩)
    ?assign ?body ?done (fun _ _ _ _ _ h => h.elim)
  case assign =>
    rintro l pre ⟨⟨ba, la, fr, ep, pi, ge, se, tx, ct, rs⟩, AR, nR, cR⟩ W1 W G hs1 ⟨⟨A2, n2, c2, A3, n3, c3, cnt, rest, h1, h2, h3⟩, hB⟩ hbel ⟨r2, hQ⟩ hG
    have hrest : rest = (⟨ba, la, fr, ep, pi, ge, se, tx, ct, rs⟩, AR, nR, cR) :: r2 := List.append_cancel_left (h1.symm.trans ((cat_one (LX.mk A n c L)).symm.trans hQ))
    subst hrest
    dsimp only [encB]
    gi_wp2
    have hbA := bel_trans hbel (belA W (.cells #[.int .i64 ba, .int .i64 la, .int .i64 fr, .int .i64 ep, .int .i64 pi, .int .i64 ge, .int .i64 se, .bool tx, .int .i64 ct, .slice AR nR cR] 28))
    exact hG _ _ ((KeepsOthers.alloc _ _).from _) ((KeptQ.refl _ _ _).alloc _) ⟨⟨W.heap.size, A2, n2, c2, A3, n3, c3, cnt, r2, hbel.size, hs1, h1, h2, fun g hg => hg.elim (fun h => (World.ownsRow.lt h3.own.gone g h).2) (fun h => (World.ownsRow.lt h3.own.done g h).2), h3.below hbA, At0.new W (batC (⟨ba, la, fr, ep, pi, ge, se, tx, ct, rs⟩, AR, nR, cR)) _, rfl⟩, hB.trans (hbA.mono (Nat.le_trans hB0.size hs1))⟩
  case body =>
    rintro l pre ⟨⟨ba, la, fr, ep, pi, ge, se, tx, ct, rs⟩, AR, nR, cR⟩ W1 a' W ⟨⟨Bx, A2, n2, c2, A3, n3, c3, cnt, rest, hBx, hs1, h1, hcn, hown, h3, h6, rfl⟩, hB⟩
    have hs0 := hB0.size
    have hlx : Bx < W.heap.size := h6.lt
    have hsW : W1.heap.size ≤ W.heap.size := by omega
    obtain ⟨T, hT⟩ : ∃ T, ofT (pre.map (·.1)) = T := ⟨_, rfl⟩
    have hck : ckT T = true := by rw [← hT]; exact of_ck _
    have hpl : pre.length ≤ 1000 := by
      have e3 := congrArg List.length h1
      rw [List.length_append, HLN.out] at e3
      omega
    have hbd := of_len (pre.map (·.1))
    rw [hT, List.length_map] at hbd
    rw [hT] at h3
    have hTS : ofT ((pre ++ [((⟨ba, la, fr, ep, pi, ge, se, tx, ct, rs⟩, AR, nR, cR) : BX)]).map (·.1)) = onT T ⟨ba, la, fr, ep, pi, ge, se, tx, ct, rs⟩ := by rw [List.map_append, List.map_cons, List.map_nil, of_snoc, hT]
    obtain ⟨hx1, hx2, hx3, hx4⟩ := HX.out (⟨ba, la, fr, ep, pi, ge, se, tx, ct, rs⟩, AR, nR, cR) (by rw [h1]; simp)
    simp only at hx1 hx2 hx3
    obtain ⟨tp, htp⟩ : ∃ tp, topT T = tp := ⟨_, rfl⟩
    have c4 := h3.t4.cell 0
    have c5 := h3.t5.cell 0
    rw [htp] at c5
    have y0 : W.cell? ⟨Bx, 0, none⟩ = some (.int .i64 ba) := h6.cell 0
    have y1 : W.cell? ⟨Bx, 1, none⟩ = some (.int .i64 la) := h6.cell 1
    have y2 : W.cell? ⟨Bx, 2, none⟩ = some (.int .i64 fr) := h6.cell 2
    have y3 : W.cell? ⟨Bx, 3, none⟩ = some (.int .i64 ep) := h6.cell 3
    have y4 : W.cell? ⟨Bx, 4, none⟩ = some (.int .i64 pi) := h6.cell 4
    have y5 : W.cell? ⟨Bx, 5, none⟩ = some (.int .i64 ge) := h6.cell 5
    have y6 : W.cell? ⟨Bx, 6, none⟩ = some (.int .i64 se) := h6.cell 6
    have y7 : W.cell? ⟨Bx, 7, none⟩ = some (.bool tx) := h6.cell 7
    have y8 : W.cell? ⟨Bx, 8, none⟩ = some (.int .i64 ct) := h6.cell 8
    have y9 : W.cell? ⟨Bx, 9, none⟩ = some (.slice AR nR cR) := h6.cell 9
    have HRX := Lib.hid ((hx3.below hB (Nat.le_refl _)).more hB.size)
    have HFX := Lib.hid hx4
    have H3 := Lib.hid h3
    have H6 := Lib.hid h6
    have HB := Lib.hid hB
    have HOWN := Lib.hid hown
    have HL := Lib.hid h1
    have HTS := Lib.hid hTS
    have HCK := Lib.hid hck
    have HTP := Lib.hid htp
    have HBD := Lib.hid hbd
    have hfn1 : Fence.wide.fn 36 := trivial
    have hfn2 : Fence.wide.fn 41 := trivial
    have hfn3 : Fence.wide.fn 44 := trivial
    have hfn4 : Fence.wide.fn 42 := trivial
    dsimp only [encB]
    clear h1 h3 h6 hB hown hT hTS hck htp hbd hx3 hx4
    obtain ⟨z, hz⟩ : ∃ z, chB ⟨ba, la, fr, ep, pi, ge, se, tx, ct, rs⟩ = z := ⟨_, rfl⟩
    have HZ := Lib.hid hz
    have HCHK := Lib.hid (BCheck0_is ba la fr ep pi ge se tx ct rs AR nR cR W HFX.out HRX.out hx2 hz)
    clear hz
    have hpi : I64 pi := HFX.out.pid
    have HPI := Lib.hid (wf64 hpi)
    have HBA := Lib.hid (wf64 HFX.out.base)
    by_cases hz0 : z = 0
    · subst hz0
      by_cases hbt : ba ≤ tp
      · have e2 : decide (ba ≤ tp) = true := decide_eq_true hbt
        have HON := Lib.hid (on_bad (t := T) (b := ⟨ba, la, fr, ep, pi, ge, se, tx, ct, rs⟩) (.inr (by rw [HTP.out]; exact hbt)))
        clear hbt hpi
        gi_wp2_with ((gi_at_call 36; (with_reducible refine (CallsIn.inRound l (callsIn_wide.2 HCHK.out)).mono ?_); rintro e w4 ⟨rfl, hb⟩; have HB4 := Lib.hid (HB.out.trans (hb.mono HB.out.size)); have H34 := Lib.hid (H3.out.below hb); have H64 := Lib.hid (H6.out.below hb); have HKF := Lib.hid (show KeepsFrom W0.heap.size W w4 from (keeps_bel hb).from _); have HKQ := Lib.hid ((KeptQ.refl (EaB w.heap.size (w.heap.size + 1 + 1 + 1 + 1 + 1 + 1) (w.heap.size + 1 + 1 + 1 + 1 + 1)) W1.heap.size W).below hb); have hs4 := hb.size; clear c4 c5 y0 y1 y2 y3 y4 y5 y6 y7 y8 y9 hb; have d4 := H34.out.t4.cell 0; have d5 := H34.out.t5.cell 0; rw [HTP.out] at d5; have x0 : w4.cell? ⟨Bx, 0, none⟩ = some (.int .i64 ba) := H64.out.cell 0; have x1 : w4.cell? ⟨Bx, 1, none⟩ = some (.int .i64 la) := H64.out.cell 1; have x2 : w4.cell? ⟨Bx, 2, none⟩ = some (.int .i64 fr) := H64.out.cell 2; have x3 : w4.cell? ⟨Bx, 3, none⟩ = some (.int .i64 ep) := H64.out.cell 3; have x4 : w4.cell? ⟨Bx, 4, none⟩ = some (.int .i64 pi) := H64.out.cell 4; have x5 : w4.cell? ⟨Bx, 5, none⟩ = some (.int .i64 ge) := H64.out.cell 5; have x6 : w4.cell? ⟨Bx, 6, none⟩ = some (.int .i64 se) := H64.out.cell 6; have x7 : w4.cell? ⟨Bx, 7, none⟩ = some (.bool tx) := H64.out.cell 7; have x8 : w4.cell? ⟨Bx, 8, none⟩ = some (.int .i64 ct) := H64.out.cell 8; have x9 : w4.cell? ⟨Bx, 9, none⟩ = some (.slice AR nR cR) := H64.out.cell 9))
        exact ⟨HKF.out, HKQ.out, ⟨A2, n2, c2, A3, n3, c3, cnt, rest, by rw [HL.out]; simp, by simp; omega, by rw [HTS.out, HON.out]; exact H34.out⟩, HB4.out⟩
      · have e2 : decide (ba ≤ tp) = false := decide_eq_false hbt
        have HBT := Lib.hid (show topT T < ba by rw [HTP.out]; omega)
        clear hbt hpi
        by_cases hh : hasO T.op pi = true
        · have HH := Lib.hid hh
          by_cases hct : ct = 0
          · subst hct
            have HON := Lib.hid (on_none (t := T) (b := ⟨ba, la, fr, ep, pi, ge, se, tx, 0, rs⟩) HCK.out HZ.out HBT.out (fun _ => rfl) (fun h => by rw [show hasO T.op pi = false from h] at hh; cases hh))
            clear hh
            gi_wp2_with (first | ((gi_at_call 36; (with_reducible refine (CallsIn.inRound l (callsIn_wide.2 HCHK.out)).mono ?_); rintro e w4 ⟨rfl, hb⟩; have HB4 := Lib.hid (HB.out.trans (hb.mono HB.out.size)); have H34 := Lib.hid (H3.out.below hb); have H64 := Lib.hid (H6.out.below hb); have HKF := Lib.hid (show KeepsFrom W0.heap.size W w4 from (keeps_bel hb).from _); have HKQ := Lib.hid ((KeptQ.refl (EaB w.heap.size (w.heap.size + 1 + 1 + 1 + 1 + 1 + 1) (w.heap.size + 1 + 1 + 1 + 1 + 1)) W1.heap.size W).below hb); have hs4 := hb.size; clear c4 c5 y0 y1 y2 y3 y4 y5 y6 y7 y8 y9 hb; have d4 := H34.out.t4.cell 0; have d5 := H34.out.t5.cell 0; rw [HTP.out] at d5; have x0 : w4.cell? ⟨Bx, 0, none⟩ = some (.int .i64 ba) := H64.out.cell 0; have x1 : w4.cell? ⟨Bx, 1, none⟩ = some (.int .i64 la) := H64.out.cell 1; have x2 : w4.cell? ⟨Bx, 2, none⟩ = some (.int .i64 fr) := H64.out.cell 2; have x3 : w4.cell? ⟨Bx, 3, none⟩ = some (.int .i64 ep) := H64.out.cell 3; have x4 : w4.cell? ⟨Bx, 4, none⟩ = some (.int .i64 pi) := H64.out.cell 4; have x5 : w4.cell? ⟨Bx, 5, none⟩ = some (.int .i64 ge) := H64.out.cell 5; have x6 : w4.cell? ⟨Bx, 6, none⟩ = some (.int .i64 se) := H64.out.cell 6; have x7 : w4.cell? ⟨Bx, 7, none⟩ = some (.bool tx) := H64.out.cell 7; have x8 : w4.cell? ⟨Bx, 8, none⟩ = some (.int .i64 0) := H64.out.cell 8; have x9 : w4.cell? ⟨Bx, 9, none⟩ = some (.slice AR nR cR) := H64.out.cell 9)) | ((gi_at_lookup; go_loud (refine wpListIn_lookup_own_ok_int _ rfl _ _ 85 rfl 3 3 .i64 (Maps.int_keyed Tryz.underlying3) Tryz.underlying85 Tryz.underlying3 (zero_int _) (w.heap.size + 1 + 1) cnt (dOp T.op) rfl H34.out.mp _ _ rfl (Maps.keyOf_int_mk Tryz.underlying3 HPI.out) ?_; intro cL hat hwc; rw [at_d] at hat; injection hat with hat; injection hat with _ hat; subst hat; clear hwc; rw [has_d, HH.out]))) | ((gi_at_call 41; go_loud ((with_reducible refine (CallsIn.inRound l (callsIn_wide.2 (ends_is ba la fr ep pi ge se tx 0 AR nR cR _ (z := false) rfl))).mono ?_); rintro e w5 ⟨rfl, hb⟩; have HB5 := Lib.hid (HB4.out.trans (hb.mono HB4.out.size)); have H35 := Lib.hid (H34.out.below hb); have H65 := Lib.hid (H64.out.below hb); have HKF5 := Lib.hid (HKF.out.trans ((keeps_bel hb).from _)); have HKQ5 := Lib.hid (HKQ.out.below hb); have hs5 := Nat.le_trans hs4 hb.size; clear d4 d5 x0 x1 x2 x3 x4 x5 x6 x7 x8 x9 hb; have r4 := H35.out.t4.cell 0; have r5 := H35.out.t5.cell 0; rw [HTP.out] at r5; have v0 : w5.cell? ⟨Bx, 0, none⟩ = some (.int .i64 ba) := H65.out.cell 0; have v1 : w5.cell? ⟨Bx, 1, none⟩ = some (.int .i64 la) := H65.out.cell 1; have v2 : w5.cell? ⟨Bx, 2, none⟩ = some (.int .i64 fr) := H65.out.cell 2; have v3 : w5.cell? ⟨Bx, 3, none⟩ = some (.int .i64 ep) := H65.out.cell 3; have v4 : w5.cell? ⟨Bx, 4, none⟩ = some (.int .i64 pi) := H65.out.cell 4; have v5 : w5.cell? ⟨Bx, 5, none⟩ = some (.int .i64 ge) := H65.out.cell 5; have v6 : w5.cell? ⟨Bx, 6, none⟩ = some (.int .i64 se) := H65.out.cell 6; have v7 : w5.cell? ⟨Bx, 7, none⟩ = some (.bool tx) := H65.out.cell 7; have v8 : w5.cell? ⟨Bx, 8, none⟩ = some (.int .i64 0) := H65.out.cell 8; have v9 : w5.cell? ⟨Bx, 9, none⟩ = some (.slice AR nR cR) := H65.out.cell 9))))
            exact ⟨HKF5.out, HKQ5.out, ⟨A2, n2, c2, A3, n3, c3, cnt, rest, by rw [HL.out]; simp, by simp; omega, by rw [HTS.out, HON.out]; exact H35.out⟩, HB5.out⟩
          · have HE := Lib.hid (show (!decide (ct = 0)) = true by rw [decide_eq_false hct]; rfl)
            have HON := Lib.hid (on_end (t := T) (b := ⟨ba, la, fr, ep, pi, ge, se, tx, ct, rs⟩) HCK.out HZ.out HBT.out hh hct)
            clear hh hct
            gi_wp2_with (first | ((gi_at_call 36; (with_reducible refine (CallsIn.inRound l (callsIn_wide.2 HCHK.out)).mono ?_); rintro e w4 ⟨rfl, hb⟩; have HB4 := Lib.hid (HB.out.trans (hb.mono HB.out.size)); have H34 := Lib.hid (H3.out.below hb); have H64 := Lib.hid (H6.out.below hb); have HKF := Lib.hid (show KeepsFrom W0.heap.size W w4 from (keeps_bel hb).from _); have HKQ := Lib.hid ((KeptQ.refl (EaB w.heap.size (w.heap.size + 1 + 1 + 1 + 1 + 1 + 1) (w.heap.size + 1 + 1 + 1 + 1 + 1)) W1.heap.size W).below hb); have hs4 := hb.size; clear c4 c5 y0 y1 y2 y3 y4 y5 y6 y7 y8 y9 hb; have d4 := H34.out.t4.cell 0; have d5 := H34.out.t5.cell 0; rw [HTP.out] at d5; have x0 : w4.cell? ⟨Bx, 0, none⟩ = some (.int .i64 ba) := H64.out.cell 0; have x1 : w4.cell? ⟨Bx, 1, none⟩ = some (.int .i64 la) := H64.out.cell 1; have x2 : w4.cell? ⟨Bx, 2, none⟩ = some (.int .i64 fr) := H64.out.cell 2; have x3 : w4.cell? ⟨Bx, 3, none⟩ = some (.int .i64 ep) := H64.out.cell 3; have x4 : w4.cell? ⟨Bx, 4, none⟩ = some (.int .i64 pi) := H64.out.cell 4; have x5 : w4.cell? ⟨Bx, 5, none⟩ = some (.int .i64 ge) := H64.out.cell 5; have x6 : w4.cell? ⟨Bx, 6, none⟩ = some (.int .i64 se) := H64.out.cell 6; have x7 : w4.cell? ⟨Bx, 7, none⟩ = some (.bool tx) := H64.out.cell 7; have x8 : w4.cell? ⟨Bx, 8, none⟩ = some (.int .i64 ct) := H64.out.cell 8; have x9 : w4.cell? ⟨Bx, 9, none⟩ = some (.slice AR nR cR) := H64.out.cell 9)) | ((gi_at_lookup; go_loud (refine wpListIn_lookup_own_ok_int _ rfl _ _ 85 rfl 3 3 .i64 (Maps.int_keyed Tryz.underlying3) Tryz.underlying85 Tryz.underlying3 (zero_int _) (w.heap.size + 1 + 1) cnt (dOp T.op) rfl H34.out.mp _ _ rfl (Maps.keyOf_int_mk Tryz.underlying3 HPI.out) ?_; intro cL hat hwc; rw [at_d] at hat; injection hat with hat; injection hat with _ hat; subst hat; clear hwc; rw [has_d, HH.out]))) | ((gi_at_call 41; go_loud ((with_reducible refine (CallsIn.inRound l (callsIn_wide.2 (ends_is ba la fr ep pi ge se tx ct AR nR cR _ HE.out))).mono ?_); rintro e w5 ⟨rfl, hb⟩; have HB5 := Lib.hid (HB4.out.trans (hb.mono HB4.out.size)); have H35 := Lib.hid (H34.out.below hb); have H65 := Lib.hid (H64.out.below hb); have HKF5 := Lib.hid (HKF.out.trans ((keeps_bel hb).from _)); have HKQ5 := Lib.hid (HKQ.out.below hb); have hs5 := Nat.le_trans hs4 hb.size; clear d4 d5 x0 x1 x2 x3 x4 x5 x6 x7 x8 x9 hb; have r4 := H35.out.t4.cell 0; have r5 := H35.out.t5.cell 0; rw [HTP.out] at r5; have v0 : w5.cell? ⟨Bx, 0, none⟩ = some (.int .i64 ba) := H65.out.cell 0; have v1 : w5.cell? ⟨Bx, 1, none⟩ = some (.int .i64 la) := H65.out.cell 1; have v2 : w5.cell? ⟨Bx, 2, none⟩ = some (.int .i64 fr) := H65.out.cell 2; have v3 : w5.cell? ⟨Bx, 3, none⟩ = some (.int .i64 ep) := H65.out.cell 3; have v4 : w5.cell? ⟨Bx, 4, none⟩ = some (.int .i64 pi) := H65.out.cell 4; have v5 : w5.cell? ⟨Bx, 5, none⟩ = some (.int .i64 ge) := H65.out.cell 5; have v6 : w5.cell? ⟨Bx, 6, none⟩ = some (.int .i64 se) := H65.out.cell 6; have v7 : w5.cell? ⟨Bx, 7, none⟩ = some (.bool tx) := H65.out.cell 7; have v8 : w5.cell? ⟨Bx, 8, none⟩ = some (.int .i64 ct) := H65.out.cell 8; have v9 : w5.cell? ⟨Bx, 9, none⟩ = some (.slice AR nR cR) := H65.out.cell 9))))
            have HX_5 := Lib.hid (show At0 w5 (Bx) [.int .i64 ba, .int .i64 la, .int .i64 fr, .int .i64 ep, .int .i64 pi, .int .i64 ge, .int .i64 se, .bool tx, .int .i64 ct, .slice AR nR cR] 28 from H65.out)
            have HT_5 := Lib.hid H35.out.t3
            have HC_5 := Lib.hid (show At0 w5 (w.heap.size + 1 + 1 + 1 + 1) [.int .i64 tp] 3 from by have h9 := H35.out.t5; rwa [HTP.out] at h9)
            clear r4 r5 v0 v1 v2 v3 v4 v5 v6 v7 v8 v9
            have hl5 := H35.out.own.len
            simp only at hl5
            have hb5 := HBD.out
            have HEND := Lib.hid (ended_gr none 0 0 A2 n2 c2 A3 n3 c3 ⟨[], T.gone, T.done⟩ ba la fr ep pi ge se tx ct AR nR cR rs (fstO T.op pi) W0.heap.size w5.drew H35.out.drew.own (by simp only [World.size_drew]; omega) (by omega) (by omega))
            clear hl5 hb5
            have hmx : Tryz.prog.follows .mixedOrders = true := by kernel_rfl
            have hbd := (Below.refl w5.heap.size w5).drew
            have HX_R8 := Lib.hid (HX_5.out.below hbd)
            have HT_R8 := Lib.hid (HT_5.out.below hbd)
            have HC_R8 := Lib.hid (HC_5.out.below hbd)
            have HSR8 := Lib.hid (show (fun W9 : World => W9.cell? ⟨(Bx), 0, none⟩ = some (.int .i64 ba) ∧ W9.cell? ⟨(Bx), 1, none⟩ = some (.int .i64 la) ∧ W9.cell? ⟨(Bx), 2, none⟩ = some (.int .i64 fr) ∧ W9.cell? ⟨(Bx), 3, none⟩ = some (.int .i64 ep) ∧ W9.cell? ⟨(Bx), 4, none⟩ = some (.int .i64 pi) ∧ W9.cell? ⟨(Bx), 5, none⟩ = some (.int .i64 ge) ∧ W9.cell? ⟨(Bx), 6, none⟩ = some (.int .i64 se) ∧ W9.cell? ⟨(Bx), 7, none⟩ = some (.bool tx) ∧ W9.cell? ⟨(Bx), 8, none⟩ = some (.int .i64 ct) ∧ W9.cell? ⟨(Bx), 9, none⟩ = some (.slice AR nR cR) ∧ W9.cell? ⟨(w.heap.size + 1 + 1 + 1 + 1), 0, none⟩ = some (.int .i64 tp)) w5.drew from ⟨HX_R8.out.cell 0, HX_R8.out.cell 1, HX_R8.out.cell 2, HX_R8.out.cell 3, HX_R8.out.cell 4, HX_R8.out.cell 5, HX_R8.out.cell 6, HX_R8.out.cell 7, HX_R8.out.cell 8, HX_R8.out.cell 9, HC_R8.out.cell 0⟩)
            clear hbd
            refine region_lr (fun W9 : World => W9.cell? ⟨(Bx), 0, none⟩ = some (.int .i64 ba) ∧ W9.cell? ⟨(Bx), 1, none⟩ = some (.int .i64 la) ∧ W9.cell? ⟨(Bx), 2, none⟩ = some (.int .i64 fr) ∧ W9.cell? ⟨(Bx), 3, none⟩ = some (.int .i64 ep) ∧ W9.cell? ⟨(Bx), 4, none⟩ = some (.int .i64 pi) ∧ W9.cell? ⟨(Bx), 5, none⟩ = some (.int .i64 ge) ∧ W9.cell? ⟨(Bx), 6, none⟩ = some (.int .i64 se) ∧ W9.cell? ⟨(Bx), 7, none⟩ = some (.bool tx) ∧ W9.cell? ⟨(Bx), 8, none⟩ = some (.int .i64 ct) ∧ W9.cell? ⟨(Bx), 9, none⟩ = some (.slice AR nR cR) ∧ W9.cell? ⟨(w.heap.size + 1 + 1 + 1 + 1), 0, none⟩ = some (.int .i64 tp)) 7 8 hmx (by kernel_rfl) rfl fun ops Q HOPS HQ => ?_
            refine yq 1 HOPS HSR8.out ?_; simp only [ls0, ls1]; refine yq 2 HOPS HSR8.out ?_; simp only [ls0, ls1]; refine yq 4 HOPS HSR8.out ?_; simp only [ls0, ls1]; refine yq 5 HOPS HSR8.out ?_; simp only [ls0, ls1]
            refine xc 0 HOPS ?_
            obtain ⟨t0, t1, t2⟩ := cel3 HT_R8.out
            go_simp
            clear t0 t1 t2
            have HSR8_0 := Lib.hid (show (fun W9 : World => W9.cell? ⟨(Bx), 0, none⟩ = some (.int .i64 ba) ∧ W9.cell? ⟨(Bx), 1, none⟩ = some (.int .i64 la) ∧ W9.cell? ⟨(Bx), 2, none⟩ = some (.int .i64 fr) ∧ W9.cell? ⟨(Bx), 3, none⟩ = some (.int .i64 ep) ∧ W9.cell? ⟨(Bx), 4, none⟩ = some (.int .i64 pi) ∧ W9.cell? ⟨(Bx), 5, none⟩ = some (.int .i64 ge) ∧ W9.cell? ⟨(Bx), 6, none⟩ = some (.int .i64 se) ∧ W9.cell? ⟨(Bx), 7, none⟩ = some (.bool tx) ∧ W9.cell? ⟨(Bx), 8, none⟩ = some (.int .i64 ct) ∧ W9.cell? ⟨(Bx), 9, none⟩ = some (.slice AR nR cR) ∧ W9.cell? ⟨(w.heap.size + 1 + 1 + 1 + 1), 0, none⟩ = some (.int .i64 tp)) w5.drew from ⟨HX_R8.out.cell 0, HX_R8.out.cell 1, HX_R8.out.cell 2, HX_R8.out.cell 3, HX_R8.out.cell 4, HX_R8.out.cell 5, HX_R8.out.cell 6, HX_R8.out.cell 7, HX_R8.out.cell 8, HX_R8.out.cell 9, HC_R8.out.cell 0⟩)
            refine ⟨HSR8_0.out, ?_⟩
            refine xc 3 HOPS ?_
            go_simp
            with_reducible refine HEND.out.mono ?_
            rintro e w8 ⟨A4, n4, c4, A5, n5, c5, rfl, ho8, row, hg8, hrow8⟩
            have hrn : ∀ k, row = some k → W0.heap.size ≤ k ∧ k < W1.heap.size := fun k hk => ⟨by rcases hrow8 k hk with h | h; exact (World.ownsRow.lt H35.out.own.gone k h).1; exact (World.ownsRow.lt H35.out.own.done k h).1, HOWN.out k (hrow8 k hk)⟩
            have HX_8 := Lib.hid (at0_grown HX_R8.out hg8 (by intro e; have := hrn _ e.symm; omega))
            have HT_8 := Lib.hid (at0_grown HT_R8.out hg8 (by intro e; have := hrn _ e.symm; omega))
            have HC_8 := Lib.hid (at0_grown HC_R8.out hg8 (by intro e; have := hrn _ e.symm; omega))
            have HRC := Lib.hid (show ∀ k, row = some k → ∀ o, w5.drew.heap[k]? = some o → o.isCells = true from fun k hk o ho => by rcases hrow8 k hk with h | h; exact own_cells H35.out.own.gone k o h ho; exact own_cells H35.out.own.done k o h ho)
            have HRN := Lib.hid hrn
            have HO8 := Lib.hid ho8
            have HG8 := Lib.hid hg8
            clear hrn ho8 hg8 hrow8
            have HSR8_3 := Lib.hid (show (fun W9 : World => W9.cell? ⟨(Bx), 0, none⟩ = some (.int .i64 ba) ∧ W9.cell? ⟨(Bx), 1, none⟩ = some (.int .i64 la) ∧ W9.cell? ⟨(Bx), 2, none⟩ = some (.int .i64 fr) ∧ W9.cell? ⟨(Bx), 3, none⟩ = some (.int .i64 ep) ∧ W9.cell? ⟨(Bx), 4, none⟩ = some (.int .i64 pi) ∧ W9.cell? ⟨(Bx), 5, none⟩ = some (.int .i64 ge) ∧ W9.cell? ⟨(Bx), 6, none⟩ = some (.int .i64 se) ∧ W9.cell? ⟨(Bx), 7, none⟩ = some (.bool tx) ∧ W9.cell? ⟨(Bx), 8, none⟩ = some (.int .i64 ct) ∧ W9.cell? ⟨(Bx), 9, none⟩ = some (.slice AR nR cR) ∧ W9.cell? ⟨(w.heap.size + 1 + 1 + 1 + 1), 0, none⟩ = some (.int .i64 tp)) w8 from ⟨HX_8.out.cell 0, HX_8.out.cell 1, HX_8.out.cell 2, HX_8.out.cell 3, HX_8.out.cell 4, HX_8.out.cell 5, HX_8.out.cell 6, HX_8.out.cell 7, HX_8.out.cell 8, HX_8.out.cell 9, HC_8.out.cell 0⟩)
            refine ⟨HSR8_3.out, ?_⟩
            obtain ⟨t0, t1, t2⟩ := cel3 HT_8.out
            obtain ⟨x0, x1, x2⟩ := frz3 HT_8.out
            refine xc 6 HOPS ?_
            go_simp
            have HX_9 := Lib.hid (at_set (at_set (at_set HX_8.out (b := w.heap.size + 1) (by omega) 0 (.slice none 0 0)) (b := w.heap.size + 1) (by omega) 1 (.slice A4 n4 c4)) (b := w.heap.size + 1) (by omega) 2 (.slice A5 n5 c5))
            have HC_9 := Lib.hid (at_set (at_set (at_set HC_8.out (b := w.heap.size + 1) (by omega) 0 (.slice none 0 0)) (b := w.heap.size + 1) (by omega) 1 (.slice A4 n4 c4)) (b := w.heap.size + 1) (by omega) 2 (.slice A5 n5 c5))
            have HT_9 := Lib.hid (show At0 (((w8.setCell ⟨w.heap.size + 1, 0, none⟩ (.slice none 0 0)).setCell ⟨w.heap.size + 1, 1, none⟩ (.slice A4 n4 c4)).setCell ⟨w.heap.size + 1, 2, none⟩ (.slice A5 n5 c5)) (w.heap.size + 1) [.slice none 0 0, .slice A4 n4 c4, .slice A5 n5 c5] 25 from at0_set9 (at0_set9 (at0_set9 HT_8.out 0 _) 1 _) 2 _)
            clear t0 t1 t2 x0 x1 x2
            have HSR8_6 := Lib.hid (show (fun W9 : World => W9.cell? ⟨(Bx), 0, none⟩ = some (.int .i64 ba) ∧ W9.cell? ⟨(Bx), 1, none⟩ = some (.int .i64 la) ∧ W9.cell? ⟨(Bx), 2, none⟩ = some (.int .i64 fr) ∧ W9.cell? ⟨(Bx), 3, none⟩ = some (.int .i64 ep) ∧ W9.cell? ⟨(Bx), 4, none⟩ = some (.int .i64 pi) ∧ W9.cell? ⟨(Bx), 5, none⟩ = some (.int .i64 ge) ∧ W9.cell? ⟨(Bx), 6, none⟩ = some (.int .i64 se) ∧ W9.cell? ⟨(Bx), 7, none⟩ = some (.bool tx) ∧ W9.cell? ⟨(Bx), 8, none⟩ = some (.int .i64 ct) ∧ W9.cell? ⟨(Bx), 9, none⟩ = some (.slice AR nR cR) ∧ W9.cell? ⟨(w.heap.size + 1 + 1 + 1 + 1), 0, none⟩ = some (.int .i64 tp)) (((w8.setCell ⟨w.heap.size + 1, 0, none⟩ (.slice none 0 0)).setCell ⟨w.heap.size + 1, 1, none⟩ (.slice A4 n4 c4)).setCell ⟨w.heap.size + 1, 2, none⟩ (.slice A5 n5 c5)) from ⟨HX_9.out.cell 0, HX_9.out.cell 1, HX_9.out.cell 2, HX_9.out.cell 3, HX_9.out.cell 4, HX_9.out.cell 5, HX_9.out.cell 6, HX_9.out.cell 7, HX_9.out.cell 8, HX_9.out.cell 9, HC_9.out.cell 0⟩)
            refine ⟨HSR8_3.out, ?_⟩
            have s5 := HC_9.out.cell 0
            have f5 := HC_9.out.frozen 0
            refine xl 7 HOPS ?_
            go_simp
            refine stepE HOPS (by kernel_rfl) (HQ.out _ _ ?_)
            clear HQ HOPS
            clear Q ops
            clear s5 f5
            have HOE := Lib.hid (show OfE ((((w8.setCell ⟨w.heap.size + 1, 0, none⟩ (.slice none 0 0)).setCell ⟨w.heap.size + 1, 1, none⟩ (.slice A4 n4 c4)).setCell ⟨w.heap.size + 1, 2, none⟩ (.slice A5 n5 c5)).setCell ⟨w.heap.size + 1 + 1 + 1 + 1, 0, none⟩ (.int .i64 ba)) w.heap.size W0.heap.size A4 n4 c4 A5 n5 c5 cnt T (onT T ⟨ba, la, fr, ep, pi, ge, se, tx, ct, rs⟩) ba from (H35.out.drew).turnEnd (V := w8) (row := row) (A4 := A4) (n4 := n4) (c4 := c4) (A5 := A5) (n5 := n5) (c5 := c5) (T' := onT T ⟨ba, la, fr, ep, pi, ge, se, tx, ct, rs⟩) (b := ba) (by omega) HG8.out (fun k hk => (HRN.out k hk).1) (by rw [HON.out.1]; have h9 := HO8.out; revert h9; unfold endT; split <;> exact id))
            have HXE := Lib.hid (show At0 (((((w8.setCell ⟨w.heap.size + 1, 0, none⟩ (.slice none 0 0)).setCell ⟨w.heap.size + 1, 1, none⟩ (.slice A4 n4 c4)).setCell ⟨w.heap.size + 1, 2, none⟩ (.slice A5 n5 c5)).setCell ⟨w.heap.size + 1 + 1 + 1 + 1, 0, none⟩ (.int .i64 ba))) (Bx) [.int .i64 ba, .int .i64 la, .int .i64 fr, .int .i64 ep, .int .i64 pi, .int .i64 ge, .int .i64 se, .bool tx, .int .i64 ct, .slice AR nR cR] 28 from at_set HX_9.out (by omega) _ _)
            have hb8 : Below w.heap.size w5.drew w8 := ⟨HG8.out.os, HG8.out.tape, HG8.out.output, HG8.out.size, fun i hi => HG8.out.block i (by have := HB5.out.size; simp only [World.size_drew]; omega) (fun e => by have := (HRN.out i e.symm).1; omega)⟩
            have HBE := Lib.hid (show Below w.heap.size w ((((w8.setCell ⟨w.heap.size + 1, 0, none⟩ (.slice none 0 0)).setCell ⟨w.heap.size + 1, 1, none⟩ (.slice A4 n4 c4)).setCell ⟨w.heap.size + 1, 2, none⟩ (.slice A5 n5 c5)).setCell ⟨w.heap.size + 1 + 1 + 1 + 1, 0, none⟩ (.int .i64 ba)) from ((((HB5.out.drew.trans hb8).setCell (by simp only; omega) _).setCell (by simp only; omega) _).setCell (by simp only; omega) _).setCell (by simp only; omega) _)
            have HKE := Lib.hid (show KeepsFrom W0.heap.size W ((((w8.setCell ⟨w.heap.size + 1, 0, none⟩ (.slice none 0 0)).setCell ⟨w.heap.size + 1, 1, none⟩ (.slice A4 n4 c4)).setCell ⟨w.heap.size + 1, 2, none⟩ (.slice A5 n5 c5)).setCell ⟨w.heap.size + 1 + 1 + 1 + 1, 0, none⟩ (.int .i64 ba)) from (((((keeps_drew9 HKF5.out).trans (keeps_row HG8.out HRC.out _)).trans ((KeepsOthers.setCell _ _ _).from _)).trans ((KeepsOthers.setCell _ _ _).from _)).trans ((KeepsOthers.setCell _ _ _).from _)).trans ((KeepsOthers.setCell _ _ _).from _))
            have HQE := Lib.hid (show KeptQ (EaB w.heap.size (w.heap.size + 1 + 1 + 1 + 1 + 1 + 1) (w.heap.size + 1 + 1 + 1 + 1 + 1)) W1.heap.size W ((((w8.setCell ⟨w.heap.size + 1, 0, none⟩ (.slice none 0 0)).setCell ⟨w.heap.size + 1, 1, none⟩ (.slice A4 n4 c4)).setCell ⟨w.heap.size + 1, 2, none⟩ (.slice A5 n5 c5)).setCell ⟨w.heap.size + 1 + 1 + 1 + 1, 0, none⟩ (.int .i64 ba)) from ((((HKQ5.out.drew.grown HG8.out (fun k e => ⟨by have := HRN.out k e; rintro (h | h | h) <;> omega, (HRN.out k e).2⟩)).set (by rintro (h | h | h) <;> simp only at h <;> omega) (by simp only; omega) _).set (by rintro (h | h | h) <;> simp only at h <;> omega) (by simp only; omega) _).set (by rintro (h | h | h) <;> simp only at h <;> omega) (by simp only; omega) _).set (by rintro (h | h | h) <;> simp only at h <;> omega) (by simp only; omega) _)
            clear hb8
            generalize ((((w8.setCell ⟨w.heap.size + 1, 0, none⟩ (.slice none 0 0)).setCell ⟨w.heap.size + 1, 1, none⟩ (.slice A4 n4 c4)).setCell ⟨w.heap.size + 1, 2, none⟩ (.slice A5 n5 c5)).setCell ⟨w.heap.size + 1 + 1 + 1 + 1, 0, none⟩ (.int .i64 ba)) = V at *
            have q4 := HOE.out.t4.cell 0
            have y4 := HXE.out.cell 4
            simp only [List.getElem?_cons_zero, List.getElem?_cons_succ] at y4
            have HSZ := Lib.hid hsz
            clear hsz
            gi_wp2_with (gi_at_delete; refine wpListIn_delete_own _ rfl _ _ 85 3 rfl 3 (Maps.int_keyed Tryz.underlying3) Tryz.underlying85 _ (w.heap.size + 1 + 1) cnt (dOp T.op) rfl HOE.out.mp _ _ rfl (Maps.keyOf_int_mk Tryz.underlying3 HPI.out) ?_; intro w10 hm10 ht10)
            have hsz := HSZ.out
            have hg10 := turned_grown ht10
            rw [del_d] at hm10
            have hOF := HOE.out.del (by omega) (by rw [HON.out.1]; exact hm10) hg10 HON.out.2
            exact ⟨HKE.out.trans (KeepsFrom.of_grownBy hg10 (fun j hj => by injection hj with hj; omega)), HQE.out.grown hg10 (fun k e => by injection e with e; subst e; exact ⟨by rintro (h | h | h) <;> omega, by omega⟩), ⟨⟨rest, by rw [HL.out]; simp⟩, A4, n4, c4, A5, n5, c5, cnt, by simp; omega, by rw [HTS.out]; exact hOF⟩, HBE.out.trans ⟨hg10.os, hg10.tape, hg10.output, hg10.size, fun i hi => hg10.block i (by have := HBE.out.size; omega) (fun e => by injection e with e; omega)⟩⟩
        · have hh0 : hasO T.op pi = false := by simpa using hh
          have HH := Lib.hid hh0
          by_cases hb9 : ct = 0 ∧ tx = true
          · obtain ⟨hct, htx⟩ := hb9
            subst hct
            subst htx
            have HON := Lib.hid (on_begin (t := T) (b := ⟨ba, la, fr, ep, pi, ge, se, true, 0, rs⟩) HCK.out HZ.out HBT.out hh0 rfl rfl)
            clear hh hh0
            gi_wp2_with (first | ((gi_at_call 36; (with_reducible refine (CallsIn.inRound l (callsIn_wide.2 HCHK.out)).mono ?_); rintro e w4 ⟨rfl, hb⟩; have HB4 := Lib.hid (HB.out.trans (hb.mono HB.out.size)); have H34 := Lib.hid (H3.out.below hb); have H64 := Lib.hid (H6.out.below hb); have HKF := Lib.hid (show KeepsFrom W0.heap.size W w4 from (keeps_bel hb).from _); have HKQ := Lib.hid ((KeptQ.refl (EaB w.heap.size (w.heap.size + 1 + 1 + 1 + 1 + 1 + 1) (w.heap.size + 1 + 1 + 1 + 1 + 1)) W1.heap.size W).below hb); have hs4 := hb.size; clear c4 c5 y0 y1 y2 y3 y4 y5 y6 y7 y8 y9 hb; have d4 := H34.out.t4.cell 0; have d5 := H34.out.t5.cell 0; rw [HTP.out] at d5; have x0 : w4.cell? ⟨Bx, 0, none⟩ = some (.int .i64 ba) := H64.out.cell 0; have x1 : w4.cell? ⟨Bx, 1, none⟩ = some (.int .i64 la) := H64.out.cell 1; have x2 : w4.cell? ⟨Bx, 2, none⟩ = some (.int .i64 fr) := H64.out.cell 2; have x3 : w4.cell? ⟨Bx, 3, none⟩ = some (.int .i64 ep) := H64.out.cell 3; have x4 : w4.cell? ⟨Bx, 4, none⟩ = some (.int .i64 pi) := H64.out.cell 4; have x5 : w4.cell? ⟨Bx, 5, none⟩ = some (.int .i64 ge) := H64.out.cell 5; have x6 : w4.cell? ⟨Bx, 6, none⟩ = some (.int .i64 se) := H64.out.cell 6; have x7 : w4.cell? ⟨Bx, 7, none⟩ = some (.bool true) := H64.out.cell 7; have x8 : w4.cell? ⟨Bx, 8, none⟩ = some (.int .i64 0) := H64.out.cell 8; have x9 : w4.cell? ⟨Bx, 9, none⟩ = some (.slice AR nR cR) := H64.out.cell 9)) | ((gi_at_lookup; go_loud (refine wpListIn_lookup_own_ok_int _ rfl _ _ 85 rfl 3 3 .i64 (Maps.int_keyed Tryz.underlying3) Tryz.underlying85 Tryz.underlying3 (zero_int _) (w.heap.size + 1 + 1) cnt (dOp T.op) rfl H34.out.mp _ _ rfl (Maps.keyOf_int_mk Tryz.underlying3 HPI.out) ?_; intro cL hat hwc; rw [at_d] at hat; injection hat with hat; injection hat with _ hat; subst hat; clear hwc; rw [has_d, HH.out]))) | ((gi_at_call 44; go_loud ((with_reducible refine (CallsIn.inRound l (callsIn_wide.2 (begins_is ba la fr ep pi ge se true 0 AR nR cR _ (z := true) rfl))).mono ?_); rintro e w5 ⟨rfl, hb⟩; have HB5 := Lib.hid (HB4.out.trans (hb.mono HB4.out.size)); have H35 := Lib.hid (H34.out.below hb); have H65 := Lib.hid (H64.out.below hb); have HKF5 := Lib.hid (HKF.out.trans ((keeps_bel hb).from _)); have HKQ5 := Lib.hid (HKQ.out.below hb); have hs5 := Nat.le_trans hs4 hb.size; clear d4 d5 x0 x1 x2 x3 x4 x5 x6 x7 x8 x9 hb; have r4 := H35.out.t4.cell 0; have r5 := H35.out.t5.cell 0; rw [HTP.out] at r5; have v0 : w5.cell? ⟨Bx, 0, none⟩ = some (.int .i64 ba) := H65.out.cell 0; have v1 : w5.cell? ⟨Bx, 1, none⟩ = some (.int .i64 la) := H65.out.cell 1; have v2 : w5.cell? ⟨Bx, 2, none⟩ = some (.int .i64 fr) := H65.out.cell 2; have v3 : w5.cell? ⟨Bx, 3, none⟩ = some (.int .i64 ep) := H65.out.cell 3; have v4 : w5.cell? ⟨Bx, 4, none⟩ = some (.int .i64 pi) := H65.out.cell 4; have v5 : w5.cell? ⟨Bx, 5, none⟩ = some (.int .i64 ge) := H65.out.cell 5; have v6 : w5.cell? ⟨Bx, 6, none⟩ = some (.int .i64 se) := H65.out.cell 6; have v7 : w5.cell? ⟨Bx, 7, none⟩ = some (.bool true) := H65.out.cell 7; have v8 : w5.cell? ⟨Bx, 8, none⟩ = some (.int .i64 0) := H65.out.cell 8; have v9 : w5.cell? ⟨Bx, 9, none⟩ = some (.slice AR nR cR) := H65.out.cell 9))))
            have HX_5 := Lib.hid (show At0 w5 (Bx) [.int .i64 ba, .int .i64 la, .int .i64 fr, .int .i64 ep, .int .i64 pi, .int .i64 ge, .int .i64 se, .bool true, .int .i64 0, .slice AR nR cR] 28 from H65.out)
            have HA_5 := Lib.hid H35.out.t4
            have HC_5 := Lib.hid (show At0 w5 (w.heap.size + 1 + 1 + 1 + 1) [.int .i64 tp] 3 from by have h9 := H35.out.t5; rwa [HTP.out] at h9)
            clear r4 r5 v0 v1 v2 v3 v4 v5 v6 v7 v8 v9
            have hmx : Tryz.prog.follows .mixedOrders = true := by kernel_rfl
            have hbd := (Below.refl w5.heap.size w5).drew
            have HX_R11 := Lib.hid (HX_5.out.below hbd)
            have HA_R11 := Lib.hid (HA_5.out.below hbd)
            have HC_R11 := Lib.hid (HC_5.out.below hbd)
            have HSR11 := Lib.hid (show (fun W9 : World => W9.cell? ⟨(Bx), 0, none⟩ = some (.int .i64 ba) ∧ W9.cell? ⟨(Bx), 1, none⟩ = some (.int .i64 la) ∧ W9.cell? ⟨(Bx), 2, none⟩ = some (.int .i64 fr) ∧ W9.cell? ⟨(Bx), 3, none⟩ = some (.int .i64 ep) ∧ W9.cell? ⟨(Bx), 4, none⟩ = some (.int .i64 pi) ∧ W9.cell? ⟨(Bx), 5, none⟩ = some (.int .i64 ge) ∧ W9.cell? ⟨(Bx), 6, none⟩ = some (.int .i64 se) ∧ W9.cell? ⟨(Bx), 7, none⟩ = some (.bool true) ∧ W9.cell? ⟨(Bx), 8, none⟩ = some (.int .i64 0) ∧ W9.cell? ⟨(Bx), 9, none⟩ = some (.slice AR nR cR) ∧ W9.cell? ⟨(w.heap.size + 1 + 1 + 1), 0, none⟩ = some (.map (some (w.heap.size + 1 + 1))) ∧ W9.cell? ⟨(w.heap.size + 1 + 1 + 1 + 1), 0, none⟩ = some (.int .i64 tp)) w5.drew from ⟨HX_R11.out.cell 0, HX_R11.out.cell 1, HX_R11.out.cell 2, HX_R11.out.cell 3, HX_R11.out.cell 4, HX_R11.out.cell 5, HX_R11.out.cell 6, HX_R11.out.cell 7, HX_R11.out.cell 8, HX_R11.out.cell 9, HA_R11.out.cell 0, HC_R11.out.cell 0⟩)
            clear hbd
            refine region_lr (fun W9 : World => W9.cell? ⟨(Bx), 0, none⟩ = some (.int .i64 ba) ∧ W9.cell? ⟨(Bx), 1, none⟩ = some (.int .i64 la) ∧ W9.cell? ⟨(Bx), 2, none⟩ = some (.int .i64 fr) ∧ W9.cell? ⟨(Bx), 3, none⟩ = some (.int .i64 ep) ∧ W9.cell? ⟨(Bx), 4, none⟩ = some (.int .i64 pi) ∧ W9.cell? ⟨(Bx), 5, none⟩ = some (.int .i64 ge) ∧ W9.cell? ⟨(Bx), 6, none⟩ = some (.int .i64 se) ∧ W9.cell? ⟨(Bx), 7, none⟩ = some (.bool true) ∧ W9.cell? ⟨(Bx), 8, none⟩ = some (.int .i64 0) ∧ W9.cell? ⟨(Bx), 9, none⟩ = some (.slice AR nR cR) ∧ W9.cell? ⟨(w.heap.size + 1 + 1 + 1), 0, none⟩ = some (.map (some (w.heap.size + 1 + 1))) ∧ W9.cell? ⟨(w.heap.size + 1 + 1 + 1 + 1), 0, none⟩ = some (.int .i64 tp)) 8 9 hmx (by kernel_rfl) rfl fun ops Q HOPS HQ => ?_
            refine yq 0 HOPS HSR11.out ?_; simp only [ls0, ls1]; refine yq 1 HOPS HSR11.out ?_; simp only [ls0, ls1]; refine yq 2 HOPS HSR11.out ?_; simp only [ls0, ls1]; refine yq 3 HOPS HSR11.out ?_; simp only [ls0, ls1]; refine yq 4 HOPS HSR11.out ?_; simp only [ls0, ls1]; refine yq 5 HOPS HSR11.out ?_; simp only [ls0, ls1]; refine yq 6 HOPS HSR11.out ?_; simp only [ls0, ls1]
            refine xc 7 HOPS ?_
            obtain ⟨w7, hrun, hm7, hg7⟩ := (show w5.drew.ownsMap Tryz.prog 3 (plainElem Tryz.prog 3) (w.heap.size + 1 + 1) cnt (dOp T.op) from H35.out.mp).update (t := 85) (Maps.int_keyed Tryz.underlying3) Tryz.underlying85 (by unfold maxLen; omega) (Maps.keyOf_int_mk Tryz.underlying3 HPI.out) (plainElem_int Tryz.underlying3 HBA.out)
            go_simp
            have HX_7 := Lib.hid (at0_grown HX_R11.out hg7 (by intro e; injection e with e; omega))
            have HA_7 := Lib.hid (at0_grown HA_R11.out hg7 (by intro e; injection e with e; omega))
            have HC_7 := Lib.hid (at0_grown HC_R11.out hg7 (by intro e; injection e with e; omega))
            have HM7 := Lib.hid hm7
            have HG7 := Lib.hid hg7
            clear hm7 hg7 hrun
            have HSR11_7 := Lib.hid (show (fun W9 : World => W9.cell? ⟨(Bx), 0, none⟩ = some (.int .i64 ba) ∧ W9.cell? ⟨(Bx), 1, none⟩ = some (.int .i64 la) ∧ W9.cell? ⟨(Bx), 2, none⟩ = some (.int .i64 fr) ∧ W9.cell? ⟨(Bx), 3, none⟩ = some (.int .i64 ep) ∧ W9.cell? ⟨(Bx), 4, none⟩ = some (.int .i64 pi) ∧ W9.cell? ⟨(Bx), 5, none⟩ = some (.int .i64 ge) ∧ W9.cell? ⟨(Bx), 6, none⟩ = some (.int .i64 se) ∧ W9.cell? ⟨(Bx), 7, none⟩ = some (.bool true) ∧ W9.cell? ⟨(Bx), 8, none⟩ = some (.int .i64 0) ∧ W9.cell? ⟨(Bx), 9, none⟩ = some (.slice AR nR cR) ∧ W9.cell? ⟨(w.heap.size + 1 + 1 + 1), 0, none⟩ = some (.map (some (w.heap.size + 1 + 1))) ∧ W9.cell? ⟨(w.heap.size + 1 + 1 + 1 + 1), 0, none⟩ = some (.int .i64 tp)) w7 from ⟨HX_7.out.cell 0, HX_7.out.cell 1, HX_7.out.cell 2, HX_7.out.cell 3, HX_7.out.cell 4, HX_7.out.cell 5, HX_7.out.cell 6, HX_7.out.cell 7, HX_7.out.cell 8, HX_7.out.cell 9, HA_7.out.cell 0, HC_7.out.cell 0⟩)
            refine ⟨HSR11_7.out, ?_⟩
            have s5 := HC_7.out.cell 0
            have f5 := HC_7.out.frozen 0
            refine xl 8 HOPS ?_
            go_simp
            refine stepE HOPS (by kernel_rfl) (HQ.out _ _ ?_)
            clear HQ HOPS
            clear Q ops
            have HFIN := Lib.hid ((H35.out.drew).turnMap (cnt' := cnt + 1) (T' := onT T ⟨ba, la, fr, ep, pi, ge, se, true, 0, rs⟩) (b := ba) (by omega) (by rw [HON.out.1]; have h9 := HM7.out; rwa [put_d _ _ _ HH.out] at h9) HG7.out (by rw [HON.out.1]) (by rw [HON.out.1]) HON.out.2)
            have hs7 := HG7.out.size
            have hBB := HB5.out.drew.trans (⟨HG7.out.os, HG7.out.tape, HG7.out.output, HG7.out.size, fun i hi => HG7.out.block i (by have := HB5.out.size; simp only [World.size_drew]; omega) (by intro e; injection e with e; omega)⟩ : Below w.heap.size w5.drew w7)
            have HBBH := Lib.hid hBB
            clear hBB s5 f5
            exact ⟨(((keeps_drew9 HKF5.out).trans (KeepsFrom.of_grownBy HG7.out (fun j hj => by injection hj with hj; omega))).trans ((KeepsOthers.setCell _ _ _).from _)), (HKQ5.out.drew.grown HG7.out (fun k e => by injection e with e; subst e; exact ⟨by rintro (h | h | h) <;> omega, by omega⟩)).set (by rintro (h | h | h) <;> simp only at h <;> omega) (by simp only; omega) _, ⟨A2, n2, c2, A3, n3, c3, cnt + 1, rest, by rw [HL.out]; simp, by simp; omega, by rw [HTS.out]; exact HFIN.out⟩, HBBH.out.setCell (by simp only; omega) _⟩
          · have HE := Lib.hid (show decide (ct = 0 ∧ tx = true) = false from decide_eq_false hb9)
            have HON := Lib.hid (on_none (t := T) (b := ⟨ba, la, fr, ep, pi, ge, se, tx, ct, rs⟩) HCK.out HZ.out HBT.out (fun h => by rw [show hasO T.op pi = false from hh0] at h; cases h) (fun _ => hb9))
            clear hh hh0 hb9
            gi_wp2_with (first | ((gi_at_call 36; (with_reducible refine (CallsIn.inRound l (callsIn_wide.2 HCHK.out)).mono ?_); rintro e w4 ⟨rfl, hb⟩; have HB4 := Lib.hid (HB.out.trans (hb.mono HB.out.size)); have H34 := Lib.hid (H3.out.below hb); have H64 := Lib.hid (H6.out.below hb); have HKF := Lib.hid (show KeepsFrom W0.heap.size W w4 from (keeps_bel hb).from _); have HKQ := Lib.hid ((KeptQ.refl (EaB w.heap.size (w.heap.size + 1 + 1 + 1 + 1 + 1 + 1) (w.heap.size + 1 + 1 + 1 + 1 + 1)) W1.heap.size W).below hb); have hs4 := hb.size; clear c4 c5 y0 y1 y2 y3 y4 y5 y6 y7 y8 y9 hb; have d4 := H34.out.t4.cell 0; have d5 := H34.out.t5.cell 0; rw [HTP.out] at d5; have x0 : w4.cell? ⟨Bx, 0, none⟩ = some (.int .i64 ba) := H64.out.cell 0; have x1 : w4.cell? ⟨Bx, 1, none⟩ = some (.int .i64 la) := H64.out.cell 1; have x2 : w4.cell? ⟨Bx, 2, none⟩ = some (.int .i64 fr) := H64.out.cell 2; have x3 : w4.cell? ⟨Bx, 3, none⟩ = some (.int .i64 ep) := H64.out.cell 3; have x4 : w4.cell? ⟨Bx, 4, none⟩ = some (.int .i64 pi) := H64.out.cell 4; have x5 : w4.cell? ⟨Bx, 5, none⟩ = some (.int .i64 ge) := H64.out.cell 5; have x6 : w4.cell? ⟨Bx, 6, none⟩ = some (.int .i64 se) := H64.out.cell 6; have x7 : w4.cell? ⟨Bx, 7, none⟩ = some (.bool tx) := H64.out.cell 7; have x8 : w4.cell? ⟨Bx, 8, none⟩ = some (.int .i64 ct) := H64.out.cell 8; have x9 : w4.cell? ⟨Bx, 9, none⟩ = some (.slice AR nR cR) := H64.out.cell 9)) | ((gi_at_lookup; go_loud (refine wpListIn_lookup_own_ok_int _ rfl _ _ 85 rfl 3 3 .i64 (Maps.int_keyed Tryz.underlying3) Tryz.underlying85 Tryz.underlying3 (zero_int _) (w.heap.size + 1 + 1) cnt (dOp T.op) rfl H34.out.mp _ _ rfl (Maps.keyOf_int_mk Tryz.underlying3 HPI.out) ?_; intro cL hat hwc; rw [at_d] at hat; injection hat with hat; injection hat with _ hat; subst hat; clear hwc; rw [has_d, HH.out]))) | ((gi_at_call 44; go_loud ((with_reducible refine (CallsIn.inRound l (callsIn_wide.2 (begins_is ba la fr ep pi ge se tx ct AR nR cR _ HE.out))).mono ?_); rintro e w5 ⟨rfl, hb⟩; have HB5 := Lib.hid (HB4.out.trans (hb.mono HB4.out.size)); have H35 := Lib.hid (H34.out.below hb); have H65 := Lib.hid (H64.out.below hb); have HKF5 := Lib.hid (HKF.out.trans ((keeps_bel hb).from _)); have HKQ5 := Lib.hid (HKQ.out.below hb); have hs5 := Nat.le_trans hs4 hb.size; clear d4 d5 x0 x1 x2 x3 x4 x5 x6 x7 x8 x9 hb; have r4 := H35.out.t4.cell 0; have r5 := H35.out.t5.cell 0; rw [HTP.out] at r5; have v0 : w5.cell? ⟨Bx, 0, none⟩ = some (.int .i64 ba) := H65.out.cell 0; have v1 : w5.cell? ⟨Bx, 1, none⟩ = some (.int .i64 la) := H65.out.cell 1; have v2 : w5.cell? ⟨Bx, 2, none⟩ = some (.int .i64 fr) := H65.out.cell 2; have v3 : w5.cell? ⟨Bx, 3, none⟩ = some (.int .i64 ep) := H65.out.cell 3; have v4 : w5.cell? ⟨Bx, 4, none⟩ = some (.int .i64 pi) := H65.out.cell 4; have v5 : w5.cell? ⟨Bx, 5, none⟩ = some (.int .i64 ge) := H65.out.cell 5; have v6 : w5.cell? ⟨Bx, 6, none⟩ = some (.int .i64 se) := H65.out.cell 6; have v7 : w5.cell? ⟨Bx, 7, none⟩ = some (.bool tx) := H65.out.cell 7; have v8 : w5.cell? ⟨Bx, 8, none⟩ = some (.int .i64 ct) := H65.out.cell 8; have v9 : w5.cell? ⟨Bx, 9, none⟩ = some (.slice AR nR cR) := H65.out.cell 9))))
            exact ⟨HKF5.out, HKQ5.out, ⟨A2, n2, c2, A3, n3, c3, cnt, rest, by rw [HL.out]; simp, by simp; omega, by rw [HTS.out, HON.out]; exact H35.out⟩, HB5.out⟩
    · have e1 : (z == 0) = false := beq_eq_false_iff_ne.2 hz0
      have HON := Lib.hid (on_bad (t := T) (b := ⟨ba, la, fr, ep, pi, ge, se, tx, ct, rs⟩) (.inl (by rw [HZ.out]; exact hz0)))
      have e3 : (z != 0) = true := by simp [bne, e1]
      clear hpi
      gi_wp2_with ((gi_at_call 36; (with_reducible refine (CallsIn.inRound l (callsIn_wide.2 HCHK.out)).mono ?_); rintro e w4 ⟨rfl, hb⟩; have HB4 := Lib.hid (HB.out.trans (hb.mono HB.out.size)); have H34 := Lib.hid (H3.out.below hb); have H64 := Lib.hid (H6.out.below hb); have HKF := Lib.hid (show KeepsFrom W0.heap.size W w4 from (keeps_bel hb).from _); have HKQ := Lib.hid ((KeptQ.refl (EaB w.heap.size (w.heap.size + 1 + 1 + 1 + 1 + 1 + 1) (w.heap.size + 1 + 1 + 1 + 1 + 1)) W1.heap.size W).below hb); have hs4 := hb.size; clear c4 c5 y0 y1 y2 y3 y4 y5 y6 y7 y8 y9 hb; have d4 := H34.out.t4.cell 0; have d5 := H34.out.t5.cell 0; rw [HTP.out] at d5; have x0 : w4.cell? ⟨Bx, 0, none⟩ = some (.int .i64 ba) := H64.out.cell 0; have x1 : w4.cell? ⟨Bx, 1, none⟩ = some (.int .i64 la) := H64.out.cell 1; have x2 : w4.cell? ⟨Bx, 2, none⟩ = some (.int .i64 fr) := H64.out.cell 2; have x3 : w4.cell? ⟨Bx, 3, none⟩ = some (.int .i64 ep) := H64.out.cell 3; have x4 : w4.cell? ⟨Bx, 4, none⟩ = some (.int .i64 pi) := H64.out.cell 4; have x5 : w4.cell? ⟨Bx, 5, none⟩ = some (.int .i64 ge) := H64.out.cell 5; have x6 : w4.cell? ⟨Bx, 6, none⟩ = some (.int .i64 se) := H64.out.cell 6; have x7 : w4.cell? ⟨Bx, 7, none⟩ = some (.bool tx) := H64.out.cell 7; have x8 : w4.cell? ⟨Bx, 8, none⟩ = some (.int .i64 ct) := H64.out.cell 8; have x9 : w4.cell? ⟨Bx, 9, none⟩ = some (.slice AR nR cR) := H64.out.cell 9))
      exact ⟨HKF.out, HKQ.out, ⟨A2, n2, c2, A3, n3, c3, cnt, rest, by rw [HL.out]; simp, by simp; omega, by rw [HTS.out, HON.out]; exact H34.out⟩, HB4.out⟩
  case done =>
    rintro D ys V hD hQ ⟨⟨A2, n2, c2, A3, n3, c3, cnt, rest, h1, h2, h3⟩, hB⟩ hK
    have hyL : ys = L := hQ.trans (cat_one (LX.mk A n c L))
    obtain ⟨T, hT⟩ : ∃ T, ofT (L.map (·.1)) = T := ⟨_, rfl⟩
    rw [hyL, hT] at h3
    have hbd := of_len (L.map (·.1))
    rw [hT, List.length_map, HLN.out] at hbd
    have hck : ckT T = true := by rw [← hT]; exact of_ck _
    obtain ⟨m, hm⟩ : ∃ m, T.op.length = m := ⟨_, rfl⟩
    rw [hm] at hbd
    have q4 : V.cell? ⟨w.heap.size + 1 + 1 + 1, 0, none⟩ = some (.map (some (w.heap.size + 1 + 1))) := h3.t4.cell 0
    have hm1 : m ≤ 1000 := by omega
    have HKY := Lib.hid (keysC (some (w.heap.size + 1 + 1)) V)
    have HSD := Lib.hid (sortedC V h3.mp hm hm1 (ckT_iff.1 hck).1)
    have H3 := Lib.hid h3
    have HB := Lib.hid hB
    have HK := Lib.hid hK
    have HTT := Lib.hid hT
    have HM := Lib.hid hm
    have HCK := Lib.hid (ckT_iff.1 hck).1
    have HD := Lib.hid hD
    clear h1 h2 h3 hB hK hQ hyL hT hm hck hbd hD
    go_wp2_with (first
      | (go_at_call 67; (with_reducible refine HSD.out.mono ?_); rintro e w7 ⟨KA, kc, rfl, hk7, hb7⟩; have HK7 := Lib.hid (H3.out.start hsz hb7 hk7 HD.out HK.out); have HB7 := Lib.hid (HB.out.trans (hb7.mono HB.out.size)); clear hk7 hb7 q4)
      | (go_at_call 68; (with_reducible refine HKY.out.mono ?_); rintro e w6 ⟨rfl, rfl⟩))
    go_loopw [65] (fun iv wr => ∃ (k : Nat) (A1 : Option Addr) (c1 : Nat), iv = .int .i64 (k : Int) ∧ k ≤ m ∧ OfK wr w.heap.size w7.heap.size A1 k c1 A2 n2 c2 A3 n3 c3 cnt T KA m kc D ∧ Below w.heap.size w wr) (fun iv _ => m - (intOf iv).toNat)
    case atStart => exact ⟨0, none, 0, rfl, Nat.zero_le _, HK7.out, HB7.out⟩
    case round =>
      obtain ⟨k, A1, c1, rfl, hkm, hok, hbw⟩ := hrel
      have HOK := Lib.hid hok
      have HBW := Lib.hid hbw
      clear hok hbw
      by_cases hlt : k < m
      · obtain ⟨⟨yp, yf⟩, hy⟩ : ∃ y, T.op[k]? = some y := ⟨T.op[k]'(by have := HM.out; omega), List.getElem?_eq_getElem _⟩
        have HY := Lib.hid hy
        have hmem := List.mem_of_getElem? hy
        have hwf : (Lit.int .i64 yp).wf = true := wf64 (by have h9 := chO_mem HCK.out _ hmem; simp only at h9; constructor <;> omega)
        have HWF := Lib.hid hwf
        have HF := Lib.hid (show fstO T.op yp = yf from fstO_one HCK.out _ hmem)
        clear hy hmem hwf
        obtain ⟨g, rfl, hg1, hg2⟩ := OwnF.form HOK.out.key (by omega)
        have hkc : wr.cell? ⟨g, k, none⟩ = some (.int .i64 yp) := by
          have h9 := OwnF.cellAt pidS HOK.out.key HY.out (i := 0) rfl
          simpa using h9
        have q4 : wr.cell? ⟨w.heap.size + 1 + 1 + 1, 0, none⟩ = some (.map (some (w.heap.size + 1 + 1))) := HOK.out.t4.cell 0
        obtain ⟨t0, t1, t2⟩ := cel3 HOK.out.t3
        obtain ⟨A5, c5, w5, hrun, ho5, hg5, hv5⟩ := run_appFG (P := Tryz.prog) (wr.alloc (.cells (opC ⟨yp, yf⟩).toArray 51)) opS 16 w7.heap.size 22 22 51 Tryz.underlying22 opInfo (.slice A1 k c1) k (T.op.take k) (HOK.out.op.alloc _) (wr.heap.size + 1) (some ⟨wr.heap.size, 0, none⟩) 1 1 [⟨yp, yf⟩] (rdF_new wr opS 51 ⟨yp, yf⟩) (by omega) (by omega) (by have := HOK.out.size; rw [World.size_alloc]; omega)
        have HST := Lib.hid (HOK.out.step HY.out hg5 ho5)
        have HBS := Lib.hid (show Below w.heap.size w (w5.setCell ⟨w.heap.size + 1, 0, none⟩ (.slice A5 (k + 1) c5)) from by
          have h1 := HOK.out.size
          have h2 := hg5.size
          have h3 := HOK.out.dlo
          exact (HBW.out.trans ((belA wr _).mono HBW.out.size |>.trans ⟨hg5.os, hg5.tape, hg5.output, hg5.size, fun i hi => hg5.block i (by rw [World.size_alloc]; omega) (fun e => by have := (World.ownsRow.lt HOK.out.op _ e.symm).1; omega)⟩)).setCell (by simp only; omega) _)
        have HT5 := Lib.hid (show At0 w5 (w.heap.size + 1) [.slice A1 k c1, .slice A2 n2 c2, .slice A3 n3 c3] 25 from at0_grown (HOK.out.t3.below (belA wr _)) hg5 (fun e => by have h1 := (World.ownsRow.lt HOK.out.op _ e.symm).1; have h2 := HOK.out.dlo; omega))
        dsimp only [opC] at hrun
        clear ho5 hg5 hv5
        have hw1 : IntKind.i64.wrap ((k : Int) + 1) = (k : Int) + 1 := IntWalk.i64_in _ (by omega)
        have hklt : (k : Int) < (m : Int) := by omega
        go_wp2_with (first
          | (at_builtin; refine wpList_app9 rfl _ _ 22 _ rfl rfl rfl hrun ?_; obtain ⟨t0, t1, t2⟩ := cel3 HT5.out; obtain ⟨f0, f1, f2⟩ := frz3 HT5.out)
          | (at_lookup; refine wpList_lookup_own_int _ rfl _ _ 85 rfl 3 3 .i64 (Maps.int_keyed Tryz.underlying3) Tryz.underlying85 Tryz.underlying3 (zero_int _) (w.heap.size + 1 + 1) cnt (dOp T.op) rfl HOK.out.mp _ _ rfl (Maps.keyOf_int_mk Tryz.underlying3 HWF.out) ?_; intro cL hat hwc; rw [at_d, HF.out] at hat; injection hat with hat; injection hat with _ hat; subst hat; clear hwc))
        go_roundw
        case rel => exact ⟨k + 1, A5, c5, by go_num, by omega, HST.out, HBS.out⟩
        case measure => simp [intOf]; omega
      · obtain rfl : m = k := by omega
        obtain ⟨t0, t1, t2⟩ := cel3 HOK.out.t3
        obtain ⟨z0, z1, z2⟩ := cel3 HOK.out.t2
        obtain ⟨y0, y1, y2⟩ := frz3 HOK.out.t2
        go_wp2
        obtain ⟨X, hX⟩ : ∃ X, ((wr.setCell ⟨w.heap.size, 0, none⟩ (.slice A1 m c1)).setCell ⟨w.heap.size, 1, none⟩ (.slice A2 n2 c2)).setCell ⟨w.heap.size, 2, none⟩ (.slice A3 n3 c3) = X := ⟨_, rfl⟩
        obtain ⟨hKX, hFX, hOX⟩ := HOK.out.fin HM.out hX
        rw [hX]
        refine ⟨by simp, .inl ⟨_, _, rfl, run_takeDeferred hKX, ?_⟩⟩
        obtain ⟨k0, k1, k2⟩ := cel3 hFX
        refine ⟨.agg #[.slice A1 m c1, .slice A2 n2 c2, .slice A3 n3 c3], by simp [results, Tryz.results31, go_sem, k0, k1, k2], ?_⟩
        have hBX : Below w.heap.size w X := by rw [← hX]; exact ((HBW.out.setCell (by simp only; omega) _).setCell (by simp only; omega) _).setCell (by simp only; omega) _
        exact ⟨A1, m, c1, A2, n2, c2, A3, n3, c3, rfl, by rw [HTT.out]; exact hOX, hBX.trans (belowK_b (w := w) (Nat.le_refl _) _ D _ _ (by have := HOK.out.dlo; omega) hKX rfl rfl)⟩
end Go.Proofs.YtlfbagkonckffaaGreat.Txn
