/- Joined: SqsR9. -/
import Derived.Test.YtllebgadhhgckaaDoorJ32
import Derived.Test.YtllebgadhhgckaaDoorJ33
/- The document's Look: the batches of a producer, gone through. -/
namespace Go.Proofs.YtllebgadhhgckaaDoor.Sqs
open Go.RowKit Oct Rec RowF RowK Lay Bat InR
open Epo (At0 AtO belA)

def tb_Look19 : List (Nat × Nat) := [(0, 262143), (0, 262143), (3, 262140), (4, 262139), (8, 262135), (0, 262143), (32, 262111), (80, 262063), (128, 262015), (256, 261887), (256, 261887), (1792, 260351), (2304, 259839), (4352, 257791), (256, 261887), (16640, 245503), (41216, 220927), (65792, 196351)]
theorem ato_three {W : World} {g o : Nat} {a b c : Value} (hl : g < W.heap.size) (h0 : W.cell? ⟨g, o, none⟩ = some a) (h1 : W.cell? ⟨g, o + 1, none⟩ = some b) (h2 : W.cell? ⟨g, o + 2, none⟩ = some c) : AtO W g o [a, b, c] := ⟨hl, fun j v hv => by
  match j, hv with
  | 0, hv => obtain rfl : a = v := Option.some.inj hv; exact h0
  | 1, hv => obtain rfl : b = v := Option.some.inj hv; exact h1
  | 2, hv => obtain rfl : c = v := Option.some.inj hv; exact h2⟩
theorem chD_mem {o : Option Int} {l : List Dd} (h : chD o l = true) : ∀ d ∈ l, ddOk d = true := by
  induction l generalizing o with
  | nil => intro d hd; cases hd
  | cons y l ih =>
    rw [chD, Bool.and_eq_true, Bool.and_eq_true] at h
    intro d hd
    rcases List.mem_cons.1 hd with rfl | hd
    · exact h.1.1
    · exact ih h.2 d hd
theorem did_high {l : List Pd} {x : Pd} {k : Nat} (hC : ckP l = 0) (hx : l[k]? = some x) {d : Dd} (hd : d ∈ x.did) : 0 ≤ d.la ∧ d.la ≤ 1048576 := by
  have h1 := (chP_mem (ckP_iff.1 hC).2 x (List.mem_of_getElem? hx)).2.2.2
  unfold didOk at h1
  rw [Bool.and_eq_true] at h1
  have h2 := chD_mem h1.1 d hd
  unfold ddOk at h2
  have h3 := of_decide_eq_true h2
  omega
def hitD (sq ls : Int) (d : Dd) : Bool := decide (d.sq = sq ∧ d.la = ls)
def skRel (xd : List Dd) (sq ls : Int) (n' : Nat) (w4 : World) (iv : Value) (wr : World) : Prop :=
  ∃ j : Nat, iv = .int .i64 (j : Int) ∧ j ≤ n' ∧ (∀ i d, i < j → xd[i]? = some d → hitD sq ls d = false) ∧ Below w4.heap.size w4 wr
theorem hit_at {xd : List Dd} {sq ls : Int} {j : Nat} {d : Dd} (hd : xd[j]? = some d) (h : hitD sq ls d = true) (hn : ∀ i d, i < j → xd[i]? = some d → hitD sq ls d = false) : xd.find? (hitD sq ls) = some d := by
  obtain ⟨hj, rfl⟩ := List.getElem?_eq_some_iff.1 hd
  rw [List.find?_eq_some_iff_getElem]
  exact ⟨h, j, hj, rfl, fun i hi => by simpa using hn i xd[i] hi (List.getElem?_eq_getElem _)⟩
set_option maxRecDepth 100000 in
set_option maxHeartbeats 8000000 in
theorem look_9 (A : Option Addr) (n c : Nat) (l : List Pd) (ba la fr ep pi ge se : Int) (tx : Bool) (rs : List Rc) (AR : Option Addr) (nR cR : Nat) (w : World) (hr : RdP w w.heap.size A n l) (hn : n ≤ reach) (hf : Fits ⟨ba, la, fr, ep, pi, ge, se, tx, 0, rs⟩) (hrr : RdR w w.heap.size AR nR rs) (hnR : nR ≤ 1099511627776) (hC1 : ckP l = 0) (hC2 : chB ⟨ba, la, fr, ep, pi, ge, se, tx, 0, rs⟩ = 0) (hp : ¬ pi = -1) {k : Nat} {x : Pd} (hP : plP l pi = some k) (hx : l[k]? = some x) (hg : ¬ ge < x.gen) (hfr : freshP l ⟨ba, la, fr, ep, pi, ge, se, tx, 0, rs⟩ = false) {X0 E0 : Int} {T0 : Bool} (hsq : seqP x.did ⟨ba, la, fr, ep, pi, ge, se, tx, 0, rs⟩ = (X0, T0, E0)) :
    Calls Tryd.prog 15 #[.slice A n c, .agg #[.int .i64 ba, .int .i64 la, .int .i64 fr, .int .i64 ep, .int .i64 pi, .int .i64 ge, .int .i64 se, .bool tx, .int .i64 0, .slice AR nR cR]] w fun e w' => e = .returned (.tuple #[.int .i64 X0, .bool T0, .int .i64 E0]) ∧ Below w.heap.size w w' := by
  have hba := belA w (.cells #[.int .i64 ba, .int .i64 la, .int .i64 fr, .int .i64 ep, .int .i64 pi, .int .i64 ge, .int .i64 se, .bool tx, .int .i64 0, .slice AR nR cR] 25)
  have HB1 := Lib.hid hba
  have HR1 := Lib.hid (rdkUp hr hba)
  have HRR1 := Lib.hid (rdrUp9 hrr hba)
  have HAT1 := Lib.hid (At0.new w [.int .i64 ba, .int .i64 la, .int .i64 fr, .int .i64 ep, .int .i64 pi, .int .i64 ge, .int .i64 se, .bool tx, .int .i64 0, .slice AR nR cR] 25)
  have HF := Lib.hid hf
  have hn9 : n ≤ 140737488351232 := hn
  clear hba hrr hf
  have HC1 := Lib.hid hC1
  have HC2 := Lib.hid hC2
  have hq : (pi == -1) = false := beq_eq_false_iff_ne.2 hp
  have HP := Lib.hid hP
  obtain ⟨b, o, rfl, hbl, hk⟩ := pr_form hr hx
  have HX := Lib.hid hx
  have hkl : (k : Int) < (n : Int) := by omega
  have hk0 : (0 : Int) ≤ (k : Int) := by omega
  have hk1 : ¬ (k : Int) < 0 := by omega
  have HFR := Lib.hid hfr
  have hfm := (chB_form hC2).1
  have hs0 := hfm.seq0
  have hs1 := hfm.seq2
  have hb0 := hfm.base0
  have hb1 := hfm.last1
  have hb2 := hfm.le
  have hb3 := hfm.near
  have hs2 := hfm.seq1
  simp only at hs0 hs1 hb0 hb1 hb2 hb3 hs2
  obtain ⟨ls, hls⟩ : ∃ ls : Int, se + la - ba = ls := ⟨_, rfl⟩
  have hw8 : IntKind.i64.wrap (se + la) = se + la := IntWalk.i64_in _ (by omega)
  have hw9 : IntKind.i64.wrap (se + la - ba) = ls := by rw [hls]; exact IntWalk.i64_in _ (by omega)
  have hne : x.did ≠ [] := fun h => by
    unfold freshP at hfr
    obtain ⟨p, h1, h2, _⟩ := find_at hP
    rw [hx] at h1
    obtain rfl := Option.some.inj h1
    simp only at hfr
    rw [h2] at hfr
    simp only [h] at hfr
    simp at hfr
  have hsq2 : (match x.did.find? (hitD se ls) with
    | some d => (d.ba, true, 0)
    | none => match x.did.getLast? with
      | none => (0, false, 111)
      | some y => if se = y.la + 1 then (0, false, 0) else (0, false, 111)) = (X0, T0, E0) := by rw [← hsq, ← hls]; rfl
  have HSQ := Lib.hid hsq2
  have HNE := Lib.hid hne
  clear hC1 hC2 hP hr hfr hx hsq hsq2 hne hls hfm
  go_enter Tryd.func15, Tryd.ntmps15
  go_upto_region 7 with (first
    | (go_at_call 17; (with_reducible refine (rCheckP_is (some ⟨b, o, none⟩) n c l _ HR1.out hn HC1.out).mono ?_); rintro e w2 ⟨rfl, hb⟩; have HB2 := Lib.hid (Epo.bel_trans HB1.out hb); have HR2 := Lib.hid (rdkUp HR1.out hb); have HRR2 := Lib.hid (rdrUp9 HRR1.out hb); have HAT2 := Lib.hid (HAT1.out.below hb); clear hb; obtain ⟨q0, q1, q2, q3, q4, q5, q6, q7, q8, q9⟩ := cel10 HAT2.out)
    | (go_at_call 36; (with_reducible refine (refCheckB_is ba la fr ep pi ge se tx 0 rs AR nR cR _ HF.out HRR2.out hnR HC2.out).mono ?_); rintro e w3 ⟨rfl, hb⟩; clear q0 q1 q2 q3 q4 q5 q6 q7 q8 q9; have HB3 := Lib.hid (Epo.bel_trans HB2.out hb); have HR3 := Lib.hid (rdkUp HR2.out hb); have HRR3 := Lib.hid (rdrUp9 HRR2.out hb); have HAT3 := Lib.hid (HAT2.out.below hb); clear hb; obtain ⟨q0, q1, q2, q3, q4, q5, q6, q7, q8, q9⟩ := cel10 HAT3.out)
    | (go_at_call 37; (with_reducible refine (rFind_is (some ⟨b, o, none⟩) n c l pi _ HR3.out hn HP.out).mono ?_); rintro e w9 ⟨rfl, rfl⟩; dsimp only [plV]))
  obtain ⟨A', n', c', hc', hn', hrd, d0, d1, d2⟩ := prK3 HR3.out HX.out
  go_big_region
  have hbd := bel_drew (Below.refl w3.heap.size w3)
  clear d0 d1 d2
  generalize w3.drew = wq at *
  have HB33 := Lib.hid (Epo.bel_trans HB3.out hbd); have HR33 := Lib.hid (rdkUp HR3.out hbd); have HRR33 := Lib.hid (rdrUp9 HRR3.out hbd); have HAT33 := Lib.hid (HAT3.out.below hbd)
  clear hbd q0 q1 q2 q3 q4 q5 q6 q7 q8 q9
  obtain ⟨q0, q1, q2, q3, q4, q5, q6, q7, q8, q9⟩ := cel10 HAT33.out
  go_upto_region 15 with (first
    | (go_at_call 38; (with_reducible refine (rfresh_is (some ⟨b, o, none⟩) n c l ba la fr ep pi ge se tx 0 rs AR nR cR _ HR33.out hn HFR.out).mono ?_); rintro e w4 ⟨rfl, hb⟩; clear q0 q1 q2 q3 q4 q5 q6 q7 q8 q9; have HB4 := Lib.hid (Epo.bel_trans HB33.out hb); have HR4 := Lib.hid (rdkUp HR33.out hb); have HRR4 := Lib.hid (rdrUp9 HRR33.out hb); have HAT4 := Lib.hid (HAT33.out.below hb); clear hb; obtain ⟨q0, q1, q2, q3, q4, q5, q6, q7, q8, q9⟩ := cel10 HAT4.out))
  obtain ⟨A'', n'', c'', hc'', hn'', hrd4, e0, e1, e2⟩ := prK3 HR4.out HX.out
  have HD4 := Lib.hid hrd4
  have HDL := Lib.hid hrd4.len
  have hn49 : n'' ≤ 140737488351232 := hn''
  clear hrd hrd4 hc' hc'' hn'' hn'
  go_wp2
  clear e0 e1 e2 q0 q1 q2 q3 q4 q5 q6 q7 q8 q9
  go_loopw [10] (fun iv wr => skRel x.did se ls n'' w4 iv wr) (fun iv _ => n'' - (intOf iv).toNat)
  case atStart => exact ⟨0, rfl, Nat.zero_le _, fun i d h => absurd h (Nat.not_lt_zero _), Below.refl _ _⟩
  case round =>
    obtain ⟨j, rfl, hj, hno, hb⟩ := hrel
    have HNO := Lib.hid hno
    have HBJ := Lib.hid (Epo.bel_trans HB4.out hb)
    have HB4J := Lib.hid hb
    have HDJ := Lib.hid (rddUp HD4.out hb)
    have HATJ := Lib.hid (HAT4.out.below hb)
    clear hno hb
    by_cases hjt : j < n''
    · obtain ⟨⟨y0, y1, y2⟩, hy⟩ : ∃ y, x.did[j]? = some y := ⟨x.did[j]'(by have := HDL.out; omega), List.getElem?_eq_getElem _⟩
      obtain ⟨p, q, rfl, _⟩ := did_form HDJ.out hy
      obtain ⟨hpl, f0, f1, f2⟩ := didK HDJ.out hy
      simp only at f0 f1 f2
      have HPJ := Lib.hid (ato_three hpl f0 f1 f2)
      have HY := Lib.hid hy
      have hw3 : IntKind.i64.wrap ((j : Int) + 1) = (j : Int) + 1 := IntWalk.i64_in _ (by omega)
      have hjl : (j : Int) < (n'' : Int) := by omega
      have hj0 : (0 : Int) ≤ (j : Int) := by omega
      have q6 := HATJ.out.cell 6
      simp only [List.getElem?_cons_zero, List.getElem?_cons_succ] at q6
      clear hy
      have HNX := Lib.hid (show hitD se ls ⟨y0, y1, y2⟩ = false → ∀ i d, i < j + 1 → x.did[i]? = some d → hitD se ls d = false from fun h i d hi hd => by
        by_cases h9 : i < j
        · exact HNO.out i d h9 hd
        · obtain rfl : i = j := by omega
          rw [HY.out] at hd
          obtain rfl := Option.some.inj hd
          exact h)
      by_cases hsq : y0 = se
      · obtain rfl : se = y0 := hsq.symm
        have hmx : Tryd.prog.follows .mixedOrders = true := by kernel_rfl
        by_cases hla : y1 = ls
        · have hq5 : (y1 == ls) = true := beq_iff_eq.2 hla
          have hX := HSQ.out
          rw [hit_at HY.out (decide_eq_true ⟨rfl, hla⟩) HNO.out] at hX
          simp only at hX
          injection hX with a1 a2
          injection a2 with a2 a3
          subst a1; subst a2; subst a3
          clear hla q6 f0 f1 f2
          go_upto_region 19 with fail
          have hbd := (Below.refl wr.heap.size wr).drew
          have HB_R19h := Lib.hid (HATJ.out.below hbd)
          have HP_R19h := Lib.hid (HPJ.out.below hbd)
          have HBR_R19h := Lib.hid (bel_trans HBJ.out hbd)
          have HB4R_R19h := Lib.hid (bel_trans HB4J.out hbd)
          have HSR19h := Lib.hid (show (fun W9 : World => W9.cell? ⟨w.heap.size, 0, none⟩ = some (.int .i64 ba) ∧ W9.cell? ⟨w.heap.size, 1, none⟩ = some (.int .i64 la) ∧ W9.cell? ⟨w.heap.size, 2, none⟩ = some (.int .i64 fr) ∧ W9.cell? ⟨w.heap.size, 3, none⟩ = some (.int .i64 ep) ∧ W9.cell? ⟨w.heap.size, 4, none⟩ = some (.int .i64 pi) ∧ W9.cell? ⟨w.heap.size, 5, none⟩ = some (.int .i64 ge) ∧ W9.cell? ⟨w.heap.size, 6, none⟩ = some (.int .i64 se) ∧ W9.cell? ⟨w.heap.size, 7, none⟩ = some (.bool tx) ∧ W9.cell? ⟨w.heap.size, 8, none⟩ = some (.int .i64 0) ∧ W9.cell? ⟨w.heap.size, 9, none⟩ = some (.slice AR nR cR) ∧ W9.cell? ⟨p, q + j * 3, none⟩ = some (.int .i64 se) ∧ W9.cell? ⟨p, q + j * 3 + 1, none⟩ = some (.int .i64 y1) ∧ W9.cell? ⟨p, q + j * 3 + 2, none⟩ = some (.int .i64 y2)) wr.drew from ⟨HB_R19h.out.cell 0, HB_R19h.out.cell 1, HB_R19h.out.cell 2, HB_R19h.out.cell 3, HB_R19h.out.cell 4, HB_R19h.out.cell 5, HB_R19h.out.cell 6, HB_R19h.out.cell 7, HB_R19h.out.cell 8, HB_R19h.out.cell 9, HP_R19h.out.2 0 _ rfl, HP_R19h.out.2 1 _ rfl, HP_R19h.out.2 2 _ rfl⟩)
          clear hbd
          refine region_let (fun W9 : World => W9.cell? ⟨w.heap.size, 0, none⟩ = some (.int .i64 ba) ∧ W9.cell? ⟨w.heap.size, 1, none⟩ = some (.int .i64 la) ∧ W9.cell? ⟨w.heap.size, 2, none⟩ = some (.int .i64 fr) ∧ W9.cell? ⟨w.heap.size, 3, none⟩ = some (.int .i64 ep) ∧ W9.cell? ⟨w.heap.size, 4, none⟩ = some (.int .i64 pi) ∧ W9.cell? ⟨w.heap.size, 5, none⟩ = some (.int .i64 ge) ∧ W9.cell? ⟨w.heap.size, 6, none⟩ = some (.int .i64 se) ∧ W9.cell? ⟨w.heap.size, 7, none⟩ = some (.bool tx) ∧ W9.cell? ⟨w.heap.size, 8, none⟩ = some (.int .i64 0) ∧ W9.cell? ⟨w.heap.size, 9, none⟩ = some (.slice AR nR cR) ∧ W9.cell? ⟨p, q + j * 3, none⟩ = some (.int .i64 se) ∧ W9.cell? ⟨p, q + j * 3 + 1, none⟩ = some (.int .i64 y1) ∧ W9.cell? ⟨p, q + j * 3 + 2, none⟩ = some (.int .i64 y2)) 99 18 hmx rfl fun ops Q HOPS HQ => ?_
          have HREG := reg_of HOPS tb_Look19 rfl (by kernel_rfl) (by kernel_rfl) (by decide)
          refine xq 0 HOPS HREG HSR19h.out ?_; simp only [ls0, ls1]; refine xq 1 HOPS HREG HSR19h.out ?_; simp only [ls0, ls1]; refine xq 2 HOPS HREG HSR19h.out ?_; simp only [ls0, ls1]; refine xq 3 HOPS HREG HSR19h.out ?_; simp only [ls0, ls1]; refine xq 4 HOPS HREG HSR19h.out ?_; simp only [ls0, ls1]; refine xq 5 HOPS HREG HSR19h.out ?_; simp only [ls0, ls1]; refine xq 6 HOPS HREG HSR19h.out ?_; simp only [ls0, ls1]; refine xq 7 HOPS HREG HSR19h.out ?_; simp only [ls0, ls1]; refine xq 8 HOPS HREG HSR19h.out ?_; simp only [ls0, ls1]; refine xq 9 HOPS HREG HSR19h.out ?_; simp only [ls0, ls1]; refine xq 10 HOPS HREG HSR19h.out ?_; simp only [ls0, ls1]; refine xq 11 HOPS HREG HSR19h.out ?_; simp only [ls0, ls1]; refine xq 12 HOPS HREG HSR19h.out ?_; simp only [ls0, ls1]; refine xq 13 HOPS HREG HSR19h.out ?_; simp only [ls0, ls1]; refine xq 14 HOPS HREG HSR19h.out ?_; simp only [ls0, ls1]
          refine xc 15 HOPS ?_
          go_simp
          with_reducible refine (rlast_is ba la fr ep pi ge se tx 0 AR nR cR _ hw8 hw9).mono ?_
          rintro e w5 ⟨rfl, hb⟩
          have HB_5 := Lib.hid (HB_R19h.out.below hb)
          have HP_5 := Lib.hid (HP_R19h.out.below hb)
          have HBR_5 := Lib.hid (bel_trans HBR_R19h.out hb)
          have HB4R_5 := Lib.hid (bel_trans HB4R_R19h.out hb)
          have HSR19hw5 := Lib.hid (show (fun W9 : World => W9.cell? ⟨w.heap.size, 0, none⟩ = some (.int .i64 ba) ∧ W9.cell? ⟨w.heap.size, 1, none⟩ = some (.int .i64 la) ∧ W9.cell? ⟨w.heap.size, 2, none⟩ = some (.int .i64 fr) ∧ W9.cell? ⟨w.heap.size, 3, none⟩ = some (.int .i64 ep) ∧ W9.cell? ⟨w.heap.size, 4, none⟩ = some (.int .i64 pi) ∧ W9.cell? ⟨w.heap.size, 5, none⟩ = some (.int .i64 ge) ∧ W9.cell? ⟨w.heap.size, 6, none⟩ = some (.int .i64 se) ∧ W9.cell? ⟨w.heap.size, 7, none⟩ = some (.bool tx) ∧ W9.cell? ⟨w.heap.size, 8, none⟩ = some (.int .i64 0) ∧ W9.cell? ⟨w.heap.size, 9, none⟩ = some (.slice AR nR cR) ∧ W9.cell? ⟨p, q + j * 3, none⟩ = some (.int .i64 se) ∧ W9.cell? ⟨p, q + j * 3 + 1, none⟩ = some (.int .i64 y1) ∧ W9.cell? ⟨p, q + j * 3 + 2, none⟩ = some (.int .i64 y2)) w5 from ⟨HB_5.out.cell 0, HB_5.out.cell 1, HB_5.out.cell 2, HB_5.out.cell 3, HB_5.out.cell 4, HB_5.out.cell 5, HB_5.out.cell 6, HB_5.out.cell 7, HB_5.out.cell 8, HB_5.out.cell 9, HP_5.out.2 0 _ rfl, HP_5.out.2 1 _ rfl, HP_5.out.2 2 _ rfl⟩)
          clear hb
          refine ⟨HSR19hw5.out, ?_⟩
          refine xq 16 HOPS HREG HSR19hw5.out ?_; simp only [ls0, ls1]; refine xq 17 HOPS HREG HSR19hw5.out ?_; simp only [ls0, ls1]
          refine stepE HOPS (by kernel_rfl) (HQ.out _ _ ?_)
          clear HQ HREG HOPS
          clear Q ops
          have f9 := HP_5.out.2 2 _ rfl
          go_wp2
          go_ret3
          exact ⟨rfl, HBR_5.out⟩
        · have hq5 : (y1 == ls) = false := beq_eq_false_iff_ne.2 hla
          have HN := Lib.hid (HNX.out (decide_eq_false (fun h => hla h.2)))
          clear hla q6 f0 f1 f2
          go_upto_region 19 with fail
          have hbd := (Below.refl wr.heap.size wr).drew
          have HB_R19n := Lib.hid (HATJ.out.below hbd)
          have HP_R19n := Lib.hid (HPJ.out.below hbd)
          have HBR_R19n := Lib.hid (bel_trans HBJ.out hbd)
          have HB4R_R19n := Lib.hid (bel_trans HB4J.out hbd)
          have HSR19n := Lib.hid (show (fun W9 : World => W9.cell? ⟨w.heap.size, 0, none⟩ = some (.int .i64 ba) ∧ W9.cell? ⟨w.heap.size, 1, none⟩ = some (.int .i64 la) ∧ W9.cell? ⟨w.heap.size, 2, none⟩ = some (.int .i64 fr) ∧ W9.cell? ⟨w.heap.size, 3, none⟩ = some (.int .i64 ep) ∧ W9.cell? ⟨w.heap.size, 4, none⟩ = some (.int .i64 pi) ∧ W9.cell? ⟨w.heap.size, 5, none⟩ = some (.int .i64 ge) ∧ W9.cell? ⟨w.heap.size, 6, none⟩ = some (.int .i64 se) ∧ W9.cell? ⟨w.heap.size, 7, none⟩ = some (.bool tx) ∧ W9.cell? ⟨w.heap.size, 8, none⟩ = some (.int .i64 0) ∧ W9.cell? ⟨w.heap.size, 9, none⟩ = some (.slice AR nR cR) ∧ W9.cell? ⟨p, q + j * 3, none⟩ = some (.int .i64 se) ∧ W9.cell? ⟨p, q + j * 3 + 1, none⟩ = some (.int .i64 y1) ∧ W9.cell? ⟨p, q + j * 3 + 2, none⟩ = some (.int .i64 y2)) wr.drew from ⟨HB_R19n.out.cell 0, HB_R19n.out.cell 1, HB_R19n.out.cell 2, HB_R19n.out.cell 3, HB_R19n.out.cell 4, HB_R19n.out.cell 5, HB_R19n.out.cell 6, HB_R19n.out.cell 7, HB_R19n.out.cell 8, HB_R19n.out.cell 9, HP_R19n.out.2 0 _ rfl, HP_R19n.out.2 1 _ rfl, HP_R19n.out.2 2 _ rfl⟩)
          clear hbd
          refine region_let (fun W9 : World => W9.cell? ⟨w.heap.size, 0, none⟩ = some (.int .i64 ba) ∧ W9.cell? ⟨w.heap.size, 1, none⟩ = some (.int .i64 la) ∧ W9.cell? ⟨w.heap.size, 2, none⟩ = some (.int .i64 fr) ∧ W9.cell? ⟨w.heap.size, 3, none⟩ = some (.int .i64 ep) ∧ W9.cell? ⟨w.heap.size, 4, none⟩ = some (.int .i64 pi) ∧ W9.cell? ⟨w.heap.size, 5, none⟩ = some (.int .i64 ge) ∧ W9.cell? ⟨w.heap.size, 6, none⟩ = some (.int .i64 se) ∧ W9.cell? ⟨w.heap.size, 7, none⟩ = some (.bool tx) ∧ W9.cell? ⟨w.heap.size, 8, none⟩ = some (.int .i64 0) ∧ W9.cell? ⟨w.heap.size, 9, none⟩ = some (.slice AR nR cR) ∧ W9.cell? ⟨p, q + j * 3, none⟩ = some (.int .i64 se) ∧ W9.cell? ⟨p, q + j * 3 + 1, none⟩ = some (.int .i64 y1) ∧ W9.cell? ⟨p, q + j * 3 + 2, none⟩ = some (.int .i64 y2)) 99 18 hmx rfl fun ops Q HOPS HQ => ?_
          have HREG := reg_of HOPS tb_Look19 rfl (by kernel_rfl) (by kernel_rfl) (by decide)
          refine xq 0 HOPS HREG HSR19n.out ?_; simp only [ls0, ls1]; refine xq 1 HOPS HREG HSR19n.out ?_; simp only [ls0, ls1]; refine xq 2 HOPS HREG HSR19n.out ?_; simp only [ls0, ls1]; refine xq 3 HOPS HREG HSR19n.out ?_; simp only [ls0, ls1]; refine xq 4 HOPS HREG HSR19n.out ?_; simp only [ls0, ls1]; refine xq 5 HOPS HREG HSR19n.out ?_; simp only [ls0, ls1]; refine xq 6 HOPS HREG HSR19n.out ?_; simp only [ls0, ls1]; refine xq 7 HOPS HREG HSR19n.out ?_; simp only [ls0, ls1]; refine xq 8 HOPS HREG HSR19n.out ?_; simp only [ls0, ls1]; refine xq 9 HOPS HREG HSR19n.out ?_; simp only [ls0, ls1]; refine xq 10 HOPS HREG HSR19n.out ?_; simp only [ls0, ls1]; refine xq 11 HOPS HREG HSR19n.out ?_; simp only [ls0, ls1]; refine xq 12 HOPS HREG HSR19n.out ?_; simp only [ls0, ls1]; refine xq 13 HOPS HREG HSR19n.out ?_; simp only [ls0, ls1]; refine xq 14 HOPS HREG HSR19n.out ?_; simp only [ls0, ls1]
          refine xc 15 HOPS ?_
          go_simp
          with_reducible refine (rlast_is ba la fr ep pi ge se tx 0 AR nR cR _ hw8 hw9).mono ?_
          rintro e w5 ⟨rfl, hb⟩
          have HB_5 := Lib.hid (HB_R19n.out.below hb)
          have HP_5 := Lib.hid (HP_R19n.out.below hb)
          have HBR_5 := Lib.hid (bel_trans HBR_R19n.out hb)
          have HB4R_5 := Lib.hid (bel_trans HB4R_R19n.out hb)
          have HSR19nw5 := Lib.hid (show (fun W9 : World => W9.cell? ⟨w.heap.size, 0, none⟩ = some (.int .i64 ba) ∧ W9.cell? ⟨w.heap.size, 1, none⟩ = some (.int .i64 la) ∧ W9.cell? ⟨w.heap.size, 2, none⟩ = some (.int .i64 fr) ∧ W9.cell? ⟨w.heap.size, 3, none⟩ = some (.int .i64 ep) ∧ W9.cell? ⟨w.heap.size, 4, none⟩ = some (.int .i64 pi) ∧ W9.cell? ⟨w.heap.size, 5, none⟩ = some (.int .i64 ge) ∧ W9.cell? ⟨w.heap.size, 6, none⟩ = some (.int .i64 se) ∧ W9.cell? ⟨w.heap.size, 7, none⟩ = some (.bool tx) ∧ W9.cell? ⟨w.heap.size, 8, none⟩ = some (.int .i64 0) ∧ W9.cell? ⟨w.heap.size, 9, none⟩ = some (.slice AR nR cR) ∧ W9.cell? ⟨p, q + j * 3, none⟩ = some (.int .i64 se) ∧ W9.cell? ⟨p, q + j * 3 + 1, none⟩ = some (.int .i64 y1) ∧ W9.cell? ⟨p, q + j * 3 + 2, none⟩ = some (.int .i64 y2)) w5 from ⟨HB_5.out.cell 0, HB_5.out.cell 1, HB_5.out.cell 2, HB_5.out.cell 3, HB_5.out.cell 4, HB_5.out.cell 5, HB_5.out.cell 6, HB_5.out.cell 7, HB_5.out.cell 8, HB_5.out.cell 9, HP_5.out.2 0 _ rfl, HP_5.out.2 1 _ rfl, HP_5.out.2 2 _ rfl⟩)
          clear hb
          refine ⟨HSR19nw5.out, ?_⟩
          refine xq 16 HOPS HREG HSR19nw5.out ?_; simp only [ls0, ls1]; refine xq 17 HOPS HREG HSR19nw5.out ?_; simp only [ls0, ls1]
          refine stepE HOPS (by kernel_rfl) (HQ.out _ _ ?_)
          clear HQ HREG HOPS
          clear Q ops
          go_wp2
          go_roundw
          case rel => exact ⟨j + 1, by go_num, by omega, HN.out, HB4R_5.out⟩
          case measure => simp [intOf]; omega
      · have hq2 : (y0 == se) = false := beq_eq_false_iff_ne.2 hsq
        have HN := Lib.hid (HNX.out (decide_eq_false (fun h => hsq h.1)))
        clear hsq
        go_upto_region 19 with fail
        go_big_region
        go_wp2
        go_roundw
        case rel => exact ⟨j + 1, by go_num, by omega, HN.out, HB4J.out.drew⟩
        case measure => simp [intOf]; omega
    · have hjn : ¬ (j : Int) < (n'' : Int) := by omega
      obtain rfl : j = n'' := by omega
      have hfn : x.did.find? (hitD se ls) = none := by
        rw [List.find?_eq_none]
        intro d hd
        obtain ⟨i, hi⟩ := List.mem_iff_getElem?.1 hd
        rw [HNO.out i d (by have := (List.getElem?_eq_some_iff.1 hi).1; have := HDL.out; omega) hi]
        exact Bool.false_ne_true
      have hp0 : 0 < j := by rw [← HDL.out]; exact List.length_pos_iff.2 HNE.out
      obtain ⟨⟨y0, y1, y2⟩, hy⟩ : ∃ y, x.did[j - 1]? = some y := ⟨x.did[j - 1]'(by have := HDL.out; omega), List.getElem?_eq_getElem _⟩
      have hgl : x.did.getLast? = some ⟨y0, y1, y2⟩ := by rw [List.getLast?_eq_getElem?, HDL.out]; exact hy
      have hyr := did_high HC1.out HX.out (List.mem_of_getElem? hy)
      simp only at hyr
      obtain ⟨p, q, rfl, _⟩ := did_form HDJ.out hy
      obtain ⟨hpl, _, f1, _⟩ := didK HDJ.out hy
      simp only at f1
      have q6 := HATJ.out.cell 6
      simp only [List.getElem?_cons_zero, List.getElem?_cons_succ] at q6
      have hw2 : IntKind.i64.wrap ((j : Int) - 1) = (j : Int) - 1 := IntWalk.i64_in _ (by omega)
      have hw3 : IntKind.i64.wrap (y1 + 1) = y1 + 1 := IntWalk.i64_in _ (by omega)
      have hp1 : (0 : Int) ≤ (j : Int) - 1 := by omega
      have hp2 : (1 : Int) ≤ (j : Int) := by omega
      have hp3 : (j : Int) - 1 < (j : Int) := by omega
      have hp5 : ((j : Int) - 1).toNat = j - 1 := by omega
      have hp6 : (0 : Int) < (j : Int) := by omega
      clear hy
      by_cases hs : se = y1 + 1
      · have hq5 : (se == y1 + 1) = true := beq_iff_eq.2 hs
        have hX := HSQ.out
        rw [hfn, hgl] at hX
        simp only at hX
        rw [if_pos hs] at hX
        injection hX with a1 a2
        injection a2 with a2 a3
        subst a1; subst a2; subst a3
        clear hs hfn hgl
        go_upto_region 21 with fail
        go_big_region
        go_wp2
        go_ret3
        exact ⟨rfl, bel_drew HBJ.out⟩
      · have hq5 : (se == y1 + 1) = false := beq_eq_false_iff_ne.2 hs
        have hX := HSQ.out
        rw [hfn, hgl] at hX
        simp only at hX
        rw [if_neg hs] at hX
        injection hX with a1 a2
        injection a2 with a2 a3
        subst a1; subst a2; subst a3
        clear hs hfn hgl
        go_upto_region 21 with fail
        go_big_region
        go_wp2
        go_ret3
        exact ⟨rfl, bel_drew HBJ.out⟩
end Go.Proofs.YtllebgadhhgckaaDoor.Sqs
