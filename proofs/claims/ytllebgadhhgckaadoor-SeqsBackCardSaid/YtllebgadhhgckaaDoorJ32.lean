/- Joined: SqsR5. -/
import Derived.Test.YtllebgadhhgckaaDoorJ14
import Derived.Test.YtllebgadhhgckaaDoorJ18
import Derived.Test.YtllebgadhhgckaaDoorJ31
/- The document's Look. -/
namespace Go.Proofs.YtllebgadhhgckaaDoor.Sqs
open Go.RowKit Oct Rec RowF RowK Lay Bat InR
open Epo (At0 AtO belA)

theorem cel10 {W : World} {g : Nat} {e : TypeId} {v0 v1 v2 v3 v4 v5 v6 v7 v8 v9 : Value} (h : At0 W g [v0, v1, v2, v3, v4, v5, v6, v7, v8, v9] e) : W.cell? ⟨g, 0, none⟩ = some v0 ∧ W.cell? ⟨g, 1, none⟩ = some v1 ∧ W.cell? ⟨g, 2, none⟩ = some v2 ∧ W.cell? ⟨g, 3, none⟩ = some v3 ∧ W.cell? ⟨g, 4, none⟩ = some v4 ∧ W.cell? ⟨g, 5, none⟩ = some v5 ∧ W.cell? ⟨g, 6, none⟩ = some v6 ∧ W.cell? ⟨g, 7, none⟩ = some v7 ∧ W.cell? ⟨g, 8, none⟩ = some v8 ∧ W.cell? ⟨g, 9, none⟩ = some v9 := ⟨h.cell 0, h.cell 1, h.cell 2, h.cell 3, h.cell 4, h.cell 5, h.cell 6, h.cell 7, h.cell 8, h.cell 9⟩
theorem rdrUp9 {w w' : World} {A : Option Addr} {n : Nat} {l : List Rc} (h : RdR w w.heap.size A n l) (hb : Below w.heap.size w w') : RdR w' w'.heap.size A n l := (h.below hb (Nat.le_refl _)).more hb.size
set_option maxRecDepth 100000 in
set_option maxHeartbeats 8000000 in
theorem look_1 (A : Option Addr) (n c : Nat) (l : List Pd) (ba la fr ep pi ge se : Int) (tx : Bool) (ct : Int) (rs : List Rc) (AR : Option Addr) (nR cR : Nat) (w : World) (hr : RdP w w.heap.size A n l) (hn : n ≤ reach) (hf : Fits ⟨ba, la, fr, ep, pi, ge, se, tx, ct, rs⟩) (hrr : RdR w w.heap.size AR nR rs) (_hnR : nR ≤ 1099511627776) {C1 : Int} (hC1 : ckP l = C1) (h1 : ¬ C1 = 0) :
    Calls Tryd.prog 15 #[.slice A n c, .agg #[.int .i64 ba, .int .i64 la, .int .i64 fr, .int .i64 ep, .int .i64 pi, .int .i64 ge, .int .i64 se, .bool tx, .int .i64 ct, .slice AR nR cR]] w fun e w' => e = .returned (.tuple #[.int .i64 0, .bool false, .int .i64 C1]) ∧ Below w.heap.size w w' := by
  have hba := belA w (.cells #[.int .i64 ba, .int .i64 la, .int .i64 fr, .int .i64 ep, .int .i64 pi, .int .i64 ge, .int .i64 se, .bool tx, .int .i64 ct, .slice AR nR cR] 25)
  have HB1 := Lib.hid hba
  have HR1 := Lib.hid (rdkUp hr hba)
  have HRR1 := Lib.hid (rdrUp9 hrr hba)
  have HAT1 := Lib.hid (At0.new w [.int .i64 ba, .int .i64 la, .int .i64 fr, .int .i64 ep, .int .i64 pi, .int .i64 ge, .int .i64 se, .bool tx, .int .i64 ct, .slice AR nR cR] 25)
  have HF := Lib.hid hf
  have hn9 : n ≤ 140737488351232 := hn
  clear hba hrr hf
  have HC1 := Lib.hid hC1
  have g1 : (C1 == 0) = false := beq_eq_false_iff_ne.2 h1
  clear hC1 h1 hr
  go_enter Tryd.func15, Tryd.ntmps15
  go_wp2_with (first
    | (go_at_call 17; (with_reducible refine (rCheckP_is A n c l _ HR1.out hn HC1.out).mono ?_); rintro e w2 ⟨rfl, hb⟩; have HB2 := Lib.hid (Epo.bel_trans HB1.out hb); have HR2 := Lib.hid (rdkUp HR1.out hb); have HRR2 := Lib.hid (rdrUp9 HRR1.out hb); have HAT2 := Lib.hid (HAT1.out.below hb); clear hb; obtain ⟨q0, q1, q2, q3, q4, q5, q6, q7, q8, q9⟩ := cel10 HAT2.out))
  go_ret3
  exact ⟨rfl, HB2.out⟩
set_option maxRecDepth 100000 in
set_option maxHeartbeats 8000000 in
theorem look_2 (A : Option Addr) (n c : Nat) (l : List Pd) (ba la fr ep pi ge se : Int) (tx : Bool) (ct : Int) (rs : List Rc) (AR : Option Addr) (nR cR : Nat) (w : World) (hr : RdP w w.heap.size A n l) (hn : n ≤ reach) (hf : Fits ⟨ba, la, fr, ep, pi, ge, se, tx, ct, rs⟩) (hrr : RdR w w.heap.size AR nR rs) (hnR : nR ≤ 1099511627776) (hC1 : ckP l = 0) {C2 : Int} (hC2 : chB ⟨ba, la, fr, ep, pi, ge, se, tx, ct, rs⟩ = C2) (h1 : ¬ C2 = 0) :
    Calls Tryd.prog 15 #[.slice A n c, .agg #[.int .i64 ba, .int .i64 la, .int .i64 fr, .int .i64 ep, .int .i64 pi, .int .i64 ge, .int .i64 se, .bool tx, .int .i64 ct, .slice AR nR cR]] w fun e w' => e = .returned (.tuple #[.int .i64 0, .bool false, .int .i64 C2]) ∧ Below w.heap.size w w' := by
  have hba := belA w (.cells #[.int .i64 ba, .int .i64 la, .int .i64 fr, .int .i64 ep, .int .i64 pi, .int .i64 ge, .int .i64 se, .bool tx, .int .i64 ct, .slice AR nR cR] 25)
  have HB1 := Lib.hid hba
  have HR1 := Lib.hid (rdkUp hr hba)
  have HRR1 := Lib.hid (rdrUp9 hrr hba)
  have HAT1 := Lib.hid (At0.new w [.int .i64 ba, .int .i64 la, .int .i64 fr, .int .i64 ep, .int .i64 pi, .int .i64 ge, .int .i64 se, .bool tx, .int .i64 ct, .slice AR nR cR] 25)
  have HF := Lib.hid hf
  have hn9 : n ≤ 140737488351232 := hn
  clear hba hrr hf
  have HC1 := Lib.hid hC1
  have HC2 := Lib.hid hC2
  have g1 : (C2 == 0) = false := beq_eq_false_iff_ne.2 h1
  clear hC1 hC2 h1 hr
  go_enter Tryd.func15, Tryd.ntmps15
  go_wp2_with (first
    | (go_at_call 17; (with_reducible refine (rCheckP_is A n c l _ HR1.out hn HC1.out).mono ?_); rintro e w2 ⟨rfl, hb⟩; have HB2 := Lib.hid (Epo.bel_trans HB1.out hb); have HR2 := Lib.hid (rdkUp HR1.out hb); have HRR2 := Lib.hid (rdrUp9 HRR1.out hb); have HAT2 := Lib.hid (HAT1.out.below hb); clear hb; obtain ⟨q0, q1, q2, q3, q4, q5, q6, q7, q8, q9⟩ := cel10 HAT2.out)
    | (go_at_call 36; (with_reducible refine (refCheckB_is ba la fr ep pi ge se tx ct rs AR nR cR _ HF.out HRR2.out hnR HC2.out).mono ?_); rintro e w3 ⟨rfl, hb⟩; clear q0 q1 q2 q3 q4 q5 q6 q7 q8 q9; have HB3 := Lib.hid (Epo.bel_trans HB2.out hb); have HR3 := Lib.hid (rdkUp HR2.out hb); have HRR3 := Lib.hid (rdrUp9 HRR2.out hb); have HAT3 := Lib.hid (HAT2.out.below hb); clear hb; obtain ⟨q0, q1, q2, q3, q4, q5, q6, q7, q8, q9⟩ := cel10 HAT3.out))
  go_ret3
  exact ⟨rfl, HB3.out⟩
set_option maxRecDepth 100000 in
set_option maxHeartbeats 8000000 in
theorem look_3 (A : Option Addr) (n c : Nat) (l : List Pd) (ba la fr ep ge se : Int) (tx : Bool) (ct : Int) (rs : List Rc) (AR : Option Addr) (nR cR : Nat) (w : World) (hr : RdP w w.heap.size A n l) (hn : n ≤ reach) (hf : Fits ⟨ba, la, fr, ep, (-1), ge, se, tx, ct, rs⟩) (hrr : RdR w w.heap.size AR nR rs) (hnR : nR ≤ 1099511627776) (hC1 : ckP l = 0) (hC2 : chB ⟨ba, la, fr, ep, (-1), ge, se, tx, ct, rs⟩ = 0) :
    Calls Tryd.prog 15 #[.slice A n c, .agg #[.int .i64 ba, .int .i64 la, .int .i64 fr, .int .i64 ep, .int .i64 (-1), .int .i64 ge, .int .i64 se, .bool tx, .int .i64 ct, .slice AR nR cR]] w fun e w' => e = .returned (.tuple #[.int .i64 0, .bool false, .int .i64 0]) ∧ Below w.heap.size w w' := by
  have hba := belA w (.cells #[.int .i64 ba, .int .i64 la, .int .i64 fr, .int .i64 ep, .int .i64 (-1), .int .i64 ge, .int .i64 se, .bool tx, .int .i64 ct, .slice AR nR cR] 25)
  have HB1 := Lib.hid hba
  have HR1 := Lib.hid (rdkUp hr hba)
  have HRR1 := Lib.hid (rdrUp9 hrr hba)
  have HAT1 := Lib.hid (At0.new w [.int .i64 ba, .int .i64 la, .int .i64 fr, .int .i64 ep, .int .i64 (-1), .int .i64 ge, .int .i64 se, .bool tx, .int .i64 ct, .slice AR nR cR] 25)
  have HF := Lib.hid hf
  have hn9 : n ≤ 140737488351232 := hn
  clear hba hrr hf
  have HC1 := Lib.hid hC1
  have HC2 := Lib.hid hC2
  clear hC1 hC2 hr
  go_enter Tryd.func15, Tryd.ntmps15
  go_wp2_with (first
    | (go_at_call 17; (with_reducible refine (rCheckP_is A n c l _ HR1.out hn HC1.out).mono ?_); rintro e w2 ⟨rfl, hb⟩; have HB2 := Lib.hid (Epo.bel_trans HB1.out hb); have HR2 := Lib.hid (rdkUp HR1.out hb); have HRR2 := Lib.hid (rdrUp9 HRR1.out hb); have HAT2 := Lib.hid (HAT1.out.below hb); clear hb; obtain ⟨q0, q1, q2, q3, q4, q5, q6, q7, q8, q9⟩ := cel10 HAT2.out)
    | (go_at_call 36; (with_reducible refine (refCheckB_is ba la fr ep (-1) ge se tx ct rs AR nR cR _ HF.out HRR2.out hnR HC2.out).mono ?_); rintro e w3 ⟨rfl, hb⟩; clear q0 q1 q2 q3 q4 q5 q6 q7 q8 q9; have HB3 := Lib.hid (Epo.bel_trans HB2.out hb); have HR3 := Lib.hid (rdkUp HR2.out hb); have HRR3 := Lib.hid (rdrUp9 HRR2.out hb); have HAT3 := Lib.hid (HAT2.out.below hb); clear hb; obtain ⟨q0, q1, q2, q3, q4, q5, q6, q7, q8, q9⟩ := cel10 HAT3.out))
  go_ret3
  exact ⟨rfl, HB3.out⟩
set_option maxRecDepth 100000 in
set_option maxHeartbeats 8000000 in
theorem look_4 (A : Option Addr) (n c : Nat) (l : List Pd) (ba la fr ep pi ge se : Int) (tx : Bool) (ct : Int) (rs : List Rc) (AR : Option Addr) (nR cR : Nat) (w : World) (hr : RdP w w.heap.size A n l) (hn : n ≤ reach) (hf : Fits ⟨ba, la, fr, ep, pi, ge, se, tx, ct, rs⟩) (hrr : RdR w w.heap.size AR nR rs) (hnR : nR ≤ 1099511627776) (hC1 : ckP l = 0) (hC2 : chB ⟨ba, la, fr, ep, pi, ge, se, tx, ct, rs⟩ = 0) (hp : ¬ pi = -1) (hP : plP l pi = none) (hc : ¬ ct = 0) :
    Calls Tryd.prog 15 #[.slice A n c, .agg #[.int .i64 ba, .int .i64 la, .int .i64 fr, .int .i64 ep, .int .i64 pi, .int .i64 ge, .int .i64 se, .bool tx, .int .i64 ct, .slice AR nR cR]] w fun e w' => e = .returned (.tuple #[.int .i64 0, .bool false, .int .i64 0]) ∧ Below w.heap.size w w' := by
  have hba := belA w (.cells #[.int .i64 ba, .int .i64 la, .int .i64 fr, .int .i64 ep, .int .i64 pi, .int .i64 ge, .int .i64 se, .bool tx, .int .i64 ct, .slice AR nR cR] 25)
  have HB1 := Lib.hid hba
  have HR1 := Lib.hid (rdkUp hr hba)
  have HRR1 := Lib.hid (rdrUp9 hrr hba)
  have HAT1 := Lib.hid (At0.new w [.int .i64 ba, .int .i64 la, .int .i64 fr, .int .i64 ep, .int .i64 pi, .int .i64 ge, .int .i64 se, .bool tx, .int .i64 ct, .slice AR nR cR] 25)
  have HF := Lib.hid hf
  have hn9 : n ≤ 140737488351232 := hn
  clear hba hrr hf
  have HC1 := Lib.hid hC1
  have HC2 := Lib.hid hC2
  have hq : (pi == -1) = false := beq_eq_false_iff_ne.2 hp
  have HP := Lib.hid hP
  have g2 : (ct != 0) = true := bne_iff_ne.2 hc
  clear hC1 hC2 hP hr
  go_enter Tryd.func15, Tryd.ntmps15
  go_upto_region 7 with (first
    | (go_at_call 17; (with_reducible refine (rCheckP_is A n c l _ HR1.out hn HC1.out).mono ?_); rintro e w2 ⟨rfl, hb⟩; have HB2 := Lib.hid (Epo.bel_trans HB1.out hb); have HR2 := Lib.hid (rdkUp HR1.out hb); have HRR2 := Lib.hid (rdrUp9 HRR1.out hb); have HAT2 := Lib.hid (HAT1.out.below hb); clear hb; obtain ⟨q0, q1, q2, q3, q4, q5, q6, q7, q8, q9⟩ := cel10 HAT2.out)
    | (go_at_call 36; (with_reducible refine (refCheckB_is ba la fr ep pi ge se tx ct rs AR nR cR _ HF.out HRR2.out hnR HC2.out).mono ?_); rintro e w3 ⟨rfl, hb⟩; clear q0 q1 q2 q3 q4 q5 q6 q7 q8 q9; have HB3 := Lib.hid (Epo.bel_trans HB2.out hb); have HR3 := Lib.hid (rdkUp HR2.out hb); have HRR3 := Lib.hid (rdrUp9 HRR2.out hb); have HAT3 := Lib.hid (HAT2.out.below hb); clear hb; obtain ⟨q0, q1, q2, q3, q4, q5, q6, q7, q8, q9⟩ := cel10 HAT3.out)
    | (go_at_call 37; (with_reducible refine (rFind_is A n c l pi _ HR3.out hn HP.out).mono ?_); rintro e w9 ⟨rfl, rfl⟩; dsimp only [plV]))
  go_big_region
  go_wp2
  go_ret3
  exact ⟨rfl, bel_drew HB3.out⟩
set_option maxRecDepth 100000 in
set_option maxHeartbeats 8000000 in
theorem look_5 (A : Option Addr) (n c : Nat) (l : List Pd) (ba la fr ep pi ge se : Int) (tx : Bool) (ct : Int) (rs : List Rc) (AR : Option Addr) (nR cR : Nat) (w : World) (hr : RdP w w.heap.size A n l) (hn : n ≤ reach) (hf : Fits ⟨ba, la, fr, ep, pi, ge, se, tx, ct, rs⟩) (hrr : RdR w w.heap.size AR nR rs) (hnR : nR ≤ 1099511627776) (hC1 : ckP l = 0) (hC2 : chB ⟨ba, la, fr, ep, pi, ge, se, tx, ct, rs⟩ = 0) (hp : ¬ pi = -1) {k : Nat} {x : Pd} (hP : plP l pi = some k) (hx : l[k]? = some x) (hg : ge < x.gen) :
    Calls Tryd.prog 15 #[.slice A n c, .agg #[.int .i64 ba, .int .i64 la, .int .i64 fr, .int .i64 ep, .int .i64 pi, .int .i64 ge, .int .i64 se, .bool tx, .int .i64 ct, .slice AR nR cR]] w fun e w' => e = .returned (.tuple #[.int .i64 0, .bool false, .int .i64 110]) ∧ Below w.heap.size w w' := by
  have hba := belA w (.cells #[.int .i64 ba, .int .i64 la, .int .i64 fr, .int .i64 ep, .int .i64 pi, .int .i64 ge, .int .i64 se, .bool tx, .int .i64 ct, .slice AR nR cR] 25)
  have HB1 := Lib.hid hba
  have HR1 := Lib.hid (rdkUp hr hba)
  have HRR1 := Lib.hid (rdrUp9 hrr hba)
  have HAT1 := Lib.hid (At0.new w [.int .i64 ba, .int .i64 la, .int .i64 fr, .int .i64 ep, .int .i64 pi, .int .i64 ge, .int .i64 se, .bool tx, .int .i64 ct, .slice AR nR cR] 25)
  have HF := Lib.hid hf
  have hn9 : n ≤ 140737488351232 := hn
  clear hba hrr hf
  have HC1 := Lib.hid hC1
  have HC2 := Lib.hid hC2
  have hq : (pi == -1) = false := beq_eq_false_iff_ne.2 hp
  have HP := Lib.hid hP
  obtain ⟨b, o, rfl, hbl, hk⟩ := pr_form hr hx
  have HX := Lib.hid hx
  have hkl : (k : Int) < (n : Int) := by omega
  have hk0 : (0 : Int) ≤ (k : Int) := by omega
  have hk1 : ¬ (k : Int) < 0 := by omega
  clear hC1 hC2 hP hr hx
  go_enter Tryd.func15, Tryd.ntmps15
  go_upto_region 7 with (first
    | (go_at_call 17; (with_reducible refine (rCheckP_is (some ⟨b, o, none⟩) n c l _ HR1.out hn HC1.out).mono ?_); rintro e w2 ⟨rfl, hb⟩; have HB2 := Lib.hid (Epo.bel_trans HB1.out hb); have HR2 := Lib.hid (rdkUp HR1.out hb); have HRR2 := Lib.hid (rdrUp9 HRR1.out hb); have HAT2 := Lib.hid (HAT1.out.below hb); clear hb; obtain ⟨q0, q1, q2, q3, q4, q5, q6, q7, q8, q9⟩ := cel10 HAT2.out)
    | (go_at_call 36; (with_reducible refine (refCheckB_is ba la fr ep pi ge se tx ct rs AR nR cR _ HF.out HRR2.out hnR HC2.out).mono ?_); rintro e w3 ⟨rfl, hb⟩; clear q0 q1 q2 q3 q4 q5 q6 q7 q8 q9; have HB3 := Lib.hid (Epo.bel_trans HB2.out hb); have HR3 := Lib.hid (rdkUp HR2.out hb); have HRR3 := Lib.hid (rdrUp9 HRR2.out hb); have HAT3 := Lib.hid (HAT2.out.below hb); clear hb; obtain ⟨q0, q1, q2, q3, q4, q5, q6, q7, q8, q9⟩ := cel10 HAT3.out)
    | (go_at_call 37; (with_reducible refine (rFind_is (some ⟨b, o, none⟩) n c l pi _ HR3.out hn HP.out).mono ?_); rintro e w9 ⟨rfl, rfl⟩; dsimp only [plV]))
  obtain ⟨A', n', c', hc', hn', hrd, d0, d1, d2⟩ := prK3 HR3.out HX.out
  go_big_region
  go_wp2
  go_ret3
  exact ⟨rfl, bel_drew HB3.out⟩
set_option maxRecDepth 100000 in
set_option maxHeartbeats 8000000 in
theorem look_6 (A : Option Addr) (n c : Nat) (l : List Pd) (ba la fr ep pi ge se : Int) (tx : Bool) (ct : Int) (rs : List Rc) (AR : Option Addr) (nR cR : Nat) (w : World) (hr : RdP w w.heap.size A n l) (hn : n ≤ reach) (hf : Fits ⟨ba, la, fr, ep, pi, ge, se, tx, ct, rs⟩) (hrr : RdR w w.heap.size AR nR rs) (hnR : nR ≤ 1099511627776) (hC1 : ckP l = 0) (hC2 : chB ⟨ba, la, fr, ep, pi, ge, se, tx, ct, rs⟩ = 0) (hp : ¬ pi = -1) {k : Nat} {x : Pd} (hP : plP l pi = some k) (hx : l[k]? = some x) (hg : ¬ ge < x.gen) (hc : ¬ ct = 0) :
    Calls Tryd.prog 15 #[.slice A n c, .agg #[.int .i64 ba, .int .i64 la, .int .i64 fr, .int .i64 ep, .int .i64 pi, .int .i64 ge, .int .i64 se, .bool tx, .int .i64 ct, .slice AR nR cR]] w fun e w' => e = .returned (.tuple #[.int .i64 0, .bool false, .int .i64 0]) ∧ Below w.heap.size w w' := by
  have hba := belA w (.cells #[.int .i64 ba, .int .i64 la, .int .i64 fr, .int .i64 ep, .int .i64 pi, .int .i64 ge, .int .i64 se, .bool tx, .int .i64 ct, .slice AR nR cR] 25)
  have HB1 := Lib.hid hba
  have HR1 := Lib.hid (rdkUp hr hba)
  have HRR1 := Lib.hid (rdrUp9 hrr hba)
  have HAT1 := Lib.hid (At0.new w [.int .i64 ba, .int .i64 la, .int .i64 fr, .int .i64 ep, .int .i64 pi, .int .i64 ge, .int .i64 se, .bool tx, .int .i64 ct, .slice AR nR cR] 25)
  have HF := Lib.hid hf
  have hn9 : n ≤ 140737488351232 := hn
  clear hba hrr hf
  have HC1 := Lib.hid hC1
  have HC2 := Lib.hid hC2
  have hq : (pi == -1) = false := beq_eq_false_iff_ne.2 hp
  have HP := Lib.hid hP
  obtain ⟨b, o, rfl, hbl, hk⟩ := pr_form hr hx
  have HX := Lib.hid hx
  have hkl : (k : Int) < (n : Int) := by omega
  have hk0 : (0 : Int) ≤ (k : Int) := by omega
  have hk1 : ¬ (k : Int) < 0 := by omega
  have g2 : (ct != 0) = true := bne_iff_ne.2 hc
  clear hC1 hC2 hP hr hx
  go_enter Tryd.func15, Tryd.ntmps15
  go_upto_region 7 with (first
    | (go_at_call 17; (with_reducible refine (rCheckP_is (some ⟨b, o, none⟩) n c l _ HR1.out hn HC1.out).mono ?_); rintro e w2 ⟨rfl, hb⟩; have HB2 := Lib.hid (Epo.bel_trans HB1.out hb); have HR2 := Lib.hid (rdkUp HR1.out hb); have HRR2 := Lib.hid (rdrUp9 HRR1.out hb); have HAT2 := Lib.hid (HAT1.out.below hb); clear hb; obtain ⟨q0, q1, q2, q3, q4, q5, q6, q7, q8, q9⟩ := cel10 HAT2.out)
    | (go_at_call 36; (with_reducible refine (refCheckB_is ba la fr ep pi ge se tx ct rs AR nR cR _ HF.out HRR2.out hnR HC2.out).mono ?_); rintro e w3 ⟨rfl, hb⟩; clear q0 q1 q2 q3 q4 q5 q6 q7 q8 q9; have HB3 := Lib.hid (Epo.bel_trans HB2.out hb); have HR3 := Lib.hid (rdkUp HR2.out hb); have HRR3 := Lib.hid (rdrUp9 HRR2.out hb); have HAT3 := Lib.hid (HAT2.out.below hb); clear hb; obtain ⟨q0, q1, q2, q3, q4, q5, q6, q7, q8, q9⟩ := cel10 HAT3.out)
    | (go_at_call 37; (with_reducible refine (rFind_is (some ⟨b, o, none⟩) n c l pi _ HR3.out hn HP.out).mono ?_); rintro e w9 ⟨rfl, rfl⟩; dsimp only [plV]))
  obtain ⟨A', n', c', hc', hn', hrd, d0, d1, d2⟩ := prK3 HR3.out HX.out
  go_big_region
  go_wp2
  go_ret3
  exact ⟨rfl, bel_drew HB3.out⟩
set_option maxRecDepth 100000 in
set_option maxHeartbeats 8000000 in
theorem look_7z (A : Option Addr) (n c : Nat) (l : List Pd) (ba la fr ep pi ge : Int) (tx : Bool) (rs : List Rc) (AR : Option Addr) (nR cR : Nat) (w : World) (hr : RdP w w.heap.size A n l) (hn : n ≤ reach) (hf : Fits ⟨ba, la, fr, ep, pi, ge, 0, tx, 0, rs⟩) (hrr : RdR w w.heap.size AR nR rs) (hnR : nR ≤ 1099511627776) (hC1 : ckP l = 0) (hC2 : chB ⟨ba, la, fr, ep, pi, ge, 0, tx, 0, rs⟩ = 0) (hp : ¬ pi = -1) (hP : plP l pi = none) (hfr : freshP l ⟨ba, la, fr, ep, pi, ge, 0, tx, 0, rs⟩ = true) :
    Calls Tryd.prog 15 #[.slice A n c, .agg #[.int .i64 ba, .int .i64 la, .int .i64 fr, .int .i64 ep, .int .i64 pi, .int .i64 ge, .int .i64 0, .bool tx, .int .i64 0, .slice AR nR cR]] w fun e w' => e = .returned (.tuple #[.int .i64 0, .bool false, .int .i64 0]) ∧ Below w.heap.size w w' := by
  have hba := belA w (.cells #[.int .i64 ba, .int .i64 la, .int .i64 fr, .int .i64 ep, .int .i64 pi, .int .i64 ge, .int .i64 0, .bool tx, .int .i64 0, .slice AR nR cR] 25)
  have HB1 := Lib.hid hba
  have HR1 := Lib.hid (rdkUp hr hba)
  have HRR1 := Lib.hid (rdrUp9 hrr hba)
  have HAT1 := Lib.hid (At0.new w [.int .i64 ba, .int .i64 la, .int .i64 fr, .int .i64 ep, .int .i64 pi, .int .i64 ge, .int .i64 0, .bool tx, .int .i64 0, .slice AR nR cR] 25)
  have HF := Lib.hid hf
  have hn9 : n ≤ 140737488351232 := hn
  clear hba hrr hf
  have HC1 := Lib.hid hC1
  have HC2 := Lib.hid hC2
  have hq : (pi == -1) = false := beq_eq_false_iff_ne.2 hp
  have HP := Lib.hid hP
  have HFR := Lib.hid hfr
  clear hC1 hC2 hP hr hfr
  go_enter Tryd.func15, Tryd.ntmps15
  go_upto_region 7 with (first
    | (go_at_call 17; (with_reducible refine (rCheckP_is A n c l _ HR1.out hn HC1.out).mono ?_); rintro e w2 ⟨rfl, hb⟩; have HB2 := Lib.hid (Epo.bel_trans HB1.out hb); have HR2 := Lib.hid (rdkUp HR1.out hb); have HRR2 := Lib.hid (rdrUp9 HRR1.out hb); have HAT2 := Lib.hid (HAT1.out.below hb); clear hb; obtain ⟨q0, q1, q2, q3, q4, q5, q6, q7, q8, q9⟩ := cel10 HAT2.out)
    | (go_at_call 36; (with_reducible refine (refCheckB_is ba la fr ep pi ge 0 tx 0 rs AR nR cR _ HF.out HRR2.out hnR HC2.out).mono ?_); rintro e w3 ⟨rfl, hb⟩; clear q0 q1 q2 q3 q4 q5 q6 q7 q8 q9; have HB3 := Lib.hid (Epo.bel_trans HB2.out hb); have HR3 := Lib.hid (rdkUp HR2.out hb); have HRR3 := Lib.hid (rdrUp9 HRR2.out hb); have HAT3 := Lib.hid (HAT2.out.below hb); clear hb; obtain ⟨q0, q1, q2, q3, q4, q5, q6, q7, q8, q9⟩ := cel10 HAT3.out)
    | (go_at_call 37; (with_reducible refine (rFind_is A n c l pi _ HR3.out hn HP.out).mono ?_); rintro e w9 ⟨rfl, rfl⟩; dsimp only [plV]))
  go_big_region
  have hbd := bel_drew (Below.refl w3.heap.size w3)
  generalize w3.drew = wq at *
  have HB33 := Lib.hid (Epo.bel_trans HB3.out hbd); have HR33 := Lib.hid (rdkUp HR3.out hbd); have HRR33 := Lib.hid (rdrUp9 HRR3.out hbd); have HAT33 := Lib.hid (HAT3.out.below hbd)
  clear hbd q0 q1 q2 q3 q4 q5 q6 q7 q8 q9
  obtain ⟨q0, q1, q2, q3, q4, q5, q6, q7, q8, q9⟩ := cel10 HAT33.out
  go_wp2_with (first
    | (go_at_call 38; (with_reducible refine (rfresh_is A n c l ba la fr ep pi ge 0 tx 0 rs AR nR cR _ HR33.out hn HFR.out).mono ?_); rintro e w4 ⟨rfl, hb⟩; clear q0 q1 q2 q3 q4 q5 q6 q7 q8 q9; have HB4 := Lib.hid (Epo.bel_trans HB33.out hb); have HR4 := Lib.hid (rdkUp HR33.out hb); have HRR4 := Lib.hid (rdrUp9 HRR33.out hb); have HAT4 := Lib.hid (HAT33.out.below hb); clear hb; obtain ⟨q0, q1, q2, q3, q4, q5, q6, q7, q8, q9⟩ := cel10 HAT4.out))
  go_ret3
  exact ⟨rfl, HB4.out⟩
set_option maxRecDepth 100000 in
set_option maxHeartbeats 8000000 in
theorem look_8z (A : Option Addr) (n c : Nat) (l : List Pd) (ba la fr ep pi ge : Int) (tx : Bool) (rs : List Rc) (AR : Option Addr) (nR cR : Nat) (w : World) (hr : RdP w w.heap.size A n l) (hn : n ≤ reach) (hf : Fits ⟨ba, la, fr, ep, pi, ge, 0, tx, 0, rs⟩) (hrr : RdR w w.heap.size AR nR rs) (hnR : nR ≤ 1099511627776) (hC1 : ckP l = 0) (hC2 : chB ⟨ba, la, fr, ep, pi, ge, 0, tx, 0, rs⟩ = 0) (hp : ¬ pi = -1) {k : Nat} {x : Pd} (hP : plP l pi = some k) (hx : l[k]? = some x) (hg : ¬ ge < x.gen) (hfr : freshP l ⟨ba, la, fr, ep, pi, ge, 0, tx, 0, rs⟩ = true) :
    Calls Tryd.prog 15 #[.slice A n c, .agg #[.int .i64 ba, .int .i64 la, .int .i64 fr, .int .i64 ep, .int .i64 pi, .int .i64 ge, .int .i64 0, .bool tx, .int .i64 0, .slice AR nR cR]] w fun e w' => e = .returned (.tuple #[.int .i64 0, .bool false, .int .i64 0]) ∧ Below w.heap.size w w' := by
  have hba := belA w (.cells #[.int .i64 ba, .int .i64 la, .int .i64 fr, .int .i64 ep, .int .i64 pi, .int .i64 ge, .int .i64 0, .bool tx, .int .i64 0, .slice AR nR cR] 25)
  have HB1 := Lib.hid hba
  have HR1 := Lib.hid (rdkUp hr hba)
  have HRR1 := Lib.hid (rdrUp9 hrr hba)
  have HAT1 := Lib.hid (At0.new w [.int .i64 ba, .int .i64 la, .int .i64 fr, .int .i64 ep, .int .i64 pi, .int .i64 ge, .int .i64 0, .bool tx, .int .i64 0, .slice AR nR cR] 25)
  have HF := Lib.hid hf
  have hn9 : n ≤ 140737488351232 := hn
  clear hba hrr hf
  have HC1 := Lib.hid hC1
  have HC2 := Lib.hid hC2
  have hq : (pi == -1) = false := beq_eq_false_iff_ne.2 hp
  have HP := Lib.hid hP
  obtain ⟨b, o, rfl, hbl, hk⟩ := pr_form hr hx
  have HX := Lib.hid hx
  have hkl : (k : Int) < (n : Int) := by omega
  have hk0 : (0 : Int) ≤ (k : Int) := by omega
  have hk1 : ¬ (k : Int) < 0 := by omega
  have HFR := Lib.hid hfr
  clear hC1 hC2 hP hr hfr hx
  go_enter Tryd.func15, Tryd.ntmps15
  go_upto_region 7 with (first
    | (go_at_call 17; (with_reducible refine (rCheckP_is (some ⟨b, o, none⟩) n c l _ HR1.out hn HC1.out).mono ?_); rintro e w2 ⟨rfl, hb⟩; have HB2 := Lib.hid (Epo.bel_trans HB1.out hb); have HR2 := Lib.hid (rdkUp HR1.out hb); have HRR2 := Lib.hid (rdrUp9 HRR1.out hb); have HAT2 := Lib.hid (HAT1.out.below hb); clear hb; obtain ⟨q0, q1, q2, q3, q4, q5, q6, q7, q8, q9⟩ := cel10 HAT2.out)
    | (go_at_call 36; (with_reducible refine (refCheckB_is ba la fr ep pi ge 0 tx 0 rs AR nR cR _ HF.out HRR2.out hnR HC2.out).mono ?_); rintro e w3 ⟨rfl, hb⟩; clear q0 q1 q2 q3 q4 q5 q6 q7 q8 q9; have HB3 := Lib.hid (Epo.bel_trans HB2.out hb); have HR3 := Lib.hid (rdkUp HR2.out hb); have HRR3 := Lib.hid (rdrUp9 HRR2.out hb); have HAT3 := Lib.hid (HAT2.out.below hb); clear hb; obtain ⟨q0, q1, q2, q3, q4, q5, q6, q7, q8, q9⟩ := cel10 HAT3.out)
    | (go_at_call 37; (with_reducible refine (rFind_is (some ⟨b, o, none⟩) n c l pi _ HR3.out hn HP.out).mono ?_); rintro e w9 ⟨rfl, rfl⟩; dsimp only [plV]))
  obtain ⟨A', n', c', hc', hn', hrd, d0, d1, d2⟩ := prK3 HR3.out HX.out
  go_big_region
  have hbd := bel_drew (Below.refl w3.heap.size w3)
  clear d0 d1 d2
  generalize w3.drew = wq at *
  have HB33 := Lib.hid (Epo.bel_trans HB3.out hbd); have HR33 := Lib.hid (rdkUp HR3.out hbd); have HRR33 := Lib.hid (rdrUp9 HRR3.out hbd); have HAT33 := Lib.hid (HAT3.out.below hbd)
  clear hbd q0 q1 q2 q3 q4 q5 q6 q7 q8 q9
  obtain ⟨q0, q1, q2, q3, q4, q5, q6, q7, q8, q9⟩ := cel10 HAT33.out
  go_wp2_with (first
    | (go_at_call 38; (with_reducible refine (rfresh_is (some ⟨b, o, none⟩) n c l ba la fr ep pi ge 0 tx 0 rs AR nR cR _ HR33.out hn HFR.out).mono ?_); rintro e w4 ⟨rfl, hb⟩; clear q0 q1 q2 q3 q4 q5 q6 q7 q8 q9; have HB4 := Lib.hid (Epo.bel_trans HB33.out hb); have HR4 := Lib.hid (rdkUp HR33.out hb); have HRR4 := Lib.hid (rdrUp9 HRR33.out hb); have HAT4 := Lib.hid (HAT33.out.below hb); clear hb; obtain ⟨q0, q1, q2, q3, q4, q5, q6, q7, q8, q9⟩ := cel10 HAT4.out))
  go_ret3
  exact ⟨rfl, HB4.out⟩
set_option maxRecDepth 100000 in
set_option maxHeartbeats 8000000 in
theorem look_7n (A : Option Addr) (n c : Nat) (l : List Pd) (ba la fr ep pi ge se : Int) (tx : Bool) (rs : List Rc) (AR : Option Addr) (nR cR : Nat) (w : World) (hr : RdP w w.heap.size A n l) (hn : n ≤ reach) (hf : Fits ⟨ba, la, fr, ep, pi, ge, se, tx, 0, rs⟩) (hrr : RdR w w.heap.size AR nR rs) (hnR : nR ≤ 1099511627776) (hC1 : ckP l = 0) (hC2 : chB ⟨ba, la, fr, ep, pi, ge, se, tx, 0, rs⟩ = 0) (hp : ¬ pi = -1) (hP : plP l pi = none) (hfr : freshP l ⟨ba, la, fr, ep, pi, ge, se, tx, 0, rs⟩ = true) (hs : ¬ se = 0) :
    Calls Tryd.prog 15 #[.slice A n c, .agg #[.int .i64 ba, .int .i64 la, .int .i64 fr, .int .i64 ep, .int .i64 pi, .int .i64 ge, .int .i64 se, .bool tx, .int .i64 0, .slice AR nR cR]] w fun e w' => e = .returned (.tuple #[.int .i64 0, .bool false, .int .i64 111]) ∧ Below w.heap.size w w' := by
  have hba := belA w (.cells #[.int .i64 ba, .int .i64 la, .int .i64 fr, .int .i64 ep, .int .i64 pi, .int .i64 ge, .int .i64 se, .bool tx, .int .i64 0, .slice AR nR cR] 25)
  have HB1 := Lib.hid hba
  have HR1 := Lib.hid (rdkUp hr hba)
  have HRR1 := Lib.hid (rdrUp9 hrr hba)
  have HAT1 := Lib.hid (At0.new w [.int .i64 ba, .int .i64 la, .int .i64 fr, .int .i64 ep, .int .i64 pi, .int .i64 ge, .int .i64 se, .bool tx, .int .i64 0, .slice AR nR cR] 25)
  have HF := Lib.hid hf
  have hn9 : n ≤ 140737488351232 := hn
  clear hba hrr hf
  have HC1 := Lib.hid hC1
  have HC2 := Lib.hid hC2
  have hq : (pi == -1) = false := beq_eq_false_iff_ne.2 hp
  have HP := Lib.hid hP
  have HFR := Lib.hid hfr
  have g3 : (se != 0) = true := bne_iff_ne.2 hs
  clear hC1 hC2 hP hr hfr
  go_enter Tryd.func15, Tryd.ntmps15
  go_upto_region 7 with (first
    | (go_at_call 17; (with_reducible refine (rCheckP_is A n c l _ HR1.out hn HC1.out).mono ?_); rintro e w2 ⟨rfl, hb⟩; have HB2 := Lib.hid (Epo.bel_trans HB1.out hb); have HR2 := Lib.hid (rdkUp HR1.out hb); have HRR2 := Lib.hid (rdrUp9 HRR1.out hb); have HAT2 := Lib.hid (HAT1.out.below hb); clear hb; obtain ⟨q0, q1, q2, q3, q4, q5, q6, q7, q8, q9⟩ := cel10 HAT2.out)
    | (go_at_call 36; (with_reducible refine (refCheckB_is ba la fr ep pi ge se tx 0 rs AR nR cR _ HF.out HRR2.out hnR HC2.out).mono ?_); rintro e w3 ⟨rfl, hb⟩; clear q0 q1 q2 q3 q4 q5 q6 q7 q8 q9; have HB3 := Lib.hid (Epo.bel_trans HB2.out hb); have HR3 := Lib.hid (rdkUp HR2.out hb); have HRR3 := Lib.hid (rdrUp9 HRR2.out hb); have HAT3 := Lib.hid (HAT2.out.below hb); clear hb; obtain ⟨q0, q1, q2, q3, q4, q5, q6, q7, q8, q9⟩ := cel10 HAT3.out)
    | (go_at_call 37; (with_reducible refine (rFind_is A n c l pi _ HR3.out hn HP.out).mono ?_); rintro e w9 ⟨rfl, rfl⟩; dsimp only [plV]))
  go_big_region
  have hbd := bel_drew (Below.refl w3.heap.size w3)
  generalize w3.drew = wq at *
  have HB33 := Lib.hid (Epo.bel_trans HB3.out hbd); have HR33 := Lib.hid (rdkUp HR3.out hbd); have HRR33 := Lib.hid (rdrUp9 HRR3.out hbd); have HAT33 := Lib.hid (HAT3.out.below hbd)
  clear hbd q0 q1 q2 q3 q4 q5 q6 q7 q8 q9
  obtain ⟨q0, q1, q2, q3, q4, q5, q6, q7, q8, q9⟩ := cel10 HAT33.out
  go_wp2_with (first
    | (go_at_call 38; (with_reducible refine (rfresh_is A n c l ba la fr ep pi ge se tx 0 rs AR nR cR _ HR33.out hn HFR.out).mono ?_); rintro e w4 ⟨rfl, hb⟩; clear q0 q1 q2 q3 q4 q5 q6 q7 q8 q9; have HB4 := Lib.hid (Epo.bel_trans HB33.out hb); have HR4 := Lib.hid (rdkUp HR33.out hb); have HRR4 := Lib.hid (rdrUp9 HRR33.out hb); have HAT4 := Lib.hid (HAT33.out.below hb); clear hb; obtain ⟨q0, q1, q2, q3, q4, q5, q6, q7, q8, q9⟩ := cel10 HAT4.out))
  go_ret3
  exact ⟨rfl, HB4.out⟩
set_option maxRecDepth 100000 in
set_option maxHeartbeats 8000000 in
theorem look_8n (A : Option Addr) (n c : Nat) (l : List Pd) (ba la fr ep pi ge se : Int) (tx : Bool) (rs : List Rc) (AR : Option Addr) (nR cR : Nat) (w : World) (hr : RdP w w.heap.size A n l) (hn : n ≤ reach) (hf : Fits ⟨ba, la, fr, ep, pi, ge, se, tx, 0, rs⟩) (hrr : RdR w w.heap.size AR nR rs) (hnR : nR ≤ 1099511627776) (hC1 : ckP l = 0) (hC2 : chB ⟨ba, la, fr, ep, pi, ge, se, tx, 0, rs⟩ = 0) (hp : ¬ pi = -1) {k : Nat} {x : Pd} (hP : plP l pi = some k) (hx : l[k]? = some x) (hg : ¬ ge < x.gen) (hfr : freshP l ⟨ba, la, fr, ep, pi, ge, se, tx, 0, rs⟩ = true) (hs : ¬ se = 0) :
    Calls Tryd.prog 15 #[.slice A n c, .agg #[.int .i64 ba, .int .i64 la, .int .i64 fr, .int .i64 ep, .int .i64 pi, .int .i64 ge, .int .i64 se, .bool tx, .int .i64 0, .slice AR nR cR]] w fun e w' => e = .returned (.tuple #[.int .i64 0, .bool false, .int .i64 111]) ∧ Below w.heap.size w w' := by
  have hba := belA w (.cells #[.int .i64 ba, .int .i64 la, .int .i64 fr, .int .i64 ep, .int .i64 pi, .int .i64 ge, .int .i64 se, .bool tx, .int .i64 0, .slice AR nR cR] 25)
  have HB1 := Lib.hid hba
  have HR1 := Lib.hid (rdkUp hr hba)
  have HRR1 := Lib.hid (rdrUp9 hrr hba)
  have HAT1 := Lib.hid (At0.new w [.int .i64 ba, .int .i64 la, .int .i64 fr, .int .i64 ep, .int .i64 pi, .int .i64 ge, .int .i64 se, .bool tx, .int .i64 0, .slice AR nR cR] 25)
  have HF := Lib.hid hf
  have hn9 : n ≤ 140737488351232 := hn
  clear hba hrr hf
  have HC1 := Lib.hid hC1
  have HC2 := Lib.hid hC2
  have hq : (pi == -1) = false := beq_eq_false_iff_ne.2 hp
  have HP := Lib.hid hP
  obtain ⟨b, o, rfl, hbl, hk⟩ := pr_form hr hx
  have HX := Lib.hid hx
  have hkl : (k : Int) < (n : Int) := by omega
  have hk0 : (0 : Int) ≤ (k : Int) := by omega
  have hk1 : ¬ (k : Int) < 0 := by omega
  have HFR := Lib.hid hfr
  have g3 : (se != 0) = true := bne_iff_ne.2 hs
  clear hC1 hC2 hP hr hfr hx
  go_enter Tryd.func15, Tryd.ntmps15
  go_upto_region 7 with (first
    | (go_at_call 17; (with_reducible refine (rCheckP_is (some ⟨b, o, none⟩) n c l _ HR1.out hn HC1.out).mono ?_); rintro e w2 ⟨rfl, hb⟩; have HB2 := Lib.hid (Epo.bel_trans HB1.out hb); have HR2 := Lib.hid (rdkUp HR1.out hb); have HRR2 := Lib.hid (rdrUp9 HRR1.out hb); have HAT2 := Lib.hid (HAT1.out.below hb); clear hb; obtain ⟨q0, q1, q2, q3, q4, q5, q6, q7, q8, q9⟩ := cel10 HAT2.out)
    | (go_at_call 36; (with_reducible refine (refCheckB_is ba la fr ep pi ge se tx 0 rs AR nR cR _ HF.out HRR2.out hnR HC2.out).mono ?_); rintro e w3 ⟨rfl, hb⟩; clear q0 q1 q2 q3 q4 q5 q6 q7 q8 q9; have HB3 := Lib.hid (Epo.bel_trans HB2.out hb); have HR3 := Lib.hid (rdkUp HR2.out hb); have HRR3 := Lib.hid (rdrUp9 HRR2.out hb); have HAT3 := Lib.hid (HAT2.out.below hb); clear hb; obtain ⟨q0, q1, q2, q3, q4, q5, q6, q7, q8, q9⟩ := cel10 HAT3.out)
    | (go_at_call 37; (with_reducible refine (rFind_is (some ⟨b, o, none⟩) n c l pi _ HR3.out hn HP.out).mono ?_); rintro e w9 ⟨rfl, rfl⟩; dsimp only [plV]))
  obtain ⟨A', n', c', hc', hn', hrd, d0, d1, d2⟩ := prK3 HR3.out HX.out
  go_big_region
  have hbd := bel_drew (Below.refl w3.heap.size w3)
  clear d0 d1 d2
  generalize w3.drew = wq at *
  have HB33 := Lib.hid (Epo.bel_trans HB3.out hbd); have HR33 := Lib.hid (rdkUp HR3.out hbd); have HRR33 := Lib.hid (rdrUp9 HRR3.out hbd); have HAT33 := Lib.hid (HAT3.out.below hbd)
  clear hbd q0 q1 q2 q3 q4 q5 q6 q7 q8 q9
  obtain ⟨q0, q1, q2, q3, q4, q5, q6, q7, q8, q9⟩ := cel10 HAT33.out
  go_wp2_with (first
    | (go_at_call 38; (with_reducible refine (rfresh_is (some ⟨b, o, none⟩) n c l ba la fr ep pi ge se tx 0 rs AR nR cR _ HR33.out hn HFR.out).mono ?_); rintro e w4 ⟨rfl, hb⟩; clear q0 q1 q2 q3 q4 q5 q6 q7 q8 q9; have HB4 := Lib.hid (Epo.bel_trans HB33.out hb); have HR4 := Lib.hid (rdkUp HR33.out hb); have HRR4 := Lib.hid (rdrUp9 HRR33.out hb); have HAT4 := Lib.hid (HAT33.out.below hb); clear hb; obtain ⟨q0, q1, q2, q3, q4, q5, q6, q7, q8, q9⟩ := cel10 HAT4.out))
  go_ret3
  exact ⟨rfl, HB4.out⟩
end Go.Proofs.YtllebgadhhgckaaDoor.Sqs
