/- Joined: SqsD8. -/
import Derived.Test.YtllebgadhhgckaaDoorJ36
import Derived.Test.YtllebgadhhgckaaDoorJ30
import Derived.Test.YtllebgadhhgckaaDoorJ28
/- The landed seqs: Look. -/
namespace Go.Proofs.YtllebgadhhgckaaDoor.Sqs
open Go.RowKit Oct Rec Crc RowF RowK Lay Bat InR
open Epo (At0 AtO belA)

theorem lookIn_of {w : World} {hs : List (KX Pd)} {l : List Pd} (hls : hs.map (·.1) = l) (hkid : ∀ x ∈ hs, x.2.2.1 ≤ reach ∧ RdD w w.heap.size x.2.1 x.2.2.1 x.1.did) (hC : ckP l = 0) (ba la fr ep pi ge se : Int) (tx : Bool) (ct : Int) (rs : List Rc) (hB : chB ⟨ba, la, fr, ep, pi, ge, se, tx, ct, rs⟩ = 0) {x : KX Pd} (hm : metH hs (atP l pi) pi ge = x) : LookIn w (metP l ⟨ba, la, fr, ep, pi, ge, se, tx, ct, rs⟩).did x.2.1 x.2.2.1 la ba se (lastN ⟨ba, la, fr, ep, pi, ge, se, tx, ct, rs⟩) := by
  have hfm := (chB_form hB).1
  have h1 := hfm.seq0; have h2 := hfm.seq1; have h3 := hfm.seq2; have h4 := hfm.base0; have h5 := hfm.last1; have h6 := hfm.le; have h7 := hfm.near
  simp only at h1 h2 h3 h4 h5 h6 h7
  have hx := metH_is hls (ckP_iff.1 hC).2 ⟨ba, la, fr, ep, pi, ge, se, tx, ct, rs⟩
  have hx2 : x.1 = metP l ⟨ba, la, fr, ep, pi, ge, se, tx, ct, rs⟩ := by rw [← hm]; exact hx
  have hrd : x.2.2.1 ≤ reach ∧ RdD w w.heap.size x.2.1 x.2.2.1 x.1.did := by
    rw [← hm]
    unfold metH
    cases hk : hs[atP l pi]? with
    | none => exact ⟨Nat.zero_le _, RdF.nil⟩
    | some y =>
      simp only
      split
      · exact hkid y (List.mem_of_getElem? hk)
      · exact ⟨Nat.zero_le _, RdF.nil⟩
  rw [hx2] at hrd
  refine ⟨hrd.2, hrd.1, fun y hy => ?_, IntWalk.i64_in _ (by omega), ?_, rfl⟩
  · have h9 := (met_ok (b := ⟨ba, la, fr, ep, pi, ge, se, tx, ct, rs⟩) hC).1
    have h8 := chD_mem h9 y (List.mem_of_getLast? hy)
    unfold ddOk at h8
    have := of_decide_eq_true h8
    omega
  · show IntKind.i64.wrap (se + (la - ba)) = se + la - ba
    rw [show se + (la - ba) = se + la - ba by omega]
    exact IntWalk.i64_in _ (by omega)
set_option maxRecDepth 100000 in
set_option maxHeartbeats 8000000 in
theorem dLook_is (A : Option Addr) (n c : Nat) (l : List Pd) (ba la fr ep pi ge se : Int) (tx : Bool) (ct : Int) (rs : List Rc) (AR : Option Addr) (nR cR : Nat) (w : World) (hr : RdP w w.heap.size A n l) (hn : n ≤ reach) (hf : Fits ⟨ba, la, fr, ep, pi, ge, se, tx, ct, rs⟩) (hrr : RdR w w.heap.size AR nR rs) (hnR : nR ≤ 1099511627776) (ht : Tab w) {X E : Int} {T : Bool} (hL : lookP l ⟨ba, la, fr, ep, pi, ge, se, tx, ct, rs⟩ = (X, T, E)) :
    Calls Tryd.prog 14 #[.slice A n c, .agg #[.int .i64 ba, .int .i64 la, .int .i64 fr, .int .i64 ep, .int .i64 pi, .int .i64 ge, .int .i64 se, .bool tx, .int .i64 ct, .slice AR nR cR]] w fun e w' => e = .returned (.tuple #[.int .i64 X, .bool T, .int .i64 E]) ∧ Below w.heap.size w w' := by
  have hba := belA w (.cells #[.int .i64 ba, .int .i64 la, .int .i64 fr, .int .i64 ep, .int .i64 pi, .int .i64 ge, .int .i64 se, .bool tx, .int .i64 ct, .slice AR nR cR] 25)
  have HB1 := Lib.hid hba
  have HR1 := Lib.hid (rdkUp hr hba)
  have HRR1 := Lib.hid (rdrUp9 hrr hba)
  have HAT1 := Lib.hid (At0.new w [.int .i64 ba, .int .i64 la, .int .i64 fr, .int .i64 ep, .int .i64 pi, .int .i64 ge, .int .i64 se, .bool tx, .int .i64 ct, .slice AR nR cR] 25)
  have HT1 := Lib.hid (ht.bel hba)
  have HF := Lib.hid hf
  obtain ⟨C1, hC1⟩ : ∃ C1, ckP l = C1 := ⟨_, rfl⟩
  obtain ⟨C2, hC2⟩ : ∃ C2, chB ⟨ba, la, fr, ep, pi, ge, se, tx, ct, rs⟩ = C2 := ⟨_, rfl⟩
  have HC1 := Lib.hid hC1
  have HC2 := Lib.hid hC2
  have HLN := Lib.hid hr.len
  clear hba hr hrr ht hf
  by_cases h1 : C1 = 0
  case neg =>
    obtain ⟨rfl, rfl, rfl⟩ : (0 : Int) = X ∧ false = T ∧ C1 = E := by unfold lookP at hL; rw [hC1, if_pos (show C1 ≠ 0 from h1)] at hL; simpa using hL
    have g1 : (C1 == 0) = false := beq_eq_false_iff_ne.2 h1
    clear hC1 hC2 hL h1
    go_enter Tryd.func14, Tryd.ntmps14
    go_wp2_with (go_at_call 16; (with_reducible refine (dCheckP_is A n c l _ HR1.out hn HC1.out).mono ?_); rintro e w2 ⟨rfl, hb⟩; have HB2 := Lib.hid (Epo.bel_trans HB1.out hb); clear hb)
    go_ret3
    exact ⟨rfl, HB2.out⟩
  subst h1
  have HCK := fun W : World => fun (h : RdP W W.heap.size A n l) => dCheckP_is A n c l W h hn HC1.out
  by_cases h2 : C2 = 0
  case neg =>
    obtain ⟨rfl, rfl, rfl⟩ : (0 : Int) = X ∧ false = T ∧ C2 = E := by unfold lookP at hL; rw [hC1, hC2, if_neg (show ¬ (0 : Int) ≠ 0 from fun h => h rfl), if_pos (show C2 ≠ 0 from h2)] at hL; simpa using hL
    have g1 : (C2 == 0) = false := beq_eq_false_iff_ne.2 h2
    clear hC1 hC2 hL h2 HCK
    go_enter Tryd.func14, Tryd.ntmps14
    go_wp2_with (first
      | (go_at_call 16; (with_reducible refine (dCheckP_is A n c l _ HR1.out hn HC1.out).mono ?_); rintro e w2 ⟨rfl, hb⟩; have HB2 := Lib.hid (Epo.bel_trans HB1.out hb); have HRR2 := Lib.hid (rdrUp9 HRR1.out hb); have HT2 := Lib.hid (HT1.out.bel hb); obtain ⟨q0, q1, q2, q3, q4, q5, q6, q7, q8, q9⟩ := cel10 (HAT1.out.below hb); clear hb)
      | (go_at_call 31; (with_reducible refine (BCheck_is ba la fr ep pi ge se tx ct rs AR nR cR _ HF.out HRR2.out hnR HT2.out HC2.out).mono ?_); rintro e w3 ⟨rfl, hb⟩; have HB3 := Lib.hid (Epo.bel_trans HB2.out hb); clear hb))
    go_ret3
    exact ⟨rfl, HB3.out⟩
  subst h2
  clear HCK
  have hn1024 := (ckP_iff.1 hC1).1
  rw [HLN.out] at hn1024
  rw [look_met hC1 hC2] at hL
  have HL := Lib.hid hL
  clear hL hC1 hC2
  go_enter Tryd.func14, Tryd.ntmps14
  go_upto_region 7 with (first
    | (go_at_call 16; (with_reducible refine (dCheckP_is A n c l _ HR1.out hn HC1.out).mono ?_); rintro e w2 ⟨rfl, hb⟩; have HB2 := Lib.hid (Epo.bel_trans HB1.out hb); have HR2 := Lib.hid (rdkUp HR1.out hb); have HRR2 := Lib.hid (rdrUp9 HRR1.out hb); have HT2 := Lib.hid (HT1.out.bel hb); have HAT2 := Lib.hid (HAT1.out.below hb); obtain ⟨q0, q1, q2, q3, q4, q5, q6, q7, q8, q9⟩ := cel10 HAT2.out; clear hb)
    | (go_at_call 31; (with_reducible refine (BCheck_is ba la fr ep pi ge se tx ct rs AR nR cR _ HF.out HRR2.out hnR HT2.out HC2.out).mono ?_); rintro e w3 ⟨rfl, hb⟩; have HB3 := Lib.hid (Epo.bel_trans HB2.out hb); have HR3 := Lib.hid (rdkUp HR2.out hb); have HAT3 := Lib.hid (HAT2.out.below hb); clear hb))
  obtain ⟨hs, hh, hls, hkid⟩ := HR3.out.lift
  rcases hm : metH hs (atP l pi) pi ge with ⟨p, A2, n2, c2⟩
  have HLS := Lib.hid hls
  have HPE := Lib.hid (show p = metP l ⟨ba, la, fr, ep, pi, ge, se, tx, ct, rs⟩ from by have h9 := metH_is hls (ckP_iff.1 HC1.out).2 ⟨ba, la, fr, ep, pi, ge, se, tx, ct, rs⟩; rw [show metH hs (atP l pi) pi ge = _ from hm] at h9; exact h9)
  have HMT := Lib.hid (met_is A n c hs l hls ba la fr ep pi ge se tx ct AR nR cR (-1) w3.drew hh (by omega) (ckP_iff.1 HC1.out).2 rfl hm)
  have HLI := Lib.hid (show LookIn w3 p.did A2 n2 la ba se (lastN ⟨ba, la, fr, ep, pi, ge, se, tx, ct, rs⟩) from by have h9 := lookIn_of hls (fun x hx => (hkid x hx).2) HC1.out ba la fr ep pi ge se tx ct rs HC2.out hm; rw [← HPE.out] at h9; exact h9)
  have HLM := Lib.hid (show lookM ⟨p.pid, p.gen, p.did⟩ ⟨ba, la, fr, ep, pi, ge, se, tx, ct, rs⟩ = (X, T, E) from by rw [HPE.out]; exact HL.out)
  clear hh hls hkid hm q0 q1 q2 q3 q4 q5 q6 q7 q8 q9
  have HAD := Lib.hid (show At0 w3.drew w.heap.size [.int .i64 ba, .int .i64 la, .int .i64 fr, .int .i64 ep, .int .i64 pi, .int .i64 ge, .int .i64 se, .bool tx, .int .i64 ct, .slice AR nR cR] 25 from HAT3.out)
  have HLD := Lib.hid (show LookIn w3.drew p.did A2 n2 la ba se (lastN ⟨ba, la, fr, ep, pi, ge, se, tx, ct, rs⟩) from ⟨HLI.out.rd, HLI.out.len, HLI.out.high, HLI.out.w1, HLI.out.w2, HLI.out.eq⟩)
  obtain ⟨q0, q1, q2, q3, q4, q5, q6, q7, q8, q9⟩ := cel10 HAT3.out
  go_region_with (first
    | (go_at_call 35; (with_reducible refine HMT.out.mono ?_); rintro e w5 ⟨rfl, hb⟩; have HB5 := Lib.hid (Epo.bel_trans (bel_drew HB3.out) hb); have HLK := Lib.hid (look_is p.pid p.gen p.did A2 n2 c2 ba la fr ep pi ge se tx ct rs AR nR cR w5 ⟨rddUp HLD.out.rd hb, HLD.out.len, HLD.out.high, HLD.out.w1, HLD.out.w2, HLD.out.eq⟩ HLM.out); have HA5 := Lib.hid (HAD.out.below hb); clear q0 q1 q2 q3 q4 q5 q6 q7 q8 q9; obtain ⟨q0, q1, q2, q3, q4, q5, q6, q7, q8, q9⟩ := cel10 HA5.out; clear hb)
    | (go_at_call 34; (with_reducible refine HLK.out.mono ?_); rintro e w6 ⟨rfl, hb⟩; have HB6 := Lib.hid (Epo.bel_trans HB5.out hb); clear hb))
  all_goals go_wp2
  all_goals go_ret3
  all_goals exact ⟨rfl, HB6.out⟩
end Go.Proofs.YtllebgadhhgckaaDoor.Sqs
