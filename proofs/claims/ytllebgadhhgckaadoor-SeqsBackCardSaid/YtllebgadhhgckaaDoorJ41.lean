/- Joined: SqsDE. -/
import Derived.Test.YtllebgadhhgckaaDoorJ38
import Derived.Test.YtllebgadhhgckaaDoorJ40
/- The landed seqs: Put. -/
namespace Go.Proofs.YtllebgadhhgckaaDoor.Sqs
open Go.RowKit Oct Rec Crc RowF RowK RowO Lay Bat InR
open Epo (At0 AtO belA)

def S9 (l : List Pd) (k : Nat) (pi : Int) : Nat → Prop := fun j => (∃ x, l[k]? = some x ∧ x.pid = pi) → j ≠ k
theorem met_own {w : World} {B n k : Nat} {v : Value} {hs : List (KX Pd)} {l : List Pd} {pi ge : Int} {p : Pd} {A2 : Option Addr} {n2 c2 : Nat} (ho : OwnQ w B v n hs (fun _ => True)) (hls : hs.map (·.1) = l) (hm : metH hs k pi ge = (p, A2, n2, c2)) :
    OwnQ w B v n hs (S9 l k pi) ∧ OwnD w B (.slice A2 n2 c2) n2 p.did ∧ Off (.slice A2 n2 c2) v hs (S9 l k pi) := by
  unfold metH at hm
  cases hx : hs[k]? with
  | none =>
    rw [hx] at hm
    simp only at hm
    injection hm with e1 e2; injection e2 with e2 e3; injection e3 with e3 e4
    subst e1; subst e2; subst e3; subst e4
    exact ⟨ho.less fun _ _ => trivial, OwnF.nil, Off.nil⟩
  | some x =>
    rw [hx] at hm
    simp only at hm
    by_cases h9 : x.1.pid = pi ∧ ge ≤ x.1.gen
    · rw [if_pos h9] at hm
      subst hm
      obtain ⟨h1, h2, h3⟩ := OwnO.out ho (i := k) trivial hx
      have hS : ∀ j, S9 l k pi j → True ∧ j ≠ k := fun j hj => ⟨trivial, hj ⟨p, by rw [← hls, List.getElem?_map, hx]; rfl, h9.1⟩⟩
      exact ⟨h1.less hS, h2, h3.less hS⟩
    · rw [if_neg h9] at hm
      injection hm with e1 e2; injection e2 with e2 e3; injection e3 with e3 e4
      subst e1; subst e2; subst e3; subst e4
      exact ⟨ho.less fun _ _ => trivial, OwnF.nil, Off.nil⟩
theorem off_stays {w : World} {B n : Nat} {u u' v : Value} {hs : List (KX Pd)} {S : Nat → Prop} (h : OwnQ w B v n hs S) (ho : Off u v hs S) (hs9 : Stays w u u') : Off u' v hs S := by
  rcases hs9 with e | ⟨g, e, hg⟩
  · exact ho.same e
  · exact Off.new h e hg
theorem behind_any (x0 x1 : Int) (xd : List Dd) (A : Option Addr) (n c B : Nat) (ba la fr ep pi ge se : Int) (tx : Bool) (ct : Int) (rs : List Rc) (AR : Option Addr) (nR cR : Nat) (w : World) (ho : OwnD w B (.slice A n c) n xd) (hB : B ≤ w.heap.size) (hn : n ≤ 5) (hC : chB ⟨ba, la, fr, ep, pi, ge, se, tx, ct, rs⟩ = 0) {d : List Dd} (hd : (bhP ⟨x0, x1, xd⟩ ⟨ba, la, fr, ep, pi, ge, se, tx, ct, rs⟩).did = d) :
    Calls Tryd.prog 46 #[.agg #[.int .i64 x0, .int .i64 x1, .slice A n c], .agg #[.int .i64 ba, .int .i64 la, .int .i64 fr, .int .i64 ep, .int .i64 pi, .int .i64 ge, .int .i64 se, .bool tx, .int .i64 ct, .slice AR nR cR]] w (BehindO w B (.slice A n c) x0 x1 d) := by
  have hfm := (chB_form hC).1
  have h1 := hfm.seq0; have h2 := hfm.seq1; have h3 := hfm.seq2; have h4 := hfm.base0; have h5 := hfm.last1; have h6 := hfm.le; have h7 := hfm.near
  simp only at h1 h2 h3 h4 h5 h6 h7
  unfold bhP at hd
  by_cases hct : ct = 0
  · subst hct
    rw [if_pos rfl] at hd
    subst hd
    exact behind_data x0 x1 xd A n c B ba la fr ep pi ge se tx AR nR cR w ho hB hn (IntWalk.i64_in _ (by omega)) (by rw [show se + (la - ba) = se + la - ba by omega]; exact IntWalk.i64_in _ (by omega))
  · rw [if_neg hct] at hd
    subst hd
    exact behind_no x0 x1 xd A n c B ba la fr ep pi ge se tx ct AR nR cR w ho hct
theorem put_any (A : Option Addr) (n c B : Nat) (hs : List (KX Pd)) (l : List Pd) (hls : hs.map (·.1) = l) (v0 p0 p1 : Int) (pd : List Dd) (A2 : Option Addr) (n2 c2 : Nat) (w : World) {k : Nat} (ho : OwnQ w B (.slice A n c) n hs (S9 l k p0)) (hB : B ≤ w.heap.size) (hn : n ≤ 1024) (hc : chP v0 l = true) (hk : atP l p0 = k) (hkid : OwnD w B (.slice A2 n2 c2) n2 pd) (hn2 : n2 ≤ 1000) (hoff : Off (.slice A2 n2 c2) (.slice A n c) hs (S9 l k p0)) {X : List Pd} {E : Int} (hX : (if findP l p0 = none ∧ l.length = 1024 then ([], 2) else (withP l ⟨p0, p1, pd⟩, 0)) = (X, E)) :
    Calls Tryd.prog 45 #[.slice A n c, .agg #[.int .i64 p0, .int .i64 p1, .slice A2 n2 c2]] w (PutO w B X E) := by
  have hl : l.length = n := by rw [← hls, List.length_map]; exact ho.len
  have hf := findP_at hc p0
  rw [hk] at hf
  by_cases ht : ∃ x, l[k]? = some x ∧ x.pid = p0
  · obtain ⟨x, hx, hp⟩ := ht
    rw [hx] at hf
    simp only at hf
    rw [if_pos hp] at hf
    rw [if_neg (fun h9 => by rw [hf] at h9; cases h9.1)] at hX
    injection hX with e1 e2
    subst e1; subst e2
    have hS : ∀ j, j ≠ k → S9 l k p0 j := fun j hj _ => hj
    exact put_there A n c B hs l hls v0 p0 p1 pd A2 n2 c2 w (ho.less hS) hB hn hc hk hx hp hkid hn2 (hoff.less hS)
  · have hS : ∀ j, True → S9 l k p0 j := fun j _ h => absurd h ht
    have hx : ∀ x, l[k]? = some x → x.pid ≠ p0 := fun x h1 h2 => ht ⟨x, h1, h2⟩
    have hf2 : findP l p0 = none := by
      rw [hf]
      cases hx9 : l[k]? with
      | none => rfl
      | some x => simp only; exact if_neg (hx x hx9)
    by_cases hfull : n = 1024
    · rw [if_pos ⟨hf2, by omega⟩] at hX
      injection hX with e1 e2
      subst e1; subst e2
      exact (put_full A n c B hs l hls v0 p0 p1 pd A2 n2 c2 w (ho.less hS) hfull hc hk hx hkid (hoff.less hS)).mono fun e w' ⟨h1, h2⟩ => ⟨none, 0, 0, [], h1, OwnO.nil, rfl, h2.mono hB⟩
    · rw [if_neg (fun h9 => hfull (by omega))] at hX
      injection hX with e1 e2
      subst e1; subst e2
      exact put_new A n c B hs l hls v0 p0 p1 pd A2 n2 c2 w (ho.less hS) hB (by omega) hc hk hx hkid hn2 (hoff.less hS)
theorem bh_len {p : Pd} {b : Bt} : (bhP p b).did.length ≤ p.did.length + 1 := by
  unfold bhP
  split
  · show (five _).length ≤ _
    unfold five
    split
    · rw [List.length_drop, List.length_append]; simp
    · rw [List.length_append]; simp
  · exact Nat.le_succ _
theorem below_row9 {w w' : World} {B n : Nat} {v : Value} {l : List Dd} (h : OwnD w B v n l) (hg : w.grownBy w' v.ownBlock) (hB : B ≤ w.heap.size) : Below B w w' :=
  ⟨hg.os, hg.tape, hg.output, hg.size, fun i hi => hg.block i (Nat.lt_of_lt_of_le hi hB) (fun e => by have := (World.ownsRow.lt h i e.symm).1; omega)⟩
set_option maxRecDepth 100000 in
set_option maxHeartbeats 8000000 in
theorem dPut_is (A : Option Addr) (n c : Nat) (l : List Pd) (ba la fr ep pi ge se : Int) (tx : Bool) (ct : Int) (rs : List Rc) (AR : Option Addr) (nR cR : Nat) (w : World) (hr : RdP w w.heap.size A n l) (hn : n ≤ reach) (hf : Fits ⟨ba, la, fr, ep, pi, ge, se, tx, ct, rs⟩) (hrr : RdR w w.heap.size AR nR rs) (hnR : nR ≤ 1099511627776) (ht : Tab w) {X : List Pd} {E : Int} (hP : putP l ⟨ba, la, fr, ep, pi, ge, se, tx, ct, rs⟩ = (X, E)) :
    Calls Tryd.prog 18 #[.slice A n c, .agg #[.int .i64 ba, .int .i64 la, .int .i64 fr, .int .i64 ep, .int .i64 pi, .int .i64 ge, .int .i64 se, .bool tx, .int .i64 ct, .slice AR nR cR]] w (PutO w w.heap.size X E) := by
  have hba := belA w (.cells #[.int .i64 ba, .int .i64 la, .int .i64 fr, .int .i64 ep, .int .i64 pi, .int .i64 ge, .int .i64 se, .bool tx, .int .i64 ct, .slice AR nR cR] 25)
  have HB1 := Lib.hid hba
  have HR1 := Lib.hid (rdkUp hr hba)
  have HRR1 := Lib.hid (rdrUp9 hrr hba)
  have HAT1 := Lib.hid (At0.new w [.int .i64 ba, .int .i64 la, .int .i64 fr, .int .i64 ep, .int .i64 pi, .int .i64 ge, .int .i64 se, .bool tx, .int .i64 ct, .slice AR nR cR] 25)
  have HT1 := Lib.hid (ht.bel hba)
  have HF := Lib.hid hf
  have HLN := Lib.hid hr.len
  rcases hL : lookP l ⟨ba, la, fr, ep, pi, ge, se, tx, ct, rs⟩ with ⟨Lx, Lt, Le⟩
  have HLK := Lib.hid (dLook_is A n c l ba la fr ep pi ge se tx ct rs AR nR cR _ HR1.out hn HF.out HRR1.out hnR HT1.out hL)
  clear hba hr hrr ht hf
  by_cases h1 : Le = 0
  case neg =>
    have hP9 : putP l ⟨ba, la, fr, ep, pi, ge, se, tx, ct, rs⟩ = ([], Le) := by unfold putP; rw [hL]; exact if_pos h1
    rw [hP9] at hP
    injection hP with e1 e2
    subst e1; subst e2
    have g1 : (Le == 0) = false := beq_eq_false_iff_ne.2 h1
    clear hL h1 hP9
    go_enter Tryd.func18, Tryd.ntmps18
    go_upto_region 1 with fail
    generalize (w.alloc (.cells #[.int .i64 ba, .int .i64 la, .int .i64 fr, .int .i64 ep, .int .i64 pi, .int .i64 ge, .int .i64 se, .bool tx, .int .i64 ct, .slice AR nR cR] 25)) = W at *
    obtain ⟨q0, q1, q2, q3, q4, q5, q6, q7, q8, q9⟩ := cel10 HAT1.out
    go_wp2_with (go_at_call 14; (with_reducible refine HLK.out.mono ?_); rintro e w2 ⟨rfl, hb⟩; have HB2 := Lib.hid (Epo.bel_trans HB1.out hb); clear hb)
    go_ret2
    exact ⟨none, 0, 0, [], rfl, OwnO.nil, rfl, HB2.out⟩
  subst h1
  obtain ⟨hC, hB⟩ := look_ok hL
  have hn1024 := (ckP_iff.1 hC).1
  rw [HLN.out] at hn1024
  have hLM := (look_met hC hB).symm.trans hL
  rw [put_is hC hB hLM, if_neg (fun h9 => h9 rfl)] at hP
  have HHC := Lib.hid hC
  have HHB := Lib.hid hB
  have HD5 := Lib.hid (show ∀ p ∈ l, p.did.length ≤ 5 from fun p hp => by
    have h9 := (chP_mem (ckP_iff.1 hC).2 p hp).2.2.2
    unfold didOk at h9
    rw [Bool.and_eq_true, decide_eq_true_eq] at h9
    exact h9.2)
  have HLMX := Lib.hid hLM
  clear hL hLM hC hB
  by_cases hth : Lt = true
  · rw [if_pos (.inl hth)] at hP
    injection hP with e1 e2
    subst e1; subst e2; subst hth
    go_enter Tryd.func18, Tryd.ntmps18
    go_upto_region 1 with fail
    generalize (w.alloc (.cells #[.int .i64 ba, .int .i64 la, .int .i64 fr, .int .i64 ep, .int .i64 pi, .int .i64 ge, .int .i64 se, .bool tx, .int .i64 ct, .slice AR nR cR] 25)) = W at *
    obtain ⟨q0, q1, q2, q3, q4, q5, q6, q7, q8, q9⟩ := cel10 HAT1.out
    go_wp2_with (first
      | (go_at_call 14; (with_reducible refine HLK.out.mono ?_); rintro e w2 ⟨rfl, hb⟩; have HB2 := Lib.hid (Epo.bel_trans HB1.out hb); have HR2 := Lib.hid (rdkUp HR1.out hb); clear hb)
      | (go_at_call 43; (with_reducible refine (copies_is A n c l _ HR2.out hn1024 HD5.out).mono ?_); rintro e w3 ⟨A3, c3, hs3, rfl, ho, hl, hb⟩; have HO3 := Lib.hid ho; have HL3 := Lib.hid hl; have HB3 := Lib.hid (Epo.bel_trans HB2.out hb); clear ho hl hb))
    go_ret2
    exact ⟨A3, n, c3, hs3, rfl, HO3.out.more HB2.out.size, HL3.out, HB3.out⟩
  have hth2 : Lt = false := by cases Lt with | true => exact absurd rfl hth | false => rfl
  subst hth2
  rcases hnb : decide (pi < 0) with _ | _
  case true =>
    rw [if_pos (.inr (of_decide_eq_true hnb))] at hP
    injection hP with e1 e2
    subst e1; subst e2
    have HN := Lib.hid hnb
    clear hnb hth
    go_enter Tryd.func18, Tryd.ntmps18
    go_upto_region 1 with fail
    generalize (w.alloc (.cells #[.int .i64 ba, .int .i64 la, .int .i64 fr, .int .i64 ep, .int .i64 pi, .int .i64 ge, .int .i64 se, .bool tx, .int .i64 ct, .slice AR nR cR] 25)) = W at *
    obtain ⟨q0, q1, q2, q3, q4, q5, q6, q7, q8, q9⟩ := cel10 HAT1.out
    go_wp2_with (first
      | (go_at_call 14; (with_reducible refine HLK.out.mono ?_); rintro e w2 ⟨rfl, hb⟩; have HB2 := Lib.hid (Epo.bel_trans HB1.out hb); have HR2 := Lib.hid (rdkUp HR1.out hb); have HAT2 := Lib.hid (HAT1.out.below hb); clear hb)
      | (go_at_call 43; (with_reducible refine (copies_is A n c l _ HR2.out hn1024 HD5.out).mono ?_); rintro e w3 ⟨A3, c3, hs3, rfl, ho, hl, hb⟩; have HO3 := Lib.hid ho; have HL3 := Lib.hid hl; have HB3 := Lib.hid (Epo.bel_trans HB2.out hb); have HAT3 := Lib.hid (HAT2.out.below hb); clear ho hl hb; clear q0 q1 q2 q3 q4 q5 q6 q7 q8 q9; obtain ⟨q0, q1, q2, q3, q4, q5, q6, q7, q8, q9⟩ := cel10 HAT3.out)
      | (go_at_call 44; (with_reducible refine (isNob_is ba la fr ep pi ge se tx ct AR nR cR _ HN.out).mono ?_); rintro e w4 ⟨rfl, hb⟩; have HB4 := Lib.hid (Epo.bel_trans HB3.out hb); have HO4 := Lib.hid (HO3.out.below hb); clear hb))
    go_ret2
    exact ⟨A3, n, c3, hs3, rfl, HO4.out.more HB2.out.size, HL3.out, HB4.out⟩
  have hpi : ¬ pi < 0 := of_decide_eq_false hnb
  rw [if_neg (show ¬ (false = true ∨ pi < 0) from fun h9 => h9.elim (fun h => Bool.noConfusion h) hpi)] at hP
  have HPX := Lib.hid hP
  have HN := Lib.hid hnb
  clear hnb hth hP hpi
  go_enter Tryd.func18, Tryd.ntmps18
  go_upto_region 1 with fail
  generalize (w.alloc (.cells #[.int .i64 ba, .int .i64 la, .int .i64 fr, .int .i64 ep, .int .i64 pi, .int .i64 ge, .int .i64 se, .bool tx, .int .i64 ct, .slice AR nR cR] 25)) = W at *
  obtain ⟨q0, q1, q2, q3, q4, q5, q6, q7, q8, q9⟩ := cel10 HAT1.out
  go_upto_region 7 with (first
    | (go_at_call 14; (with_reducible refine HLK.out.mono ?_); rintro e w2 ⟨rfl, hb⟩; have HB2 := Lib.hid (Epo.bel_trans HB1.out hb); have HR2 := Lib.hid (rdkUp HR1.out hb); have HAT2 := Lib.hid (HAT1.out.below hb); clear hb)
    | (go_at_call 43; (with_reducible refine (copies_is A n c l _ HR2.out hn1024 HD5.out).mono ?_); rintro e w3 ⟨A3, c3, hs3, rfl, ho, hl, hb⟩; have HO3 := Lib.hid (ho.more HB2.out.size); have HL3 := Lib.hid hl; have HB3 := Lib.hid (Epo.bel_trans HB2.out hb); have HAT3 := Lib.hid (HAT2.out.below hb); clear ho hl hb; clear q0 q1 q2 q3 q4 q5 q6 q7 q8 q9; obtain ⟨q0, q1, q2, q3, q4, q5, q6, q7, q8, q9⟩ := cel10 HAT3.out)
    | (go_at_call 44; (with_reducible refine (isNob_is ba la fr ep pi ge se tx ct AR nR cR _ HN.out).mono ?_); rintro e w4 ⟨rfl, hb⟩; have HB4 := Lib.hid (Epo.bel_trans HB3.out hb); have HO4 := Lib.hid (HO3.out.below hb); have HAT4 := Lib.hid (HAT3.out.below hb); clear hb; clear q0 q1 q2 q3 q4 q5 q6 q7 q8 q9; obtain ⟨q0, q1, q2, q3, q4, q5, q6, q7, q8, q9⟩ := cel10 HAT4.out))
  rcases hm : metH hs3 (atP l pi) pi ge with ⟨p, A2, n2, c2⟩
  have hpe := metH_is HL3.out (ckP_iff.1 HHC.out).2 ⟨ba, la, fr, ep, pi, ge, se, tx, ct, rs⟩
  rw [show metH hs3 (atP l (Bt.pid ⟨ba, la, fr, ep, pi, ge, se, tx, ct, rs⟩)) (Bt.pid ⟨ba, la, fr, ep, pi, ge, se, tx, ct, rs⟩) (Bt.gen ⟨ba, la, fr, ep, pi, ge, se, tx, ct, rs⟩) = (p, A2, n2, c2) from hm] at hpe
  have HPE := Lib.hid (show p = metP l ⟨ba, la, fr, ep, pi, ge, se, tx, ct, rs⟩ from hpe)
  have HPID := Lib.hid (show p.pid = pi from by rw [HPE.out]; exact met_pid l ⟨ba, la, fr, ep, pi, ge, se, tx, ct, rs⟩)
  have HMT := Lib.hid (met_is A3 n c3 hs3 l HL3.out ba la fr ep pi ge se tx ct AR nR cR (-1) w4.drew (OwnF.rd prS HO4.out.row) (by omega) (ckP_iff.1 HHC.out).2 rfl hm)
  have HN2 := Lib.hid (show n2 ≤ 5 from by
    have h8 := (met_own HO4.out HL3.out hm).2.1.len didS
    have h9 := (met_ok (b := ⟨ba, la, fr, ep, pi, ge, se, tx, ct, rs⟩) HHC.out).2
    rw [← HPE.out] at h9
    omega)
  have HMO := Lib.hid (show OwnQ w4.drew w.heap.size (.slice A3 n c3) n hs3 (S9 l (atP l pi) pi) ∧ OwnD w4.drew w.heap.size (.slice A2 n2 c2) n2 p.did ∧ Off (.slice A2 n2 c2) (.slice A3 n c3) hs3 (S9 l (atP l pi) pi) from ⟨(met_own HO4.out HL3.out hm).1.drew, (met_own HO4.out HL3.out hm).2.1, (met_own HO4.out HL3.out hm).2.2⟩)
  obtain ⟨dd, hdd⟩ : ∃ dd, (bhP ⟨p.pid, p.gen, p.did⟩ ⟨ba, la, fr, ep, pi, ge, se, tx, ct, rs⟩).did = dd := ⟨_, rfl⟩
  have HDD := Lib.hid hdd
  have HXE := Lib.hid (show (if findP l p.pid = none ∧ l.length = 1024 then ([], 2) else (withP l ⟨p.pid, p.gen, dd⟩, 0)) = (X, E) from by
    have h9 := HPX.out
    have h8 : bhP (metP l ⟨ba, la, fr, ep, pi, ge, se, tx, ct, rs⟩) ⟨ba, la, fr, ep, pi, ge, se, tx, ct, rs⟩ = ⟨p.pid, p.gen, dd⟩ := by
      rw [← HPE.out, ← hdd]
      unfold bhP
      split <;> rfl
    rw [h8] at h9
    rw [HPID.out] at h9 ⊢
    exact h9)
  have HAD := Lib.hid (show At0 w4.drew w.heap.size [.int .i64 ba, .int .i64 la, .int .i64 fr, .int .i64 ep, .int .i64 pi, .int .i64 ge, .int .i64 se, .bool tx, .int .i64 ct, .slice AR nR cR] 25 from HAT4.out)
  clear hm hpe hdd
  go_region_with (first
    | (go_at_call 35; (with_reducible refine HMT.out.mono ?_); rintro e w5 ⟨rfl, hb⟩; have HB5 := Lib.hid (Epo.bel_trans (bel_drew HB4.out) hb); have HO5 := Lib.hid (HMO.out.1.below hb); have HK5 := Lib.hid (OwnF.below HMO.out.2.1 hb); have HBH := Lib.hid (behind_any p.pid p.gen p.did A2 n2 c2 w.heap.size ba la fr ep pi ge se tx ct rs AR nR cR w5 HK5.out HB5.out.size HN2.out HHB.out HDD.out); have HA5 := Lib.hid (HAD.out.below hb); clear q0 q1 q2 q3 q4 q5 q6 q7 q8 q9; obtain ⟨q0, q1, q2, q3, q4, q5, q6, q7, q8, q9⟩ := cel10 HA5.out; clear hb)
    | (go_at_call 46; (with_reducible refine HBH.out.mono ?_); rintro e w6 ⟨A6, n6, c6, rfl, hk6, hs6, hg6⟩; have HO6 := Lib.hid (OwnO.by HO5.out HMO.out.2.2 hg6); have HB6 := Lib.hid (HB5.out.trans (below_row9 HK5.out hg6 HB5.out.size)); have HN6 := Lib.hid (show n6 ≤ 6 from by have h9 := hk6.len didS; have h8 := bh_len (p := ⟨p.pid, p.gen, p.did⟩) (b := ⟨ba, la, fr, ep, pi, ge, se, tx, ct, rs⟩); have h7 := HK5.out.len didS; have h6 := HN2.out; rw [HDD.out] at h8; simp only at h8; omega); have HPT := Lib.hid (put_any A3 n c3 w.heap.size hs3 l HL3.out (-1) p.pid p.gen dd A6 n6 c6 w6 (by rw [HPID.out]; exact HO6.out) HB6.out.size hn1024 (ckP_iff.1 HHC.out).2 (by rw [HPID.out]) hk6 (by have := HN6.out; omega) (by rw [HPID.out]; exact off_stays HO5.out HMO.out.2.2 hs6) HXE.out); clear hk6 hs6 hg6)
    | (go_at_call 45; (with_reducible refine HPT.out.mono ?_); rintro e w7 ⟨A7, n7, c7, hs7, rfl, ho, hl, hb⟩; have HO7 := Lib.hid ho; have HL7 := Lib.hid hl; have HB7 := Lib.hid (HB6.out.trans hb); clear ho hl hb))
  all_goals go_wp2
  all_goals go_ret2
  all_goals exact ⟨A7, n7, c7, hs7, rfl, HO7.out, HL7.out, HB7.out⟩
end Go.Proofs.YtllebgadhhgckaaDoor.Sqs
