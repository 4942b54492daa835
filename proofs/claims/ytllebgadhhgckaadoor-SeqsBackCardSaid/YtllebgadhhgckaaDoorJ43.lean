/- Joined: SqsDL. -/
import Derived.Test.YtllebgadhhgckaaDoorJ41
import Derived.Test.YtllebgadhhgckaaDoorJ42
/- The landed seqs: Of. -/
namespace Go.Proofs.YtllebgadhhgckaaDoor.Sqs
open Go.RowKit Oct Rec Crc RowF RowK RowO Lay Bat InR
open Epo (At0 AtO belA)

def oRel (bs : List Bt) (w : World) (lv iv : Value) (wr : World) : Prop :=
  ∃ (k : Nat) (A' : Option Addr) (n' c' : Nat) (hs : List (KX Pd)), iv = .int .i64 (k : Int) ∧ lv = .slice A' n' c' ∧ k ≤ bs.length ∧ OwnQ wr w.heap.size (.slice A' n' c') n' hs (fun _ => True) ∧ hs.map (·.1) = ofP [] (bs.take k) ∧ Below w.heap.size w wr
theorem kids_of {w : World} {B n : Nat} {A : Option Addr} {c : Nat} {hs : List (KX Pd)} (h : OwnQ w B (.slice A n c) n hs (fun _ => True)) : ∀ x ∈ hs, x.2.2.1 ≤ reach ∧ RdD w w.heap.size x.2.1 x.2.2.1 x.1.did := fun x hx => by
  obtain ⟨i, hi⟩ := List.mem_iff_getElem?.1 hx
  exact ⟨h.most i x trivial hi, (h.kid i x trivial hi).rd didS⟩
theorem ownQ_box {w w8 : World} {B n : Nat} {v : Value} {hs : List (KX Pd)} {S : Nat → Prop} (h : OwnQ w B v n hs S) (h8 : OwnQ w8 B v n hs S) (u : Value) : OwnQ (w.setCell ⟨w8.heap.size, 2, none⟩ u) B v n hs S :=
  OwnO.by h (Off.new h8 (u := .slice (some ⟨w8.heap.size, 0, none⟩) 0 0) rfl (Nat.le_refl _)) (grown_set9 u)
set_option maxRecDepth 100000 in
set_option maxHeartbeats 8000000 in
theorem dOf_is (A : Option Addr) (n c : Nat) (bs : List Bt) (w : World) (hr : RdL w w.heap.size A n bs) (hn : n ≤ 1000) (hf : ∀ b ∈ bs, Fits b) (hrc : ∀ b ∈ bs, b.recs.length ≤ 1000000) (ht : Tab w) {X : List Pd} (hX : ofP [] bs = X) :
    Calls Tryd.prog 22 #[.slice A n c] w fun e w' => ∃ A' n' c' hs, e = .returned (.slice A' n' c') ∧ OwnQ w' w.heap.size (.slice A' n' c') n' hs (fun _ => True) ∧ hs.map (·.1) = X ∧ Below w.heap.size w w' := by
  have HR := Lib.hid hr
  have HLN := Lib.hid hr.len
  have HF := Lib.hid hf
  have HRC := Lib.hid hrc
  have HT := Lib.hid ht
  have HOK := Lib.hid (ofP_ok bs (by have := hr.len; omega))
  have HX := Lib.hid hX
  clear hr hf hrc ht hX
  go_enter Tryd.func22, Tryd.ntmps22
  go_wp2
  go_loopw [3, 14] (fun lv iv wr => oRel bs w lv iv wr) (fun _ iv _ => n - (intOf iv).toNat)
  case atStart => exact ⟨0, none, 0, 0, [], rfl, rfl, Nat.zero_le _, OwnO.nil, rfl, Below.refl _ _⟩
  case round =>
    obtain ⟨k, A1, n1, c1, hs, rfl, rfl, hk, ho, hls, hb⟩ := hrel
    have HO := Lib.hid ho
    have HLS := Lib.hid hls
    have HB := Lib.hid hb
    clear ho hls hb
    by_cases hlt : k < n
    · obtain ⟨b, o, x, cs, rfl, hbl, hxk, his, hcell⟩ := HR.out.at hlt
      have HSTEP := Lib.hid (ofP_at [] hxk)
      have hfx := HF.out x (List.mem_of_getElem? hxk)
      obtain ⟨ba, la, fr, ep, pi, ge, se, tx, ct, rs⟩ := x
      obtain ⟨AR, nR, cR, rfl, hfit, hn1, hc1, hrl⟩ := his
      have a0 : wr.cell? ⟨b, o + k * 10, none⟩ = some (.int .i64 ba) := (HB.out.cell (p := ⟨b, o + k * 10, none⟩) hbl).trans (hcell 0 _ rfl)
      have a1 : wr.cell? ⟨b, o + k * 10 + 1, none⟩ = some (.int .i64 la) := (HB.out.cell (p := ⟨b, o + k * 10 + 1, none⟩) hbl).trans (hcell 1 _ rfl)
      have a2 : wr.cell? ⟨b, o + k * 10 + 2, none⟩ = some (.int .i64 fr) := (HB.out.cell (p := ⟨b, o + k * 10 + 2, none⟩) hbl).trans (hcell 2 _ rfl)
      have a3 : wr.cell? ⟨b, o + k * 10 + 3, none⟩ = some (.int .i64 ep) := (HB.out.cell (p := ⟨b, o + k * 10 + 3, none⟩) hbl).trans (hcell 3 _ rfl)
      have a4 : wr.cell? ⟨b, o + k * 10 + 4, none⟩ = some (.int .i64 pi) := (HB.out.cell (p := ⟨b, o + k * 10 + 4, none⟩) hbl).trans (hcell 4 _ rfl)
      have a5 : wr.cell? ⟨b, o + k * 10 + 5, none⟩ = some (.int .i64 ge) := (HB.out.cell (p := ⟨b, o + k * 10 + 5, none⟩) hbl).trans (hcell 5 _ rfl)
      have a6 : wr.cell? ⟨b, o + k * 10 + 6, none⟩ = some (.int .i64 se) := (HB.out.cell (p := ⟨b, o + k * 10 + 6, none⟩) hbl).trans (hcell 6 _ rfl)
      have a7 : wr.cell? ⟨b, o + k * 10 + 7, none⟩ = some (.bool tx) := (HB.out.cell (p := ⟨b, o + k * 10 + 7, none⟩) hbl).trans (hcell 7 _ rfl)
      have a8 : wr.cell? ⟨b, o + k * 10 + 8, none⟩ = some (.int .i64 ct) := (HB.out.cell (p := ⟨b, o + k * 10 + 8, none⟩) hbl).trans (hcell 8 _ rfl)
      have a9 : wr.cell? ⟨b, o + k * 10 + 9, none⟩ = some (.slice AR nR cR) := (HB.out.cell (p := ⟨b, o + k * 10 + 9, none⟩) hbl).trans (hcell 9 _ rfl)
      simp only at hrl
      have HFX := Lib.hid hfx
      have HRR0 := Lib.hid ((RdL_recs hrl).below HB.out (Nat.le_refl _))
      have HRR := Lib.hid (HRR0.out.more HB.out.size)
      have hnR : nR ≤ 1099511627776 := by have h1 := hrl.len; have h2 := HRC.out _ (List.mem_of_getElem? hxk); simp only at h2; omega
      have hw1 : IntKind.i64.wrap ((k : Int) + 1) = (k : Int) + 1 := IntWalk.i64_in _ (by omega)
      have hkl : (k : Int) < (n : Int) := by omega
      have hk0 : (0 : Int) ≤ (k : Int) := by omega
      have HCK := Lib.hid (HOK.out k hk)
      obtain ⟨l, hl⟩ : ∃ l, ofP [] (bs.take k) = l := ⟨_, rfl⟩
      rw [hl] at HCK HLS HSTEP
      have hn19 : n1 ≤ 1000 := by have h1 := HO.out.len; have h2 := HCK.out.2; rw [← HLS.out, List.length_map] at h2; have := HLN.out; omega
      clear hcell hxk hrl hfit hfx hl
      go_upto_region 5 with fail
      have hba := belA wr (.cells #[.int .i64 ba, .int .i64 la, .int .i64 fr, .int .i64 ep, .int .i64 pi, .int .i64 ge, .int .i64 se, .bool tx, .int .i64 ct, .slice AR nR cR] 25)
      have HB5 := Lib.hid (Epo.bel_trans HB.out hba)
      have HO5 := Lib.hid (HO.out.below hba)
      have HRR5 := Lib.hid (rdrUp9 HRR.out hba)
      have HAT5 := Lib.hid (At0.new wr [.int .i64 ba, .int .i64 la, .int .i64 fr, .int .i64 ep, .int .i64 pi, .int .i64 ge, .int .i64 se, .bool tx, .int .i64 ct, .slice AR nR cR] 25)
      have HT5 := Lib.hid (HT.out.bel HB5.out)
      clear hba a0 a1 a2 a3 a4 a5 a6 a7 a8 a9 hbl
      generalize (wr.alloc (.cells #[.int .i64 ba, .int .i64 la, .int .i64 fr, .int .i64 ep, .int .i64 pi, .int .i64 ge, .int .i64 se, .bool tx, .int .i64 ct, .slice AR nR cR] 25)) = W at *
      obtain ⟨bx, hbx⟩ : ∃ bx, wr.heap.size = bx := ⟨_, rfl⟩
      rw [hbx] at HAT5
      simp only [hbx]
      clear hbx
      obtain ⟨q0, q1, q2, q3, q4, q5, q6, q7, q8, q9⟩ := cel10 HAT5.out
      obtain ⟨C, hC⟩ : ∃ C, chB ⟨ba, la, fr, ep, pi, ge, se, tx, ct, rs⟩ = C := ⟨_, rfl⟩
      have HBC := Lib.hid (BCheck_is ba la fr ep pi ge se tx ct rs AR nR cR W HFX.out HRR5.out hnR HT5.out hC)
      by_cases h1 : C = 0
      case neg =>
        have HS9 := Lib.hid (ofS_bad HCK.out.1 (by rw [hC]; exact h1))
        have g1 : (C == 0) = false := beq_eq_false_iff_ne.2 h1
        have g2 : (C != 0) = true := by simp [h1]
        clear hC h1
        go_wp2_with (go_at_call 31; (with_reducible refine HBC.out.mono ?_); rintro e w6 ⟨rfl, hb⟩; have HB6 := Lib.hid (Epo.bel_trans HB5.out hb); have HO6 := Lib.hid (HO5.out.below hb); clear hb)
        go_roundw
        case rel => exact ⟨k + 1, A1, n1, c1, hs, by go_num, rfl, by have := HLN.out; omega, HO6.out, by rw [HSTEP.out, HS9.out]; exact HLS.out, HB6.out⟩
        case measure => simp [intOf]; omega
      subst h1
      have HC := Lib.hid hC
      clear hC
      rcases hnb : decide (pi < 0) with _ | _
      case true =>
        have HS9 := Lib.hid (ofS_nobody HCK.out.1 HC.out (of_decide_eq_true hnb))
        have HN := Lib.hid hnb
        clear hnb
        go_wp2_with (first
          | (go_at_call 31; (with_reducible refine HBC.out.mono ?_); rintro e w6 ⟨rfl, hb⟩; have HB6 := Lib.hid (Epo.bel_trans HB5.out hb); have HO6 := Lib.hid (HO5.out.below hb); have HAT6 := Lib.hid (HAT5.out.below hb); clear q0 q1 q2 q3 q4 q5 q6 q7 q8 q9; obtain ⟨q0, q1, q2, q3, q4, q5, q6, q7, q8, q9⟩ := cel10 HAT6.out; clear hb)
          | (go_at_call 44; (with_reducible refine (isNob_is ba la fr ep pi ge se tx ct AR nR cR _ HN.out).mono ?_); rintro e w7 ⟨rfl, hb⟩; have HB7 := Lib.hid (Epo.bel_trans HB6.out hb); have HO7 := Lib.hid (HO6.out.below hb); clear hb))
        go_roundw
        case rel => exact ⟨k + 1, A1, n1, c1, hs, by go_num, rfl, by have := HLN.out; omega, HO7.out, by rw [HSTEP.out, HS9.out]; exact HLS.out, HB7.out⟩
        case measure => simp [intOf]; omega
      have HN := Lib.hid hnb
      have hpi : ¬ pi < 0 := of_decide_eq_false hnb
      clear hnb
      rcases hm : metH hs (atP l pi) pi ge with ⟨p, A2, n2, c2⟩
      have hpe := metH_is HLS.out (ckP_iff.1 HCK.out.1).2 ⟨ba, la, fr, ep, pi, ge, se, tx, ct, rs⟩
      rw [show metH hs (atP l (Bt.pid ⟨ba, la, fr, ep, pi, ge, se, tx, ct, rs⟩)) (Bt.pid ⟨ba, la, fr, ep, pi, ge, se, tx, ct, rs⟩) (Bt.gen ⟨ba, la, fr, ep, pi, ge, se, tx, ct, rs⟩) = (p, A2, n2, c2) from hm] at hpe
      have HPE := Lib.hid (show p = metP l ⟨ba, la, fr, ep, pi, ge, se, tx, ct, rs⟩ from hpe)
      have HPID := Lib.hid (show p.pid = pi from by rw [HPE.out]; exact met_pid l ⟨ba, la, fr, ep, pi, ge, se, tx, ct, rs⟩)
      have HMH := Lib.hid hm
      rcases hLM : lookM p ⟨ba, la, fr, ep, pi, ge, se, tx, ct, rs⟩ with ⟨X1, T1, E1⟩
      have HLM := Lib.hid hLM
      have HLM2 := Lib.hid (show lookM (metP l ⟨ba, la, fr, ep, pi, ge, se, tx, ct, rs⟩) ⟨ba, la, fr, ep, pi, ge, se, tx, ct, rs⟩ = (X1, T1, E1) from by rw [← HPE.out]; exact hLM)
      have HL24 := Lib.hid (show l.length < 1024 from by have h1 := HCK.out.2; have := HLN.out; omega)
      clear hm hpe hLM
      go_upto_region 8 with (first
        | (go_at_call 31; (with_reducible refine HBC.out.mono ?_); rintro e w6 ⟨rfl, hb⟩; have HB6 := Lib.hid (Epo.bel_trans HB5.out hb); have HO6 := Lib.hid (HO5.out.below hb); have HAT6 := Lib.hid (HAT5.out.below hb); clear q0 q1 q2 q3 q4 q5 q6 q7 q8 q9; obtain ⟨q0, q1, q2, q3, q4, q5, q6, q7, q8, q9⟩ := cel10 HAT6.out; clear hb)
        | (go_at_call 44; (with_reducible refine (isNob_is ba la fr ep pi ge se tx ct AR nR cR _ HN.out).mono ?_); rintro e w7 ⟨rfl, hb⟩; have HB7 := Lib.hid (Epo.bel_trans HB6.out hb); have HO7 := Lib.hid (HO6.out.below hb); have HAT7 := Lib.hid (HAT6.out.below hb); clear q0 q1 q2 q3 q4 q5 q6 q7 q8 q9; obtain ⟨q0, q1, q2, q3, q4, q5, q6, q7, q8, q9⟩ := cel10 HAT7.out; have HMT := Lib.hid (met_is A1 n1 c1 hs l HLS.out ba la fr ep pi ge se tx ct AR nR cR (-1) w7 (OwnF.rd prS HO7.out.row) (by omega) (ckP_iff.1 HCK.out.1).2 rfl HMH.out); clear hb)
        | (go_at_call 35; (with_reducible refine HMT.out.mono ?_); rintro e w8 ⟨rfl, hb⟩; have HB8 := Lib.hid (Epo.bel_trans HB7.out hb); have HO8 := Lib.hid (HO7.out.below hb); have HAT8 := Lib.hid (HAT7.out.below hb); clear q0 q1 q2 q3 q4 q5 q6 q7 q8 q9; clear hb; have hba := belA w8 (.cells #[.int .i64 p.pid, .int .i64 p.gen, .slice A2 n2 c2] 55); have HB9 := Lib.hid (Epo.bel_trans HB8.out hba); have HO9 := Lib.hid (HO8.out.below hba); have HAT9 := Lib.hid (HAT8.out.below hba); have HPB9 := Lib.hid (At0.new w8 [.int .i64 p.pid, .int .i64 p.gen, .slice A2 n2 c2] 55); clear hba; obtain ⟨q0, q1, q2, q3, q4, q5, q6, q7, q8, q9⟩ := cel10 HAT9.out; obtain ⟨p0, p1, p2⟩ := cel3 HPB9.out; have HLK := Lib.hid (look_is p.pid p.gen p.did A2 n2 c2 ba la fr ep pi ge se tx ct rs AR nR cR (w8.alloc (.cells #[.int .i64 p.pid, .int .i64 p.gen, .slice A2 n2 c2] 55)) (by have h9 := lookIn_of HLS.out (kids_of HO9.out) HCK.out.1 ba la fr ep pi ge se tx ct rs HC.out HMH.out; rw [← HPE.out] at h9; exact h9) HLM.out))
        | (go_at_call 34; (with_reducible refine HLK.out.mono ?_); rintro e wa ⟨rfl, hb⟩; have HBa := Lib.hid (Epo.bel_trans HB9.out hb); have HOa := Lib.hid (HO9.out.below hb); have HATa := Lib.hid (HAT9.out.below hb); have HPBa := Lib.hid (HPB9.out.below hb); clear q0 q1 q2 q3 q4 q5 q6 q7 q8 q9 p0 p1 p2; obtain ⟨q0, q1, q2, q3, q4, q5, q6, q7, q8, q9⟩ := cel10 HATa.out; obtain ⟨p0, p1, p2⟩ := cel3 HPBa.out; clear hb))
      have HMO := Lib.hid (met_own HOa.out HLS.out HMH.out)
      have hkl := HMO.out.2.1.len didS
      have HN2 := Lib.hid (show n2 ≤ 5 from by
        have h9 := (met_ok (b := ⟨ba, la, fr, ep, pi, ge, se, tx, ct, rs⟩) HCK.out.1).2
        rw [← HPE.out] at h9
        omega)
      have HHI := Lib.hid (show LookIn wa p.did A2 n2 la ba se (lastN ⟨ba, la, fr, ep, pi, ge, se, tx, ct, rs⟩) from by have h9 := lookIn_of HLS.out (kids_of HOa.out) HCK.out.1 ba la fr ep pi ge se tx ct rs HC.out HMH.out; rw [← HPE.out] at h9; exact h9)
      clear hkl
      by_cases hE : E1 = 111
      · subst hE
        have HST := Lib.hid (seq_tells HLM.out)
        obtain ⟨nx, hnx⟩ : ∃ nx, nextQ p.did = nx := ⟨_, rfl⟩
        have HNX := Lib.hid hnx
        clear hnx
        have HNT := Lib.hid (next_is p.pid p.gen A2 n2 c2 p.did wa.drew HHI.out.rd HHI.out.len HHI.out.high HNX.out)
        have HDa := Lib.hid (show At0 wa.drew bx [.int .i64 ba, .int .i64 la, .int .i64 fr, .int .i64 ep, .int .i64 pi, .int .i64 ge, .int .i64 se, .bool tx, .int .i64 ct, .slice AR nR cR] 25 from HATa.out)
        have HDp := Lib.hid (show At0 wa.drew w8.heap.size [.int .i64 p.pid, .int .i64 p.gen, .slice A2 n2 c2] 55 from HPBa.out)
        have hT1 : T1 = false := HST.out.2.2.2.2.2
        subst hT1
        by_cases hsq : nx < se
        · have HSP := Lib.hid (ofS_skip HCK.out.1 HC.out HLM2.out (by rw [← HPE.out, HNX.out]; exact hsq) HL24.out)
          obtain ⟨dd, hdd⟩ : ∃ dd, (bhP ⟨p.pid, p.gen, []⟩ ⟨ba, la, fr, ep, pi, ge, se, tx, ct, rs⟩).did = dd := ⟨_, rfl⟩
          have HDD := Lib.hid hdd
          have HXE := Lib.hid (show (if findP l p.pid = none ∧ l.length = 1024 then ([], (2 : Int)) else (withP l ⟨p.pid, p.gen, dd⟩, 0)) = (ofS l ⟨ba, la, fr, ep, pi, ge, se, tx, ct, rs⟩, 0) from by
            have h8 := HL24.out
            rw [if_neg (fun h9 => by omega), HSP.out, ← HPE.out, ← hdd]
            congr 2
            unfold bhP
            split <;> rfl)
          clear hdd
          go_region_with (go_at_call 50; (with_reducible refine HNT.out.mono ?_); rintro e wb ⟨rfl, hb⟩; have HBb := Lib.hid (Epo.bel_trans (bel_drew HBa.out) hb); have HOb := Lib.hid (OwnO.below HOa.out.drew hb); have HATb := Lib.hid (HDa.out.below hb); have HPBb := Lib.hid (HDp.out.below hb); have HW8 := Lib.hid (show w.heap.size ≤ w8.heap.size from HB8.out.size); clear q0 q1 q2 q3 q4 q5 q6 q7 q8 q9 p0 p1 p2; obtain ⟨q0, q1, q2, q3, q4, q5, q6, q7, q8, q9⟩ := cel10 HATb.out; obtain ⟨p0, p1, p2⟩ := cel3 HPBb.out; obtain ⟨f0, f1, f2⟩ := frz3 HPBb.out; clear hb)
          all_goals go_upto_region 10 with fail
          all_goals have HPq := Lib.hid (at0_set9 HPBb.out 2 (.slice none 0 0))
          all_goals have HATq := Lib.hid (at0_grown HATb.out (grown_set9 (a := ⟨w8.heap.size, 2, none⟩) (.slice none 0 0)) (fun e => by have h1 := Option.some.inj e; simp only at h1; have h2 := HAT8.out.lt; omega))
          all_goals have HBq := Lib.hid (show Below w.heap.size w (wb.setCell ⟨w8.heap.size, 2, none⟩ (.slice none 0 0)) from HBb.out.setCell HW8.out _)
          all_goals have HOq := Lib.hid (ownQ_box HOb.out HO8.out (.slice none 0 0))
          all_goals clear q0 q1 q2 q3 q4 q5 q6 q7 q8 q9 p0 p1 p2 f0 f1 f2
          all_goals generalize wb.setCell ⟨w8.heap.size, 2, none⟩ (.slice none 0 0) = wq at *
          all_goals obtain ⟨q0, q1, q2, q3, q4, q5, q6, q7, q8, q9⟩ := cel10 HATq.out
          all_goals obtain ⟨p0, p1, p2⟩ := cel3 HPq.out
          all_goals have HMQ := Lib.hid (show OwnQ wq w.heap.size (.slice A1 n1 c1) n1 hs (S9 l (atP l pi) pi) ∧ OwnD wq w.heap.size (.slice none 0 0) 0 ([] : List Dd) ∧ Off (.slice none 0 0) (.slice A1 n1 c1) hs (S9 l (atP l pi) pi) from ⟨HOq.out.less (fun _ _ => trivial), OwnF.nil, Off.nil⟩)
          all_goals have HNQ := Lib.hid (show 0 ≤ 5 by omega)
          all_goals go_wp2_with (first
            | (go_at_call 46; have HBH := Lib.hid (behind_any p.pid p.gen ([] : List Dd) none 0 0 w.heap.size ba la fr ep pi ge se tx ct rs AR nR cR wq HMQ.out.2.1 HBq.out.size HNQ.out HC.out HDD.out); (with_reducible refine HBH.out.mono ?_); rintro e wr6 ⟨A6, n6, c6, rfl, hk6, hs6, hg6⟩; have HO6' := Lib.hid (OwnO.by HMQ.out.1 HMQ.out.2.2 hg6); have HB6' := Lib.hid (HBq.out.trans (below_row9 HMQ.out.2.1 hg6 HBq.out.size)); have HN6 := Lib.hid (show n6 ≤ 6 from by have h9 := hk6.len didS; have h8 := bh_len (p := ⟨p.pid, p.gen, ([] : List Dd)⟩) (b := ⟨ba, la, fr, ep, pi, ge, se, tx, ct, rs⟩); have h7 := HMQ.out.2.1.len didS; have h6 := HNQ.out; rw [HDD.out] at h8; simp only at h8; omega); have HPT := Lib.hid (put_any A1 n1 c1 w.heap.size hs l HLS.out (-1) p.pid p.gen dd A6 n6 c6 wr6 (by rw [HPID.out]; exact HO6'.out) HB6'.out.size (by omega) (ckP_iff.1 HCK.out.1).2 (by rw [HPID.out]) hk6 (by have := HN6.out; omega) (by rw [HPID.out]; exact off_stays HMQ.out.1 HMQ.out.2.2 hs6) HXE.out); clear hk6 hs6 hg6)
            | (go_at_call 45; (with_reducible refine HPT.out.mono ?_); rintro e wr7 ⟨A7, n7, c7, hs7, rfl, ho, hl, hb⟩; have HO7' := Lib.hid ho; have HL7 := Lib.hid hl; have HB7' := Lib.hid (HB6'.out.trans hb); clear ho hl hb))
          all_goals go_roundw
          all_goals first | exact ⟨k + 1, A7, n7, c7, hs7, by go_num, rfl, by have := HLN.out; omega, HO7'.out, by rw [HSTEP.out]; exact HL7.out, HB7'.out⟩ | (simp [intOf]; omega)
        · have HS9 := Lib.hid (ofS_stay HCK.out.1 HC.out HLM2.out (.inr ⟨by decide, fun h9 => hsq (by have h8 := h9.2; rw [← HPE.out, HNX.out] at h8; exact h8)⟩))
          go_region_with (go_at_call 50; (with_reducible refine HNT.out.mono ?_); rintro e wb ⟨rfl, hb⟩; have HBb := Lib.hid (Epo.bel_trans (bel_drew HBa.out) hb); have HOb := Lib.hid (OwnO.below HOa.out.drew hb); have HATb := Lib.hid (HDa.out.below hb); clear q0 q1 q2 q3 q4 q5 q6 q7 q8 q9; obtain ⟨q0, q1, q2, q3, q4, q5, q6, q7, q8, q9⟩ := cel10 HATb.out; clear hb)
          all_goals go_wp2
          all_goals go_roundw
          all_goals first | exact ⟨k + 1, A1, n1, c1, hs, by go_num, rfl, by have := HLN.out; omega, HOb.out, by rw [HSTEP.out, HS9.out]; exact HLS.out, HBb.out⟩ | (simp [intOf]; omega)
      · have hE2 : (E1 == 111) = false := beq_eq_false_iff_ne.2 hE
        have HBd := Lib.hid (bel_drew HBa.out)
        have HOd := Lib.hid HOa.out.drew
        by_cases hst : T1 = true ∨ E1 ≠ 0
        · have HS9 := Lib.hid (ofS_stay HCK.out.1 HC.out HLM2.out (hst.elim .inl fun h => .inr ⟨h, fun h9 => hE h9.1⟩))
          have hE3 : T1 = false → (E1 == 0) = false := fun h => beq_eq_false_iff_ne.2 (hst.elim (fun h9 => by rw [h] at h9; cases h9) id)
          clear hst hE
          cases T1 with
          | true =>
            go_big_region
            go_wp2
            go_roundw
            case rel => exact ⟨k + 1, A1, n1, c1, hs, by go_num, rfl, by have := HLN.out; omega, HOd.out, by rw [HSTEP.out, HS9.out]; exact HLS.out, HBd.out⟩
            case measure => simp [intOf]; omega
          | false =>
            have hE4 := hE3 rfl
            have hE5 : (E1 != 0) = true := by rw [bne, hE4]; rfl
            clear hE3
            go_big_region
            go_wp2
            go_roundw
            case rel => exact ⟨k + 1, A1, n1, c1, hs, by go_num, rfl, by have := HLN.out; omega, HOd.out, by rw [HSTEP.out, HS9.out]; exact HLS.out, HBd.out⟩
            case measure => simp [intOf]; omega
        · have hT1 : T1 = false := by cases T1 with | true => exact absurd (.inl rfl) hst | false => rfl
          have hE1 : E1 = 0 := by by_cases h : E1 = 0; exact h; exact absurd (.inr h) hst
          subst hT1; subst hE1
          have HSP := Lib.hid (ofS_put HCK.out.1 HC.out HLM2.out (by show ¬ pi < 0; omega) HL24.out)
          obtain ⟨dd, hdd⟩ : ∃ dd, (bhP ⟨p.pid, p.gen, p.did⟩ ⟨ba, la, fr, ep, pi, ge, se, tx, ct, rs⟩).did = dd := ⟨_, rfl⟩
          have HDD := Lib.hid hdd
          have HXE := Lib.hid (show (if findP l p.pid = none ∧ l.length = 1024 then ([], (2 : Int)) else (withP l ⟨p.pid, p.gen, dd⟩, 0)) = (ofS l ⟨ba, la, fr, ep, pi, ge, se, tx, ct, rs⟩, 0) from by
            have h8 := HL24.out
            rw [if_neg (fun h9 => by omega), HSP.out, ← HPE.out, ← hdd]
            congr 2
            unfold bhP
            split <;> rfl)
          clear hdd hst hE hE2
          have HBq := Lib.hid (bel_drew HBa.out)
          have HMQ := Lib.hid (show OwnQ wa.drew w.heap.size (.slice A1 n1 c1) n1 hs (S9 l (atP l pi) pi) ∧ OwnD wa.drew w.heap.size (.slice A2 n2 c2) n2 p.did ∧ Off (.slice A2 n2 c2) (.slice A1 n1 c1) hs (S9 l (atP l pi) pi) from ⟨HMO.out.1.drew, HMO.out.2.1, HMO.out.2.2⟩)
          have HNQ := Lib.hid HN2.out
          go_big_region
          go_wp2_with (first
            | (go_at_call 46; have HBH := Lib.hid (behind_any p.pid p.gen p.did A2 n2 c2 w.heap.size ba la fr ep pi ge se tx ct rs AR nR cR wa.drew HMQ.out.2.1 HBq.out.size HNQ.out HC.out HDD.out); (with_reducible refine HBH.out.mono ?_); rintro e wr6 ⟨A6, n6, c6, rfl, hk6, hs6, hg6⟩; have HO6' := Lib.hid (OwnO.by HMQ.out.1 HMQ.out.2.2 hg6); have HB6' := Lib.hid (HBq.out.trans (below_row9 HMQ.out.2.1 hg6 HBq.out.size)); have HN6 := Lib.hid (show n6 ≤ 6 from by have h9 := hk6.len didS; have h8 := bh_len (p := ⟨p.pid, p.gen, p.did⟩) (b := ⟨ba, la, fr, ep, pi, ge, se, tx, ct, rs⟩); have h7 := HMQ.out.2.1.len didS; have h6 := HNQ.out; rw [HDD.out] at h8; simp only at h8; omega); have HPT := Lib.hid (put_any A1 n1 c1 w.heap.size hs l HLS.out (-1) p.pid p.gen dd A6 n6 c6 wr6 (by rw [HPID.out]; exact HO6'.out) HB6'.out.size (by omega) (ckP_iff.1 HCK.out.1).2 (by rw [HPID.out]) hk6 (by have := HN6.out; omega) (by rw [HPID.out]; exact off_stays HMQ.out.1 HMQ.out.2.2 hs6) HXE.out); clear hk6 hs6 hg6)
            | (go_at_call 45; (with_reducible refine HPT.out.mono ?_); rintro e wr7 ⟨A7, n7, c7, hs7, rfl, ho, hl, hb⟩; have HO7' := Lib.hid ho; have HL7 := Lib.hid hl; have HB7' := Lib.hid (HB6'.out.trans hb); clear ho hl hb))
          go_roundw
          all_goals first | exact ⟨k + 1, A7, n7, c7, hs7, by go_num, rfl, by have := HLN.out; omega, HO7'.out, by rw [HSTEP.out]; exact HL7.out, HB7'.out⟩ | (simp [intOf]; omega)
    · obtain rfl : k = n := by have := HLN.out; omega
      have HTK := Lib.hid (show bs.take k = bs from List.take_of_length_le (by have := HLN.out; omega))
      go_wp2
      go_ret
      exact ⟨A1, n1, c1, hs, rfl, HO.out, by rw [HLS.out, HTK.out, HX.out], HB.out⟩
end Go.Proofs.YtllebgadhhgckaaDoor.Sqs
