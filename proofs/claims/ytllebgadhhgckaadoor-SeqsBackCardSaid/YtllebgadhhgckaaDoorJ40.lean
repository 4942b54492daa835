/- Joined: SqsD3, SqsD6, SqsD8. -/
import Derived.Test.YtllebgadhhgckaaDoorJ39
import Derived.Test.YtllebgadhhgckaaDoorJ35
import Derived.Test.YtllebgadhhgckaaDoorJ29
/- The landed seqs: Check. -/
namespace Go.Proofs.YtllebgadhhgckaaDoor.Sqs
open Go.RowKit Oct RowF RowK Lay Bat InR
open Epo (At0 AtO belA)

def dkRel (l : List Pd) (n : Nat) (w : World) (lv iv : Value) (wr : World) : Prop :=
  ∃ k : Nat, ∃ p : Int, lv = .int .i64 (p + 1) ∧ iv = .int .i64 (k : Int) ∧ k ≤ n ∧ -1 ≤ p ∧ p ≤ 1099511627776 ∧ chP (-1) l = chP p (l.drop k) ∧ Below w.heap.size w wr
set_option maxRecDepth 100000 in
set_option maxHeartbeats 8000000 in
theorem dCheckP_is (A : Option Addr) (n c : Nat) (l : List Pd) (w : World) (hr : RdP w w.heap.size A n l) (hn : n ≤ reach) {C : Int} (hC : ckP l = C) :
    Calls Tryd.prog 16 #[.slice A n c] w fun e w' => e = .returned (.int .i64 C) ∧ Below w.heap.size w w' := by
  have hlen := hr.len
  have hn9 : n ≤ 140737488351232 := hn
  by_cases h4 : 1024 < n
  · have h5 : (1024 : Int) < (n : Int) := by omega
    obtain rfl : 2 = C := by rw [← hC]; unfold ckP; rw [if_pos (by omega)]
    clear hr hC hn hlen
    go_enter Tryd.func16, Tryd.ntmps16
    go_wp2
    go_ret
    exact ⟨rfl, Below.refl _ _⟩
  have h5 : ¬ (1024 : Int) < (n : Int) := by omega
  have hC2 : (if chP (-1) l = true then (0 : Int) else 1) = C := by rw [← hC]; exact (if_neg (by omega)).symm
  have HC := Lib.hid hC2
  have HR := Lib.hid hr
  have HLEN := Lib.hid hlen
  clear hr hC hC2 hn hlen
  go_enter Tryd.func16, Tryd.ntmps16
  go_wp2
  go_loopw [3, 11] (fun lv iv wr => dkRel l n w lv iv wr) (fun _ iv _ => n - (intOf iv).toNat)
  case atStart => exact ⟨0, -1, rfl, rfl, Nat.zero_le _, by omega, by omega, rfl, Below.refl _ _⟩
  case round =>
    obtain ⟨k, p, rfl, rfl, hk, hp0, hp1, hch, hb⟩ := hrel
    have HCH := Lib.hid hch
    have HB0 := Lib.hid hb
    have HR0 := Lib.hid (rdkUp HR.out hb)
    clear hch hb
    by_cases hlt : k < n
    · obtain ⟨b, o, ⟨x0, x1, xd⟩, A', n', c', rfl, hbl, hxk, hc', hn', hrd, d0, d1, d2⟩ := pr_at HR0.out hlt
      simp only at d0 d1 hrd
      have HX := Lib.hid hxk
      have HAT := Lib.hid (chP_at (v := p) hxk)
      have hw1 : IntKind.i64.wrap ((k : Int) + 1) = (k : Int) + 1 := IntWalk.i64_in _ (by omega)
      have hkl : (k : Int) < (n : Int) := by omega
      have hk0 : (0 : Int) ≤ (k : Int) := by omega
      go_upto_region 7 with fail
      have hba := belA wr (.cells #[.int .i64 x0, .int .i64 x1, .slice A' n' c'] 55)
      have HB1 := Lib.hid (Epo.bel_trans HB0.out hba)
      have HD1 := Lib.hid (rddUp hrd hba)
      have HAT1 := Lib.hid (At0.new wr [.int .i64 x0, .int .i64 x1, .slice A' n' c'] 55)
      obtain ⟨q0, q1, q2⟩ := cel3 HAT1.out
      clear hba d0 d1 d2 hxk hbl hrd
      generalize (wr.alloc (.cells #[.int .i64 x0, .int .i64 x1, .slice A' n' c'] 55)) = W at *
      have HBAD := Lib.hid (show prOk p ⟨x0, x1, xd⟩ = false → C = 1 from fun h9 => by rw [← HC.out, HCH.out, HAT.out, h9]; rfl)
      have HGOOD := Lib.hid (show prOk p ⟨x0, x1, xd⟩ = true → chP (-1) l = chP x0 (l.drop (k + 1)) from fun h9 => by rw [HCH.out, HAT.out, h9, Bool.true_and])
      rcases h1 : decide (p + 1 ≤ x0 ∧ x0 ≤ 1099511627776) with _ | _
      · have HZF := Lib.hid (HBAD.out (by unfold prOk; rw [decide_eq_false (by have := of_decide_eq_false h1; simp only; omega)]; rfl))
        have H1 := Lib.hid h1
        clear h1
        go_wp2_with (go_at_call 40; (with_reducible refine (within_at x0 (p + 1) 1099511627776 _ H1.out).mono ?_); rintro e w2 ⟨rfl, rfl⟩)
        go_ret
        exact ⟨by rw [HZF.out]; rfl, HB1.out⟩
      have hx0 := of_decide_eq_true h1
      have H1 := Lib.hid h1
      clear h1
      rcases h2 : decide (0 ≤ x1 ∧ x1 ≤ 1048576) with _ | _
      · have HZF := Lib.hid (HBAD.out (by unfold prOk; rw [decide_eq_false (by have := of_decide_eq_false h2; simp only; omega)]; rfl))
        have H2 := Lib.hid h2
        clear h2 hx0
        go_wp2_with (first
          | (go_at_call 40; (with_reducible refine (within_at x0 (p + 1) 1099511627776 _ H1.out).mono ?_); rintro e w2 ⟨rfl, rfl⟩)
          | (go_at_call 40; (with_reducible refine (within_at x1 0 1048576 _ H2.out).mono ?_); rintro e w2 ⟨rfl, rfl⟩))
        go_ret
        exact ⟨by rw [HZF.out]; rfl, HB1.out⟩
      have hx1 := of_decide_eq_true h2
      have H2 := Lib.hid h2
      clear h2
      have hpr : prOk p ⟨x0, x1, xd⟩ = didOk xd := by unfold prOk; rw [decide_eq_true (by simp only; omega), Bool.true_and]
      have HPR := Lib.hid hpr
      have HX0 := Lib.hid hx0
      clear hpr hx1
      rcases h3 : didOk xd with _ | _
      · have HZF := Lib.hid (HBAD.out (by rw [HPR.out, h3]))
        have H3 := Lib.hid h3
        clear h3 hx0
        go_wp2_with (first
          | (go_at_call 40; (with_reducible refine (within_at x0 (p + 1) 1099511627776 _ H1.out).mono ?_); rintro e w2 ⟨rfl, rfl⟩)
          | (go_at_call 40; (with_reducible refine (within_at x1 0 1048576 _ H2.out).mono ?_); rintro e w2 ⟨rfl, rfl⟩)
          | (go_at_call 41; (with_reducible refine (follow_is A' n' c' xd _ HD1.out hn' H3.out).mono ?_); rintro e w3 ⟨rfl, hb⟩; have HB3 := Lib.hid (bel_trans HB1.out hb); clear hb))
        go_ret
        exact ⟨by rw [HZF.out]; rfl, HB3.out⟩
      · have HG := Lib.hid (HGOOD.out (by rw [HPR.out, h3]))
        have H3 := Lib.hid h3
        have hw2 : IntKind.i64.wrap (x0 + 1) = x0 + 1 := IntWalk.i64_in _ (by omega)
        clear h3 hx0
        go_wp2_with (first
          | (go_at_call 40; (with_reducible refine (within_at x0 (p + 1) 1099511627776 _ H1.out).mono ?_); rintro e w2 ⟨rfl, rfl⟩)
          | (go_at_call 40; (with_reducible refine (within_at x1 0 1048576 _ H2.out).mono ?_); rintro e w2 ⟨rfl, rfl⟩)
          | (go_at_call 41; (with_reducible refine (follow_is A' n' c' xd _ HD1.out hn' H3.out).mono ?_); rintro e w3 ⟨rfl, hb⟩; have HB3 := Lib.hid (bel_trans HB1.out hb); obtain ⟨r0, r1, r2⟩ := cel3 (HAT1.out.below hb); clear hb))
        go_roundw
        case rel => exact ⟨k + 1, x0, rfl, by go_num, by omega, by have := HX0.out; omega, by have := HX0.out; omega, HG.out, HB3.out⟩
        case measure => simp [intOf]; omega
    · have hkn : k = n := by omega
      subst hkn
      have HE := Lib.hid (show C = 0 from by
        rw [← HC.out, HCH.out, List.drop_of_length_le (by rw [HLEN.out]; exact Nat.le_refl _)]
        rfl)
      go_wp2
      go_ret
      exact ⟨by rw [HE.out]; rfl, HB0.out⟩
end Go.Proofs.YtllebgadhhgckaaDoor.Sqs

/- The landed seqs: met. -/
namespace Go.Proofs.YtllebgadhhgckaaDoor.Sqs
open Go.RowKit Oct Rec RowF RowK Lay Bat InR
open Epo (At0 AtO belA)

set_option maxRecDepth 100000 in
set_option maxHeartbeats 8000000 in
theorem met_old_is (A : Option Addr) (n c : Nat) (hs : List (KX Pd)) (l : List Pd) (hls : hs.map (·.1) = l) (ba la fr ep pi ge se : Int) (tx : Bool) (ct : Int) (AR : Option Addr) (nR cR : Nat) (v0 : Int) (w : World) (hr : RdH w w.heap.size A n hs) (hn : n ≤ 1099511627776) (hc : chP v0 l = true) {k : Nat} (hk : atP l pi = k) {x : Pd} {A2 : Option Addr} {n2 c2 : Nat} (hx : hs[k]? = some (x, A2, n2, c2)) (hp : x.pid = pi) (hg : ge ≤ x.gen) :
    Calls Tryd.prog 35 #[.slice A n c, .agg #[.int .i64 ba, .int .i64 la, .int .i64 fr, .int .i64 ep, .int .i64 pi, .int .i64 ge, .int .i64 se, .bool tx, .int .i64 ct, .slice AR nR cR]] w fun e w' => e = .returned (.agg #[.int .i64 x.pid, .int .i64 x.gen, .slice A2 n2 c2]) ∧ Below w.heap.size w w' := by
  have hb1 := belA w (.cells #[.int .i64 ba, .int .i64 la, .int .i64 fr, .int .i64 ep, .int .i64 pi, .int .i64 ge, .int .i64 se, .bool tx, .int .i64 ct, .slice AR nR cR] 25)
  have hb2 := belA (w.alloc (.cells #[.int .i64 ba, .int .i64 la, .int .i64 fr, .int .i64 ep, .int .i64 pi, .int .i64 ge, .int .i64 se, .bool tx, .int .i64 ct, .slice AR nR cR] 25)) (.cells #[.int .i64 0, .int .i64 0, .slice none 0 0] 55)
  have HB := Lib.hid (Epo.bel_trans hb1 hb2)
  have HR := Lib.hid (rdhUp hr HB.out)
  have HAT := Lib.hid ((At0.new w [.int .i64 ba, .int .i64 la, .int .i64 fr, .int .i64 ep, .int .i64 pi, .int .i64 ge, .int .i64 se, .bool tx, .int .i64 ct, .slice AR nR cR] 25).below hb2)
  have h3 := At0.new (w.alloc (.cells #[.int .i64 ba, .int .i64 la, .int .i64 fr, .int .i64 ep, .int .i64 pi, .int .i64 ge, .int .i64 se, .bool tx, .int .i64 ct, .slice AR nR cR] 25)) [.int .i64 0, .int .i64 0, .slice none 0 0] 55
  simp only [World.size_alloc] at h3
  have HP := Lib.hid h3
  have HLS := Lib.hid hls
  have HK := Lib.hid hk
  have HC := Lib.hid hc
  have HX := Lib.hid hx
  have hlen := hr.len
  have hkn : k < n := by have := (List.getElem?_eq_some_iff.1 hx).1; omega
  have HZ := Lib.hid (show (match l[k]? with | some x => decide (x.pid = pi) | none => false) = true from by rw [← hls, List.getElem?_map, hx]; exact decide_eq_true hp)
  have hkl : (k : Int) < (n : Int) := by omega
  have hk0 : (0 : Int) ≤ (k : Int) := by omega
  clear hb1 hb2 h3 hr hls hk hc hlen hp hx
  go_enter Tryd.func35, Tryd.ntmps35
  go_upto_region 1 with fail
  generalize ((w.alloc (.cells #[.int .i64 ba, .int .i64 la, .int .i64 fr, .int .i64 ep, .int .i64 pi, .int .i64 ge, .int .i64 se, .bool tx, .int .i64 ct, .slice AR nR cR] 25)).alloc (.cells #[.int .i64 0, .int .i64 0, .slice none 0 0] 55)) = W at *
  obtain ⟨q0, q1, q2, q3, q4, q5, q6, q7, q8, q9⟩ := cel10 HAT.out
  go_upto_region 2 with (go_at_call 65; (with_reducible refine (find_is _ n c hs l HLS.out pi v0 _ HR.out hn HC.out HK.out HZ.out).mono ?_); rintro e w2 ⟨rfl, hb⟩; have HB2 := Lib.hid (Epo.bel_trans HB.out hb); have HR2 := Lib.hid (rdhUp HR.out hb); have HAT2 := Lib.hid (HAT.out.below hb); have HP2 := Lib.hid (HP.out.below hb); clear hb)
  clear q0 q1 q2 q3 q4 q5 q6 q7 q8 q9
  obtain ⟨q0, q1, q2, q3, q4, q5, q6, q7, q8, q9⟩ := cel10 HAT2.out
  obtain ⟨b, o, y, A3, n3, c3, rfl, hb, _, hy, d0, d1, d2⟩ := row_at HR2.out HLS.out hkn
  obtain ⟨rfl, rfl, rfl, rfl⟩ : x = y ∧ A2 = A3 ∧ n2 = n3 ∧ c2 = c3 := by have h9 := Option.some.inj (HX.out.symm.trans hy); injection h9 with e1 e2; injection e2 with e2 e3; injection e3 with e3 e4; exact ⟨e1, e2, e3, e4⟩
  clear hy hb
  go_big_region
  go_upto_region 3 with fail
  have hd := bel_drew (Below.refl w2.heap.size w2)
  have HB3 := Lib.hid (Epo.bel_trans HB2.out hd)
  have HP3 := Lib.hid (HP2.out.below hd)
  have e0 : w2.drew.cell? ⟨b, o + k * 3, none⟩ = some (.int .i64 x.pid) := d0
  have e1 : w2.drew.cell? ⟨b, o + k * 3 + 1, none⟩ = some (.int .i64 x.gen) := d1
  have e2 : w2.drew.cell? ⟨b, o + k * 3 + 2, none⟩ = some (.slice A2 n2 c2) := d2
  clear q0 q1 q2 q3 q4 q5 q6 q7 q8 q9 d0 d1 d2 hd
  generalize w2.drew = w3 at *
  obtain ⟨p0, p1, p2⟩ := cel3 HP3.out
  obtain ⟨f0, f1, f2⟩ := frz3 HP3.out
  go_wp2
  refine bodyPost_ret (v := .agg #[.int .i64 x.pid, .int .i64 x.gen, .slice A2 n2 c2]) (by simp [results, Tryd.results35, go_sem, p0, p1, p2]) rfl ?_
  exact ⟨rfl, bel_set3 HB3.out (by omega) _ _ _⟩
theorem met_is (A : Option Addr) (n c : Nat) (hs : List (KX Pd)) (l : List Pd) (hls : hs.map (·.1) = l) (ba la fr ep pi ge se : Int) (tx : Bool) (ct : Int) (AR : Option Addr) (nR cR : Nat) (v0 : Int) (w : World) (hr : RdH w w.heap.size A n hs) (hn : n ≤ 1099511627776) (hc : chP v0 l = true) {k : Nat} (hk : atP l pi = k) {p : Pd} {A2 : Option Addr} {n2 c2 : Nat} (hm : metH hs k pi ge = (p, A2, n2, c2)) :
    Calls Tryd.prog 35 #[.slice A n c, .agg #[.int .i64 ba, .int .i64 la, .int .i64 fr, .int .i64 ep, .int .i64 pi, .int .i64 ge, .int .i64 se, .bool tx, .int .i64 ct, .slice AR nR cR]] w fun e w' => e = .returned (.agg #[.int .i64 p.pid, .int .i64 p.gen, .slice A2 n2 c2]) ∧ Below w.heap.size w w' := by
  unfold metH at hm
  cases hx : hs[k]? with
  | none =>
    rw [hx] at hm
    simp only at hm
    injection hm with e1 e2; injection e2 with e2 e3; injection e3 with e3 e4
    subst e1; subst e2; subst e3; subst e4
    exact met_new A n c hs l hls ba la fr ep pi ge se tx ct AR nR cR v0 w hr hn hc hk fun x h => by rw [hx] at h; cases h
  | some x =>
    rw [hx] at hm
    simp only at hm
    by_cases h9 : x.1.pid = pi ∧ ge ≤ x.1.gen
    · rw [if_pos h9] at hm
      subst hm
      exact met_old_is A n c hs l hls ba la fr ep pi ge se tx ct AR nR cR v0 w hr hn hc hk hx h9.1 h9.2
    · rw [if_neg h9] at hm
      injection hm with e1 e2; injection e2 with e2 e3; injection e3 with e3 e4
      subst e1; subst e2; subst e3; subst e4
      exact met_new A n c hs l hls ba la fr ep pi ge se tx ct AR nR cR v0 w hr hn hc hk fun y h => by rw [hx] at h; obtain rfl := Option.some.inj h; exact h9
end Go.Proofs.YtllebgadhhgckaaDoor.Sqs

/- The landed seqs: Look. -/
namespace Go.Proofs.YtllebgadhhgckaaDoor.Sqs
open Go.RowKit Oct Rec Crc RowF RowK Lay Bat InR
open Epo (At0 AtO belA)

theorem lookIn_of {w : World} {hs : List (KX Pd)} {l : List Pd} (hls : hs.map (·.1) = l) (hkid : ∀ x ∈ hs, x.2.2.1 ≤ reach ∧ RdD w w.heap.size x.2.1 x.2.2.1 x.1.did) (hC : ckP l = 0) (ba la fr ep pi ge se : Int) (tx : Bool) (ct : Int) (rs : List Rc) (hB : chB ⟨ba, la, fr, ep, pi, ge, se, tx, ct, rs⟩ = 0) {x : KX Pd} (hm : metH hs (atP l pi) pi ge = x) : LookIn w (metP l ⟨ba, la, fr, ep, pi, ge, se, tx, ct, rs⟩).did x.2.1 x.2.2.1 la ba se (lastN ⟨ba, la, fr, ep, pi, ge, se, tx, ct, rs⟩) := by
  have hfm := (chB_form hB).1
  have h1 := hfm.seq0; have h2 := hfm.seq1; have h3 := hfm.seq2; have h4 := hfm.base0; have h5 := hfm.last1; have h6 := hfm.le; have h7 := hfm.near
  simp only at h1 h2 h3 h4 h5 h6 h7
  have hx := metH_is hls (ckP_iff.1 hC).2 ⟨ba, la, fr, ep, pi, ge, se, tx, ct, rs⟩
  have hx2 : x.1 = metP l ⟨ba, la, fr, ep, pi, ge, se, tx, ct, rs⟩ := by rw [← hm]; exact hx
  have hrd : x.2.2.1 ≤ reach ∧ RdD w w.heap.size x.2.1 x.2.2.1 x.1.did := by
    rw [← hm]
    unfold metH
    cases hk : hs[atP l pi]? with
    | none => exact ⟨Nat.zero_le _, RdF.nil⟩
    | some y =>
      simp only
      split
      · exact hkid y (List.mem_of_getElem? hk)
      · exact ⟨Nat.zero_le _, RdF.nil⟩
  rw [hx2] at hrd
  refine ⟨hrd.2, hrd.1, fun y hy => ?_, IntWalk.i64_in _ (by omega), ?_, rfl⟩
  · have h9 := (met_ok (b := ⟨ba, la, fr, ep, pi, ge, se, tx, ct, rs⟩) hC).1
    have h8 := chD_mem h9 y (List.mem_of_getLast? hy)
    unfold ddOk at h8
    have := of_decide_eq_true h8
    omega
  · show IntKind.i64.wrap (se + (la - ba)) = se + la - ba
    rw [show se + (la - ba) = se + la - ba by omega]
    exact IntWalk.i64_in _ (by omega)
set_option maxRecDepth 100000 in
set_option maxHeartbeats 8000000 in
theorem dLook_is (A : Option Addr) (n c : Nat) (l : List Pd) (ba la fr ep pi ge se : Int) (tx : Bool) (ct : Int) (rs : List Rc) (AR : Option Addr) (nR cR : Nat) (w : World) (hr : RdP w w.heap.size A n l) (hn : n ≤ reach) (hf : Fits ⟨ba, la, fr, ep, pi, ge, se, tx, ct, rs⟩) (hrr : RdR w w.heap.size AR nR rs) (hnR : nR ≤ 1099511627776) (ht : Tab w) {X E : Int} {T : Bool} (hL : lookP l ⟨ba, la, fr, ep, pi, ge, se, tx, ct, rs⟩ = (X, T, E)) :
    Calls Tryd.prog 14 #[.slice A n c, .agg #[.int .i64 ba, .int .i64 la, .int .i64 fr, .int .i64 ep, .int .i64 pi, .int .i64 ge, .int .i64 se, .bool tx, .int .i64 ct, .slice AR nR cR]] w fun e w' => e = .returned (.tuple #[.int .i64 X, .bool T, .int .i64 E]) ∧ Below w.heap.size w w' := by
  have hba := belA w (.cells #[.int .i64 ba, .int .i64 la, .int .i64 fr, .int .i64 ep, .int .i64 pi, .int .i64 ge, .int .i64 se, .bool tx, .int .i64 ct, .slice AR nR cR] 25)
  have HB1 := Lib.hid hba
  have HR1 := Lib.hid (rdkUp hr hba)
  have HRR1 := Lib.hid (rdrUp9 hrr hba)
  have HAT1 := Lib.hid (At0.new w [.int .i64 ba, .int .i64 la, .int .i64 fr, .int .i64 ep, .int .i64 pi, .int .i64 ge, .int .i64 se, .bool tx, .int .i64 ct, .slice AR nR cR] 25)
  have HT1 := Lib.hid (ht.bel hba)
  have HF := Lib.hid hf
  obtain ⟨C1, hC1⟩ : ∃ C1, ckP l = C1 := ⟨_, rfl⟩
  obtain ⟨C2, hC2⟩ : ∃ C2, chB ⟨ba, la, fr, ep, pi, ge, se, tx, ct, rs⟩ = C2 := ⟨_, rfl⟩
  have HC1 := Lib.hid hC1
  have HC2 := Lib.hid hC2
  have HLN := Lib.hid hr.len
  clear hba hr hrr ht hf
  by_cases h1 : C1 = 0
  case neg =>
    obtain ⟨rfl, rfl, rfl⟩ : (0 : Int) = X ∧ false = T ∧ C1 = E := by unfold lookP at hL; rw [hC1, if_pos (show C1 ≠ 0 from h1)] at hL; simpa using hL
    have g1 : (C1 == 0) = false := beq_eq_false_iff_ne.2 h1
    clear hC1 hC2 hL h1
    go_enter Tryd.func14, Tryd.ntmps14
    go_wp2_with (go_at_call 16; (with_reducible refine (dCheckP_is A n c l _ HR1.out hn HC1.out).mono ?_); rintro e w2 ⟨rfl, hb⟩; have HB2 := Lib.hid (Epo.bel_trans HB1.out hb); clear hb)
    go_ret3
    exact ⟨rfl, HB2.out⟩
  subst h1
  have HCK := fun W : World => fun (h : RdP W W.heap.size A n l) => dCheckP_is A n c l W h hn HC1.out
  by_cases h2 : C2 = 0
  case neg =>
    obtain ⟨rfl, rfl, rfl⟩ : (0 : Int) = X ∧ false = T ∧ C2 = E := by unfold lookP at hL; rw [hC1, hC2, if_neg (show ¬ (0 : Int) ≠ 0 from fun h => h rfl), if_pos (show C2 ≠ 0 from h2)] at hL; simpa using hL
    have g1 : (C2 == 0) = false := beq_eq_false_iff_ne.2 h2
    clear hC1 hC2 hL h2 HCK
    go_enter Tryd.func14, Tryd.ntmps14
    go_wp2_with (first
      | (go_at_call 16; (with_reducible refine (dCheckP_is A n c l _ HR1.out hn HC1.out).mono ?_); rintro e w2 ⟨rfl, hb⟩; have HB2 := Lib.hid (Epo.bel_trans HB1.out hb); have HRR2 := Lib.hid (rdrUp9 HRR1.out hb); have HT2 := Lib.hid (HT1.out.bel hb); obtain ⟨q0, q1, q2, q3, q4, q5, q6, q7, q8, q9⟩ := cel10 (HAT1.out.below hb); clear hb)
      | (go_at_call 31; (with_reducible refine (BCheck_is ba la fr ep pi ge se tx ct rs AR nR cR _ HF.out HRR2.out hnR HT2.out HC2.out).mono ?_); rintro e w3 ⟨rfl, hb⟩; have HB3 := Lib.hid (Epo.bel_trans HB2.out hb); clear hb))
    go_ret3
    exact ⟨rfl, HB3.out⟩
  subst h2
  clear HCK
  have hn1024 := (ckP_iff.1 hC1).1
  rw [HLN.out] at hn1024
  rw [look_met hC1 hC2] at hL
  have HL := Lib.hid hL
  clear hL hC1 hC2
  go_enter Tryd.func14, Tryd.ntmps14
  go_upto_region 7 with (first
    | (go_at_call 16; (with_reducible refine (dCheckP_is A n c l _ HR1.out hn HC1.out).mono ?_); rintro e w2 ⟨rfl, hb⟩; have HB2 := Lib.hid (Epo.bel_trans HB1.out hb); have HR2 := Lib.hid (rdkUp HR1.out hb); have HRR2 := Lib.hid (rdrUp9 HRR1.out hb); have HT2 := Lib.hid (HT1.out.bel hb); have HAT2 := Lib.hid (HAT1.out.below hb); obtain ⟨q0, q1, q2, q3, q4, q5, q6, q7, q8, q9⟩ := cel10 HAT2.out; clear hb)
    | (go_at_call 31; (with_reducible refine (BCheck_is ba la fr ep pi ge se tx ct rs AR nR cR _ HF.out HRR2.out hnR HT2.out HC2.out).mono ?_); rintro e w3 ⟨rfl, hb⟩; have HB3 := Lib.hid (Epo.bel_trans HB2.out hb); have HR3 := Lib.hid (rdkUp HR2.out hb); have HAT3 := Lib.hid (HAT2.out.below hb); clear hb))
  obtain ⟨hs, hh, hls, hkid⟩ := HR3.out.lift
  rcases hm : metH hs (atP l pi) pi ge with ⟨p, A2, n2, c2⟩
  have HLS := Lib.hid hls
  have HPE := Lib.hid (show p = metP l ⟨ba, la, fr, ep, pi, ge, se, tx, ct, rs⟩ from by have h9 := metH_is hls (ckP_iff.1 HC1.out).2 ⟨ba, la, fr, ep, pi, ge, se, tx, ct, rs⟩; rw [show metH hs (atP l pi) pi ge = _ from hm] at h9; exact h9)
  have HMT := Lib.hid (met_is A n c hs l hls ba la fr ep pi ge se tx ct AR nR cR (-1) w3.drew hh (by omega) (ckP_iff.1 HC1.out).2 rfl hm)
  have HLI := Lib.hid (show LookIn w3 p.did A2 n2 la ba se (lastN ⟨ba, la, fr, ep, pi, ge, se, tx, ct, rs⟩) from by have h9 := lookIn_of hls (fun x hx => (hkid x hx).2) HC1.out ba la fr ep pi ge se tx ct rs HC2.out hm; rw [← HPE.out] at h9; exact h9)
  have HLM := Lib.hid (show lookM ⟨p.pid, p.gen, p.did⟩ ⟨ba, la, fr, ep, pi, ge, se, tx, ct, rs⟩ = (X, T, E) from by rw [HPE.out]; exact HL.out)
  clear hh hls hkid hm q0 q1 q2 q3 q4 q5 q6 q7 q8 q9
  have HAD := Lib.hid (show At0 w3.drew w.heap.size [.int .i64 ba, .int .i64 la, .int .i64 fr, .int .i64 ep, .int .i64 pi, .int .i64 ge, .int .i64 se, .bool tx, .int .i64 ct, .slice AR nR cR] 25 from HAT3.out)
  have HLD := Lib.hid (show LookIn w3.drew p.did A2 n2 la ba se (lastN ⟨ba, la, fr, ep, pi, ge, se, tx, ct, rs⟩) from ⟨HLI.out.rd, HLI.out.len, HLI.out.high, HLI.out.w1, HLI.out.w2, HLI.out.eq⟩)
  obtain ⟨q0, q1, q2, q3, q4, q5, q6, q7, q8, q9⟩ := cel10 HAT3.out
  go_region_with (first
    | (go_at_call 35; (with_reducible refine HMT.out.mono ?_); rintro e w5 ⟨rfl, hb⟩; have HB5 := Lib.hid (Epo.bel_trans (bel_drew HB3.out) hb); have HLK := Lib.hid (look_is p.pid p.gen p.did A2 n2 c2 ba la fr ep pi ge se tx ct rs AR nR cR w5 ⟨rddUp HLD.out.rd hb, HLD.out.len, HLD.out.high, HLD.out.w1, HLD.out.w2, HLD.out.eq⟩ HLM.out); have HA5 := Lib.hid (HAD.out.below hb); clear q0 q1 q2 q3 q4 q5 q6 q7 q8 q9; obtain ⟨q0, q1, q2, q3, q4, q5, q6, q7, q8, q9⟩ := cel10 HA5.out; clear hb)
    | (go_at_call 34; (with_reducible refine HLK.out.mono ?_); rintro e w6 ⟨rfl, hb⟩; have HB6 := Lib.hid (Epo.bel_trans HB5.out hb); clear hb))
  all_goals go_wp2
  all_goals go_ret3
  all_goals exact ⟨rfl, HB6.out⟩
end Go.Proofs.YtllebgadhhgckaaDoor.Sqs
