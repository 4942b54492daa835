/- Joined: BatRefS, OctRSame, SegSA, ChnBits. -/
import Derived.Test.YtlfbagkonckffaaGreatJ48
import Derived.Test.YtlfbagkonckffaaGreatJ14
import Derived.Test.YtlfbagkonckffaaGreatJ07
import Derived.Test.YtlfbagkonckffaaGreatJ15
import Derived.Deep.RegionHeld3
import Derived.LoopTactic
import Derived.Laws.BitsLemmas
/- The contract of Same over batches: watermeet/watermeetref04.Same. -/
namespace Go.Proofs.YtlfbagkonckffaaGreat.Bat
open Go.RowKit Oct Rec Crc Lay

set_option maxRecDepth 100000 in
set_option maxHeartbeats 4000000 in
theorem refSameB_any (ba la fr ep pi ge se : Int) (tx : Bool) (ct : Int) (rs : List Rc) (A : Option Addr) (n c : Nat) (ba' la' fr' ep' pi' ge' se' : Int) (tx' : Bool) (ct' : Int) (rs' : List Rc) (A' : Option Addr) (n' c' : Nat) (w : World)
    (hr : RdR w w.heap.size A n rs) (hr' : RdR w w.heap.size A' n' rs') (hn : n ≤ 1099511627776) (hn' : n' ≤ 1099511627776) :
    Calls Tryz.prog 56 #[.agg #[.int .i64 ba, .int .i64 la, .int .i64 fr, .int .i64 ep, .int .i64 pi, .int .i64 ge, .int .i64 se, .bool tx, .int .i64 ct, .slice A n c], .agg #[.int .i64 ba', .int .i64 la', .int .i64 fr', .int .i64 ep', .int .i64 pi', .int .i64 ge', .int .i64 se', .bool tx', .int .i64 ct', .slice A' n' c']] w fun e w' => e = .returned (.bool (eqB ⟨ba, la, fr, ep, pi, ge, se, tx, ct, rs⟩ ⟨ba', la', fr', ep', pi', ge', se', tx', ct', rs'⟩)) ∧ Below w.heap.size w w' := by
  have HR := Lib.hid ((hr.below (bel_alloc (bel_alloc (Below.refl w.heap.size w) (.cells #[.int .i64 ba, .int .i64 la, .int .i64 fr, .int .i64 ep, .int .i64 pi, .int .i64 ge, .int .i64 se, .bool tx, .int .i64 ct, .slice A n c] 28)) (.cells #[.int .i64 ba', .int .i64 la', .int .i64 fr', .int .i64 ep', .int .i64 pi', .int .i64 ge', .int .i64 se', .bool tx', .int .i64 ct', .slice A' n' c'] 28)) (Nat.le_refl _)))
  have HR' := Lib.hid ((hr'.below (bel_alloc (bel_alloc (Below.refl w.heap.size w) (.cells #[.int .i64 ba, .int .i64 la, .int .i64 fr, .int .i64 ep, .int .i64 pi, .int .i64 ge, .int .i64 se, .bool tx, .int .i64 ct, .slice A n c] 28)) (.cells #[.int .i64 ba', .int .i64 la', .int .i64 fr', .int .i64 ep', .int .i64 pi', .int .i64 ge', .int .i64 se', .bool tx', .int .i64 ct', .slice A' n' c'] 28)) (Nat.le_refl _)))
  clear hr hr'
  by_cases e0 : ba = ba'
  rotate_left
  · have hz := Lib.hid (eqB_no (a := ⟨ba, la, fr, ep, pi, ge, se, tx, ct, rs⟩) (b := ⟨ba', la', fr', ep', pi', ge', se', tx', ct', rs'⟩) fun h => e0 (by injection h))
    have f0 : (ba == ba') = false := beq_false_of_ne e0
    clear e0
    rw [hz.out]
    go_enter Tryz.func56, Tryz.ntmps56
    go_wp2
    go_ret
    exact ⟨rfl, bel_alloc (bel_alloc (Below.refl _ _) _) _⟩
  subst e0
  by_cases e1 : la = la'
  rotate_left
  · have hz := Lib.hid (eqB_no (a := ⟨ba, la, fr, ep, pi, ge, se, tx, ct, rs⟩) (b := ⟨ba, la', fr', ep', pi', ge', se', tx', ct', rs'⟩) fun h => e1 (by injection h))
    have f1 : (la == la') = false := beq_false_of_ne e1
    clear e1
    rw [hz.out]
    go_enter Tryz.func56, Tryz.ntmps56
    go_wp2
    go_ret
    exact ⟨rfl, bel_alloc (bel_alloc (Below.refl _ _) _) _⟩
  subst e1
  by_cases e2 : fr = fr'
  rotate_left
  · have hz := Lib.hid (eqB_no (a := ⟨ba, la, fr, ep, pi, ge, se, tx, ct, rs⟩) (b := ⟨ba, la, fr', ep', pi', ge', se', tx', ct', rs'⟩) fun h => e2 (by injection h))
    have f2 : (fr == fr') = false := beq_false_of_ne e2
    clear e2
    rw [hz.out]
    go_enter Tryz.func56, Tryz.ntmps56
    go_wp2
    go_ret
    exact ⟨rfl, bel_alloc (bel_alloc (Below.refl _ _) _) _⟩
  subst e2
  by_cases e3 : ep = ep'
  rotate_left
  · have hz := Lib.hid (eqB_no (a := ⟨ba, la, fr, ep, pi, ge, se, tx, ct, rs⟩) (b := ⟨ba, la, fr, ep', pi', ge', se', tx', ct', rs'⟩) fun h => e3 (by injection h))
    have f3 : (ep == ep') = false := beq_false_of_ne e3
    clear e3
    rw [hz.out]
    go_enter Tryz.func56, Tryz.ntmps56
    go_wp2
    go_ret
    exact ⟨rfl, bel_alloc (bel_alloc (Below.refl _ _) _) _⟩
  subst e3
  by_cases e4 : pi = pi'
  rotate_left
  · have hz := Lib.hid (eqB_no (a := ⟨ba, la, fr, ep, pi, ge, se, tx, ct, rs⟩) (b := ⟨ba, la, fr, ep, pi', ge', se', tx', ct', rs'⟩) fun h => e4 (by injection h))
    have f4 : (pi == pi') = false := beq_false_of_ne e4
    clear e4
    rw [hz.out]
    go_enter Tryz.func56, Tryz.ntmps56
    go_wp2
    go_ret
    exact ⟨rfl, bel_alloc (bel_alloc (Below.refl _ _) _) _⟩
  subst e4
  by_cases e5 : ge = ge'
  rotate_left
  · have hz := Lib.hid (eqB_no (a := ⟨ba, la, fr, ep, pi, ge, se, tx, ct, rs⟩) (b := ⟨ba, la, fr, ep, pi, ge', se', tx', ct', rs'⟩) fun h => e5 (by injection h))
    have f5 : (ge == ge') = false := beq_false_of_ne e5
    clear e5
    rw [hz.out]
    go_enter Tryz.func56, Tryz.ntmps56
    go_wp2
    go_ret
    exact ⟨rfl, bel_alloc (bel_alloc (Below.refl _ _) _) _⟩
  subst e5
  by_cases e6 : se = se'
  rotate_left
  · have hz := Lib.hid (eqB_no (a := ⟨ba, la, fr, ep, pi, ge, se, tx, ct, rs⟩) (b := ⟨ba, la, fr, ep, pi, ge, se', tx', ct', rs'⟩) fun h => e6 (by injection h))
    have f6 : (se == se') = false := beq_false_of_ne e6
    clear e6
    rw [hz.out]
    go_enter Tryz.func56, Tryz.ntmps56
    go_wp2
    go_ret
    exact ⟨rfl, bel_alloc (bel_alloc (Below.refl _ _) _) _⟩
  subst e6
  by_cases e7 : tx = tx'
  rotate_left
  · have hz := Lib.hid (eqB_no (a := ⟨ba, la, fr, ep, pi, ge, se, tx, ct, rs⟩) (b := ⟨ba, la, fr, ep, pi, ge, se, tx', ct', rs'⟩) fun h => e7 (by injection h))
    have f7 : (tx == tx') = false := beq_false_of_ne e7
    clear e7
    rw [hz.out]
    go_enter Tryz.func56, Tryz.ntmps56
    go_wp2
    go_ret
    exact ⟨rfl, bel_alloc (bel_alloc (Below.refl _ _) _) _⟩
  subst e7
  by_cases e8 : ct = ct'
  rotate_left
  · have hz := Lib.hid (eqB_no (a := ⟨ba, la, fr, ep, pi, ge, se, tx, ct, rs⟩) (b := ⟨ba, la, fr, ep, pi, ge, se, tx, ct', rs'⟩) fun h => e8 (by injection h))
    have f8 : (ct == ct') = false := beq_false_of_ne e8
    clear e8
    rw [hz.out]
    go_enter Tryz.func56, Tryz.ntmps56
    go_wp2
    go_ret
    exact ⟨rfl, bel_alloc (bel_alloc (Below.refl _ _) _) _⟩
  subst e8
  by_cases e9 : rs = rs'
  rotate_left
  · have hz := Lib.hid (eqB_no (a := ⟨ba, la, fr, ep, pi, ge, se, tx, ct, rs⟩) (b := ⟨ba, la, fr, ep, pi, ge, se, tx, ct, rs'⟩) fun h => e9 (by injection h))
    have HE := Lib.hid e9
    clear e9
    rw [hz.out]
    go_enter Tryz.func56, Tryz.ntmps56
    go_wp2_with (go_at_call 80; refine (refSameRecs_no A A' n n' c c' rs rs' w.heap.size w.heap.size _ HR.out HR'.out hn hn' HE.out).mono ?_; rintro e w9 ⟨rfl, hb9⟩)
    go_ret
    exact ⟨rfl, bel_trans (bel_alloc (bel_alloc (Below.refl _ _) _) _) hb9⟩
  subst e9
  have hnn : n = n' := HR.out.len.symm.trans HR'.out.len
  subst hnn
  have hz := Lib.hid (eqB_self ⟨ba, la, fr, ep, pi, ge, se, tx, ct, rs⟩)
  rw [hz.out]
  go_enter Tryz.func56, Tryz.ntmps56
  go_wp2_with (go_at_call 80; refine (refSameRecs_yes A A' n c c' rs w.heap.size w.heap.size _ HR.out HR'.out hn).mono ?_; rintro e w9 ⟨rfl, hb9⟩)
  go_ret
  exact ⟨rfl, bel_trans (bel_alloc (bel_alloc (Below.refl _ _) _) _) hb9⟩
end Go.Proofs.YtlfbagkonckffaaGreat.Bat

/- The contract of the document's Same. -/
namespace Go.Proofs.YtlfbagkonckffaaGreat.Oct
open Go.RowKit

end Go.Proofs.YtlfbagkonckffaaGreat.Oct

/- The document's SameAll of two lists of batches. -/
namespace Go.Proofs.YtlfbagkonckffaaGreat.Seg
open Go.RowKit Oct Rec Crc Bat

theorem refSameB_is (ba la fr ep pi ge se : Int) (tx : Bool) (ct : Int) (rs : List Rc) (A : Option Addr) (n c : Nat) (ba' la' fr' ep' pi' ge' se' : Int) (tx' : Bool) (ct' : Int) (rs' : List Rc) (A' : Option Addr) (n' c' : Nat) (w : World)
    (hr : RdR w w.heap.size A n rs) (hr' : RdR w w.heap.size A' n' rs') (hn : n ≤ 1099511627776) (hn' : n' ≤ 1099511627776) {z : Bool} (h : eqB ⟨ba, la, fr, ep, pi, ge, se, tx, ct, rs⟩ ⟨ba', la', fr', ep', pi', ge', se', tx', ct', rs'⟩ = z) :
    Calls Tryz.prog 56 #[.agg #[.int .i64 ba, .int .i64 la, .int .i64 fr, .int .i64 ep, .int .i64 pi, .int .i64 ge, .int .i64 se, .bool tx, .int .i64 ct, .slice A n c], .agg #[.int .i64 ba', .int .i64 la', .int .i64 fr', .int .i64 ep', .int .i64 pi', .int .i64 ge', .int .i64 se', .bool tx', .int .i64 ct', .slice A' n' c']] w
      fun e w' => e = .returned (.bool z) ∧ Below w.heap.size w w' := by
  subst h; exact refSameB_any ba la fr ep pi ge se tx ct rs A n c ba' la' fr' ep' pi' ge' se' tx' ct' rs' A' n' c' w hr hr' hn hn'
noncomputable def eqT (l m : List Bt) : Bool := @decide (l = m) (Classical.propDecidable _)
theorem eqT_iff {l m : List Bt} : eqT l m = true ↔ l = m := ⟨fun h => by exact @of_decide_eq_true _ (Classical.propDecidable _) h, fun h => by exact @decide_eq_true _ (Classical.propDecidable _) h⟩
theorem eqT_no {l m : List Bt} (h : l ≠ m) : eqT l m = false := by exact @decide_eq_false _ (Classical.propDecidable _) h
theorem eqT_self (l : List Bt) : eqT l l = true := eqT_iff.2 rfl
def saRel (l m : List Bt) (n : Nat) (w : World) (i : Value) (wr : World) : Prop := ∃ k : Nat, i = .int .i64 (k : Int) ∧ k ≤ n ∧ l.take k = m.take k ∧ Below w.heap.size w wr
set_option maxRecDepth 100000 in
set_option maxHeartbeats 4000000 in
theorem SameAll_is (A1 A2 : Option Addr) (n1 c1 n2 c2 : Nat) (l m : List Bt) (w : World) (h1 : RdT w w.heap.size A1 n1 l) (h2 : RdT w w.heap.size A2 n2 m) (hn : n1 ≤ 1099511627776) (hn2 : n2 ≤ 1099511627776) {z : Bool} (hz : eqT l m = z) :
    Calls Tryz.prog 24 #[.slice A1 n1 c1, .slice A2 n2 c2] w fun e w' => e = .returned (.bool z) ∧ Below w.heap.size w w' := by
  have H1 := Lib.hid h1
  have H2 := Lib.hid h2
  have HZ := Lib.hid hz
  have hl1 := h1.len
  have hl2 := h2.len
  clear h1 h2 hz
  by_cases hnn : n1 = n2
  case neg =>
    have HF := Lib.hid (show z = false from by rw [← HZ.out]; exact eqT_no fun h => hnn (by rw [← hl1, ← hl2, h]))
    have hq : ((n1 : Int) == (n2 : Int)) = false := beq_false_of_ne (by omega)
    clear hl1 hl2 hnn
    go_enter Tryz.func24, Tryz.ntmps24
    go_wp2
    go_ret
    exact ⟨by rw [HF.out]; rfl, Below.refl _ _⟩
  subst hnn
  have HL1 := Lib.hid hl1
  have HL2 := Lib.hid hl2
  clear hl1 hl2
  have hmx : Tryz.prog.follows .mixedOrders = true := by kernel_rfl
  go_enter Tryz.func24, Tryz.ntmps24
  go_wp2
  go_loopw [13] (fun i wr => saRel l m n1 w i wr) (fun i _ => n1 - (intOf i).toNat)
  case atStart => exact ⟨0, rfl, Nat.zero_le _, rfl, Below.refl _ _⟩
  case round =>
    obtain ⟨k, rfl, hk, he, hb⟩ := hrel
    have HE := Lib.hid he
    have HBL := Lib.hid hb
    have HR1 := Lib.hid (H1.out.below hb (Nat.le_refl _))
    have HR2 := Lib.hid (H2.out.below hb (Nat.le_refl _))
    have hsz := hb.size
    clear he hb
    by_cases hlt : k < n1
    · obtain ⟨b, o, x, A4, n4, c4, rfl, hbl, hxk, hc4, hn4, hrd, hfit, hcell⟩ := HR1.out.at hlt
      obtain ⟨b', o', x', A5, n5, c5, rfl, hbl', hxk', hc5, hn5, hrd', hfit', hcell'⟩ := HR2.out.at hlt
      obtain ⟨ba, la, fr, ep, pi, ge, se, tx, ct, rs⟩ := x
      obtain ⟨ba', la', fr', ep', pi', ge', se', tx', ct', rs'⟩ := x'
      have a0 : wr.cell? ⟨b, o + k * 10, none⟩ = some (.int .i64 ba) := hcell 0 _ rfl
      have a1 : wr.cell? ⟨b, o + k * 10 + 1, none⟩ = some (.int .i64 la) := hcell 1 _ rfl
      have a2 : wr.cell? ⟨b, o + k * 10 + 2, none⟩ = some (.int .i64 fr) := hcell 2 _ rfl
      have a3 : wr.cell? ⟨b, o + k * 10 + 3, none⟩ = some (.int .i64 ep) := hcell 3 _ rfl
      have a4 : wr.cell? ⟨b, o + k * 10 + 4, none⟩ = some (.int .i64 pi) := hcell 4 _ rfl
      have a5 : wr.cell? ⟨b, o + k * 10 + 5, none⟩ = some (.int .i64 ge) := hcell 5 _ rfl
      have a6 : wr.cell? ⟨b, o + k * 10 + 6, none⟩ = some (.int .i64 se) := hcell 6 _ rfl
      have a7 : wr.cell? ⟨b, o + k * 10 + 7, none⟩ = some (.bool tx) := hcell 7 _ rfl
      have a8 : wr.cell? ⟨b, o + k * 10 + 8, none⟩ = some (.int .i64 ct) := hcell 8 _ rfl
      have a9 : wr.cell? ⟨b, o + k * 10 + 9, none⟩ = some (.slice A4 n4 c4) := hcell 9 _ rfl
      have d0 : wr.cell? ⟨b', o' + k * 10, none⟩ = some (.int .i64 ba') := hcell' 0 _ rfl
      have d1 : wr.cell? ⟨b', o' + k * 10 + 1, none⟩ = some (.int .i64 la') := hcell' 1 _ rfl
      have d2 : wr.cell? ⟨b', o' + k * 10 + 2, none⟩ = some (.int .i64 fr') := hcell' 2 _ rfl
      have d3 : wr.cell? ⟨b', o' + k * 10 + 3, none⟩ = some (.int .i64 ep') := hcell' 3 _ rfl
      have d4 : wr.cell? ⟨b', o' + k * 10 + 4, none⟩ = some (.int .i64 pi') := hcell' 4 _ rfl
      have d5 : wr.cell? ⟨b', o' + k * 10 + 5, none⟩ = some (.int .i64 ge') := hcell' 5 _ rfl
      have d6 : wr.cell? ⟨b', o' + k * 10 + 6, none⟩ = some (.int .i64 se') := hcell' 6 _ rfl
      have d7 : wr.cell? ⟨b', o' + k * 10 + 7, none⟩ = some (.bool tx') := hcell' 7 _ rfl
      have d8 : wr.cell? ⟨b', o' + k * 10 + 8, none⟩ = some (.int .i64 ct') := hcell' 8 _ rfl
      have d9 : wr.cell? ⟨b', o' + k * 10 + 9, none⟩ = some (.slice A5 n5 c5) := hcell' 9 _ rfl
      have HX := Lib.hid hxk
      have HX' := Lib.hid hxk'
      have HRD := Lib.hid (show RdR wr.drew wr.drew.heap.size A4 n4 rs from hrd.more hsz)
      have HRD' := Lib.hid (show RdR wr.drew wr.drew.heap.size A5 n5 rs' from hrd'.more hsz)
      clear hcell hcell' hxk hxk' hrd hrd' hfit hfit'
      rcases hq : eqB ⟨ba, la, fr, ep, pi, ge, se, tx, ct, rs⟩ ⟨ba', la', fr', ep', pi', ge', se', tx', ct', rs'⟩ with _ | _
      · have HQ := Lib.hid hq
        have HF := Lib.hid (show z = false from by
          rw [← HZ.out]
          refine eqT_no fun h => ?_
          subst h
          have h3 := HX.out.symm.trans HX'.out
          injection h3 with h3
          rw [h3, eqB_self] at hq
          cases hq)
        clear hq
        go_wp2
        go_region_with (go_at_call 56; (with_reducible refine (refSameB_is ba la fr ep pi ge se tx ct rs A4 n4 c4 ba' la' fr' ep' pi' ge' se' tx' ct' rs' A5 n5 c5 _ HRD.out HRD'.out hn4 hn5 HQ.out).mono ?_); rintro e w4 ⟨rfl, hb4⟩)
        all_goals go_wp2
        all_goals go_ret
        all_goals exact ⟨by rw [HF.out]; rfl, HBL.out.drew.trans (hb4.mono hsz)⟩
      · have HQ := Lib.hid hq
        have HE2 := Lib.hid (show l.take (k + 1) = m.take (k + 1) by
          rw [List.take_add_one, List.take_add_one, HE.out, HX.out, HX'.out]
          have h3 := @of_decide_eq_true _ (Classical.propDecidable _) hq
          rw [h3])
        clear hq
        go_wp2
        go_region_with (go_at_call 56; (with_reducible refine (refSameB_is ba la fr ep pi ge se tx ct rs A4 n4 c4 ba' la' fr' ep' pi' ge' se' tx' ct' rs' A5 n5 c5 _ HRD.out HRD'.out hn4 hn5 HQ.out).mono ?_); rintro e w4 ⟨rfl, hb4⟩)
        all_goals go_wp2
        all_goals exact ⟨⟨k + 1, by go_num, by omega, HE2.out, HBL.out.drew.trans (hb4.mono hsz)⟩, by simp [intOf]; omega⟩
    · have hkn : k = n1 := by omega
      subst hkn
      have HT := Lib.hid (show z = true from by
        rw [← HZ.out]
        refine eqT_iff.2 ?_
        have h3 := HE.out
        rw [List.take_of_length_le (by have := HL1.out; omega), List.take_of_length_le (by have := HL2.out; omega)] at h3
        exact h3)
      go_wp2
      go_ret
      exact ⟨by rw [HT.out]; rfl, HBL.out⟩
end Go.Proofs.YtlfbagkonckffaaGreat.Seg

/- '&' with a small number. Nothing of the program. -/
namespace Go.Proofs.YtlfbagkonckffaaGreat.Chn

theorem i64_and (x : Int) (m : Nat) (hm : m < 9223372036854775808) : ∃ r : Nat, r ≤ m ∧ bits .and .i64 x (m : Int) = (r : Int) := by
  refine ⟨((BitVec.ofInt 64 x) &&& BitVec.ofInt 64 (m : Int)).toNat, ?_, ?_⟩
  · rw [BitVec.toNat_and]
    refine Nat.le_trans Nat.and_le_right ?_
    rw [BitVec.ofInt_natCast, BitVec.toNat_ofNat]
    exact Nat.mod_le _ _
  · have h1 : ((BitVec.ofInt 64 x) &&& BitVec.ofInt 64 (m : Int)).toNat ≤ m := by
      rw [BitVec.toNat_and]
      refine Nat.le_trans Nat.and_le_right ?_
      rw [BitVec.ofInt_natCast, BitVec.toNat_ofNat]
      exact Nat.mod_le _ _
    show IntKind.i64.wrap (((BitVec.ofInt 64 x) &&& BitVec.ofInt 64 (m : Int)).toNat : Int) = _
    rw [IntKind.wrap_i64]
    omega
end Go.Proofs.YtlfbagkonckffaaGreat.Chn
