/- Joined: BatRefR, BatRefN, BatRefS. -/
import Derived.Test.YtmjnleohchmadaaJBatR
import Derived.Deep.QuietTactic
import Derived.BigQuiet
import Derived.Test.YtmjnleohchmadaaJBatA
/- The contract of the document's own SameRecs. -/
namespace Go.Proofs.Ytmjnleohchmadaa.Bat
open Go.RowKit Go.Proofs.Ytmjnleohchmadaa.Oct Go.Proofs.Ytmjnleohchmadaa.Rec Go.Proofs.Ytmjnleohchmadaa.Crc

def smRel (l m : List Rc) (n : Nat) (w : World) (i : Value) (wr : World) : Prop := ∃ k : Nat, i = .int .i64 (k : Int) ∧ k ≤ n ∧ l.take k = m.take k ∧ ∃ q, wr = w.drewN q
theorem rtake_step {l m : List Rc} {k : Nat} {r s : Rc} (h : l.take k = m.take k) (hl : l[k]? = some r) (hm : m[k]? = some s) (hrs : r = s) : l.take (k + 1) = m.take (k + 1) := by
  rw [List.take_add_one, List.take_add_one, h, hl, hm, hrs]
set_option maxRecDepth 100000 in
set_option maxHeartbeats 1000000 in
theorem refSameRecs_yes (A A' : Option Addr) (n c c' : Nat) (l : List Rc) (B B' : Nat) (w : World) (hr : RdR w B A n l) (hr' : RdR w B' A' n l) (hn : n ≤ 1099511627776) :
    Calls Try.prog 47 #[.slice A n c, .slice A' n c'] w fun e w' => e = .returned (.bool true) ∧ Below w.heap.size w w' := by
  go_enter Try.func47, Try.ntmps47
  go_wp2
  go_loopw [13] (fun i wr => smRel l l n w i wr) (fun i _ => n - (intOf i).toNat)
  case atStart => exact ⟨0, rfl, Nat.zero_le _, rfl, 0, rfl⟩
  case round =>
    obtain ⟨k, rfl, hk, ht, q, rfl⟩ := hrel
    by_cases hlt : k < n
    · obtain ⟨b, o, r, rfl, _, hrk, hat⟩ := hr.at hlt
      obtain ⟨b', o', r', rfl, _, hrk', hat'⟩ := hr'.at hlt
      have hrr : r' = r := by rw [hrk] at hrk'; exact (Option.some.inj hrk').symm
      subst hrr
      obtain ⟨ro, rk, rv, rd, rt⟩ := r'
      have hat2 : ∀ z : Nat, At (w.drewN z) b (o + k * 5) ⟨ro, rk, rv, rd, rt⟩ := fun z => hat
      have hat3 : ∀ z : Nat, At (w.drewN z) b' (o' + k * 5) ⟨ro, rk, rv, rd, rt⟩ := fun z => hat'
      obtain ⟨a0, a1, a2, a3, a4⟩ := hat
      obtain ⟨b0, b1, b2, b3, b4⟩ := hat'
      simp only at a0 a1 a2 a3 a4 b0 b1 b2 b3 b4
      have q1 : (0 : Int) ≤ (k : Int) := by omega
      have q2 : (k : Int) < (n : Int) := by omega
      clear hr hr' hrk hrk' hat2 hat3
      go_wp2
      go_quiet (fail)
      go_wp2
      go_roundw
      case rel => exact ⟨k + 1, by go_num, by omega, rfl, _, rfl⟩
      case measure => simp [intOf]; omega
    · have hkn : k = n := by omega
      clear hkn
      go_wp2
      go_ret
      exact ⟨rfl, bel_drewN (Below.refl _ _) _⟩
end Go.Proofs.Ytmjnleohchmadaa.Bat

/- The contract of the document's own SameRecs, of lists that differ. -/
namespace Go.Proofs.Ytmjnleohchmadaa.Bat
open Go.RowKit Go.Proofs.Ytmjnleohchmadaa.Oct Go.Proofs.Ytmjnleohchmadaa.Rec Go.Proofs.Ytmjnleohchmadaa.Crc

theorem bytes_ne {a b : ByteArray} (h : a ≠ b) : (a.toList == b.toList) = false := by
  rw [← Go.beq_toListBytes]
  cases a with | mk x => cases b with | mk y => exact beq_false_of_ne (a := x) (b := y) (fun h2 => h (by rw [h2]))

set_option maxRecDepth 100000 in
set_option maxHeartbeats 1000000 in
theorem refSameRecs_no (A A' : Option Addr) (n n' c c' : Nat) (l m : List Rc) (B B' : Nat) (w : World) (hr : RdR w B A n l) (hr' : RdR w B' A' n' m) (hn : n ≤ 1099511627776) (hn' : n' ≤ 1099511627776) (hne : l ≠ m) :
    Calls Try.prog 47 #[.slice A n c, .slice A' n' c'] w fun e w' => e = .returned (.bool false) ∧ Below w.heap.size w w' := by
  by_cases hnn : n = n'
  rotate_left
  · have h1 : ((n : Int) != (n' : Int)) = true := by simp; omega
    clear hne
    go_enter Try.func47, Try.ntmps47
    go_wp2
    go_ret
    exact ⟨rfl, Below.refl _ _⟩
  subst hnn
  have HNE := Lib.hid hne
  have HL := Lib.hid hr.len
  have HM := Lib.hid hr'.len
  clear hne
  go_enter Try.func47, Try.ntmps47
  go_wp2
  go_loopw [13] (fun i wr => smRel l m n w i wr) (fun i _ => n - (intOf i).toNat)
  case atStart => exact ⟨0, rfl, Nat.zero_le _, rfl, 0, rfl⟩
  case round =>
    obtain ⟨k, rfl, hk, ht, q, rfl⟩ := hrel
    have HT := Lib.hid ht
    clear ht
    by_cases hlt : k < n
    · obtain ⟨b, o, r, rfl, _, hrk, hat⟩ := hr.at hlt
      obtain ⟨b', o', s, rfl, _, hrk', hat'⟩ := hr'.at hlt
      have q1 : (0 : Int) ≤ (k : Int) := by omega
      have q2 : (k : Int) < (n : Int) := by omega
      obtain ⟨ro, rk, rv, rd, rt⟩ := r
      obtain ⟨so, sk, sv, sd, st⟩ := s
      obtain ⟨a0, a1, a2, a3, a4⟩ := hat
      obtain ⟨b0, b1, b2, b3, b4⟩ := hat'
      simp only at a0 a1 a2 a3 a4 b0 b1 b2 b3 b4
      have HS := Lib.hid (fun hrs => rtake_step HT.out hrk hrk' hrs)
      clear hr hr' hrk hrk'
      by_cases e0 : ro = so
      rotate_left
      · have f0 : (ro == so) = false := beq_false_of_ne e0
        clear HS e0
        go_wp2
        go_quiet (fail)
        go_wp2
        go_ret
        exact ⟨rfl, bel_drewN (bel_drewN (Below.refl _ _) _) _⟩
      subst e0
      by_cases e1 : rk = sk
      rotate_left
      · have f0 : (rk.toList == sk.toList) = false := bytes_ne e1
        clear HS
        go_wp2
        go_quiet (fail)
        go_wp2
        go_ret
        exact ⟨rfl, bel_drewN (bel_drewN (Below.refl _ _) _) _⟩
      subst e1
      by_cases e2 : rv = sv
      rotate_left
      · have f0 : (rv.toList == sv.toList) = false := bytes_ne e2
        clear HS
        go_wp2
        go_quiet (fail)
        go_wp2
        go_ret
        exact ⟨rfl, bel_drewN (bel_drewN (Below.refl _ _) _) _⟩
      subst e2
      by_cases e3 : rd = sd
      rotate_left
      · have f0 : (rd == sd) = false := beq_false_of_ne e3
        clear HS e3
        go_wp2
        go_quiet (fail)
        go_wp2
        go_ret
        exact ⟨rfl, bel_drewN (bel_drewN (Below.refl _ _) _) _⟩
      subst e3
      by_cases e4 : rt = st
      rotate_left
      · have f0 : (rt == st) = false := beq_false_of_ne e4
        clear HS e4
        go_wp2
        go_quiet (fail)
        go_wp2
        go_ret
        exact ⟨rfl, bel_drewN (bel_drewN (Below.refl _ _) _) _⟩
      subst e4
      have HT2 := Lib.hid (HS.out rfl)
      clear HS
      go_wp2
      go_quiet (fail)
      go_wp2
      go_roundw
      case rel => exact ⟨k + 1, by go_num, by omega, HT2.out, _, rfl⟩
      case measure => simp [intOf]; omega
    · have hkn : k = n := by omega
      exfalso
      have h1 := HT.out
      rw [hkn, List.take_of_length_le (by have := HL.out; omega), List.take_of_length_le (by have := HM.out; omega)] at h1
      exact HNE.out h1
end Go.Proofs.Ytmjnleohchmadaa.Bat

/- The contract of Same over batches: watermeet/watermeetref04.Same. -/
namespace Go.Proofs.Ytmjnleohchmadaa.Bat
open Go.RowKit Go.Proofs.Ytmjnleohchmadaa.Oct Go.Proofs.Ytmjnleohchmadaa.Rec Go.Proofs.Ytmjnleohchmadaa.Crc Go.Proofs.Ytmjnleohchmadaa.Lay

set_option maxRecDepth 100000 in
set_option maxHeartbeats 4000000 in
theorem refSameB_any (ba la fr ep pi ge se : Int) (tx : Bool) (ct : Int) (rs : List Rc) (A : Option Addr) (n c : Nat) (ba' la' fr' ep' pi' ge' se' : Int) (tx' : Bool) (ct' : Int) (rs' : List Rc) (A' : Option Addr) (n' c' : Nat) (w : World)
    (hr : RdR w w.heap.size A n rs) (hr' : RdR w w.heap.size A' n' rs') (hn : n ≤ 1099511627776) (hn' : n' ≤ 1099511627776) :
    Calls Try.prog 44 #[.agg #[.int .i64 ba, .int .i64 la, .int .i64 fr, .int .i64 ep, .int .i64 pi, .int .i64 ge, .int .i64 se, .bool tx, .int .i64 ct, .slice A n c], .agg #[.int .i64 ba', .int .i64 la', .int .i64 fr', .int .i64 ep', .int .i64 pi', .int .i64 ge', .int .i64 se', .bool tx', .int .i64 ct', .slice A' n' c']] w fun e w' => e = .returned (.bool (eqB ⟨ba, la, fr, ep, pi, ge, se, tx, ct, rs⟩ ⟨ba', la', fr', ep', pi', ge', se', tx', ct', rs'⟩)) ∧ Below w.heap.size w w' := by
  have HR := Lib.hid ((hr.below (bel_alloc (bel_alloc (Below.refl w.heap.size w) (.cells #[.int .i64 ba, .int .i64 la, .int .i64 fr, .int .i64 ep, .int .i64 pi, .int .i64 ge, .int .i64 se, .bool tx, .int .i64 ct, .slice A n c] 46)) (.cells #[.int .i64 ba', .int .i64 la', .int .i64 fr', .int .i64 ep', .int .i64 pi', .int .i64 ge', .int .i64 se', .bool tx', .int .i64 ct', .slice A' n' c'] 46)) (Nat.le_refl _)))
  have HR' := Lib.hid ((hr'.below (bel_alloc (bel_alloc (Below.refl w.heap.size w) (.cells #[.int .i64 ba, .int .i64 la, .int .i64 fr, .int .i64 ep, .int .i64 pi, .int .i64 ge, .int .i64 se, .bool tx, .int .i64 ct, .slice A n c] 46)) (.cells #[.int .i64 ba', .int .i64 la', .int .i64 fr', .int .i64 ep', .int .i64 pi', .int .i64 ge', .int .i64 se', .bool tx', .int .i64 ct', .slice A' n' c'] 46)) (Nat.le_refl _)))
  clear hr hr'
  by_cases e0 : ba = ba'
  rotate_left
  · have hz := Lib.hid (eqB_no (a := ⟨ba, la, fr, ep, pi, ge, se, tx, ct, rs⟩) (b := ⟨ba', la', fr', ep', pi', ge', se', tx', ct', rs'⟩) fun h => e0 (by injection h))
    have f0 : (ba == ba') = false := beq_false_of_ne e0
    clear e0
    rw [hz.out]
    go_enter Try.func44, Try.ntmps44
    go_wp2
    go_ret
    exact ⟨rfl, bel_alloc (bel_alloc (Below.refl _ _) _) _⟩
  subst e0
  by_cases e1 : la = la'
  rotate_left
  · have hz := Lib.hid (eqB_no (a := ⟨ba, la, fr, ep, pi, ge, se, tx, ct, rs⟩) (b := ⟨ba, la', fr', ep', pi', ge', se', tx', ct', rs'⟩) fun h => e1 (by injection h))
    have f1 : (la == la') = false := beq_false_of_ne e1
    clear e1
    rw [hz.out]
    go_enter Try.func44, Try.ntmps44
    go_wp2
    go_ret
    exact ⟨rfl, bel_alloc (bel_alloc (Below.refl _ _) _) _⟩
  subst e1
  by_cases e2 : fr = fr'
  rotate_left
  · have hz := Lib.hid (eqB_no (a := ⟨ba, la, fr, ep, pi, ge, se, tx, ct, rs⟩) (b := ⟨ba, la, fr', ep', pi', ge', se', tx', ct', rs'⟩) fun h => e2 (by injection h))
    have f2 : (fr == fr') = false := beq_false_of_ne e2
    clear e2
    rw [hz.out]
    go_enter Try.func44, Try.ntmps44
    go_wp2
    go_ret
    exact ⟨rfl, bel_alloc (bel_alloc (Below.refl _ _) _) _⟩
  subst e2
  by_cases e3 : ep = ep'
  rotate_left
  · have hz := Lib.hid (eqB_no (a := ⟨ba, la, fr, ep, pi, ge, se, tx, ct, rs⟩) (b := ⟨ba, la, fr, ep', pi', ge', se', tx', ct', rs'⟩) fun h => e3 (by injection h))
    have f3 : (ep == ep') = false := beq_false_of_ne e3
    clear e3
    rw [hz.out]
    go_enter Try.func44, Try.ntmps44
    go_wp2
    go_ret
    exact ⟨rfl, bel_alloc (bel_alloc (Below.refl _ _) _) _⟩
  subst e3
  by_cases e4 : pi = pi'
  rotate_left
  · have hz := Lib.hid (eqB_no (a := ⟨ba, la, fr, ep, pi, ge, se, tx, ct, rs⟩) (b := ⟨ba, la, fr, ep, pi', ge', se', tx', ct', rs'⟩) fun h => e4 (by injection h))
    have f4 : (pi == pi') = false := beq_false_of_ne e4
    clear e4
    rw [hz.out]
    go_enter Try.func44, Try.ntmps44
    go_wp2
    go_ret
    exact ⟨rfl, bel_alloc (bel_alloc (Below.refl _ _) _) _⟩
  subst e4
  by_cases e5 : ge = ge'
  rotate_left
  · have hz := Lib.hid (eqB_no (a := ⟨ba, la, fr, ep, pi, ge, se, tx, ct, rs⟩) (b := ⟨ba, la, fr, ep, pi, ge', se', tx', ct', rs'⟩) fun h => e5 (by injection h))
    have f5 : (ge == ge') = false := beq_false_of_ne e5
    clear e5
    rw [hz.out]
    go_enter Try.func44, Try.ntmps44
    go_wp2
    go_ret
    exact ⟨rfl, bel_alloc (bel_alloc (Below.refl _ _) _) _⟩
  subst e5
  by_cases e6 : se = se'
  rotate_left
  · have hz := Lib.hid (eqB_no (a := ⟨ba, la, fr, ep, pi, ge, se, tx, ct, rs⟩) (b := ⟨ba, la, fr, ep, pi, ge, se', tx', ct', rs'⟩) fun h => e6 (by injection h))
    have f6 : (se == se') = false := beq_false_of_ne e6
    clear e6
    rw [hz.out]
    go_enter Try.func44, Try.ntmps44
    go_wp2
    go_ret
    exact ⟨rfl, bel_alloc (bel_alloc (Below.refl _ _) _) _⟩
  subst e6
  by_cases e7 : tx = tx'
  rotate_left
  · have hz := Lib.hid (eqB_no (a := ⟨ba, la, fr, ep, pi, ge, se, tx, ct, rs⟩) (b := ⟨ba, la, fr, ep, pi, ge, se, tx', ct', rs'⟩) fun h => e7 (by injection h))
    have f7 : (tx == tx') = false := beq_false_of_ne e7
    clear e7
    rw [hz.out]
    go_enter Try.func44, Try.ntmps44
    go_wp2
    go_ret
    exact ⟨rfl, bel_alloc (bel_alloc (Below.refl _ _) _) _⟩
  subst e7
  by_cases e8 : ct = ct'
  rotate_left
  · have hz := Lib.hid (eqB_no (a := ⟨ba, la, fr, ep, pi, ge, se, tx, ct, rs⟩) (b := ⟨ba, la, fr, ep, pi, ge, se, tx, ct', rs'⟩) fun h => e8 (by injection h))
    have f8 : (ct == ct') = false := beq_false_of_ne e8
    clear e8
    rw [hz.out]
    go_enter Try.func44, Try.ntmps44
    go_wp2
    go_ret
    exact ⟨rfl, bel_alloc (bel_alloc (Below.refl _ _) _) _⟩
  subst e8
  by_cases e9 : rs = rs'
  rotate_left
  · have hz := Lib.hid (eqB_no (a := ⟨ba, la, fr, ep, pi, ge, se, tx, ct, rs⟩) (b := ⟨ba, la, fr, ep, pi, ge, se, tx, ct, rs'⟩) fun h => e9 (by injection h))
    have HE := Lib.hid e9
    clear e9
    rw [hz.out]
    go_enter Try.func44, Try.ntmps44
    go_wp2_with (go_at_call 47; refine (refSameRecs_no A A' n n' c c' rs rs' w.heap.size w.heap.size _ HR.out HR'.out hn hn' HE.out).mono ?_; rintro e w9 ⟨rfl, hb9⟩)
    go_ret
    exact ⟨rfl, bel_trans (bel_alloc (bel_alloc (Below.refl _ _) _) _) hb9⟩
  subst e9
  have hnn : n = n' := HR.out.len.symm.trans HR'.out.len
  subst hnn
  have hz := Lib.hid (eqB_self ⟨ba, la, fr, ep, pi, ge, se, tx, ct, rs⟩)
  rw [hz.out]
  go_enter Try.func44, Try.ntmps44
  go_wp2_with (go_at_call 47; refine (refSameRecs_yes A A' n c c' rs w.heap.size w.heap.size _ HR.out HR'.out hn).mono ?_; rintro e w9 ⟨rfl, hb9⟩)
  go_ret
  exact ⟨rfl, bel_trans (bel_alloc (bel_alloc (Below.refl _ _) _) _) hb9⟩
end Go.Proofs.Ytmjnleohchmadaa.Bat
