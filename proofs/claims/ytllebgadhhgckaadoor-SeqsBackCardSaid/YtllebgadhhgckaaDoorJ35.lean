/- Joined: SqsD5, SqsD7. -/
import Derived.Test.YtllebgadhhgckaaDoorJ16
import Derived.Test.YtllebgadhhgckaaDoorJ34
/- The landed seqs: isNobodys, didOf, next, met, look. -/
namespace Go.Proofs.YtllebgadhhgckaaDoor.Sqs
open Go.RowKit Oct Rec RowF RowK Lay Bat InR
open Epo (At0 AtO belA)

theorem frz3 {W : World} {g : Nat} {a b c : Value} {e : TypeId} (h : At0 W g [a, b, c] e) : W.frozen? ⟨g, 0, none⟩ = false ∧ W.frozen? ⟨g, 1, none⟩ = false ∧ W.frozen? ⟨g, 2, none⟩ = false := ⟨h.frozen 0, h.frozen 1, h.frozen 2⟩
theorem bel_set3 {w w' : World} {B : Nat} (h : Below B w w') {g : Nat} (hg : B ≤ g) (u0 u1 u2 : Value) : Below B w (((w'.setCell ⟨g, 0, none⟩ u0).setCell ⟨g, 1, none⟩ u1).setCell ⟨g, 2, none⟩ u2) := ((h.setCell hg u0).setCell hg u1).setCell hg u2
theorem isNob_is (ba la fr ep pi ge se : Int) (tx : Bool) (ct : Int) (AR : Option Addr) (nR cR : Nat) (w : World) {z : Bool} (hz : decide (pi < 0) = z) :
    Calls Tryd.prog 44 #[.agg #[.int .i64 ba, .int .i64 la, .int .i64 fr, .int .i64 ep, .int .i64 pi, .int .i64 ge, .int .i64 se, .bool tx, .int .i64 ct, .slice AR nR cR]] w fun e w' => e = .returned (.bool z) ∧ Below w.heap.size w w' := by
  subst hz
  go_enter Tryd.func44, Tryd.ntmps44
  go_wp2
  go_ret
  exact ⟨by simp, belA _ _⟩
theorem didOf_is (ba la fr ep pi ge se : Int) (tx : Bool) (ct : Int) (AR : Option Addr) (nR cR : Nat) (w : World) {q ls : Int} (h1 : IntKind.i64.wrap (la - ba) = q) (h2 : IntKind.i64.wrap (se + q) = ls) :
    Calls Tryd.prog 64 #[.agg #[.int .i64 ba, .int .i64 la, .int .i64 fr, .int .i64 ep, .int .i64 pi, .int .i64 ge, .int .i64 se, .bool tx, .int .i64 ct, .slice AR nR cR]] w fun e w' => e = .returned (.agg #[.int .i64 se, .int .i64 ls, .int .i64 ba]) ∧ Below w.heap.size w w' := by
  go_enter Tryd.func64, Tryd.ntmps64
  go_wp2
  refine bodyPost_ret (v := .agg #[.int .i64 se, .int .i64 ls, .int .i64 ba]) (by simp [results, Tryd.results64, go_sem]) rfl ?_
  exact ⟨rfl, bel_trans (belA _ _) (belA _ _)⟩
set_option maxRecDepth 100000 in
set_option maxHeartbeats 8000000 in
theorem next_is (x0 x1 : Int) (A : Option Addr) (n c : Nat) (l : List Dd) (w : World) (hr : RdD w w.heap.size A n l) (hn : n ≤ reach) (hy : ∀ y, l.getLast? = some y → 0 ≤ y.la ∧ y.la ≤ 1048576) {z : Int} (hz : nextQ l = z) :
    Calls Tryd.prog 50 #[.agg #[.int .i64 x0, .int .i64 x1, .slice A n c]] w fun e w' => e = .returned (.int .i64 z) ∧ Below w.heap.size w w' := by
  have hlen := hr.len
  have hn9 : n ≤ 140737488351232 := hn
  by_cases h0 : n = 0
  · subst h0
    obtain rfl : 0 = z := by
      have hl0 : l = [] := List.eq_nil_of_length_eq_zero hlen
      rw [hl0] at hz; exact hz
    clear hr hy hz hlen hn
    go_enter Tryd.func50, Tryd.ntmps50
    go_wp2
    go_ret
    exact ⟨rfl, belA _ _⟩
  · have hla : l.getLast? = l[n - 1]? := by rw [List.getLast?_eq_getElem?, hlen]
    obtain ⟨y, hyk⟩ : ∃ y, l[n - 1]? = some y := ⟨l[n - 1]'(by omega), List.getElem?_eq_getElem _⟩
    have hy2 := hy y (hla.trans hyk)
    obtain rfl : y.la + 1 = z := by rw [← hz]; unfold nextQ; rw [hla, hyk]
    obtain ⟨b, o, y', rfl, hb, hyk', d0, d1, d2⟩ := did_at hr (k := n - 1) (by omega)
    obtain rfl : y = y' := Option.some.inj (hyk.symm.trans hyk')
    have h1 : ((n : Int) == 0) = false := beq_eq_false_iff_ne.2 (by omega)
    have hw2 : IntKind.i64.wrap ((n : Int) - 1) = (n : Int) - 1 := IntWalk.i64_in _ (by omega)
    have hw3 : IntKind.i64.wrap (y.la + 1) = y.la + 1 := IntWalk.i64_in _ (by omega)
    have hp1 : (0 : Int) ≤ (n : Int) - 1 := by omega
    have hp2 : (1 : Int) ≤ (n : Int) := by omega
    have hp3 : (n : Int) - 1 < (n : Int) := by omega
    have hp5 : ((n : Int) - 1).toNat = n - 1 := by omega
    clear hr hz hlen hn hla hyk hyk' hy hy2
    go_enter Tryd.func50, Tryd.ntmps50
    go_wp2
    go_ret
    exact ⟨rfl, belA _ _⟩
def metH (hs : List (KX Pd)) (k : Nat) (pi ge : Int) : KX Pd := match hs[k]? with
  | some x => if x.1.pid = pi ∧ ge ≤ x.1.gen then x else (⟨pi, ge, []⟩, none, 0, 0)
  | none => (⟨pi, ge, []⟩, none, 0, 0)
theorem metH_is {v0 : Int} {hs : List (KX Pd)} {l : List Pd} (hl : hs.map (·.1) = l) (hc : chP v0 l = true) (b : Bt) : (metH hs (atP l b.pid) b.pid b.gen).1 = metP l b := by
  have h1 := findP_at hc b.pid
  have h2 : l[atP l b.pid]? = (hs[atP l b.pid]?).map (·.1) := by conv => lhs; rw [← hl, List.getElem?_map, hl]
  unfold metH
  cases hx : hs[atP l b.pid]? with
  | none =>
    rw [hx] at h2
    rw [h2] at h1
    rw [met_none h1]
  | some x =>
    rw [hx] at h2
    rw [h2] at h1
    simp only [Option.map_some] at h1 ⊢
    by_cases hp : x.1.pid = b.pid
    · rw [if_pos hp] at h1
      by_cases hg : b.gen ≤ x.1.gen
      · rw [if_pos ⟨hp, hg⟩, met_some h1 hg]
      · rw [if_neg (fun h9 => hg h9.2), met_old h1 (by omega)]
    · rw [if_neg hp] at h1
      rw [if_neg (fun h9 => hp h9.1), met_none h1]
set_option maxRecDepth 100000 in
set_option maxHeartbeats 8000000 in
theorem met_new (A : Option Addr) (n c : Nat) (hs : List (KX Pd)) (l : List Pd) (hls : hs.map (·.1) = l) (ba la fr ep pi ge se : Int) (tx : Bool) (ct : Int) (AR : Option Addr) (nR cR : Nat) (v0 : Int) (w : World) (hr : RdH w w.heap.size A n hs) (hn : n ≤ 1099511627776) (hc : chP v0 l = true) {k : Nat} (hk : atP l pi = k) (h : ∀ x, hs[k]? = some x → ¬ (x.1.pid = pi ∧ ge ≤ x.1.gen)) :
    Calls Tryd.prog 35 #[.slice A n c, .agg #[.int .i64 ba, .int .i64 la, .int .i64 fr, .int .i64 ep, .int .i64 pi, .int .i64 ge, .int .i64 se, .bool tx, .int .i64 ct, .slice AR nR cR]] w fun e w' => e = .returned (.agg #[.int .i64 pi, .int .i64 ge, .slice none 0 0]) ∧ Below w.heap.size w w' := by
  have hb1 := belA w (.cells #[.int .i64 ba, .int .i64 la, .int .i64 fr, .int .i64 ep, .int .i64 pi, .int .i64 ge, .int .i64 se, .bool tx, .int .i64 ct, .slice AR nR cR] 25)
  have hb2 := belA (w.alloc (.cells #[.int .i64 ba, .int .i64 la, .int .i64 fr, .int .i64 ep, .int .i64 pi, .int .i64 ge, .int .i64 se, .bool tx, .int .i64 ct, .slice AR nR cR] 25)) (.cells #[.int .i64 0, .int .i64 0, .slice none 0 0] 55)
  have HB := Lib.hid (Epo.bel_trans hb1 hb2)
  have HR := Lib.hid (rdhUp hr HB.out)
  have HAT := Lib.hid ((At0.new w [.int .i64 ba, .int .i64 la, .int .i64 fr, .int .i64 ep, .int .i64 pi, .int .i64 ge, .int .i64 se, .bool tx, .int .i64 ct, .slice AR nR cR] 25).below hb2)
  have h3 := At0.new (w.alloc (.cells #[.int .i64 ba, .int .i64 la, .int .i64 fr, .int .i64 ep, .int .i64 pi, .int .i64 ge, .int .i64 se, .bool tx, .int .i64 ct, .slice AR nR cR] 25)) [.int .i64 0, .int .i64 0, .slice none 0 0] 55
  simp only [World.size_alloc] at h3
  have HP := Lib.hid h3
  have HLS := Lib.hid hls
  have HK := Lib.hid hk
  have HC := Lib.hid hc
  have hlen := row_len hr hls
  have hle := atP_le l pi
  rw [hk, hlen] at hle
  clear hb1 hb2 h3 hr hls hk hc hlen
  go_enter Tryd.func35, Tryd.ntmps35
  go_upto_region 1 with fail
  generalize ((w.alloc (.cells #[.int .i64 ba, .int .i64 la, .int .i64 fr, .int .i64 ep, .int .i64 pi, .int .i64 ge, .int .i64 se, .bool tx, .int .i64 ct, .slice AR nR cR] 25)).alloc (.cells #[.int .i64 0, .int .i64 0, .slice none 0 0] 55)) = W at *
  obtain ⟨q0, q1, q2, q3, q4, q5, q6, q7, q8, q9⟩ := cel10 HAT.out
  by_cases hkn : k < n
  · obtain ⟨b, o, x, A', n', c', rfl, hb, hx, hhx, d0, d1, d2⟩ := row_at HR.out HLS.out hkn
    have hno := h _ hhx
    have HX := Lib.hid hx
    simp only at hno
    have hkl : (k : Int) < (n : Int) := by omega
    have hk0 : (0 : Int) ≤ (k : Int) := by omega
    clear hx hhx h hb d0 d1 d2
    by_cases he : x.pid = pi
    · have hg : ¬ ge ≤ x.gen := fun h9 => hno ⟨he, h9⟩
      have HZ := Lib.hid (show (match l[k]? with | some x => decide (x.pid = pi) | none => false) = true from by rw [HX.out]; exact decide_eq_true he)
      clear hno he
      go_upto_region 2 with (go_at_call 65; (with_reducible refine (find_is _ n c hs l HLS.out pi v0 _ HR.out hn HC.out HK.out HZ.out).mono ?_); rintro e w2 ⟨rfl, hb⟩; have HB2 := Lib.hid (Epo.bel_trans HB.out hb); have HR2 := Lib.hid (rdhUp HR.out hb); have HAT2 := Lib.hid (HAT.out.below hb); have HP2 := Lib.hid (HP.out.below hb); clear hb)
      clear q0 q1 q2 q3 q4 q5 q6 q7 q8 q9
      obtain ⟨q0, q1, q2, q3, q4, q5, q6, q7, q8, q9⟩ := cel10 HAT2.out
      obtain ⟨b', o', y, A2, n2, c2, hA, hb, hy, _, d0, d1, d2⟩ := row_at HR2.out HLS.out hkn
      obtain ⟨rfl, rfl⟩ : b = b' ∧ o = o' := by simpa using hA
      obtain rfl : x = y := Option.some.inj (HX.out.symm.trans hy)
      clear hy hA hb
      go_big_region
      go_upto_region 4 with fail
      have hd := bel_drew (Below.refl w2.heap.size w2)
      have HB3 := Lib.hid (Epo.bel_trans HB2.out hd)
      have HAT3 := Lib.hid (HAT2.out.below hd)
      have HP3 := Lib.hid (HP2.out.below hd)
      clear q0 q1 q2 q3 q4 q5 q6 q7 q8 q9 d0 d1 d2 hd
      generalize w2.drew = w3 at *
      obtain ⟨q0, q1, q2, q3, q4, q5, q6, q7, q8, q9⟩ := cel10 HAT3.out
      obtain ⟨p0, p1, p2⟩ := cel3 HP3.out
      obtain ⟨f0, f1, f2⟩ := frz3 HP3.out
      go_wp2
      refine bodyPost_ret (v := .agg #[.int .i64 pi, .int .i64 ge, .slice none 0 0]) (by simp [results, Tryd.results35, go_sem, p0, p1, p2]) rfl ?_
      exact ⟨rfl, bel_set3 HB3.out (by omega) _ _ _⟩
    · have HZ := Lib.hid (show (match l[k]? with | some x => decide (x.pid = pi) | none => false) = false from by rw [HX.out]; exact decide_eq_false he)
      clear hno he
      go_upto_region 2 with (go_at_call 65; (with_reducible refine (find_is _ n c hs l HLS.out pi v0 _ HR.out hn HC.out HK.out HZ.out).mono ?_); rintro e w2 ⟨rfl, hb⟩; have HB2 := Lib.hid (Epo.bel_trans HB.out hb); have HAT2 := Lib.hid (HAT.out.below hb); have HP2 := Lib.hid (HP.out.below hb); clear hb)
      clear q0 q1 q2 q3 q4 q5 q6 q7 q8 q9
      go_big_region
      go_upto_region 4 with fail
      have hd := bel_drew (Below.refl w2.heap.size w2)
      have HB3 := Lib.hid (Epo.bel_trans HB2.out hd)
      have HAT3 := Lib.hid (HAT2.out.below hd)
      have HP3 := Lib.hid (HP2.out.below hd)
      clear hd
      generalize w2.drew = w3 at *
      obtain ⟨q0, q1, q2, q3, q4, q5, q6, q7, q8, q9⟩ := cel10 HAT3.out
      obtain ⟨p0, p1, p2⟩ := cel3 HP3.out
      obtain ⟨f0, f1, f2⟩ := frz3 HP3.out
      go_wp2
      refine bodyPost_ret (v := .agg #[.int .i64 pi, .int .i64 ge, .slice none 0 0]) (by simp [results, Tryd.results35, go_sem, p0, p1, p2]) rfl ?_
      exact ⟨rfl, bel_set3 HB3.out (by omega) _ _ _⟩
  · have HZ := Lib.hid (show (match l[k]? with | some x => decide (x.pid = pi) | none => false) = false from by rw [List.getElem?_eq_none (by have := row_len HR.out HLS.out; omega)])
    clear h
    go_upto_region 2 with (go_at_call 65; (with_reducible refine (find_is _ n c hs l HLS.out pi v0 _ HR.out hn HC.out HK.out HZ.out).mono ?_); rintro e w2 ⟨rfl, hb⟩; have HB2 := Lib.hid (Epo.bel_trans HB.out hb); have HAT2 := Lib.hid (HAT.out.below hb); have HP2 := Lib.hid (HP.out.below hb); clear hb)
    clear q0 q1 q2 q3 q4 q5 q6 q7 q8 q9
    go_big_region
    go_upto_region 4 with fail
    have hd := bel_drew (Below.refl w2.heap.size w2)
    have HB3 := Lib.hid (Epo.bel_trans HB2.out hd)
    have HAT3 := Lib.hid (HAT2.out.below hd)
    have HP3 := Lib.hid (HP2.out.below hd)
    clear hd
    generalize w2.drew = w3 at *
    obtain ⟨q0, q1, q2, q3, q4, q5, q6, q7, q8, q9⟩ := cel10 HAT3.out
    obtain ⟨p0, p1, p2⟩ := cel3 HP3.out
    obtain ⟨f0, f1, f2⟩ := frz3 HP3.out
    go_wp2
    refine bodyPost_ret (v := .agg #[.int .i64 pi, .int .i64 ge, .slice none 0 0]) (by simp [results, Tryd.results35, go_sem, p0, p1, p2]) rfl ?_
    exact ⟨rfl, bel_set3 HB3.out (by omega) _ _ _⟩
end Go.Proofs.YtllebgadhhgckaaDoor.Sqs

/- The landed seqs: look. -/
namespace Go.Proofs.YtllebgadhhgckaaDoor.Sqs
open Go.RowKit Oct Rec RowF RowK Lay Bat InR
open Epo (At0 AtO belA)

structure LookIn (w : World) (xd : List Dd) (A : Option Addr) (n : Nat) (la ba se ls : Int) : Prop where
  rd : RdD w w.heap.size A n xd
  len : n ≤ reach
  high : ∀ y, xd.getLast? = some y → 0 ≤ y.la ∧ y.la ≤ 1048576
  w1 : IntKind.i64.wrap (la - ba) = la - ba
  w2 : IntKind.i64.wrap (se + (la - ba)) = ls
  eq : se + la - ba = ls
theorem find_ext {xd : List Dd} {b : Bt} : hasD xd b = xd.find? (hitD b.seq (lastN b)) := rfl
set_option maxRecDepth 100000 in
set_option maxHeartbeats 8000000 in
theorem look_is (x0 x1 : Int) (xd : List Dd) (A : Option Addr) (n c : Nat) (ba la fr ep pi ge se : Int) (tx : Bool) (ct : Int) (rs : List Rc) (AR : Option Addr) (nR cR : Nat) (w : World) {ls : Int} (hi : LookIn w xd A n la ba se ls) {X E : Int} {T : Bool} (hL : lookM ⟨x0, x1, xd⟩ ⟨ba, la, fr, ep, pi, ge, se, tx, ct, rs⟩ = (X, T, E)) :
    Calls Tryd.prog 34 #[.agg #[.int .i64 x0, .int .i64 x1, .slice A n c], .agg #[.int .i64 ba, .int .i64 la, .int .i64 fr, .int .i64 ep, .int .i64 pi, .int .i64 ge, .int .i64 se, .bool tx, .int .i64 ct, .slice AR nR cR]] w fun e w' => e = .returned (.tuple #[.int .i64 X, .bool T, .int .i64 E]) ∧ Below w.heap.size w w' := by
  have hb1 := belA w (.cells #[.int .i64 x0, .int .i64 x1, .slice A n c] 55)
  have hb2 := belA (w.alloc (.cells #[.int .i64 x0, .int .i64 x1, .slice A n c] 55)) (.cells #[.int .i64 ba, .int .i64 la, .int .i64 fr, .int .i64 ep, .int .i64 pi, .int .i64 ge, .int .i64 se, .bool tx, .int .i64 ct, .slice AR nR cR] 25)
  have HB := Lib.hid (Epo.bel_trans hb1 hb2)
  have HR := Lib.hid (rddUp hi.rd HB.out)
  have HP := Lib.hid ((At0.new w [.int .i64 x0, .int .i64 x1, .slice A n c] 55).below hb2)
  have h3 := At0.new (w.alloc (.cells #[.int .i64 x0, .int .i64 x1, .slice A n c] 55)) [.int .i64 ba, .int .i64 la, .int .i64 fr, .int .i64 ep, .int .i64 pi, .int .i64 ge, .int .i64 se, .bool tx, .int .i64 ct, .slice AR nR cR] 25
  simp only [World.size_alloc] at h3
  have HAT := Lib.hid h3
  have HI := Lib.hid hi
  have hw1 := hi.w1
  have hw2 := hi.w2
  have heq := hi.eq
  have hn9 : n ≤ 140737488351232 := hi.len
  clear hb1 hb2 h3 hi
  go_enter Tryd.func34, Tryd.ntmps34
  go_upto_region 1 with fail
  generalize ((w.alloc (.cells #[.int .i64 x0, .int .i64 x1, .slice A n c] 55)).alloc (.cells #[.int .i64 ba, .int .i64 la, .int .i64 fr, .int .i64 ep, .int .i64 pi, .int .i64 ge, .int .i64 se, .bool tx, .int .i64 ct, .slice AR nR cR] 25)) = W at *
  obtain ⟨q0, q1, q2, q3, q4, q5, q6, q7, q8, q9⟩ := cel10 HAT.out
  obtain ⟨p0, p1, p2⟩ := cel3 HP.out
  by_cases hg : ge < x1
  · have h9 := lookM_gen (p := ⟨x0, x1, xd⟩) (b := ⟨ba, la, fr, ep, pi, ge, se, tx, ct, rs⟩) hg
    rw [h9] at hL
    injection hL with e1 e2; injection e2 with e2 e3
    subst e1; subst e2; subst e3
    clear h9 heq hw1 hw2
    go_wp2
    go_ret3
    exact ⟨rfl, HB.out⟩
  rcases hnb : decide (pi < 0) with _ | _
  case true =>
    have h9 := lookM_ctl (p := ⟨x0, x1, xd⟩) (b := ⟨ba, la, fr, ep, pi, ge, se, tx, ct, rs⟩) hg (.inl (of_decide_eq_true hnb))
    rw [h9] at hL
    injection hL with e1 e2; injection e2 with e2 e3
    subst e1; subst e2; subst e3
    have HN := Lib.hid hnb
    clear h9 heq hw1 hw2 hnb
    go_wp2_with (go_at_call 44; (with_reducible refine (isNob_is ba la fr ep pi ge se tx ct AR nR cR _ HN.out).mono ?_); rintro e w2 ⟨rfl, hb⟩; have HB2 := Lib.hid (Epo.bel_trans HB.out hb); clear hb)
    go_ret3
    exact ⟨rfl, HB2.out⟩
  have HN := Lib.hid hnb
  have hpi : ¬ pi < 0 := of_decide_eq_false hnb
  clear hnb
  have ARM1 := fun W => isNob_is ba la fr ep pi ge se tx ct AR nR cR W HN.out
  by_cases hct : ct = 0
  case neg =>
    have h9 := lookM_ctl (p := ⟨x0, x1, xd⟩) (b := ⟨ba, la, fr, ep, pi, ge, se, tx, ct, rs⟩) hg (.inr hct)
    rw [h9] at hL
    injection hL with e1 e2; injection e2 with e2 e3
    subst e1; subst e2; subst e3
    have hct2 : (ct == 0) = false := beq_eq_false_iff_ne.2 hct
    clear h9 heq hw1 hw2 ARM1 hct
    go_wp2_with (go_at_call 44; (with_reducible refine (isNob_is ba la fr ep pi ge se tx ct AR nR cR _ HN.out).mono ?_); rintro e w2 ⟨rfl, hb⟩; have HB2 := Lib.hid (Epo.bel_trans HB.out hb); clear q0 q1 q2 q3 q4 q5 q6 q7 q8 q9; obtain ⟨q0, q1, q2, q3, q4, q5, q6, q7, q8, q9⟩ := cel10 (HAT.out.below hb); clear hb)
    go_ret3
    exact ⟨rfl, HB2.out⟩
  have hL2 : (match xd.find? (hitD se ls) with
    | some x => (x.ba, true, 0)
    | none => if se ≠ nextQ xd then (0, false, 111) else (0, false, 0)) = (X, T, E) := by
    rw [← hL]
    unfold lookM
    rw [if_neg hg, if_neg (show ¬ (pi < 0 ∨ ct ≠ 0) from fun h9 => h9.elim hpi fun h8 => h8 hct), find_ext, show lastN ⟨ba, la, fr, ep, pi, ge, se, tx, ct, rs⟩ = ls from heq]
    rfl
  have HL2 := Lib.hid hL2
  clear hL hL2 ARM1 heq hpi
  subst hct
  go_upto_region 6 with (first
    | (go_at_call 44; (with_reducible refine (isNob_is ba la fr ep pi ge se tx 0 AR nR cR _ HN.out).mono ?_); rintro e w2 ⟨rfl, hb⟩; have HB2 := Lib.hid (Epo.bel_trans HB.out hb); have HR2 := Lib.hid (rddUp HR.out hb); have HP2 := Lib.hid (HP.out.below hb); have HAT2 := Lib.hid (HAT.out.below hb); clear q0 q1 q2 q3 q4 q5 q6 q7 q8 q9 p0 p1 p2; obtain ⟨q0, q1, q2, q3, q4, q5, q6, q7, q8, q9⟩ := cel10 HAT2.out; clear hb)
    | (go_at_call 64; (with_reducible refine (didOf_is ba la fr ep pi ge se tx 0 AR nR cR _ hw1 hw2).mono ?_); rintro e w3 ⟨rfl, hb⟩; have HB3 := Lib.hid (Epo.bel_trans HB2.out hb); have HR3 := Lib.hid (rddUp HR2.out hb); have HP3 := Lib.hid (HP2.out.below hb); clear hb))
  have hba := belA w3 (.cells #[.int .i64 se, .int .i64 ls, .int .i64 ba] 58)
  have HB4 := Lib.hid (Epo.bel_trans HB3.out hba)
  have HR4 := Lib.hid (rddUp HR3.out hba)
  have HP4 := Lib.hid (HP3.out.below hba)
  have HX4 := Lib.hid (At0.new w3 [.int .i64 se, .int .i64 ls, .int .i64 ba] 58)
  clear hba q0 q1 q2 q3 q4 q5 q6 q7 q8 q9 hw1 hw2
  generalize (w3.alloc (.cells #[.int .i64 se, .int .i64 ls, .int .i64 ba] 58)) = w4 at *
  obtain ⟨p0, p1, p2⟩ := cel3 HP4.out
  go_wp2
  clear p0 p1 p2
  go_loopw [27] (fun iv wr => skRel xd se ls n w4 iv wr) (fun iv _ => n - (intOf iv).toNat)
  case atStart => exact ⟨0, rfl, Nat.zero_le _, fun i d h => absurd h (Nat.not_lt_zero _), Below.refl _ _⟩
  case round =>
    obtain ⟨j, rfl, hj, hno, hb⟩ := hrel
    have HNO := Lib.hid hno
    have HBR := Lib.hid (Epo.bel_trans HB4.out hb)
    have HBJ := Lib.hid hb
    have HRR := Lib.hid (rddUp HR4.out hb)
    have HPR := Lib.hid (HP4.out.below hb)
    have HXR := Lib.hid (HX4.out.below hb)
    clear hno hb
    obtain ⟨x0', x1', x2'⟩ := cel3 HXR.out
    by_cases hlt : j < n
    · obtain ⟨b, o, ⟨y0, y1, y2⟩, rfl, hbl, hyk, d0, d1, d2⟩ := did_at HRR.out hlt
      simp only at d0 d1 d2
      have HY := Lib.hid hyk
      have hw1 : IntKind.i64.wrap ((j : Int) + 1) = (j : Int) + 1 := IntWalk.i64_in _ (by omega)
      have hkl : (j : Int) < (n : Int) := by omega
      have hk0 : (0 : Int) ≤ (j : Int) := by omega
      go_upto_region 9 with fail
      have hba := belA wr (.cells #[.int .i64 y0, .int .i64 y1, .int .i64 y2] 58)
      have HBS := Lib.hid (Epo.bel_trans HBR.out hba)
      have HBK := Lib.hid (Epo.bel_trans HBJ.out hba)
      have HYS := Lib.hid (At0.new wr [.int .i64 y0, .int .i64 y1, .int .i64 y2] 58)
      have HXS := Lib.hid (HXR.out.below hba)
      clear hba d0 d1 d2 hyk hbl x0' x1' x2'
      generalize (wr.alloc (.cells #[.int .i64 y0, .int .i64 y1, .int .i64 y2] 58)) = ws at *
      obtain ⟨x0', x1', x2'⟩ := cel3 HXS.out
      obtain ⟨d0, d1, d2⟩ := cel3 HYS.out
      by_cases h1 : y0 = se
      · by_cases h2 : y1 = ls
        · have HF := Lib.hid (hit_at HY.out (show hitD se ls ⟨y0, y1, y2⟩ = true from decide_eq_true ⟨h1, h2⟩) HNO.out)
          have hq1 : (y0 == se) = true := beq_iff_eq.2 h1
          have hq2 : (y1 == ls) = true := beq_iff_eq.2 h2
          obtain ⟨rfl, rfl, rfl⟩ : y2 = X ∧ true = T ∧ (0 : Int) = E := by have h9 := HL2.out; rw [HF.out] at h9; simpa using h9
          clear h1 h2
          go_wp2
          go_ret3
          exact ⟨rfl, HBS.out⟩
        · have HM := Lib.hid (show hitD se ls ⟨y0, y1, y2⟩ = false from decide_eq_false fun h9 => h2 h9.2)
          have hq1 : (y0 == se) = true := beq_iff_eq.2 h1
          have hq2 : (y1 == ls) = false := beq_eq_false_iff_ne.2 h2
          clear h1 h2
          go_wp2
          go_roundw
          case rel => exact ⟨j + 1, by go_num, by omega, fun i d hi hd => by
            by_cases hij : i = j
            · subst hij; obtain rfl := Option.some.inj (hd.symm.trans HY.out); exact HM.out
            · exact HNO.out i d (by omega) hd, HBK.out⟩
          case measure => simp [intOf]; omega
      · have HM := Lib.hid (show hitD se ls ⟨y0, y1, y2⟩ = false from decide_eq_false fun h9 => h1 h9.1)
        have hq1 : (y0 == se) = false := beq_eq_false_iff_ne.2 h1
        clear h1
        go_wp2
        go_roundw
        case rel => exact ⟨j + 1, by go_num, by omega, fun i d hi hd => by
            by_cases hij : i = j
            · subst hij; obtain rfl := Option.some.inj (hd.symm.trans HY.out); exact HM.out
            · exact HNO.out i d (by omega) hd, HBK.out⟩
        case measure => simp [intOf]; omega
    · obtain rfl : j = n := by omega
      have HF := Lib.hid (show xd.find? (hitD se ls) = none from by
        rw [List.find?_eq_none]
        intro d hd
        obtain ⟨i, hi⟩ := List.mem_iff_getElem?.1 hd
        have := HNO.out i d (by have := (List.getElem?_eq_some_iff.1 hi).1; have := HRR.out.len; omega) hi
        simp [this])
      obtain ⟨z, hz⟩ : ∃ z, nextQ xd = z := ⟨_, rfl⟩
      have HZ := Lib.hid hz
      have HE := Lib.hid (show (if se ≠ z then ((0 : Int), false, (111 : Int)) else (0, false, 0)) = (X, T, E) from by have h9 := HL2.out; rw [HF.out, HZ.out] at h9; exact h9)
      clear hz
      obtain ⟨p0, p1, p2⟩ := cel3 HPR.out
      have HXD := Lib.hid (show At0 wr.drew w3.heap.size [.int .i64 se, .int .i64 ls, .int .i64 ba] 58 from HXR.out)
      go_upto_region 12 with fail
      have HCT := Lib.hid (next_is x0 x1 A j c xd wr.drew HRR.out HI.out.len HI.out.high HZ.out)
      by_cases hs : se = z
      · have hq : (se == z) = true := beq_iff_eq.2 hs
        obtain ⟨rfl, rfl, rfl⟩ : (0 : Int) = X ∧ false = T ∧ (0 : Int) = E := by have h9 := HE.out; rw [if_neg (fun h8 => h8 hs)] at h9; simpa using h9
        clear hs
        go_region_with (go_at_call 50; (with_reducible refine HCT.out.mono ?_); rintro e w5 ⟨rfl, hb⟩; have HB5 := Lib.hid (Epo.bel_trans (bel_drew HBR.out) hb); have x0' := (HXD.out.below hb).cell 0; simp only [List.getElem?_cons_zero] at x0'; clear hb)
        all_goals go_wp2
        all_goals go_ret3
        all_goals exact ⟨rfl, HB5.out⟩
      · have hq : (se == z) = false := beq_eq_false_iff_ne.2 hs
        obtain ⟨rfl, rfl, rfl⟩ : (0 : Int) = X ∧ false = T ∧ (111 : Int) = E := by have h9 := HE.out; rw [if_pos hs] at h9; simpa using h9
        clear hs
        go_region_with (go_at_call 50; (with_reducible refine HCT.out.mono ?_); rintro e w5 ⟨rfl, hb⟩; have HB5 := Lib.hid (Epo.bel_trans (bel_drew HBR.out) hb); have x0' := (HXD.out.below hb).cell 0; simp only [List.getElem?_cons_zero] at x0'; clear hb)
        all_goals go_wp2
        all_goals go_ret3
        all_goals exact ⟨rfl, HB5.out⟩
end Go.Proofs.YtllebgadhhgckaaDoor.Sqs
