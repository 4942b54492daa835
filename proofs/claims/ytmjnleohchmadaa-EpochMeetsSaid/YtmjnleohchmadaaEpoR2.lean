/- Joined: EpoR2. -/
import Derived.Test.YtmjnleohchmadaaEpoR1
import Derived.Deep.DeepCutAuto
/- The document's Put. -/
namespace Go.Proofs.Ytmjnleohchmadaa.Epo
open Go.RowKit Go.Proofs.Ytmjnleohchmadaa.Oct Go.Proofs.Ytmjnleohchmadaa.RowF Go.Proofs.Ytmjnleohchmadaa.Lay Go.Proofs.Ytmjnleohchmadaa.InR

theorem run_appE {w : World} (base : Nat) {v : Value} {n : Nat} {l : List Ep} (hown : OwnE w base v n l) (x : Ep) (hb : n < 1099511627776) (hbase : base ≤ w.heap.size) :
    ∃ A' c' w', (Builtin.append_ #[22, 22] 22 #[v, .slice (some ⟨w.heap.size, 0, none⟩) 1 1]).run Try.prog (w.alloc (.cells (epC x).toArray 32)) = .ok (.slice A' (n + 1) c') w' ∧ OwnE w' base (.slice A' (n + 1) c') (n + 1) (l ++ [x]) ∧ Below base w w' := by
  have hbel : Below w.heap.size w (w.alloc (.cells (epC x).toArray 32)) := belA w _
  have h1 : OwnE (w.alloc (.cells (epC x).toArray 32)) base v n l := OwnF.below hown hbel
  obtain ⟨A', c', w', k1, k2, k3, k4⟩ := run_appFG (P := Try.prog) (w.alloc (.cells (epC x).toArray 32)) epS 16 base 22 22 32 Try.underlying22 epInfo v n l h1 _ (some ⟨w.heap.size, 0, none⟩) 1 1 [x] (rdF_new w epS _ x) (by omega) (by omega) (Nat.le_trans hbase hbel.size)
  exact ⟨A', c', w', k1, k2, ((Below.refl base w).alloc hbase _).trans (below_of_grown _ h1 k3 (Nat.le_trans hbase hbel.size))⟩
theorem flat_take (l : List Ep) (m : Nat) : (l.take m).flatMap epC = (l.flatMap epC).take (m * 2) := by
  induction l generalizing m with
  | nil => simp
  | cons x l ih =>
    cases m with
    | zero => simp
    | succ m => rw [List.take_succ_cons, List.flatMap_cons, List.flatMap_cons, ih, show (m + 1) * 2 = (epC x).length + m * 2 by (show (m + 1) * 2 = 2 + m * 2; omega), List.take_length_add_append]
theorem own_cut {w : World} {B n c m : Nat} {A : Option Addr} {l : List Ep} (h : OwnE w B (.slice A n c) n l) (hm : m ≤ n) : OwnE w B (.slice A m c) m (l.take m) := by
  have hlen := OwnF.len epS h
  obtain ⟨h1, h2⟩ := h
  refine ⟨by rw [flat_take, List.length_take, h1]; omega, ?_⟩
  rcases h2 with ⟨hv, hn⟩ | ⟨g, cap, cur, hv, hb, hh, hc, hcap, hsz, htk⟩
  · left
    injection hv with a1 a2 a3
    subst a1; subst a2; subst a3
    obtain rfl : m = 0 := by omega
    exact ⟨rfl, rfl⟩
  · right
    injection hv with a1 a2 a3
    subst a1; subst a3
    refine ⟨g, c, cur, rfl, hb, hh, by omega, hcap, hsz, ?_⟩
    rw [flat_take, ← htk, List.take_take]
    congr 1
    omega
def PE (w : World) (x : List Ep) (e : Int) (en : Ending) (w' : World) : Prop :=
  ∃ A n c, en = .returned (.tuple #[.slice A n c, .int .i64 e]) ∧ OwnE w' w.heap.size (.slice A n c) n x ∧ Below w.heap.size w w'
set_option maxRecDepth 100000 in
set_option maxHeartbeats 8000000 in
theorem rPut_bad (A : Option Addr) (n c : Nat) (l : List Ep) (en st : Int) (w : World) (hr : RdE w w.heap.size A n l) (hn : n ≤ 1000000) {C : Int} (hC : ckE l = C) (hw : C ≠ 0 ∨ (C = 0 ∧ en < 0) ∨ (C = 0 ∧ ¬ en < 0 ∧ 1048576 < en) ∨ (C = 0 ∧ ¬ en < 0 ∧ ¬ 1048576 < en ∧ st < 0) ∨ (C = 0 ∧ ¬ en < 0 ∧ ¬ 1048576 < en ∧ ¬ st < 0 ∧ 1099511627776 < st)) :
    Calls Try.prog 15 #[.slice A n c, .int .i64 en, .int .i64 st] w (PE w [] 1) := by
  have HR := Lib.hid hr
  have HC := Lib.hid hC
  have hn9 : n ≤ reach := Nat.le_trans hn (by decide)
  clear hr hC
  rcases hw with h | ⟨rfl, h⟩ | ⟨rfl, h, h2⟩ | ⟨rfl, h, h2, h3⟩ | ⟨rfl, h, h2, h3, h4⟩
  case inl =>
    have hcn := bne_iff_ne.2 h
    clear h
    go_enter Try.func15, Try.ntmps15
    go_wp2_with (first
      | (go_at_call 18; (with_reducible refine (rCheck_is A n c l _ HR.out hn9 HC.out).mono ?_); rintro e w1 ⟨rfl, hb⟩; have HB1 := Lib.hid hb; have HR1 := Lib.hid (rdeUp HR.out hb); clear hb))
    go_ret2
    exact ⟨none, 0, 0, rfl, OwnF.nil, HB1.out⟩
  all_goals
    go_enter Try.func15, Try.ntmps15
    go_wp2_with (first
      | (go_at_call 18; (with_reducible refine (rCheck_is A n c l _ HR.out hn9 HC.out).mono ?_); rintro e w1 ⟨rfl, hb⟩; have HB1 := Lib.hid hb; have HR1 := Lib.hid (rdeUp HR.out hb); clear hb))
    go_ret2
    exact ⟨none, 0, 0, rfl, OwnF.nil, HB1.out⟩
set_option maxRecDepth 100000 in
set_option maxHeartbeats 8000000 in
theorem rPut_first (en st : Int) (A : Option Addr) (c : Nat) (w : World) (g1 : ¬ en < 0) (g2 : ¬ 1048576 < en) (g3 : ¬ st < 0) (g4 : ¬ 1099511627776 < st) :
    Calls Try.prog 15 #[.slice A 0 c, .int .i64 en, .int .i64 st] w (PE w [⟨en, st⟩] 0) := by
  have HR := Lib.hid (show RdE w w.heap.size A 0 [] from ⟨rfl, by simp⟩)
  have HC := Lib.hid (show ckE [] = 0 by decide)
  have hn9 : 0 ≤ reach := Nat.zero_le _
  have hn : 0 ≤ 1000000 := Nat.zero_le _
  go_enter Try.func15, Try.ntmps15
  go_upto_region 14 with (first
    | (go_at_call 18; (with_reducible refine (rCheck_is A 0 c [] _ HR.out hn9 HC.out).mono ?_); rintro e w1 ⟨rfl, hb⟩; have HB1 := Lib.hid hb; have HR1 := Lib.hid (rdeUp HR.out hb); clear hb)
    | (go_at_call 13; (with_reducible refine (rCopy_is A 0 c [] _ HR1.out hn).mono ?_); rintro e w2 ⟨A2, c2, rfl, ho, hb⟩; have HB2 := Lib.hid (bel_trans HB1.out hb); have HR2 := Lib.hid (rdeUp HR1.out hb); have HO2 := Lib.hid (OwnF.more ho HB1.out.size); clear ho hb))
  have hs2 := HB2.out.size
  obtain ⟨A7, c7, w7, hrun, ho7, hb7⟩ := run_appE (w := w2) w.heap.size HO2.out ⟨en, st⟩ (by omega) (by omega)
  dsimp only [epC] at hrun
  have HO7 := Lib.hid ho7
  have HB7 := Lib.hid hb7
  clear ho7 hb7
  clear hs2
  go_wp2_with (at_builtin; refine wpList_app_run9 rfl _ _ 22 rfl rfl rfl hrun ?_)
  go_ret2
  exact ⟨A7, _, c7, rfl, HO7.out, HB2.out.trans HB7.out⟩
set_option maxRecDepth 100000 in
set_option maxHeartbeats 8000000 in
theorem rPut_more (A : Option Addr) (n c : Nat) (l : List Ep) (en st : Int) (w : World) (hr : RdE w w.heap.size A n l) (hn : n ≤ 1000000) (hC : ckE l = 0) (g1 : ¬ en < 0) (g2 : ¬ 1048576 < en) (g3 : ¬ st < 0) (g4 : ¬ 1099511627776 < st) {y : Ep} (hy : l.getLast? = some y) {x : List Ep} {e : Int} (hx : (if en < y.ep then ([], 100) else if en = y.ep then (l, 0) else if st < y.st then ([], 71) else if st = y.st then (l.dropLast ++ [⟨en, st⟩], 0) else (l ++ [⟨en, st⟩], (0 : Int))) = (x, e)) :
    Calls Try.prog 15 #[.slice A n c, .int .i64 en, .int .i64 st] w (PE w x e) := by
  have HC := Lib.hid hC
  have hlen := hr.len
  have hne : l ≠ [] := fun h => by rw [h] at hy; cases hy
  have hn0 : 0 < n := by rw [← hlen]; exact List.length_pos_iff.2 hne
  have hyk : l[n - 1]? = some y := by rw [← hlen, ← List.getLast?_eq_getElem?]; exact hy
  obtain ⟨b, o, ⟨y0, y1⟩, rfl, hbl, hxk, d0, d1⟩ := ep_at hr (k := n - 1) (by omega)
  obtain rfl : y = ⟨y0, y1⟩ := Option.some.inj (hyk.symm.trans hxk)
  simp only at d0 d1 hx
  have HR := Lib.hid hr
  have HD := Lib.hid (AtO.two hbl d0 d1)
  have HDL := Lib.hid (show l.take (n - 1) = l.dropLast by rw [List.dropLast_eq_take, hlen])
  have hn9 : n ≤ reach := Nat.le_trans hn (by decide)
  have hw1 : IntKind.i64.wrap ((n : Int) - 1) = (n : Int) - 1 := IntWalk.i64_in _ (by omega)
  have hq1 : (0 : Int) < (n : Int) := by omega
  have hq2 : (0 : Int) ≤ (n : Int) - 1 := by omega
  have hq3 : (n : Int) - 1 < (n : Int) := by omega
  have hq4 : ((n : Int) - 1).toNat = n - 1 := by omega
  have hq5 : (1 : Int) ≤ (n : Int) := by omega
  clear hr hC hlen hne hyk hxk d0 d1 hbl hy
  by_cases h1 : en < y0
  · rw [if_pos h1] at hx
    injection hx with a1 a2
    subst a1; subst a2
    go_enter Try.func15, Try.ntmps15
    go_upto_region 6 with (first
      | (go_at_call 18; (with_reducible refine (rCheck_is (some ⟨b, o, none⟩) n c l _ HR.out hn9 HC.out).mono ?_); rintro e w1 ⟨rfl, hb⟩; have HB1 := Lib.hid hb; have HR1 := Lib.hid (rdeUp HR.out hb); clear hb)
      | (go_at_call 13; (with_reducible refine (rCopy_is (some ⟨b, o, none⟩) n c l _ HR1.out hn).mono ?_); rintro e w2 ⟨A2, c2, rfl, ho, hb⟩; have HB2 := Lib.hid (bel_trans HB1.out hb); have HR2 := Lib.hid (rdeUp HR1.out hb); have HO2 := Lib.hid (OwnF.more ho HB1.out.size); obtain ⟨e0, e1⟩ := del2 (HD.out.below HB2.out); have hcp2 := OwnF.cap HO2.out; have hbl2 : b < w2.heap.size := (HD.out.below HB2.out).1; clear ho hb))
    have hba := belA w2 (.cells #[.int .i64 y0, .int .i64 y1] 32)
    have HB3 := Lib.hid (bel_trans HB2.out hba)
    have HX3 := Lib.hid (At0.new w2 [.int .i64 y0, .int .i64 y1] 32)
    have HO3 := Lib.hid (OwnF.below HO2.out hba)
    clear hba e0 e1
    generalize (w2.alloc (.cells #[.int .i64 y0, .int .i64 y1] 32)) = w3 at *
    obtain ⟨x0, x1⟩ := cel2 HX3.out
    go_wp2
    go_ret2
    exact ⟨none, 0, 0, rfl, OwnF.nil, HB3.out⟩
  rw [if_neg h1] at hx
  by_cases h2 : en = y0
  · rw [if_pos h2] at hx
    injection hx with a1 a2
    subst a1; subst a2
    have h2q : (en == y0) = true := beqT h2
    clear h2
    go_enter Try.func15, Try.ntmps15
    go_upto_region 6 with (first
      | (go_at_call 18; (with_reducible refine (rCheck_is (some ⟨b, o, none⟩) n c l _ HR.out hn9 HC.out).mono ?_); rintro e w1 ⟨rfl, hb⟩; have HB1 := Lib.hid hb; have HR1 := Lib.hid (rdeUp HR.out hb); clear hb)
      | (go_at_call 13; (with_reducible refine (rCopy_is (some ⟨b, o, none⟩) n c l _ HR1.out hn).mono ?_); rintro e w2 ⟨A2, c2, rfl, ho, hb⟩; have HB2 := Lib.hid (bel_trans HB1.out hb); have HR2 := Lib.hid (rdeUp HR1.out hb); have HO2 := Lib.hid (OwnF.more ho HB1.out.size); obtain ⟨e0, e1⟩ := del2 (HD.out.below HB2.out); have hcp2 := OwnF.cap HO2.out; have hbl2 : b < w2.heap.size := (HD.out.below HB2.out).1; clear ho hb))
    have hba := belA w2 (.cells #[.int .i64 y0, .int .i64 y1] 32)
    have HB3 := Lib.hid (bel_trans HB2.out hba)
    have HX3 := Lib.hid (At0.new w2 [.int .i64 y0, .int .i64 y1] 32)
    have HO3 := Lib.hid (OwnF.below HO2.out hba)
    clear hba e0 e1
    generalize (w2.alloc (.cells #[.int .i64 y0, .int .i64 y1] 32)) = w3 at *
    obtain ⟨x0, x1⟩ := cel2 HX3.out
    go_wp2
    go_ret2
    exact ⟨A2, n, c2, rfl, HO3.out, HB3.out⟩
  rw [if_neg h2] at hx
  have h2q : (en == y0) = false := beqF h2
  by_cases h3 : st < y1
  · rw [if_pos h3] at hx
    injection hx with a1 a2
    subst a1; subst a2
    clear h2
    go_enter Try.func15, Try.ntmps15
    go_upto_region 6 with (first
      | (go_at_call 18; (with_reducible refine (rCheck_is (some ⟨b, o, none⟩) n c l _ HR.out hn9 HC.out).mono ?_); rintro e w1 ⟨rfl, hb⟩; have HB1 := Lib.hid hb; have HR1 := Lib.hid (rdeUp HR.out hb); clear hb)
      | (go_at_call 13; (with_reducible refine (rCopy_is (some ⟨b, o, none⟩) n c l _ HR1.out hn).mono ?_); rintro e w2 ⟨A2, c2, rfl, ho, hb⟩; have HB2 := Lib.hid (bel_trans HB1.out hb); have HR2 := Lib.hid (rdeUp HR1.out hb); have HO2 := Lib.hid (OwnF.more ho HB1.out.size); obtain ⟨e0, e1⟩ := del2 (HD.out.below HB2.out); have hcp2 := OwnF.cap HO2.out; have hbl2 : b < w2.heap.size := (HD.out.below HB2.out).1; clear ho hb))
    have hba := belA w2 (.cells #[.int .i64 y0, .int .i64 y1] 32)
    have HB3 := Lib.hid (bel_trans HB2.out hba)
    have HX3 := Lib.hid (At0.new w2 [.int .i64 y0, .int .i64 y1] 32)
    have HO3 := Lib.hid (OwnF.below HO2.out hba)
    clear hba e0 e1
    generalize (w2.alloc (.cells #[.int .i64 y0, .int .i64 y1] 32)) = w3 at *
    obtain ⟨x0, x1⟩ := cel2 HX3.out
    go_wp2
    go_ret2
    exact ⟨none, 0, 0, rfl, OwnF.nil, HB3.out⟩
  rw [if_neg h3] at hx
  by_cases h4 : st = y1
  · rw [if_pos h4] at hx
    injection hx with a1 a2
    subst a1; subst a2
    have h4q : (st == y1) = true := beqT h4
    clear h2 h4
    go_enter Try.func15, Try.ntmps15
    go_upto_region 6 with (first
      | (go_at_call 18; (with_reducible refine (rCheck_is (some ⟨b, o, none⟩) n c l _ HR.out hn9 HC.out).mono ?_); rintro e w1 ⟨rfl, hb⟩; have HB1 := Lib.hid hb; have HR1 := Lib.hid (rdeUp HR.out hb); clear hb)
      | (go_at_call 13; (with_reducible refine (rCopy_is (some ⟨b, o, none⟩) n c l _ HR1.out hn).mono ?_); rintro e w2 ⟨A2, c2, rfl, ho, hb⟩; have HB2 := Lib.hid (bel_trans HB1.out hb); have HR2 := Lib.hid (rdeUp HR1.out hb); have HO2 := Lib.hid (OwnF.more ho HB1.out.size); obtain ⟨e0, e1⟩ := del2 (HD.out.below HB2.out); have hcp2 := OwnF.cap HO2.out; have hbl2 : b < w2.heap.size := (HD.out.below HB2.out).1; clear ho hb))
    have hba := belA w2 (.cells #[.int .i64 y0, .int .i64 y1] 32)
    have HB3 := Lib.hid (bel_trans HB2.out hba)
    have HX3 := Lib.hid (At0.new w2 [.int .i64 y0, .int .i64 y1] 32)
    have HO3 := Lib.hid (OwnF.below HO2.out hba)
    clear hba e0 e1
    generalize (w2.alloc (.cells #[.int .i64 y0, .int .i64 y1] 32)) = w3 at *
    obtain ⟨x0, x1⟩ := cel2 HX3.out
    have hq6 : (n : Int) - 1 ≤ (c2 : Int) := by omega
    go_upto_region 14 with fail
    have hs3 := HB3.out.size
    obtain ⟨A7, c7, w7, hrun, ho7, hb7⟩ := run_appE (w := w3) w.heap.size (HDL.out ▸ own_cut HO3.out (Nat.sub_le n 1) : OwnE w3 w.heap.size (.slice A2 (n - 1) c2) (n - 1) l.dropLast) ⟨en, st⟩ (by omega) (by omega)
    dsimp only [epC] at hrun
    have HO7 := Lib.hid ho7
    have HB7 := Lib.hid hb7
    clear ho7 hb7
    clear hs3
    go_wp2_with (at_builtin; refine wpList_app_run9 rfl _ _ 22 rfl rfl rfl hrun ?_)
    go_ret2
    exact ⟨A7, _, c7, rfl, HO7.out, HB3.out.trans HB7.out⟩
  rw [if_neg h4] at hx
  injection hx with a1 a2
  subst a1; subst a2
  have h4q : (st == y1) = false := beqF h4
  clear h2 h4
  go_enter Try.func15, Try.ntmps15
  go_upto_region 6 with (first
    | (go_at_call 18; (with_reducible refine (rCheck_is (some ⟨b, o, none⟩) n c l _ HR.out hn9 HC.out).mono ?_); rintro e w1 ⟨rfl, hb⟩; have HB1 := Lib.hid hb; have HR1 := Lib.hid (rdeUp HR.out hb); clear hb)
    | (go_at_call 13; (with_reducible refine (rCopy_is (some ⟨b, o, none⟩) n c l _ HR1.out hn).mono ?_); rintro e w2 ⟨A2, c2, rfl, ho, hb⟩; have HB2 := Lib.hid (bel_trans HB1.out hb); have HR2 := Lib.hid (rdeUp HR1.out hb); have HO2 := Lib.hid (OwnF.more ho HB1.out.size); obtain ⟨e0, e1⟩ := del2 (HD.out.below HB2.out); have hcp2 := OwnF.cap HO2.out; have hbl2 : b < w2.heap.size := (HD.out.below HB2.out).1; clear ho hb))
  have hba := belA w2 (.cells #[.int .i64 y0, .int .i64 y1] 32)
  have HB3 := Lib.hid (bel_trans HB2.out hba)
  have HX3 := Lib.hid (At0.new w2 [.int .i64 y0, .int .i64 y1] 32)
  have HO3 := Lib.hid (OwnF.below HO2.out hba)
  clear hba e0 e1
  generalize (w2.alloc (.cells #[.int .i64 y0, .int .i64 y1] 32)) = w3 at *
  obtain ⟨x0, x1⟩ := cel2 HX3.out
  go_upto_region 14 with fail
  have hs3 := HB3.out.size
  obtain ⟨A7, c7, w7, hrun, ho7, hb7⟩ := run_appE (w := w3) w.heap.size HO3.out ⟨en, st⟩ (by omega) (by omega)
  dsimp only [epC] at hrun
  have HO7 := Lib.hid ho7
  have HB7 := Lib.hid hb7
  clear ho7 hb7
  clear hs3
  go_wp2_with (at_builtin; refine wpList_app_run9 rfl _ _ 22 rfl rfl rfl hrun ?_)
  go_ret2
  exact ⟨A7, _, c7, rfl, HO7.out, HB3.out.trans HB7.out⟩
theorem rPut_is (A : Option Addr) (n c : Nat) (l : List Ep) (en st : Int) (w : World) (hr : RdE w w.heap.size A n l) (hn : n ≤ 1000000) {x : List Ep} {e : Int} (h : putE l en st = (x, e)) :
    Calls Try.prog 15 #[.slice A n c, .int .i64 en, .int .i64 st] w (PE w x e) := by
  unfold putE at h
  by_cases h1 : okE l = false ∨ (en < 0 ∨ 1048576 < en) ∨ (st < 0 ∨ 1099511627776 < st)
  · rw [if_pos h1] at h
    injection h with a1 a2
    subst a1; subst a2
    refine rPut_bad A n c l en st w hr hn rfl ?_
    unfold ckE
    cases hk : okE l with
    | false => left; simp
    | true =>
      rw [hk] at h1
      rw [if_pos rfl]
      rcases h1 with h | h | h
      · cases h
      · omega
      · omega
  · rw [if_neg h1] at h
    have h2 : okE l = true := by cases hk : okE l with
      | false => exact absurd (.inl hk) h1
      | true => rfl
    have h3 : ckE l = 0 := by unfold ckE; rw [h2]; rfl
    rw [h2] at h1
    have g1 : ¬ en < 0 := fun h9 => h1 (.inr (.inl (.inl h9)))
    have g2 : ¬ 1048576 < en := fun h9 => h1 (.inr (.inl (.inr h9)))
    have g3 : ¬ st < 0 := fun h9 => h1 (.inr (.inr (.inl h9)))
    have g4 : ¬ 1099511627776 < st := fun h9 => h1 (.inr (.inr (.inr h9)))
    cases hl : l.getLast? with
    | none =>
      rw [hl] at h
      injection h with a1 a2
      subst a1; subst a2
      obtain rfl : l = [] := last_none hl
      obtain rfl : 0 = n := hr.len
      exact rPut_first en st A c w g1 g2 g3 g4
    | some y =>
      rw [hl] at h
      exact rPut_more A n c l en st w hr hn h3 g1 g2 g3 g4 hl h
end Go.Proofs.Ytmjnleohchmadaa.Epo
