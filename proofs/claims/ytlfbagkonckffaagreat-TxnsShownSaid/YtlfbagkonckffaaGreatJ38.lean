/- Joined: TxnDG, TxnDE. -/
import Derived.Test.YtlfbagkonckffaaGreatJ34
import Derived.Test.YtlfbagkonckffaaGreatJ17
import Derived.Test.YtlfbagkonckffaaGreatJ35
/- The landed txns: how what has ended is put in order. -/
namespace Go.Proofs.YtlfbagkonckffaaGreat.Txn
open Go.RowKit Go.Shelf Go.Sort Oct Rec RowF Lay InR RngQ Bat RowL
open Epo (At0 AtO belA cel2)
open Sqs (at0_grown at0_set9 grown_set9 grown_bel grown_then)

attribute [local go_sem] Oper.semAt_some

def cmp3 (a b : Int) : Int := if a < b then -1 else if b < a then 1 else 0
def cfG (x y : Gon) : Int := if cmp3 x.pid y.pid ≠ 0 then cmp3 x.pid y.pid else cmp3 x.fst y.fst
theorem ltG (x y : Gon) : ltOf cfG x y = decide (x.pid < y.pid ∨ x.pid = y.pid ∧ x.fst < y.fst) := by
  unfold ltOf cfG cmp3
  rw [decide_eq_decide]
  by_cases h1 : x.pid < y.pid
  · simp [h1]
  · by_cases h2 : y.pid < x.pid
    · simp [h1, h2]; omega
    · have h3 : x.pid = y.pid := by omega
      by_cases h4 : x.fst < y.fst
      · simp [h3, h4]
      · by_cases h5 : y.fst < x.fst <;> simp [h3, h4, h5]
theorem swoG : SWO (ltOf cfG) where
  irrefl x := by rw [ltG]; simp
  trans x y z h1 h2 := by rw [ltG] at *; simp at *; omega
  ntrans x y z h1 h2 := by rw [ltG] at *; simp at *; omega
theorem isNaN_is (a : Int) (w : World) : Calls Tryz.prog 105 #[.int .i64 a] w fun e w' => e = .returned (.bool false) ∧ w = w' := by
  go_enter Tryz.func105, Tryz.ntmps105
  go_wp2
  go_ret
  exact ⟨by simp, rfl⟩
theorem compare_is (a b : Int) (w : World) {z : Int} (hz : cmp3 a b = z) : Calls Tryz.prog 84 #[.int .i64 a, .int .i64 b] w fun e w' => e = .returned (.int .i64 z) ∧ w = w' := by
  unfold cmp3 at hz
  by_cases h1 : a < b
  · rw [if_pos h1] at hz
    subst hz
    go_enter Tryz.func84, Tryz.ntmps84
    go_wp2_with (go_at_call 105; (with_reducible refine (isNaN_is _ _).mono ?_); rintro e w1 ⟨rfl, rfl⟩)
    go_ret
    exact ⟨rfl, rfl⟩
  · rw [if_neg h1] at hz
    by_cases h2 : b < a
    · rw [if_pos h2] at hz
      subst hz
      go_enter Tryz.func84, Tryz.ntmps84
      go_wp2_with (go_at_call 105; (with_reducible refine (isNaN_is _ _).mono ?_); rintro e w1 ⟨rfl, rfl⟩)
      go_ret
      exact ⟨rfl, rfl⟩
    · rw [if_neg h2] at hz
      subst hz
      go_enter Tryz.func84, Tryz.ntmps84
      go_wp2_with (go_at_call 105; (with_reducible refine (isNaN_is _ _).mono ?_); rintro e w1 ⟨rfl, rfl⟩)
      go_ret
      exact ⟨rfl, rfl⟩
def orRel (a b : Int) (w : World) (i : Value) (wr : World) : Prop := w = wr ∧ (i = .int .i64 0 ∨ (i = .int .i64 1 ∧ a = 0) ∨ (i = .int .i64 2 ∧ a = 0 ∧ b = 0))
set_option maxRecDepth 100000 in
set_option maxHeartbeats 4000000 in
theorem or_is (g : Nat) (a b : Int) (w : World) (h0 : w.cell? ⟨g, 0, none⟩ = some (.int .i64 a)) (h1 : w.cell? ⟨g, 1, none⟩ = some (.int .i64 b)) {z : Int} (hz : (if a ≠ 0 then a else b) = z) : Calls Tryz.prog 83 #[.slice (some ⟨g, 0, none⟩) 2 2] w fun e w' => e = .returned (.int .i64 z) ∧ w = w' := by
  go_enter Tryz.func83, Tryz.ntmps83
  go_wp2
  go_loopw [8] (fun i wr => orRel a b w i wr) (fun i _ => 2 - (intOf i).toNat)
  case atStart => exact ⟨rfl, .inl rfl⟩
  case round =>
    obtain ⟨rfl, rfl | ⟨rfl, ha⟩ | ⟨rfl, ha, hb⟩⟩ := hrel
    · by_cases h9 : a = 0
      · have hz9 : b = z := by rw [← hz, h9]; rfl
        have g1 : (a == 0) = true := by rw [h9]; rfl
        have HA := Lib.hid h9
        clear h9
        go_wp2
        go_roundw
        case rel => exact ⟨rfl, .inr (.inl ⟨rfl, HA.out⟩)⟩
        case measure => simp [intOf]
      · have hz9 : a = z := by rw [← hz, if_pos h9]
        have g1 : (a == 0) = false := beq_eq_false_iff_ne.2 h9
        have HZ := Lib.hid hz9
        clear h9 hz hz9
        go_wp2
        go_ret
        exact ⟨by rw [HZ.out]; rfl, rfl⟩
    · have HA := Lib.hid ha
      by_cases h9 : b = 0
      · have g1 : (b == 0) = true := by rw [h9]; rfl
        have HB := Lib.hid h9
        clear h9 ha
        go_wp2
        go_roundw
        case rel => exact ⟨rfl, .inr (.inr ⟨rfl, HA.out, HB.out⟩)⟩
        case measure => simp [intOf]
      · have hz9 : b = z := by rw [← hz, if_neg (fun h => h ha)]
        have g1 : (b == 0) = false := beq_eq_false_iff_ne.2 h9
        have HZ := Lib.hid hz9
        clear h9 hz hz9 ha
        go_wp2
        go_ret
        exact ⟨by rw [HZ.out]; rfl, rfl⟩
    · have hz9 : (0 : Int) = z := by rw [← hz, if_neg (fun h => h ha), hb]
      have HZ := Lib.hid hz9
      clear hz hz9 ha hb
      go_wp2
      go_ret
      exact ⟨by rw [HZ.out]; rfl, rfl⟩
theorem three_alloc (W : World) (a b c : Obj) : ((W.alloc a).alloc b).drew.alloc c = grow (W.drewN 1) #[a, b, c] := by
  have h : ((W.heap.push a).push b).push c = W.heap ++ #[a, b, c] := by
    apply Array.toList_inj.1
    simp
  unfold grow World.alloc World.drewN World.drew
  simp only [h]
set_option maxRecDepth 100000 in
set_option maxHeartbeats 40000000 in
theorem cmpG_is (x0 x1 x2 x3 y0 y1 y2 y3 : Int) (W : World) {z : Int} (hz : cfG ⟨x0, x1, x2, x3⟩ ⟨y0, y1, y2, y3⟩ = z) : Calls Tryz.prog 82 #[.agg #[.int .i64 x0, .int .i64 x1, .int .i64 x2, .int .i64 x3], .agg #[.int .i64 y0, .int .i64 y1, .int .i64 y2, .int .i64 y3]] W fun e w' => e = .returned (.int .i64 z) ∧ ∃ q os', w' = grow (W.drewN q) os' := by
  obtain ⟨c1, h1⟩ : ∃ c, cmp3 x0 y0 = c := ⟨_, rfl⟩
  obtain ⟨c2, h2⟩ : ∃ c, cmp3 x2 y2 = c := ⟨_, rfl⟩
  have HZ := Lib.hid (show (if c1 ≠ 0 then c1 else c2) = z from by rw [← h1, ← h2]; exact hz)
  have H1 := Lib.hid h1
  have H2 := Lib.hid h2
  clear h1 h2 hz
  go_enter Tryz.func82, Tryz.ntmps82
  go_upto_region 1 with fail
  have hx := (At0.new W [.int .i64 x0, .int .i64 x1, .int .i64 x2, .int .i64 x3] 54).below (belA _ (.cells #[.int .i64 y0, .int .i64 y1, .int .i64 y2, .int .i64 y3] 54))
  have hy := At0.new (W.alloc (.cells #[.int .i64 x0, .int .i64 x1, .int .i64 x2, .int .i64 x3] 54)) [.int .i64 y0, .int .i64 y1, .int .i64 y2, .int .i64 y3] 54
  simp only [World.size_alloc] at hy
  obtain ⟨V, hV⟩ : ∃ V, V = (W.alloc (.cells #[.int .i64 x0, .int .i64 x1, .int .i64 x2, .int .i64 x3] 54)).alloc (.cells #[.int .i64 y0, .int .i64 y1, .int .i64 y2, .int .i64 y3] 54) := ⟨_, rfl⟩
  have hx0 : V.cell? ⟨W.heap.size, 0, none⟩ = some (.int .i64 x0) := by rw [hV]; exact hx.cell 0
  have hx2 : V.cell? ⟨W.heap.size, 2, none⟩ = some (.int .i64 x2) := by rw [hV]; exact hx.cell 2
  have hy0 : V.cell? ⟨W.heap.size + 1, 0, none⟩ = some (.int .i64 y0) := by rw [hV]; exact hy.cell 0
  have hy2 : V.cell? ⟨W.heap.size + 1, 2, none⟩ = some (.int .i64 y2) := by rw [hV]; exact hy.cell 2
  rw [← hV]
  have HV := Lib.hid hV
  clear hx hy hV
  go_region_law (first
    | (go_simp; go_at_call 83; (with_reducible refine (or_is V.heap.size c1 c2 _ (World.cell?_alloc_at _ _ _ _ (by simp)) (World.cell?_alloc_at _ _ _ _ (by simp)) HZ.out).mono ?_); rintro e w5 ⟨rfl, rfl⟩)
    | (go_simp; go_at_call 84; (with_reducible refine (compare_is x2 y2 _ H2.out).mono ?_); rintro e w4 ⟨rfl, rfl⟩)
    | (go_simp; go_at_call 84; (with_reducible refine (compare_is x0 y0 _ H1.out).mono ?_); rintro e w3 ⟨rfl, rfl⟩))
  all_goals go_wp2
  all_goals go_ret
  all_goals exact ⟨rfl, 1, _, by rw [HV.out]; exact three_alloc W _ _ _⟩
end Go.Proofs.YtlfbagkonckffaaGreat.Txn

/- The landed txns: those, of batches. -/
namespace Go.Proofs.YtlfbagkonckffaaGreat.Txn
open Go.RowKit Go.Shelf Oct Rec RowF Lay InR RngQ Bat RowL
open Epo (At0 AtO belA cel2)
open Sqs (at0_grown at0_set9 grown_set9 grown_bel grown_then)

attribute [local go_sem] Oper.semAt_some

set_option maxRecDepth 100000 in
set_option maxHeartbeats 8000000 in
theorem thoseB_is (F : Nat) (xs : Array Value) (hF : ∀ (ys : Array Value) (w : World), (callFunc F ys).run Tryz.prog w = .ok (.enter F ys) w) (p : BX → Bool) (A : Option Addr) (n c : Nat) (L : List BX) (w : World) (hr : RdF batC 10 w w.heap.size A n L) (hn : n ≤ 1000000)
    (hso : ∀ x ∈ L, ∀ W, Below w.heap.size w W → Calls Tryz.prog F (encB x ++ xs) W fun e W2 => e = .returned (.bool (p x)) ∧ Below W.heap.size W W2) :
    Calls Tryz.prog 58 #[.slice A n c, .func (.func F) #[] xs] w fun e w' => ∃ A' n' c', e = .returned (.slice A' n' c') ∧ OwnF batC 10 w' 28 w.heap.size (.slice A' n' c') n' (L.filter p) ∧ Below w.heap.size w w' := by
  have HR := Lib.hid hr
  have HSO := Lib.hid hso
  have hnr : n ≤ reach := Nat.le_trans hn (by decide)
  have HLN := Lib.hid hr.len
  clear hr hso
  refine (callsIn_wide (n := 6)).1 ?_
  refine callsIn_of_wp_marks Tryz.func58 rfl trivial ?_ rfl
  simp only [Tryz.ntmps58, List.size_toArray, List.length_cons, List.length_nil, Nat.reduceAdd, Nat.reduceSub, Array.replicate_succ, Array.replicate_zero, List.push_toArray, List.append_toArray, List.nil_append, List.cons_append]
  refine wpIn_wide.2 ?_
  go_wp2_with (go_at_call 66; (with_reducible refine (eachB_is _ _ _ _).mono ?_); rintro e w' ⟨rfl, rfl⟩)
  generalize hw0 : (World.alloc (World.alloc (World.alloc (World.alloc _ _) _) _) _) = W0
  have hsz : W0.heap.size = w.heap.size + 4 := by rw [← hw0]; simp
  have hB0 : Below w.heap.size w W0 := by rw [← hw0]; exact bel_alloc (bel_alloc (bel_alloc (bel_alloc (Below.refl _ _) _) _) _) _
  have hA0 : At0 W0 (w.heap.size) [Value.func (.func F) #[] xs] 31 := by
    rw [← hw0]
    have h := At0.new w [Value.func (.func F) #[] xs] 31
    exact (((h).below (belA _ _)).below (belA _ _)).below (belA _ _)
  have hA1 : At0 W0 (w.heap.size + 1) [Value.slice none 0 0] 38 := by
    rw [← hw0]
    have h := At0.new (w.alloc (.cells #[Value.func (.func F) #[] xs] 31)) [Value.slice none 0 0] 38
    simp only [World.size_alloc] at h
    exact ((h).below (belA _ _)).below (belA _ _)
  have hA2 : At0 W0 (w.heap.size + 1 + 1) [Value.slice A n c] 38 := by
    rw [← hw0]
    have h := At0.new ((w.alloc (.cells #[Value.func (.func F) #[] xs] 31)).alloc (.cells #[Value.slice none 0 0] 38)) [Value.slice A n c] 38
    simp only [World.size_alloc] at h
    exact (h).below (belA _ _)
  have hA3 : At0 W0 (w.heap.size + 1 + 1 + 1) [Value.slice (some ⟨w.heap.size + 1 + 1, 0, none⟩) 1 1] 115 := by
    rw [← hw0]
    have h := At0.new (((w.alloc (.cells #[Value.func (.func F) #[] xs] 31)).alloc (.cells #[Value.slice none 0 0] 38)).alloc (.cells #[Value.slice A n c] 38)) [Value.slice (some ⟨w.heap.size + 1 + 1, 0, none⟩) 1 1] 115
    simp only [World.size_alloc] at h
    exact h
  clear hw0
  refine (wpIn_wide (n := 6)).1 ?_
  refine wpIn_rangeQ (F := Fence.wide) rfl (by omega) (gf := 89) (lb := #[.pointer (some ⟨w.heap.size + 1 + 1 + 1, 0, none⟩)]) rfl trivial (enters_of Tryz.func89 (by kernel_rfl) rfl)
    (eaB_seq (6 - 1) (by omega) (w.heap.size + 1 + 1 + 1) (w.heap.size + 1 + 1) w.heap.size 1 1 _ W0 (ea_one (x := ⟨A, n, c, L⟩) (HR.out.below hB0 (Nat.le_refl _)) hnr hB0.size hA2 hA3)) (fun k h => by rcases h with h | h | h <;> omega) (Below.refl _ _) (fun _ => rfl)
    (fun pre W => (∃ A9 n9 c9 rest, L = pre ++ rest ∧ Boxed W (w.heap.size) 31 (.func (.func F) #[] xs) ∧ Boxed W (w.heap.size + 1) 38 (.slice A9 n9 c9) ∧ OwnF batC 10 W 28 W0.heap.size (.slice A9 n9 c9) n9 (pre.filter p)) ∧ Below w.heap.size w W)
    (fun _ _ _ => False)
    (fun pre X Y row hs hg hrow => by
      obtain ⟨⟨A9, n9, c9, rest, h1, h2, h3, h4⟩, h5⟩ := hs
      exact ⟨⟨A9, n9, c9, rest, h1, box_own h2 hg hrow, box_own h3 hg hrow, row_own h4 hg hrow⟩, bel_own (Nat.le_refl _) hB0.size h5 hg hrow⟩)
    (fun _ _ _ _ _ hs _ _ => hs)
    ⟨⟨none, 0, 0, L, rfl, hA0, hA1, OwnF.nil⟩, hB0⟩
    (fun pre x W1 a' W => (∃ Bx A9 n9 c9 rest, W1.heap.size ≤ Bx ∧ W0.heap.size ≤ W1.heap.size ∧ L = pre ++ x :: rest ∧ (∀ g, (Value.slice A9 n9 c9).ownBlock = some g → g < W1.heap.size) ∧ Boxed W (w.heap.size) 31 (.func (.func F) #[] xs) ∧ Boxed W (w.heap.size + 1) 38 (.slice A9 n9 c9) ∧ OwnF batC 10 W 28 W0.heap.size (.slice A9 n9 c9) n9 (pre.filter p) ∧ At0 W Bx (batC x) 28 ∧ a' = { tmps := #[.slice A n c, .func (.func F) #[] xs, undef, .pointer (some ⟨w.heap.size, 0, none⟩), .slice none 0 0, .pointer (some ⟨w.heap.size + 1, 0, none⟩), .pointer (some ⟨Bx, 0, none⟩), .slice A n c, .slice (some ⟨w.heap.size + 1 + 1, 0, none⟩) 1 1, .func (.func 89) #[] #[.pointer (some ⟨w.heap.size + 1 + 1 + 1, 0, none⟩)], (encB x)[0]!, undef, undef, undef, undef, undef, undef, undef, undef], defers := [] }) ∧ Below w.heap.size w W)
    (fun pre x W1 a' => fun s X Y row hs hg hrow => by
      obtain ⟨⟨Bx, A9, n9, c9, rest, h0, h0', h1, h1', h2, h3, h4, h6, h7⟩, h8⟩ := hs
      exact ⟨⟨Bx, A9, n9, c9, rest, h0, h0', h1, h1', box_own h2 hg hrow, box_own h3 hg hrow, row_own h4 hg hrow, at_own h6 hg hrow, h7⟩, bel_own (Nat.le_refl _) hB0.size h8 hg hrow⟩)
    ?assign ?body ?done (fun _ _ _ _ _ h => h.elim)
  case assign =>
    rintro l pre ⟨⟨ba, la, fr, ep, pi, ge, se, tx, ct, rs⟩, AR, nR, cR⟩ W1 W G hs1 ⟨⟨A9, n9, c9, rest, h1, h2, h3, h4⟩, hB⟩ hbel ⟨r2, hQ⟩ hG
    have hrest : rest = (⟨ba, la, fr, ep, pi, ge, se, tx, ct, rs⟩, AR, nR, cR) :: r2 := List.append_cancel_left (h1.symm.trans ((cat_one (LX.mk A n c L)).symm.trans hQ))
    subst hrest
    dsimp only [encB]
    gi_wp2
    have hbA := bel_trans hbel (belA W (.cells #[.int .i64 ba, .int .i64 la, .int .i64 fr, .int .i64 ep, .int .i64 pi, .int .i64 ge, .int .i64 se, .bool tx, .int .i64 ct, .slice AR nR cR] 28))
    exact hG _ _ ((KeepsOthers.alloc _ _).from _) ((KeptQ.refl _ _ _).alloc _) ⟨⟨W.heap.size, A9, n9, c9, r2, hbel.size, hs1, h1, fun g hg => (World.ownsRow.lt h4 g hg).2, boxed_below h2 hbA, boxed_below h3 hbA, OwnF.below h4 hbA, At0.new W (batC (⟨ba, la, fr, ep, pi, ge, se, tx, ct, rs⟩, AR, nR, cR)) _, rfl⟩, hB.trans (hbA.mono (Nat.le_trans hB0.size hs1))⟩
  case body =>
    rintro l pre ⟨⟨ba, la, fr, ep, pi, ge, se, tx, ct, rs⟩, AR, nR, cR⟩ W1 a' W ⟨⟨Bx, A9, n9, c9, rest, hBx, hs1, h1, hown, h2, h3, h4, h6, rfl⟩, hB⟩
    have hs0 := hB0.size
    have hlx : Bx < W.heap.size := h6.lt
    have hn9 : n9 ≤ 1000000 := by
      have e1 := h4.len batS
      have e2 := List.length_filter_le p pre
      have e3 := congrArg List.length h1
      rw [List.length_append, HLN.out] at e3
      omega
    have HL := Lib.hid h1
    have HCALL := Lib.hid (HSO.out (⟨ba, la, fr, ep, pi, ge, se, tx, ct, rs⟩, AR, nR, cR) (by rw [h1]; simp) W hB)
    have c0 := h2.cell
    have y0 : W.cell? ⟨Bx, 0, none⟩ = some (.int .i64 ba) := h6.cell 0
    have y1 : W.cell? ⟨Bx, 1, none⟩ = some (.int .i64 la) := h6.cell 1
    have y2 : W.cell? ⟨Bx, 2, none⟩ = some (.int .i64 fr) := h6.cell 2
    have y3 : W.cell? ⟨Bx, 3, none⟩ = some (.int .i64 ep) := h6.cell 3
    have y4 : W.cell? ⟨Bx, 4, none⟩ = some (.int .i64 pi) := h6.cell 4
    have y5 : W.cell? ⟨Bx, 5, none⟩ = some (.int .i64 ge) := h6.cell 5
    have y6 : W.cell? ⟨Bx, 6, none⟩ = some (.int .i64 se) := h6.cell 6
    have y7 : W.cell? ⟨Bx, 7, none⟩ = some (.bool tx) := h6.cell 7
    have y8 : W.cell? ⟨Bx, 8, none⟩ = some (.int .i64 ct) := h6.cell 8
    have y9 : W.cell? ⟨Bx, 9, none⟩ = some (.slice AR nR cR) := h6.cell 9
    have H2 := Lib.hid h2
    have H3 := Lib.hid h3
    have H4 := Lib.hid h4
    have H6 := Lib.hid h6
    have HB := Lib.hid hB
    have HOWN := Lib.hid hown
    dsimp only [encB] at HCALL ⊢
    clear h1 h2 h3 h4 h6 hB hown
    gi_wp2
    refine ⟨trivial, (CallsIn.inRound l (callsIn_wide.2 HCALL.out)).mono ?_⟩
    rintro e w4 ⟨rfl, hb⟩
    have HB4 := Lib.hid (HB.out.trans (hb.mono (by omega)))
    have H24 := Lib.hid (boxed_below H2.out hb)
    have H34 := Lib.hid (boxed_below H3.out hb)
    have H44 := Lib.hid (OwnF.below H4.out hb)
    have H64 := Lib.hid (H6.out.below hb)
    have hkf : KeepsFrom W0.heap.size W w4 := (keeps_bel hb).from _
    have hkq : KeptQ (EaB w.heap.size (w.heap.size + 1 + 1 + 1) (w.heap.size + 1 + 1)) W1.heap.size W w4 := (KeptQ.refl _ _ _).below hb
    have HKF := Lib.hid hkf
    have HKQ := Lib.hid hkq
    have hs4 := hb.size
    clear c0 y0 y1 y2 y3 y4 y5 y6 y7 y8 y9 hb hkf hkq
    rcases hp : p (⟨ba, la, fr, ep, pi, ge, se, tx, ct, rs⟩, AR, nR, cR) with _ | _
    · have HF := Lib.hid (show List.filter p (pre ++ [(⟨ba, la, fr, ep, pi, ge, se, tx, ct, rs⟩, AR, nR, cR)]) = pre.filter p from by rw [List.filter_append, List.filter_cons_of_neg (by rw [hp]; simp)]; simp)
      clear hp
      gi_wp2
      exact ⟨HKF.out, HKQ.out, ⟨A9, n9, c9, rest, by rw [HL.out]; simp, H24.out, H34.out, by rw [HF.out]; exact H44.out⟩, HB4.out⟩
    · have HF := Lib.hid (show List.filter p (pre ++ [(⟨ba, la, fr, ep, pi, ge, se, tx, ct, rs⟩, AR, nR, cR)]) = pre.filter p ++ [(⟨ba, la, fr, ep, pi, ge, se, tx, ct, rs⟩, AR, nR, cR)] from by rw [List.filter_append, List.filter_cons_of_pos hp]; simp)
      clear hp
      obtain ⟨A5, c5, w5, hrun, ho5, hg5, hv5⟩ := run_appFG (P := Tryz.prog) (w4.alloc (.cells #[.int .i64 ba, .int .i64 la, .int .i64 fr, .int .i64 ep, .int .i64 pi, .int .i64 ge, .int .i64 se, .bool tx, .int .i64 ct, .slice AR nR cR] 28)) batS 96 W0.heap.size 38 38 28 Tryz.underlying38 batInfo (.slice A9 n9 c9) n9 (pre.filter p) (H44.out.alloc _) (w4.heap.size + 1) (some ⟨w4.heap.size, 0, none⟩) 1 1 [(⟨ba, la, fr, ep, pi, ge, se, tx, ct, rs⟩, AR, nR, cR)] (rdF_new w4 batS 28 ((⟨ba, la, fr, ep, pi, ge, se, tx, ct, rs⟩, AR, nR, cR) : BX)) (by omega) (by omega) (by simp; omega)
      have d3 := H34.out.cell
      have y0 : w4.cell? ⟨Bx, 0, none⟩ = some (.int .i64 ba) := H64.out.cell 0
      have y1 : w4.cell? ⟨Bx, 1, none⟩ = some (.int .i64 la) := H64.out.cell 1
      have y2 : w4.cell? ⟨Bx, 2, none⟩ = some (.int .i64 fr) := H64.out.cell 2
      have y3 : w4.cell? ⟨Bx, 3, none⟩ = some (.int .i64 ep) := H64.out.cell 3
      have y4 : w4.cell? ⟨Bx, 4, none⟩ = some (.int .i64 pi) := H64.out.cell 4
      have y5 : w4.cell? ⟨Bx, 5, none⟩ = some (.int .i64 ge) := H64.out.cell 5
      have y6 : w4.cell? ⟨Bx, 6, none⟩ = some (.int .i64 se) := H64.out.cell 6
      have y7 : w4.cell? ⟨Bx, 7, none⟩ = some (.bool tx) := H64.out.cell 7
      have y8 : w4.cell? ⟨Bx, 8, none⟩ = some (.int .i64 ct) := H64.out.cell 8
      have y9 : w4.cell? ⟨Bx, 9, none⟩ = some (.slice AR nR cR) := H64.out.cell 9
      have hne : ∀ k, k < W0.heap.size → some k ≠ (Value.slice A9 n9 c9).ownBlock := fun k hk he => by have := (World.ownsRow.lt H44.out k he.symm).1; omega
      have b2 := (H24.out.alloc (.cells #[.int .i64 ba, .int .i64 la, .int .i64 fr, .int .i64 ep, .int .i64 pi, .int .i64 ge, .int .i64 se, .bool tx, .int .i64 ct, .slice AR nR cR] 28)).kept hg5 (hne _ (by omega))
      have b3 := (H34.out.alloc (.cells #[.int .i64 ba, .int .i64 la, .int .i64 fr, .int .i64 ep, .int .i64 pi, .int .i64 ge, .int .i64 se, .bool tx, .int .i64 ct, .slice AR nR cR] 28)).kept hg5 (hne _ (by omega))
      have d5 := b3.cell
      have f5 := b3.frozen
      have hkq5 := (HKQ.out.alloc (.cells #[.int .i64 ba, .int .i64 la, .int .i64 fr, .int .i64 ep, .int .i64 pi, .int .i64 ge, .int .i64 se, .bool tx, .int .i64 ct, .slice AR nR cR] 28)).grown hg5 (fun k hk => ⟨by rintro (h | h | h) <;> (have := (World.ownsRow.lt H44.out k hk).1; omega), HOWN.out k hk⟩)
      have hko5 := (HKF.out.trans ((KeepsOthers.alloc w4 (.cells #[.int .i64 ba, .int .i64 la, .int .i64 fr, .int .i64 ep, .int .i64 pi, .int .i64 ge, .int .i64 se, .bool tx, .int .i64 ct, .slice AR nR cR] 28)).from _)).trans ((KeepsOthers.of_grownBy hg5 (own_cells (H44.out.alloc _))).from _)
      have HKQ5 := Lib.hid hkq5
      have HKO5 := Lib.hid hko5
      have HO5 := Lib.hid ho5
      have HX2 := Lib.hid b2
      have HX3 := Lib.hid b3
      have HB5 := Lib.hid (show Below w.heap.size w w5 from (HB4.out.trans ((belA w4 (.cells #[.int .i64 ba, .int .i64 la, .int .i64 fr, .int .i64 ep, .int .i64 pi, .int .i64 ge, .int .i64 se, .bool tx, .int .i64 ct, .slice AR nR cR] 28)).mono (by omega))).trans ⟨hg5.os, hg5.tape, hg5.output, hg5.size, fun i hi => hg5.block i (by rw [World.size_alloc]; omega) (hne i (by omega))⟩)
      clear hkq5 hko5 ho5 b2 b3 hg5 hv5 hne
      gi_wp2_with (gi_at_builtin; refine wpListIn_app_run rfl _ _ 38 rfl rfl rfl hrun ?_)
      refine ⟨HKO5.out.trans ((KeepsOthers.setCell _ _ _).from _), HKQ5.out.set (p := ⟨w.heap.size + 1, 0, none⟩) (by rintro (h | h | h) <;> simp only at h <;> omega) (by simp only; omega) _, ⟨A5, n9 + 1, c5, rest, by rw [HL.out]; simp, boxed_set2 HX2.out _ (by omega), HX3.out.set _, by rw [HF.out]; exact HO5.out.setBelow (by simp only; omega) _⟩, HB5.out.setCell (by simp only; omega) _⟩
  case done =>
    rintro D ys W hD hys ⟨⟨A9, n9, c9, rest, h1, h2, h3, h4⟩, hB⟩ hK
    have hyl : ys = L := by rw [hys]; exact cat_one (LX.mk A n c L)
    have HO := Lib.hid (show OwnF batC 10 W 28 W0.heap.size (.slice A9 n9 c9) n9 (L.filter p) from by rw [← hyl]; exact h4)
    have HB := Lib.hid hB
    have HK := Lib.hid hK
    have c3 := h3.cell
    clear h1 h2 h3 h4 hB hK hys hyl
    go_wp2
    refine ⟨by simp, .inl ⟨_, _, rfl, run_takeDeferred HK.out, ?_⟩⟩
    refine ⟨.slice A9 n9 c9, by simp [results, Tryz.results58, go_sem], A9, n9, c9, rfl, ?_, HB.out.trans (belowK_b (w := w) (Nat.le_refl _) _ D _ _ (by omega) HK.out rfl rfl)⟩
    exact (row_own (N := D) HO.out (grownBy_putObj' W D (.deferred none)) (fun r e => by cases e; exact ⟨Nat.le_refl _, _, HK.out, rfl⟩)).more hB0.size
end Go.Proofs.YtlfbagkonckffaaGreat.Txn
