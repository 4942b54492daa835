/- Joined: TxnD2, TxnD3, CrcMul, CrcTab, BatDevS. -/
import Derived.Test.YtlfbagkonckffaaGreatJ13
import Derived.Deep.DeepCutAuto
import Derived.Deep.RegionLaw
import Derived.Laws.OwnMore
import Derived.LoopTactic
import Derived.Test.YtlfbagkonckffaaGreatJ02
import Derived.Test.YtlfbagkonckffaaGreatJ07
import Derived.Test.YtlfbagkonckffaaGreatJ08
/- The landed txns: mayHaveEnded. -/
namespace Go.Proofs.YtlfbagkonckffaaGreat.Txn
open Go.RowKit Go.Shelf Oct RowF Lay InR RngQ Bat RowL
open Epo (At0 AtO belA)

attribute [local go_sem] Oper.semAt_some

set_option maxRecDepth 100000 in
set_option maxHeartbeats 8000000 in
theorem mayG_is (A : Option Addr) (n c : Nat) (L : List Gon) (w : World) (hr : RdGn w w.heap.size A n L) (hn : n ≤ reach) {z : Bool} (hz : chG 0 L = z) :
    Calls Tryz.prog 50 #[.slice A n c] w fun e w' => e = .returned (.bool z) ∧ Below w.heap.size w w' := by
  have HR := Lib.hid hr
  have HZ := Lib.hid hz
  clear hr hz
  refine (callsIn_wide (n := 6)).1 ?_
  refine callsIn_of_wp_marks Tryz.func50 rfl trivial ?_ rfl
  simp only [Tryz.ntmps50, List.size_toArray, List.length_cons, List.length_nil, Nat.reduceAdd, Nat.reduceSub, Array.replicate_succ, Array.replicate_zero, List.push_toArray, List.append_toArray, List.nil_append, List.cons_append]
  refine wpIn_wide.2 ?_
  go_wp2_with (go_at_call 70; (with_reducible refine (eachG_is _ _ _ _).mono ?_); rintro e w' ⟨rfl, rfl⟩)
  generalize hw0 : (World.alloc (World.alloc (World.alloc (World.alloc _ _) _) _) _) = W0
  have hsz : W0.heap.size = w.heap.size + 4 := by rw [← hw0]; simp
  have hB0 : Below w.heap.size w W0 := by rw [← hw0]; exact bel_alloc (bel_alloc (bel_alloc (bel_alloc (Below.refl _ _) _) _) _) _
  have hA0 : At0 W0 (w.heap.size) [Value.bool false] 4 := by
    rw [← hw0]
    have h := At0.new w [Value.bool false] 4
    exact (((h).below (belA _ _)).below (belA _ _)).below (belA _ _)
  have hA1 : At0 W0 (w.heap.size + 1) [Value.int .i64 0] 3 := by
    rw [← hw0]
    have h := At0.new (w.alloc (.cells #[Value.bool false] 4)) [Value.int .i64 0] 3
    simp only [World.size_alloc] at h
    exact ((h).below (belA _ _)).below (belA _ _)
  have hA2 : At0 W0 (w.heap.size + 1 + 1) [Value.slice A n c] 23 := by
    rw [← hw0]
    have h := At0.new ((w.alloc (.cells #[Value.bool false] 4)).alloc (.cells #[Value.int .i64 0] 3)) [Value.slice A n c] 23
    simp only [World.size_alloc] at h
    exact (h).below (belA _ _)
  have hA3 : At0 W0 (w.heap.size + 1 + 1 + 1) [Value.slice (some ⟨w.heap.size + 1 + 1, 0, none⟩) 1 1] 117 := by
    rw [← hw0]
    have h := At0.new (((w.alloc (.cells #[Value.bool false] 4)).alloc (.cells #[Value.int .i64 0] 3)).alloc (.cells #[Value.slice A n c] 23)) [Value.slice (some ⟨w.heap.size + 1 + 1, 0, none⟩) 1 1] 117
    simp only [World.size_alloc] at h
    exact h
  clear hw0
  refine (wpIn_wide (n := 6)).1 ?_
  refine wpIn_rangeQ (F := Fence.wide) rfl (by omega) (gf := 95) (lb := #[.pointer (some ⟨w.heap.size + 1 + 1 + 1, 0, none⟩)]) rfl trivial (enters_of Tryz.func95 (by kernel_rfl) rfl)
    (eaG_seq (6 - 1) (by omega) (w.heap.size + 1 + 1 + 1) (w.heap.size + 1 + 1) w.heap.size 1 1 _ W0 (ea_one (x := ⟨A, n, c, L⟩) (HR.out.below hB0 (Nat.le_refl _)) hn hB0.size hA2 hA3)) (fun k h => by rcases h with h | h | h <;> omega) (Below.refl _ _) (fun _ => rfl)
    (fun pre W => (∃ v rest, L = pre ++ rest ∧ chG 0 L = chG v rest ∧ 0 ≤ v ∧ v ≤ 1099511627777 ∧ Boxed W (w.heap.size) 4 (.bool false) ∧ Boxed W (w.heap.size + 1) 3 (.int .i64 v)) ∧ Below w.heap.size w W)
    (fun cd _ W => (cd = .ret ∧ chG 0 L = false ∧ Boxed W (w.heap.size) 4 (.bool false)) ∧ Below w.heap.size w W)
    (fun pre X Y row hs hg hrow => by
      obtain ⟨⟨v, rest, h1, h2, h3, h3', h4, h5⟩, h6⟩ := hs
      exact ⟨⟨v, rest, h1, h2, h3, h3', box_own h4 hg hrow, box_own h5 hg hrow⟩, bel_own (Nat.le_refl _) hB0.size h6 hg hrow⟩)
    (fun cd pre X Y row hs hg hrow => by
      obtain ⟨⟨h1, h2, h3⟩, h4⟩ := hs
      exact ⟨⟨h1, h2, box_own h3 hg hrow⟩, bel_own (Nat.le_refl _) hB0.size h4 hg hrow⟩)
    ⟨⟨0, L, rfl, rfl, Int.le_refl _, by decide, hA0, hA1⟩, hB0⟩
    (fun pre x W1 a' W => (∃ Bx v rest, W1.heap.size ≤ Bx ∧ W0.heap.size ≤ W1.heap.size ∧ L = pre ++ x :: rest ∧ chG 0 L = chG v (x :: rest) ∧ 0 ≤ v ∧ v ≤ 1099511627777 ∧ Boxed W (w.heap.size) 4 (.bool false) ∧ Boxed W (w.heap.size + 1) 3 (.int .i64 v) ∧ At0 W Bx (goC x) 54 ∧ a' = { tmps := #[.slice A n c, undef, .pointer (some ⟨w.heap.size, 0, none⟩), .pointer (some ⟨w.heap.size + 1, 0, none⟩), .pointer (some ⟨Bx, 0, none⟩), .slice A n c, .slice (some ⟨w.heap.size + 1 + 1, 0, none⟩) 1 1, .func (.func 95) #[] #[.pointer (some ⟨w.heap.size + 1 + 1 + 1, 0, none⟩)], (encG x)[0]!, undef, undef, undef, undef, undef, undef, undef, undef, undef, undef, undef, undef, undef, undef, undef, undef, undef, undef, undef, undef, undef, undef, undef, undef, undef, undef, undef, undef, undef], defers := [] }) ∧ Below w.heap.size w W)
    (fun pre x W1 a' => fun s X Y row hs hg hrow => by
      obtain ⟨⟨Bx, v, rest, h0, h0', h1, h2, h3, h3', h4, h5, h6, h7⟩, h8⟩ := hs
      exact ⟨⟨Bx, v, rest, h0, h0', h1, h2, h3, h3', box_own h4 hg hrow, box_own h5 hg hrow, at_own h6 hg hrow, h7⟩, bel_own (Nat.le_refl _) hB0.size h8 hg hrow⟩)
    ?assign ?body ?done ?stop
  case assign =>
    rintro l pre ⟨x0, x1, x2, x3⟩ W1 W G hs1 ⟨⟨v, rest, h1, h2, h3, h3', h4, h5⟩, hB⟩ hbel ⟨r2, hQ⟩ hG
    have hrest : rest = ⟨x0, x1, x2, x3⟩ :: r2 := List.append_cancel_left (h1.symm.trans ((cat_one (LX.mk A n c L)).symm.trans hQ))
    subst hrest
    dsimp only [encG]
    gi_wp2
    have hbA := bel_trans hbel (belA W (.cells #[.int .i64 x0, .int .i64 x1, .int .i64 x2, .int .i64 x3] 54))
    exact hG _ _ ((KeepsOthers.alloc _ _).from _) ((KeptQ.refl _ _ _).alloc _) ⟨⟨W.heap.size, v, r2, hbel.size, hs1, h1, h2, h3, h3', boxed_below h4 hbA, boxed_below h5 hbA, At0.new W (goC ⟨x0, x1, x2, x3⟩) _, rfl⟩, hB.trans (hbA.mono (Nat.le_trans hB0.size hs1))⟩
  case body =>
    rintro l pre ⟨x0, x1, x2, x3⟩ W1 a' W ⟨⟨Bx, v, rest, hBx, hs1, h1, h2, h3, h3', h4, h5, h6, rfl⟩, hB⟩
    have HL := Lib.hid h1
    have HC := Lib.hid h2
    have HB := Lib.hid hB
    have H4 := Lib.hid h4
    have H5 := Lib.hid h5
    have c1 := h5.cell
    have y0 : W.cell? ⟨Bx, 0, none⟩ = some (.int .i64 x0) := h6.cell 0
    have y1 : W.cell? ⟨Bx, 1, none⟩ = some (.int .i64 x1) := h6.cell 1
    have y2 : W.cell? ⟨Bx, 2, none⟩ = some (.int .i64 x2) := h6.cell 2
    have y3 : W.cell? ⟨Bx, 3, none⟩ = some (.int .i64 x3) := h6.cell 3
    have hs0 := hB0.size
    simp only [chG] at h2
    have HC2 := Lib.hid h2
    clear h1 h2 h4 h5 h6 hB
    have hfn : Fence.wide.fn 79 := trivial
    dsimp only [encG]
    by_cases hok : (v ≤ x3 ∧ x3 ≤ 1099511627776) ∧ (0 ≤ x2 ∧ x2 ≤ x3 - 1) ∧ (0 ≤ x0 ∧ x0 ≤ 1099511627776) ∧ (0 ≤ x1 ∧ x1 ≤ 1048576)
    · have e9 : chG 0 L = chG (x3 + 1) rest := by rw [HC2.out, decide_eq_true (by omega), Bool.true_and]
      have HE := Lib.hid e9
      have hw : IntKind.i64.wrap (x3 + 1) = x3 + 1 := IntWalk.i64_in _ (by omega)
      have f1 := H5.out.frozen
      have HT0 := Lib.hid (show decide (v ≤ x3 ∧ x3 ≤ 1099511627776) = true from decide_eq_true (by omega))
      have HT1 := Lib.hid (show decide (0 ≤ x2 ∧ x2 ≤ x3 - 1) = true from decide_eq_true (by omega))
      have HT2 := Lib.hid (show decide (0 ≤ x0 ∧ x0 ≤ 1099511627776) = true from decide_eq_true (by omega))
      have HT3 := Lib.hid (show decide (0 ≤ x1 ∧ x1 ≤ 1048576) = true from decide_eq_true (by omega))
      have hw1 : IntKind.i64.wrap (x3 - 1) = x3 - 1 := IntWalk.i64_in _ (by omega)
      clear e9
      gi_wp2_with (first
        | (gi_at_call 79; (with_reducible refine (CallsIn.inRound l (callsIn_wide.2 (within_at x3 (v) (1099511627776) _ HT0.out))).mono ?_); rintro e w1 ⟨rfl, rfl⟩)
        | (gi_at_call 79; (with_reducible refine (CallsIn.inRound l (callsIn_wide.2 (within_at x2 (0) (x3 - 1) _ HT1.out))).mono ?_); rintro e w1 ⟨rfl, rfl⟩)
        | (gi_at_call 79; (with_reducible refine (CallsIn.inRound l (callsIn_wide.2 (within_at x0 (0) (1099511627776) _ HT2.out))).mono ?_); rintro e w1 ⟨rfl, rfl⟩)
        | (gi_at_call 79; (with_reducible refine (CallsIn.inRound l (callsIn_wide.2 (within_at x1 (0) (1048576) _ HT3.out))).mono ?_); rintro e w1 ⟨rfl, rfl⟩))
      refine ⟨(KeepsOthers.setCell _ _ _).from _, (KeptQ.refl _ _ _).set (by rintro (h | h | h) <;> simp only at h <;> omega) (by simp only; omega) _, ⟨_, rest, by rw [HL.out]; simp, HE.out, by omega, by omega, boxed_set2 H4.out _ (by omega), H5.out.set _⟩, HB.out.setCell (by simp only; omega) _⟩
    · have e9 : chG 0 L = false := by rw [HC2.out, decide_eq_false (by omega), Bool.false_and]
      have HE := Lib.hid e9
      have f1 := H4.out.frozen
      have d1 := H4.out.cell
      clear e9
      by_cases hok0 : v ≤ x3 ∧ x3 ≤ 1099511627776
      case neg =>
        have HT0 := Lib.hid (show decide (v ≤ x3 ∧ x3 ≤ 1099511627776) = false from decide_eq_false (by omega))
        gi_wp2_with (first
          | (gi_at_call 79; (with_reducible refine (CallsIn.inRound l (callsIn_wide.2 (within_at x3 (v) (1099511627776) _ HT0.out))).mono ?_); rintro e w1 ⟨rfl, rfl⟩))
        refine ⟨(KeepsOthers.setCell _ _ _).from _, ⟨rfl, HE.out, H4.out.set _⟩, HB.out.setCell (by simp only; omega) _⟩
      have HT0 := Lib.hid (show decide (v ≤ x3 ∧ x3 ≤ 1099511627776) = true from decide_eq_true (by omega))
      by_cases hok1 : 0 ≤ x2 ∧ x2 ≤ x3 - 1
      case neg =>
        have HT1 := Lib.hid (show decide (0 ≤ x2 ∧ x2 ≤ x3 - 1) = false from decide_eq_false (by omega))
        have hw1 : IntKind.i64.wrap (x3 - 1) = x3 - 1 := IntWalk.i64_in _ (by omega)
        gi_wp2_with (first
          | (gi_at_call 79; (with_reducible refine (CallsIn.inRound l (callsIn_wide.2 (within_at x3 (v) (1099511627776) _ HT0.out))).mono ?_); rintro e w1 ⟨rfl, rfl⟩)
          | (gi_at_call 79; (with_reducible refine (CallsIn.inRound l (callsIn_wide.2 (within_at x2 (0) (x3 - 1) _ HT1.out))).mono ?_); rintro e w1 ⟨rfl, rfl⟩))
        refine ⟨(KeepsOthers.setCell _ _ _).from _, ⟨rfl, HE.out, H4.out.set _⟩, HB.out.setCell (by simp only; omega) _⟩
      have HT1 := Lib.hid (show decide (0 ≤ x2 ∧ x2 ≤ x3 - 1) = true from decide_eq_true (by omega))
      have hw1 : IntKind.i64.wrap (x3 - 1) = x3 - 1 := IntWalk.i64_in _ (by omega)
      by_cases hok2 : 0 ≤ x0 ∧ x0 ≤ 1099511627776
      case neg =>
        have HT2 := Lib.hid (show decide (0 ≤ x0 ∧ x0 ≤ 1099511627776) = false from decide_eq_false (by omega))
        gi_wp2_with (first
          | (gi_at_call 79; (with_reducible refine (CallsIn.inRound l (callsIn_wide.2 (within_at x3 (v) (1099511627776) _ HT0.out))).mono ?_); rintro e w1 ⟨rfl, rfl⟩)
          | (gi_at_call 79; (with_reducible refine (CallsIn.inRound l (callsIn_wide.2 (within_at x2 (0) (x3 - 1) _ HT1.out))).mono ?_); rintro e w1 ⟨rfl, rfl⟩)
          | (gi_at_call 79; (with_reducible refine (CallsIn.inRound l (callsIn_wide.2 (within_at x0 (0) (1099511627776) _ HT2.out))).mono ?_); rintro e w1 ⟨rfl, rfl⟩))
        refine ⟨(KeepsOthers.setCell _ _ _).from _, ⟨rfl, HE.out, H4.out.set _⟩, HB.out.setCell (by simp only; omega) _⟩
      have HT2 := Lib.hid (show decide (0 ≤ x0 ∧ x0 ≤ 1099511627776) = true from decide_eq_true (by omega))
      have HT3 := Lib.hid (show decide (0 ≤ x1 ∧ x1 ≤ 1048576) = false from decide_eq_false (by omega))
      gi_wp2_with (first
        | (gi_at_call 79; (with_reducible refine (CallsIn.inRound l (callsIn_wide.2 (within_at x3 (v) (1099511627776) _ HT0.out))).mono ?_); rintro e w1 ⟨rfl, rfl⟩)
        | (gi_at_call 79; (with_reducible refine (CallsIn.inRound l (callsIn_wide.2 (within_at x2 (0) (x3 - 1) _ HT1.out))).mono ?_); rintro e w1 ⟨rfl, rfl⟩)
        | (gi_at_call 79; (with_reducible refine (CallsIn.inRound l (callsIn_wide.2 (within_at x0 (0) (1099511627776) _ HT2.out))).mono ?_); rintro e w1 ⟨rfl, rfl⟩)
        | (gi_at_call 79; (with_reducible refine (CallsIn.inRound l (callsIn_wide.2 (within_at x1 (0) (1048576) _ HT3.out))).mono ?_); rintro e w1 ⟨rfl, rfl⟩))
      refine ⟨(KeepsOthers.setCell _ _ _).from _, ⟨rfl, HE.out, H4.out.set _⟩, HB.out.setCell (by simp only; omega) _⟩
  case done =>
    rintro D ys W hD hys ⟨⟨v, rest, h1, h2, h3, h3', h4, h5⟩, hB⟩ hK
    have hrest : rest = [] := by
      have h9 : L = ys := by rw [hys]; exact (cat_one (LX.mk A n c L)).symm
      rw [h9] at h1
      exact List.self_eq_append_right.1 h1
    subst hrest
    have HZ2 := Lib.hid (show z = true from HZ.out.symm.trans h2)
    have HB := Lib.hid hB
    have HK := Lib.hid hK
    have H4 := Lib.hid h4
    have f1 := h4.frozen
    have d1 := h4.cell
    clear h1 h2 h4 h5 hB hK hys
    go_wp2
    have hK1 := (KeepsOthers.setCell W ⟨w.heap.size, 0, none⟩ (.bool true)).same D _ HK.out rfl
    have r2 := cell_kept (H4.out.set (.bool true)).cell (grownBy_putObj' _ D (.deferred none)) (fun r e => by cases e; exact ⟨_, hK1, rfl⟩)
    refine ⟨by simp, .inl ⟨_, _, rfl, run_takeDeferred hK1, ?_⟩⟩
    refine ⟨.bool true, by simp [results, Tryz.results50, go_sem, r2], by rw [HZ2.out], ?_⟩
    exact (HB.out.setCell (by simp only; omega) _).trans (belowK_b (w := w) (Nat.le_refl _) _ D _ _ (by omega) hK1 rfl rfl)
  case stop =>
    rintro D cd pre W hD ⟨⟨rfl, h2, h3⟩, hB⟩ hK
    have HZ2 := Lib.hid (show z = false from HZ.out.symm.trans h2)
    have HB := Lib.hid hB
    have HK := Lib.hid hK
    have H3 := Lib.hid h3
    clear h2 h3 hB hK
    gi_wp2
    have r2 := cell_kept H3.out.cell (grownBy_putObj' _ D (.deferred none)) (fun r e => by cases e; exact ⟨_, HK.out, rfl⟩)
    refine ⟨by simp, .inl ⟨_, _, rfl, run_takeDeferred HK.out, ?_⟩⟩
    refine ⟨.bool false, by simp [results, Tryz.results50, go_sem, r2], by rw [HZ2.out], ?_⟩
    exact HB.out.trans (belowK_b (w := w) (Nat.le_refl _) _ D _ _ (by omega) HK.out rfl rfl)
end Go.Proofs.YtlfbagkonckffaaGreat.Txn

/- The landed txns: Check. -/
namespace Go.Proofs.YtlfbagkonckffaaGreat.Txn
open Go.RowKit Go.Shelf Oct RowF Lay InR RngQ Bat RowL
open Epo (At0 AtO belA)

attribute [local go_sem] Oper.semAt_some

def ceT (t : Tx) : Int := if ckT t = true then 0 else 1
theorem cel3 {W : World} {g : Nat} {a b c : Value} {e : TypeId} (h : At0 W g [a, b, c] e) : W.cell? ⟨g, 0, none⟩ = some a ∧ W.cell? ⟨g, 1, none⟩ = some b ∧ W.cell? ⟨g, 2, none⟩ = some c := ⟨h.cell 0, h.cell 1, h.cell 2⟩
theorem frz3 {W : World} {g : Nat} {a b c : Value} {e : TypeId} (h : At0 W g [a, b, c] e) : W.frozen? ⟨g, 0, none⟩ = false ∧ W.frozen? ⟨g, 1, none⟩ = false ∧ W.frozen? ⟨g, 2, none⟩ = false := ⟨h.frozen 0, h.frozen 1, h.frozen 2⟩
structure FewN (n n2 n3 : Nat) : Prop where
  a : n ≤ reach
  b : n2 ≤ reach
  c : n3 ≤ reach
set_option maxRecDepth 100000 in
set_option maxHeartbeats 8000000 in
theorem dCheckT_is (A : Option Addr) (n c : Nat) (A2 : Option Addr) (n2 c2 : Nat) (A3 : Option Addr) (n3 c3 : Nat) (t : Tx) (w : World) (hr : RdT w A n A2 n2 A3 n3 t) (hn : FewN n n2 n3) {z : Int} (hz : ceT t = z) :
    Calls Tryz.prog 17 #[.agg #[.slice A n c, .slice A2 n2 c2, .slice A3 n3 c3]] w fun e w' => e = .returned (.int .i64 z) ∧ Below w.heap.size w w' := by
  have hba := belA w (.cells #[.slice A n c, .slice A2 n2 c2, .slice A3 n3 c3] 25)
  have HB1 := Lib.hid hba
  have HR1 := Lib.hid (hr.below hba)
  have HN := Lib.hid hn
  have HAT1 := Lib.hid (At0.new w [.slice A n c, .slice A2 n2 c2, .slice A3 n3 c3] 25)
  clear hba hr hn
  rcases h1 : chO 0 t.op with _ | _
  case false =>
    have hz9 : z = 1 := by rw [← hz]; unfold ceT ckT; rw [h1]; rfl
    subst hz9
    have H1 := Lib.hid h1
    clear h1 hz
    go_enter Tryz.func17, Tryz.ntmps17
    go_upto_region 1 with fail
    generalize (w.alloc (.cells #[.slice A n c, .slice A2 n2 c2, .slice A3 n3 c3] 25)) = W at *
    obtain ⟨q0, q1, q2⟩ := cel3 HAT1.out
    go_wp2_with (go_at_call 49; (with_reducible refine (mayO_is A n c t.op _ HR1.out.op HN.out.a H1.out).mono ?_); rintro e w2 ⟨rfl, hb⟩; have HB2 := Lib.hid (bel_trans HB1.out hb); clear hb)
    go_ret
    exact ⟨rfl, HB2.out⟩
  rcases h2 : chG 0 t.gone with _ | _
  case false =>
    have hz9 : z = 1 := by rw [← hz]; unfold ceT ckT; rw [h1, h2]; rfl
    subst hz9
    have H1 := Lib.hid h1
    have H2 := Lib.hid h2
    clear h1 h2 hz
    go_enter Tryz.func17, Tryz.ntmps17
    go_upto_region 1 with fail
    generalize (w.alloc (.cells #[.slice A n c, .slice A2 n2 c2, .slice A3 n3 c3] 25)) = W at *
    obtain ⟨q0, q1, q2⟩ := cel3 HAT1.out
    go_wp2_with (first
      | (go_at_call 50; (with_reducible refine (mayG_is A2 n2 c2 t.gone _ HR2.out.gone HN.out.b H2.out).mono ?_); rintro e w3 ⟨rfl, hb⟩; have HB3 := Lib.hid (bel_trans HB2.out hb); clear hb)
      | (go_at_call 49; (with_reducible refine (mayO_is A n c t.op _ HR1.out.op HN.out.a H1.out).mono ?_); rintro e w2 ⟨rfl, hb⟩; have HB2 := Lib.hid (bel_trans HB1.out hb); have HR2 := Lib.hid (HR1.out.below hb); have HAT2 := Lib.hid (HAT1.out.below hb); clear hb q0 q1 q2; obtain ⟨q0, q1, q2⟩ := cel3 HAT2.out))
    go_ret
    exact ⟨rfl, HB3.out⟩
  have H3 : ∃ b, chG 0 t.done = b := ⟨_, rfl⟩
  obtain ⟨b3, h3⟩ := H3
  have hz9 : z = if b3 = true then 0 else 1 := by rw [← hz, ← h3]; unfold ceT ckT; rw [h1, h2]; rfl
  have H1 := Lib.hid h1
  have H2 := Lib.hid h2
  have H3 := Lib.hid h3
  clear h1 h2 h3 hz
  cases b3 with
  | false =>
    rw [if_neg (by simp)] at hz9
    subst hz9
    go_enter Tryz.func17, Tryz.ntmps17
    go_upto_region 1 with fail
    generalize (w.alloc (.cells #[.slice A n c, .slice A2 n2 c2, .slice A3 n3 c3] 25)) = W at *
    obtain ⟨q0, q1, q2⟩ := cel3 HAT1.out
    go_wp2_with (first
      | (go_at_call 50; (with_reducible refine (mayG_is A3 n3 c3 t.done _ HR3.out.done HN.out.c H3.out).mono ?_); rintro e w4 ⟨rfl, hb⟩; have HB4 := Lib.hid (bel_trans HB3.out hb); clear hb)
      | (go_at_call 50; (with_reducible refine (mayG_is A2 n2 c2 t.gone _ HR2.out.gone HN.out.b H2.out).mono ?_); rintro e w3 ⟨rfl, hb⟩; have HB3 := Lib.hid (bel_trans HB2.out hb); have HR3 := Lib.hid (HR2.out.below hb); have HAT3 := Lib.hid (HAT2.out.below hb); clear hb q0 q1 q2; obtain ⟨q0, q1, q2⟩ := cel3 HAT3.out)
      | (go_at_call 49; (with_reducible refine (mayO_is A n c t.op _ HR1.out.op HN.out.a H1.out).mono ?_); rintro e w2 ⟨rfl, hb⟩; have HB2 := Lib.hid (bel_trans HB1.out hb); have HR2 := Lib.hid (HR1.out.below hb); have HAT2 := Lib.hid (HAT1.out.below hb); clear hb q0 q1 q2; obtain ⟨q0, q1, q2⟩ := cel3 HAT2.out))
    go_ret
    exact ⟨rfl, HB4.out⟩
  | true =>
    rw [if_pos rfl] at hz9
    subst hz9
    go_enter Tryz.func17, Tryz.ntmps17
    go_upto_region 1 with fail
    generalize (w.alloc (.cells #[.slice A n c, .slice A2 n2 c2, .slice A3 n3 c3] 25)) = W at *
    obtain ⟨q0, q1, q2⟩ := cel3 HAT1.out
    go_wp2_with (first
      | (go_at_call 50; (with_reducible refine (mayG_is A3 n3 c3 t.done _ HR3.out.done HN.out.c H3.out).mono ?_); rintro e w4 ⟨rfl, hb⟩; have HB4 := Lib.hid (bel_trans HB3.out hb); clear hb)
      | (go_at_call 50; (with_reducible refine (mayG_is A2 n2 c2 t.gone _ HR2.out.gone HN.out.b H2.out).mono ?_); rintro e w3 ⟨rfl, hb⟩; have HB3 := Lib.hid (bel_trans HB2.out hb); have HR3 := Lib.hid (HR2.out.below hb); have HAT3 := Lib.hid (HAT2.out.below hb); clear hb q0 q1 q2; obtain ⟨q0, q1, q2⟩ := cel3 HAT3.out)
      | (go_at_call 49; (with_reducible refine (mayO_is A n c t.op _ HR1.out.op HN.out.a H1.out).mono ?_); rintro e w2 ⟨rfl, hb⟩; have HB2 := Lib.hid (bel_trans HB1.out hb); have HR2 := Lib.hid (HR1.out.below hb); have HAT2 := Lib.hid (HAT1.out.below hb); clear hb q0 q1 q2; obtain ⟨q0, q1, q2⟩ := cel3 HAT2.out))
    go_ret
    exact ⟨rfl, HB4.out⟩
end Go.Proofs.YtlfbagkonckffaaGreat.Txn

/- The plain mathematics of how sums are joined by multiplying polynomials, and of the table of four steps. Nothing of the program. -/
namespace Go.Proofs.YtlfbagkonckffaaGreat.Crc
open Oct

def mulK : Nat → Nat → Nat → Nat
  | 0, _, _ => 0
  | k + 1, a, b => (if 2147483648 ≤ a then b else 0) ^^^ mulK k (2 * a % 4294967296) (step b)
def mul (a b : Nat) : Nat := mulK 32 a b
def left : Nat → Nat → Nat
  | 0, _ => 0
  | k + 1, a => if a = 0 then 0 else left k (2 * a % 4294967296) + 1

theorem pow_xor {k x : Nat} (h : x < 2 ^ k) : 2 ^ k ^^^ x = 2 ^ k + x := by
  have h1 := Nat.two_pow_add_eq_or_of_lt (i := k) h 1
  rw [Nat.mul_one] at h1
  rw [h1]
  apply Nat.eq_of_testBit_eq
  intro i
  rw [Nat.testBit_or, Nat.testBit_xor]
  by_cases hi : i < k
  · have : (2 ^ k).testBit i = false := Nat.testBit_two_pow_of_ne (by omega)
    rw [this]; simp
  · have : x.testBit i = false := Nat.testBit_lt_two_pow (Nat.lt_of_lt_of_le h (Nat.pow_le_pow_right (by omega) (by omega)))
    rw [this]; simp
theorem mulK_one {k a : Nat} (ha : a < 4294967296) (hk : k < 32) : mulK (k + 1) a (2 ^ k) = a / 2 ^ (31 - k) := by
  induction k generalizing a with
  | zero =>
    show (if 2147483648 ≤ a then 2 ^ 0 else 0) ^^^ 0 = a / 2 ^ 31
    rw [Nat.xor_zero, show (2 : Nat) ^ 31 = 2147483648 by decide]
    split <;> omega
  | succ k ih =>
    have hs : step (2 ^ (k + 1)) = 2 ^ k := by rw [Nat.pow_succ, Nat.mul_comm]; exact step_even _
    show (if 2147483648 ≤ a then 2 ^ (k + 1) else 0) ^^^ mulK (k + 1) _ (step (2 ^ (k + 1))) = _
    rw [hs, ih (Nat.mod_lt _ (by omega)) (by omega)]
    have e31 : (2 : Nat) ^ (31 - k) = 2 * 2 ^ (31 - (k + 1)) := by rw [show 31 - k = (31 - (k + 1)) + 1 by omega, Nat.pow_succ, Nat.mul_comm]
    have ek : (2147483648 : Nat) = 2 ^ (k + 1) * 2 ^ (31 - (k + 1)) := by rw [← Nat.pow_add, show k + 1 + (31 - (k + 1)) = 31 by omega]
    have hpos : 0 < 2 ^ (31 - (k + 1)) := Nat.pow_pos (by omega)
    have hm : 2 * a % 4294967296 = 2 * (a % 2147483648) := by omega
    rw [hm, e31, Nat.mul_div_mul_left _ _ (by omega)]
    by_cases h : 2147483648 ≤ a
    · rw [if_pos h, pow_xor]
      · have ha2 : a = a % 2147483648 + 2 ^ (31 - (k + 1)) * 2 ^ (k + 1) := by rw [Nat.mul_comm, ← ek]; omega
        rw [Nat.add_comm]
        conv => rhs; rw [ha2]
        rw [Nat.add_mul_div_left _ _ hpos]
      · rw [Nat.div_lt_iff_lt_mul hpos, ← ek]
        omega
    · rw [if_neg h, Nat.zero_xor, Nat.mod_eq_of_lt (by omega)]
theorem mul_one {a : Nat} (ha : a < 4294967296) : mul a 2147483648 = a := by
  have h := mulK_one (k := 31) ha (by omega)
  rw [show (2 : Nat) ^ 31 = 2147483648 by decide, Nat.sub_self, Nat.pow_zero, Nat.div_one] at h
  exact h
def xp (k : Nat) : Nat := steps k 2147483648
/-! ### the table of four steps -/
def tab : List Nat := [0, 498536548, 997073096, 651767980, 1994146192, 1802195444, 1303535960, 1342533948, 3988292384, 4027552580, 3604390888, 3412177804, 2607071920, 2262029012, 2685067896, 3183342108]
end Go.Proofs.YtlfbagkonckffaaGreat.Crc

/- The package's table: what the walks ask of the world. -/
namespace Go.Proofs.YtlfbagkonckffaaGreat.Crc
open Go.RowKit Oct

end Go.Proofs.YtlfbagkonckffaaGreat.Crc

/- The words for the contracts of the landed batch. -/
namespace Go.Proofs.YtlfbagkonckffaaGreat.Bat
open Go.RowKit Oct Rec Crc Lay

def OwnR (w : World) (B : Nat) (A : Option Addr) (n : Nat) (l : List Rc) : Prop :=
  RdR w w.heap.size A n l ∧ ∀ g o, A = some ⟨g, o, none⟩ → 0 < n → B ≤ g ∧ ∀ i, i < n * 5 → w.frozen? ⟨g, o + i, none⟩ = false
def RGB (w : World) (x : Bt × Int × Int) (en : Ending) (w' : World) : Prop :=
  ∃ A n c, en = .returned (.tuple #[bval x.1 (.slice A n c), .int .i64 x.2.1, .int .i64 x.2.2]) ∧ n ≤ c ∧ OwnR w' w.heap.size A n x.1.recs ∧ Below w.heap.size w w'
def RMB (w : World) (x : Bt × Int) (en : Ending) (w' : World) : Prop :=
  ∃ A n c, en = .returned (.tuple #[bval x.1 (.slice A n c), .int .i64 x.2]) ∧ n ≤ c ∧ OwnR w' w.heap.size A n x.1.recs ∧ Below w.heap.size w w'
noncomputable def eqB (a b : Bt) : Bool := @decide (a = b) (Classical.propDecidable _)
theorem eqB_yes {a b : Bt} (h : a = b) : eqB a b = true := by exact @decide_eq_true _ (Classical.propDecidable _) h
theorem eqB_no {a b : Bt} (h : a ≠ b) : eqB a b = false := by exact @decide_eq_false _ (Classical.propDecidable _) h
theorem eqB_self (a : Bt) : eqB a a = true := eqB_yes rfl
def fewR : List Rc → Nat → Bool
  | [], _ => true
  | r :: l, m => if 20000 < m + (r.key.size + r.val.size) then false else fewR l (m + (r.key.size + r.val.size))
def fewT (b : Bt) : Bool := fewR b.recs 0 && decide (b.recs.length ≤ 100)
theorem fewR_small {l : List Rc} {m : Nat} (h : fewR l m = true) : ∀ r ∈ l, r.key.size + r.val.size ≤ 20000 := by
  induction l generalizing m with
  | nil => simp
  | cons x l ih =>
    unfold fewR at h
    by_cases hh : 20000 < m + (x.key.size + x.val.size)
    · rw [if_pos hh] at h; cases h
    · rw [if_neg hh] at h
      intro r hr
      rcases List.mem_cons.1 hr with rfl | h9
      · omega
      · exact ih h r h9
theorem fewT_iff {b : Bt} (h : fewT b = true) : b.recs.length ≤ 100 ∧ ∀ r ∈ b.recs, r.key.size + r.val.size ≤ 20000 := by
  unfold fewT at h
  rw [Bool.and_eq_true, decide_eq_true_eq] at h
  exact ⟨h.2, fewR_small h.1⟩
theorem fits_of {b : Bt} (hn : FitN b) (hr : ∀ r ∈ b.recs, Fit r) (h : fewT b = true) : Fits b := by
  obtain ⟨h0, h1, h2, h3, h4, h5, h6, h8⟩ := hn
  exact ⟨h0, h1, h2, h3, h4, h5, h6, h8, fun r hm => ⟨(hr r hm).1, (hr r hm).2.1, by have := (fewT_iff h).2 r hm; omega, by have := (fewT_iff h).2 r hm; omega⟩⟩
end Go.Proofs.YtlfbagkonckffaaGreat.Bat
