/- Joined: TxnDD. -/
import Derived.Test.YtlfbagkonckffaaGreatJ17
import Derived.Test.YtlfbagkonckffaaGreatJ20
import Derived.Test.YtlfbagkonckffaaGreatJ15
import Derived.Laws.OwnMore
/- The landed txns: Stable, those. -/
namespace Go.Proofs.YtlfbagkonckffaaGreat.Txn
open Go.RowKit Go.Shelf Oct Rec RowF Lay InR RngQ Bat RowL
open Epo (At0 AtO belA cel2)
open Sqs (at0_grown at0_set9 grown_set9 grown_bel grown_then)

attribute [local go_sem] Oper.semAt_some

theorem keeps_drew9 {B : Nat} {X Y : World} (h : KeepsFrom B X Y) : KeepsFrom B X Y.drew := ⟨h.size, h.same⟩
theorem own_cells {α : Type} {f : α → List Value} {k n : Nat} {W : World} {e : TypeId} {B : Nat} {v : Value} {l : List α} (h : OwnF f k W e B v n l) : ∀ (j : Nat) (o : Obj), v.ownBlock = some j → W.heap[j]? = some o → o.isCells = true := fun j o hj ho => by
  rcases h.2 with ⟨h', _⟩ | ⟨g', cap', cur, h', _, hg', _⟩
  · rw [h'] at hj; simp [Value.ownBlock] at hj
  · rw [h'] at hj
    simp only [Value.ownBlock, Option.some.injEq] at hj
    subst hj
    rw [hg'] at ho
    cases ho
    rfl
set_option maxRecDepth 100000 in
set_option maxHeartbeats 8000000 in
theorem stable_is (A : Option Addr) (n c : Nat) (A2 : Option Addr) (n2 c2 : Nat) (A3 : Option Addr) (n3 c3 : Nat) (t : Tx) (hi : Int) (w : World) (hr : RdT w A n A2 n2 A3 n3 t) (hn : n ≤ reach) {z : Int} (hz : stbT t.op hi = z) :
    Calls Tryz.prog 27 #[.agg #[.slice A n c, .slice A2 n2 c2, .slice A3 n3 c3], .int .i64 hi] w fun e w' => e = .returned (.int .i64 z) ∧ Below w.heap.size w w' := by
  have HR := Lib.hid hr
  have HZ := Lib.hid hz
  clear hr hz
  refine (callsIn_wide (n := 6)).1 ?_
  refine callsIn_of_wp_marks Tryz.func27 rfl trivial ?_ rfl
  simp only [Tryz.ntmps27, List.size_toArray, List.length_cons, List.length_nil, Nat.reduceAdd, Nat.reduceSub, Array.replicate_succ, Array.replicate_zero, List.push_toArray, List.append_toArray, List.nil_append, List.cons_append]
  refine wpIn_wide.2 ?_
  go_wp2_with (go_at_call 62; (with_reducible refine (eachO_is _ _ _ _).mono ?_); rintro e w' ⟨rfl, rfl⟩)
  generalize hw0 : (World.alloc (World.alloc (World.alloc (World.alloc _ _) _) _) _) = W0
  have hsz : W0.heap.size = w.heap.size + 4 := by rw [← hw0]; simp
  have hB0 : Below w.heap.size w W0 := by rw [← hw0]; exact bel_alloc (bel_alloc (bel_alloc (bel_alloc (Below.refl _ _) _) _) _) _
  have hA0 : At0 W0 (w.heap.size) [Value.slice A n c, Value.slice A2 n2 c2, Value.slice A3 n3 c3] 25 := by
    rw [← hw0]
    have h := At0.new w [Value.slice A n c, Value.slice A2 n2 c2, Value.slice A3 n3 c3] 25
    exact (((h).below (belA _ _)).below (belA _ _)).below (belA _ _)
  have hA1 : At0 W0 (w.heap.size + 1) [Value.int .i64 hi] 3 := by
    rw [← hw0]
    have h := At0.new (w.alloc (.cells #[Value.slice A n c, Value.slice A2 n2 c2, Value.slice A3 n3 c3] 25)) [Value.int .i64 hi] 3
    simp only [World.size_alloc] at h
    exact ((h).below (belA _ _)).below (belA _ _)
  have hA2 : At0 W0 (w.heap.size + 1 + 1) [Value.slice A n c] 22 := by
    rw [← hw0]
    have h := At0.new ((w.alloc (.cells #[Value.slice A n c, Value.slice A2 n2 c2, Value.slice A3 n3 c3] 25)).alloc (.cells #[Value.int .i64 hi] 3)) [Value.slice A n c] 22
    simp only [World.size_alloc] at h
    exact (h).below (belA _ _)
  have hA3 : At0 W0 (w.heap.size + 1 + 1 + 1) [Value.slice (some ⟨w.heap.size + 1 + 1, 0, none⟩) 1 1] 113 := by
    rw [← hw0]
    have h := At0.new (((w.alloc (.cells #[Value.slice A n c, Value.slice A2 n2 c2, Value.slice A3 n3 c3] 25)).alloc (.cells #[Value.int .i64 hi] 3)).alloc (.cells #[Value.slice A n c] 22)) [Value.slice (some ⟨w.heap.size + 1 + 1, 0, none⟩) 1 1] 113
    simp only [World.size_alloc] at h
    exact h
  clear hw0
  refine (wpIn_wide (n := 6)).1 ?_
  refine wpIn_rangeQ (F := Fence.wide) rfl (by omega) (gf := 88) (lb := #[.pointer (some ⟨w.heap.size + 1 + 1 + 1, 0, none⟩)]) rfl trivial (enters_of Tryz.func88 (by kernel_rfl) rfl)
    (eaO_seq (6 - 1) (by omega) (w.heap.size + 1 + 1 + 1) (w.heap.size + 1 + 1) w.heap.size 1 1 _ W0 (ea_one (x := ⟨A, n, c, t.op⟩) (RdF.below HR.out.op hB0 (Nat.le_refl _)) hn hB0.size hA2 hA3)) (fun k h => by rcases h with h | h | h <;> omega) (Below.refl _ _) (fun _ => rfl)
    (fun pre W => Boxed W (w.heap.size + 1) 3 (.int .i64 (stbT pre hi)) ∧ Below w.heap.size w W)
    (fun _ _ _ => False)
    (fun pre X Y row hs hg hrow => ⟨box_own hs.1 hg hrow, bel_own (Nat.le_refl _) hB0.size hs.2 hg hrow⟩)
    (fun _ _ _ _ _ hs _ _ => hs)
    ⟨hA1, hB0⟩
    (fun pre x W1 a' W => (∃ Bx, W1.heap.size ≤ Bx ∧ W0.heap.size ≤ W1.heap.size ∧ Boxed W (w.heap.size + 1) 3 (.int .i64 (stbT pre hi)) ∧ At0 W Bx (opC x) 51 ∧ a' = { tmps := #[.agg #[.slice A n c, .slice A2 n2 c2, .slice A3 n3 c3], .int .i64 hi, .pointer (some ⟨w.heap.size, 0, none⟩), .pointer (some ⟨w.heap.size + 1, 0, none⟩), .int .i64 0, .pointer (some ⟨Bx, 0, none⟩), .pointer (some ⟨w.heap.size, 0, none⟩), .slice A n c, .slice (some ⟨w.heap.size + 1 + 1, 0, none⟩) 1 1, .func (.func 88) #[] #[.pointer (some ⟨w.heap.size + 1 + 1 + 1, 0, none⟩)], (encO x)[0]!, undef, undef, undef, undef, undef], defers := [] }) ∧ Below w.heap.size w W)
    (fun pre x W1 a' => fun s X Y row hs hg hrow => by
      obtain ⟨⟨Bx, h0, h0', h1, h6, h7⟩, h8⟩ := hs
      exact ⟨⟨Bx, h0, h0', box_own h1 hg hrow, at_own h6 hg hrow, h7⟩, bel_own (Nat.le_refl _) hB0.size h8 hg hrow⟩)
    ?assign ?body ?done (fun _ _ _ _ _ h => h.elim)
  case assign =>
    rintro l pre ⟨x0, x1⟩ W1 W G hs1 ⟨h1, hB⟩ hbel - hG
    dsimp only [encO]
    gi_wp2
    have hbA := bel_trans hbel (belA W (.cells #[.int .i64 x0, .int .i64 x1] 51))
    exact hG _ _ ((KeepsOthers.alloc _ _).from _) ((KeptQ.refl _ _ _).alloc _) ⟨⟨W.heap.size, hbel.size, hs1, boxed_below h1 hbA, At0.new W (opC ⟨x0, x1⟩) _, rfl⟩, hB.trans (hbA.mono (Nat.le_trans hB0.size hs1))⟩
  case body =>
    rintro l pre ⟨x0, x1⟩ W1 a' W ⟨⟨Bx, hBx, hs1, h1, h6, rfl⟩, hB⟩
    have c1 := h1.cell
    have f1 := h1.frozen
    have y1 : W.cell? ⟨Bx, 1, none⟩ = some (.int .i64 x1) := h6.cell 1
    have HB := Lib.hid hB
    have H1 := Lib.hid h1
    have hs0 := hB0.size
    obtain ⟨m, hm⟩ : ∃ m, stbT pre hi = m := ⟨_, rfl⟩
    have HM := Lib.hid (show stbT (pre ++ [⟨x0, x1⟩]) hi = min m x1 from by rw [← hm]; unfold stbT; rw [List.foldl_append]; rfl)
    rw [hm] at c1
    clear h1 h6 hB hm
    dsimp only [encO]
    gi_wp2
    all_goals refine ⟨(KeepsOthers.setCell _ _ _).from _, (KeptQ.refl _ _ _).set (by rintro (h | h | h) <;> simp only at h <;> omega) (by simp only; omega) _, by first | (rw [HM.out]; exact H1.out.set _) | (rw [HM.out, show min m x1 = x1 from by omega]; exact H1.out.set _) | (rw [HM.out, show min m x1 = m from by omega]; exact H1.out.set _), HB.out.setCell (by simp only; omega) _⟩
  case done =>
    rintro D ys W hD hys ⟨h1, hB⟩ hK
    have hmz : stbT ys hi = z := by rw [hys, cat_one (LX.mk A n c t.op)]; exact HZ.out
    rw [hmz] at h1
    have HB := Lib.hid hB
    have HK := Lib.hid hK
    have c1 := h1.cell
    clear h1 hB hK hys hmz
    go_wp2
    refine ⟨by simp, .inl ⟨_, _, rfl, run_takeDeferred HK.out, ?_⟩⟩
    refine ⟨.int .i64 z, by simp [results, Tryz.results27, go_sem], rfl, ?_⟩
    exact HB.out.trans (belowK_b (w := w) (Nat.le_refl _) _ D _ _ (by omega) HK.out rfl rfl)
set_option maxRecDepth 100000 in
set_option maxHeartbeats 8000000 in
theorem thoseG_is (F : Nat) (xs : Array Value) (hF : ∀ (ys : Array Value) (w : World), (callFunc F ys).run Tryz.prog w = .ok (.enter F ys) w) (p : Gon → Bool) (A : Option Addr) (n c : Nat) (L : List Gon) (w : World) (hr : RdF goC 4 w w.heap.size A n L) (hn : n ≤ 1000000)
    (hso : ∀ x ∈ L, ∀ W, Below w.heap.size w W → Calls Tryz.prog F (encG x ++ xs) W fun e W2 => e = .returned (.bool (p x)) ∧ Below W.heap.size W W2) :
    Calls Tryz.prog 54 #[.slice A n c, .func (.func F) #[] xs] w fun e w' => ∃ A' n' c', e = .returned (.slice A' n' c') ∧ OwnF goC 4 w' 54 w.heap.size (.slice A' n' c') n' (L.filter p) ∧ Below w.heap.size w w' := by
  have HR := Lib.hid hr
  have HSO := Lib.hid hso
  have hnr : n ≤ reach := Nat.le_trans hn (by decide)
  have HLN := Lib.hid hr.len
  clear hr hso
  refine (callsIn_wide (n := 6)).1 ?_
  refine callsIn_of_wp_marks Tryz.func54 rfl trivial ?_ rfl
  simp only [Tryz.ntmps54, List.size_toArray, List.length_cons, List.length_nil, Nat.reduceAdd, Nat.reduceSub, Array.replicate_succ, Array.replicate_zero, List.push_toArray, List.append_toArray, List.nil_append, List.cons_append]
  refine wpIn_wide.2 ?_
  go_wp2_with (go_at_call 70; (with_reducible refine (eachG_is _ _ _ _).mono ?_); rintro e w' ⟨rfl, rfl⟩)
  generalize hw0 : (World.alloc (World.alloc (World.alloc (World.alloc _ _) _) _) _) = W0
  have hsz : W0.heap.size = w.heap.size + 4 := by rw [← hw0]; simp
  have hB0 : Below w.heap.size w W0 := by rw [← hw0]; exact bel_alloc (bel_alloc (bel_alloc (bel_alloc (Below.refl _ _) _) _) _) _
  have hA0 : At0 W0 (w.heap.size) [Value.func (.func F) #[] xs] 74 := by
    rw [← hw0]
    have h := At0.new w [Value.func (.func F) #[] xs] 74
    exact (((h).below (belA _ _)).below (belA _ _)).below (belA _ _)
  have hA1 : At0 W0 (w.heap.size + 1) [Value.slice none 0 0] 23 := by
    rw [← hw0]
    have h := At0.new (w.alloc (.cells #[Value.func (.func F) #[] xs] 74)) [Value.slice none 0 0] 23
    simp only [World.size_alloc] at h
    exact ((h).below (belA _ _)).below (belA _ _)
  have hA2 : At0 W0 (w.heap.size + 1 + 1) [Value.slice A n c] 23 := by
    rw [← hw0]
    have h := At0.new ((w.alloc (.cells #[Value.func (.func F) #[] xs] 74)).alloc (.cells #[Value.slice none 0 0] 23)) [Value.slice A n c] 23
    simp only [World.size_alloc] at h
    exact (h).below (belA _ _)
  have hA3 : At0 W0 (w.heap.size + 1 + 1 + 1) [Value.slice (some ⟨w.heap.size + 1 + 1, 0, none⟩) 1 1] 117 := by
    rw [← hw0]
    have h := At0.new (((w.alloc (.cells #[Value.func (.func F) #[] xs] 74)).alloc (.cells #[Value.slice none 0 0] 23)).alloc (.cells #[Value.slice A n c] 23)) [Value.slice (some ⟨w.heap.size + 1 + 1, 0, none⟩) 1 1] 117
    simp only [World.size_alloc] at h
    exact h
  clear hw0
  refine (wpIn_wide (n := 6)).1 ?_
  refine wpIn_rangeQ (F := Fence.wide) rfl (by omega) (gf := 95) (lb := #[.pointer (some ⟨w.heap.size + 1 + 1 + 1, 0, none⟩)]) rfl trivial (enters_of Tryz.func95 (by kernel_rfl) rfl)
    (eaG_seq (6 - 1) (by omega) (w.heap.size + 1 + 1 + 1) (w.heap.size + 1 + 1) w.heap.size 1 1 _ W0 (ea_one (x := ⟨A, n, c, L⟩) (HR.out.below hB0 (Nat.le_refl _)) hnr hB0.size hA2 hA3)) (fun k h => by rcases h with h | h | h <;> omega) (Below.refl _ _) (fun _ => rfl)
    (fun pre W => (∃ A9 n9 c9 rest, L = pre ++ rest ∧ Boxed W (w.heap.size) 74 (.func (.func F) #[] xs) ∧ Boxed W (w.heap.size + 1) 23 (.slice A9 n9 c9) ∧ OwnF goC 4 W 54 W0.heap.size (.slice A9 n9 c9) n9 (pre.filter p)) ∧ Below w.heap.size w W)
    (fun _ _ _ => False)
    (fun pre X Y row hs hg hrow => by
      obtain ⟨⟨A9, n9, c9, rest, h1, h2, h3, h4⟩, h5⟩ := hs
      exact ⟨⟨A9, n9, c9, rest, h1, box_own h2 hg hrow, box_own h3 hg hrow, row_own h4 hg hrow⟩, bel_own (Nat.le_refl _) hB0.size h5 hg hrow⟩)
    (fun _ _ _ _ _ hs _ _ => hs)
    ⟨⟨none, 0, 0, L, rfl, hA0, hA1, OwnF.nil⟩, hB0⟩
    (fun pre x W1 a' W => (∃ Bx A9 n9 c9 rest, W1.heap.size ≤ Bx ∧ W0.heap.size ≤ W1.heap.size ∧ L = pre ++ x :: rest ∧ (∀ g, (Value.slice A9 n9 c9).ownBlock = some g → g < W1.heap.size) ∧ Boxed W (w.heap.size) 74 (.func (.func F) #[] xs) ∧ Boxed W (w.heap.size + 1) 23 (.slice A9 n9 c9) ∧ OwnF goC 4 W 54 W0.heap.size (.slice A9 n9 c9) n9 (pre.filter p) ∧ At0 W Bx (goC x) 54 ∧ a' = { tmps := #[.slice A n c, .func (.func F) #[] xs, undef, .pointer (some ⟨w.heap.size, 0, none⟩), .slice none 0 0, .pointer (some ⟨w.heap.size + 1, 0, none⟩), .pointer (some ⟨Bx, 0, none⟩), .slice A n c, .slice (some ⟨w.heap.size + 1 + 1, 0, none⟩) 1 1, .func (.func 95) #[] #[.pointer (some ⟨w.heap.size + 1 + 1 + 1, 0, none⟩)], (encG x)[0]!, undef, undef, undef, undef, undef, undef, undef, undef], defers := [] }) ∧ Below w.heap.size w W)
    (fun pre x W1 a' => fun s X Y row hs hg hrow => by
      obtain ⟨⟨Bx, A9, n9, c9, rest, h0, h0', h1, h1', h2, h3, h4, h6, h7⟩, h8⟩ := hs
      exact ⟨⟨Bx, A9, n9, c9, rest, h0, h0', h1, h1', box_own h2 hg hrow, box_own h3 hg hrow, row_own h4 hg hrow, at_own h6 hg hrow, h7⟩, bel_own (Nat.le_refl _) hB0.size h8 hg hrow⟩)
    ?assign ?body ?done (fun _ _ _ _ _ h => h.elim)
  case assign =>
    rintro l pre ⟨x0, x1, x2, x3⟩ W1 W G hs1 ⟨⟨A9, n9, c9, rest, h1, h2, h3, h4⟩, hB⟩ hbel ⟨r2, hQ⟩ hG
    have hrest : rest = ⟨x0, x1, x2, x3⟩ :: r2 := List.append_cancel_left (h1.symm.trans ((cat_one (LX.mk A n c L)).symm.trans hQ))
    subst hrest
    dsimp only [encG]
    gi_wp2
    have hbA := bel_trans hbel (belA W (.cells #[.int .i64 x0, .int .i64 x1, .int .i64 x2, .int .i64 x3] 54))
    exact hG _ _ ((KeepsOthers.alloc _ _).from _) ((KeptQ.refl _ _ _).alloc _) ⟨⟨W.heap.size, A9, n9, c9, r2, hbel.size, hs1, h1, fun g hg => (World.ownsRow.lt h4 g hg).2, boxed_below h2 hbA, boxed_below h3 hbA, OwnF.below h4 hbA, At0.new W (goC ⟨x0, x1, x2, x3⟩) _, rfl⟩, hB.trans (hbA.mono (Nat.le_trans hB0.size hs1))⟩
  case body =>
    rintro l pre ⟨x0, x1, x2, x3⟩ W1 a' W ⟨⟨Bx, A9, n9, c9, rest, hBx, hs1, h1, hown, h2, h3, h4, h6, rfl⟩, hB⟩
    have hs0 := hB0.size
    have hlx : Bx < W.heap.size := h6.lt
    have hn9 : n9 ≤ 1000000 := by
      have e1 := h4.len goS
      have e2 := List.length_filter_le p pre
      have e3 := congrArg List.length h1
      rw [List.length_append, HLN.out] at e3
      omega
    have HL := Lib.hid h1
    have HCALL := Lib.hid (HSO.out ⟨x0, x1, x2, x3⟩ (by rw [h1]; simp) W hB)
    have c0 := h2.cell
    have y0 : W.cell? ⟨Bx, 0, none⟩ = some (.int .i64 x0) := h6.cell 0
    have y1 : W.cell? ⟨Bx, 1, none⟩ = some (.int .i64 x1) := h6.cell 1
    have y2 : W.cell? ⟨Bx, 2, none⟩ = some (.int .i64 x2) := h6.cell 2
    have y3 : W.cell? ⟨Bx, 3, none⟩ = some (.int .i64 x3) := h6.cell 3
    have H2 := Lib.hid h2
    have H3 := Lib.hid h3
    have H4 := Lib.hid h4
    have H6 := Lib.hid h6
    have HB := Lib.hid hB
    have HOWN := Lib.hid hown
    dsimp only [encG] at HCALL ⊢
    clear h1 h2 h3 h4 h6 hB hown
    gi_wp2
    refine ⟨trivial, (CallsIn.inRound l (callsIn_wide.2 HCALL.out)).mono ?_⟩
    rintro e w4 ⟨rfl, hb⟩
    have HB4 := Lib.hid (HB.out.trans (hb.mono (by omega)))
    have H24 := Lib.hid (boxed_below H2.out hb)
    have H34 := Lib.hid (boxed_below H3.out hb)
    have H44 := Lib.hid (OwnF.below H4.out hb)
    have H64 := Lib.hid (H6.out.below hb)
    have hkf : KeepsFrom W0.heap.size W w4 := (keeps_bel hb).from _
    have hkq : KeptQ (EaB w.heap.size (w.heap.size + 1 + 1 + 1) (w.heap.size + 1 + 1)) W1.heap.size W w4 := (KeptQ.refl _ _ _).below hb
    have HKF := Lib.hid hkf
    have HKQ := Lib.hid hkq
    have hs4 := hb.size
    clear c0 y0 y1 y2 y3 hb hkf hkq
    rcases hp : p ⟨x0, x1, x2, x3⟩ with _ | _
    · have HF := Lib.hid (show List.filter p (pre ++ [⟨x0, x1, x2, x3⟩]) = pre.filter p from by rw [List.filter_append, List.filter_cons_of_neg (by rw [hp]; simp)]; simp)
      clear hp
      gi_wp2
      exact ⟨HKF.out, HKQ.out, ⟨A9, n9, c9, rest, by rw [HL.out]; simp, H24.out, H34.out, by rw [HF.out]; exact H44.out⟩, HB4.out⟩
    · have HF := Lib.hid (show List.filter p (pre ++ [⟨x0, x1, x2, x3⟩]) = pre.filter p ++ [⟨x0, x1, x2, x3⟩] from by rw [List.filter_append, List.filter_cons_of_pos hp]; simp)
      clear hp
      obtain ⟨A5, c5, w5, hrun, ho5, hg5, hv5⟩ := run_appFG (P := Tryz.prog) (w4.alloc (.cells #[.int .i64 x0, .int .i64 x1, .int .i64 x2, .int .i64 x3] 54)) goS 32 W0.heap.size 23 23 54 Tryz.underlying23 goInfo (.slice A9 n9 c9) n9 (pre.filter p) (H44.out.alloc _) (w4.heap.size + 1) (some ⟨w4.heap.size, 0, none⟩) 1 1 [⟨x0, x1, x2, x3⟩] (rdF_new w4 goS 54 (⟨x0, x1, x2, x3⟩ : Gon)) (by omega) (by omega) (by simp; omega)
      have d3 := H34.out.cell
      have y0 : w4.cell? ⟨Bx, 0, none⟩ = some (.int .i64 x0) := H64.out.cell 0
      have y1 : w4.cell? ⟨Bx, 1, none⟩ = some (.int .i64 x1) := H64.out.cell 1
      have y2 : w4.cell? ⟨Bx, 2, none⟩ = some (.int .i64 x2) := H64.out.cell 2
      have y3 : w4.cell? ⟨Bx, 3, none⟩ = some (.int .i64 x3) := H64.out.cell 3
      have hne : ∀ k, k < W0.heap.size → some k ≠ (Value.slice A9 n9 c9).ownBlock := fun k hk he => by have := (World.ownsRow.lt H44.out k he.symm).1; omega
      have b2 := (H24.out.alloc (.cells #[.int .i64 x0, .int .i64 x1, .int .i64 x2, .int .i64 x3] 54)).kept hg5 (hne _ (by omega))
      have b3 := (H34.out.alloc (.cells #[.int .i64 x0, .int .i64 x1, .int .i64 x2, .int .i64 x3] 54)).kept hg5 (hne _ (by omega))
      have d5 := b3.cell
      have f5 := b3.frozen
      have hkq5 := (HKQ.out.alloc (.cells #[.int .i64 x0, .int .i64 x1, .int .i64 x2, .int .i64 x3] 54)).grown hg5 (fun k hk => ⟨by rintro (h | h | h) <;> (have := (World.ownsRow.lt H44.out k hk).1; omega), HOWN.out k hk⟩)
      have hko5 := (HKF.out.trans ((KeepsOthers.alloc w4 (.cells #[.int .i64 x0, .int .i64 x1, .int .i64 x2, .int .i64 x3] 54)).from _)).trans ((KeepsOthers.of_grownBy hg5 (own_cells (H44.out.alloc _))).from _)
      have HKQ5 := Lib.hid hkq5
      have HKO5 := Lib.hid hko5
      have HO5 := Lib.hid ho5
      have HX2 := Lib.hid b2
      have HX3 := Lib.hid b3
      have HB5 := Lib.hid (show Below w.heap.size w w5 from (HB4.out.trans ((belA w4 (.cells #[.int .i64 x0, .int .i64 x1, .int .i64 x2, .int .i64 x3] 54)).mono (by omega))).trans ⟨hg5.os, hg5.tape, hg5.output, hg5.size, fun i hi => hg5.block i (by rw [World.size_alloc]; omega) (hne i (by omega))⟩)
      clear hkq5 hko5 ho5 b2 b3 hg5 hv5 hne
      gi_wp2_with (gi_at_builtin; refine wpListIn_app_run rfl _ _ 23 rfl rfl rfl hrun ?_)
      refine ⟨HKO5.out.trans ((KeepsOthers.setCell _ _ _).from _), HKQ5.out.set (p := ⟨w.heap.size + 1, 0, none⟩) (by rintro (h | h | h) <;> simp only at h <;> omega) (by simp only; omega) _, ⟨A5, n9 + 1, c5, rest, by rw [HL.out]; simp, boxed_set2 HX2.out _ (by omega), HX3.out.set _, by rw [HF.out]; exact HO5.out.setBelow (by simp only; omega) _⟩, HB5.out.setCell (by simp only; omega) _⟩
  case done =>
    rintro D ys W hD hys ⟨⟨A9, n9, c9, rest, h1, h2, h3, h4⟩, hB⟩ hK
    have hyl : ys = L := by rw [hys]; exact cat_one (LX.mk A n c L)
    have HO := Lib.hid (show OwnF goC 4 W 54 W0.heap.size (.slice A9 n9 c9) n9 (L.filter p) from by rw [← hyl]; exact h4)
    have HB := Lib.hid hB
    have HK := Lib.hid hK
    have c3 := h3.cell
    clear h1 h2 h3 h4 hB hK hys hyl
    go_wp2
    refine ⟨by simp, .inl ⟨_, _, rfl, run_takeDeferred HK.out, ?_⟩⟩
    refine ⟨.slice A9 n9 c9, by simp [results, Tryz.results54, go_sem], A9, n9, c9, rfl, ?_, HB.out.trans (belowK_b (w := w) (Nat.le_refl _) _ D _ _ (by omega) HK.out rfl rfl)⟩
    exact (row_own (N := D) HO.out (grownBy_putObj' W D (.deferred none)) (fun r e => by cases e; exact ⟨Nat.le_refl _, _, HK.out, rfl⟩)).more hB0.size
end Go.Proofs.YtlfbagkonckffaaGreat.Txn
