/- Joined: TxnD4, BatEach. -/
import Derived.Test.YtlfbagkonckffaaGreatJ14
import Derived.RegionTactic
import Derived.BigRegion
import Derived.Test.YtlfbagkonckffaaGreatJ12
/- The landed txns: reach. -/
namespace Go.Proofs.YtlfbagkonckffaaGreat.Txn
open Go.RowKit Go.Shelf Oct RowF Lay InR RngQ Bat RowL
open Epo (At0 AtO belA)

attribute [local go_sem] Oper.semAt_some

set_option maxRecDepth 100000 in
set_option maxHeartbeats 8000000 in
theorem reach_is (A : Option Addr) (n c : Nat) (A2 : Option Addr) (n2 c2 : Nat) (A3 : Option Addr) (n3 c3 : Nat) (t : Tx) (w : World) (hr : RdT w A n A2 n2 A3 n3 t) (hn : FewN n n2 n3) {z : Int} (hz : topT t = z) :
    Calls Tryz.prog 38 #[.agg #[.slice A n c, .slice A2 n2 c2, .slice A3 n3 c3]] w fun e w' => e = .returned (.int .i64 z) ∧ Below w.heap.size w w' := by
  have HR := Lib.hid hr
  have HN := Lib.hid hn
  have HZ := Lib.hid hz
  clear hr hz hn
  refine (callsIn_wide (n := 6)).1 ?_
  refine callsIn_of_wp_marks Tryz.func38 rfl trivial ?_ rfl
  simp only [Tryz.ntmps38, List.size_toArray, List.length_cons, List.length_nil, Nat.reduceAdd, Nat.reduceSub, Array.replicate_succ, Array.replicate_zero, List.push_toArray, List.append_toArray, List.nil_append, List.cons_append]
  refine wpIn_wide.2 ?_
  go_wp2_with (go_at_call 62; (with_reducible refine (eachO_is _ _ _ _).mono ?_); rintro e w' ⟨rfl, rfl⟩)
  generalize hw0 : (World.alloc (World.alloc (World.alloc (World.alloc _ _) _) _) _) = W0
  have hsz : W0.heap.size = w.heap.size + 4 := by rw [← hw0]; simp
  have hB0 : Below w.heap.size w W0 := by rw [← hw0]; exact bel_alloc (bel_alloc (bel_alloc (bel_alloc (Below.refl _ _) _) _) _) _
  have hA0 : At0 W0 (w.heap.size) [Value.slice A n c, Value.slice A2 n2 c2, Value.slice A3 n3 c3] 25 := by
    rw [← hw0]
    have h := At0.new w [Value.slice A n c, Value.slice A2 n2 c2, Value.slice A3 n3 c3] 25
    exact (((h).below (belA _ _)).below (belA _ _)).below (belA _ _)
  have hA1 : At0 W0 (w.heap.size + 1) [Value.int .i64 (-1)] 3 := by
    rw [← hw0]
    have h := At0.new (w.alloc (.cells #[Value.slice A n c, Value.slice A2 n2 c2, Value.slice A3 n3 c3] 25)) [Value.int .i64 (-1)] 3
    simp only [World.size_alloc] at h
    exact ((h).below (belA _ _)).below (belA _ _)
  have hA2 : At0 W0 (w.heap.size + 1 + 1) [Value.slice A n c] 22 := by
    rw [← hw0]
    have h := At0.new ((w.alloc (.cells #[Value.slice A n c, Value.slice A2 n2 c2, Value.slice A3 n3 c3] 25)).alloc (.cells #[Value.int .i64 (-1)] 3)) [Value.slice A n c] 22
    simp only [World.size_alloc] at h
    exact (h).below (belA _ _)
  have hA3 : At0 W0 (w.heap.size + 1 + 1 + 1) [Value.slice (some ⟨w.heap.size + 1 + 1, 0, none⟩) 1 1] 113 := by
    rw [← hw0]
    have h := At0.new (((w.alloc (.cells #[Value.slice A n c, Value.slice A2 n2 c2, Value.slice A3 n3 c3] 25)).alloc (.cells #[Value.int .i64 (-1)] 3)).alloc (.cells #[Value.slice A n c] 22)) [Value.slice (some ⟨w.heap.size + 1 + 1, 0, none⟩) 1 1] 113
    simp only [World.size_alloc] at h
    exact h
  clear hw0
  refine (wpIn_wide (n := 6)).1 ?_
  refine wpIn_rangeQ (F := Fence.wide) rfl (by omega) (gf := 88) (lb := #[.pointer (some ⟨w.heap.size + 1 + 1 + 1, 0, none⟩)]) rfl trivial (enters_of Tryz.func88 (by kernel_rfl) rfl)
    (eaO_seq (6 - 1) (by omega) (w.heap.size + 1 + 1 + 1) (w.heap.size + 1 + 1) w.heap.size 1 1 _ W0 (ea_one (x := ⟨A, n, c, t.op⟩) (RdF.below HR.out.op hB0 (Nat.le_refl _)) HN.out.a hB0.size hA2 hA3)) (fun k h => by rcases h with h | h | h <;> omega) (Below.refl _ _) (fun _ => rfl)
    (fun pre W => (Boxed W (w.heap.size + 1) 3 (.int .i64 (mxO (-1) pre)) ∧ At0 W (w.heap.size) [.slice A n c, .slice A2 n2 c2, .slice A3 n3 c3] 25) ∧ Below w.heap.size w W)
    (fun _ _ _ => False)
    (fun pre X Y row hs hg hrow => by
      obtain ⟨⟨h1, h2⟩, h6⟩ := hs
      exact ⟨⟨box_own h1 hg hrow, at_own h2 hg hrow⟩, bel_own (Nat.le_refl _) hB0.size h6 hg hrow⟩)
    (fun _ _ _ _ _ hs _ _ => hs)
    ⟨⟨hA1, hA0⟩, hB0⟩
    (fun pre x W1 a' W => (∃ Bx, W1.heap.size ≤ Bx ∧ W0.heap.size ≤ W1.heap.size ∧ Boxed W (w.heap.size + 1) 3 (.int .i64 (mxO (-1) pre)) ∧ At0 W (w.heap.size) [.slice A n c, .slice A2 n2 c2, .slice A3 n3 c3] 25 ∧ At0 W Bx (opC x) 51 ∧ a' = { tmps := #[.agg #[.slice A n c, .slice A2 n2 c2, .slice A3 n3 c3], .pointer (some ⟨w.heap.size, 0, none⟩), .int .i64 0, .pointer (some ⟨w.heap.size + 1, 0, none⟩), .pointer (some ⟨Bx, 0, none⟩), undef, .pointer (some ⟨w.heap.size, 0, none⟩), .slice A n c, .slice (some ⟨w.heap.size + 1 + 1, 0, none⟩) 1 1, .func (.func 88) #[] #[.pointer (some ⟨w.heap.size + 1 + 1 + 1, 0, none⟩)], (encO x)[0]!, undef, undef, undef, undef, undef, undef, undef, undef, undef, undef, undef, undef, undef, undef, undef, undef], defers := [] }) ∧ Below w.heap.size w W)
    (fun pre x W1 a' => fun s X Y row hs hg hrow => by
      obtain ⟨⟨Bx, h0, h0', h1, h2, h6, h7⟩, h8⟩ := hs
      exact ⟨⟨Bx, h0, h0', box_own h1 hg hrow, at_own h2 hg hrow, at_own h6 hg hrow, h7⟩, bel_own (Nat.le_refl _) hB0.size h8 hg hrow⟩)
    ?assign ?body ?done (fun _ _ _ _ _ h => h.elim)
  case assign =>
    rintro l pre ⟨x0, x1⟩ W1 W G hs1 ⟨⟨h1, h2⟩, hB⟩ hbel - hG
    dsimp only [encO]
    gi_wp2
    have hbA := bel_trans hbel (belA W (.cells #[.int .i64 x0, .int .i64 x1] 51))
    exact hG _ _ ((KeepsOthers.alloc _ _).from _) ((KeptQ.refl _ _ _).alloc _) ⟨⟨W.heap.size, hbel.size, hs1, boxed_below h1 hbA, h2.below hbA, At0.new W (opC ⟨x0, x1⟩) _, rfl⟩, hB.trans (hbA.mono (Nat.le_trans hB0.size hs1))⟩
  case body =>
    rintro l pre ⟨x0, x1⟩ W1 a' W ⟨⟨Bx, hBx, hs1, h1, h2, h6, rfl⟩, hB⟩
    have c1 := h1.cell
    have f1 := h1.frozen
    have y1 : W.cell? ⟨Bx, 1, none⟩ = some (.int .i64 x1) := h6.cell 1
    have HB := Lib.hid hB
    have H1 := Lib.hid h1
    have H2 := Lib.hid h2
    have hs0 := hB0.size
    obtain ⟨m, hm⟩ : ∃ m, mxO (-1) pre = m := ⟨_, rfl⟩
    have HM := Lib.hid (show mxO (-1) (pre ++ [⟨x0, x1⟩]) = max m x1 from by rw [← hm]; unfold mxO; rw [List.foldl_append]; rfl)
    rw [hm] at c1
    clear h1 h2 h6 hB hm
    dsimp only [encO]
    gi_wp2
    all_goals refine ⟨(KeepsOthers.setCell _ _ _).from _, (KeptQ.refl _ _ _).set (by rintro (h | h | h) <;> simp only at h <;> omega) (by simp only; omega) _, ⟨by first | (rw [HM.out, show max m x1 = x1 from by omega]; exact H1.out.set _) | (rw [HM.out, show max m x1 = m from by omega]; exact H1.out.set _), at_set H2.out (by omega) _ _⟩, HB.out.setCell (by simp only; omega) _⟩
  case done =>
    rintro D ys V hD hys ⟨⟨h1, h2⟩, hB⟩ hK
    have hm0 : mxO (-1) ys = mxO (-1) t.op := by rw [hys, cat_one (LX.mk A n c t.op)]
    rw [hm0] at h1
    have hV := hD
    have HBV := Lib.hid hB
    have q1 : V.cell? ⟨w.heap.size, 1, none⟩ = some (.slice A2 n2 c2) := h2.cell 1
    have q2 : V.cell? ⟨w.heap.size, 2, none⟩ = some (.slice A3 n3 c3) := h2.cell 2
    have H1 := Lib.hid h1
    have HKD := Lib.hid hK
    clear hB h1 h2 hK hys hm0 hA0 hA1 hA2 hA3
    go_wp2_with (go_at_call 70; (with_reducible refine (eachG_is _ _ _ _).mono ?_); rintro e w' ⟨rfl, rfl⟩)
    generalize hw1 : (World.alloc (World.alloc V _) _) = W00
    have hsz2 : W00.heap.size = V.heap.size + 2 := by rw [← hw1]; simp
    have hB2 : Below V.heap.size V W00 := by rw [← hw1]; exact bel_alloc (bel_alloc (Below.refl _ _) _) _
    have hC0 : At0 W00 V.heap.size [.slice A2 n2 c2, .slice A3 n3 c3] 23 := by
      rw [← hw1]
      exact (At0.new V [.slice A2 n2 c2, .slice A3 n3 c3] 23).below (belA _ _)
    have hC1 : At0 W00 (V.heap.size + 1) [.slice (some ⟨V.heap.size, 0, none⟩) 2 2] 117 := by
      rw [← hw1]
      have h := At0.new (V.alloc (.cells #[.slice A2 n2 c2, .slice A3 n3 c3] 23)) [.slice (some ⟨V.heap.size, 0, none⟩) 2 2] 117
      simp only [World.size_alloc] at h
      exact h
    have hDlt : D < V.heap.size := (Array.getElem?_eq_some_iff.1 HKD.out).1
    have hBW : Below w.heap.size w W00 := HBV.out.trans (hB2.mono HBV.out.size)
    have hK2 : W00.heap[D]? = some (.deferred (some [])) := (hB2.block D hDlt).trans HKD.out
    have hb2 := boxed_below H1.out hB2
    obtain ⟨m0, hm0⟩ : ∃ m0, mxO (-1) t.op = m0 := ⟨_, rfl⟩
    have HM0 := Lib.hid hm0
    rw [hm0] at hb2
    clear hw1 q1 q2 H1 HKD hm0
    refine (wpIn_wide (n := 6)).1 ?_
    refine wpIn_rangeQ (F := Fence.wide) rfl (by omega) (gf := 95) (lb := #[.pointer (some ⟨V.heap.size + 1, 0, none⟩)]) rfl trivial (enters_of Tryz.func95 (by kernel_rfl) rfl)
      (eaG_seq (6 - 1) (by omega) (V.heap.size + 1) V.heap.size w.heap.size 2 2 _ W00 (ea_two (x := ⟨A2, n2, c2, t.gone⟩) (y := ⟨A3, n3, c3, t.done⟩) (RdF.below HR.out.gone hBW (Nat.le_refl _)) HN.out.b (RdF.below HR.out.done hBW (Nat.le_refl _)) HN.out.c hBW.size hC0 hC1)) (fun k h => by rcases h with h | h | h <;> omega) (Below.refl _ _) (fun _ => rfl)
      (fun pre W => (Boxed W (w.heap.size + 1) 3 (.int .i64 (mxG m0 pre)) ∧ W.heap[D]? = some (.deferred (some []))) ∧ Below w.heap.size w W)
      (fun _ _ _ => False)
      (fun pre X Y row hs hg hrow => by
        obtain ⟨⟨h1, h2⟩, h6⟩ := hs
        exact ⟨⟨box_own h1 hg hrow, old_own h2 (by omega) hg hrow⟩, bel_own (Nat.le_refl _) hBW.size h6 hg hrow⟩)
      (fun _ _ _ _ _ hs _ _ => hs)
      ⟨⟨hb2, hK2⟩, hBW⟩
      (fun pre x W1 a' W => (∃ Bx, W1.heap.size ≤ Bx ∧ W00.heap.size ≤ W1.heap.size ∧ Boxed W (w.heap.size + 1) 3 (.int .i64 (mxG m0 pre)) ∧ W.heap[D]? = some (.deferred (some [])) ∧ At0 W Bx (goC x) 54 ∧ a' = { tmps := #[.agg #[.slice A n c, .slice A2 n2 c2, .slice A3 n3 c3], .pointer (some ⟨w.heap.size, 0, none⟩), .int .i64 0, .pointer (some ⟨w.heap.size + 1, 0, none⟩), undef, .pointer (some ⟨Bx, 0, none⟩), .pointer (some ⟨w.heap.size, 0, none⟩), .slice A n c, .slice (some ⟨w.heap.size + 1 + 1, 0, none⟩) 1 1, .func (.func 88) #[] #[.pointer (some ⟨w.heap.size + 1 + 1 + 1, 0, none⟩)], undef, undef, undef, undef, undef, .pointer (some ⟨w.heap.size, 1, none⟩), .slice A2 n2 c2, .pointer (some ⟨w.heap.size, 2, none⟩), .slice A3 n3 c3, .slice (some ⟨V.heap.size, 0, none⟩) 2 2, .func (.func 95) #[] #[.pointer (some ⟨V.heap.size + 1, 0, none⟩)], (encG x)[0]!, undef, undef, undef, undef, undef], defers := [] }) ∧ Below w.heap.size w W)
      (fun pre x W1 a' => fun s X Y row hs hg hrow => by
        obtain ⟨⟨Bx, h0, h0', h1, h2, h6, h7⟩, h8⟩ := hs
        exact ⟨⟨Bx, h0, h0', box_own h1 hg hrow, old_own h2 (by omega) hg hrow, at_own h6 hg hrow, h7⟩, bel_own (Nat.le_refl _) hBW.size h8 hg hrow⟩)
      ?assign ?body ?done (fun _ _ _ _ _ h => h.elim)
    case assign =>
      rintro l pre ⟨x0, x1, x2, x3⟩ W1 W G hs1 ⟨⟨h1, h2⟩, hB⟩ hbel - hG
      dsimp only [encG]
      gi_wp2
      have hbA := bel_trans hbel (belA W (.cells #[.int .i64 x0, .int .i64 x1, .int .i64 x2, .int .i64 x3] 54))
      exact hG _ _ ((KeepsOthers.alloc _ _).from _) ((KeptQ.refl _ _ _).alloc _) ⟨⟨W.heap.size, hbel.size, hs1, boxed_below h1 hbA, old_below h2 hbA (by have := hBW.size; omega), At0.new W (goC ⟨x0, x1, x2, x3⟩) _, rfl⟩, hB.trans (hbA.mono (Nat.le_trans hBW.size hs1))⟩
    case body =>
      rintro l pre ⟨x0, x1, x2, x3⟩ W1 a' W ⟨⟨Bx, hBx, hs1, h1, h2, h6, rfl⟩, hB⟩
      have c1 := h1.cell
      have f1 := h1.frozen
      have y1 : W.cell? ⟨Bx, 3, none⟩ = some (.int .i64 x3) := h6.cell 3
      have HB := Lib.hid hB
      have H1 := Lib.hid h1
      have H2 := Lib.hid h2
      have hs0 := hBW.size
      obtain ⟨m, hm⟩ : ∃ m, mxG m0 pre = m := ⟨_, rfl⟩
      have HM := Lib.hid (show mxG m0 (pre ++ [⟨x0, x1, x2, x3⟩]) = max m x3 from by rw [← hm]; unfold mxG; rw [List.foldl_append]; rfl)
      rw [hm] at c1
      clear h1 h2 h6 hB hm
      dsimp only [encG]
      gi_wp2
      all_goals refine ⟨(KeepsOthers.setCell _ _ _).from _, (KeptQ.refl _ _ _).set (by rintro (h | h | h) <;> simp only at h <;> omega) (by simp only; omega) _, ⟨by first | (rw [HM.out, show max m x3 = x3 from by omega]; exact H1.out.set _) | (rw [HM.out, show max m x3 = m from by omega]; exact H1.out.set _), (Below.heap_setCell _ _ _ _ (by simp only; omega)).trans H2.out⟩, HB.out.setCell (by simp only; omega) _⟩
    case done =>
      rintro D2 ys W hD2 hys ⟨⟨h1, h2⟩, hB⟩ hK
      have hmz : mxG m0 ys = z := by
        rw [hys, cat_two, mxG_app, ← HZ.out, ← HM0.out]; rfl
      rw [hmz] at h1
      have HB := Lib.hid hB
      have HK := Lib.hid hK
      have HKD := Lib.hid h2
      have c1 := h1.cell
      clear h1 h2 hB hK hys hmz
      go_wp2
      refine ⟨by simp, .inl ⟨_, _, rfl, run_takeDeferred HK.out, ?_⟩⟩
      have hne : D2 ≠ D := by omega
      have hKD2 := (World.putObj_heap_other (o := .deferred none) hne.symm).trans HKD.out
      refine ⟨by simp, .inl ⟨_, _, rfl, run_takeDeferred hKD2, ?_⟩⟩
      refine ⟨.int .i64 z, by simp [results, Tryz.results38, go_sem], rfl, ?_⟩
      exact (HB.out.trans (belowK_b (w := w) (Nat.le_refl _) _ D2 _ _ (by omega) HK.out rfl rfl)).trans (belowK_b (w := w) (Nat.le_refl _) _ D _ _ (by omega) hKD2 rfl rfl)
end Go.Proofs.YtlfbagkonckffaaGreat.Txn

/- The contract of the landed eachNumber, handed any function: it is called number by number till it answers false. -/
namespace Go.Proofs.YtlfbagkonckffaaGreat.Bat
open Go.RowKit Oct Rec Crc
def adE (g s : Nat) : Nat → Addr
  | 1 => ⟨s, 0, none⟩
  | k => ⟨g, k, none⟩
def loE : Nat → Int
  | 4 => -1
  | _ => 0
def hiE (x y : Int) : Nat → Int
  | 1 => if IntKind.i64.wrap (1099511627776 - x) < 15 then IntKind.i64.wrap (1099511627776 - x) else 15
  | 2 => IntKind.i64.wrap (1099511627776 - y)
  | 3 => 1048576
  | 5 => 1048576
  | 6 => IntKind.i64.wrap (1048576 - y)
  | _ => 1099511627776
def SeeE (g s : Nat) (w : World) (x y : Int) : Prop := w.cell? ⟨g, 0, none⟩ = some (.int .i64 x) ∧ w.cell? ⟨s, 0, none⟩ = some (.int .i64 y) ∧ (∃ z, w.cell? ⟨g, 1, none⟩ = some (.int .i64 z)) ∧ w.frozen? ⟨g, 1, none⟩ = false
theorem app0 (a b c : Value) : (#[a, b, c] ++ #[] : Array Value) = #[a, b, c] := rfl
theorem app1 (a b c d : Value) : (#[a, b, c] ++ #[d] : Array Value) = #[a, b, c, d] := rfl
set_option maxRecDepth 100000 in
set_option maxHeartbeats 8000000 in
theorem each_any (F : Nat) (xs : Array Value) (hF : ∀ (ys : Array Value) (w : World), (callFunc F ys).run Tryz.prog w = .ok (.enter F ys) w) (g : Nat) (ba la sp : Int) (w : World) (hg : g < w.heap.size) (c0 : w.cell? ⟨g, 0, none⟩ = some (.int .i64 ba)) (c1 : w.cell? ⟨g, 1, none⟩ = some (.int .i64 la)) (hsp : IntKind.i64.wrap (la - ba) = sp) (J N : Nat → World → Prop)
    (h0 : J 0 (w.alloc (.cells #[.int .i64 sp] 3)).drew.drew) (jS : ∀ k w1, J k w1 → ∃ x y, SeeE g w.heap.size w1 x y) (nS : ∀ k w1, N k w1 → ∃ x y, SeeE g w.heap.size w1 x y)
    (hc : ∀ k w1 x y, k < 7 → J k w1 → SeeE g w.heap.size w1 x y → Calls Tryz.prog F (#[.pointer (some (adE g w.heap.size k)), .int .i64 (loE k), .int .i64 (hiE x y k)] ++ xs) w1 fun e w2 => ∃ b, e = .returned (.bool b) ∧ if b then J (k + 1) w2 else N k w2) :
    Calls Tryz.prog 109 #[.pointer (some ⟨g, 0, none⟩), .func (.func F) #[] xs] w fun e w2 => ∃ b, e = .returned (.bool b) ∧ ∃ w1 x y, SeeE g w.heap.size w1 x y ∧ (if b then J 7 w1 else ∃ k, k < 7 ∧ N k w1) ∧ (w1.setCell ⟨g, 1, none⟩ (.int .i64 (wrap64 (x + y)))).drew = w2 := by
  obtain ⟨x0, y0, hs0⟩ := jS _ _ h0
  have HC0 := Lib.hid (hc 0 _ x0 y0 (by omega) h0 hs0)
  clear h0 hs0
  go_enter Tryz.func109, Tryz.ntmps109
  go_wp2
  go_region
  go_wp2
  refine regN 55 (by kernel_rfl) ?_
  repeat (first | (refine uN 54 16 rfl ?_; simp only [tpu, tsa, Nat.reduceSub, Nat.reduceAdd, ts0, ts1]) | (refine pN 54 16 _ rfl ?_; simp only [tpu, tsa, Nat.reduceSub, Nat.reduceAdd, ts0, ts1]))
  refine takeB 4 _ (by kernel_rfl) rfl (fun K hK => ?_)
  simp only [List.getElem_toArray, List.getElem_cons_succ, List.getElem_cons_zero]
  go_simp
  refine (HC0.out).mono ?_
  clear HC0
  rintro e w1 ⟨b, rfl, hb⟩
  dsimp only
  cases b
  case false =>
    obtain ⟨x1, y1, hs1⟩ := nS _ _ hb
    have HE := Lib.hid (And.intro hs1 (⟨0, by omega, hb⟩ : ∃ k, k < 7 ∧ N k w1))
    obtain ⟨d0, d1, ⟨z, d2⟩, d3⟩ := hs1
    clear hb
    refine hK.out _ _ trivial (fun hHeld => ?_)
    clear hK K hHeld
    try simp only [tpu, tsa, ts0, ts1]
    repeat (first | (refine uN 54 16 rfl ?_; simp only [tpu, tsa, Nat.reduceSub, Nat.reduceAdd, ts0, ts1]) | (refine pN 54 16 _ rfl ?_; simp only [tpu, tsa, Nat.reduceSub, Nat.reduceAdd, ts0, ts1]))
    refine tP 54 6 _ rfl ?_
    try simp only [tpu, tsa, ts0, ts1]
    refine wpAnyH_done (by kernel_rfl) ?_ _
    go_wp2
    go_region
    go_wp2
    go_ret
    exact ⟨_, rfl, _, _, _, HE.out.1, HE.out.2, rfl⟩
  obtain ⟨x1, y1, hs1⟩ := jS _ _ hb
  have HC1 := Lib.hid (hc 1 _ x1 y1 (by omega) hb hs1)
  obtain ⟨d0, d1, -, -⟩ := hs1
  clear hb
  refine hK.out _ _ trivial (fun hHeld => ?_)
  clear hK K hHeld
  try simp only [tpu, tsa, ts0, ts1]
  repeat (first | (refine uN 54 16 rfl ?_; simp only [tpu, tsa, Nat.reduceSub, Nat.reduceAdd, ts0, ts1]) | (refine pN 54 16 _ rfl ?_; simp only [tpu, tsa, Nat.reduceSub, Nat.reduceAdd, ts0, ts1]))
  refine takeB 10 _ (by kernel_rfl) rfl (fun K hK => ?_)
  simp only [List.getElem_toArray, List.getElem_cons_succ, List.getElem_cons_zero]
  go_simp
  refine hK.out _ _ trivial (fun hHeld => ?_)
  clear hK K hHeld
  try simp only [tpu, tsa, ts0, ts1]
  repeat (first | (refine uN 54 16 rfl ?_; simp only [tpu, tsa, Nat.reduceSub, Nat.reduceAdd, ts0, ts1]) | (refine pN 54 16 _ rfl ?_; simp only [tpu, tsa, Nat.reduceSub, Nat.reduceAdd, ts0, ts1]))
  refine takeB 13 _ (by kernel_rfl) rfl (fun K hK => ?_)
  simp only [List.getElem_toArray, List.getElem_cons_succ, List.getElem_cons_zero]
  go_simp
  have HC9 := HC1.out
  simp only [adE, loE, hiE] at HC9
  generalize (if IntKind.i64.wrap (1099511627776 - x1) < 15 then IntKind.i64.wrap (1099511627776 - x1) else 15) = h1 at HC9 ⊢
  refine HC9.mono ?_
  clear HC1 HC9
  rintro e w2 ⟨b, rfl, hb⟩
  dsimp only
  cases b
  case false =>
    obtain ⟨x2, y2, hs2⟩ := nS _ _ hb
    have HE := Lib.hid (And.intro hs2 (⟨1, by omega, hb⟩ : ∃ k, k < 7 ∧ N k w2))
    obtain ⟨d0, d1, ⟨z, d2⟩, d3⟩ := hs2
    clear hb
    refine hK.out _ _ trivial (fun hHeld => ?_)
    clear hK K hHeld
    try simp only [tpu, tsa, ts0, ts1]
    repeat (first | (refine uN 54 16 rfl ?_; simp only [tpu, tsa, Nat.reduceSub, Nat.reduceAdd, ts0, ts1]) | (refine pN 54 16 _ rfl ?_; simp only [tpu, tsa, Nat.reduceSub, Nat.reduceAdd, ts0, ts1]))
    refine tP 54 6 _ rfl ?_
    try simp only [tpu, tsa, ts0, ts1]
    refine wpAnyH_done (by kernel_rfl) ?_ _
    go_wp2
    go_region
    go_wp2
    go_ret
    exact ⟨_, rfl, _, _, _, HE.out.1, HE.out.2, rfl⟩
  obtain ⟨x2, y2, hs2⟩ := jS _ _ hb
  have HC2 := Lib.hid (hc 2 _ x2 y2 (by omega) hb hs2)
  obtain ⟨d0, d1, -, -⟩ := hs2
  clear hb
  refine hK.out _ _ trivial (fun hHeld => ?_)
  clear hK K hHeld
  try simp only [tpu, tsa, ts0, ts1]
  repeat (first | (refine uN 54 16 rfl ?_; simp only [tpu, tsa, Nat.reduceSub, Nat.reduceAdd, ts0, ts1]) | (refine pN 54 16 _ rfl ?_; simp only [tpu, tsa, Nat.reduceSub, Nat.reduceAdd, ts0, ts1]))
  refine takeB 20 _ (by kernel_rfl) rfl (fun K hK => ?_)
  simp only [List.getElem_toArray, List.getElem_cons_succ, List.getElem_cons_zero]
  go_simp
  refine hK.out _ _ trivial (fun hHeld => ?_)
  clear hK K hHeld
  try simp only [tpu, tsa, ts0, ts1]
  repeat (first | (refine uN 54 16 rfl ?_; simp only [tpu, tsa, Nat.reduceSub, Nat.reduceAdd, ts0, ts1]) | (refine pN 54 16 _ rfl ?_; simp only [tpu, tsa, Nat.reduceSub, Nat.reduceAdd, ts0, ts1]))
  refine takeB 22 _ (by kernel_rfl) rfl (fun K hK => ?_)
  simp only [List.getElem_toArray, List.getElem_cons_succ, List.getElem_cons_zero]
  go_simp
  refine (HC2.out).mono ?_
  clear HC2
  rintro e w3 ⟨b, rfl, hb⟩
  dsimp only
  cases b
  case false =>
    obtain ⟨x3, y3, hs3⟩ := nS _ _ hb
    have HE := Lib.hid (And.intro hs3 (⟨2, by omega, hb⟩ : ∃ k, k < 7 ∧ N k w3))
    obtain ⟨d0, d1, ⟨z, d2⟩, d3⟩ := hs3
    clear hb
    refine hK.out _ _ trivial (fun hHeld => ?_)
    clear hK K hHeld
    try simp only [tpu, tsa, ts0, ts1]
    repeat (first | (refine uN 54 16 rfl ?_; simp only [tpu, tsa, Nat.reduceSub, Nat.reduceAdd, ts0, ts1]) | (refine pN 54 16 _ rfl ?_; simp only [tpu, tsa, Nat.reduceSub, Nat.reduceAdd, ts0, ts1]))
    refine tP 54 6 _ rfl ?_
    try simp only [tpu, tsa, ts0, ts1]
    refine wpAnyH_done (by kernel_rfl) ?_ _
    go_wp2
    go_region
    go_wp2
    go_ret
    exact ⟨_, rfl, _, _, _, HE.out.1, HE.out.2, rfl⟩
  obtain ⟨x3, y3, hs3⟩ := jS _ _ hb
  have HC3 := Lib.hid (hc 3 _ x3 y3 (by omega) hb hs3)
  obtain ⟨d0, d1, -, -⟩ := hs3
  clear hb
  refine hK.out _ _ trivial (fun hHeld => ?_)
  clear hK K hHeld
  try simp only [tpu, tsa, ts0, ts1]
  repeat (first | (refine uN 54 16 rfl ?_; simp only [tpu, tsa, Nat.reduceSub, Nat.reduceAdd, ts0, ts1]) | (refine pN 54 16 _ rfl ?_; simp only [tpu, tsa, Nat.reduceSub, Nat.reduceAdd, ts0, ts1]))
  refine takeB 29 _ (by kernel_rfl) rfl (fun K hK => ?_)
  simp only [List.getElem_toArray, List.getElem_cons_succ, List.getElem_cons_zero]
  go_simp
  refine (HC3.out).mono ?_
  clear HC3
  rintro e w4 ⟨b, rfl, hb⟩
  dsimp only
  cases b
  case false =>
    obtain ⟨x4, y4, hs4⟩ := nS _ _ hb
    have HE := Lib.hid (And.intro hs4 (⟨3, by omega, hb⟩ : ∃ k, k < 7 ∧ N k w4))
    obtain ⟨d0, d1, ⟨z, d2⟩, d3⟩ := hs4
    clear hb
    refine hK.out _ _ trivial (fun hHeld => ?_)
    clear hK K hHeld
    try simp only [tpu, tsa, ts0, ts1]
    repeat (first | (refine uN 54 16 rfl ?_; simp only [tpu, tsa, Nat.reduceSub, Nat.reduceAdd, ts0, ts1]) | (refine pN 54 16 _ rfl ?_; simp only [tpu, tsa, Nat.reduceSub, Nat.reduceAdd, ts0, ts1]))
    refine tP 54 6 _ rfl ?_
    try simp only [tpu, tsa, ts0, ts1]
    refine wpAnyH_done (by kernel_rfl) ?_ _
    go_wp2
    go_region
    go_wp2
    go_ret
    exact ⟨_, rfl, _, _, _, HE.out.1, HE.out.2, rfl⟩
  obtain ⟨x4, y4, hs4⟩ := jS _ _ hb
  have HC4 := Lib.hid (hc 4 _ x4 y4 (by omega) hb hs4)
  obtain ⟨d0, d1, -, -⟩ := hs4
  clear hb
  refine hK.out _ _ trivial (fun hHeld => ?_)
  clear hK K hHeld
  try simp only [tpu, tsa, ts0, ts1]
  repeat (first | (refine uN 54 16 rfl ?_; simp only [tpu, tsa, Nat.reduceSub, Nat.reduceAdd, ts0, ts1]) | (refine pN 54 16 _ rfl ?_; simp only [tpu, tsa, Nat.reduceSub, Nat.reduceAdd, ts0, ts1]))
  refine takeB 36 _ (by kernel_rfl) rfl (fun K hK => ?_)
  simp only [List.getElem_toArray, List.getElem_cons_succ, List.getElem_cons_zero]
  go_simp
  refine (HC4.out).mono ?_
  clear HC4
  rintro e w5 ⟨b, rfl, hb⟩
  dsimp only
  cases b
  case false =>
    obtain ⟨x5, y5, hs5⟩ := nS _ _ hb
    have HE := Lib.hid (And.intro hs5 (⟨4, by omega, hb⟩ : ∃ k, k < 7 ∧ N k w5))
    obtain ⟨d0, d1, ⟨z, d2⟩, d3⟩ := hs5
    clear hb
    refine hK.out _ _ trivial (fun hHeld => ?_)
    clear hK K hHeld
    try simp only [tpu, tsa, ts0, ts1]
    repeat (first | (refine uN 54 16 rfl ?_; simp only [tpu, tsa, Nat.reduceSub, Nat.reduceAdd, ts0, ts1]) | (refine pN 54 16 _ rfl ?_; simp only [tpu, tsa, Nat.reduceSub, Nat.reduceAdd, ts0, ts1]))
    refine tP 54 6 _ rfl ?_
    try simp only [tpu, tsa, ts0, ts1]
    refine wpAnyH_done (by kernel_rfl) ?_ _
    go_wp2
    go_region
    go_wp2
    go_ret
    exact ⟨_, rfl, _, _, _, HE.out.1, HE.out.2, rfl⟩
  obtain ⟨x5, y5, hs5⟩ := jS _ _ hb
  have HC5 := Lib.hid (hc 5 _ x5 y5 (by omega) hb hs5)
  obtain ⟨d0, d1, -, -⟩ := hs5
  clear hb
  refine hK.out _ _ trivial (fun hHeld => ?_)
  clear hK K hHeld
  try simp only [tpu, tsa, ts0, ts1]
  repeat (first | (refine uN 54 16 rfl ?_; simp only [tpu, tsa, Nat.reduceSub, Nat.reduceAdd, ts0, ts1]) | (refine pN 54 16 _ rfl ?_; simp only [tpu, tsa, Nat.reduceSub, Nat.reduceAdd, ts0, ts1]))
  refine takeB 43 _ (by kernel_rfl) rfl (fun K hK => ?_)
  simp only [List.getElem_toArray, List.getElem_cons_succ, List.getElem_cons_zero]
  go_simp
  refine (HC5.out).mono ?_
  clear HC5
  rintro e w6 ⟨b, rfl, hb⟩
  dsimp only
  cases b
  case false =>
    obtain ⟨x6, y6, hs6⟩ := nS _ _ hb
    have HE := Lib.hid (And.intro hs6 (⟨5, by omega, hb⟩ : ∃ k, k < 7 ∧ N k w6))
    obtain ⟨d0, d1, ⟨z, d2⟩, d3⟩ := hs6
    clear hb
    refine hK.out _ _ trivial (fun hHeld => ?_)
    clear hK K hHeld
    try simp only [tpu, tsa, ts0, ts1]
    repeat (first | (refine uN 54 16 rfl ?_; simp only [tpu, tsa, Nat.reduceSub, Nat.reduceAdd, ts0, ts1]) | (refine pN 54 16 _ rfl ?_; simp only [tpu, tsa, Nat.reduceSub, Nat.reduceAdd, ts0, ts1]))
    refine tP 54 6 _ rfl ?_
    try simp only [tpu, tsa, ts0, ts1]
    refine wpAnyH_done (by kernel_rfl) ?_ _
    go_wp2
    go_region
    go_wp2
    go_ret
    exact ⟨_, rfl, _, _, _, HE.out.1, HE.out.2, rfl⟩
  obtain ⟨x6, y6, hs6⟩ := jS _ _ hb
  have HC6 := Lib.hid (hc 6 _ x6 y6 (by omega) hb hs6)
  obtain ⟨d0, d1, -, -⟩ := hs6
  clear hb
  refine hK.out _ _ trivial (fun hHeld => ?_)
  clear hK K hHeld
  try simp only [tpu, tsa, ts0, ts1]
  repeat (first | (refine uN 54 16 rfl ?_; simp only [tpu, tsa, Nat.reduceSub, Nat.reduceAdd, ts0, ts1]) | (refine pN 54 16 _ rfl ?_; simp only [tpu, tsa, Nat.reduceSub, Nat.reduceAdd, ts0, ts1]))
  refine takeB 50 _ (by kernel_rfl) rfl (fun K hK => ?_)
  simp only [List.getElem_toArray, List.getElem_cons_succ, List.getElem_cons_zero]
  go_simp
  refine hK.out _ _ trivial (fun hHeld => ?_)
  clear hK K hHeld
  try simp only [tpu, tsa, ts0, ts1]
  repeat (first | (refine uN 54 16 rfl ?_; simp only [tpu, tsa, Nat.reduceSub, Nat.reduceAdd, ts0, ts1]) | (refine pN 54 16 _ rfl ?_; simp only [tpu, tsa, Nat.reduceSub, Nat.reduceAdd, ts0, ts1]))
  refine takeB 52 _ (by kernel_rfl) rfl (fun K hK => ?_)
  simp only [List.getElem_toArray, List.getElem_cons_succ, List.getElem_cons_zero]
  go_simp
  refine (HC6.out).mono ?_
  clear HC6
  rintro e w7 ⟨b, rfl, hb⟩
  dsimp only
  cases b
  case false =>
    obtain ⟨x7, y7, hs7⟩ := nS _ _ hb
    have HE := Lib.hid (And.intro hs7 (⟨6, by omega, hb⟩ : ∃ k, k < 7 ∧ N k w7))
    obtain ⟨d0, d1, ⟨z, d2⟩, d3⟩ := hs7
    clear hb
    refine hK.out _ _ trivial (fun hHeld => ?_)
    clear hK K hHeld
    try simp only [tpu, tsa, ts0, ts1]
    repeat (first | (refine uN 54 16 rfl ?_; simp only [tpu, tsa, Nat.reduceSub, Nat.reduceAdd, ts0, ts1]) | (refine pN 54 16 _ rfl ?_; simp only [tpu, tsa, Nat.reduceSub, Nat.reduceAdd, ts0, ts1]))
    refine tP 54 6 _ rfl ?_
    try simp only [tpu, tsa, ts0, ts1]
    refine wpAnyH_done (by kernel_rfl) ?_ _
    go_wp2
    go_region
    go_wp2
    go_ret
    exact ⟨_, rfl, _, _, _, HE.out.1, HE.out.2, rfl⟩
  obtain ⟨x7, y7, hs7⟩ := jS _ _ hb
  have HE := Lib.hid (And.intro hs7 hb)
  obtain ⟨d0, d1, ⟨z, d2⟩, d3⟩ := hs7
  clear hb
  refine hK.out _ _ trivial (fun hHeld => ?_)
  clear hK K hHeld
  try simp only [tpu, tsa, ts0, ts1]
  repeat (first | (refine uN 54 16 rfl ?_; simp only [tpu, tsa, Nat.reduceSub, Nat.reduceAdd, ts0, ts1]) | (refine pN 54 16 _ rfl ?_; simp only [tpu, tsa, Nat.reduceSub, Nat.reduceAdd, ts0, ts1]))
  refine tP 54 6 _ rfl ?_
  try simp only [tpu, tsa, ts0, ts1]
  refine wpAnyH_done (by kernel_rfl) ?_ _
  go_wp2
  go_region
  go_wp2
  go_ret
  exact ⟨_, rfl, _, _, _, HE.out.1, HE.out.2, rfl⟩
end Go.Proofs.YtlfbagkonckffaaGreat.Bat
