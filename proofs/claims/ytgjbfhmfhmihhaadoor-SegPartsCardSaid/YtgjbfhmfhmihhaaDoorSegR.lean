/- Joined: SegR. -/
import Derived.Test.YtgjbfhmfhmihhaaDoorSegI
import Derived.Test.YtgjbfhmfhmihhaaDoorInR
import Derived.WalkMore
/- The contract of the landed seg.reach: where a segment ends, and how many bytes its batches take. -/
namespace Go.Proofs.YtgjbfhmfhmihhaaDoor.Seg
open Go.RowKit Go.Shelf Go.Proofs.YtgjbfhmfhmihhaaDoor.Oct Go.Proofs.YtgjbfhmfhmihhaaDoor.Rec Go.Proofs.YtgjbfhmfhmihhaaDoor.Crc Go.Proofs.YtgjbfhmfhmihhaaDoor.Bat Go.Proofs.YtgjbfhmfhmihhaaDoor.RngQ Go.Proofs.YtgjbfhmfhmihhaaDoor.InR Go.Proofs.YtgjbfhmfhmihhaaDoor.RowL

attribute [local go_sem] Oper.semAt_some

theorem grownBy_of {w w' : World} (h : Below w.heap.size w w') : w.grownBy w' none := ⟨h.os, h.tape, h.output, h.size, fun k hk _ => h.block k hk⟩
def BoxT (W : World) (g : Nat) (e : TypeId) (x : BX) : Prop := W.heap[g]? = some (.cells (batC x).toArray e (0, 0))
section
variable {W X : World} {g k : Nat} {e : TypeId} {x : BX} {row : Option Nat}
theorem BoxT.lt (h : BoxT W g e x) : g < W.heap.size := (Array.getElem?_eq_some_iff.1 h).1
theorem BoxT.new (W : World) (e : TypeId) (x : BX) : BoxT (W.alloc (.cells (batC x).toArray e)) W.heap.size e x := World.alloc_heap_new W _
theorem BoxT.keptBy (h : BoxT W g e x) (hg : W.grownBy X row) (hrow : ∀ r, row = some r → ∃ o : Obj, W.heap[r]? = some o ∧ o.isCells = false) : BoxT X g e x :=
  (grownBy_keeps_cells hg hrow h rfl).trans h
theorem BoxT.box (h : BoxT W g e x) : BoxB W g x.1 (.slice x.2.1 x.2.2.1 x.2.2.2) := by
  refine ⟨?_, ?_, ?_, ?_, ?_, ?_, ?_, ?_, ?_, ?_⟩ <;> (rw [cell_of_row _ _ _ _ e _ h]; rfl)
end
def NextQ (base : Int) (bs : List UInt8) (pre : List SX) (x : SX) : Prop :=
  (∃ rest, (sc base bs).1 = btsOf pre ++ x.1.1 :: rest) ∧ x.2 = (byR (btsOf pre ++ [x.1.1])).length ∧ x.2 ≤ bs.length ∧ chB x.1.1 = 0
theorem next_of {base : Int} {bs : List UInt8} {pre : List SX} {x : SX} {W0 W : World} (h : SegQ base bs pre x W0 W) : NextQ base bs pre x := ⟨h.1, h.2.1, h.2.2.1, h.2.2.2.1⟩
def reC (base : Int) (N : Nat) (pre : List SX) (W : World) : Prop :=
  Boxed W (N + 1) 3 (.int .i64 (endR base (btsOf pre))) ∧ Boxed W (N + 2) 3 (.int .i64 ((byR (btsOf pre)).length : Int))
theorem reC_own {base : Int} {N : Nat} {pre : List SX} {W W' : World} {row : Option Nat} (h : reC base N pre W) (hg : W.grownBy W' row) (hrow : ∀ r, row = some r → ∃ o : Obj, W.heap[r]? = some o ∧ o.isCells = false) : reC base N pre W' := by
  have hb : ∀ {k : Nat} {t : TypeId} {v : Value}, Boxed W k t v → Boxed W' k t v := fun {k t v} hv => hv.kept hg fun e' => by
    obtain ⟨o, ho, hc⟩ := hrow k e'.symm
    rw [show W.heap[k]? = _ from hv] at ho; cases ho; cases hc
  exact ⟨hb h.1, hb h.2⟩
set_option maxRecDepth 100000 in
set_option maxHeartbeats 4000000 in
theorem reach_in (A : Option Addr) (n c : Nat) (base : Int) (bs : List UInt8) (w : World) (hr : Rd w w.heap.size A n bs) (hc : n ≤ c) (hn : n ≤ 137438953472) (hI : I64 base) (ht : Tab w) :
    CallsIn Fence.wide 6 Tryd.prog 38 #[.agg #[.int .i64 base, .slice A n c]] w fun e w' => e = .returned (.tuple #[.int .i64 (endR base (sc base bs).1), .int .i64 ((sc base bs).2 : Int)]) ∧ Below w.heap.size w w' := by
  have HR := Lib.hid hr
  have HT := Lib.hid ht
  have HLEN := Lib.hid hr.len
  clear hr ht
  refine callsIn_of_wp_marks Tryd.func38 rfl trivial ?_ rfl
  simp only [Tryd.ntmps38, List.size_toArray, List.length_cons, List.length_nil, Nat.reduceAdd, Nat.reduceSub, Array.replicate_succ, Array.replicate_zero, List.push_toArray, List.append_toArray, List.nil_append, List.cons_append]
  refine wpIn_wide.2 ?_
  go_wp2_with (go_at_call 36; (with_reducible refine (batches_any A n c base _).mono ?_); rintro e w' ⟨rfl, rfl⟩)
  generalize hw0 : ((((w.alloc (.cells #[.int .i64 base, .slice A n c] 24)).alloc (.cells #[.int .i64 base] 3)).alloc (.cells #[.int .i64 0] 3)).alloc (.cells #[.int .i64 base, .slice A n c] 24)) = W0
  have hsz : W0.heap.size = w.heap.size + 4 := by rw [← hw0]; simp
  have hB0 : Below w.heap.size w W0 := by rw [← hw0]; exact bel_alloc (bel_alloc (bel_alloc (bel_alloc (Below.refl _ _) _) _) _) _
  have hC0 : reC base w.heap.size [] W0 := by
    rw [← hw0]
    refine ⟨?_, ?_⟩
    · have h := Boxed.new (w.alloc (.cells #[.int .i64 base, .slice A n c] 24)) 3 (.int .i64 base)
      simp only [World.size_alloc] at h
      exact (h.alloc _).alloc _
    · have h := Boxed.new ((w.alloc (.cells #[.int .i64 base, .slice A n c] 24)).alloc (.cells #[.int .i64 base] 3)) 3 (.int .i64 0)
      simp only [World.size_alloc] at h
      exact h.alloc _
  have hS0 : W0.heap[w.heap.size + 1 + 1 + 1]? = some (.cells #[.int .i64 base, .slice A n c] 24 (0, 0)) := by
    rw [← hw0]
    have h := World.alloc_heap_new (((w.alloc (.cells #[.int .i64 base, .slice A n c] 24)).alloc (.cells #[.int .i64 base] 3)).alloc (.cells #[.int .i64 0] 3)) (.cells #[.int .i64 base, .slice A n c] 24 (0, 0))
    simp only [World.size_alloc] at h
    exact h
  clear hw0
  have hK9 : ∀ k, SegK w.heap.size (w.heap.size + 1 + 1 + 1) k → k < W0.heap.size := fun k h => by rcases h with h | h <;> omega
  have hnt := HT.out.pos
  refine (wpIn_wide (n := 6)).1 ?_
  refine wpIn_rangeQ (F := Fence.wide) rfl (by omega) (gf := 48) (lb := #[.pointer (some ⟨w.heap.size + 1 + 1 + 1, 0, none⟩)]) rfl trivial (enters_of Tryd.func48 (by kernel_rfl) rfl)
    (batches_seq (6 - 1) (by omega) (w.heap.size + 1 + 1 + 1) w.heap.size A n c base bs hc hn hI W0 hB0.size (by omega) (by rw [cell_of_row _ _ _ _ _ _ hS0]; rfl) (by rw [cell_of_row _ _ _ _ _ _ hS0]; rfl) (HR.out.below hB0 (Nat.le_refl _)) (HT.out.bel hB0) hnt)
    hK9 (Below.refl _ _) (fun _ => rfl)
    (fun pre W => reC base w.heap.size pre W ∧ Below w.heap.size w W) (fun _ _ _ => False)
    (OwnFrom.and (Own.from (I := fun (pre : List SX) W => reC base w.heap.size pre W) (fun s X Y row hs hg hrow => reC_own (pre := s) hs hg hrow) _) (ownFrom_below (Nat.le_refl _) hB0.size))
    (fun _ s X Y row hs _ _ => hs) ⟨hC0, hB0⟩
    (fun pre x W1 a' W => (reC base w.heap.size pre W ∧ ∃ Bx, W1.heap.size ≤ Bx ∧ BoxT W Bx 39 x.1 ∧ NextQ base bs pre x ∧ W0.heap.size ≤ W1.heap.size ∧
      a' = { tmps := #[.agg #[.int .i64 base, .slice A n c], .pointer (some ⟨w.heap.size, 0, none⟩), .pointer (some ⟨w.heap.size + 1, 0, none⟩), .pointer (some ⟨w.heap.size + 1 + 1, 0, none⟩), .pointer (some ⟨Bx, 0, none⟩), .int .i64 (x.2 : Int), .pointer (some ⟨w.heap.size, 0, none⟩), .int .i64 base, .agg #[.int .i64 base, .slice A n c], .func (.func 48) #[] #[.pointer (some ⟨w.heap.size + 1 + 1 + 1, 0, none⟩)], (encS x)[0]!, .int .i64 (x.2 : Int), undef, undef, undef, undef, undef, undef], defers := [] }) ∧ Below w.heap.size w W)
    (fun pre x W1 a' => OwnFrom.and (Own.from (I := fun (_ : Unit) W => reC base w.heap.size pre W ∧ ∃ Bx, W1.heap.size ≤ Bx ∧ BoxT W Bx 39 x.1 ∧ NextQ base bs pre x ∧ W0.heap.size ≤ W1.heap.size ∧ a' = _) (fun s X Y row hs hg hrow => ⟨reC_own hs.1 hg hrow, by obtain ⟨_, Bx, h1, h2, h3⟩ := hs; exact ⟨Bx, h1, h2.keptBy hg hrow, h3⟩⟩) _) (ownFrom_below (Nat.le_refl _) hB0.size))
    ?assign ?body ?done ?stop
  case assign =>
    rintro l pre ⟨⟨⟨ba, la, fr, ep, pi, ge, se, tx, ct, rs⟩, A1, n1, c1⟩, kn⟩ W1 W G hs1 ⟨hC, hB⟩ hbel hq hG
    dsimp only [encS]
    gi_wp2
    exact hG _ _ ((KeepsOthers.alloc _ _).from _) ((KeptQ.refl _ _ _).alloc _) ⟨⟨reC_own hC (grownBy_of (bel_alloc hbel _)) (fun r e => by cases e), W.heap.size, hbel.size, BoxT.new W _ (⟨ba, la, fr, ep, pi, ge, se, tx, ct, rs⟩, A1, n1, c1), next_of hq, hs1, rfl⟩, (hB.trans (hbel.mono (by have := hB.size; omega))).alloc (by have := hB.size; have := hbel.size; omega) _⟩
  case body =>
    rintro l pre ⟨⟨⟨ba, la, fr, ep, pi, ge, se, tx, ct, rs⟩, A1, n1, c1⟩, kn⟩ W1 a' W ⟨⟨⟨hE, hGd⟩, Bx, hBx, hT, hq, hs1, rfl⟩, hB⟩
    have HQ := Lib.hid hq
    have hlast := chB_last hq.2.2.2
    simp only at hlast
    obtain ⟨x0, x1, x2, x3, x4, x5, x6, x7, x8, x9⟩ := hT.box
    have f1 := hE.frozen
    have f2 := hGd.frozen
    have c1' := hE.cell
    have c2' := hGd.cell
    have hBs := hB.size
    clear hq
    gi_wp2
    refine ⟨((KeepsOthers.setCell _ _ _).trans (KeepsOthers.setCell _ _ _)).from _, ((KeptQ.refl _ _ _).set (p := ⟨w.heap.size + 1, 0, none⟩) ?_ (by simp only; omega) _).set (p := ⟨w.heap.size + 1 + 1, 0, none⟩) ?_ (by simp only; omega) _, ⟨?_, ?_⟩, (hB.setCell (by simp) _).setCell (by simp; omega) _⟩
    · simp only [SegK]; omega
    · simp only [SegK]; omega
    · rw [btsOf_snoc, endR_snoc]
      exact boxed_set2 (hE.set _) _ (by omega)
    · rw [btsOf_snoc, ← HQ.out.2.1]
      exact (boxed_set2 hGd _ (by omega)).set _
  case done =>
    rintro D ys W hD hys ⟨⟨hE, hGd⟩, hB⟩ hK
    have hsc := (sc_good base bs).2.1
    rw [hys] at hE hGd
    rw [← hsc] at hGd
    obtain ⟨E, hEE⟩ : ∃ E, E = endR base (sc base bs).1 := ⟨_, rfl⟩
    rw [← hEE] at hE
    obtain ⟨G, hGG⟩ : ∃ G, G = (sc base bs).2 := ⟨_, rfl⟩
    rw [← hGG] at hGd
    have HEE := Lib.hid hEE
    have HGG := Lib.hid hGG
    clear hsc hys hEE hGG
    have hmx : Tryd.prog.follows .mixedOrders = true := by kernel_rfl
    have HS := Lib.hid (show (fun W9 : World => W9.cell? ⟨w.heap.size + 1, 0, none⟩ = some (.int .i64 E) ∧ W9.cell? ⟨w.heap.size + 1 + 1, 0, none⟩ = some (.int .i64 (G : Int))) W.drew from ⟨hE.cell, hGd.cell⟩)
    have HE := Lib.hid hE
    have HGD := Lib.hid hGd
    have HBL := Lib.hid hB
    have HK := Lib.hid hK
    clear hE hGd hB hK
    go_wp2
    refine InR.region_plain (fun W9 : World => W9.cell? ⟨w.heap.size + 1, 0, none⟩ = some (.int .i64 E) ∧ W9.cell? ⟨w.heap.size + 1 + 1, 0, none⟩ = some (.int .i64 (G : Int))) 3 hmx ?_
    refine takeK 0 ⟨some 16, .load 3 (.tmp 2), 3, "seg.go:96", #[], none⟩ ?_ rfl (by kernel_rfl) (by kernel_rfl) (by kernel_rfl) (by kernel_rfl) (by rfl) ?_ HS.out ?_
    rotate_left
    · intro w9 hS9; have hS0 := hS9.1; have hS1 := hS9.2; clear hS9; go_simp; (first | done | with_reducible rfl)
    try simp only [Act.put, List.setIfInBounds_toArray, List.set_cons_zero, List.set_cons_succ]
    refine takeK 1 ⟨some 17, .load 3 (.tmp 3), 3, "seg.go:96", #[], none⟩ ?_ rfl (by kernel_rfl) (by kernel_rfl) (by kernel_rfl) (by kernel_rfl) (by rfl) ?_ HS.out ?_
    rotate_left
    · intro w9 hS9; have hS0 := hS9.1; have hS1 := hS9.2; clear hS9; go_simp; (first | done | with_reducible rfl)
    try simp only [Act.put, List.setIfInBounds_toArray, List.set_cons_zero, List.set_cons_succ]
    refine oneK 2 ⟨none, .store 3 (.tmp 2) (.tmp 16), 0, "seg.go:96", #[⟨0, .data⟩, ⟨0, .phase⟩, { on := 1, ground := Ground.textOnly Departure.inlinedCapture }], none⟩ (by kernel_rfl) rfl (fun K hK => ?_)
    have g1 := HE.out.cell
    have g2 := HE.out.frozen
    go_simp
    clear g1 g2
    have HE2 := Lib.hid (HE.out.set (.int .i64 E))
    have HG2 := Lib.hid (boxed_set2 HGD.out (k := w.heap.size + 1) (.int .i64 E) (by omega))
    refine hK.out _ _ (fun _ => ⟨HE2.out.cell, HG2.out.cell⟩) ?_
    clear hK K
    try simp only [Act.put, List.setIfInBounds_toArray, List.set_cons_zero, List.set_cons_succ]
    refine oneK 3 ⟨none, .store 3 (.tmp 3) (.tmp 17), 0, "seg.go:96", #[⟨1, .data⟩, ⟨2, .chain⟩, ⟨0, .phase⟩, ⟨1, .phase⟩, ⟨2, .phase⟩], none⟩ (by kernel_rfl) rfl (fun K hK => ?_)
    have g1 := HG2.out.cell
    have g2 := HG2.out.frozen
    go_simp
    clear g1 g2
    have HE3 := Lib.hid (boxed_set2 HE2.out (k := w.heap.size + 1 + 1) (.int .i64 (G : Int)) (by omega))
    have HG3 := Lib.hid (HG2.out.set (.int .i64 (G : Int)))
    refine hK.out _ _ (fun h => absurd rfl h) ?_
    clear hK K
    try simp only [Act.put, List.setIfInBounds_toArray, List.set_cons_zero, List.set_cons_succ]
    refine doneK (by kernel_rfl) ?_ _
    go_wp2
    have hK' := (((KeepsOthers.drew W).trans (KeepsOthers.setCell _ ⟨w.heap.size + 1, 0, none⟩ (.int .i64 E))).trans (KeepsOthers.setCell _ ⟨w.heap.size + 1 + 1, 0, none⟩ (.int .i64 (G : Int)))).same D _ HK.out rfl
    have hrow : ∀ r, some D = some r → ∃ o : Obj, ((W.drew.setCell ⟨w.heap.size + 1, 0, none⟩ (.int .i64 E)).setCell ⟨w.heap.size + 1 + 1, 0, none⟩ (.int .i64 (G : Int))).heap[r]? = some o ∧ o.isCells = false := fun r e => by cases e; exact ⟨_, hK', rfl⟩
    refine ⟨by simp, .inl ⟨_, _, rfl, run_takeDeferred hK', ?_⟩⟩
    have r1' := cell_kept HE3.out.cell (grownBy_putObj' _ D (.deferred none)) hrow
    have r1 : (((W.setCell ⟨w.heap.size + 1, 0, none⟩ (.int .i64 E)).setCell ⟨w.heap.size + 1 + 1, 0, none⟩ (.int .i64 (G : Int))).drew.putObj D (.deferred none)).cell? ⟨w.heap.size + 1, 0, none⟩ = some (.int .i64 E) := r1'
    have r2' := cell_kept HG3.out.cell (grownBy_putObj' _ D (.deferred none)) hrow
    have r2 : (((W.setCell ⟨w.heap.size + 1, 0, none⟩ (.int .i64 E)).setCell ⟨w.heap.size + 1 + 1, 0, none⟩ (.int .i64 (G : Int))).drew.putObj D (.deferred none)).cell? ⟨w.heap.size + 1 + 1, 0, none⟩ = some (.int .i64 (G : Int)) := r2'
    clear r1' r2'
    refine ⟨.tuple #[.int .i64 E, .int .i64 (G : Int)], by simp [results, Tryd.results38, go_sem, r1, r2], by rw [HEE.out, HGG.out], ?_⟩
    exact ((HBL.out.drew.setCell (by simp) _).setCell (by simp; omega) _).trans (belowK_b (w := w) (Nat.le_refl _) _ D _ _ (by omega) hK' rfl rfl)
  case stop =>
    rintro D cd pre W hD h _
    exact h.elim
theorem reach_any (A : Option Addr) (n c : Nat) (base : Int) (bs : List UInt8) (w : World) (hr : Rd w w.heap.size A n bs) (hc : n ≤ c) (hn : n ≤ 137438953472) (hI : I64 base) (ht : Tab w) :
    Calls Tryd.prog 38 #[.agg #[.int .i64 base, .slice A n c]] w fun e w' => e = .returned (.tuple #[.int .i64 (endR base (sc base bs).1), .int .i64 ((sc base bs).2 : Int)]) ∧ Below w.heap.size w w' := callsIn_wide.1 (reach_in A n c base bs w hr hc hn hI ht)
end Go.Proofs.YtgjbfhmfhmihhaaDoor.Seg
