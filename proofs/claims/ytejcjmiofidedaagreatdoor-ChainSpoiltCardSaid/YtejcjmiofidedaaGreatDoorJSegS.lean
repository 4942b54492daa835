/- Joined: SegR, SegS, SegRS. -/
import Derived.Test.YtejcjmiofidedaaGreatDoorSegI
import Derived.Test.YtejcjmiofidedaaGreatDoorInR
import Derived.WalkMore
import Derived.Test.YtejcjmiofidedaaGreatDoorJSegM
import Derived.Test.YtejcjmiofidedaaGreatDoorBatRow
import Derived.Test.YtejcjmiofidedaaGreatDoorJOct
import Derived.Deep.RegionHeld3
import Derived.LoopTactic
/- The contract of the landed seg.reach: where a segment ends, and how many bytes its batches take. -/
namespace Go.Proofs.YtejcjmiofidedaaGreatDoor.Seg
open Go.RowKit Go.Shelf Oct Rec Crc Bat RngQ InR RowL

attribute [local go_sem] Oper.semAt_some

theorem grownBy_of {w w' : World} (h : Below w.heap.size w w') : w.grownBy w' none := ⟨h.os, h.tape, h.output, h.size, fun k hk _ => h.block k hk⟩
def BoxT (W : World) (g : Nat) (e : TypeId) (x : BX) : Prop := W.heap[g]? = some (.cells (batC x).toArray e (0, 0))
section
variable {W X : World} {g k : Nat} {e : TypeId} {x : BX} {row : Option Nat}
theorem BoxT.lt (h : BoxT W g e x) : g < W.heap.size := (Array.getElem?_eq_some_iff.1 h).1
theorem BoxT.new (W : World) (e : TypeId) (x : BX) : BoxT (W.alloc (.cells (batC x).toArray e)) W.heap.size e x := World.alloc_heap_new W _
theorem BoxT.keptBy (h : BoxT W g e x) (hg : W.grownBy X row) (hrow : ∀ r, row = some r → ∃ o : Obj, W.heap[r]? = some o ∧ o.isCells = false) : BoxT X g e x :=
  (grownBy_keeps_cells hg hrow h rfl).trans h
theorem BoxT.box (h : BoxT W g e x) : BoxB W g x.1 (.slice x.2.1 x.2.2.1 x.2.2.2) := by
  refine ⟨?_, ?_, ?_, ?_, ?_, ?_, ?_, ?_, ?_, ?_⟩ <;> (rw [cell_of_row _ _ _ _ e _ h]; rfl)
end
def NextQ (base : Int) (bs : List UInt8) (pre : List SX) (x : SX) : Prop :=
  (∃ rest, (sc base bs).1 = btsOf pre ++ x.1.1 :: rest) ∧ x.2 = (byR (btsOf pre ++ [x.1.1])).length ∧ x.2 ≤ bs.length ∧ chB x.1.1 = 0
theorem next_of {base : Int} {bs : List UInt8} {pre : List SX} {x : SX} {W0 W : World} (h : SegQ base bs pre x W0 W) : NextQ base bs pre x := ⟨h.1, h.2.1, h.2.2.1, h.2.2.2.1⟩
def reC (base : Int) (N : Nat) (pre : List SX) (W : World) : Prop :=
  Boxed W (N + 1) 3 (.int .i64 (endR base (btsOf pre))) ∧ Boxed W (N + 2) 3 (.int .i64 ((byR (btsOf pre)).length : Int))
theorem reC_own {base : Int} {N : Nat} {pre : List SX} {W W' : World} {row : Option Nat} (h : reC base N pre W) (hg : W.grownBy W' row) (hrow : ∀ r, row = some r → ∃ o : Obj, W.heap[r]? = some o ∧ o.isCells = false) : reC base N pre W' := by
  have hb : ∀ {k : Nat} {t : TypeId} {v : Value}, Boxed W k t v → Boxed W' k t v := fun {k t v} hv => hv.kept hg fun e' => by
    obtain ⟨o, ho, hc⟩ := hrow k e'.symm
    rw [show W.heap[k]? = _ from hv] at ho; cases ho; cases hc
  exact ⟨hb h.1, hb h.2⟩
set_option maxRecDepth 100000 in
set_option maxHeartbeats 4000000 in
theorem reach_in (A : Option Addr) (n c : Nat) (base : Int) (bs : List UInt8) (w : World) (hr : Rd w w.heap.size A n bs) (hc : n ≤ c) (hn : n ≤ 137438953472) (hI : I64 base) (ht : Tab w) :
    CallsIn Fence.wide 6 Tryz.prog 92 #[.agg #[.int .i64 base, .slice A n c]] w fun e w' => e = .returned (.tuple #[.int .i64 (endR base (sc base bs).1), .int .i64 ((sc base bs).2 : Int)]) ∧ Below w.heap.size w w' := by
  have HR := Lib.hid hr
  have HT := Lib.hid ht
  have HLEN := Lib.hid hr.len
  clear hr ht
  refine callsIn_of_wp_marks Tryz.func92 rfl trivial ?_ rfl
  simp only [Tryz.ntmps92, List.size_toArray, List.length_cons, List.length_nil, Nat.reduceAdd, Nat.reduceSub, Array.replicate_succ, Array.replicate_zero, List.push_toArray, List.append_toArray, List.nil_append, List.cons_append]
  refine wpIn_wide.2 ?_
  go_wp2_with (go_at_call 80; (with_reducible refine (batches_any A n c base _).mono ?_); rintro e w' ⟨rfl, rfl⟩)
  generalize hw0 : ((((w.alloc (.cells #[.int .i64 base, .slice A n c] 59)).alloc (.cells #[.int .i64 base] 3)).alloc (.cells #[.int .i64 0] 3)).alloc (.cells #[.int .i64 base, .slice A n c] 59)) = W0
  have hsz : W0.heap.size = w.heap.size + 4 := by rw [← hw0]; simp
  have hB0 : Below w.heap.size w W0 := by rw [← hw0]; exact bel_alloc (bel_alloc (bel_alloc (bel_alloc (Below.refl _ _) _) _) _) _
  have hC0 : reC base w.heap.size [] W0 := by
    rw [← hw0]
    refine ⟨?_, ?_⟩
    · have h := Boxed.new (w.alloc (.cells #[.int .i64 base, .slice A n c] 59)) 3 (.int .i64 base)
      simp only [World.size_alloc] at h
      exact (h.alloc _).alloc _
    · have h := Boxed.new ((w.alloc (.cells #[.int .i64 base, .slice A n c] 59)).alloc (.cells #[.int .i64 base] 3)) 3 (.int .i64 0)
      simp only [World.size_alloc] at h
      exact h.alloc _
  have hS0 : W0.heap[w.heap.size + 1 + 1 + 1]? = some (.cells #[.int .i64 base, .slice A n c] 59 (0, 0)) := by
    rw [← hw0]
    have h := World.alloc_heap_new (((w.alloc (.cells #[.int .i64 base, .slice A n c] 59)).alloc (.cells #[.int .i64 base] 3)).alloc (.cells #[.int .i64 0] 3)) (.cells #[.int .i64 base, .slice A n c] 59 (0, 0))
    simp only [World.size_alloc] at h
    exact h
  clear hw0
  have hK9 : ∀ k, SegK w.heap.size (w.heap.size + 1 + 1 + 1) k → k < W0.heap.size := fun k h => by rcases h with h | h <;> omega
  have hnt := HT.out.pos
  refine (wpIn_wide (n := 6)).1 ?_
  refine wpIn_rangeQ (F := Fence.wide) rfl (by omega) (gf := 105) (lb := #[.pointer (some ⟨w.heap.size + 1 + 1 + 1, 0, none⟩)]) rfl trivial (enters_of Tryz.func105 (by kernel_rfl) rfl)
    (batches_seq (6 - 1) (by omega) (w.heap.size + 1 + 1 + 1) w.heap.size A n c base bs hc hn hI W0 hB0.size (by omega) (by rw [cell_of_row _ _ _ _ _ _ hS0]; rfl) (by rw [cell_of_row _ _ _ _ _ _ hS0]; rfl) (HR.out.below hB0 (Nat.le_refl _)) (HT.out.bel hB0) hnt)
    hK9 (Below.refl _ _) (fun _ => rfl)
    (fun pre W => reC base w.heap.size pre W ∧ Below w.heap.size w W) (fun _ _ _ => False)
    (OwnFrom.and (Own.from (I := fun (pre : List SX) W => reC base w.heap.size pre W) (fun s X Y row hs hg hrow => reC_own (pre := s) hs hg hrow) _) (ownFrom_below (Nat.le_refl _) hB0.size))
    (fun _ s X Y row hs _ _ => hs) ⟨hC0, hB0⟩
    (fun pre x W1 a' W => (reC base w.heap.size pre W ∧ ∃ Bx, W1.heap.size ≤ Bx ∧ BoxT W Bx 39 x.1 ∧ NextQ base bs pre x ∧ W0.heap.size ≤ W1.heap.size ∧
      a' = { tmps := #[.agg #[.int .i64 base, .slice A n c], .pointer (some ⟨w.heap.size, 0, none⟩), .pointer (some ⟨w.heap.size + 1, 0, none⟩), .pointer (some ⟨w.heap.size + 1 + 1, 0, none⟩), .pointer (some ⟨Bx, 0, none⟩), .int .i64 (x.2 : Int), .pointer (some ⟨w.heap.size, 0, none⟩), .int .i64 base, .agg #[.int .i64 base, .slice A n c], .func (.func 105) #[] #[.pointer (some ⟨w.heap.size + 1 + 1 + 1, 0, none⟩)], (encS x)[0]!, .int .i64 (x.2 : Int), undef, undef, undef, undef, undef, undef], defers := [] }) ∧ Below w.heap.size w W)
    (fun pre x W1 a' => OwnFrom.and (Own.from (I := fun (_ : Unit) W => reC base w.heap.size pre W ∧ ∃ Bx, W1.heap.size ≤ Bx ∧ BoxT W Bx 39 x.1 ∧ NextQ base bs pre x ∧ W0.heap.size ≤ W1.heap.size ∧ a' = _) (fun s X Y row hs hg hrow => ⟨reC_own hs.1 hg hrow, by obtain ⟨_, Bx, h1, h2, h3⟩ := hs; exact ⟨Bx, h1, h2.keptBy hg hrow, h3⟩⟩) _) (ownFrom_below (Nat.le_refl _) hB0.size))
    ?assign ?body ?done ?stop
  case assign =>
    rintro l pre ⟨⟨⟨ba, la, fr, ep, pi, ge, se, tx, ct, rs⟩, A1, n1, c1⟩, kn⟩ W1 W G hs1 ⟨hC, hB⟩ hbel hq hG
    dsimp only [encS]
    gi_wp2
    exact hG _ _ ((KeepsOthers.alloc _ _).from _) ((KeptQ.refl _ _ _).alloc _) ⟨⟨reC_own hC (grownBy_of (bel_alloc hbel _)) (fun r e => by cases e), W.heap.size, hbel.size, BoxT.new W _ (⟨ba, la, fr, ep, pi, ge, se, tx, ct, rs⟩, A1, n1, c1), next_of hq, hs1, rfl⟩, (hB.trans (hbel.mono (by have := hB.size; omega))).alloc (by have := hB.size; have := hbel.size; omega) _⟩
  case body =>
    rintro l pre ⟨⟨⟨ba, la, fr, ep, pi, ge, se, tx, ct, rs⟩, A1, n1, c1⟩, kn⟩ W1 a' W ⟨⟨⟨hE, hGd⟩, Bx, hBx, hT, hq, hs1, rfl⟩, hB⟩
    have HQ := Lib.hid hq
    have hlast := chB_last hq.2.2.2
    simp only at hlast
    obtain ⟨x0, x1, x2, x3, x4, x5, x6, x7, x8, x9⟩ := hT.box
    have f1 := hE.frozen
    have f2 := hGd.frozen
    have c1' := hE.cell
    have c2' := hGd.cell
    have hBs := hB.size
    clear hq
    gi_wp2
    refine ⟨((KeepsOthers.setCell _ _ _).trans (KeepsOthers.setCell _ _ _)).from _, ((KeptQ.refl _ _ _).set (p := ⟨w.heap.size + 1, 0, none⟩) ?_ (by simp only; omega) _).set (p := ⟨w.heap.size + 1 + 1, 0, none⟩) ?_ (by simp only; omega) _, ⟨?_, ?_⟩, (hB.setCell (by simp) _).setCell (by simp; omega) _⟩
    · simp only [SegK]; omega
    · simp only [SegK]; omega
    · rw [btsOf_snoc, endR_snoc]
      exact boxed_set2 (hE.set _) _ (by omega)
    · rw [btsOf_snoc, ← HQ.out.2.1]
      exact (boxed_set2 hGd _ (by omega)).set _
  case done =>
    rintro D ys W hD hys ⟨⟨hE, hGd⟩, hB⟩ hK
    have hsc := (sc_good base bs).2.1
    rw [hys] at hE hGd
    rw [← hsc] at hGd
    obtain ⟨E, hEE⟩ : ∃ E, E = endR base (sc base bs).1 := ⟨_, rfl⟩
    rw [← hEE] at hE
    obtain ⟨G, hGG⟩ : ∃ G, G = (sc base bs).2 := ⟨_, rfl⟩
    rw [← hGG] at hGd
    have HEE := Lib.hid hEE
    have HGG := Lib.hid hGG
    clear hsc hys hEE hGG
    have hmx : Tryz.prog.follows .mixedOrders = true := by kernel_rfl
    have HS := Lib.hid (show (fun W9 : World => W9.cell? ⟨w.heap.size + 1, 0, none⟩ = some (.int .i64 E) ∧ W9.cell? ⟨w.heap.size + 1 + 1, 0, none⟩ = some (.int .i64 (G : Int))) W.drew from ⟨hE.cell, hGd.cell⟩)
    have HE := Lib.hid hE
    have HGD := Lib.hid hGd
    have HBL := Lib.hid hB
    have HK := Lib.hid hK
    clear hE hGd hB hK
    go_wp2
    refine InR.region_plain (fun W9 : World => W9.cell? ⟨w.heap.size + 1, 0, none⟩ = some (.int .i64 E) ∧ W9.cell? ⟨w.heap.size + 1 + 1, 0, none⟩ = some (.int .i64 (G : Int))) 3 hmx ?_
    refine takeK 0 ⟨some 16, .load 3 (.tmp 2), 3, "seg.go:96", #[], none⟩ ?_ rfl (by kernel_rfl) (by kernel_rfl) (by kernel_rfl) (by kernel_rfl) (by rfl) ?_ HS.out ?_
    rotate_left
    · intro w9 hS9; have hS0 := hS9.1; have hS1 := hS9.2; clear hS9; go_simp; (first | done | with_reducible rfl)
    try simp only [Act.put, List.setIfInBounds_toArray, List.set_cons_zero, List.set_cons_succ]
    refine takeK 1 ⟨some 17, .load 3 (.tmp 3), 3, "seg.go:96", #[], none⟩ ?_ rfl (by kernel_rfl) (by kernel_rfl) (by kernel_rfl) (by kernel_rfl) (by rfl) ?_ HS.out ?_
    rotate_left
    · intro w9 hS9; have hS0 := hS9.1; have hS1 := hS9.2; clear hS9; go_simp; (first | done | with_reducible rfl)
    try simp only [Act.put, List.setIfInBounds_toArray, List.set_cons_zero, List.set_cons_succ]
    refine oneK 2 ⟨none, .store 3 (.tmp 2) (.tmp 16), 0, "seg.go:96", #[⟨0, .data⟩, ⟨0, .phase⟩, { on := 1, ground := Ground.textOnly Departure.inlinedCapture }], none⟩ (by kernel_rfl) rfl (fun K hK => ?_)
    have g1 := HE.out.cell
    have g2 := HE.out.frozen
    go_simp
    clear g1 g2
    have HE2 := Lib.hid (HE.out.set (.int .i64 E))
    have HG2 := Lib.hid (boxed_set2 HGD.out (k := w.heap.size + 1) (.int .i64 E) (by omega))
    refine hK.out _ _ (fun _ => ⟨HE2.out.cell, HG2.out.cell⟩) ?_
    clear hK K
    try simp only [Act.put, List.setIfInBounds_toArray, List.set_cons_zero, List.set_cons_succ]
    refine oneK 3 ⟨none, .store 3 (.tmp 3) (.tmp 17), 0, "seg.go:96", #[⟨1, .data⟩, ⟨2, .chain⟩, ⟨0, .phase⟩, ⟨1, .phase⟩, ⟨2, .phase⟩], none⟩ (by kernel_rfl) rfl (fun K hK => ?_)
    have g1 := HG2.out.cell
    have g2 := HG2.out.frozen
    go_simp
    clear g1 g2
    have HE3 := Lib.hid (boxed_set2 HE2.out (k := w.heap.size + 1 + 1) (.int .i64 (G : Int)) (by omega))
    have HG3 := Lib.hid (HG2.out.set (.int .i64 (G : Int)))
    refine hK.out _ _ (fun h => absurd rfl h) ?_
    clear hK K
    try simp only [Act.put, List.setIfInBounds_toArray, List.set_cons_zero, List.set_cons_succ]
    refine doneK (by kernel_rfl) ?_ _
    go_wp2
    have hK' := (((KeepsOthers.drew W).trans (KeepsOthers.setCell _ ⟨w.heap.size + 1, 0, none⟩ (.int .i64 E))).trans (KeepsOthers.setCell _ ⟨w.heap.size + 1 + 1, 0, none⟩ (.int .i64 (G : Int)))).same D _ HK.out rfl
    have hrow : ∀ r, some D = some r → ∃ o : Obj, ((W.drew.setCell ⟨w.heap.size + 1, 0, none⟩ (.int .i64 E)).setCell ⟨w.heap.size + 1 + 1, 0, none⟩ (.int .i64 (G : Int))).heap[r]? = some o ∧ o.isCells = false := fun r e => by cases e; exact ⟨_, hK', rfl⟩
    refine ⟨by simp, .inl ⟨_, _, rfl, run_takeDeferred hK', ?_⟩⟩
    have r1' := cell_kept HE3.out.cell (grownBy_putObj' _ D (.deferred none)) hrow
    have r1 : (((W.setCell ⟨w.heap.size + 1, 0, none⟩ (.int .i64 E)).setCell ⟨w.heap.size + 1 + 1, 0, none⟩ (.int .i64 (G : Int))).drew.putObj D (.deferred none)).cell? ⟨w.heap.size + 1, 0, none⟩ = some (.int .i64 E) := r1'
    have r2' := cell_kept HG3.out.cell (grownBy_putObj' _ D (.deferred none)) hrow
    have r2 : (((W.setCell ⟨w.heap.size + 1, 0, none⟩ (.int .i64 E)).setCell ⟨w.heap.size + 1 + 1, 0, none⟩ (.int .i64 (G : Int))).drew.putObj D (.deferred none)).cell? ⟨w.heap.size + 1 + 1, 0, none⟩ = some (.int .i64 (G : Int)) := r2'
    clear r1' r2'
    refine ⟨.tuple #[.int .i64 E, .int .i64 (G : Int)], by simp [results, Tryz.results92, go_sem, r1, r2], by rw [HEE.out, HGG.out], ?_⟩
    exact ((HBL.out.drew.setCell (by simp) _).setCell (by simp; omega) _).trans (belowK_b (w := w) (Nat.le_refl _) _ D _ _ (by omega) hK' rfl rfl)
  case stop =>
    rintro D cd pre W hD h _
    exact h.elim
theorem reach_any (A : Option Addr) (n c : Nat) (base : Int) (bs : List UInt8) (w : World) (hr : Rd w w.heap.size A n bs) (hc : n ≤ c) (hn : n ≤ 137438953472) (hI : I64 base) (ht : Tab w) :
    Calls Tryz.prog 92 #[.agg #[.int .i64 base, .slice A n c]] w fun e w' => e = .returned (.tuple #[.int .i64 (endR base (sc base bs).1), .int .i64 ((sc base bs).2 : Int)]) ∧ Below w.heap.size w w' := callsIn_wide.1 (reach_in A n c base bs w hr hc hn hI ht)
end Go.Proofs.YtejcjmiofidedaaGreatDoor.Seg

/- The contract of the landed seg.Scan: a segment's batches, and how many bytes they take. -/
namespace Go.Proofs.YtejcjmiofidedaaGreatDoor.Seg
open Go.RowKit Go.Shelf Oct Rec Crc Bat RngQ InR RowL

attribute [local go_sem] Oper.semAt_some

theorem byR_ge (l : List Bt) : l.length ≤ (byR l).length := by
  induction l with
  | nil => simp
  | cons b l ih =>
    have := byB_length b
    rw [byR_cons, List.length_append, List.length_cons]
    omega
def RSc (w : World) (l : List Bt) (good : Nat) (en : Ending) (w' : World) : Prop :=
  ∃ A1 n1 c1, en = .returned (.tuple #[.slice A1 n1 c1, .int .i64 (good : Int)]) ∧ OwnT w' 39 (fun b => w.heap.size ≤ b) w.heap.size (.slice A1 n1 c1) n1 l ∧ Below w.heap.size w w'
theorem LeadT.keptBy {W X : World} {P : Nat → Prop} {row r : Option Nat} {x : BX} (h : LeadT W P row x) (hg : W.grownBy X r) (hrow : ∀ k, r = some k → ∃ o : Obj, W.heap[k]? = some o ∧ o.isCells = false) : LeadT X P row x := by
  obtain ⟨⟨k0, k1⟩, k2, k3, k4, k5⟩ := h
  refine ⟨⟨k0, fun i r hr => ?_⟩, k2, k3, k4, k5⟩
  obtain ⟨b, o, hA, hb, c0, c1, c2, c3, c4⟩ := k1 i r hr
  have hc : ∀ j u, W.cell? ⟨b, j, none⟩ = some u → X.cell? ⟨b, j, none⟩ = some u := fun j u hu => cell_kept hu hg hrow
  exact ⟨b, o, hA, Nat.lt_of_lt_of_le hb hg.size, hc _ _ c0, hc _ _ c1, hc _ _ c2, hc _ _ c3, hc _ _ c4⟩
theorem LeadT.away {W : World} {m B : Nat} {v : Value} {x : BX} (h : LeadT W (fun b => m ≤ b) none x) (hB : B ≤ m) (hv : ∀ g, v.ownBlock = some g → g < m) : LeadT W (fun b => B ≤ b) v.ownBlock x := by
  obtain ⟨k1, k2, k3, k4, k5⟩ := h
  refine ⟨k1, k2, k3, k4, fun a ha hn => ?_⟩
  have h1 := (k5 a ha hn).1
  refine ⟨by simp only at h1 ⊢; omega, fun he => ?_⟩
  have := hv _ he.symm
  simp only at h1
  omega
theorem fits_ok {b : Bt} (h : chB b = 0) : Fits b := by
  have f := (chB_form h).1
  have hm : ∀ r ∈ b.recs, may r = true := by
    by_cases h0 : b.ctl = 0
    · exact rise_may (f.data h0)
    · rw [(f.ends h0).2.1]; simp
  obtain ⟨a0, a1, a2, a3, a4, a5, a6, a7, a8, a9, a10, a11, a12, a13, a14, a15, a16, a17, _, a18, a19, _, _⟩ := f
  refine ⟨?_, ?_, ?_, ?_, ?_, ?_, ?_, ?_, fun r hr => ?_⟩
  case refine_9 =>
    obtain ⟨m1, m2, m3, m4, _⟩ := may_iff.1 (hm r hr)
    unfold I64
    omega
  all_goals (unfold I64; omega)
theorem chB_recs {b : Bt} (h : chB b = 0) : b.recs.length ≤ 16 := by
  have f := (chB_form h).1
  by_cases h0 : b.ctl = 0
  · have h1 := f.near
    rcases rise_len (f.data h0) with e | e
    · rw [e]; simp
    · omega
  · rw [(f.ends h0).2.1]; simp
theorem lead_new {W : World} {m : Nat} {x : SX} (h : OwnR W m x.1.2.1 x.1.2.2.1 x.1.1.recs) (hc : x.1.2.2.1 ≤ x.1.2.2.2) (hb : chB x.1.1 = 0) : LeadT W (fun b => m ≤ b) none x.1 := by
  have hl := h.1.len
  have h16 := chB_recs hb
  refine ⟨h.1, hc, by omega, fits_ok hb, fun a ha hn => ⟨?_, by simp⟩⟩
  obtain ⟨b, o, r, hA, hlt, _, _⟩ := h.1.at (k := 0) hn
  rw [ha] at hA
  obtain rfl := Option.some.inj hA
  exact (h.2 b o ha hn).1
def scC (N : Nat) (pre : List SX) (W : World) : Prop :=
  (∃ A1 n1 c1, Boxed W (N + 1) 33 (.slice A1 n1 c1) ∧ n1 = pre.length ∧ OwnT W 39 (fun b => N + 4 ≤ b) (N + 4) (.slice A1 n1 c1) n1 (btsOf pre)) ∧ Boxed W (N + 2) 3 (.int .i64 ((byR (btsOf pre)).length : Int))
theorem boxed_own2 {W W' : World} {k : Nat} {t : TypeId} {v : Value} {row : Option Nat} (hv : Boxed W k t v) (hg : W.grownBy W' row) (hrow : ∀ r, row = some r → ∃ o : Obj, W.heap[r]? = some o ∧ o.isCells = false) : Boxed W' k t v := hv.kept hg fun e' => by
  obtain ⟨o, ho, hc⟩ := hrow k e'.symm
  rw [show W.heap[k]? = _ from hv] at ho; cases ho; cases hc
theorem scC_own {N : Nat} {pre : List SX} {W W' : World} {row : Option Nat} (h : scC N pre W) (hg : W.grownBy W' row) (hrow : ∀ r, row = some r → ∃ o : Obj, W.heap[r]? = some o ∧ o.isCells = false) : scC N pre W' := by
  obtain ⟨⟨A1, n1, c1, h1, h2, h3⟩, h4⟩ := h
  exact ⟨⟨A1, n1, c1, boxed_own2 h1 hg hrow, h2, OwnT.keptBy h3 hg hrow⟩, boxed_own2 h4 hg hrow⟩
def scA (base : Int) (bs : List UInt8) (N : Nat) (m0 : Nat) (pre : List SX) (x : SX) (W1 : World) (Bx : Nat) (W : World) : Prop :=
  (∃ A1 n1 c1, Boxed W (N + 1) 33 (.slice A1 n1 c1) ∧ n1 = pre.length ∧ OwnT W 39 (fun b => N + 4 ≤ b) (N + 4) (.slice A1 n1 c1) n1 (btsOf pre) ∧ ∀ g, (Value.slice A1 n1 c1).ownBlock = some g → g < W1.heap.size) ∧
    Boxed W (N + 2) 3 (.int .i64 ((byR (btsOf pre)).length : Int)) ∧ LeadT W (fun b => W1.heap.size ≤ b) none x.1 ∧ W1.heap.size ≤ Bx ∧ BoxT W Bx 39 x.1 ∧ NextQ base bs pre x ∧ m0 ≤ W1.heap.size
theorem scA_own {base : Int} {bs : List UInt8} {N m0 Bx : Nat} {pre : List SX} {x : SX} {W1 W W' : World} {row : Option Nat} (h : scA base bs N m0 pre x W1 Bx W) (hg : W.grownBy W' row) (hrow : ∀ r, row = some r → ∃ o : Obj, W.heap[r]? = some o ∧ o.isCells = false) : scA base bs N m0 pre x W1 Bx W' := by
  obtain ⟨⟨A1, n1, c1, h1, h2, h3, h4⟩, h5, h6, h7, h8, h9⟩ := h
  exact ⟨⟨A1, n1, c1, boxed_own2 h1 hg hrow, h2, OwnT.keptBy h3 hg hrow, h4⟩, boxed_own2 h5 hg hrow, LeadT.keptBy h6 hg hrow, h7, h8.keptBy hg hrow, h9⟩
set_option maxRecDepth 100000 in
set_option maxHeartbeats 4000000 in
theorem Scan_in (A : Option Addr) (n c : Nat) (base : Int) (bs : List UInt8) (w : World) (hr : Rd w w.heap.size A n bs) (hc : n ≤ c) (hn : n ≤ 137438953472) (hI : I64 base) (ht : Tab w) :
    CallsIn Fence.wide 6 Tryz.prog 43 #[.agg #[.int .i64 base, .slice A n c]] w (RSc w (sc base bs).1 (sc base bs).2) := by
  have HR := Lib.hid hr
  have HT := Lib.hid ht
  have HLEN := Lib.hid hr.len
  clear hr ht
  refine callsIn_of_wp_marks Tryz.func43 rfl trivial ?_ rfl
  simp only [Tryz.ntmps43, List.size_toArray, List.length_cons, List.length_nil, Nat.reduceAdd, Nat.reduceSub, Array.replicate_succ, Array.replicate_zero, List.push_toArray, List.append_toArray, List.nil_append, List.cons_append]
  refine wpIn_wide.2 ?_
  go_wp2_with (go_at_call 80; (with_reducible refine (batches_any A n c base _).mono ?_); rintro e w' ⟨rfl, rfl⟩)
  generalize hw0 : ((((w.alloc (.cells #[.int .i64 base, .slice A n c] 59)).alloc (.cells #[.slice none 0 0] 33)).alloc (.cells #[.int .i64 0] 3)).alloc (.cells #[.int .i64 base, .slice A n c] 59)) = W0
  have hsz : W0.heap.size = w.heap.size + 4 := by rw [← hw0]; simp
  have hB0 : Below w.heap.size w W0 := by rw [← hw0]; exact bel_alloc (bel_alloc (bel_alloc (bel_alloc (Below.refl _ _) _) _) _) _
  have hC0 : scC w.heap.size [] W0 := by
    rw [← hw0]
    refine ⟨⟨none, 0, 0, ?_, rfl, OwnT.nil⟩, ?_⟩
    · have h := Boxed.new (w.alloc (.cells #[.int .i64 base, .slice A n c] 59)) 33 (.slice none 0 0)
      simp only [World.size_alloc] at h
      exact (h.alloc _).alloc _
    · have h := Boxed.new ((w.alloc (.cells #[.int .i64 base, .slice A n c] 59)).alloc (.cells #[.slice none 0 0] 33)) 3 (.int .i64 0)
      simp only [World.size_alloc] at h
      exact h.alloc _
  have hS0 : W0.heap[w.heap.size + 1 + 1 + 1]? = some (.cells #[.int .i64 base, .slice A n c] 59 (0, 0)) := by
    rw [← hw0]
    have h := World.alloc_heap_new (((w.alloc (.cells #[.int .i64 base, .slice A n c] 59)).alloc (.cells #[.slice none 0 0] 33)).alloc (.cells #[.int .i64 0] 3)) (.cells #[.int .i64 base, .slice A n c] 59 (0, 0))
    simp only [World.size_alloc] at h
    exact h
  clear hw0
  have hK9 : ∀ k, SegK w.heap.size (w.heap.size + 1 + 1 + 1) k → k < W0.heap.size := fun k h => by rcases h with h | h <;> omega
  have hnt := HT.out.pos
  refine (wpIn_wide (n := 6)).1 ?_
  refine wpIn_rangeQ (F := Fence.wide) rfl (by omega) (gf := 105) (lb := #[.pointer (some ⟨w.heap.size + 1 + 1 + 1, 0, none⟩)]) rfl trivial (enters_of Tryz.func105 (by kernel_rfl) rfl)
    (batches_seq (6 - 1) (by omega) (w.heap.size + 1 + 1 + 1) w.heap.size A n c base bs hc hn hI W0 hB0.size (by omega) (by rw [cell_of_row _ _ _ _ _ _ hS0]; rfl) (by rw [cell_of_row _ _ _ _ _ _ hS0]; rfl) (HR.out.below hB0 (Nat.le_refl _)) (HT.out.bel hB0) hnt)
    hK9 (Below.refl _ _) (fun _ => rfl)
    (fun pre W => scC w.heap.size pre W ∧ Below w.heap.size w W) (fun _ _ _ => False)
    (OwnFrom.and (Own.from (I := fun (pre : List SX) W => scC w.heap.size pre W) (fun s X Y row hs hg hrow => scC_own (pre := s) hs hg hrow) _) (ownFrom_below (Nat.le_refl _) hB0.size))
    (fun _ s X Y row hs _ _ => hs) ⟨hC0, hB0⟩
    (fun pre x W1 a' W => (∃ Bx, scA base bs w.heap.size W0.heap.size pre x W1 Bx W ∧ a' = { tmps := #[.agg #[.int .i64 base, .slice A n c], .pointer (some ⟨w.heap.size, 0, none⟩), .pointer (some ⟨w.heap.size + 1, 0, none⟩), .pointer (some ⟨w.heap.size + 1 + 1, 0, none⟩), .pointer (some ⟨Bx, 0, none⟩), .int .i64 (x.2 : Int), .agg #[.int .i64 base, .slice A n c], .func (.func 105) #[] #[.pointer (some ⟨w.heap.size + 1 + 1 + 1, 0, none⟩)], (encS x)[0]!, .int .i64 (x.2 : Int), undef, undef, undef, undef, undef, undef, undef], defers := [] }) ∧ Below w.heap.size w W)
    (fun pre x W1 a' => OwnFrom.and (Own.from (I := fun (_ : Unit) W => ∃ Bx, scA base bs w.heap.size W0.heap.size pre x W1 Bx W ∧ a' = _) (fun s X Y row hs hg hrow => by obtain ⟨Bx, h1, h2⟩ := hs; exact ⟨Bx, scA_own h1 hg hrow, h2⟩) _) (ownFrom_below (Nat.le_refl _) hB0.size))
    ?assign ?body ?done ?stop
  case assign =>
    rintro l pre ⟨⟨⟨ba, la, fr, ep, pi, ge, se, tx, ct, rs⟩, A1, n1, c1⟩, kn⟩ W1 W G hs1 ⟨⟨⟨A9, n9, c9, hb9, hn9, ho9⟩, hgd⟩, hB⟩ hbel hq hG
    dsimp only [encS]
    gi_wp2
    have hbel2 : Below W1.heap.size W1 (W.alloc (.cells #[.int .i64 ba, .int .i64 la, .int .i64 fr, .int .i64 ep, .int .i64 pi, .int .i64 ge, .int .i64 se, .bool tx, .int .i64 ct, .slice A1 n1 c1] 39)) := bel_alloc hbel _
    exact hG _ _ ((KeepsOthers.alloc _ _).from _) ((KeptQ.refl _ _ _).alloc _) ⟨⟨W.heap.size, ⟨⟨A9, n9, c9, boxed_below hb9 hbel2, hn9, OwnT.below ho9 hbel2, fun g hg => (OwnT.lt ho9 g hg).2⟩, boxed_below hgd hbel2, (lead_new hq.2.2.2.2.2 hq.2.2.2.2.1 hq.2.2.2.1).below (bel_alloc (Below.refl _ _) _), hbel.size, BoxT.new W _ (⟨ba, la, fr, ep, pi, ge, se, tx, ct, rs⟩, A1, n1, c1), next_of hq, hs1⟩, rfl⟩, (hB.trans (hbel.mono (by have := hB.size; omega))).alloc (by have := hB.size; have := hbel.size; omega) _⟩
  case body =>
    rintro l pre ⟨⟨⟨ba, la, fr, ep, pi, ge, se, tx, ct, rs⟩, A1, n1, c1⟩, kn⟩ W1 a' W ⟨⟨Bx, ⟨⟨A9, n9, c9, hb9, hn9, ho9, hg9⟩, hGd, hL, hBx, hT, hq, hs1⟩, rfl⟩, hB⟩
    have HQ := Lib.hid hq
    obtain ⟨x0, x1, x2, x3, x4, x5, x6, x7, x8, x9⟩ := hT.box
    have hBs := hB.size
    have hsmall : n9 < 1099511627776 := by
      have h1 := byR_ge (btsOf pre ++ [⟨ba, la, fr, ep, pi, ge, se, tx, ct, rs⟩])
      have h2 := hq.2.2.1
      have h3 := hq.2.1
      have h4 := HLEN.out
      have h5 : (btsOf pre).length = pre.length := by unfold btsOf; rw [List.length_map]
      rw [List.length_append, h5] at h1
      simp only [List.length_singleton] at h1 h2 h3
      omega
    have hc9 := hb9.cell
    have hBw : w.heap.size + 4 ≤ W.heap.size := by have := hT.lt; omega
    obtain ⟨A2, c2, w2, hrun, ho2, hg2, hat2, hbel2⟩ := run_appT (P := Tryz.prog) (w.heap.size + 4) 33 33 39 Tryz.underlying33 batInfo ho9 (x := (⟨ba, la, fr, ep, pi, ge, se, tx, ct, rs⟩, A1, n1, c1)) (LeadT.away hL (by omega) hg9) hsmall hBw
    dsimp only [batC] at hrun hg2
    have hrow9 : ∀ k, (Value.slice A9 n9 c9).ownBlock = some k → ¬ SegK w.heap.size (w.heap.size + 1 + 1 + 1) k ∧ k < W1.heap.size := fun k hk => ⟨by have := (OwnT.lt ho9 k hk).1; simp only [SegK]; omega, hg9 k hk⟩
    have hne : ∀ k, k < w.heap.size + 4 → some k ≠ (Value.slice A9 n9 c9).ownBlock := fun k hk he => by have := (OwnT.lt ho9 k he.symm).1; omega
    have b1 := (hb9.alloc (.cells #[.int .i64 ba, .int .i64 la, .int .i64 fr, .int .i64 ep, .int .i64 pi, .int .i64 ge, .int .i64 se, .bool tx, .int .i64 ct, .slice A1 n1 c1] 39)).kept hg2 (hne _ (by omega))
    have b2 := (hGd.alloc (.cells #[.int .i64 ba, .int .i64 la, .int .i64 fr, .int .i64 ep, .int .i64 pi, .int .i64 ge, .int .i64 se, .bool tx, .int .i64 ct, .slice A1 n1 c1] 39)).kept hg2 (hne _ (by omega))
    have f1 := b1.frozen
    have d1 := b1.cell
    have f2 := b2.frozen
    have d2 := b2.cell
    have hkq := ((KeptQ.refl (SegK w.heap.size (w.heap.size + 1 + 1 + 1)) W1.heap.size W).alloc (.cells #[.int .i64 ba, .int .i64 la, .int .i64 fr, .int .i64 ep, .int .i64 pi, .int .i64 ge, .int .i64 se, .bool tx, .int .i64 ct, .slice A1 n1 c1] 39)).grown hg2 hrow9
    have hko := (KeepsOthers.alloc W (.cells #[.int .i64 ba, .int .i64 la, .int .i64 fr, .int .i64 ep, .int .i64 pi, .int .i64 ge, .int .i64 se, .bool tx, .int .i64 ct, .slice A1 n1 c1] 39)).trans (KeepsOthers.of_grownBy hg2 (OwnT.cells (ho9.alloc _)))
    have HKQ := Lib.hid hkq
    have HKO := Lib.hid hko
    have HO2 := Lib.hid ho2
    have HB2 := Lib.hid (hB.trans (hbel2.mono (by omega)))
    have HX1 := Lib.hid b1
    have HX2 := Lib.hid b2
    have HN9 := Lib.hid hn9
    have hw2 := hbel2.size
    clear hq hkq hko ho2 b1 b2 hn9 hg2 hat2 hbel2 hne hrow9 ho9 hL hb9 hGd hB
    gi_wp2_with (gi_at_builtin; refine wpListIn_app_run rfl _ _ 33 rfl rfl rfl hrun ?_)
    refine ⟨((HKO.out.trans (KeepsOthers.setCell _ _ _)).trans (KeepsOthers.setCell _ _ _)).from _, (HKQ.out.set (p := ⟨w.heap.size + 1, 0, none⟩) ?_ (by simp only; omega) _).set (p := ⟨w.heap.size + 1 + 1, 0, none⟩) ?_ (by simp only; omega) _, ⟨⟨A2, n9 + 1, c2, ?_, ?_, ?_⟩, ?_⟩, (HB2.out.setCell (by simp) _).setCell (by simp; omega) _⟩
    · simp only [SegK]; omega
    · simp only [SegK]; omega
    · exact boxed_set2 (HX1.out.set _) _ (by omega)
    · rw [List.length_append, List.length_singleton, HN9.out]
    · rw [btsOf_snoc]
      exact (HO2.out.set (by simp only; omega) (by simp only; omega) _).set (by simp only; omega) (by simp only; omega) _
    · rw [btsOf_snoc, ← HQ.out.2.1]
      exact (boxed_set2 HX2.out _ (by omega)).set _
  case done =>
    rintro D ys W hD hys ⟨⟨⟨A9, n9, c9, hb9, hn9, ho9⟩, hGd⟩, hB⟩ hK
    have hsc := (sc_good base bs).2.1
    rw [hys] at ho9 hGd
    rw [← hsc] at hGd
    obtain ⟨G, hGG⟩ : ∃ G, G = (sc base bs).2 := ⟨_, rfl⟩
    rw [← hGG] at hGd
    have HGG := Lib.hid hGG
    clear hsc hys hGG hn9
    have hmx : Tryz.prog.follows .mixedOrders = true := by kernel_rfl
    have HS := Lib.hid (show (fun W9 : World => W9.cell? ⟨w.heap.size + 1, 0, none⟩ = some (.slice A9 n9 c9) ∧ W9.cell? ⟨w.heap.size + 1 + 1, 0, none⟩ = some (.int .i64 (G : Int))) W.drew from ⟨hb9.cell, hGd.cell⟩)
    have HE := Lib.hid hb9
    have HO := Lib.hid ho9
    have HGD := Lib.hid hGd
    have HBL := Lib.hid hB
    have HK := Lib.hid hK
    clear hb9 ho9 hGd hB hK
    go_wp2
    refine InR.region_plain (fun W9 : World => W9.cell? ⟨w.heap.size + 1, 0, none⟩ = some (.slice A9 n9 c9) ∧ W9.cell? ⟨w.heap.size + 1 + 1, 0, none⟩ = some (.int .i64 (G : Int))) 3 hmx ?_
    refine takeK 0 ⟨some 15, .load 33 (.tmp 2), 33, "seg.go:33", #[], none⟩ ?_ rfl (by kernel_rfl) (by kernel_rfl) (by kernel_rfl) (by kernel_rfl) (by rfl) ?_ HS.out ?_
    rotate_left
    · intro w9 hS9; have hS0 := hS9.1; have hS1 := hS9.2; clear hS9; go_simp; (first | done | with_reducible rfl)
    try simp only [Act.put, List.setIfInBounds_toArray, List.set_cons_zero, List.set_cons_succ]
    refine takeK 1 ⟨some 16, .load 3 (.tmp 3), 3, "seg.go:33", #[], none⟩ ?_ rfl (by kernel_rfl) (by kernel_rfl) (by kernel_rfl) (by kernel_rfl) (by rfl) ?_ HS.out ?_
    rotate_left
    · intro w9 hS9; have hS0 := hS9.1; have hS1 := hS9.2; clear hS9; go_simp; (first | done | with_reducible rfl)
    try simp only [Act.put, List.setIfInBounds_toArray, List.set_cons_zero, List.set_cons_succ]
    refine oneK 2 ⟨none, .store 33 (.tmp 2) (.tmp 15), 0, "seg.go:33", #[⟨0, .data⟩, ⟨0, .phase⟩, { on := 1, ground := Ground.textOnly Departure.inlinedCapture }], none⟩ (by kernel_rfl) rfl (fun K hK => ?_)
    have g1 := HE.out.cell
    have g2 := HE.out.frozen
    go_simp
    clear g1 g2
    have HE2 := Lib.hid (HE.out.set (.slice A9 n9 c9))
    have HG2 := Lib.hid (boxed_set2 HGD.out (k := w.heap.size + 1) (.slice A9 n9 c9) (by omega))
    refine hK.out _ _ (fun _ => ⟨HE2.out.cell, HG2.out.cell⟩) ?_
    clear hK K
    try simp only [Act.put, List.setIfInBounds_toArray, List.set_cons_zero, List.set_cons_succ]
    refine oneK 3 ⟨none, .store 3 (.tmp 3) (.tmp 16), 0, "seg.go:33", #[⟨1, .data⟩, ⟨2, .chain⟩, ⟨0, .phase⟩, ⟨1, .phase⟩, ⟨2, .phase⟩], none⟩ (by kernel_rfl) rfl (fun K hK => ?_)
    have g1 := HG2.out.cell
    have g2 := HG2.out.frozen
    go_simp
    clear g1 g2
    have HE3 := Lib.hid (boxed_set2 HE2.out (k := w.heap.size + 1 + 1) (.int .i64 (G : Int)) (by omega))
    have HG3 := Lib.hid (HG2.out.set (.int .i64 (G : Int)))
    refine hK.out _ _ (fun h => absurd rfl h) ?_
    clear hK K
    try simp only [Act.put, List.setIfInBounds_toArray, List.set_cons_zero, List.set_cons_succ]
    refine doneK (by kernel_rfl) ?_ _
    go_wp2
    have hK' := (((KeepsOthers.drew W).trans (KeepsOthers.setCell _ ⟨w.heap.size + 1, 0, none⟩ (.slice A9 n9 c9))).trans (KeepsOthers.setCell _ ⟨w.heap.size + 1 + 1, 0, none⟩ (.int .i64 (G : Int)))).same D _ HK.out rfl
    have hrow : ∀ r, some D = some r → ∃ o : Obj, ((W.drew.setCell ⟨w.heap.size + 1, 0, none⟩ (.slice A9 n9 c9)).setCell ⟨w.heap.size + 1 + 1, 0, none⟩ (.int .i64 (G : Int))).heap[r]? = some o ∧ o.isCells = false := fun r e => by cases e; exact ⟨_, hK', rfl⟩
    refine ⟨by simp, .inl ⟨_, _, rfl, run_takeDeferred hK', ?_⟩⟩
    have r1' := cell_kept HE3.out.cell (grownBy_putObj' _ D (.deferred none)) hrow
    have r1 : (((W.setCell ⟨w.heap.size + 1, 0, none⟩ (.slice A9 n9 c9)).setCell ⟨w.heap.size + 1 + 1, 0, none⟩ (.int .i64 (G : Int))).drew.putObj D (.deferred none)).cell? ⟨w.heap.size + 1, 0, none⟩ = some (.slice A9 n9 c9) := r1'
    have r2' := cell_kept HG3.out.cell (grownBy_putObj' _ D (.deferred none)) hrow
    have r2 : (((W.setCell ⟨w.heap.size + 1, 0, none⟩ (.slice A9 n9 c9)).setCell ⟨w.heap.size + 1 + 1, 0, none⟩ (.int .i64 (G : Int))).drew.putObj D (.deferred none)).cell? ⟨w.heap.size + 1 + 1, 0, none⟩ = some (.int .i64 (G : Int)) := r2'
    clear r1' r2'
    refine ⟨.tuple #[.slice A9 n9 c9, .int .i64 (G : Int)], by simp [results, Tryz.results43, go_sem, r1, r2], A9, n9, c9, by rw [HGG.out], ?_, ?_⟩
    · exact (OwnT.keptBy ((HO.out.drew.set (p := ⟨w.heap.size + 1, 0, none⟩) (by simp only; omega) (by simp only; omega) _).set (p := ⟨w.heap.size + 1 + 1, 0, none⟩) (by simp only; omega) (by simp only; omega) _) (grownBy_putObj' _ D (.deferred none)) hrow).more (by omega) (fun b hb => by omega)
    · exact ((HBL.out.drew.setCell (by simp) _).setCell (by simp; omega) _).trans (belowK_b (w := w) (Nat.le_refl _) _ D _ _ (by omega) hK' rfl rfl)
  case stop =>
    rintro D cd pre W hD h _
    exact h.elim
end Go.Proofs.YtejcjmiofidedaaGreatDoor.Seg

/- The document's SameAll of batches, Same and Few of segments. -/
namespace Go.Proofs.YtejcjmiofidedaaGreatDoor.Seg
open Go.RowKit Oct Rec Crc Bat

theorem refSameS_is (b1 : Int) (A1 : Option Addr) (n1 c1 : Nat) (b2 : Int) (A2 : Option Addr) (n2 c2 : Nat) (l1 l2 : List UInt8) (w : World) (h1 : Rd w w.heap.size A1 n1 l1) (h2 : Rd w w.heap.size A2 n2 l2) {z : Bool} (hz : (decide (b1 = b2) && sameB l1 l2) = z) :
    Calls Tryz.prog 57 #[.agg #[.int .i64 b1, .slice A1 n1 c1], .agg #[.int .i64 b2, .slice A2 n2 c2]] w fun e w' => e = .returned (.bool z) ∧ Below w.heap.size w w' := by
  have H1 := Lib.hid ((h1.alloc (Nat.le_refl _) (.cells #[.int .i64 b1, .slice A1 n1 c1] 59)).alloc (by simp) (.cells #[.int .i64 b2, .slice A2 n2 c2] 59))
  have H2 := Lib.hid ((h2.alloc (Nat.le_refl _) (.cells #[.int .i64 b1, .slice A1 n1 c1] 59)).alloc (by simp) (.cells #[.int .i64 b2, .slice A2 n2 c2] 59))
  clear h1 h2
  by_cases hb : b1 = b2
  · subst hb
    have HZ := Lib.hid (show sameB l1 l2 = z by rw [← hz]; simp)
    clear hz
    go_enter Tryz.func57, Tryz.ntmps57
    go_wp2_with (go_at_call 88; refine (Same_any _ _ _ _ _ _ l1 l2 _ _ _ H1.out H2.out).mono ?_; rw [HZ.out]; rintro e w' ⟨rfl, rfl⟩)
    go_ret
    exact ⟨rfl, bel_alloc (bel_alloc (Below.refl _ _) _) _⟩
  · have HZ := Lib.hid (show z = false by rw [← hz]; simp [hb])
    have hq : (b1 == b2) = false := beq_false_of_ne hb
    clear hz hb
    go_enter Tryz.func57, Tryz.ntmps57
    go_wp2
    go_ret
    exact ⟨by rw [HZ.out]; rfl, bel_alloc (bel_alloc (Below.refl _ _) _) _⟩
end Go.Proofs.YtejcjmiofidedaaGreatDoor.Seg
