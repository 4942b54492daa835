/- Joined: SegC, SegWC. -/
import Derived.Test.YtejcjmiofidedaaGreatDoorJSegS
import Derived.Test.YtejcjmiofidedaaGreatDoorSegF
import Derived.Test.YtejcjmiofidedaaGreatDoorSegAt
import Derived.Test.YtejcjmiofidedaaGreatDoorJSegW
/- The contract of the landed seg.Cut. -/
namespace Go.Proofs.YtejcjmiofidedaaGreatDoor.Seg
open Go.RowKit Go.Shelf Oct Rec Crc Bat RngQ InR RowL

attribute [local go_sem] Oper.semAt_some

theorem ahead_stop {off : Int} {p rest : List Bt} {x : Bt} (hp : ∀ b ∈ p, b.last < off) (hx : off ≤ x.last) : ahead off (p ++ x :: rest) = p := by
  induction p with
  | nil => show (if off ≤ x.last then [] else _) = []; rw [if_pos hx]
  | cons b p ih =>
    have h1 := hp b (by simp)
    show (if off ≤ b.last then [] else b :: ahead off (p ++ x :: rest)) = b :: p
    rw [if_neg (by omega), ih fun c hc => hp c (by simp [hc])]
theorem ahead_all {off : Int} {p : List Bt} (hp : ∀ b ∈ p, b.last < off) : ahead off p = p := by
  induction p with
  | nil => rfl
  | cons b p ih =>
    have h1 := hp b (by simp)
    show (if off ≤ b.last then [] else b :: ahead off p) = b :: p
    rw [if_neg (by omega), ih fun c hc => hp c (by simp [hc])]
theorem take_byR {base : Int} {bs : List UInt8} {p rest : List Bt} (h : (sc base bs).1 = p ++ rest) : bs.take (byR p).length = byR p ∧ (byR p).length ≤ bs.length := by
  obtain ⟨_, _, h3, _, _⟩ := sc_good base bs
  rw [h, byR_app, List.append_assoc] at h3
  have h4 := congrArg (List.take (byR p).length) h3
  rw [List.take_left] at h4
  refine ⟨h4, ?_⟩
  have h5 := congrArg List.length h3
  rw [List.length_append] at h5
  omega
def cuC (base off : Int) (A : Option Addr) (n c N : Nat) (pre : List SX) (W : World) : Prop :=
  At0 W N [.int .i64 base, .slice A n c] 59 ∧ At0 W (N + 1) [.int .i64 off] 3 ∧ At0 W (N + 1 + 1) [.int .i64 0, .slice none 0 0] 59 ∧ Boxed W (N + 1 + 1 + 1) 3 (.int .i64 ((byR (btsOf pre)).length : Int)) ∧ (∀ b ∈ btsOf pre, b.last < off)
theorem cuC_own {base off : Int} {A : Option Addr} {n c N : Nat} {pre : List SX} {W X : World} {row : Option Nat} (h : cuC base off A n c N pre W) (hg : W.grownBy X row) (hrow : ∀ r, row = some r → ∃ o : Obj, W.heap[r]? = some o ∧ o.isCells = false) : cuC base off A n c N pre X :=
  ⟨h.1.keptBy hg hrow, h.2.1.keptBy hg hrow, h.2.2.1.keptBy hg hrow, boxed_own2 h.2.2.2.1 hg hrow, h.2.2.2.2⟩
def cuX (base off : Int) (bs : List UInt8) (A : Option Addr) (n c N : Nat) (cd : Code) (pre : List SX) (W : World) : Prop :=
  cd = .exit 0 ∧ ∃ p x, pre = p ++ [x] ∧ cuC base off A n c N p W ∧ off ≤ x.1.1.last ∧ NextQ base bs p x
def cuA (base off : Int) (bs : List UInt8) (A : Option Addr) (n c N m0 : Nat) (pre : List SX) (x : SX) (W1 : World) (Bx : Nat) (W : World) : Prop :=
  cuC base off A n c N pre W ∧ W1.heap.size ≤ Bx ∧ BoxT W Bx 39 x.1 ∧ NextQ base bs pre x ∧ m0 ≤ W1.heap.size
set_option maxRecDepth 100000 in
set_option maxHeartbeats 4000000 in
theorem Cut_in (A : Option Addr) (n c : Nat) (base off : Int) (bs : List UInt8) (w : World) (hr : Rd w w.heap.size A n bs) (hc : n ≤ c) (hn : n ≤ 137438953472) (hI : I64 base) (ht : Tab w) :
    CallsIn Fence.wide 6 Tryz.prog 68 #[.agg #[.int .i64 base, .slice A n c], .int .i64 off] w (RSg w (cutS ⟨base, bs⟩ off)) := by
  have HR := Lib.hid hr
  have HT := Lib.hid ht
  have HLEN := Lib.hid hr.len
  clear hr ht
  refine callsIn_of_wp_marks Tryz.func68 rfl trivial ?_ rfl
  simp only [Tryz.ntmps68, List.size_toArray, List.length_cons, List.length_nil, Nat.reduceAdd, Nat.reduceSub, Array.replicate_succ, Array.replicate_zero, List.push_toArray, List.append_toArray, List.nil_append, List.cons_append]
  refine wpIn_wide.2 ?_
  go_wp2_with (go_at_call 80; (with_reducible refine (batches_any A n c base _).mono ?_); rintro e w' ⟨rfl, rfl⟩)
  generalize hw0 : (((((w.alloc (.cells #[.int .i64 base, .slice A n c] 59)).alloc (.cells #[.int .i64 off] 3)).alloc (.cells #[.int .i64 0, .slice none 0 0] 59)).alloc (.cells #[.int .i64 0] 3)).alloc (.cells #[.int .i64 base, .slice A n c] 59)) = W0
  have hsz : W0.heap.size = w.heap.size + 5 := by rw [← hw0]; simp
  have hB0 : Below w.heap.size w W0 := by rw [← hw0]; exact bel_alloc (bel_alloc (bel_alloc (bel_alloc (bel_alloc (Below.refl _ _) _) _) _) _) _
  have hC0 : cuC base off A n c w.heap.size [] W0 := by
    rw [← hw0]
    refine ⟨?_, ?_, ?_, ?_, by simp [btsOf]⟩
    · exact ((((At0.new w [.int .i64 base, .slice A n c] 59).alloc _).alloc _).alloc _).alloc _
    · have h := At0.new (w.alloc (.cells #[.int .i64 base, .slice A n c] 59)) [.int .i64 off] 3
      simp only [World.size_alloc] at h
      exact ((h.alloc _).alloc _).alloc _
    · have h := At0.new ((w.alloc (.cells #[.int .i64 base, .slice A n c] 59)).alloc (.cells #[.int .i64 off] 3)) [.int .i64 0, .slice none 0 0] 59
      simp only [World.size_alloc] at h
      exact (h.alloc _).alloc _
    · have h := Boxed.new (((w.alloc (.cells #[.int .i64 base, .slice A n c] 59)).alloc (.cells #[.int .i64 off] 3)).alloc (.cells #[.int .i64 0, .slice none 0 0] 59)) 3 (.int .i64 0)
      simp only [World.size_alloc] at h
      exact h.alloc _
  have hS0 : At0 W0 (w.heap.size + 1 + 1 + 1 + 1) [.int .i64 base, .slice A n c] 59 := by
    rw [← hw0]
    have h := At0.new ((((w.alloc (.cells #[.int .i64 base, .slice A n c] 59)).alloc (.cells #[.int .i64 off] 3)).alloc (.cells #[.int .i64 0, .slice none 0 0] 59)).alloc (.cells #[.int .i64 0] 3)) [.int .i64 base, .slice A n c] 59
    simp only [World.size_alloc] at h
    exact h
  clear hw0
  have hK9 : ∀ k, SegK w.heap.size (w.heap.size + 1 + 1 + 1 + 1) k → k < W0.heap.size := fun k h => by rcases h with h | h <;> omega
  have hnt := HT.out.pos
  refine (wpIn_wide (n := 6)).1 ?_
  refine wpIn_rangeQ (F := Fence.wide) rfl (by omega) (gf := 105) (lb := #[.pointer (some ⟨w.heap.size + 1 + 1 + 1 + 1, 0, none⟩)]) rfl trivial (enters_of Tryz.func105 (by kernel_rfl) rfl)
    (batches_seq (6 - 1) (by omega) (w.heap.size + 1 + 1 + 1 + 1) w.heap.size A n c base bs hc hn hI W0 hB0.size (by omega) (hS0.cell 0) (hS0.cell 1) (HR.out.below hB0 (Nat.le_refl _)) (HT.out.bel hB0) hnt)
    hK9 (Below.refl _ _) (fun _ => rfl)
    (fun pre W => cuC base off A n c w.heap.size pre W ∧ Below w.heap.size w W) (fun cd pre W => cuX base off bs A n c w.heap.size cd pre W ∧ Below w.heap.size w W)
    (OwnFrom.and (Own.from (I := fun (pre : List SX) W => cuC base off A n c w.heap.size pre W) (fun s X Y row hs hg hrow => cuC_own (pre := s) hs hg hrow) _) (ownFrom_below (Nat.le_refl _) hB0.size))
    (fun cd => OwnFrom.and (Own.from (I := fun (pre : List SX) W => cuX base off bs A n c w.heap.size cd pre W) (fun s X Y row hs hg hrow => by obtain ⟨h1, p, x, h2, h3, h4⟩ := hs; exact ⟨h1, p, x, h2, cuC_own h3 hg hrow, h4⟩) _) (ownFrom_below (Nat.le_refl _) hB0.size)) ⟨hC0, hB0⟩
    (fun pre x W1 a' W => (∃ Bx, cuA base off bs A n c w.heap.size W0.heap.size pre x W1 Bx W ∧ a' = { tmps := #[.agg #[.int .i64 base, .slice A n c], .int .i64 off, .pointer (some ⟨w.heap.size, 0, none⟩), .pointer (some ⟨w.heap.size + 1, 0, none⟩), .pointer (some ⟨w.heap.size + 1 + 1, 0, none⟩), .pointer (some ⟨w.heap.size + 1 + 1 + 1, 0, none⟩), .pointer (some ⟨Bx, 0, none⟩), .int .i64 (x.2 : Int), .agg #[.int .i64 base, .slice A n c], .func (.func 105) #[] #[.pointer (some ⟨w.heap.size + 1 + 1 + 1 + 1, 0, none⟩)], (encS x)[0]!, .int .i64 (x.2 : Int), undef, undef, undef, undef, undef, undef, undef, undef], defers := [] }) ∧ Below w.heap.size w W)
    (fun pre x W1 a' => OwnFrom.and (Own.from (I := fun (_ : Unit) W => ∃ Bx, cuA base off bs A n c w.heap.size W0.heap.size pre x W1 Bx W ∧ a' = _) (fun s X Y row hs hg hrow => by obtain ⟨Bx, ⟨h1, h2, h3, h4⟩, h5⟩ := hs; exact ⟨Bx, ⟨cuC_own h1 hg hrow, h2, h3.keptBy hg hrow, h4⟩, h5⟩) _) (ownFrom_below (Nat.le_refl _) hB0.size))
    ?assign ?body ?done ?stop
  case assign =>
    rintro l pre ⟨⟨⟨ba, la, fr, ep, pi, ge, se, tx, ct, rs⟩, A1, n1, c1⟩, kn⟩ W1 W G hs1 ⟨hC, hB⟩ hbel hq hG
    dsimp only [encS]
    gi_wp2
    exact hG _ _ ((KeepsOthers.alloc _ _).from _) ((KeptQ.refl _ _ _).alloc _) ⟨⟨W.heap.size, ⟨cuC_own hC (grownBy_of (bel_alloc hbel _)) (fun r e => by cases e), hbel.size, BoxT.new W _ (⟨ba, la, fr, ep, pi, ge, se, tx, ct, rs⟩, A1, n1, c1), next_of hq, hs1⟩, rfl⟩, (hB.trans (hbel.mono (by have := hB.size; omega))).alloc (by have := hB.size; have := hbel.size; omega) _⟩
  case body =>
    rintro l pre ⟨⟨⟨ba, la, fr, ep, pi, ge, se, tx, ct, rs⟩, A1, n1, c1⟩, kn⟩ W1 a' W ⟨⟨Bx, ⟨⟨h0, h1, h2, h3, h4⟩, hBx, hT, hq, hs1⟩, rfl⟩, hB⟩
    have HQ := Lib.hid hq
    obtain ⟨x0, x1, x2, x3, x4, x5, x6, x7, x8, x9⟩ := hT.box
    have g1 : W.cell? ⟨w.heap.size + 1, 0, none⟩ = some (.int .i64 off) := h1.cell 0
    have g3 := h3.cell
    have g4 := h3.frozen
    have hBs := hB.size
    have H4 := Lib.hid h4
    clear hq h4
    by_cases hlo : off ≤ la
    · gi_wp2
      exact ⟨(KeepsOthers.refl _).from _, ⟨rfl, pre, _, rfl, ⟨h0, h1, h2, h3, H4.out⟩, hlo, HQ.out⟩, hB⟩
    · gi_wp2
      refine ⟨(KeepsOthers.setCell _ _ _).from _, (KeptQ.refl _ _ _).set (p := ⟨w.heap.size + 1 + 1 + 1, 0, none⟩) ?_ (by simp only; omega) _, ⟨h0.set (by simp only; omega) _, h1.set (by simp only; omega) _, h2.set (by simp only; omega) _, ?_, ?_⟩, hB.setCell (by simp only; omega) _⟩
      · simp only [SegK]; omega
      · rw [btsOf_snoc, ← HQ.out.2.1]
        exact h3.set _
      · rw [btsOf_snoc]
        intro b hb
        rcases List.mem_append.1 hb with h9 | h9
        · exact H4.out b h9
        · obtain rfl : b = _ := by simpa using h9
          simp only; omega
  case done =>
    rintro D ys W hD hys ⟨⟨h0, h1, h2, h3, h4⟩, hB⟩ hK
    have hcut := ahead_all h4
    rw [hys] at hcut
    obtain ⟨ht1, ht2⟩ := take_byR (p := (sc base bs).1) (rest := []) (by rw [List.append_nil])
    rw [hys] at h3
    have HRES := Lib.hid (show cutS ⟨base, bs⟩ off = ⟨base, bs.take (byR (sc base bs).1).length⟩ by unfold cutS batS; rw [hcut, ht1])
    obtain ⟨G, hG⟩ : ∃ G, G = (byR (sc base bs).1).length := ⟨_, rfl⟩
    rw [← hG] at h3 ht2 HRES
    clear hys hcut ht1 hG h4
    have hlen := HLEN.out
    rw [hlen] at ht2
    have c0 : W.cell? ⟨w.heap.size, 0, none⟩ = some (.int .i64 base) := h0.cell 0
    have c1 : W.cell? ⟨w.heap.size, 1, none⟩ = some (.slice A n c) := h0.cell 1
    have c2 := h3.cell
    have HRW := Lib.hid ((HR.out.below hB (Nat.le_refl _)).more hB.size)
    have hlt2 := h2.lt
    have H2 := Lib.hid h2
    have HBL := Lib.hid hB
    have HK := Lib.hid hK
    have hsb := hB.size
    clear h0 h1 h2 h3 hB hK
    go_wp2_with (first
      | (go_at_call 101; refine (first_any A n c base bs G _ HRW.out hc hn ht2).mono ?_; rintro e w3 ⟨A3, n3, c3, rfl, ho3, hb3⟩; have e0 := (hb3.cell (p := ⟨w.heap.size + 1 + 1, 0, none⟩) hlt2).trans (H2.out.cell 0); have e1 := (hb3.cell (p := ⟨w.heap.size + 1 + 1, 1, none⟩) hlt2).trans (H2.out.cell 1); have q0 := (hb3.frozen (p := ⟨w.heap.size + 1 + 1, 0, none⟩) hlt2).trans (H2.out.frozen 0); have q1 := (hb3.frozen (p := ⟨w.heap.size + 1 + 1, 1, none⟩) hlt2).trans (H2.out.frozen 1); have HB3 := Lib.hid hb3; have HO3 := Lib.hid ho3; simp only [List.getElem?_cons_zero, List.getElem?_cons_succ] at e0 e1; clear hb3 ho3))
    have hK' := (((below_others HB3.out).trans (KeepsOthers.setCell _ ⟨w.heap.size + 1 + 1, 0, none⟩ (.int .i64 base))).trans (KeepsOthers.setCell _ ⟨w.heap.size + 1 + 1, 1, none⟩ (.slice A3 n3 c3))).same D _ HK.out rfl
    have hrow : ∀ r, some D = some r → ∃ o : Obj, ((w3.setCell ⟨w.heap.size + 1 + 1, 0, none⟩ (.int .i64 base)).setCell ⟨w.heap.size + 1 + 1, 1, none⟩ (.slice A3 n3 c3)).heap[r]? = some o ∧ o.isCells = false := fun r e => by cases e; exact ⟨_, hK', rfl⟩
    refine ⟨by simp, .inl ⟨_, _, rfl, run_takeDeferred hK', ?_⟩⟩
    have r0 := cell_kept (a := ⟨w.heap.size + 1 + 1, 0, none⟩) (v := .int .i64 base) (W := ((w3.setCell ⟨w.heap.size + 1 + 1, 0, none⟩ (.int .i64 base)).setCell ⟨w.heap.size + 1 + 1, 1, none⟩ (.slice A3 n3 c3))) (by simp [go_sem, e0]) (grownBy_putObj' _ D (.deferred none)) hrow
    have r1 := cell_kept (a := ⟨w.heap.size + 1 + 1, 1, none⟩) (v := .slice A3 n3 c3) (W := ((w3.setCell ⟨w.heap.size + 1 + 1, 0, none⟩ (.int .i64 base)).setCell ⟨w.heap.size + 1 + 1, 1, none⟩ (.slice A3 n3 c3))) (by simp [go_sem, e1]) (grownBy_putObj' _ D (.deferred none)) hrow
    refine ⟨.agg #[.int .i64 base, .slice A3 n3 c3], by simp [results, Tryz.results68, go_sem, r0, r1], ?_⟩
    rw [HRES.out]
    refine ⟨A3, n3, c3, rfl, ?_, ?_⟩
    · exact OwnB.more (ownsRow_putObj (ownsRow_setCell_below (ownsRow_setCell_below HO3.out hlt2 _) hlt2 _) _ hK' rfl) hsb
    · exact (((HBL.out.trans (HB3.out.mono hsb)).setCell (by simp; omega) _).setCell (by simp; omega) _).trans (belowK_b (w := w) (Nat.le_refl _) _ D _ _ (by omega) hK' rfl rfl)
  case stop =>
    rintro D cd pre W hD ⟨⟨rfl, p, x, hp, ⟨h0, h1, h2, h3, h4⟩, hlo, ⟨⟨rest, hq⟩, _⟩⟩, hB⟩ hK
    have hcut := ahead_stop (rest := rest) h4 hlo
    obtain ⟨ht1, ht2⟩ := take_byR hq
    have HRES := Lib.hid (show cutS ⟨base, bs⟩ off = ⟨base, bs.take (byR (btsOf p)).length⟩ by unfold cutS batS; rw [hq, hcut, ht1])
    obtain ⟨G, hG⟩ : ∃ G, G = (byR (btsOf p)).length := ⟨_, rfl⟩
    rw [← hG] at h3 ht2 HRES
    clear hq hcut ht1 hG h4 hlo hp
    have hlen := HLEN.out
    rw [hlen] at ht2
    refine wpIn_wide.2 ?_
    have c0 : W.cell? ⟨w.heap.size, 0, none⟩ = some (.int .i64 base) := h0.cell 0
    have c1 : W.cell? ⟨w.heap.size, 1, none⟩ = some (.slice A n c) := h0.cell 1
    have c2 := h3.cell
    have HRW := Lib.hid ((HR.out.below hB (Nat.le_refl _)).more hB.size)
    have hlt2 := h2.lt
    have H2 := Lib.hid h2
    have HBL := Lib.hid hB
    have HK := Lib.hid hK
    have hsb := hB.size
    clear h0 h1 h2 h3 hB hK
    go_wp2_with (first
      | (go_at_call 101; refine (first_any A n c base bs G _ HRW.out hc hn ht2).mono ?_; rintro e w3 ⟨A3, n3, c3, rfl, ho3, hb3⟩; have e0 := (hb3.cell (p := ⟨w.heap.size + 1 + 1, 0, none⟩) hlt2).trans (H2.out.cell 0); have e1 := (hb3.cell (p := ⟨w.heap.size + 1 + 1, 1, none⟩) hlt2).trans (H2.out.cell 1); have q0 := (hb3.frozen (p := ⟨w.heap.size + 1 + 1, 0, none⟩) hlt2).trans (H2.out.frozen 0); have q1 := (hb3.frozen (p := ⟨w.heap.size + 1 + 1, 1, none⟩) hlt2).trans (H2.out.frozen 1); have HB3 := Lib.hid hb3; have HO3 := Lib.hid ho3; simp only [List.getElem?_cons_zero, List.getElem?_cons_succ] at e0 e1; clear hb3 ho3))
    have hK' := (((below_others HB3.out).trans (KeepsOthers.setCell _ ⟨w.heap.size + 1 + 1, 0, none⟩ (.int .i64 base))).trans (KeepsOthers.setCell _ ⟨w.heap.size + 1 + 1, 1, none⟩ (.slice A3 n3 c3))).same D _ HK.out rfl
    have hrow : ∀ r, some D = some r → ∃ o : Obj, ((w3.setCell ⟨w.heap.size + 1 + 1, 0, none⟩ (.int .i64 base)).setCell ⟨w.heap.size + 1 + 1, 1, none⟩ (.slice A3 n3 c3)).heap[r]? = some o ∧ o.isCells = false := fun r e => by cases e; exact ⟨_, hK', rfl⟩
    refine ⟨by simp, .inl ⟨_, _, rfl, run_takeDeferred hK', ?_⟩⟩
    have r0 := cell_kept (a := ⟨w.heap.size + 1 + 1, 0, none⟩) (v := .int .i64 base) (W := ((w3.setCell ⟨w.heap.size + 1 + 1, 0, none⟩ (.int .i64 base)).setCell ⟨w.heap.size + 1 + 1, 1, none⟩ (.slice A3 n3 c3))) (by simp [go_sem, e0]) (grownBy_putObj' _ D (.deferred none)) hrow
    have r1 := cell_kept (a := ⟨w.heap.size + 1 + 1, 1, none⟩) (v := .slice A3 n3 c3) (W := ((w3.setCell ⟨w.heap.size + 1 + 1, 0, none⟩ (.int .i64 base)).setCell ⟨w.heap.size + 1 + 1, 1, none⟩ (.slice A3 n3 c3))) (by simp [go_sem, e1]) (grownBy_putObj' _ D (.deferred none)) hrow
    refine ⟨.agg #[.int .i64 base, .slice A3 n3 c3], by simp [results, Tryz.results68, go_sem, r0, r1], ?_⟩
    rw [HRES.out]
    refine ⟨A3, n3, c3, rfl, ?_, ?_⟩
    · exact OwnB.more (ownsRow_putObj (ownsRow_setCell_below (ownsRow_setCell_below HO3.out hlt2 _) hlt2 _) _ hK' rfl) hsb
    · exact (((HBL.out.trans (HB3.out.mono hsb)).setCell (by simp; omega) _).setCell (by simp; omega) _).trans (belowK_b (w := w) (Nat.le_refl _) _ D _ _ (by omega) hK' rfl rfl)
theorem Cut_any (A : Option Addr) (n c : Nat) (base off : Int) (bs : List UInt8) (w : World) (hr : Rd w w.heap.size A n bs) (hc : n ≤ c) (hn : n ≤ 137438953472) (hI : I64 base) (ht : Tab w) :
    Calls Tryz.prog 68 #[.agg #[.int .i64 base, .slice A n c], .int .i64 off] w (RSg w (cutS ⟨base, bs⟩ off)) := callsIn_wide.1 (Cut_in A n c base off bs w hr hc hn hI ht)
end Go.Proofs.YtejcjmiofidedaaGreatDoor.Seg

/- The landed Cut, its answer named. -/
namespace Go.Proofs.YtejcjmiofidedaaGreatDoor.Seg
open Go.RowKit Oct Rec Crc Bat Lay

section
variable {A : Option Addr} {n c : Nat} {base : Int} {bs : List UInt8} {w : World} {xb xe : Int} {xs : List UInt8}
theorem Cut_is {off : Int} (h : cutS ⟨base, bs⟩ off = ⟨xb, xs⟩) (hr : Rd w w.heap.size A n bs) (hc : n ≤ c) (hn : n ≤ 137438953472) (hI : I64 base) (ht : Tab w) :
    Calls Tryz.prog 68 #[.agg #[.int .i64 base, .slice A n c], .int .i64 off] w (TS w xb xs) := by
  have h1 := Cut_any A n c base off bs w hr hc hn hI ht
  rw [h] at h1
  exact h1
end
end Go.Proofs.YtejcjmiofidedaaGreatDoor.Seg
