/- Joined: IdxK. -/
import Derived.Test.YtbnkfljkojhkoaaGreatDoorIdxC
import Derived.Test.YtbnkfljkojhkoaaGreatDoorJIn
/- The landed index.isIndex and index.Check. -/
namespace Go.Proofs.YtbnkfljkojhkoaaGreatDoor.Idx
open Go.RowKit Go.Shelf Oct Rec Crc Bat RngQ Seg RowF RowL InR

attribute [local go_sem] Oper.semAt_some

theorem region_letR {P : Program} {ops : Array Oper} {l m : Nat} {a : Act} {w : World} {id : Nat} {Q : Exit → Act → World → Prop} (S : World → Prop) (k n : Nat) (hm : P.follows .mixedOrders = true) (hd : noDefer ops = true) (hn : ops.size = n)
    (h : ∀ (ops' : Array Oper) (Q' : Act → World → Prop), Hid (ops' = ops) → Hid (∀ a w, Q .normal a w → Q' a w) → chn P .any ops' Q' S k n 0 a w.drew) : (Code.region id ops true).wpIn (Fence.wide.inRound l) m P Q a w := by
  have h1 := h ops (fun a w => Q .normal a w) (Lib.hid rfl) (Lib.hid fun _ _ h => h)
  unfold chn at h1
  rw [bitsA_zero, ← hn] at h1
  refine wpIn_mono (region_round (Q := lift fun a w => Q .normal a w) S k hm hd h1) fun e a w h => ?_
  cases e <;> first | exact h | exact (h : False).elim
def tb_isIx : List (Nat × Nat) := [(0, 8191), (0, 8191), (2, 8189), (5, 8186), (8, 8183), (16, 8175), (16, 8175), (112, 8079), (144, 8047), (16, 8175), (784, 7407), (1040, 7151), (2064, 6143)]

def ixS (all l : List En) (pre : List En) (k : Nat) : Prop := k ≤ l.length ∧ (k = 0 ↔ pre = []) ∧ ∃ rest, all = pre ++ rest ∧ isIx true all l = isIx pre.isEmpty rest (l.drop k)
theorem isIx_hit {b : Bool} {x : En} {a l : List En} : isIx b (x :: a) (x :: l) = isIx false a l := by
  cases b <;> (conv => lhs; unfold isIx; rw [if_pos rfl])
theorem isIx_miss {x y : En} {a l : List En} (h : y ≠ x) : isIx false (x :: a) (y :: l) = isIx false a (y :: l) := by
  conv => lhs; unfold isIx; rw [if_neg h]
theorem isIx_bad {x y : En} {a l : List En} (h : y ≠ x) : isIx true (x :: a) (y :: l) = false := by
  conv => lhs; unfold isIx; rw [if_neg h]
theorem drop_at {l : List En} {k : Nat} {y : En} (h : l[k]? = some y) : l.drop k = y :: l.drop (k + 1) := by
  have hk := (List.getElem?_eq_some_iff.1 h).1
  rw [List.drop_eq_getElem_cons hk, (List.getElem?_eq_some_iff.1 h).2]
theorem snoc_rest {all pre : List En} {x : En} {rest r2 : List En} (h : all = pre ++ x :: rest) (h2 : all = pre ++ r2) : r2 = x :: rest := List.append_cancel_left (h2.symm.trans h)
theorem ixS_hit {all l pre : List En} {k : Nat} {x : En} (h : ixS all l pre k) (hx : ∃ rest, all = pre ++ x :: rest) (hk : l[k]? = some x) : ixS all l (pre ++ [x]) (k + 1) := by
  obtain ⟨h1, h2, r2, h3, h4⟩ := h
  obtain ⟨rest, hx⟩ := hx
  obtain rfl := snoc_rest hx h3
  have hlt := (List.getElem?_eq_some_iff.1 hk).1
  refine ⟨by omega, by simp, rest, by rw [hx, List.append_assoc]; rfl, ?_⟩
  rw [h4, drop_at hk, isIx_hit, show (pre ++ [x]).isEmpty = false by simp]
theorem ixS_miss {all l pre : List En} {k : Nat} {x : En} (h : ixS all l pre k) (hx : ∃ rest, all = pre ++ x :: rest) (hk : l[k]? ≠ some x) (h0 : k ≠ 0) : ixS all l (pre ++ [x]) k := by
  obtain ⟨h1, h2, r2, h3, h4⟩ := h
  obtain ⟨rest, hx⟩ := hx
  obtain rfl := snoc_rest hx h3
  have hp : pre ≠ [] := fun e => h0 (h2.2 e)
  have he : pre.isEmpty = false := by cases pre; exact absurd rfl hp; rfl
  refine ⟨h1, ⟨fun e => absurd e h0, fun e => by simp at e⟩, rest, by rw [hx, List.append_assoc]; rfl, ?_⟩
  rw [h4, he, show (pre ++ [x]).isEmpty = false by simp]
  cases hd : l.drop k with
  | nil => rfl
  | cons y m =>
    have hy : l[k]? = some y := by have := congrArg (·[0]?) hd; rw [List.getElem?_drop] at this; simpa using this
    exact isIx_miss fun e => hk (by rw [hy, e])
theorem ixS_bad {all l pre : List En} {x : En} (h : ixS all l pre 0) (hx : ∃ rest, all = pre ++ x :: rest) (hk : l[0]? ≠ some x) : isIx true all l = false := by
  obtain ⟨h1, h2, r2, h3, h4⟩ := h
  obtain ⟨rest, hx⟩ := hx
  obtain rfl := snoc_rest hx h3
  obtain rfl := h2.1 rfl
  rw [h4, List.drop_zero]
  cases l with
  | nil => rfl
  | cons y m => exact isIx_bad fun e => hk (by rw [e]; rfl)
theorem ixS_end {all l : List En} {k : Nat} (h : ixS all l all k) : isIx true all l = ((k : Int) == (l.length : Int)) := by
  obtain ⟨h1, h2, r2, h3, h4⟩ := h
  obtain rfl : r2 = [] := List.append_cancel_left (by rw [List.append_nil]; exact h3.symm)
  rw [h4]
  have e : ∀ (b : Bool) (m : List En), isIx b [] m = m.isEmpty := fun b m => by cases b <;> rfl
  rw [e]
  by_cases hk : k = l.length
  · subst hk; rw [List.drop_length]; simp
  · rw [beqF (by omega)]
    cases hd : l.drop k with
    | nil => have := congrArg List.length hd; rw [List.length_drop, List.length_nil] at this; omega
    | cons y m => rfl
def ikC (N : Nat) (v : Value) (all l : List En) (pre : List En) (W : World) : Prop :=
  Boxed W (N + 1) 25 v ∧ Boxed W (N + 2) 4 (.bool false) ∧ ∃ k : Nat, Boxed W (N + 3) 3 (.int .i64 (k : Int)) ∧ ixS all l pre k
theorem ikC_own {N : Nat} {v : Value} {all l pre : List En} {W W' : World} {row : Option Nat} (h : ikC N v all l pre W) (hg : W.grownBy W' row) (hrow : ∀ r, row = some r → ∃ o : Obj, W.heap[r]? = some o ∧ o.isCells = false) : ikC N v all l pre W' := by
  obtain ⟨h1, h2, k, h3, h4⟩ := h
  exact ⟨boxed_own2 h1 hg hrow, boxed_own2 h2 hg hrow, k, boxed_own2 h3 hg hrow, h4⟩
def ikA (N : Nat) (v : Value) (all l : List En) (pre : List En) (x : En) (W1 : World) (Bx : Nat) (W : World) : Prop :=
  ikC N v all l pre W ∧ BoxE W Bx x ∧ W1.heap.size ≤ Bx ∧ (∃ rest, all = pre ++ x :: rest) ∧ N + 7 ≤ W1.heap.size
theorem ikA_own {N Bx : Nat} {v : Value} {all l pre : List En} {x : En} {W1 W W' : World} {row : Option Nat} (h : ikA N v all l pre x W1 Bx W) (hg : W.grownBy W' row) (hrow : ∀ r, row = some r → ∃ o : Obj, W.heap[r]? = some o ∧ o.isCells = false) : ikA N v all l pre x W1 Bx W' := by
  obtain ⟨h1, h2, h3⟩ := h
  exact ⟨ikC_own h1 hg hrow, h2.keptBy hg hrow, h3⟩
set_option maxRecDepth 100000 in
set_option maxHeartbeats 8000000 in
theorem isIndex_in (A : Option Addr) (n c : Nat) (base : Int) (bs : List UInt8) (A2 : Option Addr) (n2 c2 : Nat) (l : List En) (w : World) (hr : Rd w w.heap.size A n bs) (hc : n ≤ c) (hr2 : RdE w w.heap.size A2 n2 l) (hn2 : n2 ≤ 1099511627776) (ht : Tab w) (hrx : rightX ⟨base, bs⟩ = true) :
    CallsIn Fence.wide 9 Tryz.prog 24 #[.agg #[.int .i64 base, .slice A n c], .slice A2 n2 c2] w fun e w' => e = .returned (.bool (isIx true (allE ⟨base, bs⟩) l)) ∧ Below w.heap.size w w' := by
  obtain ⟨hris, hbs, hlen⟩ := allE_right hrx
  obtain ⟨L, hL⟩ : ∃ L, L = batS ⟨base, bs⟩ := ⟨_, rfl⟩
  have hall : allE ⟨base, bs⟩ = ents 0 (-1) L := by rw [hL]; rfl
  rw [hall]
  rw [← hL] at hris hbs
  simp only at hris hbs hlen
  have hn : n ≤ 4096 := by have := hr.len; omega
  have hmx : Tryz.prog.follows .mixedOrders = true := by kernel_rfl
  obtain ⟨all, hal⟩ : ∃ all, all = ents 0 (-1) L := ⟨_, rfl⟩
  have HAL := Lib.hid hal
  rw [← hal]
  have HR := Lib.hid hr
  have HR2 := Lib.hid hr2
  have HT := Lib.hid ht
  have HCH := Lib.hid (ris_all hris)
  have HBS := Lib.hid hbs
  clear hr hr2 ht hrx hL hris hbs hlen hall hal
  refine callsIn_of_wp_marks Tryz.func24 rfl trivial ?_ rfl
  simp only [Tryz.ntmps24, List.size_toArray, List.length_cons, List.length_nil, Nat.reduceAdd, Nat.reduceSub, Array.replicate_succ, Array.replicate_zero, List.push_toArray, List.append_toArray, List.nil_append, List.cons_append]
  refine wpIn_wide.2 ?_
  go_wp2_with (go_at_call 21; (with_reducible refine (entries_any A n c base _).mono ?_); rintro e w' ⟨rfl, rfl⟩)
  generalize hw0 : (((((w.alloc (.cells #[.int .i64 base, .slice A n c] 24)).alloc (.cells #[.slice A2 n2 c2] 25)).alloc (.cells #[.bool false] 4)).alloc (.cells #[.int .i64 0] 3)).alloc (.cells #[.int .i64 base, .slice A n c] 24)) = W0
  have hsz : W0.heap.size = w.heap.size + 5 := by rw [← hw0]; simp
  have hBw : Below w.heap.size w W0 := by rw [← hw0]; exact bel_alloc (bel_alloc (bel_alloc (bel_alloc (bel_alloc (Below.refl _ _) _) _) _) _) _
  have hC0 : ikC w.heap.size (.slice A2 n2 c2) all l [] W0 := by
    rw [← hw0]
    refine ⟨?_, ?_, 0, ?_, Nat.zero_le _, by simp, all, rfl, rfl⟩
    · have h := Boxed.new (w.alloc (.cells #[.int .i64 base, .slice A n c] 24)) 25 (.slice A2 n2 c2)
      simp only [World.size_alloc] at h
      exact ((h.alloc _).alloc _).alloc _
    · have h := Boxed.new ((w.alloc (.cells #[.int .i64 base, .slice A n c] 24)).alloc (.cells #[.slice A2 n2 c2] 25)) 4 (.bool false)
      simp only [World.size_alloc] at h
      exact (h.alloc _).alloc _
    · have h := Boxed.new (((w.alloc (.cells #[.int .i64 base, .slice A n c] 24)).alloc (.cells #[.slice A2 n2 c2] 25)).alloc (.cells #[.bool false] 4)) 3 (.int .i64 0)
      simp only [World.size_alloc] at h
      exact h.alloc _
  have hS0 : W0.heap[w.heap.size + 1 + 1 + 1 + 1]? = some (.cells #[.int .i64 base, .slice A n c] 24 (0, 0)) := by
    rw [← hw0]
    have h := World.alloc_heap_new ((((w.alloc (.cells #[.int .i64 base, .slice A n c] 24)).alloc (.cells #[.slice A2 n2 c2] 25)).alloc (.cells #[.bool false] 4)).alloc (.cells #[.int .i64 0] 3)) (.cells #[.int .i64 base, .slice A n c] 24 (0, 0))
    simp only [World.size_alloc] at h
    exact h
  clear hw0
  have hnt := HT.out.pos
  refine (wpIn_wide (n := 9)).1 ?_
  refine wpIn_rangeO (F := Fence.wide) rfl (by omega) (gf := 34) (lb := #[.pointer (some ⟨w.heap.size + 1 + 1 + 1 + 1, 0, none⟩)]) rfl trivial (enters_of Tryz.func34 (by kernel_rfl) rfl)
    (entries_seq (9 - 1) (by omega) (w.heap.size + 1 + 1 + 1 + 1) w.heap.size A n c base L HCH.out hc (by omega) W0 (by omega) (by omega) (by rw [cell_of_row _ _ _ _ _ _ hS0]; rfl) (by rw [cell_of_row _ _ _ _ _ _ hS0]; rfl) (by rw [← HBS.out]; exact HR.out.below hBw (Nat.le_refl _)) (HT.out.bel hBw) hnt)
    (by simp only [EntK]; omega) (fun k h => by simp only [EntU] at h; omega) (Below.refl _ _) (fun _ => rfl)
    (fun pre W => ikC w.heap.size (.slice A2 n2 c2) all l pre W ∧ Below w.heap.size w W) (fun cd _ W => (cd = .ret ∧ isIx true all l = false ∧ Boxed W (w.heap.size + 2) 4 (.bool false)) ∧ Below w.heap.size w W)
    (OwnFrom.and (Own.from (I := fun (pre : List En) W => ikC w.heap.size (.slice A2 n2 c2) all l pre W) (fun s X Y row hs hg hrow => ikC_own hs hg hrow) _) (ownFrom_below (Nat.le_refl _) hBw.size))
    (fun cd => OwnFrom.and (Own.from (I := fun (_ : List En) W => cd = .ret ∧ isIx true all l = false ∧ Boxed W (w.heap.size + 2) 4 (.bool false)) (fun s X Y row hs hg hrow => ⟨hs.1, hs.2.1, boxed_own2 hs.2.2 hg hrow⟩) _) (ownFrom_below (Nat.le_refl _) hBw.size)) ⟨hC0, hBw⟩
    (fun pre x W1 a' W => (∃ Bx, ikA w.heap.size (.slice A2 n2 c2) all l pre x W1 Bx W ∧ a' = { tmps := #[.agg #[.int .i64 base, .slice A n c], .slice A2 n2 c2, .pointer (some ⟨w.heap.size, 0, none⟩), .pointer (some ⟨w.heap.size + 1, 0, none⟩), .pointer (some ⟨w.heap.size + 1 + 1, 0, none⟩), .pointer (some ⟨w.heap.size + 1 + 1 + 1, 0, none⟩), .pointer (some ⟨Bx, 0, none⟩), .agg #[.int .i64 base, .slice A n c], .func (.func 34) #[] #[.pointer (some ⟨w.heap.size + 1 + 1 + 1 + 1, 0, none⟩)], (enE x)[0]!, undef, undef, undef, undef, undef, undef, undef, undef, undef, undef, undef, undef, undef, undef, undef, undef, undef, undef, undef, undef, undef, undef], defers := [] }) ∧ Below w.heap.size w W)
    (fun pre x W1 a' X r r' h hr => by
      obtain ⟨⟨Bx, h1, h2⟩, h3⟩ := h
      exact ⟨⟨Bx, ikA_own h1 (grownBy_putObj' _ _ _) (fun k e => by cases e; exact ⟨_, hr, rfl⟩), h2⟩, (ownFrom_below (β := Unit) (B := W0.heap.size) (Nat.le_refl _) hBw.size).putObj (s := ()) _ h3 (by omega) hr rfl⟩)
    ?assign ?body ?done ?stop
  case assign =>
    rintro lp pre ⟨x0, x1, x2⟩ W1 W G hs1 ⟨⟨hbl, hbf, k, hbk, hix⟩, hB⟩ hst hq hG
    dsimp only [enE]
    gi_wp2
    have hstB : Below w.heap.size W1 W := hst.out (fun g hg h => by simp only [EntU] at h; omega) (by omega)
    have hst2 : StepK (EntU (W0.heap.size + 2)) W1 (W.alloc (.cells #[.int .i64 x0, .int .i64 x1, .int .i64 x2] 46)) := hst.below (belA W _)
    have hnx := hq.1
    rw [← HAL.out] at hnx
    exact hG _ _ ((KeepsOthers.alloc _ _).from _) ((KeptQ.refl _ _ _).alloc _) ⟨⟨W.heap.size, ⟨⟨hst2.box hbl (by simp only [EntU]; omega), hst2.box hbf (by simp only [EntU]; omega), k, hst2.box hbk (by simp only [EntU]; omega), hix⟩, BoxE.new W ⟨x0, x1, x2⟩, hst.bel.size, hnx, by omega⟩, rfl⟩, (hB.trans hstB).alloc (by have := hB.size; have := hstB.size; omega) _⟩
  case body =>
    rintro lp pre ⟨x0, x1, x2⟩ W1 a' W ⟨⟨Bx, ⟨⟨hbl, hbf, k, hbk, hix⟩, hbx, hBx, hnx, hW1⟩, rfl⟩, hB⟩
    have HIX := Lib.hid hix
    have HNX := Lib.hid hnx
    have hkn : k ≤ n2 := by have := hix.1; have := HR2.out.len; omega
    have HXX := Lib.hid (HR2.out.below hB (Nat.le_refl _))
    have HBL := Lib.hid hbl
    have HBF := Lib.hid hbf
    have HBK := Lib.hid hbk
    have HBX := Lib.hid hbx
    have HB := Lib.hid hB
    have c1 : W.drew.cell? ⟨w.heap.size + 1, 0, none⟩ = some (.slice A2 n2 c2) := hbl.cell
    have c3 : W.drew.cell? ⟨w.heap.size + 1 + 1 + 1, 0, none⟩ = some (.int .i64 (k : Int)) := hbk.cell
    have q0 : W.drew.cell? ⟨Bx, 0, none⟩ = some (.int .i64 x0) := hbx.cells.1
    have q1 : W.drew.cell? ⟨Bx, 1, none⟩ = some (.int .i64 x1) := hbx.cells.2.1
    have q2 : W.drew.cell? ⟨Bx, 2, none⟩ = some (.int .i64 x2) := hbx.cells.2.2
    clear hix hnx hbl hbf hbk hbx hB
    by_cases hlt : k < n2
    · obtain ⟨b, o, ⟨y0, y1, y2⟩, rfl, hbb, hy, k0', k1', k2'⟩ := en_at HXX.out hlt
      have k0 : W.drew.cell? ⟨b, o + k * 3, none⟩ = some (.int .i64 y0) := k0'
      have k1 : W.drew.cell? ⟨b, o + k * 3 + 1, none⟩ = some (.int .i64 y1) := k1'
      have k2 : W.drew.cell? ⟨b, o + k * 3 + 2, none⟩ = some (.int .i64 y2) := k2'
      have HY := Lib.hid hy
      have t3 : decide ((k : Int) < (n2 : Int)) = true := decide_eq_true (by omega)
      clear k0' k1' k2' hy
      by_cases hyx : (⟨y0, y1, y2⟩ : En) = ⟨x0, x1, x2⟩
      · have HYX := Lib.hid hyx
        injection hyx with u0 u1 u2
        subst u0 u1 u2
        gi_wp2
        have HS4R := Lib.hid (show (fun W9 : World => W9 = W.drew) W.drew from rfl)
        refine region_letR (fun W9 : World => W9 = W.drew) 99 13 hmx (by kernel_rfl) rfl fun ops Q HOPS HQ => ?_
        have HREG := reg_of HOPS tb_isIx rfl (by kernel_rfl) (by kernel_rfl) (by decide)
        refine sQ HOPS HREG 0 1 _ rfl HS4R.out ?_
        dsimp only [List.set_cons_zero, List.set_cons_succ]
        refine sQ HOPS HREG 1 3 _ rfl HS4R.out ?_
        dsimp only [List.set_cons_zero, List.set_cons_succ]
        refine sQ HOPS HREG 2 7 _ rfl HS4R.out ?_
        dsimp only [List.set_cons_zero, List.set_cons_succ]
        refine sQ HOPS HREG 3 15 _ rfl HS4R.out ?_
        dsimp only [List.set_cons_zero, List.set_cons_succ]
        refine sQ HOPS HREG 4 31 _ rfl HS4R.out ?_
        dsimp only [List.set_cons_zero, List.set_cons_succ]
        refine sQ HOPS HREG 5 63 _ rfl HS4R.out ?_
        dsimp only [List.set_cons_zero, List.set_cons_succ]
        refine sQ HOPS HREG 6 127 _ rfl HS4R.out ?_
        dsimp only [List.set_cons_zero, List.set_cons_succ]
        refine sQ HOPS HREG 7 255 _ rfl HS4R.out ?_
        dsimp only [List.set_cons_zero, List.set_cons_succ]
        refine sQ HOPS HREG 8 511 _ rfl HS4R.out ?_
        dsimp only [List.set_cons_zero, List.set_cons_succ]
        refine sQ HOPS HREG 9 1023 _ rfl HS4R.out ?_
        dsimp only [List.set_cons_zero, List.set_cons_succ]
        refine sQ HOPS HREG 10 2047 _ rfl HS4R.out ?_
        dsimp only [List.set_cons_zero, List.set_cons_succ]
        refine sQ HOPS HREG 11 4095 _ rfl HS4R.out ?_
        dsimp only [List.set_cons_zero, List.set_cons_succ]
        refine sQ HOPS HREG 12 8191 _ rfl HS4R.out ?_
        dsimp only [List.set_cons_zero, List.set_cons_succ]
        refine stepE HOPS (by kernel_rfl) (HQ.out _ _ ?_)
        clear HQ HREG HOPS
        clear Q ops
        skip
        have p3 : W.cell? ⟨w.heap.size + 1 + 1 + 1, 0, none⟩ = some (.int .i64 (k : Int)) := HBK.out.cell
        have f3 := HBK.out.frozen
        have hwr : IntKind.i64.wrap ((k : Int) + 1) = (((k + 1 : Nat)) : Int) := by rw [IntWalk.i64_in _ (by omega)]; omega
        clear c1 c3 q0 q1 q2 k0 k1 k2
        gi_wp2
        refine ⟨((KeepsOthers.setCell W ⟨w.heap.size + 1 + 1 + 1, 0, none⟩ (.int .i64 ((k : Int) + 1))).trans (KeepsOthers.drew _)).from _, ((KeptQ.refl _ _ _).set (p := ⟨w.heap.size + 1 + 1 + 1, 0, none⟩) ?_ (by simp only; omega) _).drew, ⟨?_, ?_, k + 1, ?_, ixS_hit HIX.out HNX.out HY.out⟩, (HB.out.setCell (by simp only; omega) _).drew⟩
        · simp only [EntK]; omega
        · exact boxed_set2 HBL.out _ (by omega)
        · exact boxed_set2 HBF.out _ (by omega)
        · exact HBK.out.set _
      · have HYX := Lib.hid hyx
        have hq3 : ∀ p q : Result Next, (if y0 = x0 then (if y1 = x1 then (if y2 = x2 then p else q) else q) else q) = q := fun p q => by
          by_cases u0 : y0 = x0
          · by_cases u1 : y1 = x1
            · by_cases u2 : y2 = x2
              · exact absurd (by rw [u0, u1, u2]) hyx
              · rw [if_pos u0, if_pos u1, if_neg u2]
            · rw [if_pos u0, if_neg u1]
          · rw [if_neg u0]
        have hmiss : l[k]? ≠ some ⟨x0, x1, x2⟩ := fun e => hyx (Option.some.inj (HY.out.symm.trans e))
        have HMISS := Lib.hid hmiss
        clear hmiss hyx
        gi_wp2
        have HS4R := Lib.hid (show (fun W9 : World => W9 = W.drew) W.drew from rfl)
        refine region_letR (fun W9 : World => W9 = W.drew) 99 13 hmx (by kernel_rfl) rfl fun ops Q HOPS HQ => ?_
        have HREG := reg_of HOPS tb_isIx rfl (by kernel_rfl) (by kernel_rfl) (by decide)
        refine sQ HOPS HREG 0 1 _ rfl HS4R.out ?_
        dsimp only [List.set_cons_zero, List.set_cons_succ]
        refine sQ HOPS HREG 1 3 _ rfl HS4R.out ?_
        dsimp only [List.set_cons_zero, List.set_cons_succ]
        refine sQ HOPS HREG 2 7 _ rfl HS4R.out ?_
        dsimp only [List.set_cons_zero, List.set_cons_succ]
        refine sQ HOPS HREG 3 15 _ rfl HS4R.out ?_
        dsimp only [List.set_cons_zero, List.set_cons_succ]
        refine sQ HOPS HREG 4 31 _ rfl HS4R.out ?_
        dsimp only [List.set_cons_zero, List.set_cons_succ]
        refine sQ HOPS HREG 5 63 _ rfl HS4R.out ?_
        dsimp only [List.set_cons_zero, List.set_cons_succ]
        refine sQ HOPS HREG 6 127 _ rfl HS4R.out ?_
        dsimp only [List.set_cons_zero, List.set_cons_succ]
        refine sQ HOPS HREG 7 255 _ rfl HS4R.out ?_
        dsimp only [List.set_cons_zero, List.set_cons_succ]
        refine sQ HOPS HREG 8 511 _ rfl HS4R.out ?_
        dsimp only [List.set_cons_zero, List.set_cons_succ]
        refine sQ HOPS HREG 9 1023 _ rfl HS4R.out ?_
        dsimp only [List.set_cons_zero, List.set_cons_succ]
        refine sQ HOPS HREG 10 2047 _ rfl HS4R.out ?_
        dsimp only [List.set_cons_zero, List.set_cons_succ]
        refine sQ HOPS HREG 11 4095 _ rfl HS4R.out ?_
        dsimp only [List.set_cons_zero, List.set_cons_succ]
        refine sQ HOPS HREG 12 8191 _ rfl HS4R.out ?_
        dsimp only [List.set_cons_zero, List.set_cons_succ]
        refine stepE HOPS (by kernel_rfl) (HQ.out _ _ ?_)
        clear HQ HREG HOPS
        clear Q ops
        skip
        clear k0 k1 k2
        clear c1 c3 q0 q1 q2
        have p3 : W.cell? ⟨w.heap.size + 1 + 1 + 1, 0, none⟩ = some (.int .i64 (k : Int)) := HBK.out.cell
        have p2 : W.cell? ⟨w.heap.size + 1 + 1, 0, none⟩ = some (.bool false) := HBF.out.cell
        have f2 := HBF.out.frozen
        by_cases hk0 : k = 0
        · have hkT : ((k : Int) == 0) = true := by rw [hk0]; rfl
          have HBAD := Lib.hid (show isIx true all l = false from ixS_bad (by have h := HIX.out; rw [hk0] at h; exact h) HNX.out (by have h := HMISS.out; rw [hk0] at h; exact h))
          clear hk0
          gi_wp2
          exact ⟨((KeepsOthers.setCell W ⟨w.heap.size + 1 + 1, 0, none⟩ (.bool false)).trans (KeepsOthers.drew _)).from _, ⟨rfl, HBAD.out, HBF.out.set _⟩, (HB.out.setCell (by simp only; omega) _).drew⟩
        · have hkF : ((k : Int) == 0) = false := beqF (by omega)
          have HGO := Lib.hid (ixS_miss HIX.out HNX.out HMISS.out hk0)
          gi_wp2
          exact ⟨(KeepsOthers.drew W).from _, (KeptQ.refl _ _ _).drew, ⟨HBL.out, HBF.out, k, HBK.out, HGO.out⟩, HB.out.drew⟩
    · have t3 : decide ((k : Int) < (n2 : Int)) = false := decide_eq_false (by omega)
      have HMISS := Lib.hid (show l[k]? ≠ some ⟨x0, x1, x2⟩ from fun e => by have h1 := (List.getElem?_eq_some_iff.1 e).1; have h2 := HR2.out.len; omega)
      gi_wp2
      have HS4R := Lib.hid (show (fun W9 : World => W9 = W.drew) W.drew from rfl)
      refine region_letR (fun W9 : World => W9 = W.drew) 99 13 hmx (by kernel_rfl) rfl fun ops Q HOPS HQ => ?_
      have HREG := reg_of HOPS tb_isIx rfl (by kernel_rfl) (by kernel_rfl) (by decide)
      refine sQ HOPS HREG 0 1 _ rfl HS4R.out ?_
      dsimp only [List.set_cons_zero, List.set_cons_succ]
      refine sQ HOPS HREG 1 3 _ rfl HS4R.out ?_
      dsimp only [List.set_cons_zero, List.set_cons_succ]
      refine sQ HOPS HREG 2 7 _ rfl HS4R.out ?_
      dsimp only [List.set_cons_zero, List.set_cons_succ]
      refine sQ HOPS HREG 3 15 _ rfl HS4R.out ?_
      dsimp only [List.set_cons_zero, List.set_cons_succ]
      refine sQ HOPS HREG 4 31 _ rfl HS4R.out ?_
      dsimp only [List.set_cons_zero, List.set_cons_succ]
      refine sU HOPS HREG 5 63 rfl HS4R.out ?_
      dsimp only [List.set_cons_zero, List.set_cons_succ]
      refine sU HOPS HREG 6 127 rfl HS4R.out ?_
      dsimp only [List.set_cons_zero, List.set_cons_succ]
      refine sU HOPS HREG 7 255 rfl HS4R.out ?_
      dsimp only [List.set_cons_zero, List.set_cons_succ]
      refine sU HOPS HREG 8 511 rfl HS4R.out ?_
      dsimp only [List.set_cons_zero, List.set_cons_succ]
      refine sU HOPS HREG 9 1023 rfl HS4R.out ?_
      dsimp only [List.set_cons_zero, List.set_cons_succ]
      refine sU HOPS HREG 10 2047 rfl HS4R.out ?_
      dsimp only [List.set_cons_zero, List.set_cons_succ]
      refine sQ HOPS HREG 11 4095 _ rfl HS4R.out ?_
      dsimp only [List.set_cons_zero, List.set_cons_succ]
      refine sQ HOPS HREG 12 8191 _ rfl HS4R.out ?_
      dsimp only [List.set_cons_zero, List.set_cons_succ]
      refine stepE HOPS (by kernel_rfl) (HQ.out _ _ ?_)
      clear HQ HREG HOPS
      clear Q ops
      skip
      clear c1 c3 q0 q1 q2
      have p3 : W.cell? ⟨w.heap.size + 1 + 1 + 1, 0, none⟩ = some (.int .i64 (k : Int)) := HBK.out.cell
      have p2 : W.cell? ⟨w.heap.size + 1 + 1, 0, none⟩ = some (.bool false) := HBF.out.cell
      have f2 := HBF.out.frozen
      by_cases hk0 : k = 0
      · have hkT : ((k : Int) == 0) = true := by rw [hk0]; rfl
        have HBAD := Lib.hid (show isIx true all l = false from ixS_bad (by have h := HIX.out; rw [hk0] at h; exact h) HNX.out (by have h := HMISS.out; rw [hk0] at h; exact h))
        clear hk0
        gi_wp2
        exact ⟨((KeepsOthers.setCell W ⟨w.heap.size + 1 + 1, 0, none⟩ (.bool false)).trans (KeepsOthers.drew _)).from _, ⟨rfl, HBAD.out, HBF.out.set _⟩, (HB.out.setCell (by simp only; omega) _).drew⟩
      · have hkF : ((k : Int) == 0) = false := beqF (by omega)
        have HGO := Lib.hid (ixS_miss HIX.out HNX.out HMISS.out hk0)
        gi_wp2
        exact ⟨(KeepsOthers.drew W).from _, (KeptQ.refl _ _ _).drew, ⟨HBL.out, HBF.out, k, HBK.out, HGO.out⟩, HB.out.drew⟩
  case done =>
    rintro D ys W hD hys ⟨⟨hbl, hbf, k, hbk, hix⟩, hB⟩ hK
    have hys2 : ys = all := hys.trans HAL.out.symm
    rw [hys2] at hix
    have HRES := Lib.hid (show isIx true all l = ((k : Int) == (n2 : Int)) by rw [ixS_end hix, HR2.out.len])
    have HBF := Lib.hid hbf
    have HBB := Lib.hid hB
    have HK := Lib.hid hK
    have c1 := hbl.cell
    have c3 := hbk.cell
    have c2 := hbf.cell
    have f2 := hbf.frozen
    clear hbl hbf hbk hix hB hK hys hys2
    go_wp2
    have hK' := (KeepsOthers.setCell W ⟨w.heap.size + 1 + 1, 0, none⟩ (.bool ((k : Int) == (n2 : Int)))).same D _ HK.out rfl
    have hrow : ∀ r, some D = some r → ∃ o : Obj, (W.setCell ⟨w.heap.size + 1 + 1, 0, none⟩ (.bool ((k : Int) == (n2 : Int)))).heap[r]? = some o ∧ o.isCells = false := fun r e => by cases e; exact ⟨_, hK', rfl⟩
    have r1 := cell_kept (HBF.out.set (.bool ((k : Int) == (n2 : Int)))).cell (grownBy_putObj' _ D (.deferred none)) hrow
    refine ⟨by simp, .inl ⟨_, _, rfl, run_takeDeferred hK', ?_⟩⟩
    refine ⟨.bool ((k : Int) == (n2 : Int)), by simp [results, Tryz.results24, go_sem, r1], by rw [HRES.out], ?_⟩
    exact (HBB.out.setCell (by simp only; omega) _).trans (belowK_b (w := w) (Nat.le_refl _) _ D _ _ (by omega) hK' rfl rfl)
  case stop =>
    rintro D cd pre W hD ⟨⟨rfl, hno, hbf⟩, hB⟩ hK
    have HNO := Lib.hid hno
    have HBB := Lib.hid hB
    have HK := Lib.hid hK
    have HBF := Lib.hid hbf
    clear hno hB hK hbf
    gi_wp2
    have hrow : ∀ r, some D = some r → ∃ o : Obj, W.heap[r]? = some o ∧ o.isCells = false := fun r e => by cases e; exact ⟨_, HK.out, rfl⟩
    have r1 := cell_kept HBF.out.cell (grownBy_putObj' _ D (.deferred none)) hrow
    refine ⟨by simp, .inl ⟨_, _, rfl, run_takeDeferred HK.out, ?_⟩⟩
    refine ⟨.bool false, by simp [results, Tryz.results24, go_sem, r1], by rw [HNO.out], ?_⟩
    exact HBB.out.trans (belowK_b (w := w) (Nat.le_refl _) _ D _ _ (by omega) HK.out rfl rfl)
end Go.Proofs.YtbnkfljkojhkoaaGreatDoor.Idx
