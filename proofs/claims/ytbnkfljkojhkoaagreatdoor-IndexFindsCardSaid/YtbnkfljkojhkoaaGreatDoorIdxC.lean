/- Joined: IdxC. -/
import Derived.Test.YtbnkfljkojhkoaaGreatDoorJIdxN
import Derived.Test.YtbnkfljkojhkoaaGreatDoorJSegW
/- The landed index.isRight and index.Make. -/
namespace Go.Proofs.YtbnkfljkojhkoaaGreatDoor.Idx
open Go.RowKit Go.Shelf Oct Rec Crc Bat RngQ Seg RowF RowL

attribute [local go_sem] Oper.semAt_some

set_option maxRecDepth 100000 in
set_option maxHeartbeats 2000000 in
theorem isRight_any (A : Option Addr) (n c : Nat) (base : Int) (bs : List UInt8) (w : World) (hr : Rd w w.heap.size A n bs) (hc : n ≤ c) (hI : I64 base) (ht : Tab w) :
    Calls Tryz.prog 20 #[.agg #[.int .i64 base, .slice A n c]] w fun e w' => e = .returned (.bool (rightX ⟨base, bs⟩)) ∧ Below w.heap.size w w' := by
  have HR := Lib.hid (rdUp hr (belA w (.cells #[.int .i64 base, .slice A n c] 24)))
  have HT := Lib.hid (ht.bel (belA w (.cells #[.int .i64 base, .slice A n c] 24)))
  have HLN := Lib.hid hr.len
  have HB := Lib.hid (belA w (.cells #[.int .i64 base, .slice A n c] 24))
  clear hr ht
  by_cases h1 : base < 0
  · have HE := Lib.hid (show rightX ⟨base, bs⟩ = false by simp [rightX, wholeS]; omega)
    go_enter Tryz.func20, Tryz.ntmps20
    go_wp2
    go_ret
    exact ⟨by rw [HE.out]; rfl, HB.out⟩
  by_cases h2 : 1099511627776 < base
  · have HE := Lib.hid (show rightX ⟨base, bs⟩ = false by simp [rightX, wholeS]; omega)
    go_enter Tryz.func20, Tryz.ntmps20
    go_wp2
    go_ret
    exact ⟨by rw [HE.out]; rfl, HB.out⟩
  by_cases h3 : 4096 < n
  · have HE := Lib.hid (show rightX ⟨base, bs⟩ = false by have := HLN.out; simp [rightX]; omega)
    have h3' : (4096 : Int) < (n : Int) := by omega
    go_enter Tryz.func20, Tryz.ntmps20
    go_wp2
    go_ret
    exact ⟨by rw [HE.out]; rfl, HB.out⟩
  have h3' : ¬ (4096 : Int) < (n : Int) := by omega
  rcases hs : sc base bs with ⟨L, g⟩
  have HS := Lib.hid hs
  have HE := Lib.hid (show rightX ⟨base, bs⟩ = ((g : Int) == (n : Int)) by
    have h5 : goodS ⟨base, bs⟩ = g := by unfold goodS; simp only; rw [hs]
    rw [← HLN.out]
    by_cases hg : g = bs.length
    · subst hg
      rw [show rightX ⟨base, bs⟩ = true by have := HLN.out; simp [rightX, wholeS, h5]; omega]
      simp
    · rw [show rightX ⟨base, bs⟩ = false by simp [rightX, wholeS, h5]; omega]
      exact (beqF (by omega)).symm)
  clear hs h3
  go_enter Tryz.func20, Tryz.ntmps20
  go_wp2_with (first
    | (go_at_call 33; (with_reducible refine (Scan_is HS.out HR.out hc (by omega) hI HT.out).mono ?_); rintro e w2 ⟨A2, n2, c2, rfl, ho2, hb2⟩; have q1 := (hb2.cell (p := ⟨w.heap.size, 1, none⟩) (by simp)).trans (show _ = some (.slice A n c) by simp [go_sem]); have HB2 := Lib.hid (bel_trans HB.out hb2); clear ho2 hb2))
  go_ret
  exact ⟨by rw [HE.out]; rfl, HB2.out⟩
def leastX (every : Int) (pre : List En) : Int := match lastP every none pre with | none => 0 | some p => p + every
theorem lastP_snoc (every : Int) (o : Option Int) (l : List En) (x : En) : lastP every o (l ++ [x]) = lastP every (lastP every o l) [x] := by
  induction l generalizing o with
  | nil => rfl
  | cons y l ih =>
    rw [List.cons_append]
    cases o with
    | none => exact ih _
    | some p =>
      by_cases h : every ≤ y.pos - p
      · have e3 : ∀ m : List En, lastP every (some p) (y :: m) = lastP every (some y.pos) m := fun m => by conv => lhs; unfold lastP; rw [if_pos h]
        rw [e3, e3, ih]
      · have e3 : ∀ m : List En, lastP every (some p) (y :: m) = lastP every (some p) m := fun m => by conv => lhs; unfold lastP; rw [if_neg h]
        rw [e3, e3, ih]
theorem pick_yes {every : Int} {pre : List En} {x : En} (h : leastX every pre ≤ x.pos) : pick every none (pre ++ [x]) = pick every none pre ++ [x] ∧ leastX every (pre ++ [x]) = x.pos + every := by
  unfold leastX at h ⊢
  rw [pick_snoc, lastP_snoc]
  cases hl : lastP every none pre with
  | none => exact ⟨rfl, rfl⟩
  | some p =>
    rw [hl] at h
    simp only at h
    have h2 : every ≤ x.pos - p := by omega
    have e1 : pick every (some p) [x] = [x] := by unfold pick; rw [if_pos h2]; rfl
    have e2 : lastP every (some p) [x] = some x.pos := by unfold lastP; rw [if_pos h2]; rfl
    rw [e1, e2]
    exact ⟨rfl, rfl⟩
theorem pick_no {every : Int} {pre : List En} {x : En} (hx : 0 ≤ x.pos) (h : ¬ leastX every pre ≤ x.pos) : pick every none (pre ++ [x]) = pick every none pre ∧ leastX every (pre ++ [x]) = leastX every pre := by
  unfold leastX at h ⊢
  rw [pick_snoc, lastP_snoc]
  cases hl : lastP every none pre with
  | none => rw [hl] at h; simp only at h; omega
  | some p =>
    rw [hl] at h
    simp only at h
    have h2 : ¬ every ≤ x.pos - p := by omega
    have e1 : pick every (some p) [x] = [] := by unfold pick; rw [if_neg h2]; rfl
    have e2 : lastP every (some p) [x] = some p := by unfold lastP; rw [if_neg h2]; rfl
    rw [e1, e2, List.append_nil]
    exact ⟨rfl, rfl⟩
theorem pick_len (every : Int) (pre : List En) : (pick every none pre).length ≤ pre.length := (pick_sub every none pre).length_le
theorem ownE_step {W X : World} {U : Nat → Prop} {B n : Nat} {v : Value} {l : List En} (h : OwnE W B v n l) (hs : StepK U W X) (hv : ∀ g, v.ownBlock = some g → ¬ U g) : OwnE X B v n l := by
  refine ⟨h.1, h.2.imp id ?_⟩
  rintro ⟨g, cap, cur, rfl, hB, hg, hr⟩
  exact ⟨g, cap, cur, rfl, hB, (hs.same g (Array.getElem?_eq_some_iff.1 hg).1 (hv g rfl)).trans hg, hr⟩
theorem ownE_lt {W : World} {B n : Nat} {v : Value} {l : List En} (h : OwnE W B v n l) : ∀ g, v.ownBlock = some g → B ≤ g ∧ g < W.heap.size := World.ownsRow.lt h
theorem ownE_cells {W : World} {B n : Nat} {v : Value} {l : List En} (h : OwnE W B v n l) : ∀ (j : Nat) (o : Obj), v.ownBlock = some j → W.heap[j]? = some o → o.isCells = true := by
  intro j o hj ho
  rcases h.2 with ⟨rfl, _⟩ | ⟨g, cap, cur, rfl, _, hgb, _⟩
  · cases hj
  · obtain rfl : g = j := by simpa [Value.ownBlock] using hj
    rw [hgb] at ho
    cases ho
    rfl
theorem ownE_keptBy {W X : World} {B n : Nat} {v : Value} {l : List En} {row : Option Nat} (h : OwnE W B v n l) (hg : W.grownBy X row) (hrow : ∀ r, row = some r → ∃ o : Obj, W.heap[r]? = some o ∧ o.isCells = false) : OwnE X B v n l := by
  refine World.ownsRow.kept h hg ?_
  cases hv : v.ownBlock with
  | none => exact .inl rfl
  | some g =>
    right
    intro e'
    obtain ⟨o, ho, hc⟩ := hrow g e'.symm
    rw [ownE_cells h g o hv ho] at hc
    cases hc
theorem run_appE {w : World} (base : Nat) {v : Value} {n : Nat} {l : List En} (hown : OwnE w base v n l) (x : En) (hb : n < 1099511627776) (hbase : base ≤ w.heap.size) :
    ∃ A' c' w', (Builtin.append_ #[25, 25] 25 #[v, .slice (some ⟨w.heap.size, 0, none⟩) 1 1]).run Tryz.prog (w.alloc (.cells (enC x).toArray 46)) = .ok (.slice A' (n + 1) c') w' ∧ OwnE w' base (.slice A' (n + 1) c') (n + 1) (l ++ [x]) ∧ (w.alloc (.cells (enC x).toArray 46)).grownBy w' v.ownBlock ∧ Below base w w' := by
  have hbel : Below w.heap.size w (w.alloc (.cells (enC x).toArray 46)) := belA w _
  have h1 : OwnE (w.alloc (.cells (enC x).toArray 46)) base v n l := OwnF.below hown hbel
  obtain ⟨A', c', w', k1, k2, k3, k4⟩ := run_appFG (P := Tryz.prog) (w.alloc (.cells (enC x).toArray 46)) enS 24 base 25 25 46 Tryz.underlying25 enInfo v n l h1 _ (some ⟨w.heap.size, 0, none⟩) 1 1 [x] (rdF_new w enS _ x) (by omega) (by omega) (Nat.le_trans hbase hbel.size)
  exact ⟨A', c', w', k1, k2, k3, ((Below.refl base w).alloc hbase _).trans (below_of_grown _ h1 k3 (Nat.le_trans hbase hbel.size))⟩
def mkC (N eb : Nat) (every : Int) (pre : List En) (W : World) : Prop :=
  (∃ A1 n1 c1, Boxed W N 25 (.slice A1 n1 c1) ∧ n1 = (pick every none pre).length ∧ OwnE W (N + 11) (.slice A1 n1 c1) n1 (pick every none pre)) ∧ Boxed W (N + 1) 3 (.int .i64 (leastX every pre)) ∧ Boxed W eb 3 (.int .i64 every)
theorem mkC_own {N eb : Nat} {every : Int} {pre : List En} {W W' : World} {row : Option Nat} (h : mkC N eb every pre W) (hg : W.grownBy W' row) (hrow : ∀ r, row = some r → ∃ o : Obj, W.heap[r]? = some o ∧ o.isCells = false) : mkC N eb every pre W' := by
  obtain ⟨⟨A1, n1, c1, h1, h2, h3⟩, h4, h5⟩ := h
  exact ⟨⟨A1, n1, c1, boxed_own2 h1 hg hrow, h2, ownE_keptBy h3 hg hrow⟩, boxed_own2 h4 hg hrow, boxed_own2 h5 hg hrow⟩
def BoxE (W : World) (g : Nat) (x : En) : Prop := W.heap[g]? = some (.cells (enC x).toArray 46 (0, 0))
theorem BoxE.lt {W : World} {g : Nat} {x : En} (h : BoxE W g x) : g < W.heap.size := (Array.getElem?_eq_some_iff.1 h).1
theorem BoxE.new (W : World) (x : En) : BoxE (W.alloc (.cells (enC x).toArray 46)) W.heap.size x := World.alloc_heap_new W _
theorem BoxE.keptBy {W X : World} {g : Nat} {x : En} {row : Option Nat} (h : BoxE W g x) (hg : W.grownBy X row) (hrow : ∀ r, row = some r → ∃ o : Obj, W.heap[r]? = some o ∧ o.isCells = false) : BoxE X g x := (grownBy_keeps_cells hg hrow h rfl).trans h
theorem BoxE.cells {W : World} {g : Nat} {x : En} (h : BoxE W g x) : W.cell? ⟨g, 0, none⟩ = some (.int .i64 x.off) ∧ W.cell? ⟨g, 1, none⟩ = some (.int .i64 x.pos) ∧ W.cell? ⟨g, 2, none⟩ = some (.int .i64 x.stamp) := by
  refine ⟨?_, ?_, ?_⟩ <;> (rw [cell_of_row _ _ _ _ _ _ h]; rfl)
def mkA (L : List Bt) (N eb : Nat) (every : Int) (pre : List En) (x : En) (W1 : World) (Bx : Nat) (W : World) : Prop :=
  (∃ A1 n1 c1, Boxed W N 25 (.slice A1 n1 c1) ∧ n1 = (pick every none pre).length ∧ OwnE W (N + 11) (.slice A1 n1 c1) n1 (pick every none pre) ∧ ∀ g, (Value.slice A1 n1 c1).ownBlock = some g → g < W1.heap.size) ∧
    Boxed W (N + 1) 3 (.int .i64 (leastX every pre)) ∧ Boxed W eb 3 (.int .i64 every) ∧ BoxE W Bx x ∧ W1.heap.size ≤ Bx ∧ (∃ rest, ents 0 (-1) L = pre ++ x :: rest) ∧ N + 11 ≤ W.heap.size ∧ N + 5 ≤ W1.heap.size
theorem mkA_own {L : List Bt} {N eb Bx : Nat} {every : Int} {pre : List En} {x : En} {W1 W W' : World} {row : Option Nat} (h : mkA L N eb every pre x W1 Bx W) (hg : W.grownBy W' row) (hrow : ∀ r, row = some r → ∃ o : Obj, W.heap[r]? = some o ∧ o.isCells = false) : mkA L N eb every pre x W1 Bx W' := by
  obtain ⟨⟨A1, n1, c1, h1, h2, h3, h4⟩, h5, h6, h7, h8, h9, h10⟩ := h
  exact ⟨⟨A1, n1, c1, boxed_own2 h1 hg hrow, h2, ownE_keptBy h3 hg hrow, h4⟩, boxed_own2 h5 hg hrow, boxed_own2 h6 hg hrow, h7.keptBy hg hrow, h8, h9, Nat.le_trans h10.1 hg.size, h10.2⟩
theorem ents_pos {L : List Bt} {pre : List En} {x : En} {rest : List En} (h : ents 0 (-1) L = pre ++ x :: rest) : 0 ≤ x.pos ∧ x.pos < (byR L).length ∧ pre.length < L.length ∧ L.length ≤ (byR L).length := by
  have h1 := ents_mem (show x ∈ ents 0 (-1) L by rw [h]; simp)
  have h2 := congrArg List.length h
  rw [ents_len, List.length_append, List.length_cons] at h2
  have h3 := byR_ge L
  rw [endP_is] at h1
  exact ⟨h1.1, by omega, by omega, h3⟩
theorem ris_all {lo : Int} {L : List Bt} (h : ris lo L = true) : ∀ b ∈ L, chB b = 0 := by
  induction L generalizing lo with
  | nil => simp
  | cons x L ih =>
    obtain ⟨⟨h1, h2⟩, h3⟩ := ris_cons.1 h
    intro b hb
    rcases List.mem_cons.1 hb with rfl | hb
    · exact h1
    · exact ih h3 b hb
def REn (w : World) (l : List En) (z : Int) (en : Ending) (w' : World) : Prop :=
  ∃ A1 n1 c1, en = .returned (.tuple #[.slice A1 n1 c1, .int .i64 z]) ∧ OwnE w' w.heap.size (.slice A1 n1 c1) n1 l ∧ Below w.heap.size w w'
set_option maxRecDepth 100000 in
set_option maxHeartbeats 8000000 in
theorem Make_in (A : Option Addr) (n c : Nat) (base : Int) (bs : List UInt8) (every : Int) (w : World) (hr : Rd w w.heap.size A n bs) (hc : n ≤ c) (hI : I64 base) (ht : Tab w) (hrx : rightX ⟨base, bs⟩ = true) (he1 : 1 ≤ every) (he2 : every ≤ 4096) :
    CallsIn Fence.wide 9 Tryz.prog 7 #[.agg #[.int .i64 base, .slice A n c], .int .i64 every] w (REn w (pick every none (allE ⟨base, bs⟩)) 0) := by
  obtain ⟨hris, hbs, hlen⟩ := allE_right hrx
  obtain ⟨L, hL⟩ : ∃ L, L = batS ⟨base, bs⟩ := ⟨_, rfl⟩
  have HALL := Lib.hid (show allE ⟨base, bs⟩ = ents 0 (-1) L by rw [hL]; rfl)
  rw [← hL] at hris hbs
  simp only at hris hbs hlen
  have hn : n ≤ 4096 := by have := hr.len; omega
  have HLB := Lib.hid (show (byR L).length = n by rw [← hbs]; exact hr.len)
  have hch : ∀ b ∈ L, chB b = 0 := ris_all hris
  have hn1 : ¬ every < 1 := by omega
  have hn2 : ¬ 4096 < every := by omega
  have HR := Lib.hid hr
  have HT := Lib.hid ht
  have HCH := Lib.hid hch
  have HRX := Lib.hid hrx
  have HBS := Lib.hid hbs
  have HB2 := Lib.hid (bel_alloc (belA w (.cells #[.int .i64 base, .slice A n c] 24)) (.cells #[.int .i64 every] 3))
  have HRR := Lib.hid (rdUp hr HB2.out)
  have HTT := Lib.hid (ht.bel HB2.out)
  clear hr ht hch hrx hL hris hbs hlen
  refine callsIn_of_wp_marks Tryz.func7 rfl trivial ?_ rfl
  simp only [Tryz.ntmps7, List.size_toArray, List.length_cons, List.length_nil, Nat.reduceAdd, Nat.reduceSub, Array.replicate_succ, Array.replicate_zero, List.push_toArray, List.append_toArray, List.nil_append, List.cons_append]
  refine wpIn_wide.2 ?_
  go_wp2_with (first
    | (go_at_call 20; (with_reducible refine (isRight_any A n c base bs _ HRR.out hc hI HTT.out).mono ?_); rw [HRX.out]; rintro e w1 ⟨rfl, hb1⟩; have q0 := (hb1.cell (p := ⟨w.heap.size, 0, none⟩) (by simp; omega)).trans (show _ = some (.int .i64 base) by simp [go_sem]); have q1 := (hb1.cell (p := ⟨w.heap.size, 1, none⟩) (by simp; omega)).trans (show _ = some (.slice A n c) by simp [go_sem]); have q2 := (hb1.cell (p := ⟨w.heap.size + 1, 0, none⟩) (by simp)).trans (show _ = some (.int .i64 every) by simp [go_sem]); have hs1 := hb1.size; simp only [World.size_alloc] at hs1; have hl0 : w.heap.size < w1.heap.size := (by omega); have hl1 : w.heap.size + 1 < w1.heap.size := (by omega); have HEV := Lib.hid (boxed_below (show Boxed _ (w.heap.size + 1) 3 (.int .i64 every) from (by have h := Boxed.new (w.alloc (.cells #[.int .i64 base, .slice A n c] 24)) 3 (.int .i64 every); simp only [World.size_alloc] at h; exact h)) hb1); have HB1 := Lib.hid (bel_trans HB2.out hb1); clear hb1)
    | (go_at_call 21; (with_reducible refine (entries_any A n c base _).mono ?_); rintro e w' ⟨rfl, rfl⟩))
  generalize hw0 : (((w1.alloc (.cells #[.slice none 0 0] 25)).alloc (.cells #[.int .i64 0] 3)).alloc (.cells #[.int .i64 base, .slice A n c] 24)) = W0
  have hsz : W0.heap.size = w1.heap.size + 3 := by rw [← hw0]; simp
  have hB0 : Below w1.heap.size w1 W0 := by rw [← hw0]; exact bel_alloc (bel_alloc (bel_alloc (Below.refl _ _) _) _) _
  have hBw : Below w.heap.size w W0 := HB1.out.trans (hB0.mono (by omega))
  have hC0 : mkC w1.heap.size (w.heap.size + 1) every [] W0 := by
    refine ⟨⟨none, 0, 0, ?_, rfl, OwnF.nil⟩, ?_, boxed_below HEV.out hB0⟩
    · rw [← hw0]
      have h := Boxed.new w1 25 (.slice none 0 0)
      exact (h.alloc _).alloc _
    · rw [← hw0]
      have h := Boxed.new (w1.alloc (.cells #[.slice none 0 0] 25)) 3 (.int .i64 0)
      simp only [World.size_alloc] at h
      exact h.alloc _
  have hS0 : W0.heap[w1.heap.size + 1 + 1]? = some (.cells #[.int .i64 base, .slice A n c] 24 (0, 0)) := by
    rw [← hw0]
    have h := World.alloc_heap_new ((w1.alloc (.cells #[.slice none 0 0] 25)).alloc (.cells #[.int .i64 0] 3)) (.cells #[.int .i64 base, .slice A n c] 24 (0, 0))
    simp only [World.size_alloc] at h
    exact h
  clear hw0 q0 q1 q2
  have hnt := HT.out.pos
  refine (wpIn_wide (n := 9)).1 ?_
  refine wpIn_rangeO (F := Fence.wide) rfl (by omega) (gf := 34) (lb := #[.pointer (some ⟨w1.heap.size + 1 + 1, 0, none⟩)]) rfl trivial (enters_of Tryz.func34 (by kernel_rfl) rfl)
    (entries_seq (9 - 1) (by omega) (w1.heap.size + 1 + 1) w.heap.size A n c base L HCH.out hc (by omega) W0 (by omega) (by omega) (by rw [cell_of_row _ _ _ _ _ _ hS0]; rfl) (by rw [cell_of_row _ _ _ _ _ _ hS0]; rfl) (by rw [← HBS.out]; exact HR.out.below hBw (Nat.le_refl _)) (HT.out.bel hBw) hnt)
    (by simp only [EntK]; omega) (fun k h => by simp only [EntU] at h; omega) (Below.refl _ _) (fun _ => rfl)
    (fun pre W => mkC w1.heap.size (w.heap.size + 1) every pre W ∧ Below w.heap.size w W) (fun _ _ _ => False)
    (OwnFrom.and (Own.from (I := fun (pre : List En) W => mkC w1.heap.size (w.heap.size + 1) every pre W) (fun s X Y row hs hg hrow => mkC_own hs hg hrow) _) (ownFrom_below (Nat.le_refl _) hBw.size))
    (fun _ s X Y row hs _ _ => hs) ⟨hC0, hBw⟩
    (fun pre x W1 a' W => (∃ Bx, mkA L w1.heap.size (w.heap.size + 1) every pre x W1 Bx W ∧ a' = { tmps := #[.agg #[.int .i64 base, .slice A n c], .int .i64 every, .pointer (some ⟨w.heap.size, 0, none⟩), .pointer (some ⟨w.heap.size + 1, 0, none⟩), .slice none 0 0, .int .i64 0, .pointer (some ⟨w1.heap.size, 0, none⟩), .pointer (some ⟨w1.heap.size + 1, 0, none⟩), .pointer (some ⟨Bx, 0, none⟩), .agg #[.int .i64 base, .slice A n c], .bool true, .bool false, .bool false, .int .i64 every, .bool (decide (every < 1)), .bool (decide (every < 1)), .bool (decide (every < 1)), .int .i64 every, .bool (decide (4096 < every)), .bool (decide (every < 1) || decide (4096 < every)), .agg #[.int .i64 base, .slice A n c], .func (.func 34) #[] #[.pointer (some ⟨w1.heap.size + 1 + 1, 0, none⟩)], (enE x)[0]!, undef, undef, undef, undef, undef, undef, undef, undef, undef, undef, undef, undef, undef], defers := [] }) ∧ Below w.heap.size w W)
    (fun pre x W1 a' X r r' h hr => by
      obtain ⟨⟨Bx, h1, h2⟩, h3⟩ := h
      exact ⟨⟨Bx, mkA_own h1 (grownBy_putObj' _ _ _) (fun k e => by cases e; exact ⟨_, hr, rfl⟩), h2⟩, (ownFrom_below (β := Unit) (B := W0.heap.size) (Nat.le_refl _) hBw.size).putObj (s := ()) _ h3 (by omega) hr rfl⟩)
    ?assign ?body ?done ?stop
  case assign =>
    rintro l pre ⟨x0, x1, x2⟩ W1 W G hs1 ⟨⟨⟨A9, n9, c9, hb9, hn9, ho9⟩, hls, hev⟩, hB⟩ hst hq hG
    dsimp only [enE]
    gi_wp2
    have hstB : Below w.heap.size W1 W := hst.out (fun g hg h => by simp only [EntU] at h; omega) (by omega)
    have hst2 : StepK (EntU (W0.heap.size + 2)) W1 (W.alloc (.cells #[.int .i64 x0, .int .i64 x1, .int .i64 x2] 46)) := hst.below (belA W _)
    exact hG _ _ ((KeepsOthers.alloc _ _).from _) ((KeptQ.refl _ _ _).alloc _) ⟨⟨W.heap.size, ⟨⟨A9, n9, c9, hst2.box hb9 (by simp only [EntU]; omega), hn9, ownE_step ho9 hst2 (fun g hg h => by have := (ownE_lt ho9 g hg).1; simp only [EntU] at h; omega), fun g hg => (ownE_lt ho9 g hg).2⟩, hst2.box hls (by simp only [EntU]; omega), hst2.box hev (by simp only [EntU]; omega), BoxE.new W ⟨x0, x1, x2⟩, hst.bel.size, hq.1, by have := hq.2; simp; omega, by omega⟩, rfl⟩, (hB.trans hstB).alloc (by have := hB.size; have := hstB.size; omega) _⟩
  case body =>
    rintro l pre ⟨x0, x1, x2⟩ W1 a' W ⟨⟨Bx, ⟨⟨A9, n9, c9, hb9, hn9, ho9, hg9⟩, hls, hev, hbx, hBx, hnx, hsW, hW1⟩, rfl⟩, hB⟩
    obtain ⟨q0, q1, q2⟩ := hbx.cells
    simp only at q0 q1 q2
    obtain ⟨rest, hrest⟩ := hnx
    obtain ⟨hp0, hp1, hp2, hp3⟩ := ents_pos hrest
    rw [HLB.out] at hp1 hp3
    simp only at hp0 hp1
    have hl9 := pick_len every pre
    have hBl := hbx.lt
    have d1 := hls.cell
    have d2 := hev.cell
    clear hrest
    by_cases hle : leastX every pre ≤ x1
    · obtain ⟨hy1, hy2⟩ := pick_yes (x := ⟨x0, x1, x2⟩) hle
      have hwr : IntKind.i64.wrap (x1 + every) = x1 + every := IntWalk.i64_in _ (by omega)
      have HY1 := Lib.hid hy1
      have HY2 := Lib.hid hy2
      obtain ⟨lx, hlx⟩ : ∃ lx, lx = leastX every pre := ⟨_, rfl⟩
      rw [← hlx] at d1 hle
      have d0 := hb9.cell
      obtain ⟨A2, c2, w2, hrun, ho2, hg2, hbel2⟩ := run_appE (w1.heap.size + 11) ho9 ⟨x0, x1, x2⟩ (by omega) hsW
      dsimp only [enC] at hrun hg2
      have hrow9 : ∀ k, (Value.slice A9 n9 c9).ownBlock = some k → ¬ EntK w.heap.size (w1.heap.size + 1 + 1) (w1.heap.size + 3 + 2) k ∧ k < W1.heap.size := fun k hk => ⟨by have := (ownE_lt ho9 k hk).1; simp only [EntK]; omega, hg9 k hk⟩
      have hne : ∀ k, k < w1.heap.size + 11 → some k ≠ (Value.slice A9 n9 c9).ownBlock := fun k hk he => by have := (ownE_lt ho9 k he.symm).1; omega
      have b1 := (hb9.alloc (.cells #[.int .i64 x0, .int .i64 x1, .int .i64 x2] 46)).kept hg2 (hne _ (by omega))
      have b2 := (hls.alloc (.cells #[.int .i64 x0, .int .i64 x1, .int .i64 x2] 46)).kept hg2 (hne _ (by omega))
      have b3 := (hev.alloc (.cells #[.int .i64 x0, .int .i64 x1, .int .i64 x2] 46)).kept hg2 (hne _ (by omega))
      have f1 := b1.frozen
      have f2 := b2.frozen
      have e1 := b1.cell
      have e2 := b2.cell
      have e3 := b3.cell
      have hkq := ((KeptQ.refl (EntK w.heap.size (w1.heap.size + 1 + 1) (w1.heap.size + 3 + 2)) W1.heap.size W).alloc (.cells #[.int .i64 x0, .int .i64 x1, .int .i64 x2] 46)).grown hg2 hrow9
      have hko := (KeepsOthers.alloc W (.cells #[.int .i64 x0, .int .i64 x1, .int .i64 x2] 46)).trans (KeepsOthers.of_grownBy hg2 (ownE_cells (OwnF.alloc ho9 _)))
      have q1' : w2.cell? ⟨Bx, 1, none⟩ = some (.int .i64 x1) := (World.cell?_of_block ((hg2.block Bx (by simp; omega) (fun he => by have := hg9 Bx he.symm; omega)).trans (Below.heap_alloc _ _ _ hBl))).trans q1
      have z1 : ¬ Bx = w1.heap.size := by omega
      have z2 : ¬ w.heap.size + 1 = w1.heap.size := by omega
      have z3 : ¬ w1.heap.size + 1 = w1.heap.size := by omega
      have HKQ := Lib.hid hkq
      have HKO := Lib.hid hko
      have HO2 := Lib.hid ho2
      have HB2 := Lib.hid (hB.trans (hbel2.mono (by have := hBw.size; omega)))
      have HX1 := Lib.hid b1
      have HX2 := Lib.hid b2
      have HX3 := Lib.hid b3
      have HN9 := Lib.hid hn9
      have hw2 := hbel2.size
      clear hkq hko ho2 b1 b2 b3 hg2 hbel2 hne hrow9 ho9 hb9 hls hev hB hbx hn9 hy1 hy2 hlx
      gi_wp2_with (gi_at_builtin; refine wpListIn_app_run rfl _ _ 25 rfl rfl rfl hrun ?_)
      have hbw := HB2.out.size
      refine ⟨((HKO.out.trans (KeepsOthers.setCell _ _ _)).trans (KeepsOthers.setCell _ _ _)).from _, (HKQ.out.set (p := ⟨w1.heap.size, 0, none⟩) ?_ (by simp only; omega) _).set (p := ⟨w1.heap.size + 1, 0, none⟩) ?_ (by simp only; omega) _, ⟨⟨A2, n9 + 1, c2, ?_, ?_, ?_⟩, ?_, ?_⟩, (HB2.out.setCell (by simp only; omega) _).setCell (by simp only; omega) _⟩
      · simp only [EntK]; omega
      · simp only [EntK]; omega
      · exact boxed_set2 (HX1.out.set _) _ (by omega)
      · rw [HY1.out, List.length_append, List.length_singleton, HN9.out]
      · rw [HY1.out]
        exact OwnF.setBelow (OwnF.setBelow HO2.out (by simp only; omega) _) (by simp only; omega) _
      · rw [HY2.out]
        exact (boxed_set2 HX2.out _ (by omega)).set _
      · exact boxed_set2 (boxed_set2 HX3.out _ (by omega)) _ (by omega)
    · obtain ⟨hy1, hy2⟩ := pick_no (every := every) (pre := pre) (x := ⟨x0, x1, x2⟩) hp0 hle
      have HY1 := Lib.hid hy1
      have HY2 := Lib.hid hy2
      obtain ⟨lx, hlx⟩ : ∃ lx, lx = leastX every pre := ⟨_, rfl⟩
      rw [← hlx] at d1 hle
      have HAL := Lib.hid (show mkC w1.heap.size (w.heap.size + 1) every pre W from ⟨⟨A9, n9, c9, hb9, hn9, ho9⟩, hls, hev⟩)
      have HBB := Lib.hid hB
      clear hy1 hy2 ho9 hb9 hls hev hB hbx hn9 hlx
      gi_wp2
      refine ⟨(KeepsOthers.refl _).from _, KeptQ.refl _ _ _, ?_, HBB.out⟩
      obtain ⟨⟨A9, n9, c9, k1, k2, k3⟩, k4, k5⟩ := HAL.out
      rw [← HY1.out] at k2 k3
      rw [← HY2.out] at k4
      exact ⟨⟨A9, n9, c9, k1, k2, k3⟩, k4, k5⟩
  case done =>
    rintro D ys W hD rfl ⟨⟨⟨A9, n9, c9, hb9, hn9, ho9⟩, hls, hev⟩, hB⟩ hK
    have HO := Lib.hid ho9
    have HBB := Lib.hid hB
    have HK := Lib.hid hK
    have d0 := hb9.cell
    clear ho9 hls hev hB hK hb9 hn9
    go_wp2
    have hrow : ∀ r, some D = some r → ∃ o : Obj, W.heap[r]? = some o ∧ o.isCells = false := fun r e => by cases e; exact ⟨_, HK.out, rfl⟩
    refine ⟨by simp, .inl ⟨_, _, rfl, run_takeDeferred HK.out, ?_⟩⟩
    refine ⟨.tuple #[.slice A9 n9 c9, .int .i64 0], by simp [results, Tryz.results7, go_sem], A9, n9, c9, rfl, ?_, ?_⟩
    · rw [HALL.out]
      exact OwnF.more (ownE_keptBy HO.out (grownBy_putObj' _ D (.deferred none)) hrow) (by omega)
    · exact HBB.out.trans (belowK_b (w := w) (Nat.le_refl _) _ D _ _ (by have := hBw.size; omega) HK.out rfl rfl)
  case stop =>
    rintro D cd pre W hD h _
    exact h.elim
end Go.Proofs.YtbnkfljkojhkoaaGreatDoor.Idx
