/- Joined: ChnL, ChnI, ChnS, ChnD. -/
import Derived.Test.YtejcjmiofidedaaGreatDoorJChnF
import Derived.Test.YtejcjmiofidedaaGreatDoorJSegS
import Derived.Test.YtejcjmiofidedaaGreatDoorRngG
import Derived.Test.YtejcjmiofidedaaGreatDoorJBatK
/- The contracts of slices.Backward, of the landed chain's last, and of what it is handed. -/
namespace Go.Proofs.YtejcjmiofidedaaGreatDoor.Chn
open Go.RowKit Go.Shelf RngQ RowL Oct Rec Crc Bat Lay Seg RowF InR

attribute [local go_sem] Oper.semAt_some

theorem Backward_any (A : Option Addr) (n c : Nat) (w : World) : Calls Tryz.prog 100 #[.slice A n c] w fun e w' => e = .returned (.func (.func 117) #[] #[.pointer (some ⟨w.heap.size, 0, none⟩)]) ∧ w.alloc (.cells #[.slice A n c] 22) = w' := by
  go_enter Tryz.func100, Tryz.ntmps100
  go_wp2
  go_ret
  exact ⟨rfl, rfl⟩
abbrev LX := GX × Nat
def encL (x : LX) : Array Value := #[.int .i64 (x.2 : Int), .agg #[.int .i64 x.1.1.base, .slice x.1.2.1 x.1.2.2.1 x.1.2.2.2]]
def LastQ (L : List Sg) (n n₀ : Nat) (pre : List LX) (x : LX) (_W0 W : World) : Prop :=
  x.2 + pre.length + 1 = n ∧ L[x.2]? = some x.1.1 ∧ Rd W n₀ x.1.2.1 x.1.2.2.1 x.1.1.bytes ∧ x.1.2.2.1 ≤ x.1.2.2.2 ∧ x.1.2.2.1 ≤ gMax ∧ I64 x.1.1.base
def bwRel (n n₀ bx : Nat) (J : List LX → World → Prop) (W : World) (iv : Value) (wr : World) : Prop :=
  ∃ pre : List LX, iv = .int .i64 ((n : Int) - 1 - (pre.length : Int)) ∧ pre.length ≤ n ∧ J pre wr ∧ Below n₀ W wr ∧ wr.cell? ⟨bx, 0, none⟩ = W.cell? ⟨bx, 0, none⟩ ∧ bx < wr.heap.size
set_option maxRecDepth 100000 in
set_option maxHeartbeats 4000000 in
theorem bw1_in (d : Nat) (hd : 2 ≤ d) (l bx n₀ : Nat) (A : Option Addr) (n c : Nat) (L : List Sg) (hn : n ≤ 1099511627776) (J Jx : List LX → World → Prop) (_hJd : ∀ s A B, J s A → Below A.heap.size A B → J s B)
    (hY : ∀ pre x W0 W1, J pre W0 → Below W0.heap.size W0 W1 → LastQ L n n₀ pre x W0 W1 → YieldAt Fence.wide (d - 1) Tryz.prog l (encL x) W1 fun e W2 =>
      (e = .returned (.bool true) ∧ J (pre ++ [x]) W2 ∧ KeptQ (SegK n₀ bx) W0.heap.size W1 W2) ∨ (e = .returned (.bool false) ∧ Jx (pre ++ [x]) W2))
    (W : World) (hR : RdG W n₀ A n L) (hn₀ : n₀ ≤ W.heap.size) (hbx : bx < W.heap.size) (hb0 : W.cell? ⟨bx, 0, none⟩ = some (.slice A n c)) (h0 : J [] W) :
    CallsIn Fence.wide d Tryz.prog 117 #[.func (.yield l) #[] #[], .pointer (some ⟨bx, 0, none⟩)] W fun e W2 => (∃ v, e = .returned v) ∧ ((∃ ys : List LX, ys.length = n ∧ J ys W2) ∨ (∃ pre : List LX, Jx pre W2)) := by
  have hd1 : 1 ≤ d := by omega
  have hd2 : 1 ≤ d - 1 := by omega
  have HR := Lib.hid hR
  have HB0 := Lib.hid hb0
  have hw1 : IntKind.i64.wrap ((n : Int) - 1) = (n : Int) - 1 := IntWalk.i64_in _ (by omega)
  clear hR
  refine callsIn_of_wp Tryz.func117 rfl trivial ?_ rfl
  simp only [Tryz.ntmps117, List.size_toArray, List.length_cons, List.length_nil, Nat.reduceAdd, Nat.reduceSub, Array.replicate_succ, Array.replicate_zero, List.push_toArray, List.append_toArray, List.nil_append, List.cons_append]
  gi_wp2
  gi_loopw [3] (fun p wr => bwRel n n₀ bx J W p wr) (fun p _ => (intOf p + 1).toNat)
  case atStart => exact ⟨[], by simp, Nat.zero_le _, h0, Below.refl _ _, rfl, hbx⟩
  case round =>
    obtain ⟨pre, rfl, hk, hJ, hB, hcl, hbxr⟩ := hrel
    have HBL := Lib.hid hB
    have HRR := Lib.hid (HR.out.below hB (Nat.le_refl _))
    have hn₀r : n₀ ≤ wr.heap.size := Nat.le_trans hn₀ hB.size
    have hc0 := hcl.trans HB0.out
    have HCL := Lib.hid hcl
    clear hB hcl hb0
    by_cases hlt : pre.length < n
    · obtain ⟨k, hkk⟩ : ∃ k : Nat, k + pre.length + 1 = n := ⟨n - 1 - pre.length, by omega⟩
      obtain ⟨i, hi⟩ : ∃ i : Int, i = (k : Int) := ⟨_, rfl⟩
      have e : (n : Int) - 1 - (pre.length : Int) = (k : Int) := by omega
      rw [e]
      obtain ⟨b, o, ⟨sb, ss⟩, A1, n1, c1, rfl, hbl, hxk, hc1, hn1, hrd, hI, c0, c1'⟩ := HRR.out.at (k := k) (by omega)
      simp only at hrd hI c0
      have hQ : LastQ L n n₀ pre ((⟨sb, ss⟩, A1, n1, c1), k) wr wr := ⟨hkk, hxk, hrd, hc1, hn1, hI⟩
      have hq1 : (0 : Int) ≤ (k : Int) := by omega
      have hq2 : (k : Int) < (n : Int) := by omega
      obtain ⟨fn, tmps, assign, body, hy, hR1⟩ := hY pre ((⟨sb, ss⟩, A1, n1, c1), k) wr wr hJ (Below.refl _ _) hQ
      dsimp only [encL] at hy
      clear e hxk hrd hQ hJ
      gi_wp2
      refine hR1.mono ?_
      rintro e W3 (⟨rfl, hJ3, hk3⟩ | ⟨rfl, hJx3⟩)
      · have HB3 := Lib.hid (HBL.out.trans (hk3.out (fun g hg => .inl hg) hn₀r))
        have HC3 := Lib.hid ((hk3.cell (p := ⟨bx, 0, none⟩) hbxr (.inl (.inr rfl))).trans HCL.out)
        have hs3 := hk3.bel.size
        have hw2 : IntKind.i64.wrap ((k : Int) - 1) = (k : Int) - 1 := IntWalk.i64_in _ (by omega)
        clear hk3
        gi_wp2
        go_roundw
        case rel => exact ⟨pre ++ [((⟨sb, ss⟩, A1, n1, c1), k)], by rw [List.length_append, List.length_singleton]; congr 1; omega, by rw [List.length_append, List.length_singleton]; omega, hJ3, HB3.out, HC3.out, Nat.lt_of_lt_of_le hbxr hs3⟩
        case measure => simp [intOf]
      · gi_wp2
        refine bodyPost_ret (results_none rfl _ _ _) rfl ?_
        exact ⟨⟨_, rfl⟩, .inr ⟨_, hJx3⟩⟩
    · have e : (n : Int) - 1 - (pre.length : Int) = -1 := by omega
      rw [e]
      gi_wp2
      go_end0
      exact ⟨⟨_, rfl⟩, .inl ⟨pre, by omega, hJ⟩⟩
theorem bw_seq (d : Nat) (hd : 2 ≤ d) (bx n₀ : Nat) (A : Option Addr) (n c : Nat) (L : List Sg) (hn : n ≤ 1099511627776) (w : World) (hn₀ : n₀ ≤ w.heap.size) (hbx : bx < w.heap.size) (hb0 : w.cell? ⟨bx, 0, none⟩ = some (.slice A n c)) (hR : RdG w n₀ A n L) :
    SeqQ Fence.wide d Tryz.prog 117 #[.pointer (some ⟨bx, 0, none⟩)] encL (SegK n₀ bx) (LastQ L n n₀) (fun ys => ys.length = n) w := fun l J Jx W hW hJ _ hY h0 =>
  bw1_in d hd l bx n₀ A n c L hn J Jx (fun s X Y hs hb => hJ s X Y none hs ⟨hb.os, hb.tape, hb.output, hb.size, fun k hk _ => hb.block k hk⟩ (fun r e => by cases e)) hY W (hR.below hW hn₀) (Nat.le_trans hn₀ hW.size) (Nat.lt_of_lt_of_le hbx hW.size) ((hW.cell (p := ⟨bx, 0, none⟩) hbx).trans hb0) h0
def lsC (N F : Nat) (xs : Array Value) (W : World) : Prop := Boxed W N 71 (.func (.func F) #[] xs) ∧ Boxed W (N + 1) 3 (.int .i64 0)
def lsI (p : Sg → Bool) (L : List Sg) (n N F : Nat) (xs : Array Value) (pre : List LX) (W : World) : Prop := lsC N F xs W ∧ ∀ j s, n ≤ j + pre.length → L[j]? = some s → p s = false
theorem lsC_own {N F : Nat} {xs : Array Value} {W X : World} {row : Option Nat} (h : lsC N F xs W) (hg : W.grownBy X row) (hrow : ∀ r, row = some r → ∃ o : Obj, W.heap[r]? = some o ∧ o.isCells = false) : lsC N F xs X := ⟨boxed_own2 h.1 hg hrow, boxed_own2 h.2 hg hrow⟩
set_option maxRecDepth 100000 in
set_option maxHeartbeats 4000000 in
theorem last_in (F : Nat) (xs : Array Value) (hF : ∀ (ys : Array Value) (w : World), (callFunc F ys).run Tryz.prog w = .ok (.enter F ys) w) (p : Sg → Bool) (A : Option Addr) (n c : Nat) (L : List Sg) (w : World) (hr : RdG w w.heap.size A n L) (hn : n ≤ 1099511627776)
    (hso : ∀ (s : Sg) (A1 : Option Addr) (n1 c1 : Nat) (w1 : World), Below w.heap.size w w1 → Rd w1 w1.heap.size A1 n1 s.bytes → n1 ≤ c1 → n1 ≤ gMax → I64 s.base → Calls Tryz.prog F (#[.agg #[.int .i64 s.base, .slice A1 n1 c1]] ++ xs) w1 fun e w2 => e = .returned (.bool (p s)) ∧ Below w1.heap.size w1 w2) :
    CallsIn Fence.wide 6 Tryz.prog 66 #[.slice A n c, .func (.func F) #[] xs] w fun e w' => e = .returned (.int .i64 ((las p L : Int) - 1)) ∧ Below w.heap.size w w' := by
  have HR := Lib.hid hr
  have HSO := Lib.hid hso
  have HL := Lib.hid hr.len
  clear hr hso
  refine callsIn_of_wp_marks Tryz.func66 rfl trivial ?_ rfl
  simp only [Tryz.ntmps66, List.size_toArray, List.length_cons, List.length_nil, Nat.reduceAdd, Nat.reduceSub, Array.replicate_succ, Array.replicate_zero, List.push_toArray, List.append_toArray, List.nil_append, List.cons_append]
  refine wpIn_wide.2 ?_
  go_wp2_with (go_at_call 100; (with_reducible refine (Backward_any A n c _).mono ?_); rintro e w' ⟨rfl, rfl⟩)
  generalize hw0 : (((w.alloc (.cells #[.func (.func F) #[] xs] 71)).alloc (.cells #[.int .i64 0] 3)).alloc (.cells #[.slice A n c] 22)) = W0
  have hsz : W0.heap.size = w.heap.size + 3 := by rw [← hw0]; simp
  have hB0 : Below w.heap.size w W0 := by rw [← hw0]; exact bel_alloc (bel_alloc (belA w _) _) _
  have hC0 : lsC w.heap.size F xs W0 := by
    rw [← hw0]
    refine ⟨((Boxed.new w _ _).alloc _).alloc _, ?_⟩
    have h := Boxed.new (w.alloc (.cells #[.func (.func F) #[] xs] 71)) 3 (.int .i64 0)
    rw [World.size_alloc] at h
    exact h.alloc _
  have hS0 : W0.heap[w.heap.size + 1 + 1]? = some (.cells #[.slice A n c] 22 (0, 0)) := by
    rw [← hw0]
    exact at0_2 w _ _ [.slice A n c] _
  clear hw0
  refine (wpIn_wide (n := 6)).1 ?_
  refine wpIn_rangeQ (F := Fence.wide) rfl (by omega) (gf := 117) (lb := #[.pointer (some ⟨w.heap.size + 1 + 1, 0, none⟩)]) rfl trivial (enters_of Tryz.func117 (by kernel_rfl) rfl)
    (bw_seq (6 - 1) (by omega) (w.heap.size + 1 + 1) w.heap.size A n c L hn W0 hB0.size (by omega) (by rw [cell_of_row _ _ _ _ _ _ hS0]; rfl) (HR.out.below hB0 (Nat.le_refl _)))
    (fun k h => by rcases h with h | h <;> omega) (Below.refl _ _) (fun _ => rfl)
    (fun pre W => lsI p L n w.heap.size F xs pre W ∧ Below w.heap.size w W)
    (fun cd pre W => cd = .ret ∧ (∃ k : Nat, Boxed W (w.heap.size + 1) 3 (.int .i64 (k : Int)) ∧ las p L = k + 1) ∧ Below w.heap.size w W)
    (OwnFrom.and (Own.from (I := fun (pre : List LX) W => lsI p L n w.heap.size F xs pre W) (fun s X Y row hs hg hrow => ⟨lsC_own hs.1 hg hrow, hs.2⟩) _) (ownFrom_below (Nat.le_refl _) hB0.size))
    (fun cd s X Y row hs hg hrow => ⟨hs.1, by obtain ⟨k, h1, h2⟩ := hs.2.1; exact ⟨k, boxed_own2 h1 hg (fun r e => (hrow r e).2), h2⟩, ownFrom_below (β := Unit) (Nat.le_refl _) hB0.size () X Y row hs.2.2 hg hrow⟩)
    ⟨⟨hC0, fun j s hj hs => by have := (List.getElem?_eq_some_iff.1 hs).1; have := HL.out; simp at hj; omega⟩, hB0⟩
    (fun pre x W1 a' W => (∃ Bx, lsI p L n w.heap.size F xs pre W ∧ At0 W Bx [.int .i64 x.1.1.base, .slice x.1.2.1 x.1.2.2.1 x.1.2.2.2] 59 ∧ (W0.heap.size ≤ Bx ∧ x.2 + pre.length + 1 = n ∧ L[x.2]? = some x.1.1 ∧ x.1.2.2.1 ≤ x.1.2.2.2 ∧ x.1.2.2.1 ≤ gMax ∧ I64 x.1.1.base) ∧ a' = { tmps := #[.slice A n c, .func (.func F) #[] xs, undef, .pointer (some ⟨w.heap.size, 0, none⟩), .pointer (some ⟨w.heap.size + 1, 0, none⟩), .int .i64 (x.2 : Int), .pointer (some ⟨Bx, 0, none⟩), .slice A n c, .func (.func 117) #[] #[.pointer (some ⟨w.heap.size + 1 + 1, 0, none⟩)], .int .i64 (x.2 : Int), (encL x)[1]!, undef, undef, undef, undef], defers := [] }) ∧ Below w.heap.size w W ∧ Rd W w.heap.size x.1.2.1 x.1.2.2.1 x.1.1.bytes)
    (fun pre x W1 a' => fun s X Y row hs hg hrow => by
      obtain ⟨⟨Bx, h1, h2, h3, h4⟩, h5, h6⟩ := hs
      exact ⟨⟨Bx, ⟨lsC_own h1.1 hg (fun r e => (hrow r e).2), h1.2⟩, h2.keptBy hg (fun r e => (hrow r e).2), h3, h4⟩, ownFrom_below (β := Unit) (Nat.le_refl _) hB0.size () X Y row h5 hg hrow, ⟨h6.1, fun k c hk => by obtain ⟨b, o, e1, e2, e3⟩ := h6.2 k c hk; exact ⟨b, o, e1, e2, cell_kept e3 hg (fun r e => (hrow r e).2)⟩⟩⟩)
    ?assign ?body ?done ?stop
  case assign =>
    rintro l pre ⟨⟨⟨sb, ss⟩, A1, n1, c1⟩, k⟩ W1 W G hs1 ⟨⟨hC, hno⟩, hB⟩ hbel ⟨q1, q2, q3, q4, q5, q6⟩ hG
    dsimp only [encL]
    gi_wp2
    have hbA := belA W (.cells #[.int .i64 sb, .slice A1 n1 c1] 59)
    exact hG _ _ ((KeepsOthers.alloc _ _).from _) ((KeptQ.refl _ _ _).alloc _) ⟨⟨W.heap.size, ⟨⟨boxed_below (boxed_below hC.1 hbel) hbA, boxed_below (boxed_below hC.2 hbel) hbA⟩, hno⟩, At0.new W [.int .i64 sb, .slice A1 n1 c1] _, ⟨Nat.le_trans hs1 hbel.size, q1, q2, q4, q5, q6⟩, rfl⟩, bel_trans (bel_trans hB hbel) hbA, q3.below hbA (Nat.le_trans (Nat.le_trans hB0.size hs1) hbel.size)⟩
  case body =>
    rintro l pre ⟨⟨⟨sb, ss⟩, A1, n1, c1⟩, k⟩ W1 a' W ⟨⟨Bx, ⟨hC, hno⟩, hAt, ⟨hBx, q1, q2, q4, q5, q6⟩, rfl⟩, hB, hrd⟩
    have b0 := hC.1.cell
    have b1 := hC.2.cell
    have x0 : W.cell? ⟨Bx, 0, none⟩ = some (.int .i64 sb) := hAt.cell 0
    have x1 : W.cell? ⟨Bx, 1, none⟩ = some (.slice A1 n1 c1) := hAt.cell 1
    have HCALL := Lib.hid (HSO.out ⟨sb, ss⟩ A1 n1 c1 W hB (hrd.more hB.size) q4 q5 q6)
    dsimp only [encL]
    gi_wp2
    refine ⟨trivial, (CallsIn.inRound l (callsIn_wide.2 HCALL.out)).mono ?_⟩
    rintro e w4 ⟨rfl, hb4⟩
    have hKF : KeepsFrom W0.heap.size W w4 := (below_others hb4).from _
    have hKQ : KeptQ (SegK w.heap.size (w.heap.size + 1 + 1)) W1.heap.size W w4 := (KeptQ.refl _ _ _).below hb4
    have hC4 : lsC w.heap.size F xs w4 := ⟨boxed_below hC.1 hb4, boxed_below hC.2 hb4⟩
    have HB4 := Lib.hid (bel_trans hB hb4)
    have HP := Lib.hid (show p ⟨sb, ss⟩ = p ⟨sb, ss⟩ from rfl)
    clear b0 b1 x0 x1 hb4 hAt hrd hC hB
    rcases hp : p ⟨sb, ss⟩ with _ | _
    · gi_wp2
      refine ⟨hKF, hKQ, ⟨hC4, fun j s hj hs => ?_⟩, HB4.out⟩
      rw [List.length_append, List.length_singleton] at hj
      by_cases h : n ≤ j + pre.length
      · exact hno j s h hs
      · obtain rfl : j = k := by omega
        rw [q2] at hs
        obtain rfl := Option.some.inj hs
        exact hp
    · have d1 := hC4.2.cell
      have d2 := hC4.2.frozen
      have hlas := las_hit (p := p) q2 hp fun j s hj hs => hno j s (by omega) hs
      gi_wp2
      exact ⟨hKF.trans ((KeepsOthers.setCell _ _ _).from _), rfl, ⟨k, hC4.2.set _, hlas⟩, HB4.out.setCell (by simp) _⟩
  case done =>
    rintro D ys W hD hys ⟨⟨hC, hno⟩, hB⟩ hK
    have hz : las p L = 0 := las_none fun s hs => by
      obtain ⟨j, hj⟩ := List.mem_iff_getElem?.1 hs
      exact hno j s (by omega) hj
    have HZ := Lib.hid hz
    clear hz
    have d1 := hC.2.cell
    have d2 := hC.2.frozen
    have HB := Lib.hid hB
    have HK := Lib.hid hK
    have HC := Lib.hid hC.2
    clear hB hK hC hno
    go_wp2
    have hK' := (KeepsOthers.setCell W ⟨w.heap.size + 1, 0, none⟩ (.int .i64 (-1))).same D _ HK.out rfl
    have r1 := cell_kept (HC.out.set (.int .i64 (-1))).cell (grownBy_putObj' _ D (.deferred none)) (fun r e => by cases e; exact ⟨_, hK', rfl⟩)
    refine ⟨by simp, .inl ⟨_, _, rfl, run_takeDeferred hK', ?_⟩⟩
    refine ⟨.int .i64 (-1), by simp [results, Tryz.results66, go_sem, r1], by rw [HZ.out]; rfl, ?_⟩
    exact (HB.out.setCell (by simp) _).trans (belowK_b (w := w) (Nat.le_refl _) _ D _ _ (by omega) hK' rfl rfl)
  case stop =>
    rintro D cd pre W hD ⟨rfl, ⟨k, hbx, hlas⟩, hB⟩ hK
    have HZ := Lib.hid hlas
    clear hlas
    have HB := Lib.hid hB
    have HK := Lib.hid hK
    have HC := Lib.hid hbx
    clear hB hK hbx
    gi_wp2
    have r1 := cell_kept HC.out.cell (grownBy_putObj' _ D (.deferred none)) (fun r e => by cases e; exact ⟨_, HK.out, rfl⟩)
    refine ⟨by simp, .inl ⟨_, _, rfl, run_takeDeferred HK.out, ?_⟩⟩
    refine ⟨.int .i64 (k : Int), by simp [results, Tryz.results66, go_sem, r1], by rw [HZ.out]; congr 2; omega, ?_⟩
    exact HB.out.trans (belowK_b (w := w) (Nat.le_refl _) _ D _ _ (by omega) HK.out rfl rfl)
theorem lastC (F : Nat) (xs : Array Value) (hF : ∀ (ys : Array Value) (w : World), (callFunc F ys).run Tryz.prog w = .ok (.enter F ys) w) (p : Sg → Bool) (A : Option Addr) (n c : Nat) (L : List Sg) (w : World) (hr : RdG w w.heap.size A n L) (hn : n ≤ 1099511627776)
    (hso : ∀ (s : Sg) (A1 : Option Addr) (n1 c1 : Nat) (w1 : World), Below w.heap.size w w1 → Rd w1 w1.heap.size A1 n1 s.bytes → n1 ≤ c1 → n1 ≤ gMax → I64 s.base → Calls Tryz.prog F (#[.agg #[.int .i64 s.base, .slice A1 n1 c1]] ++ xs) w1 fun e w2 => e = .returned (.bool (p s)) ∧ Below w1.heap.size w1 w2) {m : Nat} (hm : las p L = m) :
    Calls Tryz.prog 66 #[.slice A n c, .func (.func F) #[] xs] w fun e w' => e = .returned (.int .i64 ((m : Int) - 1)) ∧ Below w.heap.size w w' := hm ▸ callsIn_wide.1 (last_in F xs hF p A n c L w hr hn hso)
theorem cutAt_any (g : Nat) (v : Int) (w : World) (s : Sg) (A1 : Option Addr) (n1 c1 : Nat) (w1 : World) (h : w.cell? ⟨g, 0, none⟩ = some (.int .i64 v)) (hb : Below w.heap.size w w1) :
    Calls Tryz.prog 67 (#[.agg #[.int .i64 s.base, .slice A1 n1 c1]] ++ #[.pointer (some ⟨g, 0, none⟩)]) w1 fun e w2 => e = .returned (.bool (decide (s.base < v))) ∧ Below w1.heap.size w1 w2 := by
  have hlt := World.block_lt_of_cell? w _ h
  have h1 := (hb.cell (p := ⟨g, 0, none⟩) hlt).trans h
  have hlt1 := World.block_lt_of_cell? w1 _ h1
  simp only at hlt1
  show Calls Tryz.prog 67 #[.agg #[.int .i64 s.base, .slice A1 n1 c1], .pointer (some ⟨g, 0, none⟩)] w1 _
  go_enter Tryz.func67, Tryz.ntmps67
  go_wp2
  go_ret
  exact ⟨rfl, belA w1 _⟩
theorem atMost_any (g : Nat) (v : Int) (w : World) (s : Sg) (A1 : Option Addr) (n1 c1 : Nat) (w1 : World) (h : w.cell? ⟨g, 0, none⟩ = some (.int .i64 v)) (hb : Below w.heap.size w w1) :
    Calls Tryz.prog 87 (#[.agg #[.int .i64 s.base, .slice A1 n1 c1]] ++ #[.pointer (some ⟨g, 0, none⟩)]) w1 fun e w2 => e = .returned (.bool (decide (s.base ≤ v))) ∧ Below w1.heap.size w1 w2 := by
  have hlt := World.block_lt_of_cell? w _ h
  have h1 := (hb.cell (p := ⟨g, 0, none⟩) hlt).trans h
  have hlt1 := World.block_lt_of_cell? w1 _ h1
  simp only at hlt1
  show Calls Tryz.prog 87 #[.agg #[.int .i64 s.base, .slice A1 n1 c1], .pointer (some ⟨g, 0, none⟩)] w1 _
  go_enter Tryz.func87, Tryz.ntmps87
  go_wp2
  go_ret
  exact ⟨rfl, belA w1 _⟩
def tb_Trim11 : List (Nat × Nat) := [(0, 31), (1, 30), (0, 31), (6, 25), (15, 23)]
set_option maxRecDepth 100000 in
set_option maxHeartbeats 2000000 in
theorem endAt_any (g : Nat) (v : Int) (w : World) (s : Sg) (A1 : Option Addr) (n1 c1 : Nat) (w1 : World) (h : w.cell? ⟨g, 0, none⟩ = some (.int .i64 v)) (hb : Below w.heap.size w w1) (hr : Rd w1 w1.heap.size A1 n1 s.bytes) (hc : n1 ≤ c1) (hn : n1 ≤ gMax) (hI : I64 s.base) (ht : Tab w) :
    Calls Tryz.prog 72 (#[.agg #[.int .i64 s.base, .slice A1 n1 c1]] ++ #[.pointer (some ⟨g, 0, none⟩)]) w1 fun e w2 => e = .returned (.bool (decide (endS s ≤ v))) ∧ Below w1.heap.size w1 w2 := by
  obtain ⟨sb, ss⟩ := s
  have hlt := World.block_lt_of_cell? w _ h
  have h1 := (hb.cell (p := ⟨g, 0, none⟩) hlt).trans h
  have hlt1 := World.block_lt_of_cell? w1 _ h1
  simp only at hlt1 hr hI
  have hn1' : n1 ≤ 137438953472 := by unfold gMax at hn; omega
  obtain ⟨E, hE⟩ : ∃ E, endS ⟨sb, ss⟩ = E := ⟨_, rfl⟩
  have hbA := belA w1 (.cells #[.int .i64 sb, .slice A1 n1 c1] 59)
  have HE := Lib.hid hE
  have HR_0 := Lib.hid (rdUp hr hbA)
  have HT_0 := Lib.hid ((ht.bel hb).bel hbA)
  have HB_0 := Lib.hid hbA
  have HX_0 := Lib.hid (At0.new w1 [.int .i64 sb, .slice A1 n1 c1] 59)
  have HG_0 := Lib.hid (show At1 (w1.alloc (.cells #[.int .i64 sb, .slice A1 n1 c1] 59)) g [.int .i64 v] from ⟨by simp; omega, fun j u hj => by match j, hj with | 0, hj => obtain rfl := Option.some.inj hj; exact (hbA.cell (p := ⟨g, 0, none⟩) hlt1).trans h1⟩)
  have hmx : Tryz.prog.follows .mixedOrders = true := by kernel_rfl
  rw [hE]
  clear hr ht hb h h1 hlt hE hbA
  show Calls Tryz.prog 72 #[.agg #[.int .i64 sb, .slice A1 n1 c1], .pointer (some ⟨g, 0, none⟩)] w1 _
  go_enter Tryz.func72, Tryz.ntmps72
  go_wp2
  have hbd := (Below.refl (w1.alloc (.cells #[.int .i64 sb, .slice A1 n1 c1] 59)).heap.size (w1.alloc (.cells #[.int .i64 sb, .slice A1 n1 c1] 59))).drew
  have HB_R1 := Lib.hid (bel_trans HB_0.out hbd)
  have HX_R1 := Lib.hid (HX_0.out.below hbd)
  have HG_R1 := Lib.hid (HG_0.out.below hbd)
  have HR_R1 := Lib.hid (rdUp HR_0.out hbd)
  have HT_R1 := Lib.hid (HT_0.out.bel hbd)
  have HSR1 := Lib.hid (show (fun W9 : World => W9.cell? ⟨w1.heap.size, 0, none⟩ = some (.int .i64 sb) ∧ W9.cell? ⟨w1.heap.size, 1, none⟩ = some (.slice A1 n1 c1) ∧ W9.cell? ⟨g, 0, none⟩ = some (.int .i64 v)) (w1.alloc (.cells #[.int .i64 sb, .slice A1 n1 c1] 59)).drew from ⟨HX_R1.out.cell 0, HX_R1.out.cell 1, HG_R1.out.2 0 _ rfl⟩)
  clear hbd
  refine region_let (fun W9 : World => W9.cell? ⟨w1.heap.size, 0, none⟩ = some (.int .i64 sb) ∧ W9.cell? ⟨w1.heap.size, 1, none⟩ = some (.slice A1 n1 c1) ∧ W9.cell? ⟨g, 0, none⟩ = some (.int .i64 v)) 99 5 hmx rfl fun ops Q HOPS HQ => ?_
  have HREG := reg_of HOPS tb_Trim11 rfl (by kernel_rfl) (by kernel_rfl) (by decide)
  refine xq 0 HOPS HREG HSR1.out ?_; simp only [ls0, ls1]; refine xq 2 HOPS HREG HSR1.out ?_; simp only [ls0, ls1]
  refine xc 1 HOPS ?_
  go_simp
  with_reducible refine (Seg.End_is HE.out HR_R1.out hc hn1' hI HT_R1.out).mono ?_
  rintro e w4 ⟨rfl, hb⟩
  have HB_4 := Lib.hid (bel_trans HB_R1.out hb)
  have HX_4 := Lib.hid (HX_R1.out.below hb)
  have HG_4 := Lib.hid (HG_R1.out.below hb)
  have HR_4 := Lib.hid (rdUp HR_R1.out hb)
  have HT_4 := Lib.hid (HT_R1.out.bel hb)
  have HSR1w4 := Lib.hid (show (fun W9 : World => W9.cell? ⟨w1.heap.size, 0, none⟩ = some (.int .i64 sb) ∧ W9.cell? ⟨w1.heap.size, 1, none⟩ = some (.slice A1 n1 c1) ∧ W9.cell? ⟨g, 0, none⟩ = some (.int .i64 v)) w4 from ⟨HX_4.out.cell 0, HX_4.out.cell 1, HG_4.out.2 0 _ rfl⟩)
  clear hb
  refine ⟨HSR1w4.out, ?_⟩
  refine xq 3 HOPS HREG HSR1w4.out ?_; simp only [ls0, ls1]; refine xq 4 HOPS HREG HSR1w4.out ?_; simp only [ls0, ls1]
  refine stepE HOPS (by kernel_rfl) (HQ.out _ _ ?_)
  clear HQ HREG HOPS
  clear Q ops
  go_wp2
  go_ret
  exact ⟨rfl, HB_4.out⟩
end Go.Proofs.YtejcjmiofidedaaGreatDoor.Chn

/- The landed chain's batches: the maker, and the iterator. -/
namespace Go.Proofs.YtejcjmiofidedaaGreatDoor.Chn
open Go.RowKit Go.Shelf RngQ RowL Oct Rec Crc Bat Lay Seg RowF InR

attribute [local go_sem] Oper.semAt_some

theorem batchesC (lim start : Int) (A : Option Addr) (n c : Nat) (off : Int) (w : World) : Calls Tryz.prog 55 #[.agg #[.int .i64 lim, .int .i64 start, .slice A n c], .int .i64 off] w fun e w' => e = .returned (.func (.func 86) #[] #[.pointer (some ⟨w.heap.size, 0, none⟩), .pointer (some ⟨w.heap.size + 1, 0, none⟩)]) ∧ (w.alloc (.cells #[.int .i64 lim, .int .i64 start, .slice A n c] 24)).alloc (.cells #[.int .i64 off] 3) = w' := by
  go_enter Tryz.func55, Tryz.ntmps55
  go_wp2
  go_ret
  exact ⟨rfl, rfl⟩
def encB (x : BX) : Array Value := #[.agg #[.int .i64 x.1.base, .int .i64 x.1.last, .int .i64 x.1.frm, .int .i64 x.1.epoch, .int .i64 x.1.pid, .int .i64 x.1.gen, .int .i64 x.1.seq, .bool x.1.txn, .int .i64 x.1.ctl, .slice x.2.1 x.2.2.1 x.2.2.2]]
def ItK (n₀ bl bf : Nat) (g : Nat) : Prop := g < n₀ ∨ g = bl ∨ g = bf
def ItQ (T : List Bt) (m : Nat) (G : Nat → Prop) (pre : List BX) (x : BX) (W : World) : Prop := (∃ rest, T = pre.map (·.1) ++ x.1 :: rest) ∧ chB x.1 = 0 ∧ LeadT W (fun b => G b ∧ m ≤ b) none x
structure KpK (K : Nat → Prop) (W X : World) : Prop where
  bel : Below 0 W X
  same : ∀ g, g < W.heap.size → K g → X.heap[g]? = W.heap[g]?
section
variable {K G : Nat → Prop} {W X Y : World} {m : Nat}
theorem KpK.of_below (h : Below W.heap.size W X) : KpK K W X := ⟨h.mono (Nat.zero_le _), fun g hg _ => h.block g hg⟩
theorem KpK.below (h : KpK K W X) (hb : Below X.heap.size X Y) : KpK K W Y := ⟨h.bel.trans (hb.mono (Nat.zero_le _)), fun g hg hk => (hb.block g (Nat.lt_of_lt_of_le hg h.bel.size)).trans (h.same g hg hk)⟩
theorem KpK.kept (h : KpK K W X) (hk : KeptQ G m X Y) (hKG : ∀ g, K g → G g) : KpK K W Y := ⟨h.bel.trans hk.bel, fun g hg hg2 => (hk.same g (Nat.lt_of_lt_of_le hg h.bel.size) (.inl (hKG g hg2))).trans (h.same g hg hg2)⟩
theorem KpK.cell (h : KpK K W X) {p : Addr} (hp : p.block < W.heap.size) (hk : K p.block) : X.cell? p = W.cell? p := World.cell?_of_block (h.same _ hp hk)
theorem KpK.out {n : Nat} (h : KpK K W X) (hK : ∀ g, g < n → K g) (hn : n ≤ W.heap.size) : Below n W X := ⟨h.bel.os, h.bel.tape, h.bel.output, h.bel.size, fun g hg => h.same g (by omega) (hK g hg)⟩
def RdH (W : World) (G : Nat → Prop) (A : Option Addr) (n : Nat) (l : List Bt) : Prop :=
  l.length = n ∧ ∀ k x, l[k]? = some x → ∃ b o A' n' c', A = some ⟨b, o, none⟩ ∧ b < W.heap.size ∧ G b ∧ LeadT W G none (x, A', n', c') ∧ ∀ i u, (batC (x, A', n', c'))[i]? = some u → W.cell? ⟨b, o + k * 10 + i, none⟩ = some u
variable {A : Option Addr} {n c : Nat} {l : List Bt} {G' : Nat → Prop}
theorem LeadT.mono' {P P' : Nat → Prop} {x : BX} (h : LeadT W P none x) (hl : ∀ b, P b → P' b) : LeadT W P' none x := ⟨h.1, h.2.1, h.2.2.1, h.2.2.2.1, fun a ha hn => ⟨hl _ (h.2.2.2.2 a ha hn).1, by simp⟩⟩
theorem RdH.mono (h : RdH W G A n l) (hl : ∀ b, G b → G' b) : RdH W G' A n l := ⟨h.1, fun k x hx => by obtain ⟨b, o, A', n', c', h1, h2, h3, h4, h5⟩ := h.2 k x hx; exact ⟨b, o, A', n', c', h1, h2, hl b h3, LeadT.mono' h4 hl, h5⟩⟩
theorem RdH.below (h : RdH W G A n l) (hb : Below W.heap.size W X) : RdH X G A n l := ⟨h.1, fun k x hx => by obtain ⟨b, o, A', n', c', h1, h2, h3, h4, h5⟩ := h.2 k x hx; exact ⟨b, o, A', n', c', h1, Nat.lt_of_lt_of_le h2 hb.size, h3, h4.below hb, fun i u hu => (hb.cell h2).trans (h5 i u hu)⟩⟩
theorem RdH.kept (h : RdH W G A n l) (hk : KeptQ G' m W X) (hl : ∀ b, G b → G' b) : RdH X G A n l := ⟨h.1, fun k x hx => by
  obtain ⟨b, o, A', n', c', h1, h2, h3, h4, h5⟩ := h.2 k x hx
  exact ⟨b, o, A', n', c', h1, Nat.lt_of_lt_of_le h2 hk.bel.size, h3, h4.keep hk.bel.size (fun b o hb hP _ => hk.cell (p := ⟨b, o, none⟩) hb (.inl (hl b hP))), fun i u hu => (hk.cell (p := ⟨b, _, none⟩) h2 (.inl (hl b h3))).trans (h5 i u hu)⟩⟩
theorem rdH_of {e : TypeId} {B : Nat} (h : OwnT X e (fun b => B ≤ b) B (.slice A n c) n l) (hG : ∀ g, B ≤ g → g < X.heap.size → G g) : RdH X G A n l := by
  obtain ⟨hs, h1, rfl, h3⟩ := h
  refine ⟨by rw [List.length_map]; exact h1.len Bat.batS, fun i x hl => ?_⟩
  rw [List.getElem?_map] at hl
  cases hx : hs[i]? with
  | none => rw [hx] at hl; cases hl
  | some y =>
    rw [hx] at hl
    obtain rfl : y.1 = x := Option.some.inj hl
    obtain ⟨b, o, hA, hb, hcell⟩ := (h1.rd Bat.batS).2 i _ hx
    obtain ⟨k1, k2, k3, k4, k5⟩ := h3 y (List.mem_of_getElem? hx)
    have hlt := World.ownsRow.lt h1 b (by rw [hA]; rcases h1.2 with ⟨hv, hz⟩ | ⟨g, cap, cur, hv, _⟩
                                          · have := (List.getElem?_eq_some_iff.1 hx).1; have := h1.len Bat.batS; omega
                                          · injection hv with h9; rw [hA] at h9; injection h9 with h9; injection h9 with h9 h10; subst h9 h10; rfl)
    refine ⟨b, o, y.2.1, y.2.2.1, y.2.2.2, hA, hb, hG b hlt.1 hb, ⟨k1, k2, k3, k4, fun a ha hn => ⟨hG _ (k5 a ha hn).1 ?_, by simp⟩⟩, hcell⟩
    obtain ⟨g, o', r, hA', hg, _⟩ := k1.at (k := 0) hn
    rw [ha] at hA'
    obtain rfl := Option.some.inj hA'
    exact hg
end
def itR1 (off : Int) (L : List Sg) (N n₀ bl bf _m : Nat) (J : (Nat → Prop) → List BX → World → Prop) (W : World) (v : Value) (wr : World) : Prop :=
  ∃ (j : Nat) (G : Nat → Prop) (pre : List BX), v = .int .i64 (j : Int) ∧ j ≤ N ∧ pre.map (·.1) = ((L.take j).flatMap Seg.batS).filter (fun b => decide (off ≤ b.last)) ∧ J G pre wr ∧ (∀ g, ItK n₀ bl bf g → G g) ∧ KpK (ItK n₀ bl bf) W wr
def itR2 (off : Int) (P0 l2 : List Bt) (n2 n₀ bl bf m : Nat) (A2 : Option Addr) (J : (Nat → Prop) → List BX → World → Prop) (W : World) (v : Value) (wr : World) : Prop :=
  ∃ (k : Nat) (G : Nat → Prop) (pre : List BX), v = .int .i64 (k : Int) ∧ k ≤ n2 ∧ pre.map (·.1) = P0 ++ (l2.take k).filter (fun b => decide (off ≤ b.last)) ∧ J G pre wr ∧ (∀ g, ItK n₀ bl bf g → G g) ∧ KpK (ItK n₀ bl bf) W wr ∧ RdH wr (fun b => G b ∧ m ≤ b) A2 n2 l2
theorem plus_le {G : Nat → Prop} {A B : World} (g : Nat) (h : G g) : plus G A B g := .inl h
theorem next_it {off : Int} {L : List Sg} {j k : Nat} {s : Sg} {l2 P2 : List Bt} {x : Bt} (hj : L[j]? = some s) (h2 : Seg.batS s = l2) (hk : l2[k]? = some x) (hx : off ≤ x.last) (hp : P2 = ((L.take j).flatMap Seg.batS).filter (fun b => decide (off ≤ b.last)) ++ (l2.take k).filter (fun b => decide (off ≤ b.last))) :
    ∃ rest, (L.flatMap Seg.batS).filter (fun b => decide (off ≤ b.last)) = P2 ++ x :: rest := by
  have e1 := split_at hj
  have e2 : l2 = l2.take k ++ x :: l2.drop (k + 1) := by conv => lhs; rw [← List.take_append_drop k l2]
                                                         rw [drop_at hk]
  refine ⟨(l2.drop (k + 1)).filter (fun b => decide (off ≤ b.last)) ++ ((L.drop (j + 1)).flatMap Seg.batS).filter (fun b => decide (off ≤ b.last)), ?_⟩
  conv => lhs; rw [e1]
  rw [List.flatMap_append, List.flatMap_cons, h2, List.filter_append, List.filter_append]
  conv => lhs; rw [e2]
  rw [List.filter_append, List.filter_cons_of_pos (by simpa using hx), hp]
  simp
theorem take_it {off : Int} {L : List Sg} {j : Nat} {s : Sg} {l2 : List Bt} (hj : L[j]? = some s) (h2 : Seg.batS s = l2) : ((L.take (j + 1)).flatMap Seg.batS).filter (fun b => decide (off ≤ b.last)) = ((L.take j).flatMap Seg.batS).filter (fun b => decide (off ≤ b.last)) ++ l2.filter (fun b => decide (off ≤ b.last)) := by
  rw [List.take_add_one, hj, List.flatMap_append, List.filter_append]
  simp [h2]
theorem take_f {off : Int} {l2 : List Bt} {k : Nat} {x : Bt} (hk : l2[k]? = some x) : (l2.take (k + 1)).filter (fun b => decide (off ≤ b.last)) = (l2.take k).filter (fun b => decide (off ≤ b.last)) ++ if off ≤ x.last then [x] else [] := by
  rw [List.take_add_one, hk, List.filter_append]
  by_cases h : off ≤ x.last
  · rw [if_pos h]; simp [h]
  · rw [if_neg h]; simp [h]
set_option maxRecDepth 100000 in
set_option maxHeartbeats 8000000 in
theorem it1_in (d : Nat) (hd : 2 ≤ d) (l bl bf n₀ m : Nat) (_lim _start off : Int) (A : Option Addr) (n c : Nat) (L : List Sg) (hn : n ≤ 1000000) (hc : n ≤ c) (hn0 : 0 < n) (J : (Nat → Prop) → List BX → World → Prop) (Jx : List BX → World → Prop)
    (hJp : ∀ G A B ys, J G ys A → Below A.heap.size A B → J (plus G A B) ys B)
    (hY : ∀ G pre x W0, J G pre W0 → ItQ (itB off L) m G pre x W0 → YieldAt Fence.wide (d - 1) Tryz.prog l (encB x) W0 fun e W2 => (e = .returned (.bool true) ∧ J G (pre ++ [x]) W2 ∧ KeptQ G W0.heap.size W0 W2) ∨ (e = .returned (.bool false) ∧ Jx (pre ++ [x]) W2))
    (W : World) (hR : RdG W n₀ A n L) (hn₀ : n₀ ≤ W.heap.size) (hm : m ≤ W.heap.size) (hbl : bl < W.heap.size) (hbf : bf < W.heap.size) (hb2 : W.cell? ⟨bl, 2, none⟩ = some (.slice A n c)) (hf0 : W.cell? ⟨bf, 0, none⟩ = some (.int .i64 off)) (ht : Tab W) (hnt : 0 < n₀) (h0 : J (ItK n₀ bl bf) [] W) :
    CallsIn Fence.wide d Tryz.prog 86 #[.func (.yield l) #[] #[], .pointer (some ⟨bl, 0, none⟩), .pointer (some ⟨bf, 0, none⟩)] W fun e W2 => (∃ v, e = .returned v) ∧ ((∃ ys : List BX, ys.map (·.1) = itB off L ∧ ∃ G, J G ys W2) ∨ (∃ pre : List BX, Jx pre W2)) := by
  have hd1 : 1 ≤ d := by omega
  have hd2 : 1 ≤ d - 1 := by omega
  have HR := Lib.hid hR
  have HT := Lib.hid ht
  have HB2 := Lib.hid hb2
  have HF0 := Lib.hid hf0
  have HL := Lib.hid hR.len
  have HJP := Lib.hid hJp
  have HY := Lib.hid hY
  obtain ⟨b, o, _, _, _, _, rfl, _⟩ := hR.at hn0
  obtain ⟨la, hla⟩ : ∃ la, las (fun s => decide (s.base ≤ off)) L = la := ⟨_, rfl⟩
  have hlan : la ≤ n := by have := las_le (fun s : Sg => decide (s.base ≤ off)) L; have := hR.len; omega
  obtain ⟨s, hs⟩ : ∃ s, s = la - 1 := ⟨_, rfl⟩
  have hIT : itB off L = ((L.drop s).flatMap Seg.batS).filter fun b => decide (off ≤ b.last) := by unfold itB itN; rw [hla, hs]
  have hsn : s < n := by omega
  have hcs : ¬ c = s := by omega
  have HLA := Lib.hid hla
  have HIT := Lib.hid hIT
  obtain ⟨q, hq⟩ : ∃ q : Int, q = (la : Int) - 1 := ⟨_, rfl⟩
  have hmx : (if q < 0 then (0 : Int) else q) = (s : Int) := by split <;> omega
  have HQ := Lib.hid hq
  have hs1 : (s : Int) ≤ (n : Int) := by omega
  clear hR ht hla hIT hJp hY hq hs
  refine callsIn_of_wp Tryz.func86 rfl trivial ?_ rfl
  simp only [Tryz.ntmps86, List.size_toArray, List.length_cons, List.length_nil, Nat.reduceAdd, Nat.reduceSub, Array.replicate_succ, Array.replicate_zero, List.push_toArray, List.append_toArray, List.nil_append, List.cons_append]
  refine wpIn_wide.2 ?_
  go_wp2_with (go_at_call 66; (with_reducible refine (lastC 87 #[.pointer (some ⟨bf, 0, none⟩)] (fun ys w => by go_simp) (fun s => decide (s.base ≤ off)) (some ⟨b, o, none⟩) n c L W ((HR.out).more hn₀) (by omega) (fun s A1 n1 c1 w1 hb _ _ _ _ => atMost_any bf off W s A1 n1 c1 w1 HF0.out hb) HLA.out).mono ?_); rintro e w1 ⟨rfl, hb⟩; rw [← HQ.out]; have k2 := (hb.cell (p := ⟨bl, 2, none⟩) hbl).trans HB2.out; have HB1 := Lib.hid hb; clear hb)
  have HJ1 := Lib.hid (HJP.out _ _ _ _ h0 HB1.out)
  have hG1 : ∀ g, ItK n₀ bl bf g → plus (ItK n₀ bl bf) W w1 g := fun g h => plus_le g h
  have HD := Lib.hid (HR.out.drop (m := s) (by omega) (A' := some ⟨b, o + s * 2, none⟩) (fun _ => by simp [Addr.add]))
  have hN : n - s ≤ 1000000 := by omega
  obtain ⟨N, hNN⟩ : ∃ N, N = n - s := ⟨_, rfl⟩
  obtain ⟨L', hL'⟩ : ∃ L', L' = L.drop s := ⟨_, rfl⟩
  rw [← hNN] at HD hN ⊢
  rw [← hL'] at HD HIT
  clear h0 hmx hs1 hb2 hf0 hlan k2 hNN hL'
  refine (wpIn_wide (n := d)).1 ?_
  gi_loopw [21] (fun v wr => itR1 off L' N n₀ bl bf m J W v wr) (fun v _ => N - (intOf v).toNat)
  case atStart => exact ⟨0, _, [], rfl, Nat.zero_le _, rfl, HJ1.out, hG1, KpK.of_below HB1.out⟩
  case round =>
    obtain ⟨j, G, pre, rfl, hj, hpre, hJ, hG, hK⟩ := hrel
    have HK := Lib.hid hK
    have hBn := hK.out (n := n₀) (fun g hg => .inl hg) hn₀
    have HRR := Lib.hid (HD.out.below hBn (Nat.le_refl _))
    have HTT := Lib.hid (HT.out.below hBn hnt)
    have hsz := hK.bel.size
    have HPRE := Lib.hid hpre
    have HJ := Lib.hid hJ
    clear hK hBn hpre hJ
    by_cases hlt : j < N
    · obtain ⟨b', o', ⟨sb, ss⟩, A1, n1, c1, hA, hbl', hxk, hc1, hn1, hrd, hI, c0, c1'⟩ := HRR.out.at hlt
      obtain ⟨rfl, rfl⟩ : b = b' ∧ o + s * 2 = o' := by injection hA with h; injection h with h1 h2; exact ⟨h1, h2⟩
      simp only at hrd hI c0
      have hbr : b < wr.heap.size := by omega
      have hn1' : n1 ≤ 137438953472 := by unfold gMax at hn1; omega
      obtain ⟨l2, g2, hsc⟩ : ∃ l2 g2, sc sb ss = (l2, g2) := ⟨_, _, rfl⟩
      have hgood := sc_good sb ss
      rw [hsc] at hgood
      have hl2 : l2.length ≤ 1000000 := by have h1 := byR_ge l2; have := hrd.len; unfold gMax at hn1; simp only at hgood; omega
      have HCH := Lib.hid (show ∀ x ∈ l2, chB x = 0 from fun x hx => (ris_ge hgood.1 x hx).2)
      have HSC := Lib.hid hsc
      have HBX := Lib.hid (belA wr (.cells #[.int .i64 sb, .slice A1 n1 c1] 59))
      have HRD := Lib.hid (rd_to hrd (Nat.le_trans hn₀ hsz) HBX.out)
      have HTA := Lib.hid (HTT.out.bel HBX.out)
      have HX := Lib.hid hxk
      have HST := Lib.hid (show Seg.batS ⟨sb, ss⟩ = l2 by unfold Seg.batS; simp only [hsc])
      clear hrd hsc hgood hxk hA
      gi_wp2_with (refine ⟨trivial, ?_⟩; gi_at_call 43; refine (callsIn_wide.2 (Scan_is HSC.out HRD.out hc1 hn1' hI HTA.out)).mono ?_; rintro e w5 ⟨A5, n5, c5, rfl, ho5, hb5⟩; have HO5 := Lib.hid ho5; have HB5 := Lib.hid (bel_trans HBX.out hb5); have hln5 := ho5.len; clear ho5 hb5)
      obtain ⟨wa, hwa⟩ : ∃ wa, wa = wr := ⟨_, rfl⟩
      subst hwa
      have hs5 := HB5.out.size
      have HH5 := Lib.hid (show RdH w5 (fun g => plus G wa w5 g ∧ m ≤ g) A5 n5 l2 from rdH_of HO5.out fun g hg hg2 => by simp only [World.size_alloc] at hg; exact ⟨.inr ⟨by omega, hg2⟩, by omega⟩)
      gi_loopw [32] (fun v wr2 => itR2 off (pre.map (·.1)) l2 n5 n₀ bl bf m A5 J W v wr2) (fun v _ => n5 - (intOf v).toNat)
      case atStart => exact ⟨0, _, pre, rfl, Nat.zero_le _, by simp, HJP.out _ _ _ _ HJ.out HB5.out, fun g hg => plus_le g (hG g hg), HK.out.below HB5.out, HH5.out⟩
      case round =>
        obtain ⟨k, G2, pre2, rfl, hk, hpre2, hJ2, hG2, hK2, hH2⟩ := hrel
        have HK2 := Lib.hid hK2
        have HP2 := Lib.hid hpre2
        have HJ2 := Lib.hid hJ2
        have HH2 := Lib.hid hH2
        have hfw : bf < wr.heap.size := Nat.lt_of_lt_of_le hbf hK2.bel.size
        have f0 := (hK2.cell (p := ⟨bf, 0, none⟩) hbf (.inr (.inr rfl))).trans HF0.out
        clear hK2 hpre2 hJ2
        by_cases hlt2 : k < n5
        · obtain ⟨x, hxk⟩ : ∃ x, l2[k]? = some x := ⟨_, List.getElem?_eq_getElem (by omega)⟩
          obtain ⟨b2, o2, A7, n7, c7, hA5, hb2l, hGb, hld, hcell⟩ := hH2.2 k x hxk
          subst hA5
          obtain ⟨ba, la, fr, ep, pi, ge, se, tx, ct, rs⟩ := x
          have a0 : wr.cell? ⟨b2, o2 + k * 10, none⟩ = some (.int .i64 ba) := hcell 0 _ rfl
          have a1 : wr.cell? ⟨b2, o2 + k * 10 + 1, none⟩ = some (.int .i64 la) := hcell 1 _ rfl
          have a2 : wr.cell? ⟨b2, o2 + k * 10 + 2, none⟩ = some (.int .i64 fr) := hcell 2 _ rfl
          have a3 : wr.cell? ⟨b2, o2 + k * 10 + 3, none⟩ = some (.int .i64 ep) := hcell 3 _ rfl
          have a4 : wr.cell? ⟨b2, o2 + k * 10 + 4, none⟩ = some (.int .i64 pi) := hcell 4 _ rfl
          have a5 : wr.cell? ⟨b2, o2 + k * 10 + 5, none⟩ = some (.int .i64 ge) := hcell 5 _ rfl
          have a6 : wr.cell? ⟨b2, o2 + k * 10 + 6, none⟩ = some (.int .i64 se) := hcell 6 _ rfl
          have a7 : wr.cell? ⟨b2, o2 + k * 10 + 7, none⟩ = some (.bool tx) := hcell 7 _ rfl
          have a8 : wr.cell? ⟨b2, o2 + k * 10 + 8, none⟩ = some (.int .i64 ct) := hcell 8 _ rfl
          have a9 : wr.cell? ⟨b2, o2 + k * 10 + 9, none⟩ = some (.slice A7 n7 c7) := hcell 9 _ rfl
          have HBA := Lib.hid (belA wr (.cells #[.int .i64 ba, .int .i64 la, .int .i64 fr, .int .i64 ep, .int .i64 pi, .int .i64 ge, .int .i64 se, .bool tx, .int .i64 ct, .slice A7 n7 c7] 39))
          have HJ3 := Lib.hid (HJP.out _ _ _ _ HJ2.out HBA.out)
          have HLD := Lib.hid (LeadT.mono' (hld.below HBA.out) (P' := fun b => plus G2 wr (wr.alloc (.cells #[.int .i64 ba, .int .i64 la, .int .i64 fr, .int .i64 ep, .int .i64 pi, .int .i64 ge, .int .i64 se, .bool tx, .int .i64 ct, .slice A7 n7 c7] 39)) b ∧ m ≤ b) fun b h => ⟨plus_le b h.1, h.2⟩)
          have HXK := Lib.hid hxk
          have HHB := Lib.hid ((HH2.out.below HBA.out).mono (G' := fun b => plus G2 wr (wr.alloc (.cells #[.int .i64 ba, .int .i64 la, .int .i64 fr, .int .i64 ep, .int .i64 pi, .int .i64 ge, .int .i64 se, .bool tx, .int .i64 ct, .slice A7 n7 c7] 39)) b ∧ m ≤ b) fun b h => ⟨plus_le b h.1, h.2⟩)
          clear hcell hld hxk hH2 hGb
          by_cases hoff : off ≤ la
          · obtain ⟨fn, tmps, assign, body, hy, hR1⟩ := HY.out _ pre2 (⟨ba, la, fr, ep, pi, ge, se, tx, ct, rs⟩, A7, n7, c7) _ HJ3.out ⟨by rw [HIT.out]; exact next_it HX.out HST.out HXK.out hoff (by rw [HP2.out, HPRE.out]), HCH.out _ (List.mem_of_getElem? HXK.out), HLD.out⟩
            dsimp only [encB] at hy
            gi_wp2
            refine hR1.mono ?_
            rintro e W3 (⟨rfl, hJ4, hk4⟩ | ⟨rfl, hJx4⟩)
            · have HJ4 := Lib.hid hJ4
              have HK4 := Lib.hid hk4
              clear hJ4 hk4
              gi_wp2
              go_roundw
              case rel => exact ⟨k + 1, _, _, by go_num, by omega, by rw [List.map_append, HP2.out, take_f HXK.out, if_pos hoff, List.append_assoc]; rfl, HJ4.out, fun g hg => plus_le g (hG2 g hg), (HK2.out.below HBA.out).kept HK4.out fun g hg => plus_le g (hG2 g hg), HHB.out.kept HK4.out fun g hg => hg.1⟩
              case measure => simp [intOf]; omega
            · gi_wp2
              refine bodyPost_ret (results_none rfl _ _ _) rfl ?_
              exact ⟨⟨_, rfl⟩, .inr ⟨_, hJx4⟩⟩
          · gi_wp2
            refine ⟨fun _ h => (by cases h), ?_⟩
            gi_wp2
            go_roundw
            case rel => exact ⟨k + 1, _, pre2, by go_num, by omega, by rw [HP2.out, take_f HXK.out, if_neg (show ¬ off ≤ la by omega), List.append_nil], HJ3.out, fun g hg => plus_le g (hG2 g hg), HK2.out.below HBA.out, HHB.out⟩
            case measure => simp [intOf]; omega
        · obtain rfl : k = n5 := by omega
          gi_wp2
          go_roundw
          case rel => exact ⟨j + 1, G2, pre2, by go_num, by omega, by rw [HP2.out, HPRE.out, take_it HX.out HST.out, List.take_of_length_le (l := l2) (by omega)], HJ2.out, hG2, HK2.out⟩
          case measure => simp [intOf]; omega
    · obtain rfl : j = N := by omega
      gi_wp2
      go_end0
      exact ⟨⟨_, rfl⟩, .inl ⟨pre, by rw [HPRE.out, HIT.out, List.take_of_length_le (by have := HD.out.len; omega)], G, HJ.out⟩⟩
theorem it_seq (d : Nat) (hd : 2 ≤ d) (bl bf n₀ : Nat) (lim start off : Int) (A : Option Addr) (n c : Nat) (L : List Sg) (hn : n ≤ 1000000) (hc : n ≤ c) (hn0 : 0 < n) (w : World) (hn₀ : n₀ ≤ w.heap.size) (hbl : bl < w.heap.size) (hbf : bf < w.heap.size) (hb2 : w.cell? ⟨bl, 2, none⟩ = some (.slice A n c)) (hf0 : w.cell? ⟨bf, 0, none⟩ = some (.int .i64 off))
    (hR : RdG w n₀ A n L) (ht : Tab w) (hnt : 0 < n₀) :
    SeqG Fence.wide d Tryz.prog 86 #[.pointer (some ⟨bl, 0, none⟩), .pointer (some ⟨bf, 0, none⟩)] encB (ItK n₀ bl bf) (ItQ (itB off L) w.heap.size) (fun ys => ys.map (·.1) = itB off L) w := fun l J Jx W hW hJp hY h0 =>
  it1_in d hd l bl bf n₀ w.heap.size lim start off A n c L hn hc hn0 J Jx hJp hY W (hR.below hW hn₀) (Nat.le_trans hn₀ hW.size) hW.size (Nat.lt_of_lt_of_le hbl hW.size) (Nat.lt_of_lt_of_le hbf hW.size) ((hW.cell (p := ⟨bl, 2, none⟩) hbl).trans hb2) ((hW.cell (p := ⟨bf, 0, none⟩) hbf).trans hf0) (ht.bel hW) hnt h0
end Go.Proofs.YtejcjmiofidedaaGreatDoor.Chn

/- slices.Collect of a log's batches, and the landed chain's All. -/
namespace Go.Proofs.YtejcjmiofidedaaGreatDoor.Chn
open Go.RowKit Go.Shelf RngQ RowL Oct Rec Crc Bat Lay Seg RowF InR

attribute [local go_sem] Oper.semAt_some

theorem len_it {off : Int} {L : List Sg} (h : ∀ s ∈ L, s.bytes.length ≤ gMax) (hn : L.length ≤ 1000000) : (itB off L).length ≤ 1000000000000 := by
  have h1 : (L.flatMap Seg.batS).length ≤ L.length * gMax := by
    clear hn
    induction L with
    | nil => simp
    | cons s L ih =>
      have i := ih fun t ht => h t (by simp [ht])
      have h2 := byR_ge (Seg.batS s)
      have h3 := (sc_good s.base s.bytes).2
      have h4 := h s (by simp)
      have h5 : (Seg.batS s).length ≤ gMax := by unfold Seg.batS at h2 ⊢; omega
      rw [List.flatMap_cons, List.length_append, List.length_cons, Nat.succ_mul]
      omega
  have h2 : (itB off L).length ≤ (L.flatMap Seg.batS).length := by
    unfold itB
    refine Nat.le_trans (List.length_filter_le _ _) ?_
    have e : L.flatMap Seg.batS = (L.take (itN off L)).flatMap Seg.batS ++ (L.drop (itN off L)).flatMap Seg.batS := by rw [← List.flatMap_append, List.take_append_drop]
    rw [e, List.length_append]
    omega
  have h3 : L.length * gMax ≤ 1000000 * gMax := Nat.mul_le_mul_right _ hn
  have h4 : 1000000 * gMax = 1000000000000 := rfl
  omega
theorem pre_lt {T : List Bt} {pre : List BX} {x : BX} (h : ∃ rest, T = pre.map (·.1) ++ x.1 :: rest) : pre.length < T.length := by
  obtain ⟨r, h⟩ := h
  rw [h, List.length_append, List.length_map, List.length_cons]
  omega
def asI (N : Nat) (G : Nat → Prop) (pre : List BX) (W : World) : Prop :=
  (∃ A1 n1 c1, Boxed W N 33 (.slice A1 n1 c1) ∧ n1 = pre.length ∧ OwnT W 39 (fun b => N + 1 ≤ b) (N + 1) (.slice A1 n1 c1) n1 (pre.map (·.1)) ∧ ∀ g, (Value.slice A1 n1 c1).ownBlock = some g → ¬ G g) ∧ ¬ G N ∧ ∀ g, G g → g < W.heap.size
theorem asI_own {N : Nat} {G : Nat → Prop} {pre : List BX} {W W' : World} {row : Option Nat} (h : asI N G pre W) (hg : W.grownBy W' row) (hrow : ∀ r, row = some r → ∃ o : Obj, W.heap[r]? = some o ∧ o.isCells = false) : asI N G pre W' := by
  obtain ⟨⟨A1, n1, c1, h1, h2, h3, h4⟩, h5, h6⟩ := h
  exact ⟨⟨A1, n1, c1, boxed_own2 h1 hg hrow, h2, OwnT.keptBy h3 hg hrow, h4⟩, h5, fun g h9 => Nat.lt_of_lt_of_le (h6 g h9) hg.size⟩
theorem asI_plus {N : Nat} {G : Nat → Prop} {pre : List BX} {W X : World} (h : asI N G pre W) (hb : Below W.heap.size W X) : asI N (plus G W X) pre X := by
  obtain ⟨⟨A1, n1, c1, h1, h2, h3, h4⟩, h5, h6⟩ := h
  refine ⟨⟨A1, n1, c1, boxed_below h1 hb, h2, h3.below hb, fun g hg h9 => ?_⟩, fun h9 => ?_, fun g h9 => ?_⟩
  · rcases h9 with h9 | h9
    · exact h4 g hg h9
    · have := (OwnT.lt h3 g hg).2; omega
  · rcases h9 with h9 | h9
    · exact h5 h9
    · have := h1.lt; omega
  · rcases h9 with h9 | h9
    · exact Nat.lt_of_lt_of_le (h6 g h9) hb.size
    · exact h9.2
def asA (T : List Bt) (N m : Nat) (G : Nat → Prop) (pre : List BX) (x : BX) (W0 : World) (Bx : Nat) (W : World) : Prop :=
  (∃ A1 n1 c1, Boxed W N 33 (.slice A1 n1 c1) ∧ n1 = pre.length ∧ OwnT W 39 (fun b => N + 1 ≤ b) (N + 1) (.slice A1 n1 c1) n1 (pre.map (·.1)) ∧ ∀ g, (Value.slice A1 n1 c1).ownBlock = some g → ¬ G g ∧ g < W0.heap.size) ∧ LeadT W (fun b => G b ∧ m ≤ b) none x ∧ BoxT W Bx 39 x ∧
    (¬ G N ∧ (∀ g, G g → g < W0.heap.size) ∧ (∃ rest, T = pre.map (·.1) ++ x.1 :: rest) ∧ N < W0.heap.size ∧ W0.heap.size ≤ Bx)
theorem asA_own {T : List Bt} {N m Bx : Nat} {G : Nat → Prop} {pre : List BX} {x : BX} {W0 W W' : World} {row : Option Nat} (h : asA T N m G pre x W0 Bx W) (hg : W.grownBy W' row) (hrow : ∀ r, row = some r → ∃ o : Obj, W.heap[r]? = some o ∧ o.isCells = false) : asA T N m G pre x W0 Bx W' := by
  obtain ⟨⟨A1, n1, c1, h1, h2, h3, h4⟩, h5, h6, h7⟩ := h
  exact ⟨⟨A1, n1, c1, boxed_own2 h1 hg hrow, h2, OwnT.keptBy h3 hg hrow, h4⟩, LeadT.keptBy h5 hg hrow, h6.keptBy hg hrow, h7⟩
set_option maxRecDepth 100000 in
set_option maxHeartbeats 4000000 in
theorem AppendSeq_in (bl bf n₀ : Nat) (lim start off : Int) (A : Option Addr) (n c : Nat) (L : List Sg) (hn : n ≤ 1000000) (hc : n ≤ c) (hn0 : 0 < n) (w : World) (hn₀ : n₀ ≤ w.heap.size) (hbl : bl < w.heap.size) (hbf : bf < w.heap.size) (hb2 : w.cell? ⟨bl, 2, none⟩ = some (.slice A n c)) (hf0 : w.cell? ⟨bf, 0, none⟩ = some (.int .i64 off))
    (hR : RdG w n₀ A n L) (ht : Tab w) (hnt : 0 < n₀) :
    CallsIn Fence.wide 8 Tryz.prog 85 #[.slice none 0 0, .func (.func 86) #[] #[.pointer (some ⟨bl, 0, none⟩), .pointer (some ⟨bf, 0, none⟩)]] w fun e w' => ∃ A1 n1 c1, e = .returned (.slice A1 n1 c1) ∧ OwnT w' 39 (fun b => w.heap.size ≤ b) w.heap.size (.slice A1 n1 c1) n1 (itB off L) ∧ Below w.heap.size w w' := by
  have HR := Lib.hid hR
  have HT := Lib.hid ht
  obtain ⟨T, hT⟩ : ∃ T, T = itB off L := ⟨_, rfl⟩
  have hlT : T.length ≤ 1000000000000 := by rw [hT]; exact len_it hR.small (by have := hR.len; omega)
  have hb0 := belA w (.cells #[.slice none 0 0] 33)
  have HB0 := Lib.hid hb0
  have hseq := it_seq (8 - 1) (by omega) bl bf n₀ lim start off A n c L hn hc hn0 (w.alloc (.cells #[.slice none 0 0] 33)) (Nat.le_trans hn₀ hb0.size) (Nat.lt_of_lt_of_le hbl hb0.size) (Nat.lt_of_lt_of_le hbf hb0.size) ((hb0.cell (p := ⟨bl, 2, none⟩) hbl).trans hb2) ((hb0.cell (p := ⟨bf, 0, none⟩) hbf).trans hf0) (hR.below hb0 hn₀) (ht.bel hb0) hnt
  rw [← hT] at hseq ⊢
  have HSEQ := Lib.hid hseq
  have hbx := Boxed.new w 33 (.slice none 0 0)
  have HBX := Lib.hid hbx
  clear hR ht hb0 hT hseq hbx
  refine callsIn_of_wp_marks Tryz.func85 rfl trivial ?_ rfl
  simp only [Tryz.ntmps85, List.size_toArray, List.length_cons, List.length_nil, Nat.reduceAdd, Nat.reduceSub, Array.replicate_succ, Array.replicate_zero, List.push_toArray, List.append_toArray, List.nil_append, List.cons_append]
  gi_wp2
  refine wpIn_rangeG (F := Fence.wide) rfl (by omega) (gf := 86) (lb := #[.pointer (some ⟨bl, 0, none⟩), .pointer (some ⟨bf, 0, none⟩)]) rfl trivial (enters_of Tryz.func86 (by kernel_rfl) rfl) HSEQ.out
    (fun k h => by simp only [ItK] at h; simp; omega) (Below.refl _ _) (fun _ => rfl)
    (fun G pre W => asI w.heap.size G pre W ∧ Below w.heap.size w W) (fun _ _ _ => False)
    (fun G => OwnFrom.and (Own.from (I := fun (pre : List BX) W => asI w.heap.size G pre W) (fun s X Y row hs hg hrow => asI_own (pre := s) hs hg hrow) _) (ownFrom_below (Nat.le_refl _) HB0.out.size))
    (fun _ s X Y row hs _ _ => hs) (fun G X Y ys h hb => ⟨asI_plus h.1 hb, h.2.trans (hb.mono h.2.size)⟩)
    ⟨⟨⟨none, 0, 0, HBX.out, rfl, OwnT.nil, fun g hg => by cases hg⟩, by simp only [ItK]; omega, fun g hg => by simp only [ItK] at hg; simp; omega⟩, HB0.out⟩
    (fun G pre x W1 a' W => (∃ Bx, asA T w.heap.size (w.alloc (.cells #[.slice none 0 0] 33)).heap.size G pre x W1 Bx W ∧ a' = { tmps := #[.slice none 0 0, .func (.func 86) #[] #[.pointer (some ⟨bl, 0, none⟩), .pointer (some ⟨bf, 0, none⟩)], .pointer (some ⟨w.heap.size, 0, none⟩), undef, .slice none 0 0, .pointer (some ⟨Bx, 0, none⟩), .func (.func 86) #[] #[.pointer (some ⟨bl, 0, none⟩), .pointer (some ⟨bf, 0, none⟩)], (encB x)[0]!, undef, undef, undef, undef, undef], defers := [] }) ∧ Below w.heap.size w W)
    (fun G pre x W1 a' => OwnFrom.and (Own.from (I := fun (_ : Unit) W => ∃ Bx, asA T w.heap.size (w.alloc (.cells #[.slice none 0 0] 33)).heap.size G pre x W1 Bx W ∧ a' = _) (fun s X Y row hs hg hrow => by obtain ⟨Bx, h1, h2⟩ := hs; exact ⟨Bx, asA_own h1 hg hrow, h2⟩) _) (ownFrom_below (Nat.le_refl _) HB0.out.size))
    ?assign ?body ?done ?stop
  case assign =>
    rintro l H pre ⟨⟨ba, la, fr, ep, pi, ge, se, tx, ct, rs⟩, A1, n1, c1⟩ W G hs1 ⟨⟨⟨A9, n9, c9, hb9, hn9, ho9, hg9⟩, hHN, hHl⟩, hB⟩ ⟨hq1, hq2, hq3⟩ hG
    dsimp only [encB]
    gi_wp2
    have hbA := belA W (.cells #[.int .i64 ba, .int .i64 la, .int .i64 fr, .int .i64 ep, .int .i64 pi, .int .i64 ge, .int .i64 se, .bool tx, .int .i64 ct, .slice A1 n1 c1] 39)
    exact hG _ _ ((KeepsOthers.alloc _ _).from _) ((KeptQ.refl _ _ _).alloc _) ⟨⟨W.heap.size, ⟨⟨A9, n9, c9, boxed_below hb9 hbA, hn9, OwnT.below ho9 hbA, fun g hg => ⟨hg9 g hg, (OwnT.lt ho9 g hg).2⟩⟩, hq3.below hbA, BoxT.new W _ (⟨ba, la, fr, ep, pi, ge, se, tx, ct, rs⟩, A1, n1, c1), hHN, hHl, hq1, hb9.lt, Nat.le_refl _⟩, rfl⟩, bel_trans hB hbA⟩
  case body =>
    rintro l H pre ⟨⟨ba, la, fr, ep, pi, ge, se, tx, ct, rs⟩, A1, n1, c1⟩ W1 a' W ⟨⟨Bx, ⟨⟨A9, n9, c9, hb9, hn9, ho9, hg9⟩, hL, hTB, hHN, hHl, hq, hNl, hBx⟩, rfl⟩, hB⟩
    obtain ⟨x0, x1, x2, x3, x4, x5, x6, x7, x8, x9⟩ := hTB.box
    have hBl := hTB.lt
    have hsmall : n9 < 1099511627776 := by have := pre_lt hq; omega
    have hc9 := hb9.cell
    have hBw : w.heap.size + 1 ≤ W.heap.size := by have := hTB.lt; omega
    have hlead : LeadT W (fun b => w.heap.size + 1 ≤ b) (Value.slice A9 n9 c9).ownBlock (⟨ba, la, fr, ep, pi, ge, se, tx, ct, rs⟩, A1, n1, c1) := ⟨hL.1, hL.2.1, hL.2.2.1, hL.2.2.2.1, fun a ha hn => ⟨by have := (hL.2.2.2.2 a ha hn).1.2; simpa using this, fun he => (hg9 _ he.symm).1 (hL.2.2.2.2 a ha hn).1.1⟩⟩
    obtain ⟨A2, c2, w2, hrun, ho2, hg2, hat2, hbel2⟩ := run_appT (P := Tryz.prog) (w.heap.size + 1) 33 33 39 Tryz.underlying33 batInfo ho9 (x := (⟨ba, la, fr, ep, pi, ge, se, tx, ct, rs⟩, A1, n1, c1)) hlead hsmall hBw
    dsimp only [batC] at hrun hg2
    have hne : some w.heap.size ≠ (Value.slice A9 n9 c9).ownBlock := fun he => by have := (OwnT.lt ho9 _ he.symm).1; omega
    have b1 := (hb9.alloc (.cells #[.int .i64 ba, .int .i64 la, .int .i64 fr, .int .i64 ep, .int .i64 pi, .int .i64 ge, .int .i64 se, .bool tx, .int .i64 ct, .slice A1 n1 c1] 39)).kept hg2 hne
    have f1 := b1.frozen
    have d1 := b1.cell
    have HKQ := Lib.hid (((KeptQ.refl H W1.heap.size W).alloc (.cells #[.int .i64 ba, .int .i64 la, .int .i64 fr, .int .i64 ep, .int .i64 pi, .int .i64 ge, .int .i64 se, .bool tx, .int .i64 ct, .slice A1 n1 c1] 39)).grown hg2 fun k hk => hg9 k hk)
    have HKO := Lib.hid ((KeepsOthers.alloc W (.cells #[.int .i64 ba, .int .i64 la, .int .i64 fr, .int .i64 ep, .int .i64 pi, .int .i64 ge, .int .i64 se, .bool tx, .int .i64 ct, .slice A1 n1 c1] 39)).trans (KeepsOthers.of_grownBy hg2 (OwnT.cells (ho9.alloc _))))
    have HO2 := Lib.hid ho2
    have HB2 := Lib.hid (hB.trans (hbel2.mono (by omega)))
    have HX1 := Lib.hid b1
    have HN9 := Lib.hid hn9
    have HAT := Lib.hid (show ∀ g, (Value.slice A2 (n9 + 1) c2).ownBlock = some g → ¬ H g from fun g hg h9 => by
      rcases hat2 with h8 | h8
      · exact (hg9 g (h8 ▸ hg)).1 h9
      · rw [h8] at hg; injection hg with hg; have := hHl g h9; omega)
    have hw2 := hbel2.size
    clear hq b1 hn9 hg2 hat2 hbel2 hne ho9 hL hb9 hB ho2 hlead
    gi_wp2_with (gi_at_builtin; refine wpListIn_app_run rfl _ _ 33 rfl rfl rfl hrun ?_)
    refine ⟨(HKO.out.trans (KeepsOthers.setCell _ _ _)).from _, HKQ.out.set (p := ⟨w.heap.size, 0, none⟩) hHN hNl _, ⟨⟨A2, n9 + 1, c2, HX1.out.set _, ?_, ?_, HAT.out⟩, hHN, fun g hg => ?_⟩, HB2.out.setCell (Nat.le_refl _) _⟩
    · rw [List.length_append, List.length_singleton, HN9.out]
    · rw [List.map_append]
      exact HO2.out.set (by simp) (by simp) _
    · have := hHl g hg; simp; omega
  case done =>
    rintro D H ys W hD hys ⟨⟨⟨A9, n9, c9, hb9, hn9, ho9, hg9⟩, _⟩, hB⟩ hK
    rw [hys] at ho9
    have d1 := hb9.cell
    have HB := Lib.hid hB
    have HK := Lib.hid hK
    have HO := Lib.hid ho9
    clear hB hK ho9 hb9 hg9 hn9
    gi_wp2
    refine ⟨by simp, .inl ⟨_, _, rfl, run_takeDeferred HK.out, ?_⟩⟩
    refine ⟨.slice A9 n9 c9, by simp [results, Tryz.results85, go_sem], A9, n9, c9, rfl, ?_, HB.out.trans (belowK_b (w := w) (Nat.le_refl _) _ D _ _ (by simp at hD; omega) HK.out rfl rfl)⟩
    exact (OwnT.keptBy HO.out (grownBy_putObj' _ D (.deferred none)) (fun r e => by cases e; exact ⟨_, HK.out, rfl⟩)).more (by omega) (fun b (hb : w.heap.size + 1 ≤ b) => Nat.le_of_succ_le hb)
  case stop =>
    rintro D cd pre W _ h _
    exact h.elim
theorem Collect_is (bl bf n₀ : Nat) (lim start off : Int) (A : Option Addr) (n c : Nat) (L : List Sg) (hn : n ≤ 1000000) (hc : n ≤ c) (hn0 : 0 < n) (w : World) (hn₀ : n₀ ≤ w.heap.size) (hbl : bl < w.heap.size) (hbf : bf < w.heap.size) (hb2 : w.cell? ⟨bl, 2, none⟩ = some (.slice A n c)) (hf0 : w.cell? ⟨bf, 0, none⟩ = some (.int .i64 off))
    (hR : RdG w n₀ A n L) (ht : Tab w) (hnt : 0 < n₀) {T : List Bt} (hT : itB off L = T) :
    Calls Tryz.prog 54 #[.func (.func 86) #[] #[.pointer (some ⟨bl, 0, none⟩), .pointer (some ⟨bf, 0, none⟩)]] w fun e w' => ∃ A1 n1 c1, e = .returned (.slice A1 n1 c1) ∧ OwnT w' 39 (fun b => w.heap.size ≤ b) w.heap.size (.slice A1 n1 c1) n1 T ∧ Below w.heap.size w w' := by
  subst hT
  have HC := Lib.hid (callsIn_wide.1 (AppendSeq_in bl bf n₀ lim start off A n c L hn hc hn0 w hn₀ hbl hbf hb2 hf0 hR ht hnt))
  clear hb2 hf0 hR ht
  go_enter Tryz.func54, Tryz.ntmps54
  go_wp2_with (go_at_call 85; (with_reducible refine HC.out.mono ?_); rintro e w2 ⟨A1, n1, c1, rfl, ho, hb⟩; have HO := Lib.hid ho; have HB := Lib.hid hb; clear ho hb)
  go_ret
  exact ⟨A1, n1, c1, rfl, HO.out, HB.out⟩
set_option maxRecDepth 100000 in
set_option maxHeartbeats 2000000 in
theorem All_is (lim start : Int) (A : Option Addr) (n c : Nat) (l : List Sg) (w : World) (hr : RdG w w.heap.size A n l) (ht : Tab w) (hc : n ≤ c) (hn : n ≤ 1000000) {T : List Bt} (hT : allT ⟨lim, start, l⟩ = T) :
    Calls Tryz.prog 21 #[.agg #[.int .i64 lim, .int .i64 start, .slice A n c]] w fun e w' => ∃ A1 n1 c1, e = .returned (.slice A1 n1 c1) ∧ OwnT w' 39 (fun b => w.heap.size ≤ b) w.heap.size (.slice A1 n1 c1) n1 T ∧ Below w.heap.size w w' := by
  obtain ⟨C, hC⟩ : ∃ C, ckL ⟨lim, start, l⟩ = C := ⟨_, rfl⟩
  have hlen := hr.len
  have hba := belA w (.cells #[.int .i64 lim, .int .i64 start, .slice A n c] 24)
  have HBA := Lib.hid hba
  have HR := Lib.hid (rdgUp hr hba)
  have HT := Lib.hid (ht.bel hba)
  have HL := Lib.hid (At0.new w [.int .i64 lim, .int .i64 start, .slice A n c] 24)
  have HC := Lib.hid hC
  have htp := ht.pos
  by_cases hc0 : C = 0
  · subst hc0
    have hn0 : 0 < n := by have := (ckL_iff.1 hC).1.2.2; have := List.length_pos_iff.2 this; simp only at this; omega
    have HIT := Lib.hid (show itB start l = T by rw [← hT]; unfold allT; rw [hC, if_pos rfl]; exact it_all hC)
    clear hr ht hC hT hba hlen
    go_enter Tryz.func21, Tryz.ntmps21
    go_wp2_with (first
      | (go_at_call 16; (with_reducible refine (Check_is lim start A n c l _ HR.out HT.out (by omega) HC.out).mono ?_); rintro e w2 ⟨rfl, hb⟩; have HB2 := Lib.hid (bel_trans HBA.out hb); have hl2 := HL.out.below hb; have l0 := hl2.cell 0; have l1 := hl2.cell 1; have l2 := hl2.cell 2; simp only [List.getElem?_cons_zero, List.getElem?_cons_succ] at l0 l1 l2; have HR2 := Lib.hid (rdgUp HR.out hb); have HT2 := Lib.hid (HT.out.bel hb); clear hb hl2)
      | (go_at_call 55; (with_reducible refine (batchesC lim start A n c start _).mono ?_); rintro e w3 ⟨rfl, hw3⟩; have HB3 := Lib.hid (show Below w2.heap.size w2 w3 from hw3 ▸ bel_alloc (belA w2 _) _); have HL3 := Lib.hid (show At0 w3 w2.heap.size [.int .i64 lim, .int .i64 start, .slice A n c] 24 from hw3 ▸ (At0.new w2 [.int .i64 lim, .int .i64 start, .slice A n c] 24).alloc _); have HF3 := Lib.hid (show At0 w3 (w2.heap.size + 1) [.int .i64 start] 3 from hw3 ▸ at0_1 w2 _ [.int .i64 start] 3); clear hw3)
      | (go_at_call 54; refine (Collect_is w2.heap.size (w2.heap.size + 1) w2.heap.size lim start start A n c l hn hc hn0 _ HB3.out.size HL3.out.lt HF3.out.lt (HL3.out.cell 2) (HF3.out.cell 0) (HR2.out.below HB3.out (Nat.le_refl _)) (HT2.out.bel HB3.out) HT2.out.pos HIT.out).mono ?_; rintro e w4 ⟨A1, n1, c1, rfl, ho, hb⟩; have HO := Lib.hid ho; have HB4 := Lib.hid (bel_trans (bel_trans HB2.out HB3.out) hb); clear ho hb))
    go_ret
    have h1 := HB2.out.size
    have h2 := HB3.out.size
    exact ⟨A1, n1, c1, rfl, HO.out.more (by omega) (fun b (hb : w3.heap.size ≤ b) => show w.heap.size ≤ b by have := HBA.out.size; simp at this; omega), HB4.out⟩
  · have HTT := Lib.hid (show T = [] by rw [← hT]; unfold allT; rw [hC, if_neg hc0])
    have hcF : (C == 0) = false := beqF hc0
    clear hr ht hC hT hba hlen
    go_enter Tryz.func21, Tryz.ntmps21
    go_wp2_with (go_at_call 16; (with_reducible refine (Check_is lim start A n c l _ HR.out HT.out (by omega) HC.out).mono ?_); rintro e w2 ⟨rfl, hb⟩; have HB2 := Lib.hid (bel_trans HBA.out hb); clear hb)
    go_ret
    exact ⟨none, 0, 0, rfl, by rw [HTT.out]; exact OwnT.nil, HB2.out⟩
end Go.Proofs.YtejcjmiofidedaaGreatDoor.Chn

/- The contract of the landed chain's Read. -/
namespace Go.Proofs.YtejcjmiofidedaaGreatDoor.Chn
open Go.RowKit Go.Shelf RngQ RowL Oct Rec Crc Bat Lay Seg RowF InR

attribute [local go_sem] Oper.semAt_some

def tb_Read11 : List (Nat × Nat) := [(0, 31), (0, 31), (2, 29), (5, 26), (15, 23)]
def TB (w : World) (T : List Bt) (x : Int) (en : Ending) (w' : World) : Prop :=
  ∃ A n c, en = .returned (.tuple #[.slice A n c, .int .i64 x]) ∧ OwnT w' 39 (fun b => w.heap.size ≤ b) w.heap.size (.slice A n c) n T ∧ Below w.heap.size w w'
theorem sizeB_snoc (bs : List Bt) (b : Bt) : sizeB (bs ++ [b]) = sizeB bs + (byB b).length := by
  unfold sizeB; rw [byR_app, byR_cons, byR_nil, List.append_nil, List.length_append]; omega
theorem rdrUp {w w' : World} {A : Option Addr} {n : Nat} {l : List Rc} (h : RdR w w.heap.size A n l) (hb : Below w.heap.size w w') : RdR w' w'.heap.size A n l := (h.below hb (Nat.le_refl _)).more hb.size
theorem BSize_is {ba la fr ep pi ge se : Int} {tx : Bool} {ct : Int} {rs : List Rc} {z : Int} (hz : szB ⟨ba, la, fr, ep, pi, ge, se, tx, ct, rs⟩ = z) (A1 : Option Addr) (n1 c1 : Nat) (w : World) (hF : Fits ⟨ba, la, fr, ep, pi, ge, se, tx, ct, rs⟩) (hr : RdR w w.heap.size A1 n1 rs) (hn : n1 ≤ 1099511627776) (ht : Tab w) :
    Calls Tryz.prog 41 #[.agg #[.int .i64 ba, .int .i64 la, .int .i64 fr, .int .i64 ep, .int .i64 pi, .int .i64 ge, .int .i64 se, .bool tx, .int .i64 ct, .slice A1 n1 c1]] w fun e w' => e = .returned (.int .i64 z) ∧ Below w.heap.size w w' := hz ▸ BSize_any ba la fr ep pi ge se tx ct rs A1 n1 c1 w hF hr hn ht
def rdS (long : Int) (T p : List Bt) : Prop := (∀ rest, T = p ++ rest → takeB long T = p ++ if p = [] then takeB long rest else goB long (sizeB p) rest) ∧ (-2048 ≤ long - sizeB p ∧ 0 ≤ sizeB p)
theorem sizeB_nil : sizeB [] = 0 := by unfold sizeB; rw [byR_nil]; rfl
theorem rdS_nil {long : Int} (T : List Bt) (h0 : 0 ≤ long) : rdS long T [] := ⟨fun rest h => by rw [if_pos rfl, List.nil_append]; rw [List.nil_append] at h; rw [h], by rw [sizeB_nil]; omega⟩
theorem rdS_step {long : Int} {T p : List Bt} {x : Bt} (h : rdS long T p) (h0 : 0 ≤ long) (hx : (byB x).length ≤ 2048) (hn : p ≠ [] → sizeB p + (byB x).length ≤ long) : rdS long T (p ++ [x]) := by
  refine ⟨fun rest hr => ?_, by
    rw [sizeB_snoc]
    have := h.2
    by_cases hp : p = []
    · subst hp; rw [sizeB_nil]; omega
    · have := hn hp; omega⟩
  have h1 := h.1 (x :: rest) (by rw [hr]; simp)
  have e2 : (if p ++ [x] = [] then takeB long rest else goB long (sizeB (p ++ [x])) rest) = goB long (sizeB (p ++ [x])) rest := if_neg (by simp)
  rw [h1, e2, sizeB_snoc, List.append_assoc]
  congr 1
  by_cases hp : p = []
  · subst hp
    rw [if_pos rfl, sizeB_nil, Int.zero_add]
    rfl
  · rw [if_neg hp]
    show (if long < sizeB p + (byB x).length then [] else _) = _
    rw [if_neg (by have := hn hp; omega)]; rfl
theorem rdS_stop {long : Int} {T p rest : List Bt} {x : Bt} (h : rdS long T p) (hp : p ≠ []) (hn : long < sizeB p + (byB x).length) (hr : T = p ++ x :: rest) : takeB long T = p := by
  rw [h.1 _ hr, if_neg hp]
  show p ++ (if long < sizeB p + (byB x).length then [] else _) = p
  rw [if_pos hn, List.append_nil]
theorem rdS_end {long : Int} {T : List Bt} (h : rdS long T T) : takeB long T = T := by
  have h1 := h.1 [] (by rw [List.append_nil])
  rw [h1]
  by_cases hp : T = []
  · rw [if_pos hp]; simp [takeB]
  · rw [if_neg hp]; simp [goB]
def drI (long : Int) (T : List Bt) (N M : Nat) (G : Nat → Prop) (pre : List BX) (W : World) : Prop :=
  (∃ A1 n1 c1, Boxed W M 33 (.slice A1 n1 c1) ∧ n1 = pre.length ∧ OwnT W 39 (fun b => M + 1 ≤ b) (M + 1) (.slice A1 n1 c1) n1 (pre.map (·.1)) ∧ ∀ g, (Value.slice A1 n1 c1).ownBlock = some g → ¬ G g) ∧ Boxed W (N + 1) 3 (.int .i64 (long - sizeB (pre.map (·.1)))) ∧ (¬ G M ∧ ¬ G (N + 1)) ∧ (∀ g, G g → g < W.heap.size) ∧ rdS long T (pre.map (·.1))
section
variable {long : Int} {T : List Bt} {N M : Nat} {G : Nat → Prop} {pre : List BX} {W W' : World} {row : Option Nat}
theorem drI_own (h : drI long T N M G pre W) (hg : W.grownBy W' row) (hrow : ∀ r, row = some r → ∃ o : Obj, W.heap[r]? = some o ∧ o.isCells = false) : drI long T N M G pre W' := by
  obtain ⟨⟨A1, n1, c1, h1, h2, h3, h4⟩, h5, h6, h7, h8⟩ := h
  exact ⟨⟨A1, n1, c1, boxed_own2 h1 hg hrow, h2, OwnT.keptBy h3 hg hrow, h4⟩, boxed_own2 h5 hg hrow, h6, fun g h9 => Nat.lt_of_lt_of_le (h7 g h9) hg.size, h8⟩
theorem drI_plus (h : drI long T N M G pre W) (hb : Below W.heap.size W W') : drI long T N M (plus G W W') pre W' := by
  obtain ⟨⟨A1, n1, c1, h1, h2, h3, h4⟩, h5, ⟨h6, h6'⟩, h7, h8⟩ := h
  refine ⟨⟨A1, n1, c1, boxed_below h1 hb, h2, h3.below hb, fun g hg h9 => ?_⟩, boxed_below h5 hb, ⟨fun h9 => ?_, fun h9 => ?_⟩, fun g h9 => ?_, h8⟩
  · rcases h9 with h9 | h9
    · exact h4 g hg h9
    · have := (OwnT.lt h3 g hg).2; omega
  · rcases h9 with h9 | h9
    · exact h6 h9
    · have := h1.lt; omega
  · rcases h9 with h9 | h9
    · exact h6' h9
    · have := h5.lt; omega
  · rcases h9 with h9 | h9
    · exact Nat.lt_of_lt_of_le (h7 g h9) hb.size
    · exact h9.2
def drX (long : Int) (T : List Bt) (M : Nat) (W : World) : Prop := ∃ A1 n1 c1, Boxed W M 33 (.slice A1 n1 c1) ∧ OwnT W 39 (fun b => M + 1 ≤ b) (M + 1) (.slice A1 n1 c1) n1 (takeB long T)
def drA (long : Int) (T : List Bt) (N M m : Nat) (G : Nat → Prop) (pre : List BX) (x : BX) (W0 : World) (Bx : Nat) (W : World) : Prop :=
  (∃ A1 n1 c1, Boxed W M 33 (.slice A1 n1 c1) ∧ n1 = pre.length ∧ OwnT W 39 (fun b => M + 1 ≤ b) (M + 1) (.slice A1 n1 c1) n1 (pre.map (·.1)) ∧ ∀ g, (Value.slice A1 n1 c1).ownBlock = some g → ¬ G g ∧ g < W0.heap.size) ∧ Boxed W (N + 1) 3 (.int .i64 (long - sizeB (pre.map (·.1)))) ∧ LeadT W (fun b => G b ∧ m ≤ b) none x ∧ BoxT W Bx 39 x ∧
    ((¬ G M ∧ ¬ G (N + 1)) ∧ (∀ g, G g → g < W0.heap.size) ∧ (∃ rest, T = pre.map (·.1) ++ x.1 :: rest) ∧ chB x.1 = 0 ∧ M < W0.heap.size ∧ W0.heap.size ≤ Bx ∧ rdS long T (pre.map (·.1)))
theorem drA_own {m Bx : Nat} {x : BX} {W0 : World} (h : drA long T N M m G pre x W0 Bx W) (hg : W.grownBy W' row) (hrow : ∀ r, row = some r → ∃ o : Obj, W.heap[r]? = some o ∧ o.isCells = false) : drA long T N M m G pre x W0 Bx W' := by
  obtain ⟨⟨A1, n1, c1, h1, h2, h3, h4⟩, h5, h6, h7, h8⟩ := h
  exact ⟨⟨A1, n1, c1, boxed_own2 h1 hg hrow, h2, OwnT.keptBy h3 hg hrow, h4⟩, boxed_own2 h5 hg hrow, LeadT.keptBy h6 hg hrow, h7.keptBy hg hrow, h8⟩
end
set_option maxRecDepth 100000 in
set_option maxHeartbeats 4000000 in
theorem Read_bad (lim start off most : Int) (A : Option Addr) (n c : Nat) (l : List Sg) (w : World) (hr : RdG w w.heap.size A n l) (ht : Tab w) (hn : n ≤ 1000000) {T : List Bt} {e9 : Int} (h : readL ⟨lim, start, l⟩ off most = (T, e9)) (he : e9 ≠ 0) :
    Calls Tryz.prog 33 #[.agg #[.int .i64 lim, .int .i64 start, .slice A n c], .int .i64 off, .int .i64 most] w (TB w T e9) := by
  obtain ⟨C, hC⟩ : ∃ C, ckL ⟨lim, start, l⟩ = C := ⟨_, rfl⟩
  obtain ⟨E, hE⟩ : ∃ E, endT ⟨lim, start, l⟩ = E := ⟨_, rfl⟩
  have hways : T = [] ∧ ((C ≠ 0 ∧ C = e9) ∨ (C = 0 ∧ most < 0 ∧ e9 = 1) ∨ (C = 0 ∧ ¬ most < 0 ∧ off < start ∧ e9 = 90) ∨ (C = 0 ∧ ¬ most < 0 ∧ ¬ off < start ∧ E < off ∧ e9 = 90)) := by
    unfold readL at h
    rw [hC] at h
    by_cases h1 : C ≠ 0
    · rw [if_pos h1] at h; injection h with h2 h3; exact ⟨h2.symm, .inl ⟨h1, h3⟩⟩
    · rw [if_neg h1] at h
      by_cases h2 : most < 0
      · rw [if_pos h2] at h; injection h with h3 h4; exact ⟨h3.symm, .inr (.inl ⟨by omega, h2, h4.symm⟩)⟩
      · rw [if_neg h2] at h
        have hEE : endL ⟨lim, start, l⟩ = E := by rw [← hE]; unfold endT; rw [hC, if_pos (by omega)]
        rw [hEE] at h
        by_cases h3 : off < start ∨ E < off
        · rw [if_pos h3] at h
          injection h with h4 h5
          refine ⟨h4.symm, .inr (.inr ?_)⟩
          by_cases h6 : off < start
          · exact .inl ⟨by omega, h2, h6, h5.symm⟩
          · exact .inr ⟨by omega, h2, h6, by omega, h5.symm⟩
        · rw [if_neg h3] at h; injection h with _ h5; exact absurd h5.symm he
  obtain ⟨rfl, hways⟩ := hways
  have HW0 := Lib.hid (show Below w.heap.size w ((w.alloc (.cells #[.int .i64 lim, .int .i64 start, .slice A n c] 24)).alloc (.cells #[.int .i64 most] 3)) from bel_alloc (belA w _) _)
  have HR := Lib.hid (rdgUp hr HW0.out)
  have HT := Lib.hid (ht.bel HW0.out)
  have HL := Lib.hid ((At0.new w [.int .i64 lim, .int .i64 start, .slice A n c] 24).alloc (.cells #[.int .i64 most] 3))
  have HM := Lib.hid (at0_1 w (.cells #[.int .i64 lim, .int .i64 start, .slice A n c] 24) [.int .i64 most] 3)
  have HC := Lib.hid hC
  have HE := Lib.hid hE
  clear hr ht h hC hE he
  rcases hways with ⟨h1, rfl⟩ | ⟨rfl, h1, rfl⟩ | ⟨rfl, h1, h2, rfl⟩ | ⟨rfl, h1, h2, h3, rfl⟩
  · have hcF : (C == 0) = false := beqF h1
    go_enter Tryz.func33, Tryz.ntmps33
    go_wp2_with (go_at_call 49; (with_reducible refine (reachC lim start A n c l _ HR.out HT.out (by omega) HE.out HC.out).mono ?_); rintro e w2 ⟨rfl, hb⟩; have HB2 := Lib.hid (bel_trans HW0.out hb); have hl := HL.out.below hb; have hm := HM.out.below hb; have l0 := hl.cell 0; have l1 := hl.cell 1; have l2 := hl.cell 2; have m0 := hm.cell 0; simp only [List.getElem?_cons_zero, List.getElem?_cons_succ] at l0 l1 l2 m0; clear hb hl hm)
    refine bodyPost_ret (v := .tuple #[.slice none 0 0, .int .i64 C]) (by simp [results, Tryz.results33, go_sem]) rfl ?_
    exact ⟨none, 0, 0, rfl, OwnT.nil, HB2.out⟩
  all_goals go_enter Tryz.func33, Tryz.ntmps33
  all_goals go_wp2_with (go_at_call 49; (with_reducible refine (reachC lim start A n c l _ HR.out HT.out (by omega) HE.out HC.out).mono ?_); rintro e w2 ⟨rfl, hb⟩; have HB2 := Lib.hid (bel_trans HW0.out hb); have hl := HL.out.below hb; have hm := HM.out.below hb; have l0 := hl.cell 0; have l1 := hl.cell 1; have l2 := hl.cell 2; have m0 := hm.cell 0; simp only [List.getElem?_cons_zero, List.getElem?_cons_succ] at l0 l1 l2 m0; clear hb hl hm)
  all_goals exact bodyPost_ret (v := .tuple #[.slice none 0 0, .int .i64 _]) (by first | (simp [results, Tryz.results33, go_sem]; done) | (simp [results, Tryz.results33, go_sem]; rfl)) rfl ⟨none, 0, 0, rfl, OwnT.nil, HB2.out⟩
set_option maxRecDepth 100000 in
set_option maxHeartbeats 8000000 in
theorem Read_in (lim start off most : Int) (A : Option Addr) (n c : Nat) (l : List Sg) (w : World) (hr : RdG w w.heap.size A n l) (ht : Tab w) (hc : n ≤ c) (hn : n ≤ 1000000) (hmI : I64 most) (hC : ckL ⟨lim, start, l⟩ = 0) (hm0 : ¬ most < 0) (ho1 : ¬ off < start) {E : Int} (hE : endT ⟨lim, start, l⟩ = E) (ho2 : ¬ E < off) {T : List Bt} (hT : itB off l = T) :
    CallsIn Fence.wide 8 Tryz.prog 33 #[.agg #[.int .i64 lim, .int .i64 start, .slice A n c], .int .i64 off, .int .i64 most] w (TB w (takeB most T) 0) := by
  have HW0 := Lib.hid (show Below w.heap.size w ((w.alloc (.cells #[.int .i64 lim, .int .i64 start, .slice A n c] 24)).alloc (.cells #[.int .i64 most] 3)) from bel_alloc (belA w _) _)
  have HR := Lib.hid (rdgUp hr HW0.out)
  have HRW := Lib.hid hr
  have HT := Lib.hid (ht.bel HW0.out)
  have HTW := Lib.hid ht
  have htp := ht.pos
  have HL := Lib.hid ((At0.new w [.int .i64 lim, .int .i64 start, .slice A n c] 24).alloc (.cells #[.int .i64 most] 3))
  have HM := Lib.hid (at0_1 w (.cells #[.int .i64 lim, .int .i64 start, .slice A n c] 24) [.int .i64 most] 3)
  have HC := Lib.hid hC
  have HE := Lib.hid hE
  have hlT : T.length ≤ 1000000000000 := by rw [← hT]; exact len_it hr.small (by have := hr.len; omega)
  have hn0 : 0 < n := by have := (ckL_iff.1 hC).1.2.2; have := List.length_pos_iff.2 this; have := hr.len; simp only at *; omega
  have HIT := Lib.hid hT
  have hmx : Tryz.prog.follows .mixedOrders = true := by kernel_rfl
  have HMI := Lib.hid hmI
  clear hr ht hC hE hT hmI
  refine callsIn_of_wp_marks Tryz.func33 rfl trivial ?_ rfl
  simp only [Tryz.ntmps33, List.size_toArray, List.length_cons, List.length_nil, Nat.reduceAdd, Nat.reduceSub, Array.replicate_succ, Array.replicate_zero, List.push_toArray, List.append_toArray, List.nil_append, List.cons_append]
  refine wpIn_wide.2 ?_
  go_wp2_with (first
    | (go_at_call 49; (with_reducible refine (reachC lim start A n c l _ HR.out HT.out (by omega) HE.out HC.out).mono ?_); rintro e w2 ⟨rfl, hb⟩; have HB2 := Lib.hid (bel_trans HW0.out hb); have hl := HL.out.below hb; have hm := HM.out.below hb; have l0 := hl.cell 0; have l1 := hl.cell 1; have l2 := hl.cell 2; have m0 := hm.cell 0; simp only [List.getElem?_cons_zero, List.getElem?_cons_succ] at l0 l1 l2 m0; have HM2 := Lib.hid hm; have hwN : w.heap.size + 2 ≤ w2.heap.size := (by have := hb.size; simp at this; omega); have hlt0 : w.heap.size < w2.heap.size := (by omega); clear hb hl hm)
    | (go_at_call 55; (with_reducible refine (batchesC lim start A n c off _).mono ?_); rintro e w' ⟨rfl, rfl⟩))
  generalize hw0 : (((w2.alloc (.cells #[.slice none 0 0] 33)).alloc (.cells #[.int .i64 lim, .int .i64 start, .slice A n c] 24)).alloc (.cells #[.int .i64 off] 3)) = W0
  obtain ⟨M, hMM⟩ : ∃ M, M = w2.heap.size := ⟨_, rfl⟩
  have hsz : W0.heap.size = M + 3 := by rw [← hw0, hMM]; simp
  have hB2 : Below w2.heap.size w2 W0 := by rw [← hw0]; exact bel_alloc (bel_alloc (belA w2 _) _) _
  have hB0 : Below w.heap.size w W0 := bel_trans HB2.out hB2
  have hX0 : Boxed W0 M 33 (.slice none 0 0) := by rw [← hw0, hMM]; exact ((Boxed.new w2 _ _).alloc _).alloc _
  have hMo0 : Boxed W0 (w.heap.size + 1) 3 (.int .i64 most) := HM2.out.below hB2
  have hLb : At0 W0 (M + 1) [.int .i64 lim, .int .i64 start, .slice A n c] 24 := by rw [← hw0, hMM]; exact (at0_1 w2 _ [.int .i64 lim, .int .i64 start, .slice A n c] _).alloc _
  have hFb : At0 W0 (M + 1 + 1) [.int .i64 off] 3 := by rw [← hw0, hMM]; exact at0_2 w2 _ _ [.int .i64 off] _
  rw [← hMM] at hwN ⊢
  have hseq := it_seq (8 - 1) (by omega) (M + 1) (M + 1 + 1) w.heap.size lim start off A n c l hn hc hn0 W0 hB0.size (by omega) (by omega) (hLb.cell 2) (hFb.cell 0) (HRW.out.below hB0 (Nat.le_refl _)) (HTW.out.bel hB0) htp
  rw [HIT.out] at hseq
  have HSEQ := Lib.hid hseq
  have HX0 := Lib.hid hX0
  have HMO0 := Lib.hid hMo0
  clear hw0 hMM hseq hLb hFb hX0 hMo0 l0 l1 l2 m0
  refine (wpIn_wide (n := 8)).1 ?_
  refine wpIn_rangeG (F := Fence.wide) rfl (by omega) (gf := 86) (lb := #[.pointer (some ⟨M + 1, 0, none⟩), .pointer (some ⟨M + 1 + 1, 0, none⟩)]) rfl trivial (enters_of Tryz.func86 (by kernel_rfl) rfl) HSEQ.out
    (fun k h => by simp only [ItK] at h; omega) (Below.refl _ _) (fun _ => rfl)
    (fun G pre W => drI most T w.heap.size M G pre W ∧ Below w.heap.size w W) (fun cd pre W => cd = .exit 1 ∧ drX most T M W ∧ Below w.heap.size w W)
    (fun G => OwnFrom.and (Own.from (I := fun (pre : List BX) W => drI most T w.heap.size M G pre W) (fun s X Y row hs hg hrow => drI_own (pre := s) hs hg hrow) _) (ownFrom_below (Nat.le_refl _) hB0.size))
    (fun cd s X Y row hs hg hrow => ⟨hs.1, by obtain ⟨A1, n1, c1, h1, h2⟩ := hs.2.1; exact ⟨A1, n1, c1, boxed_own2 h1 hg (fun r e => (hrow r e).2), OwnT.keptBy h2 hg (fun r e => (hrow r e).2)⟩, ownFrom_below (β := Unit) (Nat.le_refl _) hB0.size () X Y row hs.2.2 hg hrow⟩)
    (fun G X Y ys h hb => ⟨drI_plus h.1 hb, h.2.trans (hb.mono h.2.size)⟩)
    ⟨⟨⟨none, 0, 0, HX0.out, rfl, OwnT.nil, fun g hg => by cases hg⟩, by show Boxed _ _ _ (.int .i64 (most - sizeB [])); rw [sizeB_nil, Int.sub_zero]; exact HMO0.out, ⟨by simp only [ItK]; omega, by simp only [ItK]; omega⟩, fun g hg => by simp only [ItK] at hg; omega, rdS_nil T (by omega)⟩, hB0⟩
    (fun G pre x W1 a' W => (∃ Bx, drA most T w.heap.size M W0.heap.size G pre x W1 Bx W ∧ a' = { tmps := #[.agg #[.int .i64 lim, .int .i64 start, .slice A n c], .int .i64 off, .int .i64 most, .pointer (some ⟨w.heap.size, 0, none⟩), undef, .pointer (some ⟨w.heap.size + 1, 0, none⟩), .slice none 0 0, .int .i64 0, .int .i64 E, .int .i64 0, .pointer (some ⟨M, 0, none⟩), .pointer (some ⟨Bx, 0, none⟩), .tuple #[.int .i64 E, .int .i64 0], .agg #[.int .i64 lim, .int .i64 start, .slice A n c], .tuple #[.int .i64 E, .int .i64 0], .int .i64 E, .int .i64 0, .bool false, .int .i64 0, .bool false, undef, .bool (decide (most < 0)), .int .i64 most, .bool (decide (most < 0)), .bool (decide (off < start) || decide (E < off)), .int .i64 off, .pointer (some ⟨w.heap.size, 1, none⟩), .int .i64 start, .bool (decide (off < start)), .bool (decide (off < start)), .int .i64 off, .int .i64 E, .bool (decide (E < off)), .bool (decide (off < start) || decide (E < off)), .agg #[.int .i64 lim, .int .i64 start, .slice A n c], .int .i64 off, .func (.func 86) #[] #[.pointer (some ⟨M + 1, 0, none⟩), .pointer (some ⟨M + 1 + 1, 0, none⟩)], (encB x)[0]!, undef, undef, undef, undef, undef, undef, undef, undef, undef, undef, undef, undef, undef, undef, undef, undef], defers := [] }) ∧ Below w.heap.size w W)
    (fun G pre x W1 a' => OwnFrom.and (Own.from (I := fun (_ : Unit) W => ∃ Bx, drA most T w.heap.size M W0.heap.size G pre x W1 Bx W ∧ a' = _) (fun s X Y row hs hg hrow => by obtain ⟨Bx, h1, h2⟩ := hs; exact ⟨Bx, drA_own h1 hg hrow, h2⟩) _) (ownFrom_below (Nat.le_refl _) hB0.size))
    ?assign ?body ?done ?stop
  case assign =>
    rintro l2 H pre ⟨⟨ba, la, fr, ep, pi, ge, se, tx, ct, rs⟩, A1, n1, c1⟩ W G hs1 ⟨⟨⟨A9, n9, c9, hb9, hn9, ho9, hg9⟩, hmo, hHN, hHl, hrd⟩, hB⟩ ⟨hq1, hq2, hq3⟩ hG
    dsimp only [encB]
    gi_wp2
    have hbA := belA W (.cells #[.int .i64 ba, .int .i64 la, .int .i64 fr, .int .i64 ep, .int .i64 pi, .int .i64 ge, .int .i64 se, .bool tx, .int .i64 ct, .slice A1 n1 c1] 39)
    exact hG _ _ ((KeepsOthers.alloc _ _).from _) ((KeptQ.refl _ _ _).alloc _) ⟨⟨W.heap.size, ⟨⟨A9, n9, c9, boxed_below hb9 hbA, hn9, OwnT.below ho9 hbA, fun g hg => ⟨hg9 g hg, (OwnT.lt ho9 g hg).2⟩⟩, boxed_below hmo hbA, hq3.below hbA, BoxT.new W _ (⟨ba, la, fr, ep, pi, ge, se, tx, ct, rs⟩, A1, n1, c1), hHN, hHl, hq1, hq2, hb9.lt, Nat.le_refl _, hrd⟩, rfl⟩, bel_trans hB hbA⟩
  case body =>
    rintro l2 H pre ⟨⟨ba, la, fr, ep, pi, ge, se, tx, ct, rs⟩, A1, n1, c1⟩ W1 a' W ⟨⟨Bx, ⟨⟨A9, n9, c9, hb9, hn9, ho9, hg9⟩, hmo, hL, hTB, hHN, hHl, hq, hch, hNl, hBx, hrd⟩, rfl⟩, hB⟩
    have hBl := hTB.lt
    have hsm := pre_lt hq
    have hlen9 := ho9.len
    have hch : chB ⟨ba, la, fr, ep, pi, ge, se, tx, ct, rs⟩ = 0 := hch
    obtain ⟨P, hP⟩ : ∃ P, P = pre.map (·.1) := ⟨_, rfl⟩
    have hPl : P.length = n9 := by rw [hP]; exact hlen9
    rw [← hP] at ho9 hmo hq hrd
    obtain ⟨S0, hS0⟩ : ∃ S0, S0 = most - sizeB P := ⟨_, rfl⟩
    rw [← hS0] at hmo
    have hq : ∃ rest, T = P ++ ⟨ba, la, fr, ep, pi, ge, se, tx, ct, rs⟩ :: rest := hq
    obtain ⟨Z, hZ⟩ : ∃ Z, szB ⟨ba, la, fr, ep, pi, ge, se, tx, ct, rs⟩ = Z := ⟨_, rfl⟩
    have hx48 := (chB_form hch).2
    have hZb : Z = ((byB ⟨ba, la, fr, ep, pi, ge, se, tx, ct, rs⟩).length : Int) := by rw [← hZ]; exact szB_ok hch
    have hI := HMI.out
    unfold I64 at hI
    obtain ⟨S1, hS1⟩ : ∃ S1, S1 = S0 - Z := ⟨_, rfl⟩
    have hwr : IntKind.i64.wrap (S0 - Z) = S1 := by rw [hS1]; exact IntWalk.i64_in _ (by have := hrd.2; omega)
    have HZ := Lib.hid hZ
    have HSS := Lib.hid (show S1 = most - sizeB (P ++ [⟨ba, la, fr, ep, pi, ge, se, tx, ct, rs⟩]) by rw [sizeB_snoc, hS1, hS0, hZb]; omega)
    have HGO := Lib.hid (show ¬ (0 < n9 ∧ S1 < 0) → rdS most T (P ++ [⟨ba, la, fr, ep, pi, ge, se, tx, ct, rs⟩]) from fun h => rdS_step hrd (by omega) hx48 fun hp => by
      have := List.length_pos_iff.2 hp
      have h1 := HSS.out
      rw [sizeB_snoc] at h1
      omega)
    have HST := Lib.hid (show 0 < n9 → S1 < 0 → takeB most T = P from fun h1 h2 => by
      obtain ⟨rest, hr⟩ := hq
      refine rdS_stop hrd (fun hp => by rw [hp] at hPl; simp at hPl; omega) ?_ hr
      have h3 := HSS.out
      rw [sizeB_snoc] at h3
      omega)
    have HFIT := Lib.hid (fits_ok hch)
    have HRX_0 := Lib.hid hL.1
    have HT_0 := Lib.hid (HTW.out.bel hB)
    have hnn : n1 ≤ 1099511627776 := hL.2.2.1
    have HMO_0 := Lib.hid (show At1 W (w.heap.size + 1) [.int .i64 S0] from ⟨hmo.lt, fun j u hj => by match j, hj with | 0, hj => obtain rfl := Option.some.inj hj; exact hmo.cell⟩)
    have HX_0 := Lib.hid (show At0 W Bx (batC (⟨ba, la, fr, ep, pi, ge, se, tx, ct, rs⟩, A1, n1, c1)) 39 from hTB)
    have hfm := hmo.frozen
    have HMOB := Lib.hid hmo
    have HXB := Lib.hid (show At0 W Bx (batC (⟨ba, la, fr, ep, pi, ge, se, tx, ct, rs⟩, A1, n1, c1)) 39 from hTB)
    have hltm := hmo.lt
    clear hrd hq hch hZ hS0 hI hx48 hmo hTB hZb hS1
    gi_wp2
    have hbd := (Below.refl W.heap.size W).drew
    have HRX_R11 := Lib.hid (rdrUp HRX_0.out hbd)
    have HT_R11 := Lib.hid (HT_0.out.bel hbd)
    have HMO_R11 := Lib.hid (HMO_0.out.below hbd)
    have HX_R11 := Lib.hid (HX_0.out.below hbd)
    have HSR11 := Lib.hid (show (fun W9 : World => W9.cell? ⟨(w.heap.size + 1), 0, none⟩ = some (.int .i64 S0) ∧ W9.cell? ⟨Bx, 0, none⟩ = some (.int .i64 ba) ∧ W9.cell? ⟨Bx, 1, none⟩ = some (.int .i64 la) ∧ W9.cell? ⟨Bx, 2, none⟩ = some (.int .i64 fr) ∧ W9.cell? ⟨Bx, 3, none⟩ = some (.int .i64 ep) ∧ W9.cell? ⟨Bx, 4, none⟩ = some (.int .i64 pi) ∧ W9.cell? ⟨Bx, 5, none⟩ = some (.int .i64 ge) ∧ W9.cell? ⟨Bx, 6, none⟩ = some (.int .i64 se) ∧ W9.cell? ⟨Bx, 7, none⟩ = some (.bool tx) ∧ W9.cell? ⟨Bx, 8, none⟩ = some (.int .i64 ct) ∧ W9.cell? ⟨Bx, 9, none⟩ = some (.slice A1 n1 c1)) W.drew from ⟨HMO_R11.out.2 0 _ rfl, HX_R11.out.cell 0, HX_R11.out.cell 1, HX_R11.out.cell 2, HX_R11.out.cell 3, HX_R11.out.cell 4, HX_R11.out.cell 5, HX_R11.out.cell 6, HX_R11.out.cell 7, HX_R11.out.cell 8, HX_R11.out.cell 9⟩)
    clear hbd
    refine region_lr (fun W9 : World => W9.cell? ⟨(w.heap.size + 1), 0, none⟩ = some (.int .i64 S0) ∧ W9.cell? ⟨Bx, 0, none⟩ = some (.int .i64 ba) ∧ W9.cell? ⟨Bx, 1, none⟩ = some (.int .i64 la) ∧ W9.cell? ⟨Bx, 2, none⟩ = some (.int .i64 fr) ∧ W9.cell? ⟨Bx, 3, none⟩ = some (.int .i64 ep) ∧ W9.cell? ⟨Bx, 4, none⟩ = some (.int .i64 pi) ∧ W9.cell? ⟨Bx, 5, none⟩ = some (.int .i64 ge) ∧ W9.cell? ⟨Bx, 6, none⟩ = some (.int .i64 se) ∧ W9.cell? ⟨Bx, 7, none⟩ = some (.bool tx) ∧ W9.cell? ⟨Bx, 8, none⟩ = some (.int .i64 ct) ∧ W9.cell? ⟨Bx, 9, none⟩ = some (.slice A1 n1 c1)) 4 5 hmx (by kernel_rfl) rfl fun ops Q HOPS HQ => ?_
    refine yq 0 HOPS HSR11.out ?_; simp only [ls0, ls1]; refine yq 1 HOPS HSR11.out ?_; simp only [ls0, ls1]
    refine xc 2 HOPS ?_
    go_simp
    with_reducible refine (BSize_is HZ.out A1 n1 c1 _ HFIT.out HRX_R11.out hnn HT_R11.out).mono ?_
    rintro e w4 ⟨rfl, hb⟩
    have HRX_4 := Lib.hid (rdrUp HRX_R11.out hb)
    have HT_4 := Lib.hid (HT_R11.out.bel hb)
    have HMO_4 := Lib.hid (HMO_R11.out.below hb)
    have HX_4 := Lib.hid (HX_R11.out.below hb)
    have HKB := Lib.hid (show Below W.heap.size W w4 from bel_trans (Below.refl W.heap.size W).drew hb)
    have q0 := HMO_4.out.2 0 _ rfl
    have q1 := (hb.frozen (p := ⟨w.heap.size + 1, 0, none⟩) hltm).trans hfm
    have HSR11w4 := Lib.hid (show (fun W9 : World => W9.cell? ⟨(w.heap.size + 1), 0, none⟩ = some (.int .i64 S0) ∧ W9.cell? ⟨Bx, 0, none⟩ = some (.int .i64 ba) ∧ W9.cell? ⟨Bx, 1, none⟩ = some (.int .i64 la) ∧ W9.cell? ⟨Bx, 2, none⟩ = some (.int .i64 fr) ∧ W9.cell? ⟨Bx, 3, none⟩ = some (.int .i64 ep) ∧ W9.cell? ⟨Bx, 4, none⟩ = some (.int .i64 pi) ∧ W9.cell? ⟨Bx, 5, none⟩ = some (.int .i64 ge) ∧ W9.cell? ⟨Bx, 6, none⟩ = some (.int .i64 se) ∧ W9.cell? ⟨Bx, 7, none⟩ = some (.bool tx) ∧ W9.cell? ⟨Bx, 8, none⟩ = some (.int .i64 ct) ∧ W9.cell? ⟨Bx, 9, none⟩ = some (.slice A1 n1 c1)) w4 from ⟨HMO_4.out.2 0 _ rfl, HX_4.out.cell 0, HX_4.out.cell 1, HX_4.out.cell 2, HX_4.out.cell 3, HX_4.out.cell 4, HX_4.out.cell 5, HX_4.out.cell 6, HX_4.out.cell 7, HX_4.out.cell 8, HX_4.out.cell 9⟩)
    clear hb
    refine ⟨HSR11w4.out, ?_⟩
    refine yq 3 HOPS HSR11w4.out ?_; simp only [ls0, ls1]
    refine xl 4 HOPS ?_
    go_simp
    refine stepE HOPS (by kernel_rfl) (HQ.out _ _ ?_)
    clear HQ HOPS
    clear Q ops
    have hMN : w.heap.size + 1 < M := by omega
    have hk5 : KeptQ H W1.heap.size W (w4.setCell ⟨w.heap.size + 1, 0, none⟩ (.int .i64 S1)) := ((KeptQ.refl _ _ _).below HKB.out).set (p := ⟨w.heap.size + 1, 0, none⟩) hHN.2 (by simp only; omega) _
    have hf5 : KeepsFrom W0.heap.size W (w4.setCell ⟨w.heap.size + 1, 0, none⟩ (.int .i64 S1)) := ((below_others HKB.out).trans (KeepsOthers.setCell _ _ _)).from _
    have b5 : Boxed (w4.setCell ⟨w.heap.size + 1, 0, none⟩ (.int .i64 S1)) (w.heap.size + 1) 3 (.int .i64 S1) := (boxed_below HMOB.out HKB.out).set _
    have c5 : Boxed (w4.setCell ⟨w.heap.size + 1, 0, none⟩ (.int .i64 S1)) M 33 (.slice A9 n9 c9) := boxed_set2 (boxed_below hb9 HKB.out) _ (by omega)
    have o5 := (ho9.below HKB.out).set (p := ⟨w.heap.size + 1, 0, none⟩) (by simp only; omega) (by simp only; omega) (.int .i64 S1)
    have x5 : BoxT (w4.setCell ⟨w.heap.size + 1, 0, none⟩ (.int .i64 S1)) Bx 39 (⟨ba, la, fr, ep, pi, ge, se, tx, ct, rs⟩, A1, n1, c1) := (HXB.out.below HKB.out).set (p := ⟨w.heap.size + 1, 0, none⟩) (by simp only; omega) _
    have l5 : LeadT (w4.setCell ⟨w.heap.size + 1, 0, none⟩ (.int .i64 S1)) (fun b => H b ∧ W0.heap.size ≤ b) none (⟨ba, la, fr, ep, pi, ge, se, tx, ct, rs⟩, A1, n1, c1) := (LeadT.below hL HKB.out).keep (by simp) fun b o hb hP _ => cell_off (by simp only; have := hP.2; omega)
    have HB5 := Lib.hid ((bel_trans hB HKB.out).setCell (p := ⟨w.heap.size + 1, 0, none⟩) (by simp only; omega) (.int .i64 S1))
    have z5 : W.heap.size ≤ (w4.setCell ⟨w.heap.size + 1, 0, none⟩ (.int .i64 S1)).heap.size := by simpa using HKB.out.size
    generalize w4.setCell ⟨w.heap.size + 1, 0, none⟩ (.int .i64 S1) = W5 at *
    have HK5 := Lib.hid hk5
    have HF5 := Lib.hid hf5
    have HO5 := Lib.hid o5
    have HC5 := Lib.hid c5
    have HBX5 := Lib.hid b5
    obtain ⟨x0, x1, x2, x3, x4, x5', x6, x7, x8, x9⟩ := x5.box
    have s0 := b5.cell
    have s1 := c5.cell
    have s2 := c5.frozen
    have hBl5 := x5.lt
    by_cases hbr : 0 < n9 ∧ S1 < 0
    · obtain ⟨hbr1, hbr2⟩ := hbr
      have hbr3 : (0 : Int) < (n9 : Int) := by omega
      have HTK := Lib.hid (HST.out hbr1 hbr2)
      clear hk5 hf5 o5 c5 b5 l5 x5 hL
      gi_wp2
      exact ⟨by rw [← hsz]; exact HF5.out, rfl, ⟨A9, n9, c9, HC5.out, by rw [HTK.out]; exact HO5.out⟩, HB5.out⟩
    · have HGG := Lib.hid (HGO.out hbr)
      have hlead : LeadT W5 (fun b => M + 1 ≤ b) (Value.slice A9 n9 c9).ownBlock (⟨ba, la, fr, ep, pi, ge, se, tx, ct, rs⟩, A1, n1, c1) := ⟨l5.1, l5.2.1, l5.2.2.1, l5.2.2.2.1, fun a ha hn => ⟨by have := (l5.2.2.2.2 a ha hn).1.2; omega, fun he => (hg9 _ he.symm).1 (l5.2.2.2.2 a ha hn).1.1⟩⟩
      obtain ⟨A2, c2, w2', hrun, ho2, hg2, hat2, hbel2⟩ := run_appT (P := Tryz.prog) (M + 1) 33 33 39 Tryz.underlying33 batInfo HO5.out (x := (⟨ba, la, fr, ep, pi, ge, se, tx, ct, rs⟩, A1, n1, c1)) hlead (by omega) (by omega)
      dsimp only [batC] at hrun hg2
      have hne : ∀ k, k < M + 1 → some k ≠ (Value.slice A9 n9 c9).ownBlock := fun k hk he => by have := (OwnT.lt HO5.out _ he.symm).1; omega
      have d5 := (HC5.out.alloc (.cells #[.int .i64 ba, .int .i64 la, .int .i64 fr, .int .i64 ep, .int .i64 pi, .int .i64 ge, .int .i64 se, .bool tx, .int .i64 ct, .slice A1 n1 c1] 39)).kept hg2 (hne _ (by omega))
      have e5 := (HBX5.out.alloc (.cells #[.int .i64 ba, .int .i64 la, .int .i64 fr, .int .i64 ep, .int .i64 pi, .int .i64 ge, .int .i64 se, .bool tx, .int .i64 ct, .slice A1 n1 c1] 39)).kept hg2 (hne _ (by omega))
      have f1 := d5.frozen
      have d1 := d5.cell
      have HKQ := Lib.hid ((HK5.out.alloc (.cells #[.int .i64 ba, .int .i64 la, .int .i64 fr, .int .i64 ep, .int .i64 pi, .int .i64 ge, .int .i64 se, .bool tx, .int .i64 ct, .slice A1 n1 c1] 39)).grown hg2 fun k hk => hg9 k hk)
      have HKO := Lib.hid (HF5.out.trans (((KeepsOthers.alloc W5 (.cells #[.int .i64 ba, .int .i64 la, .int .i64 fr, .int .i64 ep, .int .i64 pi, .int .i64 ge, .int .i64 se, .bool tx, .int .i64 ct, .slice A1 n1 c1] 39)).trans (KeepsOthers.of_grownBy hg2 (OwnT.cells (HO5.out.alloc _)))).from _))
      have HO2 := Lib.hid ho2
      have HB2' := Lib.hid (HB5.out.trans (hbel2.mono (by omega)))
      have HD5 := Lib.hid d5
      have HE5 := Lib.hid e5
      have HAT := Lib.hid (show ∀ g, (Value.slice A2 (n9 + 1) c2).ownBlock = some g → ¬ H g from fun g hg h9 => by
        rcases hat2 with h8 | h8
        · exact (hg9 g (h8 ▸ hg)).1 h9
        · rw [h8] at hg; injection hg with hg; have := hHl g h9; omega)
      have hw2 := hbel2.size
      have hnz : ¬ ((0 : Int) < (n9 : Int) ∧ S1 < 0) := fun h => hbr ⟨by omega, h.2⟩
      have HN9 := Lib.hid hn9
      have HP := Lib.hid hP
      clear hk5 hf5 o5 c5 b5 l5 x5 hL d5 e5 hg2 hat2 hbel2 hne ho2 hlead hbr hn9 hP
      by_cases hn9z : 0 < n9
      · have hn9i : (0 : Int) < (n9 : Int) := by omega
        have hS1n : ¬ S1 < 0 := fun h => hnz ⟨hn9i, h⟩
        gi_wp2_with (gi_at_builtin; refine wpListIn_app_run rfl _ _ 33 rfl rfl rfl hrun ?_)
        refine ⟨by rw [← hsz]; exact HKO.out.trans ((KeepsOthers.setCell _ _ _).from _), HKQ.out.set (p := ⟨M, 0, none⟩) hHN.1 hNl _, ⟨⟨A2, n9 + 1, c2, HD5.out.set _, by rw [List.length_append, List.length_singleton, HN9.out], by rw [List.map_append, ← HP.out]; exact HO2.out.set (by simp) (by simp) _, HAT.out⟩, by rw [List.map_append, ← HP.out]; show Boxed _ _ _ (.int .i64 (most - sizeB (P ++ [⟨ba, la, fr, ep, pi, ge, se, tx, ct, rs⟩]))); rw [← HSS.out]; exact boxed_set2 HE5.out _ (by omega), hHN, fun g hg => by have := hHl g hg; simp; omega, by rw [List.map_append, ← HP.out]; exact HGG.out⟩, HB2'.out.setCell (by simp only; omega) _⟩
      · have hn9i : ¬ (0 : Int) < (n9 : Int) := by omega
        gi_wp2_with (gi_at_builtin; refine wpListIn_app_run rfl _ _ 33 rfl rfl rfl hrun ?_)
        refine ⟨by rw [← hsz]; exact HKO.out.trans ((KeepsOthers.setCell _ _ _).from _), HKQ.out.set (p := ⟨M, 0, none⟩) hHN.1 hNl _, ⟨⟨A2, n9 + 1, c2, HD5.out.set _, by rw [List.length_append, List.length_singleton, HN9.out], by rw [List.map_append, ← HP.out]; exact HO2.out.set (by simp) (by simp) _, HAT.out⟩, by rw [List.map_append, ← HP.out]; show Boxed _ _ _ (.int .i64 (most - sizeB (P ++ [⟨ba, la, fr, ep, pi, ge, se, tx, ct, rs⟩]))); rw [← HSS.out]; exact boxed_set2 HE5.out _ (by omega), hHN, fun g hg => by have := hHl g hg; simp; omega, by rw [List.map_append, ← HP.out]; exact HGG.out⟩, HB2'.out.setCell (by simp only; omega) _⟩
  case done =>
    rintro D H ys W hD hys ⟨⟨⟨A9, n9, c9, hb9, hn9, ho9, hg9⟩, _, _, _, hrd⟩, hB⟩ hK
    rw [hys] at ho9 hrd
    have d1 := hb9.cell
    have HB := Lib.hid hB
    have HK := Lib.hid hK
    have HO := Lib.hid ho9
    have HTK := Lib.hid (rdS_end hrd)
    clear hB hK ho9 hb9 hg9 hn9 hrd
    go_wp2
    refine ⟨by simp, .inl ⟨_, _, rfl, run_takeDeferred HK.out, ?_⟩⟩
    refine ⟨.tuple #[.slice A9 n9 c9, .int .i64 0], by simp [results, Tryz.results33, go_sem], A9, n9, c9, rfl, ?_, HB.out.trans (belowK_b (w := w) (Nat.le_refl _) _ D _ _ (by omega) HK.out rfl rfl)⟩
    rw [HTK.out]
    exact (OwnT.keptBy HO.out (grownBy_putObj' _ D (.deferred none)) (fun r e => by cases e; exact ⟨_, HK.out, rfl⟩)).more (by omega) (fun b (hb : M + 1 ≤ b) => show w.heap.size ≤ b by omega)
  case stop =>
    rintro D cd pre W hD ⟨rfl, ⟨A9, n9, c9, hb9, ho9⟩, hB⟩ hK
    have d1 := hb9.cell
    have HB := Lib.hid hB
    have HK := Lib.hid hK
    have HO := Lib.hid ho9
    clear hB hK ho9 hb9
    gi_wp2
    go_wp2
    refine ⟨by simp, .inl ⟨_, _, rfl, run_takeDeferred HK.out, ?_⟩⟩
    refine ⟨.tuple #[.slice A9 n9 c9, .int .i64 0], by simp [results, Tryz.results33, go_sem], A9, n9, c9, rfl, ?_, HB.out.trans (belowK_b (w := w) (Nat.le_refl _) _ D _ _ (by omega) HK.out rfl rfl)⟩
    exact (OwnT.keptBy HO.out (grownBy_putObj' _ D (.deferred none)) (fun r e => by cases e; exact ⟨_, HK.out, rfl⟩)).more (by omega) (fun b (hb : M + 1 ≤ b) => show w.heap.size ≤ b by omega)
theorem Read_is (lim start off most : Int) (A : Option Addr) (n c : Nat) (l : List Sg) (w : World) (hr : RdG w w.heap.size A n l) (ht : Tab w) (hc : n ≤ c) (hn : n ≤ 1000000) (hmI : I64 most) {T : List Bt} {e9 : Int} (h : readL ⟨lim, start, l⟩ off most = (T, e9)) :
    Calls Tryz.prog 33 #[.agg #[.int .i64 lim, .int .i64 start, .slice A n c], .int .i64 off, .int .i64 most] w (TB w T e9) := by
  by_cases he : e9 = 0
  · subst he
    have h' := h
    unfold readL at h
    by_cases h1 : ckL ⟨lim, start, l⟩ ≠ 0
    · rw [if_pos h1] at h; exact absurd (congrArg Prod.snd h) h1
    rw [if_neg h1] at h
    by_cases h2 : most < 0
    · rw [if_pos h2] at h; injection h with _ h; cases h
    rw [if_neg h2] at h
    by_cases h3 : off < start ∨ endL ⟨lim, start, l⟩ < off
    · rw [if_pos h3] at h; injection h with _ h; cases h
    rw [if_neg h3] at h
    injection h with h4 _
    have hC : ckL ⟨lim, start, l⟩ = 0 := by omega
    have hE : endT ⟨lim, start, l⟩ = endL ⟨lim, start, l⟩ := by unfold endT; rw [hC, if_pos rfl]
    rw [← it_from hC (show start ≤ off by omega)] at h4
    rw [← h4]
    exact callsIn_wide.1 (Read_in lim start off most A n c l w hr ht hc hn hmI hC h2 (by omega) hE (by omega) rfl)
  · exact Read_bad lim start off most A n c l w hr ht hn h he
end Go.Proofs.YtejcjmiofidedaaGreatDoor.Chn
