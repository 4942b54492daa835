/- Joined: EpoC. -/
import Derived.Test.YtmjnleohchmadaaEpoB
/- The contract of the landed epoch.last, handed any function, which may keep something of its own between its calls. -/
namespace Go.Proofs.Ytmjnleohchmadaa.Epo
open Go.RowKit Go.Shelf Go.Proofs.Ytmjnleohchmadaa.Oct Go.Proofs.Ytmjnleohchmadaa.RowF Go.Proofs.Ytmjnleohchmadaa.Lay Go.Proofs.Ytmjnleohchmadaa.InR Go.Proofs.Ytmjnleohchmadaa.RngQ Go.Proofs.Ytmjnleohchmadaa.RowL

attribute [local go_sem] Oper.semAt_some

section
variable {σ : Type} {St : σ → World → Prop} {n₀ : Nat} {w : World}
def lsC (N F : Nat) (xs : Array Value) (e : Int) (W : World) : Prop := Boxed W N 3 (.int .i64 e) ∧ Boxed W (N + 1) 52 (.func (.func F) #[] xs) ∧ Boxed W (N + 2) 3 (.int .i64 0) ∧ Boxed W (N + 3) 3 (.int .i64 0)
theorem lsC_own {N F : Nat} {xs : Array Value} {e : Int} {W X : World} {row : Option Nat} (h : lsC N F xs e W) (hg : W.grownBy X row) (hrow : ∀ r, row = some r → ∃ o : Obj, W.heap[r]? = some o ∧ o.isCells = false) : lsC N F xs e X := ⟨boxed_own3 h.1 hg hrow, boxed_own3 h.2.1 hg hrow, boxed_own3 h.2.2.1 hg hrow, boxed_own3 h.2.2.2 hg hrow⟩
theorem lsC_far {N F m : Nat} {xs : Array Value} {e : Int} {W X : World} (h : lsC N F xs e W) (hb : FarE m N W X) : lsC N F xs e X := ⟨hb.box h.1 (by omega), hb.box h.2.1 (by omega), hb.box h.2.2.1 (by omega), hb.box h.2.2.2 (by omega)⟩
def lsI (p : σ → Ep → Bool) (f : σ → Ep → σ) (St : σ → World → Prop) (s0 : σ) (e0 : Int) (L : List Ep) (n N F : Nat) (xs : Array Value) (s : σ) (e : Int) (pre : List EX) (W : World) : Prop :=
  lsC N F xs e W ∧ goL p f s0 e0 L.reverse = goL p f s e (L.take (n - pre.length)).reverse ∧ St s W
theorem keeps_drew {B : Nat} {X Y : World} (h : KeepsFrom B X Y) : KeepsFrom B X Y.drew := ⟨h.size, h.same⟩
theorem st_own (hst : ∀ s X Y, St s X → Below w.heap.size X Y → St s Y) {s : σ} {X Y : World} {row : Option Nat} {B : Nat} (h : St s X) (hb : Below n₀ w X) (hB : w.heap.size ≤ B) (hg : X.grownBy Y row) (hrow : ∀ r, row = some r → B ≤ r ∧ ∃ o : Obj, X.heap[r]? = some o ∧ o.isCells = false) : St s Y :=
  hst s X Y h ((Below.refl _ _).grown hg hb.size (fun k e => Nat.le_trans hB (hrow k e).1))
end
set_option maxRecDepth 100000 in
set_option maxHeartbeats 8000000 in
theorem last_in {σ : Type} (F : Nat) (xs : Array Value) (hF : ∀ (ys : Array Value) (w : World), (callFunc F ys).run Try.prog w = .ok (.enter F ys) w) (p : σ → Ep → Bool) (f : σ → Ep → σ) (St : σ → World → Prop) (s0 : σ) (e0 : Int)
    (A : Option Addr) (n c n₀ : Nat) (L : List Ep) (w : World) (hr : RdE w n₀ A n L) (hn₀ : n₀ ≤ w.heap.size) (hn : n ≤ 140737488351232) (hs0 : St s0 w) (hst : ∀ s X Y, St s X → Below w.heap.size X Y → St s Y)
    (hso : ∀ (s : σ) (x : Ep) (W : World), St s W → Below n₀ w W → Calls Try.prog F (#[.agg #[.int .i64 x.ep, .int .i64 x.st]] ++ xs) W fun e W2 => e = .returned (.bool (p s x)) ∧ St (f s x) W2 ∧ FarE n₀ w.heap.size W W2) :
    CallsIn Fence.wide 6 Try.prog 35 #[.slice A n c, .int .i64 e0, .func (.func F) #[] xs] w fun e w' => ∃ s r, goL p f s0 e0 L.reverse = (s, r) ∧ e = .returned (.tuple #[.int .i64 (atL r).1, .int .i64 (atL r).2]) ∧ St s w' ∧ Below n₀ w w' := by
  have HR := Lib.hid hr
  have HSO := Lib.hid hso
  have HST := Lib.hid hst
  have HL := Lib.hid hr.len
  have HS0 := Lib.hid hs0
  clear hr hso hst hs0
  refine callsIn_of_wp_marks Try.func35 rfl trivial ?_ rfl
  simp only [Try.ntmps35, List.size_toArray, List.length_cons, List.length_nil, Nat.reduceAdd, Nat.reduceSub, Array.replicate_succ, Array.replicate_zero, List.push_toArray, List.append_toArray, List.nil_append, List.cons_append]
  refine wpIn_wide.2 ?_
  go_wp2_with (go_at_call 46; (with_reducible refine (Backward_any A n c _).mono ?_); rintro e w' ⟨rfl, rfl⟩)
  generalize hw0 : (World.alloc (World.alloc _ _) _) = W0
  have hsz : W0.heap.size = w.heap.size + 5 := by rw [← hw0]; simp
  have hB0 : Below w.heap.size w W0 := by rw [← hw0]; exact bel_alloc (bel_alloc (bel_alloc (bel_alloc (belA w _) _) _) _) _
  have hC0 : lsC w.heap.size F xs e0 W0 := by
    rw [← hw0]
    refine ⟨((((Boxed.new w _ _).alloc _).alloc _).alloc _).alloc _, ?_, ?_, ?_⟩
    · have h := Boxed.new (w.alloc (.cells #[.int .i64 e0] 3)) 52 (.func (.func F) #[] xs)
      rw [World.size_alloc] at h
      exact ((h.alloc _).alloc _).alloc _
    · have h := Boxed.new ((w.alloc (.cells #[.int .i64 e0] 3)).alloc (.cells #[.func (.func F) #[] xs] 52)) 3 (.int .i64 0)
      rw [World.size_alloc, World.size_alloc] at h
      exact (h.alloc _).alloc _
    · have h := Boxed.new (((w.alloc (.cells #[.int .i64 e0] 3)).alloc (.cells #[.func (.func F) #[] xs] 52)).alloc (.cells #[.int .i64 0] 3)) 3 (.int .i64 0)
      rw [World.size_alloc, World.size_alloc, World.size_alloc] at h
      exact h.alloc _
  have hS0 : At0 W0 (w.heap.size + 1 + 1 + 1 + 1) [.slice A n c] 22 := by
    rw [← hw0]
    have h := At0.new ((((w.alloc (.cells #[.int .i64 e0] 3)).alloc (.cells #[.func (.func F) #[] xs] 52)).alloc (.cells #[.int .i64 0] 3)).alloc (.cells #[.int .i64 0] 3)) [.slice A n c] 22
    rw [World.size_alloc, World.size_alloc, World.size_alloc, World.size_alloc] at h
    exact h
  clear hw0
  refine (wpIn_wide (n := 6)).1 ?_
  refine wpIn_rangeQ (F := Fence.wide) rfl (by omega) (gf := 48) (lb := #[.pointer (some ⟨w.heap.size + 1 + 1 + 1 + 1, 0, none⟩)]) rfl trivial (enters_of Try.func48 (by kernel_rfl) rfl)
    (bw_seq (6 - 1) (by omega) (w.heap.size + 1 + 1 + 1 + 1) n₀ A n c L hn W0 (Nat.le_trans hn₀ hB0.size) (by omega) (hS0.cell 0) (HR.out.below (hB0.mono hn₀) (Nat.le_refl _)))
    (fun k h => by rcases h with h | h <;> omega) (Below.refl _ _) (fun _ => rfl)
    (fun pre W => (∃ s e, lsI p f St s0 e0 L n w.heap.size F xs s e pre W) ∧ Below n₀ w W)
    (fun cd pre W => (cd = .ret ∧ ∃ s k e, Boxed W (w.heap.size + 2) 3 (.int .i64 ((k : Nat) : Int)) ∧ Boxed W (w.heap.size + 3) 3 (.int .i64 e) ∧ goL p f s0 e0 L.reverse = (s, some (k, e)) ∧ St s W) ∧ Below n₀ w W)
    (fun pre X Y row hs hg hrow => by
      obtain ⟨⟨s, e, h1, h2, h3⟩, h4⟩ := hs
      exact ⟨⟨s, e, lsC_own h1 hg (fun r e => (hrow r e).2), h2, st_own HST.out h3 h4 hB0.size hg hrow⟩, ownFrom_below (β := Unit) hn₀ (Nat.le_trans hn₀ hB0.size) () X Y row h4 hg hrow⟩)
    (fun cd pre X Y row hs hg hrow => by
      obtain ⟨⟨h0, s, k, e, h1, h2, h3, h5⟩, h4⟩ := hs
      exact ⟨⟨h0, s, k, e, boxed_own3 h1 hg (fun r e => (hrow r e).2), boxed_own3 h2 hg (fun r e => (hrow r e).2), h3, st_own HST.out h5 h4 hB0.size hg hrow⟩, ownFrom_below (β := Unit) hn₀ (Nat.le_trans hn₀ hB0.size) () X Y row h4 hg hrow⟩)
    ⟨⟨s0, e0, hC0, by rw [List.length_nil, Nat.sub_zero, List.take_of_length_le (by rw [HL.out]; exact Nat.le_refl _)], HST.out _ _ _ HS0.out hB0⟩, hB0.mono hn₀⟩
    (fun pre x W1 a' W => (∃ Bx s e, lsI p f St s0 e0 L n w.heap.size F xs s e pre W ∧ At0 W Bx [.int .i64 x.1.ep, .int .i64 x.1.st] 32 ∧ (W0.heap.size ≤ Bx ∧ W0.heap.size ≤ W1.heap.size ∧ x.2 + pre.length + 1 = n ∧ L[x.2]? = some x.1) ∧ a' = { tmps := #[.slice A n c, .int .i64 e0, .func (.func F) #[] xs, undef, .pointer (some ⟨w.heap.size, 0, none⟩), .pointer (some ⟨w.heap.size + 1, 0, none⟩), .pointer (some ⟨w.heap.size + 1 + 1, 0, none⟩), .pointer (some ⟨w.heap.size + 1 + 1 + 1, 0, none⟩), .int .i64 (x.2 : Int), .pointer (some ⟨Bx, 0, none⟩), .slice A n c, .func (.func 48) #[] #[.pointer (some ⟨w.heap.size + 1 + 1 + 1 + 1, 0, none⟩)], .int .i64 (x.2 : Int), (encE x)[1]!, undef, undef, undef, undef, undef, undef, undef], defers := [] }) ∧ Below n₀ w W)
    (fun pre x W1 a' => fun s X Y row hs hg hrow => by
      obtain ⟨⟨Bx, s, e, ⟨h1, h2, h3⟩, h4, h5, h6⟩, h7⟩ := hs
      exact ⟨⟨Bx, s, e, ⟨lsC_own h1 hg (fun r e => (hrow r e).2), h2, st_own HST.out h3 h7 hB0.size hg hrow⟩, at0_kept h4 hg (fun r e => (hrow r e).2), h5, h6⟩, ownFrom_below (β := Unit) hn₀ (Nat.le_trans hn₀ hB0.size) () X Y row h7 hg hrow⟩)
    ?assign ?body ?done ?stop
  case assign =>
    rintro l pre ⟨⟨x0, x1⟩, k⟩ W1 W G hs1 ⟨⟨s, e, hC, hgo, hS⟩, hB⟩ hbel ⟨q1, q2⟩ hG
    dsimp only [encE]
    gi_wp2
    have hbA := bel_trans hbel (belA W (.cells #[.int .i64 x0, .int .i64 x1] 32))
    have hN : n₀ ≤ W1.heap.size := Nat.le_trans hn₀ (Nat.le_trans hB0.size hs1)
    have hN2 : w.heap.size ≤ W1.heap.size := Nat.le_trans hB0.size hs1
    exact hG _ _ ((KeepsOthers.alloc _ _).from _) ((KeptQ.refl _ _ _).alloc _) ⟨⟨W.heap.size, s, e, ⟨lsC_far hC (m := n₀) (FarE.of hbA hN), hgo, HST.out _ _ _ hS (hbA.mono hN2)⟩, At0.new W [.int .i64 x0, .int .i64 x1] _, ⟨Nat.le_trans hs1 hbel.size, hs1, q1, q2⟩, rfl⟩, hB.trans (hbA.mono hN)⟩
  case body =>
    rintro l pre ⟨⟨x0, x1⟩, k⟩ W1 a' W ⟨⟨Bx, s, e, ⟨hC, hgo, hS⟩, hAt, ⟨hBx, hs1, q1, q2⟩, rfl⟩, hB⟩
    have b1 := hC.2.1.cell
    have x0' : W.cell? ⟨Bx, 0, none⟩ = some (.int .i64 x0) := hAt.cell 0
    have x1' : W.cell? ⟨Bx, 1, none⟩ = some (.int .i64 x1) := hAt.cell 1
    have HCALL := Lib.hid (HSO.out s ⟨x0, x1⟩ W hS hB)
    dsimp only [encE]
    gi_wp2
    refine ⟨trivial, (CallsIn.inRound l (callsIn_wide.2 HCALL.out)).mono ?_⟩
    rintro e w4 ⟨rfl, hS4, hf4⟩
    have hKF : KeepsFrom W0.heap.size W w4 := hf4.from (by omega)
    have hKQ : KeptQ (BwK n₀ (w.heap.size + 1 + 1 + 1 + 1)) W1.heap.size W w4 := hf4.keptQ (by omega) (by omega)
    have hC4 := lsC_far hC hf4
    have HAT4 := Lib.hid (hf4.at0 hAt (by omega))
    have HB4 := Lib.hid (hB.trans hf4.bel)
    have HS4 := Lib.hid hS4
    have hnk : n - pre.length = k + 1 := by omega
    have hgo2 := hgo
    rw [hnk, take_rev q2, goL] at hgo2
    have HGO := Lib.hid hgo2
    clear b1 x0' x1' hAt hC hB hS4 hf4 hgo hgo2 hnk hS
    rcases hp : p s ⟨x0, x1⟩ with _ | _
    · rw [hp] at HGO
      have d0 := hC4.1.cell
      have d0f := hC4.1.frozen
      have y1 : w4.cell? ⟨Bx, 1, none⟩ = some (.int .i64 x1) := HAT4.out.cell 1
      have HC4 := Lib.hid hC4
      clear hC4
      gi_wp2
      have hk9 : n - (pre ++ [((⟨x0, x1⟩ : Ep), k)]).length = k := by rw [List.length_append, List.length_singleton]; omega
      refine ⟨hKF.trans ((KeepsOthers.setCell _ _ _).from _), hKQ.set (p := ⟨w.heap.size, 0, none⟩) (fun h => by rcases h with h | h <;> simp only at h <;> omega) (show w.heap.size < _ by omega) _, ⟨f s ⟨x0, x1⟩, x1, ⟨HC4.out.1.set _, boxed_set2 HC4.out.2.1 _ (by omega), boxed_set2 HC4.out.2.2.1 _ (by omega), boxed_set2 HC4.out.2.2.2 _ (by omega)⟩, ?_, HST.out _ _ _ HS4.out (Below.setCell (Below.refl w.heap.size w4) (p := ⟨w.heap.size, 0, none⟩) (Nat.le_refl _) _)⟩, HB4.out.setCell hn₀ _⟩
      rw [hk9, HGO.out]
      rfl
    · rw [hp] at HGO
      have HC4 := Lib.hid hC4
      clear hC4
      have hmx : Try.prog.follows .mixedOrders = true := by kernel_rfl
      have HS5 := Lib.hid (show (fun W9 : World => W9.cell? ⟨w.heap.size, 0, none⟩ = some (.int .i64 e)) w4.drew from HC4.out.1.cell)
      gi_wp2_with fail
      refine region_lr (fun W9 : World => W9.cell? ⟨w.heap.size, 0, none⟩ = some (.int .i64 e)) 3 4 hmx (by kernel_rfl) rfl fun ops Q HOPS HQ => ?_
      refine yq 0 HOPS HS5.out ?_; simp only [ls0, ls1]; refine yq 1 HOPS HS5.out ?_; simp only [ls0, ls1]
      refine xc 2 HOPS ?_
      have d2 := HC4.out.2.2.1.cell
      have d2f := HC4.out.2.2.1.frozen
      have d3 := HC4.out.2.2.2.cell
      have d3f := HC4.out.2.2.2.frozen
      go_simp
      refine ⟨HC4.out.1.cell, ?_⟩
      refine xl 3 HOPS ?_
      go_simp
      refine stepE HOPS (by kernel_rfl) (HQ.out _ _ ?_)
      clear HQ HOPS
      clear Q ops
      gi_wp2
      refine ⟨hKF.trans (keeps_drew (((KeepsOthers.setCell _ _ _).trans (KeepsOthers.setCell _ _ _)).from _)), ⟨rfl, f s ⟨x0, x1⟩, k, e, boxed_set2 (HC4.out.2.2.1.set _) _ (by omega), (boxed_set2 HC4.out.2.2.2 _ (by omega)).set _, ?_, HST.out _ _ _ HS4.out ((Below.setCell (Below.setCell (Below.refl w.heap.size w4) (p := ⟨w.heap.size + 1 + 1, 0, none⟩) (by simp only; omega) _) (p := ⟨w.heap.size + 1 + 1 + 1, 0, none⟩) (by simp only; omega) _).drew)⟩, ((HB4.out.setCell (by simp only; omega) _).setCell (by simp only; omega) _).drew⟩
      rw [HGO.out, List.length_reverse, List.length_take, Nat.min_eq_left (by have := (List.getElem?_eq_some_iff.1 q2).1; omega)]
      rfl
  case done =>
    rintro D ys W hD hys ⟨⟨s, e, hC, hgo, hS⟩, hB⟩ hK
    rw [hys, Nat.sub_self] at hgo
    have HGO := Lib.hid hgo
    have d2 := hC.2.2.1.cell
    have d2f := hC.2.2.1.frozen
    have d3 := hC.2.2.2.cell
    have d3f := hC.2.2.2.frozen
    have HB := Lib.hid hB
    have HK := Lib.hid hK
    have HC := Lib.hid hC
    have HS := Lib.hid hS
    clear hB hK hC hS hgo
    go_wp2
    have hK1 := (KeepsOthers.setCell W ⟨w.heap.size + 1 + 1, 0, none⟩ (.int .i64 (-1))).same D _ HK.out rfl
    have hK' := (KeepsOthers.setCell (W.setCell ⟨w.heap.size + 1 + 1, 0, none⟩ (.int .i64 (-1))) ⟨w.heap.size + 1 + 1 + 1, 0, none⟩ (.int .i64 0)).same D _ hK1 rfl
    have r2 := cell_kept (boxed_set2 (HC.out.2.2.1.set (.int .i64 (-1))) (k := w.heap.size + 1 + 1 + 1) (.int .i64 0) (by omega)).cell (grownBy_putObj' _ D (.deferred none)) (fun r e => by cases e; exact ⟨_, hK', rfl⟩)
    have r3 := cell_kept ((boxed_set2 HC.out.2.2.2 (k := w.heap.size + 1 + 1) (.int .i64 (-1)) (by omega)).set (.int .i64 0)).cell (grownBy_putObj' _ D (.deferred none)) (fun r e => by cases e; exact ⟨_, hK', rfl⟩)
    refine ⟨by simp, .inl ⟨_, _, rfl, run_takeDeferred hK', ?_⟩⟩
    refine ⟨.tuple #[.int .i64 (-1), .int .i64 0], by simp [results, Try.results35, go_sem, r2, r3], s, none, HGO.out, rfl, ?_, ?_⟩
    · exact HST.out _ _ _ HS.out ((((Below.refl _ _).setCell (by simp only; omega) _).setCell (by simp only; omega) _).grown (grownBy_putObj' _ D _) (by have := HB.out.size; simpa using this) (fun r e => by cases e; omega))
    · exact ((HB.out.setCell (by simp only; omega) _).setCell (by simp only; omega) _).trans (belowK_b (w := w) hn₀ _ D _ _ (by omega) hK' rfl rfl)
  case stop =>
    rintro D cd pre W hD ⟨⟨rfl, s, k, e, h1, h2, h3, h4⟩, hB⟩ hK
    have HGO := Lib.hid h3
    have HB := Lib.hid hB
    have HK := Lib.hid hK
    have HC1 := Lib.hid h1
    have HC2 := Lib.hid h2
    have HS := Lib.hid h4
    clear hB hK h1 h2 h3 h4
    gi_wp2
    have r2 := cell_kept HC1.out.cell (grownBy_putObj' _ D (.deferred none)) (fun r e => by cases e; exact ⟨_, HK.out, rfl⟩)
    have r3 := cell_kept HC2.out.cell (grownBy_putObj' _ D (.deferred none)) (fun r e => by cases e; exact ⟨_, HK.out, rfl⟩)
    refine ⟨by simp, .inl ⟨_, _, rfl, run_takeDeferred HK.out, ?_⟩⟩
    refine ⟨.tuple #[.int .i64 (k : Int), .int .i64 e], by simp [results, Try.results35, go_sem, r2, r3], s, some (k, e), HGO.out, rfl, ?_, ?_⟩
    · exact HST.out _ _ _ HS.out ((Below.refl _ _).grown (grownBy_putObj' _ D _) HB.out.size (fun r e => by cases e; omega))
    · exact HB.out.trans (belowK_b (w := w) hn₀ _ D _ _ (by omega) HK.out rfl rfl)
theorem lastS_is {σ : Type} (F : Nat) (xs : Array Value) (hF : ∀ (ys : Array Value) (w : World), (callFunc F ys).run Try.prog w = .ok (.enter F ys) w) (p : σ → Ep → Bool) (f : σ → Ep → σ) (St : σ → World → Prop) (s0 : σ) (e0 : Int)
    (A : Option Addr) (n c n₀ : Nat) (L : List Ep) (w : World) (hr : RdE w n₀ A n L) (hn₀ : n₀ ≤ w.heap.size) (hn : n ≤ 140737488351232) (hs0 : St s0 w) (hst : ∀ s X Y, St s X → Below w.heap.size X Y → St s Y)
    (hso : ∀ (s : σ) (x : Ep) (W : World), St s W → Below n₀ w W → Calls Try.prog F (#[.agg #[.int .i64 x.ep, .int .i64 x.st]] ++ xs) W fun e W2 => e = .returned (.bool (p s x)) ∧ St (f s x) W2 ∧ FarE n₀ w.heap.size W W2) {s1 : σ} {r1 : Option (Nat × Int)} (hg : goL p f s0 e0 L.reverse = (s1, r1)) :
    Calls Try.prog 35 #[.slice A n c, .int .i64 e0, .func (.func F) #[] xs] w fun e w' => e = .returned (.tuple #[.int .i64 (atL r1).1, .int .i64 (atL r1).2]) ∧ St s1 w' ∧ Below n₀ w w' :=
  (callsIn_wide.1 (last_in F xs hF p f St s0 e0 A n c n₀ L w hr hn₀ hn hs0 hst hso)).mono fun e w' ⟨s, r, h1, h2, h3, h4⟩ => by
    rw [hg] at h1
    injection h1 with h5 h6
    subst h5; subst h6
    exact ⟨h2, h3, h4⟩
theorem last_is (F : Nat) (xs : Array Value) (hF : ∀ (ys : Array Value) (w : World), (callFunc F ys).run Try.prog w = .ok (.enter F ys) w) (p : Ep → Bool) (e0 : Int) (A : Option Addr) (n c : Nat) (L : List Ep) (w : World) (hr : RdE w w.heap.size A n L) (hn : n ≤ 140737488351232)
    (hso : ∀ (x : Ep) (W : World), Below w.heap.size w W → Calls Try.prog F (#[.agg #[.int .i64 x.ep, .int .i64 x.st]] ++ xs) W fun e W2 => e = .returned (.bool (p x)) ∧ Below W.heap.size W W2) {r1 : Option (Nat × Int)} (hg : (goL (fun _ : Unit => p) (fun _ _ => ()) () e0 L.reverse).2 = r1) :
    Calls Try.prog 35 #[.slice A n c, .int .i64 e0, .func (.func F) #[] xs] w fun e w' => e = .returned (.tuple #[.int .i64 (atL r1).1, .int .i64 (atL r1).2]) ∧ Below w.heap.size w w' :=
  (lastS_is F xs hF (fun _ : Unit => p) (fun _ _ => ()) (fun _ _ => True) () e0 A n c w.heap.size L w hr (Nat.le_refl _) hn trivial (fun _ _ _ _ _ => trivial) (fun _ x W _ hb => (hso x W hb).mono fun _e _W2 ⟨h1, h2⟩ => ⟨h1, trivial, FarE.of h2 hb.size⟩) (s1 := ()) (r1 := r1) (Prod.ext rfl hg)).mono fun _e _w' h => ⟨h.1, h.2.2⟩
end Go.Proofs.Ytmjnleohchmadaa.Epo
