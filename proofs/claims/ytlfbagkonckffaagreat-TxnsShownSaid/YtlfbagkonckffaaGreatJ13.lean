/- Joined: TxnD1, TxnEG. -/
import Derived.Test.YtlfbagkonckffaaGreatJ12
import Derived.Test.YtlfbagkonckffaaGreatJ09
import Derived.Test.YtlfbagkonckffaaGreatJ11
import Derived.RangeFuncNested
import Derived.RangeFuncBound
import Derived.RangeFuncCalls
import Derived.RangeFuncLeaves
import Derived.Shelf.Abstract
import Derived.Shelf.RegionOpen
import Derived.OwnWalkIn
import Derived.TacticsInMore
import Derived.LoopNIn
import Derived.LoopIn
/- The landed txns: isWithin, mayBeOpen. -/
namespace Go.Proofs.YtlfbagkonckffaaGreat.Txn
open Go.RowKit Go.Shelf Oct RowF Lay InR RngQ Bat RowL
open Epo (At0 AtO belA)

attribute [local go_sem] Oper.semAt_some

theorem within_is (n a b : Int) (w : World) : Calls Tryz.prog 79 #[.int .i64 n, .int .i64 a, .int .i64 b] w fun e w' => e = .returned (.bool (decide (a ≤ n ∧ n ≤ b))) ∧ w = w' := by
  by_cases h0 : a ≤ n
  · by_cases h1 : n ≤ b
    · rw [decide_eq_true ⟨h0, h1⟩]
      go_enter Tryz.func79, Tryz.ntmps79
      go_wp2
      go_ret
      exact ⟨rfl, rfl⟩
    · rw [decide_eq_false (fun h => h1 h.2)]
      go_enter Tryz.func79, Tryz.ntmps79
      go_wp2
      go_ret
      exact ⟨rfl, rfl⟩
  · rw [decide_eq_false (fun h => h0 h.1)]
    go_enter Tryz.func79, Tryz.ntmps79
    go_wp2
    go_ret
    exact ⟨rfl, rfl⟩
theorem within_at (n a b : Int) (w : World) {z : Bool} (h : decide (a ≤ n ∧ n ≤ b) = z) : Calls Tryz.prog 79 #[.int .i64 n, .int .i64 a, .int .i64 b] w fun e w' => e = .returned (.bool z) ∧ w = w' := by
  subst h; exact within_is n a b w
set_option maxRecDepth 100000 in
set_option maxHeartbeats 8000000 in
theorem mayO_is (A : Option Addr) (n c : Nat) (L : List Opn) (w : World) (hr : RdOp w w.heap.size A n L) (hn : n ≤ reach) {z : Bool} (hz : chO 0 L = z) :
    Calls Tryz.prog 49 #[.slice A n c] w fun e w' => e = .returned (.bool z) ∧ Below w.heap.size w w' := by
  have HR := Lib.hid hr
  have HZ := Lib.hid hz
  clear hr hz
  refine (callsIn_wide (n := 6)).1 ?_
  refine callsIn_of_wp_marks Tryz.func49 rfl trivial ?_ rfl
  simp only [Tryz.ntmps49, List.size_toArray, List.length_cons, List.length_nil, Nat.reduceAdd, Nat.reduceSub, Array.replicate_succ, Array.replicate_zero, List.push_toArray, List.append_toArray, List.nil_append, List.cons_append]
  refine wpIn_wide.2 ?_
  go_wp2_with (go_at_call 62; (with_reducible refine (eachO_is _ _ _ _).mono ?_); rintro e w' ⟨rfl, rfl⟩)
  generalize hw0 : (World.alloc (World.alloc (World.alloc (World.alloc _ _) _) _) _) = W0
  have hsz : W0.heap.size = w.heap.size + 4 := by rw [← hw0]; simp
  have hB0 : Below w.heap.size w W0 := by rw [← hw0]; exact bel_alloc (bel_alloc (bel_alloc (bel_alloc (Below.refl _ _) _) _) _) _
  have hA0 : At0 W0 (w.heap.size) [Value.bool false] 4 := by
    rw [← hw0]
    have h := At0.new w [Value.bool false] 4
    exact (((h).below (belA _ _)).below (belA _ _)).below (belA _ _)
  have hA1 : At0 W0 (w.heap.size + 1) [Value.int .i64 0] 3 := by
    rw [← hw0]
    have h := At0.new (w.alloc (.cells #[Value.bool false] 4)) [Value.int .i64 0] 3
    simp only [World.size_alloc] at h
    exact ((h).below (belA _ _)).below (belA _ _)
  have hA2 : At0 W0 (w.heap.size + 1 + 1) [Value.slice A n c] 22 := by
    rw [← hw0]
    have h := At0.new ((w.alloc (.cells #[Value.bool false] 4)).alloc (.cells #[Value.int .i64 0] 3)) [Value.slice A n c] 22
    simp only [World.size_alloc] at h
    exact (h).below (belA _ _)
  have hA3 : At0 W0 (w.heap.size + 1 + 1 + 1) [Value.slice (some ⟨w.heap.size + 1 + 1, 0, none⟩) 1 1] 113 := by
    rw [← hw0]
    have h := At0.new (((w.alloc (.cells #[Value.bool false] 4)).alloc (.cells #[Value.int .i64 0] 3)).alloc (.cells #[Value.slice A n c] 22)) [Value.slice (some ⟨w.heap.size + 1 + 1, 0, none⟩) 1 1] 113
    simp only [World.size_alloc] at h
    exact h
  clear hw0
  refine (wpIn_wide (n := 6)).1 ?_
  refine wpIn_rangeQ (F := Fence.wide) rfl (by omega) (gf := 88) (lb := #[.pointer (some ⟨w.heap.size + 1 + 1 + 1, 0, none⟩)]) rfl trivial (enters_of Tryz.func88 (by kernel_rfl) rfl)
    (eaO_seq (6 - 1) (by omega) (w.heap.size + 1 + 1 + 1) (w.heap.size + 1 + 1) w.heap.size 1 1 _ W0 (ea_one (x := ⟨A, n, c, L⟩) (HR.out.below hB0 (Nat.le_refl _)) hn hB0.size hA2 hA3)) (fun k h => by rcases h with h | h | h <;> omega) (Below.refl _ _) (fun _ => rfl)
    (fun pre W => (∃ v rest, L = pre ++ rest ∧ chO 0 L = chO v rest ∧ 0 ≤ v ∧ v ≤ 1099511627777 ∧ Boxed W (w.heap.size) 4 (.bool false) ∧ Boxed W (w.heap.size + 1) 3 (.int .i64 v)) ∧ Below w.heap.size w W)
    (fun cd _ W => (cd = .ret ∧ chO 0 L = false ∧ Boxed W (w.heap.size) 4 (.bool false)) ∧ Below w.heap.size w W)
    (fun pre X Y row hs hg hrow => by
      obtain ⟨⟨v, rest, h1, h2, h3, h3', h4, h5⟩, h6⟩ := hs
      exact ⟨⟨v, rest, h1, h2, h3, h3', box_own h4 hg hrow, box_own h5 hg hrow⟩, bel_own (Nat.le_refl _) hB0.size h6 hg hrow⟩)
    (fun cd pre X Y row hs hg hrow => by
      obtain ⟨⟨h1, h2, h3⟩, h4⟩ := hs
      exact ⟨⟨h1, h2, box_own h3 hg hrow⟩, bel_own (Nat.le_refl _) hB0.size h4 hg hrow⟩)
    ⟨⟨0, L, rfl, rfl, Int.le_refl _, by decide, hA0, hA1⟩, hB0⟩
    (fun pre x W1 a' W => (∃ Bx v rest, W1.heap.size ≤ Bx ∧ W0.heap.size ≤ W1.heap.size ∧ L = pre ++ x :: rest ∧ chO 0 L = chO v (x :: rest) ∧ 0 ≤ v ∧ v ≤ 1099511627777 ∧ Boxed W (w.heap.size) 4 (.bool false) ∧ Boxed W (w.heap.size + 1) 3 (.int .i64 v) ∧ At0 W Bx (opC x) 51 ∧ a' = { tmps := #[.slice A n c, undef, .pointer (some ⟨w.heap.size, 0, none⟩), .pointer (some ⟨w.heap.size + 1, 0, none⟩), .pointer (some ⟨Bx, 0, none⟩), .slice A n c, .slice (some ⟨w.heap.size + 1 + 1, 0, none⟩) 1 1, .func (.func 88) #[] #[.pointer (some ⟨w.heap.size + 1 + 1 + 1, 0, none⟩)], (encO x)[0]!, undef, undef, undef, undef, undef, undef, undef, undef, undef, undef, undef, undef, undef, undef], defers := [] }) ∧ Below w.heap.size w W)
    (fun pre x W1 a' => fun s X Y row hs hg hrow => by
      obtain ⟨⟨Bx, v, rest, h0, h0', h1, h2, h3, h3', h4, h5, h6, h7⟩, h8⟩ := hs
      exact ⟨⟨Bx, v, rest, h0, h0', h1, h2, h3, h3', box_own h4 hg hrow, box_own h5 hg hrow, at_own h6 hg hrow, h7⟩, bel_own (Nat.le_refl _) hB0.size h8 hg hrow⟩)
    ?assign ?body ?done ?stop
  case assign =>
    rintro l pre ⟨x0, x1⟩ W1 W G hs1 ⟨⟨v, rest, h1, h2, h3, h3', h4, h5⟩, hB⟩ hbel ⟨r2, hQ⟩ hG
    have hrest : rest = ⟨x0, x1⟩ :: r2 := List.append_cancel_left (h1.symm.trans ((cat_one (LX.mk A n c L)).symm.trans hQ))
    subst hrest
    dsimp only [encO]
    gi_wp2
    have hbA := bel_trans hbel (belA W (.cells #[.int .i64 x0, .int .i64 x1] 51))
    exact hG _ _ ((KeepsOthers.alloc _ _).from _) ((KeptQ.refl _ _ _).alloc _) ⟨⟨W.heap.size, v, r2, hbel.size, hs1, h1, h2, h3, h3', boxed_below h4 hbA, boxed_below h5 hbA, At0.new W (opC ⟨x0, x1⟩) _, rfl⟩, hB.trans (hbA.mono (Nat.le_trans hB0.size hs1))⟩
  case body =>
    rintro l pre ⟨x0, x1⟩ W1 a' W ⟨⟨Bx, v, rest, hBx, hs1, h1, h2, h3, h3', h4, h5, h6, rfl⟩, hB⟩
    have HL := Lib.hid h1
    have HC := Lib.hid h2
    have HB := Lib.hid hB
    have H4 := Lib.hid h4
    have H5 := Lib.hid h5
    have c1 := h5.cell
    have y0 : W.cell? ⟨Bx, 0, none⟩ = some (.int .i64 x0) := h6.cell 0
    have y1 : W.cell? ⟨Bx, 1, none⟩ = some (.int .i64 x1) := h6.cell 1
    have hs0 := hB0.size
    simp only [chO] at h2
    have HC2 := Lib.hid h2
    clear h1 h2 h4 h5 h6 hB
    have hfn : Fence.wide.fn 79 := trivial
    dsimp only [encO]
    by_cases hok : (v ≤ x0 ∧ x0 ≤ 1099511627776) ∧ (0 ≤ x1 ∧ x1 ≤ 1099511627776)
    · have e9 : chO 0 L = chO (x0 + 1) rest := by rw [HC2.out, decide_eq_true (by omega), Bool.true_and]
      have HE := Lib.hid e9
      have hw : IntKind.i64.wrap (x0 + 1) = x0 + 1 := IntWalk.i64_in _ (by omega)
      have f1 := H5.out.frozen
      have HT0 := Lib.hid (show decide (v ≤ x0 ∧ x0 ≤ 1099511627776) = true from decide_eq_true (by omega))
      have HT1 := Lib.hid (show decide (0 ≤ x1 ∧ x1 ≤ 1099511627776) = true from decide_eq_true (by omega))
      clear e9
      gi_wp2_with (first
        | (gi_at_call 79; (with_reducible refine (CallsIn.inRound l (callsIn_wide.2 (within_at x0 (v) (1099511627776) _ HT0.out))).mono ?_); rintro e w1 ⟨rfl, rfl⟩)
        | (gi_at_call 79; (with_reducible refine (CallsIn.inRound l (callsIn_wide.2 (within_at x1 (0) (1099511627776) _ HT1.out))).mono ?_); rintro e w1 ⟨rfl, rfl⟩))
      refine ⟨(KeepsOthers.setCell _ _ _).from _, (KeptQ.refl _ _ _).set (by rintro (h | h | h) <;> simp only at h <;> omega) (by simp only; omega) _, ⟨_, rest, by rw [HL.out]; simp, HE.out, by omega, by omega, boxed_set2 H4.out _ (by omega), H5.out.set _⟩, HB.out.setCell (by simp only; omega) _⟩
    · have e9 : chO 0 L = false := by rw [HC2.out, decide_eq_false (by omega), Bool.false_and]
      have HE := Lib.hid e9
      have f1 := H4.out.frozen
      have d1 := H4.out.cell
      clear e9
      by_cases hok0 : v ≤ x0 ∧ x0 ≤ 1099511627776
      case neg =>
        have HT0 := Lib.hid (show decide (v ≤ x0 ∧ x0 ≤ 1099511627776) = false from decide_eq_false (by omega))
        gi_wp2_with (first
          | (gi_at_call 79; (with_reducible refine (CallsIn.inRound l (callsIn_wide.2 (within_at x0 (v) (1099511627776) _ HT0.out))).mono ?_); rintro e w1 ⟨rfl, rfl⟩))
        refine ⟨(KeepsOthers.setCell _ _ _).from _, ⟨rfl, HE.out, H4.out.set _⟩, HB.out.setCell (by simp only; omega) _⟩
      have HT0 := Lib.hid (show decide (v ≤ x0 ∧ x0 ≤ 1099511627776) = true from decide_eq_true (by omega))
      have HT1 := Lib.hid (show decide (0 ≤ x1 ∧ x1 ≤ 1099511627776) = false from decide_eq_false (by omega))
      gi_wp2_with (first
        | (gi_at_call 79; (with_reducible refine (CallsIn.inRound l (callsIn_wide.2 (within_at x0 (v) (1099511627776) _ HT0.out))).mono ?_); rintro e w1 ⟨rfl, rfl⟩)
        | (gi_at_call 79; (with_reducible refine (CallsIn.inRound l (callsIn_wide.2 (within_at x1 (0) (1099511627776) _ HT1.out))).mono ?_); rintro e w1 ⟨rfl, rfl⟩))
      refine ⟨(KeepsOthers.setCell _ _ _).from _, ⟨rfl, HE.out, H4.out.set _⟩, HB.out.setCell (by simp only; omega) _⟩
  case done =>
    rintro D ys W hD hys ⟨⟨v, rest, h1, h2, h3, h3', h4, h5⟩, hB⟩ hK
    have hrest : rest = [] := by
      have h9 : L = ys := by rw [hys]; exact (cat_one (LX.mk A n c L)).symm
      rw [h9] at h1
      exact List.self_eq_append_right.1 h1
    subst hrest
    have HZ2 := Lib.hid (show z = true from HZ.out.symm.trans h2)
    have HB := Lib.hid hB
    have HK := Lib.hid hK
    have H4 := Lib.hid h4
    have f1 := h4.frozen
    have d1 := h4.cell
    clear h1 h2 h4 h5 hB hK hys
    go_wp2
    have hK1 := (KeepsOthers.setCell W ⟨w.heap.size, 0, none⟩ (.bool true)).same D _ HK.out rfl
    have r2 := cell_kept (H4.out.set (.bool true)).cell (grownBy_putObj' _ D (.deferred none)) (fun r e => by cases e; exact ⟨_, hK1, rfl⟩)
    refine ⟨by simp, .inl ⟨_, _, rfl, run_takeDeferred hK1, ?_⟩⟩
    refine ⟨.bool true, by simp [results, Tryz.results49, go_sem, r2], by rw [HZ2.out], ?_⟩
    exact (HB.out.setCell (by simp only; omega) _).trans (belowK_b (w := w) (Nat.le_refl _) _ D _ _ (by omega) hK1 rfl rfl)
  case stop =>
    rintro D cd pre W hD ⟨⟨rfl, h2, h3⟩, hB⟩ hK
    have HZ2 := Lib.hid (show z = false from HZ.out.symm.trans h2)
    have HB := Lib.hid hB
    have HK := Lib.hid hK
    have H3 := Lib.hid h3
    clear h2 h3 hB hK
    gi_wp2
    have r2 := cell_kept H3.out.cell (grownBy_putObj' _ D (.deferred none)) (fun r e => by cases e; exact ⟨_, HK.out, rfl⟩)
    refine ⟨by simp, .inl ⟨_, _, rfl, run_takeDeferred HK.out, ?_⟩⟩
    refine ⟨.bool false, by simp [results, Tryz.results49, go_sem, r2], by rw [HZ2.out], ?_⟩
    exact HB.out.trans (belowK_b (w := w) (Nat.le_refl _) _ D _ _ (by omega) HK.out rfl rfl)
end Go.Proofs.YtlfbagkonckffaaGreat.Txn

/- The landed txns.each of watermeet/api.Gone, and its iterator. -/
namespace Go.Proofs.YtlfbagkonckffaaGreat.Txn
open Go.RowKit Go.Shelf Oct RowF Lay InR RngQ Bat

attribute [local go_sem] Oper.semAt_some

theorem eachG_is (A : Option Addr) (n c : Nat) (w : World) : Calls Tryz.prog 70 #[.slice A n c] w fun e w' => e = .returned (.func (.func 95) #[] #[.pointer (some ⟨w.heap.size, 0, none⟩)]) ∧ w.alloc (.cells #[.slice A n c] 117) = w' := by
  go_enter Tryz.func70, Tryz.ntmps70
  go_wp2
  go_ret
  exact ⟨rfl, rfl⟩
def encG (x : Gon) : Array Value := #[.agg #[.int .i64 x.pid, .int .i64 x.no, .int .i64 x.fst, .int .i64 x.lst]]
set_option maxRecDepth 100000 in
set_option maxHeartbeats 4000000 in
theorem eaG_in (d : Nat) (hd : 2 ≤ d) (l bx br n₀ m c : Nat) (Ls : List (LX Gon)) (J Jx : List Gon → World → Prop)
    (hY : ∀ pre x W0 W1, J pre W0 → Below W0.heap.size W0 W1 → EaQ (catL Ls) pre x W0 W1 → YieldAt Fence.wide (d - 1) Tryz.prog l (encG x) W1 fun e W2 =>
      (e = .returned (.bool true) ∧ J (pre ++ [x]) W2 ∧ KeptQ (EaB n₀ bx br) W0.heap.size W1 W2) ∨ (e = .returned (.bool false) ∧ Jx (pre ++ [x]) W2))
    (W : World) (hR : EaR goC 4 n₀ bx br m c Ls W) (h0 : J [] W) :
    CallsIn Fence.wide d Tryz.prog 95 #[.func (.yield l) #[] #[], .pointer (some ⟨bx, 0, none⟩)] W fun e W2 => (∃ v, e = .returned v) ∧ (J (catL Ls) W2 ∨ (∃ pre, Jx pre W2)) := by
  have hd1 : 1 ≤ d := by omega
  have hd2 : 1 ≤ d - 1 := by omega
  have HR := Lib.hid hR
  have hb0 := hR.bx
  have hm9 := hR.few
  have HK0 := Lib.hid (EaK.refl (n₀ := n₀) hR.lx hR.lr)
  clear hR
  refine callsIn_of_wp Tryz.func95 rfl trivial ?_ rfl
  simp only [Tryz.ntmps95, List.size_toArray, List.length_cons, List.length_nil, Nat.reduceAdd, Nat.reduceSub, Array.replicate_succ, Array.replicate_zero, List.push_toArray, List.append_toArray, List.nil_append, List.cons_append]
  gi_wp2
  gi_loopw [9] (fun p wr => eaRel n₀ bx br Ls J W p wr) (fun p _ => m - (intOf p).toNat)
  case atStart => exact ⟨0, rfl, Nat.zero_le _, h0, HK0.out⟩
  case round =>
    obtain ⟨i, rfl, hi, hJ, hK⟩ := hrel
    have HK := Lib.hid hK
    have HLEN := Lib.hid HR.out.len
    by_cases hlt : i < m
    case neg =>
      have him : i = m := by have := HLEN.out; omega
      have hq9 : ¬ ((i : Int) < (m : Int)) := by omega
      have HJ := Lib.hid (show J (catL Ls) wr from by rw [List.take_of_length_le (by have := HLEN.out; omega)] at hJ; exact hJ)
      clear hJ hK him hi
      gi_wp2
      go_end0
      exact ⟨⟨_, rfl⟩, .inl HJ.out⟩
    case pos =>
      obtain ⟨⟨A, n, c1, L⟩, hx, hrow, hrd, hnr⟩ := HR.out.at HK.out hlt
      have HX := Lib.hid hx
      have HRD := Lib.hid (show RdF goC 4 W n₀ A n L from (HR.out.rd _ (List.mem_of_getElem? hx)).1)
      have hq1 : (0 : Int) ≤ (i : Int) := by omega
      have hq2 : (i : Int) < (m : Int) := by omega
      have HN0 := Lib.hid (Nat.le_trans HR.out.n0 HK.out.bel.size)
      obtain ⟨pre0, hpre0⟩ : ∃ p, catL (Ls.take i) = p := ⟨_, rfl⟩
      have HCS := Lib.hid (catL_step hx)
      rw [hpre0] at HCS hJ
      have HJ := Lib.hid hJ
      simp only at hrow
      replace hnr : n ≤ 140737488351232 := hnr
      clear hx hrd hJ hK hpre0
      gi_wp2
      gi_loopw [15] (fun p wr => ebRel n₀ bx br pre0 ⟨A, n, c1, L⟩ J W p wr) (fun p _ => n - (intOf p).toNat)
      case atStart => exact ⟨0, rfl, Nat.zero_le _, by rw [List.take_zero, List.append_nil]; exact HJ.out, HK.out⟩
      case round =>
        obtain ⟨j, rfl, hj, hJ2, hK2⟩ := hrel
        rename World => w2
        have HK2 := Lib.hid hK2
        have HN2 := Lib.hid (Nat.le_trans HR.out.n0 HK2.out.bel.size)
        by_cases hlt2 : j < n
        case neg =>
          have hq9 : ¬ ((j : Int) < (n : Int)) := by simp only at hj; omega
          have HJ2 := Lib.hid (show J (catL (Ls.take (i + 1))) w2 from by
            rw [HCS.out.1]
            rw [List.take_of_length_le (by have := HRD.out.len; simp only at this hj ⊢; omega)] at hJ2
            exact hJ2)
          have hw9 : IntKind.i64.wrap ((i : Int) + 1) = (i : Int) + 1 := IntWalk.i64_in _ (by omega)
          clear hJ2 hK2 hj hrow
          gi_wp2
          go_roundw
          case rel => exact ⟨i + 1, rfl, by have := HLEN.out; omega, HJ2.out, HK2.out⟩
          case measure => simp [intOf]; omega
        case pos =>
          obtain ⟨b, o, ⟨x0, x1, x2, x3⟩, hA, hbl, hxk, hc⟩ := RdF.at (HRD.out.below HK2.out.bel (Nat.le_refl _)) hlt2
          subst hA
          have y0 : w2.cell? ⟨b, o + j * 4, none⟩ = some _ := hc 0 _ rfl
          have y1 := hc 1 _ rfl
          have y2 := hc 2 _ rfl
          have y3 := hc 3 _ rfl
          simp only at y0 y1 y2 y3
          have hQ : EaQ (catL Ls) (pre0 ++ L.take j) ⟨x0, x1, x2, x3⟩ w2 w2 := by
            refine ⟨L.drop (j + 1) ++ catL (Ls.drop (i + 1)), ?_⟩
            rw [HCS.out.2, List.append_assoc, ← List.cons_append]
            have h9 : L = L.take j ++ ⟨x0, x1, x2, x3⟩ :: L.drop (j + 1) := by
              obtain ⟨h8, h7⟩ := List.getElem?_eq_some_iff.1 hxk
              rw [← h7, List.getElem_cons_drop, List.take_append_drop]
            conv => lhs; rw [h9]
            rw [List.append_assoc, List.cons_append]
          have HXK := Lib.hid hxk
          have hq3 : (0 : Int) ≤ (j : Int) := by omega
          have hq4 : (j : Int) < (n : Int) := by omega
          have HSB := Lib.hid (Below.refl w2.heap.size w2)
          obtain ⟨fn, tmps, assign, body, hy, hR1⟩ := hY (pre0 ++ L.take j) ⟨x0, x1, x2, x3⟩ w2 (w2.alloc (.cells (goC ⟨x0, x1, x2, x3⟩).toArray 54)) hJ2 ((Below.refl _ _).alloc (Nat.le_refl _) _) hQ
          dsimp only [encG, goC] at hy
          clear hQ hJ2 hc hxk hbl hK2
          gi_wp2
          refine hR1.mono ?_
          rintro e W3 (⟨rfl, hJ3, hk3⟩ | ⟨rfl, hJx3⟩)
          · have HK3 := Lib.hid (((HK2.out.alloc HN2.out _).kept (Nat.le_trans HN2.out (by simp)) hk3))
            have HJ3 := Lib.hid (show J (pre0 ++ L.take (j + 1)) W3 from by
              have h9 := (List.getElem?_eq_some_iff.1 HXK.out)
              rw [List.take_succ_eq_append_getElem h9.1, h9.2, ← List.append_assoc]
              exact hJ3)
            have hw2 : IntKind.i64.wrap ((j : Int) + 1) = (j : Int) + 1 := IntWalk.i64_in _ (by omega)
            clear hk3 hJ3
            gi_wp2
            go_roundw
            case rel => exact ⟨j + 1, rfl, by simp only; omega, HJ3.out, HK3.out⟩
            case measure => simp [intOf]; omega
          · gi_wp2
            refine bodyPost_ret (results_none rfl _ _ _) rfl ?_
            exact ⟨⟨_, rfl⟩, .inr ⟨_, hJx3⟩⟩
theorem eaG_seq (d : Nat) (hd : 2 ≤ d) (bx br n₀ m c : Nat) (Ls : List (LX Gon)) (w : World) (hR : EaR goC 4 n₀ bx br m c Ls w) :
    SeqQ Fence.wide d Tryz.prog 95 #[.pointer (some ⟨bx, 0, none⟩)] encG (EaB n₀ bx br) (EaQ (catL Ls)) (fun ys => ys = catL Ls) w := fun l J Jx W hW _ _ hY h0 =>
  (eaG_in d hd l bx br n₀ m c Ls J Jx hY W (hR.below hW) h0).mono fun _e _W2 ⟨h1, h2⟩ => ⟨h1, h2.imp (fun h => ⟨_, rfl, h⟩) id⟩
end Go.Proofs.YtlfbagkonckffaaGreat.Txn
