/- Joined: TxnEB, TxnMath4, TxnDM. -/
import Derived.Test.YtlfbagkonckffaaGreatJ09
import Derived.Test.YtlfbagkonckffaaGreatJ15
import Derived.Test.YtlfbagkonckffaaGreatJ11
import Derived.RangeFuncNested
import Derived.RangeFuncBound
import Derived.RangeFuncCalls
import Derived.RangeFuncLeaves
import Derived.Shelf.Abstract
import Derived.Shelf.RegionOpen
import Derived.OwnWalkIn
import Derived.TacticsInMore
import Derived.LoopNIn
import Derived.LoopIn
import Derived.Test.YtlfbagkonckffaaGreatJ05
import Derived.Maps.OwnIn
import Derived.Lib.SlKeysI
import Derived.Test.YtlfbagkonckffaaGreatJ16
import Derived.Test.YtlfbagkonckffaaGreatJ34
import Derived.Test.YtlfbagkonckffaaGreatJ29
import Derived.Laws.EntriesVeiled
/- The landed txns.each of watermeet/api.Batch, and its iterator. -/
namespace Go.Proofs.YtlfbagkonckffaaGreat.Txn
open Go.RowKit Go.Shelf Oct RowF Lay InR RngQ Bat

attribute [local go_sem] Oper.semAt_some

theorem eachB_is (A : Option Addr) (n c : Nat) (w : World) : Calls Tryz.prog 66 #[.slice A n c] w fun e w' => e = .returned (.func (.func 89) #[] #[.pointer (some ⟨w.heap.size, 0, none⟩)]) ∧ w.alloc (.cells #[.slice A n c] 115) = w' := by
  go_enter Tryz.func66, Tryz.ntmps66
  go_wp2
  go_ret
  exact ⟨rfl, rfl⟩
def encB (x : BX) : Array Value := #[.agg #[.int .i64 x.1.base, .int .i64 x.1.last, .int .i64 x.1.frm, .int .i64 x.1.epoch, .int .i64 x.1.pid, .int .i64 x.1.gen, .int .i64 x.1.seq, .bool x.1.txn, .int .i64 x.1.ctl, .slice x.2.1 x.2.2.1 x.2.2.2]]
set_option maxRecDepth 100000 in
set_option maxHeartbeats 4000000 in
theorem eaB_in (d : Nat) (hd : 2 ≤ d) (l bx br n₀ m c : Nat) (Ls : List (LX BX)) (J Jx : List BX → World → Prop)
    (hY : ∀ pre x W0 W1, J pre W0 → Below W0.heap.size W0 W1 → EaQ (catL Ls) pre x W0 W1 → YieldAt Fence.wide (d - 1) Tryz.prog l (encB x) W1 fun e W2 =>
      (e = .returned (.bool true) ∧ J (pre ++ [x]) W2 ∧ KeptQ (EaB n₀ bx br) W0.heap.size W1 W2) ∨ (e = .returned (.bool false) ∧ Jx (pre ++ [x]) W2))
    (W : World) (hR : EaR batC 10 n₀ bx br m c Ls W) (h0 : J [] W) :
    CallsIn Fence.wide d Tryz.prog 89 #[.func (.yield l) #[] #[], .pointer (some ⟨bx, 0, none⟩)] W fun e W2 => (∃ v, e = .returned v) ∧ (J (catL Ls) W2 ∨ (∃ pre, Jx pre W2)) := by
  have hd1 : 1 ≤ d := by omega
  have hd2 : 1 ≤ d - 1 := by omega
  have HR := Lib.hid hR
  have hb0 := hR.bx
  have hm9 := hR.few
  have HK0 := Lib.hid (EaK.refl (n₀ := n₀) hR.lx hR.lr)
  clear hR
  refine callsIn_of_wp Tryz.func89 rfl trivial ?_ rfl
  simp only [Tryz.ntmps89, List.size_toArray, List.length_cons, List.length_nil, Nat.reduceAdd, Nat.reduceSub, Array.replicate_succ, Array.replicate_zero, List.push_toArray, List.append_toArray, List.nil_append, List.cons_append]
  gi_wp2
  gi_loopw [9] (fun p wr => eaRel n₀ bx br Ls J W p wr) (fun p _ => m - (intOf p).toNat)
  case atStart => exact ⟨0, rfl, Nat.zero_le _, h0, HK0.out⟩
  case round =>
    obtain ⟨i, rfl, hi, hJ, hK⟩ := hrel
    have HK := Lib.hid hK
    have HLEN := Lib.hid HR.out.len
    by_cases hlt : i < m
    case neg =>
      have him : i = m := by have := HLEN.out; omega
      have hq9 : ¬ ((i : Int) < (m : Int)) := by omega
      have HJ := Lib.hid (show J (catL Ls) wr from by rw [List.take_of_length_le (by have := HLEN.out; omega)] at hJ; exact hJ)
      clear hJ hK him hi
      gi_wp2
      go_end0
      exact ⟨⟨_, rfl⟩, .inl HJ.out⟩
    case pos =>
      obtain ⟨⟨A, n, c1, L⟩, hx, hrow, hrd, hnr⟩ := HR.out.at HK.out hlt
      have HX := Lib.hid hx
      have HRD := Lib.hid (show RdF batC 10 W n₀ A n L from (HR.out.rd _ (List.mem_of_getElem? hx)).1)
      have hq1 : (0 : Int) ≤ (i : Int) := by omega
      have hq2 : (i : Int) < (m : Int) := by omega
      have HN0 := Lib.hid (Nat.le_trans HR.out.n0 HK.out.bel.size)
      obtain ⟨pre0, hpre0⟩ : ∃ p, catL (Ls.take i) = p := ⟨_, rfl⟩
      have HCS := Lib.hid (catL_step hx)
      rw [hpre0] at HCS hJ
      have HJ := Lib.hid hJ
      simp only at hrow
      replace hnr : n ≤ 140737488351232 := hnr
      clear hx hrd hJ hK hpre0
      gi_wp2
      gi_loopw [15] (fun p wr => ebRel n₀ bx br pre0 ⟨A, n, c1, L⟩ J W p wr) (fun p _ => n - (intOf p).toNat)
      case atStart => exact ⟨0, rfl, Nat.zero_le _, by rw [List.take_zero, List.append_nil]; exact HJ.out, HK.out⟩
      case round =>
        obtain ⟨j, rfl, hj, hJ2, hK2⟩ := hrel
        rename World => w2
        have HK2 := Lib.hid hK2
        have HN2 := Lib.hid (Nat.le_trans HR.out.n0 HK2.out.bel.size)
        by_cases hlt2 : j < n
        case neg =>
          have hq9 : ¬ ((j : Int) < (n : Int)) := by simp only at hj; omega
          have HJ2 := Lib.hid (show J (catL (Ls.take (i + 1))) w2 from by
            rw [HCS.out.1]
            rw [List.take_of_length_le (by have := HRD.out.len; simp only at this hj ⊢; omega)] at hJ2
            exact hJ2)
          have hw9 : IntKind.i64.wrap ((i : Int) + 1) = (i : Int) + 1 := IntWalk.i64_in _ (by omega)
          clear hJ2 hK2 hj hrow
          gi_wp2
          go_roundw
          case rel => exact ⟨i + 1, rfl, by have := HLEN.out; omega, HJ2.out, HK2.out⟩
          case measure => simp [intOf]; omega
        case pos =>
          obtain ⟨b, o, ⟨⟨ba, la, fr, ep, pi, ge, se, tx, ct, rs⟩, AR, nR, cR⟩, hA, hbl, hxk, hc⟩ := RdF.at (HRD.out.below HK2.out.bel (Nat.le_refl _)) hlt2
          subst hA
          have y0 : w2.cell? ⟨b, o + j * 10, none⟩ = some _ := hc 0 _ rfl
          have y1 := hc 1 _ rfl
          have y2 := hc 2 _ rfl
          have y3 := hc 3 _ rfl
          have y4 := hc 4 _ rfl
          have y5 := hc 5 _ rfl
          have y6 := hc 6 _ rfl
          have y7 := hc 7 _ rfl
          have y8 := hc 8 _ rfl
          have y9 := hc 9 _ rfl
          simp only at y0 y1 y2 y3 y4 y5 y6 y7 y8 y9
          have hQ : EaQ (catL Ls) (pre0 ++ L.take j) (⟨ba, la, fr, ep, pi, ge, se, tx, ct, rs⟩, AR, nR, cR) w2 w2 := by
            refine ⟨L.drop (j + 1) ++ catL (Ls.drop (i + 1)), ?_⟩
            rw [HCS.out.2, List.append_assoc, ← List.cons_append]
            have h9 : L = L.take j ++ (⟨ba, la, fr, ep, pi, ge, se, tx, ct, rs⟩, AR, nR, cR) :: L.drop (j + 1) := by
              obtain ⟨h8, h7⟩ := List.getElem?_eq_some_iff.1 hxk
              rw [← h7, List.getElem_cons_drop, List.take_append_drop]
            conv => lhs; rw [h9]
            rw [List.append_assoc, List.cons_append]
          have HXK := Lib.hid hxk
          have hq3 : (0 : Int) ≤ (j : Int) := by omega
          have hq4 : (j : Int) < (n : Int) := by omega
          have HSB := Lib.hid (Below.refl w2.heap.size w2)
          obtain ⟨fn, tmps, assign, body, hy, hR1⟩ := hY (pre0 ++ L.take j) (⟨ba, la, fr, ep, pi, ge, se, tx, ct, rs⟩, AR, nR, cR) w2 (w2.alloc (.cells (batC (⟨ba, la, fr, ep, pi, ge, se, tx, ct, rs⟩, AR, nR, cR)).toArray 28)) hJ2 ((Below.refl _ _).alloc (Nat.le_refl _) _) hQ
          dsimp only [encB, batC] at hy
          clear hQ hJ2 hc hxk hbl hK2
          gi_wp2
          refine hR1.mono ?_
          rintro e W3 (⟨rfl, hJ3, hk3⟩ | ⟨rfl, hJx3⟩)
          · have HK3 := Lib.hid (((HK2.out.alloc HN2.out _).kept (Nat.le_trans HN2.out (by simp)) hk3))
            have HJ3 := Lib.hid (show J (pre0 ++ L.take (j + 1)) W3 from by
              have h9 := (List.getElem?_eq_some_iff.1 HXK.out)
              rw [List.take_succ_eq_append_getElem h9.1, h9.2, ← List.append_assoc]
              exact hJ3)
            have hw2 : IntKind.i64.wrap ((j : Int) + 1) = (j : Int) + 1 := IntWalk.i64_in _ (by omega)
            clear hk3 hJ3
            gi_wp2
            go_roundw
            case rel => exact ⟨j + 1, rfl, by simp only; omega, HJ3.out, HK3.out⟩
            case measure => simp [intOf]; omega
          · gi_wp2
            refine bodyPost_ret (results_none rfl _ _ _) rfl ?_
            exact ⟨⟨_, rfl⟩, .inr ⟨_, hJx3⟩⟩
theorem eaB_seq (d : Nat) (hd : 2 ≤ d) (bx br n₀ m c : Nat) (Ls : List (LX BX)) (w : World) (hR : EaR batC 10 n₀ bx br m c Ls w) :
    SeqQ Fence.wide d Tryz.prog 89 #[.pointer (some ⟨bx, 0, none⟩)] encB (EaB n₀ bx br) (EaQ (catL Ls)) (fun ys => ys = catL Ls) w := fun l J Jx W hW _ _ hY h0 =>
  (eaB_in d hd l bx br n₀ m c Ls J Jx hY W (hR.below hW) h0).mono fun _e _W2 ⟨h1, h2⟩ => ⟨h1, h2.imp (fun h => ⟨_, rfl, h⟩) id⟩
end Go.Proofs.YtlfbagkonckffaaGreat.Txn

/- The mathematics of layer 12: what batches make, step by step, and what is open as a map's datum. Nothing of the program. -/
namespace Go.Proofs.YtlfbagkonckffaaGreat.Txn
open Oct Rec Bat

theorem on_bad {t : Tx} {b : Bt} (h : chB b ≠ 0 ∨ b.base ≤ topT t) : onT t b = t := by
  unfold onT
  by_cases h2 : (putT t b).2 = 0
  · exfalso
    obtain ⟨x, hx⟩ : ∃ x, putT t b = (x, 0) := ⟨(putT t b).1, by rw [← h2]⟩
    obtain ⟨_, h3, h4, _⟩ := put_ok hx
    rcases h with h | h
    · exact h h3
    · omega
  · rw [if_neg h2]
theorem on_end {t : Tx} {b : Bt} (h1 : ckT t = true) (h2 : chB b = 0) (h3 : topT t < b.base) (h4 : hasO t.op b.pid = true) (h5 : b.ctl ≠ 0) :
    onT t b = ⟨delO t.op b.pid, (endT t b (fstO t.op b.pid)).gone, (endT t b (fstO t.op b.pid)).done⟩ ∧ topT (onT t b) = b.base := by
  rw [on_is h1 h2 h3]
  have e : stepT t b = ⟨delO t.op b.pid, (endT t b (fstO t.op b.pid)).gone, (endT t b (fstO t.op b.pid)).done⟩ := by unfold stepT; rw [if_pos h4, if_neg h5]
  refine ⟨e, Int.le_antisymm (step_top h3) ?_⟩
  obtain ⟨_, _, g2, g3⟩ := topT_ge (stepT t b)
  by_cases hc : b.ctl = 1
  · have := g3 (endG b (fstO t.op b.pid)) (by rw [step_done, if_pos ⟨h4, hc⟩]; simp)
    exact this
  · have := g2 (endG b (fstO t.op b.pid)) (by rw [step_gone, if_pos ⟨h4, h5, hc⟩]; simp)
    exact this
theorem on_begin {t : Tx} {b : Bt} (h1 : ckT t = true) (h2 : chB b = 0) (h3 : topT t < b.base) (h4 : hasO t.op b.pid = false) (h5 : b.ctl = 0) (h6 : b.txn = true) :
    onT t b = ⟨insO t.op b.pid b.base, t.gone, t.done⟩ ∧ topT (onT t b) = b.base := by
  rw [on_is h1 h2 h3]
  have e : stepT t b = ⟨insO t.op b.pid b.base, t.gone, t.done⟩ := by unfold stepT; rw [if_neg (by rw [h4]; decide), if_pos ⟨h5, h6⟩]
  refine ⟨e, Int.le_antisymm (step_top h3) ?_⟩
  obtain ⟨_, g1, _, _⟩ := topT_ge (stepT t b)
  have := g1 ⟨b.pid, b.base⟩ (by rw [e]; exact mem_ins.2 (.inl rfl))
  exact this
theorem on_none {t : Tx} {b : Bt} (h1 : ckT t = true) (h2 : chB b = 0) (h3 : topT t < b.base) (h4 : hasO t.op b.pid = true → b.ctl = 0) (h5 : hasO t.op b.pid = false → ¬ (b.ctl = 0 ∧ b.txn = true)) : onT t b = t := by
  rw [on_is h1 h2 h3]
  unfold stepT
  by_cases h : hasO t.op b.pid = true
  · rw [if_pos h, if_pos (h4 h)]
  · rw [if_neg h, if_neg (h5 (by simpa using h))]
theorem on_len (t : Tx) (b : Bt) : (onT t b).op.length ≤ t.op.length + 1 ∧ (onT t b).gone.length ≤ t.gone.length + 1 ∧ (onT t b).done.length ≤ t.done.length + 1 := by
  unfold onT
  split
  · rename_i h
    obtain ⟨x, hx⟩ : ∃ x, putT t b = (x, 0) := ⟨(putT t b).1, by rw [← h]⟩
    obtain ⟨_, _, _, rfl⟩ := put_ok hx
    rw [hx]
    refine ⟨?_, ?_, ?_⟩
    · show (stepT t b).op.length ≤ _
      rw [step_op]
      split
      · split
        · omega
        · have := List.length_filter_le (fun o : Opn => !decide (o.pid = b.pid)) t.op
          unfold delO; omega
      · split
        · rw [insO_at]; simp; omega
        · omega
    · show (stepT t b).gone.length ≤ _
      rw [step_gone]
      split <;> simp
    · show (stepT t b).done.length ≤ _
      rw [step_done]
      split <;> simp
  · omega
theorem of_len (bs : List Bt) : (ofT bs).op.length ≤ bs.length ∧ (ofT bs).gone.length ≤ bs.length ∧ (ofT bs).done.length ≤ bs.length := by
  have h : ∀ (bs : List Bt) (t : Tx), (bs.foldl onT t).op.length ≤ t.op.length + bs.length ∧ (bs.foldl onT t).gone.length ≤ t.gone.length + bs.length ∧ (bs.foldl onT t).done.length ≤ t.done.length + bs.length := by
    intro bs
    induction bs with
    | nil => intro t; exact ⟨Nat.le_refl _, Nat.le_refl _, Nat.le_refl _⟩
    | cons b bs ih =>
      intro t
      have h1 := ih (onT t b)
      have h2 := on_len t b
      simp only [List.foldl_cons, List.length_cons]
      omega
  have := h bs nilT
  simpa [nilT, ofT] using this
def dOp (l : List Opn) : DataW Nat := .map (l.map fun o => (.int .i64 o.pid, .lit (.int .i64 o.fst)))
theorem same_int (a b : Int) : (Lit.int .i64 a).sameKey (.int .i64 b) = decide (a = b) := by
  simp [Lit.sameKey]
  try (by_cases h : a = b <;> simp [h])
theorem before_int (a b : Int) : (Lit.int .i64 a).before (.int .i64 b) = decide (a < b) := by
  simp [Lit.before]
theorem has_d (l : List Opn) (p : Int) : Maps.has (dOp l) (.int .i64 p) = hasO l p := by
  unfold dOp hasO
  rw [Maps.has_eq, List.any_map]
  congr 1
  funext o
  exact same_int _ _
theorem at_d (l : List Opn) (p : Int) : (dOp l).atKey (.int .i64 p) (.lit (.int .i64 0)) = .lit (.int .i64 (fstO l p)) := by
  unfold dOp DataW.atKey
  simp only
  induction l with
  | nil => rfl
  | cons o l ih =>
    rw [List.map_cons, List.find?_cons]
    simp only [same_int]
    unfold fstO
    by_cases h : o.pid = p
    · rw [decide_eq_true h, if_pos h]
    · rw [decide_eq_false h, if_neg h]; exact ih
theorem del_d (l : List Opn) (p : Int) : (dOp l).del (.int .i64 p) = dOp (delO l p) := by
  unfold dOp DataW.del delO
  simp only
  congr 1
  rw [List.filter_map]
  congr 1
  refine List.filter_congr fun o _ => ?_
  show (!Lit.sameKey _ _) = _
  rw [same_int]
theorem ins_d (p b : Int) : ∀ l : List Opn, hasO l p = false → DataW.insert ((.int .i64 p, .lit (.int .i64 b)) : Lit × DataW Nat) (l.map fun o => (.int .i64 o.pid, .lit (.int .i64 o.fst))) = (insO l p b).map fun o => (.int .i64 o.pid, .lit (.int .i64 o.fst)) := by
  intro l
  induction l with
  | nil => intro _; rfl
  | cons o l ih =>
    intro h
    unfold hasO at h
    rw [List.any_cons, Bool.or_eq_false_iff, decide_eq_false_iff_not] at h
    rw [List.map_cons, DataW.insert, insO]
    simp only [before_int]
    by_cases h1 : o.pid < p
    · rw [if_neg (by simp only [decide_eq_true_eq]; omega), if_pos h1, List.map_cons, ih h.2]
    · rw [if_pos (by simp only [decide_eq_true_eq]; omega), if_neg h1]
      rfl
theorem put_d (l : List Opn) (p b : Int) (h : hasO l p = false) : (dOp l).put (.int .i64 p) (.lit (.int .i64 b)) = dOp (insO l p b) := by
  unfold dOp DataW.put
  simp only
  congr 1
  rw [← ins_d p b l h]
  congr 1
  rw [List.filter_eq_self]
  intro q hq
  obtain ⟨o, ho, rfl⟩ := List.mem_map.1 hq
  show (!Lit.sameKey _ _) = true
  rw [same_int]
  unfold hasO at h
  rw [List.any_eq_false] at h
  have := h o ho
  simpa using this
theorem keys_d (l : List Opn) : intKeys (dOp l) = l.map (·.pid) := by
  unfold dOp intKeys
  simp only [List.map_map]
  rfl
theorem size_d (l : List Opn) : Maps.size (dOp l) = l.length := by
  unfold dOp
  rw [Maps.size_eq, List.length_map]
theorem chO_sorted : ∀ {l : List Opn} {v : Int}, chO v l = true → (l.map (·.pid)).Pairwise fun a b => decide (a ≤ b) = true := by
  intro l
  induction l with
  | nil => intro _ _; exact List.Pairwise.nil
  | cons o l ih =>
    intro v h
    simp only [chO, Bool.and_eq_true, decide_eq_true_eq] at h
    rw [List.map_cons, List.pairwise_cons]
    refine ⟨fun p hp => ?_, ih h.2⟩
    obtain ⟨x, hx, rfl⟩ := List.mem_map.1 hp
    have := chO_mem h.2 x hx
    simp only [decide_eq_true_eq]
    omega
theorem sort_d {l : List Opn} {ss : List Int} (h : chO 0 l = true) (hp : ss.Perm (l.map (·.pid))) : ss.mergeSort (fun x y => decide (x ≤ y)) = l.map (·.pid) := by
  have h1 : (ss.mergeSort fun x y => decide (x ≤ y)).Pairwise fun a b => decide (a ≤ b) = true := List.pairwise_mergeSort (fun a b c h1 h2 => by simp only [decide_eq_true_eq] at *; omega) (fun a b => by simp only [Bool.or_eq_true, decide_eq_true_eq]; omega) ss
  exact List.Perm.eq_of_pairwise (fun a b _ _ h1 h2 => by simp only [decide_eq_true_eq] at *; omega) h1 (chO_sorted h) ((List.mergeSort_perm ss _).trans hp)
end Go.Proofs.YtlfbagkonckffaaGreat.Txn

/- The landed txns: what Of keeps from round to round. -/
namespace Go.Proofs.YtlfbagkonckffaaGreat.Txn
open Go.RowKit Go.Shelf Go.Sort Oct Rec RowF Lay InR RngQ Bat RowL
open Epo (At0 AtO belA cel2)
open Sqs (at0_grown at0_set9 grown_set9 grown_bel grown_then)

attribute [local go_sem] Oper.semAt_some

theorem of_start (A : Option Addr) (n c : Nat) (w : World) {W0 : World} (hw0 : (((((((w.alloc (.cells #[.slice none 0 0, .slice none 0 0, .slice none 0 0] 25)).alloc (.cells #[.slice none 0 0, .slice none 0 0, .slice none 0 0] 25)).alloc (.map #[] 0)).alloc (.cells #[.map (some (w.heap.size + 1 + 1))] 85)).alloc (.cells #[.int .i64 (-1)] 3)).alloc (.cells #[.slice A n c] 38)).alloc (.cells #[.slice (some ⟨w.heap.size + 1 + 1 + 1 + 1 + 1, 0, none⟩) 1 1] 115)) = W0) :
    W0.heap.size = w.heap.size + 7 ∧ Below w.heap.size w W0 ∧ At0 W0 (w.heap.size) [.slice none 0 0, .slice none 0 0, .slice none 0 0] 25 ∧ At0 W0 (w.heap.size + 1) [.slice none 0 0, .slice none 0 0, .slice none 0 0] 25 ∧ At0 W0 (w.heap.size + 1 + 1 + 1) [.map (some (w.heap.size + 1 + 1))] 85 ∧ At0 W0 (w.heap.size + 1 + 1 + 1 + 1) [.int .i64 (-1)] 3 ∧ At0 W0 (w.heap.size + 1 + 1 + 1 + 1 + 1) [.slice A n c] 38 ∧ At0 W0 (w.heap.size + 1 + 1 + 1 + 1 + 1 + 1) [.slice (some ⟨w.heap.size + 1 + 1 + 1 + 1 + 1, 0, none⟩) 1 1] 115 ∧ W0.ownsMap Tryz.prog 3 (plainElem Tryz.prog 3) (w.heap.size + 1 + 1) 0 (dOp []) := by
  subst hw0
  refine ⟨by simp, bel_alloc (bel_alloc (bel_alloc (bel_alloc (bel_alloc (bel_alloc (bel_alloc (Below.refl _ _) _) _) _) _) _) _) _, ?_, ?_, ?_, ?_, ?_, ?_, ?_⟩
  · have h := At0.new w [.slice none 0 0, .slice none 0 0, .slice none 0 0] 25
    exact ((((((h).below (belA _ _)).below (belA _ _)).below (belA _ _)).below (belA _ _)).below (belA _ _)).below (belA _ _)
  · have h := At0.new (w.alloc (.cells #[.slice none 0 0, .slice none 0 0, .slice none 0 0] 25)) [.slice none 0 0, .slice none 0 0, .slice none 0 0] 25
    simp only [World.size_alloc] at h
    exact (((((h).below (belA _ _)).below (belA _ _)).below (belA _ _)).below (belA _ _)).below (belA _ _)
  · have h := At0.new (((w.alloc (.cells #[.slice none 0 0, .slice none 0 0, .slice none 0 0] 25)).alloc (.cells #[.slice none 0 0, .slice none 0 0, .slice none 0 0] 25)).alloc (.map #[] 0)) [.map (some (w.heap.size + 1 + 1))] 85
    simp only [World.size_alloc] at h
    exact (((h).below (belA _ _)).below (belA _ _)).below (belA _ _)
  · have h := At0.new ((((w.alloc (.cells #[.slice none 0 0, .slice none 0 0, .slice none 0 0] 25)).alloc (.cells #[.slice none 0 0, .slice none 0 0, .slice none 0 0] 25)).alloc (.map #[] 0)).alloc (.cells #[.map (some (w.heap.size + 1 + 1))] 85)) [.int .i64 (-1)] 3
    simp only [World.size_alloc] at h
    exact ((h).below (belA _ _)).below (belA _ _)
  · have h := At0.new (((((w.alloc (.cells #[.slice none 0 0, .slice none 0 0, .slice none 0 0] 25)).alloc (.cells #[.slice none 0 0, .slice none 0 0, .slice none 0 0] 25)).alloc (.map #[] 0)).alloc (.cells #[.map (some (w.heap.size + 1 + 1))] 85)).alloc (.cells #[.int .i64 (-1)] 3)) [.slice A n c] 38
    simp only [World.size_alloc] at h
    exact (h).below (belA _ _)
  · have h := At0.new ((((((w.alloc (.cells #[.slice none 0 0, .slice none 0 0, .slice none 0 0] 25)).alloc (.cells #[.slice none 0 0, .slice none 0 0, .slice none 0 0] 25)).alloc (.map #[] 0)).alloc (.cells #[.map (some (w.heap.size + 1 + 1))] 85)).alloc (.cells #[.int .i64 (-1)] 3)).alloc (.cells #[.slice A n c] 38)) [.slice (some ⟨w.heap.size + 1 + 1 + 1 + 1 + 1, 0, none⟩) 1 1] 115
    simp only [World.size_alloc] at h
    exact h
  · have h := World.ownsMap_made (H := Nat) ((w.alloc (.cells #[.slice none 0 0, .slice none 0 0, .slice none 0 0] 25)).alloc (.cells #[.slice none 0 0, .slice none 0 0, .slice none 0 0] 25)) Tryz.prog 3 (plainElem Tryz.prog 3)
    simp only [World.size_alloc] at h
    exact ((((h).alloc _).alloc _).alloc _).alloc _
structure OfS (W : World) (s N : Nat) (A2 : Option Addr) (n2 c2 : Nat) (A3 : Option Addr) (n3 c3 cnt : Nat) (T : Tx) : Prop where
  t2 : At0 W s [.slice none 0 0, .slice none 0 0, .slice none 0 0] 25
  t3 : At0 W (s + 1) [.slice none 0 0, .slice A2 n2 c2, .slice A3 n3 c3] 25
  t4 : At0 W (s + 1 + 1 + 1) [.map (some (s + 1 + 1))] 85
  t5 : At0 W (s + 1 + 1 + 1 + 1) [.int .i64 (topT T)] 3
  own : OwnTx W N none 0 0 A2 n2 c2 A3 n3 c3 ⟨[], T.gone, T.done⟩
  mp : W.ownsMap Tryz.prog 3 (plainElem Tryz.prog 3) (s + 1 + 1) cnt (dOp T.op)
section
variable {W V : World} {s N : Nat} {A2 : Option Addr} {n2 c2 : Nat} {A3 : Option Addr} {n3 c3 cnt : Nat} {T : Tx}
theorem OfS.below (h : OfS W s N A2 n2 c2 A3 n3 c3 cnt T) (hb : Below W.heap.size W V) : OfS V s N A2 n2 c2 A3 n3 c3 cnt T :=
  ⟨h.t2.below hb, h.t3.below hb, h.t4.below hb, h.t5.below hb, h.own.below hb, h.mp.kept (row := none) (grown_bel hb) (by simp)⟩
theorem OfS.turn (h : OfS W s N A2 n2 c2 A3 n3 c3 cnt T) {M : Nat} (hm : s + 1 + 1 < M) {row : Option Nat} (hg : W.grownBy V row) (hrow : ∀ r, row = some r → M ≤ r ∧ ∃ o : Obj, W.heap[r]? = some o ∧ o.isCells = false) : OfS V s N A2 n2 c2 A3 n3 c3 cnt T :=
  ⟨at_own h.t2 hg hrow, at_own h.t3 hg hrow, at_own h.t4 hg hrow, at_own h.t5 hg hrow, ⟨row_own h.own.op hg hrow, row_own h.own.gone hg hrow, row_own h.own.done hg hrow, h.own.apart⟩, h.mp.kept hg (fun e => by have := (hrow _ e.symm).1; omega)⟩
theorem OwnTx.grown9 {B : Nat} {A A2 A3 : Option Addr} {n c n2 c2 n3 c3 g : Nat} {t : Tx} (h : OwnTx W B A n c A2 n2 c2 A3 n3 c3 t) (hg : W.grownBy V (some g)) (hB : g < B) : OwnTx V B A n c A2 n2 c2 A3 n3 c3 t := by
  have hx : ∀ {α : Type} {f : α → List Value} {k m : Nat} {e : TypeId} {v : Value} {l : List α}, OwnF f k W e B v m l → OwnF f k V e B v m l := fun h => World.ownsRow.kept h hg (.inr fun e => by have := (World.ownsRow.lt h g e).1; omega)
  exact ⟨hx h.op, hx h.gone, hx h.done, h.apart⟩
theorem OfS.turnMap (h : OfS W s N A2 n2 c2 A3 n3 c3 cnt T) {cnt' : Nat} {T' : Tx} {b : Int} (hs : s + 7 ≤ N) (hm : V.ownsMap Tryz.prog 3 (plainElem Tryz.prog 3) (s + 1 + 1) cnt' (dOp T'.op)) (hg : W.grownBy V (some (s + 1 + 1))) (h1 : T'.gone = T.gone) (h2 : T'.done = T.done) (h3 : topT T' = b) :
    OfS (V.setCell ⟨s + 1 + 1 + 1 + 1, 0, none⟩ (.int .i64 b)) s N A2 n2 c2 A3 n3 c3 cnt' T' := by
  have hne : ∀ {k : Nat}, k ≠ s + 1 + 1 → some k ≠ some (s + 1 + 1) := fun h e => h (by injection e)
  refine ⟨at_set (at0_grown h.t2 hg (hne (by omega))) (by omega) _ _, at_set (at0_grown h.t3 hg (hne (by omega))) (by omega) _ _, at_set (at0_grown h.t4 hg (hne (by omega))) (by omega) _ _, ?_, ?_, hm.setCell (by simp only; omega) _⟩
  · rw [h3]; exact at0_set9 (at0_grown h.t5 hg (hne (by omega))) 0 _
  · rw [h1, h2]
    have h9 := h.own.grown9 hg (by omega)
    exact h9.set (h9.offBelow (by omega)) _ _
theorem turned_grown {W V : World} {b : Nat} (h : W.mapTurned V b) : W.grownBy V (some b) := by
  obtain ⟨es, cl, es', cl', hb, rfl⟩ := h
  exact ⟨rfl, rfl, rfl, by simp [ChangeMaps.setBlock], fun i _ hi => ChangeMaps.heap_setBlock_other hb _ (fun e => hi (by rw [e]))⟩
def endW (V : World) (s : Nat) (A4 : Option Addr) (n4 c4 : Nat) (A5 : Option Addr) (n5 c5 : Nat) (b : Int) : World := (((V.setCell ⟨s + 1, 0, none⟩ (.slice none 0 0)).setCell ⟨s + 1, 1, none⟩ (.slice A4 n4 c4)).setCell ⟨s + 1, 2, none⟩ (.slice A5 n5 c5)).setCell ⟨s + 1 + 1 + 1 + 1, 0, none⟩ (.int .i64 b)
structure OfE (U : World) (s N : Nat) (A4 : Option Addr) (n4 c4 : Nat) (A5 : Option Addr) (n5 c5 cnt : Nat) (T T' : Tx) (b : Int) : Prop where
  t2 : At0 U s [.slice none 0 0, .slice none 0 0, .slice none 0 0] 25
  t3 : At0 U (s + 1) [.slice none 0 0, .slice A4 n4 c4, .slice A5 n5 c5] 25
  t4 : At0 U (s + 1 + 1 + 1) [.map (some (s + 1 + 1))] 85
  t5 : At0 U (s + 1 + 1 + 1 + 1) [.int .i64 b] 3
  own : OwnTx U N none 0 0 A4 n4 c4 A5 n5 c5 ⟨[], T'.gone, T'.done⟩
  mp : U.ownsMap Tryz.prog 3 (plainElem Tryz.prog 3) (s + 1 + 1) cnt (dOp T.op)
theorem OfS.turnEnd (h : OfS W s N A2 n2 c2 A3 n3 c3 cnt T) {row : Option Nat} {A4 A5 : Option Addr} {n4 c4 n5 c5 : Nat} {T' : Tx} {b : Int} (hs : s + 7 ≤ N) (hg : W.grownBy V row) (hrow : ∀ k, row = some k → N ≤ k) (ho : OwnTx V N none 0 0 A4 n4 c4 A5 n5 c5 ⟨[], T'.gone, T'.done⟩) :
    OfE (endW V s A4 n4 c4 A5 n5 c5 b) s N A4 n4 c4 A5 n5 c5 cnt T T' b := by
  have hne : ∀ {k : Nat}, k < N → some k ≠ row := fun h e => by have := hrow _ e.symm; omega
  unfold endW
  refine ⟨at_set (at_set (at_set (at_set (at0_grown h.t2 hg (hne (by omega))) (by omega) _ _) (by omega) _ _) (by omega) _ _) (by omega) _ _, at_set (at0_set9 (at0_set9 (at0_set9 (at0_grown h.t3 hg (hne (by omega))) 0 _) 1 _) 2 _) (by omega) _ _,
    at_set (at_set (at_set (at_set (at0_grown h.t4 hg (hne (by omega))) (by omega) _ _) (by omega) _ _) (by omega) _ _) (by omega) _ _, at0_set9 (at_set (at_set (at_set (at0_grown h.t5 hg (hne (by omega))) (by omega) _ _) (by omega) _ _) (by omega) _ _) 0 _, ?_,
    ((((h.mp.kept hg (hne (by omega))).setCell (by simp only; omega) _).setCell (by simp only; omega) _).setCell (by simp only; omega) _).setCell (by simp only; omega) _⟩
  exact (((ho.set (ho.offBelow (by omega)) _ _).set (ho.offBelow (by omega)) _ _).set (ho.offBelow (by omega)) _ _).set (ho.offBelow (by omega)) _ _
theorem OfE.del {U X : World} {A4 A5 : Option Addr} {n4 c4 n5 c5 : Nat} {T' : Tx} {b : Int} (h : OfE U s N A4 n4 c4 A5 n5 c5 cnt T T' b) (hs : s + 7 ≤ N) (hm : X.ownsMap Tryz.prog 3 (plainElem Tryz.prog 3) (s + 1 + 1) cnt (dOp T'.op)) (hg : U.grownBy X (some (s + 1 + 1))) (hb : topT T' = b) : OfS X s N A4 n4 c4 A5 n5 c5 cnt T' := by
  have hne : ∀ {k : Nat}, k ≠ s + 1 + 1 → some k ≠ some (s + 1 + 1) := fun h e => h (by injection e)
  exact ⟨at0_grown h.t2 hg (hne (by omega)), at0_grown h.t3 hg (hne (by omega)), at0_grown h.t4 hg (hne (by omega)), by rw [hb]; exact at0_grown h.t5 hg (hne (by omega)), h.own.grown9 hg (by omega), hm⟩
theorem OfS.drew (h : OfS W s N A2 n2 c2 A3 n3 c3 cnt T) : OfS W.drew s N A2 n2 c2 A3 n3 c3 cnt T := h.below (Below.refl _ _).drew
end
end Go.Proofs.YtlfbagkonckffaaGreat.Txn
