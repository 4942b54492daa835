/- Joined: SegI. -/
import Derived.Test.YtejcjmiofidedaaGreatDoorJSegM
import Derived.Test.YtejcjmiofidedaaGreatDoorBatRow
import Derived.Test.YtejcjmiofidedaaGreatDoorJBatG
import Derived.Test.YtejcjmiofidedaaGreatDoorRngQ
import Derived.RangeFuncNested
import Derived.RangeFuncBound
import Derived.RangeFuncCalls
import Derived.RangeFuncLeaves
import Derived.Shelf.Abstract
import Derived.Shelf.RegionOpen
import Derived.OwnWalkIn
import Derived.TacticsInMore
import Derived.LoopNIn
import Derived.LoopIn
import Derived.Deep.QuietTactic
import Derived.BigQuiet
/- The iterator of the landed seg.batches: a segment's batches, each with the place behind its bytes. -/
namespace Go.Proofs.YtejcjmiofidedaaGreatDoor.Seg
open Go.RowKit Go.Shelf Oct Rec Crc Bat RngQ

attribute [local go_sem] Oper.semAt_some

abbrev SX := BX × Nat
def encS (x : SX) : Array Value := #[.agg #[.int .i64 x.1.1.base, .int .i64 x.1.1.last, .int .i64 x.1.1.frm, .int .i64 x.1.1.epoch, .int .i64 x.1.1.pid, .int .i64 x.1.1.gen, .int .i64 x.1.1.seq, .bool x.1.1.txn, .int .i64 x.1.1.ctl, .slice x.1.2.1 x.1.2.2.1 x.1.2.2.2], .int .i64 (x.2 : Int)]
def btsOf (pre : List SX) : List Bt := pre.map (·.1.1)
theorem btsOf_snoc (pre : List SX) (x : SX) : btsOf (pre ++ [x]) = btsOf pre ++ [x.1.1] := by unfold btsOf; rw [List.map_append]; rfl
def SegQ (base : Int) (bs : List UInt8) (pre : List SX) (x : SX) (W0 W : World) : Prop :=
  (∃ rest, (sc base bs).1 = btsOf pre ++ x.1.1 :: rest) ∧ x.2 = (byR (btsOf pre ++ [x.1.1])).length ∧ x.2 ≤ bs.length ∧ chB x.1.1 = 0 ∧ x.1.2.2.1 ≤ x.1.2.2.2 ∧ OwnR W W0.heap.size x.1.2.1 x.1.2.2.1 x.1.1.recs
def SegK (n₀ bx : Nat) (g : Nat) : Prop := g < n₀ ∨ g = bx
theorem grB_here (lo : Int) {bs : List UInt8} {k : Nat} (hk : k ≤ bs.length) :
    ((sc lo (bs.drop k)).1 = [] ∧ (∀ b q z, grB bs (k : Int) = (b, q, z) → z = 0 → b.base < lo)) ∨
    ∃ b, chB b = 0 ∧ lo ≤ b.base ∧ grB bs (k : Int) = (b, ((k + (byB b).length : Nat) : Int), 0) ∧ k + (byB b).length ≤ bs.length ∧ (sc lo (bs.drop k)).1 = b :: (sc (b.last + 1) (bs.drop (k + (byB b).length))).1 := by
  have hd := grB_drop hk
  rcases sc_ways lo (bs.drop k) with ⟨h1, h2⟩ | ⟨b, t, h1, h2, h3, h4⟩
  · left
    refine ⟨by rw [h1], fun b q z hg hz => ?_⟩
    subst hz
    by_cases h0 : (grB (bs.drop k) 0).2.2 = 0
    · rw [if_pos h0, hg] at hd
      have hb : b = (grB (bs.drop k) 0).1 := congrArg Prod.fst hd
      rw [hb]
      have h5 : ¬ lo ≤ (grB (bs.drop k) 0).1.base := fun h => h2 ⟨h0, h⟩
      omega
    · rw [if_neg h0, hg] at hd
      have : (0 : Int) = (grB (bs.drop k) 0).2.2 := congrArg (·.2.2) hd
      exact absurd this.symm h0
  · right
    have hl : bs.length = k + (byB b).length + t.length := by
      have := congrArg List.length h3
      rw [List.length_drop, List.length_append] at this
      omega
    have g := grB_at h1 [] t
    rw [List.nil_append, List.length_nil, ← h3] at g
    have e0 : ((0 : Nat) : Int) = 0 := rfl
    rw [e0, Int.zero_add] at g
    rw [g] at hd
    refine ⟨b, h1, h2, ?_, by omega, ?_⟩
    · rw [hd, if_pos rfl]
      rw [Int.natCast_add]
    · rw [h4, ← List.drop_drop, h3, List.drop_left]
theorem bel_drewN (w : World) (k : Nat) {B : Nat} : Below B w (w.drewN k) := ⟨rfl, rfl, rfl, Nat.le_refl _, fun _ _ => rfl⟩
theorem ownR_below {w w' : World} {B n : Nat} {A : Option Addr} {l : List Rc} (h : OwnR w B A n l) (hb : Below w.heap.size w w') : OwnR w' B A n l := by
  refine ⟨(h.1.below hb (Nat.le_refl _)).more hb.size, fun g o hA hn => ⟨(h.2 g o hA hn).1, fun i hi => ?_⟩⟩
  obtain ⟨b, o', r, hA2, hlt, _, _⟩ := h.1.at (k := 0) hn
  rw [hA] at hA2
  injection hA2 with hA2
  injection hA2 with hb2
  exact (hb.frozen (p := ⟨g, o + i, none⟩) (by simp only; omega)).trans ((h.2 g o hA hn).2 i hi)
def siRel (base : Int) (bs : List UInt8) (J : List SX → World → Prop) (n₀ bx : Nat) (W : World) (at_ least : Value) (wr : World) : Prop :=
  ∃ (k : Nat) (pre : List SX) (lo : Int), at_ = .int .i64 (k : Int) ∧ least = .int .i64 lo ∧ I64 lo ∧ k ≤ bs.length ∧ k = (byR (btsOf pre)).length ∧ (sc base bs).1 = btsOf pre ++ (sc lo (bs.drop k)).1 ∧ J pre wr ∧ Below n₀ W wr ∧ (∀ j, j < 2 → wr.cell? ⟨bx, j, none⟩ = W.cell? ⟨bx, j, none⟩) ∧ bx < wr.heap.size
set_option maxRecDepth 100000 in
set_option maxHeartbeats 4000000 in
theorem batches1_in (d : Nat) (hd : 2 ≤ d) (l bx n₀ : Nat) (A : Option Addr) (n c : Nat) (base : Int) (bs : List UInt8) (hc : n ≤ c) (hn : n ≤ 137438953472) (hI : I64 base) (J Jx : List SX → World → Prop) (hJd : ∀ s A B, J s A → Below A.heap.size A B → J s B)
    (hY : ∀ pre x W0 W1, J pre W0 → Below W0.heap.size W0 W1 → SegQ base bs pre x W0 W1 → YieldAt Fence.wide (d - 1) Tryz.prog l (encS x) W1 fun e W2 =>
      (e = .returned (.bool true) ∧ J (pre ++ [x]) W2 ∧ KeptQ (SegK n₀ bx) W0.heap.size W1 W2) ∨ (e = .returned (.bool false) ∧ Jx (pre ++ [x]) W2))
    (W : World) (hR : Rd W n₀ A n bs) (hn₀ : n₀ ≤ W.heap.size) (hbx : bx < W.heap.size) (hb0 : W.cell? ⟨bx, 0, none⟩ = some (.int .i64 base)) (hb1 : W.cell? ⟨bx, 1, none⟩ = some (.slice A n c)) (ht : Tab W) (hnt : 0 < n₀) (h0 : J [] W) :
    CallsIn Fence.wide d Tryz.prog 105 #[.func (.yield l) #[] #[], .pointer (some ⟨bx, 0, none⟩)] W fun e W2 => (∃ v, e = .returned v) ∧
      ((∃ ys : List SX, btsOf ys = (sc base bs).1 ∧ J ys W2) ∨ (∃ pre : List SX, Jx pre W2)) := by
  have hd1 : 1 ≤ d := by omega
  have hd2 : 1 ≤ d - 1 := by omega
  have HR := Lib.hid hR
  have HT := Lib.hid ht
  have hlen := hR.len
  have hJ0 : ∀ k, J [] (W.drewN k) := fun k => hJd [] W _ h0 (bel_drewN W k)
  clear hR ht
  refine callsIn_of_wp Tryz.func105 rfl trivial ?_ rfl
  simp only [Tryz.ntmps105, List.size_toArray, List.length_cons, List.length_nil, Nat.reduceAdd, Nat.reduceSub, Array.replicate_succ, Array.replicate_zero, List.push_toArray, List.append_toArray, List.nil_append, List.cons_append]
  refine wpIn_wide.2 ?_
  go_wp2
  go_quiet (fail)
  have hsz : W.heap.size ≤ (W.drewN nq).heap.size := Nat.le_refl _
  go_wp2
  refine (wpIn_wide (n := d)).1 ?_
  gi_loopw [3, 4] (fun p q wr => siRel base bs J n₀ bx W p q wr) (fun p _ _ => n - (intOf p).toNat)
  case atStart =>
    exact ⟨0, [], base, rfl, rfl, hI, Nat.zero_le _, rfl, rfl, hJ0 nq, bel_drewN W nq, fun _ _ => rfl, hbx⟩
  case round =>
    obtain ⟨k, pre, lo, rfl, rfl, hlo, hk, hkp, hx, hJ, hB, hcl, hbxr⟩ := hrel
    have HX := Lib.hid hx
    have HKP := Lib.hid hkp
    have HBL := Lib.hid hB
    have HRR := Lib.hid (HR.out.below hB (Nat.le_refl _))
    have HTT := Lib.hid (HT.out.below hB hnt)
    have hn₀r : n₀ ≤ wr.heap.size := Nat.le_trans hn₀ hB.size
    have hc0 := (hcl 0 (by omega)).trans hb0
    have hc1 := (hcl 1 (by omega)).trans hb1
    have HCL := Lib.hid hcl
    clear hx hkp hB hcl
    rcases grB_here lo hk with ⟨hs0, hsT⟩ | ⟨b, hb, hlb, hG, hkl, hs1⟩
    · rw [hs0, List.append_nil] at HX
      rcases hG : grB bs (k : Int) with ⟨b, q, z⟩
      have hsz := hsT b q z hG
      clear hs0 hsT
      obtain ⟨ba, la, fr, ep, pi, ge, se, tx, ct, rs⟩ := b
      have HG := Lib.hid hG
      clear hG
      by_cases hz : z = 0
      · have hlb : ba < lo := hsz hz
        subst hz
        clear hsz
        gi_wp2_with (refine ⟨trivial, ?_⟩; gi_at_call 106; refine (callsIn_wide.2 (BGet_is A n c bs n₀ (k : Int) _ HRR.out hn₀r hc hn (by unfold I64; omega) HTT.out HG.out)).mono ?_; rintro e w1 ⟨A1, n1, c1, rfl, hc1, ho1, hb1⟩)
        refine ⟨fun _ h => (by cases h), ?_⟩
        gi_wp2
        refine bodyPost_ret (results_none rfl _ _ _) rfl ?_
        exact ⟨⟨_, rfl⟩, .inl ⟨pre, HX.out.symm, hJd pre wr _ hJ (bel_alloc hb1 _)⟩⟩
      · have hzF : (z == 0) = false := beqF hz
        clear hsz
        gi_wp2_with (refine ⟨trivial, ?_⟩; gi_at_call 106; refine (callsIn_wide.2 (BGet_is A n c bs n₀ (k : Int) _ HRR.out hn₀r hc hn (by unfold I64; omega) HTT.out HG.out)).mono ?_; rintro e w1 ⟨A1, n1, c1, rfl, hc1, ho1, hb1⟩)
        refine ⟨fun _ h => (by cases h), ?_⟩
        gi_wp2
        refine bodyPost_ret (results_none rfl _ _ _) rfl ?_
        exact ⟨⟨_, rfl⟩, .inl ⟨pre, HX.out.symm, hJd pre wr _ hJ (bel_alloc hb1 _)⟩⟩
    · obtain ⟨kn, hkn⟩ : ∃ kn, kn = k + (byB b).length := ⟨_, rfl⟩
      rw [← hkn] at hG hkl hs1
      have hlast := chB_last hb
      have hlen17 := byB_length b
      have HQ := Lib.hid (show (∃ rest, (sc base bs).1 = btsOf pre ++ b :: rest) ∧ kn = (byR (btsOf pre ++ [b])).length ∧ kn ≤ bs.length ∧ chB b = 0 from ⟨⟨_, by rw [HX.out, hs1]⟩, by rw [byR_snoc, List.length_append, ← HKP.out, hkn], hkl, hb⟩)
      have HS := Lib.hid (show (sc base bs).1 = (btsOf pre ++ [b]) ++ (sc (b.last + 1) (bs.drop kn)).1 by rw [HX.out, hs1, List.append_assoc]; rfl)
      have hkk : k < kn := by omega
      clear hkn hs1 hb hlen17
      obtain ⟨ba, la, fr, ep, pi, ge, se, tx, ct, rs⟩ := b
      simp only at hlb hlast
      have HG := Lib.hid hG
      have hlbF : ¬ ba < lo := by omega
      clear hG hlb
      gi_wp2_with (first
        | (refine ⟨trivial, ?_⟩; gi_at_call 106; refine (callsIn_wide.2 (BGet_is A n c bs n₀ (k : Int) _ HRR.out hn₀r hc hn (by unfold I64; omega) HTT.out HG.out)).mono ?_; rintro e w1 ⟨A1, n1, c1, rfl, hc1, ho1, hb1⟩; have HW1 := Lib.hid (bel_alloc hb1 (.cells #[.int .i64 ba, .int .i64 la, .int .i64 fr, .int .i64 ep, .int .i64 pi, .int .i64 ge, .int .i64 se, .bool tx, .int .i64 ct, .slice A1 n1 c1] 39)); obtain ⟨fn, tmps, assign, body, hy, hR1⟩ := hY pre ((⟨ba, la, fr, ep, pi, ge, se, tx, ct, rs⟩, A1, n1, c1), kn) wr (w1.alloc (.cells #[.int .i64 ba, .int .i64 la, .int .i64 fr, .int .i64 ep, .int .i64 pi, .int .i64 ge, .int .i64 se, .bool tx, .int .i64 ct, .slice A1 n1 c1] 39)) hJ HW1.out ⟨HQ.out.1, HQ.out.2.1, HQ.out.2.2.1, HQ.out.2.2.2, hc1, ownR_below ho1 (bel_alloc (Below.refl _ _) _)⟩; dsimp only [encS] at hy; have hw1 := hb1.size; clear hb1 ho1))
      refine hR1.mono ?_
      rintro e W3 (⟨rfl, hJ3, hk3⟩ | ⟨rfl, hJx3⟩)
      · have q1 : W3.cell? ⟨w1.heap.size, 1, none⟩ = some (.int .i64 la) := (hk3.cell (p := ⟨w1.heap.size, 1, none⟩) (by simp) (.inr hw1)).trans (by simp [go_sem])
        have hb3 : Below n₀ (w1.alloc (.cells #[.int .i64 ba, .int .i64 la, .int .i64 fr, .int .i64 ep, .int .i64 pi, .int .i64 ge, .int .i64 se, .bool tx, .int .i64 ct, .slice A1 n1 c1] 39)) W3 := hk3.out (fun g hg => .inl hg) (by simp; omega)
        have hcl3 : ∀ j, j < 2 → W3.cell? ⟨bx, j, none⟩ = W.cell? ⟨bx, j, none⟩ := fun j hj => ((hk3.cell (p := ⟨bx, j, none⟩) (by simp; omega) (.inl (.inr rfl))).trans (HW1.out.cell (p := ⟨bx, j, none⟩) hbxr)).trans (HCL.out j hj)
        have hs3 := hk3.bel.size
        have HC3 := Lib.hid hcl3
        have HB3 := Lib.hid ((HBL.out.trans (HW1.out.mono hn₀r)).trans hb3)
        clear hcl3 hb3 hk3
        gi_wp2
        refine wpIn_wide.2 ?_
        go_quiet (fail)
        gi_wp2
        go_roundw
        case rel => exact ⟨kn, pre ++ [((⟨ba, la, fr, ep, pi, ge, se, tx, ct, rs⟩, A1, n1, c1), kn)], la + 1, by go_num, by go_num, by unfold I64; omega, HQ.out.2.2.1, by rw [btsOf_snoc]; exact HQ.out.2.1, by rw [btsOf_snoc]; exact HS.out, hJd _ _ _ hJ3 (bel_drewN _ _), HB3.out.trans (bel_drewN _ _), fun j hj => HC3.out j hj, Nat.lt_of_lt_of_le (by simp; omega) hs3⟩
        case measure => simp [intOf]; omega
      · gi_wp2
        refine bodyPost_ret (results_none rfl _ _ _) rfl ?_
        exact ⟨⟨_, rfl⟩, .inr ⟨_, hJx3⟩⟩
theorem batches_seq (d : Nat) (hd : 2 ≤ d) (bx n₀ : Nat) (A : Option Addr) (n c : Nat) (base : Int) (bs : List UInt8) (hc : n ≤ c) (hn : n ≤ 137438953472) (hI : I64 base) (w : World) (hn₀ : n₀ ≤ w.heap.size) (hbx : bx < w.heap.size)
    (hb0 : w.cell? ⟨bx, 0, none⟩ = some (.int .i64 base)) (hb1 : w.cell? ⟨bx, 1, none⟩ = some (.slice A n c)) (hR : Rd w n₀ A n bs) (ht : Tab w) (hnt : 0 < n₀) :
    SeqQ Fence.wide d Tryz.prog 105 #[.pointer (some ⟨bx, 0, none⟩)] encS (SegK n₀ bx) (SegQ base bs) (fun ys => btsOf ys = (sc base bs).1) w := fun l J Jx W hW hJ _ hY h0 =>
  batches1_in d hd l bx n₀ A n c base bs hc hn hI J Jx (fun s X Y hs hb => hJ s X Y none hs ⟨hb.os, hb.tape, hb.output, hb.size, fun k hk _ => hb.block k hk⟩ (fun r e => by cases e)) hY W (hR.below hW hn₀) (Nat.le_trans hn₀ hW.size) (Nat.lt_of_lt_of_le hbx hW.size)
    ((hW.cell (p := ⟨bx, 0, none⟩) hbx).trans hb0) ((hW.cell (p := ⟨bx, 1, none⟩) hbx).trans hb1) (ht.bel hW) hnt h0
theorem batches_any (A : Option Addr) (n c : Nat) (base : Int) (w : World) :
    Calls Tryz.prog 80 #[.agg #[.int .i64 base, .slice A n c]] w fun e w' => e = .returned (.func (.func 105) #[] #[.pointer (some ⟨w.heap.size, 0, none⟩)]) ∧ w.alloc (.cells #[.int .i64 base, .slice A n c] 59) = w' := by
  go_enter Tryz.func80, Tryz.ntmps80
  go_wp2
  go_ret
  exact ⟨rfl, rfl⟩
end Go.Proofs.YtejcjmiofidedaaGreatDoor.Seg
