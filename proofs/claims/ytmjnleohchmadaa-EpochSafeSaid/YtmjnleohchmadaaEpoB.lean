/- Joined: EpoB. -/
import Derived.Test.YtmjnleohchmadaaEpoW
import Derived.Test.YtmjnleohchmadaaEpoMathL
import Derived.Test.YtmjnleohchmadaaRngQ
import Derived.Test.YtmjnleohchmadaaJRow
import Derived.RangeFuncNested
import Derived.RangeFuncBound
import Derived.RangeFuncCalls
import Derived.RangeFuncLeaves
import Derived.Shelf.Abstract
import Derived.Shelf.RegionOpen
import Derived.OwnWalkIn
import Derived.TacticsInMore
import Derived.LoopNIn
import Derived.LoopIn
/- The contracts of slices.Backward and of the landed epoch.last, handed any function, which may keep something of its own between its calls. -/
namespace Go.Proofs.Ytmjnleohchmadaa.Epo
open Go.RowKit Go.Shelf Go.Proofs.Ytmjnleohchmadaa.Oct Go.Proofs.Ytmjnleohchmadaa.RowF Go.Proofs.Ytmjnleohchmadaa.Lay Go.Proofs.Ytmjnleohchmadaa.InR Go.Proofs.Ytmjnleohchmadaa.RngQ Go.Proofs.Ytmjnleohchmadaa.RowL

attribute [local go_sem] Oper.semAt_some

structure FarE (n₀ N : Nat) (A B : World) : Prop where
  bel : Below n₀ A B
  hi : ∀ g, N ≤ g → g < A.heap.size → B.heap[g]? = A.heap[g]?
section
variable {n₀ N m bx g : Nat} {A B C : World} {cs : List Value} {e : TypeId} {v : Value}
theorem FarE.of (hb : Below A.heap.size A B) (hn : n₀ ≤ A.heap.size) : FarE n₀ N A B := ⟨hb.mono hn, fun g _ hg => hb.block g hg⟩
theorem FarE.trans (h : FarE n₀ N A B) (k : FarE n₀ N B C) : FarE n₀ N A C := ⟨h.bel.trans k.bel, fun g h1 h2 => (k.hi g h1 (Nat.lt_of_lt_of_le h2 h.bel.size)).trans (h.hi g h1 h2)⟩
theorem FarE.from (h : FarE n₀ N A B) (hm : N ≤ m) : KeepsFrom m A B := ⟨h.bel.size, fun k _ h1 h2 _ => (h.hi k (by omega) (Array.getElem?_eq_some_iff.1 h2).1).trans h2⟩
theorem FarE.box (h : FarE n₀ N A B) (hb : Boxed A g e v) (hg : N ≤ g) : Boxed B g e v := (h.hi g hg hb.lt).trans hb
theorem FarE.at0 (h : FarE n₀ N A B) (hb : At0 A g cs e) (hg : N ≤ g) : At0 B g cs e := (h.hi g hg hb.lt).trans hb
theorem boxed_own3 {row : Option Nat} (hv : Boxed A g e v) (hg : A.grownBy B row) (hrow : ∀ r, row = some r → ∃ o : Obj, A.heap[r]? = some o ∧ o.isCells = false) : Boxed B g e v := hv.kept hg fun e' => by
  obtain ⟨o, ho, hc⟩ := hrow g e'.symm
  rw [show A.heap[g]? = _ from hv] at ho; cases ho; cases hc
theorem at0_kept {row : Option Nat} (h : At0 A g cs e) (hg : A.grownBy B row) (hrow : ∀ r, row = some r → ∃ o : Obj, A.heap[r]? = some o ∧ o.isCells = false) : At0 B g cs e := (grownBy_keeps_cells hg hrow h rfl).trans h
end
def BwK (n₀ bx : Nat) (g : Nat) : Prop := g < n₀ ∨ g = bx
theorem FarE.keptQ {n₀ N m bx : Nat} {A B : World} (h : FarE n₀ N A B) (hm : N ≤ m) (hb : N ≤ bx) : KeptQ (BwK n₀ bx) m A B :=
  ⟨h.bel.mono (Nat.zero_le _), fun g hg hk => by
    rcases hk with (hk | rfl) | hk
    · exact h.bel.block g hk
    · exact h.hi _ hb hg
    · exact h.hi g (by omega) hg⟩
theorem Backward_any (A : Option Addr) (n c : Nat) (w : World) : Calls Try.prog 46 #[.slice A n c] w fun e w' => e = .returned (.func (.func 48) #[] #[.pointer (some ⟨w.heap.size, 0, none⟩)]) ∧ w.alloc (.cells #[.slice A n c] 22) = w' := by
  go_enter Try.func46, Try.ntmps46
  go_wp2
  go_ret
  exact ⟨rfl, rfl⟩
abbrev EX := Ep × Nat
def encE (x : EX) : Array Value := #[.int .i64 (x.2 : Int), .agg #[.int .i64 x.1.ep, .int .i64 x.1.st]]
def BwQ (L : List Ep) (n : Nat) (pre : List EX) (x : EX) (_W0 _W : World) : Prop := x.2 + pre.length + 1 = n ∧ L[x.2]? = some x.1
def bwRel (n n₀ bx : Nat) (J : List EX → World → Prop) (W : World) (iv : Value) (wr : World) : Prop :=
  ∃ pre : List EX, iv = .int .i64 ((n : Int) - 1 - (pre.length : Int)) ∧ pre.length ≤ n ∧ J pre wr ∧ Below n₀ W wr ∧ wr.cell? ⟨bx, 0, none⟩ = W.cell? ⟨bx, 0, none⟩ ∧ bx < wr.heap.size
set_option maxRecDepth 100000 in
set_option maxHeartbeats 4000000 in
theorem bw1_in (d : Nat) (hd : 2 ≤ d) (l bx n₀ : Nat) (A : Option Addr) (n c : Nat) (L : List Ep) (hn : n ≤ 140737488351232) (J Jx : List EX → World → Prop)
    (hY : ∀ pre x W0 W1, J pre W0 → Below W0.heap.size W0 W1 → BwQ L n pre x W0 W1 → YieldAt Fence.wide (d - 1) Try.prog l (encE x) W1 fun e W2 =>
      (e = .returned (.bool true) ∧ J (pre ++ [x]) W2 ∧ KeptQ (BwK n₀ bx) W0.heap.size W1 W2) ∨ (e = .returned (.bool false) ∧ Jx (pre ++ [x]) W2))
    (W : World) (hR : RdE W n₀ A n L) (hn₀ : n₀ ≤ W.heap.size) (hbx : bx < W.heap.size) (hb0 : W.cell? ⟨bx, 0, none⟩ = some (.slice A n c)) (h0 : J [] W) :
    CallsIn Fence.wide d Try.prog 48 #[.func (.yield l) #[] #[], .pointer (some ⟨bx, 0, none⟩)] W fun e W2 => (∃ v, e = .returned v) ∧ ((∃ ys : List EX, ys.length = n ∧ J ys W2) ∨ (∃ pre : List EX, Jx pre W2)) := by
  have hd1 : 1 ≤ d := by omega
  have hd2 : 1 ≤ d - 1 := by omega
  have HR := Lib.hid hR
  have HB0 := Lib.hid hb0
  have hw1 : IntKind.i64.wrap ((n : Int) - 1) = (n : Int) - 1 := IntWalk.i64_in _ (by omega)
  clear hR
  refine callsIn_of_wp Try.func48 rfl trivial ?_ rfl
  simp only [Try.ntmps48, List.size_toArray, List.length_cons, List.length_nil, Nat.reduceAdd, Nat.reduceSub, Array.replicate_succ, Array.replicate_zero, List.push_toArray, List.append_toArray, List.nil_append, List.cons_append]
  gi_wp2
  gi_loopw [3] (fun p wr => bwRel n n₀ bx J W p wr) (fun p _ => (intOf p + 1).toNat)
  case atStart => exact ⟨[], by simp, Nat.zero_le _, h0, Below.refl _ _, rfl, hbx⟩
  case round =>
    obtain ⟨pre, rfl, hk, hJ, hB, hcl, hbxr⟩ := hrel
    have HBL := Lib.hid hB
    have HRR := Lib.hid (HR.out.below hB (Nat.le_refl _))
    have hn₀r : n₀ ≤ wr.heap.size := Nat.le_trans hn₀ hB.size
    have hc0 := hcl.trans HB0.out
    have HCL := Lib.hid hcl
    clear hB hcl hb0
    by_cases hlt : pre.length < n
    · obtain ⟨k, hkk⟩ : ∃ k : Nat, k + pre.length + 1 = n := ⟨n - 1 - pre.length, by omega⟩
      have e : (n : Int) - 1 - (pre.length : Int) = (k : Int) := by omega
      rw [e]
      obtain ⟨b, o, ⟨x0, x1⟩, rfl, hbl, hxk, c0, c1'⟩ := ep_at HRR.out (k := k) (by omega)
      simp only at c0 c1'
      have hQ : BwQ L n pre (⟨x0, x1⟩, k) wr wr := ⟨hkk, hxk⟩
      have hq1 : (0 : Int) ≤ (k : Int) := by omega
      have hq2 : (k : Int) < (n : Int) := by omega
      obtain ⟨fn, tmps, assign, body, hy, hR1⟩ := hY pre (⟨x0, x1⟩, k) wr wr hJ (Below.refl _ _) hQ
      dsimp only [encE] at hy
      clear e hxk hQ hJ
      gi_wp2
      refine hR1.mono ?_
      rintro e W3 (⟨rfl, hJ3, hk3⟩ | ⟨rfl, hJx3⟩)
      · have HB3 := Lib.hid (HBL.out.trans (hk3.out (fun g hg => .inl hg) hn₀r))
        have HC3 := Lib.hid ((hk3.cell (p := ⟨bx, 0, none⟩) hbxr (.inl (.inr rfl))).trans HCL.out)
        have hs3 := hk3.bel.size
        have hw2 : IntKind.i64.wrap ((k : Int) - 1) = (k : Int) - 1 := IntWalk.i64_in _ (by omega)
        clear hk3
        gi_wp2
        go_roundw
        case rel => exact ⟨pre ++ [(⟨x0, x1⟩, k)], by rw [List.length_append, List.length_singleton]; congr 1; omega, by rw [List.length_append, List.length_singleton]; omega, hJ3, HB3.out, HC3.out, Nat.lt_of_lt_of_le hbxr hs3⟩
        case measure => simp [intOf]
      · gi_wp2
        refine bodyPost_ret (results_none rfl _ _ _) rfl ?_
        exact ⟨⟨_, rfl⟩, .inr ⟨_, hJx3⟩⟩
    · have e : (n : Int) - 1 - (pre.length : Int) = -1 := by omega
      rw [e]
      gi_wp2
      go_end0
      exact ⟨⟨_, rfl⟩, .inl ⟨pre, by omega, hJ⟩⟩
theorem bw_seq (d : Nat) (hd : 2 ≤ d) (bx n₀ : Nat) (A : Option Addr) (n c : Nat) (L : List Ep) (hn : n ≤ 140737488351232) (w : World) (hn₀ : n₀ ≤ w.heap.size) (hbx : bx < w.heap.size) (hb0 : w.cell? ⟨bx, 0, none⟩ = some (.slice A n c)) (hR : RdE w n₀ A n L) :
    SeqQ Fence.wide d Try.prog 48 #[.pointer (some ⟨bx, 0, none⟩)] encE (BwK n₀ bx) (BwQ L n) (fun ys => ys.length = n) w := fun l J Jx W hW _ _ hY h0 =>
  bw1_in d hd l bx n₀ A n c L hn J Jx hY W (hR.below hW hn₀) (Nat.le_trans hn₀ hW.size) (Nat.lt_of_lt_of_le hbx hW.size) ((hW.cell (p := ⟨bx, 0, none⟩) hbx).trans hb0) h0
end Go.Proofs.Ytmjnleohchmadaa.Epo
