/- The iterator of the landed frames.places: from where to where each body is, by what the heads say alone. -/
import Derived.Test.YtilnlmopdljeeaaFrmF
import Derived.Test.YtilnlmopdljeeaaOctFGet
import Derived.RangeFuncNested
import Derived.RangeFuncBound
import Derived.RangeFuncCalls
import Derived.RangeFuncLeaves
import Derived.Shelf.Abstract
import Derived.Shelf.RegionOpen
import Derived.OwnWalkIn
import Derived.TacticsInMore
import Derived.LoopNIn
import Derived.LoopIn
namespace Go.Proofs.Ytilnlmopdljeeaa.Frm
open Go.RowKit Go.Shelf Go.Proofs.Ytilnlmopdljeeaa.Oct

attribute [local go_sem] Oper.semAt_some

/-- where bodies are, by the heads alone: of the bytes from the place o on -/
def pls (l : List UInt8) (o : Nat) : List (Nat × Nat) :=
  if l.length < 4 then [] else (o + 4, o + 4 + nm l) :: pls (l.drop (4 + nm l)) (o + 4 + nm l)
termination_by l.length
decreasing_by rw [List.length_drop]; omega
theorem pls_no {l : List UInt8} {o : Nat} (h : l.length < 4) : pls l o = [] := by rw [pls, if_pos h]
theorem pls_yes {l : List UInt8} {o : Nat} (h : 4 ≤ l.length) : pls l o = (o + 4, o + 4 + nm l) :: pls (l.drop (4 + nm l)) (o + 4 + nm l) := by rw [pls, if_neg (by omega)]
theorem pls_len (l : List UInt8) (o : Nat) : (pls l o).length ≤ l.length := by
  induction hn : l.length using Nat.strongRecOn generalizing l o with
  | ind n ih =>
    subst hn
    by_cases h : l.length < 4
    · rw [pls_no h]; exact Nat.zero_le _
    · rw [pls_yes (by omega), List.length_cons]
      have := ih (l.drop (4 + nm l)).length (by rw [List.length_drop]; omega) (l.drop (4 + nm l)) (o + 4 + nm l) rfl
      rw [List.length_drop] at this
      omega
theorem nm_lt (l : List UInt8) : nm l < 4294967296 := by
  unfold nm
  have h := getN_lt (l.take 4)
  have h2 : 256 ^ (l.take 4).length ≤ 256 ^ 4 := Nat.pow_le_pow_right (by omega) (by rw [List.length_take]; omega)
  omega
/-- a pair of places -/
abbrev Pr := { x : Nat × Nat // x.1 ≤ x.2 ∧ x.2 ≤ 4611686018427387904 }
/-- what a round that goes on keeps: what lay below n₀, and the box of what is read -/
def Kp (n₀ bx : Nat) (v : Value) (A B : World) : Prop := Below n₀ A B ∧ (A.cell? ⟨bx, 0, none⟩ = some v → B.cell? ⟨bx, 0, none⟩ = some v)
/-- what holds between two rounds -/
def itRel (bs : List UInt8) (J : List Pr → World → Prop) (n₀ bx : Nat) (v : Value) (W : World) (at_ : Value) (wr : World) : Prop :=
  ∃ (k : Nat) (pre : List Pr), at_ = .int .i64 (k : Int) ∧ k ≤ 2199023255552 ∧ pls bs 0 = pre.map (·.1) ++ pls (bs.drop k) k ∧ J pre wr ∧ Kp n₀ bx v W wr
set_option maxRecDepth 100000 in
set_option maxHeartbeats 2000000 in
theorem places1_in (d : Nat) (hd : 2 ≤ d) (l bx n₀ : Nat) (A : Option Addr) (n c : Nat) (bs : List UInt8) (hc : n ≤ c) (hn : n ≤ 1099511627776) (J Jx : List Pr → World → Prop)
    (hY : ∀ pre x W, J pre W → pre.length < (pls bs 0).length → YieldAt Fence.wide (d - 1) Try.prog l #[.int .i64 (x.1.1 : Int), .int .i64 (x.1.2 : Int)] W fun e W' =>
      (e = .returned (.bool true) ∧ J (pre ++ [x]) W' ∧ Kp n₀ bx (.slice A n c) W W') ∨ (e = .returned (.bool false) ∧ Jx (pre ++ [x]) W'))
    (W : World) (hR : Rd W n₀ A n bs) (hb : W.cell? ⟨bx, 0, none⟩ = some (.slice A n c)) (h0 : J [] W) :
    CallsIn Fence.wide d Try.prog 29 #[.func (.yield l) #[] #[], .pointer (some ⟨bx, 0, none⟩)] W fun e W' => (∃ v, e = .returned v) ∧
      ((∃ ys : List Pr, ys.map (·.1) = pls bs 0 ∧ J ys W') ∨ (∃ pre : List Pr, pre.map (·.1) <+: pls bs 0 ∧ Jx pre W')) := by
  have hd1 : 1 ≤ d := by omega
  have hd2 : 1 ≤ d - 1 := by omega
  have HR := Lib.hid hR
  have hlen := hR.len
  clear hR
  refine callsIn_of_wp Try.func29 rfl trivial ?_ rfl
  simp only [Try.ntmps29, List.size_toArray, List.length_cons, List.length_nil, Nat.reduceAdd, Nat.reduceSub, Array.replicate_succ, Array.replicate_zero, List.push_toArray, List.append_toArray, List.nil_append, List.cons_append]
  gi_wp2
  gi_loopw [3] (fun p wr => itRel bs J n₀ bx (.slice A n c) W p wr) (fun p _ => n - (intOf p).toNat)
  case atStart => exact ⟨0, [], rfl, Nat.zero_le _, rfl, h0, Below.refl _ _, fun h => h⟩
  case round =>
    obtain ⟨k, pre, rfl, hk, hx, hJ, hK⟩ := hrel
    have HX := Lib.hid hx
    have HK := Lib.hid hK
    have HRR := Lib.hid (HR.out.below hK.1 (Nat.le_refl _))
    have hcell := hK.2 hb
    clear hK hx
    have hl4 : (bs.drop k).length = n - k := by rw [List.length_drop, hlen]
    by_cases hlt : k + 4 ≤ n
    · have HG := Lib.hid (show gt bs (k : Int) 4 = (nm (bs.drop k), 0) by
        unfold gt
        rw [if_neg (by simp [isW]), if_neg (by simp [hasB]; omega)]
        rfl)
      have hm := nm_lt (bs.drop k)
      have hp := pls_yes (l := bs.drop k) (o := k) (by rw [hl4]; omega)
      rw [List.drop_drop, show k + (4 + nm (bs.drop k)) = k + 4 + nm (bs.drop k) by omega] at hp
      have hlt2 : pre.length < (pls bs 0).length := by rw [HX.out, hp]; simp
      obtain ⟨m, hmm⟩ : ∃ m, m = nm (bs.drop k) := ⟨_, rfl⟩
      rw [← hmm] at HG hm hp
      have HP := Lib.hid hp
      clear hp hmm
      obtain ⟨fn, tmps, assign, body, hy, hR1⟩ := hY pre ⟨(k + 4, k + 4 + m), by omega, by omega⟩ wr hJ hlt2
      dsimp only at hy
      rw [show ((k + 4 + m : Nat) : Int) = (k : Int) + 4 + (m : Int) by omega, show ((k + 4 : Nat) : Int) = (k : Int) + 4 by omega] at hy
      gi_wp2_with (first | (refine ⟨trivial, ?_⟩; gi_at_call 21; refine (callsIn_wide.2 (Get_is A n c _ 4 bs n₀ _ HRR.out hc hn HG.out)).mono ?_; rintro e w1 ⟨rfl, rfl⟩))
      refine hR1.mono ?_
      rintro e W3 (⟨rfl, hJ3, hk3⟩ | ⟨rfl, hJx3⟩)
      · gi_wp2
        go_roundw
        case rel => exact ⟨k + 4 + m, pre ++ [⟨(k + 4, k + 4 + m), by omega, by omega⟩], by go_num, by omega, by rw [HX.out, HP.out]; simp, hJ3, HK.out.1.trans hk3.1, fun h => hk3.2 (HK.out.2 h)⟩
        case measure => simp [intOf]; omega
      · gi_wp2
        refine bodyPost_ret (results_none rfl _ _ _) rfl ?_
        exact ⟨⟨_, rfl⟩, .inr ⟨_, by rw [HX.out, HP.out]; simp, hJx3⟩⟩
    · have HG := Lib.hid (show gt bs (k : Int) 4 = (0, 10) by
        unfold gt
        rw [if_neg (by simp [isW]), if_pos (by simp [hasB]; omega)])
      have hp := pls_no (l := bs.drop k) (o := k) (by rw [hl4]; omega)
      rw [hp, List.append_nil] at HX
      clear hp
      gi_wp2_with (first | (refine ⟨trivial, ?_⟩; gi_at_call 21; refine (callsIn_wide.2 (Get_is A n c _ 4 bs n₀ _ HRR.out hc hn HG.out)).mono ?_; rintro e w1 ⟨rfl, rfl⟩))
      refine bodyPost_ret (results_none rfl _ _ _) rfl ?_
      exact ⟨⟨_, rfl⟩, .inl ⟨pre, HX.out.symm, hJ⟩⟩
/-- a pair of places as a round is handed it -/
def encP (x : Pr) : Array Value := #[.int .i64 (x.1.1 : Int), .int .i64 (x.1.2 : Int)]
theorem places_any (A : Option Addr) (n c : Nat) (w : World) :
    Calls Try.prog 25 #[.slice A n c] w fun e w' => e = .returned (.func (.func 29) #[] #[.pointer (some ⟨w.heap.size, 0, none⟩)]) ∧ w.alloc (.cells #[.slice A n c] 22) = w' := by
  go_enter Try.func25, Try.ntmps25
  go_wp2
  go_ret
  exact ⟨rfl, rfl⟩
theorem places_stops (d : Nat) (hd : 2 ≤ d) (bx n₀ : Nat) (A : Option Addr) (n c : Nat) (bs : List UInt8) (hc : n ≤ c) (hn : n ≤ 1099511627776) (w : World) (hbx : bx < w.heap.size) (hn₀ : n₀ ≤ w.heap.size) (hb : w.cell? ⟨bx, 0, none⟩ = some (.slice A n c)) (hR : Rd w n₀ A n bs) :
    SeqStopsK Fence.wide d Try.prog 29 #[.pointer (some ⟨bx, 0, none⟩)] encP (Kp n₀ bx (.slice A n c)) (fun ys => ys.map (·.1) = pls bs 0) (fun pre => pre.map (·.1) <+: pls bs 0) (pls bs 0).length w := fun l J Jx W hW _ _ hY h0 =>
  places1_in d hd l bx n₀ A n c bs hc hn J Jx hY W (hR.below hW hn₀) ((hW.cell (p := ⟨bx, 0, none⟩) hbx).trans hb) h0
theorem Kp_t {n₀ bx : Nat} {v : Value} {A B C : World} (h : Kp n₀ bx v A B) (k : Kp n₀ bx v B C) : Kp n₀ bx v A C := ⟨h.1.trans k.1, fun x => k.2 (h.2 x)⟩
theorem Kp_b {n₀ bx : Nat} {v : Value} {w : World} (hn : n₀ ≤ w.heap.size) (_hbx : bx < w.heap.size) (W : World) (l : Nat) (o o' : Obj) (hl : w.heap.size ≤ l) (h : W.heap[l]? = some o) (h1 : o.isCells = false) (h2 : o.isWalk = false) : Kp n₀ bx v W (W.putObj l o') :=
  ⟨belowK_b hn W l o o' hl h h1 h2, fun x => cell_kept x (grownBy_putObj' W l o') (fun r e => by cases e; exact ⟨o, h, h1⟩)⟩
end Go.Proofs.Ytilnlmopdljeeaa.Frm
