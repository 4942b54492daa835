/- Joined: IdxI, IdxN. -/
import Derived.Test.YtbnkfljkojhkoaaGreatDoorSegI
import Derived.Test.YtbnkfljkojhkoaaGreatDoorIdxMath
import Derived.Test.YtbnkfljkojhkoaaGreatDoorRngO
import Derived.Test.YtbnkfljkojhkoaaGreatDoorIdxEnt
import Derived.Test.YtbnkfljkojhkoaaGreatDoorJSegS
/- The iterator of the landed index.batches: the batches of a segment that is right, from a place on at which one begins. -/
namespace Go.Proofs.YtbnkfljkojhkoaaGreatDoor.Idx
open Go.RowKit Go.Shelf Oct Rec Crc Bat RngQ Seg

attribute [local go_sem] Oper.semAt_some

def encI (x : SX) : Array Value := #[.int .i64 (x.2 : Int), .agg #[.int .i64 x.1.1.base, .int .i64 x.1.1.last, .int .i64 x.1.1.frm, .int .i64 x.1.1.epoch, .int .i64 x.1.1.pid, .int .i64 x.1.1.gen, .int .i64 x.1.1.seq, .bool x.1.1.txn, .int .i64 x.1.1.ctl, .slice x.1.2.1 x.1.2.2.1 x.1.2.2.2]]
def IdxQ (L1 L2 : List Bt) (pre : List SX) (x : SX) (W0 W : World) : Prop :=
  (∃ rest, L2 = btsOf pre ++ x.1.1 :: rest) ∧ x.2 = (byR (L1 ++ btsOf pre)).length ∧ chB x.1.1 = 0 ∧ x.1.2.2.1 ≤ x.1.2.2.2 ∧ OwnR W W0.heap.size x.1.2.1 x.1.2.2.1 x.1.1.recs
def IdxK (n₀ b1 b2 : Nat) (_ : Nat) (g : Nat) : Prop := g < n₀ ∨ g = b1 ∨ g = b2
def NoU (_ _ : Nat) : Prop := False
theorem grB_next {L1 L2 : List Bt} {pre : List Bt} {b : Bt} {rest : List Bt} (h : L2 = pre ++ b :: rest) (hb : chB b = 0) : grB (byR (L1 ++ L2)) ((byR (L1 ++ pre)).length : Int) = (b, (((byR (L1 ++ (pre ++ [b]))).length : Nat) : Int), 0) ∧ (byR (L1 ++ (pre ++ [b]))).length ≤ (byR (L1 ++ L2)).length := by
  have e : byR (L1 ++ L2) = byR (L1 ++ pre) ++ byB b ++ byR rest := by rw [h, ← List.append_assoc, byR_app, byR_cons, List.append_assoc]
  have e2 : byR (L1 ++ (pre ++ [b])) = byR (L1 ++ pre) ++ byB b := by rw [← List.append_assoc, byR_app, byR_cons, byR_nil, List.append_nil]
  have g := grB_at hb (byR (L1 ++ pre)) (byR rest)
  rw [e, e2, g, List.length_append, Int.natCast_add]
  refine ⟨rfl, ?_⟩
  simp only [List.length_append]
  omega
theorem grB_stop {L1 L2 pre : List Bt} (h : L2 = pre) {b : Bt} {q z : Int} (hg : grB (byR (L1 ++ L2)) ((byR (L1 ++ pre)).length : Int) = (b, q, z)) : z ≠ 0 := by
  subst h
  rw [grB_end] at hg
  have := congrArg (·.2.2) hg
  simp only at this
  rw [← this]
  decide
def siR (L1 L2 : List Bt) (J : List SX → World → Prop) (n₀ bx : Nat) (W : World) (at_ : Value) (wr : World) : Prop :=
  ∃ (k : Nat) (pre : List SX) (rest : List Bt), at_ = .int .i64 (k : Int) ∧ L2 = btsOf pre ++ rest ∧ k = (byR (L1 ++ btsOf pre)).length ∧ J pre wr ∧ Below n₀ W wr ∧ (∀ j, j < 2 → wr.cell? ⟨bx, j, none⟩ = W.cell? ⟨bx, j, none⟩) ∧ bx < wr.heap.size
set_option maxRecDepth 100000 in
set_option maxHeartbeats 4000000 in
theorem batches1_in (d : Nat) (hd : 2 ≤ d) (l bf bx n₀ : Nat) (A : Option Addr) (n c : Nat) (_base : Int) (L1 L2 : List Bt) (hch : ∀ b ∈ L2, chB b = 0) (hc : n ≤ c) (hn : n ≤ 137438953472) (J Jx : List SX → World → Prop) (hJd : ∀ s A B, J s A → Below A.heap.size A B → J s B)
    (B0 : Nat) (hY : ∀ pre x W0 W1, J pre W0 → Below W0.heap.size W0 W1 → IdxQ L1 L2 pre x W0 W1 → YieldAt Fence.wide (d - 1) Tryz.prog l (encI x) W1 fun e W2 =>
      (e = .returned (.bool true) ∧ J (pre ++ [x]) W2 ∧ KeptQ (IdxK n₀ bf bx B0) W0.heap.size W1 W2) ∨ (e = .returned (.bool false) ∧ Jx (pre ++ [x]) W2))
    (W : World) (hR : Rd W n₀ A n (byR (L1 ++ L2))) (hn₀ : n₀ ≤ W.heap.size) (hbx : bx < W.heap.size) (hf0 : W.cell? ⟨bf, 0, none⟩ = some (.int .i64 ((byR L1).length : Int))) (hb1 : W.cell? ⟨bx, 1, none⟩ = some (.slice A n c)) (ht : Tab W) (hnt : 0 < n₀) (h0 : J [] W) :
    CallsIn Fence.wide d Tryz.prog 36 #[.func (.yield l) #[] #[], .pointer (some ⟨bf, 0, none⟩), .pointer (some ⟨bx, 0, none⟩)] W fun e W2 => (∃ v, e = .returned v) ∧
      ((∃ ys : List SX, btsOf ys = L2 ∧ J ys W2) ∨ (∃ pre : List SX, Jx pre W2)) := by
  have hd1 : 1 ≤ d := by omega
  have hd2 : 1 ≤ d - 1 := by omega
  have HR := Lib.hid hR
  have HT := Lib.hid ht
  have hlen := hR.len
  obtain ⟨k0, hk0⟩ : ∃ k0, k0 = (byR L1).length := ⟨_, rfl⟩
  have HK0 := Lib.hid hk0
  rw [← hk0] at hf0
  clear hR ht hk0
  refine callsIn_of_wp Tryz.func36 rfl trivial ?_ rfl
  simp only [Tryz.ntmps36, List.size_toArray, List.length_cons, List.length_nil, Nat.reduceAdd, Nat.reduceSub, Array.replicate_succ, Array.replicate_zero, List.push_toArray, List.append_toArray, List.nil_append, List.cons_append]
  gi_wp2
  gi_loopw [4] (fun p wr => siR L1 L2 J n₀ bx W p wr) (fun p _ => n + 1 - (intOf p).toNat)
  case atStart =>
    exact ⟨k0, [], L2, rfl, rfl, by rw [HK0.out]; show _ = (byR (L1 ++ [])).length; rw [List.append_nil], h0, Below.refl _ _, fun _ _ => rfl, hbx⟩
  case round =>
    obtain ⟨k, pre, rest, rfl, hx, hkp, hJ, hB, hcl, hbxr⟩ := hrel
    have HBL := Lib.hid hB
    have HRR := Lib.hid (HR.out.below hB (Nat.le_refl _))
    have HTT := Lib.hid (HT.out.below hB hnt)
    have hn₀r : n₀ ≤ wr.heap.size := Nat.le_trans hn₀ hB.size
    have hc1 := (hcl 1 (by omega)).trans hb1
    have HCL := Lib.hid hcl
    have hk : k ≤ n := by
      have h1 : byR (L1 ++ L2) = byR (L1 ++ btsOf pre) ++ byR rest := by rw [hx, ← List.append_assoc, byR_app]
      have h2 := congrArg List.length h1
      rw [List.length_append] at h2
      omega
    clear hB hcl
    cases rest with
    | nil =>
      rw [List.append_nil] at hx
      rcases hG : grB (byR (L1 ++ L2)) (k : Int) with ⟨b, q, z⟩
      have hz : z ≠ 0 := by rw [hkp] at hG; exact grB_stop hx hG
      have HX := Lib.hid hx
      obtain ⟨ba, la, fr, ep, pi, ge, se, tx, ct, rs⟩ := b
      have HG := Lib.hid hG
      have hzF : (z == 0) = false := beqF hz
      clear hG hx hkp hch hlen
      gi_wp2_with (refine ⟨trivial, ?_⟩; gi_at_call 37; refine (callsIn_wide.2 (BGet_is A n c _ n₀ (k : Int) _ HRR.out hn₀r hc hn (by unfold I64; omega) HTT.out HG.out)).mono ?_; rintro e w1 ⟨A1, n1, c1, rfl, hc1, ho1, hb1⟩)
      refine ⟨fun _ h => (by cases h), ?_⟩
      gi_wp2
      refine bodyPost_ret (results_none rfl _ _ _) rfl ?_
      exact ⟨⟨_, rfl⟩, .inl ⟨pre, HX.out.symm, hJd pre wr _ hJ (bel_alloc hb1 _)⟩⟩
    | cons b rest =>
      have hb : chB b = 0 := hch b (by rw [hx]; simp)
      obtain ⟨hG, hle⟩ := grB_next (L1 := L1) hx hb
      rw [← hkp] at hG
      obtain ⟨kn, hkn⟩ : ∃ kn, kn = (byR (L1 ++ (btsOf pre ++ [b]))).length := ⟨_, rfl⟩
      rw [← hkn] at hG hle
      have hkk : k < kn := by
        have := by17 b
        rw [hkn, hkp, ← List.append_assoc, byR_app (L1 ++ btsOf pre), List.length_append, byR_cons, List.length_append]
        omega
      have hkn2 : kn ≤ n := by omega
      have HQ := Lib.hid (show (∃ rest, L2 = btsOf pre ++ b :: rest) ∧ k = (byR (L1 ++ btsOf pre)).length ∧ chB b = 0 from ⟨⟨_, hx⟩, hkp, hb⟩)
      have HS := Lib.hid (show L2 = (btsOf pre ++ [b]) ++ rest by rw [hx, List.append_assoc]; rfl)
      have HKN := Lib.hid hkn
      clear hkn hx hb hkp hch hlen
      obtain ⟨ba, la, fr, ep, pi, ge, se, tx, ct, rs⟩ := b
      have HG := Lib.hid hG
      clear hG
      gi_wp2_with (first
        | (refine ⟨trivial, ?_⟩; gi_at_call 37; refine (callsIn_wide.2 (BGet_is A n c _ n₀ (k : Int) _ HRR.out hn₀r hc hn (by unfold I64; omega) HTT.out HG.out)).mono ?_; rintro e w1 ⟨A1, n1, c1, rfl, hc1, ho1, hb1⟩; have HW1 := Lib.hid (bel_alloc hb1 (.cells #[.int .i64 ba, .int .i64 la, .int .i64 fr, .int .i64 ep, .int .i64 pi, .int .i64 ge, .int .i64 se, .bool tx, .int .i64 ct, .slice A1 n1 c1] 36)); obtain ⟨fn, tmps, assign, body, hy, hR1⟩ := hY pre ((⟨ba, la, fr, ep, pi, ge, se, tx, ct, rs⟩, A1, n1, c1), k) wr (w1.alloc (.cells #[.int .i64 ba, .int .i64 la, .int .i64 fr, .int .i64 ep, .int .i64 pi, .int .i64 ge, .int .i64 se, .bool tx, .int .i64 ct, .slice A1 n1 c1] 36)) hJ HW1.out ⟨HQ.out.1, HQ.out.2.1, HQ.out.2.2, hc1, ownR_below ho1 (bel_alloc (Below.refl _ _) _)⟩; dsimp only [encI] at hy; have hw1 := hb1.size; clear hb1 ho1))
      refine hR1.mono ?_
      rintro e W3 (⟨rfl, hJ3, hk3⟩ | ⟨rfl, hJx3⟩)
      · have hb3 : Below n₀ (w1.alloc (.cells #[.int .i64 ba, .int .i64 la, .int .i64 fr, .int .i64 ep, .int .i64 pi, .int .i64 ge, .int .i64 se, .bool tx, .int .i64 ct, .slice A1 n1 c1] 36)) W3 := hk3.out (fun g hg => .inl hg) (by simp; omega)
        have hcl3 : ∀ j, j < 2 → W3.cell? ⟨bx, j, none⟩ = W.cell? ⟨bx, j, none⟩ := fun j hj => ((hk3.cell (p := ⟨bx, j, none⟩) (by simp; omega) (.inl (.inr (.inr rfl)))).trans (HW1.out.cell (p := ⟨bx, j, none⟩) hbxr)).trans (HCL.out j hj)
        have hs3 := hk3.bel.size
        have HC3 := Lib.hid hcl3
        have HB3 := Lib.hid ((HBL.out.trans (HW1.out.mono hn₀r)).trans hb3)
        clear hcl3 hb3 hk3
        gi_wp2
        go_roundw
        case rel => exact ⟨kn, pre ++ [((⟨ba, la, fr, ep, pi, ge, se, tx, ct, rs⟩, A1, n1, c1), k)], rest, by go_num, by rw [btsOf_snoc]; exact HS.out, by rw [btsOf_snoc]; exact HKN.out, hJ3, HB3.out, fun j hj => HC3.out j hj, Nat.lt_of_lt_of_le (by simp; omega) hs3⟩
        case measure => simp [intOf]; omega
      · gi_wp2
        refine bodyPost_ret (results_none rfl _ _ _) rfl ?_
        exact ⟨⟨_, rfl⟩, .inr ⟨_, hJx3⟩⟩
theorem batches_seq (d : Nat) (hd : 2 ≤ d) (bf bx n₀ : Nat) (A : Option Addr) (n c : Nat) (base : Int) (L1 L2 : List Bt) (hch : ∀ b ∈ L2, chB b = 0) (hc : n ≤ c) (hn : n ≤ 137438953472) (w : World) (hn₀ : n₀ ≤ w.heap.size) (hbf : bf < w.heap.size) (hbx : bx < w.heap.size)
    (hf0 : w.cell? ⟨bf, 0, none⟩ = some (.int .i64 ((byR L1).length : Int))) (hb1 : w.cell? ⟨bx, 1, none⟩ = some (.slice A n c)) (hR : Rd w n₀ A n (byR (L1 ++ L2))) (ht : Tab w) (hnt : 0 < n₀) :
    SeqO Fence.wide d Tryz.prog 36 #[.pointer (some ⟨bf, 0, none⟩), .pointer (some ⟨bx, 0, none⟩)] encI (IdxK n₀ bf bx) NoU (fun _ => IdxQ L1 L2) (fun ys => btsOf ys = L2) w := fun l J Jx W hW hJ _ hY h0 =>
  batches1_in d hd l bf bx n₀ A n c base L1 L2 hch hc hn J Jx (fun s X Y hs hb => hJ s X Y none hs ⟨hb.os, hb.tape, hb.output, hb.size, fun k hk _ => hb.block k hk⟩ (fun r e => by cases e)) W.heap.size
    (fun pre x W0 W1 h1 h2 h3 => (hY pre x W0 W1 h1 (.of_below h2) h3).mono fun e W2 h => by
      rcases h with ⟨g1, g2, g3, _⟩ | ⟨g1, g2, _⟩
      · exact .inl ⟨g1, g2, g3⟩
      · exact .inr ⟨g1, g2⟩)
    W (hR.below hW hn₀) (Nat.le_trans hn₀ hW.size) (Nat.lt_of_lt_of_le hbx hW.size)
    ((hW.cell (p := ⟨bf, 0, none⟩) hbf).trans hf0) ((hW.cell (p := ⟨bx, 1, none⟩) hbx).trans hb1) (ht.bel hW) hnt h0
theorem batches_any (A : Option Addr) (n c : Nat) (base : Int) (k : Int) (w : World) :
    Calls Tryz.prog 25 #[.agg #[.int .i64 base, .slice A n c], .int .i64 k] w fun e w' => e = .returned (.func (.func 36) #[] #[.pointer (some ⟨w.heap.size + 1, 0, none⟩), .pointer (some ⟨w.heap.size, 0, none⟩)]) ∧ (w.alloc (.cells #[.int .i64 base, .slice A n c] 24)).alloc (.cells #[.int .i64 k] 3) = w' := by
  go_enter Tryz.func25, Tryz.ntmps25
  go_wp2
  go_ret
  exact ⟨rfl, rfl⟩
theorem entries_any (A : Option Addr) (n c : Nat) (base : Int) (w : World) :
    Calls Tryz.prog 21 #[.agg #[.int .i64 base, .slice A n c]] w fun e w' => e = .returned (.func (.func 34) #[] #[.pointer (some ⟨w.heap.size, 0, none⟩)]) ∧ w.alloc (.cells #[.int .i64 base, .slice A n c] 24) = w' := by
  go_enter Tryz.func21, Tryz.ntmps21
  go_wp2
  go_ret
  exact ⟨rfl, rfl⟩
end Go.Proofs.YtbnkfljkojhkoaaGreatDoor.Idx

/- The iterator of the landed index.entries: the entries of all batches of a segment that is right; it ranges over index.batches itself. -/
namespace Go.Proofs.YtbnkfljkojhkoaaGreatDoor.Idx
open Go.RowKit Go.Shelf Oct Rec Crc Bat RngQ Seg RowF RowL

attribute [local go_sem] Oper.semAt_some

theorem yieldAt_any {m m' l l0 : Nat} {P : Program} {args : Array Value} {W : World} {R : Ending → World → Prop} (h : YieldAt Fence.wide m P l args W R) : YieldAt (Fence.wide.inRound l0) m' P l args W R := by
  obtain ⟨fn, tmps, assign, body, hy, hR⟩ := h
  exact ⟨fn, tmps, assign, body, hy, hR.1, fun c cs _ => hR.2 c cs (fun d h => by cases h)⟩
section
variable {U V K : Nat → Prop} {A B : World} {m n : Nat}
theorem step_mono (h : StepK V A B) (hU : ∀ g, V g → U g) : StepK U A B := ⟨h.bel, fun g hg hk => h.same g hg fun hv => hk (hU g hv)⟩
theorem step_kept (h : StepK V A B) (hV : ∀ g, (K g ∨ m ≤ g) → ¬ V g) : KeptQ K m A B := ⟨h.bel, fun g hg hk => h.same g hg (hV g hk)⟩
theorem step_from (h : StepK V A B) (hV : ∀ g, n ≤ g → ¬ V g) : KeepsFrom n A B := ⟨h.bel.size, fun k _o hk ho _ => (h.same k (Array.getElem?_eq_some_iff.1 ho).1 (hV k hk)).trans ho⟩
end
def enE (x : En) : Array Value := #[.agg #[.int .i64 x.off, .int .i64 x.pos, .int .i64 x.stamp]]
def EntK (n₀ bx B : Nat) (g : Nat) : Prop := g < n₀ ∨ g = bx ∨ (B ≤ g ∧ g < B + 6)
def EntU (B : Nat) (g : Nat) : Prop := B ≤ g ∧ g < B + 6
def EntQ (L : List Bt) (B : Nat) (pre : List En) (x : En) (_W0 W : World) : Prop := (∃ rest, ents 0 (-1) L = pre ++ x :: rest) ∧ B + 6 ≤ W.heap.size
def enI (B l : Nat) (most : Int) (W : World) : Prop := Boxed W B 66 (.func (.yield l) #[] #[]) ∧ Boxed W (B + 1) 3 (.int .i64 most)
theorem enI_own {B l : Nat} {most : Int} {W W' : World} {row : Option Nat} (h : enI B l most W) (hg : W.grownBy W' row) (hrow : ∀ r, row = some r → ∃ o : Obj, W.heap[r]? = some o ∧ o.isCells = false) : enI B l most W' := ⟨boxed_own2 h.1 hg hrow, boxed_own2 h.2 hg hrow⟩
def enA (L : List Bt) (_n₀ B l : Nat) (J : List En → World → Prop) (pre : List SX) (x : SX) (W0 : World) (Bx : Nat) (W : World) : Prop :=
  enI B l (endM (-1) (btsOf pre)) W ∧ LeadT W (fun b => W0.heap.size ≤ b) none x.1 ∧ W0.heap.size ≤ Bx ∧ BoxT W Bx 36 x.1 ∧ (∃ rest, L = btsOf pre ++ x.1.1 :: rest) ∧ x.2 = (byR (btsOf pre)).length ∧ B + 6 ≤ W0.heap.size ∧ J (ents 0 (-1) (btsOf pre)) W0 ∧ StepK (EntU B) W0 W
theorem enA_turn {L : List Bt} {n₀ B l Bx : Nat} {J : List En → World → Prop} {pre : List SX} {x : SX} {W0 W : World} {r r' : Loop} (h : enA L n₀ B l J pre x W0 Bx W) (hr : W.heap[B + 5]? = some (.loop r)) : enA L n₀ B l J pre x W0 Bx (W.putObj (B + 5) (.loop r')) := by
  obtain ⟨h1, h2, h3, h4, h5, h6, h7, h8, h9⟩ := h
  have hg := grownBy_putObj' W (B + 5) (.loop r')
  have hrow : ∀ k, some (B + 5) = some k → ∃ o : Obj, W.heap[k]? = some o ∧ o.isCells = false := fun k e => by cases e; exact ⟨_, hr, rfl⟩
  exact ⟨enI_own h1 hg hrow, LeadT.keptBy h2 hg hrow, h3, h4.keptBy hg hrow, h5, h6, h7, h8, h9.grown hg fun k e => by cases e; exact .inr ⟨by omega, by omega⟩⟩
theorem ents_snoc (pos most : Int) (bs : List Bt) (b : Bt) : ents pos most (bs ++ [b]) = ents pos most bs ++ [⟨b.base, endP pos bs, mx (endM most bs) b.recs⟩] := by rw [ents_app]; rfl
theorem endM_snoc (most : Int) (bs : List Bt) (b : Bt) : endM most (bs ++ [b]) = mx (endM most bs) b.recs := by
  induction bs generalizing most with
  | nil => rfl
  | cons x bs ih => exact ih _
def erRel (rs : List Rc) (m : Int) (Bs n : Nat) (W : World) (i : Value) (wr : World) : Prop :=
  ∃ k : Nat, i = .int .i64 (k : Int) ∧ k ≤ n ∧ Boxed wr Bs 3 (.int .i64 (mx m (rs.take k))) ∧ StepK (fun g => g = Bs) W wr
theorem mx_take {m : Int} {rs : List Rc} {k : Nat} {r : Rc} (h : rs[k]? = some r) : mx m (rs.take (k + 1)) = max (mx m (rs.take k)) r.stamp := by
  rw [List.take_add_one, h]
  exact mx_snoc _ _ _
theorem if_max (a b : Int) : (if a < b then b else a) = max a b := by omega
theorem kept_mono {K K' : Nat → Prop} {m : Nat} {A B : World} (h : KeptQ K m A B) (hK : ∀ g, K' g → K g) : KeptQ K' m A B := ⟨h.bel, fun g hg hk => h.same g hg (hk.imp (hK g) id)⟩
theorem kept_box {K : Nat → Prop} {m : Nat} {A B : World} (h : KeptQ K m A B) {k : Nat} {t : TypeId} {v : Value} (hv : Boxed A k t v) (hk : K k ∨ m ≤ k) : Boxed B k t v := (h.same k hv.lt hk).trans hv
theorem next_ent {L : List Bt} {pre : List Bt} {b : Bt} (h : ∃ rest, L = pre ++ b :: rest) : ∃ rest, ents 0 (-1) L = ents 0 (-1) pre ++ (⟨b.base, ((byR pre).length : Int), mx (endM (-1) pre) b.recs⟩ : En) :: rest := by
  obtain ⟨rest, h⟩ := h
  refine ⟨ents (endP (endP 0 pre) [b]) (endM (endM (-1) pre) [b]) rest, ?_⟩
  rw [h, ents_app]
  show _ ++ (⟨b.base, endP 0 pre, mx (endM (-1) pre) b.recs⟩ : En) :: _ = _
  rw [endP_is, Int.zero_add]
  rfl
set_option maxRecDepth 100000 in
set_option maxHeartbeats 8000000 in
theorem entries1_in (d : Nat) (hd : 6 ≤ d) (l bx n₀ : Nat) (A : Option Addr) (n c : Nat) (base : Int) (L : List Bt) (hch : ∀ b ∈ L, chB b = 0) (hc : n ≤ c) (hn : n ≤ 137438953472) (J Jx : List En → World → Prop) (W : World) (hJO : OwnFrom W.heap.size J) (hJxO : OwnFrom W.heap.size Jx)
    (hY : ∀ pre x W0 W1, J pre W0 → StepK (EntU W.heap.size) W0 W1 → EntQ L W.heap.size pre x W0 W1 → YieldAt Fence.wide (d - 1) Tryz.prog l (enE x) W1 fun e W2 =>
      (e = .returned (.bool true) ∧ J (pre ++ [x]) W2 ∧ KeptQ (EntK n₀ bx W.heap.size) W0.heap.size W1 W2 ∧ KeepsFrom W.heap.size W1 W2) ∨ (e = .returned (.bool false) ∧ Jx (pre ++ [x]) W2 ∧ KeepsFrom W.heap.size W1 W2))
    (hR : Rd W n₀ A n (byR L)) (hn₀ : n₀ ≤ W.heap.size) (hbx : bx < W.heap.size) (hb0 : W.cell? ⟨bx, 0, none⟩ = some (.int .i64 base)) (hb1 : W.cell? ⟨bx, 1, none⟩ = some (.slice A n c)) (ht : Tab W) (hnt : 0 < n₀) (h0 : J [] W) :
    CallsIn Fence.wide d Tryz.prog 34 #[.func (.yield l) #[] #[], .pointer (some ⟨bx, 0, none⟩)] W fun e W2 => (∃ v, e = .returned v) ∧
      ((∃ ys : List En, ys = ents 0 (-1) L ∧ J ys W2) ∨ (∃ pre : List En, Jx pre W2)) := by
  have HR := Lib.hid hR
  have HT := Lib.hid ht
  have HY := Lib.hid hY
  have HJO := Lib.hid hJO
  have HJXO := Lib.hid hJxO
  have HJ0 := Lib.hid h0
  have HCH := Lib.hid hch
  clear hR ht hY hJO hJxO h0 hch
  refine callsIn_of_wp_marks Tryz.func34 rfl trivial ?_ rfl
  simp only [Tryz.ntmps34, List.size_toArray, List.length_cons, List.length_nil, Nat.reduceAdd, Nat.reduceSub, Array.replicate_succ, Array.replicate_zero, List.push_toArray, List.append_toArray, List.nil_append, List.cons_append]
  refine wpIn_wide.2 ?_
  go_wp2_with (go_at_call 25; (with_reducible refine (batches_any A n c base 0 _).mono ?_); rintro e w' ⟨rfl, rfl⟩)
  generalize hw0 : ((((W.alloc (.cells #[.func (.yield l) #[] #[]] 66)).alloc (.cells #[.int .i64 (-1)] 3)).alloc (.cells #[.int .i64 base, .slice A n c] 24)).alloc (.cells #[.int .i64 0] 3)) = W0
  have hsz : W0.heap.size = W.heap.size + 4 := by rw [← hw0]; simp
  have hB0 : Below W.heap.size W W0 := by rw [← hw0]; exact bel_alloc (bel_alloc (bel_alloc (bel_alloc (Below.refl _ _) _) _) _) _
  have hI0 : enI W.heap.size l (-1) W0 := by
    rw [← hw0]
    refine ⟨?_, ?_⟩
    · have h := Boxed.new W 66 (.func (.yield l) #[] #[])
      exact ((h.alloc _).alloc _).alloc _
    · have h := Boxed.new (W.alloc (.cells #[.func (.yield l) #[] #[]] 66)) 3 (.int .i64 (-1))
      simp only [World.size_alloc] at h
      exact (h.alloc _).alloc _
  have hS0 : W0.heap[W.heap.size + 1 + 1]? = some (.cells #[.int .i64 base, .slice A n c] 24 (0, 0)) := by
    rw [← hw0]
    have h := World.alloc_heap_new ((W.alloc (.cells #[.func (.yield l) #[] #[]] 66)).alloc (.cells #[.int .i64 (-1)] 3)) (.cells #[.int .i64 base, .slice A n c] 24 (0, 0))
    simp only [World.size_alloc] at h
    exact (Below.heap_alloc _ _ _ (by simp)).trans h
  have hF0 : W0.heap[W.heap.size + 1 + 1 + 1]? = some (.cells #[.int .i64 0] 3 (0, 0)) := by
    rw [← hw0]
    have h := World.alloc_heap_new (((W.alloc (.cells #[.func (.yield l) #[] #[]] 66)).alloc (.cells #[.int .i64 (-1)] 3)).alloc (.cells #[.int .i64 base, .slice A n c] 24)) (.cells #[.int .i64 0] 3 (0, 0))
    simp only [World.size_alloc] at h
    exact h
  clear hw0
  refine (wpIn_wide (n := d)).1 ?_
  refine wpIn_rangeO (F := Fence.wide) rfl (by omega) (gf := 36) (lb := #[.pointer (some ⟨W.heap.size + 1 + 1 + 1, 0, none⟩), .pointer (some ⟨W.heap.size + 1 + 1, 0, none⟩)]) rfl trivial (enters_of Tryz.func36 (by kernel_rfl) rfl)
    (batches_seq (d - 1) (by omega) (W.heap.size + 1 + 1 + 1) (W.heap.size + 1 + 1) n₀ A n c base [] L HCH.out hc hn W0 (by omega) (by omega) (by omega) (by rw [cell_of_row _ _ _ _ _ _ hF0]; rfl) (by rw [cell_of_row _ _ _ _ _ _ hS0]; rfl) (HR.out.below hB0 hn₀) (HT.out.bel hB0) hnt)
    (by simp only [IdxK]; omega) (fun k h => h.elim) (Below.refl _ _) (fun _ => rfl)
    (fun pre X => enI W.heap.size l (endM (-1) (btsOf pre)) X ∧ J (ents 0 (-1) (btsOf pre)) X) (fun cd pre X => cd = .ret ∧ Jx (ents 0 (-1) (btsOf pre)) X)
    (OwnFrom.and (Own.from (I := fun (pre : List SX) X => enI W.heap.size l (endM (-1) (btsOf pre)) X) (fun s X Y row hs hg hrow => enI_own hs hg hrow) _) (fun s X Y row hs hg hrow => HJO.out _ X Y row hs hg fun r e => ⟨by have := (hrow r e).1; omega, (hrow r e).2⟩))
    (fun _ s X Y row hs hg hrow => ⟨hs.1, HJXO.out _ X Y row hs.2 hg fun r e => ⟨by have := (hrow r e).1; omega, (hrow r e).2⟩⟩)
    ⟨hI0, HJO.out _ W W0 none HJ0.out (grownBy_of hB0) (fun r e => by cases e)⟩
    (fun pre x W1 a' X => ∃ Bx, enA L n₀ W.heap.size l J pre x W1 Bx X ∧ a' = { tmps := #[.func (.yield l) #[] #[], .pointer (some ⟨bx, 0, none⟩), .pointer (some ⟨W.heap.size, 0, none⟩), .pointer (some ⟨W.heap.size + 1, 0, none⟩), .int .i64 (x.2 : Int), .pointer (some ⟨Bx, 0, none⟩), undef, undef, .agg #[.int .i64 base, .slice A n c], .func (.func 36) #[] #[.pointer (some ⟨W.heap.size + 1 + 1 + 1, 0, none⟩), .pointer (some ⟨W.heap.size + 1 + 1, 0, none⟩)], .int .i64 (x.2 : Int), (encI x)[1]!, undef, undef, undef, undef, undef, undef, undef, undef, undef, undef, undef, undef, undef, undef, undef, undef, undef, undef, undef, undef], defers := [] })
    (fun pre x W1 a' X r r' h hr => by obtain ⟨Bx, h1, h2⟩ := h; refine ⟨Bx, ?_, h2⟩; rw [hsz] at hr ⊢; exact enA_turn h1 hr)
    ?assign ?body ?done ?stop
  case assign =>
    rintro l2 pre ⟨⟨⟨ba, la, fr, ep, pi, ge, se, tx, ct, rs⟩, A1, n1, c1⟩, kn⟩ W1 X G hs1 ⟨hI, hJ⟩ hbel hq hG
    have hbel : Below W1.heap.size W1 X := ⟨hbel.bel.os, hbel.bel.tape, hbel.bel.output, hbel.bel.size, fun g hg => hbel.same g hg id⟩
    dsimp only [encI]
    gi_wp2
    have hbel2 : Below W1.heap.size W1 (X.alloc (.cells #[.int .i64 ba, .int .i64 la, .int .i64 fr, .int .i64 ep, .int .i64 pi, .int .i64 ge, .int .i64 se, .bool tx, .int .i64 ct, .slice A1 n1 c1] 36)) := bel_alloc hbel _
    exact hG _ _ ((KeepsOthers.alloc _ _).from _) ((KeptQ.refl _ _ _).alloc _) ⟨X.heap.size, ⟨⟨boxed_below hI.1 hbel2, boxed_below hI.2 hbel2⟩, (lead_new (x := ((⟨ba, la, fr, ep, pi, ge, se, tx, ct, rs⟩, A1, n1, c1), kn)) hq.2.2.2.2 hq.2.2.2.1 hq.2.2.1).below (bel_alloc (Below.refl _ _) _), hbel.size, BoxT.new X _ (⟨ba, la, fr, ep, pi, ge, se, tx, ct, rs⟩, A1, n1, c1), hq.1, hq.2.1, by omega, hJ, .of_below hbel2⟩, rfl⟩
  case body =>
    rintro l2 pre ⟨⟨⟨ba, la, fr, ep, pi, ge, se, tx, ct, rs⟩, A1, n1, c1⟩, kn⟩ W1 a' X ⟨Bx, ⟨⟨hIf, hIs⟩, hLd, hBx, hT, hnx, hkn, hs1, hJ, hst⟩, rfl⟩
    obtain ⟨x0, x1, x2, x3, x4, x5, x6, x7, x8, x9⟩ := hT.box
    have HLD := Lib.hid hLd
    have HNX := Lib.hid (next_ent hnx)
    have HN2 := Lib.hid hnx
    have HJ := Lib.hid hJ
    have HST := Lib.hid hst
    have HIF := Lib.hid hIf
    have HTB := Lib.hid hT
    have hBl := hT.lt
    obtain rfl : kn = (byR (btsOf pre)).length := hkn
    obtain ⟨kn, hkn⟩ : ∃ kn, kn = (byR (btsOf pre)).length := ⟨_, rfl⟩
    have HKN := Lib.hid hkn
    simp only [← hkn]
    rw [← hkn] at HNX
    obtain ⟨m0, hm0⟩ : ∃ m0, m0 = endM (-1) (btsOf pre) := ⟨_, rfl⟩
    have HM0 := Lib.hid hm0
    rw [← hm0] at hIs HNX
    clear hLd hnx hJ hst hIf hT hkn hm0
    have hnn : n1 ≤ 1099511627776 := HLD.out.2.2.1
    gi_wp2
    gi_loopw [15] (fun i wr => erRel rs m0 (W.heap.size + 1) n1 X i wr) (fun i _ => n1 - (intOf i).toNat)
    case atStart => exact ⟨0, rfl, Nat.zero_le _, hIs, .refl _ _⟩
    case round =>
      obtain ⟨k, rfl, hk, hbx2, hsx⟩ := hrel
      have HSX := Lib.hid hsx
      have HBX := Lib.hid hbx2
      have hs2 := hsx.bel.size
      clear hsx hbx2
      by_cases hlt : k < n1
      · obtain ⟨b, o, r, hAA, hbl, hrk, c0, c1', c2, c3, c4⟩ := HLD.out.1.at hlt
        obtain rfl : A1 = some ⟨b, o, none⟩ := hAA
        have hne : b ≠ W.heap.size + 1 := by
          have h9 := (HLD.out.2.2.2.2 _ rfl (by show 0 < n1; omega)).1
          simp only at h9
          omega
        have hrk : rs[k]? = some r := hrk
        have e0 := (HSX.out.cell (p := ⟨b, o + k * 5, none⟩) hbl hne).trans c0
        have e1 := (HSX.out.cell (p := ⟨b, o + k * 5 + 1, none⟩) hbl hne).trans c1'
        have e2 := (HSX.out.cell (p := ⟨b, o + k * 5 + 2, none⟩) hbl hne).trans c2
        have e3 := (HSX.out.cell (p := ⟨b, o + k * 5 + 3, none⟩) hbl hne).trans c3
        have e4 := (HSX.out.cell (p := ⟨b, o + k * 5 + 4, none⟩) hbl hne).trans c4
        have g0 := HBX.out.cell
        have g1 := HBX.out.frozen
        have HRK := Lib.hid hrk
        have hblr : b < wr.heap.size := by omega
        have hbs := HBX.out.lt
        obtain ⟨r0, rk, rv, rd, r4⟩ := r
        clear c0 c1' c2 c3 c4 hrk hne x0 x1 x2 x3 x4 x5 x6 x7 x8 x9 hIs
        simp only at e0 e1 e2 e3 e4
        gi_wp2
        go_roundw
        case rel => exact ⟨k + 1, by go_num, by omega, by rw [mx_take HRK.out, ← if_max]; exact (HBX.out.set _).alloc _, (HSX.out.set (p := ⟨W.heap.size + 1, 0, none⟩) rfl _).below (bel_alloc (Below.refl _ _) _)⟩
        case measure => simp [intOf]; omega
      · have hkn : k = n1 := by omega
        subst hkn
        have hall : rs.take k = rs := List.take_of_length_le (by have := HLD.out.1.len; simp only at this; omega)
        rw [hall] at HBX
        have q0 := (HSX.out.cell (p := ⟨Bx, 0, none⟩) hBl (by simp only; omega)).trans x0
        have hfb := HSX.out.box HIF.out (by omega)
        have q1 := hfb.cell
        have q2 := HBX.out.cell
        obtain ⟨mm, hmm⟩ : ∃ mm, mm = mx m0 rs := ⟨_, rfl⟩
        have HMM := Lib.hid hmm
        rw [← hmm] at q2 HNX HBX
        have HFB := Lib.hid hfb
        have hstep : StepK (EntU W.heap.size) W1 wr := HST.out.trans (step_mono HSX.out fun g hg => by subst hg; exact ⟨by omega, by omega⟩)
        obtain ⟨fn, tmps, assign, bodyc, hy, hR1⟩ := yieldAt_any (m' := d - 1 - 1 - 1) (l0 := l2) (HY.out (ents 0 (-1) (btsOf pre)) ⟨ba, (kn : Int), mm⟩ W1 wr HJ.out hstep ⟨HNX.out, by omega⟩)
        dsimp only [enE] at hy
        clear hstep hmm x0 x1 x2 x3 x4 x5 x6 x7 x8 x9 hIs hall hfb
        gi_wp2
        refine ⟨fun _ => by omega, hR1.mono ?_⟩
        rintro e W3 (⟨rfl, hJ3, hk3, hf3⟩ | ⟨rfl, hJx3, hf3⟩)
        · have HJ3 := Lib.hid hJ3
          have HK3 := Lib.hid hk3
          have HF3 := Lib.hid hf3
          clear hJ3 hk3 hf3
          gi_wp2
          refine ⟨(step_from HSX.out fun g hg he => by omega).trans (KeepsFrom.mono HF3.out (by omega)), (step_kept HSX.out fun g hg he => by simp only [IdxK] at hg; omega).trans (kept_mono HK3.out fun g hg => by simp only [IdxK] at hg; simp only [EntK]; omega), ⟨kept_box HK3.out HFB.out (.inl (by simp only [EntK]; omega)), ?_⟩, ?_⟩
          · rw [btsOf_snoc, endM_snoc, ← HM0.out, ← HMM.out]
            exact kept_box HK3.out HBX.out (.inl (by simp only [EntK]; omega))
          · rw [btsOf_snoc, ents_snoc, endP_is, ← HM0.out, ← HMM.out, ← HKN.out, Int.zero_add]
            exact HJ3.out
        · have HJ3 := Lib.hid hJx3
          have HF3 := Lib.hid hf3
          clear hJx3 hf3
          gi_wp2
          refine ⟨(step_from HSX.out fun g hg he => by omega).trans (KeepsFrom.mono HF3.out (by omega)), rfl, ?_⟩
          rw [btsOf_snoc, ents_snoc, endP_is, ← HM0.out, ← HMM.out, ← HKN.out, Int.zero_add]
          exact HJ3.out
  case done =>
    rintro D ys X hD hys ⟨hI, hJ⟩ hK
    rw [hys] at hJ
    have HJ := Lib.hid hJ
    have HK := Lib.hid hK
    clear hI hJ hK
    gi_wp2
    refine ⟨by simp, .inl ⟨_, _, rfl, run_takeDeferred HK.out, ?_⟩⟩
    refine ⟨_, results_none rfl _ _ _, ⟨_, rfl⟩, .inl ⟨_, rfl, HJO.out _ X _ (some D) HJ.out (grownBy_putObj' _ D (.deferred none)) fun r e => ?_⟩⟩
    cases e
    exact ⟨by omega, _, HK.out, rfl⟩
  case stop =>
    rintro D cd pre X hD ⟨rfl, hJ⟩ hK
    have HJ := Lib.hid hJ
    have HK := Lib.hid hK
    clear hJ hK
    gi_wp2
    refine ⟨by simp, .inl ⟨_, _, rfl, run_takeDeferred HK.out, ?_⟩⟩
    refine ⟨_, results_none rfl _ _ _, ⟨_, rfl⟩, .inr ⟨_, HJXO.out _ X _ (some D) HJ.out (grownBy_putObj' _ D (.deferred none)) fun r e => ?_⟩⟩
    cases e
    exact ⟨by omega, _, HK.out, rfl⟩
theorem entries_seq (d : Nat) (hd : 6 ≤ d) (bx n₀ : Nat) (A : Option Addr) (n c : Nat) (base : Int) (L : List Bt) (hch : ∀ b ∈ L, chB b = 0) (hc : n ≤ c) (hn : n ≤ 137438953472) (w : World) (hn₀ : n₀ ≤ w.heap.size) (hbx : bx < w.heap.size)
    (hb0 : w.cell? ⟨bx, 0, none⟩ = some (.int .i64 base)) (hb1 : w.cell? ⟨bx, 1, none⟩ = some (.slice A n c)) (hR : Rd w n₀ A n (byR L)) (ht : Tab w) (hnt : 0 < n₀) :
    SeqO Fence.wide d Tryz.prog 34 #[.pointer (some ⟨bx, 0, none⟩)] enE (EntK n₀ bx) EntU (EntQ L) (fun ys => ys = ents 0 (-1) L) w := fun l J Jx W hW hJ hJx hY h0 =>
  entries1_in d hd l bx n₀ A n c base L hch hc hn J Jx W hJ hJx hY (hR.below hW hn₀) (Nat.le_trans hn₀ hW.size) (Nat.lt_of_lt_of_le hbx hW.size)
    ((hW.cell (p := ⟨bx, 0, none⟩) hbx).trans hb0) ((hW.cell (p := ⟨bx, 1, none⟩) hbx).trans hb1) (ht.bel hW) hnt h0
end Go.Proofs.YtbnkfljkojhkoaaGreatDoor.Idx
