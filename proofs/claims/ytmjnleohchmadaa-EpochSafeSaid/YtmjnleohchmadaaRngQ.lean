/- Joined: RngQ. -/
import Derived.RangeFuncNested
import Derived.RangeFuncCalls
import Derived.Test.YtmjnleohchmadaaJOct
/- A range over a function whose rounds may know of what they are handed: with each element the iterator says what it has done to the world since the last round, and what holds of the element there; and a round leaves alone what the iterator has laid since. Nothing of the program. -/
namespace Go.Proofs.Ytmjnleohchmadaa.RngQ
open Go.RowKit

structure KeptQ (K : Nat → Prop) (m : Nat) (A B : World) : Prop where
  bel : Below 0 A B
  same : ∀ g, g < A.heap.size → (K g ∨ m ≤ g) → B.heap[g]? = A.heap[g]?
section
variable {K : Nat → Prop} {m n : Nat} {A B C : World}
theorem KeptQ.refl (K : Nat → Prop) (m : Nat) (A : World) : KeptQ K m A A := ⟨Below.refl _ _, fun _ _ _ => rfl⟩
theorem KeptQ.trans (h : KeptQ K m A B) (k : KeptQ K m B C) : KeptQ K m A C := ⟨h.bel.trans k.bel, fun g hg hk => (k.same g (Nat.lt_of_lt_of_le hg h.bel.size) hk).trans (h.same g hg hk)⟩
theorem KeptQ.drew (h : KeptQ K m A B) : KeptQ K m A B.drew := ⟨h.bel.drew, h.same⟩
theorem KeptQ.alloc (h : KeptQ K m A B) (o : Obj) : KeptQ K m A (B.alloc o) :=
  h.trans ⟨(Below.refl _ _).alloc (Nat.zero_le _) _, fun _g hg _ => Below.heap_alloc _ _ _ hg⟩
theorem KeptQ.set (h : KeptQ K m A B) {p : Addr} (hK : ¬ K p.block) (hm : p.block < m) (u : Value) : KeptQ K m A (B.setCell p u) :=
  h.trans ⟨(Below.refl _ _).setCell (Nat.zero_le _) _, fun g _ hk => Below.heap_setCell _ _ _ _ (by rintro rfl; rcases hk with hk | hk; exact hK hk; omega)⟩
theorem KeptQ.grown (h : KeptQ K m A B) {row : Option Nat} (hg : B.grownBy C row) (hr : ∀ k, row = some k → ¬ K k ∧ k < m) : KeptQ K m A C :=
  h.trans ⟨⟨hg.os, hg.tape, hg.output, hg.size, fun k hk => (by omega)⟩, fun g hgs hk => hg.block g hgs fun e => by obtain ⟨h1, h2⟩ := hr g e.symm; rcases hk with hk | hk; exact h1 hk; omega⟩
theorem KeptQ.below (h : KeptQ K m A B) (hb : Below B.heap.size B C) : KeptQ K m A C := h.trans ⟨hb.mono (Nat.zero_le _), fun g hg _ => hb.block g hg⟩
theorem KeptQ.out (h : KeptQ K m A B) (hK : ∀ g, g < n → K g) (hn : n ≤ A.heap.size) : Below n A B := ⟨h.bel.os, h.bel.tape, h.bel.output, h.bel.size, fun g hg => h.same g (by omega) (.inl (hK g hg))⟩
theorem KeptQ.cell (h : KeptQ K m A B) {p : Addr} (hp : p.block < A.heap.size) (hk : K p.block ∨ m ≤ p.block) : B.cell? p = A.cell? p := World.cell?_of_block (h.same _ hp hk)
theorem KeptQ.frozen (h : KeptQ K m A B) {p : Addr} (hp : p.block < A.heap.size) (hk : K p.block ∨ m ≤ p.block) : B.frozen? p = A.frozen? p := World.frozen?_of_block (h.same _ hp hk)
end

section
variable {α : Type} {F : Fence} {n : Nat} {P : Program}
def SeqQ (F : Fence) (n : Nat) (P : Program) (g : Nat) (lb : Array Value) (encs : α → Array Value) (K : Nat → Prop) (Q : List α → α → World → World → Prop) (S : List α → Prop) (w : World) : Prop :=
  ∀ (l : Nat) (J Jx : List α → World → Prop) (W : World), Below w.heap.size w W → AbidesFrom W.heap.size J → AbidesFrom W.heap.size Jx →
    (∀ pre x W0 W1, J pre W0 → Below W0.heap.size W0 W1 → Q pre x W0 W1 → YieldAt F (n - 1) P l (encs x) W1 fun e W2 => (e = .returned (.bool true) ∧ J (pre ++ [x]) W2 ∧ KeptQ K W0.heap.size W1 W2) ∨ (e = .returned (.bool false) ∧ Jx (pre ++ [x]) W2)) →
    J [] W → CallsIn F n P g (#[.func (.yield l) #[] #[]] ++ lb) W fun e W2 => (∃ v, e = .returned v) ∧ ((∃ xs, S xs ∧ J xs W2) ∨ ∃ pre, Jx pre W2)

def PostQ (B : Nat) (K : Nat → Prop) (m : Nat) (I : List α → World → Prop) (Ix : Code → List α → World → Prop) (xs : List α) (W : World) : Exit → Act → World → Prop
  | .normal, _, X => KeepsFrom B W X ∧ KeptQ K m W X ∧ I xs X
  | .ret, _, X => KeepsFrom B W X ∧ Ix .ret xs X
  | .exit id, _, X => KeepsFrom B W X ∧ Ix (.exit id) xs X
  | .goto t, _, X => KeepsFrom B W X ∧ Ix (.goto t) xs X
  | .panic _, _, _ => False
  | .outgrown, _, _ => False

structure Book (l D : Nat) (r : Loop) (W : World) : Prop where
  rcd : W.heap[l]? = some (.loop r)
  dfr : W.heap[D]? = some (.deferred (some []))
section
variable {l D B : Nat} {r : Loop} {W X : World} {row : Option Nat}
theorem Book.lt (h : Book l D r W) : l < W.heap.size := (Array.getElem?_eq_some_iff.1 h.rcd).1
theorem Book.grown (h : Book l D r W) (hg : W.grownBy X row) (hrow : ∀ k, row = some k → ∃ o : Obj, W.heap[k]? = some o ∧ o.isWalk = true) : Book l D r X :=
  ⟨(grownBy_keeps hg hrow h.rcd rfl).trans h.rcd, (grownBy_keeps hg hrow h.dfr rfl).trans h.dfr⟩
theorem Book.turn (h : Book l D r W) (hne : D ≠ l) (s : Loop) : Book l D s (W.putObj l (.loop s)) := ⟨World.putObj_heap_same h.lt, (World.putObj_heap_other hne).trans h.dfr⟩
theorem Book.keep (h : Book l D r W) (hk : KeepsFrom B W X) (hl : B ≤ l) (hD : B ≤ D) : Book l D r X := ⟨hk.same _ _ hl h.rcd rfl, hk.same _ _ hD h.dfr rfl⟩
theorem Book.below (h : Book l D r W) (hb : Below W.heap.size W X) : Book l D r X := ⟨(hb.block l h.lt).trans h.rcd, (hb.block D (Array.getElem?_eq_some_iff.1 h.dfr).1).trans h.dfr⟩
end

theorem wpIn_rangeQ {g : Operand} {ps : Array Tmp} {assign body : Code} {T : Exit → Act → World → Prop} {a : Act} {w w0 : World} {gf : Nat} {lb : Array Value} {encs : α → Array Value} {K : Nat → Prop} {Q : List α → α → World → World → Prop} {S : List α → Prop}
    (hro : F.round = none) (h1 : 1 ≤ n) (hg : a.eval g = .func (.func gf) #[] lb) (hF : F.fn gf) (eg : ∀ args w, (callFunc gf args).run P w = .ok (.enter gf args) w)
    (hseq : SeqQ F (n - 1) P gf lb encs K Q S w0) (hK : ∀ k, K k → k < w.heap.size) (hb0 : Below w0.heap.size w0 w) (hps : ∀ x, (encs x).size = ps.size)
    (I : List α → World → Prop) (Ix : Code → List α → World → Prop) (hI : OwnFrom w.heap.size I) (hIx : ∀ c, OwnFrom w.heap.size (Ix c)) (h0 : I [] w)
    (Ax : List α → α → World → Act → World → Prop) (hAx : ∀ pre x W0 a', OwnFrom w.heap.size fun (_ : Unit) W => Ax pre x W0 a' W)
    (hassign : ∀ (l : Nat) (pre : List α) (x : α) (W0 W : World) (G : Act → World → Prop), w.heap.size ≤ W0.heap.size → I pre W0 → Below W0.heap.size W0 W → Q pre x W0 W → (∀ a' W', KeepsFrom w.heap.size W W' → KeptQ K W0.heap.size W W' → Ax pre x W0 a' W' → G a' W') →
      assign.wpIn (F.inRound l) (n - 1 - 1) P (Exit.then G (fun _ _ _ => False)) { tmps := (ps.zip (encs x)).foldl (fun t (p, v) => t.setIfInBounds p v) a.tmps, defers := [] } W)
    (hbody : ∀ (l : Nat) (pre : List α) (x : α) (W0 : World) (a' : Act) (W : World), Ax pre x W0 a' W → body.wpIn (F.inRound l) (n - 1 - 1) P (PostQ w.heap.size K W0.heap.size I Ix (pre ++ [x]) W) a' W)
    (hdone : ∀ (D : Nat) (xs : List α) (W : World), w.heap.size ≤ D → S xs → I xs W → W.heap[D]? = some (.deferred (some [])) → T .normal { a with defers := { target := .collected D, args := #[] } :: a.defers } W)
    (hstop : ∀ (D : Nat) (c : Code) (pre : List α) (W : World), w.heap.size ≤ D → Ix c pre W → W.heap[D]? = some (.deferred (some [])) → c.wpIn F n P T { a with defers := { target := .collected D, args := #[] } :: a.defers } W) :
    (Code.rangeFunc g ps assign body).wpIn F n P T a w := by
  refine wpIn_rangeFunc fun fn hfn => ?_
  rw [hro]
  obtain ⟨D, hD⟩ : ∃ D, D = w.heap.size := ⟨_, rfl⟩
  obtain ⟨l, hl⟩ : ∃ l, l = w.heap.size + 1 := ⟨_, rfl⟩
  have hDl : D ≠ l := by omega
  have hKl : ¬ K l := fun h => by have := hK l h; omega
  obtain ⟨R, hR⟩ : ∃ R : LoopState → Option Code → Loop, R = fun st pe => { state := st, pending := pe, fn, tmps := a.tmps, params := ps, assign, body, defers := D } := ⟨_, rfl⟩
  obtain ⟨W1, hW1⟩ : ∃ W1, W1 = (w.alloc (.deferred (some []))).alloc (.loop (R .ready none)) := ⟨_, rfl⟩
  have hB1 : Below w.heap.size w W1 := by rw [hW1]; exact ((Below.refl _ w).alloc (Nat.le_refl _) _).alloc (by simp) _
  have hs1 : W1.heap.size = w.heap.size + 2 := by rw [hW1]; simp
  have hbook : Book l D (R .ready none) W1 := by
    rw [hW1]
    refine ⟨?_, ?_⟩
    · have h := World.alloc_heap_new (w.alloc (.deferred (some []))) (.loop (R .ready none))
      rw [World.size_alloc] at h
      rw [hl]; exact h
    · rw [hD]; exact (Below.heap_alloc _ _ _ (by simp)).trans (World.alloc_heap_new w _)
  have hturn : ∀ {ys : List α} {A : World} {r : Loop} {U : List α → World → Prop} (st : LoopState) (pe : Option Code), OwnFrom w.heap.size U → U ys A → Book l D r A → U ys (A.putObj l (.loop (R st pe))) := fun st pe hU hk hb => hU.putObj _ hk (by omega) hb.rcd rfl
  have hkp : ∀ {m : Nat} {A X : World} {r : Loop} (st : LoopState) (pe : Option Code), KeptQ K m A X → Book l D r X → l < m → KeptQ K m A (X.putObj l (.loop (R st pe))) := fun st pe hk _ hm => hk.grown (grownBy_putObj' _ l _) fun k e => by cases e; exact ⟨hKl, hm⟩
  refine ⟨l, [{ target := .collected D, args := #[] }], W1, { target := .fn (.func gf) lb, args := #[.func (.yield l) #[] #[]] }, W1, gf, #[.func (.yield l) #[] #[]] ++ lb, W1, ?_, ?_, ?_, ?_, fun _ => h1, ?_⟩
  · rw [hW1, hR, hl, hD]; exact run_enterLoop_outer _ _ _ _ _
  · simp only [resolve, hg]
    simp [go_sem]
  · intro f' hf'; simp [Target.leads] at hf'; subst hf'; exact hF
  · simp [invoke, go_sem, eg]
  have hwalk : ∀ {A B : World} {row : Option Nat}, (∀ k, row = some k → W1.heap.size ≤ k ∧ ∃ o : Obj, A.heap[k]? = some o ∧ o.isWalk = true) → ∀ k, row = some k → w.heap.size ≤ k ∧ ∃ o : Obj, A.heap[k]? = some o ∧ o.isCells = false := fun h k e => by
    obtain ⟨h2, o, h3, h4⟩ := h k e
    exact ⟨by omega, o, h3, Obj.not_cells_of_walk h4⟩
  refine (hseq l (fun ys W => I ys W ∧ Book l D (R .ready none) W) (fun ys W => ∃ c, Ix c ys W ∧ Book l D (R .done (some c)) W) W1 (hb0.trans (hB1.mono hb0.size)) ?_ ?_ ?_ ⟨?_, hbook⟩).mono ?_
  · exact fun s A B row hs hg' hr => ⟨hI s A B row hs.1 hg' (hwalk (B := B) hr), hs.2.grown hg' fun k e => (hr k e).2⟩
  · rintro s A B row ⟨c, hc, hb⟩ hg' hr
    exact ⟨c, hIx c s A B row hc hg' (hwalk (B := B) hr), hb.grown hg' fun k e => (hr k e).2⟩
  · rintro ys x W9 W0 ⟨hi, hb⟩ hbel hq
    have hl9 := hb.lt
    replace hb := hb.below hbel
    have hy := run_yield (P := P) (args := encs x) hb.rcd (by rw [hR]; exact hps x)
    rw [hR] at hy
    refine ⟨fn, _, assign, body, hy, roundIn_of_wpIn hfn (hassign _ ys x W9 W0 _ (by omega) hi hbel hq ?_)⟩
    clear hy
    intro a' W hkf hkp0 hax
    replace hb := hb.keep hkf (by omega) (by omega)
    refine ⟨_, run_beginRound hb.rcd (by rw [hR]), ?_⟩
    have hbz : { R .ready none with state := .busy } = R .busy none := by rw [hR]
    rw [hbz]
    have hb2 := hb.turn hDl (R .busy none)
    refine wpIn_mono (hbody _ ys x W9 a' _ ((hAx ys x W9 a').putObj (s := ()) _ hax (by omega) hb.rcd rfl)) ?_
    have hend : ∀ (jump : Option Code) {W3 : World}, KeepsFrom w.heap.size (W.putObj l (.loop (R .busy none))) W3 →
        (Instr.endRound l jump).run P W3 = .ok (.bool jump.isNone) (W3.putObj l (.loop (R (if jump.isNone then .ready else .done) jump))) ∧ Book l D (R .busy none) W3 := fun jump W3 hk => by
      have hb3 := hb2.keep hk (by omega) (by omega)
      have h := run_endRound (P := P) jump hb3.rcd
      rw [hR] at h ⊢
      exact ⟨h, by rw [hR] at hb3; exact hb3⟩
    have hout : ∀ (c : Code) {W3 : World}, KeepsFrom w.heap.size (W.putObj l (.loop (R .busy none))) W3 → Ix c (ys ++ [x]) W3 → ∃ v W4, (Instr.endRound l (some c)).run P W3 = .ok v W4 ∧
        ((Ending.returned v = .returned (.bool true) ∧ (I (ys ++ [x]) W4 ∧ Book l D (R .ready none) W4) ∧ KeptQ K W9.heap.size W0 W4) ∨ (Ending.returned v = .returned (.bool false) ∧ ∃ c, Ix c (ys ++ [x]) W4 ∧ Book l D (R .done (some c)) W4)) := fun c W3 hk hi3 => by
      obtain ⟨hr, hb3⟩ := hend (some c) hk
      exact ⟨_, _, hr, .inr ⟨rfl, c, hturn .done (some c) (hIx c) hi3 hb3, hb3.turn hDl _⟩⟩
    rintro e a3 W3 hp
    cases e with
    | normal =>
      obtain ⟨hk3, hkp3, hi3⟩ := hp
      obtain ⟨hr, hb3⟩ := hend none hk3
      exact ⟨_, _, hr, .inl ⟨rfl, ⟨hturn .ready none hI hi3 hb3, hb3.turn hDl _⟩, hkp .ready none ((hkp .busy none hkp0 hb hl9).trans hkp3) hb3 hl9⟩⟩
    | ret => exact hout .ret hp.1 hp.2
    | exit id => exact hout (.exit id) hp.1 hp.2
    | goto t => exact hout (.goto t) hp.1 hp.2
    | panic ch => exact hp.elim
    | outgrown => exact hp.elim
  · rw [hW1]; exact hI.alloc _ (hI.alloc _ h0)
  · rintro e W2 ⟨⟨v, rfl⟩, ⟨xs, hS, hi, hb⟩ | ⟨ys, c, hi, hb⟩⟩
    · have h := run_endLoop (P := P) hb.rcd (by rw [hR]; simp)
      rw [hR] at h
      refine ⟨none, _, h, hdone D xs _ (by omega) hS ?_ ((World.putObj_heap_other hDl).trans hb.dfr)⟩
      exact hI.putObj _ hi (by omega) hb.rcd rfl
    · have h := run_endLoop (P := P) hb.rcd (by rw [hR]; simp)
      rw [hR] at h
      refine ⟨some c, _, h, hstop D c ys _ (by omega) ?_ ((World.putObj_heap_other hDl).trans hb.dfr)⟩
      exact (hIx c).putObj _ hi (by omega) hb.rcd rfl
end
end Go.Proofs.Ytmjnleohchmadaa.RngQ
