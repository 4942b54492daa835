/- Joined: RngG. -/
import Derived.Test.YtejcjmiofidedaaGreatDoorRngQ
/- A range over a function whose iterator keeps to blocks that it lays on the way: the set of its own blocks grows between two rounds, and a round leaves these alone. Nothing of the program. -/
namespace Go.Proofs.YtejcjmiofidedaaGreatDoor.RngQ
open Go.RowKit

def plus (G : Nat → Prop) (A B : World) (g : Nat) : Prop := G g ∨ (A.heap.size ≤ g ∧ g < B.heap.size)
section
variable {α : Type} {F : Fence} {n : Nat} {P : Program}
def SeqG (F : Fence) (n : Nat) (P : Program) (g : Nat) (lb : Array Value) (encs : α → Array Value) (K : Nat → Prop) (Q : (Nat → Prop) → List α → α → World → Prop) (S : List α → Prop) (w : World) : Prop :=
  ∀ (l : Nat) (J : (Nat → Prop) → List α → World → Prop) (Jx : List α → World → Prop) (W : World), Below w.heap.size w W → (∀ G A B ys, J G ys A → Below A.heap.size A B → J (plus G A B) ys B) →
    (∀ G pre x W0, J G pre W0 → Q G pre x W0 → YieldAt F (n - 1) P l (encs x) W0 fun e W2 => (e = .returned (.bool true) ∧ J G (pre ++ [x]) W2 ∧ KeptQ G W0.heap.size W0 W2) ∨ (e = .returned (.bool false) ∧ Jx (pre ++ [x]) W2)) →
    J K [] W → CallsIn F n P g (#[.func (.yield l) #[] #[]] ++ lb) W fun e W2 => (∃ v, e = .returned v) ∧ ((∃ xs, S xs ∧ ∃ G, J G xs W2) ∨ ∃ pre, Jx pre W2)

theorem wpIn_rangeG {g : Operand} {ps : Array Tmp} {assign body : Code} {T : Exit → Act → World → Prop} {a : Act} {w w0 : World} {gf : Nat} {lb : Array Value} {encs : α → Array Value} {K : Nat → Prop} {Q : (Nat → Prop) → List α → α → World → Prop} {S : List α → Prop}
    (hro : F.round = none) (h1 : 1 ≤ n) (hg : a.eval g = .func (.func gf) #[] lb) (hF : F.fn gf) (eg : ∀ args w, (callFunc gf args).run P w = .ok (.enter gf args) w)
    (hseq : SeqG F (n - 1) P gf lb encs K Q S w0) (hK : ∀ k, K k → k < w.heap.size) (hb0 : Below w0.heap.size w0 w) (hps : ∀ x, (encs x).size = ps.size)
    (I : (Nat → Prop) → List α → World → Prop) (Ix : Code → List α → World → Prop) (hI : ∀ G, OwnFrom w.heap.size (I G)) (hIx : ∀ c, OwnFrom w.heap.size (Ix c)) (hIp : ∀ G A B ys, I G ys A → Below A.heap.size A B → I (plus G A B) ys B) (h0 : I K [] w)
    (Ax : (Nat → Prop) → List α → α → World → Act → World → Prop) (hAx : ∀ G pre x W0 a', OwnFrom w.heap.size fun (_ : Unit) W => Ax G pre x W0 a' W)
    (hassign : ∀ (l : Nat) (H : Nat → Prop) (pre : List α) (x : α) (W : World) (G : Act → World → Prop), w.heap.size + 2 ≤ W.heap.size → I H pre W → Q H pre x W → (∀ a' W', KeepsFrom w.heap.size W W' → KeptQ H W.heap.size W W' → Ax H pre x W a' W' → G a' W') →
      assign.wpIn (F.inRound l) (n - 1 - 1) P (Exit.then G (fun _ _ _ => False)) { tmps := (ps.zip (encs x)).foldl (fun t (p, v) => t.setIfInBounds p v) a.tmps, defers := [] } W)
    (hbody : ∀ (l : Nat) (H : Nat → Prop) (pre : List α) (x : α) (W0 : World) (a' : Act) (W : World), Ax H pre x W0 a' W → body.wpIn (F.inRound l) (n - 1 - 1) P (PostQ w.heap.size H W0.heap.size (I H) Ix (pre ++ [x]) W) a' W)
    (hdone : ∀ (D : Nat) (H : Nat → Prop) (xs : List α) (W : World), w.heap.size ≤ D → S xs → I H xs W → W.heap[D]? = some (.deferred (some [])) → T .normal { a with defers := { target := .collected D, args := #[] } :: a.defers } W)
    (hstop : ∀ (D : Nat) (c : Code) (pre : List α) (W : World), w.heap.size ≤ D → Ix c pre W → W.heap[D]? = some (.deferred (some [])) → c.wpIn F n P T { a with defers := { target := .collected D, args := #[] } :: a.defers } W) :
    (Code.rangeFunc g ps assign body).wpIn F n P T a w := by
  refine wpIn_rangeFunc fun fn hfn => ?_
  rw [hro]
  obtain ⟨D, hD⟩ : ∃ D, D = w.heap.size := ⟨_, rfl⟩
  obtain ⟨l, hl⟩ : ∃ l, l = w.heap.size + 1 := ⟨_, rfl⟩
  have hDl : D ≠ l := by omega
  have hKl : ¬ K l := fun h => by have := hK l h; omega
  obtain ⟨R, hR⟩ : ∃ R : LoopState → Option Code → Loop, R = fun st pe => { state := st, pending := pe, fn, tmps := a.tmps, params := ps, assign, body, defers := D } := ⟨_, rfl⟩
  obtain ⟨W1, hW1⟩ : ∃ W1, W1 = (w.alloc (.deferred (some []))).alloc (.loop (R .ready none)) := ⟨_, rfl⟩
  have hB1 : Below w.heap.size w W1 := by rw [hW1]; exact ((Below.refl _ w).alloc (Nat.le_refl _) _).alloc (by simp) _
  have hs1 : W1.heap.size = w.heap.size + 2 := by rw [hW1]; simp
  have hbook : Book l D (R .ready none) W1 := by
    rw [hW1]
    refine ⟨?_, ?_⟩
    · have h := World.alloc_heap_new (w.alloc (.deferred (some []))) (.loop (R .ready none))
      rw [World.size_alloc] at h
      rw [hl]; exact h
    · rw [hD]; exact (Below.heap_alloc _ _ _ (by simp)).trans (World.alloc_heap_new w _)
  have hturn : ∀ {ys : List α} {A : World} {r : Loop} {U : List α → World → Prop} (st : LoopState) (pe : Option Code), OwnFrom w.heap.size U → U ys A → Book l D r A → U ys (A.putObj l (.loop (R st pe))) := fun st pe hU hk hb => hU.putObj _ hk (by omega) hb.rcd rfl
  have hkp : ∀ {H : Nat → Prop} {m : Nat} {A X : World} {r : Loop} (st : LoopState) (pe : Option Code), KeptQ H m A X → Book l D r X → ¬ H l → l < m → KeptQ H m A (X.putObj l (.loop (R st pe))) := fun st pe hk _ hH hm => hk.grown (grownBy_putObj' _ l _) fun k e => by cases e; exact ⟨hH, hm⟩
  refine ⟨l, [{ target := .collected D, args := #[] }], W1, { target := .fn (.func gf) lb, args := #[.func (.yield l) #[] #[]] }, W1, gf, #[.func (.yield l) #[] #[]] ++ lb, W1, ?_, ?_, ?_, ?_, fun _ => h1, ?_⟩
  · rw [hW1, hR, hl, hD]; exact run_enterLoop_outer _ _ _ _ _
  · simp only [resolve, hg]
    simp [go_sem]
  · intro f' hf'; simp [Target.leads] at hf'; subst hf'; exact hF
  · simp [invoke, go_sem, eg]
  refine (hseq l (fun H ys W => I H ys W ∧ Book l D (R .ready none) W ∧ ¬ H l) (fun ys W => ∃ c, Ix c ys W ∧ Book l D (R .done (some c)) W) W1 (hb0.trans (hB1.mono hb0.size)) ?_ ?_ ⟨?_, hbook, hKl⟩).mono ?_
  · rintro H A B ys ⟨h2, h3, h4⟩ hb
    refine ⟨hIp H A B ys h2 hb, h3.below hb, fun h5 => ?_⟩
    rcases h5 with h5 | h5
    · exact h4 h5
    · have := h3.lt; omega
  · rintro H ys x W0 ⟨hi, hb, hHl⟩ hq
    have hl9 := hb.lt
    have hy := run_yield (P := P) (args := encs x) hb.rcd (by rw [hR]; exact hps x)
    rw [hR] at hy
    refine ⟨fn, _, assign, body, hy, roundIn_of_wpIn hfn (hassign _ H ys x W0 _ (by omega) hi hq ?_)⟩
    clear hy
    intro a' W hkf hkp0 hax
    replace hb := hb.keep hkf (by omega) (by omega)
    refine ⟨_, run_beginRound hb.rcd (by rw [hR]), ?_⟩
    have hbz : { R .ready none with state := .busy } = R .busy none := by rw [hR]
    rw [hbz]
    have hb2 := hb.turn hDl (R .busy none)
    refine wpIn_mono (hbody _ H ys x W0 a' _ ((hAx H ys x W0 a').putObj (s := ()) _ hax (by omega) hb.rcd rfl)) ?_
    have hend : ∀ (jump : Option Code) {W3 : World}, KeepsFrom w.heap.size (W.putObj l (.loop (R .busy none))) W3 →
        (Instr.endRound l jump).run P W3 = .ok (.bool jump.isNone) (W3.putObj l (.loop (R (if jump.isNone then .ready else .done) jump))) ∧ Book l D (R .busy none) W3 := fun jump W3 hk => by
      have hb3 := hb2.keep hk (by omega) (by omega)
      have h := run_endRound (P := P) jump hb3.rcd
      rw [hR] at h ⊢
      exact ⟨h, by rw [hR] at hb3; exact hb3⟩
    have hout : ∀ (c : Code) {W3 : World}, KeepsFrom w.heap.size (W.putObj l (.loop (R .busy none))) W3 → Ix c (ys ++ [x]) W3 → ∃ v W4, (Instr.endRound l (some c)).run P W3 = .ok v W4 ∧
        ((Ending.returned v = .returned (.bool true) ∧ (I H (ys ++ [x]) W4 ∧ Book l D (R .ready none) W4 ∧ ¬ H l) ∧ KeptQ H W0.heap.size W0 W4) ∨ (Ending.returned v = .returned (.bool false) ∧ ∃ c, Ix c (ys ++ [x]) W4 ∧ Book l D (R .done (some c)) W4)) := fun c W3 hk hi3 => by
      obtain ⟨hr, hb3⟩ := hend (some c) hk
      exact ⟨_, _, hr, .inr ⟨rfl, c, hturn .done (some c) (hIx c) hi3 hb3, hb3.turn hDl _⟩⟩
    rintro e a3 W3 hp
    cases e with
    | normal =>
      obtain ⟨hk3, hkp3, hi3⟩ := hp
      obtain ⟨hr, hb3⟩ := hend none hk3
      exact ⟨_, _, hr, .inl ⟨rfl, ⟨hturn .ready none (hI H) hi3 hb3, hb3.turn hDl _, hHl⟩, hkp .ready none ((hkp .busy none hkp0 hb hHl hl9).trans hkp3) hb3 hHl hl9⟩⟩
    | ret => exact hout .ret hp.1 hp.2
    | exit id => exact hout (.exit id) hp.1 hp.2
    | goto t => exact hout (.goto t) hp.1 hp.2
    | panic ch => exact hp.elim
    | outgrown => exact hp.elim
  · rw [hW1]; exact (hI K).alloc _ ((hI K).alloc _ h0)
  · rintro e W2 ⟨⟨v, rfl⟩, ⟨xs, hS, H, hi, hb, _⟩ | ⟨ys, c, hi, hb⟩⟩
    · have h := run_endLoop (P := P) hb.rcd (by rw [hR]; simp)
      rw [hR] at h
      refine ⟨none, _, h, hdone D H xs _ (by omega) hS ?_ ((World.putObj_heap_other hDl).trans hb.dfr)⟩
      exact (hI H).putObj _ hi (by omega) hb.rcd rfl
    · have h := run_endLoop (P := P) hb.rcd (by rw [hR]; simp)
      rw [hR] at h
      refine ⟨some c, _, h, hstop D c ys _ (by omega) ?_ ((World.putObj_heap_other hDl).trans hb.dfr)⟩
      exact (hIx c).putObj _ hi (by omega) hb.rcd rfl
end
end Go.Proofs.YtejcjmiofidedaaGreatDoor.RngQ
