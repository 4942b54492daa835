/- Joined: TxnRow, RngQ, TxnEa. -/
import Derived.Test.YtlfbagkonckffaaGreatProg
import Derived.Test.YtlfbagkonckffaaGreatJ06
import Derived.Test.YtlfbagkonckffaaGreatJ07
import Derived.Test.YtlfbagkonckffaaGreatJ04
import Derived.Test.YtlfbagkonckffaaGreatJ08
import Derived.RangeFuncNested
import Derived.RangeFuncCalls
import Derived.Test.YtlfbagkonckffaaGreatJ01
/- Transactions in memory: rows of what is open and of what has ended; a Tx as an argument. -/
namespace Go.Proofs.YtlfbagkonckffaaGreat.Txn
open Go.RowKit Go.ChangeShapes Go.WideShapes Go.Deep Oct Lay RowF

def opC (x : Opn) : List Value := [.int .i64 x.pid, .int .i64 x.fst]
theorem opS : Shape opC 2 := ⟨fun _ => rfl, fun x u hu => by simp only [opC, List.mem_cons, List.not_mem_nil, or_false] at hu; rcases hu with rfl | rfl <;> rfl, by decide⟩
def goC (x : Gon) : List Value := [.int .i64 x.pid, .int .i64 x.no, .int .i64 x.fst, .int .i64 x.lst]
theorem goS : Shape goC 4 := ⟨fun _ => rfl, fun x u hu => by simp only [goC, List.mem_cons, List.not_mem_nil, or_false] at hu; rcases hu with rfl | rfl | rfl | rfl <;> rfl, by decide⟩
abbrev RdOp (w : World) (B : Nat) (A : Option Addr) (n : Nat) (l : List Opn) : Prop := RdF opC 2 w B A n l
abbrev RdGn (w : World) (B : Nat) (A : Option Addr) (n : Nat) (l : List Gon) : Prop := RdF goC 4 w B A n l
abbrev OwnOp (w : World) (B : Nat) (v : Value) (n : Nat) (l : List Opn) : Prop := OwnF opC 2 w 51 B v n l
abbrev OwnGn (w : World) (B : Nat) (v : Value) (n : Nat) (l : List Gon) : Prop := OwnF goC 4 w 54 B v n l
theorem opInfo : Info Tryz.prog 51 2 16 := by
  have h : (Tryz.prog.info? 51).map (fun i => (i.zero, i.size, i.bytes)) = some (some (.agg #[.int .i64 0, .int .i64 0]), 2, 16) := by kernel_rfl
  obtain ⟨i, hi, hz, hs, hb⟩ := info_parts h
  exact ⟨i, _, hi, hz, hs, hb, rfl⟩
theorem goInfo : Info Tryz.prog 54 4 32 := by
  have h : (Tryz.prog.info? 54).map (fun i => (i.zero, i.size, i.bytes)) = some (some (.agg #[.int .i64 0, .int .i64 0, .int .i64 0, .int .i64 0]), 4, 32) := by kernel_rfl
  obtain ⟨i, hi, hz, hs, hb⟩ := info_parts h
  exact ⟨i, _, hi, hz, hs, hb, rfl⟩
theorem op_at {w : World} {B n k : Nat} {A : Option Addr} {l : List Opn} (h : RdOp w B A n l) (hk : k < n) : ∃ b o x, A = some ⟨b, o, none⟩ ∧ b < B ∧ l[k]? = some x ∧ w.cell? ⟨b, o + k * 2, none⟩ = some (.int .i64 x.pid) ∧ w.cell? ⟨b, o + k * 2 + 1, none⟩ = some (.int .i64 x.fst) := by
  obtain ⟨b, o, x, hA, hb, hx, hc⟩ := h.at hk
  exact ⟨b, o, x, hA, hb, hx, hc 0 _ rfl, hc 1 _ rfl⟩
theorem go_at {w : World} {B n k : Nat} {A : Option Addr} {l : List Gon} (h : RdGn w B A n l) (hk : k < n) : ∃ b o x, A = some ⟨b, o, none⟩ ∧ b < B ∧ l[k]? = some x ∧ w.cell? ⟨b, o + k * 4, none⟩ = some (.int .i64 x.pid) ∧ w.cell? ⟨b, o + k * 4 + 1, none⟩ = some (.int .i64 x.no) ∧ w.cell? ⟨b, o + k * 4 + 2, none⟩ = some (.int .i64 x.fst) ∧ w.cell? ⟨b, o + k * 4 + 3, none⟩ = some (.int .i64 x.lst) := by
  obtain ⟨b, o, x, hA, hb, hx, hc⟩ := h.at hk
  exact ⟨b, o, x, hA, hb, hx, hc 0 _ rfl, hc 1 _ rfl, hc 2 _ rfl, hc 3 _ rfl⟩
def FitO (l : List Opn) : Prop := ∀ o ∈ l, I64 o.pid ∧ I64 o.fst
def FitG (l : List Gon) : Prop := ∀ g ∈ l, I64 g.pid ∧ I64 g.no ∧ I64 g.fst ∧ I64 g.lst
instance : Lay Opn where
  sz := 2
  pos := by decide
  is _ _ cs x := cs = opC x ∧ I64 x.pid ∧ I64 x.fst
  len h := by rw [h.1]; rfl
  keep h _ := h
  more h _ := h
instance : Lay Gon where
  sz := 4
  pos := by decide
  is _ _ cs x := cs = goC x ∧ I64 x.pid ∧ I64 x.no ∧ I64 x.fst ∧ I64 x.lst
  len h := by rw [h.1]; rfl
  keep h _ := h
  more h _ := h
theorem rdOp_of {w : World} {B n : Nat} {A : Option Addr} {l : List Opn} (h : RdL w B A n l) : RdOp w B A n l ∧ FitO l :=
  ⟨⟨h.1, fun k x hx => by
    obtain ⟨b, o, cs, hA, hb, his, hc⟩ := h.2 k x hx
    obtain ⟨rfl, _⟩ : cs = opC x ∧ _ := his
    exact ⟨b, o, hA, hb, hc⟩⟩, fun x hx => by
    obtain ⟨k, hk⟩ := List.mem_iff_getElem?.1 hx
    obtain ⟨_, _, cs, _, _, his, _⟩ := h.2 k x hk
    obtain ⟨_, h2⟩ : cs = opC x ∧ _ := his
    exact h2⟩
theorem rdGn_of {w : World} {B n : Nat} {A : Option Addr} {l : List Gon} (h : RdL w B A n l) : RdGn w B A n l ∧ FitG l :=
  ⟨⟨h.1, fun k x hx => by
    obtain ⟨b, o, cs, hA, hb, his, hc⟩ := h.2 k x hx
    obtain ⟨rfl, _⟩ : cs = goC x ∧ _ := his
    exact ⟨b, o, hA, hb, hc⟩⟩, fun x hx => by
    obtain ⟨k, hk⟩ := List.mem_iff_getElem?.1 hx
    obtain ⟨_, _, cs, _, _, his, _⟩ := h.2 k x hk
    obtain ⟨_, h2⟩ : cs = goC x ∧ _ := his
    exact h2⟩
theorem opens_op : Opens Tryz.prog 51 Opn := by
  intro H enc w fuel cs d pl h hl hz
  obtain ⟨n, hat⟩ := opens_fields Tryz.underlying51 (by kernel_rfl) h hz hl
  obtain ⟨u0, d0, p0, c0, t0, z0⟩ := hat 0 _ rfl
  obtain ⟨u1, d1, p1, c1, t1, z1⟩ := hat 1 _ rfl
  obtain ⟨x0, rfl, h0⟩ := opens_int Tryz.underlying3 H enc w n u0 d0 p0 t0 z0
  obtain ⟨x1, rfl, h1⟩ := opens_int Tryz.underlying3 H enc w n u1 d1 p1 t1 z1
  match cs, hl with
  | [_, _], _ =>
    simp only [List.getElem?_cons_zero, List.getElem?_cons_succ, Option.some.injEq] at c0 c1
    exact ⟨⟨x0, x1⟩, by rw [c0, c1]; rfl, h0, h1⟩
theorem opens_gon : Opens Tryz.prog 54 Gon := by
  intro H enc w fuel cs d pl h hl hz
  obtain ⟨n, hat⟩ := opens_fields Tryz.underlying54 (by kernel_rfl) h hz hl
  obtain ⟨u0, d0, p0, c0, t0, z0⟩ := hat 0 _ rfl
  obtain ⟨u1, d1, p1, c1, t1, z1⟩ := hat 1 _ rfl
  obtain ⟨u2, d2, p2, c2, t2, z2⟩ := hat 2 _ rfl
  obtain ⟨u3, d3, p3, c3, t3, z3⟩ := hat 3 _ rfl
  obtain ⟨x0, rfl, h0⟩ := opens_int Tryz.underlying3 H enc w n u0 d0 p0 t0 z0
  obtain ⟨x1, rfl, h1⟩ := opens_int Tryz.underlying3 H enc w n u1 d1 p1 t1 z1
  obtain ⟨x2, rfl, h2⟩ := opens_int Tryz.underlying3 H enc w n u2 d2 p2 t2 z2
  obtain ⟨x3, rfl, h3⟩ := opens_int Tryz.underlying3 H enc w n u3 d3 p3 t3 z3
  match cs, hl with
  | [_, _, _, _], _ =>
    simp only [List.getElem?_cons_zero, List.getElem?_cons_succ, Option.some.injEq] at c0 c1 c2 c3
    exact ⟨⟨x0, x1, x2, x3⟩, by rw [c0, c1, c2, c3]; rfl, h0, h1, h2, h3⟩
theorem opens_ops : Opens1 Tryz.prog 22 (List Opn) := opens_slice Tryz.underlying22 (by kernel_rfl) (of_decide_eq_true (by kernel_rfl)) opens_op
theorem opens_gons : Opens1 Tryz.prog 23 (List Gon) := opens_slice Tryz.underlying23 (by kernel_rfl) (of_decide_eq_true (by kernel_rfl)) opens_gon
theorem three_cells {a b c : Value} {l : List Value} (h : l.length = 3) (h0 : l[0]? = some a) (h1 : l[1]? = some b) (h2 : l[2]? = some c) : l = [a, b, c] := by
  match l, h with
  | [_, _, _], _ =>
    simp only [List.getElem?_cons_zero, List.getElem?_cons_succ, Option.some.injEq] at h0 h1 h2
    rw [h0, h1, h2]
structure RdT (w : World) (A : Option Addr) (n : Nat) (A2 : Option Addr) (n2 : Nat) (A3 : Option Addr) (n3 : Nat) (t : Tx) : Prop where
  op : RdOp w w.heap.size A n t.op
  gone : RdGn w w.heap.size A2 n2 t.gone
  done : RdGn w w.heap.size A3 n3 t.done
structure FitT (t : Tx) : Prop where
  op : FitO t.op
  gone : FitG t.gone
  done : FitG t.done
theorem RdT.below {w w' : World} {A : Option Addr} {n : Nat} {A2 : Option Addr} {n2 : Nat} {A3 : Option Addr} {n3 : Nat} {t : Tx} (h : RdT w A n A2 n2 A3 n3 t) (hb : Below w.heap.size w w') : RdT w' A n A2 n2 A3 n3 t :=
  ⟨(RdF.below h.op hb (Nat.le_refl _)).more hb.size, (RdF.below h.gone hb (Nat.le_refl _)).more hb.size, (RdF.below h.done hb (Nat.le_refl _)).more hb.size⟩
section
variable {H : Type} {enc : TypeId × Value → H} {W : World} {base : Nat} {v : Value} {d : DataW H} {p : List MemPlace}
set_option maxRecDepth 100000 in
theorem open_gons (hv : Value.okWide Tryz.prog W .any base 23 v) (h : DataW.Trod enc Tryz.prog W 0 (fun _ => true) true 23 v d p) (hz : ∀ z ∈ DataW.weights Tryz.prog 23 d, z ≤ reachBytes) :
    ∃ (A : Option Addr) (n c : Nat) (l : List Gon), v = .slice A n c ∧ n ≤ c ∧ c ≤ reach ∧ RdGn W W.heap.size A n l ∧ FitG l := by
  obtain ⟨A, n, c, rfl⟩ := okWide_slice Tryz.underlying23 hv
  obtain ⟨fuel, hf⟩ := h
  obtain ⟨l, A', n', c', e, hc, hr, hR⟩ := opens_gons H enc W fuel _ d p hf hz
  exact ⟨A', n', c', l, e, hc, hr, (rdGn_of hR).1, (rdGn_of hR).2⟩
set_option maxRecDepth 100000 in
theorem open_tx (hv : Value.okWide Tryz.prog W .any base 25 v) (h : DataW.Trod enc Tryz.prog W 0 (fun _ => true) true 25 v d p) (hz : ∀ z ∈ DataW.weights Tryz.prog 25 d, z ≤ reachBytes) :
    ∃ (A : Option Addr) (n c : Nat) (A2 : Option Addr) (n2 c2 : Nat) (A3 : Option Addr) (n3 c3 : Nat) (t : Tx), v = .agg #[.slice A n c, .slice A2 n2 c2, .slice A3 n3 c3] ∧ (n ≤ c ∧ c ≤ reach) ∧ (n2 ≤ c2 ∧ c2 ≤ reach) ∧ (n3 ≤ c3 ∧ c3 ≤ reach) ∧ RdT W A n A2 n2 A3 n3 t ∧ FitT t := by
  obtain ⟨cs, rfl, hsz⟩ := okWide_struct Tryz.underlying25 hv
  obtain ⟨fuel, hf⟩ := h
  have h3 : Tryz.prog.cellsOf 25 = 3 := by kernel_rfl
  obtain ⟨n, hat⟩ := opens_fields Tryz.underlying25 (by kernel_rfl) hf hz (by show cs.toList.length = 3; rw [Array.length_toList, hsz, h3])
  obtain ⟨u0, d0, p0, c0, t0, z0⟩ := hat 0 _ rfl
  obtain ⟨u1, d1, p1, c1, t1, z1⟩ := hat 1 _ rfl
  obtain ⟨u2, d2, p2, c2, t2, z2⟩ := hat 2 _ rfl
  obtain ⟨l0, A0, n0, k0, rfl, a0, b0, r0⟩ := opens_ops H enc W n u0 d0 p0 t0 z0
  obtain ⟨l1, A1, n1, k1, rfl, a1, b1, r1⟩ := opens_gons H enc W n u1 d1 p1 t1 z1
  obtain ⟨l2, A2, n2, k2, rfl, a2, b2, r2⟩ := opens_gons H enc W n u2 d2 p2 t2 z2
  refine ⟨A0, n0, k0, A1, n1, k1, A2, n2, k2, ⟨l0, l1, l2⟩, ?_, ⟨a0, b0⟩, ⟨a1, b1⟩, ⟨a2, b2⟩, ⟨(rdOp_of r0).1, (rdGn_of r1).1, (rdGn_of r2).1⟩, ⟨(rdOp_of r0).2, (rdGn_of r1).2, (rdGn_of r2).2⟩⟩
  congr 1
  exact Array.toList_inj.1 (three_cells (by rw [Array.length_toList, hsz, h3]) c0 c1 c2)
end
end Go.Proofs.YtlfbagkonckffaaGreat.Txn

/- A range over a function whose rounds may know of what they are handed: with each element the iterator says what it has done to the world since the last round, and what holds of the element there; and a round leaves alone what the iterator has laid since. Nothing of the program. -/
namespace Go.Proofs.YtlfbagkonckffaaGreat.RngQ
open Go.RowKit

structure KeptQ (K : Nat → Prop) (m : Nat) (A B : World) : Prop where
  bel : Below 0 A B
  same : ∀ g, g < A.heap.size → (K g ∨ m ≤ g) → B.heap[g]? = A.heap[g]?
section
variable {K : Nat → Prop} {m n : Nat} {A B C : World}
theorem KeptQ.refl (K : Nat → Prop) (m : Nat) (A : World) : KeptQ K m A A := ⟨Below.refl _ _, fun _ _ _ => rfl⟩
theorem KeptQ.trans (h : KeptQ K m A B) (k : KeptQ K m B C) : KeptQ K m A C := ⟨h.bel.trans k.bel, fun g hg hk => (k.same g (Nat.lt_of_lt_of_le hg h.bel.size) hk).trans (h.same g hg hk)⟩
theorem KeptQ.drew (h : KeptQ K m A B) : KeptQ K m A B.drew := ⟨h.bel.drew, h.same⟩
theorem KeptQ.alloc (h : KeptQ K m A B) (o : Obj) : KeptQ K m A (B.alloc o) :=
  h.trans ⟨(Below.refl _ _).alloc (Nat.zero_le _) _, fun _g hg _ => Below.heap_alloc _ _ _ hg⟩
theorem KeptQ.set (h : KeptQ K m A B) {p : Addr} (hK : ¬ K p.block) (hm : p.block < m) (u : Value) : KeptQ K m A (B.setCell p u) :=
  h.trans ⟨(Below.refl _ _).setCell (Nat.zero_le _) _, fun g _ hk => Below.heap_setCell _ _ _ _ (by rintro rfl; rcases hk with hk | hk; exact hK hk; omega)⟩
theorem KeptQ.grown (h : KeptQ K m A B) {row : Option Nat} (hg : B.grownBy C row) (hr : ∀ k, row = some k → ¬ K k ∧ k < m) : KeptQ K m A C :=
  h.trans ⟨⟨hg.os, hg.tape, hg.output, hg.size, fun k hk => (by omega)⟩, fun g hgs hk => hg.block g hgs fun e => by obtain ⟨h1, h2⟩ := hr g e.symm; rcases hk with hk | hk; exact h1 hk; omega⟩
theorem KeptQ.below (h : KeptQ K m A B) (hb : Below B.heap.size B C) : KeptQ K m A C := h.trans ⟨hb.mono (Nat.zero_le _), fun g hg _ => hb.block g hg⟩
theorem KeptQ.out (h : KeptQ K m A B) (hK : ∀ g, g < n → K g) (hn : n ≤ A.heap.size) : Below n A B := ⟨h.bel.os, h.bel.tape, h.bel.output, h.bel.size, fun g hg => h.same g (by omega) (.inl (hK g hg))⟩
theorem KeptQ.cell (h : KeptQ K m A B) {p : Addr} (hp : p.block < A.heap.size) (hk : K p.block ∨ m ≤ p.block) : B.cell? p = A.cell? p := World.cell?_of_block (h.same _ hp hk)
theorem KeptQ.frozen (h : KeptQ K m A B) {p : Addr} (hp : p.block < A.heap.size) (hk : K p.block ∨ m ≤ p.block) : B.frozen? p = A.frozen? p := World.frozen?_of_block (h.same _ hp hk)
end

section
variable {α : Type} {F : Fence} {n : Nat} {P : Program}
def SeqQ (F : Fence) (n : Nat) (P : Program) (g : Nat) (lb : Array Value) (encs : α → Array Value) (K : Nat → Prop) (Q : List α → α → World → World → Prop) (S : List α → Prop) (w : World) : Prop :=
  ∀ (l : Nat) (J Jx : List α → World → Prop) (W : World), Below w.heap.size w W → AbidesFrom W.heap.size J → AbidesFrom W.heap.size Jx →
    (∀ pre x W0 W1, J pre W0 → Below W0.heap.size W0 W1 → Q pre x W0 W1 → YieldAt F (n - 1) P l (encs x) W1 fun e W2 => (e = .returned (.bool true) ∧ J (pre ++ [x]) W2 ∧ KeptQ K W0.heap.size W1 W2) ∨ (e = .returned (.bool false) ∧ Jx (pre ++ [x]) W2)) →
    J [] W → CallsIn F n P g (#[.func (.yield l) #[] #[]] ++ lb) W fun e W2 => (∃ v, e = .returned v) ∧ ((∃ xs, S xs ∧ J xs W2) ∨ ∃ pre, Jx pre W2)

def PostQ (B : Nat) (K : Nat → Prop) (m : Nat) (I : List α → World → Prop) (Ix : Code → List α → World → Prop) (xs : List α) (W : World) : Exit → Act → World → Prop
  | .normal, _, X => KeepsFrom B W X ∧ KeptQ K m W X ∧ I xs X
  | .ret, _, X => KeepsFrom B W X ∧ Ix .ret xs X
  | .exit id, _, X => KeepsFrom B W X ∧ Ix (.exit id) xs X
  | .goto t, _, X => KeepsFrom B W X ∧ Ix (.goto t) xs X
  | .panic _, _, _ => False
  | .outgrown, _, _ => False

structure Book (l D : Nat) (r : Loop) (W : World) : Prop where
  rcd : W.heap[l]? = some (.loop r)
  dfr : W.heap[D]? = some (.deferred (some []))
section
variable {l D B : Nat} {r : Loop} {W X : World} {row : Option Nat}
theorem Book.lt (h : Book l D r W) : l < W.heap.size := (Array.getElem?_eq_some_iff.1 h.rcd).1
theorem Book.grown (h : Book l D r W) (hg : W.grownBy X row) (hrow : ∀ k, row = some k → ∃ o : Obj, W.heap[k]? = some o ∧ o.isWalk = true) : Book l D r X :=
  ⟨(grownBy_keeps hg hrow h.rcd rfl).trans h.rcd, (grownBy_keeps hg hrow h.dfr rfl).trans h.dfr⟩
theorem Book.turn (h : Book l D r W) (hne : D ≠ l) (s : Loop) : Book l D s (W.putObj l (.loop s)) := ⟨World.putObj_heap_same h.lt, (World.putObj_heap_other hne).trans h.dfr⟩
theorem Book.keep (h : Book l D r W) (hk : KeepsFrom B W X) (hl : B ≤ l) (hD : B ≤ D) : Book l D r X := ⟨hk.same _ _ hl h.rcd rfl, hk.same _ _ hD h.dfr rfl⟩
theorem Book.below (h : Book l D r W) (hb : Below W.heap.size W X) : Book l D r X := ⟨(hb.block l h.lt).trans h.rcd, (hb.block D (Array.getElem?_eq_some_iff.1 h.dfr).1).trans h.dfr⟩
end

theorem wpIn_rangeQ {g : Operand} {ps : Array Tmp} {assign body : Code} {T : Exit → Act → World → Prop} {a : Act} {w w0 : World} {gf : Nat} {lb : Array Value} {encs : α → Array Value} {K : Nat → Prop} {Q : List α → α → World → World → Prop} {S : List α → Prop}
    (hro : F.round = none) (h1 : 1 ≤ n) (hg : a.eval g = .func (.func gf) #[] lb) (hF : F.fn gf) (eg : ∀ args w, (callFunc gf args).run P w = .ok (.enter gf args) w)
    (hseq : SeqQ F (n - 1) P gf lb encs K Q S w0) (hK : ∀ k, K k → k < w.heap.size) (hb0 : Below w0.heap.size w0 w) (hps : ∀ x, (encs x).size = ps.size)
    (I : List α → World → Prop) (Ix : Code → List α → World → Prop) (hI : OwnFrom w.heap.size I) (hIx : ∀ c, OwnFrom w.heap.size (Ix c)) (h0 : I [] w)
    (Ax : List α → α → World → Act → World → Prop) (hAx : ∀ pre x W0 a', OwnFrom w.heap.size fun (_ : Unit) W => Ax pre x W0 a' W)
    (hassign : ∀ (l : Nat) (pre : List α) (x : α) (W0 W : World) (G : Act → World → Prop), w.heap.size ≤ W0.heap.size → I pre W0 → Below W0.heap.size W0 W → Q pre x W0 W → (∀ a' W', KeepsFrom w.heap.size W W' → KeptQ K W0.heap.size W W' → Ax pre x W0 a' W' → G a' W') →
      assign.wpIn (F.inRound l) (n - 1 - 1) P (Exit.then G (fun _ _ _ => False)) { tmps := (ps.zip (encs x)).foldl (fun t (p, v) => t.setIfInBounds p v) a.tmps, defers := [] } W)
    (hbody : ∀ (l : Nat) (pre : List α) (x : α) (W0 : World) (a' : Act) (W : World), Ax pre x W0 a' W → body.wpIn (F.inRound l) (n - 1 - 1) P (PostQ w.heap.size K W0.heap.size I Ix (pre ++ [x]) W) a' W)
    (hdone : ∀ (D : Nat) (xs : List α) (W : World), w.heap.size ≤ D → S xs → I xs W → W.heap[D]? = some (.deferred (some [])) → T .normal { a with defers := { target := .collected D, args := #[] } :: a.defers } W)
    (hstop : ∀ (D : Nat) (c : Code) (pre : List α) (W : World), w.heap.size ≤ D → Ix c pre W → W.heap[D]? = some (.deferred (some [])) → c.wpIn F n P T { a with defers := { target := .collected D, args := #[] } :: a.defers } W) :
    (Code.rangeFunc g ps assign body).wpIn F n P T a w := by
  refine wpIn_rangeFunc fun fn hfn => ?_
  rw [hro]
  obtain ⟨D, hD⟩ : ∃ D, D = w.heap.size := ⟨_, rfl⟩
  obtain ⟨l, hl⟩ : ∃ l, l = w.heap.size + 1 := ⟨_, rfl⟩
  have hDl : D ≠ l := by omega
  have hKl : ¬ K l := fun h => by have := hK l h; omega
  obtain ⟨R, hR⟩ : ∃ R : LoopState → Option Code → Loop, R = fun st pe => { state := st, pending := pe, fn, tmps := a.tmps, params := ps, assign, body, defers := D } := ⟨_, rfl⟩
  obtain ⟨W1, hW1⟩ : ∃ W1, W1 = (w.alloc (.deferred (some []))).alloc (.loop (R .ready none)) := ⟨_, rfl⟩
  have hB1 : Below w.heap.size w W1 := by rw [hW1]; exact ((Below.refl _ w).alloc (Nat.le_refl _) _).alloc (by simp) _
  have hs1 : W1.heap.size = w.heap.size + 2 := by rw [hW1]; simp
  have hbook : Book l D (R .ready none) W1 := by
    rw [hW1]
    refine ⟨?_, ?_⟩
    · have h := World.alloc_heap_new (w.alloc (.deferred (some []))) (.loop (R .ready none))
      rw [World.size_alloc] at h
      rw [hl]; exact h
    · rw [hD]; exact (Below.heap_alloc _ _ _ (by simp)).trans (World.alloc_heap_new w _)
  have hturn : ∀ {ys : List α} {A : World} {r : Loop} {U : List α → World → Prop} (st : LoopState) (pe : Option Code), OwnFrom w.heap.size U → U ys A → Book l D r A → U ys (A.putObj l (.loop (R st pe))) := fun st pe hU hk hb => hU.putObj _ hk (by omega) hb.rcd rfl
  have hkp : ∀ {m : Nat} {A X : World} {r : Loop} (st : LoopState) (pe : Option Code), KeptQ K m A X → Book l D r X → l < m → KeptQ K m A (X.putObj l (.loop (R st pe))) := fun st pe hk _ hm => hk.grown (grownBy_putObj' _ l _) fun k e => by cases e; exact ⟨hKl, hm⟩
  refine ⟨l, [{ target := .collected D, args := #[] }], W1, { target := .fn (.func gf) lb, args := #[.func (.yield l) #[] #[]] }, W1, gf, #[.func (.yield l) #[] #[]] ++ lb, W1, ?_, ?_, ?_, ?_, fun _ => h1, ?_⟩
  · rw [hW1, hR, hl, hD]; exact run_enterLoop_outer _ _ _ _ _
  · simp only [resolve, hg]
    simp [go_sem]
  · intro f' hf'; simp [Target.leads] at hf'; subst hf'; exact hF
  · simp [invoke, go_sem, eg]
  have hwalk : ∀ {A B : World} {row : Option Nat}, (∀ k, row = some k → W1.heap.size ≤ k ∧ ∃ o : Obj, A.heap[k]? = some o ∧ o.isWalk = true) → ∀ k, row = some k → w.heap.size ≤ k ∧ ∃ o : Obj, A.heap[k]? = some o ∧ o.isCells = false := fun h k e => by
    obtain ⟨h2, o, h3, h4⟩ := h k e
    exact ⟨by omega, o, h3, Obj.not_cells_of_walk h4⟩
  refine (hseq l (fun ys W => I ys W ∧ Book l D (R .ready none) W) (fun ys W => ∃ c, Ix c ys W ∧ Book l D (R .done (some c)) W) W1 (hb0.trans (hB1.mono hb0.size)) ?_ ?_ ?_ ⟨?_, hbook⟩).mono ?_
  · exact fun s A B row hs hg' hr => ⟨hI s A B row hs.1 hg' (hwalk (B := B) hr), hs.2.grown hg' fun k e => (hr k e).2⟩
  · rintro s A B row ⟨c, hc, hb⟩ hg' hr
    exact ⟨c, hIx c s A B row hc hg' (hwalk (B := B) hr), hb.grown hg' fun k e => (hr k e).2⟩
  · rintro ys x W9 W0 ⟨hi, hb⟩ hbel hq
    have hl9 := hb.lt
    replace hb := hb.below hbel
    have hy := run_yield (P := P) (args := encs x) hb.rcd (by rw [hR]; exact hps x)
    rw [hR] at hy
    refine ⟨fn, _, assign, body, hy, roundIn_of_wpIn hfn (hassign _ ys x W9 W0 _ (by omega) hi hbel hq ?_)⟩
    clear hy
    intro a' W hkf hkp0 hax
    replace hb := hb.keep hkf (by omega) (by omega)
    refine ⟨_, run_beginRound hb.rcd (by rw [hR]), ?_⟩
    have hbz : { R .ready none with state := .busy } = R .busy none := by rw [hR]
    rw [hbz]
    have hb2 := hb.turn hDl (R .busy none)
    refine wpIn_mono (hbody _ ys x W9 a' _ ((hAx ys x W9 a').putObj (s := ()) _ hax (by omega) hb.rcd rfl)) ?_
    have hend : ∀ (jump : Option Code) {W3 : World}, KeepsFrom w.heap.size (W.putObj l (.loop (R .busy none))) W3 →
        (Instr.endRound l jump).run P W3 = .ok (.bool jump.isNone) (W3.putObj l (.loop (R (if jump.isNone then .ready else .done) jump))) ∧ Book l D (R .busy none) W3 := fun jump W3 hk => by
      have hb3 := hb2.keep hk (by omega) (by omega)
      have h := run_endRound (P := P) jump hb3.rcd
      rw [hR] at h ⊢
      exact ⟨h, by rw [hR] at hb3; exact hb3⟩
    have hout : ∀ (c : Code) {W3 : World}, KeepsFrom w.heap.size (W.putObj l (.loop (R .busy none))) W3 → Ix c (ys ++ [x]) W3 → ∃ v W4, (Instr.endRound l (some c)).run P W3 = .ok v W4 ∧
        ((Ending.returned v = .returned (.bool true) ∧ (I (ys ++ [x]) W4 ∧ Book l D (R .ready none) W4) ∧ KeptQ K W9.heap.size W0 W4) ∨ (Ending.returned v = .returned (.bool false) ∧ ∃ c, Ix c (ys ++ [x]) W4 ∧ Book l D (R .done (some c)) W4)) := fun c W3 hk hi3 => by
      obtain ⟨hr, hb3⟩ := hend (some c) hk
      exact ⟨_, _, hr, .inr ⟨rfl, c, hturn .done (some c) (hIx c) hi3 hb3, hb3.turn hDl _⟩⟩
    rintro e a3 W3 hp
    cases e with
    | normal =>
      obtain ⟨hk3, hkp3, hi3⟩ := hp
      obtain ⟨hr, hb3⟩ := hend none hk3
      exact ⟨_, _, hr, .inl ⟨rfl, ⟨hturn .ready none hI hi3 hb3, hb3.turn hDl _⟩, hkp .ready none ((hkp .busy none hkp0 hb hl9).trans hkp3) hb3 hl9⟩⟩
    | ret => exact hout .ret hp.1 hp.2
    | exit id => exact hout (.exit id) hp.1 hp.2
    | goto t => exact hout (.goto t) hp.1 hp.2
    | panic ch => exact hp.elim
    | outgrown => exact hp.elim
  · rw [hW1]; exact hI.alloc _ (hI.alloc _ h0)
  · rintro e W2 ⟨⟨v, rfl⟩, ⟨xs, hS, hi, hb⟩ | ⟨ys, c, hi, hb⟩⟩
    · have h := run_endLoop (P := P) hb.rcd (by rw [hR]; simp)
      rw [hR] at h
      refine ⟨none, _, h, hdone D xs _ (by omega) hS ?_ ((World.putObj_heap_other hDl).trans hb.dfr)⟩
      exact hI.putObj _ hi (by omega) hb.rcd rfl
    · have h := run_endLoop (P := P) hb.rcd (by rw [hR]; simp)
      rw [hR] at h
      refine ⟨some c, _, h, hstop D c ys _ (by omega) ?_ ((World.putObj_heap_other hDl).trans hb.dfr)⟩
      exact (hIx c).putObj _ hi (by omega) hb.rcd rfl
end
end Go.Proofs.YtlfbagkonckffaaGreat.RngQ

/- The landed txns.each: words for its iterators, which go over rows of any structs, one row behind the other. Nothing of the program. -/
namespace Go.Proofs.YtlfbagkonckffaaGreat.Txn
open Go.RowKit Oct RowF RngQ Lay

structure LX (α : Type) where
  A : Option Addr
  n : Nat
  c : Nat
  l : List α
def catL {α : Type} (Ls : List (LX α)) : List α := Ls.flatMap (·.l)
theorem catL_step {α : Type} {Ls : List (LX α)} {i : Nat} {x : LX α} (h : Ls[i]? = some x) : catL (Ls.take (i + 1)) = catL (Ls.take i) ++ x.l ∧ catL Ls = catL (Ls.take i) ++ (x.l ++ catL (Ls.drop (i + 1))) := by
  obtain ⟨h1, rfl⟩ := List.getElem?_eq_some_iff.1 h
  unfold catL
  refine ⟨by rw [List.take_succ_eq_append_getElem h1, List.flatMap_append]; simp, ?_⟩
  have h2 : Ls = Ls.take i ++ (Ls[i] :: Ls.drop (i + 1)) := by rw [List.getElem_cons_drop, List.take_append_drop]
  conv => lhs; rw [h2]
  rw [List.flatMap_append, List.flatMap_cons]
def EaQ {α : Type} (L : List α) (pre : List α) (x : α) (_W0 _W : World) : Prop := ∃ rest, L = pre ++ x :: rest
def EaB (n₀ bx br : Nat) (g : Nat) : Prop := g < n₀ ∨ g = bx ∨ g = br
structure EaK (n₀ bx br : Nat) (W X : World) : Prop where
  bel : Below n₀ W X
  sx : bx < X.heap.size
  sr : br < X.heap.size
  cx : ∀ j, X.cell? ⟨bx, j, none⟩ = W.cell? ⟨bx, j, none⟩
  cr : ∀ j, X.cell? ⟨br, j, none⟩ = W.cell? ⟨br, j, none⟩
section
variable {n₀ bx br : Nat} {W X Y : World}
theorem EaK.refl (hx : bx < W.heap.size) (hr : br < W.heap.size) : EaK n₀ bx br W W := ⟨Below.refl _ _, hx, hr, fun _ => rfl, fun _ => rfl⟩
theorem EaK.alloc (h : EaK n₀ bx br W X) (hn : n₀ ≤ X.heap.size) (o : Obj) : EaK n₀ bx br W (X.alloc o) :=
  ⟨h.bel.trans ((Below.refl _ _).alloc hn o), by have := h.sx; simp; omega, by have := h.sr; simp; omega, fun j => (World.cell?_alloc_lt X o ⟨bx, j, none⟩ h.sx).trans (h.cx j), fun j => (World.cell?_alloc_lt X o ⟨br, j, none⟩ h.sr).trans (h.cr j)⟩
theorem EaK.kept {m : Nat} (h : EaK n₀ bx br W X) (hn : n₀ ≤ X.heap.size) (hk : KeptQ (EaB n₀ bx br) m X Y) : EaK n₀ bx br W Y :=
  ⟨h.bel.trans (hk.out (fun _g hg => .inl hg) hn), Nat.lt_of_lt_of_le h.sx hk.bel.size, Nat.lt_of_lt_of_le h.sr hk.bel.size, fun j => (hk.cell (p := ⟨bx, j, none⟩) h.sx (.inl (.inr (.inl rfl)))).trans (h.cx j), fun j => (hk.cell (p := ⟨br, j, none⟩) h.sr (.inl (.inr (.inr rfl)))).trans (h.cr j)⟩
end
def eaRel {α : Type} (n₀ bx br : Nat) (Ls : List (LX α)) (J : List α → World → Prop) (W : World) (iv : Value) (wr : World) : Prop :=
  ∃ i : Nat, iv = .int .i64 (i : Int) ∧ i ≤ Ls.length ∧ J (catL (Ls.take i)) wr ∧ EaK n₀ bx br W wr
def ebRel {α : Type} (n₀ bx br : Nat) (pre : List α) (x : LX α) (J : List α → World → Prop) (W : World) (jv : Value) (wr : World) : Prop :=
  ∃ j : Nat, jv = .int .i64 (j : Int) ∧ j ≤ x.n ∧ J (pre ++ x.l.take j) wr ∧ EaK n₀ bx br W wr
structure EaR {α : Type} (f : α → List Value) (k n₀ bx br m c : Nat) (Ls : List (LX α)) (w : World) : Prop where
  len : Ls.length = m
  few : m ≤ 1000
  rd : ∀ x ∈ Ls, RdF f k w n₀ x.A x.n x.l ∧ x.n ≤ reach
  n0 : n₀ ≤ w.heap.size
  lx : bx < w.heap.size
  lr : br < w.heap.size
  bx : w.cell? ⟨bx, 0, none⟩ = some (.slice (some ⟨br, 0, none⟩) m c)
  row : ∀ i x, Ls[i]? = some x → w.cell? ⟨br, i, none⟩ = some (.slice x.A x.n x.c)
theorem EaR.below {α : Type} {f : α → List Value} {k n₀ bx br m c : Nat} {Ls : List (LX α)} {w W : World} (h : EaR f k n₀ bx br m c Ls w) (hb : Below w.heap.size w W) : EaR f k n₀ bx br m c Ls W :=
  ⟨h.len, h.few, fun x hx => ⟨(h.rd x hx).1.below hb h.n0, (h.rd x hx).2⟩, Nat.le_trans h.n0 hb.size, Nat.lt_of_lt_of_le h.lx hb.size, Nat.lt_of_lt_of_le h.lr hb.size, (hb.cell (p := ⟨bx, 0, none⟩) h.lx).trans h.bx, fun i x hi => (hb.cell (p := ⟨br, i, none⟩) h.lr).trans (h.row i x hi)⟩
theorem EaR.at {α : Type} {f : α → List Value} {k n₀ bx br m c : Nat} {Ls : List (LX α)} {w wr : World} (h : EaR f k n₀ bx br m c Ls w) (hk : EaK n₀ bx br w wr) {i : Nat} (hi : i < m) : ∃ x, Ls[i]? = some x ∧ wr.cell? ⟨br, i, none⟩ = some (.slice x.A x.n x.c) ∧ RdF f k wr n₀ x.A x.n x.l ∧ x.n ≤ reach := by
  have hl := h.len
  have e : Ls[i]? = some (Ls[i]'(by omega)) := List.getElem?_eq_getElem (by omega)
  have hr := h.rd _ (List.getElem_mem (l := Ls) (n := i) (by omega))
  exact ⟨_, e, (hk.cr i).trans (h.row i _ e), hr.1.below hk.bel (Nat.le_refl _), hr.2⟩
end Go.Proofs.YtlfbagkonckffaaGreat.Txn
