/- Joined: BatRecF, BatC, BatRow, TxnLm, SqsW9. -/
import Derived.Test.YtlfbagkonckffaaGreatJ07
import Derived.Test.YtlfbagkonckffaaGreatJ14
import Derived.Test.YtlfbagkonckffaaGreatJ10
import Derived.TacticsInMore
import Derived.OwnWalkIn
import Derived.Test.YtlfbagkonckffaaGreatJ05
import Derived.Test.YtlfbagkonckffaaGreatJ09
import Derived.Test.YtlfbagkonckffaaGreatJ12
import Derived.Test.YtlfbagkonckffaaGreatJ01
/- Records as rows of structs. -/
namespace Go.Proofs.YtlfbagkonckffaaGreat.Bat
open Go.RowKit Oct Rec Crc Lay RowF

def recC (r : Rc) : List Value := [.int .i64 r.off, .string r.key, .string r.val, .bool r.dead, .int .i64 r.stamp]
theorem recS : Shape recC 5 := ⟨fun _ => rfl, fun x u hu => by
  simp only [recC, List.mem_cons, List.not_mem_nil, or_false] at hu
  rcases hu with rfl | rfl | rfl | rfl | rfl <;> rfl, by decide⟩
theorem rdF_of {w : World} {B n : Nat} {A : Option Addr} {l : List Rc} (h : RdR w B A n l) : RdF recC 5 w B A n l :=
  ⟨h.1, fun k x hk => by
    obtain ⟨b, o, hA, hb, a0, a1, a2, a3, a4⟩ := h.2 k x hk
    refine ⟨b, o, hA, hb, fun i v hv => ?_⟩
    match i, hv with
    | 0, hv => simp only [recC, List.getElem?_cons_zero, Option.some.injEq] at hv; subst hv; exact a0
    | 1, hv => simp only [recC, List.getElem?_cons_zero, List.getElem?_cons_succ, Option.some.injEq] at hv; subst hv; exact a1
    | 2, hv => simp only [recC, List.getElem?_cons_zero, List.getElem?_cons_succ, Option.some.injEq] at hv; subst hv; exact a2
    | 3, hv => simp only [recC, List.getElem?_cons_zero, List.getElem?_cons_succ, Option.some.injEq] at hv; subst hv; exact a3
    | 4, hv => simp only [recC, List.getElem?_cons_zero, List.getElem?_cons_succ, Option.some.injEq] at hv; subst hv; exact a4
    | i + 5, hv => simp [recC] at hv⟩
theorem rdR_of {w : World} {B n : Nat} {A : Option Addr} {l : List Rc} (h : RdF recC 5 w B A n l) : RdR w B A n l :=
  ⟨h.1, fun k x hk => by
    obtain ⟨b, o, hA, hb, hc⟩ := h.2 k x hk
    exact ⟨b, o, hA, hb, at_of_row rfl hc⟩⟩
theorem recInfo : Info Tryz.prog 61 5 56 := by
  have h : (Tryz.prog.info? 61).map (fun i => (i.zero, i.size, i.bytes)) = some (some (.agg #[.int .i64 0, .string ⟨#[]⟩, .string ⟨#[]⟩, .bool false, .int .i64 0]), 5, 56) := by kernel_rfl
  obtain ⟨i, hi, hz, hs, hb⟩ := info_parts h
  exact ⟨i, _, hi, hz, hs, hb, rfl⟩

section
variable {u0 u1 u2 u3 u4 u5 u6 u7 u8 u9 : Value}
end
end Go.Proofs.YtlfbagkonckffaaGreat.Bat

/- A batch's cells, in a row of structs. -/
namespace Go.Proofs.YtlfbagkonckffaaGreat.Bat
open Go.RowKit Oct Rec Crc Lay RowF

def batC (x : Bt × Option Addr × Nat × Nat) : List Value := [.int .i64 x.1.base, .int .i64 x.1.last, .int .i64 x.1.frm, .int .i64 x.1.epoch, .int .i64 x.1.pid, .int .i64 x.1.gen, .int .i64 x.1.seq, .bool x.1.txn, .int .i64 x.1.ctl, .slice x.2.1 x.2.2.1 x.2.2.2]
theorem batS : Shape batC 10 := ⟨fun _ => rfl, fun x u hu => by
  simp only [batC, List.mem_cons, List.not_mem_nil, or_false] at hu
  rcases hu with rfl | rfl | rfl | rfl | rfl | rfl | rfl | rfl | rfl | rfl <;> rfl, by decide⟩
theorem batInfo : Info Tryz.prog 28 10 96 := by
  have h : (Tryz.prog.info? 28).map (fun i => (i.zero, i.size, i.bytes)) = some (some (.agg #[.int .i64 0, .int .i64 0, .int .i64 0, .int .i64 0, .int .i64 0, .int .i64 0, .int .i64 0, .bool false, .int .i64 0, .slice none 0 0]), 10, 96) := by kernel_rfl
  obtain ⟨i, hi, hz, hs, hb⟩ := info_parts h
  exact ⟨i, _, hi, hz, hs, hb, rfl⟩
end Go.Proofs.YtlfbagkonckffaaGreat.Bat

/- Rows of batches: one that reads as a list of batches, and one of the call's own whose records lie anywhere; one batch more, as a run. -/
namespace Go.Proofs.YtlfbagkonckffaaGreat.Bat
open Go.RowKit Oct Rec Crc Lay RowF RowL

def RdT (w : World) (B : Nat) (A : Option Addr) (n : Nat) (l : List Bt) : Prop :=
  l.length = n ∧ ∀ k x, l[k]? = some x → ∃ b o A' n' c', A = some ⟨b, o, none⟩ ∧ b < B ∧ n' ≤ c' ∧ n' ≤ 1099511627776 ∧ RdR w B A' n' x.recs ∧ Fits x ∧ ∀ i u, (batC (x, A', n', c'))[i]? = some u → w.cell? ⟨b, o + k * 10 + i, none⟩ = some u
section
variable {w w' : World} {B B' n : Nat} {A : Option Addr} {l : List Bt}
theorem RdT.len (h : RdT w B A n l) : l.length = n := h.1
theorem RdT.nil : RdT w B A 0 [] := ⟨rfl, by simp⟩
theorem RdT.keep (h : RdT w B A n l) (hk : ∀ p : Addr, p.block < B → w'.cell? p = w.cell? p) : RdT w' B A n l :=
  ⟨h.1, fun k x hx => by
    obtain ⟨b, o, A', n', c', h1, h2, h3, h4, h5, h6, h7⟩ := h.2 k x hx
    exact ⟨b, o, A', n', c', h1, h2, h3, h4, h5.keep hk, h6, fun i u hu => (hk _ h2).trans (h7 i u hu)⟩⟩
theorem RdT.more (h : RdT w B A n l) (hB : B ≤ B') : RdT w B' A n l :=
  ⟨h.1, fun k x hx => by
    obtain ⟨b, o, A', n', c', h1, h2, h3, h4, h5, h6, h7⟩ := h.2 k x hx
    exact ⟨b, o, A', n', c', h1, by omega, h3, h4, h5.more hB, h6, h7⟩⟩
theorem RdT.below (h : RdT w B A n l) (hb : Below B' w w') (hB : B ≤ B') : RdT w' B A n l := h.keep fun _ hp => hb.cell (by omega)
theorem RdT.at {k : Nat} (h : RdT w B A n l) (hk : k < n) : ∃ b o x A' n' c', A = some ⟨b, o, none⟩ ∧ b < B ∧ l[k]? = some x ∧ n' ≤ c' ∧ n' ≤ 1099511627776 ∧ RdR w B A' n' x.recs ∧ Fits x ∧ ∀ i u, (batC (x, A', n', c'))[i]? = some u → w.cell? ⟨b, o + k * 10 + i, none⟩ = some u := by
  have hl : k < l.length := by have := h.1; omega
  obtain ⟨b, o, A', n', c', h1, h2, h3⟩ := h.2 k l[k] (List.getElem?_eq_getElem hl)
  exact ⟨b, o, l[k], A', n', c', h1, h2, List.getElem?_eq_getElem hl, h3⟩
theorem RdT.take {m : Nat} (h : RdT w B A n l) (hm : m ≤ n) : RdT w B A m (l.take m) := by
  refine ⟨by have := h.1; rw [List.length_take]; omega, fun k x hx => h.2 k x ?_⟩
  rw [List.getElem?_take] at hx
  split at hx
  · exact hx
  · cases hx
end
abbrev BX := Bt × Option Addr × Nat × Nat
def LeadT (w : World) (P : Nat → Prop) (row : Option Nat) (x : BX) : Prop :=
  RdR w w.heap.size x.2.1 x.2.2.1 x.1.recs ∧ x.2.2.1 ≤ x.2.2.2 ∧ x.2.2.1 ≤ 1099511627776 ∧ Fits x.1 ∧ ∀ a, x.2.1 = some a → 0 < x.2.2.1 → P a.block ∧ some a.block ≠ row
def OwnT (w : World) (e : TypeId) (P : Nat → Prop) (B : Nat) (v : Value) (n : Nat) (L : List Bt) : Prop :=
  ∃ hs : List BX, OwnF batC 10 w e B v n hs ∧ hs.map (·.1) = L ∧ ∀ x ∈ hs, LeadT w P v.ownBlock x
section
variable {w w' : World} {P P' : Nat → Prop} {B B' n c : Nat} {A : Option Addr} {L M : List Bt} {e : TypeId} {v : Value} {row row' : Option Nat} {x : BX}
theorem LeadT.keep (k : LeadT w P row x) (hs : w.heap.size ≤ w'.heap.size) (hk : ∀ b o, b < w.heap.size → P b → some b ≠ row → w'.cell? ⟨b, o, none⟩ = w.cell? ⟨b, o, none⟩) : LeadT w' P row x := by
  obtain ⟨⟨k0, k1⟩, k2, k3, k4, k5⟩ := k
  refine ⟨⟨k0, fun i r hr => ?_⟩, k2, k3, k4, k5⟩
  obtain ⟨b, o, hA, hb, h0, h1, h2, h3, h4⟩ := k1 i r hr
  have hn : 0 < x.2.2.1 := by have := (List.getElem?_eq_some_iff.1 hr).1; omega
  obtain ⟨p1, p2⟩ := k5 _ hA hn
  have hc : ∀ j, w'.cell? ⟨b, j, none⟩ = w.cell? ⟨b, j, none⟩ := fun j => hk b j hb p1 p2
  exact ⟨b, o, hA, by omega, (hc _).trans h0, (hc _).trans h1, (hc _).trans h2, (hc _).trans h3, (hc _).trans h4⟩
theorem LeadT.grown (k : LeadT w P row x) (hg : w.grownBy w' row) : LeadT w' P row x :=
  k.keep hg.size fun b _ hb _ h2 => World.cell?_of_block (hg.block b hb h2)
theorem LeadT.below (k : LeadT w P row x) (hb : Below w.heap.size w w') : LeadT w' P row x := k.keep hb.size fun _ _ h1 _ _ => hb.cell h1
theorem LeadT.atRow (k : LeadT w P row x) (hr : row' = row ∨ row' = some w.heap.size) : ∀ a, x.2.1 = some a → 0 < x.2.2.1 → P a.block ∧ some a.block ≠ row' := by
  obtain ⟨k1, k2, k3, k4, k5⟩ := k
  refine fun a ha hn => ⟨(k5 a ha hn).1, ?_⟩
  rcases hr with rfl | rfl
  · exact (k5 a ha hn).2
  · intro he
    have hl : 0 < x.1.recs.length := by have := k1.1; omega
    obtain ⟨b, o, hA, hb, _⟩ := k1.2 0 x.1.recs[0] (List.getElem?_eq_getElem hl)
    rw [ha] at hA
    obtain rfl := Option.some.inj hA
    injection he with he
    simp only at he
    omega
theorem LeadT.step (k : LeadT w P row x) (hg : w.grownBy w' row) (hr : row' = row ∨ row' = some w.heap.size) : LeadT w' P row' x := by
  obtain ⟨k1, k2, k3, k4, _⟩ := k.grown hg
  exact ⟨k1, k2, k3, k4, k.atRow hr⟩
theorem OwnT.len (k : OwnT w e P B v n L) : L.length = n := by
  obtain ⟨hs, h1, h2, _⟩ := k
  rw [← h2, List.length_map]
  exact h1.len batS
theorem OwnT.cap (k : OwnT w e P B (.slice A n c) n L) : n ≤ c := by
  obtain ⟨hs, h1, _⟩ := k
  exact h1.cap
theorem OwnT.nil : OwnT w e P B (.slice none 0 0) 0 [] := ⟨[], OwnF.nil, rfl, by simp⟩
theorem OwnT.below (k : OwnT w e P B v n L) (hb : Below w.heap.size w w') : OwnT w' e P B v n L := by
  obtain ⟨hs, h1, h2, h3⟩ := k
  exact ⟨hs, h1.below hb, h2, fun x hx => (h3 x hx).below hb⟩
theorem OwnT.more (k : OwnT w e P B v n L) (hB : B' ≤ B) (hl : ∀ b, P b → P' b) : OwnT w e P' B' v n L := by
  obtain ⟨hs, h1, h2, h3⟩ := k
  exact ⟨hs, h1.more hB, h2, fun x hx => ⟨(h3 x hx).1, (h3 x hx).2.1, (h3 x hx).2.2.1, (h3 x hx).2.2.2.1, fun a ha hn => ⟨hl _ ((h3 x hx).2.2.2.2 a ha hn).1, ((h3 x hx).2.2.2.2 a ha hn).2⟩⟩⟩
theorem OwnT.drew (k : OwnT w e P B v n L) : OwnT w.drew e P B v n L := k
theorem OwnT.drewN (k : OwnT w e P B v n L) (i : Nat) : OwnT (w.drewN i) e P B v n L := k
theorem OwnT.alloc (k : OwnT w e P B v n L) (o : Obj) : OwnT (w.alloc o) e P B v n L := k.below ((Below.refl _ _).alloc (Nat.le_refl _) o)
theorem OwnT.lt (k : OwnT w e P B v n L) : ∀ g, v.ownBlock = some g → B ≤ g ∧ g < w.heap.size := by
  obtain ⟨hs, h1, _⟩ := k
  exact World.ownsRow.lt h1
theorem OwnT.rd (k : OwnT w e P B (.slice A n c) n L) : RdT w w.heap.size A n L := by
  obtain ⟨hs, h1, rfl, h3⟩ := k
  refine ⟨by rw [List.length_map]; exact h1.len batS, fun i l hl => ?_⟩
  rw [List.getElem?_map] at hl
  cases hx : hs[i]? with
  | none => rw [hx] at hl; cases hl
  | some x =>
    rw [hx] at hl
    obtain rfl : x.1 = l := Option.some.inj hl
    obtain ⟨b, o, hA, hb, hcell⟩ := (h1.rd batS).2 i _ hx
    obtain ⟨k1, k2, k3, k4, _⟩ := h3 x (List.mem_of_getElem? hx)
    exact ⟨b, o, x.2.1, x.2.2.1, x.2.2.2, hA, hb, k2, k3, k1, k4, hcell⟩
theorem OwnT.set (h : OwnT w e (fun b => B' ≤ b) B v n L) {p : Addr} (hB : p.block < B) (hB' : p.block < B') (u : Value) : OwnT (w.setCell p u) e (fun b => B' ≤ b) B v n L := by
  obtain ⟨hs, h1, h2, h3⟩ := h
  refine ⟨hs, OwnF.setBelow h1 hB u, h2, fun x hx => (h3 x hx).keep (by simp) fun b o hb hP _ => ?_⟩
  exact World.cell?_setCell_other _ _ _ _ (by intro he; rw [he] at hB'; simp only at hB'; omega)
theorem OwnT.cells (h : OwnT w e P B v n L) : ∀ (j : Nat) (o : Obj), v.ownBlock = some j → w.heap[j]? = some o → o.isCells = true := by
  obtain ⟨hs, h1, _⟩ := h
  intro j o hj ho
  rcases h1.2 with ⟨rfl, _⟩ | ⟨g, cap, cur, rfl, _, hgb, _⟩
  · cases hj
  · obtain rfl : g = j := by simpa [Value.ownBlock] using hj
    rw [hgb] at ho
    cases ho
    rfl
theorem lead_of (hr : RdR w B' A n x.1.recs) (hB : B' ≤ w.heap.size) (hx : x.2 = (A, n, c)) (hc : n ≤ c) (hn : n ≤ 1099511627776) (hf : Fits x.1) (hP : ∀ a, A = some a → 0 < n → P a.block ∧ some a.block ≠ row) : LeadT w P row x := by
  obtain ⟨b, A', n', c'⟩ := x
  obtain ⟨rfl, rfl, rfl⟩ : A' = A ∧ n' = n ∧ c' = c := by simpa using hx
  exact ⟨hr.more hB, hc, hn, hf, hP⟩
end
theorem run_appT {P : Program} {R : Nat → Prop} {w : World} (base : Nat) (t ty e : TypeId) (ht : P.underlying t = some (.slice e)) (hI : Info P e 10 96) {v : Value} {n : Nat} {L : List Bt} (hown : OwnT w e R base v n L)
    {x : BX} (hl : LeadT w R v.ownBlock x) (hb : n < 1099511627776) (hbase : base ≤ w.heap.size) :
    ∃ A' c' w', (Builtin.append_ #[t, t] ty #[v, .slice (some ⟨w.heap.size, 0, none⟩) 1 1]).run P (w.alloc (.cells (batC x).toArray e)) = .ok (.slice A' (n + 1) c') w' ∧ OwnT w' e R base (.slice A' (n + 1) c') (n + 1) (L ++ [x.1]) ∧ (w.alloc (.cells (batC x).toArray e)).grownBy w' v.ownBlock ∧
      ((Value.slice A' (n + 1) c').ownBlock = v.ownBlock ∨ (Value.slice A' (n + 1) c').ownBlock = some (w.heap.size + 1)) ∧ Below base w w' := by
  have hbel : Below w.heap.size w (w.alloc (.cells (batC x).toArray e)) := (Below.refl _ _).alloc (Nat.le_refl _) _
  obtain ⟨hs0, h1, h2, h3⟩ := hown.below hbel
  obtain ⟨A', c', w', k1, k2, k3, k4⟩ := run_appFG (P := P) (w.alloc (.cells (batC x).toArray e)) batS 96 base t ty e ht hI v n hs0 h1 _ (some ⟨w.heap.size, 0, none⟩) 1 1 [x] (rdF_new w batS e x) (by omega) (by omega) (Nat.le_trans hbase hbel.size)
  refine ⟨A', c', w', k1, ⟨hs0 ++ [x], k2, by rw [List.map_append, h2]; rfl, fun y hy => ?_⟩, k3, by simpa using k4, ((Below.refl base w).alloc hbase _).trans (below_of_grown (w.alloc (.cells (batC x).toArray e)) h1 k3 (Nat.le_trans hbase hbel.size))⟩
  rcases List.mem_append.1 hy with h9 | h9
  · exact (h3 y h9).step k3 k4
  · obtain rfl : y = x := by simpa using h9
    exact (hl.below hbel).step k3 k4
section
variable {P : Program} {ops : Array Oper} {rest : List Oper} {o : Oper} {a : Act} {Q : Exit → Act → World → Prop} {w w' : World} {vs vx v : Value}
theorem wpList_app_run (hgd : o.guard = none) (s x : Operand) (t : TypeId) (ho : o.op = .call { callee := .builtin .append, args := #[s, x], argTypes := #[t, t] }) (hs : a.eval s = vs) (hx : a.eval x = vx)
    (hrun : (Builtin.append_ #[t, t] o.type #[vs, vx]).run P w = .ok v w') (h : wpList P ops Q rest (a.put o.dst v) w') : wpList P ops Q (o :: rest) a w := by
  refine wpList_plain hgd fun K hK => ?_
  unfold Oper.wp execOp
  simp only [ho, resolve, invoke, builtin, Sem.run_bind, Sem.run_pure, Result.andThen_ok, List.map_toArray, List.map_cons, List.map_nil, hs, hx, hrun]
  exact hK _ _ h
theorem wpListIn_app_run {F : Fence} {n : Nat} (hgd : o.guard = none) (s x : Operand) (t : TypeId) (ho : o.op = .call { callee := .builtin .append, args := #[s, x], argTypes := #[t, t] }) (hs : a.eval s = vs) (hx : a.eval x = vx)
    (hrun : (Builtin.append_ #[t, t] o.type #[vs, vx]).run P w = .ok v w') (h : wpListIn F n P ops Q rest (a.put o.dst v) w') : wpListIn F n P ops Q (o :: rest) a w := by
  refine wpListIn_plain hgd fun K hK => ?_
  unfold Oper.wpIn
  refine ⟨?_, ?_⟩
  · simp [Oper.about, ho, resolve, Target.leads, Sem.run_pure]
  · rw [Oper.semAt_plain F _ _ (by rw [ho]; intro c hc; cases hc)]
    simp [execOp, ho, resolve, invoke, builtin, hs, hx, hrun, Result.andThen]
    exact hK _ _ h
end
theorem rdT_of {w : World} {B n : Nat} {A : Option Addr} {l : List Bt} (h : RdL w B A n l) (hf : l.all fewT = true) : RdT w B A n l := by
  refine ⟨h.1, fun k x hx => ?_⟩
  obtain ⟨b, o, cs, hA, hb, his, hc⟩ := h.2 k x hx
  obtain ⟨A', n', c', rfl, h1, h2, h3, h4⟩ := his
  have hfx := List.all_eq_true.1 hf x (List.mem_of_getElem? hx)
  refine ⟨b, o, A', n', c', hA, hb, h2, ?_, RdL_recs h4, fits_of h1 (RdL_fit h4) hfx, hc⟩
  have := (fewT_iff hfx).1
  have h5 := h4.len
  omega
end Go.Proofs.YtlfbagkonckffaaGreat.Bat

/- The laws' data and end; the numbers of the chapter's example. -/
namespace Go.Proofs.YtlfbagkonckffaaGreat.Txn
open Go.RowKit Oct Rec RowF Lay Bat
open Epo (At0 belA)

def rcD (b : Int) : List Rc := [⟨b, ByteArray.empty, ⟨#[118]⟩, false, 0⟩]
def dB (b p : Int) : Bt := ⟨b, b, b, 0, p, 0, 0, true, 0, rcD b⟩
def eB (b p c : Int) : Bt := ⟨b, b, b, 0, p, 0, 0, true, c, []⟩
set_option maxRecDepth 100000 in
theorem data_is (b p : Int) (w : World) :
    Calls Tryz.prog 37 #[.int .i64 b, .int .i64 p] w fun e w' => ∃ A, e = .returned (.agg #[.int .i64 b, .int .i64 b, .int .i64 b, .int .i64 0, .int .i64 p, .int .i64 0, .int .i64 0, .bool true, .int .i64 0, .slice A 1 1]) ∧ RdR w' w'.heap.size A 1 (rcD b) ∧ Below w.heap.size w w' := by
  go_enter Tryz.func37, Tryz.ntmps37
  go_wp2
  have hb1 := belA w (.cells #[.int .i64 b, .int .i64 b, .int .i64 b, .int .i64 0, .int .i64 p, .int .i64 0, .int .i64 0, .bool true, .int .i64 0, .slice (some ⟨w.heap.size + 1, 0, none⟩) 1 1] 28)
  have hw1 : (w.alloc (.cells #[.int .i64 b, .int .i64 b, .int .i64 b, .int .i64 0, .int .i64 p, .int .i64 0, .int .i64 0, .bool true, .int .i64 0, .slice (some ⟨w.heap.size + 1, 0, none⟩) 1 1] 28)).heap.size = w.heap.size + 1 := by simp
  refine bodyPost_ret (v := .agg #[.int .i64 b, .int .i64 b, .int .i64 b, .int .i64 0, .int .i64 p, .int .i64 0, .int .i64 0, .bool true, .int .i64 0, .slice (some ⟨w.heap.size + 1, 0, none⟩) 1 1]) (by simp [results, Tryz.results37, go_sem]) rfl ?_
  refine ⟨some ⟨w.heap.size + 1, 0, none⟩, rfl, ?_, bel_trans hb1 (belA _ _)⟩
  generalize (w.alloc (.cells #[.int .i64 b, .int .i64 b, .int .i64 b, .int .i64 0, .int .i64 p, .int .i64 0, .int .i64 0, .bool true, .int .i64 0, .slice (some ⟨w.heap.size + 1, 0, none⟩) 1 1] 28)) = W at *
  rw [← hw1]
  have hat := At0.new W [.int .i64 b, .string ByteArray.empty, .string ⟨#[118]⟩, .bool false, .int .i64 0] 61
  refine rdR_of ⟨rfl, fun k x hx => ⟨W.heap.size, 0, rfl, by simp, fun i u hu => ?_⟩⟩
  match k, hx with
  | 0, hx =>
    obtain rfl : (⟨b, ByteArray.empty, ⟨#[118]⟩, false, 0⟩ : Rc) = x := Option.some.inj hx
    have hi : i < 5 := (List.getElem?_eq_some_iff.1 hu).1
    match i, hi, hu with
    | 0, _, hu => obtain rfl := Option.some.inj hu; exact hat.cell 0
    | 1, _, hu => obtain rfl := Option.some.inj hu; exact hat.cell 1
    | 2, _, hu => obtain rfl := Option.some.inj hu; exact hat.cell 2
    | 3, _, hu => obtain rfl := Option.some.inj hu; exact hat.cell 3
    | 4, _, hu => obtain rfl := Option.some.inj hu; exact hat.cell 4
set_option maxRecDepth 100000 in
theorem end_is (b p c : Int) (w : World) :
    Calls Tryz.prog 35 #[.int .i64 b, .int .i64 p, .int .i64 c] w fun e w' => e = .returned (.agg #[.int .i64 b, .int .i64 b, .int .i64 b, .int .i64 0, .int .i64 p, .int .i64 0, .int .i64 0, .bool true, .int .i64 c, .slice none 0 0]) ∧ Below w.heap.size w w' := by
  go_enter Tryz.func35, Tryz.ntmps35
  go_wp2
  have hb1 := belA w (.cells #[.int .i64 b, .int .i64 b, .int .i64 b, .int .i64 0, .int .i64 p, .int .i64 0, .int .i64 0, .bool true, .int .i64 c, .slice none 0 0] 28)
  refine bodyPost_ret (v := .agg #[.int .i64 b, .int .i64 b, .int .i64 b, .int .i64 0, .int .i64 p, .int .i64 0, .int .i64 0, .bool true, .int .i64 c, .slice none 0 0]) (by simp [results, Tryz.results35, go_sem]) rfl ?_
  exact ⟨rfl, hb1⟩
theorem d0_len : (body (dB 0 7)).length ≤ 100 := by
  unfold body dB hd tl rcD
  simp only [vs, rs, rb, tx]
  repeat rw [vb_small (by decide)]
  decide +kernel
theorem d0_ch : chB (dB 0 7) = 0 := by
  unfold chB
  rw [show Bat.form (dB 0 7) = true from by decide +kernel, byB_length, if_pos rfl, if_neg (by have := d0_len; omega)]
theorem d1_len : (body (dB 1 8)).length ≤ 100 := by
  unfold body dB hd tl rcD
  simp only [vs, rs, rb, tx]
  repeat rw [vb_small (by decide)]
  decide +kernel
theorem d1_ch : chB (dB 1 8) = 0 := by
  unfold chB
  rw [show Bat.form (dB 1 8) = true from by decide +kernel, byB_length, if_pos rfl, if_neg (by have := d1_len; omega)]
theorem d2_len : (body (dB 2 7)).length ≤ 100 := by
  unfold body dB hd tl rcD
  simp only [vs, rs, rb, tx]
  repeat rw [vb_small (by decide)]
  decide +kernel
theorem d2_ch : chB (dB 2 7) = 0 := by
  unfold chB
  rw [show Bat.form (dB 2 7) = true from by decide +kernel, byB_length, if_pos rfl, if_neg (by have := d2_len; omega)]
theorem e3_len : (body (eB 3 7 1)).length ≤ 100 := by
  unfold body eB hd tl
  simp only [vs]
  repeat rw [vb_small (by decide)]
  decide +kernel
theorem e3_ch : chB (eB 3 7 1) = 0 := by
  unfold chB
  rw [show Bat.form (eB 3 7 1) = true from by decide +kernel, byB_length, if_pos rfl, if_neg (by have := e3_len; omega)]
theorem e4_len : (body (eB 4 8 2)).length ≤ 100 := by
  unfold body eB hd tl
  simp only [vs]
  repeat rw [vb_small (by decide)]
  decide +kernel
theorem e4_ch : chB (eB 4 8 2) = 0 := by
  unfold chB
  rw [show Bat.form (eB 4 8 2) = true from by decide +kernel, byB_length, if_pos rfl, if_neg (by have := e4_len; omega)]
theorem dB_fits (b p : Int) (hb : I64 b) (hp : I64 p) : Fits (dB b p) := by
  refine ⟨?_, ?_, ?_, ?_, ?_, ?_, ?_, ?_, ?_⟩
  case refine_9 =>
    intro r hr
    obtain rfl : r = (⟨b, ByteArray.empty, ⟨#[118]⟩, false, 0⟩ : Rc) := by simpa [dB, rcD] using hr
    exact ⟨hb, by unfold I64; simp, by simp, by show ByteArray.size ⟨#[118]⟩ ≤ 1099511627776; decide⟩
  all_goals (unfold dB; first | exact hb | exact hp | (unfold I64; simp))
theorem eB_fits (b p c : Int) (hb : I64 b) (hp : I64 p) (hc : I64 c) : Fits (eB b p c) := by
  refine ⟨?_, ?_, ?_, ?_, ?_, ?_, ?_, ?_, ?_⟩
  case refine_9 => intro r hr; simp [eB] at hr
  all_goals (unfold eB; first | exact hb | exact hp | exact hc | (unfold I64; simp))
def exBs : List Bt := [dB 0 7, dB 1 8, dB 2 7, eB 3 7 1, eB 4 8 2]
def exT : Tx := ⟨[⟨8, 1⟩], [], [⟨7, 0, 0, 3⟩]⟩
def exU : Tx := ⟨[], [⟨8, 0, 1, 4⟩], [⟨7, 0, 0, 3⟩]⟩
theorem ex_of : ofT (exBs.take 4) = exT := by
  show onT (onT (onT (onT nilT (dB 0 7)) (dB 1 8)) (dB 2 7)) (eB 3 7 1) = exT
  rw [on_is (by decide) d0_ch (by decide +kernel), show stepT nilT (dB 0 7) = ⟨[⟨7, 0⟩], [], []⟩ from by rfl]
  rw [on_is (by decide +kernel) d1_ch (by decide +kernel), show stepT _ (dB 1 8) = ⟨[⟨7, 0⟩, ⟨8, 1⟩], [], []⟩ from by rfl]
  rw [on_is (by decide +kernel) d2_ch (by decide +kernel), show stepT _ (dB 2 7) = ⟨[⟨7, 0⟩, ⟨8, 1⟩], [], []⟩ from by rfl]
  rw [on_is (by decide +kernel) e3_ch (by decide +kernel)]
  rfl
theorem ex_put : putT exT (eB 4 8 2) = (exU, 0) := by
  rw [put_is (by decide +kernel) e4_ch (by decide +kernel)]
  rfl
theorem ex_no : putT exT (dB 0 7) = (nilT, 71) := by
  unfold putT
  rw [if_neg (by decide +kernel), if_neg (fun h => h d0_ch), if_pos (by decide +kernel)]
theorem ex_show : shwB exBs exU.gone 5 = [dB 0 7, dB 2 7] := by rfl
theorem ex_stb1 : stbT exT.op 4 = 1 := by decide +kernel
theorem ex_stb2 : stbT exU.op 5 = 5 := by decide +kernel
theorem ex_hid1 : hidG exU.gone 5 9 = [] := by rfl
theorem ex_hid2 : hidG exU.gone 4 9 = [⟨8, 0, 1, 4⟩] := by rfl
theorem ex_trm : trmT exU 4 = ⟨[], [⟨8, 0, 1, 4⟩], []⟩ := by rfl
theorem ex_ck1 : ceT exU = 0 := by decide +kernel
theorem ex_ck2 : ceT ⟨[⟨-1, 0⟩], [], []⟩ = 1 := by decide +kernel
end Go.Proofs.YtlfbagkonckffaaGreat.Txn

/- Words of the landed seqs that later layers use, too. Nothing of the program. -/
namespace Go.Proofs.YtlfbagkonckffaaGreat.Sqs
open Go.RowKit Oct
open Epo (At0 AtO belA)

theorem grown_bel {w w' : World} {r : Option Nat} (h : Below w.heap.size w w') : w.grownBy w' r := ⟨h.os, h.tape, h.output, h.size, fun i hi _ => h.block i hi⟩
theorem grown_then {a b c : World} {r r' : Option Nat} (h : a.grownBy b r) (k : b.grownBy c r') (hr : r' = r ∨ ∃ g, r' = some g ∧ a.heap.size ≤ g) : a.grownBy c r :=
  ⟨k.os.trans h.os, k.tape.trans h.tape, k.output.trans h.output, Nat.le_trans h.size k.size, fun i hi hne => (k.block i (Nat.lt_of_lt_of_le hi h.size) (by
    rcases hr with rfl | ⟨g, rfl, hg⟩
    · exact hne
    · intro e; injection e with e; omega)).trans (h.block i hi hne)⟩
theorem grown_set9 {w : World} {a : Addr} (u : Value) : w.grownBy (w.setCell a u) (some a.block) := ⟨rfl, rfl, rfl, by simp, fun i _ hi => by
  simp only [World.setCell, Array.getElem?_modify]
  rw [if_neg (fun e => hi (by rw [e]))]⟩
theorem at0_grown {w w' : World} {g : Nat} {cs : List Value} {e : TypeId} {r : Option Nat} (h : At0 w g cs e) (hg : w.grownBy w' r) (hr : some g ≠ r) : At0 w' g cs e := (hg.block g h.lt hr).trans h
theorem at0_set9 {W : World} {g : Nat} {e : TypeId} {cs : List Value} (h : At0 W g cs e) (j : Nat) (u : Value) : At0 (W.setCell ⟨g, j, none⟩ u) g (cs.set j u) e := by
  have h1 := heap_setCell_same W g j cs.toArray e u h
  unfold At0
  rw [h1]
  simp
end Go.Proofs.YtlfbagkonckffaaGreat.Sqs
