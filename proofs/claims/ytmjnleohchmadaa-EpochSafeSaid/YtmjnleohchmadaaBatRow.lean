/- Joined: BatRow. -/
import Derived.Test.YtmjnleohchmadaaBatC
import Derived.Test.YtmjnleohchmadaaJRow
import Derived.TacticsInMore
import Derived.OwnWalkIn
/- Rows of batches: one that reads as a list of batches, and one of the call's own whose records lie anywhere; one batch more, as a run. -/
namespace Go.Proofs.Ytmjnleohchmadaa.Bat
open Go.RowKit Go.Proofs.Ytmjnleohchmadaa.Oct Go.Proofs.Ytmjnleohchmadaa.Rec Go.Proofs.Ytmjnleohchmadaa.Crc Go.Proofs.Ytmjnleohchmadaa.Lay Go.Proofs.Ytmjnleohchmadaa.RowF Go.Proofs.Ytmjnleohchmadaa.RowL

def RdT (w : World) (B : Nat) (A : Option Addr) (n : Nat) (l : List Bt) : Prop :=
  l.length = n ∧ ∀ k x, l[k]? = some x → ∃ b o A' n' c', A = some ⟨b, o, none⟩ ∧ b < B ∧ n' ≤ c' ∧ n' ≤ 1099511627776 ∧ RdR w B A' n' x.recs ∧ Fits x ∧ ∀ i u, (batC (x, A', n', c'))[i]? = some u → w.cell? ⟨b, o + k * 10 + i, none⟩ = some u
section
variable {w w' : World} {B B' n : Nat} {A : Option Addr} {l : List Bt}
theorem RdT.len (h : RdT w B A n l) : l.length = n := h.1
theorem RdT.nil : RdT w B A 0 [] := ⟨rfl, by simp⟩
theorem RdT.keep (h : RdT w B A n l) (hk : ∀ p : Addr, p.block < B → w'.cell? p = w.cell? p) : RdT w' B A n l :=
  ⟨h.1, fun k x hx => by
    obtain ⟨b, o, A', n', c', h1, h2, h3, h4, h5, h6, h7⟩ := h.2 k x hx
    exact ⟨b, o, A', n', c', h1, h2, h3, h4, h5.keep hk, h6, fun i u hu => (hk _ h2).trans (h7 i u hu)⟩⟩
theorem RdT.more (h : RdT w B A n l) (hB : B ≤ B') : RdT w B' A n l :=
  ⟨h.1, fun k x hx => by
    obtain ⟨b, o, A', n', c', h1, h2, h3, h4, h5, h6, h7⟩ := h.2 k x hx
    exact ⟨b, o, A', n', c', h1, by omega, h3, h4, h5.more hB, h6, h7⟩⟩
theorem RdT.below (h : RdT w B A n l) (hb : Below B' w w') (hB : B ≤ B') : RdT w' B A n l := h.keep fun _ hp => hb.cell (by omega)
theorem RdT.at {k : Nat} (h : RdT w B A n l) (hk : k < n) : ∃ b o x A' n' c', A = some ⟨b, o, none⟩ ∧ b < B ∧ l[k]? = some x ∧ n' ≤ c' ∧ n' ≤ 1099511627776 ∧ RdR w B A' n' x.recs ∧ Fits x ∧ ∀ i u, (batC (x, A', n', c'))[i]? = some u → w.cell? ⟨b, o + k * 10 + i, none⟩ = some u := by
  have hl : k < l.length := by have := h.1; omega
  obtain ⟨b, o, A', n', c', h1, h2, h3⟩ := h.2 k l[k] (List.getElem?_eq_getElem hl)
  exact ⟨b, o, l[k], A', n', c', h1, h2, List.getElem?_eq_getElem hl, h3⟩
theorem RdT.take {m : Nat} (h : RdT w B A n l) (hm : m ≤ n) : RdT w B A m (l.take m) := by
  refine ⟨by have := h.1; rw [List.length_take]; omega, fun k x hx => h.2 k x ?_⟩
  rw [List.getElem?_take] at hx
  split at hx
  · exact hx
  · cases hx
end
abbrev BX := Bt × Option Addr × Nat × Nat
def LeadT (w : World) (P : Nat → Prop) (row : Option Nat) (x : BX) : Prop :=
  RdR w w.heap.size x.2.1 x.2.2.1 x.1.recs ∧ x.2.2.1 ≤ x.2.2.2 ∧ x.2.2.1 ≤ 1099511627776 ∧ Fits x.1 ∧ ∀ a, x.2.1 = some a → 0 < x.2.2.1 → P a.block ∧ some a.block ≠ row
def OwnT (w : World) (e : TypeId) (P : Nat → Prop) (B : Nat) (v : Value) (n : Nat) (L : List Bt) : Prop :=
  ∃ hs : List BX, OwnF batC 10 w e B v n hs ∧ hs.map (·.1) = L ∧ ∀ x ∈ hs, LeadT w P v.ownBlock x
section
variable {w w' : World} {P P' : Nat → Prop} {B B' n c : Nat} {A : Option Addr} {L M : List Bt} {e : TypeId} {v : Value} {row row' : Option Nat} {x : BX}
theorem LeadT.keep (k : LeadT w P row x) (hs : w.heap.size ≤ w'.heap.size) (hk : ∀ b o, b < w.heap.size → P b → some b ≠ row → w'.cell? ⟨b, o, none⟩ = w.cell? ⟨b, o, none⟩) : LeadT w' P row x := by
  obtain ⟨⟨k0, k1⟩, k2, k3, k4, k5⟩ := k
  refine ⟨⟨k0, fun i r hr => ?_⟩, k2, k3, k4, k5⟩
  obtain ⟨b, o, hA, hb, h0, h1, h2, h3, h4⟩ := k1 i r hr
  have hn : 0 < x.2.2.1 := by have := (List.getElem?_eq_some_iff.1 hr).1; omega
  obtain ⟨p1, p2⟩ := k5 _ hA hn
  have hc : ∀ j, w'.cell? ⟨b, j, none⟩ = w.cell? ⟨b, j, none⟩ := fun j => hk b j hb p1 p2
  exact ⟨b, o, hA, by omega, (hc _).trans h0, (hc _).trans h1, (hc _).trans h2, (hc _).trans h3, (hc _).trans h4⟩
theorem LeadT.grown (k : LeadT w P row x) (hg : w.grownBy w' row) : LeadT w' P row x :=
  k.keep hg.size fun b _ hb _ h2 => World.cell?_of_block (hg.block b hb h2)
theorem LeadT.below (k : LeadT w P row x) (hb : Below w.heap.size w w') : LeadT w' P row x := k.keep hb.size fun _ _ h1 _ _ => hb.cell h1
theorem LeadT.atRow (k : LeadT w P row x) (hr : row' = row ∨ row' = some w.heap.size) : ∀ a, x.2.1 = some a → 0 < x.2.2.1 → P a.block ∧ some a.block ≠ row' := by
  obtain ⟨k1, k2, k3, k4, k5⟩ := k
  refine fun a ha hn => ⟨(k5 a ha hn).1, ?_⟩
  rcases hr with rfl | rfl
  · exact (k5 a ha hn).2
  · intro he
    have hl : 0 < x.1.recs.length := by have := k1.1; omega
    obtain ⟨b, o, hA, hb, _⟩ := k1.2 0 x.1.recs[0] (List.getElem?_eq_getElem hl)
    rw [ha] at hA
    obtain rfl := Option.some.inj hA
    injection he with he
    simp only at he
    omega
theorem LeadT.step (k : LeadT w P row x) (hg : w.grownBy w' row) (hr : row' = row ∨ row' = some w.heap.size) : LeadT w' P row' x := by
  obtain ⟨k1, k2, k3, k4, _⟩ := k.grown hg
  exact ⟨k1, k2, k3, k4, k.atRow hr⟩
theorem OwnT.len (k : OwnT w e P B v n L) : L.length = n := by
  obtain ⟨hs, h1, h2, _⟩ := k
  rw [← h2, List.length_map]
  exact h1.len batS
theorem OwnT.cap (k : OwnT w e P B (.slice A n c) n L) : n ≤ c := by
  obtain ⟨hs, h1, _⟩ := k
  exact h1.cap
theorem OwnT.nil : OwnT w e P B (.slice none 0 0) 0 [] := ⟨[], OwnF.nil, rfl, by simp⟩
theorem OwnT.below (k : OwnT w e P B v n L) (hb : Below w.heap.size w w') : OwnT w' e P B v n L := by
  obtain ⟨hs, h1, h2, h3⟩ := k
  exact ⟨hs, h1.below hb, h2, fun x hx => (h3 x hx).below hb⟩
theorem OwnT.more (k : OwnT w e P B v n L) (hB : B' ≤ B) (hl : ∀ b, P b → P' b) : OwnT w e P' B' v n L := by
  obtain ⟨hs, h1, h2, h3⟩ := k
  exact ⟨hs, h1.more hB, h2, fun x hx => ⟨(h3 x hx).1, (h3 x hx).2.1, (h3 x hx).2.2.1, (h3 x hx).2.2.2.1, fun a ha hn => ⟨hl _ ((h3 x hx).2.2.2.2 a ha hn).1, ((h3 x hx).2.2.2.2 a ha hn).2⟩⟩⟩
theorem OwnT.drew (k : OwnT w e P B v n L) : OwnT w.drew e P B v n L := k
theorem OwnT.drewN (k : OwnT w e P B v n L) (i : Nat) : OwnT (w.drewN i) e P B v n L := k
theorem OwnT.alloc (k : OwnT w e P B v n L) (o : Obj) : OwnT (w.alloc o) e P B v n L := k.below ((Below.refl _ _).alloc (Nat.le_refl _) o)
theorem OwnT.lt (k : OwnT w e P B v n L) : ∀ g, v.ownBlock = some g → B ≤ g ∧ g < w.heap.size := by
  obtain ⟨hs, h1, _⟩ := k
  exact World.ownsRow.lt h1
theorem OwnT.rd (k : OwnT w e P B (.slice A n c) n L) : RdT w w.heap.size A n L := by
  obtain ⟨hs, h1, rfl, h3⟩ := k
  refine ⟨by rw [List.length_map]; exact h1.len batS, fun i l hl => ?_⟩
  rw [List.getElem?_map] at hl
  cases hx : hs[i]? with
  | none => rw [hx] at hl; cases hl
  | some x =>
    rw [hx] at hl
    obtain rfl : x.1 = l := Option.some.inj hl
    obtain ⟨b, o, hA, hb, hcell⟩ := (h1.rd batS).2 i _ hx
    obtain ⟨k1, k2, k3, k4, _⟩ := h3 x (List.mem_of_getElem? hx)
    exact ⟨b, o, x.2.1, x.2.2.1, x.2.2.2, hA, hb, k2, k3, k1, k4, hcell⟩
theorem OwnT.set (h : OwnT w e (fun b => B' ≤ b) B v n L) {p : Addr} (hB : p.block < B) (hB' : p.block < B') (u : Value) : OwnT (w.setCell p u) e (fun b => B' ≤ b) B v n L := by
  obtain ⟨hs, h1, h2, h3⟩ := h
  refine ⟨hs, OwnF.setBelow h1 hB u, h2, fun x hx => (h3 x hx).keep (by simp) fun b o hb hP _ => ?_⟩
  exact World.cell?_setCell_other _ _ _ _ (by intro he; rw [he] at hB'; simp only at hB'; omega)
theorem OwnT.cells (h : OwnT w e P B v n L) : ∀ (j : Nat) (o : Obj), v.ownBlock = some j → w.heap[j]? = some o → o.isCells = true := by
  obtain ⟨hs, h1, _⟩ := h
  intro j o hj ho
  rcases h1.2 with ⟨rfl, _⟩ | ⟨g, cap, cur, rfl, _, hgb, _⟩
  · cases hj
  · obtain rfl : g = j := by simpa [Value.ownBlock] using hj
    rw [hgb] at ho
    cases ho
    rfl
end
section
variable {P : Program} {ops : Array Oper} {rest : List Oper} {o : Oper} {a : Act} {Q : Exit → Act → World → Prop} {w w' : World} {vs vx v : Value}
theorem wpList_app_run (hgd : o.guard = none) (s x : Operand) (t : TypeId) (ho : o.op = .call { callee := .builtin .append, args := #[s, x], argTypes := #[t, t] }) (hs : a.eval s = vs) (hx : a.eval x = vx)
    (hrun : (Builtin.append_ #[t, t] o.type #[vs, vx]).run P w = .ok v w') (h : wpList P ops Q rest (a.put o.dst v) w') : wpList P ops Q (o :: rest) a w := by
  refine wpList_plain hgd fun K hK => ?_
  unfold Oper.wp execOp
  simp only [ho, resolve, invoke, builtin, Sem.run_bind, Sem.run_pure, Result.andThen_ok, List.map_toArray, List.map_cons, List.map_nil, hs, hx, hrun]
  exact hK _ _ h
end
end Go.Proofs.Ytmjnleohchmadaa.Bat
