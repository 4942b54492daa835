/- Joined: RowK. -/
import Derived.Test.YtllebgadhhgckaaDoorJ03
import Derived.Test.YtllebgadhhgckaaDoorJ04
import Derived.TacticsInMore
import Derived.OwnWalkIn
/- Rows of structs that lead to rows of plain structs: one notion for all types. Nothing of the program. -/
namespace Go.Proofs.YtllebgadhhgckaaDoor.RowK
open Go.RowKit Oct RowF RowL

structure Two (α β : Type) where
  kids : α → List β
  enc : α × Option Addr × Nat × Nat → List Value
  sz : Nat
  sub : β → List Value
  isz : Nat
  most : Nat
  sh : Shape enc sz
  ish : Shape sub isz
theorem each_some {α γ : Type} (l : List α) (Q : Nat → α → γ → Prop) (h : ∀ k x, l[k]? = some x → ∃ y, Q k x y) : ∃ ys : List γ, ys.length = l.length ∧ ∀ k y, ys[k]? = some y → ∃ x, l[k]? = some x ∧ Q k x y := by
  induction l generalizing Q with
  | nil => exact ⟨[], rfl, by simp⟩
  | cons x l ih =>
    obtain ⟨y, hy⟩ := h 0 x rfl
    obtain ⟨ys, h1, h2⟩ := ih (fun k => Q (k + 1)) fun k z hz => h (k + 1) z hz
    refine ⟨y :: ys, by rw [List.length_cons, List.length_cons, h1], fun k z hz => ?_⟩
    cases k with
    | zero => obtain rfl : y = z := by simpa using hz
              exact ⟨x, rfl, hy⟩
    | succ k => exact h2 k z (by simpa using hz)
variable {α β : Type}
def RdK (T : Two α β) (w : World) (B : Nat) (A : Option Addr) (n : Nat) (l : List α) : Prop :=
  l.length = n ∧ ∀ k x, l[k]? = some x → ∃ b o A' n' c', A = some ⟨b, o, none⟩ ∧ b < B ∧ n' ≤ c' ∧ n' ≤ T.most ∧ RdF T.sub T.isz w B A' n' (T.kids x) ∧ ∀ i u, (T.enc (x, A', n', c'))[i]? = some u → w.cell? ⟨b, o + k * T.sz + i, none⟩ = some u
section
variable {T : Two α β} {w w' : World} {B B' n : Nat} {A : Option Addr} {l : List α}
theorem RdK.len (h : RdK T w B A n l) : l.length = n := h.1
theorem RdK.nil : RdK T w B A 0 [] := ⟨rfl, by simp⟩
theorem RdK.keep (h : RdK T w B A n l) (hk : ∀ p : Addr, p.block < B → w'.cell? p = w.cell? p) : RdK T w' B A n l :=
  ⟨h.1, fun k x hx => by
    obtain ⟨b, o, A', n', c', h1, h2, h3, h4, h5, h7⟩ := h.2 k x hx
    refine ⟨b, o, A', n', c', h1, h2, h3, h4, ⟨h5.1, fun i y hy => ?_⟩, fun i u hu => (hk _ h2).trans (h7 i u hu)⟩
    obtain ⟨b2, o2, e1, e2, e3⟩ := h5.2 i y hy
    exact ⟨b2, o2, e1, e2, fun j u hu => (hk _ e2).trans (e3 j u hu)⟩⟩
theorem RdK.more (h : RdK T w B A n l) (hB : B ≤ B') : RdK T w B' A n l :=
  ⟨h.1, fun k x hx => by
    obtain ⟨b, o, A', n', c', h1, h2, h3, h4, h5, h7⟩ := h.2 k x hx
    exact ⟨b, o, A', n', c', h1, by omega, h3, h4, h5.more hB, h7⟩⟩
theorem RdK.below (h : RdK T w B A n l) (hb : Below B' w w') (hB : B ≤ B') : RdK T w' B A n l := h.keep fun _ hp => hb.cell (by omega)
theorem rdkUp (h : RdK T w w.heap.size A n l) (hb : Below w.heap.size w w') : RdK T w' w'.heap.size A n l := (h.below hb (Nat.le_refl _)).more hb.size
theorem RdK.at {k : Nat} (h : RdK T w B A n l) (hk : k < n) : ∃ b o x A' n' c', A = some ⟨b, o, none⟩ ∧ b < B ∧ l[k]? = some x ∧ n' ≤ c' ∧ n' ≤ T.most ∧ RdF T.sub T.isz w B A' n' (T.kids x) ∧ ∀ i u, (T.enc (x, A', n', c'))[i]? = some u → w.cell? ⟨b, o + k * T.sz + i, none⟩ = some u := by
  have hl : k < l.length := by have := h.1; omega
  obtain ⟨b, o, A', n', c', h1, h2, h3⟩ := h.2 k l[k] (List.getElem?_eq_getElem hl)
  exact ⟨b, o, l[k], A', n', c', h1, h2, List.getElem?_eq_getElem hl, h3⟩
theorem RdK.isNil (h : RdK T w B none n l) : n = 0 ∧ l = [] := by
  cases l with
  | nil => exact ⟨h.1.symm, rfl⟩
  | cons x l => obtain ⟨b, o, A', n', c', h1, _⟩ := h.2 0 x rfl; cases h1
theorem RdK.take {m : Nat} (h : RdK T w B A n l) (hm : m ≤ n) : RdK T w B A m (l.take m) := by
  refine ⟨by have := h.1; rw [List.length_take]; omega, fun k x hx => h.2 k x ?_⟩
  rw [List.getElem?_take] at hx
  split at hx
  · exact hx
  · cases hx
theorem RdK.lift (h : RdK T w B A n l) : ∃ hs : List (α × Option Addr × Nat × Nat), RdF T.enc T.sz w B A n hs ∧ hs.map (·.1) = l ∧ ∀ x ∈ hs, x.2.2.1 ≤ x.2.2.2 ∧ x.2.2.1 ≤ T.most ∧ RdF T.sub T.isz w B x.2.1 x.2.2.1 (T.kids x.1) := by
  obtain ⟨hs, h1, h2⟩ := each_some l (fun k x (y : α × Option Addr × Nat × Nat) => y.1 = x ∧ (y.2.2.1 ≤ y.2.2.2 ∧ y.2.2.1 ≤ T.most ∧ RdF T.sub T.isz w B y.2.1 y.2.2.1 (T.kids y.1)) ∧ ∃ b o, A = some ⟨b, o, none⟩ ∧ b < B ∧ ∀ i u, (T.enc y)[i]? = some u → w.cell? ⟨b, o + k * T.sz + i, none⟩ = some u) fun k x hx => by
    obtain ⟨b, o, A', n', c', h1, h2, h3, h4, h5, h7⟩ := h.2 k x hx
    exact ⟨(x, A', n', c'), rfl, ⟨h3, h4, h5⟩, b, o, h1, h2, h7⟩
  refine ⟨hs, ⟨h1.trans h.1, fun k y hy => ?_⟩, ?_, fun y hy => ?_⟩
  · obtain ⟨x, _, _, _, b, o, e1, e2, e3⟩ := h2 k y hy
    exact ⟨b, o, e1, e2, e3⟩
  · refine List.ext_getElem? fun k => ?_
    rw [List.getElem?_map]
    cases hy : hs[k]? with
    | none =>
      have : l[k]? = none := by rw [List.getElem?_eq_none_iff] at hy ⊢; omega
      rw [this]; rfl
    | some y =>
      obtain ⟨x, hx, he, _⟩ := h2 k y hy
      rw [hx, ← he]; rfl
  · obtain ⟨k, hk⟩ := List.mem_iff_getElem?.1 hy
    obtain ⟨x, _, _, e, _⟩ := h2 k y hk
    exact e
end
abbrev KX (α : Type) := α × Option Addr × Nat × Nat
def LeadK (T : Two α β) (w : World) (P : Nat → Prop) (row : Option Nat) (x : KX α) : Prop :=
  RdF T.sub T.isz w w.heap.size x.2.1 x.2.2.1 (T.kids x.1) ∧ x.2.2.1 ≤ x.2.2.2 ∧ x.2.2.1 ≤ T.most ∧ ∀ a, x.2.1 = some a → 0 < x.2.2.1 → P a.block ∧ some a.block ≠ row
def OwnK (T : Two α β) (w : World) (e : TypeId) (P : Nat → Prop) (B : Nat) (v : Value) (n : Nat) (L : List α) : Prop :=
  ∃ hs : List (KX α), OwnF T.enc T.sz w e B v n hs ∧ hs.map (·.1) = L ∧ ∀ x ∈ hs, LeadK T w P v.ownBlock x
section
variable {T : Two α β} {w w' : World} {P P' : Nat → Prop} {B B' n c : Nat} {A : Option Addr} {L M : List α} {e : TypeId} {v : Value} {row row' : Option Nat} {x : KX α}
theorem LeadK.keep (k : LeadK T w P row x) (hs : w.heap.size ≤ w'.heap.size) (hk : ∀ b o, b < w.heap.size → P b → some b ≠ row → w'.cell? ⟨b, o, none⟩ = w.cell? ⟨b, o, none⟩) : LeadK T w' P row x := by
  obtain ⟨⟨k0, k1⟩, k2, k3, k5⟩ := k
  refine ⟨⟨k0, fun i r hr => ?_⟩, k2, k3, k5⟩
  obtain ⟨b, o, hA, hb, h0⟩ := k1 i r hr
  have hn : 0 < x.2.2.1 := by have := (List.getElem?_eq_some_iff.1 hr).1; omega
  obtain ⟨p1, p2⟩ := k5 _ hA hn
  exact ⟨b, o, hA, by omega, fun j u hu => (hk b _ hb p1 p2).trans (h0 j u hu)⟩
theorem LeadK.grown (k : LeadK T w P row x) (hg : w.grownBy w' row) : LeadK T w' P row x :=
  k.keep hg.size fun b _ hb _ h2 => World.cell?_of_block (hg.block b hb h2)
theorem LeadK.below (k : LeadK T w P row x) (hb : Below w.heap.size w w') : LeadK T w' P row x := k.keep hb.size fun _ _ h1 _ _ => hb.cell h1
theorem LeadK.atRow (k : LeadK T w P row x) (hr : row' = row ∨ row' = some w.heap.size) : ∀ a, x.2.1 = some a → 0 < x.2.2.1 → P a.block ∧ some a.block ≠ row' := by
  obtain ⟨k1, k2, k3, k5⟩ := k
  refine fun a ha hn => ⟨(k5 a ha hn).1, ?_⟩
  rcases hr with rfl | rfl
  · exact (k5 a ha hn).2
  · intro he
    have hl : 0 < (T.kids x.1).length := by have := k1.1; omega
    obtain ⟨b, o, hA, hb, _⟩ := k1.2 0 (T.kids x.1)[0] (List.getElem?_eq_getElem hl)
    rw [ha] at hA
    obtain rfl := Option.some.inj hA
    injection he with he
    simp only at he
    omega
theorem LeadK.step (k : LeadK T w P row x) (hg : w.grownBy w' row) (hr : row' = row ∨ row' = some w.heap.size) : LeadK T w' P row' x := by
  obtain ⟨k1, k2, k3, _⟩ := k.grown hg
  exact ⟨k1, k2, k3, k.atRow hr⟩
theorem OwnK.len (k : OwnK T w e P B v n L) : L.length = n := by
  obtain ⟨hs, h1, h2, _⟩ := k
  rw [← h2, List.length_map]
  exact h1.len T.sh
theorem OwnK.cap (k : OwnK T w e P B (.slice A n c) n L) : n ≤ c := by
  obtain ⟨hs, h1, _⟩ := k
  exact h1.cap
theorem OwnK.nil : OwnK T w e P B (.slice none 0 0) 0 [] := ⟨[], OwnF.nil, rfl, by simp⟩
theorem OwnK.below (k : OwnK T w e P B v n L) (hb : Below w.heap.size w w') : OwnK T w' e P B v n L := by
  obtain ⟨hs, h1, h2, h3⟩ := k
  exact ⟨hs, h1.below hb, h2, fun x hx => (h3 x hx).below hb⟩
theorem OwnK.more (k : OwnK T w e P B v n L) (hB : B' ≤ B) (hl : ∀ b, P b → P' b) : OwnK T w e P' B' v n L := by
  obtain ⟨hs, h1, h2, h3⟩ := k
  exact ⟨hs, h1.more hB, h2, fun x hx => ⟨(h3 x hx).1, (h3 x hx).2.1, (h3 x hx).2.2.1, fun a ha hn => ⟨hl _ ((h3 x hx).2.2.2 a ha hn).1, ((h3 x hx).2.2.2 a ha hn).2⟩⟩⟩
theorem OwnK.drew (k : OwnK T w e P B v n L) : OwnK T w.drew e P B v n L := k
theorem OwnK.alloc (k : OwnK T w e P B v n L) (o : Obj) : OwnK T (w.alloc o) e P B v n L := k.below ((Below.refl _ _).alloc (Nat.le_refl _) o)
theorem OwnK.lt (k : OwnK T w e P B v n L) : ∀ g, v.ownBlock = some g → B ≤ g ∧ g < w.heap.size := by
  obtain ⟨hs, h1, _⟩ := k
  exact World.ownsRow.lt h1
theorem OwnK.rd (k : OwnK T w e P B (.slice A n c) n L) : RdK T w w.heap.size A n L := by
  obtain ⟨hs, h1, rfl, h3⟩ := k
  refine ⟨by rw [List.length_map]; exact h1.len T.sh, fun i l hl => ?_⟩
  rw [List.getElem?_map] at hl
  cases hx : hs[i]? with
  | none => rw [hx] at hl; cases hl
  | some x =>
    rw [hx] at hl
    obtain rfl : x.1 = l := Option.some.inj hl
    obtain ⟨b, o, hA, hb, hcell⟩ := (h1.rd T.sh).2 i _ hx
    obtain ⟨k1, k2, k3, _⟩ := h3 x (List.mem_of_getElem? hx)
    exact ⟨b, o, x.2.1, x.2.2.1, x.2.2.2, hA, hb, k2, k3, k1, hcell⟩
theorem OwnK.set (h : OwnK T w e (fun b => B' ≤ b) B v n L) {p : Addr} (hB : p.block < B) (hB' : p.block < B') (u : Value) : OwnK T (w.setCell p u) e (fun b => B' ≤ b) B v n L := by
  obtain ⟨hs, h1, h2, h3⟩ := h
  refine ⟨hs, OwnF.setBelow h1 hB u, h2, fun x hx => (h3 x hx).keep (by simp) fun b o hb hP _ => ?_⟩
  exact World.cell?_setCell_other _ _ _ _ (by intro he; rw [he] at hB'; simp only at hB'; omega)
end
end Go.Proofs.YtllebgadhhgckaaDoor.RowK
