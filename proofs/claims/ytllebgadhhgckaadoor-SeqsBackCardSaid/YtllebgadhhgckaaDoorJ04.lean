/- Joined: RowL, RowL2, RowK. -/
import Derived.Test.YtllebgadhhgckaaDoorJ03
import Derived.Test.YtllebgadhhgckaaDoorJ02
import Derived.RangeFuncBox
import Derived.RangeFuncCalls
import Derived.TacticsInMore
import Derived.OwnWalkIn
/- Slices of slices of bytes: one that reads as a list of lists, one that the call itself made; the law of append in these words. Nothing of the program: P, the types' numbers and the worlds are letters. -/
namespace Go.Proofs.YtllebgadhhgckaaDoor.RowL
open Go.RowKit Oct RowF Lay

instance layBytes : Lay (List UInt8) := lay1 (List UInt8)

def RdN (w : World) (B : Nat) (A : Option Addr) (n : Nat) (L : List (List UInt8)) : Prop :=
  L.length = n ∧ ∀ k l, L[k]? = some l → ∃ b o a m c, A = some ⟨b, o, none⟩ ∧ b < B ∧ w.cell? ⟨b, o + k, none⟩ = some (.slice a m c) ∧ m ≤ c ∧ Rd w B a m l
def hc (h : Option Addr × Nat × Nat) : List Value := [.slice h.1 h.2.1 h.2.2]
theorem hS : Shape hc 1 := ⟨fun _ => rfl, fun x u hu => by
  simp only [hc, List.mem_cons, List.not_mem_nil, or_false] at hu
  rw [hu]; rfl, by decide⟩
def Lead (w : World) (P : Nat → Prop) (row : Option Nat) (h : Option Addr × Nat × Nat) (l : List UInt8) : Prop :=
  Rd w w.heap.size h.1 h.2.1 l ∧ h.2.1 ≤ h.2.2 ∧ ∀ a, h.1 = some a → 0 < h.2.1 → P a.block ∧ some a.block ≠ row
def Leads (w : World) (P : Nat → Prop) (row : Option Nat) (hs : List (Option Addr × Nat × Nat)) (L : List (List UInt8)) : Prop :=
  hs.length = L.length ∧ ∀ (k : Nat) (h : Option Addr × Nat × Nat) (l : List UInt8), hs[k]? = some h → L[k]? = some l → Lead w P row h l
def OwnL (w : World) (e : TypeId) (P : Nat → Prop) (B : Nat) (v : Value) (n : Nat) (L : List (List UInt8)) : Prop :=
  ∃ hs, OwnF hc 1 w e B v n hs ∧ Leads w P v.ownBlock hs L

section
variable {w w' : World} {P P' : Nat → Prop} {B B' n c : Nat} {A : Option Addr} {L M : List (List UInt8)} {e : TypeId} {v : Value} {row row' : Option Nat} {h : Option Addr × Nat × Nat} {hs : List (Option Addr × Nat × Nat)} {l : List UInt8}
theorem RdN.len (h : RdN w B A n L) : L.length = n := h.1
theorem RdN.nil : RdN w B A 0 [] := ⟨rfl, by simp⟩
theorem RdN.keep (h : RdN w B A n L) (hk : ∀ p : Addr, p.block < B → w'.cell? p = w.cell? p) : RdN w' B A n L :=
  ⟨h.1, fun k x hx => by
    obtain ⟨b, o, a, m, c, hA, hb, hc, hm, hr⟩ := h.2 k x hx
    exact ⟨b, o, a, m, c, hA, hb, (hk _ hb).trans hc, hm, hr.keep hk⟩⟩
theorem RdN.more (h : RdN w B A n L) (hB : B ≤ B') : RdN w B' A n L :=
  ⟨h.1, fun k x hx => by
    obtain ⟨b, o, a, m, c, hA, hb, hc, hm, hr⟩ := h.2 k x hx
    exact ⟨b, o, a, m, c, hA, by omega, hc, hm, hr.more hB⟩⟩
theorem RdN.below (h : RdN w B A n L) (hb : Below B' w w') (hB : B ≤ B') : RdN w' B A n L := h.keep fun _ hp => hb.cell (by omega)
theorem RdN.alloc (h : RdN w B A n L) (hB : B ≤ w.heap.size) (o : Obj) : RdN (w.alloc o) B A n L := h.keep fun p hp => World.cell?_alloc_lt w o p (by omega)
theorem RdN.drew (h : RdN w B A n L) : RdN w.drew B A n L := h
theorem RdN.drewN (h : RdN w B A n L) (k : Nat) : RdN (w.drewN k) B A n L := h
theorem RdN.at {k : Nat} (h : RdN w B A n L) (hk : k < n) : ∃ b o a m c l, A = some ⟨b, o, none⟩ ∧ b < B ∧ L[k]? = some l ∧ w.cell? ⟨b, o + k, none⟩ = some (.slice a m c) ∧ m ≤ c ∧ Rd w B a m l := by
  have hl : k < L.length := by have := h.1; omega
  obtain ⟨b, o, a, m, c, hA, hb, hc, hm, hr⟩ := h.2 k L[k] (List.getElem?_eq_getElem hl)
  exact ⟨b, o, a, m, c, L[k], hA, hb, List.getElem?_eq_getElem hl, hc, hm, hr⟩
theorem RdN.take {m : Nat} (h : RdN w B A n L) (hm : m ≤ n) : RdN w B A m (L.take m) := by
  refine ⟨by have := h.1; rw [List.length_take]; omega, fun k x hx => h.2 k x ?_⟩
  rw [List.getElem?_take] at hx
  split at hx
  · exact hx
  · cases hx
theorem RdL.small (h : RdL w B A n L) : ∀ l ∈ L, l.length ≤ 140737488351232 := by
  intro l hl
  obtain ⟨k, hk⟩ := List.mem_iff_getElem?.1 hl
  obtain ⟨b, o, cs, hA, hb, his, hc⟩ := h.2 k l hk
  obtain ⟨v, rfl, a, m, c, rfl, hm, hcc, hr⟩ := his
  have h1 : c ≤ 140737488351232 := hcc
  have h2 := hr.len
  omega
theorem Lead.keep (k : Lead w P row h l) (hs : w.heap.size ≤ w'.heap.size) (hk : ∀ b o, b < w.heap.size → P b → some b ≠ row → w'.cell? ⟨b, o, none⟩ = w.cell? ⟨b, o, none⟩) : Lead w' P row h l := by
  obtain ⟨⟨k0, k1⟩, k2, k3⟩ := k
  refine ⟨⟨k0, fun i c hc => ?_⟩, k2, k3⟩
  obtain ⟨b, o, hA, hb, hcell⟩ := k1 i c hc
  have hn : 0 < h.2.1 := by have := (List.getElem?_eq_some_iff.1 hc).1; omega
  obtain ⟨h1, h2⟩ := k3 _ hA hn
  exact ⟨b, o, hA, by omega, (hk b _ hb h1 h2).trans hcell⟩
theorem Lead.grown (k : Lead w P row h l) (hg : w.grownBy w' row) : Lead w' P row h l :=
  k.keep hg.size fun b _ hb _ h2 => World.cell?_of_block (hg.block b hb h2)
theorem Lead.atRow (k : Lead w P row h l) (hr : row' = row ∨ row' = some w.heap.size) : Lead w P row' h l := by
  obtain ⟨k1, k2, k3⟩ := k
  refine ⟨k1, k2, fun a ha hn => ⟨(k3 a ha hn).1, ?_⟩⟩
  rcases hr with rfl | rfl
  · exact (k3 a ha hn).2
  · intro he
    have hl : 0 < l.length := by have := k1.1; omega
    obtain ⟨b, o, hA, hb, _⟩ := k1.2 0 l[0] (List.getElem?_eq_getElem hl)
    rw [ha] at hA
    obtain rfl := Option.some.inj hA
    injection he with he
    simp only at he
    omega
theorem Leads.grown (k : Leads w P row hs L) (hg : w.grownBy w' row) : Leads w' P row hs L := ⟨k.1, fun i h l hh hl => (k.2 i h l hh hl).grown hg⟩
theorem Leads.atRow (k : Leads w P row hs L) (hr : row' = row ∨ row' = some w.heap.size) : Leads w P row' hs L := ⟨k.1, fun i h l hh hl => (k.2 i h l hh hl).atRow hr⟩
theorem Leads.step (k : Leads w P row hs L) (hg : w.grownBy w' row) (hr : row' = row ∨ row' = some w.heap.size) : Leads w' P row' hs L :=
  ⟨k.1, fun i h l hh hl => ⟨((k.2 i h l hh hl).grown hg).1, (k.2 i h l hh hl).2.1, ((k.2 i h l hh hl).atRow hr).2.2⟩⟩
theorem Leads.below (k : Leads w P row hs L) (hb : Below w.heap.size w w') : Leads w' P row hs L := ⟨k.1, fun i h l hh hl => (k.2 i h l hh hl).keep hb.size fun _ _ h1 _ _ => hb.cell h1⟩
theorem Leads.nil : Leads w P row [] [] := ⟨rfl, by simp⟩
theorem Leads.one (k : Lead w P row h l) : Leads w P row [h] [l] := by
  refine ⟨rfl, fun i x y hx hy => ?_⟩
  match i, hx, hy with
  | 0, hx, hy =>
    obtain rfl : h = x := by simpa using hx
    obtain rfl : l = y := by simpa using hy
    exact k
theorem RdN.leads (k : RdN w B A n L) (_hB : B ≤ w.heap.size) : ∃ hs, RdF hc 1 w B A n hs ∧ hs.length = L.length ∧ ∀ (i : Nat) (h : Option Addr × Nat × Nat) (l : List UInt8), hs[i]? = some h → L[i]? = some l → Rd w B h.1 h.2.1 l ∧ h.2.1 ≤ h.2.2 := by
  have hE : ∀ i, i < n → ∃ x : Option Addr × Nat × Nat, ∃ b o l, A = some ⟨b, o, none⟩ ∧ b < B ∧ L[i]? = some l ∧ w.cell? ⟨b, o + i, none⟩ = some (.slice x.1 x.2.1 x.2.2) ∧ x.2.1 ≤ x.2.2 ∧ Rd w B x.1 x.2.1 l := by
    intro i hi
    obtain ⟨b, o, a, m, c, l, h1, h2, h3, h4, h5, h6⟩ := k.at hi
    exact ⟨(a, m, c), b, o, l, h1, h2, h3, h4, h5, h6⟩
  obtain ⟨f, hf⟩ := Go.Deep.choose_lt hE
  have hL := k.len
  refine ⟨(List.range n).map f, ⟨by simp, fun i x hx => ?_⟩, by simp [hL], fun i x l hx hl => ?_⟩
  · have hi : i < n := by have := (List.getElem?_eq_some_iff.1 hx).1; simpa using this
    rw [List.getElem?_map, List.getElem?_range hi] at hx
    obtain rfl : f i = x := by simpa using hx
    obtain ⟨b, o, l, h1, h2, h3, h4, h5, h6⟩ := hf i hi
    refine ⟨b, o, h1, h2, fun j v hv => ?_⟩
    match j, hv with
    | 0, hv =>
      obtain rfl : Value.slice (f i).1 (f i).2.1 (f i).2.2 = v := by simpa [hc] using hv
      rw [Nat.mul_one, Nat.add_zero]
      exact h4
  · have hi : i < n := by have := (List.getElem?_eq_some_iff.1 hx).1; simpa using this
    rw [List.getElem?_map, List.getElem?_range hi] at hx
    obtain rfl : f i = x := by simpa using hx
    obtain ⟨b, o, l', h1, h2, h3, h4, h5, h6⟩ := hf i hi
    obtain rfl : l' = l := by rw [h3] at hl; exact Option.some.inj hl
    exact ⟨h6, h5⟩
theorem OwnL.len (k : OwnL w e P B v n L) : L.length = n := by
  obtain ⟨hs, h1, h2⟩ := k
  rw [← h2.1]
  exact h1.len hS
theorem OwnL.cap (k : OwnL w e P B (.slice A n c) n L) : n ≤ c := by
  obtain ⟨hs, h1, h2⟩ := k
  exact h1.cap
theorem OwnL.nil : OwnL w e P B (.slice none 0 0) 0 [] := ⟨[], OwnF.nil, Leads.nil⟩
theorem OwnL.below (k : OwnL w e P B v n L) (hb : Below w.heap.size w w') : OwnL w' e P B v n L := by
  obtain ⟨hs, h1, h2⟩ := k
  exact ⟨hs, h1.below hb, h2.below hb⟩
theorem OwnL.more (k : OwnL w e P B v n L) (hB : B' ≤ B) (hl : ∀ b, P b → P' b) : OwnL w e P' B' v n L := by
  obtain ⟨hs, h1, h2⟩ := k
  exact ⟨hs, h1.more hB, h2.1, fun i h l hh hl2 => ⟨(h2.2 i h l hh hl2).1, (h2.2 i h l hh hl2).2.1, fun a ha hn => ⟨hl _ ((h2.2 i h l hh hl2).2.2 a ha hn).1, ((h2.2 i h l hh hl2).2.2 a ha hn).2⟩⟩⟩
theorem OwnL.drew (k : OwnL w e P B v n L) : OwnL w.drew e P B v n L := k
theorem OwnL.drewN (k : OwnL w e P B v n L) (i : Nat) : OwnL (w.drewN i) e P B v n L := k
theorem OwnL.alloc (k : OwnL w e P B v n L) (o : Obj) : OwnL (w.alloc o) e P B v n L := k.below ((Below.refl _ _).alloc (Nat.le_refl _) o)
theorem OwnL.rd (k : OwnL w e P B (.slice A n c) n L) : RdN w w.heap.size A n L := by
  obtain ⟨hs, h1, h2⟩ := k
  refine ⟨by rw [← h2.1]; exact h1.len hS, fun i l hl => ?_⟩
  have hi : i < hs.length := by rw [h2.1]; exact (List.getElem?_eq_some_iff.1 hl).1
  have hx : hs[i]? = some hs[i] := List.getElem?_eq_getElem hi
  obtain ⟨b, o, hA, hb, hcell⟩ := (h1.rd hS).2 i _ hx
  have h3 := hcell 0 _ rfl
  rw [Nat.mul_one, Nat.add_zero] at h3
  obtain ⟨k1, k2, _⟩ := h2.2 i _ l hx hl
  exact ⟨b, o, _, _, _, hA, hb, h3, k2, k1⟩
theorem OwnL.lt (k : OwnL w e P B v n L) : ∀ g, v.ownBlock = some g → B ≤ g ∧ g < w.heap.size := by
  obtain ⟨hs, h1, h2⟩ := k
  exact World.ownsRow.lt h1
theorem OwnL.far {u : Value} (k : OwnL w e P B v n L) (ha : Apart u v) (hlo : ∀ g, u.ownBlock = some g → ¬ P g) (hg : w.grownBy w' u.ownBlock) : OwnL w' e P B v n L := by
  obtain ⟨hs, h1, h2⟩ := k
  refine ⟨hs, own_far h1 ha hg, h2.1, fun i h l hh hl => (h2.2 i h l hh hl).keep hg.size fun b o hb hlb _ => World.cell?_of_block (hg.block b hb fun he => ?_)⟩
  exact hlo b he.symm hlb
end
section
variable {P : Program} {R : Nat → Prop} (w : World)
end
end Go.Proofs.YtllebgadhhgckaaDoor.RowL

/- More words for rows of slices, and for a call's own boxes: what stays when a block that is no cells is turned; one slice more, as a run. Nothing of the program. -/
namespace Go.Proofs.YtllebgadhhgckaaDoor.RowL
open Go.RowKit Oct RowF Lay

section
variable {W W' : World} {e t : TypeId} {P : Nat → Prop} {B n : Nat} {v u : Value} {L : List (List UInt8)}
end
end Go.Proofs.YtllebgadhhgckaaDoor.RowL

/- Rows of structs that lead to rows of plain structs: one notion for all types. Nothing of the program. -/
namespace Go.Proofs.YtllebgadhhgckaaDoor.RowK
open Go.RowKit Oct RowF RowL

structure Two (α β : Type) where
  kids : α → List β
  enc : α × Option Addr × Nat × Nat → List Value
  sz : Nat
  sub : β → List Value
  isz : Nat
  most : Nat
  sh : Shape enc sz
  ish : Shape sub isz
theorem each_some {α γ : Type} (l : List α) (Q : Nat → α → γ → Prop) (h : ∀ k x, l[k]? = some x → ∃ y, Q k x y) : ∃ ys : List γ, ys.length = l.length ∧ ∀ k y, ys[k]? = some y → ∃ x, l[k]? = some x ∧ Q k x y := by
  induction l generalizing Q with
  | nil => exact ⟨[], rfl, by simp⟩
  | cons x l ih =>
    obtain ⟨y, hy⟩ := h 0 x rfl
    obtain ⟨ys, h1, h2⟩ := ih (fun k => Q (k + 1)) fun k z hz => h (k + 1) z hz
    refine ⟨y :: ys, by rw [List.length_cons, List.length_cons, h1], fun k z hz => ?_⟩
    cases k with
    | zero => obtain rfl : y = z := by simpa using hz
              exact ⟨x, rfl, hy⟩
    | succ k => exact h2 k z (by simpa using hz)
variable {α β : Type}
def RdK (T : Two α β) (w : World) (B : Nat) (A : Option Addr) (n : Nat) (l : List α) : Prop :=
  l.length = n ∧ ∀ k x, l[k]? = some x → ∃ b o A' n' c', A = some ⟨b, o, none⟩ ∧ b < B ∧ n' ≤ c' ∧ n' ≤ T.most ∧ RdF T.sub T.isz w B A' n' (T.kids x) ∧ ∀ i u, (T.enc (x, A', n', c'))[i]? = some u → w.cell? ⟨b, o + k * T.sz + i, none⟩ = some u
section
variable {T : Two α β} {w w' : World} {B B' n : Nat} {A : Option Addr} {l : List α}
theorem RdK.len (h : RdK T w B A n l) : l.length = n := h.1
theorem RdK.nil : RdK T w B A 0 [] := ⟨rfl, by simp⟩
theorem RdK.keep (h : RdK T w B A n l) (hk : ∀ p : Addr, p.block < B → w'.cell? p = w.cell? p) : RdK T w' B A n l :=
  ⟨h.1, fun k x hx => by
    obtain ⟨b, o, A', n', c', h1, h2, h3, h4, h5, h7⟩ := h.2 k x hx
    refine ⟨b, o, A', n', c', h1, h2, h3, h4, ⟨h5.1, fun i y hy => ?_⟩, fun i u hu => (hk _ h2).trans (h7 i u hu)⟩
    obtain ⟨b2, o2, e1, e2, e3⟩ := h5.2 i y hy
    exact ⟨b2, o2, e1, e2, fun j u hu => (hk _ e2).trans (e3 j u hu)⟩⟩
theorem RdK.more (h : RdK T w B A n l) (hB : B ≤ B') : RdK T w B' A n l :=
  ⟨h.1, fun k x hx => by
    obtain ⟨b, o, A', n', c', h1, h2, h3, h4, h5, h7⟩ := h.2 k x hx
    exact ⟨b, o, A', n', c', h1, by omega, h3, h4, h5.more hB, h7⟩⟩
theorem RdK.below (h : RdK T w B A n l) (hb : Below B' w w') (hB : B ≤ B') : RdK T w' B A n l := h.keep fun _ hp => hb.cell (by omega)
theorem rdkUp (h : RdK T w w.heap.size A n l) (hb : Below w.heap.size w w') : RdK T w' w'.heap.size A n l := (h.below hb (Nat.le_refl _)).more hb.size
theorem RdK.at {k : Nat} (h : RdK T w B A n l) (hk : k < n) : ∃ b o x A' n' c', A = some ⟨b, o, none⟩ ∧ b < B ∧ l[k]? = some x ∧ n' ≤ c' ∧ n' ≤ T.most ∧ RdF T.sub T.isz w B A' n' (T.kids x) ∧ ∀ i u, (T.enc (x, A', n', c'))[i]? = some u → w.cell? ⟨b, o + k * T.sz + i, none⟩ = some u := by
  have hl : k < l.length := by have := h.1; omega
  obtain ⟨b, o, A', n', c', h1, h2, h3⟩ := h.2 k l[k] (List.getElem?_eq_getElem hl)
  exact ⟨b, o, l[k], A', n', c', h1, h2, List.getElem?_eq_getElem hl, h3⟩
theorem RdK.isNil (h : RdK T w B none n l) : n = 0 ∧ l = [] := by
  cases l with
  | nil => exact ⟨h.1.symm, rfl⟩
  | cons x l => obtain ⟨b, o, A', n', c', h1, _⟩ := h.2 0 x rfl; cases h1
theorem RdK.take {m : Nat} (h : RdK T w B A n l) (hm : m ≤ n) : RdK T w B A m (l.take m) := by
  refine ⟨by have := h.1; rw [List.length_take]; omega, fun k x hx => h.2 k x ?_⟩
  rw [List.getElem?_take] at hx
  split at hx
  · exact hx
  · cases hx
theorem RdK.lift (h : RdK T w B A n l) : ∃ hs : List (α × Option Addr × Nat × Nat), RdF T.enc T.sz w B A n hs ∧ hs.map (·.1) = l ∧ ∀ x ∈ hs, x.2.2.1 ≤ x.2.2.2 ∧ x.2.2.1 ≤ T.most ∧ RdF T.sub T.isz w B x.2.1 x.2.2.1 (T.kids x.1) := by
  obtain ⟨hs, h1, h2⟩ := each_some l (fun k x (y : α × Option Addr × Nat × Nat) => y.1 = x ∧ (y.2.2.1 ≤ y.2.2.2 ∧ y.2.2.1 ≤ T.most ∧ RdF T.sub T.isz w B y.2.1 y.2.2.1 (T.kids y.1)) ∧ ∃ b o, A = some ⟨b, o, none⟩ ∧ b < B ∧ ∀ i u, (T.enc y)[i]? = some u → w.cell? ⟨b, o + k * T.sz + i, none⟩ = some u) fun k x hx => by
    obtain ⟨b, o, A', n', c', h1, h2, h3, h4, h5, h7⟩ := h.2 k x hx
    exact ⟨(x, A', n', c'), rfl, ⟨h3, h4, h5⟩, b, o, h1, h2, h7⟩
  refine ⟨hs, ⟨h1.trans h.1, fun k y hy => ?_⟩, ?_, fun y hy => ?_⟩
  · obtain ⟨x, _, _, _, b, o, e1, e2, e3⟩ := h2 k y hy
    exact ⟨b, o, e1, e2, e3⟩
  · refine List.ext_getElem? fun k => ?_
    rw [List.getElem?_map]
    cases hy : hs[k]? with
    | none =>
      have : l[k]? = none := by rw [List.getElem?_eq_none_iff] at hy ⊢; omega
      rw [this]; rfl
    | some y =>
      obtain ⟨x, hx, he, _⟩ := h2 k y hy
      rw [hx, ← he]; rfl
  · obtain ⟨k, hk⟩ := List.mem_iff_getElem?.1 hy
    obtain ⟨x, _, _, e, _⟩ := h2 k y hk
    exact e
end
abbrev KX (α : Type) := α × Option Addr × Nat × Nat
def LeadK (T : Two α β) (w : World) (P : Nat → Prop) (row : Option Nat) (x : KX α) : Prop :=
  RdF T.sub T.isz w w.heap.size x.2.1 x.2.2.1 (T.kids x.1) ∧ x.2.2.1 ≤ x.2.2.2 ∧ x.2.2.1 ≤ T.most ∧ ∀ a, x.2.1 = some a → 0 < x.2.2.1 → P a.block ∧ some a.block ≠ row
def OwnK (T : Two α β) (w : World) (e : TypeId) (P : Nat → Prop) (B : Nat) (v : Value) (n : Nat) (L : List α) : Prop :=
  ∃ hs : List (KX α), OwnF T.enc T.sz w e B v n hs ∧ hs.map (·.1) = L ∧ ∀ x ∈ hs, LeadK T w P v.ownBlock x
section
variable {T : Two α β} {w w' : World} {P P' : Nat → Prop} {B B' n c : Nat} {A : Option Addr} {L M : List α} {e : TypeId} {v : Value} {row row' : Option Nat} {x : KX α}
theorem LeadK.keep (k : LeadK T w P row x) (hs : w.heap.size ≤ w'.heap.size) (hk : ∀ b o, b < w.heap.size → P b → some b ≠ row → w'.cell? ⟨b, o, none⟩ = w.cell? ⟨b, o, none⟩) : LeadK T w' P row x := by
  obtain ⟨⟨k0, k1⟩, k2, k3, k5⟩ := k
  refine ⟨⟨k0, fun i r hr => ?_⟩, k2, k3, k5⟩
  obtain ⟨b, o, hA, hb, h0⟩ := k1 i r hr
  have hn : 0 < x.2.2.1 := by have := (List.getElem?_eq_some_iff.1 hr).1; omega
  obtain ⟨p1, p2⟩ := k5 _ hA hn
  exact ⟨b, o, hA, by omega, fun j u hu => (hk b _ hb p1 p2).trans (h0 j u hu)⟩
theorem LeadK.grown (k : LeadK T w P row x) (hg : w.grownBy w' row) : LeadK T w' P row x :=
  k.keep hg.size fun b _ hb _ h2 => World.cell?_of_block (hg.block b hb h2)
theorem LeadK.below (k : LeadK T w P row x) (hb : Below w.heap.size w w') : LeadK T w' P row x := k.keep hb.size fun _ _ h1 _ _ => hb.cell h1
theorem LeadK.atRow (k : LeadK T w P row x) (hr : row' = row ∨ row' = some w.heap.size) : ∀ a, x.2.1 = some a → 0 < x.2.2.1 → P a.block ∧ some a.block ≠ row' := by
  obtain ⟨k1, k2, k3, k5⟩ := k
  refine fun a ha hn => ⟨(k5 a ha hn).1, ?_⟩
  rcases hr with rfl | rfl
  · exact (k5 a ha hn).2
  · intro he
    have hl : 0 < (T.kids x.1).length := by have := k1.1; omega
    obtain ⟨b, o, hA, hb, _⟩ := k1.2 0 (T.kids x.1)[0] (List.getElem?_eq_getElem hl)
    rw [ha] at hA
    obtain rfl := Option.some.inj hA
    injection he with he
    simp only at he
    omega
theorem LeadK.step (k : LeadK T w P row x) (hg : w.grownBy w' row) (hr : row' = row ∨ row' = some w.heap.size) : LeadK T w' P row' x := by
  obtain ⟨k1, k2, k3, _⟩ := k.grown hg
  exact ⟨k1, k2, k3, k.atRow hr⟩
theorem OwnK.len (k : OwnK T w e P B v n L) : L.length = n := by
  obtain ⟨hs, h1, h2, _⟩ := k
  rw [← h2, List.length_map]
  exact h1.len T.sh
theorem OwnK.cap (k : OwnK T w e P B (.slice A n c) n L) : n ≤ c := by
  obtain ⟨hs, h1, _⟩ := k
  exact h1.cap
theorem OwnK.nil : OwnK T w e P B (.slice none 0 0) 0 [] := ⟨[], OwnF.nil, rfl, by simp⟩
theorem OwnK.below (k : OwnK T w e P B v n L) (hb : Below w.heap.size w w') : OwnK T w' e P B v n L := by
  obtain ⟨hs, h1, h2, h3⟩ := k
  exact ⟨hs, h1.below hb, h2, fun x hx => (h3 x hx).below hb⟩
theorem OwnK.more (k : OwnK T w e P B v n L) (hB : B' ≤ B) (hl : ∀ b, P b → P' b) : OwnK T w e P' B' v n L := by
  obtain ⟨hs, h1, h2, h3⟩ := k
  exact ⟨hs, h1.more hB, h2, fun x hx => ⟨(h3 x hx).1, (h3 x hx).2.1, (h3 x hx).2.2.1, fun a ha hn => ⟨hl _ ((h3 x hx).2.2.2 a ha hn).1, ((h3 x hx).2.2.2 a ha hn).2⟩⟩⟩
theorem OwnK.drew (k : OwnK T w e P B v n L) : OwnK T w.drew e P B v n L := k
theorem OwnK.alloc (k : OwnK T w e P B v n L) (o : Obj) : OwnK T (w.alloc o) e P B v n L := k.below ((Below.refl _ _).alloc (Nat.le_refl _) o)
theorem OwnK.lt (k : OwnK T w e P B v n L) : ∀ g, v.ownBlock = some g → B ≤ g ∧ g < w.heap.size := by
  obtain ⟨hs, h1, _⟩ := k
  exact World.ownsRow.lt h1
theorem OwnK.rd (k : OwnK T w e P B (.slice A n c) n L) : RdK T w w.heap.size A n L := by
  obtain ⟨hs, h1, rfl, h3⟩ := k
  refine ⟨by rw [List.length_map]; exact h1.len T.sh, fun i l hl => ?_⟩
  rw [List.getElem?_map] at hl
  cases hx : hs[i]? with
  | none => rw [hx] at hl; cases hl
  | some x =>
    rw [hx] at hl
    obtain rfl : x.1 = l := Option.some.inj hl
    obtain ⟨b, o, hA, hb, hcell⟩ := (h1.rd T.sh).2 i _ hx
    obtain ⟨k1, k2, k3, _⟩ := h3 x (List.mem_of_getElem? hx)
    exact ⟨b, o, x.2.1, x.2.2.1, x.2.2.2, hA, hb, k2, k3, k1, hcell⟩
theorem OwnK.set (h : OwnK T w e (fun b => B' ≤ b) B v n L) {p : Addr} (hB : p.block < B) (hB' : p.block < B') (u : Value) : OwnK T (w.setCell p u) e (fun b => B' ≤ b) B v n L := by
  obtain ⟨hs, h1, h2, h3⟩ := h
  refine ⟨hs, OwnF.setBelow h1 hB u, h2, fun x hx => (h3 x hx).keep (by simp) fun b o hb hP _ => ?_⟩
  exact World.cell?_setCell_other _ _ _ _ (by intro he; rw [he] at hB'; simp only at hB'; omega)
theorem leadK_of (hr : RdF T.sub T.isz w B' A n (T.kids x.1)) (hB : B' ≤ w.heap.size) (hx : x.2 = (A, n, c)) (hc : n ≤ c) (hn : n ≤ T.most) (hP : ∀ a, A = some a → 0 < n → P a.block ∧ some a.block ≠ row) : LeadK T w P row x := by
  obtain ⟨b, A', n', c'⟩ := x
  obtain ⟨rfl, rfl, rfl⟩ : A' = A ∧ n' = n ∧ c' = c := by simpa using hx
  exact ⟨hr.more hB, hc, hn, hP⟩
theorem run_appK {Q : Program} {R : Nat → Prop} (base bytes : Nat) (t ty e : TypeId) (ht : Q.underlying t = some (.slice e)) (hI : Info Q e T.sz bytes) (hown : OwnK T w e R base v n L)
    {m : Nat} {hs : List (KX α)} (hr : RdF T.enc T.sz w B A m hs) (hl : ∀ x ∈ hs, LeadK T w R v.ownBlock x) (hb : (n + m) * bytes ≤ 140737488355328) (h63 : n + m ≤ 140737488355328) (hbase : base ≤ w.heap.size) :
    ∃ A' c' w', (Builtin.append_ #[t, t] ty #[v, .slice A m c]).run Q w = .ok (.slice A' (n + m) c') w' ∧ OwnK T w' e R base (.slice A' (n + m) c') (n + m) (L ++ hs.map (·.1)) ∧ w.grownBy w' v.ownBlock ∧
      ((Value.slice A' (n + m) c').ownBlock = v.ownBlock ∨ (Value.slice A' (n + m) c').ownBlock = some w.heap.size) ∧ Below base w w' := by
  obtain ⟨hs0, h1, h2, h3⟩ := hown
  obtain ⟨A', c', w', k1, k2, k3, k4⟩ := run_appFG (P := Q) w T.sh bytes base t ty e ht hI v n hs0 h1 B A m c hs hr hb h63 hbase
  refine ⟨A', c', w', k1, ⟨hs0 ++ hs, k2, by rw [List.map_append, h2], fun y hy => ?_⟩, k3, k4, below_of_grown w h1 k3 hbase⟩
  rcases List.mem_append.1 hy with h9 | h9
  · exact (h3 y h9).step k3 k4
  · exact (hl y h9).step k3 k4
end
end Go.Proofs.YtllebgadhhgckaaDoor.RowK
