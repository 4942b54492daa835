/- Joined: RowL, RowL2, EpoMath, EpoRow. -/
import Derived.Test.YtlfbagkonckffaaGreatJ07
import Derived.Test.YtlfbagkonckffaaGreatJ06
import Derived.RangeFuncBox
import Derived.RangeFuncCalls
import Derived.Test.YtlfbagkonckffaaGreatJ02
import Derived.Test.YtlfbagkonckffaaGreatProg
/- Slices of slices of bytes: one that reads as a list of lists, one that the call itself made; the law of append in these words. Nothing of the program: P, the types' numbers and the worlds are letters. -/
namespace Go.Proofs.YtlfbagkonckffaaGreat.RowL
open Go.RowKit Oct RowF Lay

instance layBytes : Lay (List UInt8) := lay1 (List UInt8)

def RdN (w : World) (B : Nat) (A : Option Addr) (n : Nat) (L : List (List UInt8)) : Prop :=
  L.length = n ∧ ∀ k l, L[k]? = some l → ∃ b o a m c, A = some ⟨b, o, none⟩ ∧ b < B ∧ w.cell? ⟨b, o + k, none⟩ = some (.slice a m c) ∧ m ≤ c ∧ Rd w B a m l
def hc (h : Option Addr × Nat × Nat) : List Value := [.slice h.1 h.2.1 h.2.2]
theorem hS : Shape hc 1 := ⟨fun _ => rfl, fun x u hu => by
  simp only [hc, List.mem_cons, List.not_mem_nil, or_false] at hu
  rw [hu]; rfl, by decide⟩
def Lead (w : World) (P : Nat → Prop) (row : Option Nat) (h : Option Addr × Nat × Nat) (l : List UInt8) : Prop :=
  Rd w w.heap.size h.1 h.2.1 l ∧ h.2.1 ≤ h.2.2 ∧ ∀ a, h.1 = some a → 0 < h.2.1 → P a.block ∧ some a.block ≠ row
def Leads (w : World) (P : Nat → Prop) (row : Option Nat) (hs : List (Option Addr × Nat × Nat)) (L : List (List UInt8)) : Prop :=
  hs.length = L.length ∧ ∀ (k : Nat) (h : Option Addr × Nat × Nat) (l : List UInt8), hs[k]? = some h → L[k]? = some l → Lead w P row h l
def OwnL (w : World) (e : TypeId) (P : Nat → Prop) (B : Nat) (v : Value) (n : Nat) (L : List (List UInt8)) : Prop :=
  ∃ hs, OwnF hc 1 w e B v n hs ∧ Leads w P v.ownBlock hs L

section
variable {w w' : World} {P P' : Nat → Prop} {B B' n c : Nat} {A : Option Addr} {L M : List (List UInt8)} {e : TypeId} {v : Value} {row row' : Option Nat} {h : Option Addr × Nat × Nat} {hs : List (Option Addr × Nat × Nat)} {l : List UInt8}
theorem RdN.len (h : RdN w B A n L) : L.length = n := h.1
theorem RdN.nil : RdN w B A 0 [] := ⟨rfl, by simp⟩
theorem RdN.keep (h : RdN w B A n L) (hk : ∀ p : Addr, p.block < B → w'.cell? p = w.cell? p) : RdN w' B A n L :=
  ⟨h.1, fun k x hx => by
    obtain ⟨b, o, a, m, c, hA, hb, hc, hm, hr⟩ := h.2 k x hx
    exact ⟨b, o, a, m, c, hA, hb, (hk _ hb).trans hc, hm, hr.keep hk⟩⟩
theorem RdN.more (h : RdN w B A n L) (hB : B ≤ B') : RdN w B' A n L :=
  ⟨h.1, fun k x hx => by
    obtain ⟨b, o, a, m, c, hA, hb, hc, hm, hr⟩ := h.2 k x hx
    exact ⟨b, o, a, m, c, hA, by omega, hc, hm, hr.more hB⟩⟩
theorem RdN.below (h : RdN w B A n L) (hb : Below B' w w') (hB : B ≤ B') : RdN w' B A n L := h.keep fun _ hp => hb.cell (by omega)
theorem RdN.alloc (h : RdN w B A n L) (hB : B ≤ w.heap.size) (o : Obj) : RdN (w.alloc o) B A n L := h.keep fun p hp => World.cell?_alloc_lt w o p (by omega)
theorem RdN.drew (h : RdN w B A n L) : RdN w.drew B A n L := h
theorem RdN.drewN (h : RdN w B A n L) (k : Nat) : RdN (w.drewN k) B A n L := h
theorem RdN.at {k : Nat} (h : RdN w B A n L) (hk : k < n) : ∃ b o a m c l, A = some ⟨b, o, none⟩ ∧ b < B ∧ L[k]? = some l ∧ w.cell? ⟨b, o + k, none⟩ = some (.slice a m c) ∧ m ≤ c ∧ Rd w B a m l := by
  have hl : k < L.length := by have := h.1; omega
  obtain ⟨b, o, a, m, c, hA, hb, hc, hm, hr⟩ := h.2 k L[k] (List.getElem?_eq_getElem hl)
  exact ⟨b, o, a, m, c, L[k], hA, hb, List.getElem?_eq_getElem hl, hc, hm, hr⟩
theorem RdN.take {m : Nat} (h : RdN w B A n L) (hm : m ≤ n) : RdN w B A m (L.take m) := by
  refine ⟨by have := h.1; rw [List.length_take]; omega, fun k x hx => h.2 k x ?_⟩
  rw [List.getElem?_take] at hx
  split at hx
  · exact hx
  · cases hx
theorem RdL.small (h : RdL w B A n L) : ∀ l ∈ L, l.length ≤ 140737488351232 := by
  intro l hl
  obtain ⟨k, hk⟩ := List.mem_iff_getElem?.1 hl
  obtain ⟨b, o, cs, hA, hb, his, hc⟩ := h.2 k l hk
  obtain ⟨v, rfl, a, m, c, rfl, hm, hcc, hr⟩ := his
  have h1 : c ≤ 140737488351232 := hcc
  have h2 := hr.len
  omega
theorem Lead.keep (k : Lead w P row h l) (hs : w.heap.size ≤ w'.heap.size) (hk : ∀ b o, b < w.heap.size → P b → some b ≠ row → w'.cell? ⟨b, o, none⟩ = w.cell? ⟨b, o, none⟩) : Lead w' P row h l := by
  obtain ⟨⟨k0, k1⟩, k2, k3⟩ := k
  refine ⟨⟨k0, fun i c hc => ?_⟩, k2, k3⟩
  obtain ⟨b, o, hA, hb, hcell⟩ := k1 i c hc
  have hn : 0 < h.2.1 := by have := (List.getElem?_eq_some_iff.1 hc).1; omega
  obtain ⟨h1, h2⟩ := k3 _ hA hn
  exact ⟨b, o, hA, by omega, (hk b _ hb h1 h2).trans hcell⟩
theorem Lead.grown (k : Lead w P row h l) (hg : w.grownBy w' row) : Lead w' P row h l :=
  k.keep hg.size fun b _ hb _ h2 => World.cell?_of_block (hg.block b hb h2)
theorem Lead.atRow (k : Lead w P row h l) (hr : row' = row ∨ row' = some w.heap.size) : Lead w P row' h l := by
  obtain ⟨k1, k2, k3⟩ := k
  refine ⟨k1, k2, fun a ha hn => ⟨(k3 a ha hn).1, ?_⟩⟩
  rcases hr with rfl | rfl
  · exact (k3 a ha hn).2
  · intro he
    have hl : 0 < l.length := by have := k1.1; omega
    obtain ⟨b, o, hA, hb, _⟩ := k1.2 0 l[0] (List.getElem?_eq_getElem hl)
    rw [ha] at hA
    obtain rfl := Option.some.inj hA
    injection he with he
    simp only at he
    omega
theorem Leads.grown (k : Leads w P row hs L) (hg : w.grownBy w' row) : Leads w' P row hs L := ⟨k.1, fun i h l hh hl => (k.2 i h l hh hl).grown hg⟩
theorem Leads.atRow (k : Leads w P row hs L) (hr : row' = row ∨ row' = some w.heap.size) : Leads w P row' hs L := ⟨k.1, fun i h l hh hl => (k.2 i h l hh hl).atRow hr⟩
theorem Leads.step (k : Leads w P row hs L) (hg : w.grownBy w' row) (hr : row' = row ∨ row' = some w.heap.size) : Leads w' P row' hs L :=
  ⟨k.1, fun i h l hh hl => ⟨((k.2 i h l hh hl).grown hg).1, (k.2 i h l hh hl).2.1, ((k.2 i h l hh hl).atRow hr).2.2⟩⟩
theorem Leads.below (k : Leads w P row hs L) (hb : Below w.heap.size w w') : Leads w' P row hs L := ⟨k.1, fun i h l hh hl => (k.2 i h l hh hl).keep hb.size fun _ _ h1 _ _ => hb.cell h1⟩
theorem Leads.nil : Leads w P row [] [] := ⟨rfl, by simp⟩
theorem Leads.one (k : Lead w P row h l) : Leads w P row [h] [l] := by
  refine ⟨rfl, fun i x y hx hy => ?_⟩
  match i, hx, hy with
  | 0, hx, hy =>
    obtain rfl : h = x := by simpa using hx
    obtain rfl : l = y := by simpa using hy
    exact k
theorem RdN.leads (k : RdN w B A n L) (_hB : B ≤ w.heap.size) : ∃ hs, RdF hc 1 w B A n hs ∧ hs.length = L.length ∧ ∀ (i : Nat) (h : Option Addr × Nat × Nat) (l : List UInt8), hs[i]? = some h → L[i]? = some l → Rd w B h.1 h.2.1 l ∧ h.2.1 ≤ h.2.2 := by
  have hE : ∀ i, i < n → ∃ x : Option Addr × Nat × Nat, ∃ b o l, A = some ⟨b, o, none⟩ ∧ b < B ∧ L[i]? = some l ∧ w.cell? ⟨b, o + i, none⟩ = some (.slice x.1 x.2.1 x.2.2) ∧ x.2.1 ≤ x.2.2 ∧ Rd w B x.1 x.2.1 l := by
    intro i hi
    obtain ⟨b, o, a, m, c, l, h1, h2, h3, h4, h5, h6⟩ := k.at hi
    exact ⟨(a, m, c), b, o, l, h1, h2, h3, h4, h5, h6⟩
  obtain ⟨f, hf⟩ := Go.Deep.choose_lt hE
  have hL := k.len
  refine ⟨(List.range n).map f, ⟨by simp, fun i x hx => ?_⟩, by simp [hL], fun i x l hx hl => ?_⟩
  · have hi : i < n := by have := (List.getElem?_eq_some_iff.1 hx).1; simpa using this
    rw [List.getElem?_map, List.getElem?_range hi] at hx
    obtain rfl : f i = x := by simpa using hx
    obtain ⟨b, o, l, h1, h2, h3, h4, h5, h6⟩ := hf i hi
    refine ⟨b, o, h1, h2, fun j v hv => ?_⟩
    match j, hv with
    | 0, hv =>
      obtain rfl : Value.slice (f i).1 (f i).2.1 (f i).2.2 = v := by simpa [hc] using hv
      rw [Nat.mul_one, Nat.add_zero]
      exact h4
  · have hi : i < n := by have := (List.getElem?_eq_some_iff.1 hx).1; simpa using this
    rw [List.getElem?_map, List.getElem?_range hi] at hx
    obtain rfl : f i = x := by simpa using hx
    obtain ⟨b, o, l', h1, h2, h3, h4, h5, h6⟩ := hf i hi
    obtain rfl : l' = l := by rw [h3] at hl; exact Option.some.inj hl
    exact ⟨h6, h5⟩
theorem OwnL.len (k : OwnL w e P B v n L) : L.length = n := by
  obtain ⟨hs, h1, h2⟩ := k
  rw [← h2.1]
  exact h1.len hS
theorem OwnL.cap (k : OwnL w e P B (.slice A n c) n L) : n ≤ c := by
  obtain ⟨hs, h1, h2⟩ := k
  exact h1.cap
theorem OwnL.nil : OwnL w e P B (.slice none 0 0) 0 [] := ⟨[], OwnF.nil, Leads.nil⟩
theorem OwnL.below (k : OwnL w e P B v n L) (hb : Below w.heap.size w w') : OwnL w' e P B v n L := by
  obtain ⟨hs, h1, h2⟩ := k
  exact ⟨hs, h1.below hb, h2.below hb⟩
theorem OwnL.more (k : OwnL w e P B v n L) (hB : B' ≤ B) (hl : ∀ b, P b → P' b) : OwnL w e P' B' v n L := by
  obtain ⟨hs, h1, h2⟩ := k
  exact ⟨hs, h1.more hB, h2.1, fun i h l hh hl2 => ⟨(h2.2 i h l hh hl2).1, (h2.2 i h l hh hl2).2.1, fun a ha hn => ⟨hl _ ((h2.2 i h l hh hl2).2.2 a ha hn).1, ((h2.2 i h l hh hl2).2.2 a ha hn).2⟩⟩⟩
theorem OwnL.drew (k : OwnL w e P B v n L) : OwnL w.drew e P B v n L := k
theorem OwnL.drewN (k : OwnL w e P B v n L) (i : Nat) : OwnL (w.drewN i) e P B v n L := k
theorem OwnL.alloc (k : OwnL w e P B v n L) (o : Obj) : OwnL (w.alloc o) e P B v n L := k.below ((Below.refl _ _).alloc (Nat.le_refl _) o)
theorem OwnL.rd (k : OwnL w e P B (.slice A n c) n L) : RdN w w.heap.size A n L := by
  obtain ⟨hs, h1, h2⟩ := k
  refine ⟨by rw [← h2.1]; exact h1.len hS, fun i l hl => ?_⟩
  have hi : i < hs.length := by rw [h2.1]; exact (List.getElem?_eq_some_iff.1 hl).1
  have hx : hs[i]? = some hs[i] := List.getElem?_eq_getElem hi
  obtain ⟨b, o, hA, hb, hcell⟩ := (h1.rd hS).2 i _ hx
  have h3 := hcell 0 _ rfl
  rw [Nat.mul_one, Nat.add_zero] at h3
  obtain ⟨k1, k2, _⟩ := h2.2 i _ l hx hl
  exact ⟨b, o, _, _, _, hA, hb, h3, k2, k1⟩
theorem OwnL.lt (k : OwnL w e P B v n L) : ∀ g, v.ownBlock = some g → B ≤ g ∧ g < w.heap.size := by
  obtain ⟨hs, h1, h2⟩ := k
  exact World.ownsRow.lt h1
theorem OwnL.far {u : Value} (k : OwnL w e P B v n L) (ha : Apart u v) (hlo : ∀ g, u.ownBlock = some g → ¬ P g) (hg : w.grownBy w' u.ownBlock) : OwnL w' e P B v n L := by
  obtain ⟨hs, h1, h2⟩ := k
  refine ⟨hs, own_far h1 ha hg, h2.1, fun i h l hh hl => (h2.2 i h l hh hl).keep hg.size fun b o hb hlb _ => World.cell?_of_block (hg.block b hb fun he => ?_)⟩
  exact hlo b he.symm hlb
end
section
variable {P : Program} {R : Nat → Prop} (w : World)
end
end Go.Proofs.YtlfbagkonckffaaGreat.RowL

/- More words for rows of slices, and for a call's own boxes: what stays when a block that is no cells is turned; one slice more, as a run. Nothing of the program. -/
namespace Go.Proofs.YtlfbagkonckffaaGreat.RowL
open Go.RowKit Oct RowF Lay

section
variable {W W' : World} {e t : TypeId} {P : Nat → Prop} {B n : Nat} {v u : Value} {L : List (List UInt8)}
theorem boxed_below (h : Boxed W B t v) (hb : Below W.heap.size W W') : Boxed W' B t v := (hb.block B h.lt).trans h
theorem boxed_set2 {k : Nat} (h : Boxed W B t v) (u : Value) (hk : k ≠ B) : Boxed (W.setCell ⟨k, 0, none⟩ u) B t v := h.kept (grownBy_setCell' W k u) (by intro he; injection he with he; exact hk he.symm)
end
end Go.Proofs.YtlfbagkonckffaaGreat.RowL

/- The plain mathematics of layer 10: epochs. Nothing of the program. -/
namespace Go.Proofs.YtlfbagkonckffaaGreat.Epo

structure Ep where
  ep : Int
  st : Int
deriving DecidableEq
def upE : Int → Int → List Ep → Bool
  | _, _, [] => true
  | e, s, x :: l => decide (e < x.ep ∧ x.ep ≤ 1048576 ∧ s < x.st ∧ x.st ≤ 1099511627776) && upE x.ep x.st l
def okE (l : List Ep) : Bool := upE (-1) (-1) l
def ckE (l : List Ep) : Int := if okE l then 0 else 1
theorem upE_cons {e s : Int} {x : Ep} {l : List Ep} : upE e s (x :: l) = true ↔ (e < x.ep ∧ x.ep ≤ 1048576 ∧ s < x.st ∧ x.st ≤ 1099511627776) ∧ upE x.ep x.st l = true := by
  unfold upE
  rw [Bool.and_eq_true, decide_eq_true_eq]
  cases l <;> rfl
theorem upE_mem {e s : Int} {l : List Ep} (h : upE e s l = true) : ∀ x ∈ l, e < x.ep ∧ x.ep ≤ 1048576 ∧ s < x.st ∧ x.st ≤ 1099511627776 := by
  induction l generalizing e s with
  | nil => simp
  | cons y l ih =>
    obtain ⟨h1, h2⟩ := upE_cons.1 h
    intro x hx
    rcases List.mem_cons.1 hx with rfl | hx
    · exact h1
    · have := ih h2 x hx; omega
theorem upE_at {e s : Int} {l : List Ep} (h : upE e s l = true) {i j : Nat} {x y : Ep} (hij : i < j) (hx : l[i]? = some x) (hy : l[j]? = some y) : x.ep < y.ep ∧ x.st < y.st := by
  induction l generalizing e s i j with
  | nil => simp at hx
  | cons z l ih =>
    obtain ⟨h1, h2⟩ := upE_cons.1 h
    cases j with
    | zero => omega
    | succ j =>
      have hy' : l[j]? = some y := by simpa using hy
      cases i with
      | zero =>
        obtain rfl : z = x := by simpa using hx
        have := upE_mem h2 y (List.mem_of_getElem? hy')
        omega
      | succ i => exact ih h2 (i := i) (j := j) (by omega) (by simpa using hx) hy'
theorem upE_one {e s : Int} {l : List Ep} (h : upE e s l = true) {i j : Nat} {x y : Ep} (hx : l[i]? = some x) (hy : l[j]? = some y) (he : x.ep = y.ep) : i = j := by
  rcases Nat.lt_trichotomy i j with hh | hh | hh
  · have := (upE_at h hh hx hy).1; omega
  · exact hh
  · have := (upE_at h hh hy hx).1; omega
def putE (l : List Ep) (n s : Int) : List Ep × Int :=
  if okE l = false ∨ (n < 0 ∨ 1048576 < n) ∨ (s < 0 ∨ 1099511627776 < s) then ([], 1)
  else match l.getLast? with
    | none => ([⟨n, s⟩], 0)
    | some x => if n < x.ep then ([], 100) else if n = x.ep then (l, 0) else if s < x.st then ([], 71) else if s = x.st then (l.dropLast ++ [⟨n, s⟩], 0) else (l ++ [⟨n, s⟩], 0)
def nx (l : List Ep) (last : Int) : Int := match l with
  | [] => last
  | x :: _ => x.st
def endO (n last : Int) : List Ep → Int × Int → Int × Int
  | [], a => a
  | x :: l, a => endO n last l (if x.ep ≤ n then (x.ep, nx l last) else a)
def endOf (l : List Ep) (n last : Int) : Int × Int := if okE l then endO n last l (-1, 0) else (-1, 0)
def cutE (l : List Ep) (off : Int) : List Ep := if okE l then l.filter fun x => decide (x.st < off) else []
def trimF (s : Int) : List Ep → List Ep
  | [] => []
  | x :: l => if l = [] ∨ s < nx l 0 then ⟨x.ep, max x.st s⟩ :: trimF s l else trimF s l
def trimE (l : List Ep) (s : Int) : List Ep := if okE l = true ∧ 0 ≤ s ∧ s ≤ 1099511627776 then trimF s l else []
def meetG (n ea bEnd : Int) : List Ep → Int → Int
  | [], m => m
  | y :: b, m => meetG n ea bEnd b (if n = y.ep then min ea (nx b bEnd) else m)
def meetF (aEnd : Int) (b : List Ep) (bEnd : Int) : List Ep → Int → Int
  | [], m => m
  | x :: a, m => meetF aEnd b bEnd a (meetG x.ep (nx a aEnd) bEnd b m)
def meetE (a : List Ep) (aEnd : Int) (b : List Ep) (bEnd : Int) : Int := if okE a = true ∧ okE b = true then meetF aEnd b bEnd a 0 else 0
def ofE : List Ep → List (Int × Int) → List Ep
  | l, [] => l
  | l, p :: ps => ofE (if (putE l p.1 p.2).2 = 0 then (putE l p.1 p.2).1 else l) ps

theorem trimF_mem {e s0 s : Int} {l : List Ep} (h : upE e s0 l = true) : ∀ x ∈ trimF s l, s ≤ x.st ∧ s0 < x.st ∧ e < x.ep := by
  induction l generalizing e s0 with
  | nil => simp [trimF]
  | cons y l ih =>
    obtain ⟨h1, h2⟩ := upE_cons.1 h
    intro x hx
    unfold trimF at hx
    by_cases hc : l = [] ∨ s < nx l 0
    · rw [if_pos hc] at hx
      rcases List.mem_cons.1 hx with rfl | hx
      · exact ⟨by simp only; omega, by simp only; omega, h1.1⟩
      · have := ih h2 x hx; omega
    · rw [if_neg hc] at hx
      have := ih h2 x hx; omega
theorem gone {e s0 s off : Int} {l : List Ep} (h : upE e s0 l = true) (ho : s < off) : (trimF s l).filter (fun x => decide (x.st < off)) = trimF s (l.filter fun x => decide (x.st < off)) := by
  induction l generalizing e s0 with
  | nil => rfl
  | cons x l ih =>
    obtain ⟨h1, h2⟩ := upE_cons.1 h
    have i := ih h2
    have hnone : off ≤ x.st → ∀ m : List Ep, (∀ y ∈ m, x.st ≤ y.st) → m.filter (fun x => decide (x.st < off)) = [] := by
      intro hx m hm
      rw [List.filter_eq_nil_iff]
      intro y hy hd
      have := hm y hy
      have := of_decide_eq_true hd
      omega
    by_cases hx : x.st < off
    case neg =>
      rw [hnone (by omega) (x :: l) (fun y hy => by
        rcases List.mem_cons.1 hy with rfl | hy
        · exact Int.le_refl _
        · have := upE_mem h2 y hy; omega)]
      rw [hnone (by omega) _ (fun y hy => by
        have := trimF_mem (e := e) (s0 := x.st - 1) (s := s) (l := x :: l) (upE_cons.2 ⟨by omega, h2⟩) y hy
        omega)]
      rfl
    rw [List.filter_cons_of_pos (l := l) (by simpa using hx)]
    cases l with
    | nil =>
      show List.filter (fun x => decide (x.st < off)) [(⟨x.ep, max x.st s⟩ : Ep)] = [(⟨x.ep, max x.st s⟩ : Ep)]
      rw [List.filter_cons_of_pos (by simp only [decide_eq_true_eq]; omega)]
      rfl
    | cons y l =>
      obtain ⟨g1, g2⟩ := upE_cons.1 h2
      by_cases hy : y.st < off
      · rw [List.filter_cons_of_pos (by simpa using hy)] at i ⊢
        have e1 : trimF s (x :: y :: l) = if s < y.st then ⟨x.ep, max x.st s⟩ :: trimF s (y :: l) else trimF s (y :: l) := by
          conv => lhs; unfold trimF
          by_cases hc : s < y.st
          · rw [if_pos (.inr hc), if_pos hc]
          · rw [if_neg (by rintro (hh | hh); cases hh; exact hc hh), if_neg hc]
        have e2 : trimF s (x :: y :: l.filter fun x => decide (x.st < off)) = if s < y.st then ⟨x.ep, max x.st s⟩ :: trimF s (y :: l.filter fun x => decide (x.st < off)) else trimF s (y :: l.filter fun x => decide (x.st < off)) := by
          conv => lhs; unfold trimF
          by_cases hc : s < y.st
          · rw [if_pos (.inr hc), if_pos hc]
          · rw [if_neg (by rintro (hh | hh); cases hh; exact hc hh), if_neg hc]
        rw [e1, e2]
        by_cases hc : s < y.st
        · rw [if_pos hc, if_pos hc, List.filter_cons_of_pos (by simp only [decide_eq_true_eq]; omega), i]
        · rw [if_neg hc, if_neg hc, i]
      · have e3 : (y :: l).filter (fun x => decide (x.st < off)) = [] := by
          rw [List.filter_eq_nil_iff]
          intro z hz hd
          have := of_decide_eq_true hd
          rcases List.mem_cons.1 hz with rfl | hz
          · omega
          · have := upE_mem g2 z hz; omega
        have e1 : trimF s (x :: y :: l) = ⟨x.ep, max x.st s⟩ :: trimF s (y :: l) := by
          conv => lhs; unfold trimF
          rw [if_pos (.inr (by show s < y.st; omega))]
        rw [e3] at i ⊢
        rw [e1, List.filter_cons_of_pos (by simp only [decide_eq_true_eq]; omega), i]
        rfl
/-! ### where an epoch ends -/
/-! ### where two logs meet -/
def Meets (a : List Ep) (aEnd : Int) (b : List Ep) (bEnd m : Int) : Prop :=
  ((∀ x ∈ a, ∀ y ∈ b, x.ep ≠ y.ep) ∧ m = 0) ∨
  ∃ (i j : Nat) (x y : Ep), a[i]? = some x ∧ b[j]? = some y ∧ x.ep = y.ep ∧ (∀ z ∈ a, ∀ u ∈ b, z.ep = u.ep → z.ep ≤ x.ep) ∧ m = min (nx (a.drop (i + 1)) aEnd) (nx (b.drop (j + 1)) bEnd)
theorem Meets.symm {a b : List Ep} {aEnd bEnd m : Int} (h : Meets a aEnd b bEnd m) : Meets b bEnd a aEnd m := by
  rcases h with ⟨h1, h2⟩ | ⟨i, j, x, y, h1, h2, h3, h4, h5⟩
  · exact .inl ⟨fun x hx y hy he => h1 y hy x hx he.symm, h2⟩
  · exact .inr ⟨j, i, y, x, h2, h1, h3.symm, fun z hz u hu he => by have := h4 u hu z hz he.symm; omega, by omega⟩
theorem Meets.one {a b : List Ep} {aEnd bEnd m m' e s e' s' : Int} (ha : upE e s a = true) (hb : upE e' s' b = true) (h : Meets a aEnd b bEnd m) (h' : Meets a aEnd b bEnd m') : m = m' := by
  rcases h with ⟨h1, h2⟩ | ⟨i, j, x, y, h1, h2, h3, h4, h5⟩
  · rcases h' with ⟨_, g2⟩ | ⟨i, j, x, y, g1, g2, g3, _⟩
    · rw [h2, g2]
    · exact absurd g3 (h1 x (List.mem_of_getElem? g1) y (List.mem_of_getElem? g2))
  · rcases h' with ⟨g1, _⟩ | ⟨i', j', x', y', g1, g2, g3, g4, g5⟩
    · exact absurd h3 (g1 x (List.mem_of_getElem? h1) y (List.mem_of_getElem? h2))
    · have k1 := h4 x' (List.mem_of_getElem? g1) y' (List.mem_of_getElem? g2) g3
      have k2 := g4 x (List.mem_of_getElem? h1) y (List.mem_of_getElem? h2) h3
      obtain rfl := upE_one ha h1 g1 (by omega)
      obtain rfl := upE_one hb h2 g2 (by omega)
      rw [h5, g5]
end Go.Proofs.YtlfbagkonckffaaGreat.Epo

/- Epochs in memory, and as a law is handed them. -/
namespace Go.Proofs.YtlfbagkonckffaaGreat.Epo
open Go.RowKit Go.ChangeShapes Go.WideShapes Go.Deep Oct Lay RowF

def epC (x : Ep) : List Value := [.int .i64 x.ep, .int .i64 x.st]
abbrev RdE (w : World) (B : Nat) (A : Option Addr) (n : Nat) (l : List Ep) : Prop := RdF epC 2 w B A n l
instance : Lay Ep where
  sz := 2
  pos := by decide
  is _ _ cs s := cs = epC s
  len h := by rw [h]; rfl
  keep h _ := h
  more h _ := h
section
variable {H : Type} {enc : TypeId × Value → H} {W : World} {base : Nat} {v : Value} {d : DataW H} {p : List MemPlace}
end
end Go.Proofs.YtlfbagkonckffaaGreat.Epo
