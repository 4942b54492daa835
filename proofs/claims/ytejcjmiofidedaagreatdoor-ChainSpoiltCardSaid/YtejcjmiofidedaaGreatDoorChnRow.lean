/- Joined: ChnRow. -/
import Derived.Test.YtejcjmiofidedaaGreatDoorJChnM
import Derived.Test.YtejcjmiofidedaaGreatDoorBatRow
import Derived.Test.YtejcjmiofidedaaGreatDoorSegAt
import Derived.Test.YtejcjmiofidedaaGreatDoorJSegW
/- Rows of segments: one that reads as a list of segments, and one of the call's own whose bytes lie anywhere; one segment more, as a run. -/
namespace Go.Proofs.YtejcjmiofidedaaGreatDoor.Chn
open Go.RowKit Oct Rec Crc Bat Seg Lay RowF RowL

abbrev GX := Sg × Option Addr × Nat × Nat
def segC (x : GX) : List Value := [.int .i64 x.1.base, .slice x.2.1 x.2.2.1 x.2.2.2]
theorem segSh : Shape segC 2 := ⟨fun _ => rfl, fun x u hu => by
  simp only [segC, List.mem_cons, List.not_mem_nil, or_false] at hu
  rcases hu with rfl | rfl <;> rfl, by decide⟩
theorem segInfo : Info Tryz.prog 59 2 32 := by
  have h : (Tryz.prog.info? 59).map (fun i => (i.zero, i.size, i.bytes)) = some (some (.agg #[.int .i64 0, .slice none 0 0]), 2, 32) := by kernel_rfl
  obtain ⟨i, hi, hz, hs, hb⟩ := info_parts h
  exact ⟨i, _, hi, hz, hs, hb, rfl⟩
def gMax : Nat := 1000000
def RdG (w : World) (B : Nat) (A : Option Addr) (n : Nat) (l : List Sg) : Prop :=
  l.length = n ∧ ∀ k x, l[k]? = some x → ∃ b o A' n' c', A = some ⟨b, o, none⟩ ∧ b < B ∧ n' ≤ c' ∧ n' ≤ gMax ∧ Rd w B A' n' x.bytes ∧ I64 x.base ∧ w.cell? ⟨b, o + k * 2, none⟩ = some (.int .i64 x.base) ∧ w.cell? ⟨b, o + k * 2 + 1, none⟩ = some (.slice A' n' c')
section
variable {w w' : World} {B B' n : Nat} {A : Option Addr} {l : List Sg}
theorem RdG.len (h : RdG w B A n l) : l.length = n := h.1
theorem RdG.nil : RdG w B A 0 [] := ⟨rfl, by simp⟩
theorem RdG.keep (h : RdG w B A n l) (hk : ∀ p : Addr, p.block < B → w'.cell? p = w.cell? p) : RdG w' B A n l :=
  ⟨h.1, fun k x hx => by
    obtain ⟨b, o, A', n', c', h1, h2, h3, h4, h5, h6, h7, h8⟩ := h.2 k x hx
    exact ⟨b, o, A', n', c', h1, h2, h3, h4, h5.keep hk, h6, (hk _ h2).trans h7, (hk _ h2).trans h8⟩⟩
theorem RdG.more (h : RdG w B A n l) (hB : B ≤ B') : RdG w B' A n l :=
  ⟨h.1, fun k x hx => by
    obtain ⟨b, o, A', n', c', h1, h2, h3, h4, h5, h6⟩ := h.2 k x hx
    exact ⟨b, o, A', n', c', h1, by omega, h3, h4, h5.more hB, h6⟩⟩
theorem RdG.below (h : RdG w B A n l) (hb : Below B' w w') (hB : B ≤ B') : RdG w' B A n l := h.keep fun _ hp => hb.cell (by omega)
theorem rdgUp (h : RdG w w.heap.size A n l) (hb : Below w.heap.size w w') : RdG w' w'.heap.size A n l := (h.below hb (Nat.le_refl _)).more hb.size
theorem RdG.at {k : Nat} (h : RdG w B A n l) (hk : k < n) : ∃ b o x A' n' c', A = some ⟨b, o, none⟩ ∧ b < B ∧ l[k]? = some x ∧ n' ≤ c' ∧ n' ≤ gMax ∧ Rd w B A' n' x.bytes ∧ I64 x.base ∧ w.cell? ⟨b, o + k * 2, none⟩ = some (.int .i64 x.base) ∧ w.cell? ⟨b, o + k * 2 + 1, none⟩ = some (.slice A' n' c') := by
  have hl : k < l.length := by have := h.1; omega
  obtain ⟨b, o, A', n', c', h1, h2, h3⟩ := h.2 k l[k] (List.getElem?_eq_getElem hl)
  exact ⟨b, o, l[k], A', n', c', h1, h2, List.getElem?_eq_getElem hl, h3⟩
theorem RdG.small (h : RdG w B A n l) : ∀ s ∈ l, s.bytes.length ≤ gMax := fun s hs => by
  obtain ⟨k, hk⟩ := List.mem_iff_getElem?.1 hs
  obtain ⟨b, o, A', n', c', _, _, _, h4, h5, _⟩ := h.2 k s hk
  have := h5.len
  omega
theorem RdG.take {m : Nat} (h : RdG w B A n l) (hm : m ≤ n) : RdG w B A m (l.take m) := by
  refine ⟨by have := h.1; rw [List.length_take]; omega, fun k x hx => h.2 k x ?_⟩
  rw [List.getElem?_take] at hx
  split at hx
  · exact hx
  · cases hx
theorem RdG.drop {m : Nat} (h : RdG w B A n l) (hm : m ≤ n) {A' : Option Addr} (hA : m < n → A' = A.map fun a => a.add (m * 2)) : RdG w B A' (n - m) (l.drop m) := by
  refine ⟨by have := h.1; rw [List.length_drop]; omega, fun k x hx => ?_⟩
  rw [List.getElem?_drop] at hx
  have hlt := (List.getElem?_eq_some_iff.1 hx).1
  obtain ⟨b, o, A2, n', c', h1, h2, h3, h4, h5, h6, h7, h8⟩ := h.2 _ x hx
  have h0 := h.1
  refine ⟨b, o + m * 2, A2, n', c', ?_, h2, h3, h4, h5, h6, ?_, ?_⟩
  · rw [hA (by omega), h1]; simp [Addr.add]
  · rw [show o + m * 2 + k * 2 = o + (m + k) * 2 by omega]; exact h7
  · rw [show o + m * 2 + k * 2 = o + (m + k) * 2 by omega]; exact h8
end
def LeadG (w : World) (P : Nat → Prop) (row : Option Nat) (x : GX) : Prop :=
  Rd w w.heap.size x.2.1 x.2.2.1 x.1.bytes ∧ x.2.2.1 ≤ x.2.2.2 ∧ x.2.2.1 ≤ gMax ∧ I64 x.1.base ∧ ∀ a, x.2.1 = some a → 0 < x.2.2.1 → P a.block ∧ some a.block ≠ row
def OwnG (w : World) (e : TypeId) (P : Nat → Prop) (B : Nat) (v : Value) (n : Nat) (L : List Sg) : Prop :=
  ∃ hs : List GX, OwnF segC 2 w e B v n hs ∧ hs.map (·.1) = L ∧ ∀ x ∈ hs, LeadG w P v.ownBlock x
section
variable {w w' : World} {P P' : Nat → Prop} {B B' n c : Nat} {A : Option Addr} {L M : List Sg} {e : TypeId} {v : Value} {row row' : Option Nat} {x : GX}
theorem LeadG.keep (k : LeadG w P row x) (hs : w.heap.size ≤ w'.heap.size) (hk : ∀ b o, b < w.heap.size → P b → some b ≠ row → w'.cell? ⟨b, o, none⟩ = w.cell? ⟨b, o, none⟩) : LeadG w' P row x := by
  obtain ⟨⟨k0, k1⟩, k2, k3, k4, k5⟩ := k
  refine ⟨⟨k0, fun i r hr => ?_⟩, k2, k3, k4, k5⟩
  obtain ⟨b, o, hA, hb, h0⟩ := k1 i r hr
  have hn : 0 < x.2.2.1 := by have := (List.getElem?_eq_some_iff.1 hr).1; omega
  obtain ⟨p1, p2⟩ := k5 _ hA hn
  exact ⟨b, o, hA, by omega, (hk b _ hb p1 p2).trans h0⟩
theorem LeadG.grown (k : LeadG w P row x) (hg : w.grownBy w' row) : LeadG w' P row x :=
  k.keep hg.size fun b _ hb _ h2 => World.cell?_of_block (hg.block b hb h2)
theorem LeadG.below (k : LeadG w P row x) (hb : Below w.heap.size w w') : LeadG w' P row x := k.keep hb.size fun _ _ h1 _ _ => hb.cell h1
theorem LeadG.atRow (k : LeadG w P row x) (hr : row' = row ∨ row' = some w.heap.size) : ∀ a, x.2.1 = some a → 0 < x.2.2.1 → P a.block ∧ some a.block ≠ row' := by
  obtain ⟨k1, k2, k3, k4, k5⟩ := k
  refine fun a ha hn => ⟨(k5 a ha hn).1, ?_⟩
  rcases hr with rfl | rfl
  · exact (k5 a ha hn).2
  · intro he
    obtain ⟨b, o, c, hA, hb, _⟩ := k1.at hn
    rw [ha] at hA
    obtain rfl := Option.some.inj hA
    injection he with he
    simp only at he
    omega
theorem LeadG.step (k : LeadG w P row x) (hg : w.grownBy w' row) (hr : row' = row ∨ row' = some w.heap.size) : LeadG w' P row' x := by
  obtain ⟨k1, k2, k3, k4, _⟩ := k.grown hg
  exact ⟨k1, k2, k3, k4, k.atRow hr⟩
theorem OwnG.len (k : OwnG w e P B v n L) : L.length = n := by
  obtain ⟨hs, h1, h2, _⟩ := k
  rw [← h2, List.length_map]
  exact h1.len segSh
theorem OwnG.cap (k : OwnG w e P B (.slice A n c) n L) : n ≤ c := by
  obtain ⟨hs, h1, _⟩ := k
  exact h1.cap
theorem OwnG.nil : OwnG w e P B (.slice none 0 0) 0 [] := ⟨[], OwnF.nil, rfl, by simp⟩
theorem OwnG.below (k : OwnG w e P B v n L) (hb : Below w.heap.size w w') : OwnG w' e P B v n L := by
  obtain ⟨hs, h1, h2, h3⟩ := k
  exact ⟨hs, h1.below hb, h2, fun x hx => (h3 x hx).below hb⟩
theorem OwnG.more (k : OwnG w e P B v n L) (hB : B' ≤ B) (hl : ∀ b, P b → P' b) : OwnG w e P' B' v n L := by
  obtain ⟨hs, h1, h2, h3⟩ := k
  exact ⟨hs, h1.more hB, h2, fun x hx => ⟨(h3 x hx).1, (h3 x hx).2.1, (h3 x hx).2.2.1, (h3 x hx).2.2.2.1, fun a ha hn => ⟨hl _ ((h3 x hx).2.2.2.2 a ha hn).1, ((h3 x hx).2.2.2.2 a ha hn).2⟩⟩⟩
theorem OwnG.drew (k : OwnG w e P B v n L) : OwnG w.drew e P B v n L := k
theorem OwnG.alloc (k : OwnG w e P B v n L) (o : Obj) : OwnG (w.alloc o) e P B v n L := k.below ((Below.refl _ _).alloc (Nat.le_refl _) o)
theorem OwnG.lt (k : OwnG w e P B v n L) : ∀ g, v.ownBlock = some g → B ≤ g ∧ g < w.heap.size := by
  obtain ⟨hs, h1, _⟩ := k
  exact World.ownsRow.lt h1
theorem OwnG.rd (k : OwnG w e P B (.slice A n c) n L) : RdG w w.heap.size A n L := by
  obtain ⟨hs, h1, rfl, h3⟩ := k
  refine ⟨by rw [List.length_map]; exact h1.len segSh, fun i l hl => ?_⟩
  rw [List.getElem?_map] at hl
  cases hx : hs[i]? with
  | none => rw [hx] at hl; cases hl
  | some x =>
    rw [hx] at hl
    obtain rfl : x.1 = l := Option.some.inj hl
    obtain ⟨b, o, hA, hb, hcell⟩ := (h1.rd segSh).2 i _ hx
    obtain ⟨k1, k2, k3, k4, _⟩ := h3 x (List.mem_of_getElem? hx)
    exact ⟨b, o, x.2.1, x.2.2.1, x.2.2.2, hA, hb, k2, k3, k1, k4, hcell 0 _ rfl, hcell 1 _ rfl⟩
theorem OwnG.off (h : OwnG w e P B v n L) {p : Addr} (hv : v.ownBlock ≠ some p.block) (hR : ∀ b, P b → b ≠ p.block) (u : Value) : OwnG (w.setCell p u) e P B v n L := by
  obtain ⟨hs, h1, h2, h3⟩ := h
  exact ⟨hs, World.ownsRow.kept h1 (grownBy_set w p u) (.inr hv), h2, fun x hx => (h3 x hx).keep (by simp) fun b o _ hb _ => cell_off (by simpa using hR b hb)⟩
theorem leadG_of {s : Sg} {n1 c1 : Nat} {A1 : Option Addr} (hr : Rd w B' A1 n1 s.bytes) (hB : B' ≤ w.heap.size) (hc : n1 ≤ c1) (hn : n1 ≤ gMax) (hI : I64 s.base) (hrow : ∀ g, row = some g → B' ≤ g) : LeadG w (fun g => g < B') row (s, A1, n1, c1) := by
  refine ⟨hr.more hB, hc, hn, hI, fun a ha hn0 => ?_⟩
  obtain ⟨g, o, r, hA, hg, _⟩ := hr.at (k := 0) hn0
  rw [hA] at ha
  obtain rfl := Option.some.inj ha
  refine ⟨hg, fun he => ?_⟩
  have h9 := hrow g he.symm
  omega
theorem leadG_own {s : Sg} {n1 c1 : Nat} {A1 : Option Addr} {e8 : TypeId} (ho : OwnB w e8 B (.slice A1 n1 c1) n1 s.bytes) (hn : n1 ≤ gMax) (hI : I64 s.base) (hB : B' ≤ B) (hrow : ∀ g, row = some g → g < B) : LeadG w (fun b => B' ≤ b) row (s, A1, n1, c1) := by
  refine ⟨ho.rd, ho.cap, hn, hI, fun a ha hn0 => ?_⟩
  simp only at ha hn0
  rcases ho.2 with ⟨hv, hz⟩ | ⟨g, cap, cur, hv, hb, _⟩
  · injection hv with _ h2; omega
  · injection hv with h1
    rw [ha] at h1
    obtain rfl := Option.some.inj h1
    refine ⟨Nat.le_trans hB hb, fun he => ?_⟩
    have := hrow _ he.symm
    simp only at this
    omega
end
theorem run_appG {P : Program} {R : Nat → Prop} {w : World} (base : Nat) (t ty e : TypeId) (ht : P.underlying t = some (.slice e)) (hI : Info P e 2 32) {v : Value} {n : Nat} {L : List Sg} (hown : OwnG w e R base v n L)
    {x : GX} (hl : LeadG w R v.ownBlock x) (hb : n < 1099511627776) (hbase : base ≤ w.heap.size) :
    ∃ A' c' w', (Builtin.append_ #[t, t] ty #[v, .slice (some ⟨w.heap.size, 0, none⟩) 1 1]).run P (w.alloc (.cells (segC x).toArray e)) = .ok (.slice A' (n + 1) c') w' ∧ OwnG w' e R base (.slice A' (n + 1) c') (n + 1) (L ++ [x.1]) ∧ (w.alloc (.cells (segC x).toArray e)).grownBy w' v.ownBlock ∧
      ((Value.slice A' (n + 1) c').ownBlock = v.ownBlock ∨ (Value.slice A' (n + 1) c').ownBlock = some (w.heap.size + 1)) ∧ Below base w w' := by
  have hbel : Below w.heap.size w (w.alloc (.cells (segC x).toArray e)) := (Below.refl _ _).alloc (Nat.le_refl _) _
  obtain ⟨hs0, h1, h2, h3⟩ := hown.below hbel
  obtain ⟨A', c', w', k1, k2, k3, k4⟩ := run_appFG (P := P) (w.alloc (.cells (segC x).toArray e)) segSh 32 base t ty e ht hI v n hs0 h1 _ (some ⟨w.heap.size, 0, none⟩) 1 1 [x] (rdF_new w segSh e x) (by omega) (by omega) (Nat.le_trans hbase hbel.size)
  refine ⟨A', c', w', k1, ⟨hs0 ++ [x], k2, by rw [List.map_append, h2]; rfl, fun y hy => ?_⟩, k3, by simpa using k4, ((Below.refl base w).alloc hbase _).trans (below_of_grown (w.alloc (.cells (segC x).toArray e)) h1 k3 (Nat.le_trans hbase hbel.size))⟩
  rcases List.mem_append.1 hy with h9 | h9
  · exact (h3 y h9).step k3 k4
  · obtain rfl : y = x := by simpa using h9
    exact (hl.below hbel).step k3 k4
theorem rdF_of_rdG {w : World} {B n : Nat} {A : Option Addr} {l : List Sg} (h : RdG w B A n l) : ∃ hs : List GX, RdF segC 2 w B A n hs ∧ hs.map (·.1) = l ∧ ∀ x ∈ hs, x.2.2.1 ≤ x.2.2.2 ∧ x.2.2.1 ≤ gMax ∧ Rd w B x.2.1 x.2.2.1 x.1.bytes ∧ I64 x.1.base := by
  have hx : ∀ k : Fin l.length, ∃ y : GX, y.1 = l[k] ∧ (∃ b o, A = some ⟨b, o, none⟩ ∧ b < B ∧ ∀ i u, (segC y)[i]? = some u → w.cell? ⟨b, o + k.1 * 2 + i, none⟩ = some u) ∧ y.2.2.1 ≤ y.2.2.2 ∧ y.2.2.1 ≤ gMax ∧ Rd w B y.2.1 y.2.2.1 y.1.bytes ∧ I64 y.1.base := by
    intro k
    obtain ⟨b, o, A', n', c', h1, h2, h3, h4, h5, h6, h7, h8⟩ := h.2 k.1 l[k] (List.getElem?_eq_getElem k.2)
    refine ⟨(l[k], A', n', c'), rfl, ⟨b, o, h1, h2, fun i u hu => ?_⟩, h3, h4, h5, h6⟩
    match i, hu with
    | 0, hu => obtain rfl := Option.some.inj hu; exact h7
    | 1, hu => obtain rfl := Option.some.inj hu; exact h8
  refine ⟨List.ofFn fun k => Classical.choose (hx k), ⟨by rw [List.length_ofFn]; exact h.1, fun k x hk => ?_⟩, ?_, fun x hm => ?_⟩
  · rw [List.getElem?_ofFn] at hk
    split at hk
    · rename_i hlt
      obtain rfl := Option.some.inj hk
      obtain ⟨_, ⟨b, o, h1, h2, h3⟩, _⟩ := Classical.choose_spec (hx ⟨k, hlt⟩)
      exact ⟨b, o, h1, h2, h3⟩
    · cases hk
  · refine List.ext_getElem? fun k => ?_
    rw [List.getElem?_map, List.getElem?_ofFn]
    split
    · rename_i hlt
      rw [Option.map_some, (Classical.choose_spec (hx ⟨k, hlt⟩)).1]
      exact (List.getElem?_eq_getElem hlt).symm
    · rename_i hlt
      rw [List.getElem?_eq_none (by omega)]
      rfl
  · obtain ⟨k, hk⟩ := List.mem_ofFn.1 hm
    rw [← hk]
    exact (Classical.choose_spec (hx k)).2.2
end Go.Proofs.YtejcjmiofidedaaGreatDoor.Chn
