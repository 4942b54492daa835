/- Joined: SegX. -/
import Derived.Test.YtgjbfhmfhmihhaaDoorSegW
import Derived.Test.YtgjbfhmfhmihhaaDoorJOct
import Derived.Test.YtgjbfhmfhmihhaaDoorBatRow
/- What a segment's box and a row of batches of the call's own keep, while the box is stored into and the row grows; two rows of batches as one. -/
namespace Go.Proofs.YtgjbfhmfhmihhaaDoor.Seg
open Go.RowKit Go.Proofs.YtgjbfhmfhmihhaaDoor.Oct Go.Proofs.YtgjbfhmfhmihhaaDoor.Rec Go.Proofs.YtgjbfhmfhmihhaaDoor.Crc Go.Proofs.YtgjbfhmfhmihhaaDoor.Bat Go.Proofs.YtgjbfhmfhmihhaaDoor.Lay Go.Proofs.YtgjbfhmfhmihhaaDoor.RowF

def At2 (W : World) (g : Nat) (cs : List Value) : Prop := g < W.heap.size ∧ ∀ j v, cs[j]? = some v → W.cell? ⟨g, j, none⟩ = some v ∧ W.frozen? ⟨g, j, none⟩ = false
section
variable {W X : World} {g : Nat} {cs : List Value} {e : TypeId} {row : Option Nat}
theorem At2.of (h : At0 W g cs e) : At2 W g cs := ⟨h.lt, fun j _v hv => ⟨(h.cell j).trans hv, h.frozen j⟩⟩
theorem At2.below (h : At2 W g cs) (hb : Below W.heap.size W X) : At2 X g cs :=
  ⟨Nat.lt_of_lt_of_le h.1 hb.size, fun j v hv => ⟨(hb.cell (p := ⟨g, j, none⟩) h.1).trans (h.2 j v hv).1, (hb.frozen (p := ⟨g, j, none⟩) h.1).trans (h.2 j v hv).2⟩⟩
theorem At2.kept (h : At2 W g cs) (hg : W.grownBy X row) (hne : some g ≠ row) : At2 X g cs :=
  ⟨Nat.lt_of_lt_of_le h.1 hg.size, fun j v hv => ⟨(World.cell?_of_block (a := ⟨g, j, none⟩) (hg.block g h.1 hne)).trans (h.2 j v hv).1, (World.frozen?_of_block (a := ⟨g, j, none⟩) (hg.block g h.1 hne)).trans (h.2 j v hv).2⟩⟩
theorem At2.off (h : At2 W g cs) {p : Addr} (hne : g ≠ p.block) (u : Value) : At2 (W.setCell p u) g cs :=
  ⟨by simpa using h.1, fun j v hv => ⟨(cell_off (by simpa using hne)).trans (h.2 j v hv).1, by rw [World.frozen?_setCell]; exact (h.2 j v hv).2⟩⟩
theorem At2.put2 {u v u' v' : Value} (h : At2 W g [u, v]) : At2 ((W.setCell ⟨g, 0, none⟩ u').setCell ⟨g, 1, none⟩ v') g [u', v'] := by
  have h0 := h.2 0 _ rfl
  have h1 := h.2 1 _ rfl
  refine ⟨by simpa using h.1, fun j x hx => ?_⟩
  rw [World.frozen?_setCell, World.frozen?_setCell]
  match j, hx with
  | 0, hx => obtain rfl : u' = x := Option.some.inj hx; exact ⟨by simp [go_sem, h0.1], h0.2⟩
  | 1, hx => obtain rfl : v' = x := Option.some.inj hx; exact ⟨by simp [go_sem, h1.1], h1.2⟩
end
theorem grownBy_set (W : World) (p : Addr) (u : Value) : W.grownBy (W.setCell p u) (some p.block) :=
  ⟨rfl, rfl, rfl, by simp, fun k _ hne => Below.heap_setCell _ _ _ _ fun h => hne (by rw [h])⟩
theorem ownT_off {w : World} {e : TypeId} {R : Nat → Prop} {B : Nat} {v : Value} {n : Nat} {L : List Bt} (h : OwnT w e R B v n L) {p : Addr} (hv : v.ownBlock ≠ some p.block) (hR : ∀ b, R b → b ≠ p.block) (u : Value) : OwnT (w.setCell p u) e R B v n L := by
  obtain ⟨hs, h1, h2, h3⟩ := h
  exact ⟨hs, World.ownsRow.kept h1 (grownBy_set w p u) (.inr hv), h2, fun x hx => (h3 x hx).keep (by simp) fun b o _ hb _ => cell_off (by simpa using hR b hb)⟩
theorem grownNil {W X : World} {n c : Nat} (h : W.grownBy X (Value.slice none n c).ownBlock) : Below W.heap.size W X := ⟨h.os, h.tape, h.output, h.size, fun k hk => h.block k hk (by intro h9; cases h9)⟩
theorem lead_rd {w : World} {B : Nat} {b : Bt} {A : Option Addr} {n c : Nat} {row : Option Nat} (hr : RdR w B A n b.recs) (hB : B ≤ w.heap.size) (hc : n ≤ c) (hn : n ≤ 1099511627776) (hf : Fits b) (hrow : ∀ g, row = some g → B ≤ g) : LeadT w (fun g => g < B) row (b, A, n, c) := by
  refine ⟨hr.more hB, hc, hn, hf, fun a ha hn0 => ?_⟩
  obtain ⟨g, o, r, hA, hg, _⟩ := hr.at (k := 0) hn0
  rw [hA] at ha
  obtain rfl := Option.some.inj ha
  refine ⟨hg, fun he => ?_⟩
  have h9 := hrow g he.symm
  omega
theorem rdF_of_rdT {w : World} {B n : Nat} {A : Option Addr} {l : List Bt} (h : RdT w B A n l) : ∃ hs : List BX, RdF batC 10 w B A n hs ∧ hs.map (·.1) = l ∧ ∀ x ∈ hs, x.2.2.1 ≤ x.2.2.2 ∧ x.2.2.1 ≤ 1099511627776 ∧ RdR w B x.2.1 x.2.2.1 x.1.recs ∧ Fits x.1 := by
  have hx : ∀ k : Fin l.length, ∃ y : BX, y.1 = l[k] ∧ (∃ b o, A = some ⟨b, o, none⟩ ∧ b < B ∧ ∀ i u, (batC y)[i]? = some u → w.cell? ⟨b, o + k.1 * 10 + i, none⟩ = some u) ∧ y.2.2.1 ≤ y.2.2.2 ∧ y.2.2.1 ≤ 1099511627776 ∧ RdR w B y.2.1 y.2.2.1 y.1.recs ∧ Fits y.1 := by
    intro k
    obtain ⟨b, o, A', n', c', h1, h2, h3, h4, h5, h6, h7⟩ := h.2 k.1 l[k] (List.getElem?_eq_getElem k.2)
    exact ⟨(l[k], A', n', c'), rfl, ⟨b, o, h1, h2, h7⟩, h3, h4, h5, h6⟩
  refine ⟨List.ofFn fun k => Classical.choose (hx k), ⟨by rw [List.length_ofFn]; exact h.1, fun k x hk => ?_⟩, ?_, fun x hm => ?_⟩
  · rw [List.getElem?_ofFn] at hk
    split at hk
    · rename_i hlt
      obtain rfl := Option.some.inj hk
      obtain ⟨_, ⟨b, o, h1, h2, h3⟩, _⟩ := Classical.choose_spec (hx ⟨k, hlt⟩)
      exact ⟨b, o, h1, h2, h3⟩
    · cases hk
  · refine List.ext_getElem? fun k => ?_
    rw [List.getElem?_map, List.getElem?_ofFn]
    split
    · rename_i hlt
      rw [Option.map_some, (Classical.choose_spec (hx ⟨k, hlt⟩)).1]
      exact (List.getElem?_eq_getElem hlt).symm
    · rename_i hlt
      rw [List.getElem?_eq_none (by omega)]
      rfl
  · obtain ⟨k, hk⟩ := List.mem_ofFn.1 hm
    rw [← hk]
    exact (Classical.choose_spec (hx k)).2.2
theorem rdT_of_rdF {w : World} {B n : Nat} {A : Option Addr} {hs : List BX} (h : RdF batC 10 w B A n hs) (hx : ∀ x ∈ hs, x.2.2.1 ≤ x.2.2.2 ∧ x.2.2.1 ≤ 1099511627776 ∧ RdR w B x.2.1 x.2.2.1 x.1.recs ∧ Fits x.1) : RdT w B A n (hs.map (·.1)) := by
  refine ⟨by rw [List.length_map]; exact h.1, fun k x hk => ?_⟩
  rw [List.getElem?_map] at hk
  obtain ⟨y, hy, rfl⟩ := Option.map_eq_some_iff.1 hk
  obtain ⟨b, o, h1, h2, h3⟩ := h.2 k y hy
  obtain ⟨g1, g2, g3, g4⟩ := hx y (List.mem_of_getElem? hy)
  exact ⟨b, o, y.2.1, y.2.2.1, y.2.2.2, h1, h2, g1, g2, g3, g4, h3⟩
end Go.Proofs.YtgjbfhmfhmihhaaDoor.Seg
