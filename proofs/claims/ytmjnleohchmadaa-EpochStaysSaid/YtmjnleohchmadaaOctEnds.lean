/- A slice of bytes that came in, in the words of this layer. -/
import Derived.Test.YtmjnleohchmadaaOctMath
import Derived.Test.YtmjnleohchmadaaOctWords
import Derived.OpenShut
namespace Go.Proofs.Ytmjnleohchmadaa.Oct
open Go.RowKit

/-- a slice of bytes that came in reads as some list -/
theorem rd_of_row {w : World} {a : Option Addr} {len cap : Nat} {zs : List Int}
    (h : (a = none ∧ len = 0 ∧ cap = 0 ∧ zs = []) ∨
      ∃ x, a = some x ∧ len ≤ cap ∧ cap ≤ maxLen ∧ zs.length = cap ∧ (∀ i, i < zs.length → w.cell? (x.add i) = some (.int .u8 (zs.getD i 0))) ∧ ∀ n ∈ zs, (Lit.int .u8 n).wf = true) :
    ∃ l, Rd w w.heap.size a len l ∧ len ≤ cap := by
  rcases h with ⟨rfl, rfl, rfl, rfl⟩ | ⟨x, rfl, hl, _, hz, hcell, hwz⟩
  · exact ⟨[], Rd.nil, Nat.le_refl _⟩
  · refine ⟨(zs.take len).map fun z => UInt8.ofNat z.toNat, ⟨by simp; omega, fun k c hc => ?_⟩, hl⟩
    have hk : k < len := by
      have := (List.getElem?_eq_some_iff.1 hc).1
      simp at this
      omega
    have h0 := hcell k (by omega)
    obtain ⟨b, o, spot⟩ := x
    have hspot : spot = none := by
      rcases Nat.eq_zero_or_pos k with rfl | hp
      · simpa [Addr.add] using World.cell?_spot h0
      · have h00 := hcell 0 (by omega)
        simpa [Addr.add] using World.cell?_spot h00
    subst hspot
    rw [Addr.add_lit] at h0
    rw [List.getElem?_map, List.getElem?_take, if_pos hk, List.getElem?_eq_getElem (by omega)] at hc
    simp only [Option.map_some, Option.some.injEq] at hc
    refine ⟨b, o, rfl, World.block_lt_of_cell? w _ h0, ?_⟩
    rw [h0, ← hc]
    have hw := hwz zs[k] (List.getElem_mem _)
    have hb := bounds_u8 hw
    have e : zs.getD k 0 = zs[k] := by simp [List.getD, List.getElem?_eq_getElem (show k < zs.length by omega)]
    rw [e, ofNat_toNat' (by omega)]
    congr 2
    omega
end Go.Proofs.Ytmjnleohchmadaa.Oct
