/- Joined: SegMath. -/
import Derived.Test.YtmjnleohchmadaaJBatA
import Derived.Test.YtmjnleohchmadaaJRow
/- The plain mathematics of layer 7: a segment's batches. Nothing of the program. -/
namespace Go.Proofs.Ytmjnleohchmadaa.Seg
open Go.Proofs.Ytmjnleohchmadaa.Oct Go.Proofs.Ytmjnleohchmadaa.Rec Go.Proofs.Ytmjnleohchmadaa.Crc Go.Proofs.Ytmjnleohchmadaa.Bat

theorem sc_dec {l : List UInt8} (h : (grB l 0).2.2 = 0) : (l.drop (grB l 0).2.1.toNat).length < l.length := by
  rcases hg : grB l 0 with ⟨b, n, z⟩
  rw [hg] at h
  obtain rfl : z = 0 := h
  have := grB_good hg
  rw [List.length_drop]
  simp only
  omega
def sc (lo : Int) (l : List UInt8) : List Bt × Nat :=
  if _h : (grB l 0).2.2 = 0 ∧ lo ≤ (grB l 0).1.base then
    ((grB l 0).1 :: (sc ((grB l 0).1.last + 1) (l.drop (grB l 0).2.1.toNat)).1, (grB l 0).2.1.toNat + (sc ((grB l 0).1.last + 1) (l.drop (grB l 0).2.1.toNat)).2)
  else ([], 0)
termination_by l.length
decreasing_by all_goals exact sc_dec _h.1
def ris : Int → List Bt → Bool
  | _, [] => true
  | lo, b :: bs => decide (chB b = 0 ∧ lo ≤ b.base) && ris (b.last + 1) bs
def endR : Int → List Bt → Int
  | lo, [] => lo
  | _, b :: bs => endR (b.last + 1) bs
/-! ### segments -/
structure Sg where
  base : Int
  bytes : List UInt8
def nilS : Sg := ⟨0, []⟩
def batS (s : Sg) : List Bt := (sc s.base s.bytes).1
def goodS (s : Sg) : Nat := (sc s.base s.bytes).2
def endS (s : Sg) : Int := endR s.base (batS s)
def wholeS (s : Sg) : Bool := decide (0 ≤ s.base ∧ s.base ≤ 1099511627776 ∧ goodS s = s.bytes.length)
def newS (base : Int) : Sg × Int := if base < 0 ∨ 1099511627776 < base then (nilS, 1) else (⟨base, []⟩, 0)
def apS (s : Sg) (b : Bt) (limit : Int) : Sg × Int :=
  if wholeS s = false ∨ limit < 1 ∨ 4096 < limit then (nilS, 1)
  else if chB b ≠ 0 then (nilS, chB b)
  else if b.base < endS s then (nilS, 71)
  else if limit < (s.bytes.length : Int) + (byB b).length then (nilS, 70)
  else (⟨s.base, s.bytes ++ byB b⟩, 0)
def allS (limit : Int) : Sg → List Bt → Sg × Int
  | s, [] => (s, 0)
  | s, b :: bs => if (apS s b limit).2 ≠ 0 then (nilS, (apS s b limit).2) else allS limit (apS s b limit).1 bs
def ofS (base : Int) (bs : List Bt) (limit : Int) : Sg × Int :=
  if (newS base).2 ≠ 0 ∨ limit < 1 ∨ 4096 < limit then (nilS, 1) else allS limit (newS base).1 bs
def ahead (off : Int) : List Bt → List Bt
  | [] => []
  | b :: bs => if off ≤ b.last then [] else b :: ahead off bs
def cutS (s : Sg) (off : Int) : Sg := ⟨s.base, byR (ahead off (batS s))⟩
def fixS (s : Sg) : Sg × Int := (⟨s.base, s.bytes.take (goodS s)⟩, (s.bytes.length : Int) - goodS s)
theorem drop_at {l : List Bt} {k : Nat} {b : Bt} (h : l[k]? = some b) : l.drop k = b :: l.drop (k + 1) := by
  obtain ⟨hlt, hr⟩ := List.getElem?_eq_some_iff.1 h
  rw [List.drop_eq_getElem_cons hlt, hr]
end Go.Proofs.Ytmjnleohchmadaa.Seg
