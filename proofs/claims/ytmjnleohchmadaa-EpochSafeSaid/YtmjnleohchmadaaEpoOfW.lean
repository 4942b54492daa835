/- Joined: EpoOfW. -/
import Derived.Test.YtmjnleohchmadaaEpoW
import Derived.Test.YtmjnleohchmadaaBatRow
/- Words for Of. -/
namespace Go.Proofs.Ytmjnleohchmadaa.Epo
open Go.RowKit Go.Proofs.Ytmjnleohchmadaa.Oct Go.Proofs.Ytmjnleohchmadaa.RowF Go.Proofs.Ytmjnleohchmadaa.Lay Go.Proofs.Ytmjnleohchmadaa.InR Go.Proofs.Ytmjnleohchmadaa.Bat

theorem ofE_cons {l : List Ep} {p : Int × Int} {ps : List (Int × Int)} : ofE l (p :: ps) = ofE (if (putE l p.1 p.2).2 = 0 then (putE l p.1 p.2).1 else l) ps := rfl
theorem rdtUp9 {w w' : World} {A : Option Addr} {n : Nat} {l : List Bt} (h : RdT w w.heap.size A n l) (hb : Below w.heap.size w w') : RdT w' w'.heap.size A n l := (h.below hb (Nat.le_refl _)).more hb.size
def psB (bs : List Bt) : List (Int × Int) := bs.map fun b => (b.epoch, b.base)
theorem psB_at {bs : List Bt} {k : Nat} {x : Bt} (hk : bs[k]? = some x) : (psB bs).drop k = (x.epoch, x.base) :: (psB bs).drop (k + 1) := by
  have h : (psB bs)[k]? = some (x.epoch, x.base) := by unfold psB; rw [List.getElem?_map, hk]; rfl
  rw [List.drop_eq_getElem_cons (List.getElem?_eq_some_iff.1 h).1, (List.getElem?_eq_some_iff.1 h).2]
end Go.Proofs.Ytmjnleohchmadaa.Epo
