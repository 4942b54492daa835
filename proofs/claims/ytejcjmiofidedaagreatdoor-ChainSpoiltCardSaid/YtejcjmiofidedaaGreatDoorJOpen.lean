/- Joined: OpenU8. -/
import Derived.Test.YtejcjmiofidedaaGreatDoorJOct
/- What a law's frame opens: a byte. -/
namespace Go.Proofs.YtejcjmiofidedaaGreatDoor.Oct
open Go.RowKit Go.ChangeShapes Go.WideShapes Go.Deep
section
variable {H : Type} {enc : TypeId × Value → H} {P : Program} {W : World} {base : Nat} {v : Value} {d : DataW H} {p : List MemPlace} {t e : TypeId}
theorem open_u8 (ht : P.underlying t = some (.int .u8)) (hv : Value.okWide P W .any base t v) (h : DataW.Trod enc P W 0 (fun _ => true) true t v d p) : ∃ b : UInt8, v = .int .u8 (b.toNat : Int) := by
  obtain ⟨a, rfl, _, _, hw⟩ := open_int ht hv h
  have hb := bounds_u8 hw
  refine ⟨UInt8.ofNat a.toNat, ?_⟩
  have : ((UInt8.ofNat a.toNat).toNat : Int) = a := by
    rw [UInt8.toNat_ofNat']
    omega
  rw [this]
end
end Go.Proofs.YtejcjmiofidedaaGreatDoor.Oct
