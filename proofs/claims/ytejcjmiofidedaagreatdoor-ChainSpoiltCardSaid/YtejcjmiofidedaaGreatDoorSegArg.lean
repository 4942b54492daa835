/- Joined: SegArg. -/
import Derived.Test.YtejcjmiofidedaaGreatDoorJBatA
/- A segment as a law is handed it. -/
namespace Go.Proofs.YtejcjmiofidedaaGreatDoor.Seg
open Go.RowKit Go.ChangeShapes Go.WideShapes Go.Deep Oct Lay

theorem list_of2 {l : List Value} {u0 u1 : Value} (hl : l.length = 2) (c0 : l[0]? = some u0) (c1 : l[1]? = some u1) : l = [u0, u1] := by
  match l, hl with
  | [_, _], _ =>
    simp only [List.getElem?_cons_zero, List.getElem?_cons_succ, Option.some.injEq] at c0 c1
    rw [c0, c1]
theorem opens_raw : Opens1 Tryz.prog 57 (List UInt8) := opens_slice (α := UInt8) Tryz.underlying57 (by kernel_rfl) (of_decide_eq_true (by kernel_rfl)) (opens_byte Tryz.underlying5)
end Go.Proofs.YtejcjmiofidedaaGreatDoor.Seg
