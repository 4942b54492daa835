/- Joined: EpoR1. -/
import Derived.Test.YtmjnleohchmadaaEpoRow
import Derived.Test.YtmjnleohchmadaaEpoW
/- The document's Check, Copy, end and Put. -/
namespace Go.Proofs.Ytmjnleohchmadaa.Epo
open Go.RowKit Go.Proofs.Ytmjnleohchmadaa.Oct Go.Proofs.Ytmjnleohchmadaa.RowF Go.Proofs.Ytmjnleohchmadaa.Lay Go.Proofs.Ytmjnleohchmadaa.InR

def tb_Check4 : List (Nat × Nat) := [(0, 17592186044415), (1, 17592186044414), (2, 17592186044413), (4, 17592186044411), (8, 17592186044407), (24, 17592186044391), (40, 17592186044375), (72, 17592186044343), (136, 17592186044287), (256, 17592186044159), (768, 17592186043647), (1280, 17592186043135), (2304, 17592186042111), (4352, 17592186040319), (8192, 17592186036223), (24576, 17592186019839), (40960, 17592186003455), (73728, 17592185970687), (139264, 17592185913343), (262144, 17592185782271), (786432, 17592185257983), (1310720, 17592184733695), (2097152, 17592183947263), (6291456, 17592179752959), (2097152, 17592183947263), (2097152, 17592183947263), (35651584, 17592150392831), (85983232, 17592100061183), (136314880, 17592049729535), (270532608, 17591915511807), (547356672, 17591638687743), (1075838976, 17591110205439), (2147483648, 17590038560767), (6442450944, 17585743593471), (2147483648, 17590038560767), (2147483648, 17590038560767), (36507222016, 17555678822399), (88046829568, 17504139214847), (139586437120, 17452599607295), (277025390592, 17315160653823), (560493232128, 17031692812287), (1101661208576, 16490524835839), (2199025614848, 15393160429567), (4398046773248, 13194139271167)]
section
variable {P : Program} {ops : Array Oper} {rest : List Oper} {o : Oper} {a : Act} {Q : Exit → Act → World → Prop} {w w' : World} {vs vx v : Value}
theorem wpList_app_run9 (hgd : o.guard = none) (s x : Operand) (t : TypeId) (ho : o.op = .call { callee := .builtin .append, args := #[s, x], argTypes := #[t, t] }) (hs : a.eval s = vs) (hx : a.eval x = vx)
    (hrun : (Builtin.append_ #[t, t] o.type #[vs, vx]).run P w = .ok v w') (h : wpList P ops Q rest (a.put o.dst v) w') : wpList P ops Q (o :: rest) a w := by
  refine wpList_plain hgd fun K hK => ?_
  unfold Oper.wp execOp
  simp only [ho, resolve, invoke, builtin, Sem.run_bind, Sem.run_pure, Result.andThen_ok, List.map_toArray, List.map_cons, List.map_nil, hs, hx, hrun]
  exact hK _ _ h
end
def prvE (l : List Ep) : Nat → Int × Int
  | 0 => (-1, -1)
  | k + 1 => match l[k]? with | some y => (y.ep, y.st) | none => (-1, -1)
def ckRelE (l : List Ep) (n : Nat) (w : World) (iv : Value) (wr : World) : Prop :=
  ∃ k : Nat, iv = .int .i64 (k : Int) ∧ k ≤ n ∧ okE l = upE (prvE l k).1 (prvE l k).2 (l.drop k) ∧ (-1 ≤ (prvE l k).1 ∧ -1 ≤ (prvE l k).2) ∧ Below w.heap.size w wr
end Go.Proofs.Ytmjnleohchmadaa.Epo
