/- Joined: IdxW. -/
import Derived.Test.YtbnkfljkojhkoaaGreatDoorIdxD
import Derived.Test.YtbnkfljkojhkoaaGreatDoorIdxS
import Derived.Test.YtbnkfljkojhkoaaGreatDoorJSegW
/- Words for the walks of layer 8's laws. -/
namespace Go.Proofs.YtbnkfljkojhkoaaGreatDoor.Idx
open Go.RowKit Oct Rec Crc Bat Seg RowF

theorem Since_is (A : Option Addr) (n c : Nat) (base : Int) (bs : List UInt8) (A2 : Option Addr) (n2 c2 : Nat) (l : List En) (st : Int) {o9 e9 : Int} (hf : sinceX ⟨base, bs⟩ l st = (o9, e9)) (w : World) (hr : Rd w w.heap.size A n bs) (hc : n ≤ c) (hr2 : RdE w w.heap.size A2 n2 l) (hc2 : n2 ≤ c2) (hn2 : n2 ≤ 1099511627776) (hI : I64 base) (ht : Tab w) :
    Calls Tryz.prog 14 #[.agg #[.int .i64 base, .slice A n c], .slice A2 n2 c2, .int .i64 st] w fun e w' => e = .returned (.tuple #[.int .i64 o9, .int .i64 e9]) ∧ Below w.heap.size w w' := by
  by_cases h : ckX ⟨base, bs⟩ l = 0
  · exact callsIn_wide.1 (Since_in A n c base bs A2 n2 c2 l st h hf w hr hc hr2 hc2 hn2 hI ht)
  · have e := hf.symm.trans (sinceX_bad rfl h)
    injection e with e1 e2
    subst e1 e2
    exact Since_bad A n c base bs A2 n2 c2 l st rfl h w hr hc hr2 hn2 hI ht
theorem Find_is (A : Option Addr) (n c : Nat) (base : Int) (bs : List UInt8) (A2 : Option Addr) (n2 c2 : Nat) (l : List En) (off : Int) {ba la fr ep pi ge se : Int} {tx : Bool} {ct : Int} {rs : List Rc} {z : Int} (hf : findX ⟨base, bs⟩ l off = (⟨ba, la, fr, ep, pi, ge, se, tx, ct, rs⟩, z)) (w : World) (hr : Rd w w.heap.size A n bs) (hc : n ≤ c) (hr2 : RdE w w.heap.size A2 n2 l) (hc2 : n2 ≤ c2) (hn2 : n2 ≤ 1099511627776) (hI : I64 base) (ht : Tab w) :
    Calls Tryz.prog 12 #[.agg #[.int .i64 base, .slice A n c], .slice A2 n2 c2, .int .i64 off] w fun e w' => ∃ A1 n1 c1, e = .returned (.tuple #[.agg #[.int .i64 ba, .int .i64 la, .int .i64 fr, .int .i64 ep, .int .i64 pi, .int .i64 ge, .int .i64 se, .bool tx, .int .i64 ct, .slice A1 n1 c1], .int .i64 z]) ∧ n1 ≤ c1 ∧ n1 ≤ 1099511627776 ∧ RdR w' w'.heap.size A1 n1 rs ∧ Below w.heap.size w w' := by
  by_cases h : ckX ⟨base, bs⟩ l = 0
  · exact callsIn_wide.1 (Find_in A n c base bs A2 n2 c2 l off h hf w hr hc hr2 hc2 hn2 hI ht)
  · have e := hf.symm.trans (findX_bad (off := off) rfl h)
    injection e with e1 e2
    have h1 := Find_bad A n c base bs A2 n2 c2 l off rfl h w hr hc hr2 hn2 hI ht
    rw [← e1, ← e2] at h1
    exact h1
theorem Floor_is (A : Option Addr) (n c : Nat) (l : List En) (kk : Int) {z : Int} (h : floorX kk 0 l = z) (w : World) (hr : RdE w w.heap.size A n l) (hc : n ≤ c) (hn : n ≤ 1099511627776) :
    Calls Tryz.prog 18 #[.slice A n c, .int .i64 kk] w fun e w' => e = .returned (.int .i64 z) ∧ Below w.heap.size w w' := h ▸ Floor_any A n c l kk w hr hc hn
theorem When_is (A : Option Addr) (n c : Nat) (l : List En) (kk : Int) {z : Int} (h : whenX kk 0 l = z) (w : World) (hr : RdE w w.heap.size A n l) (hc : n ≤ c) (hn : n ≤ 1099511627776) :
    Calls Tryz.prog 19 #[.slice A n c, .int .i64 kk] w fun e w' => e = .returned (.int .i64 z) ∧ Below w.heap.size w w' := h ▸ When_any A n c l kk w hr hc hn
theorem few_any (sb : Int) (A : Option Addr) (n c : Nat) (A2 : Option Addr) (n2 c2 : Nat) {z : Bool} (hz : (decide ((n : Int) ≤ 3000) && decide ((n2 : Int) ≤ 200)) = z) (w : World) :
    Calls Tryz.prog 6 #[.agg #[.int .i64 sb, .slice A n c], .slice A2 n2 c2] w fun e w' => e = .returned (.bool z) ∧ Below w.heap.size w w' := by
  subst hz
  by_cases h : (n : Int) ≤ 3000
  · have e := decide_eq_true h
    rw [e, Bool.true_and]
    go_enter Tryz.func6, Tryz.ntmps6
    go_wp2
    go_ret
    exact ⟨rfl, belA w _⟩
  · have e := decide_eq_false h
    rw [e, Bool.false_and]
    go_enter Tryz.func6, Tryz.ntmps6
    go_wp2
    go_ret
    exact ⟨rfl, belA w _⟩
theorem at1_row {W : World} {e : TypeId} {B g n c : Nat} {l : List En} (h : OwnF enC 3 W e B (.slice (some ⟨g, 0, none⟩) n c) n l) (hg : g < W.heap.size) : At1 W g (l.flatMap enC) := by
  refine ⟨hg, fun j v hv => ?_⟩
  have hj := (List.getElem?_eq_some_iff.1 hv).1
  have hc := World.ownsRow.cells h (g := g) rfl j v hv
  rw [Addr.add_lit, Nat.zero_add] at hc
  exact hc
end Go.Proofs.YtbnkfljkojhkoaaGreatDoor.Idx
