/- Joined: BatCopy, BatIs2. -/
import Derived.Test.YtbnkfljkojhkoaaGreatDoorJBatA
import Derived.Test.YtbnkfljkojhkoaaGreatDoorJBatK
import Derived.Test.YtbnkfljkojhkoaaGreatDoorJBatS
/- The document's Copy of a batch; records and batches as rows of structs. -/
namespace Go.Proofs.YtbnkfljkojhkoaaGreatDoor.Bat
open Go.RowKit Oct Rec Crc Lay RowF

def CPB (e : TypeId) (w : World) (b : Bt) (n : Nat) (en : Ending) (w' : World) : Prop :=
  ∃ A' c', en = .returned (bval b (.slice A' n c')) ∧ OwnF recC 5 w' e w.heap.size (.slice A' n c') n b.recs ∧ Below w.heap.size w w'
end Go.Proofs.YtbnkfljkojhkoaaGreatDoor.Bat

/- The document's Copy and Same, values written out. -/
namespace Go.Proofs.YtbnkfljkojhkoaaGreatDoor.Bat
open Go.RowKit Oct Rec Crc Lay RowF

theorem refSameB_is (ba la fr ep pi ge se : Int) (tx : Bool) (ct : Int) (rs : List Rc) (A : Option Addr) (n c : Nat) (ba' la' fr' ep' pi' ge' se' : Int) (tx' : Bool) (ct' : Int) (rs' : List Rc) (A' : Option Addr) (n' c' : Nat) (w : World)
    (hr : RdR w w.heap.size A n rs) (hr' : RdR w w.heap.size A' n' rs') (hn : n ≤ 1099511627776) (hn' : n' ≤ 1099511627776) {z : Bool} (h : eqB ⟨ba, la, fr, ep, pi, ge, se, tx, ct, rs⟩ ⟨ba', la', fr', ep', pi', ge', se', tx', ct', rs'⟩ = z) :
    Calls Tryz.prog 16 #[.agg #[.int .i64 ba, .int .i64 la, .int .i64 fr, .int .i64 ep, .int .i64 pi, .int .i64 ge, .int .i64 se, .bool tx, .int .i64 ct, .slice A n c], .agg #[.int .i64 ba', .int .i64 la', .int .i64 fr', .int .i64 ep', .int .i64 pi', .int .i64 ge', .int .i64 se', .bool tx', .int .i64 ct', .slice A' n' c']] w
      fun e w' => e = .returned (.bool z) ∧ Below w.heap.size w w' := by
  subst h; exact refSameB_any ba la fr ep pi ge se tx ct rs A n c ba' la' fr' ep' pi' ge' se' tx' ct' rs' A' n' c' w hr hr' hn hn'
end Go.Proofs.YtbnkfljkojhkoaaGreatDoor.Bat
