/- Joined: SegF. -/
import Derived.Test.YtbnkfljkojhkoaaGreatDoorJSegS
import Derived.Test.YtbnkfljkojhkoaaGreatDoorJCrc
import Derived.Deep.RegionHeld3
/- The contracts of the landed seg's smaller functions: isBase, isLimit, New, End, first, Fix. -/
namespace Go.Proofs.YtbnkfljkojhkoaaGreatDoor.Seg
open Go.RowKit Oct Rec Crc Bat

def isB (n : Int) : Bool := decide (0 ≤ n ∧ n ≤ 1099511627776)
def isL (n : Int) : Bool := decide (1 ≤ n ∧ n ≤ 4096)
def RSg (w : World) (s : Sg) (en : Ending) (w' : World) : Prop :=
  ∃ A n c, en = .returned (.agg #[.int .i64 s.base, .slice A n c]) ∧ OwnB w' 5 w.heap.size (.slice A n c) n s.bytes ∧ Below w.heap.size w w'
def RSgE (w : World) (x : Sg × Int) (en : Ending) (w' : World) : Prop :=
  ∃ A n c, en = .returned (.tuple #[.agg #[.int .i64 x.1.base, .slice A n c], .int .i64 x.2]) ∧ OwnB w' 5 w.heap.size (.slice A n c) n x.1.bytes ∧ Below w.heap.size w w'
theorem isBase_any (n : Int) (w : World) : Calls Tryz.prog 39 #[.int .i64 n] w fun e w' => e = .returned (.bool (isB n)) ∧ w = w' := by
  go_enter Tryz.func39, Tryz.ntmps39
  go_wp2
  all_goals go_ret
  all_goals refine ⟨?_, rfl⟩
  · rename_i h; exact ret_bool (by simp [isB, h])
  · rename_i h; exact ret_bool (by simp [isB]; omega)
theorem isLimit_any (n : Int) (w : World) : Calls Tryz.prog 41 #[.int .i64 n] w fun e w' => e = .returned (.bool (isL n)) ∧ w = w' := by
  go_enter Tryz.func41, Tryz.ntmps41
  go_wp2
  all_goals go_ret
  all_goals refine ⟨?_, rfl⟩
  · rename_i h; exact ret_bool (by simp [isL, h])
  · rename_i h; exact ret_bool (by simp [isL]; omega)
theorem New_any (base : Int) (w : World) : Calls Tryz.prog 28 #[.int .i64 base] w (RSgE w (newS base)) := by
  rcases hb : isB base with _ | _
  · have HB := Lib.hid hb
    have hn : newS base = (nilS, 1) := by unfold newS; rw [if_pos (by simp [isB] at hb; omega)]
    rw [hn]
    clear hb hn
    go_enter Tryz.func28, Tryz.ntmps28
    go_wp2_with (go_at_call 39; refine (isBase_any base _).mono ?_; rw [HB.out]; rintro e w' ⟨rfl, rfl⟩)
    refine bodyPost_ret (v := .tuple #[.agg #[.int .i64 0, .slice none 0 0], .int .i64 1]) (by simp [results, Tryz.results28, go_sem]) rfl ?_
    exact ⟨none, 0, 0, rfl, OwnB.nil, bel_alloc (Below.refl _ _) _⟩
  · have HB := Lib.hid hb
    have hn : newS base = (⟨base, []⟩, 0) := by unfold newS; rw [if_neg (by simp [isB] at hb; omega)]
    rw [hn]
    clear hb hn
    go_enter Tryz.func28, Tryz.ntmps28
    go_wp2_with (go_at_call 39; refine (isBase_any base _).mono ?_; rw [HB.out]; rintro e w' ⟨rfl, rfl⟩)
    refine bodyPost_ret (v := .tuple #[.agg #[.int .i64 base, .slice none 0 0], .int .i64 0]) (by simp [results, Tryz.results28, go_sem]) rfl ?_
    exact ⟨none, 0, 0, rfl, OwnB.nil, bel_alloc (Below.refl _ _) _⟩
end Go.Proofs.YtbnkfljkojhkoaaGreatDoor.Seg
