/- Joined: SegF. -/
import Derived.Test.YtejcjmiofidedaaGreatDoorJSegS
import Derived.Test.YtejcjmiofidedaaGreatDoorJCrc
import Derived.Deep.RegionHeld3
/- The contracts of the landed seg's smaller functions: isBase, isLimit, New, End, first, Fix. -/
namespace Go.Proofs.YtejcjmiofidedaaGreatDoor.Seg
open Go.RowKit Oct Rec Crc Bat

def isB (n : Int) : Bool := decide (0 ≤ n ∧ n ≤ 1099511627776)
def isL (n : Int) : Bool := decide (1 ≤ n ∧ n ≤ 4096)
def RSg (w : World) (s : Sg) (en : Ending) (w' : World) : Prop :=
  ∃ A n c, en = .returned (.agg #[.int .i64 s.base, .slice A n c]) ∧ OwnB w' 5 w.heap.size (.slice A n c) n s.bytes ∧ Below w.heap.size w w'
def RSgE (w : World) (x : Sg × Int) (en : Ending) (w' : World) : Prop :=
  ∃ A n c, en = .returned (.tuple #[.agg #[.int .i64 x.1.base, .slice A n c], .int .i64 x.2]) ∧ OwnB w' 5 w.heap.size (.slice A n c) n x.1.bytes ∧ Below w.heap.size w w'
theorem isBase_any (n : Int) (w : World) : Calls Tryz.prog 93 #[.int .i64 n] w fun e w' => e = .returned (.bool (isB n)) ∧ w = w' := by
  go_enter Tryz.func93, Tryz.ntmps93
  go_wp2
  all_goals go_ret
  all_goals refine ⟨?_, rfl⟩
  · rename_i h; exact ret_bool (by simp [isB, h])
  · rename_i h; exact ret_bool (by simp [isB]; omega)
theorem isLimit_any (n : Int) (w : World) : Calls Tryz.prog 90 #[.int .i64 n] w fun e w' => e = .returned (.bool (isL n)) ∧ w = w' := by
  go_enter Tryz.func90, Tryz.ntmps90
  go_wp2
  all_goals go_ret
  all_goals refine ⟨?_, rfl⟩
  · rename_i h; exact ret_bool (by simp [isL, h])
  · rename_i h; exact ret_bool (by simp [isL]; omega)
theorem New_any (base : Int) (w : World) : Calls Tryz.prog 89 #[.int .i64 base] w (RSgE w (newS base)) := by
  rcases hb : isB base with _ | _
  · have HB := Lib.hid hb
    have hn : newS base = (nilS, 1) := by unfold newS; rw [if_pos (by simp [isB] at hb; omega)]
    rw [hn]
    clear hb hn
    go_enter Tryz.func89, Tryz.ntmps89
    go_wp2_with (go_at_call 93; refine (isBase_any base _).mono ?_; rw [HB.out]; rintro e w' ⟨rfl, rfl⟩)
    refine bodyPost_ret (v := .tuple #[.agg #[.int .i64 0, .slice none 0 0], .int .i64 1]) (by simp [results, Tryz.results89, go_sem]) rfl ?_
    exact ⟨none, 0, 0, rfl, OwnB.nil, bel_alloc (Below.refl _ _) _⟩
  · have HB := Lib.hid hb
    have hn : newS base = (⟨base, []⟩, 0) := by unfold newS; rw [if_neg (by simp [isB] at hb; omega)]
    rw [hn]
    clear hb hn
    go_enter Tryz.func89, Tryz.ntmps89
    go_wp2_with (go_at_call 93; refine (isBase_any base _).mono ?_; rw [HB.out]; rintro e w' ⟨rfl, rfl⟩)
    refine bodyPost_ret (v := .tuple #[.agg #[.int .i64 base, .slice none 0 0], .int .i64 0]) (by simp [results, Tryz.results89, go_sem]) rfl ?_
    exact ⟨none, 0, 0, rfl, OwnB.nil, bel_alloc (Below.refl _ _) _⟩
theorem End_any (A : Option Addr) (n c : Nat) (base : Int) (bs : List UInt8) (w : World) (hr : Rd w w.heap.size A n bs) (hc : n ≤ c) (hn : n ≤ 137438953472) (hI : I64 base) (ht : Tab w) :
    Calls Tryz.prog 73 #[.agg #[.int .i64 base, .slice A n c]] w fun e w' => e = .returned (.int .i64 (endS ⟨base, bs⟩)) ∧ Below w.heap.size w w' := by
  have HR := Lib.hid hr
  have HT := Lib.hid ht
  clear hr ht
  go_enter Tryz.func73, Tryz.ntmps73
  go_wp2_with (go_at_call 92; refine (reach_any A n c base bs _ ((HR.out.alloc (Nat.le_refl _) _).more (by simp)) hc hn hI (HT.out.alloc _)).mono ?_; rintro e w2 ⟨rfl, hb2⟩)
  go_ret
  exact ⟨rfl, (bel_alloc (Below.refl _ _) _).trans (hb2.mono (by simp))⟩
set_option maxRecDepth 100000 in
set_option maxHeartbeats 1000000 in
theorem first_any (A : Option Addr) (n c : Nat) (base : Int) (bs : List UInt8) (m : Nat) (w : World) (hr : Rd w w.heap.size A n bs) (hc : n ≤ c) (hn : n ≤ 137438953472) (hm : m ≤ n) :
    Calls Tryz.prog 101 #[.agg #[.int .i64 base, .slice A n c], .int .i64 (m : Int)] w (RSg w ⟨base, bs.take m⟩) := by
  have HR := Lib.hid hr
  have HM := Lib.hid (show Rd w w.heap.size A m (bs.take m) from by have h := hr.cut (i := 0) (m := m) (by omega) A (fun _ => by cases A <;> simp [Addr.add]); simpa using h)
  have hmc : m ≤ c := by omega
  clear hr
  go_enter Tryz.func101, Tryz.ntmps101
  go_wp2
  generalize hw1 : ((w.alloc (.cells #[.int .i64 base, .slice A n c] 59)).alloc (.cells #[.int .i64 0, .slice none 0 0] 59)) = w1
  have hs0 : w1.cell? ⟨w.heap.size, 0, none⟩ = some (.int .i64 base) := by rw [← hw1]; simp [go_sem]
  have hs1 : w1.cell? ⟨w.heap.size, 1, none⟩ = some (.slice A n c) := by rw [← hw1]; simp [go_sem]
  have hb1 : Below w.heap.size w w1 := by rw [← hw1]; exact bel_alloc (bel_alloc (Below.refl _ _) _) _
  have hz1 : w1.heap.size = w.heap.size + 2 := by rw [← hw1]; simp
  have hc0 : w1.cell? ⟨w.heap.size + 1, 0, none⟩ = some (.int .i64 0) := by rw [← hw1]; simp [go_sem]
  have hc1 : w1.cell? ⟨w.heap.size + 1, 1, none⟩ = some (.slice none 0 0) := by rw [← hw1]; simp [go_sem]
  have hf0 : w1.frozen? ⟨w.heap.size + 1, 0, none⟩ = false := by rw [← hw1]; simp [go_sem]
  have hf1 : w1.frozen? ⟨w.heap.size + 1, 1, none⟩ = false := by rw [← hw1]; simp [go_sem]
  clear hw1
  have HS0 := Lib.hid hs0
  have HS1 := Lib.hid hs1
  have HRM := Lib.hid ((HM.out.below hb1 (Nat.le_refl _)).more hb1.size)
  clear hs0 hs1
  go_region_held3 (fun x : World => x.cell? ⟨w.heap.size, 0, none⟩ = some (.int .i64 base) ∧ x.cell? ⟨w.heap.size, 1, none⟩ = some (.slice A n c)) (first | exact ⟨HS0.out, HS1.out⟩ | exact ⟨P0, P1⟩ | exact ⟨(cell_off (by simp)).trans ((cell_off (by simp)).trans P0), (cell_off (by simp)).trans ((cell_off (by simp)).trans P1)⟩) (first
    | (go_at_call 94; refine (Clone_any A m c (bs.take m) w1.heap.size _ HRM.out.drew (Nat.le_refl _) (by omega)).mono ?_; rintro e w2 ⟨A2, n2, c2, rfl, ho2, hb2⟩; have g0 := (hb2.cell (p := ⟨w.heap.size + 1, 0, none⟩) (show w.heap.size + 1 < w1.heap.size by omega)).trans hc0; have g1 := (hb2.cell (p := ⟨w.heap.size + 1, 1, none⟩) (show w.heap.size + 1 < w1.heap.size by omega)).trans hc1; have q0 := (hb2.frozen (p := ⟨w.heap.size + 1, 0, none⟩) (show w.heap.size + 1 < w1.heap.size by omega)).trans hf0; have q1 := (hb2.frozen (p := ⟨w.heap.size + 1, 1, none⟩) (show w.heap.size + 1 < w1.heap.size by omega)).trans hf1; have P0 := (hb2.cell (p := ⟨w.heap.size, 0, none⟩) (show w.heap.size < w1.heap.size by omega)).trans HS0.out; have P1 := (hb2.cell (p := ⟨w.heap.size, 1, none⟩) (show w.heap.size < w1.heap.size by omega)).trans HS1.out; have HB2 := Lib.hid hb2; have HO2 := Lib.hid ho2; clear hb2 ho2))
  go_wp2
  refine bodyPost_ret (v := .agg #[.int .i64 base, .slice A2 n2 c2]) (by simp [results, Tryz.results101, go_sem, g0, g1]) rfl ?_
  exact ⟨A2, n2, c2, rfl, OwnB.more (ownsRow_setCell_below (ownsRow_setCell_below HO2.out (show w.heap.size + 1 < w1.heap.size by omega) _) (show w.heap.size + 1 < w1.heap.size by omega) _) (show w.heap.size ≤ w1.heap.size by omega), ((hb1.drew.trans (HB2.out.mono (show w.heap.size ≤ w1.heap.size by omega))).setCell (by simp) _).setCell (by simp) _⟩
set_option maxRecDepth 100000 in
set_option maxHeartbeats 2000000 in
theorem Fix_any (A : Option Addr) (n c : Nat) (base : Int) (bs : List UInt8) (w : World) (hr : Rd w w.heap.size A n bs) (hc : n ≤ c) (hn : n ≤ 137438953472) (hI : I64 base) (ht : Tab w) :
    Calls Tryz.prog 76 #[.agg #[.int .i64 base, .slice A n c]] w (RSgE w (fixS ⟨base, bs⟩)) := by
  have HR := Lib.hid hr
  have HT := Lib.hid ht
  obtain ⟨g, hg⟩ : ∃ g, g = (sc base bs).2 := ⟨_, rfl⟩
  have hgn : g ≤ n := by have := (sc_good base bs).2.2.2.1; have := hr.len; omega
  have HE := Lib.hid (show fixS ⟨base, bs⟩ = (⟨base, bs.take g⟩, (n : Int) - (g : Int)) by unfold fixS goodS; rw [← hg, hr.len])
  have HG := Lib.hid hg
  clear hr ht hg
  go_enter Tryz.func76, Tryz.ntmps76
  rw [HE.out]
  go_wp2_with (first
    | (go_at_call 92; refine (reach_any A n c base bs _ (((HR.out.alloc (Nat.le_refl _) _).alloc (by simp) _).more (by simp; omega)) hc hn hI ((HT.out.alloc _).alloc _)).mono ?_; rw [← HG.out]; rintro e w2 ⟨rfl, hb2⟩; have a0 := (hb2.cell (p := ⟨w.heap.size, 0, none⟩) (by first | (simp; done) | (simp; omega))).trans (show _ = some (.int .i64 base) by simp [go_sem]); have a1 := (hb2.cell (p := ⟨w.heap.size, 1, none⟩) (by first | (simp; done) | (simp; omega))).trans (show _ = some (.slice A n c) by simp [go_sem]); have e0 := (hb2.cell (p := ⟨w.heap.size + 1, 0, none⟩) (by first | (simp; done) | (simp; omega))).trans (show _ = some (.int .i64 0) by simp [go_sem]); have e1 := (hb2.cell (p := ⟨w.heap.size + 1, 1, none⟩) (by first | (simp; done) | (simp; omega))).trans (show _ = some (.slice none 0 0) by simp [go_sem]); have q0 := (hb2.frozen (p := ⟨w.heap.size + 1, 0, none⟩) (by first | (simp; done) | (simp; omega))).trans (show _ = false by simp [go_sem]); have q1 := (hb2.frozen (p := ⟨w.heap.size + 1, 1, none⟩) (by first | (simp; done) | (simp; omega))).trans (show _ = false by simp [go_sem]); have hz2 := hb2.size; simp only [World.size_alloc] at hz2; have HB2 := Lib.hid ((bel_alloc (bel_alloc (Below.refl w.heap.size w) (.cells #[.int .i64 base, .slice A n c] 59)) (.cells #[.int .i64 0, .slice none 0 0] 59)).trans (hb2.mono (by simp; omega))); clear hb2))
  have hwr : IntKind.i64.wrap ((n : Int) - (g : Int)) = (n : Int) - (g : Int) := IntWalk.i64_in _ (by omega)
  have HRM := Lib.hid ((HR.out.below HB2.out (Nat.le_refl _)).more HB2.out.size)
  have HA0 := Lib.hid a0
  have HA1 := Lib.hid a1
  clear a0 a1
  go_region_held3 (fun x : World => x.cell? ⟨w.heap.size, 0, none⟩ = some (.int .i64 base) ∧ x.cell? ⟨w.heap.size, 1, none⟩ = some (.slice A n c)) (first | exact ⟨HA0.out, HA1.out⟩ | exact ⟨P0, P1⟩ | exact ⟨(cell_off (by simp)).trans ((cell_off (by simp)).trans P0), (cell_off (by simp)).trans ((cell_off (by simp)).trans P1)⟩) (first
    | (go_at_call 101; refine (first_any A n c base bs g _ HRM.out.drew hc hn hgn).mono ?_; rintro e w3 ⟨A3, n3, c3, rfl, ho3, hb3⟩; have P0 := (hb3.cell (p := ⟨w.heap.size, 0, none⟩) (show w.heap.size < w2.heap.size by omega)).trans HA0.out; have P1 := (hb3.cell (p := ⟨w.heap.size, 1, none⟩) (show w.heap.size < w2.heap.size by omega)).trans HA1.out; have e3 := (hb3.cell (p := ⟨w.heap.size + 1, 0, none⟩) (show w.heap.size + 1 < w2.heap.size by omega)).trans e0; have e4 := (hb3.cell (p := ⟨w.heap.size + 1, 1, none⟩) (show w.heap.size + 1 < w2.heap.size by omega)).trans e1; have q3 := (hb3.frozen (p := ⟨w.heap.size + 1, 0, none⟩) (show w.heap.size + 1 < w2.heap.size by omega)).trans q0; have q4 := (hb3.frozen (p := ⟨w.heap.size + 1, 1, none⟩) (show w.heap.size + 1 < w2.heap.size by omega)).trans q1; have HB3 := Lib.hid hb3; have HO3 := Lib.hid ho3; clear hb3 ho3))
  go_wp2
  refine bodyPost_ret (v := .tuple #[.agg #[.int .i64 base, .slice A3 n3 c3], .int .i64 ((n : Int) - (g : Int))]) (by simp [results, Tryz.results76, go_sem, e3, e4]) rfl ?_
  exact ⟨A3, n3, c3, rfl, OwnB.more (ownsRow_setCell_below (ownsRow_setCell_below HO3.out (show w.heap.size + 1 < w2.heap.size by omega) _) (show w.heap.size + 1 < w2.heap.size by omega) _) (show w.heap.size ≤ w2.heap.size by omega), ((HB2.out.drew.trans (HB3.out.mono (show w.heap.size ≤ w2.heap.size by omega))).setCell (by simp) _).setCell (by simp) _⟩
end Go.Proofs.YtejcjmiofidedaaGreatDoor.Seg
