/- Joined: BatDevE3. -/
import Derived.Test.YtbnkfljkojhkoaaDoorJBatA
import Derived.RegionTactic
import Derived.BigRegion
import Derived.Test.YtbnkfljkojhkoaaDoorJBatE
/- The contract of the landed eachNumber, handed read$2: it is called number by number till it answers false. -/
namespace Go.Proofs.YtbnkfljkojhkoaaDoor.Bat
open Go.RowKit Go.Proofs.YtbnkfljkojhkoaaDoor.Oct Go.Proofs.YtbnkfljkojhkoaaDoor.Rec Go.Proofs.YtbnkfljkojhkoaaDoor.Crc

set_option maxRecDepth 100000 in
set_option maxHeartbeats 8000000 in
theorem each_E30 (cx g : Nat) (ba la sp u0 u1 : Int) (w : World) (hg : g < w.heap.size) (c0 : w.cell? ⟨g, 0, none⟩ = some (.int .i64 ba)) (c1 : w.cell? ⟨g, 1, none⟩ = some (.int .i64 la)) (hsp : IntKind.i64.wrap (la - ba) = sp) (J : Nat → World → Prop) (h0 : J 0 (w.alloc (.cells #[.int .i64 sp] 3)).drew.drew) (_jS : ∀ k w1, J k w1 → ∃ x y, w1.cell? ⟨g, 0, none⟩ = some (.int .i64 x) ∧ w1.cell? ⟨w.heap.size, 0, none⟩ = some (.int .i64 y)) (j7 : ∀ w1, J 1 w1 → w1.cell? ⟨g, 0, none⟩ = some (.int .i64 u0) ∧ w1.cell? ⟨w.heap.size, 0, none⟩ = some (.int .i64 u1) ∧ (∃ z, w1.cell? ⟨g, 1, none⟩ = some (.int .i64 z)) ∧ w1.frozen? ⟨g, 1, none⟩ = false) (s0 : ∀ w1 lo hi, J 0 w1 → Calls Tryd.prog 71 #[.pointer (some ⟨g, 0, none⟩), .int .i64 lo, .int .i64 hi, .pointer (some ⟨cx, 0, none⟩)] w1 fun e w2 => e = .returned (.bool false) ∧ J 1 w2) :
    Calls Tryd.prog 56 #[.pointer (some ⟨g, 0, none⟩), .func (.func 71) #[] #[.pointer (some ⟨cx, 0, none⟩)]] w fun e w2 => e = .returned (.bool false) ∧ ∃ w1, J 1 w1 ∧ (w1.setCell ⟨g, 1, none⟩ (.int .i64 (wrap64 (u0 + u1)))).drew = w2 := by
  have HJ0 := Lib.hid h0
  clear h0
  go_enter Tryd.func56, Tryd.ntmps56
  go_wp2
  go_region
  go_wp2
  refine wp_region_held_drew (S := fun _ => True) (by kernel_rfl) trivial (fun hHeld => ?_)
  clear hHeld
  refine tP 0 16 _ rfl ?_
  try simp only [tpu, tsa, ts0, ts1]
  refine tP 1 17 _ rfl ?_
  try simp only [tpu, tsa, ts0, ts1]
  refine tP 2 18 _ rfl ?_
  try simp only [tpu, tsa, ts0, ts1]
  refine tP 3 19 _ rfl ?_
  try simp only [tpu, tsa, ts0, ts1]
  refine takeB 4 ⟨some 20, .call { callee := .value (.tmp 16), args := #[.tmp 19, .const (.int .i64 0), .const (.int .i64 1099511627776)], argTypes := #[95, 3, 3] }, 4, "batch.go:149", #[⟨0, .data⟩, ⟨3, .data⟩], none⟩ (by kernel_rfl) rfl (fun K hK => ?_)
  go_simp
  with_reducible refine (s0 _ _ _ HJ0.out).mono ?_
  rintro e w1 ⟨rfl, hj1⟩
  dsimp only
  have HJ1 := Lib.hid hj1
  obtain ⟨z0, z1, ⟨z, z2⟩, z3⟩ := j7 _ hj1
  clear hj1
  refine hK.out _ _ trivial (fun hHeld => ?_)
  clear hK K hHeld
  try simp only [tpu, tsa, ts0, ts1]
  refine tP 5 21 _ rfl ?_
  try simp only [tpu, tsa, ts0, ts1]
  refine tU 6 22 rfl ?_
  try simp only [tpu, tsa, ts0, ts1]
  refine tU 7 23 rfl ?_
  try simp only [tpu, tsa, ts0, ts1]
  refine tU 8 24 rfl ?_
  try simp only [tpu, tsa, ts0, ts1]
  refine tU 9 25 rfl ?_
  try simp only [tpu, tsa, ts0, ts1]
  refine tU 10 26 rfl ?_
  try simp only [tpu, tsa, ts0, ts1]
  refine tU 11 27 rfl ?_
  try simp only [tpu, tsa, ts0, ts1]
  refine tU 12 28 rfl ?_
  try simp only [tpu, tsa, ts0, ts1]
  refine tU 13 29 rfl ?_
  try simp only [tpu, tsa, ts0, ts1]
  refine tP 14 30 _ rfl ?_
  try simp only [tpu, tsa, ts0, ts1]
  refine tP 15 31 _ rfl ?_
  try simp only [tpu, tsa, ts0, ts1]
  refine tU 16 32 rfl ?_
  try simp only [tpu, tsa, ts0, ts1]
  refine tU 17 33 rfl ?_
  try simp only [tpu, tsa, ts0, ts1]
  refine tU 18 34 rfl ?_
  try simp only [tpu, tsa, ts0, ts1]
  refine tU 19 35 rfl ?_
  try simp only [tpu, tsa, ts0, ts1]
  refine tU 20 36 rfl ?_
  try simp only [tpu, tsa, ts0, ts1]
  refine tU 21 37 rfl ?_
  try simp only [tpu, tsa, ts0, ts1]
  refine tU 22 38 rfl ?_
  try simp only [tpu, tsa, ts0, ts1]
  refine tP 23 39 _ rfl ?_
  try simp only [tpu, tsa, ts0, ts1]
  refine tP 24 40 _ rfl ?_
  try simp only [tpu, tsa, ts0, ts1]
  refine tU 25 41 rfl ?_
  try simp only [tpu, tsa, ts0, ts1]
  refine tU 26 42 rfl ?_
  try simp only [tpu, tsa, ts0, ts1]
  refine tU 27 43 rfl ?_
  try simp only [tpu, tsa, ts0, ts1]
  refine tU 28 44 rfl ?_
  try simp only [tpu, tsa, ts0, ts1]
  refine tU 29 45 rfl ?_
  try simp only [tpu, tsa, ts0, ts1]
  refine tP 30 46 _ rfl ?_
  try simp only [tpu, tsa, ts0, ts1]
  refine tP 31 47 _ rfl ?_
  try simp only [tpu, tsa, ts0, ts1]
  refine tU 32 48 rfl ?_
  try simp only [tpu, tsa, ts0, ts1]
  refine tU 33 49 rfl ?_
  try simp only [tpu, tsa, ts0, ts1]
  refine tU 34 50 rfl ?_
  try simp only [tpu, tsa, ts0, ts1]
  refine tU 35 51 rfl ?_
  try simp only [tpu, tsa, ts0, ts1]
  refine tU 36 52 rfl ?_
  try simp only [tpu, tsa, ts0, ts1]
  refine tP 37 53 _ rfl ?_
  try simp only [tpu, tsa, ts0, ts1]
  refine tP 38 54 _ rfl ?_
  try simp only [tpu, tsa, ts0, ts1]
  refine tU 39 55 rfl ?_
  try simp only [tpu, tsa, ts0, ts1]
  refine tU 40 56 rfl ?_
  try simp only [tpu, tsa, ts0, ts1]
  refine tU 41 57 rfl ?_
  try simp only [tpu, tsa, ts0, ts1]
  refine tU 42 58 rfl ?_
  try simp only [tpu, tsa, ts0, ts1]
  refine tU 43 59 rfl ?_
  try simp only [tpu, tsa, ts0, ts1]
  refine tP 44 60 _ rfl ?_
  try simp only [tpu, tsa, ts0, ts1]
  refine tP 45 61 _ rfl ?_
  try simp only [tpu, tsa, ts0, ts1]
  refine tU 46 62 rfl ?_
  try simp only [tpu, tsa, ts0, ts1]
  refine tU 47 63 rfl ?_
  try simp only [tpu, tsa, ts0, ts1]
  refine tU 48 64 rfl ?_
  try simp only [tpu, tsa, ts0, ts1]
  refine tU 49 65 rfl ?_
  try simp only [tpu, tsa, ts0, ts1]
  refine tU 50 66 rfl ?_
  try simp only [tpu, tsa, ts0, ts1]
  refine tU 51 67 rfl ?_
  try simp only [tpu, tsa, ts0, ts1]
  refine tU 52 68 rfl ?_
  try simp only [tpu, tsa, ts0, ts1]
  refine tP 53 69 _ rfl ?_
  try simp only [tpu, tsa, ts0, ts1]
  refine tP 54 6 _ rfl ?_
  try simp only [tpu, tsa, ts0, ts1]
  refine wpAnyH_done (by kernel_rfl) ?_ _
  go_wp2
  go_region
  go_wp2
  go_ret
  exact ⟨rfl, _, HJ1.out, rfl⟩
set_option maxRecDepth 100000 in
set_option maxHeartbeats 8000000 in
theorem each_E31 (cx g : Nat) (ba la sp u0 u1 : Int) (w : World) (hg : g < w.heap.size) (c0 : w.cell? ⟨g, 0, none⟩ = some (.int .i64 ba)) (c1 : w.cell? ⟨g, 1, none⟩ = some (.int .i64 la)) (hsp : IntKind.i64.wrap (la - ba) = sp) (J : Nat → World → Prop) (h0 : J 0 (w.alloc (.cells #[.int .i64 sp] 3)).drew.drew) (jS : ∀ k w1, J k w1 → ∃ x y, w1.cell? ⟨g, 0, none⟩ = some (.int .i64 x) ∧ w1.cell? ⟨w.heap.size, 0, none⟩ = some (.int .i64 y)) (j7 : ∀ w1, J 2 w1 → w1.cell? ⟨g, 0, none⟩ = some (.int .i64 u0) ∧ w1.cell? ⟨w.heap.size, 0, none⟩ = some (.int .i64 u1) ∧ (∃ z, w1.cell? ⟨g, 1, none⟩ = some (.int .i64 z)) ∧ w1.frozen? ⟨g, 1, none⟩ = false) (s0 : ∀ w1 lo hi, J 0 w1 → Calls Tryd.prog 71 #[.pointer (some ⟨g, 0, none⟩), .int .i64 lo, .int .i64 hi, .pointer (some ⟨cx, 0, none⟩)] w1 fun e w2 => e = .returned (.bool true) ∧ J 1 w2) (s1 : ∀ w1 lo hi, J 1 w1 → Calls Tryd.prog 71 #[.pointer (some ⟨w.heap.size, 0, none⟩), .int .i64 lo, .int .i64 hi, .pointer (some ⟨cx, 0, none⟩)] w1 fun e w2 => e = .returned (.bool false) ∧ J 2 w2) :
    Calls Tryd.prog 56 #[.pointer (some ⟨g, 0, none⟩), .func (.func 71) #[] #[.pointer (some ⟨cx, 0, none⟩)]] w fun e w2 => e = .returned (.bool false) ∧ ∃ w1, J 2 w1 ∧ (w1.setCell ⟨g, 1, none⟩ (.int .i64 (wrap64 (u0 + u1)))).drew = w2 := by
  have HJ0 := Lib.hid h0
  clear h0
  go_enter Tryd.func56, Tryd.ntmps56
  go_wp2
  go_region
  go_wp2
  refine wp_region_held_drew (S := fun _ => True) (by kernel_rfl) trivial (fun hHeld => ?_)
  clear hHeld
  refine tP 0 16 _ rfl ?_
  try simp only [tpu, tsa, ts0, ts1]
  refine tP 1 17 _ rfl ?_
  try simp only [tpu, tsa, ts0, ts1]
  refine tP 2 18 _ rfl ?_
  try simp only [tpu, tsa, ts0, ts1]
  refine tP 3 19 _ rfl ?_
  try simp only [tpu, tsa, ts0, ts1]
  refine takeB 4 ⟨some 20, .call { callee := .value (.tmp 16), args := #[.tmp 19, .const (.int .i64 0), .const (.int .i64 1099511627776)], argTypes := #[95, 3, 3] }, 4, "batch.go:149", #[⟨0, .data⟩, ⟨3, .data⟩], none⟩ (by kernel_rfl) rfl (fun K hK => ?_)
  go_simp
  with_reducible refine (s0 _ _ _ HJ0.out).mono ?_
  rintro e w1 ⟨rfl, hj1⟩
  dsimp only
  have HJ1 := Lib.hid hj1
  obtain ⟨x1, y1, d1, f1⟩ := jS _ _ hj1
  clear hj1
  refine hK.out _ _ trivial (fun hHeld => ?_)
  clear hK K hHeld
  try simp only [tpu, tsa, ts0, ts1]
  refine tP 5 21 _ rfl ?_
  try simp only [tpu, tsa, ts0, ts1]
  refine tP 6 22 _ rfl ?_
  try simp only [tpu, tsa, ts0, ts1]
  refine tP 7 23 _ rfl ?_
  try simp only [tpu, tsa, ts0, ts1]
  refine tP 8 24 _ rfl ?_
  try simp only [tpu, tsa, ts0, ts1]
  refine tP 9 25 _ rfl ?_
  try simp only [tpu, tsa, ts0, ts1]
  refine takeB 10 ⟨some 26, .load 3 (.tmp 25), 3, "batch.go:149", #[⟨9, .data⟩, ⟨5, .guard⟩], some (5, true)⟩ (by kernel_rfl) rfl (fun K hK => ?_)
  go_simp
  refine hK.out _ _ trivial (fun hHeld => ?_)
  clear hK K hHeld
  try simp only [tpu, tsa, ts0, ts1]
  refine tP 11 27 _ rfl ?_
  try simp only [tpu, tsa, ts0, ts1]
  refine takeB 12 ⟨some 28, .call { callee := Callee.builtin Builtin.min, args := #[.const (.int .i64 15), .tmp 27], argTypes := #[3, 3] }, 3, "batch.go:149", #[⟨11, .data⟩, ⟨5, .guard⟩], some (5, true)⟩ (by kernel_rfl) rfl (fun K hK => ?_)
  go_simp
  refine hK.out _ _ trivial (fun hHeld => ?_)
  clear hK K hHeld
  try simp only [tpu, tsa, ts0, ts1]
  refine takeB 13 ⟨some 29, .call { callee := .value (.tmp 22), args := #[.tmp 5, .const (.int .i64 0), .tmp 28], argTypes := #[95, 3, 3] }, 4, "batch.go:150", #[⟨6, .data⟩, ⟨12, .data⟩, ⟨5, .chain⟩, ⟨5, .guard⟩], some (5, true)⟩ (by kernel_rfl) rfl (fun K hK => ?_)
  go_simp
  generalize (if IntKind.i64.wrap (1099511627776 - x1) < 15 then IntKind.i64.wrap (1099511627776 - x1) else 15) = h1
  with_reducible refine (s1 _ _ _ HJ1.out).mono ?_
  rintro e w2 ⟨rfl, hj2⟩
  dsimp only
  have HJ2 := Lib.hid hj2
  obtain ⟨z0, z1, ⟨z, z2⟩, z3⟩ := j7 _ hj2
  clear hj2
  refine hK.out _ _ trivial (fun hHeld => ?_)
  clear hK K hHeld
  try simp only [tpu, tsa, ts0, ts1]
  refine tP 14 30 _ rfl ?_
  try simp only [tpu, tsa, ts0, ts1]
  refine tP 15 31 _ rfl ?_
  try simp only [tpu, tsa, ts0, ts1]
  refine tU 16 32 rfl ?_
  try simp only [tpu, tsa, ts0, ts1]
  refine tU 17 33 rfl ?_
  try simp only [tpu, tsa, ts0, ts1]
  refine tU 18 34 rfl ?_
  try simp only [tpu, tsa, ts0, ts1]
  refine tU 19 35 rfl ?_
  try simp only [tpu, tsa, ts0, ts1]
  refine tU 20 36 rfl ?_
  try simp only [tpu, tsa, ts0, ts1]
  refine tU 21 37 rfl ?_
  try simp only [tpu, tsa, ts0, ts1]
  refine tU 22 38 rfl ?_
  try simp only [tpu, tsa, ts0, ts1]
  refine tP 23 39 _ rfl ?_
  try simp only [tpu, tsa, ts0, ts1]
  refine tP 24 40 _ rfl ?_
  try simp only [tpu, tsa, ts0, ts1]
  refine tU 25 41 rfl ?_
  try simp only [tpu, tsa, ts0, ts1]
  refine tU 26 42 rfl ?_
  try simp only [tpu, tsa, ts0, ts1]
  refine tU 27 43 rfl ?_
  try simp only [tpu, tsa, ts0, ts1]
  refine tU 28 44 rfl ?_
  try simp only [tpu, tsa, ts0, ts1]
  refine tU 29 45 rfl ?_
  try simp only [tpu, tsa, ts0, ts1]
  refine tP 30 46 _ rfl ?_
  try simp only [tpu, tsa, ts0, ts1]
  refine tP 31 47 _ rfl ?_
  try simp only [tpu, tsa, ts0, ts1]
  refine tU 32 48 rfl ?_
  try simp only [tpu, tsa, ts0, ts1]
  refine tU 33 49 rfl ?_
  try simp only [tpu, tsa, ts0, ts1]
  refine tU 34 50 rfl ?_
  try simp only [tpu, tsa, ts0, ts1]
  refine tU 35 51 rfl ?_
  try simp only [tpu, tsa, ts0, ts1]
  refine tU 36 52 rfl ?_
  try simp only [tpu, tsa, ts0, ts1]
  refine tP 37 53 _ rfl ?_
  try simp only [tpu, tsa, ts0, ts1]
  refine tP 38 54 _ rfl ?_
  try simp only [tpu, tsa, ts0, ts1]
  refine tU 39 55 rfl ?_
  try simp only [tpu, tsa, ts0, ts1]
  refine tU 40 56 rfl ?_
  try simp only [tpu, tsa, ts0, ts1]
  refine tU 41 57 rfl ?_
  try simp only [tpu, tsa, ts0, ts1]
  refine tU 42 58 rfl ?_
  try simp only [tpu, tsa, ts0, ts1]
  refine tU 43 59 rfl ?_
  try simp only [tpu, tsa, ts0, ts1]
  refine tP 44 60 _ rfl ?_
  try simp only [tpu, tsa, ts0, ts1]
  refine tP 45 61 _ rfl ?_
  try simp only [tpu, tsa, ts0, ts1]
  refine tU 46 62 rfl ?_
  try simp only [tpu, tsa, ts0, ts1]
  refine tU 47 63 rfl ?_
  try simp only [tpu, tsa, ts0, ts1]
  refine tU 48 64 rfl ?_
  try simp only [tpu, tsa, ts0, ts1]
  refine tU 49 65 rfl ?_
  try simp only [tpu, tsa, ts0, ts1]
  refine tU 50 66 rfl ?_
  try simp only [tpu, tsa, ts0, ts1]
  refine tU 51 67 rfl ?_
  try simp only [tpu, tsa, ts0, ts1]
  refine tU 52 68 rfl ?_
  try simp only [tpu, tsa, ts0, ts1]
  refine tP 53 69 _ rfl ?_
  try simp only [tpu, tsa, ts0, ts1]
  refine tP 54 6 _ rfl ?_
  try simp only [tpu, tsa, ts0, ts1]
  refine wpAnyH_done (by kernel_rfl) ?_ _
  go_wp2
  go_region
  go_wp2
  go_ret
  exact ⟨rfl, _, HJ2.out, rfl⟩
set_option maxRecDepth 100000 in
set_option maxHeartbeats 8000000 in
theorem each_E32 (cx g : Nat) (ba la sp u0 u1 : Int) (w : World) (hg : g < w.heap.size) (c0 : w.cell? ⟨g, 0, none⟩ = some (.int .i64 ba)) (c1 : w.cell? ⟨g, 1, none⟩ = some (.int .i64 la)) (hsp : IntKind.i64.wrap (la - ba) = sp) (J : Nat → World → Prop) (h0 : J 0 (w.alloc (.cells #[.int .i64 sp] 3)).drew.drew) (jS : ∀ k w1, J k w1 → ∃ x y, w1.cell? ⟨g, 0, none⟩ = some (.int .i64 x) ∧ w1.cell? ⟨w.heap.size, 0, none⟩ = some (.int .i64 y)) (j7 : ∀ w1, J 3 w1 → w1.cell? ⟨g, 0, none⟩ = some (.int .i64 u0) ∧ w1.cell? ⟨w.heap.size, 0, none⟩ = some (.int .i64 u1) ∧ (∃ z, w1.cell? ⟨g, 1, none⟩ = some (.int .i64 z)) ∧ w1.frozen? ⟨g, 1, none⟩ = false) (s0 : ∀ w1 lo hi, J 0 w1 → Calls Tryd.prog 71 #[.pointer (some ⟨g, 0, none⟩), .int .i64 lo, .int .i64 hi, .pointer (some ⟨cx, 0, none⟩)] w1 fun e w2 => e = .returned (.bool true) ∧ J 1 w2) (s1 : ∀ w1 lo hi, J 1 w1 → Calls Tryd.prog 71 #[.pointer (some ⟨w.heap.size, 0, none⟩), .int .i64 lo, .int .i64 hi, .pointer (some ⟨cx, 0, none⟩)] w1 fun e w2 => e = .returned (.bool true) ∧ J 2 w2) (s2 : ∀ w1 lo hi, J 2 w1 → Calls Tryd.prog 71 #[.pointer (some ⟨g, 2, none⟩), .int .i64 lo, .int .i64 hi, .pointer (some ⟨cx, 0, none⟩)] w1 fun e w2 => e = .returned (.bool false) ∧ J 3 w2) :
    Calls Tryd.prog 56 #[.pointer (some ⟨g, 0, none⟩), .func (.func 71) #[] #[.pointer (some ⟨cx, 0, none⟩)]] w fun e w2 => e = .returned (.bool false) ∧ ∃ w1, J 3 w1 ∧ (w1.setCell ⟨g, 1, none⟩ (.int .i64 (wrap64 (u0 + u1)))).drew = w2 := by
  have HJ0 := Lib.hid h0
  clear h0
  go_enter Tryd.func56, Tryd.ntmps56
  go_wp2
  go_region
  go_wp2
  refine wp_region_held_drew (S := fun _ => True) (by kernel_rfl) trivial (fun hHeld => ?_)
  clear hHeld
  refine tP 0 16 _ rfl ?_
  try simp only [tpu, tsa, ts0, ts1]
  refine tP 1 17 _ rfl ?_
  try simp only [tpu, tsa, ts0, ts1]
  refine tP 2 18 _ rfl ?_
  try simp only [tpu, tsa, ts0, ts1]
  refine tP 3 19 _ rfl ?_
  try simp only [tpu, tsa, ts0, ts1]
  refine takeB 4 ⟨some 20, .call { callee := .value (.tmp 16), args := #[.tmp 19, .const (.int .i64 0), .const (.int .i64 1099511627776)], argTypes := #[95, 3, 3] }, 4, "batch.go:149", #[⟨0, .data⟩, ⟨3, .data⟩], none⟩ (by kernel_rfl) rfl (fun K hK => ?_)
  go_simp
  with_reducible refine (s0 _ _ _ HJ0.out).mono ?_
  rintro e w1 ⟨rfl, hj1⟩
  dsimp only
  have HJ1 := Lib.hid hj1
  obtain ⟨x1, y1, d1, f1⟩ := jS _ _ hj1
  clear hj1
  refine hK.out _ _ trivial (fun hHeld => ?_)
  clear hK K hHeld
  try simp only [tpu, tsa, ts0, ts1]
  refine tP 5 21 _ rfl ?_
  try simp only [tpu, tsa, ts0, ts1]
  refine tP 6 22 _ rfl ?_
  try simp only [tpu, tsa, ts0, ts1]
  refine tP 7 23 _ rfl ?_
  try simp only [tpu, tsa, ts0, ts1]
  refine tP 8 24 _ rfl ?_
  try simp only [tpu, tsa, ts0, ts1]
  refine tP 9 25 _ rfl ?_
  try simp only [tpu, tsa, ts0, ts1]
  refine takeB 10 ⟨some 26, .load 3 (.tmp 25), 3, "batch.go:149", #[⟨9, .data⟩, ⟨5, .guard⟩], some (5, true)⟩ (by kernel_rfl) rfl (fun K hK => ?_)
  go_simp
  refine hK.out _ _ trivial (fun hHeld => ?_)
  clear hK K hHeld
  try simp only [tpu, tsa, ts0, ts1]
  refine tP 11 27 _ rfl ?_
  try simp only [tpu, tsa, ts0, ts1]
  refine takeB 12 ⟨some 28, .call { callee := Callee.builtin Builtin.min, args := #[.const (.int .i64 15), .tmp 27], argTypes := #[3, 3] }, 3, "batch.go:149", #[⟨11, .data⟩, ⟨5, .guard⟩], some (5, true)⟩ (by kernel_rfl) rfl (fun K hK => ?_)
  go_simp
  refine hK.out _ _ trivial (fun hHeld => ?_)
  clear hK K hHeld
  try simp only [tpu, tsa, ts0, ts1]
  refine takeB 13 ⟨some 29, .call { callee := .value (.tmp 22), args := #[.tmp 5, .const (.int .i64 0), .tmp 28], argTypes := #[95, 3, 3] }, 4, "batch.go:150", #[⟨6, .data⟩, ⟨12, .data⟩, ⟨5, .chain⟩, ⟨5, .guard⟩], some (5, true)⟩ (by kernel_rfl) rfl (fun K hK => ?_)
  go_simp
  generalize (if IntKind.i64.wrap (1099511627776 - x1) < 15 then IntKind.i64.wrap (1099511627776 - x1) else 15) = h1
  with_reducible refine (s1 _ _ _ HJ1.out).mono ?_
  rintro e w2 ⟨rfl, hj2⟩
  dsimp only
  have HJ2 := Lib.hid hj2
  obtain ⟨x2, y2, d2, f2⟩ := jS _ _ hj2
  clear hj2
  refine hK.out _ _ trivial (fun hHeld => ?_)
  clear hK K hHeld
  try simp only [tpu, tsa, ts0, ts1]
  refine tP 14 30 _ rfl ?_
  try simp only [tpu, tsa, ts0, ts1]
  refine tP 15 31 _ rfl ?_
  try simp only [tpu, tsa, ts0, ts1]
  refine tP 16 32 _ rfl ?_
  try simp only [tpu, tsa, ts0, ts1]
  refine tP 17 33 _ rfl ?_
  try simp only [tpu, tsa, ts0, ts1]
  refine tP 18 34 _ rfl ?_
  try simp only [tpu, tsa, ts0, ts1]
  refine tP 19 35 _ rfl ?_
  try simp only [tpu, tsa, ts0, ts1]
  refine takeB 20 ⟨some 36, .load 3 (.tmp 5), 3, "batch.go:149", #[⟨15, .guard⟩], some (15, true)⟩ (by kernel_rfl) rfl (fun K hK => ?_)
  go_simp
  refine hK.out _ _ trivial (fun hHeld => ?_)
  clear hK K hHeld
  try simp only [tpu, tsa, ts0, ts1]
  refine tP 21 37 _ rfl ?_
  try simp only [tpu, tsa, ts0, ts1]
  refine takeB 22 ⟨some 38, .call { callee := .value (.tmp 32), args := #[.tmp 35, .const (.int .i64 0), .tmp 37], argTypes := #[95, 3, 3] }, 4, "batch.go:151", #[⟨16, .data⟩, ⟨19, .data⟩, ⟨21, .data⟩, ⟨15, .chain⟩, ⟨15, .guard⟩], some (15, true)⟩ (by kernel_rfl) rfl (fun K hK => ?_)
  go_simp
  with_reducible refine (s2 _ _ _ HJ2.out).mono ?_
  rintro e w3 ⟨rfl, hj3⟩
  dsimp only
  have HJ3 := Lib.hid hj3
  obtain ⟨z0, z1, ⟨z, z2⟩, z3⟩ := j7 _ hj3
  clear hj3
  refine hK.out _ _ trivial (fun hHeld => ?_)
  clear hK K hHeld
  try simp only [tpu, tsa, ts0, ts1]
  refine tP 23 39 _ rfl ?_
  try simp only [tpu, tsa, ts0, ts1]
  refine tP 24 40 _ rfl ?_
  try simp only [tpu, tsa, ts0, ts1]
  refine tU 25 41 rfl ?_
  try simp only [tpu, tsa, ts0, ts1]
  refine tU 26 42 rfl ?_
  try simp only [tpu, tsa, ts0, ts1]
  refine tU 27 43 rfl ?_
  try simp only [tpu, tsa, ts0, ts1]
  refine tU 28 44 rfl ?_
  try simp only [tpu, tsa, ts0, ts1]
  refine tU 29 45 rfl ?_
  try simp only [tpu, tsa, ts0, ts1]
  refine tP 30 46 _ rfl ?_
  try simp only [tpu, tsa, ts0, ts1]
  refine tP 31 47 _ rfl ?_
  try simp only [tpu, tsa, ts0, ts1]
  refine tU 32 48 rfl ?_
  try simp only [tpu, tsa, ts0, ts1]
  refine tU 33 49 rfl ?_
  try simp only [tpu, tsa, ts0, ts1]
  refine tU 34 50 rfl ?_
  try simp only [tpu, tsa, ts0, ts1]
  refine tU 35 51 rfl ?_
  try simp only [tpu, tsa, ts0, ts1]
  refine tU 36 52 rfl ?_
  try simp only [tpu, tsa, ts0, ts1]
  refine tP 37 53 _ rfl ?_
  try simp only [tpu, tsa, ts0, ts1]
  refine tP 38 54 _ rfl ?_
  try simp only [tpu, tsa, ts0, ts1]
  refine tU 39 55 rfl ?_
  try simp only [tpu, tsa, ts0, ts1]
  refine tU 40 56 rfl ?_
  try simp only [tpu, tsa, ts0, ts1]
  refine tU 41 57 rfl ?_
  try simp only [tpu, tsa, ts0, ts1]
  refine tU 42 58 rfl ?_
  try simp only [tpu, tsa, ts0, ts1]
  refine tU 43 59 rfl ?_
  try simp only [tpu, tsa, ts0, ts1]
  refine tP 44 60 _ rfl ?_
  try simp only [tpu, tsa, ts0, ts1]
  refine tP 45 61 _ rfl ?_
  try simp only [tpu, tsa, ts0, ts1]
  refine tU 46 62 rfl ?_
  try simp only [tpu, tsa, ts0, ts1]
  refine tU 47 63 rfl ?_
  try simp only [tpu, tsa, ts0, ts1]
  refine tU 48 64 rfl ?_
  try simp only [tpu, tsa, ts0, ts1]
  refine tU 49 65 rfl ?_
  try simp only [tpu, tsa, ts0, ts1]
  refine tU 50 66 rfl ?_
  try simp only [tpu, tsa, ts0, ts1]
  refine tU 51 67 rfl ?_
  try simp only [tpu, tsa, ts0, ts1]
  refine tU 52 68 rfl ?_
  try simp only [tpu, tsa, ts0, ts1]
  refine tP 53 69 _ rfl ?_
  try simp only [tpu, tsa, ts0, ts1]
  refine tP 54 6 _ rfl ?_
  try simp only [tpu, tsa, ts0, ts1]
  refine wpAnyH_done (by kernel_rfl) ?_ _
  go_wp2
  go_region
  go_wp2
  go_ret
  exact ⟨rfl, _, HJ3.out, rfl⟩
set_option maxRecDepth 100000 in
set_option maxHeartbeats 8000000 in
theorem each_E33 (cx g : Nat) (ba la sp u0 u1 : Int) (w : World) (hg : g < w.heap.size) (c0 : w.cell? ⟨g, 0, none⟩ = some (.int .i64 ba)) (c1 : w.cell? ⟨g, 1, none⟩ = some (.int .i64 la)) (hsp : IntKind.i64.wrap (la - ba) = sp) (J : Nat → World → Prop) (h0 : J 0 (w.alloc (.cells #[.int .i64 sp] 3)).drew.drew) (jS : ∀ k w1, J k w1 → ∃ x y, w1.cell? ⟨g, 0, none⟩ = some (.int .i64 x) ∧ w1.cell? ⟨w.heap.size, 0, none⟩ = some (.int .i64 y)) (j7 : ∀ w1, J 4 w1 → w1.cell? ⟨g, 0, none⟩ = some (.int .i64 u0) ∧ w1.cell? ⟨w.heap.size, 0, none⟩ = some (.int .i64 u1) ∧ (∃ z, w1.cell? ⟨g, 1, none⟩ = some (.int .i64 z)) ∧ w1.frozen? ⟨g, 1, none⟩ = false) (s0 : ∀ w1 lo hi, J 0 w1 → Calls Tryd.prog 71 #[.pointer (some ⟨g, 0, none⟩), .int .i64 lo, .int .i64 hi, .pointer (some ⟨cx, 0, none⟩)] w1 fun e w2 => e = .returned (.bool true) ∧ J 1 w2) (s1 : ∀ w1 lo hi, J 1 w1 → Calls Tryd.prog 71 #[.pointer (some ⟨w.heap.size, 0, none⟩), .int .i64 lo, .int .i64 hi, .pointer (some ⟨cx, 0, none⟩)] w1 fun e w2 => e = .returned (.bool true) ∧ J 2 w2) (s2 : ∀ w1 lo hi, J 2 w1 → Calls Tryd.prog 71 #[.pointer (some ⟨g, 2, none⟩), .int .i64 lo, .int .i64 hi, .pointer (some ⟨cx, 0, none⟩)] w1 fun e w2 => e = .returned (.bool true) ∧ J 3 w2) (s3 : ∀ w1 lo hi, J 3 w1 → Calls Tryd.prog 71 #[.pointer (some ⟨g, 3, none⟩), .int .i64 lo, .int .i64 hi, .pointer (some ⟨cx, 0, none⟩)] w1 fun e w2 => e = .returned (.bool false) ∧ J 4 w2) :
    Calls Tryd.prog 56 #[.pointer (some ⟨g, 0, none⟩), .func (.func 71) #[] #[.pointer (some ⟨cx, 0, none⟩)]] w fun e w2 => e = .returned (.bool false) ∧ ∃ w1, J 4 w1 ∧ (w1.setCell ⟨g, 1, none⟩ (.int .i64 (wrap64 (u0 + u1)))).drew = w2 := by
  have HJ0 := Lib.hid h0
  clear h0
  go_enter Tryd.func56, Tryd.ntmps56
  go_wp2
  go_region
  go_wp2
  refine wp_region_held_drew (S := fun _ => True) (by kernel_rfl) trivial (fun hHeld => ?_)
  clear hHeld
  refine tP 0 16 _ rfl ?_
  try simp only [tpu, tsa, ts0, ts1]
  refine tP 1 17 _ rfl ?_
  try simp only [tpu, tsa, ts0, ts1]
  refine tP 2 18 _ rfl ?_
  try simp only [tpu, tsa, ts0, ts1]
  refine tP 3 19 _ rfl ?_
  try simp only [tpu, tsa, ts0, ts1]
  refine takeB 4 ⟨some 20, .call { callee := .value (.tmp 16), args := #[.tmp 19, .const (.int .i64 0), .const (.int .i64 1099511627776)], argTypes := #[95, 3, 3] }, 4, "batch.go:149", #[⟨0, .data⟩, ⟨3, .data⟩], none⟩ (by kernel_rfl) rfl (fun K hK => ?_)
  go_simp
  with_reducible refine (s0 _ _ _ HJ0.out).mono ?_
  rintro e w1 ⟨rfl, hj1⟩
  dsimp only
  have HJ1 := Lib.hid hj1
  obtain ⟨x1, y1, d1, f1⟩ := jS _ _ hj1
  clear hj1
  refine hK.out _ _ trivial (fun hHeld => ?_)
  clear hK K hHeld
  try simp only [tpu, tsa, ts0, ts1]
  refine tP 5 21 _ rfl ?_
  try simp only [tpu, tsa, ts0, ts1]
  refine tP 6 22 _ rfl ?_
  try simp only [tpu, tsa, ts0, ts1]
  refine tP 7 23 _ rfl ?_
  try simp only [tpu, tsa, ts0, ts1]
  refine tP 8 24 _ rfl ?_
  try simp only [tpu, tsa, ts0, ts1]
  refine tP 9 25 _ rfl ?_
  try simp only [tpu, tsa, ts0, ts1]
  refine takeB 10 ⟨some 26, .load 3 (.tmp 25), 3, "batch.go:149", #[⟨9, .data⟩, ⟨5, .guard⟩], some (5, true)⟩ (by kernel_rfl) rfl (fun K hK => ?_)
  go_simp
  refine hK.out _ _ trivial (fun hHeld => ?_)
  clear hK K hHeld
  try simp only [tpu, tsa, ts0, ts1]
  refine tP 11 27 _ rfl ?_
  try simp only [tpu, tsa, ts0, ts1]
  refine takeB 12 ⟨some 28, .call { callee := Callee.builtin Builtin.min, args := #[.const (.int .i64 15), .tmp 27], argTypes := #[3, 3] }, 3, "batch.go:149", #[⟨11, .data⟩, ⟨5, .guard⟩], some (5, true)⟩ (by kernel_rfl) rfl (fun K hK => ?_)
  go_simp
  refine hK.out _ _ trivial (fun hHeld => ?_)
  clear hK K hHeld
  try simp only [tpu, tsa, ts0, ts1]
  refine takeB 13 ⟨some 29, .call { callee := .value (.tmp 22), args := #[.tmp 5, .const (.int .i64 0), .tmp 28], argTypes := #[95, 3, 3] }, 4, "batch.go:150", #[⟨6, .data⟩, ⟨12, .data⟩, ⟨5, .chain⟩, ⟨5, .guard⟩], some (5, true)⟩ (by kernel_rfl) rfl (fun K hK => ?_)
  go_simp
  generalize (if IntKind.i64.wrap (1099511627776 - x1) < 15 then IntKind.i64.wrap (1099511627776 - x1) else 15) = h1
  with_reducible refine (s1 _ _ _ HJ1.out).mono ?_
  rintro e w2 ⟨rfl, hj2⟩
  dsimp only
  have HJ2 := Lib.hid hj2
  obtain ⟨x2, y2, d2, f2⟩ := jS _ _ hj2
  clear hj2
  refine hK.out _ _ trivial (fun hHeld => ?_)
  clear hK K hHeld
  try simp only [tpu, tsa, ts0, ts1]
  refine tP 14 30 _ rfl ?_
  try simp only [tpu, tsa, ts0, ts1]
  refine tP 15 31 _ rfl ?_
  try simp only [tpu, tsa, ts0, ts1]
  refine tP 16 32 _ rfl ?_
  try simp only [tpu, tsa, ts0, ts1]
  refine tP 17 33 _ rfl ?_
  try simp only [tpu, tsa, ts0, ts1]
  refine tP 18 34 _ rfl ?_
  try simp only [tpu, tsa, ts0, ts1]
  refine tP 19 35 _ rfl ?_
  try simp only [tpu, tsa, ts0, ts1]
  refine takeB 20 ⟨some 36, .load 3 (.tmp 5), 3, "batch.go:149", #[⟨15, .guard⟩], some (15, true)⟩ (by kernel_rfl) rfl (fun K hK => ?_)
  go_simp
  refine hK.out _ _ trivial (fun hHeld => ?_)
  clear hK K hHeld
  try simp only [tpu, tsa, ts0, ts1]
  refine tP 21 37 _ rfl ?_
  try simp only [tpu, tsa, ts0, ts1]
  refine takeB 22 ⟨some 38, .call { callee := .value (.tmp 32), args := #[.tmp 35, .const (.int .i64 0), .tmp 37], argTypes := #[95, 3, 3] }, 4, "batch.go:151", #[⟨16, .data⟩, ⟨19, .data⟩, ⟨21, .data⟩, ⟨15, .chain⟩, ⟨15, .guard⟩], some (15, true)⟩ (by kernel_rfl) rfl (fun K hK => ?_)
  go_simp
  with_reducible refine (s2 _ _ _ HJ2.out).mono ?_
  rintro e w3 ⟨rfl, hj3⟩
  dsimp only
  have HJ3 := Lib.hid hj3
  obtain ⟨x3, y3, d3, f3⟩ := jS _ _ hj3
  clear hj3
  refine hK.out _ _ trivial (fun hHeld => ?_)
  clear hK K hHeld
  try simp only [tpu, tsa, ts0, ts1]
  refine tP 23 39 _ rfl ?_
  try simp only [tpu, tsa, ts0, ts1]
  refine tP 24 40 _ rfl ?_
  try simp only [tpu, tsa, ts0, ts1]
  refine tP 25 41 _ rfl ?_
  try simp only [tpu, tsa, ts0, ts1]
  refine tP 26 42 _ rfl ?_
  try simp only [tpu, tsa, ts0, ts1]
  refine tP 27 43 _ rfl ?_
  try simp only [tpu, tsa, ts0, ts1]
  refine tP 28 44 _ rfl ?_
  try simp only [tpu, tsa, ts0, ts1]
  refine takeB 29 ⟨some 45, .call { callee := .value (.tmp 41), args := #[.tmp 44, .const (.int .i64 0), .const (.int .i64 1048576)], argTypes := #[95, 3, 3] }, 4, "batch.go:152", #[⟨25, .data⟩, ⟨28, .data⟩, ⟨24, .chain⟩, ⟨24, .guard⟩], some (24, true)⟩ (by kernel_rfl) rfl (fun K hK => ?_)
  go_simp
  with_reducible refine (s3 _ _ _ HJ3.out).mono ?_
  rintro e w4 ⟨rfl, hj4⟩
  dsimp only
  have HJ4 := Lib.hid hj4
  obtain ⟨z0, z1, ⟨z, z2⟩, z3⟩ := j7 _ hj4
  clear hj4
  refine hK.out _ _ trivial (fun hHeld => ?_)
  clear hK K hHeld
  try simp only [tpu, tsa, ts0, ts1]
  refine tP 30 46 _ rfl ?_
  try simp only [tpu, tsa, ts0, ts1]
  refine tP 31 47 _ rfl ?_
  try simp only [tpu, tsa, ts0, ts1]
  refine tU 32 48 rfl ?_
  try simp only [tpu, tsa, ts0, ts1]
  refine tU 33 49 rfl ?_
  try simp only [tpu, tsa, ts0, ts1]
  refine tU 34 50 rfl ?_
  try simp only [tpu, tsa, ts0, ts1]
  refine tU 35 51 rfl ?_
  try simp only [tpu, tsa, ts0, ts1]
  refine tU 36 52 rfl ?_
  try simp only [tpu, tsa, ts0, ts1]
  refine tP 37 53 _ rfl ?_
  try simp only [tpu, tsa, ts0, ts1]
  refine tP 38 54 _ rfl ?_
  try simp only [tpu, tsa, ts0, ts1]
  refine tU 39 55 rfl ?_
  try simp only [tpu, tsa, ts0, ts1]
  refine tU 40 56 rfl ?_
  try simp only [tpu, tsa, ts0, ts1]
  refine tU 41 57 rfl ?_
  try simp only [tpu, tsa, ts0, ts1]
  refine tU 42 58 rfl ?_
  try simp only [tpu, tsa, ts0, ts1]
  refine tU 43 59 rfl ?_
  try simp only [tpu, tsa, ts0, ts1]
  refine tP 44 60 _ rfl ?_
  try simp only [tpu, tsa, ts0, ts1]
  refine tP 45 61 _ rfl ?_
  try simp only [tpu, tsa, ts0, ts1]
  refine tU 46 62 rfl ?_
  try simp only [tpu, tsa, ts0, ts1]
  refine tU 47 63 rfl ?_
  try simp only [tpu, tsa, ts0, ts1]
  refine tU 48 64 rfl ?_
  try simp only [tpu, tsa, ts0, ts1]
  refine tU 49 65 rfl ?_
  try simp only [tpu, tsa, ts0, ts1]
  refine tU 50 66 rfl ?_
  try simp only [tpu, tsa, ts0, ts1]
  refine tU 51 67 rfl ?_
  try simp only [tpu, tsa, ts0, ts1]
  refine tU 52 68 rfl ?_
  try simp only [tpu, tsa, ts0, ts1]
  refine tP 53 69 _ rfl ?_
  try simp only [tpu, tsa, ts0, ts1]
  refine tP 54 6 _ rfl ?_
  try simp only [tpu, tsa, ts0, ts1]
  refine wpAnyH_done (by kernel_rfl) ?_ _
  go_wp2
  go_region
  go_wp2
  go_ret
  exact ⟨rfl, _, HJ4.out, rfl⟩
end Go.Proofs.YtbnkfljkojhkoaaDoor.Bat
