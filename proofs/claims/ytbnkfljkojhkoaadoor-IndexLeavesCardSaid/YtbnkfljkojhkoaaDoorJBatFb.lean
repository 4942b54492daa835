/- Joined: BatDevE3b. -/
import Derived.Test.YtbnkfljkojhkoaaDoorJBatA
import Derived.RegionTactic
import Derived.BigRegion
import Derived.Test.YtbnkfljkojhkoaaDoorJBatE
/- The contract of the landed eachNumber, handed read$2: it is called number by number till it answers false. -/
namespace Go.Proofs.YtbnkfljkojhkoaaDoor.Bat
open Go.RowKit Go.Proofs.YtbnkfljkojhkoaaDoor.Oct Go.Proofs.YtbnkfljkojhkoaaDoor.Rec Go.Proofs.YtbnkfljkojhkoaaDoor.Crc

set_option maxRecDepth 100000 in
set_option maxHeartbeats 8000000 in
theorem each_E3b4 (cx g : Nat) (ba la sp u0 u1 : Int) (w : World) (hg : g < w.heap.size) (c0 : w.cell? ⟨g, 0, none⟩ = some (.int .i64 ba)) (c1 : w.cell? ⟨g, 1, none⟩ = some (.int .i64 la)) (hsp : IntKind.i64.wrap (la - ba) = sp) (J : Nat → World → Prop) (h0 : J 0 (w.alloc (.cells #[.int .i64 sp] 3)).drew.drew) (jS : ∀ k w1, J k w1 → ∃ x y, w1.cell? ⟨g, 0, none⟩ = some (.int .i64 x) ∧ w1.cell? ⟨w.heap.size, 0, none⟩ = some (.int .i64 y)) (j7 : ∀ w1, J 5 w1 → w1.cell? ⟨g, 0, none⟩ = some (.int .i64 u0) ∧ w1.cell? ⟨w.heap.size, 0, none⟩ = some (.int .i64 u1) ∧ (∃ z, w1.cell? ⟨g, 1, none⟩ = some (.int .i64 z)) ∧ w1.frozen? ⟨g, 1, none⟩ = false) (s0 : ∀ w1 lo hi, J 0 w1 → Calls Tryd.prog 71 #[.pointer (some ⟨g, 0, none⟩), .int .i64 lo, .int .i64 hi, .pointer (some ⟨cx, 0, none⟩)] w1 fun e w2 => e = .returned (.bool true) ∧ J 1 w2) (s1 : ∀ w1 lo hi, J 1 w1 → Calls Tryd.prog 71 #[.pointer (some ⟨w.heap.size, 0, none⟩), .int .i64 lo, .int .i64 hi, .pointer (some ⟨cx, 0, none⟩)] w1 fun e w2 => e = .returned (.bool true) ∧ J 2 w2) (s2 : ∀ w1 lo hi, J 2 w1 → Calls Tryd.prog 71 #[.pointer (some ⟨g, 2, none⟩), .int .i64 lo, .int .i64 hi, .pointer (some ⟨cx, 0, none⟩)] w1 fun e w2 => e = .returned (.bool true) ∧ J 3 w2) (s3 : ∀ w1 lo hi, J 3 w1 → Calls Tryd.prog 71 #[.pointer (some ⟨g, 3, none⟩), .int .i64 lo, .int .i64 hi, .pointer (some ⟨cx, 0, none⟩)] w1 fun e w2 => e = .returned (.bool true) ∧ J 4 w2) (s4 : ∀ w1 lo hi, J 4 w1 → Calls Tryd.prog 71 #[.pointer (some ⟨g, 4, none⟩), .int .i64 lo, .int .i64 hi, .pointer (some ⟨cx, 0, none⟩)] w1 fun e w2 => e = .returned (.bool false) ∧ J 5 w2) :
    Calls Tryd.prog 56 #[.pointer (some ⟨g, 0, none⟩), .func (.func 71) #[] #[.pointer (some ⟨cx, 0, none⟩)]] w fun e w2 => e = .returned (.bool false) ∧ ∃ w1, J 5 w1 ∧ (w1.setCell ⟨g, 1, none⟩ (.int .i64 (wrap64 (u0 + u1)))).drew = w2 := by
  have HJ0 := Lib.hid h0
  clear h0
  go_enter Tryd.func56, Tryd.ntmps56
  go_wp2
  go_region
  go_wp2
  refine wp_region_held_drew (S := fun _ => True) (by kernel_rfl) trivial (fun hHeld => ?_)
  clear hHeld
  refine tP 0 16 _ rfl ?_
  try simp only [tpu, tsa, ts0, ts1]
  refine tP 1 17 _ rfl ?_
  try simp only [tpu, tsa, ts0, ts1]
  refine tP 2 18 _ rfl ?_
  try simp only [tpu, tsa, ts0, ts1]
  refine tP 3 19 _ rfl ?_
  try simp only [tpu, tsa, ts0, ts1]
  refine takeB 4 ⟨some 20, .call { callee := .value (.tmp 16), args := #[.tmp 19, .const (.int .i64 0), .const (.int .i64 1099511627776)], argTypes := #[95, 3, 3] }, 4, "batch.go:149", #[⟨0, .data⟩, ⟨3, .data⟩], none⟩ (by kernel_rfl) rfl (fun K hK => ?_)
  go_simp
  with_reducible refine (s0 _ _ _ HJ0.out).mono ?_
  rintro e w1 ⟨rfl, hj1⟩
  dsimp only
  have HJ1 := Lib.hid hj1
  obtain ⟨x1, y1, d1, f1⟩ := jS _ _ hj1
  clear hj1
  refine hK.out _ _ trivial (fun hHeld => ?_)
  clear hK K hHeld
  try simp only [tpu, tsa, ts0, ts1]
  refine tP 5 21 _ rfl ?_
  try simp only [tpu, tsa, ts0, ts1]
  refine tP 6 22 _ rfl ?_
  try simp only [tpu, tsa, ts0, ts1]
  refine tP 7 23 _ rfl ?_
  try simp only [tpu, tsa, ts0, ts1]
  refine tP 8 24 _ rfl ?_
  try simp only [tpu, tsa, ts0, ts1]
  refine tP 9 25 _ rfl ?_
  try simp only [tpu, tsa, ts0, ts1]
  refine takeB 10 ⟨some 26, .load 3 (.tmp 25), 3, "batch.go:149", #[⟨9, .data⟩, ⟨5, .guard⟩], some (5, true)⟩ (by kernel_rfl) rfl (fun K hK => ?_)
  go_simp
  refine hK.out _ _ trivial (fun hHeld => ?_)
  clear hK K hHeld
  try simp only [tpu, tsa, ts0, ts1]
  refine tP 11 27 _ rfl ?_
  try simp only [tpu, tsa, ts0, ts1]
  refine takeB 12 ⟨some 28, .call { callee := Callee.builtin Builtin.min, args := #[.const (.int .i64 15), .tmp 27], argTypes := #[3, 3] }, 3, "batch.go:149", #[⟨11, .data⟩, ⟨5, .guard⟩], some (5, true)⟩ (by kernel_rfl) rfl (fun K hK => ?_)
  go_simp
  refine hK.out _ _ trivial (fun hHeld => ?_)
  clear hK K hHeld
  try simp only [tpu, tsa, ts0, ts1]
  refine takeB 13 ⟨some 29, .call { callee := .value (.tmp 22), args := #[.tmp 5, .const (.int .i64 0), .tmp 28], argTypes := #[95, 3, 3] }, 4, "batch.go:150", #[⟨6, .data⟩, ⟨12, .data⟩, ⟨5, .chain⟩, ⟨5, .guard⟩], some (5, true)⟩ (by kernel_rfl) rfl (fun K hK => ?_)
  go_simp
  generalize (if IntKind.i64.wrap (1099511627776 - x1) < 15 then IntKind.i64.wrap (1099511627776 - x1) else 15) = h1
  with_reducible refine (s1 _ _ _ HJ1.out).mono ?_
  rintro e w2 ⟨rfl, hj2⟩
  dsimp only
  have HJ2 := Lib.hid hj2
  obtain ⟨x2, y2, d2, f2⟩ := jS _ _ hj2
  clear hj2
  refine hK.out _ _ trivial (fun hHeld => ?_)
  clear hK K hHeld
  try simp only [tpu, tsa, ts0, ts1]
  refine tP 14 30 _ rfl ?_
  try simp only [tpu, tsa, ts0, ts1]
  refine tP 15 31 _ rfl ?_
  try simp only [tpu, tsa, ts0, ts1]
  refine tP 16 32 _ rfl ?_
  try simp only [tpu, tsa, ts0, ts1]
  refine tP 17 33 _ rfl ?_
  try simp only [tpu, tsa, ts0, ts1]
  refine tP 18 34 _ rfl ?_
  try simp only [tpu, tsa, ts0, ts1]
  refine tP 19 35 _ rfl ?_
  try simp only [tpu, tsa, ts0, ts1]
  refine takeB 20 ⟨some 36, .load 3 (.tmp 5), 3, "batch.go:149", #[⟨15, .guard⟩], some (15, true)⟩ (by kernel_rfl) rfl (fun K hK => ?_)
  go_simp
  refine hK.out _ _ trivial (fun hHeld => ?_)
  clear hK K hHeld
  try simp only [tpu, tsa, ts0, ts1]
  refine tP 21 37 _ rfl ?_
  try simp only [tpu, tsa, ts0, ts1]
  refine takeB 22 ⟨some 38, .call { callee := .value (.tmp 32), args := #[.tmp 35, .const (.int .i64 0), .tmp 37], argTypes := #[95, 3, 3] }, 4, "batch.go:151", #[⟨16, .data⟩, ⟨19, .data⟩, ⟨21, .data⟩, ⟨15, .chain⟩, ⟨15, .guard⟩], some (15, true)⟩ (by kernel_rfl) rfl (fun K hK => ?_)
  go_simp
  with_reducible refine (s2 _ _ _ HJ2.out).mono ?_
  rintro e w3 ⟨rfl, hj3⟩
  dsimp only
  have HJ3 := Lib.hid hj3
  obtain ⟨x3, y3, d3, f3⟩ := jS _ _ hj3
  clear hj3
  refine hK.out _ _ trivial (fun hHeld => ?_)
  clear hK K hHeld
  try simp only [tpu, tsa, ts0, ts1]
  refine tP 23 39 _ rfl ?_
  try simp only [tpu, tsa, ts0, ts1]
  refine tP 24 40 _ rfl ?_
  try simp only [tpu, tsa, ts0, ts1]
  refine tP 25 41 _ rfl ?_
  try simp only [tpu, tsa, ts0, ts1]
  refine tP 26 42 _ rfl ?_
  try simp only [tpu, tsa, ts0, ts1]
  refine tP 27 43 _ rfl ?_
  try simp only [tpu, tsa, ts0, ts1]
  refine tP 28 44 _ rfl ?_
  try simp only [tpu, tsa, ts0, ts1]
  refine takeB 29 ⟨some 45, .call { callee := .value (.tmp 41), args := #[.tmp 44, .const (.int .i64 0), .const (.int .i64 1048576)], argTypes := #[95, 3, 3] }, 4, "batch.go:152", #[⟨25, .data⟩, ⟨28, .data⟩, ⟨24, .chain⟩, ⟨24, .guard⟩], some (24, true)⟩ (by kernel_rfl) rfl (fun K hK => ?_)
  go_simp
  with_reducible refine (s3 _ _ _ HJ3.out).mono ?_
  rintro e w4 ⟨rfl, hj4⟩
  dsimp only
  have HJ4 := Lib.hid hj4
  obtain ⟨x4, y4, d4, f4⟩ := jS _ _ hj4
  clear hj4
  refine hK.out _ _ trivial (fun hHeld => ?_)
  clear hK K hHeld
  try simp only [tpu, tsa, ts0, ts1]
  refine tP 30 46 _ rfl ?_
  try simp only [tpu, tsa, ts0, ts1]
  refine tP 31 47 _ rfl ?_
  try simp only [tpu, tsa, ts0, ts1]
  refine tP 32 48 _ rfl ?_
  try simp only [tpu, tsa, ts0, ts1]
  refine tP 33 49 _ rfl ?_
  try simp only [tpu, tsa, ts0, ts1]
  refine tP 34 50 _ rfl ?_
  try simp only [tpu, tsa, ts0, ts1]
  refine tP 35 51 _ rfl ?_
  try simp only [tpu, tsa, ts0, ts1]
  refine takeB 36 ⟨some 52, .call { callee := .value (.tmp 48), args := #[.tmp 51, .const (.int .i64 (-1)), .const (.int .i64 1099511627776)], argTypes := #[95, 3, 3] }, 4, "batch.go:153", #[⟨32, .data⟩, ⟨35, .data⟩, ⟨31, .chain⟩, ⟨31, .guard⟩], some (31, true)⟩ (by kernel_rfl) rfl (fun K hK => ?_)
  go_simp
  with_reducible refine (s4 _ _ _ HJ4.out).mono ?_
  rintro e w5 ⟨rfl, hj5⟩
  dsimp only
  have HJ5 := Lib.hid hj5
  obtain ⟨z0, z1, ⟨z, z2⟩, z3⟩ := j7 _ hj5
  clear hj5
  refine hK.out _ _ trivial (fun hHeld => ?_)
  clear hK K hHeld
  try simp only [tpu, tsa, ts0, ts1]
  refine tP 37 53 _ rfl ?_
  try simp only [tpu, tsa, ts0, ts1]
  refine tP 38 54 _ rfl ?_
  try simp only [tpu, tsa, ts0, ts1]
  refine tU 39 55 rfl ?_
  try simp only [tpu, tsa, ts0, ts1]
  refine tU 40 56 rfl ?_
  try simp only [tpu, tsa, ts0, ts1]
  refine tU 41 57 rfl ?_
  try simp only [tpu, tsa, ts0, ts1]
  refine tU 42 58 rfl ?_
  try simp only [tpu, tsa, ts0, ts1]
  refine tU 43 59 rfl ?_
  try simp only [tpu, tsa, ts0, ts1]
  refine tP 44 60 _ rfl ?_
  try simp only [tpu, tsa, ts0, ts1]
  refine tP 45 61 _ rfl ?_
  try simp only [tpu, tsa, ts0, ts1]
  refine tU 46 62 rfl ?_
  try simp only [tpu, tsa, ts0, ts1]
  refine tU 47 63 rfl ?_
  try simp only [tpu, tsa, ts0, ts1]
  refine tU 48 64 rfl ?_
  try simp only [tpu, tsa, ts0, ts1]
  refine tU 49 65 rfl ?_
  try simp only [tpu, tsa, ts0, ts1]
  refine tU 50 66 rfl ?_
  try simp only [tpu, tsa, ts0, ts1]
  refine tU 51 67 rfl ?_
  try simp only [tpu, tsa, ts0, ts1]
  refine tU 52 68 rfl ?_
  try simp only [tpu, tsa, ts0, ts1]
  refine tP 53 69 _ rfl ?_
  try simp only [tpu, tsa, ts0, ts1]
  refine tP 54 6 _ rfl ?_
  try simp only [tpu, tsa, ts0, ts1]
  refine wpAnyH_done (by kernel_rfl) ?_ _
  go_wp2
  go_region
  go_wp2
  go_ret
  exact ⟨rfl, _, HJ5.out, rfl⟩
set_option maxRecDepth 100000 in
set_option maxHeartbeats 8000000 in
theorem each_E3b5 (cx g : Nat) (ba la sp u0 u1 : Int) (w : World) (hg : g < w.heap.size) (c0 : w.cell? ⟨g, 0, none⟩ = some (.int .i64 ba)) (c1 : w.cell? ⟨g, 1, none⟩ = some (.int .i64 la)) (hsp : IntKind.i64.wrap (la - ba) = sp) (J : Nat → World → Prop) (h0 : J 0 (w.alloc (.cells #[.int .i64 sp] 3)).drew.drew) (jS : ∀ k w1, J k w1 → ∃ x y, w1.cell? ⟨g, 0, none⟩ = some (.int .i64 x) ∧ w1.cell? ⟨w.heap.size, 0, none⟩ = some (.int .i64 y)) (j7 : ∀ w1, J 6 w1 → w1.cell? ⟨g, 0, none⟩ = some (.int .i64 u0) ∧ w1.cell? ⟨w.heap.size, 0, none⟩ = some (.int .i64 u1) ∧ (∃ z, w1.cell? ⟨g, 1, none⟩ = some (.int .i64 z)) ∧ w1.frozen? ⟨g, 1, none⟩ = false) (s0 : ∀ w1 lo hi, J 0 w1 → Calls Tryd.prog 71 #[.pointer (some ⟨g, 0, none⟩), .int .i64 lo, .int .i64 hi, .pointer (some ⟨cx, 0, none⟩)] w1 fun e w2 => e = .returned (.bool true) ∧ J 1 w2) (s1 : ∀ w1 lo hi, J 1 w1 → Calls Tryd.prog 71 #[.pointer (some ⟨w.heap.size, 0, none⟩), .int .i64 lo, .int .i64 hi, .pointer (some ⟨cx, 0, none⟩)] w1 fun e w2 => e = .returned (.bool true) ∧ J 2 w2) (s2 : ∀ w1 lo hi, J 2 w1 → Calls Tryd.prog 71 #[.pointer (some ⟨g, 2, none⟩), .int .i64 lo, .int .i64 hi, .pointer (some ⟨cx, 0, none⟩)] w1 fun e w2 => e = .returned (.bool true) ∧ J 3 w2) (s3 : ∀ w1 lo hi, J 3 w1 → Calls Tryd.prog 71 #[.pointer (some ⟨g, 3, none⟩), .int .i64 lo, .int .i64 hi, .pointer (some ⟨cx, 0, none⟩)] w1 fun e w2 => e = .returned (.bool true) ∧ J 4 w2) (s4 : ∀ w1 lo hi, J 4 w1 → Calls Tryd.prog 71 #[.pointer (some ⟨g, 4, none⟩), .int .i64 lo, .int .i64 hi, .pointer (some ⟨cx, 0, none⟩)] w1 fun e w2 => e = .returned (.bool true) ∧ J 5 w2) (s5 : ∀ w1 lo hi, J 5 w1 → Calls Tryd.prog 71 #[.pointer (some ⟨g, 5, none⟩), .int .i64 lo, .int .i64 hi, .pointer (some ⟨cx, 0, none⟩)] w1 fun e w2 => e = .returned (.bool false) ∧ J 6 w2) :
    Calls Tryd.prog 56 #[.pointer (some ⟨g, 0, none⟩), .func (.func 71) #[] #[.pointer (some ⟨cx, 0, none⟩)]] w fun e w2 => e = .returned (.bool false) ∧ ∃ w1, J 6 w1 ∧ (w1.setCell ⟨g, 1, none⟩ (.int .i64 (wrap64 (u0 + u1)))).drew = w2 := by
  have HJ0 := Lib.hid h0
  clear h0
  go_enter Tryd.func56, Tryd.ntmps56
  go_wp2
  go_region
  go_wp2
  refine wp_region_held_drew (S := fun _ => True) (by kernel_rfl) trivial (fun hHeld => ?_)
  clear hHeld
  refine tP 0 16 _ rfl ?_
  try simp only [tpu, tsa, ts0, ts1]
  refine tP 1 17 _ rfl ?_
  try simp only [tpu, tsa, ts0, ts1]
  refine tP 2 18 _ rfl ?_
  try simp only [tpu, tsa, ts0, ts1]
  refine tP 3 19 _ rfl ?_
  try simp only [tpu, tsa, ts0, ts1]
  refine takeB 4 ⟨some 20, .call { callee := .value (.tmp 16), args := #[.tmp 19, .const (.int .i64 0), .const (.int .i64 1099511627776)], argTypes := #[95, 3, 3] }, 4, "batch.go:149", #[⟨0, .data⟩, ⟨3, .data⟩], none⟩ (by kernel_rfl) rfl (fun K hK => ?_)
  go_simp
  with_reducible refine (s0 _ _ _ HJ0.out).mono ?_
  rintro e w1 ⟨rfl, hj1⟩
  dsimp only
  have HJ1 := Lib.hid hj1
  obtain ⟨x1, y1, d1, f1⟩ := jS _ _ hj1
  clear hj1
  refine hK.out _ _ trivial (fun hHeld => ?_)
  clear hK K hHeld
  try simp only [tpu, tsa, ts0, ts1]
  refine tP 5 21 _ rfl ?_
  try simp only [tpu, tsa, ts0, ts1]
  refine tP 6 22 _ rfl ?_
  try simp only [tpu, tsa, ts0, ts1]
  refine tP 7 23 _ rfl ?_
  try simp only [tpu, tsa, ts0, ts1]
  refine tP 8 24 _ rfl ?_
  try simp only [tpu, tsa, ts0, ts1]
  refine tP 9 25 _ rfl ?_
  try simp only [tpu, tsa, ts0, ts1]
  refine takeB 10 ⟨some 26, .load 3 (.tmp 25), 3, "batch.go:149", #[⟨9, .data⟩, ⟨5, .guard⟩], some (5, true)⟩ (by kernel_rfl) rfl (fun K hK => ?_)
  go_simp
  refine hK.out _ _ trivial (fun hHeld => ?_)
  clear hK K hHeld
  try simp only [tpu, tsa, ts0, ts1]
  refine tP 11 27 _ rfl ?_
  try simp only [tpu, tsa, ts0, ts1]
  refine takeB 12 ⟨some 28, .call { callee := Callee.builtin Builtin.min, args := #[.const (.int .i64 15), .tmp 27], argTypes := #[3, 3] }, 3, "batch.go:149", #[⟨11, .data⟩, ⟨5, .guard⟩], some (5, true)⟩ (by kernel_rfl) rfl (fun K hK => ?_)
  go_simp
  refine hK.out _ _ trivial (fun hHeld => ?_)
  clear hK K hHeld
  try simp only [tpu, tsa, ts0, ts1]
  refine takeB 13 ⟨some 29, .call { callee := .value (.tmp 22), args := #[.tmp 5, .const (.int .i64 0), .tmp 28], argTypes := #[95, 3, 3] }, 4, "batch.go:150", #[⟨6, .data⟩, ⟨12, .data⟩, ⟨5, .chain⟩, ⟨5, .guard⟩], some (5, true)⟩ (by kernel_rfl) rfl (fun K hK => ?_)
  go_simp
  generalize (if IntKind.i64.wrap (1099511627776 - x1) < 15 then IntKind.i64.wrap (1099511627776 - x1) else 15) = h1
  with_reducible refine (s1 _ _ _ HJ1.out).mono ?_
  rintro e w2 ⟨rfl, hj2⟩
  dsimp only
  have HJ2 := Lib.hid hj2
  obtain ⟨x2, y2, d2, f2⟩ := jS _ _ hj2
  clear hj2
  refine hK.out _ _ trivial (fun hHeld => ?_)
  clear hK K hHeld
  try simp only [tpu, tsa, ts0, ts1]
  refine tP 14 30 _ rfl ?_
  try simp only [tpu, tsa, ts0, ts1]
  refine tP 15 31 _ rfl ?_
  try simp only [tpu, tsa, ts0, ts1]
  refine tP 16 32 _ rfl ?_
  try simp only [tpu, tsa, ts0, ts1]
  refine tP 17 33 _ rfl ?_
  try simp only [tpu, tsa, ts0, ts1]
  refine tP 18 34 _ rfl ?_
  try simp only [tpu, tsa, ts0, ts1]
  refine tP 19 35 _ rfl ?_
  try simp only [tpu, tsa, ts0, ts1]
  refine takeB 20 ⟨some 36, .load 3 (.tmp 5), 3, "batch.go:149", #[⟨15, .guard⟩], some (15, true)⟩ (by kernel_rfl) rfl (fun K hK => ?_)
  go_simp
  refine hK.out _ _ trivial (fun hHeld => ?_)
  clear hK K hHeld
  try simp only [tpu, tsa, ts0, ts1]
  refine tP 21 37 _ rfl ?_
  try simp only [tpu, tsa, ts0, ts1]
  refine takeB 22 ⟨some 38, .call { callee := .value (.tmp 32), args := #[.tmp 35, .const (.int .i64 0), .tmp 37], argTypes := #[95, 3, 3] }, 4, "batch.go:151", #[⟨16, .data⟩, ⟨19, .data⟩, ⟨21, .data⟩, ⟨15, .chain⟩, ⟨15, .guard⟩], some (15, true)⟩ (by kernel_rfl) rfl (fun K hK => ?_)
  go_simp
  with_reducible refine (s2 _ _ _ HJ2.out).mono ?_
  rintro e w3 ⟨rfl, hj3⟩
  dsimp only
  have HJ3 := Lib.hid hj3
  obtain ⟨x3, y3, d3, f3⟩ := jS _ _ hj3
  clear hj3
  refine hK.out _ _ trivial (fun hHeld => ?_)
  clear hK K hHeld
  try simp only [tpu, tsa, ts0, ts1]
  refine tP 23 39 _ rfl ?_
  try simp only [tpu, tsa, ts0, ts1]
  refine tP 24 40 _ rfl ?_
  try simp only [tpu, tsa, ts0, ts1]
  refine tP 25 41 _ rfl ?_
  try simp only [tpu, tsa, ts0, ts1]
  refine tP 26 42 _ rfl ?_
  try simp only [tpu, tsa, ts0, ts1]
  refine tP 27 43 _ rfl ?_
  try simp only [tpu, tsa, ts0, ts1]
  refine tP 28 44 _ rfl ?_
  try simp only [tpu, tsa, ts0, ts1]
  refine takeB 29 ⟨some 45, .call { callee := .value (.tmp 41), args := #[.tmp 44, .const (.int .i64 0), .const (.int .i64 1048576)], argTypes := #[95, 3, 3] }, 4, "batch.go:152", #[⟨25, .data⟩, ⟨28, .data⟩, ⟨24, .chain⟩, ⟨24, .guard⟩], some (24, true)⟩ (by kernel_rfl) rfl (fun K hK => ?_)
  go_simp
  with_reducible refine (s3 _ _ _ HJ3.out).mono ?_
  rintro e w4 ⟨rfl, hj4⟩
  dsimp only
  have HJ4 := Lib.hid hj4
  obtain ⟨x4, y4, d4, f4⟩ := jS _ _ hj4
  clear hj4
  refine hK.out _ _ trivial (fun hHeld => ?_)
  clear hK K hHeld
  try simp only [tpu, tsa, ts0, ts1]
  refine tP 30 46 _ rfl ?_
  try simp only [tpu, tsa, ts0, ts1]
  refine tP 31 47 _ rfl ?_
  try simp only [tpu, tsa, ts0, ts1]
  refine tP 32 48 _ rfl ?_
  try simp only [tpu, tsa, ts0, ts1]
  refine tP 33 49 _ rfl ?_
  try simp only [tpu, tsa, ts0, ts1]
  refine tP 34 50 _ rfl ?_
  try simp only [tpu, tsa, ts0, ts1]
  refine tP 35 51 _ rfl ?_
  try simp only [tpu, tsa, ts0, ts1]
  refine takeB 36 ⟨some 52, .call { callee := .value (.tmp 48), args := #[.tmp 51, .const (.int .i64 (-1)), .const (.int .i64 1099511627776)], argTypes := #[95, 3, 3] }, 4, "batch.go:153", #[⟨32, .data⟩, ⟨35, .data⟩, ⟨31, .chain⟩, ⟨31, .guard⟩], some (31, true)⟩ (by kernel_rfl) rfl (fun K hK => ?_)
  go_simp
  with_reducible refine (s4 _ _ _ HJ4.out).mono ?_
  rintro e w5 ⟨rfl, hj5⟩
  dsimp only
  have HJ5 := Lib.hid hj5
  obtain ⟨x5, y5, d5, f5⟩ := jS _ _ hj5
  clear hj5
  refine hK.out _ _ trivial (fun hHeld => ?_)
  clear hK K hHeld
  try simp only [tpu, tsa, ts0, ts1]
  refine tP 37 53 _ rfl ?_
  try simp only [tpu, tsa, ts0, ts1]
  refine tP 38 54 _ rfl ?_
  try simp only [tpu, tsa, ts0, ts1]
  refine tP 39 55 _ rfl ?_
  try simp only [tpu, tsa, ts0, ts1]
  refine tP 40 56 _ rfl ?_
  try simp only [tpu, tsa, ts0, ts1]
  refine tP 41 57 _ rfl ?_
  try simp only [tpu, tsa, ts0, ts1]
  refine tP 42 58 _ rfl ?_
  try simp only [tpu, tsa, ts0, ts1]
  refine takeB 43 ⟨some 59, .call { callee := .value (.tmp 55), args := #[.tmp 58, .const (.int .i64 0), .const (.int .i64 1048576)], argTypes := #[95, 3, 3] }, 4, "batch.go:154", #[⟨39, .data⟩, ⟨42, .data⟩, ⟨38, .chain⟩, ⟨38, .guard⟩], some (38, true)⟩ (by kernel_rfl) rfl (fun K hK => ?_)
  go_simp
  with_reducible refine (s5 _ _ _ HJ5.out).mono ?_
  rintro e w6 ⟨rfl, hj6⟩
  dsimp only
  have HJ6 := Lib.hid hj6
  obtain ⟨z0, z1, ⟨z, z2⟩, z3⟩ := j7 _ hj6
  clear hj6
  refine hK.out _ _ trivial (fun hHeld => ?_)
  clear hK K hHeld
  try simp only [tpu, tsa, ts0, ts1]
  refine tP 44 60 _ rfl ?_
  try simp only [tpu, tsa, ts0, ts1]
  refine tP 45 61 _ rfl ?_
  try simp only [tpu, tsa, ts0, ts1]
  refine tU 46 62 rfl ?_
  try simp only [tpu, tsa, ts0, ts1]
  refine tU 47 63 rfl ?_
  try simp only [tpu, tsa, ts0, ts1]
  refine tU 48 64 rfl ?_
  try simp only [tpu, tsa, ts0, ts1]
  refine tU 49 65 rfl ?_
  try simp only [tpu, tsa, ts0, ts1]
  refine tU 50 66 rfl ?_
  try simp only [tpu, tsa, ts0, ts1]
  refine tU 51 67 rfl ?_
  try simp only [tpu, tsa, ts0, ts1]
  refine tU 52 68 rfl ?_
  try simp only [tpu, tsa, ts0, ts1]
  refine tP 53 69 _ rfl ?_
  try simp only [tpu, tsa, ts0, ts1]
  refine tP 54 6 _ rfl ?_
  try simp only [tpu, tsa, ts0, ts1]
  refine wpAnyH_done (by kernel_rfl) ?_ _
  go_wp2
  go_region
  go_wp2
  go_ret
  exact ⟨rfl, _, HJ6.out, rfl⟩
set_option maxRecDepth 100000 in
set_option maxHeartbeats 8000000 in
theorem each_E3b6 (cx g : Nat) (ba la sp u0 u1 : Int) (w : World) (hg : g < w.heap.size) (c0 : w.cell? ⟨g, 0, none⟩ = some (.int .i64 ba)) (c1 : w.cell? ⟨g, 1, none⟩ = some (.int .i64 la)) (hsp : IntKind.i64.wrap (la - ba) = sp) (J : Nat → World → Prop) (h0 : J 0 (w.alloc (.cells #[.int .i64 sp] 3)).drew.drew) (jS : ∀ k w1, J k w1 → ∃ x y, w1.cell? ⟨g, 0, none⟩ = some (.int .i64 x) ∧ w1.cell? ⟨w.heap.size, 0, none⟩ = some (.int .i64 y)) (j7 : ∀ w1, J 7 w1 → w1.cell? ⟨g, 0, none⟩ = some (.int .i64 u0) ∧ w1.cell? ⟨w.heap.size, 0, none⟩ = some (.int .i64 u1) ∧ (∃ z, w1.cell? ⟨g, 1, none⟩ = some (.int .i64 z)) ∧ w1.frozen? ⟨g, 1, none⟩ = false) (s0 : ∀ w1 lo hi, J 0 w1 → Calls Tryd.prog 71 #[.pointer (some ⟨g, 0, none⟩), .int .i64 lo, .int .i64 hi, .pointer (some ⟨cx, 0, none⟩)] w1 fun e w2 => e = .returned (.bool true) ∧ J 1 w2) (s1 : ∀ w1 lo hi, J 1 w1 → Calls Tryd.prog 71 #[.pointer (some ⟨w.heap.size, 0, none⟩), .int .i64 lo, .int .i64 hi, .pointer (some ⟨cx, 0, none⟩)] w1 fun e w2 => e = .returned (.bool true) ∧ J 2 w2) (s2 : ∀ w1 lo hi, J 2 w1 → Calls Tryd.prog 71 #[.pointer (some ⟨g, 2, none⟩), .int .i64 lo, .int .i64 hi, .pointer (some ⟨cx, 0, none⟩)] w1 fun e w2 => e = .returned (.bool true) ∧ J 3 w2) (s3 : ∀ w1 lo hi, J 3 w1 → Calls Tryd.prog 71 #[.pointer (some ⟨g, 3, none⟩), .int .i64 lo, .int .i64 hi, .pointer (some ⟨cx, 0, none⟩)] w1 fun e w2 => e = .returned (.bool true) ∧ J 4 w2) (s4 : ∀ w1 lo hi, J 4 w1 → Calls Tryd.prog 71 #[.pointer (some ⟨g, 4, none⟩), .int .i64 lo, .int .i64 hi, .pointer (some ⟨cx, 0, none⟩)] w1 fun e w2 => e = .returned (.bool true) ∧ J 5 w2) (s5 : ∀ w1 lo hi, J 5 w1 → Calls Tryd.prog 71 #[.pointer (some ⟨g, 5, none⟩), .int .i64 lo, .int .i64 hi, .pointer (some ⟨cx, 0, none⟩)] w1 fun e w2 => e = .returned (.bool true) ∧ J 6 w2) (s6 : ∀ w1 lo hi, J 6 w1 → Calls Tryd.prog 71 #[.pointer (some ⟨g, 6, none⟩), .int .i64 lo, .int .i64 hi, .pointer (some ⟨cx, 0, none⟩)] w1 fun e w2 => e = .returned (.bool false) ∧ J 7 w2) :
    Calls Tryd.prog 56 #[.pointer (some ⟨g, 0, none⟩), .func (.func 71) #[] #[.pointer (some ⟨cx, 0, none⟩)]] w fun e w2 => e = .returned (.bool false) ∧ ∃ w1, J 7 w1 ∧ (w1.setCell ⟨g, 1, none⟩ (.int .i64 (wrap64 (u0 + u1)))).drew = w2 := by
  have HJ0 := Lib.hid h0
  clear h0
  go_enter Tryd.func56, Tryd.ntmps56
  go_wp2
  go_region
  go_wp2
  refine wp_region_held_drew (S := fun _ => True) (by kernel_rfl) trivial (fun hHeld => ?_)
  clear hHeld
  refine tP 0 16 _ rfl ?_
  try simp only [tpu, tsa, ts0, ts1]
  refine tP 1 17 _ rfl ?_
  try simp only [tpu, tsa, ts0, ts1]
  refine tP 2 18 _ rfl ?_
  try simp only [tpu, tsa, ts0, ts1]
  refine tP 3 19 _ rfl ?_
  try simp only [tpu, tsa, ts0, ts1]
  refine takeB 4 ⟨some 20, .call { callee := .value (.tmp 16), args := #[.tmp 19, .const (.int .i64 0), .const (.int .i64 1099511627776)], argTypes := #[95, 3, 3] }, 4, "batch.go:149", #[⟨0, .data⟩, ⟨3, .data⟩], none⟩ (by kernel_rfl) rfl (fun K hK => ?_)
  go_simp
  with_reducible refine (s0 _ _ _ HJ0.out).mono ?_
  rintro e w1 ⟨rfl, hj1⟩
  dsimp only
  have HJ1 := Lib.hid hj1
  obtain ⟨x1, y1, d1, f1⟩ := jS _ _ hj1
  clear hj1
  refine hK.out _ _ trivial (fun hHeld => ?_)
  clear hK K hHeld
  try simp only [tpu, tsa, ts0, ts1]
  refine tP 5 21 _ rfl ?_
  try simp only [tpu, tsa, ts0, ts1]
  refine tP 6 22 _ rfl ?_
  try simp only [tpu, tsa, ts0, ts1]
  refine tP 7 23 _ rfl ?_
  try simp only [tpu, tsa, ts0, ts1]
  refine tP 8 24 _ rfl ?_
  try simp only [tpu, tsa, ts0, ts1]
  refine tP 9 25 _ rfl ?_
  try simp only [tpu, tsa, ts0, ts1]
  refine takeB 10 ⟨some 26, .load 3 (.tmp 25), 3, "batch.go:149", #[⟨9, .data⟩, ⟨5, .guard⟩], some (5, true)⟩ (by kernel_rfl) rfl (fun K hK => ?_)
  go_simp
  refine hK.out _ _ trivial (fun hHeld => ?_)
  clear hK K hHeld
  try simp only [tpu, tsa, ts0, ts1]
  refine tP 11 27 _ rfl ?_
  try simp only [tpu, tsa, ts0, ts1]
  refine takeB 12 ⟨some 28, .call { callee := Callee.builtin Builtin.min, args := #[.const (.int .i64 15), .tmp 27], argTypes := #[3, 3] }, 3, "batch.go:149", #[⟨11, .data⟩, ⟨5, .guard⟩], some (5, true)⟩ (by kernel_rfl) rfl (fun K hK => ?_)
  go_simp
  refine hK.out _ _ trivial (fun hHeld => ?_)
  clear hK K hHeld
  try simp only [tpu, tsa, ts0, ts1]
  refine takeB 13 ⟨some 29, .call { callee := .value (.tmp 22), args := #[.tmp 5, .const (.int .i64 0), .tmp 28], argTypes := #[95, 3, 3] }, 4, "batch.go:150", #[⟨6, .data⟩, ⟨12, .data⟩, ⟨5, .chain⟩, ⟨5, .guard⟩], some (5, true)⟩ (by kernel_rfl) rfl (fun K hK => ?_)
  go_simp
  generalize (if IntKind.i64.wrap (1099511627776 - x1) < 15 then IntKind.i64.wrap (1099511627776 - x1) else 15) = h1
  with_reducible refine (s1 _ _ _ HJ1.out).mono ?_
  rintro e w2 ⟨rfl, hj2⟩
  dsimp only
  have HJ2 := Lib.hid hj2
  obtain ⟨x2, y2, d2, f2⟩ := jS _ _ hj2
  clear hj2
  refine hK.out _ _ trivial (fun hHeld => ?_)
  clear hK K hHeld
  try simp only [tpu, tsa, ts0, ts1]
  refine tP 14 30 _ rfl ?_
  try simp only [tpu, tsa, ts0, ts1]
  refine tP 15 31 _ rfl ?_
  try simp only [tpu, tsa, ts0, ts1]
  refine tP 16 32 _ rfl ?_
  try simp only [tpu, tsa, ts0, ts1]
  refine tP 17 33 _ rfl ?_
  try simp only [tpu, tsa, ts0, ts1]
  refine tP 18 34 _ rfl ?_
  try simp only [tpu, tsa, ts0, ts1]
  refine tP 19 35 _ rfl ?_
  try simp only [tpu, tsa, ts0, ts1]
  refine takeB 20 ⟨some 36, .load 3 (.tmp 5), 3, "batch.go:149", #[⟨15, .guard⟩], some (15, true)⟩ (by kernel_rfl) rfl (fun K hK => ?_)
  go_simp
  refine hK.out _ _ trivial (fun hHeld => ?_)
  clear hK K hHeld
  try simp only [tpu, tsa, ts0, ts1]
  refine tP 21 37 _ rfl ?_
  try simp only [tpu, tsa, ts0, ts1]
  refine takeB 22 ⟨some 38, .call { callee := .value (.tmp 32), args := #[.tmp 35, .const (.int .i64 0), .tmp 37], argTypes := #[95, 3, 3] }, 4, "batch.go:151", #[⟨16, .data⟩, ⟨19, .data⟩, ⟨21, .data⟩, ⟨15, .chain⟩, ⟨15, .guard⟩], some (15, true)⟩ (by kernel_rfl) rfl (fun K hK => ?_)
  go_simp
  with_reducible refine (s2 _ _ _ HJ2.out).mono ?_
  rintro e w3 ⟨rfl, hj3⟩
  dsimp only
  have HJ3 := Lib.hid hj3
  obtain ⟨x3, y3, d3, f3⟩ := jS _ _ hj3
  clear hj3
  refine hK.out _ _ trivial (fun hHeld => ?_)
  clear hK K hHeld
  try simp only [tpu, tsa, ts0, ts1]
  refine tP 23 39 _ rfl ?_
  try simp only [tpu, tsa, ts0, ts1]
  refine tP 24 40 _ rfl ?_
  try simp only [tpu, tsa, ts0, ts1]
  refine tP 25 41 _ rfl ?_
  try simp only [tpu, tsa, ts0, ts1]
  refine tP 26 42 _ rfl ?_
  try simp only [tpu, tsa, ts0, ts1]
  refine tP 27 43 _ rfl ?_
  try simp only [tpu, tsa, ts0, ts1]
  refine tP 28 44 _ rfl ?_
  try simp only [tpu, tsa, ts0, ts1]
  refine takeB 29 ⟨some 45, .call { callee := .value (.tmp 41), args := #[.tmp 44, .const (.int .i64 0), .const (.int .i64 1048576)], argTypes := #[95, 3, 3] }, 4, "batch.go:152", #[⟨25, .data⟩, ⟨28, .data⟩, ⟨24, .chain⟩, ⟨24, .guard⟩], some (24, true)⟩ (by kernel_rfl) rfl (fun K hK => ?_)
  go_simp
  with_reducible refine (s3 _ _ _ HJ3.out).mono ?_
  rintro e w4 ⟨rfl, hj4⟩
  dsimp only
  have HJ4 := Lib.hid hj4
  obtain ⟨x4, y4, d4, f4⟩ := jS _ _ hj4
  clear hj4
  refine hK.out _ _ trivial (fun hHeld => ?_)
  clear hK K hHeld
  try simp only [tpu, tsa, ts0, ts1]
  refine tP 30 46 _ rfl ?_
  try simp only [tpu, tsa, ts0, ts1]
  refine tP 31 47 _ rfl ?_
  try simp only [tpu, tsa, ts0, ts1]
  refine tP 32 48 _ rfl ?_
  try simp only [tpu, tsa, ts0, ts1]
  refine tP 33 49 _ rfl ?_
  try simp only [tpu, tsa, ts0, ts1]
  refine tP 34 50 _ rfl ?_
  try simp only [tpu, tsa, ts0, ts1]
  refine tP 35 51 _ rfl ?_
  try simp only [tpu, tsa, ts0, ts1]
  refine takeB 36 ⟨some 52, .call { callee := .value (.tmp 48), args := #[.tmp 51, .const (.int .i64 (-1)), .const (.int .i64 1099511627776)], argTypes := #[95, 3, 3] }, 4, "batch.go:153", #[⟨32, .data⟩, ⟨35, .data⟩, ⟨31, .chain⟩, ⟨31, .guard⟩], some (31, true)⟩ (by kernel_rfl) rfl (fun K hK => ?_)
  go_simp
  with_reducible refine (s4 _ _ _ HJ4.out).mono ?_
  rintro e w5 ⟨rfl, hj5⟩
  dsimp only
  have HJ5 := Lib.hid hj5
  obtain ⟨x5, y5, d5, f5⟩ := jS _ _ hj5
  clear hj5
  refine hK.out _ _ trivial (fun hHeld => ?_)
  clear hK K hHeld
  try simp only [tpu, tsa, ts0, ts1]
  refine tP 37 53 _ rfl ?_
  try simp only [tpu, tsa, ts0, ts1]
  refine tP 38 54 _ rfl ?_
  try simp only [tpu, tsa, ts0, ts1]
  refine tP 39 55 _ rfl ?_
  try simp only [tpu, tsa, ts0, ts1]
  refine tP 40 56 _ rfl ?_
  try simp only [tpu, tsa, ts0, ts1]
  refine tP 41 57 _ rfl ?_
  try simp only [tpu, tsa, ts0, ts1]
  refine tP 42 58 _ rfl ?_
  try simp only [tpu, tsa, ts0, ts1]
  refine takeB 43 ⟨some 59, .call { callee := .value (.tmp 55), args := #[.tmp 58, .const (.int .i64 0), .const (.int .i64 1048576)], argTypes := #[95, 3, 3] }, 4, "batch.go:154", #[⟨39, .data⟩, ⟨42, .data⟩, ⟨38, .chain⟩, ⟨38, .guard⟩], some (38, true)⟩ (by kernel_rfl) rfl (fun K hK => ?_)
  go_simp
  with_reducible refine (s5 _ _ _ HJ5.out).mono ?_
  rintro e w6 ⟨rfl, hj6⟩
  dsimp only
  have HJ6 := Lib.hid hj6
  obtain ⟨x6, y6, d6, f6⟩ := jS _ _ hj6
  clear hj6
  refine hK.out _ _ trivial (fun hHeld => ?_)
  clear hK K hHeld
  try simp only [tpu, tsa, ts0, ts1]
  refine tP 44 60 _ rfl ?_
  try simp only [tpu, tsa, ts0, ts1]
  refine tP 45 61 _ rfl ?_
  try simp only [tpu, tsa, ts0, ts1]
  refine tP 46 62 _ rfl ?_
  try simp only [tpu, tsa, ts0, ts1]
  refine tP 47 63 _ rfl ?_
  try simp only [tpu, tsa, ts0, ts1]
  refine tP 48 64 _ rfl ?_
  try simp only [tpu, tsa, ts0, ts1]
  refine tP 49 65 _ rfl ?_
  try simp only [tpu, tsa, ts0, ts1]
  refine takeB 50 ⟨some 66, .load 3 (.tmp 5), 3, "batch.go:149", #[⟨45, .guard⟩], some (45, true)⟩ (by kernel_rfl) rfl (fun K hK => ?_)
  go_simp
  refine hK.out _ _ trivial (fun hHeld => ?_)
  clear hK K hHeld
  try simp only [tpu, tsa, ts0, ts1]
  refine tP 51 67 _ rfl ?_
  try simp only [tpu, tsa, ts0, ts1]
  refine takeB 52 ⟨some 68, .call { callee := .value (.tmp 62), args := #[.tmp 65, .const (.int .i64 0), .tmp 67], argTypes := #[95, 3, 3] }, 4, "batch.go:155", #[⟨46, .data⟩, ⟨49, .data⟩, ⟨51, .data⟩, ⟨45, .chain⟩, ⟨45, .guard⟩], some (45, true)⟩ (by kernel_rfl) rfl (fun K hK => ?_)
  go_simp
  with_reducible refine (s6 _ _ _ HJ6.out).mono ?_
  rintro e w7 ⟨rfl, hj7⟩
  dsimp only
  have HJ7 := Lib.hid hj7
  obtain ⟨z0, z1, ⟨z, z2⟩, z3⟩ := j7 _ hj7
  clear hj7
  refine hK.out _ _ trivial (fun hHeld => ?_)
  clear hK K hHeld
  try simp only [tpu, tsa, ts0, ts1]
  refine tP 53 69 _ rfl ?_
  try simp only [tpu, tsa, ts0, ts1]
  refine tP 54 6 _ rfl ?_
  try simp only [tpu, tsa, ts0, ts1]
  refine wpAnyH_done (by kernel_rfl) ?_ _
  go_wp2
  go_region
  go_wp2
  go_ret
  exact ⟨rfl, _, HJ7.out, rfl⟩
set_option maxRecDepth 100000 in
set_option maxHeartbeats 8000000 in
theorem each_E3b7 (cx g : Nat) (ba la sp u0 u1 : Int) (w : World) (hg : g < w.heap.size) (c0 : w.cell? ⟨g, 0, none⟩ = some (.int .i64 ba)) (c1 : w.cell? ⟨g, 1, none⟩ = some (.int .i64 la)) (hsp : IntKind.i64.wrap (la - ba) = sp) (J : Nat → World → Prop) (h0 : J 0 (w.alloc (.cells #[.int .i64 sp] 3)).drew.drew) (jS : ∀ k w1, J k w1 → ∃ x y, w1.cell? ⟨g, 0, none⟩ = some (.int .i64 x) ∧ w1.cell? ⟨w.heap.size, 0, none⟩ = some (.int .i64 y)) (j7 : ∀ w1, J 7 w1 → w1.cell? ⟨g, 0, none⟩ = some (.int .i64 u0) ∧ w1.cell? ⟨w.heap.size, 0, none⟩ = some (.int .i64 u1) ∧ (∃ z, w1.cell? ⟨g, 1, none⟩ = some (.int .i64 z)) ∧ w1.frozen? ⟨g, 1, none⟩ = false) (s0 : ∀ w1 lo hi, J 0 w1 → Calls Tryd.prog 71 #[.pointer (some ⟨g, 0, none⟩), .int .i64 lo, .int .i64 hi, .pointer (some ⟨cx, 0, none⟩)] w1 fun e w2 => e = .returned (.bool true) ∧ J 1 w2) (s1 : ∀ w1 lo hi, J 1 w1 → Calls Tryd.prog 71 #[.pointer (some ⟨w.heap.size, 0, none⟩), .int .i64 lo, .int .i64 hi, .pointer (some ⟨cx, 0, none⟩)] w1 fun e w2 => e = .returned (.bool true) ∧ J 2 w2) (s2 : ∀ w1 lo hi, J 2 w1 → Calls Tryd.prog 71 #[.pointer (some ⟨g, 2, none⟩), .int .i64 lo, .int .i64 hi, .pointer (some ⟨cx, 0, none⟩)] w1 fun e w2 => e = .returned (.bool true) ∧ J 3 w2) (s3 : ∀ w1 lo hi, J 3 w1 → Calls Tryd.prog 71 #[.pointer (some ⟨g, 3, none⟩), .int .i64 lo, .int .i64 hi, .pointer (some ⟨cx, 0, none⟩)] w1 fun e w2 => e = .returned (.bool true) ∧ J 4 w2) (s4 : ∀ w1 lo hi, J 4 w1 → Calls Tryd.prog 71 #[.pointer (some ⟨g, 4, none⟩), .int .i64 lo, .int .i64 hi, .pointer (some ⟨cx, 0, none⟩)] w1 fun e w2 => e = .returned (.bool true) ∧ J 5 w2) (s5 : ∀ w1 lo hi, J 5 w1 → Calls Tryd.prog 71 #[.pointer (some ⟨g, 5, none⟩), .int .i64 lo, .int .i64 hi, .pointer (some ⟨cx, 0, none⟩)] w1 fun e w2 => e = .returned (.bool true) ∧ J 6 w2) (s6 : ∀ w1 lo hi, J 6 w1 → Calls Tryd.prog 71 #[.pointer (some ⟨g, 6, none⟩), .int .i64 lo, .int .i64 hi, .pointer (some ⟨cx, 0, none⟩)] w1 fun e w2 => e = .returned (.bool true) ∧ J 7 w2) :
    Calls Tryd.prog 56 #[.pointer (some ⟨g, 0, none⟩), .func (.func 71) #[] #[.pointer (some ⟨cx, 0, none⟩)]] w fun e w2 => e = .returned (.bool true) ∧ ∃ w1, J 7 w1 ∧ (w1.setCell ⟨g, 1, none⟩ (.int .i64 (wrap64 (u0 + u1)))).drew = w2 := by
  have HJ0 := Lib.hid h0
  clear h0
  go_enter Tryd.func56, Tryd.ntmps56
  go_wp2
  go_region
  go_wp2
  refine wp_region_held_drew (S := fun _ => True) (by kernel_rfl) trivial (fun hHeld => ?_)
  clear hHeld
  refine tP 0 16 _ rfl ?_
  try simp only [tpu, tsa, ts0, ts1]
  refine tP 1 17 _ rfl ?_
  try simp only [tpu, tsa, ts0, ts1]
  refine tP 2 18 _ rfl ?_
  try simp only [tpu, tsa, ts0, ts1]
  refine tP 3 19 _ rfl ?_
  try simp only [tpu, tsa, ts0, ts1]
  refine takeB 4 ⟨some 20, .call { callee := .value (.tmp 16), args := #[.tmp 19, .const (.int .i64 0), .const (.int .i64 1099511627776)], argTypes := #[95, 3, 3] }, 4, "batch.go:149", #[⟨0, .data⟩, ⟨3, .data⟩], none⟩ (by kernel_rfl) rfl (fun K hK => ?_)
  go_simp
  with_reducible refine (s0 _ _ _ HJ0.out).mono ?_
  rintro e w1 ⟨rfl, hj1⟩
  dsimp only
  have HJ1 := Lib.hid hj1
  obtain ⟨x1, y1, d1, f1⟩ := jS _ _ hj1
  clear hj1
  refine hK.out _ _ trivial (fun hHeld => ?_)
  clear hK K hHeld
  try simp only [tpu, tsa, ts0, ts1]
  refine tP 5 21 _ rfl ?_
  try simp only [tpu, tsa, ts0, ts1]
  refine tP 6 22 _ rfl ?_
  try simp only [tpu, tsa, ts0, ts1]
  refine tP 7 23 _ rfl ?_
  try simp only [tpu, tsa, ts0, ts1]
  refine tP 8 24 _ rfl ?_
  try simp only [tpu, tsa, ts0, ts1]
  refine tP 9 25 _ rfl ?_
  try simp only [tpu, tsa, ts0, ts1]
  refine takeB 10 ⟨some 26, .load 3 (.tmp 25), 3, "batch.go:149", #[⟨9, .data⟩, ⟨5, .guard⟩], some (5, true)⟩ (by kernel_rfl) rfl (fun K hK => ?_)
  go_simp
  refine hK.out _ _ trivial (fun hHeld => ?_)
  clear hK K hHeld
  try simp only [tpu, tsa, ts0, ts1]
  refine tP 11 27 _ rfl ?_
  try simp only [tpu, tsa, ts0, ts1]
  refine takeB 12 ⟨some 28, .call { callee := Callee.builtin Builtin.min, args := #[.const (.int .i64 15), .tmp 27], argTypes := #[3, 3] }, 3, "batch.go:149", #[⟨11, .data⟩, ⟨5, .guard⟩], some (5, true)⟩ (by kernel_rfl) rfl (fun K hK => ?_)
  go_simp
  refine hK.out _ _ trivial (fun hHeld => ?_)
  clear hK K hHeld
  try simp only [tpu, tsa, ts0, ts1]
  refine takeB 13 ⟨some 29, .call { callee := .value (.tmp 22), args := #[.tmp 5, .const (.int .i64 0), .tmp 28], argTypes := #[95, 3, 3] }, 4, "batch.go:150", #[⟨6, .data⟩, ⟨12, .data⟩, ⟨5, .chain⟩, ⟨5, .guard⟩], some (5, true)⟩ (by kernel_rfl) rfl (fun K hK => ?_)
  go_simp
  generalize (if IntKind.i64.wrap (1099511627776 - x1) < 15 then IntKind.i64.wrap (1099511627776 - x1) else 15) = h1
  with_reducible refine (s1 _ _ _ HJ1.out).mono ?_
  rintro e w2 ⟨rfl, hj2⟩
  dsimp only
  have HJ2 := Lib.hid hj2
  obtain ⟨x2, y2, d2, f2⟩ := jS _ _ hj2
  clear hj2
  refine hK.out _ _ trivial (fun hHeld => ?_)
  clear hK K hHeld
  try simp only [tpu, tsa, ts0, ts1]
  refine tP 14 30 _ rfl ?_
  try simp only [tpu, tsa, ts0, ts1]
  refine tP 15 31 _ rfl ?_
  try simp only [tpu, tsa, ts0, ts1]
  refine tP 16 32 _ rfl ?_
  try simp only [tpu, tsa, ts0, ts1]
  refine tP 17 33 _ rfl ?_
  try simp only [tpu, tsa, ts0, ts1]
  refine tP 18 34 _ rfl ?_
  try simp only [tpu, tsa, ts0, ts1]
  refine tP 19 35 _ rfl ?_
  try simp only [tpu, tsa, ts0, ts1]
  refine takeB 20 ⟨some 36, .load 3 (.tmp 5), 3, "batch.go:149", #[⟨15, .guard⟩], some (15, true)⟩ (by kernel_rfl) rfl (fun K hK => ?_)
  go_simp
  refine hK.out _ _ trivial (fun hHeld => ?_)
  clear hK K hHeld
  try simp only [tpu, tsa, ts0, ts1]
  refine tP 21 37 _ rfl ?_
  try simp only [tpu, tsa, ts0, ts1]
  refine takeB 22 ⟨some 38, .call { callee := .value (.tmp 32), args := #[.tmp 35, .const (.int .i64 0), .tmp 37], argTypes := #[95, 3, 3] }, 4, "batch.go:151", #[⟨16, .data⟩, ⟨19, .data⟩, ⟨21, .data⟩, ⟨15, .chain⟩, ⟨15, .guard⟩], some (15, true)⟩ (by kernel_rfl) rfl (fun K hK => ?_)
  go_simp
  with_reducible refine (s2 _ _ _ HJ2.out).mono ?_
  rintro e w3 ⟨rfl, hj3⟩
  dsimp only
  have HJ3 := Lib.hid hj3
  obtain ⟨x3, y3, d3, f3⟩ := jS _ _ hj3
  clear hj3
  refine hK.out _ _ trivial (fun hHeld => ?_)
  clear hK K hHeld
  try simp only [tpu, tsa, ts0, ts1]
  refine tP 23 39 _ rfl ?_
  try simp only [tpu, tsa, ts0, ts1]
  refine tP 24 40 _ rfl ?_
  try simp only [tpu, tsa, ts0, ts1]
  refine tP 25 41 _ rfl ?_
  try simp only [tpu, tsa, ts0, ts1]
  refine tP 26 42 _ rfl ?_
  try simp only [tpu, tsa, ts0, ts1]
  refine tP 27 43 _ rfl ?_
  try simp only [tpu, tsa, ts0, ts1]
  refine tP 28 44 _ rfl ?_
  try simp only [tpu, tsa, ts0, ts1]
  refine takeB 29 ⟨some 45, .call { callee := .value (.tmp 41), args := #[.tmp 44, .const (.int .i64 0), .const (.int .i64 1048576)], argTypes := #[95, 3, 3] }, 4, "batch.go:152", #[⟨25, .data⟩, ⟨28, .data⟩, ⟨24, .chain⟩, ⟨24, .guard⟩], some (24, true)⟩ (by kernel_rfl) rfl (fun K hK => ?_)
  go_simp
  with_reducible refine (s3 _ _ _ HJ3.out).mono ?_
  rintro e w4 ⟨rfl, hj4⟩
  dsimp only
  have HJ4 := Lib.hid hj4
  obtain ⟨x4, y4, d4, f4⟩ := jS _ _ hj4
  clear hj4
  refine hK.out _ _ trivial (fun hHeld => ?_)
  clear hK K hHeld
  try simp only [tpu, tsa, ts0, ts1]
  refine tP 30 46 _ rfl ?_
  try simp only [tpu, tsa, ts0, ts1]
  refine tP 31 47 _ rfl ?_
  try simp only [tpu, tsa, ts0, ts1]
  refine tP 32 48 _ rfl ?_
  try simp only [tpu, tsa, ts0, ts1]
  refine tP 33 49 _ rfl ?_
  try simp only [tpu, tsa, ts0, ts1]
  refine tP 34 50 _ rfl ?_
  try simp only [tpu, tsa, ts0, ts1]
  refine tP 35 51 _ rfl ?_
  try simp only [tpu, tsa, ts0, ts1]
  refine takeB 36 ⟨some 52, .call { callee := .value (.tmp 48), args := #[.tmp 51, .const (.int .i64 (-1)), .const (.int .i64 1099511627776)], argTypes := #[95, 3, 3] }, 4, "batch.go:153", #[⟨32, .data⟩, ⟨35, .data⟩, ⟨31, .chain⟩, ⟨31, .guard⟩], some (31, true)⟩ (by kernel_rfl) rfl (fun K hK => ?_)
  go_simp
  with_reducible refine (s4 _ _ _ HJ4.out).mono ?_
  rintro e w5 ⟨rfl, hj5⟩
  dsimp only
  have HJ5 := Lib.hid hj5
  obtain ⟨x5, y5, d5, f5⟩ := jS _ _ hj5
  clear hj5
  refine hK.out _ _ trivial (fun hHeld => ?_)
  clear hK K hHeld
  try simp only [tpu, tsa, ts0, ts1]
  refine tP 37 53 _ rfl ?_
  try simp only [tpu, tsa, ts0, ts1]
  refine tP 38 54 _ rfl ?_
  try simp only [tpu, tsa, ts0, ts1]
  refine tP 39 55 _ rfl ?_
  try simp only [tpu, tsa, ts0, ts1]
  refine tP 40 56 _ rfl ?_
  try simp only [tpu, tsa, ts0, ts1]
  refine tP 41 57 _ rfl ?_
  try simp only [tpu, tsa, ts0, ts1]
  refine tP 42 58 _ rfl ?_
  try simp only [tpu, tsa, ts0, ts1]
  refine takeB 43 ⟨some 59, .call { callee := .value (.tmp 55), args := #[.tmp 58, .const (.int .i64 0), .const (.int .i64 1048576)], argTypes := #[95, 3, 3] }, 4, "batch.go:154", #[⟨39, .data⟩, ⟨42, .data⟩, ⟨38, .chain⟩, ⟨38, .guard⟩], some (38, true)⟩ (by kernel_rfl) rfl (fun K hK => ?_)
  go_simp
  with_reducible refine (s5 _ _ _ HJ5.out).mono ?_
  rintro e w6 ⟨rfl, hj6⟩
  dsimp only
  have HJ6 := Lib.hid hj6
  obtain ⟨x6, y6, d6, f6⟩ := jS _ _ hj6
  clear hj6
  refine hK.out _ _ trivial (fun hHeld => ?_)
  clear hK K hHeld
  try simp only [tpu, tsa, ts0, ts1]
  refine tP 44 60 _ rfl ?_
  try simp only [tpu, tsa, ts0, ts1]
  refine tP 45 61 _ rfl ?_
  try simp only [tpu, tsa, ts0, ts1]
  refine tP 46 62 _ rfl ?_
  try simp only [tpu, tsa, ts0, ts1]
  refine tP 47 63 _ rfl ?_
  try simp only [tpu, tsa, ts0, ts1]
  refine tP 48 64 _ rfl ?_
  try simp only [tpu, tsa, ts0, ts1]
  refine tP 49 65 _ rfl ?_
  try simp only [tpu, tsa, ts0, ts1]
  refine takeB 50 ⟨some 66, .load 3 (.tmp 5), 3, "batch.go:149", #[⟨45, .guard⟩], some (45, true)⟩ (by kernel_rfl) rfl (fun K hK => ?_)
  go_simp
  refine hK.out _ _ trivial (fun hHeld => ?_)
  clear hK K hHeld
  try simp only [tpu, tsa, ts0, ts1]
  refine tP 51 67 _ rfl ?_
  try simp only [tpu, tsa, ts0, ts1]
  refine takeB 52 ⟨some 68, .call { callee := .value (.tmp 62), args := #[.tmp 65, .const (.int .i64 0), .tmp 67], argTypes := #[95, 3, 3] }, 4, "batch.go:155", #[⟨46, .data⟩, ⟨49, .data⟩, ⟨51, .data⟩, ⟨45, .chain⟩, ⟨45, .guard⟩], some (45, true)⟩ (by kernel_rfl) rfl (fun K hK => ?_)
  go_simp
  with_reducible refine (s6 _ _ _ HJ6.out).mono ?_
  rintro e w7 ⟨rfl, hj7⟩
  dsimp only
  have HJ7 := Lib.hid hj7
  obtain ⟨z0, z1, ⟨z, z2⟩, z3⟩ := j7 _ hj7
  clear hj7
  refine hK.out _ _ trivial (fun hHeld => ?_)
  clear hK K hHeld
  try simp only [tpu, tsa, ts0, ts1]
  refine tP 53 69 _ rfl ?_
  try simp only [tpu, tsa, ts0, ts1]
  refine tP 54 6 _ rfl ?_
  try simp only [tpu, tsa, ts0, ts1]
  refine wpAnyH_done (by kernel_rfl) ?_ _
  go_wp2
  go_region
  go_wp2
  go_ret
  exact ⟨rfl, _, HJ7.out, rfl⟩
end Go.Proofs.YtbnkfljkojhkoaaDoor.Bat
