/- Joined: BatDevE1b. -/
import Derived.Test.YtodklilnmianeaaDoorJBatE
import Derived.RegionTactic
import Derived.BigRegion
/- The contract of the landed eachNumber, handed hasForm's own function: are the numbers in their ranges? -/
namespace Go.Proofs.YtodklilnmianeaaDoor.Bat
open Go.RowKit Go.Proofs.YtodklilnmianeaaDoor.Oct Go.Proofs.YtodklilnmianeaaDoor.Rec Go.Proofs.YtodklilnmianeaaDoor.Crc

set_option maxRecDepth 100000 in
set_option maxHeartbeats 8000000 in
theorem each_E1b4 (g : Nat) (ba la sp fr ep pi _ge _se : Int) (w : World) (hg : g < w.heap.size) (fz : w.frozen? ⟨g, 1, none⟩ = false) (c1 : w.cell? ⟨g, 1, none⟩ = some (.int .i64 la)) (c0 : w.cell? ⟨g, 0, none⟩ = some (.int .i64 ba)) (hsp : IntKind.i64.wrap (la - ba) = sp) (i0 : inL ba 0 1099511627776 = true) (i1 : ∀ h, (if IntKind.i64.wrap (1099511627776 - ba) < 15 then IntKind.i64.wrap (1099511627776 - ba) else 15) = h → inL sp 0 h = true) (c2 : w.cell? ⟨g, 2, none⟩ = some (.int .i64 fr)) (i2 : inL fr 0 (IntKind.i64.wrap (1099511627776 - sp)) = true) (c3 : w.cell? ⟨g, 3, none⟩ = some (.int .i64 ep)) (i3 : inL ep 0 1048576 = true) (c4 : w.cell? ⟨g, 4, none⟩ = some (.int .i64 pi)) (i4 : inL pi (-1) 1099511627776 = false) :
    Calls Tryd.prog 60 #[.pointer (some ⟨g, 0, none⟩), .func (.func 68) #[] #[]] w fun e w2 => e = .returned (.bool false) ∧ ((w.setCell ⟨g, 1, none⟩ (.int .i64 (wrap64 (ba + sp)))).alloc (.cells #[.int .i64 sp] 3)).drew.drew.drew = w2 := by
  have k0 : (w.alloc (.cells #[.int .i64 sp] 3)).drew.drew.cell? ⟨g, 0, none⟩ = some (.int .i64 ba) := by simp [go_sem, c0, hg]
  have k1 : (w.alloc (.cells #[.int .i64 sp] 3)).drew.drew.cell? ⟨w.heap.size, 0, none⟩ = some (.int .i64 sp) := by simp [go_sem]
  have k2 : (w.alloc (.cells #[.int .i64 sp] 3)).drew.drew.cell? ⟨g, 2, none⟩ = some (.int .i64 fr) := by simp [go_sem, c2, hg]
  have k3 : (w.alloc (.cells #[.int .i64 sp] 3)).drew.drew.cell? ⟨g, 3, none⟩ = some (.int .i64 ep) := by simp [go_sem, c3, hg]
  have k4 : (w.alloc (.cells #[.int .i64 sp] 3)).drew.drew.cell? ⟨g, 4, none⟩ = some (.int .i64 pi) := by simp [go_sem, c4, hg]
  go_enter Tryd.func60, Tryd.ntmps60
  go_wp2
  go_region
  go_wp2
  refine wp_region_held_drew (S := fun _ => True) (by kernel_rfl) trivial (fun hHeld => ?_)
  clear hHeld
  refine takeP 0 ⟨some 16, .move (.tmp 1), 78, "batch.go:149", #[], none⟩ ?_ rfl (by kernel_rfl) (by kernel_rfl) (by kernel_rfl) (by rfl) ?_ ?_
  rotate_left
  · intro w hSw; go_simp; (first | done | with_reducible rfl)
  try simp only [Act.put, List.setIfInBounds_toArray, List.set_cons_zero, List.set_cons_succ]
  refine takeP 1 ⟨some 17, .move (.tmp 0), 77, "batch.go:149", #[], none⟩ ?_ rfl (by kernel_rfl) (by kernel_rfl) (by kernel_rfl) (by rfl) ?_ ?_
  rotate_left
  · intro w hSw; go_simp; (first | done | with_reducible rfl)
  try simp only [Act.put, List.setIfInBounds_toArray, List.set_cons_zero, List.set_cons_succ]
  refine takeP 2 ⟨some 18, .nilCheck (.tmp 17), 0, "batch.go:149", #[⟨1, .data⟩], none⟩ ?_ rfl (by kernel_rfl) (by kernel_rfl) (by kernel_rfl) (by rfl) ?_ ?_
  rotate_left
  · intro w hSw; go_simp; (first | done | with_reducible rfl)
  try simp only [Act.put, List.setIfInBounds_toArray, List.set_cons_zero, List.set_cons_succ]
  refine takeP 3 ⟨some 19, .fieldAddr 24 (.tmp 18) 0, 0, "batch.go:149", #[⟨2, .data⟩], none⟩ ?_ rfl (by kernel_rfl) (by kernel_rfl) (by kernel_rfl) (by rfl) ?_ ?_
  rotate_left
  · intro w hSw; go_simp; (first | done | with_reducible rfl)
  try simp only [Act.put, List.setIfInBounds_toArray, List.set_cons_zero, List.set_cons_succ]
  refine takeB 4 ⟨some 20, .call { callee := .value (.tmp 16), args := #[.tmp 19, .const (.int .i64 0), .const (.int .i64 1099511627776)], argTypes := #[72, 3, 3] }, 4, "batch.go:149", #[⟨0, .data⟩, ⟨3, .data⟩], none⟩ (by kernel_rfl) rfl (fun K hK => ?_)
  go_simp
  with_reducible refine (within_any ⟨g, 0, none⟩ ba _ _ _ k0 i0).mono ?_
  rintro e w9 ⟨rfl, rfl⟩
  dsimp only
  refine hK.out _ _ trivial (fun hHeld => ?_)
  clear hK K hHeld
  try simp only [Act.put, List.setIfInBounds_toArray, List.set_cons_zero, List.set_cons_succ]
  refine takeP 5 ⟨some 21, .move (.tmp 20), 4, "batch.go:149", #[⟨4, .data⟩, ⟨4, .chain⟩], none⟩ ?_ rfl (by kernel_rfl) (by kernel_rfl) (by kernel_rfl) (by rfl) ?_ ?_
  rotate_left
  · intro w hSw; go_simp; (first | done | with_reducible rfl)
  try simp only [Act.put, List.setIfInBounds_toArray, List.set_cons_zero, List.set_cons_succ]
  refine takeP 6 ⟨some 22, .move (.tmp 1), 78, "batch.go:149", #[⟨5, .guard⟩], some (5, true)⟩ ?_ rfl (by kernel_rfl) (by kernel_rfl) (by kernel_rfl) (by rfl) ?_ ?_
  rotate_left
  · intro w hSw; go_simp; (first | done | with_reducible rfl)
  try simp only [Act.put, List.setIfInBounds_toArray, List.set_cons_zero, List.set_cons_succ]
  refine takeP 7 ⟨some 23, .move (.tmp 0), 77, "batch.go:149", #[⟨5, .guard⟩], some (5, true)⟩ ?_ rfl (by kernel_rfl) (by kernel_rfl) (by kernel_rfl) (by rfl) ?_ ?_
  rotate_left
  · intro w hSw; go_simp; (first | done | with_reducible rfl)
  try simp only [Act.put, List.setIfInBounds_toArray, List.set_cons_zero, List.set_cons_succ]
  refine takeP 8 ⟨some 24, .nilCheck (.tmp 23), 0, "batch.go:149", #[⟨7, .data⟩, ⟨5, .guard⟩], some (5, true)⟩ ?_ rfl (by kernel_rfl) (by kernel_rfl) (by kernel_rfl) (by rfl) ?_ ?_
  rotate_left
  · intro w hSw; go_simp; (first | done | with_reducible rfl)
  try simp only [Act.put, List.setIfInBounds_toArray, List.set_cons_zero, List.set_cons_succ]
  refine takeP 9 ⟨some 25, .fieldAddr 24 (.tmp 24) 0, 0, "batch.go:149", #[⟨8, .data⟩, ⟨5, .guard⟩], some (5, true)⟩ ?_ rfl (by kernel_rfl) (by kernel_rfl) (by kernel_rfl) (by rfl) ?_ ?_
  rotate_left
  · intro w hSw; go_simp; (first | done | with_reducible rfl)
  try simp only [Act.put, List.setIfInBounds_toArray, List.set_cons_zero, List.set_cons_succ]
  refine takeB 10 ⟨some 26, .load 3 (.tmp 25), 3, "batch.go:149", #[⟨9, .data⟩, ⟨5, .guard⟩], some (5, true)⟩ (by kernel_rfl) rfl (fun K hK => ?_)
  go_simp
  refine hK.out _ _ trivial (fun hHeld => ?_)
  clear hK K hHeld
  try simp only [Act.put, List.setIfInBounds_toArray, List.set_cons_zero, List.set_cons_succ]
  refine takeP 11 ⟨some 27, .binOp .sub 3 (.const (.int .i64 1099511627776)) (.tmp 26) 3, 3, "batch.go:149", #[⟨10, .data⟩, ⟨5, .guard⟩], some (5, true)⟩ ?_ rfl (by kernel_rfl) (by kernel_rfl) (by kernel_rfl) (by rfl) ?_ ?_
  rotate_left
  · intro w hSw; go_simp; (first | done | with_reducible rfl)
  try simp only [Act.put, List.setIfInBounds_toArray, List.set_cons_zero, List.set_cons_succ]
  refine takeB 12 ⟨some 28, .call { callee := Callee.builtin Builtin.min, args := #[.const (.int .i64 15), .tmp 27], argTypes := #[3, 3] }, 3, "batch.go:149", #[⟨11, .data⟩, ⟨5, .guard⟩], some (5, true)⟩ (by kernel_rfl) rfl (fun K hK => ?_)
  go_simp
  refine hK.out _ _ trivial (fun hHeld => ?_)
  clear hK K hHeld
  try simp only [Act.put, List.setIfInBounds_toArray, List.set_cons_zero, List.set_cons_succ]
  refine takeB 13 ⟨some 29, .call { callee := .value (.tmp 22), args := #[.tmp 5, .const (.int .i64 0), .tmp 28], argTypes := #[72, 3, 3] }, 4, "batch.go:150", #[⟨6, .data⟩, ⟨12, .data⟩, ⟨5, .chain⟩, ⟨5, .guard⟩], some (5, true)⟩ (by kernel_rfl) rfl (fun K hK => ?_)
  go_simp
  generalize HG1 : (if IntKind.i64.wrap (1099511627776 - ba) < 15 then IntKind.i64.wrap (1099511627776 - ba) else 15) = h1
  with_reducible refine (within_any ⟨w.heap.size, 0, none⟩ sp _ _ _ k1 (i1 _ HG1)).mono ?_
  rintro e w9 ⟨rfl, rfl⟩
  dsimp only
  clear HG1
  refine hK.out _ _ trivial (fun hHeld => ?_)
  clear hK K hHeld
  try simp only [Act.put, List.setIfInBounds_toArray, List.set_cons_zero, List.set_cons_succ]
  refine takeP 14 ⟨some 30, .pick (.tmp 21) (.tmp 29) (.const (.bool false)), 4, "batch.go:149", #[⟨5, .data⟩, ⟨13, .data⟩], none⟩ ?_ rfl (by kernel_rfl) (by kernel_rfl) (by kernel_rfl) (by rfl) ?_ ?_
  rotate_left
  · intro w hSw; go_simp; (first | done | with_reducible rfl)
  try simp only [Act.put, List.setIfInBounds_toArray, List.set_cons_zero, List.set_cons_succ]
  refine takeP 15 ⟨some 31, .move (.tmp 30), 4, "batch.go:149", #[⟨14, .data⟩, ⟨13, .chain⟩], none⟩ ?_ rfl (by kernel_rfl) (by kernel_rfl) (by kernel_rfl) (by rfl) ?_ ?_
  rotate_left
  · intro w hSw; go_simp; (first | done | with_reducible rfl)
  try simp only [Act.put, List.setIfInBounds_toArray, List.set_cons_zero, List.set_cons_succ]
  refine takeP 16 ⟨some 32, .move (.tmp 1), 78, "batch.go:149", #[⟨15, .guard⟩], some (15, true)⟩ ?_ rfl (by kernel_rfl) (by kernel_rfl) (by kernel_rfl) (by rfl) ?_ ?_
  rotate_left
  · intro w hSw; go_simp; (first | done | with_reducible rfl)
  try simp only [Act.put, List.setIfInBounds_toArray, List.set_cons_zero, List.set_cons_succ]
  refine takeP 17 ⟨some 33, .move (.tmp 0), 77, "batch.go:149", #[⟨15, .guard⟩], some (15, true)⟩ ?_ rfl (by kernel_rfl) (by kernel_rfl) (by kernel_rfl) (by rfl) ?_ ?_
  rotate_left
  · intro w hSw; go_simp; (first | done | with_reducible rfl)
  try simp only [Act.put, List.setIfInBounds_toArray, List.set_cons_zero, List.set_cons_succ]
  refine takeP 18 ⟨some 34, .nilCheck (.tmp 33), 0, "batch.go:149", #[⟨17, .data⟩, ⟨15, .guard⟩], some (15, true)⟩ ?_ rfl (by kernel_rfl) (by kernel_rfl) (by kernel_rfl) (by rfl) ?_ ?_
  rotate_left
  · intro w hSw; go_simp; (first | done | with_reducible rfl)
  try simp only [Act.put, List.setIfInBounds_toArray, List.set_cons_zero, List.set_cons_succ]
  refine takeP 19 ⟨some 35, .fieldAddr 24 (.tmp 34) 2, 0, "batch.go:149", #[⟨18, .data⟩, ⟨15, .guard⟩], some (15, true)⟩ ?_ rfl (by kernel_rfl) (by kernel_rfl) (by kernel_rfl) (by rfl) ?_ ?_
  rotate_left
  · intro w hSw; go_simp; (first | done | with_reducible rfl)
  try simp only [Act.put, List.setIfInBounds_toArray, List.set_cons_zero, List.set_cons_succ]
  refine takeB 20 ⟨some 36, .load 3 (.tmp 5), 3, "batch.go:149", #[⟨15, .guard⟩], some (15, true)⟩ (by kernel_rfl) rfl (fun K hK => ?_)
  go_simp
  refine hK.out _ _ trivial (fun hHeld => ?_)
  clear hK K hHeld
  try simp only [Act.put, List.setIfInBounds_toArray, List.set_cons_zero, List.set_cons_succ]
  refine takeP 21 ⟨some 37, .binOp .sub 3 (.const (.int .i64 1099511627776)) (.tmp 36) 3, 3, "batch.go:149", #[⟨20, .data⟩, ⟨15, .guard⟩], some (15, true)⟩ ?_ rfl (by kernel_rfl) (by kernel_rfl) (by kernel_rfl) (by rfl) ?_ ?_
  rotate_left
  · intro w hSw; go_simp; (first | done | with_reducible rfl)
  try simp only [Act.put, List.setIfInBounds_toArray, List.set_cons_zero, List.set_cons_succ]
  refine takeB 22 ⟨some 38, .call { callee := .value (.tmp 32), args := #[.tmp 35, .const (.int .i64 0), .tmp 37], argTypes := #[72, 3, 3] }, 4, "batch.go:151", #[⟨16, .data⟩, ⟨19, .data⟩, ⟨21, .data⟩, ⟨15, .chain⟩, ⟨15, .guard⟩], some (15, true)⟩ (by kernel_rfl) rfl (fun K hK => ?_)
  go_simp
  with_reducible refine (within_any ⟨g, 2, none⟩ fr _ _ _ k2 i2).mono ?_
  rintro e w9 ⟨rfl, rfl⟩
  dsimp only
  refine hK.out _ _ trivial (fun hHeld => ?_)
  clear hK K hHeld
  try simp only [Act.put, List.setIfInBounds_toArray, List.set_cons_zero, List.set_cons_succ]
  refine takeP 23 ⟨some 39, .pick (.tmp 31) (.tmp 38) (.const (.bool false)), 4, "batch.go:149", #[⟨15, .data⟩, ⟨22, .data⟩], none⟩ ?_ rfl (by kernel_rfl) (by kernel_rfl) (by kernel_rfl) (by rfl) ?_ ?_
  rotate_left
  · intro w hSw; go_simp; (first | done | with_reducible rfl)
  try simp only [Act.put, List.setIfInBounds_toArray, List.set_cons_zero, List.set_cons_succ]
  refine takeP 24 ⟨some 40, .move (.tmp 39), 4, "batch.go:149", #[⟨23, .data⟩, ⟨22, .chain⟩], none⟩ ?_ rfl (by kernel_rfl) (by kernel_rfl) (by kernel_rfl) (by rfl) ?_ ?_
  rotate_left
  · intro w hSw; go_simp; (first | done | with_reducible rfl)
  try simp only [Act.put, List.setIfInBounds_toArray, List.set_cons_zero, List.set_cons_succ]
  refine takeP 25 ⟨some 41, .move (.tmp 1), 78, "batch.go:149", #[⟨24, .guard⟩], some (24, true)⟩ ?_ rfl (by kernel_rfl) (by kernel_rfl) (by kernel_rfl) (by rfl) ?_ ?_
  rotate_left
  · intro w hSw; go_simp; (first | done | with_reducible rfl)
  try simp only [Act.put, List.setIfInBounds_toArray, List.set_cons_zero, List.set_cons_succ]
  refine takeP 26 ⟨some 42, .move (.tmp 0), 77, "batch.go:149", #[⟨24, .guard⟩], some (24, true)⟩ ?_ rfl (by kernel_rfl) (by kernel_rfl) (by kernel_rfl) (by rfl) ?_ ?_
  rotate_left
  · intro w hSw; go_simp; (first | done | with_reducible rfl)
  try simp only [Act.put, List.setIfInBounds_toArray, List.set_cons_zero, List.set_cons_succ]
  refine takeP 27 ⟨some 43, .nilCheck (.tmp 42), 0, "batch.go:149", #[⟨26, .data⟩, ⟨24, .guard⟩], some (24, true)⟩ ?_ rfl (by kernel_rfl) (by kernel_rfl) (by kernel_rfl) (by rfl) ?_ ?_
  rotate_left
  · intro w hSw; go_simp; (first | done | with_reducible rfl)
  try simp only [Act.put, List.setIfInBounds_toArray, List.set_cons_zero, List.set_cons_succ]
  refine takeP 28 ⟨some 44, .fieldAddr 24 (.tmp 43) 3, 0, "batch.go:149", #[⟨27, .data⟩, ⟨24, .guard⟩], some (24, true)⟩ ?_ rfl (by kernel_rfl) (by kernel_rfl) (by kernel_rfl) (by rfl) ?_ ?_
  rotate_left
  · intro w hSw; go_simp; (first | done | with_reducible rfl)
  try simp only [Act.put, List.setIfInBounds_toArray, List.set_cons_zero, List.set_cons_succ]
  refine takeB 29 ⟨some 45, .call { callee := .value (.tmp 41), args := #[.tmp 44, .const (.int .i64 0), .const (.int .i64 1048576)], argTypes := #[72, 3, 3] }, 4, "batch.go:152", #[⟨25, .data⟩, ⟨28, .data⟩, ⟨24, .chain⟩, ⟨24, .guard⟩], some (24, true)⟩ (by kernel_rfl) rfl (fun K hK => ?_)
  go_simp
  with_reducible refine (within_any ⟨g, 3, none⟩ ep _ _ _ k3 i3).mono ?_
  rintro e w9 ⟨rfl, rfl⟩
  dsimp only
  refine hK.out _ _ trivial (fun hHeld => ?_)
  clear hK K hHeld
  try simp only [Act.put, List.setIfInBounds_toArray, List.set_cons_zero, List.set_cons_succ]
  refine takeP 30 ⟨some 46, .pick (.tmp 40) (.tmp 45) (.const (.bool false)), 4, "batch.go:149", #[⟨24, .data⟩, ⟨29, .data⟩], none⟩ ?_ rfl (by kernel_rfl) (by kernel_rfl) (by kernel_rfl) (by rfl) ?_ ?_
  rotate_left
  · intro w hSw; go_simp; (first | done | with_reducible rfl)
  try simp only [Act.put, List.setIfInBounds_toArray, List.set_cons_zero, List.set_cons_succ]
  refine takeP 31 ⟨some 47, .move (.tmp 46), 4, "batch.go:149", #[⟨30, .data⟩, ⟨29, .chain⟩], none⟩ ?_ rfl (by kernel_rfl) (by kernel_rfl) (by kernel_rfl) (by rfl) ?_ ?_
  rotate_left
  · intro w hSw; go_simp; (first | done | with_reducible rfl)
  try simp only [Act.put, List.setIfInBounds_toArray, List.set_cons_zero, List.set_cons_succ]
  refine takeP 32 ⟨some 48, .move (.tmp 1), 78, "batch.go:149", #[⟨31, .guard⟩], some (31, true)⟩ ?_ rfl (by kernel_rfl) (by kernel_rfl) (by kernel_rfl) (by rfl) ?_ ?_
  rotate_left
  · intro w hSw; go_simp; (first | done | with_reducible rfl)
  try simp only [Act.put, List.setIfInBounds_toArray, List.set_cons_zero, List.set_cons_succ]
  refine takeP 33 ⟨some 49, .move (.tmp 0), 77, "batch.go:149", #[⟨31, .guard⟩], some (31, true)⟩ ?_ rfl (by kernel_rfl) (by kernel_rfl) (by kernel_rfl) (by rfl) ?_ ?_
  rotate_left
  · intro w hSw; go_simp; (first | done | with_reducible rfl)
  try simp only [Act.put, List.setIfInBounds_toArray, List.set_cons_zero, List.set_cons_succ]
  refine takeP 34 ⟨some 50, .nilCheck (.tmp 49), 0, "batch.go:149", #[⟨33, .data⟩, ⟨31, .guard⟩], some (31, true)⟩ ?_ rfl (by kernel_rfl) (by kernel_rfl) (by kernel_rfl) (by rfl) ?_ ?_
  rotate_left
  · intro w hSw; go_simp; (first | done | with_reducible rfl)
  try simp only [Act.put, List.setIfInBounds_toArray, List.set_cons_zero, List.set_cons_succ]
  refine takeP 35 ⟨some 51, .fieldAddr 24 (.tmp 50) 4, 0, "batch.go:149", #[⟨34, .data⟩, ⟨31, .guard⟩], some (31, true)⟩ ?_ rfl (by kernel_rfl) (by kernel_rfl) (by kernel_rfl) (by rfl) ?_ ?_
  rotate_left
  · intro w hSw; go_simp; (first | done | with_reducible rfl)
  try simp only [Act.put, List.setIfInBounds_toArray, List.set_cons_zero, List.set_cons_succ]
  refine takeB 36 ⟨some 52, .call { callee := .value (.tmp 48), args := #[.tmp 51, .const (.int .i64 (-1)), .const (.int .i64 1099511627776)], argTypes := #[72, 3, 3] }, 4, "batch.go:153", #[⟨32, .data⟩, ⟨35, .data⟩, ⟨31, .chain⟩, ⟨31, .guard⟩], some (31, true)⟩ (by kernel_rfl) rfl (fun K hK => ?_)
  go_simp
  with_reducible refine (within_any ⟨g, 4, none⟩ pi _ _ _ k4 i4).mono ?_
  rintro e w9 ⟨rfl, rfl⟩
  dsimp only
  refine hK.out _ _ trivial (fun hHeld => ?_)
  clear hK K hHeld
  try simp only [Act.put, List.setIfInBounds_toArray, List.set_cons_zero, List.set_cons_succ]
  refine takeP 37 ⟨some 53, .pick (.tmp 47) (.tmp 52) (.const (.bool false)), 4, "batch.go:149", #[⟨31, .data⟩, ⟨36, .data⟩], none⟩ ?_ rfl (by kernel_rfl) (by kernel_rfl) (by kernel_rfl) (by rfl) ?_ ?_
  rotate_left
  · intro w hSw; go_simp; (first | done | with_reducible rfl)
  try simp only [Act.put, List.setIfInBounds_toArray, List.set_cons_zero, List.set_cons_succ]
  refine takeP 38 ⟨some 54, .move (.tmp 53), 4, "batch.go:149", #[⟨37, .data⟩, ⟨36, .chain⟩], none⟩ ?_ rfl (by kernel_rfl) (by kernel_rfl) (by kernel_rfl) (by rfl) ?_ ?_
  rotate_left
  · intro w hSw; go_simp; (first | done | with_reducible rfl)
  try simp only [Act.put, List.setIfInBounds_toArray, List.set_cons_zero, List.set_cons_succ]
  refine takeU 39 ⟨some 55, .move (.tmp 1), 78, "batch.go:149", #[⟨38, .guard⟩], some (38, true)⟩ rfl (by kernel_rfl) (by kernel_rfl) (by kernel_rfl) (by rfl) ?_
  try simp only [Act.put, List.setIfInBounds_toArray, List.set_cons_zero, List.set_cons_succ]
  refine takeU 40 ⟨some 56, .move (.tmp 0), 77, "batch.go:149", #[⟨38, .guard⟩], some (38, true)⟩ rfl (by kernel_rfl) (by kernel_rfl) (by kernel_rfl) (by rfl) ?_
  try simp only [Act.put, List.setIfInBounds_toArray, List.set_cons_zero, List.set_cons_succ]
  refine takeU 41 ⟨some 57, .nilCheck (.tmp 56), 0, "batch.go:149", #[⟨40, .data⟩, ⟨38, .guard⟩], some (38, true)⟩ rfl (by kernel_rfl) (by kernel_rfl) (by kernel_rfl) (by rfl) ?_
  try simp only [Act.put, List.setIfInBounds_toArray, List.set_cons_zero, List.set_cons_succ]
  refine takeU 42 ⟨some 58, .fieldAddr 24 (.tmp 57) 5, 0, "batch.go:149", #[⟨41, .data⟩, ⟨38, .guard⟩], some (38, true)⟩ rfl (by kernel_rfl) (by kernel_rfl) (by kernel_rfl) (by rfl) ?_
  try simp only [Act.put, List.setIfInBounds_toArray, List.set_cons_zero, List.set_cons_succ]
  refine takeU 43 ⟨some 59, .call { callee := .value (.tmp 55), args := #[.tmp 58, .const (.int .i64 0), .const (.int .i64 1048576)], argTypes := #[72, 3, 3] }, 4, "batch.go:154", #[⟨39, .data⟩, ⟨42, .data⟩, ⟨38, .chain⟩, ⟨38, .guard⟩], some (38, true)⟩ rfl (by kernel_rfl) (by kernel_rfl) (by kernel_rfl) (by rfl) ?_
  try simp only [Act.put, List.setIfInBounds_toArray, List.set_cons_zero, List.set_cons_succ]
  refine takeP 44 ⟨some 60, .pick (.tmp 54) (.tmp 59) (.const (.bool false)), 4, "batch.go:149", #[⟨38, .data⟩, ⟨43, .data⟩], none⟩ ?_ rfl (by kernel_rfl) (by kernel_rfl) (by kernel_rfl) (by rfl) ?_ ?_
  rotate_left
  · intro w hSw; go_simp; (first | done | with_reducible rfl)
  try simp only [Act.put, List.setIfInBounds_toArray, List.set_cons_zero, List.set_cons_succ]
  refine takeP 45 ⟨some 61, .move (.tmp 60), 4, "batch.go:149", #[⟨44, .data⟩, ⟨43, .chain⟩], none⟩ ?_ rfl (by kernel_rfl) (by kernel_rfl) (by kernel_rfl) (by rfl) ?_ ?_
  rotate_left
  · intro w hSw; go_simp; (first | done | with_reducible rfl)
  try simp only [Act.put, List.setIfInBounds_toArray, List.set_cons_zero, List.set_cons_succ]
  refine takeU 46 ⟨some 62, .move (.tmp 1), 78, "batch.go:149", #[⟨45, .guard⟩], some (45, true)⟩ rfl (by kernel_rfl) (by kernel_rfl) (by kernel_rfl) (by rfl) ?_
  try simp only [Act.put, List.setIfInBounds_toArray, List.set_cons_zero, List.set_cons_succ]
  refine takeU 47 ⟨some 63, .move (.tmp 0), 77, "batch.go:149", #[⟨45, .guard⟩], some (45, true)⟩ rfl (by kernel_rfl) (by kernel_rfl) (by kernel_rfl) (by rfl) ?_
  try simp only [Act.put, List.setIfInBounds_toArray, List.set_cons_zero, List.set_cons_succ]
  refine takeU 48 ⟨some 64, .nilCheck (.tmp 63), 0, "batch.go:149", #[⟨47, .data⟩, ⟨45, .guard⟩], some (45, true)⟩ rfl (by kernel_rfl) (by kernel_rfl) (by kernel_rfl) (by rfl) ?_
  try simp only [Act.put, List.setIfInBounds_toArray, List.set_cons_zero, List.set_cons_succ]
  refine takeU 49 ⟨some 65, .fieldAddr 24 (.tmp 64) 6, 0, "batch.go:149", #[⟨48, .data⟩, ⟨45, .guard⟩], some (45, true)⟩ rfl (by kernel_rfl) (by kernel_rfl) (by kernel_rfl) (by rfl) ?_
  try simp only [Act.put, List.setIfInBounds_toArray, List.set_cons_zero, List.set_cons_succ]
  refine takeU 50 ⟨some 66, .load 3 (.tmp 5), 3, "batch.go:149", #[⟨45, .guard⟩], some (45, true)⟩ rfl (by kernel_rfl) (by kernel_rfl) (by kernel_rfl) (by rfl) ?_
  try simp only [Act.put, List.setIfInBounds_toArray, List.set_cons_zero, List.set_cons_succ]
  refine takeU 51 ⟨some 67, .binOp .sub 3 (.const (.int .i64 1048576)) (.tmp 66) 3, 3, "batch.go:149", #[⟨50, .data⟩, ⟨45, .guard⟩], some (45, true)⟩ rfl (by kernel_rfl) (by kernel_rfl) (by kernel_rfl) (by rfl) ?_
  try simp only [Act.put, List.setIfInBounds_toArray, List.set_cons_zero, List.set_cons_succ]
  refine takeU 52 ⟨some 68, .call { callee := .value (.tmp 62), args := #[.tmp 65, .const (.int .i64 0), .tmp 67], argTypes := #[72, 3, 3] }, 4, "batch.go:155", #[⟨46, .data⟩, ⟨49, .data⟩, ⟨51, .data⟩, ⟨45, .chain⟩, ⟨45, .guard⟩], some (45, true)⟩ rfl (by kernel_rfl) (by kernel_rfl) (by kernel_rfl) (by rfl) ?_
  try simp only [Act.put, List.setIfInBounds_toArray, List.set_cons_zero, List.set_cons_succ]
  refine takeP 53 ⟨some 69, .pick (.tmp 61) (.tmp 68) (.const (.bool false)), 4, "batch.go:149", #[⟨45, .data⟩, ⟨52, .data⟩], none⟩ ?_ rfl (by kernel_rfl) (by kernel_rfl) (by kernel_rfl) (by rfl) ?_ ?_
  rotate_left
  · intro w hSw; go_simp; (first | done | with_reducible rfl)
  try simp only [Act.put, List.setIfInBounds_toArray, List.set_cons_zero, List.set_cons_succ]
  refine takeP 54 ⟨some 6, .assign (.tmp 69), 4, "batch.go:149", #[⟨53, .data⟩, ⟨52, .chain⟩, ⟨0, .phase⟩, ⟨1, .phase⟩, ⟨2, .phase⟩, ⟨3, .phase⟩, ⟨4, .phase⟩, ⟨5, .phase⟩, ⟨6, .phase⟩, ⟨7, .phase⟩, ⟨8, .phase⟩, ⟨9, .phase⟩, ⟨10, .phase⟩, ⟨11, .phase⟩, ⟨12, .phase⟩, ⟨13, .phase⟩, ⟨14, .phase⟩, ⟨15, .phase⟩, ⟨16, .phase⟩, ⟨17, .phase⟩, ⟨18, .phase⟩, ⟨19, .phase⟩, ⟨20, .phase⟩, ⟨21, .phase⟩, ⟨22, .phase⟩, ⟨23, .phase⟩, ⟨24, .phase⟩, ⟨25, .phase⟩, ⟨26, .phase⟩, ⟨27, .phase⟩, ⟨28, .phase⟩, ⟨29, .phase⟩, ⟨30, .phase⟩, ⟨31, .phase⟩, ⟨32, .phase⟩, ⟨33, .phase⟩, ⟨34, .phase⟩, ⟨35, .phase⟩, ⟨36, .phase⟩, ⟨37, .phase⟩, ⟨38, .phase⟩, ⟨39, .phase⟩, ⟨40, .phase⟩, ⟨41, .phase⟩, ⟨42, .phase⟩, ⟨43, .phase⟩, ⟨44, .phase⟩, ⟨45, .phase⟩, ⟨46, .phase⟩, ⟨47, .phase⟩, ⟨48, .phase⟩, ⟨49, .phase⟩, ⟨50, .phase⟩, ⟨51, .phase⟩, ⟨52, .phase⟩, ⟨53, .phase⟩], none⟩ ?_ rfl (by kernel_rfl) (by kernel_rfl) (by kernel_rfl) (by rfl) ?_ ?_
  rotate_left
  · intro w hSw; go_simp; (first | done | with_reducible rfl)
  try simp only [Act.put, List.setIfInBounds_toArray, List.set_cons_zero, List.set_cons_succ]
  refine wpAnyH_done (by kernel_rfl) ?_ _
  go_wp2
  go_region
  go_wp2
  go_ret
  exact ⟨rfl, rfl⟩
set_option maxRecDepth 100000 in
set_option maxHeartbeats 8000000 in
theorem each_E1b5 (g : Nat) (ba la sp fr ep pi ge _se : Int) (w : World) (hg : g < w.heap.size) (fz : w.frozen? ⟨g, 1, none⟩ = false) (c1 : w.cell? ⟨g, 1, none⟩ = some (.int .i64 la)) (c0 : w.cell? ⟨g, 0, none⟩ = some (.int .i64 ba)) (hsp : IntKind.i64.wrap (la - ba) = sp) (i0 : inL ba 0 1099511627776 = true) (i1 : ∀ h, (if IntKind.i64.wrap (1099511627776 - ba) < 15 then IntKind.i64.wrap (1099511627776 - ba) else 15) = h → inL sp 0 h = true) (c2 : w.cell? ⟨g, 2, none⟩ = some (.int .i64 fr)) (i2 : inL fr 0 (IntKind.i64.wrap (1099511627776 - sp)) = true) (c3 : w.cell? ⟨g, 3, none⟩ = some (.int .i64 ep)) (i3 : inL ep 0 1048576 = true) (c4 : w.cell? ⟨g, 4, none⟩ = some (.int .i64 pi)) (i4 : inL pi (-1) 1099511627776 = true) (c5 : w.cell? ⟨g, 5, none⟩ = some (.int .i64 ge)) (i5 : inL ge 0 1048576 = false) :
    Calls Tryd.prog 60 #[.pointer (some ⟨g, 0, none⟩), .func (.func 68) #[] #[]] w fun e w2 => e = .returned (.bool false) ∧ ((w.setCell ⟨g, 1, none⟩ (.int .i64 (wrap64 (ba + sp)))).alloc (.cells #[.int .i64 sp] 3)).drew.drew.drew = w2 := by
  have k0 : (w.alloc (.cells #[.int .i64 sp] 3)).drew.drew.cell? ⟨g, 0, none⟩ = some (.int .i64 ba) := by simp [go_sem, c0, hg]
  have k1 : (w.alloc (.cells #[.int .i64 sp] 3)).drew.drew.cell? ⟨w.heap.size, 0, none⟩ = some (.int .i64 sp) := by simp [go_sem]
  have k2 : (w.alloc (.cells #[.int .i64 sp] 3)).drew.drew.cell? ⟨g, 2, none⟩ = some (.int .i64 fr) := by simp [go_sem, c2, hg]
  have k3 : (w.alloc (.cells #[.int .i64 sp] 3)).drew.drew.cell? ⟨g, 3, none⟩ = some (.int .i64 ep) := by simp [go_sem, c3, hg]
  have k4 : (w.alloc (.cells #[.int .i64 sp] 3)).drew.drew.cell? ⟨g, 4, none⟩ = some (.int .i64 pi) := by simp [go_sem, c4, hg]
  have k5 : (w.alloc (.cells #[.int .i64 sp] 3)).drew.drew.cell? ⟨g, 5, none⟩ = some (.int .i64 ge) := by simp [go_sem, c5, hg]
  go_enter Tryd.func60, Tryd.ntmps60
  go_wp2
  go_region
  go_wp2
  refine wp_region_held_drew (S := fun _ => True) (by kernel_rfl) trivial (fun hHeld => ?_)
  clear hHeld
  refine takeP 0 ⟨some 16, .move (.tmp 1), 78, "batch.go:149", #[], none⟩ ?_ rfl (by kernel_rfl) (by kernel_rfl) (by kernel_rfl) (by rfl) ?_ ?_
  rotate_left
  · intro w hSw; go_simp; (first | done | with_reducible rfl)
  try simp only [Act.put, List.setIfInBounds_toArray, List.set_cons_zero, List.set_cons_succ]
  refine takeP 1 ⟨some 17, .move (.tmp 0), 77, "batch.go:149", #[], none⟩ ?_ rfl (by kernel_rfl) (by kernel_rfl) (by kernel_rfl) (by rfl) ?_ ?_
  rotate_left
  · intro w hSw; go_simp; (first | done | with_reducible rfl)
  try simp only [Act.put, List.setIfInBounds_toArray, List.set_cons_zero, List.set_cons_succ]
  refine takeP 2 ⟨some 18, .nilCheck (.tmp 17), 0, "batch.go:149", #[⟨1, .data⟩], none⟩ ?_ rfl (by kernel_rfl) (by kernel_rfl) (by kernel_rfl) (by rfl) ?_ ?_
  rotate_left
  · intro w hSw; go_simp; (first | done | with_reducible rfl)
  try simp only [Act.put, List.setIfInBounds_toArray, List.set_cons_zero, List.set_cons_succ]
  refine takeP 3 ⟨some 19, .fieldAddr 24 (.tmp 18) 0, 0, "batch.go:149", #[⟨2, .data⟩], none⟩ ?_ rfl (by kernel_rfl) (by kernel_rfl) (by kernel_rfl) (by rfl) ?_ ?_
  rotate_left
  · intro w hSw; go_simp; (first | done | with_reducible rfl)
  try simp only [Act.put, List.setIfInBounds_toArray, List.set_cons_zero, List.set_cons_succ]
  refine takeB 4 ⟨some 20, .call { callee := .value (.tmp 16), args := #[.tmp 19, .const (.int .i64 0), .const (.int .i64 1099511627776)], argTypes := #[72, 3, 3] }, 4, "batch.go:149", #[⟨0, .data⟩, ⟨3, .data⟩], none⟩ (by kernel_rfl) rfl (fun K hK => ?_)
  go_simp
  with_reducible refine (within_any ⟨g, 0, none⟩ ba _ _ _ k0 i0).mono ?_
  rintro e w9 ⟨rfl, rfl⟩
  dsimp only
  refine hK.out _ _ trivial (fun hHeld => ?_)
  clear hK K hHeld
  try simp only [Act.put, List.setIfInBounds_toArray, List.set_cons_zero, List.set_cons_succ]
  refine takeP 5 ⟨some 21, .move (.tmp 20), 4, "batch.go:149", #[⟨4, .data⟩, ⟨4, .chain⟩], none⟩ ?_ rfl (by kernel_rfl) (by kernel_rfl) (by kernel_rfl) (by rfl) ?_ ?_
  rotate_left
  · intro w hSw; go_simp; (first | done | with_reducible rfl)
  try simp only [Act.put, List.setIfInBounds_toArray, List.set_cons_zero, List.set_cons_succ]
  refine takeP 6 ⟨some 22, .move (.tmp 1), 78, "batch.go:149", #[⟨5, .guard⟩], some (5, true)⟩ ?_ rfl (by kernel_rfl) (by kernel_rfl) (by kernel_rfl) (by rfl) ?_ ?_
  rotate_left
  · intro w hSw; go_simp; (first | done | with_reducible rfl)
  try simp only [Act.put, List.setIfInBounds_toArray, List.set_cons_zero, List.set_cons_succ]
  refine takeP 7 ⟨some 23, .move (.tmp 0), 77, "batch.go:149", #[⟨5, .guard⟩], some (5, true)⟩ ?_ rfl (by kernel_rfl) (by kernel_rfl) (by kernel_rfl) (by rfl) ?_ ?_
  rotate_left
  · intro w hSw; go_simp; (first | done | with_reducible rfl)
  try simp only [Act.put, List.setIfInBounds_toArray, List.set_cons_zero, List.set_cons_succ]
  refine takeP 8 ⟨some 24, .nilCheck (.tmp 23), 0, "batch.go:149", #[⟨7, .data⟩, ⟨5, .guard⟩], some (5, true)⟩ ?_ rfl (by kernel_rfl) (by kernel_rfl) (by kernel_rfl) (by rfl) ?_ ?_
  rotate_left
  · intro w hSw; go_simp; (first | done | with_reducible rfl)
  try simp only [Act.put, List.setIfInBounds_toArray, List.set_cons_zero, List.set_cons_succ]
  refine takeP 9 ⟨some 25, .fieldAddr 24 (.tmp 24) 0, 0, "batch.go:149", #[⟨8, .data⟩, ⟨5, .guard⟩], some (5, true)⟩ ?_ rfl (by kernel_rfl) (by kernel_rfl) (by kernel_rfl) (by rfl) ?_ ?_
  rotate_left
  · intro w hSw; go_simp; (first | done | with_reducible rfl)
  try simp only [Act.put, List.setIfInBounds_toArray, List.set_cons_zero, List.set_cons_succ]
  refine takeB 10 ⟨some 26, .load 3 (.tmp 25), 3, "batch.go:149", #[⟨9, .data⟩, ⟨5, .guard⟩], some (5, true)⟩ (by kernel_rfl) rfl (fun K hK => ?_)
  go_simp
  refine hK.out _ _ trivial (fun hHeld => ?_)
  clear hK K hHeld
  try simp only [Act.put, List.setIfInBounds_toArray, List.set_cons_zero, List.set_cons_succ]
  refine takeP 11 ⟨some 27, .binOp .sub 3 (.const (.int .i64 1099511627776)) (.tmp 26) 3, 3, "batch.go:149", #[⟨10, .data⟩, ⟨5, .guard⟩], some (5, true)⟩ ?_ rfl (by kernel_rfl) (by kernel_rfl) (by kernel_rfl) (by rfl) ?_ ?_
  rotate_left
  · intro w hSw; go_simp; (first | done | with_reducible rfl)
  try simp only [Act.put, List.setIfInBounds_toArray, List.set_cons_zero, List.set_cons_succ]
  refine takeB 12 ⟨some 28, .call { callee := Callee.builtin Builtin.min, args := #[.const (.int .i64 15), .tmp 27], argTypes := #[3, 3] }, 3, "batch.go:149", #[⟨11, .data⟩, ⟨5, .guard⟩], some (5, true)⟩ (by kernel_rfl) rfl (fun K hK => ?_)
  go_simp
  refine hK.out _ _ trivial (fun hHeld => ?_)
  clear hK K hHeld
  try simp only [Act.put, List.setIfInBounds_toArray, List.set_cons_zero, List.set_cons_succ]
  refine takeB 13 ⟨some 29, .call { callee := .value (.tmp 22), args := #[.tmp 5, .const (.int .i64 0), .tmp 28], argTypes := #[72, 3, 3] }, 4, "batch.go:150", #[⟨6, .data⟩, ⟨12, .data⟩, ⟨5, .chain⟩, ⟨5, .guard⟩], some (5, true)⟩ (by kernel_rfl) rfl (fun K hK => ?_)
  go_simp
  generalize HG1 : (if IntKind.i64.wrap (1099511627776 - ba) < 15 then IntKind.i64.wrap (1099511627776 - ba) else 15) = h1
  with_reducible refine (within_any ⟨w.heap.size, 0, none⟩ sp _ _ _ k1 (i1 _ HG1)).mono ?_
  rintro e w9 ⟨rfl, rfl⟩
  dsimp only
  clear HG1
  refine hK.out _ _ trivial (fun hHeld => ?_)
  clear hK K hHeld
  try simp only [Act.put, List.setIfInBounds_toArray, List.set_cons_zero, List.set_cons_succ]
  refine takeP 14 ⟨some 30, .pick (.tmp 21) (.tmp 29) (.const (.bool false)), 4, "batch.go:149", #[⟨5, .data⟩, ⟨13, .data⟩], none⟩ ?_ rfl (by kernel_rfl) (by kernel_rfl) (by kernel_rfl) (by rfl) ?_ ?_
  rotate_left
  · intro w hSw; go_simp; (first | done | with_reducible rfl)
  try simp only [Act.put, List.setIfInBounds_toArray, List.set_cons_zero, List.set_cons_succ]
  refine takeP 15 ⟨some 31, .move (.tmp 30), 4, "batch.go:149", #[⟨14, .data⟩, ⟨13, .chain⟩], none⟩ ?_ rfl (by kernel_rfl) (by kernel_rfl) (by kernel_rfl) (by rfl) ?_ ?_
  rotate_left
  · intro w hSw; go_simp; (first | done | with_reducible rfl)
  try simp only [Act.put, List.setIfInBounds_toArray, List.set_cons_zero, List.set_cons_succ]
  refine takeP 16 ⟨some 32, .move (.tmp 1), 78, "batch.go:149", #[⟨15, .guard⟩], some (15, true)⟩ ?_ rfl (by kernel_rfl) (by kernel_rfl) (by kernel_rfl) (by rfl) ?_ ?_
  rotate_left
  · intro w hSw; go_simp; (first | done | with_reducible rfl)
  try simp only [Act.put, List.setIfInBounds_toArray, List.set_cons_zero, List.set_cons_succ]
  refine takeP 17 ⟨some 33, .move (.tmp 0), 77, "batch.go:149", #[⟨15, .guard⟩], some (15, true)⟩ ?_ rfl (by kernel_rfl) (by kernel_rfl) (by kernel_rfl) (by rfl) ?_ ?_
  rotate_left
  · intro w hSw; go_simp; (first | done | with_reducible rfl)
  try simp only [Act.put, List.setIfInBounds_toArray, List.set_cons_zero, List.set_cons_succ]
  refine takeP 18 ⟨some 34, .nilCheck (.tmp 33), 0, "batch.go:149", #[⟨17, .data⟩, ⟨15, .guard⟩], some (15, true)⟩ ?_ rfl (by kernel_rfl) (by kernel_rfl) (by kernel_rfl) (by rfl) ?_ ?_
  rotate_left
  · intro w hSw; go_simp; (first | done | with_reducible rfl)
  try simp only [Act.put, List.setIfInBounds_toArray, List.set_cons_zero, List.set_cons_succ]
  refine takeP 19 ⟨some 35, .fieldAddr 24 (.tmp 34) 2, 0, "batch.go:149", #[⟨18, .data⟩, ⟨15, .guard⟩], some (15, true)⟩ ?_ rfl (by kernel_rfl) (by kernel_rfl) (by kernel_rfl) (by rfl) ?_ ?_
  rotate_left
  · intro w hSw; go_simp; (first | done | with_reducible rfl)
  try simp only [Act.put, List.setIfInBounds_toArray, List.set_cons_zero, List.set_cons_succ]
  refine takeB 20 ⟨some 36, .load 3 (.tmp 5), 3, "batch.go:149", #[⟨15, .guard⟩], some (15, true)⟩ (by kernel_rfl) rfl (fun K hK => ?_)
  go_simp
  refine hK.out _ _ trivial (fun hHeld => ?_)
  clear hK K hHeld
  try simp only [Act.put, List.setIfInBounds_toArray, List.set_cons_zero, List.set_cons_succ]
  refine takeP 21 ⟨some 37, .binOp .sub 3 (.const (.int .i64 1099511627776)) (.tmp 36) 3, 3, "batch.go:149", #[⟨20, .data⟩, ⟨15, .guard⟩], some (15, true)⟩ ?_ rfl (by kernel_rfl) (by kernel_rfl) (by kernel_rfl) (by rfl) ?_ ?_
  rotate_left
  · intro w hSw; go_simp; (first | done | with_reducible rfl)
  try simp only [Act.put, List.setIfInBounds_toArray, List.set_cons_zero, List.set_cons_succ]
  refine takeB 22 ⟨some 38, .call { callee := .value (.tmp 32), args := #[.tmp 35, .const (.int .i64 0), .tmp 37], argTypes := #[72, 3, 3] }, 4, "batch.go:151", #[⟨16, .data⟩, ⟨19, .data⟩, ⟨21, .data⟩, ⟨15, .chain⟩, ⟨15, .guard⟩], some (15, true)⟩ (by kernel_rfl) rfl (fun K hK => ?_)
  go_simp
  with_reducible refine (within_any ⟨g, 2, none⟩ fr _ _ _ k2 i2).mono ?_
  rintro e w9 ⟨rfl, rfl⟩
  dsimp only
  refine hK.out _ _ trivial (fun hHeld => ?_)
  clear hK K hHeld
  try simp only [Act.put, List.setIfInBounds_toArray, List.set_cons_zero, List.set_cons_succ]
  refine takeP 23 ⟨some 39, .pick (.tmp 31) (.tmp 38) (.const (.bool false)), 4, "batch.go:149", #[⟨15, .data⟩, ⟨22, .data⟩], none⟩ ?_ rfl (by kernel_rfl) (by kernel_rfl) (by kernel_rfl) (by rfl) ?_ ?_
  rotate_left
  · intro w hSw; go_simp; (first | done | with_reducible rfl)
  try simp only [Act.put, List.setIfInBounds_toArray, List.set_cons_zero, List.set_cons_succ]
  refine takeP 24 ⟨some 40, .move (.tmp 39), 4, "batch.go:149", #[⟨23, .data⟩, ⟨22, .chain⟩], none⟩ ?_ rfl (by kernel_rfl) (by kernel_rfl) (by kernel_rfl) (by rfl) ?_ ?_
  rotate_left
  · intro w hSw; go_simp; (first | done | with_reducible rfl)
  try simp only [Act.put, List.setIfInBounds_toArray, List.set_cons_zero, List.set_cons_succ]
  refine takeP 25 ⟨some 41, .move (.tmp 1), 78, "batch.go:149", #[⟨24, .guard⟩], some (24, true)⟩ ?_ rfl (by kernel_rfl) (by kernel_rfl) (by kernel_rfl) (by rfl) ?_ ?_
  rotate_left
  · intro w hSw; go_simp; (first | done | with_reducible rfl)
  try simp only [Act.put, List.setIfInBounds_toArray, List.set_cons_zero, List.set_cons_succ]
  refine takeP 26 ⟨some 42, .move (.tmp 0), 77, "batch.go:149", #[⟨24, .guard⟩], some (24, true)⟩ ?_ rfl (by kernel_rfl) (by kernel_rfl) (by kernel_rfl) (by rfl) ?_ ?_
  rotate_left
  · intro w hSw; go_simp; (first | done | with_reducible rfl)
  try simp only [Act.put, List.setIfInBounds_toArray, List.set_cons_zero, List.set_cons_succ]
  refine takeP 27 ⟨some 43, .nilCheck (.tmp 42), 0, "batch.go:149", #[⟨26, .data⟩, ⟨24, .guard⟩], some (24, true)⟩ ?_ rfl (by kernel_rfl) (by kernel_rfl) (by kernel_rfl) (by rfl) ?_ ?_
  rotate_left
  · intro w hSw; go_simp; (first | done | with_reducible rfl)
  try simp only [Act.put, List.setIfInBounds_toArray, List.set_cons_zero, List.set_cons_succ]
  refine takeP 28 ⟨some 44, .fieldAddr 24 (.tmp 43) 3, 0, "batch.go:149", #[⟨27, .data⟩, ⟨24, .guard⟩], some (24, true)⟩ ?_ rfl (by kernel_rfl) (by kernel_rfl) (by kernel_rfl) (by rfl) ?_ ?_
  rotate_left
  · intro w hSw; go_simp; (first | done | with_reducible rfl)
  try simp only [Act.put, List.setIfInBounds_toArray, List.set_cons_zero, List.set_cons_succ]
  refine takeB 29 ⟨some 45, .call { callee := .value (.tmp 41), args := #[.tmp 44, .const (.int .i64 0), .const (.int .i64 1048576)], argTypes := #[72, 3, 3] }, 4, "batch.go:152", #[⟨25, .data⟩, ⟨28, .data⟩, ⟨24, .chain⟩, ⟨24, .guard⟩], some (24, true)⟩ (by kernel_rfl) rfl (fun K hK => ?_)
  go_simp
  with_reducible refine (within_any ⟨g, 3, none⟩ ep _ _ _ k3 i3).mono ?_
  rintro e w9 ⟨rfl, rfl⟩
  dsimp only
  refine hK.out _ _ trivial (fun hHeld => ?_)
  clear hK K hHeld
  try simp only [Act.put, List.setIfInBounds_toArray, List.set_cons_zero, List.set_cons_succ]
  refine takeP 30 ⟨some 46, .pick (.tmp 40) (.tmp 45) (.const (.bool false)), 4, "batch.go:149", #[⟨24, .data⟩, ⟨29, .data⟩], none⟩ ?_ rfl (by kernel_rfl) (by kernel_rfl) (by kernel_rfl) (by rfl) ?_ ?_
  rotate_left
  · intro w hSw; go_simp; (first | done | with_reducible rfl)
  try simp only [Act.put, List.setIfInBounds_toArray, List.set_cons_zero, List.set_cons_succ]
  refine takeP 31 ⟨some 47, .move (.tmp 46), 4, "batch.go:149", #[⟨30, .data⟩, ⟨29, .chain⟩], none⟩ ?_ rfl (by kernel_rfl) (by kernel_rfl) (by kernel_rfl) (by rfl) ?_ ?_
  rotate_left
  · intro w hSw; go_simp; (first | done | with_reducible rfl)
  try simp only [Act.put, List.setIfInBounds_toArray, List.set_cons_zero, List.set_cons_succ]
  refine takeP 32 ⟨some 48, .move (.tmp 1), 78, "batch.go:149", #[⟨31, .guard⟩], some (31, true)⟩ ?_ rfl (by kernel_rfl) (by kernel_rfl) (by kernel_rfl) (by rfl) ?_ ?_
  rotate_left
  · intro w hSw; go_simp; (first | done | with_reducible rfl)
  try simp only [Act.put, List.setIfInBounds_toArray, List.set_cons_zero, List.set_cons_succ]
  refine takeP 33 ⟨some 49, .move (.tmp 0), 77, "batch.go:149", #[⟨31, .guard⟩], some (31, true)⟩ ?_ rfl (by kernel_rfl) (by kernel_rfl) (by kernel_rfl) (by rfl) ?_ ?_
  rotate_left
  · intro w hSw; go_simp; (first | done | with_reducible rfl)
  try simp only [Act.put, List.setIfInBounds_toArray, List.set_cons_zero, List.set_cons_succ]
  refine takeP 34 ⟨some 50, .nilCheck (.tmp 49), 0, "batch.go:149", #[⟨33, .data⟩, ⟨31, .guard⟩], some (31, true)⟩ ?_ rfl (by kernel_rfl) (by kernel_rfl) (by kernel_rfl) (by rfl) ?_ ?_
  rotate_left
  · intro w hSw; go_simp; (first | done | with_reducible rfl)
  try simp only [Act.put, List.setIfInBounds_toArray, List.set_cons_zero, List.set_cons_succ]
  refine takeP 35 ⟨some 51, .fieldAddr 24 (.tmp 50) 4, 0, "batch.go:149", #[⟨34, .data⟩, ⟨31, .guard⟩], some (31, true)⟩ ?_ rfl (by kernel_rfl) (by kernel_rfl) (by kernel_rfl) (by rfl) ?_ ?_
  rotate_left
  · intro w hSw; go_simp; (first | done | with_reducible rfl)
  try simp only [Act.put, List.setIfInBounds_toArray, List.set_cons_zero, List.set_cons_succ]
  refine takeB 36 ⟨some 52, .call { callee := .value (.tmp 48), args := #[.tmp 51, .const (.int .i64 (-1)), .const (.int .i64 1099511627776)], argTypes := #[72, 3, 3] }, 4, "batch.go:153", #[⟨32, .data⟩, ⟨35, .data⟩, ⟨31, .chain⟩, ⟨31, .guard⟩], some (31, true)⟩ (by kernel_rfl) rfl (fun K hK => ?_)
  go_simp
  with_reducible refine (within_any ⟨g, 4, none⟩ pi _ _ _ k4 i4).mono ?_
  rintro e w9 ⟨rfl, rfl⟩
  dsimp only
  refine hK.out _ _ trivial (fun hHeld => ?_)
  clear hK K hHeld
  try simp only [Act.put, List.setIfInBounds_toArray, List.set_cons_zero, List.set_cons_succ]
  refine takeP 37 ⟨some 53, .pick (.tmp 47) (.tmp 52) (.const (.bool false)), 4, "batch.go:149", #[⟨31, .data⟩, ⟨36, .data⟩], none⟩ ?_ rfl (by kernel_rfl) (by kernel_rfl) (by kernel_rfl) (by rfl) ?_ ?_
  rotate_left
  · intro w hSw; go_simp; (first | done | with_reducible rfl)
  try simp only [Act.put, List.setIfInBounds_toArray, List.set_cons_zero, List.set_cons_succ]
  refine takeP 38 ⟨some 54, .move (.tmp 53), 4, "batch.go:149", #[⟨37, .data⟩, ⟨36, .chain⟩], none⟩ ?_ rfl (by kernel_rfl) (by kernel_rfl) (by kernel_rfl) (by rfl) ?_ ?_
  rotate_left
  · intro w hSw; go_simp; (first | done | with_reducible rfl)
  try simp only [Act.put, List.setIfInBounds_toArray, List.set_cons_zero, List.set_cons_succ]
  refine takeP 39 ⟨some 55, .move (.tmp 1), 78, "batch.go:149", #[⟨38, .guard⟩], some (38, true)⟩ ?_ rfl (by kernel_rfl) (by kernel_rfl) (by kernel_rfl) (by rfl) ?_ ?_
  rotate_left
  · intro w hSw; go_simp; (first | done | with_reducible rfl)
  try simp only [Act.put, List.setIfInBounds_toArray, List.set_cons_zero, List.set_cons_succ]
  refine takeP 40 ⟨some 56, .move (.tmp 0), 77, "batch.go:149", #[⟨38, .guard⟩], some (38, true)⟩ ?_ rfl (by kernel_rfl) (by kernel_rfl) (by kernel_rfl) (by rfl) ?_ ?_
  rotate_left
  · intro w hSw; go_simp; (first | done | with_reducible rfl)
  try simp only [Act.put, List.setIfInBounds_toArray, List.set_cons_zero, List.set_cons_succ]
  refine takeP 41 ⟨some 57, .nilCheck (.tmp 56), 0, "batch.go:149", #[⟨40, .data⟩, ⟨38, .guard⟩], some (38, true)⟩ ?_ rfl (by kernel_rfl) (by kernel_rfl) (by kernel_rfl) (by rfl) ?_ ?_
  rotate_left
  · intro w hSw; go_simp; (first | done | with_reducible rfl)
  try simp only [Act.put, List.setIfInBounds_toArray, List.set_cons_zero, List.set_cons_succ]
  refine takeP 42 ⟨some 58, .fieldAddr 24 (.tmp 57) 5, 0, "batch.go:149", #[⟨41, .data⟩, ⟨38, .guard⟩], some (38, true)⟩ ?_ rfl (by kernel_rfl) (by kernel_rfl) (by kernel_rfl) (by rfl) ?_ ?_
  rotate_left
  · intro w hSw; go_simp; (first | done | with_reducible rfl)
  try simp only [Act.put, List.setIfInBounds_toArray, List.set_cons_zero, List.set_cons_succ]
  refine takeB 43 ⟨some 59, .call { callee := .value (.tmp 55), args := #[.tmp 58, .const (.int .i64 0), .const (.int .i64 1048576)], argTypes := #[72, 3, 3] }, 4, "batch.go:154", #[⟨39, .data⟩, ⟨42, .data⟩, ⟨38, .chain⟩, ⟨38, .guard⟩], some (38, true)⟩ (by kernel_rfl) rfl (fun K hK => ?_)
  go_simp
  with_reducible refine (within_any ⟨g, 5, none⟩ ge _ _ _ k5 i5).mono ?_
  rintro e w9 ⟨rfl, rfl⟩
  dsimp only
  refine hK.out _ _ trivial (fun hHeld => ?_)
  clear hK K hHeld
  try simp only [Act.put, List.setIfInBounds_toArray, List.set_cons_zero, List.set_cons_succ]
  refine takeP 44 ⟨some 60, .pick (.tmp 54) (.tmp 59) (.const (.bool false)), 4, "batch.go:149", #[⟨38, .data⟩, ⟨43, .data⟩], none⟩ ?_ rfl (by kernel_rfl) (by kernel_rfl) (by kernel_rfl) (by rfl) ?_ ?_
  rotate_left
  · intro w hSw; go_simp; (first | done | with_reducible rfl)
  try simp only [Act.put, List.setIfInBounds_toArray, List.set_cons_zero, List.set_cons_succ]
  refine takeP 45 ⟨some 61, .move (.tmp 60), 4, "batch.go:149", #[⟨44, .data⟩, ⟨43, .chain⟩], none⟩ ?_ rfl (by kernel_rfl) (by kernel_rfl) (by kernel_rfl) (by rfl) ?_ ?_
  rotate_left
  · intro w hSw; go_simp; (first | done | with_reducible rfl)
  try simp only [Act.put, List.setIfInBounds_toArray, List.set_cons_zero, List.set_cons_succ]
  refine takeU 46 ⟨some 62, .move (.tmp 1), 78, "batch.go:149", #[⟨45, .guard⟩], some (45, true)⟩ rfl (by kernel_rfl) (by kernel_rfl) (by kernel_rfl) (by rfl) ?_
  try simp only [Act.put, List.setIfInBounds_toArray, List.set_cons_zero, List.set_cons_succ]
  refine takeU 47 ⟨some 63, .move (.tmp 0), 77, "batch.go:149", #[⟨45, .guard⟩], some (45, true)⟩ rfl (by kernel_rfl) (by kernel_rfl) (by kernel_rfl) (by rfl) ?_
  try simp only [Act.put, List.setIfInBounds_toArray, List.set_cons_zero, List.set_cons_succ]
  refine takeU 48 ⟨some 64, .nilCheck (.tmp 63), 0, "batch.go:149", #[⟨47, .data⟩, ⟨45, .guard⟩], some (45, true)⟩ rfl (by kernel_rfl) (by kernel_rfl) (by kernel_rfl) (by rfl) ?_
  try simp only [Act.put, List.setIfInBounds_toArray, List.set_cons_zero, List.set_cons_succ]
  refine takeU 49 ⟨some 65, .fieldAddr 24 (.tmp 64) 6, 0, "batch.go:149", #[⟨48, .data⟩, ⟨45, .guard⟩], some (45, true)⟩ rfl (by kernel_rfl) (by kernel_rfl) (by kernel_rfl) (by rfl) ?_
  try simp only [Act.put, List.setIfInBounds_toArray, List.set_cons_zero, List.set_cons_succ]
  refine takeU 50 ⟨some 66, .load 3 (.tmp 5), 3, "batch.go:149", #[⟨45, .guard⟩], some (45, true)⟩ rfl (by kernel_rfl) (by kernel_rfl) (by kernel_rfl) (by rfl) ?_
  try simp only [Act.put, List.setIfInBounds_toArray, List.set_cons_zero, List.set_cons_succ]
  refine takeU 51 ⟨some 67, .binOp .sub 3 (.const (.int .i64 1048576)) (.tmp 66) 3, 3, "batch.go:149", #[⟨50, .data⟩, ⟨45, .guard⟩], some (45, true)⟩ rfl (by kernel_rfl) (by kernel_rfl) (by kernel_rfl) (by rfl) ?_
  try simp only [Act.put, List.setIfInBounds_toArray, List.set_cons_zero, List.set_cons_succ]
  refine takeU 52 ⟨some 68, .call { callee := .value (.tmp 62), args := #[.tmp 65, .const (.int .i64 0), .tmp 67], argTypes := #[72, 3, 3] }, 4, "batch.go:155", #[⟨46, .data⟩, ⟨49, .data⟩, ⟨51, .data⟩, ⟨45, .chain⟩, ⟨45, .guard⟩], some (45, true)⟩ rfl (by kernel_rfl) (by kernel_rfl) (by kernel_rfl) (by rfl) ?_
  try simp only [Act.put, List.setIfInBounds_toArray, List.set_cons_zero, List.set_cons_succ]
  refine takeP 53 ⟨some 69, .pick (.tmp 61) (.tmp 68) (.const (.bool false)), 4, "batch.go:149", #[⟨45, .data⟩, ⟨52, .data⟩], none⟩ ?_ rfl (by kernel_rfl) (by kernel_rfl) (by kernel_rfl) (by rfl) ?_ ?_
  rotate_left
  · intro w hSw; go_simp; (first | done | with_reducible rfl)
  try simp only [Act.put, List.setIfInBounds_toArray, List.set_cons_zero, List.set_cons_succ]
  refine takeP 54 ⟨some 6, .assign (.tmp 69), 4, "batch.go:149", #[⟨53, .data⟩, ⟨52, .chain⟩, ⟨0, .phase⟩, ⟨1, .phase⟩, ⟨2, .phase⟩, ⟨3, .phase⟩, ⟨4, .phase⟩, ⟨5, .phase⟩, ⟨6, .phase⟩, ⟨7, .phase⟩, ⟨8, .phase⟩, ⟨9, .phase⟩, ⟨10, .phase⟩, ⟨11, .phase⟩, ⟨12, .phase⟩, ⟨13, .phase⟩, ⟨14, .phase⟩, ⟨15, .phase⟩, ⟨16, .phase⟩, ⟨17, .phase⟩, ⟨18, .phase⟩, ⟨19, .phase⟩, ⟨20, .phase⟩, ⟨21, .phase⟩, ⟨22, .phase⟩, ⟨23, .phase⟩, ⟨24, .phase⟩, ⟨25, .phase⟩, ⟨26, .phase⟩, ⟨27, .phase⟩, ⟨28, .phase⟩, ⟨29, .phase⟩, ⟨30, .phase⟩, ⟨31, .phase⟩, ⟨32, .phase⟩, ⟨33, .phase⟩, ⟨34, .phase⟩, ⟨35, .phase⟩, ⟨36, .phase⟩, ⟨37, .phase⟩, ⟨38, .phase⟩, ⟨39, .phase⟩, ⟨40, .phase⟩, ⟨41, .phase⟩, ⟨42, .phase⟩, ⟨43, .phase⟩, ⟨44, .phase⟩, ⟨45, .phase⟩, ⟨46, .phase⟩, ⟨47, .phase⟩, ⟨48, .phase⟩, ⟨49, .phase⟩, ⟨50, .phase⟩, ⟨51, .phase⟩, ⟨52, .phase⟩, ⟨53, .phase⟩], none⟩ ?_ rfl (by kernel_rfl) (by kernel_rfl) (by kernel_rfl) (by rfl) ?_ ?_
  rotate_left
  · intro w hSw; go_simp; (first | done | with_reducible rfl)
  try simp only [Act.put, List.setIfInBounds_toArray, List.set_cons_zero, List.set_cons_succ]
  refine wpAnyH_done (by kernel_rfl) ?_ _
  go_wp2
  go_region
  go_wp2
  go_ret
  exact ⟨rfl, rfl⟩
set_option maxRecDepth 100000 in
set_option maxHeartbeats 8000000 in
theorem each_E1b6 (g : Nat) (ba la sp fr ep pi ge se : Int) (w : World) (hg : g < w.heap.size) (fz : w.frozen? ⟨g, 1, none⟩ = false) (c1 : w.cell? ⟨g, 1, none⟩ = some (.int .i64 la)) (c0 : w.cell? ⟨g, 0, none⟩ = some (.int .i64 ba)) (hsp : IntKind.i64.wrap (la - ba) = sp) (i0 : inL ba 0 1099511627776 = true) (i1 : ∀ h, (if IntKind.i64.wrap (1099511627776 - ba) < 15 then IntKind.i64.wrap (1099511627776 - ba) else 15) = h → inL sp 0 h = true) (c2 : w.cell? ⟨g, 2, none⟩ = some (.int .i64 fr)) (i2 : inL fr 0 (IntKind.i64.wrap (1099511627776 - sp)) = true) (c3 : w.cell? ⟨g, 3, none⟩ = some (.int .i64 ep)) (i3 : inL ep 0 1048576 = true) (c4 : w.cell? ⟨g, 4, none⟩ = some (.int .i64 pi)) (i4 : inL pi (-1) 1099511627776 = true) (c5 : w.cell? ⟨g, 5, none⟩ = some (.int .i64 ge)) (i5 : inL ge 0 1048576 = true) (c6 : w.cell? ⟨g, 6, none⟩ = some (.int .i64 se)) (i6 : inL se 0 (IntKind.i64.wrap (1048576 - sp)) = false) :
    Calls Tryd.prog 60 #[.pointer (some ⟨g, 0, none⟩), .func (.func 68) #[] #[]] w fun e w2 => e = .returned (.bool false) ∧ ((w.setCell ⟨g, 1, none⟩ (.int .i64 (wrap64 (ba + sp)))).alloc (.cells #[.int .i64 sp] 3)).drew.drew.drew = w2 := by
  have k0 : (w.alloc (.cells #[.int .i64 sp] 3)).drew.drew.cell? ⟨g, 0, none⟩ = some (.int .i64 ba) := by simp [go_sem, c0, hg]
  have k1 : (w.alloc (.cells #[.int .i64 sp] 3)).drew.drew.cell? ⟨w.heap.size, 0, none⟩ = some (.int .i64 sp) := by simp [go_sem]
  have k2 : (w.alloc (.cells #[.int .i64 sp] 3)).drew.drew.cell? ⟨g, 2, none⟩ = some (.int .i64 fr) := by simp [go_sem, c2, hg]
  have k3 : (w.alloc (.cells #[.int .i64 sp] 3)).drew.drew.cell? ⟨g, 3, none⟩ = some (.int .i64 ep) := by simp [go_sem, c3, hg]
  have k4 : (w.alloc (.cells #[.int .i64 sp] 3)).drew.drew.cell? ⟨g, 4, none⟩ = some (.int .i64 pi) := by simp [go_sem, c4, hg]
  have k5 : (w.alloc (.cells #[.int .i64 sp] 3)).drew.drew.cell? ⟨g, 5, none⟩ = some (.int .i64 ge) := by simp [go_sem, c5, hg]
  have k6 : (w.alloc (.cells #[.int .i64 sp] 3)).drew.drew.cell? ⟨g, 6, none⟩ = some (.int .i64 se) := by simp [go_sem, c6, hg]
  go_enter Tryd.func60, Tryd.ntmps60
  go_wp2
  go_region
  go_wp2
  refine wp_region_held_drew (S := fun _ => True) (by kernel_rfl) trivial (fun hHeld => ?_)
  clear hHeld
  refine takeP 0 ⟨some 16, .move (.tmp 1), 78, "batch.go:149", #[], none⟩ ?_ rfl (by kernel_rfl) (by kernel_rfl) (by kernel_rfl) (by rfl) ?_ ?_
  rotate_left
  · intro w hSw; go_simp; (first | done | with_reducible rfl)
  try simp only [Act.put, List.setIfInBounds_toArray, List.set_cons_zero, List.set_cons_succ]
  refine takeP 1 ⟨some 17, .move (.tmp 0), 77, "batch.go:149", #[], none⟩ ?_ rfl (by kernel_rfl) (by kernel_rfl) (by kernel_rfl) (by rfl) ?_ ?_
  rotate_left
  · intro w hSw; go_simp; (first | done | with_reducible rfl)
  try simp only [Act.put, List.setIfInBounds_toArray, List.set_cons_zero, List.set_cons_succ]
  refine takeP 2 ⟨some 18, .nilCheck (.tmp 17), 0, "batch.go:149", #[⟨1, .data⟩], none⟩ ?_ rfl (by kernel_rfl) (by kernel_rfl) (by kernel_rfl) (by rfl) ?_ ?_
  rotate_left
  · intro w hSw; go_simp; (first | done | with_reducible rfl)
  try simp only [Act.put, List.setIfInBounds_toArray, List.set_cons_zero, List.set_cons_succ]
  refine takeP 3 ⟨some 19, .fieldAddr 24 (.tmp 18) 0, 0, "batch.go:149", #[⟨2, .data⟩], none⟩ ?_ rfl (by kernel_rfl) (by kernel_rfl) (by kernel_rfl) (by rfl) ?_ ?_
  rotate_left
  · intro w hSw; go_simp; (first | done | with_reducible rfl)
  try simp only [Act.put, List.setIfInBounds_toArray, List.set_cons_zero, List.set_cons_succ]
  refine takeB 4 ⟨some 20, .call { callee := .value (.tmp 16), args := #[.tmp 19, .const (.int .i64 0), .const (.int .i64 1099511627776)], argTypes := #[72, 3, 3] }, 4, "batch.go:149", #[⟨0, .data⟩, ⟨3, .data⟩], none⟩ (by kernel_rfl) rfl (fun K hK => ?_)
  go_simp
  with_reducible refine (within_any ⟨g, 0, none⟩ ba _ _ _ k0 i0).mono ?_
  rintro e w9 ⟨rfl, rfl⟩
  dsimp only
  refine hK.out _ _ trivial (fun hHeld => ?_)
  clear hK K hHeld
  try simp only [Act.put, List.setIfInBounds_toArray, List.set_cons_zero, List.set_cons_succ]
  refine takeP 5 ⟨some 21, .move (.tmp 20), 4, "batch.go:149", #[⟨4, .data⟩, ⟨4, .chain⟩], none⟩ ?_ rfl (by kernel_rfl) (by kernel_rfl) (by kernel_rfl) (by rfl) ?_ ?_
  rotate_left
  · intro w hSw; go_simp; (first | done | with_reducible rfl)
  try simp only [Act.put, List.setIfInBounds_toArray, List.set_cons_zero, List.set_cons_succ]
  refine takeP 6 ⟨some 22, .move (.tmp 1), 78, "batch.go:149", #[⟨5, .guard⟩], some (5, true)⟩ ?_ rfl (by kernel_rfl) (by kernel_rfl) (by kernel_rfl) (by rfl) ?_ ?_
  rotate_left
  · intro w hSw; go_simp; (first | done | with_reducible rfl)
  try simp only [Act.put, List.setIfInBounds_toArray, List.set_cons_zero, List.set_cons_succ]
  refine takeP 7 ⟨some 23, .move (.tmp 0), 77, "batch.go:149", #[⟨5, .guard⟩], some (5, true)⟩ ?_ rfl (by kernel_rfl) (by kernel_rfl) (by kernel_rfl) (by rfl) ?_ ?_
  rotate_left
  · intro w hSw; go_simp; (first | done | with_reducible rfl)
  try simp only [Act.put, List.setIfInBounds_toArray, List.set_cons_zero, List.set_cons_succ]
  refine takeP 8 ⟨some 24, .nilCheck (.tmp 23), 0, "batch.go:149", #[⟨7, .data⟩, ⟨5, .guard⟩], some (5, true)⟩ ?_ rfl (by kernel_rfl) (by kernel_rfl) (by kernel_rfl) (by rfl) ?_ ?_
  rotate_left
  · intro w hSw; go_simp; (first | done | with_reducible rfl)
  try simp only [Act.put, List.setIfInBounds_toArray, List.set_cons_zero, List.set_cons_succ]
  refine takeP 9 ⟨some 25, .fieldAddr 24 (.tmp 24) 0, 0, "batch.go:149", #[⟨8, .data⟩, ⟨5, .guard⟩], some (5, true)⟩ ?_ rfl (by kernel_rfl) (by kernel_rfl) (by kernel_rfl) (by rfl) ?_ ?_
  rotate_left
  · intro w hSw; go_simp; (first | done | with_reducible rfl)
  try simp only [Act.put, List.setIfInBounds_toArray, List.set_cons_zero, List.set_cons_succ]
  refine takeB 10 ⟨some 26, .load 3 (.tmp 25), 3, "batch.go:149", #[⟨9, .data⟩, ⟨5, .guard⟩], some (5, true)⟩ (by kernel_rfl) rfl (fun K hK => ?_)
  go_simp
  refine hK.out _ _ trivial (fun hHeld => ?_)
  clear hK K hHeld
  try simp only [Act.put, List.setIfInBounds_toArray, List.set_cons_zero, List.set_cons_succ]
  refine takeP 11 ⟨some 27, .binOp .sub 3 (.const (.int .i64 1099511627776)) (.tmp 26) 3, 3, "batch.go:149", #[⟨10, .data⟩, ⟨5, .guard⟩], some (5, true)⟩ ?_ rfl (by kernel_rfl) (by kernel_rfl) (by kernel_rfl) (by rfl) ?_ ?_
  rotate_left
  · intro w hSw; go_simp; (first | done | with_reducible rfl)
  try simp only [Act.put, List.setIfInBounds_toArray, List.set_cons_zero, List.set_cons_succ]
  refine takeB 12 ⟨some 28, .call { callee := Callee.builtin Builtin.min, args := #[.const (.int .i64 15), .tmp 27], argTypes := #[3, 3] }, 3, "batch.go:149", #[⟨11, .data⟩, ⟨5, .guard⟩], some (5, true)⟩ (by kernel_rfl) rfl (fun K hK => ?_)
  go_simp
  refine hK.out _ _ trivial (fun hHeld => ?_)
  clear hK K hHeld
  try simp only [Act.put, List.setIfInBounds_toArray, List.set_cons_zero, List.set_cons_succ]
  refine takeB 13 ⟨some 29, .call { callee := .value (.tmp 22), args := #[.tmp 5, .const (.int .i64 0), .tmp 28], argTypes := #[72, 3, 3] }, 4, "batch.go:150", #[⟨6, .data⟩, ⟨12, .data⟩, ⟨5, .chain⟩, ⟨5, .guard⟩], some (5, true)⟩ (by kernel_rfl) rfl (fun K hK => ?_)
  go_simp
  generalize HG1 : (if IntKind.i64.wrap (1099511627776 - ba) < 15 then IntKind.i64.wrap (1099511627776 - ba) else 15) = h1
  with_reducible refine (within_any ⟨w.heap.size, 0, none⟩ sp _ _ _ k1 (i1 _ HG1)).mono ?_
  rintro e w9 ⟨rfl, rfl⟩
  dsimp only
  clear HG1
  refine hK.out _ _ trivial (fun hHeld => ?_)
  clear hK K hHeld
  try simp only [Act.put, List.setIfInBounds_toArray, List.set_cons_zero, List.set_cons_succ]
  refine takeP 14 ⟨some 30, .pick (.tmp 21) (.tmp 29) (.const (.bool false)), 4, "batch.go:149", #[⟨5, .data⟩, ⟨13, .data⟩], none⟩ ?_ rfl (by kernel_rfl) (by kernel_rfl) (by kernel_rfl) (by rfl) ?_ ?_
  rotate_left
  · intro w hSw; go_simp; (first | done | with_reducible rfl)
  try simp only [Act.put, List.setIfInBounds_toArray, List.set_cons_zero, List.set_cons_succ]
  refine takeP 15 ⟨some 31, .move (.tmp 30), 4, "batch.go:149", #[⟨14, .data⟩, ⟨13, .chain⟩], none⟩ ?_ rfl (by kernel_rfl) (by kernel_rfl) (by kernel_rfl) (by rfl) ?_ ?_
  rotate_left
  · intro w hSw; go_simp; (first | done | with_reducible rfl)
  try simp only [Act.put, List.setIfInBounds_toArray, List.set_cons_zero, List.set_cons_succ]
  refine takeP 16 ⟨some 32, .move (.tmp 1), 78, "batch.go:149", #[⟨15, .guard⟩], some (15, true)⟩ ?_ rfl (by kernel_rfl) (by kernel_rfl) (by kernel_rfl) (by rfl) ?_ ?_
  rotate_left
  · intro w hSw; go_simp; (first | done | with_reducible rfl)
  try simp only [Act.put, List.setIfInBounds_toArray, List.set_cons_zero, List.set_cons_succ]
  refine takeP 17 ⟨some 33, .move (.tmp 0), 77, "batch.go:149", #[⟨15, .guard⟩], some (15, true)⟩ ?_ rfl (by kernel_rfl) (by kernel_rfl) (by kernel_rfl) (by rfl) ?_ ?_
  rotate_left
  · intro w hSw; go_simp; (first | done | with_reducible rfl)
  try simp only [Act.put, List.setIfInBounds_toArray, List.set_cons_zero, List.set_cons_succ]
  refine takeP 18 ⟨some 34, .nilCheck (.tmp 33), 0, "batch.go:149", #[⟨17, .data⟩, ⟨15, .guard⟩], some (15, true)⟩ ?_ rfl (by kernel_rfl) (by kernel_rfl) (by kernel_rfl) (by rfl) ?_ ?_
  rotate_left
  · intro w hSw; go_simp; (first | done | with_reducible rfl)
  try simp only [Act.put, List.setIfInBounds_toArray, List.set_cons_zero, List.set_cons_succ]
  refine takeP 19 ⟨some 35, .fieldAddr 24 (.tmp 34) 2, 0, "batch.go:149", #[⟨18, .data⟩, ⟨15, .guard⟩], some (15, true)⟩ ?_ rfl (by kernel_rfl) (by kernel_rfl) (by kernel_rfl) (by rfl) ?_ ?_
  rotate_left
  · intro w hSw; go_simp; (first | done | with_reducible rfl)
  try simp only [Act.put, List.setIfInBounds_toArray, List.set_cons_zero, List.set_cons_succ]
  refine takeB 20 ⟨some 36, .load 3 (.tmp 5), 3, "batch.go:149", #[⟨15, .guard⟩], some (15, true)⟩ (by kernel_rfl) rfl (fun K hK => ?_)
  go_simp
  refine hK.out _ _ trivial (fun hHeld => ?_)
  clear hK K hHeld
  try simp only [Act.put, List.setIfInBounds_toArray, List.set_cons_zero, List.set_cons_succ]
  refine takeP 21 ⟨some 37, .binOp .sub 3 (.const (.int .i64 1099511627776)) (.tmp 36) 3, 3, "batch.go:149", #[⟨20, .data⟩, ⟨15, .guard⟩], some (15, true)⟩ ?_ rfl (by kernel_rfl) (by kernel_rfl) (by kernel_rfl) (by rfl) ?_ ?_
  rotate_left
  · intro w hSw; go_simp; (first | done | with_reducible rfl)
  try simp only [Act.put, List.setIfInBounds_toArray, List.set_cons_zero, List.set_cons_succ]
  refine takeB 22 ⟨some 38, .call { callee := .value (.tmp 32), args := #[.tmp 35, .const (.int .i64 0), .tmp 37], argTypes := #[72, 3, 3] }, 4, "batch.go:151", #[⟨16, .data⟩, ⟨19, .data⟩, ⟨21, .data⟩, ⟨15, .chain⟩, ⟨15, .guard⟩], some (15, true)⟩ (by kernel_rfl) rfl (fun K hK => ?_)
  go_simp
  with_reducible refine (within_any ⟨g, 2, none⟩ fr _ _ _ k2 i2).mono ?_
  rintro e w9 ⟨rfl, rfl⟩
  dsimp only
  refine hK.out _ _ trivial (fun hHeld => ?_)
  clear hK K hHeld
  try simp only [Act.put, List.setIfInBounds_toArray, List.set_cons_zero, List.set_cons_succ]
  refine takeP 23 ⟨some 39, .pick (.tmp 31) (.tmp 38) (.const (.bool false)), 4, "batch.go:149", #[⟨15, .data⟩, ⟨22, .data⟩], none⟩ ?_ rfl (by kernel_rfl) (by kernel_rfl) (by kernel_rfl) (by rfl) ?_ ?_
  rotate_left
  · intro w hSw; go_simp; (first | done | with_reducible rfl)
  try simp only [Act.put, List.setIfInBounds_toArray, List.set_cons_zero, List.set_cons_succ]
  refine takeP 24 ⟨some 40, .move (.tmp 39), 4, "batch.go:149", #[⟨23, .data⟩, ⟨22, .chain⟩], none⟩ ?_ rfl (by kernel_rfl) (by kernel_rfl) (by kernel_rfl) (by rfl) ?_ ?_
  rotate_left
  · intro w hSw; go_simp; (first | done | with_reducible rfl)
  try simp only [Act.put, List.setIfInBounds_toArray, List.set_cons_zero, List.set_cons_succ]
  refine takeP 25 ⟨some 41, .move (.tmp 1), 78, "batch.go:149", #[⟨24, .guard⟩], some (24, true)⟩ ?_ rfl (by kernel_rfl) (by kernel_rfl) (by kernel_rfl) (by rfl) ?_ ?_
  rotate_left
  · intro w hSw; go_simp; (first | done | with_reducible rfl)
  try simp only [Act.put, List.setIfInBounds_toArray, List.set_cons_zero, List.set_cons_succ]
  refine takeP 26 ⟨some 42, .move (.tmp 0), 77, "batch.go:149", #[⟨24, .guard⟩], some (24, true)⟩ ?_ rfl (by kernel_rfl) (by kernel_rfl) (by kernel_rfl) (by rfl) ?_ ?_
  rotate_left
  · intro w hSw; go_simp; (first | done | with_reducible rfl)
  try simp only [Act.put, List.setIfInBounds_toArray, List.set_cons_zero, List.set_cons_succ]
  refine takeP 27 ⟨some 43, .nilCheck (.tmp 42), 0, "batch.go:149", #[⟨26, .data⟩, ⟨24, .guard⟩], some (24, true)⟩ ?_ rfl (by kernel_rfl) (by kernel_rfl) (by kernel_rfl) (by rfl) ?_ ?_
  rotate_left
  · intro w hSw; go_simp; (first | done | with_reducible rfl)
  try simp only [Act.put, List.setIfInBounds_toArray, List.set_cons_zero, List.set_cons_succ]
  refine takeP 28 ⟨some 44, .fieldAddr 24 (.tmp 43) 3, 0, "batch.go:149", #[⟨27, .data⟩, ⟨24, .guard⟩], some (24, true)⟩ ?_ rfl (by kernel_rfl) (by kernel_rfl) (by kernel_rfl) (by rfl) ?_ ?_
  rotate_left
  · intro w hSw; go_simp; (first | done | with_reducible rfl)
  try simp only [Act.put, List.setIfInBounds_toArray, List.set_cons_zero, List.set_cons_succ]
  refine takeB 29 ⟨some 45, .call { callee := .value (.tmp 41), args := #[.tmp 44, .const (.int .i64 0), .const (.int .i64 1048576)], argTypes := #[72, 3, 3] }, 4, "batch.go:152", #[⟨25, .data⟩, ⟨28, .data⟩, ⟨24, .chain⟩, ⟨24, .guard⟩], some (24, true)⟩ (by kernel_rfl) rfl (fun K hK => ?_)
  go_simp
  with_reducible refine (within_any ⟨g, 3, none⟩ ep _ _ _ k3 i3).mono ?_
  rintro e w9 ⟨rfl, rfl⟩
  dsimp only
  refine hK.out _ _ trivial (fun hHeld => ?_)
  clear hK K hHeld
  try simp only [Act.put, List.setIfInBounds_toArray, List.set_cons_zero, List.set_cons_succ]
  refine takeP 30 ⟨some 46, .pick (.tmp 40) (.tmp 45) (.const (.bool false)), 4, "batch.go:149", #[⟨24, .data⟩, ⟨29, .data⟩], none⟩ ?_ rfl (by kernel_rfl) (by kernel_rfl) (by kernel_rfl) (by rfl) ?_ ?_
  rotate_left
  · intro w hSw; go_simp; (first | done | with_reducible rfl)
  try simp only [Act.put, List.setIfInBounds_toArray, List.set_cons_zero, List.set_cons_succ]
  refine takeP 31 ⟨some 47, .move (.tmp 46), 4, "batch.go:149", #[⟨30, .data⟩, ⟨29, .chain⟩], none⟩ ?_ rfl (by kernel_rfl) (by kernel_rfl) (by kernel_rfl) (by rfl) ?_ ?_
  rotate_left
  · intro w hSw; go_simp; (first | done | with_reducible rfl)
  try simp only [Act.put, List.setIfInBounds_toArray, List.set_cons_zero, List.set_cons_succ]
  refine takeP 32 ⟨some 48, .move (.tmp 1), 78, "batch.go:149", #[⟨31, .guard⟩], some (31, true)⟩ ?_ rfl (by kernel_rfl) (by kernel_rfl) (by kernel_rfl) (by rfl) ?_ ?_
  rotate_left
  · intro w hSw; go_simp; (first | done | with_reducible rfl)
  try simp only [Act.put, List.setIfInBounds_toArray, List.set_cons_zero, List.set_cons_succ]
  refine takeP 33 ⟨some 49, .move (.tmp 0), 77, "batch.go:149", #[⟨31, .guard⟩], some (31, true)⟩ ?_ rfl (by kernel_rfl) (by kernel_rfl) (by kernel_rfl) (by rfl) ?_ ?_
  rotate_left
  · intro w hSw; go_simp; (first | done | with_reducible rfl)
  try simp only [Act.put, List.setIfInBounds_toArray, List.set_cons_zero, List.set_cons_succ]
  refine takeP 34 ⟨some 50, .nilCheck (.tmp 49), 0, "batch.go:149", #[⟨33, .data⟩, ⟨31, .guard⟩], some (31, true)⟩ ?_ rfl (by kernel_rfl) (by kernel_rfl) (by kernel_rfl) (by rfl) ?_ ?_
  rotate_left
  · intro w hSw; go_simp; (first | done | with_reducible rfl)
  try simp only [Act.put, List.setIfInBounds_toArray, List.set_cons_zero, List.set_cons_succ]
  refine takeP 35 ⟨some 51, .fieldAddr 24 (.tmp 50) 4, 0, "batch.go:149", #[⟨34, .data⟩, ⟨31, .guard⟩], some (31, true)⟩ ?_ rfl (by kernel_rfl) (by kernel_rfl) (by kernel_rfl) (by rfl) ?_ ?_
  rotate_left
  · intro w hSw; go_simp; (first | done | with_reducible rfl)
  try simp only [Act.put, List.setIfInBounds_toArray, List.set_cons_zero, List.set_cons_succ]
  refine takeB 36 ⟨some 52, .call { callee := .value (.tmp 48), args := #[.tmp 51, .const (.int .i64 (-1)), .const (.int .i64 1099511627776)], argTypes := #[72, 3, 3] }, 4, "batch.go:153", #[⟨32, .data⟩, ⟨35, .data⟩, ⟨31, .chain⟩, ⟨31, .guard⟩], some (31, true)⟩ (by kernel_rfl) rfl (fun K hK => ?_)
  go_simp
  with_reducible refine (within_any ⟨g, 4, none⟩ pi _ _ _ k4 i4).mono ?_
  rintro e w9 ⟨rfl, rfl⟩
  dsimp only
  refine hK.out _ _ trivial (fun hHeld => ?_)
  clear hK K hHeld
  try simp only [Act.put, List.setIfInBounds_toArray, List.set_cons_zero, List.set_cons_succ]
  refine takeP 37 ⟨some 53, .pick (.tmp 47) (.tmp 52) (.const (.bool false)), 4, "batch.go:149", #[⟨31, .data⟩, ⟨36, .data⟩], none⟩ ?_ rfl (by kernel_rfl) (by kernel_rfl) (by kernel_rfl) (by rfl) ?_ ?_
  rotate_left
  · intro w hSw; go_simp; (first | done | with_reducible rfl)
  try simp only [Act.put, List.setIfInBounds_toArray, List.set_cons_zero, List.set_cons_succ]
  refine takeP 38 ⟨some 54, .move (.tmp 53), 4, "batch.go:149", #[⟨37, .data⟩, ⟨36, .chain⟩], none⟩ ?_ rfl (by kernel_rfl) (by kernel_rfl) (by kernel_rfl) (by rfl) ?_ ?_
  rotate_left
  · intro w hSw; go_simp; (first | done | with_reducible rfl)
  try simp only [Act.put, List.setIfInBounds_toArray, List.set_cons_zero, List.set_cons_succ]
  refine takeP 39 ⟨some 55, .move (.tmp 1), 78, "batch.go:149", #[⟨38, .guard⟩], some (38, true)⟩ ?_ rfl (by kernel_rfl) (by kernel_rfl) (by kernel_rfl) (by rfl) ?_ ?_
  rotate_left
  · intro w hSw; go_simp; (first | done | with_reducible rfl)
  try simp only [Act.put, List.setIfInBounds_toArray, List.set_cons_zero, List.set_cons_succ]
  refine takeP 40 ⟨some 56, .move (.tmp 0), 77, "batch.go:149", #[⟨38, .guard⟩], some (38, true)⟩ ?_ rfl (by kernel_rfl) (by kernel_rfl) (by kernel_rfl) (by rfl) ?_ ?_
  rotate_left
  · intro w hSw; go_simp; (first | done | with_reducible rfl)
  try simp only [Act.put, List.setIfInBounds_toArray, List.set_cons_zero, List.set_cons_succ]
  refine takeP 41 ⟨some 57, .nilCheck (.tmp 56), 0, "batch.go:149", #[⟨40, .data⟩, ⟨38, .guard⟩], some (38, true)⟩ ?_ rfl (by kernel_rfl) (by kernel_rfl) (by kernel_rfl) (by rfl) ?_ ?_
  rotate_left
  · intro w hSw; go_simp; (first | done | with_reducible rfl)
  try simp only [Act.put, List.setIfInBounds_toArray, List.set_cons_zero, List.set_cons_succ]
  refine takeP 42 ⟨some 58, .fieldAddr 24 (.tmp 57) 5, 0, "batch.go:149", #[⟨41, .data⟩, ⟨38, .guard⟩], some (38, true)⟩ ?_ rfl (by kernel_rfl) (by kernel_rfl) (by kernel_rfl) (by rfl) ?_ ?_
  rotate_left
  · intro w hSw; go_simp; (first | done | with_reducible rfl)
  try simp only [Act.put, List.setIfInBounds_toArray, List.set_cons_zero, List.set_cons_succ]
  refine takeB 43 ⟨some 59, .call { callee := .value (.tmp 55), args := #[.tmp 58, .const (.int .i64 0), .const (.int .i64 1048576)], argTypes := #[72, 3, 3] }, 4, "batch.go:154", #[⟨39, .data⟩, ⟨42, .data⟩, ⟨38, .chain⟩, ⟨38, .guard⟩], some (38, true)⟩ (by kernel_rfl) rfl (fun K hK => ?_)
  go_simp
  with_reducible refine (within_any ⟨g, 5, none⟩ ge _ _ _ k5 i5).mono ?_
  rintro e w9 ⟨rfl, rfl⟩
  dsimp only
  refine hK.out _ _ trivial (fun hHeld => ?_)
  clear hK K hHeld
  try simp only [Act.put, List.setIfInBounds_toArray, List.set_cons_zero, List.set_cons_succ]
  refine takeP 44 ⟨some 60, .pick (.tmp 54) (.tmp 59) (.const (.bool false)), 4, "batch.go:149", #[⟨38, .data⟩, ⟨43, .data⟩], none⟩ ?_ rfl (by kernel_rfl) (by kernel_rfl) (by kernel_rfl) (by rfl) ?_ ?_
  rotate_left
  · intro w hSw; go_simp; (first | done | with_reducible rfl)
  try simp only [Act.put, List.setIfInBounds_toArray, List.set_cons_zero, List.set_cons_succ]
  refine takeP 45 ⟨some 61, .move (.tmp 60), 4, "batch.go:149", #[⟨44, .data⟩, ⟨43, .chain⟩], none⟩ ?_ rfl (by kernel_rfl) (by kernel_rfl) (by kernel_rfl) (by rfl) ?_ ?_
  rotate_left
  · intro w hSw; go_simp; (first | done | with_reducible rfl)
  try simp only [Act.put, List.setIfInBounds_toArray, List.set_cons_zero, List.set_cons_succ]
  refine takeP 46 ⟨some 62, .move (.tmp 1), 78, "batch.go:149", #[⟨45, .guard⟩], some (45, true)⟩ ?_ rfl (by kernel_rfl) (by kernel_rfl) (by kernel_rfl) (by rfl) ?_ ?_
  rotate_left
  · intro w hSw; go_simp; (first | done | with_reducible rfl)
  try simp only [Act.put, List.setIfInBounds_toArray, List.set_cons_zero, List.set_cons_succ]
  refine takeP 47 ⟨some 63, .move (.tmp 0), 77, "batch.go:149", #[⟨45, .guard⟩], some (45, true)⟩ ?_ rfl (by kernel_rfl) (by kernel_rfl) (by kernel_rfl) (by rfl) ?_ ?_
  rotate_left
  · intro w hSw; go_simp; (first | done | with_reducible rfl)
  try simp only [Act.put, List.setIfInBounds_toArray, List.set_cons_zero, List.set_cons_succ]
  refine takeP 48 ⟨some 64, .nilCheck (.tmp 63), 0, "batch.go:149", #[⟨47, .data⟩, ⟨45, .guard⟩], some (45, true)⟩ ?_ rfl (by kernel_rfl) (by kernel_rfl) (by kernel_rfl) (by rfl) ?_ ?_
  rotate_left
  · intro w hSw; go_simp; (first | done | with_reducible rfl)
  try simp only [Act.put, List.setIfInBounds_toArray, List.set_cons_zero, List.set_cons_succ]
  refine takeP 49 ⟨some 65, .fieldAddr 24 (.tmp 64) 6, 0, "batch.go:149", #[⟨48, .data⟩, ⟨45, .guard⟩], some (45, true)⟩ ?_ rfl (by kernel_rfl) (by kernel_rfl) (by kernel_rfl) (by rfl) ?_ ?_
  rotate_left
  · intro w hSw; go_simp; (first | done | with_reducible rfl)
  try simp only [Act.put, List.setIfInBounds_toArray, List.set_cons_zero, List.set_cons_succ]
  refine takeB 50 ⟨some 66, .load 3 (.tmp 5), 3, "batch.go:149", #[⟨45, .guard⟩], some (45, true)⟩ (by kernel_rfl) rfl (fun K hK => ?_)
  go_simp
  refine hK.out _ _ trivial (fun hHeld => ?_)
  clear hK K hHeld
  try simp only [Act.put, List.setIfInBounds_toArray, List.set_cons_zero, List.set_cons_succ]
  refine takeP 51 ⟨some 67, .binOp .sub 3 (.const (.int .i64 1048576)) (.tmp 66) 3, 3, "batch.go:149", #[⟨50, .data⟩, ⟨45, .guard⟩], some (45, true)⟩ ?_ rfl (by kernel_rfl) (by kernel_rfl) (by kernel_rfl) (by rfl) ?_ ?_
  rotate_left
  · intro w hSw; go_simp; (first | done | with_reducible rfl)
  try simp only [Act.put, List.setIfInBounds_toArray, List.set_cons_zero, List.set_cons_succ]
  refine takeB 52 ⟨some 68, .call { callee := .value (.tmp 62), args := #[.tmp 65, .const (.int .i64 0), .tmp 67], argTypes := #[72, 3, 3] }, 4, "batch.go:155", #[⟨46, .data⟩, ⟨49, .data⟩, ⟨51, .data⟩, ⟨45, .chain⟩, ⟨45, .guard⟩], some (45, true)⟩ (by kernel_rfl) rfl (fun K hK => ?_)
  go_simp
  with_reducible refine (within_any ⟨g, 6, none⟩ se _ _ _ k6 i6).mono ?_
  rintro e w9 ⟨rfl, rfl⟩
  dsimp only
  refine hK.out _ _ trivial (fun hHeld => ?_)
  clear hK K hHeld
  try simp only [Act.put, List.setIfInBounds_toArray, List.set_cons_zero, List.set_cons_succ]
  refine takeP 53 ⟨some 69, .pick (.tmp 61) (.tmp 68) (.const (.bool false)), 4, "batch.go:149", #[⟨45, .data⟩, ⟨52, .data⟩], none⟩ ?_ rfl (by kernel_rfl) (by kernel_rfl) (by kernel_rfl) (by rfl) ?_ ?_
  rotate_left
  · intro w hSw; go_simp; (first | done | with_reducible rfl)
  try simp only [Act.put, List.setIfInBounds_toArray, List.set_cons_zero, List.set_cons_succ]
  refine takeP 54 ⟨some 6, .assign (.tmp 69), 4, "batch.go:149", #[⟨53, .data⟩, ⟨52, .chain⟩, ⟨0, .phase⟩, ⟨1, .phase⟩, ⟨2, .phase⟩, ⟨3, .phase⟩, ⟨4, .phase⟩, ⟨5, .phase⟩, ⟨6, .phase⟩, ⟨7, .phase⟩, ⟨8, .phase⟩, ⟨9, .phase⟩, ⟨10, .phase⟩, ⟨11, .phase⟩, ⟨12, .phase⟩, ⟨13, .phase⟩, ⟨14, .phase⟩, ⟨15, .phase⟩, ⟨16, .phase⟩, ⟨17, .phase⟩, ⟨18, .phase⟩, ⟨19, .phase⟩, ⟨20, .phase⟩, ⟨21, .phase⟩, ⟨22, .phase⟩, ⟨23, .phase⟩, ⟨24, .phase⟩, ⟨25, .phase⟩, ⟨26, .phase⟩, ⟨27, .phase⟩, ⟨28, .phase⟩, ⟨29, .phase⟩, ⟨30, .phase⟩, ⟨31, .phase⟩, ⟨32, .phase⟩, ⟨33, .phase⟩, ⟨34, .phase⟩, ⟨35, .phase⟩, ⟨36, .phase⟩, ⟨37, .phase⟩, ⟨38, .phase⟩, ⟨39, .phase⟩, ⟨40, .phase⟩, ⟨41, .phase⟩, ⟨42, .phase⟩, ⟨43, .phase⟩, ⟨44, .phase⟩, ⟨45, .phase⟩, ⟨46, .phase⟩, ⟨47, .phase⟩, ⟨48, .phase⟩, ⟨49, .phase⟩, ⟨50, .phase⟩, ⟨51, .phase⟩, ⟨52, .phase⟩, ⟨53, .phase⟩], none⟩ ?_ rfl (by kernel_rfl) (by kernel_rfl) (by kernel_rfl) (by rfl) ?_ ?_
  rotate_left
  · intro w hSw; go_simp; (first | done | with_reducible rfl)
  try simp only [Act.put, List.setIfInBounds_toArray, List.set_cons_zero, List.set_cons_succ]
  refine wpAnyH_done (by kernel_rfl) ?_ _
  go_wp2
  go_region
  go_wp2
  go_ret
  exact ⟨rfl, rfl⟩
set_option maxRecDepth 100000 in
set_option maxHeartbeats 8000000 in
theorem each_E1b7 (g : Nat) (ba la sp fr ep pi ge se : Int) (w : World) (hg : g < w.heap.size) (fz : w.frozen? ⟨g, 1, none⟩ = false) (c1 : w.cell? ⟨g, 1, none⟩ = some (.int .i64 la)) (c0 : w.cell? ⟨g, 0, none⟩ = some (.int .i64 ba)) (hsp : IntKind.i64.wrap (la - ba) = sp) (i0 : inL ba 0 1099511627776 = true) (i1 : ∀ h, (if IntKind.i64.wrap (1099511627776 - ba) < 15 then IntKind.i64.wrap (1099511627776 - ba) else 15) = h → inL sp 0 h = true) (c2 : w.cell? ⟨g, 2, none⟩ = some (.int .i64 fr)) (i2 : inL fr 0 (IntKind.i64.wrap (1099511627776 - sp)) = true) (c3 : w.cell? ⟨g, 3, none⟩ = some (.int .i64 ep)) (i3 : inL ep 0 1048576 = true) (c4 : w.cell? ⟨g, 4, none⟩ = some (.int .i64 pi)) (i4 : inL pi (-1) 1099511627776 = true) (c5 : w.cell? ⟨g, 5, none⟩ = some (.int .i64 ge)) (i5 : inL ge 0 1048576 = true) (c6 : w.cell? ⟨g, 6, none⟩ = some (.int .i64 se)) (i6 : inL se 0 (IntKind.i64.wrap (1048576 - sp)) = true) :
    Calls Tryd.prog 60 #[.pointer (some ⟨g, 0, none⟩), .func (.func 68) #[] #[]] w fun e w2 => e = .returned (.bool true) ∧ ((w.setCell ⟨g, 1, none⟩ (.int .i64 (wrap64 (ba + sp)))).alloc (.cells #[.int .i64 sp] 3)).drew.drew.drew = w2 := by
  have k0 : (w.alloc (.cells #[.int .i64 sp] 3)).drew.drew.cell? ⟨g, 0, none⟩ = some (.int .i64 ba) := by simp [go_sem, c0, hg]
  have k1 : (w.alloc (.cells #[.int .i64 sp] 3)).drew.drew.cell? ⟨w.heap.size, 0, none⟩ = some (.int .i64 sp) := by simp [go_sem]
  have k2 : (w.alloc (.cells #[.int .i64 sp] 3)).drew.drew.cell? ⟨g, 2, none⟩ = some (.int .i64 fr) := by simp [go_sem, c2, hg]
  have k3 : (w.alloc (.cells #[.int .i64 sp] 3)).drew.drew.cell? ⟨g, 3, none⟩ = some (.int .i64 ep) := by simp [go_sem, c3, hg]
  have k4 : (w.alloc (.cells #[.int .i64 sp] 3)).drew.drew.cell? ⟨g, 4, none⟩ = some (.int .i64 pi) := by simp [go_sem, c4, hg]
  have k5 : (w.alloc (.cells #[.int .i64 sp] 3)).drew.drew.cell? ⟨g, 5, none⟩ = some (.int .i64 ge) := by simp [go_sem, c5, hg]
  have k6 : (w.alloc (.cells #[.int .i64 sp] 3)).drew.drew.cell? ⟨g, 6, none⟩ = some (.int .i64 se) := by simp [go_sem, c6, hg]
  go_enter Tryd.func60, Tryd.ntmps60
  go_wp2
  go_region
  go_wp2
  refine wp_region_held_drew (S := fun _ => True) (by kernel_rfl) trivial (fun hHeld => ?_)
  clear hHeld
  refine takeP 0 ⟨some 16, .move (.tmp 1), 78, "batch.go:149", #[], none⟩ ?_ rfl (by kernel_rfl) (by kernel_rfl) (by kernel_rfl) (by rfl) ?_ ?_
  rotate_left
  · intro w hSw; go_simp; (first | done | with_reducible rfl)
  try simp only [Act.put, List.setIfInBounds_toArray, List.set_cons_zero, List.set_cons_succ]
  refine takeP 1 ⟨some 17, .move (.tmp 0), 77, "batch.go:149", #[], none⟩ ?_ rfl (by kernel_rfl) (by kernel_rfl) (by kernel_rfl) (by rfl) ?_ ?_
  rotate_left
  · intro w hSw; go_simp; (first | done | with_reducible rfl)
  try simp only [Act.put, List.setIfInBounds_toArray, List.set_cons_zero, List.set_cons_succ]
  refine takeP 2 ⟨some 18, .nilCheck (.tmp 17), 0, "batch.go:149", #[⟨1, .data⟩], none⟩ ?_ rfl (by kernel_rfl) (by kernel_rfl) (by kernel_rfl) (by rfl) ?_ ?_
  rotate_left
  · intro w hSw; go_simp; (first | done | with_reducible rfl)
  try simp only [Act.put, List.setIfInBounds_toArray, List.set_cons_zero, List.set_cons_succ]
  refine takeP 3 ⟨some 19, .fieldAddr 24 (.tmp 18) 0, 0, "batch.go:149", #[⟨2, .data⟩], none⟩ ?_ rfl (by kernel_rfl) (by kernel_rfl) (by kernel_rfl) (by rfl) ?_ ?_
  rotate_left
  · intro w hSw; go_simp; (first | done | with_reducible rfl)
  try simp only [Act.put, List.setIfInBounds_toArray, List.set_cons_zero, List.set_cons_succ]
  refine takeB 4 ⟨some 20, .call { callee := .value (.tmp 16), args := #[.tmp 19, .const (.int .i64 0), .const (.int .i64 1099511627776)], argTypes := #[72, 3, 3] }, 4, "batch.go:149", #[⟨0, .data⟩, ⟨3, .data⟩], none⟩ (by kernel_rfl) rfl (fun K hK => ?_)
  go_simp
  with_reducible refine (within_any ⟨g, 0, none⟩ ba _ _ _ k0 i0).mono ?_
  rintro e w9 ⟨rfl, rfl⟩
  dsimp only
  refine hK.out _ _ trivial (fun hHeld => ?_)
  clear hK K hHeld
  try simp only [Act.put, List.setIfInBounds_toArray, List.set_cons_zero, List.set_cons_succ]
  refine takeP 5 ⟨some 21, .move (.tmp 20), 4, "batch.go:149", #[⟨4, .data⟩, ⟨4, .chain⟩], none⟩ ?_ rfl (by kernel_rfl) (by kernel_rfl) (by kernel_rfl) (by rfl) ?_ ?_
  rotate_left
  · intro w hSw; go_simp; (first | done | with_reducible rfl)
  try simp only [Act.put, List.setIfInBounds_toArray, List.set_cons_zero, List.set_cons_succ]
  refine takeP 6 ⟨some 22, .move (.tmp 1), 78, "batch.go:149", #[⟨5, .guard⟩], some (5, true)⟩ ?_ rfl (by kernel_rfl) (by kernel_rfl) (by kernel_rfl) (by rfl) ?_ ?_
  rotate_left
  · intro w hSw; go_simp; (first | done | with_reducible rfl)
  try simp only [Act.put, List.setIfInBounds_toArray, List.set_cons_zero, List.set_cons_succ]
  refine takeP 7 ⟨some 23, .move (.tmp 0), 77, "batch.go:149", #[⟨5, .guard⟩], some (5, true)⟩ ?_ rfl (by kernel_rfl) (by kernel_rfl) (by kernel_rfl) (by rfl) ?_ ?_
  rotate_left
  · intro w hSw; go_simp; (first | done | with_reducible rfl)
  try simp only [Act.put, List.setIfInBounds_toArray, List.set_cons_zero, List.set_cons_succ]
  refine takeP 8 ⟨some 24, .nilCheck (.tmp 23), 0, "batch.go:149", #[⟨7, .data⟩, ⟨5, .guard⟩], some (5, true)⟩ ?_ rfl (by kernel_rfl) (by kernel_rfl) (by kernel_rfl) (by rfl) ?_ ?_
  rotate_left
  · intro w hSw; go_simp; (first | done | with_reducible rfl)
  try simp only [Act.put, List.setIfInBounds_toArray, List.set_cons_zero, List.set_cons_succ]
  refine takeP 9 ⟨some 25, .fieldAddr 24 (.tmp 24) 0, 0, "batch.go:149", #[⟨8, .data⟩, ⟨5, .guard⟩], some (5, true)⟩ ?_ rfl (by kernel_rfl) (by kernel_rfl) (by kernel_rfl) (by rfl) ?_ ?_
  rotate_left
  · intro w hSw; go_simp; (first | done | with_reducible rfl)
  try simp only [Act.put, List.setIfInBounds_toArray, List.set_cons_zero, List.set_cons_succ]
  refine takeB 10 ⟨some 26, .load 3 (.tmp 25), 3, "batch.go:149", #[⟨9, .data⟩, ⟨5, .guard⟩], some (5, true)⟩ (by kernel_rfl) rfl (fun K hK => ?_)
  go_simp
  refine hK.out _ _ trivial (fun hHeld => ?_)
  clear hK K hHeld
  try simp only [Act.put, List.setIfInBounds_toArray, List.set_cons_zero, List.set_cons_succ]
  refine takeP 11 ⟨some 27, .binOp .sub 3 (.const (.int .i64 1099511627776)) (.tmp 26) 3, 3, "batch.go:149", #[⟨10, .data⟩, ⟨5, .guard⟩], some (5, true)⟩ ?_ rfl (by kernel_rfl) (by kernel_rfl) (by kernel_rfl) (by rfl) ?_ ?_
  rotate_left
  · intro w hSw; go_simp; (first | done | with_reducible rfl)
  try simp only [Act.put, List.setIfInBounds_toArray, List.set_cons_zero, List.set_cons_succ]
  refine takeB 12 ⟨some 28, .call { callee := Callee.builtin Builtin.min, args := #[.const (.int .i64 15), .tmp 27], argTypes := #[3, 3] }, 3, "batch.go:149", #[⟨11, .data⟩, ⟨5, .guard⟩], some (5, true)⟩ (by kernel_rfl) rfl (fun K hK => ?_)
  go_simp
  refine hK.out _ _ trivial (fun hHeld => ?_)
  clear hK K hHeld
  try simp only [Act.put, List.setIfInBounds_toArray, List.set_cons_zero, List.set_cons_succ]
  refine takeB 13 ⟨some 29, .call { callee := .value (.tmp 22), args := #[.tmp 5, .const (.int .i64 0), .tmp 28], argTypes := #[72, 3, 3] }, 4, "batch.go:150", #[⟨6, .data⟩, ⟨12, .data⟩, ⟨5, .chain⟩, ⟨5, .guard⟩], some (5, true)⟩ (by kernel_rfl) rfl (fun K hK => ?_)
  go_simp
  generalize HG1 : (if IntKind.i64.wrap (1099511627776 - ba) < 15 then IntKind.i64.wrap (1099511627776 - ba) else 15) = h1
  with_reducible refine (within_any ⟨w.heap.size, 0, none⟩ sp _ _ _ k1 (i1 _ HG1)).mono ?_
  rintro e w9 ⟨rfl, rfl⟩
  dsimp only
  clear HG1
  refine hK.out _ _ trivial (fun hHeld => ?_)
  clear hK K hHeld
  try simp only [Act.put, List.setIfInBounds_toArray, List.set_cons_zero, List.set_cons_succ]
  refine takeP 14 ⟨some 30, .pick (.tmp 21) (.tmp 29) (.const (.bool false)), 4, "batch.go:149", #[⟨5, .data⟩, ⟨13, .data⟩], none⟩ ?_ rfl (by kernel_rfl) (by kernel_rfl) (by kernel_rfl) (by rfl) ?_ ?_
  rotate_left
  · intro w hSw; go_simp; (first | done | with_reducible rfl)
  try simp only [Act.put, List.setIfInBounds_toArray, List.set_cons_zero, List.set_cons_succ]
  refine takeP 15 ⟨some 31, .move (.tmp 30), 4, "batch.go:149", #[⟨14, .data⟩, ⟨13, .chain⟩], none⟩ ?_ rfl (by kernel_rfl) (by kernel_rfl) (by kernel_rfl) (by rfl) ?_ ?_
  rotate_left
  · intro w hSw; go_simp; (first | done | with_reducible rfl)
  try simp only [Act.put, List.setIfInBounds_toArray, List.set_cons_zero, List.set_cons_succ]
  refine takeP 16 ⟨some 32, .move (.tmp 1), 78, "batch.go:149", #[⟨15, .guard⟩], some (15, true)⟩ ?_ rfl (by kernel_rfl) (by kernel_rfl) (by kernel_rfl) (by rfl) ?_ ?_
  rotate_left
  · intro w hSw; go_simp; (first | done | with_reducible rfl)
  try simp only [Act.put, List.setIfInBounds_toArray, List.set_cons_zero, List.set_cons_succ]
  refine takeP 17 ⟨some 33, .move (.tmp 0), 77, "batch.go:149", #[⟨15, .guard⟩], some (15, true)⟩ ?_ rfl (by kernel_rfl) (by kernel_rfl) (by kernel_rfl) (by rfl) ?_ ?_
  rotate_left
  · intro w hSw; go_simp; (first | done | with_reducible rfl)
  try simp only [Act.put, List.setIfInBounds_toArray, List.set_cons_zero, List.set_cons_succ]
  refine takeP 18 ⟨some 34, .nilCheck (.tmp 33), 0, "batch.go:149", #[⟨17, .data⟩, ⟨15, .guard⟩], some (15, true)⟩ ?_ rfl (by kernel_rfl) (by kernel_rfl) (by kernel_rfl) (by rfl) ?_ ?_
  rotate_left
  · intro w hSw; go_simp; (first | done | with_reducible rfl)
  try simp only [Act.put, List.setIfInBounds_toArray, List.set_cons_zero, List.set_cons_succ]
  refine takeP 19 ⟨some 35, .fieldAddr 24 (.tmp 34) 2, 0, "batch.go:149", #[⟨18, .data⟩, ⟨15, .guard⟩], some (15, true)⟩ ?_ rfl (by kernel_rfl) (by kernel_rfl) (by kernel_rfl) (by rfl) ?_ ?_
  rotate_left
  · intro w hSw; go_simp; (first | done | with_reducible rfl)
  try simp only [Act.put, List.setIfInBounds_toArray, List.set_cons_zero, List.set_cons_succ]
  refine takeB 20 ⟨some 36, .load 3 (.tmp 5), 3, "batch.go:149", #[⟨15, .guard⟩], some (15, true)⟩ (by kernel_rfl) rfl (fun K hK => ?_)
  go_simp
  refine hK.out _ _ trivial (fun hHeld => ?_)
  clear hK K hHeld
  try simp only [Act.put, List.setIfInBounds_toArray, List.set_cons_zero, List.set_cons_succ]
  refine takeP 21 ⟨some 37, .binOp .sub 3 (.const (.int .i64 1099511627776)) (.tmp 36) 3, 3, "batch.go:149", #[⟨20, .data⟩, ⟨15, .guard⟩], some (15, true)⟩ ?_ rfl (by kernel_rfl) (by kernel_rfl) (by kernel_rfl) (by rfl) ?_ ?_
  rotate_left
  · intro w hSw; go_simp; (first | done | with_reducible rfl)
  try simp only [Act.put, List.setIfInBounds_toArray, List.set_cons_zero, List.set_cons_succ]
  refine takeB 22 ⟨some 38, .call { callee := .value (.tmp 32), args := #[.tmp 35, .const (.int .i64 0), .tmp 37], argTypes := #[72, 3, 3] }, 4, "batch.go:151", #[⟨16, .data⟩, ⟨19, .data⟩, ⟨21, .data⟩, ⟨15, .chain⟩, ⟨15, .guard⟩], some (15, true)⟩ (by kernel_rfl) rfl (fun K hK => ?_)
  go_simp
  with_reducible refine (within_any ⟨g, 2, none⟩ fr _ _ _ k2 i2).mono ?_
  rintro e w9 ⟨rfl, rfl⟩
  dsimp only
  refine hK.out _ _ trivial (fun hHeld => ?_)
  clear hK K hHeld
  try simp only [Act.put, List.setIfInBounds_toArray, List.set_cons_zero, List.set_cons_succ]
  refine takeP 23 ⟨some 39, .pick (.tmp 31) (.tmp 38) (.const (.bool false)), 4, "batch.go:149", #[⟨15, .data⟩, ⟨22, .data⟩], none⟩ ?_ rfl (by kernel_rfl) (by kernel_rfl) (by kernel_rfl) (by rfl) ?_ ?_
  rotate_left
  · intro w hSw; go_simp; (first | done | with_reducible rfl)
  try simp only [Act.put, List.setIfInBounds_toArray, List.set_cons_zero, List.set_cons_succ]
  refine takeP 24 ⟨some 40, .move (.tmp 39), 4, "batch.go:149", #[⟨23, .data⟩, ⟨22, .chain⟩], none⟩ ?_ rfl (by kernel_rfl) (by kernel_rfl) (by kernel_rfl) (by rfl) ?_ ?_
  rotate_left
  · intro w hSw; go_simp; (first | done | with_reducible rfl)
  try simp only [Act.put, List.setIfInBounds_toArray, List.set_cons_zero, List.set_cons_succ]
  refine takeP 25 ⟨some 41, .move (.tmp 1), 78, "batch.go:149", #[⟨24, .guard⟩], some (24, true)⟩ ?_ rfl (by kernel_rfl) (by kernel_rfl) (by kernel_rfl) (by rfl) ?_ ?_
  rotate_left
  · intro w hSw; go_simp; (first | done | with_reducible rfl)
  try simp only [Act.put, List.setIfInBounds_toArray, List.set_cons_zero, List.set_cons_succ]
  refine takeP 26 ⟨some 42, .move (.tmp 0), 77, "batch.go:149", #[⟨24, .guard⟩], some (24, true)⟩ ?_ rfl (by kernel_rfl) (by kernel_rfl) (by kernel_rfl) (by rfl) ?_ ?_
  rotate_left
  · intro w hSw; go_simp; (first | done | with_reducible rfl)
  try simp only [Act.put, List.setIfInBounds_toArray, List.set_cons_zero, List.set_cons_succ]
  refine takeP 27 ⟨some 43, .nilCheck (.tmp 42), 0, "batch.go:149", #[⟨26, .data⟩, ⟨24, .guard⟩], some (24, true)⟩ ?_ rfl (by kernel_rfl) (by kernel_rfl) (by kernel_rfl) (by rfl) ?_ ?_
  rotate_left
  · intro w hSw; go_simp; (first | done | with_reducible rfl)
  try simp only [Act.put, List.setIfInBounds_toArray, List.set_cons_zero, List.set_cons_succ]
  refine takeP 28 ⟨some 44, .fieldAddr 24 (.tmp 43) 3, 0, "batch.go:149", #[⟨27, .data⟩, ⟨24, .guard⟩], some (24, true)⟩ ?_ rfl (by kernel_rfl) (by kernel_rfl) (by kernel_rfl) (by rfl) ?_ ?_
  rotate_left
  · intro w hSw; go_simp; (first | done | with_reducible rfl)
  try simp only [Act.put, List.setIfInBounds_toArray, List.set_cons_zero, List.set_cons_succ]
  refine takeB 29 ⟨some 45, .call { callee := .value (.tmp 41), args := #[.tmp 44, .const (.int .i64 0), .const (.int .i64 1048576)], argTypes := #[72, 3, 3] }, 4, "batch.go:152", #[⟨25, .data⟩, ⟨28, .data⟩, ⟨24, .chain⟩, ⟨24, .guard⟩], some (24, true)⟩ (by kernel_rfl) rfl (fun K hK => ?_)
  go_simp
  with_reducible refine (within_any ⟨g, 3, none⟩ ep _ _ _ k3 i3).mono ?_
  rintro e w9 ⟨rfl, rfl⟩
  dsimp only
  refine hK.out _ _ trivial (fun hHeld => ?_)
  clear hK K hHeld
  try simp only [Act.put, List.setIfInBounds_toArray, List.set_cons_zero, List.set_cons_succ]
  refine takeP 30 ⟨some 46, .pick (.tmp 40) (.tmp 45) (.const (.bool false)), 4, "batch.go:149", #[⟨24, .data⟩, ⟨29, .data⟩], none⟩ ?_ rfl (by kernel_rfl) (by kernel_rfl) (by kernel_rfl) (by rfl) ?_ ?_
  rotate_left
  · intro w hSw; go_simp; (first | done | with_reducible rfl)
  try simp only [Act.put, List.setIfInBounds_toArray, List.set_cons_zero, List.set_cons_succ]
  refine takeP 31 ⟨some 47, .move (.tmp 46), 4, "batch.go:149", #[⟨30, .data⟩, ⟨29, .chain⟩], none⟩ ?_ rfl (by kernel_rfl) (by kernel_rfl) (by kernel_rfl) (by rfl) ?_ ?_
  rotate_left
  · intro w hSw; go_simp; (first | done | with_reducible rfl)
  try simp only [Act.put, List.setIfInBounds_toArray, List.set_cons_zero, List.set_cons_succ]
  refine takeP 32 ⟨some 48, .move (.tmp 1), 78, "batch.go:149", #[⟨31, .guard⟩], some (31, true)⟩ ?_ rfl (by kernel_rfl) (by kernel_rfl) (by kernel_rfl) (by rfl) ?_ ?_
  rotate_left
  · intro w hSw; go_simp; (first | done | with_reducible rfl)
  try simp only [Act.put, List.setIfInBounds_toArray, List.set_cons_zero, List.set_cons_succ]
  refine takeP 33 ⟨some 49, .move (.tmp 0), 77, "batch.go:149", #[⟨31, .guard⟩], some (31, true)⟩ ?_ rfl (by kernel_rfl) (by kernel_rfl) (by kernel_rfl) (by rfl) ?_ ?_
  rotate_left
  · intro w hSw; go_simp; (first | done | with_reducible rfl)
  try simp only [Act.put, List.setIfInBounds_toArray, List.set_cons_zero, List.set_cons_succ]
  refine takeP 34 ⟨some 50, .nilCheck (.tmp 49), 0, "batch.go:149", #[⟨33, .data⟩, ⟨31, .guard⟩], some (31, true)⟩ ?_ rfl (by kernel_rfl) (by kernel_rfl) (by kernel_rfl) (by rfl) ?_ ?_
  rotate_left
  · intro w hSw; go_simp; (first | done | with_reducible rfl)
  try simp only [Act.put, List.setIfInBounds_toArray, List.set_cons_zero, List.set_cons_succ]
  refine takeP 35 ⟨some 51, .fieldAddr 24 (.tmp 50) 4, 0, "batch.go:149", #[⟨34, .data⟩, ⟨31, .guard⟩], some (31, true)⟩ ?_ rfl (by kernel_rfl) (by kernel_rfl) (by kernel_rfl) (by rfl) ?_ ?_
  rotate_left
  · intro w hSw; go_simp; (first | done | with_reducible rfl)
  try simp only [Act.put, List.setIfInBounds_toArray, List.set_cons_zero, List.set_cons_succ]
  refine takeB 36 ⟨some 52, .call { callee := .value (.tmp 48), args := #[.tmp 51, .const (.int .i64 (-1)), .const (.int .i64 1099511627776)], argTypes := #[72, 3, 3] }, 4, "batch.go:153", #[⟨32, .data⟩, ⟨35, .data⟩, ⟨31, .chain⟩, ⟨31, .guard⟩], some (31, true)⟩ (by kernel_rfl) rfl (fun K hK => ?_)
  go_simp
  with_reducible refine (within_any ⟨g, 4, none⟩ pi _ _ _ k4 i4).mono ?_
  rintro e w9 ⟨rfl, rfl⟩
  dsimp only
  refine hK.out _ _ trivial (fun hHeld => ?_)
  clear hK K hHeld
  try simp only [Act.put, List.setIfInBounds_toArray, List.set_cons_zero, List.set_cons_succ]
  refine takeP 37 ⟨some 53, .pick (.tmp 47) (.tmp 52) (.const (.bool false)), 4, "batch.go:149", #[⟨31, .data⟩, ⟨36, .data⟩], none⟩ ?_ rfl (by kernel_rfl) (by kernel_rfl) (by kernel_rfl) (by rfl) ?_ ?_
  rotate_left
  · intro w hSw; go_simp; (first | done | with_reducible rfl)
  try simp only [Act.put, List.setIfInBounds_toArray, List.set_cons_zero, List.set_cons_succ]
  refine takeP 38 ⟨some 54, .move (.tmp 53), 4, "batch.go:149", #[⟨37, .data⟩, ⟨36, .chain⟩], none⟩ ?_ rfl (by kernel_rfl) (by kernel_rfl) (by kernel_rfl) (by rfl) ?_ ?_
  rotate_left
  · intro w hSw; go_simp; (first | done | with_reducible rfl)
  try simp only [Act.put, List.setIfInBounds_toArray, List.set_cons_zero, List.set_cons_succ]
  refine takeP 39 ⟨some 55, .move (.tmp 1), 78, "batch.go:149", #[⟨38, .guard⟩], some (38, true)⟩ ?_ rfl (by kernel_rfl) (by kernel_rfl) (by kernel_rfl) (by rfl) ?_ ?_
  rotate_left
  · intro w hSw; go_simp; (first | done | with_reducible rfl)
  try simp only [Act.put, List.setIfInBounds_toArray, List.set_cons_zero, List.set_cons_succ]
  refine takeP 40 ⟨some 56, .move (.tmp 0), 77, "batch.go:149", #[⟨38, .guard⟩], some (38, true)⟩ ?_ rfl (by kernel_rfl) (by kernel_rfl) (by kernel_rfl) (by rfl) ?_ ?_
  rotate_left
  · intro w hSw; go_simp; (first | done | with_reducible rfl)
  try simp only [Act.put, List.setIfInBounds_toArray, List.set_cons_zero, List.set_cons_succ]
  refine takeP 41 ⟨some 57, .nilCheck (.tmp 56), 0, "batch.go:149", #[⟨40, .data⟩, ⟨38, .guard⟩], some (38, true)⟩ ?_ rfl (by kernel_rfl) (by kernel_rfl) (by kernel_rfl) (by rfl) ?_ ?_
  rotate_left
  · intro w hSw; go_simp; (first | done | with_reducible rfl)
  try simp only [Act.put, List.setIfInBounds_toArray, List.set_cons_zero, List.set_cons_succ]
  refine takeP 42 ⟨some 58, .fieldAddr 24 (.tmp 57) 5, 0, "batch.go:149", #[⟨41, .data⟩, ⟨38, .guard⟩], some (38, true)⟩ ?_ rfl (by kernel_rfl) (by kernel_rfl) (by kernel_rfl) (by rfl) ?_ ?_
  rotate_left
  · intro w hSw; go_simp; (first | done | with_reducible rfl)
  try simp only [Act.put, List.setIfInBounds_toArray, List.set_cons_zero, List.set_cons_succ]
  refine takeB 43 ⟨some 59, .call { callee := .value (.tmp 55), args := #[.tmp 58, .const (.int .i64 0), .const (.int .i64 1048576)], argTypes := #[72, 3, 3] }, 4, "batch.go:154", #[⟨39, .data⟩, ⟨42, .data⟩, ⟨38, .chain⟩, ⟨38, .guard⟩], some (38, true)⟩ (by kernel_rfl) rfl (fun K hK => ?_)
  go_simp
  with_reducible refine (within_any ⟨g, 5, none⟩ ge _ _ _ k5 i5).mono ?_
  rintro e w9 ⟨rfl, rfl⟩
  dsimp only
  refine hK.out _ _ trivial (fun hHeld => ?_)
  clear hK K hHeld
  try simp only [Act.put, List.setIfInBounds_toArray, List.set_cons_zero, List.set_cons_succ]
  refine takeP 44 ⟨some 60, .pick (.tmp 54) (.tmp 59) (.const (.bool false)), 4, "batch.go:149", #[⟨38, .data⟩, ⟨43, .data⟩], none⟩ ?_ rfl (by kernel_rfl) (by kernel_rfl) (by kernel_rfl) (by rfl) ?_ ?_
  rotate_left
  · intro w hSw; go_simp; (first | done | with_reducible rfl)
  try simp only [Act.put, List.setIfInBounds_toArray, List.set_cons_zero, List.set_cons_succ]
  refine takeP 45 ⟨some 61, .move (.tmp 60), 4, "batch.go:149", #[⟨44, .data⟩, ⟨43, .chain⟩], none⟩ ?_ rfl (by kernel_rfl) (by kernel_rfl) (by kernel_rfl) (by rfl) ?_ ?_
  rotate_left
  · intro w hSw; go_simp; (first | done | with_reducible rfl)
  try simp only [Act.put, List.setIfInBounds_toArray, List.set_cons_zero, List.set_cons_succ]
  refine takeP 46 ⟨some 62, .move (.tmp 1), 78, "batch.go:149", #[⟨45, .guard⟩], some (45, true)⟩ ?_ rfl (by kernel_rfl) (by kernel_rfl) (by kernel_rfl) (by rfl) ?_ ?_
  rotate_left
  · intro w hSw; go_simp; (first | done | with_reducible rfl)
  try simp only [Act.put, List.setIfInBounds_toArray, List.set_cons_zero, List.set_cons_succ]
  refine takeP 47 ⟨some 63, .move (.tmp 0), 77, "batch.go:149", #[⟨45, .guard⟩], some (45, true)⟩ ?_ rfl (by kernel_rfl) (by kernel_rfl) (by kernel_rfl) (by rfl) ?_ ?_
  rotate_left
  · intro w hSw; go_simp; (first | done | with_reducible rfl)
  try simp only [Act.put, List.setIfInBounds_toArray, List.set_cons_zero, List.set_cons_succ]
  refine takeP 48 ⟨some 64, .nilCheck (.tmp 63), 0, "batch.go:149", #[⟨47, .data⟩, ⟨45, .guard⟩], some (45, true)⟩ ?_ rfl (by kernel_rfl) (by kernel_rfl) (by kernel_rfl) (by rfl) ?_ ?_
  rotate_left
  · intro w hSw; go_simp; (first | done | with_reducible rfl)
  try simp only [Act.put, List.setIfInBounds_toArray, List.set_cons_zero, List.set_cons_succ]
  refine takeP 49 ⟨some 65, .fieldAddr 24 (.tmp 64) 6, 0, "batch.go:149", #[⟨48, .data⟩, ⟨45, .guard⟩], some (45, true)⟩ ?_ rfl (by kernel_rfl) (by kernel_rfl) (by kernel_rfl) (by rfl) ?_ ?_
  rotate_left
  · intro w hSw; go_simp; (first | done | with_reducible rfl)
  try simp only [Act.put, List.setIfInBounds_toArray, List.set_cons_zero, List.set_cons_succ]
  refine takeB 50 ⟨some 66, .load 3 (.tmp 5), 3, "batch.go:149", #[⟨45, .guard⟩], some (45, true)⟩ (by kernel_rfl) rfl (fun K hK => ?_)
  go_simp
  refine hK.out _ _ trivial (fun hHeld => ?_)
  clear hK K hHeld
  try simp only [Act.put, List.setIfInBounds_toArray, List.set_cons_zero, List.set_cons_succ]
  refine takeP 51 ⟨some 67, .binOp .sub 3 (.const (.int .i64 1048576)) (.tmp 66) 3, 3, "batch.go:149", #[⟨50, .data⟩, ⟨45, .guard⟩], some (45, true)⟩ ?_ rfl (by kernel_rfl) (by kernel_rfl) (by kernel_rfl) (by rfl) ?_ ?_
  rotate_left
  · intro w hSw; go_simp; (first | done | with_reducible rfl)
  try simp only [Act.put, List.setIfInBounds_toArray, List.set_cons_zero, List.set_cons_succ]
  refine takeB 52 ⟨some 68, .call { callee := .value (.tmp 62), args := #[.tmp 65, .const (.int .i64 0), .tmp 67], argTypes := #[72, 3, 3] }, 4, "batch.go:155", #[⟨46, .data⟩, ⟨49, .data⟩, ⟨51, .data⟩, ⟨45, .chain⟩, ⟨45, .guard⟩], some (45, true)⟩ (by kernel_rfl) rfl (fun K hK => ?_)
  go_simp
  with_reducible refine (within_any ⟨g, 6, none⟩ se _ _ _ k6 i6).mono ?_
  rintro e w9 ⟨rfl, rfl⟩
  dsimp only
  refine hK.out _ _ trivial (fun hHeld => ?_)
  clear hK K hHeld
  try simp only [Act.put, List.setIfInBounds_toArray, List.set_cons_zero, List.set_cons_succ]
  refine takeP 53 ⟨some 69, .pick (.tmp 61) (.tmp 68) (.const (.bool false)), 4, "batch.go:149", #[⟨45, .data⟩, ⟨52, .data⟩], none⟩ ?_ rfl (by kernel_rfl) (by kernel_rfl) (by kernel_rfl) (by rfl) ?_ ?_
  rotate_left
  · intro w hSw; go_simp; (first | done | with_reducible rfl)
  try simp only [Act.put, List.setIfInBounds_toArray, List.set_cons_zero, List.set_cons_succ]
  refine takeP 54 ⟨some 6, .assign (.tmp 69), 4, "batch.go:149", #[⟨53, .data⟩, ⟨52, .chain⟩, ⟨0, .phase⟩, ⟨1, .phase⟩, ⟨2, .phase⟩, ⟨3, .phase⟩, ⟨4, .phase⟩, ⟨5, .phase⟩, ⟨6, .phase⟩, ⟨7, .phase⟩, ⟨8, .phase⟩, ⟨9, .phase⟩, ⟨10, .phase⟩, ⟨11, .phase⟩, ⟨12, .phase⟩, ⟨13, .phase⟩, ⟨14, .phase⟩, ⟨15, .phase⟩, ⟨16, .phase⟩, ⟨17, .phase⟩, ⟨18, .phase⟩, ⟨19, .phase⟩, ⟨20, .phase⟩, ⟨21, .phase⟩, ⟨22, .phase⟩, ⟨23, .phase⟩, ⟨24, .phase⟩, ⟨25, .phase⟩, ⟨26, .phase⟩, ⟨27, .phase⟩, ⟨28, .phase⟩, ⟨29, .phase⟩, ⟨30, .phase⟩, ⟨31, .phase⟩, ⟨32, .phase⟩, ⟨33, .phase⟩, ⟨34, .phase⟩, ⟨35, .phase⟩, ⟨36, .phase⟩, ⟨37, .phase⟩, ⟨38, .phase⟩, ⟨39, .phase⟩, ⟨40, .phase⟩, ⟨41, .phase⟩, ⟨42, .phase⟩, ⟨43, .phase⟩, ⟨44, .phase⟩, ⟨45, .phase⟩, ⟨46, .phase⟩, ⟨47, .phase⟩, ⟨48, .phase⟩, ⟨49, .phase⟩, ⟨50, .phase⟩, ⟨51, .phase⟩, ⟨52, .phase⟩, ⟨53, .phase⟩], none⟩ ?_ rfl (by kernel_rfl) (by kernel_rfl) (by kernel_rfl) (by rfl) ?_ ?_
  rotate_left
  · intro w hSw; go_simp; (first | done | with_reducible rfl)
  try simp only [Act.put, List.setIfInBounds_toArray, List.set_cons_zero, List.set_cons_succ]
  refine wpAnyH_done (by kernel_rfl) ?_ _
  go_wp2
  go_region
  go_wp2
  go_ret
  exact ⟨rfl, rfl⟩
end Go.Proofs.YtodklilnmianeaaDoor.Bat
