/- Joined: BatDevE1b. -/
import Derived.Test.YtbnkfljkojhkoaaDoorJBatE
import Derived.RegionTactic
import Derived.BigRegion
/- The contract of the landed eachNumber, handed hasForm's own function: are the numbers in their ranges? -/
namespace Go.Proofs.YtbnkfljkojhkoaaDoor.Bat
open Go.RowKit Go.Proofs.YtbnkfljkojhkoaaDoor.Oct Go.Proofs.YtbnkfljkojhkoaaDoor.Rec Go.Proofs.YtbnkfljkojhkoaaDoor.Crc

set_option maxRecDepth 100000 in
set_option maxHeartbeats 8000000 in
theorem each_E1b4 (g : Nat) (ba la sp fr ep pi _ge _se : Int) (w : World) (hg : g < w.heap.size) (fz : w.frozen? ⟨g, 1, none⟩ = false) (c1 : w.cell? ⟨g, 1, none⟩ = some (.int .i64 la)) (c0 : w.cell? ⟨g, 0, none⟩ = some (.int .i64 ba)) (hsp : IntKind.i64.wrap (la - ba) = sp) (i0 : inL ba 0 1099511627776 = true) (i1 : ∀ h, (if IntKind.i64.wrap (1099511627776 - ba) < 15 then IntKind.i64.wrap (1099511627776 - ba) else 15) = h → inL sp 0 h = true) (c2 : w.cell? ⟨g, 2, none⟩ = some (.int .i64 fr)) (i2 : inL fr 0 (IntKind.i64.wrap (1099511627776 - sp)) = true) (c3 : w.cell? ⟨g, 3, none⟩ = some (.int .i64 ep)) (i3 : inL ep 0 1048576 = true) (c4 : w.cell? ⟨g, 4, none⟩ = some (.int .i64 pi)) (i4 : inL pi (-1) 1099511627776 = false) :
    Calls Tryd.prog 56 #[.pointer (some ⟨g, 0, none⟩), .func (.func 55) #[] #[]] w fun e w2 => e = .returned (.bool false) ∧ ((w.setCell ⟨g, 1, none⟩ (.int .i64 (wrap64 (ba + sp)))).alloc (.cells #[.int .i64 sp] 3)).drew.drew.drew = w2 := by
  have k0 : (w.alloc (.cells #[.int .i64 sp] 3)).drew.drew.cell? ⟨g, 0, none⟩ = some (.int .i64 ba) := by simp [go_sem, c0, hg]
  have k1 : (w.alloc (.cells #[.int .i64 sp] 3)).drew.drew.cell? ⟨w.heap.size, 0, none⟩ = some (.int .i64 sp) := by simp [go_sem]
  have k2 : (w.alloc (.cells #[.int .i64 sp] 3)).drew.drew.cell? ⟨g, 2, none⟩ = some (.int .i64 fr) := by simp [go_sem, c2, hg]
  have k3 : (w.alloc (.cells #[.int .i64 sp] 3)).drew.drew.cell? ⟨g, 3, none⟩ = some (.int .i64 ep) := by simp [go_sem, c3, hg]
  have k4 : (w.alloc (.cells #[.int .i64 sp] 3)).drew.drew.cell? ⟨g, 4, none⟩ = some (.int .i64 pi) := by simp [go_sem, c4, hg]
  go_enter Tryd.func56, Tryd.ntmps56
  go_wp2
  go_region
  go_wp2
  refine wp_region_held_drew (S := fun _ => True) (by kernel_rfl) trivial (fun hHeld => ?_)
  clear hHeld
  refine tP 0 16 _ rfl ?_
  try simp only [tpu, tsa, ts0, ts1]
  refine tP 1 17 _ rfl ?_
  try simp only [tpu, tsa, ts0, ts1]
  refine tP 2 18 _ rfl ?_
  try simp only [tpu, tsa, ts0, ts1]
  refine tP 3 19 _ rfl ?_
  try simp only [tpu, tsa, ts0, ts1]
  refine takeB 4 ⟨some 20, .call { callee := .value (.tmp 16), args := #[.tmp 19, .const (.int .i64 0), .const (.int .i64 1099511627776)], argTypes := #[95, 3, 3] }, 4, "batch.go:149", #[⟨0, .data⟩, ⟨3, .data⟩], none⟩ (by kernel_rfl) rfl (fun K hK => ?_)
  go_simp
  with_reducible refine (within_any ⟨g, 0, none⟩ ba _ _ _ k0 i0).mono ?_
  rintro e w9 ⟨rfl, rfl⟩
  dsimp only
  refine hK.out _ _ trivial (fun hHeld => ?_)
  clear hK K hHeld
  try simp only [tpu, tsa, ts0, ts1]
  refine tP 5 21 _ rfl ?_
  try simp only [tpu, tsa, ts0, ts1]
  refine tP 6 22 _ rfl ?_
  try simp only [tpu, tsa, ts0, ts1]
  refine tP 7 23 _ rfl ?_
  try simp only [tpu, tsa, ts0, ts1]
  refine tP 8 24 _ rfl ?_
  try simp only [tpu, tsa, ts0, ts1]
  refine tP 9 25 _ rfl ?_
  try simp only [tpu, tsa, ts0, ts1]
  refine takeB 10 ⟨some 26, .load 3 (.tmp 25), 3, "batch.go:149", #[⟨9, .data⟩, ⟨5, .guard⟩], some (5, true)⟩ (by kernel_rfl) rfl (fun K hK => ?_)
  go_simp
  refine hK.out _ _ trivial (fun hHeld => ?_)
  clear hK K hHeld
  try simp only [tpu, tsa, ts0, ts1]
  refine tP 11 27 _ rfl ?_
  try simp only [tpu, tsa, ts0, ts1]
  refine takeB 12 ⟨some 28, .call { callee := Callee.builtin Builtin.min, args := #[.const (.int .i64 15), .tmp 27], argTypes := #[3, 3] }, 3, "batch.go:149", #[⟨11, .data⟩, ⟨5, .guard⟩], some (5, true)⟩ (by kernel_rfl) rfl (fun K hK => ?_)
  go_simp
  refine hK.out _ _ trivial (fun hHeld => ?_)
  clear hK K hHeld
  try simp only [tpu, tsa, ts0, ts1]
  refine takeB 13 ⟨some 29, .call { callee := .value (.tmp 22), args := #[.tmp 5, .const (.int .i64 0), .tmp 28], argTypes := #[95, 3, 3] }, 4, "batch.go:150", #[⟨6, .data⟩, ⟨12, .data⟩, ⟨5, .chain⟩, ⟨5, .guard⟩], some (5, true)⟩ (by kernel_rfl) rfl (fun K hK => ?_)
  go_simp
  generalize HG1 : (if IntKind.i64.wrap (1099511627776 - ba) < 15 then IntKind.i64.wrap (1099511627776 - ba) else 15) = h1
  with_reducible refine (within_any ⟨w.heap.size, 0, none⟩ sp _ _ _ k1 (i1 _ HG1)).mono ?_
  rintro e w9 ⟨rfl, rfl⟩
  dsimp only
  clear HG1
  refine hK.out _ _ trivial (fun hHeld => ?_)
  clear hK K hHeld
  try simp only [tpu, tsa, ts0, ts1]
  refine tP 14 30 _ rfl ?_
  try simp only [tpu, tsa, ts0, ts1]
  refine tP 15 31 _ rfl ?_
  try simp only [tpu, tsa, ts0, ts1]
  refine tP 16 32 _ rfl ?_
  try simp only [tpu, tsa, ts0, ts1]
  refine tP 17 33 _ rfl ?_
  try simp only [tpu, tsa, ts0, ts1]
  refine tP 18 34 _ rfl ?_
  try simp only [tpu, tsa, ts0, ts1]
  refine tP 19 35 _ rfl ?_
  try simp only [tpu, tsa, ts0, ts1]
  refine takeB 20 ⟨some 36, .load 3 (.tmp 5), 3, "batch.go:149", #[⟨15, .guard⟩], some (15, true)⟩ (by kernel_rfl) rfl (fun K hK => ?_)
  go_simp
  refine hK.out _ _ trivial (fun hHeld => ?_)
  clear hK K hHeld
  try simp only [tpu, tsa, ts0, ts1]
  refine tP 21 37 _ rfl ?_
  try simp only [tpu, tsa, ts0, ts1]
  refine takeB 22 ⟨some 38, .call { callee := .value (.tmp 32), args := #[.tmp 35, .const (.int .i64 0), .tmp 37], argTypes := #[95, 3, 3] }, 4, "batch.go:151", #[⟨16, .data⟩, ⟨19, .data⟩, ⟨21, .data⟩, ⟨15, .chain⟩, ⟨15, .guard⟩], some (15, true)⟩ (by kernel_rfl) rfl (fun K hK => ?_)
  go_simp
  with_reducible refine (within_any ⟨g, 2, none⟩ fr _ _ _ k2 i2).mono ?_
  rintro e w9 ⟨rfl, rfl⟩
  dsimp only
  refine hK.out _ _ trivial (fun hHeld => ?_)
  clear hK K hHeld
  try simp only [tpu, tsa, ts0, ts1]
  refine tP 23 39 _ rfl ?_
  try simp only [tpu, tsa, ts0, ts1]
  refine tP 24 40 _ rfl ?_
  try simp only [tpu, tsa, ts0, ts1]
  refine tP 25 41 _ rfl ?_
  try simp only [tpu, tsa, ts0, ts1]
  refine tP 26 42 _ rfl ?_
  try simp only [tpu, tsa, ts0, ts1]
  refine tP 27 43 _ rfl ?_
  try simp only [tpu, tsa, ts0, ts1]
  refine tP 28 44 _ rfl ?_
  try simp only [tpu, tsa, ts0, ts1]
  refine takeB 29 ⟨some 45, .call { callee := .value (.tmp 41), args := #[.tmp 44, .const (.int .i64 0), .const (.int .i64 1048576)], argTypes := #[95, 3, 3] }, 4, "batch.go:152", #[⟨25, .data⟩, ⟨28, .data⟩, ⟨24, .chain⟩, ⟨24, .guard⟩], some (24, true)⟩ (by kernel_rfl) rfl (fun K hK => ?_)
  go_simp
  with_reducible refine (within_any ⟨g, 3, none⟩ ep _ _ _ k3 i3).mono ?_
  rintro e w9 ⟨rfl, rfl⟩
  dsimp only
  refine hK.out _ _ trivial (fun hHeld => ?_)
  clear hK K hHeld
  try simp only [tpu, tsa, ts0, ts1]
  refine tP 30 46 _ rfl ?_
  try simp only [tpu, tsa, ts0, ts1]
  refine tP 31 47 _ rfl ?_
  try simp only [tpu, tsa, ts0, ts1]
  refine tP 32 48 _ rfl ?_
  try simp only [tpu, tsa, ts0, ts1]
  refine tP 33 49 _ rfl ?_
  try simp only [tpu, tsa, ts0, ts1]
  refine tP 34 50 _ rfl ?_
  try simp only [tpu, tsa, ts0, ts1]
  refine tP 35 51 _ rfl ?_
  try simp only [tpu, tsa, ts0, ts1]
  refine takeB 36 ⟨some 52, .call { callee := .value (.tmp 48), args := #[.tmp 51, .const (.int .i64 (-1)), .const (.int .i64 1099511627776)], argTypes := #[95, 3, 3] }, 4, "batch.go:153", #[⟨32, .data⟩, ⟨35, .data⟩, ⟨31, .chain⟩, ⟨31, .guard⟩], some (31, true)⟩ (by kernel_rfl) rfl (fun K hK => ?_)
  go_simp
  with_reducible refine (within_any ⟨g, 4, none⟩ pi _ _ _ k4 i4).mono ?_
  rintro e w9 ⟨rfl, rfl⟩
  dsimp only
  refine hK.out _ _ trivial (fun hHeld => ?_)
  clear hK K hHeld
  try simp only [tpu, tsa, ts0, ts1]
  refine tP 37 53 _ rfl ?_
  try simp only [tpu, tsa, ts0, ts1]
  refine tP 38 54 _ rfl ?_
  try simp only [tpu, tsa, ts0, ts1]
  refine tU 39 55 rfl ?_
  try simp only [tpu, tsa, ts0, ts1]
  refine tU 40 56 rfl ?_
  try simp only [tpu, tsa, ts0, ts1]
  refine tU 41 57 rfl ?_
  try simp only [tpu, tsa, ts0, ts1]
  refine tU 42 58 rfl ?_
  try simp only [tpu, tsa, ts0, ts1]
  refine tU 43 59 rfl ?_
  try simp only [tpu, tsa, ts0, ts1]
  refine tP 44 60 _ rfl ?_
  try simp only [tpu, tsa, ts0, ts1]
  refine tP 45 61 _ rfl ?_
  try simp only [tpu, tsa, ts0, ts1]
  refine tU 46 62 rfl ?_
  try simp only [tpu, tsa, ts0, ts1]
  refine tU 47 63 rfl ?_
  try simp only [tpu, tsa, ts0, ts1]
  refine tU 48 64 rfl ?_
  try simp only [tpu, tsa, ts0, ts1]
  refine tU 49 65 rfl ?_
  try simp only [tpu, tsa, ts0, ts1]
  refine tU 50 66 rfl ?_
  try simp only [tpu, tsa, ts0, ts1]
  refine tU 51 67 rfl ?_
  try simp only [tpu, tsa, ts0, ts1]
  refine tU 52 68 rfl ?_
  try simp only [tpu, tsa, ts0, ts1]
  refine tP 53 69 _ rfl ?_
  try simp only [tpu, tsa, ts0, ts1]
  refine tP 54 6 _ rfl ?_
  try simp only [tpu, tsa, ts0, ts1]
  refine wpAnyH_done (by kernel_rfl) ?_ _
  go_wp2
  go_region
  go_wp2
  go_ret
  exact ⟨rfl, rfl⟩
set_option maxRecDepth 100000 in
set_option maxHeartbeats 8000000 in
theorem each_E1b5 (g : Nat) (ba la sp fr ep pi ge _se : Int) (w : World) (hg : g < w.heap.size) (fz : w.frozen? ⟨g, 1, none⟩ = false) (c1 : w.cell? ⟨g, 1, none⟩ = some (.int .i64 la)) (c0 : w.cell? ⟨g, 0, none⟩ = some (.int .i64 ba)) (hsp : IntKind.i64.wrap (la - ba) = sp) (i0 : inL ba 0 1099511627776 = true) (i1 : ∀ h, (if IntKind.i64.wrap (1099511627776 - ba) < 15 then IntKind.i64.wrap (1099511627776 - ba) else 15) = h → inL sp 0 h = true) (c2 : w.cell? ⟨g, 2, none⟩ = some (.int .i64 fr)) (i2 : inL fr 0 (IntKind.i64.wrap (1099511627776 - sp)) = true) (c3 : w.cell? ⟨g, 3, none⟩ = some (.int .i64 ep)) (i3 : inL ep 0 1048576 = true) (c4 : w.cell? ⟨g, 4, none⟩ = some (.int .i64 pi)) (i4 : inL pi (-1) 1099511627776 = true) (c5 : w.cell? ⟨g, 5, none⟩ = some (.int .i64 ge)) (i5 : inL ge 0 1048576 = false) :
    Calls Tryd.prog 56 #[.pointer (some ⟨g, 0, none⟩), .func (.func 55) #[] #[]] w fun e w2 => e = .returned (.bool false) ∧ ((w.setCell ⟨g, 1, none⟩ (.int .i64 (wrap64 (ba + sp)))).alloc (.cells #[.int .i64 sp] 3)).drew.drew.drew = w2 := by
  have k0 : (w.alloc (.cells #[.int .i64 sp] 3)).drew.drew.cell? ⟨g, 0, none⟩ = some (.int .i64 ba) := by simp [go_sem, c0, hg]
  have k1 : (w.alloc (.cells #[.int .i64 sp] 3)).drew.drew.cell? ⟨w.heap.size, 0, none⟩ = some (.int .i64 sp) := by simp [go_sem]
  have k2 : (w.alloc (.cells #[.int .i64 sp] 3)).drew.drew.cell? ⟨g, 2, none⟩ = some (.int .i64 fr) := by simp [go_sem, c2, hg]
  have k3 : (w.alloc (.cells #[.int .i64 sp] 3)).drew.drew.cell? ⟨g, 3, none⟩ = some (.int .i64 ep) := by simp [go_sem, c3, hg]
  have k4 : (w.alloc (.cells #[.int .i64 sp] 3)).drew.drew.cell? ⟨g, 4, none⟩ = some (.int .i64 pi) := by simp [go_sem, c4, hg]
  have k5 : (w.alloc (.cells #[.int .i64 sp] 3)).drew.drew.cell? ⟨g, 5, none⟩ = some (.int .i64 ge) := by simp [go_sem, c5, hg]
  go_enter Tryd.func56, Tryd.ntmps56
  go_wp2
  go_region
  go_wp2
  refine wp_region_held_drew (S := fun _ => True) (by kernel_rfl) trivial (fun hHeld => ?_)
  clear hHeld
  refine tP 0 16 _ rfl ?_
  try simp only [tpu, tsa, ts0, ts1]
  refine tP 1 17 _ rfl ?_
  try simp only [tpu, tsa, ts0, ts1]
  refine tP 2 18 _ rfl ?_
  try simp only [tpu, tsa, ts0, ts1]
  refine tP 3 19 _ rfl ?_
  try simp only [tpu, tsa, ts0, ts1]
  refine takeB 4 ⟨some 20, .call { callee := .value (.tmp 16), args := #[.tmp 19, .const (.int .i64 0), .const (.int .i64 1099511627776)], argTypes := #[95, 3, 3] }, 4, "batch.go:149", #[⟨0, .data⟩, ⟨3, .data⟩], none⟩ (by kernel_rfl) rfl (fun K hK => ?_)
  go_simp
  with_reducible refine (within_any ⟨g, 0, none⟩ ba _ _ _ k0 i0).mono ?_
  rintro e w9 ⟨rfl, rfl⟩
  dsimp only
  refine hK.out _ _ trivial (fun hHeld => ?_)
  clear hK K hHeld
  try simp only [tpu, tsa, ts0, ts1]
  refine tP 5 21 _ rfl ?_
  try simp only [tpu, tsa, ts0, ts1]
  refine tP 6 22 _ rfl ?_
  try simp only [tpu, tsa, ts0, ts1]
  refine tP 7 23 _ rfl ?_
  try simp only [tpu, tsa, ts0, ts1]
  refine tP 8 24 _ rfl ?_
  try simp only [tpu, tsa, ts0, ts1]
  refine tP 9 25 _ rfl ?_
  try simp only [tpu, tsa, ts0, ts1]
  refine takeB 10 ⟨some 26, .load 3 (.tmp 25), 3, "batch.go:149", #[⟨9, .data⟩, ⟨5, .guard⟩], some (5, true)⟩ (by kernel_rfl) rfl (fun K hK => ?_)
  go_simp
  refine hK.out _ _ trivial (fun hHeld => ?_)
  clear hK K hHeld
  try simp only [tpu, tsa, ts0, ts1]
  refine tP 11 27 _ rfl ?_
  try simp only [tpu, tsa, ts0, ts1]
  refine takeB 12 ⟨some 28, .call { callee := Callee.builtin Builtin.min, args := #[.const (.int .i64 15), .tmp 27], argTypes := #[3, 3] }, 3, "batch.go:149", #[⟨11, .data⟩, ⟨5, .guard⟩], some (5, true)⟩ (by kernel_rfl) rfl (fun K hK => ?_)
  go_simp
  refine hK.out _ _ trivial (fun hHeld => ?_)
  clear hK K hHeld
  try simp only [tpu, tsa, ts0, ts1]
  refine takeB 13 ⟨some 29, .call { callee := .value (.tmp 22), args := #[.tmp 5, .const (.int .i64 0), .tmp 28], argTypes := #[95, 3, 3] }, 4, "batch.go:150", #[⟨6, .data⟩, ⟨12, .data⟩, ⟨5, .chain⟩, ⟨5, .guard⟩], some (5, true)⟩ (by kernel_rfl) rfl (fun K hK => ?_)
  go_simp
  generalize HG1 : (if IntKind.i64.wrap (1099511627776 - ba) < 15 then IntKind.i64.wrap (1099511627776 - ba) else 15) = h1
  with_reducible refine (within_any ⟨w.heap.size, 0, none⟩ sp _ _ _ k1 (i1 _ HG1)).mono ?_
  rintro e w9 ⟨rfl, rfl⟩
  dsimp only
  clear HG1
  refine hK.out _ _ trivial (fun hHeld => ?_)
  clear hK K hHeld
  try simp only [tpu, tsa, ts0, ts1]
  refine tP 14 30 _ rfl ?_
  try simp only [tpu, tsa, ts0, ts1]
  refine tP 15 31 _ rfl ?_
  try simp only [tpu, tsa, ts0, ts1]
  refine tP 16 32 _ rfl ?_
  try simp only [tpu, tsa, ts0, ts1]
  refine tP 17 33 _ rfl ?_
  try simp only [tpu, tsa, ts0, ts1]
  refine tP 18 34 _ rfl ?_
  try simp only [tpu, tsa, ts0, ts1]
  refine tP 19 35 _ rfl ?_
  try simp only [tpu, tsa, ts0, ts1]
  refine takeB 20 ⟨some 36, .load 3 (.tmp 5), 3, "batch.go:149", #[⟨15, .guard⟩], some (15, true)⟩ (by kernel_rfl) rfl (fun K hK => ?_)
  go_simp
  refine hK.out _ _ trivial (fun hHeld => ?_)
  clear hK K hHeld
  try simp only [tpu, tsa, ts0, ts1]
  refine tP 21 37 _ rfl ?_
  try simp only [tpu, tsa, ts0, ts1]
  refine takeB 22 ⟨some 38, .call { callee := .value (.tmp 32), args := #[.tmp 35, .const (.int .i64 0), .tmp 37], argTypes := #[95, 3, 3] }, 4, "batch.go:151", #[⟨16, .data⟩, ⟨19, .data⟩, ⟨21, .data⟩, ⟨15, .chain⟩, ⟨15, .guard⟩], some (15, true)⟩ (by kernel_rfl) rfl (fun K hK => ?_)
  go_simp
  with_reducible refine (within_any ⟨g, 2, none⟩ fr _ _ _ k2 i2).mono ?_
  rintro e w9 ⟨rfl, rfl⟩
  dsimp only
  refine hK.out _ _ trivial (fun hHeld => ?_)
  clear hK K hHeld
  try simp only [tpu, tsa, ts0, ts1]
  refine tP 23 39 _ rfl ?_
  try simp only [tpu, tsa, ts0, ts1]
  refine tP 24 40 _ rfl ?_
  try simp only [tpu, tsa, ts0, ts1]
  refine tP 25 41 _ rfl ?_
  try simp only [tpu, tsa, ts0, ts1]
  refine tP 26 42 _ rfl ?_
  try simp only [tpu, tsa, ts0, ts1]
  refine tP 27 43 _ rfl ?_
  try simp only [tpu, tsa, ts0, ts1]
  refine tP 28 44 _ rfl ?_
  try simp only [tpu, tsa, ts0, ts1]
  refine takeB 29 ⟨some 45, .call { callee := .value (.tmp 41), args := #[.tmp 44, .const (.int .i64 0), .const (.int .i64 1048576)], argTypes := #[95, 3, 3] }, 4, "batch.go:152", #[⟨25, .data⟩, ⟨28, .data⟩, ⟨24, .chain⟩, ⟨24, .guard⟩], some (24, true)⟩ (by kernel_rfl) rfl (fun K hK => ?_)
  go_simp
  with_reducible refine (within_any ⟨g, 3, none⟩ ep _ _ _ k3 i3).mono ?_
  rintro e w9 ⟨rfl, rfl⟩
  dsimp only
  refine hK.out _ _ trivial (fun hHeld => ?_)
  clear hK K hHeld
  try simp only [tpu, tsa, ts0, ts1]
  refine tP 30 46 _ rfl ?_
  try simp only [tpu, tsa, ts0, ts1]
  refine tP 31 47 _ rfl ?_
  try simp only [tpu, tsa, ts0, ts1]
  refine tP 32 48 _ rfl ?_
  try simp only [tpu, tsa, ts0, ts1]
  refine tP 33 49 _ rfl ?_
  try simp only [tpu, tsa, ts0, ts1]
  refine tP 34 50 _ rfl ?_
  try simp only [tpu, tsa, ts0, ts1]
  refine tP 35 51 _ rfl ?_
  try simp only [tpu, tsa, ts0, ts1]
  refine takeB 36 ⟨some 52, .call { callee := .value (.tmp 48), args := #[.tmp 51, .const (.int .i64 (-1)), .const (.int .i64 1099511627776)], argTypes := #[95, 3, 3] }, 4, "batch.go:153", #[⟨32, .data⟩, ⟨35, .data⟩, ⟨31, .chain⟩, ⟨31, .guard⟩], some (31, true)⟩ (by kernel_rfl) rfl (fun K hK => ?_)
  go_simp
  with_reducible refine (within_any ⟨g, 4, none⟩ pi _ _ _ k4 i4).mono ?_
  rintro e w9 ⟨rfl, rfl⟩
  dsimp only
  refine hK.out _ _ trivial (fun hHeld => ?_)
  clear hK K hHeld
  try simp only [tpu, tsa, ts0, ts1]
  refine tP 37 53 _ rfl ?_
  try simp only [tpu, tsa, ts0, ts1]
  refine tP 38 54 _ rfl ?_
  try simp only [tpu, tsa, ts0, ts1]
  refine tP 39 55 _ rfl ?_
  try simp only [tpu, tsa, ts0, ts1]
  refine tP 40 56 _ rfl ?_
  try simp only [tpu, tsa, ts0, ts1]
  refine tP 41 57 _ rfl ?_
  try simp only [tpu, tsa, ts0, ts1]
  refine tP 42 58 _ rfl ?_
  try simp only [tpu, tsa, ts0, ts1]
  refine takeB 43 ⟨some 59, .call { callee := .value (.tmp 55), args := #[.tmp 58, .const (.int .i64 0), .const (.int .i64 1048576)], argTypes := #[95, 3, 3] }, 4, "batch.go:154", #[⟨39, .data⟩, ⟨42, .data⟩, ⟨38, .chain⟩, ⟨38, .guard⟩], some (38, true)⟩ (by kernel_rfl) rfl (fun K hK => ?_)
  go_simp
  with_reducible refine (within_any ⟨g, 5, none⟩ ge _ _ _ k5 i5).mono ?_
  rintro e w9 ⟨rfl, rfl⟩
  dsimp only
  refine hK.out _ _ trivial (fun hHeld => ?_)
  clear hK K hHeld
  try simp only [tpu, tsa, ts0, ts1]
  refine tP 44 60 _ rfl ?_
  try simp only [tpu, tsa, ts0, ts1]
  refine tP 45 61 _ rfl ?_
  try simp only [tpu, tsa, ts0, ts1]
  refine tU 46 62 rfl ?_
  try simp only [tpu, tsa, ts0, ts1]
  refine tU 47 63 rfl ?_
  try simp only [tpu, tsa, ts0, ts1]
  refine tU 48 64 rfl ?_
  try simp only [tpu, tsa, ts0, ts1]
  refine tU 49 65 rfl ?_
  try simp only [tpu, tsa, ts0, ts1]
  refine tU 50 66 rfl ?_
  try simp only [tpu, tsa, ts0, ts1]
  refine tU 51 67 rfl ?_
  try simp only [tpu, tsa, ts0, ts1]
  refine tU 52 68 rfl ?_
  try simp only [tpu, tsa, ts0, ts1]
  refine tP 53 69 _ rfl ?_
  try simp only [tpu, tsa, ts0, ts1]
  refine tP 54 6 _ rfl ?_
  try simp only [tpu, tsa, ts0, ts1]
  refine wpAnyH_done (by kernel_rfl) ?_ _
  go_wp2
  go_region
  go_wp2
  go_ret
  exact ⟨rfl, rfl⟩
set_option maxRecDepth 100000 in
set_option maxHeartbeats 8000000 in
theorem each_E1b6 (g : Nat) (ba la sp fr ep pi ge se : Int) (w : World) (hg : g < w.heap.size) (fz : w.frozen? ⟨g, 1, none⟩ = false) (c1 : w.cell? ⟨g, 1, none⟩ = some (.int .i64 la)) (c0 : w.cell? ⟨g, 0, none⟩ = some (.int .i64 ba)) (hsp : IntKind.i64.wrap (la - ba) = sp) (i0 : inL ba 0 1099511627776 = true) (i1 : ∀ h, (if IntKind.i64.wrap (1099511627776 - ba) < 15 then IntKind.i64.wrap (1099511627776 - ba) else 15) = h → inL sp 0 h = true) (c2 : w.cell? ⟨g, 2, none⟩ = some (.int .i64 fr)) (i2 : inL fr 0 (IntKind.i64.wrap (1099511627776 - sp)) = true) (c3 : w.cell? ⟨g, 3, none⟩ = some (.int .i64 ep)) (i3 : inL ep 0 1048576 = true) (c4 : w.cell? ⟨g, 4, none⟩ = some (.int .i64 pi)) (i4 : inL pi (-1) 1099511627776 = true) (c5 : w.cell? ⟨g, 5, none⟩ = some (.int .i64 ge)) (i5 : inL ge 0 1048576 = true) (c6 : w.cell? ⟨g, 6, none⟩ = some (.int .i64 se)) (i6 : inL se 0 (IntKind.i64.wrap (1048576 - sp)) = false) :
    Calls Tryd.prog 56 #[.pointer (some ⟨g, 0, none⟩), .func (.func 55) #[] #[]] w fun e w2 => e = .returned (.bool false) ∧ ((w.setCell ⟨g, 1, none⟩ (.int .i64 (wrap64 (ba + sp)))).alloc (.cells #[.int .i64 sp] 3)).drew.drew.drew = w2 := by
  have k0 : (w.alloc (.cells #[.int .i64 sp] 3)).drew.drew.cell? ⟨g, 0, none⟩ = some (.int .i64 ba) := by simp [go_sem, c0, hg]
  have k1 : (w.alloc (.cells #[.int .i64 sp] 3)).drew.drew.cell? ⟨w.heap.size, 0, none⟩ = some (.int .i64 sp) := by simp [go_sem]
  have k2 : (w.alloc (.cells #[.int .i64 sp] 3)).drew.drew.cell? ⟨g, 2, none⟩ = some (.int .i64 fr) := by simp [go_sem, c2, hg]
  have k3 : (w.alloc (.cells #[.int .i64 sp] 3)).drew.drew.cell? ⟨g, 3, none⟩ = some (.int .i64 ep) := by simp [go_sem, c3, hg]
  have k4 : (w.alloc (.cells #[.int .i64 sp] 3)).drew.drew.cell? ⟨g, 4, none⟩ = some (.int .i64 pi) := by simp [go_sem, c4, hg]
  have k5 : (w.alloc (.cells #[.int .i64 sp] 3)).drew.drew.cell? ⟨g, 5, none⟩ = some (.int .i64 ge) := by simp [go_sem, c5, hg]
  have k6 : (w.alloc (.cells #[.int .i64 sp] 3)).drew.drew.cell? ⟨g, 6, none⟩ = some (.int .i64 se) := by simp [go_sem, c6, hg]
  go_enter Tryd.func56, Tryd.ntmps56
  go_wp2
  go_region
  go_wp2
  refine wp_region_held_drew (S := fun _ => True) (by kernel_rfl) trivial (fun hHeld => ?_)
  clear hHeld
  refine tP 0 16 _ rfl ?_
  try simp only [tpu, tsa, ts0, ts1]
  refine tP 1 17 _ rfl ?_
  try simp only [tpu, tsa, ts0, ts1]
  refine tP 2 18 _ rfl ?_
  try simp only [tpu, tsa, ts0, ts1]
  refine tP 3 19 _ rfl ?_
  try simp only [tpu, tsa, ts0, ts1]
  refine takeB 4 ⟨some 20, .call { callee := .value (.tmp 16), args := #[.tmp 19, .const (.int .i64 0), .const (.int .i64 1099511627776)], argTypes := #[95, 3, 3] }, 4, "batch.go:149", #[⟨0, .data⟩, ⟨3, .data⟩], none⟩ (by kernel_rfl) rfl (fun K hK => ?_)
  go_simp
  with_reducible refine (within_any ⟨g, 0, none⟩ ba _ _ _ k0 i0).mono ?_
  rintro e w9 ⟨rfl, rfl⟩
  dsimp only
  refine hK.out _ _ trivial (fun hHeld => ?_)
  clear hK K hHeld
  try simp only [tpu, tsa, ts0, ts1]
  refine tP 5 21 _ rfl ?_
  try simp only [tpu, tsa, ts0, ts1]
  refine tP 6 22 _ rfl ?_
  try simp only [tpu, tsa, ts0, ts1]
  refine tP 7 23 _ rfl ?_
  try simp only [tpu, tsa, ts0, ts1]
  refine tP 8 24 _ rfl ?_
  try simp only [tpu, tsa, ts0, ts1]
  refine tP 9 25 _ rfl ?_
  try simp only [tpu, tsa, ts0, ts1]
  refine takeB 10 ⟨some 26, .load 3 (.tmp 25), 3, "batch.go:149", #[⟨9, .data⟩, ⟨5, .guard⟩], some (5, true)⟩ (by kernel_rfl) rfl (fun K hK => ?_)
  go_simp
  refine hK.out _ _ trivial (fun hHeld => ?_)
  clear hK K hHeld
  try simp only [tpu, tsa, ts0, ts1]
  refine tP 11 27 _ rfl ?_
  try simp only [tpu, tsa, ts0, ts1]
  refine takeB 12 ⟨some 28, .call { callee := Callee.builtin Builtin.min, args := #[.const (.int .i64 15), .tmp 27], argTypes := #[3, 3] }, 3, "batch.go:149", #[⟨11, .data⟩, ⟨5, .guard⟩], some (5, true)⟩ (by kernel_rfl) rfl (fun K hK => ?_)
  go_simp
  refine hK.out _ _ trivial (fun hHeld => ?_)
  clear hK K hHeld
  try simp only [tpu, tsa, ts0, ts1]
  refine takeB 13 ⟨some 29, .call { callee := .value (.tmp 22), args := #[.tmp 5, .const (.int .i64 0), .tmp 28], argTypes := #[95, 3, 3] }, 4, "batch.go:150", #[⟨6, .data⟩, ⟨12, .data⟩, ⟨5, .chain⟩, ⟨5, .guard⟩], some (5, true)⟩ (by kernel_rfl) rfl (fun K hK => ?_)
  go_simp
  generalize HG1 : (if IntKind.i64.wrap (1099511627776 - ba) < 15 then IntKind.i64.wrap (1099511627776 - ba) else 15) = h1
  with_reducible refine (within_any ⟨w.heap.size, 0, none⟩ sp _ _ _ k1 (i1 _ HG1)).mono ?_
  rintro e w9 ⟨rfl, rfl⟩
  dsimp only
  clear HG1
  refine hK.out _ _ trivial (fun hHeld => ?_)
  clear hK K hHeld
  try simp only [tpu, tsa, ts0, ts1]
  refine tP 14 30 _ rfl ?_
  try simp only [tpu, tsa, ts0, ts1]
  refine tP 15 31 _ rfl ?_
  try simp only [tpu, tsa, ts0, ts1]
  refine tP 16 32 _ rfl ?_
  try simp only [tpu, tsa, ts0, ts1]
  refine tP 17 33 _ rfl ?_
  try simp only [tpu, tsa, ts0, ts1]
  refine tP 18 34 _ rfl ?_
  try simp only [tpu, tsa, ts0, ts1]
  refine tP 19 35 _ rfl ?_
  try simp only [tpu, tsa, ts0, ts1]
  refine takeB 20 ⟨some 36, .load 3 (.tmp 5), 3, "batch.go:149", #[⟨15, .guard⟩], some (15, true)⟩ (by kernel_rfl) rfl (fun K hK => ?_)
  go_simp
  refine hK.out _ _ trivial (fun hHeld => ?_)
  clear hK K hHeld
  try simp only [tpu, tsa, ts0, ts1]
  refine tP 21 37 _ rfl ?_
  try simp only [tpu, tsa, ts0, ts1]
  refine takeB 22 ⟨some 38, .call { callee := .value (.tmp 32), args := #[.tmp 35, .const (.int .i64 0), .tmp 37], argTypes := #[95, 3, 3] }, 4, "batch.go:151", #[⟨16, .data⟩, ⟨19, .data⟩, ⟨21, .data⟩, ⟨15, .chain⟩, ⟨15, .guard⟩], some (15, true)⟩ (by kernel_rfl) rfl (fun K hK => ?_)
  go_simp
  with_reducible refine (within_any ⟨g, 2, none⟩ fr _ _ _ k2 i2).mono ?_
  rintro e w9 ⟨rfl, rfl⟩
  dsimp only
  refine hK.out _ _ trivial (fun hHeld => ?_)
  clear hK K hHeld
  try simp only [tpu, tsa, ts0, ts1]
  refine tP 23 39 _ rfl ?_
  try simp only [tpu, tsa, ts0, ts1]
  refine tP 24 40 _ rfl ?_
  try simp only [tpu, tsa, ts0, ts1]
  refine tP 25 41 _ rfl ?_
  try simp only [tpu, tsa, ts0, ts1]
  refine tP 26 42 _ rfl ?_
  try simp only [tpu, tsa, ts0, ts1]
  refine tP 27 43 _ rfl ?_
  try simp only [tpu, tsa, ts0, ts1]
  refine tP 28 44 _ rfl ?_
  try simp only [tpu, tsa, ts0, ts1]
  refine takeB 29 ⟨some 45, .call { callee := .value (.tmp 41), args := #[.tmp 44, .const (.int .i64 0), .const (.int .i64 1048576)], argTypes := #[95, 3, 3] }, 4, "batch.go:152", #[⟨25, .data⟩, ⟨28, .data⟩, ⟨24, .chain⟩, ⟨24, .guard⟩], some (24, true)⟩ (by kernel_rfl) rfl (fun K hK => ?_)
  go_simp
  with_reducible refine (within_any ⟨g, 3, none⟩ ep _ _ _ k3 i3).mono ?_
  rintro e w9 ⟨rfl, rfl⟩
  dsimp only
  refine hK.out _ _ trivial (fun hHeld => ?_)
  clear hK K hHeld
  try simp only [tpu, tsa, ts0, ts1]
  refine tP 30 46 _ rfl ?_
  try simp only [tpu, tsa, ts0, ts1]
  refine tP 31 47 _ rfl ?_
  try simp only [tpu, tsa, ts0, ts1]
  refine tP 32 48 _ rfl ?_
  try simp only [tpu, tsa, ts0, ts1]
  refine tP 33 49 _ rfl ?_
  try simp only [tpu, tsa, ts0, ts1]
  refine tP 34 50 _ rfl ?_
  try simp only [tpu, tsa, ts0, ts1]
  refine tP 35 51 _ rfl ?_
  try simp only [tpu, tsa, ts0, ts1]
  refine takeB 36 ⟨some 52, .call { callee := .value (.tmp 48), args := #[.tmp 51, .const (.int .i64 (-1)), .const (.int .i64 1099511627776)], argTypes := #[95, 3, 3] }, 4, "batch.go:153", #[⟨32, .data⟩, ⟨35, .data⟩, ⟨31, .chain⟩, ⟨31, .guard⟩], some (31, true)⟩ (by kernel_rfl) rfl (fun K hK => ?_)
  go_simp
  with_reducible refine (within_any ⟨g, 4, none⟩ pi _ _ _ k4 i4).mono ?_
  rintro e w9 ⟨rfl, rfl⟩
  dsimp only
  refine hK.out _ _ trivial (fun hHeld => ?_)
  clear hK K hHeld
  try simp only [tpu, tsa, ts0, ts1]
  refine tP 37 53 _ rfl ?_
  try simp only [tpu, tsa, ts0, ts1]
  refine tP 38 54 _ rfl ?_
  try simp only [tpu, tsa, ts0, ts1]
  refine tP 39 55 _ rfl ?_
  try simp only [tpu, tsa, ts0, ts1]
  refine tP 40 56 _ rfl ?_
  try simp only [tpu, tsa, ts0, ts1]
  refine tP 41 57 _ rfl ?_
  try simp only [tpu, tsa, ts0, ts1]
  refine tP 42 58 _ rfl ?_
  try simp only [tpu, tsa, ts0, ts1]
  refine takeB 43 ⟨some 59, .call { callee := .value (.tmp 55), args := #[.tmp 58, .const (.int .i64 0), .const (.int .i64 1048576)], argTypes := #[95, 3, 3] }, 4, "batch.go:154", #[⟨39, .data⟩, ⟨42, .data⟩, ⟨38, .chain⟩, ⟨38, .guard⟩], some (38, true)⟩ (by kernel_rfl) rfl (fun K hK => ?_)
  go_simp
  with_reducible refine (within_any ⟨g, 5, none⟩ ge _ _ _ k5 i5).mono ?_
  rintro e w9 ⟨rfl, rfl⟩
  dsimp only
  refine hK.out _ _ trivial (fun hHeld => ?_)
  clear hK K hHeld
  try simp only [tpu, tsa, ts0, ts1]
  refine tP 44 60 _ rfl ?_
  try simp only [tpu, tsa, ts0, ts1]
  refine tP 45 61 _ rfl ?_
  try simp only [tpu, tsa, ts0, ts1]
  refine tP 46 62 _ rfl ?_
  try simp only [tpu, tsa, ts0, ts1]
  refine tP 47 63 _ rfl ?_
  try simp only [tpu, tsa, ts0, ts1]
  refine tP 48 64 _ rfl ?_
  try simp only [tpu, tsa, ts0, ts1]
  refine tP 49 65 _ rfl ?_
  try simp only [tpu, tsa, ts0, ts1]
  refine takeB 50 ⟨some 66, .load 3 (.tmp 5), 3, "batch.go:149", #[⟨45, .guard⟩], some (45, true)⟩ (by kernel_rfl) rfl (fun K hK => ?_)
  go_simp
  refine hK.out _ _ trivial (fun hHeld => ?_)
  clear hK K hHeld
  try simp only [tpu, tsa, ts0, ts1]
  refine tP 51 67 _ rfl ?_
  try simp only [tpu, tsa, ts0, ts1]
  refine takeB 52 ⟨some 68, .call { callee := .value (.tmp 62), args := #[.tmp 65, .const (.int .i64 0), .tmp 67], argTypes := #[95, 3, 3] }, 4, "batch.go:155", #[⟨46, .data⟩, ⟨49, .data⟩, ⟨51, .data⟩, ⟨45, .chain⟩, ⟨45, .guard⟩], some (45, true)⟩ (by kernel_rfl) rfl (fun K hK => ?_)
  go_simp
  with_reducible refine (within_any ⟨g, 6, none⟩ se _ _ _ k6 i6).mono ?_
  rintro e w9 ⟨rfl, rfl⟩
  dsimp only
  refine hK.out _ _ trivial (fun hHeld => ?_)
  clear hK K hHeld
  try simp only [tpu, tsa, ts0, ts1]
  refine tP 53 69 _ rfl ?_
  try simp only [tpu, tsa, ts0, ts1]
  refine tP 54 6 _ rfl ?_
  try simp only [tpu, tsa, ts0, ts1]
  refine wpAnyH_done (by kernel_rfl) ?_ _
  go_wp2
  go_region
  go_wp2
  go_ret
  exact ⟨rfl, rfl⟩
set_option maxRecDepth 100000 in
set_option maxHeartbeats 8000000 in
theorem each_E1b7 (g : Nat) (ba la sp fr ep pi ge se : Int) (w : World) (hg : g < w.heap.size) (fz : w.frozen? ⟨g, 1, none⟩ = false) (c1 : w.cell? ⟨g, 1, none⟩ = some (.int .i64 la)) (c0 : w.cell? ⟨g, 0, none⟩ = some (.int .i64 ba)) (hsp : IntKind.i64.wrap (la - ba) = sp) (i0 : inL ba 0 1099511627776 = true) (i1 : ∀ h, (if IntKind.i64.wrap (1099511627776 - ba) < 15 then IntKind.i64.wrap (1099511627776 - ba) else 15) = h → inL sp 0 h = true) (c2 : w.cell? ⟨g, 2, none⟩ = some (.int .i64 fr)) (i2 : inL fr 0 (IntKind.i64.wrap (1099511627776 - sp)) = true) (c3 : w.cell? ⟨g, 3, none⟩ = some (.int .i64 ep)) (i3 : inL ep 0 1048576 = true) (c4 : w.cell? ⟨g, 4, none⟩ = some (.int .i64 pi)) (i4 : inL pi (-1) 1099511627776 = true) (c5 : w.cell? ⟨g, 5, none⟩ = some (.int .i64 ge)) (i5 : inL ge 0 1048576 = true) (c6 : w.cell? ⟨g, 6, none⟩ = some (.int .i64 se)) (i6 : inL se 0 (IntKind.i64.wrap (1048576 - sp)) = true) :
    Calls Tryd.prog 56 #[.pointer (some ⟨g, 0, none⟩), .func (.func 55) #[] #[]] w fun e w2 => e = .returned (.bool true) ∧ ((w.setCell ⟨g, 1, none⟩ (.int .i64 (wrap64 (ba + sp)))).alloc (.cells #[.int .i64 sp] 3)).drew.drew.drew = w2 := by
  have k0 : (w.alloc (.cells #[.int .i64 sp] 3)).drew.drew.cell? ⟨g, 0, none⟩ = some (.int .i64 ba) := by simp [go_sem, c0, hg]
  have k1 : (w.alloc (.cells #[.int .i64 sp] 3)).drew.drew.cell? ⟨w.heap.size, 0, none⟩ = some (.int .i64 sp) := by simp [go_sem]
  have k2 : (w.alloc (.cells #[.int .i64 sp] 3)).drew.drew.cell? ⟨g, 2, none⟩ = some (.int .i64 fr) := by simp [go_sem, c2, hg]
  have k3 : (w.alloc (.cells #[.int .i64 sp] 3)).drew.drew.cell? ⟨g, 3, none⟩ = some (.int .i64 ep) := by simp [go_sem, c3, hg]
  have k4 : (w.alloc (.cells #[.int .i64 sp] 3)).drew.drew.cell? ⟨g, 4, none⟩ = some (.int .i64 pi) := by simp [go_sem, c4, hg]
  have k5 : (w.alloc (.cells #[.int .i64 sp] 3)).drew.drew.cell? ⟨g, 5, none⟩ = some (.int .i64 ge) := by simp [go_sem, c5, hg]
  have k6 : (w.alloc (.cells #[.int .i64 sp] 3)).drew.drew.cell? ⟨g, 6, none⟩ = some (.int .i64 se) := by simp [go_sem, c6, hg]
  go_enter Tryd.func56, Tryd.ntmps56
  go_wp2
  go_region
  go_wp2
  refine wp_region_held_drew (S := fun _ => True) (by kernel_rfl) trivial (fun hHeld => ?_)
  clear hHeld
  refine tP 0 16 _ rfl ?_
  try simp only [tpu, tsa, ts0, ts1]
  refine tP 1 17 _ rfl ?_
  try simp only [tpu, tsa, ts0, ts1]
  refine tP 2 18 _ rfl ?_
  try simp only [tpu, tsa, ts0, ts1]
  refine tP 3 19 _ rfl ?_
  try simp only [tpu, tsa, ts0, ts1]
  refine takeB 4 ⟨some 20, .call { callee := .value (.tmp 16), args := #[.tmp 19, .const (.int .i64 0), .const (.int .i64 1099511627776)], argTypes := #[95, 3, 3] }, 4, "batch.go:149", #[⟨0, .data⟩, ⟨3, .data⟩], none⟩ (by kernel_rfl) rfl (fun K hK => ?_)
  go_simp
  with_reducible refine (within_any ⟨g, 0, none⟩ ba _ _ _ k0 i0).mono ?_
  rintro e w9 ⟨rfl, rfl⟩
  dsimp only
  refine hK.out _ _ trivial (fun hHeld => ?_)
  clear hK K hHeld
  try simp only [tpu, tsa, ts0, ts1]
  refine tP 5 21 _ rfl ?_
  try simp only [tpu, tsa, ts0, ts1]
  refine tP 6 22 _ rfl ?_
  try simp only [tpu, tsa, ts0, ts1]
  refine tP 7 23 _ rfl ?_
  try simp only [tpu, tsa, ts0, ts1]
  refine tP 8 24 _ rfl ?_
  try simp only [tpu, tsa, ts0, ts1]
  refine tP 9 25 _ rfl ?_
  try simp only [tpu, tsa, ts0, ts1]
  refine takeB 10 ⟨some 26, .load 3 (.tmp 25), 3, "batch.go:149", #[⟨9, .data⟩, ⟨5, .guard⟩], some (5, true)⟩ (by kernel_rfl) rfl (fun K hK => ?_)
  go_simp
  refine hK.out _ _ trivial (fun hHeld => ?_)
  clear hK K hHeld
  try simp only [tpu, tsa, ts0, ts1]
  refine tP 11 27 _ rfl ?_
  try simp only [tpu, tsa, ts0, ts1]
  refine takeB 12 ⟨some 28, .call { callee := Callee.builtin Builtin.min, args := #[.const (.int .i64 15), .tmp 27], argTypes := #[3, 3] }, 3, "batch.go:149", #[⟨11, .data⟩, ⟨5, .guard⟩], some (5, true)⟩ (by kernel_rfl) rfl (fun K hK => ?_)
  go_simp
  refine hK.out _ _ trivial (fun hHeld => ?_)
  clear hK K hHeld
  try simp only [tpu, tsa, ts0, ts1]
  refine takeB 13 ⟨some 29, .call { callee := .value (.tmp 22), args := #[.tmp 5, .const (.int .i64 0), .tmp 28], argTypes := #[95, 3, 3] }, 4, "batch.go:150", #[⟨6, .data⟩, ⟨12, .data⟩, ⟨5, .chain⟩, ⟨5, .guard⟩], some (5, true)⟩ (by kernel_rfl) rfl (fun K hK => ?_)
  go_simp
  generalize HG1 : (if IntKind.i64.wrap (1099511627776 - ba) < 15 then IntKind.i64.wrap (1099511627776 - ba) else 15) = h1
  with_reducible refine (within_any ⟨w.heap.size, 0, none⟩ sp _ _ _ k1 (i1 _ HG1)).mono ?_
  rintro e w9 ⟨rfl, rfl⟩
  dsimp only
  clear HG1
  refine hK.out _ _ trivial (fun hHeld => ?_)
  clear hK K hHeld
  try simp only [tpu, tsa, ts0, ts1]
  refine tP 14 30 _ rfl ?_
  try simp only [tpu, tsa, ts0, ts1]
  refine tP 15 31 _ rfl ?_
  try simp only [tpu, tsa, ts0, ts1]
  refine tP 16 32 _ rfl ?_
  try simp only [tpu, tsa, ts0, ts1]
  refine tP 17 33 _ rfl ?_
  try simp only [tpu, tsa, ts0, ts1]
  refine tP 18 34 _ rfl ?_
  try simp only [tpu, tsa, ts0, ts1]
  refine tP 19 35 _ rfl ?_
  try simp only [tpu, tsa, ts0, ts1]
  refine takeB 20 ⟨some 36, .load 3 (.tmp 5), 3, "batch.go:149", #[⟨15, .guard⟩], some (15, true)⟩ (by kernel_rfl) rfl (fun K hK => ?_)
  go_simp
  refine hK.out _ _ trivial (fun hHeld => ?_)
  clear hK K hHeld
  try simp only [tpu, tsa, ts0, ts1]
  refine tP 21 37 _ rfl ?_
  try simp only [tpu, tsa, ts0, ts1]
  refine takeB 22 ⟨some 38, .call { callee := .value (.tmp 32), args := #[.tmp 35, .const (.int .i64 0), .tmp 37], argTypes := #[95, 3, 3] }, 4, "batch.go:151", #[⟨16, .data⟩, ⟨19, .data⟩, ⟨21, .data⟩, ⟨15, .chain⟩, ⟨15, .guard⟩], some (15, true)⟩ (by kernel_rfl) rfl (fun K hK => ?_)
  go_simp
  with_reducible refine (within_any ⟨g, 2, none⟩ fr _ _ _ k2 i2).mono ?_
  rintro e w9 ⟨rfl, rfl⟩
  dsimp only
  refine hK.out _ _ trivial (fun hHeld => ?_)
  clear hK K hHeld
  try simp only [tpu, tsa, ts0, ts1]
  refine tP 23 39 _ rfl ?_
  try simp only [tpu, tsa, ts0, ts1]
  refine tP 24 40 _ rfl ?_
  try simp only [tpu, tsa, ts0, ts1]
  refine tP 25 41 _ rfl ?_
  try simp only [tpu, tsa, ts0, ts1]
  refine tP 26 42 _ rfl ?_
  try simp only [tpu, tsa, ts0, ts1]
  refine tP 27 43 _ rfl ?_
  try simp only [tpu, tsa, ts0, ts1]
  refine tP 28 44 _ rfl ?_
  try simp only [tpu, tsa, ts0, ts1]
  refine takeB 29 ⟨some 45, .call { callee := .value (.tmp 41), args := #[.tmp 44, .const (.int .i64 0), .const (.int .i64 1048576)], argTypes := #[95, 3, 3] }, 4, "batch.go:152", #[⟨25, .data⟩, ⟨28, .data⟩, ⟨24, .chain⟩, ⟨24, .guard⟩], some (24, true)⟩ (by kernel_rfl) rfl (fun K hK => ?_)
  go_simp
  with_reducible refine (within_any ⟨g, 3, none⟩ ep _ _ _ k3 i3).mono ?_
  rintro e w9 ⟨rfl, rfl⟩
  dsimp only
  refine hK.out _ _ trivial (fun hHeld => ?_)
  clear hK K hHeld
  try simp only [tpu, tsa, ts0, ts1]
  refine tP 30 46 _ rfl ?_
  try simp only [tpu, tsa, ts0, ts1]
  refine tP 31 47 _ rfl ?_
  try simp only [tpu, tsa, ts0, ts1]
  refine tP 32 48 _ rfl ?_
  try simp only [tpu, tsa, ts0, ts1]
  refine tP 33 49 _ rfl ?_
  try simp only [tpu, tsa, ts0, ts1]
  refine tP 34 50 _ rfl ?_
  try simp only [tpu, tsa, ts0, ts1]
  refine tP 35 51 _ rfl ?_
  try simp only [tpu, tsa, ts0, ts1]
  refine takeB 36 ⟨some 52, .call { callee := .value (.tmp 48), args := #[.tmp 51, .const (.int .i64 (-1)), .const (.int .i64 1099511627776)], argTypes := #[95, 3, 3] }, 4, "batch.go:153", #[⟨32, .data⟩, ⟨35, .data⟩, ⟨31, .chain⟩, ⟨31, .guard⟩], some (31, true)⟩ (by kernel_rfl) rfl (fun K hK => ?_)
  go_simp
  with_reducible refine (within_any ⟨g, 4, none⟩ pi _ _ _ k4 i4).mono ?_
  rintro e w9 ⟨rfl, rfl⟩
  dsimp only
  refine hK.out _ _ trivial (fun hHeld => ?_)
  clear hK K hHeld
  try simp only [tpu, tsa, ts0, ts1]
  refine tP 37 53 _ rfl ?_
  try simp only [tpu, tsa, ts0, ts1]
  refine tP 38 54 _ rfl ?_
  try simp only [tpu, tsa, ts0, ts1]
  refine tP 39 55 _ rfl ?_
  try simp only [tpu, tsa, ts0, ts1]
  refine tP 40 56 _ rfl ?_
  try simp only [tpu, tsa, ts0, ts1]
  refine tP 41 57 _ rfl ?_
  try simp only [tpu, tsa, ts0, ts1]
  refine tP 42 58 _ rfl ?_
  try simp only [tpu, tsa, ts0, ts1]
  refine takeB 43 ⟨some 59, .call { callee := .value (.tmp 55), args := #[.tmp 58, .const (.int .i64 0), .const (.int .i64 1048576)], argTypes := #[95, 3, 3] }, 4, "batch.go:154", #[⟨39, .data⟩, ⟨42, .data⟩, ⟨38, .chain⟩, ⟨38, .guard⟩], some (38, true)⟩ (by kernel_rfl) rfl (fun K hK => ?_)
  go_simp
  with_reducible refine (within_any ⟨g, 5, none⟩ ge _ _ _ k5 i5).mono ?_
  rintro e w9 ⟨rfl, rfl⟩
  dsimp only
  refine hK.out _ _ trivial (fun hHeld => ?_)
  clear hK K hHeld
  try simp only [tpu, tsa, ts0, ts1]
  refine tP 44 60 _ rfl ?_
  try simp only [tpu, tsa, ts0, ts1]
  refine tP 45 61 _ rfl ?_
  try simp only [tpu, tsa, ts0, ts1]
  refine tP 46 62 _ rfl ?_
  try simp only [tpu, tsa, ts0, ts1]
  refine tP 47 63 _ rfl ?_
  try simp only [tpu, tsa, ts0, ts1]
  refine tP 48 64 _ rfl ?_
  try simp only [tpu, tsa, ts0, ts1]
  refine tP 49 65 _ rfl ?_
  try simp only [tpu, tsa, ts0, ts1]
  refine takeB 50 ⟨some 66, .load 3 (.tmp 5), 3, "batch.go:149", #[⟨45, .guard⟩], some (45, true)⟩ (by kernel_rfl) rfl (fun K hK => ?_)
  go_simp
  refine hK.out _ _ trivial (fun hHeld => ?_)
  clear hK K hHeld
  try simp only [tpu, tsa, ts0, ts1]
  refine tP 51 67 _ rfl ?_
  try simp only [tpu, tsa, ts0, ts1]
  refine takeB 52 ⟨some 68, .call { callee := .value (.tmp 62), args := #[.tmp 65, .const (.int .i64 0), .tmp 67], argTypes := #[95, 3, 3] }, 4, "batch.go:155", #[⟨46, .data⟩, ⟨49, .data⟩, ⟨51, .data⟩, ⟨45, .chain⟩, ⟨45, .guard⟩], some (45, true)⟩ (by kernel_rfl) rfl (fun K hK => ?_)
  go_simp
  with_reducible refine (within_any ⟨g, 6, none⟩ se _ _ _ k6 i6).mono ?_
  rintro e w9 ⟨rfl, rfl⟩
  dsimp only
  refine hK.out _ _ trivial (fun hHeld => ?_)
  clear hK K hHeld
  try simp only [tpu, tsa, ts0, ts1]
  refine tP 53 69 _ rfl ?_
  try simp only [tpu, tsa, ts0, ts1]
  refine tP 54 6 _ rfl ?_
  try simp only [tpu, tsa, ts0, ts1]
  refine wpAnyH_done (by kernel_rfl) ?_ _
  go_wp2
  go_region
  go_wp2
  go_ret
  exact ⟨rfl, rfl⟩
end Go.Proofs.YtbnkfljkojhkoaaDoor.Bat
