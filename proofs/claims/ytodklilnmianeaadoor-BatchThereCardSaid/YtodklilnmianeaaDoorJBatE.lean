/- Joined: BatDevW, Takes, BatDevE2. -/
import Derived.Test.YtodklilnmianeaaDoorJBatA
import Derived.WalkKit
import Derived.Deep.RegionHeld3
import Derived.RegionTactic
import Derived.BigRegion
/- The contract of the landed hasForm's own function: is a number from one to another? -/
namespace Go.Proofs.YtodklilnmianeaaDoor.Bat
open Go.RowKit Go.Proofs.YtodklilnmianeaaDoor.Oct Go.Proofs.YtodklilnmianeaaDoor.Rec Go.Proofs.YtodklilnmianeaaDoor.Crc
def inL (v lo hi : Int) : Bool := decide (lo ≤ v ∧ v ≤ hi)
theorem within_any (a : Addr) (v lo hi : Int) (w : World) (hv : w.cell? a = some (.int .i64 v)) {b : Bool} (hb : inL v lo hi = b) :
    Calls Tryd.prog 68 #[.pointer (some a), .int .i64 lo, .int .i64 hi] w fun e w' => e = .returned (.bool b) ∧ w = w' := by
  subst hb
  go_enter Tryd.func68, Tryd.ntmps68
  go_wp2
  all_goals go_ret
  all_goals refine ⟨?_, rfl⟩
  · rename_i h; exact ret_bool (by simp [inL]; omega)
  · rename_i h; exact ret_bool (by simp [inL]; omega)
theorem within_q (a : Addr) (v lo hi : Int) (w : World) (k : Nat) (hv : w.cell? a = some (.int .i64 v)) {b : Bool} (hb : inL v lo hi = b) :
    Calls Tryd.prog 68 #[.pointer (some a), .int .i64 lo, .int .i64 hi] (w.drewN (1 + k)) fun e w' => e = .returned (.bool b) ∧ ∃ n, w' = w.drewN (1 + n) :=
  (within_any a v lo hi (w.drewN (1 + k)) hv hb).mono fun _ _ h => ⟨h.1, k, h.2.symm⟩
end Go.Proofs.YtodklilnmianeaaDoor.Bat

/- A region that draws its order, operation by operation: one that is not wanted, one that only reckons, the only one that may come up. Nothing of the program. -/
namespace Go.Proofs.YtodklilnmianeaaDoor.Bat
open Go.RowKit
section
variable {P : Program} {ops : Array Oper} {Q : Exit → Act → World → Prop} {md : Region.Mode}
theorem takeU (i : Nat) (oi : Oper) {fuel : Nat} {listed : Array Bool} {a : Act} {w : World} (hi : ops[i]? = some oi) (hs : Region.noSelect ops = true) (hf : Region.free md ops listed i = true) (hr : (Region.ready md ops listed).contains i = true)
    (hw : Region.wanted oi (yielded ops a.tmps) = false) (h : wpAnyH P md ops Q (fun _ => True) fuel (listed.setIfInBounds i true) (a.put oi.dst undef) w) (hQ : ∀ c a w, Q (.panic c) (a.put oi.dst undef) w → Q (.panic c) a w := by exact fun _ _ _ h => h) : wpAnyH P md ops Q (fun _ => True) (fuel + 1) listed a w :=
  wpAnyH_take hi hs hf hr hQ (Or.inr ⟨hw, rfl⟩) trivial h
theorem takeP (i : Nat) (oi : Oper) (v : Value) {fuel : Nat} {listed : Array Bool} {a : Act} {w : World} (hi : ops[i]? = some oi) (hs : Region.noSelect ops = true) (hf : Region.free md ops listed i = true) (hr : (Region.ready md ops listed).contains i = true)
    (hw : Region.wanted oi (yielded ops a.tmps) = true) (hy : ∀ w : World, True → (execOp a.eval oi).run P w = .ok (.value v) w) (h : wpAnyH P md ops Q (fun _ => True) fuel (listed.setIfInBounds i true) (a.put oi.dst v) w) (hQ : ∀ c a w, Q (.panic c) (a.put oi.dst v) w → Q (.panic c) a w := by exact fun _ _ _ h => h) : wpAnyH P md ops Q (fun _ => True) (fuel + 1) listed a w :=
  wpAnyH_take hi hs hf hr hQ (Or.inl ⟨hw, hy⟩) trivial h
theorem takeB (i : Nat) (oi : Oper) {fuel : Nat} {listed : Array Bool} {a : Act} {w : World} (hr : Region.ready md ops listed = [i]) (hi : ops[i]? = some oi)
    (h : ∀ K' : Act → World → Prop, Shut (∀ a w, (fun _ : World => True) w → ((fun _ : World => True) w → wpAnyH P md ops Q (fun _ => True) fuel (listed.setIfInBounds i true) a w) → K' a w) → if Region.wanted oi (yielded ops a.tmps) = true then Oper.wp P oi a w K' Q else K' (a.put oi.dst undef) w) : wpAnyH P md ops Q (fun _ => True) (fuel + 1) listed a w :=
  wpAnyH_ready hr (by simp) (AllReadyH.cons hi h AllReadyH.nil)
end
end Go.Proofs.YtodklilnmianeaaDoor.Bat

/- The contract of the landed eachNumber, handed write$1: it is called number by number till it answers false. -/
namespace Go.Proofs.YtodklilnmianeaaDoor.Bat
open Go.RowKit Go.Proofs.YtodklilnmianeaaDoor.Oct Go.Proofs.YtodklilnmianeaaDoor.Rec Go.Proofs.YtodklilnmianeaaDoor.Crc

set_option maxRecDepth 100000 in
set_option maxHeartbeats 8000000 in
theorem each_E27 (cx g : Nat) (ba la sp u0 u1 : Int) (w : World) (hg : g < w.heap.size) (c0 : w.cell? ⟨g, 0, none⟩ = some (.int .i64 ba)) (c1 : w.cell? ⟨g, 1, none⟩ = some (.int .i64 la)) (hsp : IntKind.i64.wrap (la - ba) = sp) (J : Nat → World → Prop) (h0 : J 0 (w.alloc (.cells #[.int .i64 sp] 3)).drew.drew) (jS : ∀ k w1, J k w1 → ∃ x y, w1.cell? ⟨g, 0, none⟩ = some (.int .i64 x) ∧ w1.cell? ⟨w.heap.size, 0, none⟩ = some (.int .i64 y)) (j7 : ∀ w1, J 7 w1 → w1.cell? ⟨g, 0, none⟩ = some (.int .i64 u0) ∧ w1.cell? ⟨w.heap.size, 0, none⟩ = some (.int .i64 u1) ∧ (∃ z, w1.cell? ⟨g, 1, none⟩ = some (.int .i64 z)) ∧ w1.frozen? ⟨g, 1, none⟩ = false) (s0 : ∀ w1 lo hi, J 0 w1 → Calls Tryd.prog 70 #[.pointer (some ⟨g, 0, none⟩), .int .i64 lo, .int .i64 hi, .pointer (some ⟨cx, 0, none⟩)] w1 fun e w2 => e = .returned (.bool true) ∧ J 1 w2) (s1 : ∀ w1 lo hi, J 1 w1 → Calls Tryd.prog 70 #[.pointer (some ⟨w.heap.size, 0, none⟩), .int .i64 lo, .int .i64 hi, .pointer (some ⟨cx, 0, none⟩)] w1 fun e w2 => e = .returned (.bool true) ∧ J 2 w2) (s2 : ∀ w1 lo hi, J 2 w1 → Calls Tryd.prog 70 #[.pointer (some ⟨g, 2, none⟩), .int .i64 lo, .int .i64 hi, .pointer (some ⟨cx, 0, none⟩)] w1 fun e w2 => e = .returned (.bool true) ∧ J 3 w2) (s3 : ∀ w1 lo hi, J 3 w1 → Calls Tryd.prog 70 #[.pointer (some ⟨g, 3, none⟩), .int .i64 lo, .int .i64 hi, .pointer (some ⟨cx, 0, none⟩)] w1 fun e w2 => e = .returned (.bool true) ∧ J 4 w2) (s4 : ∀ w1 lo hi, J 4 w1 → Calls Tryd.prog 70 #[.pointer (some ⟨g, 4, none⟩), .int .i64 lo, .int .i64 hi, .pointer (some ⟨cx, 0, none⟩)] w1 fun e w2 => e = .returned (.bool true) ∧ J 5 w2) (s5 : ∀ w1 lo hi, J 5 w1 → Calls Tryd.prog 70 #[.pointer (some ⟨g, 5, none⟩), .int .i64 lo, .int .i64 hi, .pointer (some ⟨cx, 0, none⟩)] w1 fun e w2 => e = .returned (.bool true) ∧ J 6 w2) (s6 : ∀ w1 lo hi, J 6 w1 → Calls Tryd.prog 70 #[.pointer (some ⟨g, 6, none⟩), .int .i64 lo, .int .i64 hi, .pointer (some ⟨cx, 0, none⟩)] w1 fun e w2 => e = .returned (.bool true) ∧ J 7 w2) :
    Calls Tryd.prog 60 #[.pointer (some ⟨g, 0, none⟩), .func (.func 70) #[] #[.pointer (some ⟨cx, 0, none⟩)]] w fun e w2 => e = .returned (.bool true) ∧ ∃ w1, J 7 w1 ∧ (w1.setCell ⟨g, 1, none⟩ (.int .i64 (wrap64 (u0 + u1)))).drew = w2 := by
  have HJ0 := Lib.hid h0
  clear h0
  go_enter Tryd.func60, Tryd.ntmps60
  go_wp2
  go_region
  go_wp2
  refine wp_region_held_drew (S := fun _ => True) (by kernel_rfl) trivial (fun hHeld => ?_)
  clear hHeld
  refine takeP 0 ⟨some 16, .move (.tmp 1), 78, "batch.go:149", #[], none⟩ ?_ rfl (by kernel_rfl) (by kernel_rfl) (by kernel_rfl) (by rfl) ?_ ?_
  rotate_left
  · intro w hSw; go_simp; (first | done | with_reducible rfl)
  try simp only [Act.put, List.setIfInBounds_toArray, List.set_cons_zero, List.set_cons_succ]
  refine takeP 1 ⟨some 17, .move (.tmp 0), 77, "batch.go:149", #[], none⟩ ?_ rfl (by kernel_rfl) (by kernel_rfl) (by kernel_rfl) (by rfl) ?_ ?_
  rotate_left
  · intro w hSw; go_simp; (first | done | with_reducible rfl)
  try simp only [Act.put, List.setIfInBounds_toArray, List.set_cons_zero, List.set_cons_succ]
  refine takeP 2 ⟨some 18, .nilCheck (.tmp 17), 0, "batch.go:149", #[⟨1, .data⟩], none⟩ ?_ rfl (by kernel_rfl) (by kernel_rfl) (by kernel_rfl) (by rfl) ?_ ?_
  rotate_left
  · intro w hSw; go_simp; (first | done | with_reducible rfl)
  try simp only [Act.put, List.setIfInBounds_toArray, List.set_cons_zero, List.set_cons_succ]
  refine takeP 3 ⟨some 19, .fieldAddr 24 (.tmp 18) 0, 0, "batch.go:149", #[⟨2, .data⟩], none⟩ ?_ rfl (by kernel_rfl) (by kernel_rfl) (by kernel_rfl) (by rfl) ?_ ?_
  rotate_left
  · intro w hSw; go_simp; (first | done | with_reducible rfl)
  try simp only [Act.put, List.setIfInBounds_toArray, List.set_cons_zero, List.set_cons_succ]
  refine takeB 4 ⟨some 20, .call { callee := .value (.tmp 16), args := #[.tmp 19, .const (.int .i64 0), .const (.int .i64 1099511627776)], argTypes := #[72, 3, 3] }, 4, "batch.go:149", #[⟨0, .data⟩, ⟨3, .data⟩], none⟩ (by kernel_rfl) rfl (fun K hK => ?_)
  go_simp
  with_reducible refine (s0 _ _ _ HJ0.out).mono ?_
  rintro e w1 ⟨rfl, hj1⟩
  dsimp only
  have HJ1 := Lib.hid hj1
  obtain ⟨x1, y1, d1, f1⟩ := jS _ _ hj1
  clear hj1
  refine hK.out _ _ trivial (fun hHeld => ?_)
  clear hK K hHeld
  try simp only [Act.put, List.setIfInBounds_toArray, List.set_cons_zero, List.set_cons_succ]
  refine takeP 5 ⟨some 21, .move (.tmp 20), 4, "batch.go:149", #[⟨4, .data⟩, ⟨4, .chain⟩], none⟩ ?_ rfl (by kernel_rfl) (by kernel_rfl) (by kernel_rfl) (by rfl) ?_ ?_
  rotate_left
  · intro w hSw; go_simp; (first | done | with_reducible rfl)
  try simp only [Act.put, List.setIfInBounds_toArray, List.set_cons_zero, List.set_cons_succ]
  refine takeP 6 ⟨some 22, .move (.tmp 1), 78, "batch.go:149", #[⟨5, .guard⟩], some (5, true)⟩ ?_ rfl (by kernel_rfl) (by kernel_rfl) (by kernel_rfl) (by rfl) ?_ ?_
  rotate_left
  · intro w hSw; go_simp; (first | done | with_reducible rfl)
  try simp only [Act.put, List.setIfInBounds_toArray, List.set_cons_zero, List.set_cons_succ]
  refine takeP 7 ⟨some 23, .move (.tmp 0), 77, "batch.go:149", #[⟨5, .guard⟩], some (5, true)⟩ ?_ rfl (by kernel_rfl) (by kernel_rfl) (by kernel_rfl) (by rfl) ?_ ?_
  rotate_left
  · intro w hSw; go_simp; (first | done | with_reducible rfl)
  try simp only [Act.put, List.setIfInBounds_toArray, List.set_cons_zero, List.set_cons_succ]
  refine takeP 8 ⟨some 24, .nilCheck (.tmp 23), 0, "batch.go:149", #[⟨7, .data⟩, ⟨5, .guard⟩], some (5, true)⟩ ?_ rfl (by kernel_rfl) (by kernel_rfl) (by kernel_rfl) (by rfl) ?_ ?_
  rotate_left
  · intro w hSw; go_simp; (first | done | with_reducible rfl)
  try simp only [Act.put, List.setIfInBounds_toArray, List.set_cons_zero, List.set_cons_succ]
  refine takeP 9 ⟨some 25, .fieldAddr 24 (.tmp 24) 0, 0, "batch.go:149", #[⟨8, .data⟩, ⟨5, .guard⟩], some (5, true)⟩ ?_ rfl (by kernel_rfl) (by kernel_rfl) (by kernel_rfl) (by rfl) ?_ ?_
  rotate_left
  · intro w hSw; go_simp; (first | done | with_reducible rfl)
  try simp only [Act.put, List.setIfInBounds_toArray, List.set_cons_zero, List.set_cons_succ]
  refine takeB 10 ⟨some 26, .load 3 (.tmp 25), 3, "batch.go:149", #[⟨9, .data⟩, ⟨5, .guard⟩], some (5, true)⟩ (by kernel_rfl) rfl (fun K hK => ?_)
  go_simp
  refine hK.out _ _ trivial (fun hHeld => ?_)
  clear hK K hHeld
  try simp only [Act.put, List.setIfInBounds_toArray, List.set_cons_zero, List.set_cons_succ]
  refine takeP 11 ⟨some 27, .binOp .sub 3 (.const (.int .i64 1099511627776)) (.tmp 26) 3, 3, "batch.go:149", #[⟨10, .data⟩, ⟨5, .guard⟩], some (5, true)⟩ ?_ rfl (by kernel_rfl) (by kernel_rfl) (by kernel_rfl) (by rfl) ?_ ?_
  rotate_left
  · intro w hSw; go_simp; (first | done | with_reducible rfl)
  try simp only [Act.put, List.setIfInBounds_toArray, List.set_cons_zero, List.set_cons_succ]
  refine takeB 12 ⟨some 28, .call { callee := Callee.builtin Builtin.min, args := #[.const (.int .i64 15), .tmp 27], argTypes := #[3, 3] }, 3, "batch.go:149", #[⟨11, .data⟩, ⟨5, .guard⟩], some (5, true)⟩ (by kernel_rfl) rfl (fun K hK => ?_)
  go_simp
  refine hK.out _ _ trivial (fun hHeld => ?_)
  clear hK K hHeld
  try simp only [Act.put, List.setIfInBounds_toArray, List.set_cons_zero, List.set_cons_succ]
  refine takeB 13 ⟨some 29, .call { callee := .value (.tmp 22), args := #[.tmp 5, .const (.int .i64 0), .tmp 28], argTypes := #[72, 3, 3] }, 4, "batch.go:150", #[⟨6, .data⟩, ⟨12, .data⟩, ⟨5, .chain⟩, ⟨5, .guard⟩], some (5, true)⟩ (by kernel_rfl) rfl (fun K hK => ?_)
  go_simp
  generalize (if IntKind.i64.wrap (1099511627776 - x1) < 15 then IntKind.i64.wrap (1099511627776 - x1) else 15) = h1
  with_reducible refine (s1 _ _ _ HJ1.out).mono ?_
  rintro e w2 ⟨rfl, hj2⟩
  dsimp only
  have HJ2 := Lib.hid hj2
  obtain ⟨x2, y2, d2, f2⟩ := jS _ _ hj2
  clear hj2
  refine hK.out _ _ trivial (fun hHeld => ?_)
  clear hK K hHeld
  try simp only [Act.put, List.setIfInBounds_toArray, List.set_cons_zero, List.set_cons_succ]
  refine takeP 14 ⟨some 30, .pick (.tmp 21) (.tmp 29) (.const (.bool false)), 4, "batch.go:149", #[⟨5, .data⟩, ⟨13, .data⟩], none⟩ ?_ rfl (by kernel_rfl) (by kernel_rfl) (by kernel_rfl) (by rfl) ?_ ?_
  rotate_left
  · intro w hSw; go_simp; (first | done | with_reducible rfl)
  try simp only [Act.put, List.setIfInBounds_toArray, List.set_cons_zero, List.set_cons_succ]
  refine takeP 15 ⟨some 31, .move (.tmp 30), 4, "batch.go:149", #[⟨14, .data⟩, ⟨13, .chain⟩], none⟩ ?_ rfl (by kernel_rfl) (by kernel_rfl) (by kernel_rfl) (by rfl) ?_ ?_
  rotate_left
  · intro w hSw; go_simp; (first | done | with_reducible rfl)
  try simp only [Act.put, List.setIfInBounds_toArray, List.set_cons_zero, List.set_cons_succ]
  refine takeP 16 ⟨some 32, .move (.tmp 1), 78, "batch.go:149", #[⟨15, .guard⟩], some (15, true)⟩ ?_ rfl (by kernel_rfl) (by kernel_rfl) (by kernel_rfl) (by rfl) ?_ ?_
  rotate_left
  · intro w hSw; go_simp; (first | done | with_reducible rfl)
  try simp only [Act.put, List.setIfInBounds_toArray, List.set_cons_zero, List.set_cons_succ]
  refine takeP 17 ⟨some 33, .move (.tmp 0), 77, "batch.go:149", #[⟨15, .guard⟩], some (15, true)⟩ ?_ rfl (by kernel_rfl) (by kernel_rfl) (by kernel_rfl) (by rfl) ?_ ?_
  rotate_left
  · intro w hSw; go_simp; (first | done | with_reducible rfl)
  try simp only [Act.put, List.setIfInBounds_toArray, List.set_cons_zero, List.set_cons_succ]
  refine takeP 18 ⟨some 34, .nilCheck (.tmp 33), 0, "batch.go:149", #[⟨17, .data⟩, ⟨15, .guard⟩], some (15, true)⟩ ?_ rfl (by kernel_rfl) (by kernel_rfl) (by kernel_rfl) (by rfl) ?_ ?_
  rotate_left
  · intro w hSw; go_simp; (first | done | with_reducible rfl)
  try simp only [Act.put, List.setIfInBounds_toArray, List.set_cons_zero, List.set_cons_succ]
  refine takeP 19 ⟨some 35, .fieldAddr 24 (.tmp 34) 2, 0, "batch.go:149", #[⟨18, .data⟩, ⟨15, .guard⟩], some (15, true)⟩ ?_ rfl (by kernel_rfl) (by kernel_rfl) (by kernel_rfl) (by rfl) ?_ ?_
  rotate_left
  · intro w hSw; go_simp; (first | done | with_reducible rfl)
  try simp only [Act.put, List.setIfInBounds_toArray, List.set_cons_zero, List.set_cons_succ]
  refine takeB 20 ⟨some 36, .load 3 (.tmp 5), 3, "batch.go:149", #[⟨15, .guard⟩], some (15, true)⟩ (by kernel_rfl) rfl (fun K hK => ?_)
  go_simp
  refine hK.out _ _ trivial (fun hHeld => ?_)
  clear hK K hHeld
  try simp only [Act.put, List.setIfInBounds_toArray, List.set_cons_zero, List.set_cons_succ]
  refine takeP 21 ⟨some 37, .binOp .sub 3 (.const (.int .i64 1099511627776)) (.tmp 36) 3, 3, "batch.go:149", #[⟨20, .data⟩, ⟨15, .guard⟩], some (15, true)⟩ ?_ rfl (by kernel_rfl) (by kernel_rfl) (by kernel_rfl) (by rfl) ?_ ?_
  rotate_left
  · intro w hSw; go_simp; (first | done | with_reducible rfl)
  try simp only [Act.put, List.setIfInBounds_toArray, List.set_cons_zero, List.set_cons_succ]
  refine takeB 22 ⟨some 38, .call { callee := .value (.tmp 32), args := #[.tmp 35, .const (.int .i64 0), .tmp 37], argTypes := #[72, 3, 3] }, 4, "batch.go:151", #[⟨16, .data⟩, ⟨19, .data⟩, ⟨21, .data⟩, ⟨15, .chain⟩, ⟨15, .guard⟩], some (15, true)⟩ (by kernel_rfl) rfl (fun K hK => ?_)
  go_simp
  with_reducible refine (s2 _ _ _ HJ2.out).mono ?_
  rintro e w3 ⟨rfl, hj3⟩
  dsimp only
  have HJ3 := Lib.hid hj3
  obtain ⟨x3, y3, d3, f3⟩ := jS _ _ hj3
  clear hj3
  refine hK.out _ _ trivial (fun hHeld => ?_)
  clear hK K hHeld
  try simp only [Act.put, List.setIfInBounds_toArray, List.set_cons_zero, List.set_cons_succ]
  refine takeP 23 ⟨some 39, .pick (.tmp 31) (.tmp 38) (.const (.bool false)), 4, "batch.go:149", #[⟨15, .data⟩, ⟨22, .data⟩], none⟩ ?_ rfl (by kernel_rfl) (by kernel_rfl) (by kernel_rfl) (by rfl) ?_ ?_
  rotate_left
  · intro w hSw; go_simp; (first | done | with_reducible rfl)
  try simp only [Act.put, List.setIfInBounds_toArray, List.set_cons_zero, List.set_cons_succ]
  refine takeP 24 ⟨some 40, .move (.tmp 39), 4, "batch.go:149", #[⟨23, .data⟩, ⟨22, .chain⟩], none⟩ ?_ rfl (by kernel_rfl) (by kernel_rfl) (by kernel_rfl) (by rfl) ?_ ?_
  rotate_left
  · intro w hSw; go_simp; (first | done | with_reducible rfl)
  try simp only [Act.put, List.setIfInBounds_toArray, List.set_cons_zero, List.set_cons_succ]
  refine takeP 25 ⟨some 41, .move (.tmp 1), 78, "batch.go:149", #[⟨24, .guard⟩], some (24, true)⟩ ?_ rfl (by kernel_rfl) (by kernel_rfl) (by kernel_rfl) (by rfl) ?_ ?_
  rotate_left
  · intro w hSw; go_simp; (first | done | with_reducible rfl)
  try simp only [Act.put, List.setIfInBounds_toArray, List.set_cons_zero, List.set_cons_succ]
  refine takeP 26 ⟨some 42, .move (.tmp 0), 77, "batch.go:149", #[⟨24, .guard⟩], some (24, true)⟩ ?_ rfl (by kernel_rfl) (by kernel_rfl) (by kernel_rfl) (by rfl) ?_ ?_
  rotate_left
  · intro w hSw; go_simp; (first | done | with_reducible rfl)
  try simp only [Act.put, List.setIfInBounds_toArray, List.set_cons_zero, List.set_cons_succ]
  refine takeP 27 ⟨some 43, .nilCheck (.tmp 42), 0, "batch.go:149", #[⟨26, .data⟩, ⟨24, .guard⟩], some (24, true)⟩ ?_ rfl (by kernel_rfl) (by kernel_rfl) (by kernel_rfl) (by rfl) ?_ ?_
  rotate_left
  · intro w hSw; go_simp; (first | done | with_reducible rfl)
  try simp only [Act.put, List.setIfInBounds_toArray, List.set_cons_zero, List.set_cons_succ]
  refine takeP 28 ⟨some 44, .fieldAddr 24 (.tmp 43) 3, 0, "batch.go:149", #[⟨27, .data⟩, ⟨24, .guard⟩], some (24, true)⟩ ?_ rfl (by kernel_rfl) (by kernel_rfl) (by kernel_rfl) (by rfl) ?_ ?_
  rotate_left
  · intro w hSw; go_simp; (first | done | with_reducible rfl)
  try simp only [Act.put, List.setIfInBounds_toArray, List.set_cons_zero, List.set_cons_succ]
  refine takeB 29 ⟨some 45, .call { callee := .value (.tmp 41), args := #[.tmp 44, .const (.int .i64 0), .const (.int .i64 1048576)], argTypes := #[72, 3, 3] }, 4, "batch.go:152", #[⟨25, .data⟩, ⟨28, .data⟩, ⟨24, .chain⟩, ⟨24, .guard⟩], some (24, true)⟩ (by kernel_rfl) rfl (fun K hK => ?_)
  go_simp
  with_reducible refine (s3 _ _ _ HJ3.out).mono ?_
  rintro e w4 ⟨rfl, hj4⟩
  dsimp only
  have HJ4 := Lib.hid hj4
  obtain ⟨x4, y4, d4, f4⟩ := jS _ _ hj4
  clear hj4
  refine hK.out _ _ trivial (fun hHeld => ?_)
  clear hK K hHeld
  try simp only [Act.put, List.setIfInBounds_toArray, List.set_cons_zero, List.set_cons_succ]
  refine takeP 30 ⟨some 46, .pick (.tmp 40) (.tmp 45) (.const (.bool false)), 4, "batch.go:149", #[⟨24, .data⟩, ⟨29, .data⟩], none⟩ ?_ rfl (by kernel_rfl) (by kernel_rfl) (by kernel_rfl) (by rfl) ?_ ?_
  rotate_left
  · intro w hSw; go_simp; (first | done | with_reducible rfl)
  try simp only [Act.put, List.setIfInBounds_toArray, List.set_cons_zero, List.set_cons_succ]
  refine takeP 31 ⟨some 47, .move (.tmp 46), 4, "batch.go:149", #[⟨30, .data⟩, ⟨29, .chain⟩], none⟩ ?_ rfl (by kernel_rfl) (by kernel_rfl) (by kernel_rfl) (by rfl) ?_ ?_
  rotate_left
  · intro w hSw; go_simp; (first | done | with_reducible rfl)
  try simp only [Act.put, List.setIfInBounds_toArray, List.set_cons_zero, List.set_cons_succ]
  refine takeP 32 ⟨some 48, .move (.tmp 1), 78, "batch.go:149", #[⟨31, .guard⟩], some (31, true)⟩ ?_ rfl (by kernel_rfl) (by kernel_rfl) (by kernel_rfl) (by rfl) ?_ ?_
  rotate_left
  · intro w hSw; go_simp; (first | done | with_reducible rfl)
  try simp only [Act.put, List.setIfInBounds_toArray, List.set_cons_zero, List.set_cons_succ]
  refine takeP 33 ⟨some 49, .move (.tmp 0), 77, "batch.go:149", #[⟨31, .guard⟩], some (31, true)⟩ ?_ rfl (by kernel_rfl) (by kernel_rfl) (by kernel_rfl) (by rfl) ?_ ?_
  rotate_left
  · intro w hSw; go_simp; (first | done | with_reducible rfl)
  try simp only [Act.put, List.setIfInBounds_toArray, List.set_cons_zero, List.set_cons_succ]
  refine takeP 34 ⟨some 50, .nilCheck (.tmp 49), 0, "batch.go:149", #[⟨33, .data⟩, ⟨31, .guard⟩], some (31, true)⟩ ?_ rfl (by kernel_rfl) (by kernel_rfl) (by kernel_rfl) (by rfl) ?_ ?_
  rotate_left
  · intro w hSw; go_simp; (first | done | with_reducible rfl)
  try simp only [Act.put, List.setIfInBounds_toArray, List.set_cons_zero, List.set_cons_succ]
  refine takeP 35 ⟨some 51, .fieldAddr 24 (.tmp 50) 4, 0, "batch.go:149", #[⟨34, .data⟩, ⟨31, .guard⟩], some (31, true)⟩ ?_ rfl (by kernel_rfl) (by kernel_rfl) (by kernel_rfl) (by rfl) ?_ ?_
  rotate_left
  · intro w hSw; go_simp; (first | done | with_reducible rfl)
  try simp only [Act.put, List.setIfInBounds_toArray, List.set_cons_zero, List.set_cons_succ]
  refine takeB 36 ⟨some 52, .call { callee := .value (.tmp 48), args := #[.tmp 51, .const (.int .i64 (-1)), .const (.int .i64 1099511627776)], argTypes := #[72, 3, 3] }, 4, "batch.go:153", #[⟨32, .data⟩, ⟨35, .data⟩, ⟨31, .chain⟩, ⟨31, .guard⟩], some (31, true)⟩ (by kernel_rfl) rfl (fun K hK => ?_)
  go_simp
  with_reducible refine (s4 _ _ _ HJ4.out).mono ?_
  rintro e w5 ⟨rfl, hj5⟩
  dsimp only
  have HJ5 := Lib.hid hj5
  obtain ⟨x5, y5, d5, f5⟩ := jS _ _ hj5
  clear hj5
  refine hK.out _ _ trivial (fun hHeld => ?_)
  clear hK K hHeld
  try simp only [Act.put, List.setIfInBounds_toArray, List.set_cons_zero, List.set_cons_succ]
  refine takeP 37 ⟨some 53, .pick (.tmp 47) (.tmp 52) (.const (.bool false)), 4, "batch.go:149", #[⟨31, .data⟩, ⟨36, .data⟩], none⟩ ?_ rfl (by kernel_rfl) (by kernel_rfl) (by kernel_rfl) (by rfl) ?_ ?_
  rotate_left
  · intro w hSw; go_simp; (first | done | with_reducible rfl)
  try simp only [Act.put, List.setIfInBounds_toArray, List.set_cons_zero, List.set_cons_succ]
  refine takeP 38 ⟨some 54, .move (.tmp 53), 4, "batch.go:149", #[⟨37, .data⟩, ⟨36, .chain⟩], none⟩ ?_ rfl (by kernel_rfl) (by kernel_rfl) (by kernel_rfl) (by rfl) ?_ ?_
  rotate_left
  · intro w hSw; go_simp; (first | done | with_reducible rfl)
  try simp only [Act.put, List.setIfInBounds_toArray, List.set_cons_zero, List.set_cons_succ]
  refine takeP 39 ⟨some 55, .move (.tmp 1), 78, "batch.go:149", #[⟨38, .guard⟩], some (38, true)⟩ ?_ rfl (by kernel_rfl) (by kernel_rfl) (by kernel_rfl) (by rfl) ?_ ?_
  rotate_left
  · intro w hSw; go_simp; (first | done | with_reducible rfl)
  try simp only [Act.put, List.setIfInBounds_toArray, List.set_cons_zero, List.set_cons_succ]
  refine takeP 40 ⟨some 56, .move (.tmp 0), 77, "batch.go:149", #[⟨38, .guard⟩], some (38, true)⟩ ?_ rfl (by kernel_rfl) (by kernel_rfl) (by kernel_rfl) (by rfl) ?_ ?_
  rotate_left
  · intro w hSw; go_simp; (first | done | with_reducible rfl)
  try simp only [Act.put, List.setIfInBounds_toArray, List.set_cons_zero, List.set_cons_succ]
  refine takeP 41 ⟨some 57, .nilCheck (.tmp 56), 0, "batch.go:149", #[⟨40, .data⟩, ⟨38, .guard⟩], some (38, true)⟩ ?_ rfl (by kernel_rfl) (by kernel_rfl) (by kernel_rfl) (by rfl) ?_ ?_
  rotate_left
  · intro w hSw; go_simp; (first | done | with_reducible rfl)
  try simp only [Act.put, List.setIfInBounds_toArray, List.set_cons_zero, List.set_cons_succ]
  refine takeP 42 ⟨some 58, .fieldAddr 24 (.tmp 57) 5, 0, "batch.go:149", #[⟨41, .data⟩, ⟨38, .guard⟩], some (38, true)⟩ ?_ rfl (by kernel_rfl) (by kernel_rfl) (by kernel_rfl) (by rfl) ?_ ?_
  rotate_left
  · intro w hSw; go_simp; (first | done | with_reducible rfl)
  try simp only [Act.put, List.setIfInBounds_toArray, List.set_cons_zero, List.set_cons_succ]
  refine takeB 43 ⟨some 59, .call { callee := .value (.tmp 55), args := #[.tmp 58, .const (.int .i64 0), .const (.int .i64 1048576)], argTypes := #[72, 3, 3] }, 4, "batch.go:154", #[⟨39, .data⟩, ⟨42, .data⟩, ⟨38, .chain⟩, ⟨38, .guard⟩], some (38, true)⟩ (by kernel_rfl) rfl (fun K hK => ?_)
  go_simp
  with_reducible refine (s5 _ _ _ HJ5.out).mono ?_
  rintro e w6 ⟨rfl, hj6⟩
  dsimp only
  have HJ6 := Lib.hid hj6
  obtain ⟨x6, y6, d6, f6⟩ := jS _ _ hj6
  clear hj6
  refine hK.out _ _ trivial (fun hHeld => ?_)
  clear hK K hHeld
  try simp only [Act.put, List.setIfInBounds_toArray, List.set_cons_zero, List.set_cons_succ]
  refine takeP 44 ⟨some 60, .pick (.tmp 54) (.tmp 59) (.const (.bool false)), 4, "batch.go:149", #[⟨38, .data⟩, ⟨43, .data⟩], none⟩ ?_ rfl (by kernel_rfl) (by kernel_rfl) (by kernel_rfl) (by rfl) ?_ ?_
  rotate_left
  · intro w hSw; go_simp; (first | done | with_reducible rfl)
  try simp only [Act.put, List.setIfInBounds_toArray, List.set_cons_zero, List.set_cons_succ]
  refine takeP 45 ⟨some 61, .move (.tmp 60), 4, "batch.go:149", #[⟨44, .data⟩, ⟨43, .chain⟩], none⟩ ?_ rfl (by kernel_rfl) (by kernel_rfl) (by kernel_rfl) (by rfl) ?_ ?_
  rotate_left
  · intro w hSw; go_simp; (first | done | with_reducible rfl)
  try simp only [Act.put, List.setIfInBounds_toArray, List.set_cons_zero, List.set_cons_succ]
  refine takeP 46 ⟨some 62, .move (.tmp 1), 78, "batch.go:149", #[⟨45, .guard⟩], some (45, true)⟩ ?_ rfl (by kernel_rfl) (by kernel_rfl) (by kernel_rfl) (by rfl) ?_ ?_
  rotate_left
  · intro w hSw; go_simp; (first | done | with_reducible rfl)
  try simp only [Act.put, List.setIfInBounds_toArray, List.set_cons_zero, List.set_cons_succ]
  refine takeP 47 ⟨some 63, .move (.tmp 0), 77, "batch.go:149", #[⟨45, .guard⟩], some (45, true)⟩ ?_ rfl (by kernel_rfl) (by kernel_rfl) (by kernel_rfl) (by rfl) ?_ ?_
  rotate_left
  · intro w hSw; go_simp; (first | done | with_reducible rfl)
  try simp only [Act.put, List.setIfInBounds_toArray, List.set_cons_zero, List.set_cons_succ]
  refine takeP 48 ⟨some 64, .nilCheck (.tmp 63), 0, "batch.go:149", #[⟨47, .data⟩, ⟨45, .guard⟩], some (45, true)⟩ ?_ rfl (by kernel_rfl) (by kernel_rfl) (by kernel_rfl) (by rfl) ?_ ?_
  rotate_left
  · intro w hSw; go_simp; (first | done | with_reducible rfl)
  try simp only [Act.put, List.setIfInBounds_toArray, List.set_cons_zero, List.set_cons_succ]
  refine takeP 49 ⟨some 65, .fieldAddr 24 (.tmp 64) 6, 0, "batch.go:149", #[⟨48, .data⟩, ⟨45, .guard⟩], some (45, true)⟩ ?_ rfl (by kernel_rfl) (by kernel_rfl) (by kernel_rfl) (by rfl) ?_ ?_
  rotate_left
  · intro w hSw; go_simp; (first | done | with_reducible rfl)
  try simp only [Act.put, List.setIfInBounds_toArray, List.set_cons_zero, List.set_cons_succ]
  refine takeB 50 ⟨some 66, .load 3 (.tmp 5), 3, "batch.go:149", #[⟨45, .guard⟩], some (45, true)⟩ (by kernel_rfl) rfl (fun K hK => ?_)
  go_simp
  refine hK.out _ _ trivial (fun hHeld => ?_)
  clear hK K hHeld
  try simp only [Act.put, List.setIfInBounds_toArray, List.set_cons_zero, List.set_cons_succ]
  refine takeP 51 ⟨some 67, .binOp .sub 3 (.const (.int .i64 1048576)) (.tmp 66) 3, 3, "batch.go:149", #[⟨50, .data⟩, ⟨45, .guard⟩], some (45, true)⟩ ?_ rfl (by kernel_rfl) (by kernel_rfl) (by kernel_rfl) (by rfl) ?_ ?_
  rotate_left
  · intro w hSw; go_simp; (first | done | with_reducible rfl)
  try simp only [Act.put, List.setIfInBounds_toArray, List.set_cons_zero, List.set_cons_succ]
  refine takeB 52 ⟨some 68, .call { callee := .value (.tmp 62), args := #[.tmp 65, .const (.int .i64 0), .tmp 67], argTypes := #[72, 3, 3] }, 4, "batch.go:155", #[⟨46, .data⟩, ⟨49, .data⟩, ⟨51, .data⟩, ⟨45, .chain⟩, ⟨45, .guard⟩], some (45, true)⟩ (by kernel_rfl) rfl (fun K hK => ?_)
  go_simp
  with_reducible refine (s6 _ _ _ HJ6.out).mono ?_
  rintro e w7 ⟨rfl, hj7⟩
  dsimp only
  have HJ7 := Lib.hid hj7
  obtain ⟨z0, z1, ⟨z, z2⟩, z3⟩ := j7 _ hj7
  clear hj7
  refine hK.out _ _ trivial (fun hHeld => ?_)
  clear hK K hHeld
  try simp only [Act.put, List.setIfInBounds_toArray, List.set_cons_zero, List.set_cons_succ]
  refine takeP 53 ⟨some 69, .pick (.tmp 61) (.tmp 68) (.const (.bool false)), 4, "batch.go:149", #[⟨45, .data⟩, ⟨52, .data⟩], none⟩ ?_ rfl (by kernel_rfl) (by kernel_rfl) (by kernel_rfl) (by rfl) ?_ ?_
  rotate_left
  · intro w hSw; go_simp; (first | done | with_reducible rfl)
  try simp only [Act.put, List.setIfInBounds_toArray, List.set_cons_zero, List.set_cons_succ]
  refine takeP 54 ⟨some 6, .assign (.tmp 69), 4, "batch.go:149", #[⟨53, .data⟩, ⟨52, .chain⟩, ⟨0, .phase⟩, ⟨1, .phase⟩, ⟨2, .phase⟩, ⟨3, .phase⟩, ⟨4, .phase⟩, ⟨5, .phase⟩, ⟨6, .phase⟩, ⟨7, .phase⟩, ⟨8, .phase⟩, ⟨9, .phase⟩, ⟨10, .phase⟩, ⟨11, .phase⟩, ⟨12, .phase⟩, ⟨13, .phase⟩, ⟨14, .phase⟩, ⟨15, .phase⟩, ⟨16, .phase⟩, ⟨17, .phase⟩, ⟨18, .phase⟩, ⟨19, .phase⟩, ⟨20, .phase⟩, ⟨21, .phase⟩, ⟨22, .phase⟩, ⟨23, .phase⟩, ⟨24, .phase⟩, ⟨25, .phase⟩, ⟨26, .phase⟩, ⟨27, .phase⟩, ⟨28, .phase⟩, ⟨29, .phase⟩, ⟨30, .phase⟩, ⟨31, .phase⟩, ⟨32, .phase⟩, ⟨33, .phase⟩, ⟨34, .phase⟩, ⟨35, .phase⟩, ⟨36, .phase⟩, ⟨37, .phase⟩, ⟨38, .phase⟩, ⟨39, .phase⟩, ⟨40, .phase⟩, ⟨41, .phase⟩, ⟨42, .phase⟩, ⟨43, .phase⟩, ⟨44, .phase⟩, ⟨45, .phase⟩, ⟨46, .phase⟩, ⟨47, .phase⟩, ⟨48, .phase⟩, ⟨49, .phase⟩, ⟨50, .phase⟩, ⟨51, .phase⟩, ⟨52, .phase⟩, ⟨53, .phase⟩], none⟩ ?_ rfl (by kernel_rfl) (by kernel_rfl) (by kernel_rfl) (by rfl) ?_ ?_
  rotate_left
  · intro w hSw; go_simp; (first | done | with_reducible rfl)
  try simp only [Act.put, List.setIfInBounds_toArray, List.set_cons_zero, List.set_cons_succ]
  refine wpAnyH_done (by kernel_rfl) ?_ _
  go_wp2
  go_region
  go_wp2
  go_ret
  exact ⟨rfl, _, HJ7.out, rfl⟩
end Go.Proofs.YtodklilnmianeaaDoor.Bat
