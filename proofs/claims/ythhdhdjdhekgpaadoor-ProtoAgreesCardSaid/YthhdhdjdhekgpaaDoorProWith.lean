/- Joined: ProWith. -/
import Derived.Test.YthhdhdjdhekgpaaDoorProSp
import Derived.Test.YthhdhdjdhekgpaaDoorProAg
import Derived.Test.YthhdhdjdhekgpaaDoorInC
/- The laws' own within, where it holds. -/
namespace Go.Proofs.YthhdhdjdhekgpaaDoor.Pro
open Go.RowKit Go.Proofs.YthhdhdjdhekgpaaDoor.Oct Go.Proofs.YthhdhdjdhekgpaaDoor.Lay Go.Proofs.YthhdhdjdhekgpaaDoor.RowF Go.Proofs.YthhdhdjdhekgpaaDoor.InR

def goodS (x y : Sp) : Bool := (y.kind == x.kind) && decide (y.lo ≤ x.lo) && decide (x.hi ≤ y.hi) && decide (x.lo ≤ x.hi)
theorem any_take {α : Type} {p : α → Bool} {l : List α} {k : Nat} {x : α} (h : l[k]? = some x) : (l.take (k + 1)).any p = ((l.take k).any p || p x) := by
  rw [List.take_add_one, h, List.any_append]
  simp
theorem rt_next {p : Int} {l : List Sp} (h : rt p l = true) : ∀ {k : Nat} {x y : Sp}, l[k]? = some x → l[k + 1]? = some y → x.kind < y.kind := by
  induction l generalizing p with
  | nil => intro k x y hx; simp at hx
  | cons z l ih =>
    obtain ⟨h1, h2⟩ := rt_cons.1 h
    intro k x y hx hy
    rcases k with _ | k
    · simp at hx hy
      subst hx
      exact (rt_mem h2 y (List.mem_of_getElem? hy)).1
    · simp at hx hy
      exact ih h2 hx hy
theorem right_next {l : List Sp} (h : right l = true) {k : Nat} {x y : Sp} (hx : l[k]? = some x) (hy : l[k + 1]? = some y) : x.kind < y.kind := rt_next h hx hy
def wiRel (n : Nat) (i : Value) (w wr : World) : Prop := ∃ k : Nat, i = .int .i64 (k : Int) ∧ k ≤ n ∧ Below w.heap.size w wr
def wjRel (x : Sp) (m : List Sp) (n : Nat) (th i : Value) (w wr : World) : Prop := ∃ k : Nat, i = .int .i64 (k : Int) ∧ k ≤ n ∧ th = .bool ((m.take k).any (goodS x)) ∧ Below w.heap.size w wr
set_option maxRecDepth 100000 in
set_option maxHeartbeats 16000000 in
theorem within_any (A1 : Option Addr) (n1 c1' : Nat) (a : List Sp) (A2 : Option Addr) (n2 c2' : Nat) (m : List Sp) (w : World) (hr : RdL w w.heap.size A1 n1 a) (hr2 : RdL w w.heap.size A2 n2 m) (hn1 : n1 ≤ 1000000) (hn2 : n2 ≤ 1000000)
    (hra : right a = true) (hin : ∀ z ∈ a, ∃ x ∈ m, x.kind = z.kind ∧ x.lo ≤ z.lo ∧ z.hi ≤ x.hi) :
    Calls Tryd.prog 33 #[.slice A1 n1 c1', .slice A2 n2 c2'] w fun e w' => e = .returned (.bool true) ∧ Below w.heap.size w w' := by
  have H1 := Lib.hid hr
  have H2 := Lib.hid hr2
  have HRA := Lib.hid hra
  have HIN := Lib.hid hin
  have hmx : Tryd.prog.follows .mixedOrders = true := by kernel_rfl
  clear hr hr2 hra hin
  go_enter Tryd.func33, Tryd.ntmps33
  go_wp2
  go_loopw [5] (fun i wr => wiRel n1 i w wr) (fun i _ => n1 - (intOf i).toNat)
  case atStart => exact ⟨0, rfl, Nat.zero_le _, Below.refl _ _⟩
  case round =>
    obtain ⟨k, rfl, hk, hB⟩ := hrel
    have HB := Lib.hid hB
    have HX := Lib.hid (H1.out.below hB (Nat.le_refl _))
    have hsz := hB.size
    clear hB
    by_cases hlt : k < n1
    · obtain ⟨b, o, x, rfl, hb, hx, hf, q3, q4, q5⟩ := sp_at HX.out hlt
      have HQ3 := Lib.hid (And.intro q3 (And.intro q4 q5))
      have HXX := Lib.hid hx
      have HG := Lib.hid (HIN.out x (List.mem_of_getElem? hx))
      have HLH := Lib.hid (show x.lo ≤ x.hi from (rt_mem HRA.out x (List.mem_of_getElem? hx)).2.2.2.1)
      clear hx hf q3 q4 q5
      go_wp2
      go_loopw [6, 7] (fun th i wr2 => wjRel x m n2 th i w wr2) (fun _ i _ => n2 - (intOf i).toNat)
      case atStart => exact ⟨0, rfl, Nat.zero_le _, rfl, HB.out⟩
      case round =>
        obtain ⟨j, rfl, hj, rfl, hB2⟩ := hrel
        have HB2 := Lib.hid hB2
        clear hB2
        by_cases hlt2 : j < n2
        · obtain ⟨b2, o2, y, rfl, hb2, hy, hf2, y0, y1, y2⟩ := sp_at (H2.out.below HB2.out (Nat.le_refl _)) hlt2
          obtain ⟨b1, o1, x', e1, hb1, hx', _, x0, x1, x2⟩ := sp_at (H1.out.below HB2.out (Nat.le_refl _)) hlt
          obtain ⟨rfl, rfl⟩ : b = b1 ∧ o = o1 := by simpa using e1
          obtain rfl : x = x' := Option.some.inj (HXX.out.symm.trans hx')
          have HAT := Lib.hid (any_take (p := goodS x) hy)
          have HSS := Lib.hid (show wr.drew.cell? ⟨b2, o2 + j * 3, none⟩ = some (.int .i64 y.kind) ∧ wr.drew.cell? ⟨b2, o2 + j * 3 + 1, none⟩ = some (.int .i64 y.lo) ∧ wr.drew.cell? ⟨b2, o2 + j * 3 + 2, none⟩ = some (.int .i64 y.hi) ∧ wr.drew.cell? ⟨b, o + k * 3, none⟩ = some (.int .i64 x.kind) ∧ wr.drew.cell? ⟨b, o + k * 3 + 1, none⟩ = some (.int .i64 x.lo) ∧ wr.drew.cell? ⟨b, o + k * 3 + 2, none⟩ = some (.int .i64 x.hi) from ⟨y0, y1, y2, x0, x1, x2⟩)
          clear hy hf2 y0 y1 y2 e1 hx' x0 x1 x2
          rcases hth : (m.take j).any (goodS x) with _ | _
          rotate_left
          · have HN := Lib.hid (show (m.take (j + 1)).any (goodS x) = true by rw [HAT.out, hth]; rfl)
            go_wp2
            refine region_let (fun W9 : World => W9.cell? ⟨b2, o2 + j * 3, none⟩ = some (.int .i64 y.kind) ∧ W9.cell? ⟨b2, o2 + j * 3 + 1, none⟩ = some (.int .i64 y.lo) ∧ W9.cell? ⟨b2, o2 + j * 3 + 2, none⟩ = some (.int .i64 y.hi) ∧ W9.cell? ⟨b, o + k * 3, none⟩ = some (.int .i64 x.kind) ∧ W9.cell? ⟨b, o + k * 3 + 1, none⟩ = some (.int .i64 x.lo) ∧ W9.cell? ⟨b, o + k * 3 + 2, none⟩ = some (.int .i64 x.hi)) 99 54 hmx rfl fun ops Q HOPS HQ => ?_
            refine stepQ HOPS 0 1 ?_ (by decide) rfl (by kernel_rfl) (by kernel_rfl) rfl ?_ HSS.out ?_
            rotate_left
            · intro w9 hS9; obtain ⟨q0, q1, q2, q3, q4, q5⟩ := hS9; go_simp; (first | done | with_reducible rfl)
            try simp only [Act.put, List.setIfInBounds_toArray, List.set_cons_zero, List.set_cons_succ]
            refine stepQ HOPS 1 3 ?_ (by decide) rfl (by kernel_rfl) (by kernel_rfl) rfl ?_ HSS.out ?_
            rotate_left
            · intro w9 hS9; obtain ⟨q0, q1, q2, q3, q4, q5⟩ := hS9; go_simp; (first | done | with_reducible rfl)
            try simp only [Act.put, List.setIfInBounds_toArray, List.set_cons_zero, List.set_cons_succ]
            refine stepU HOPS 2 7 (by decide) rfl (by kernel_rfl) (by kernel_rfl) rfl HSS.out ?_
            try simp only [Act.put, List.setIfInBounds_toArray, List.set_cons_zero, List.set_cons_succ]
            refine stepU HOPS 3 15 (by decide) rfl (by kernel_rfl) (by kernel_rfl) rfl HSS.out ?_
            try simp only [Act.put, List.setIfInBounds_toArray, List.set_cons_zero, List.set_cons_succ]
            refine stepU HOPS 4 31 (by decide) rfl (by kernel_rfl) (by kernel_rfl) rfl HSS.out ?_
            try simp only [Act.put, List.setIfInBounds_toArray, List.set_cons_zero, List.set_cons_succ]
            refine stepU HOPS 5 63 (by decide) rfl (by kernel_rfl) (by kernel_rfl) rfl HSS.out ?_
            try simp only [Act.put, List.setIfInBounds_toArray, List.set_cons_zero, List.set_cons_succ]
            refine stepU HOPS 6 127 (by decide) rfl (by kernel_rfl) (by kernel_rfl) rfl HSS.out ?_
            try simp only [Act.put, List.setIfInBounds_toArray, List.set_cons_zero, List.set_cons_succ]
            refine stepU HOPS 7 255 (by decide) rfl (by kernel_rfl) (by kernel_rfl) rfl HSS.out ?_
            try simp only [Act.put, List.setIfInBounds_toArray, List.set_cons_zero, List.set_cons_succ]
            refine stepU HOPS 8 511 (by decide) rfl (by kernel_rfl) (by kernel_rfl) rfl HSS.out ?_
            try simp only [Act.put, List.setIfInBounds_toArray, List.set_cons_zero, List.set_cons_succ]
            refine stepU HOPS 9 1023 (by decide) rfl (by kernel_rfl) (by kernel_rfl) rfl HSS.out ?_
            try simp only [Act.put, List.setIfInBounds_toArray, List.set_cons_zero, List.set_cons_succ]
            refine stepU HOPS 10 2047 (by decide) rfl (by kernel_rfl) (by kernel_rfl) rfl HSS.out ?_
            try simp only [Act.put, List.setIfInBounds_toArray, List.set_cons_zero, List.set_cons_succ]
            refine stepU HOPS 11 4095 (by decide) rfl (by kernel_rfl) (by kernel_rfl) rfl HSS.out ?_
            try simp only [Act.put, List.setIfInBounds_toArray, List.set_cons_zero, List.set_cons_succ]
            refine stepU HOPS 12 8191 (by decide) rfl (by kernel_rfl) (by kernel_rfl) rfl HSS.out ?_
            try simp only [Act.put, List.setIfInBounds_toArray, List.set_cons_zero, List.set_cons_succ]
            refine stepU HOPS 13 16383 (by decide) rfl (by kernel_rfl) (by kernel_rfl) rfl HSS.out ?_
            try simp only [Act.put, List.setIfInBounds_toArray, List.set_cons_zero, List.set_cons_succ]
            refine stepU HOPS 14 32767 (by decide) rfl (by kernel_rfl) (by kernel_rfl) rfl HSS.out ?_
            try simp only [Act.put, List.setIfInBounds_toArray, List.set_cons_zero, List.set_cons_succ]
            refine stepU HOPS 15 65535 (by decide) rfl (by kernel_rfl) (by kernel_rfl) rfl HSS.out ?_
            try simp only [Act.put, List.setIfInBounds_toArray, List.set_cons_zero, List.set_cons_succ]
            refine stepU HOPS 16 131071 (by decide) rfl (by kernel_rfl) (by kernel_rfl) rfl HSS.out ?_
            try simp only [Act.put, List.setIfInBounds_toArray, List.set_cons_zero, List.set_cons_succ]
            refine stepU HOPS 17 262143 (by decide) rfl (by kernel_rfl) (by kernel_rfl) rfl HSS.out ?_
            try simp only [Act.put, List.setIfInBounds_toArray, List.set_cons_zero, List.set_cons_succ]
            refine stepU HOPS 18 524287 (by decide) rfl (by kernel_rfl) (by kernel_rfl) rfl HSS.out ?_
            try simp only [Act.put, List.setIfInBounds_toArray, List.set_cons_zero, List.set_cons_succ]
            refine stepU HOPS 19 1048575 (by decide) rfl (by kernel_rfl) (by kernel_rfl) rfl HSS.out ?_
            try simp only [Act.put, List.setIfInBounds_toArray, List.set_cons_zero, List.set_cons_succ]
            refine stepU HOPS 20 2097151 (by decide) rfl (by kernel_rfl) (by kernel_rfl) rfl HSS.out ?_
            try simp only [Act.put, List.setIfInBounds_toArray, List.set_cons_zero, List.set_cons_succ]
            refine stepU HOPS 21 4194303 (by decide) rfl (by kernel_rfl) (by kernel_rfl) rfl HSS.out ?_
            try simp only [Act.put, List.setIfInBounds_toArray, List.set_cons_zero, List.set_cons_succ]
            refine stepU HOPS 22 8388607 (by decide) rfl (by kernel_rfl) (by kernel_rfl) rfl HSS.out ?_
            try simp only [Act.put, List.setIfInBounds_toArray, List.set_cons_zero, List.set_cons_succ]
            refine stepU HOPS 23 16777215 (by decide) rfl (by kernel_rfl) (by kernel_rfl) rfl HSS.out ?_
            try simp only [Act.put, List.setIfInBounds_toArray, List.set_cons_zero, List.set_cons_succ]
            refine stepU HOPS 24 33554431 (by decide) rfl (by kernel_rfl) (by kernel_rfl) rfl HSS.out ?_
            try simp only [Act.put, List.setIfInBounds_toArray, List.set_cons_zero, List.set_cons_succ]
            refine stepU HOPS 25 67108863 (by decide) rfl (by kernel_rfl) (by kernel_rfl) rfl HSS.out ?_
            try simp only [Act.put, List.setIfInBounds_toArray, List.set_cons_zero, List.set_cons_succ]
            refine stepU HOPS 26 134217727 (by decide) rfl (by kernel_rfl) (by kernel_rfl) rfl HSS.out ?_
            try simp only [Act.put, List.setIfInBounds_toArray, List.set_cons_zero, List.set_cons_succ]
            refine stepU HOPS 27 268435455 (by decide) rfl (by kernel_rfl) (by kernel_rfl) rfl HSS.out ?_
            try simp only [Act.put, List.setIfInBounds_toArray, List.set_cons_zero, List.set_cons_succ]
            refine stepU HOPS 28 536870911 (by decide) rfl (by kernel_rfl) (by kernel_rfl) rfl HSS.out ?_
            try simp only [Act.put, List.setIfInBounds_toArray, List.set_cons_zero, List.set_cons_succ]
            refine stepU HOPS 29 1073741823 (by decide) rfl (by kernel_rfl) (by kernel_rfl) rfl HSS.out ?_
            try simp only [Act.put, List.setIfInBounds_toArray, List.set_cons_zero, List.set_cons_succ]
            refine stepU HOPS 30 2147483647 (by decide) rfl (by kernel_rfl) (by kernel_rfl) rfl HSS.out ?_
            try simp only [Act.put, List.setIfInBounds_toArray, List.set_cons_zero, List.set_cons_succ]
            refine stepU HOPS 31 4294967295 (by decide) rfl (by kernel_rfl) (by kernel_rfl) rfl HSS.out ?_
            try simp only [Act.put, List.setIfInBounds_toArray, List.set_cons_zero, List.set_cons_succ]
            refine stepU HOPS 32 8589934591 (by decide) rfl (by kernel_rfl) (by kernel_rfl) rfl HSS.out ?_
            try simp only [Act.put, List.setIfInBounds_toArray, List.set_cons_zero, List.set_cons_succ]
            refine stepU HOPS 33 17179869183 (by decide) rfl (by kernel_rfl) (by kernel_rfl) rfl HSS.out ?_
            try simp only [Act.put, List.setIfInBounds_toArray, List.set_cons_zero, List.set_cons_succ]
            refine stepU HOPS 34 34359738367 (by decide) rfl (by kernel_rfl) (by kernel_rfl) rfl HSS.out ?_
            try simp only [Act.put, List.setIfInBounds_toArray, List.set_cons_zero, List.set_cons_succ]
            refine stepU HOPS 35 68719476735 (by decide) rfl (by kernel_rfl) (by kernel_rfl) rfl HSS.out ?_
            try simp only [Act.put, List.setIfInBounds_toArray, List.set_cons_zero, List.set_cons_succ]
            refine stepU HOPS 36 137438953471 (by decide) rfl (by kernel_rfl) (by kernel_rfl) rfl HSS.out ?_
            try simp only [Act.put, List.setIfInBounds_toArray, List.set_cons_zero, List.set_cons_succ]
            refine stepU HOPS 37 274877906943 (by decide) rfl (by kernel_rfl) (by kernel_rfl) rfl HSS.out ?_
            try simp only [Act.put, List.setIfInBounds_toArray, List.set_cons_zero, List.set_cons_succ]
            refine stepU HOPS 38 549755813887 (by decide) rfl (by kernel_rfl) (by kernel_rfl) rfl HSS.out ?_
            try simp only [Act.put, List.setIfInBounds_toArray, List.set_cons_zero, List.set_cons_succ]
            refine stepU HOPS 39 1099511627775 (by decide) rfl (by kernel_rfl) (by kernel_rfl) rfl HSS.out ?_
            try simp only [Act.put, List.setIfInBounds_toArray, List.set_cons_zero, List.set_cons_succ]
            refine stepU HOPS 40 2199023255551 (by decide) rfl (by kernel_rfl) (by kernel_rfl) rfl HSS.out ?_
            try simp only [Act.put, List.setIfInBounds_toArray, List.set_cons_zero, List.set_cons_succ]
            refine stepU HOPS 41 4398046511103 (by decide) rfl (by kernel_rfl) (by kernel_rfl) rfl HSS.out ?_
            try simp only [Act.put, List.setIfInBounds_toArray, List.set_cons_zero, List.set_cons_succ]
            refine stepU HOPS 42 8796093022207 (by decide) rfl (by kernel_rfl) (by kernel_rfl) rfl HSS.out ?_
            try simp only [Act.put, List.setIfInBounds_toArray, List.set_cons_zero, List.set_cons_succ]
            refine stepU HOPS 43 17592186044415 (by decide) rfl (by kernel_rfl) (by kernel_rfl) rfl HSS.out ?_
            try simp only [Act.put, List.setIfInBounds_toArray, List.set_cons_zero, List.set_cons_succ]
            refine stepU HOPS 44 35184372088831 (by decide) rfl (by kernel_rfl) (by kernel_rfl) rfl HSS.out ?_
            try simp only [Act.put, List.setIfInBounds_toArray, List.set_cons_zero, List.set_cons_succ]
            refine stepU HOPS 45 70368744177663 (by decide) rfl (by kernel_rfl) (by kernel_rfl) rfl HSS.out ?_
            try simp only [Act.put, List.setIfInBounds_toArray, List.set_cons_zero, List.set_cons_succ]
            refine stepU HOPS 46 140737488355327 (by decide) rfl (by kernel_rfl) (by kernel_rfl) rfl HSS.out ?_
            try simp only [Act.put, List.setIfInBounds_toArray, List.set_cons_zero, List.set_cons_succ]
            refine stepU HOPS 47 281474976710655 (by decide) rfl (by kernel_rfl) (by kernel_rfl) rfl HSS.out ?_
            try simp only [Act.put, List.setIfInBounds_toArray, List.set_cons_zero, List.set_cons_succ]
            refine stepU HOPS 48 562949953421311 (by decide) rfl (by kernel_rfl) (by kernel_rfl) rfl HSS.out ?_
            try simp only [Act.put, List.setIfInBounds_toArray, List.set_cons_zero, List.set_cons_succ]
            refine stepU HOPS 49 1125899906842623 (by decide) rfl (by kernel_rfl) (by kernel_rfl) rfl HSS.out ?_
            try simp only [Act.put, List.setIfInBounds_toArray, List.set_cons_zero, List.set_cons_succ]
            refine stepU HOPS 50 2251799813685247 (by decide) rfl (by kernel_rfl) (by kernel_rfl) rfl HSS.out ?_
            try simp only [Act.put, List.setIfInBounds_toArray, List.set_cons_zero, List.set_cons_succ]
            refine stepU HOPS 51 4503599627370495 (by decide) rfl (by kernel_rfl) (by kernel_rfl) rfl HSS.out ?_
            try simp only [Act.put, List.setIfInBounds_toArray, List.set_cons_zero, List.set_cons_succ]
            refine stepQ HOPS 52 9007199254740991 ?_ (by decide) rfl (by kernel_rfl) (by kernel_rfl) rfl ?_ HSS.out ?_
            rotate_left
            · intro w9 hS9; obtain ⟨q0, q1, q2, q3, q4, q5⟩ := hS9; go_simp; (first | done | with_reducible rfl)
            try simp only [Act.put, List.setIfInBounds_toArray, List.set_cons_zero, List.set_cons_succ]
            refine stepQ HOPS 53 18014398509481983 ?_ (by decide) rfl (by kernel_rfl) (by kernel_rfl) rfl ?_ HSS.out ?_
            rotate_left
            · intro w9 hS9; obtain ⟨q0, q1, q2, q3, q4, q5⟩ := hS9; go_simp; (first | done | with_reducible rfl)
            try simp only [Act.put, List.setIfInBounds_toArray, List.set_cons_zero, List.set_cons_succ]
            refine stepE HOPS (by kernel_rfl) (HQ.out _ _ ?_)
            clear HQ HOPS
            clear Q ops
            go_wp2
            go_roundw
            case rel => exact ⟨j + 1, by go_num, by omega, by rw [HN.out], bel_drew HB2.out⟩
            case measure => simp [intOf]; omega
          rcases c1 : (y.kind == x.kind) with _ | _
          · have HN := Lib.hid (show (m.take (j + 1)).any (goodS x) = false by rw [HAT.out, hth]; unfold goodS; rw [c1]; simp)
            go_wp2
            refine region_let (fun W9 : World => W9.cell? ⟨b2, o2 + j * 3, none⟩ = some (.int .i64 y.kind) ∧ W9.cell? ⟨b2, o2 + j * 3 + 1, none⟩ = some (.int .i64 y.lo) ∧ W9.cell? ⟨b2, o2 + j * 3 + 2, none⟩ = some (.int .i64 y.hi) ∧ W9.cell? ⟨b, o + k * 3, none⟩ = some (.int .i64 x.kind) ∧ W9.cell? ⟨b, o + k * 3 + 1, none⟩ = some (.int .i64 x.lo) ∧ W9.cell? ⟨b, o + k * 3 + 2, none⟩ = some (.int .i64 x.hi)) 99 54 hmx rfl fun ops Q HOPS HQ => ?_
            refine stepQ HOPS 0 1 ?_ (by decide) rfl (by kernel_rfl) (by kernel_rfl) rfl ?_ HSS.out ?_
            rotate_left
            · intro w9 hS9; obtain ⟨q0, q1, q2, q3, q4, q5⟩ := hS9; go_simp; (first | done | with_reducible rfl)
            try simp only [Act.put, List.setIfInBounds_toArray, List.set_cons_zero, List.set_cons_succ]
            refine stepQ HOPS 1 3 ?_ (by decide) rfl (by kernel_rfl) (by kernel_rfl) rfl ?_ HSS.out ?_
            rotate_left
            · intro w9 hS9; obtain ⟨q0, q1, q2, q3, q4, q5⟩ := hS9; go_simp; (first | done | with_reducible rfl)
            try simp only [Act.put, List.setIfInBounds_toArray, List.set_cons_zero, List.set_cons_succ]
            refine stepQ HOPS 2 7 ?_ (by decide) rfl (by kernel_rfl) (by kernel_rfl) rfl ?_ HSS.out ?_
            rotate_left
            · intro w9 hS9; obtain ⟨q0, q1, q2, q3, q4, q5⟩ := hS9; go_simp; (first | done | with_reducible rfl)
            try simp only [Act.put, List.setIfInBounds_toArray, List.set_cons_zero, List.set_cons_succ]
            refine stepQ HOPS 3 15 ?_ (by decide) rfl (by kernel_rfl) (by kernel_rfl) rfl ?_ HSS.out ?_
            rotate_left
            · intro w9 hS9; obtain ⟨q0, q1, q2, q3, q4, q5⟩ := hS9; go_simp; (first | done | with_reducible rfl)
            try simp only [Act.put, List.setIfInBounds_toArray, List.set_cons_zero, List.set_cons_succ]
            refine stepQ HOPS 4 31 ?_ (by decide) rfl (by kernel_rfl) (by kernel_rfl) rfl ?_ HSS.out ?_
            rotate_left
            · intro w9 hS9; obtain ⟨q0, q1, q2, q3, q4, q5⟩ := hS9; go_simp; (first | done | with_reducible rfl)
            try simp only [Act.put, List.setIfInBounds_toArray, List.set_cons_zero, List.set_cons_succ]
            refine stepQ HOPS 5 63 ?_ (by decide) rfl (by kernel_rfl) (by kernel_rfl) rfl ?_ HSS.out ?_
            rotate_left
            · intro w9 hS9; obtain ⟨q0, q1, q2, q3, q4, q5⟩ := hS9; go_simp; (first | done | with_reducible rfl)
            try simp only [Act.put, List.setIfInBounds_toArray, List.set_cons_zero, List.set_cons_succ]
            refine stepQ HOPS 6 127 ?_ (by decide) rfl (by kernel_rfl) (by kernel_rfl) rfl ?_ HSS.out ?_
            rotate_left
            · intro w9 hS9; obtain ⟨q0, q1, q2, q3, q4, q5⟩ := hS9; go_simp; (first | done | with_reducible rfl)
            try simp only [Act.put, List.setIfInBounds_toArray, List.set_cons_zero, List.set_cons_succ]
            refine stepQ HOPS 7 255 ?_ (by decide) rfl (by kernel_rfl) (by kernel_rfl) rfl ?_ HSS.out ?_
            rotate_left
            · intro w9 hS9; obtain ⟨q0, q1, q2, q3, q4, q5⟩ := hS9; go_simp; (first | done | with_reducible rfl)
            try simp only [Act.put, List.setIfInBounds_toArray, List.set_cons_zero, List.set_cons_succ]
            refine stepQ HOPS 8 511 ?_ (by decide) rfl (by kernel_rfl) (by kernel_rfl) rfl ?_ HSS.out ?_
            rotate_left
            · intro w9 hS9; obtain ⟨q0, q1, q2, q3, q4, q5⟩ := hS9; go_simp; (first | done | with_reducible rfl)
            try simp only [Act.put, List.setIfInBounds_toArray, List.set_cons_zero, List.set_cons_succ]
            refine stepQ HOPS 9 1023 ?_ (by decide) rfl (by kernel_rfl) (by kernel_rfl) rfl ?_ HSS.out ?_
            rotate_left
            · intro w9 hS9; obtain ⟨q0, q1, q2, q3, q4, q5⟩ := hS9; go_simp; (first | done | with_reducible rfl)
            try simp only [Act.put, List.setIfInBounds_toArray, List.set_cons_zero, List.set_cons_succ]
            refine stepQ HOPS 10 2047 ?_ (by decide) rfl (by kernel_rfl) (by kernel_rfl) rfl ?_ HSS.out ?_
            rotate_left
            · intro w9 hS9; obtain ⟨q0, q1, q2, q3, q4, q5⟩ := hS9; go_simp; (first | done | with_reducible rfl)
            try simp only [Act.put, List.setIfInBounds_toArray, List.set_cons_zero, List.set_cons_succ]
            refine stepQ HOPS 11 4095 ?_ (by decide) rfl (by kernel_rfl) (by kernel_rfl) rfl ?_ HSS.out ?_
            rotate_left
            · intro w9 hS9; obtain ⟨q0, q1, q2, q3, q4, q5⟩ := hS9; go_simp; (first | done | with_reducible rfl)
            try simp only [Act.put, List.setIfInBounds_toArray, List.set_cons_zero, List.set_cons_succ]
            refine stepQ HOPS 12 8191 ?_ (by decide) rfl (by kernel_rfl) (by kernel_rfl) rfl ?_ HSS.out ?_
            rotate_left
            · intro w9 hS9; obtain ⟨q0, q1, q2, q3, q4, q5⟩ := hS9; go_simp; (first | done | with_reducible rfl)
            try simp only [Act.put, List.setIfInBounds_toArray, List.set_cons_zero, List.set_cons_succ]
            refine stepQ HOPS 13 16383 ?_ (by decide) rfl (by kernel_rfl) (by kernel_rfl) rfl ?_ HSS.out ?_
            rotate_left
            · intro w9 hS9; obtain ⟨q0, q1, q2, q3, q4, q5⟩ := hS9; go_simp; (first | done | with_reducible rfl)
            try simp only [Act.put, List.setIfInBounds_toArray, List.set_cons_zero, List.set_cons_succ]
            refine stepU HOPS 14 32767 (by decide) rfl (by kernel_rfl) (by kernel_rfl) rfl HSS.out ?_
            try simp only [Act.put, List.setIfInBounds_toArray, List.set_cons_zero, List.set_cons_succ]
            refine stepU HOPS 15 65535 (by decide) rfl (by kernel_rfl) (by kernel_rfl) rfl HSS.out ?_
            try simp only [Act.put, List.setIfInBounds_toArray, List.set_cons_zero, List.set_cons_succ]
            refine stepU HOPS 16 131071 (by decide) rfl (by kernel_rfl) (by kernel_rfl) rfl HSS.out ?_
            try simp only [Act.put, List.setIfInBounds_toArray, List.set_cons_zero, List.set_cons_succ]
            refine stepU HOPS 17 262143 (by decide) rfl (by kernel_rfl) (by kernel_rfl) rfl HSS.out ?_
            try simp only [Act.put, List.setIfInBounds_toArray, List.set_cons_zero, List.set_cons_succ]
            refine stepU HOPS 18 524287 (by decide) rfl (by kernel_rfl) (by kernel_rfl) rfl HSS.out ?_
            try simp only [Act.put, List.setIfInBounds_toArray, List.set_cons_zero, List.set_cons_succ]
            refine stepU HOPS 19 1048575 (by decide) rfl (by kernel_rfl) (by kernel_rfl) rfl HSS.out ?_
            try simp only [Act.put, List.setIfInBounds_toArray, List.set_cons_zero, List.set_cons_succ]
            refine stepU HOPS 20 2097151 (by decide) rfl (by kernel_rfl) (by kernel_rfl) rfl HSS.out ?_
            try simp only [Act.put, List.setIfInBounds_toArray, List.set_cons_zero, List.set_cons_succ]
            refine stepU HOPS 21 4194303 (by decide) rfl (by kernel_rfl) (by kernel_rfl) rfl HSS.out ?_
            try simp only [Act.put, List.setIfInBounds_toArray, List.set_cons_zero, List.set_cons_succ]
            refine stepU HOPS 22 8388607 (by decide) rfl (by kernel_rfl) (by kernel_rfl) rfl HSS.out ?_
            try simp only [Act.put, List.setIfInBounds_toArray, List.set_cons_zero, List.set_cons_succ]
            refine stepU HOPS 23 16777215 (by decide) rfl (by kernel_rfl) (by kernel_rfl) rfl HSS.out ?_
            try simp only [Act.put, List.setIfInBounds_toArray, List.set_cons_zero, List.set_cons_succ]
            refine stepU HOPS 24 33554431 (by decide) rfl (by kernel_rfl) (by kernel_rfl) rfl HSS.out ?_
            try simp only [Act.put, List.setIfInBounds_toArray, List.set_cons_zero, List.set_cons_succ]
            refine stepQ HOPS 25 67108863 ?_ (by decide) rfl (by kernel_rfl) (by kernel_rfl) rfl ?_ HSS.out ?_
            rotate_left
            · intro w9 hS9; obtain ⟨q0, q1, q2, q3, q4, q5⟩ := hS9; go_simp; (first | done | with_reducible rfl)
            try simp only [Act.put, List.setIfInBounds_toArray, List.set_cons_zero, List.set_cons_succ]
            refine stepQ HOPS 26 134217727 ?_ (by decide) rfl (by kernel_rfl) (by kernel_rfl) rfl ?_ HSS.out ?_
            rotate_left
            · intro w9 hS9; obtain ⟨q0, q1, q2, q3, q4, q5⟩ := hS9; go_simp; (first | done | with_reducible rfl)
            try simp only [Act.put, List.setIfInBounds_toArray, List.set_cons_zero, List.set_cons_succ]
            refine stepU HOPS 27 268435455 (by decide) rfl (by kernel_rfl) (by kernel_rfl) rfl HSS.out ?_
            try simp only [Act.put, List.setIfInBounds_toArray, List.set_cons_zero, List.set_cons_succ]
            refine stepU HOPS 28 536870911 (by decide) rfl (by kernel_rfl) (by kernel_rfl) rfl HSS.out ?_
            try simp only [Act.put, List.setIfInBounds_toArray, List.set_cons_zero, List.set_cons_succ]
            refine stepU HOPS 29 1073741823 (by decide) rfl (by kernel_rfl) (by kernel_rfl) rfl HSS.out ?_
            try simp only [Act.put, List.setIfInBounds_toArray, List.set_cons_zero, List.set_cons_succ]
            refine stepU HOPS 30 2147483647 (by decide) rfl (by kernel_rfl) (by kernel_rfl) rfl HSS.out ?_
            try simp only [Act.put, List.setIfInBounds_toArray, List.set_cons_zero, List.set_cons_succ]
            refine stepU HOPS 31 4294967295 (by decide) rfl (by kernel_rfl) (by kernel_rfl) rfl HSS.out ?_
            try simp only [Act.put, List.setIfInBounds_toArray, List.set_cons_zero, List.set_cons_succ]
            refine stepU HOPS 32 8589934591 (by decide) rfl (by kernel_rfl) (by kernel_rfl) rfl HSS.out ?_
            try simp only [Act.put, List.setIfInBounds_toArray, List.set_cons_zero, List.set_cons_succ]
            refine stepU HOPS 33 17179869183 (by decide) rfl (by kernel_rfl) (by kernel_rfl) rfl HSS.out ?_
            try simp only [Act.put, List.setIfInBounds_toArray, List.set_cons_zero, List.set_cons_succ]
            refine stepU HOPS 34 34359738367 (by decide) rfl (by kernel_rfl) (by kernel_rfl) rfl HSS.out ?_
            try simp only [Act.put, List.setIfInBounds_toArray, List.set_cons_zero, List.set_cons_succ]
            refine stepU HOPS 35 68719476735 (by decide) rfl (by kernel_rfl) (by kernel_rfl) rfl HSS.out ?_
            try simp only [Act.put, List.setIfInBounds_toArray, List.set_cons_zero, List.set_cons_succ]
            refine stepU HOPS 36 137438953471 (by decide) rfl (by kernel_rfl) (by kernel_rfl) rfl HSS.out ?_
            try simp only [Act.put, List.setIfInBounds_toArray, List.set_cons_zero, List.set_cons_succ]
            refine stepU HOPS 37 274877906943 (by decide) rfl (by kernel_rfl) (by kernel_rfl) rfl HSS.out ?_
            try simp only [Act.put, List.setIfInBounds_toArray, List.set_cons_zero, List.set_cons_succ]
            refine stepQ HOPS 38 549755813887 ?_ (by decide) rfl (by kernel_rfl) (by kernel_rfl) rfl ?_ HSS.out ?_
            rotate_left
            · intro w9 hS9; obtain ⟨q0, q1, q2, q3, q4, q5⟩ := hS9; go_simp; (first | done | with_reducible rfl)
            try simp only [Act.put, List.setIfInBounds_toArray, List.set_cons_zero, List.set_cons_succ]
            refine stepQ HOPS 39 1099511627775 ?_ (by decide) rfl (by kernel_rfl) (by kernel_rfl) rfl ?_ HSS.out ?_
            rotate_left
            · intro w9 hS9; obtain ⟨q0, q1, q2, q3, q4, q5⟩ := hS9; go_simp; (first | done | with_reducible rfl)
            try simp only [Act.put, List.setIfInBounds_toArray, List.set_cons_zero, List.set_cons_succ]
            refine stepU HOPS 40 2199023255551 (by decide) rfl (by kernel_rfl) (by kernel_rfl) rfl HSS.out ?_
            try simp only [Act.put, List.setIfInBounds_toArray, List.set_cons_zero, List.set_cons_succ]
            refine stepU HOPS 41 4398046511103 (by decide) rfl (by kernel_rfl) (by kernel_rfl) rfl HSS.out ?_
            try simp only [Act.put, List.setIfInBounds_toArray, List.set_cons_zero, List.set_cons_succ]
            refine stepU HOPS 42 8796093022207 (by decide) rfl (by kernel_rfl) (by kernel_rfl) rfl HSS.out ?_
            try simp only [Act.put, List.setIfInBounds_toArray, List.set_cons_zero, List.set_cons_succ]
            refine stepU HOPS 43 17592186044415 (by decide) rfl (by kernel_rfl) (by kernel_rfl) rfl HSS.out ?_
            try simp only [Act.put, List.setIfInBounds_toArray, List.set_cons_zero, List.set_cons_succ]
            refine stepU HOPS 44 35184372088831 (by decide) rfl (by kernel_rfl) (by kernel_rfl) rfl HSS.out ?_
            try simp only [Act.put, List.setIfInBounds_toArray, List.set_cons_zero, List.set_cons_succ]
            refine stepU HOPS 45 70368744177663 (by decide) rfl (by kernel_rfl) (by kernel_rfl) rfl HSS.out ?_
            try simp only [Act.put, List.setIfInBounds_toArray, List.set_cons_zero, List.set_cons_succ]
            refine stepU HOPS 46 140737488355327 (by decide) rfl (by kernel_rfl) (by kernel_rfl) rfl HSS.out ?_
            try simp only [Act.put, List.setIfInBounds_toArray, List.set_cons_zero, List.set_cons_succ]
            refine stepU HOPS 47 281474976710655 (by decide) rfl (by kernel_rfl) (by kernel_rfl) rfl HSS.out ?_
            try simp only [Act.put, List.setIfInBounds_toArray, List.set_cons_zero, List.set_cons_succ]
            refine stepU HOPS 48 562949953421311 (by decide) rfl (by kernel_rfl) (by kernel_rfl) rfl HSS.out ?_
            try simp only [Act.put, List.setIfInBounds_toArray, List.set_cons_zero, List.set_cons_succ]
            refine stepU HOPS 49 1125899906842623 (by decide) rfl (by kernel_rfl) (by kernel_rfl) rfl HSS.out ?_
            try simp only [Act.put, List.setIfInBounds_toArray, List.set_cons_zero, List.set_cons_succ]
            refine stepU HOPS 50 2251799813685247 (by decide) rfl (by kernel_rfl) (by kernel_rfl) rfl HSS.out ?_
            try simp only [Act.put, List.setIfInBounds_toArray, List.set_cons_zero, List.set_cons_succ]
            refine stepQ HOPS 51 4503599627370495 ?_ (by decide) rfl (by kernel_rfl) (by kernel_rfl) rfl ?_ HSS.out ?_
            rotate_left
            · intro w9 hS9; obtain ⟨q0, q1, q2, q3, q4, q5⟩ := hS9; go_simp; (first | done | with_reducible rfl)
            try simp only [Act.put, List.setIfInBounds_toArray, List.set_cons_zero, List.set_cons_succ]
            refine stepQ HOPS 52 9007199254740991 ?_ (by decide) rfl (by kernel_rfl) (by kernel_rfl) rfl ?_ HSS.out ?_
            rotate_left
            · intro w9 hS9; obtain ⟨q0, q1, q2, q3, q4, q5⟩ := hS9; go_simp; (first | done | with_reducible rfl)
            try simp only [Act.put, List.setIfInBounds_toArray, List.set_cons_zero, List.set_cons_succ]
            refine stepQ HOPS 53 18014398509481983 ?_ (by decide) rfl (by kernel_rfl) (by kernel_rfl) rfl ?_ HSS.out ?_
            rotate_left
            · intro w9 hS9; obtain ⟨q0, q1, q2, q3, q4, q5⟩ := hS9; go_simp; (first | done | with_reducible rfl)
            try simp only [Act.put, List.setIfInBounds_toArray, List.set_cons_zero, List.set_cons_succ]
            refine stepE HOPS (by kernel_rfl) (HQ.out _ _ ?_)
            clear HQ HOPS
            clear Q ops
            go_wp2
            go_roundw
            case rel => exact ⟨j + 1, by go_num, by omega, by rw [HN.out], bel_drew HB2.out⟩
            case measure => simp [intOf]; omega
          rcases c2 : decide (y.lo ≤ x.lo) with _ | _
          · have HN := Lib.hid (show (m.take (j + 1)).any (goodS x) = false by rw [HAT.out, hth]; unfold goodS; rw [c1, c2]; simp)
            go_wp2
            refine region_let (fun W9 : World => W9.cell? ⟨b2, o2 + j * 3, none⟩ = some (.int .i64 y.kind) ∧ W9.cell? ⟨b2, o2 + j * 3 + 1, none⟩ = some (.int .i64 y.lo) ∧ W9.cell? ⟨b2, o2 + j * 3 + 2, none⟩ = some (.int .i64 y.hi) ∧ W9.cell? ⟨b, o + k * 3, none⟩ = some (.int .i64 x.kind) ∧ W9.cell? ⟨b, o + k * 3 + 1, none⟩ = some (.int .i64 x.lo) ∧ W9.cell? ⟨b, o + k * 3 + 2, none⟩ = some (.int .i64 x.hi)) 99 54 hmx rfl fun ops Q HOPS HQ => ?_
            refine stepQ HOPS 0 1 ?_ (by decide) rfl (by kernel_rfl) (by kernel_rfl) rfl ?_ HSS.out ?_
            rotate_left
            · intro w9 hS9; obtain ⟨q0, q1, q2, q3, q4, q5⟩ := hS9; go_simp; (first | done | with_reducible rfl)
            try simp only [Act.put, List.setIfInBounds_toArray, List.set_cons_zero, List.set_cons_succ]
            refine stepQ HOPS 1 3 ?_ (by decide) rfl (by kernel_rfl) (by kernel_rfl) rfl ?_ HSS.out ?_
            rotate_left
            · intro w9 hS9; obtain ⟨q0, q1, q2, q3, q4, q5⟩ := hS9; go_simp; (first | done | with_reducible rfl)
            try simp only [Act.put, List.setIfInBounds_toArray, List.set_cons_zero, List.set_cons_succ]
            refine stepQ HOPS 2 7 ?_ (by decide) rfl (by kernel_rfl) (by kernel_rfl) rfl ?_ HSS.out ?_
            rotate_left
            · intro w9 hS9; obtain ⟨q0, q1, q2, q3, q4, q5⟩ := hS9; go_simp; (first | done | with_reducible rfl)
            try simp only [Act.put, List.setIfInBounds_toArray, List.set_cons_zero, List.set_cons_succ]
            refine stepQ HOPS 3 15 ?_ (by decide) rfl (by kernel_rfl) (by kernel_rfl) rfl ?_ HSS.out ?_
            rotate_left
            · intro w9 hS9; obtain ⟨q0, q1, q2, q3, q4, q5⟩ := hS9; go_simp; (first | done | with_reducible rfl)
            try simp only [Act.put, List.setIfInBounds_toArray, List.set_cons_zero, List.set_cons_succ]
            refine stepQ HOPS 4 31 ?_ (by decide) rfl (by kernel_rfl) (by kernel_rfl) rfl ?_ HSS.out ?_
            rotate_left
            · intro w9 hS9; obtain ⟨q0, q1, q2, q3, q4, q5⟩ := hS9; go_simp; (first | done | with_reducible rfl)
            try simp only [Act.put, List.setIfInBounds_toArray, List.set_cons_zero, List.set_cons_succ]
            refine stepQ HOPS 5 63 ?_ (by decide) rfl (by kernel_rfl) (by kernel_rfl) rfl ?_ HSS.out ?_
            rotate_left
            · intro w9 hS9; obtain ⟨q0, q1, q2, q3, q4, q5⟩ := hS9; go_simp; (first | done | with_reducible rfl)
            try simp only [Act.put, List.setIfInBounds_toArray, List.set_cons_zero, List.set_cons_succ]
            refine stepQ HOPS 6 127 ?_ (by decide) rfl (by kernel_rfl) (by kernel_rfl) rfl ?_ HSS.out ?_
            rotate_left
            · intro w9 hS9; obtain ⟨q0, q1, q2, q3, q4, q5⟩ := hS9; go_simp; (first | done | with_reducible rfl)
            try simp only [Act.put, List.setIfInBounds_toArray, List.set_cons_zero, List.set_cons_succ]
            refine stepQ HOPS 7 255 ?_ (by decide) rfl (by kernel_rfl) (by kernel_rfl) rfl ?_ HSS.out ?_
            rotate_left
            · intro w9 hS9; obtain ⟨q0, q1, q2, q3, q4, q5⟩ := hS9; go_simp; (first | done | with_reducible rfl)
            try simp only [Act.put, List.setIfInBounds_toArray, List.set_cons_zero, List.set_cons_succ]
            refine stepQ HOPS 8 511 ?_ (by decide) rfl (by kernel_rfl) (by kernel_rfl) rfl ?_ HSS.out ?_
            rotate_left
            · intro w9 hS9; obtain ⟨q0, q1, q2, q3, q4, q5⟩ := hS9; go_simp; (first | done | with_reducible rfl)
            try simp only [Act.put, List.setIfInBounds_toArray, List.set_cons_zero, List.set_cons_succ]
            refine stepQ HOPS 9 1023 ?_ (by decide) rfl (by kernel_rfl) (by kernel_rfl) rfl ?_ HSS.out ?_
            rotate_left
            · intro w9 hS9; obtain ⟨q0, q1, q2, q3, q4, q5⟩ := hS9; go_simp; (first | done | with_reducible rfl)
            try simp only [Act.put, List.setIfInBounds_toArray, List.set_cons_zero, List.set_cons_succ]
            refine stepQ HOPS 10 2047 ?_ (by decide) rfl (by kernel_rfl) (by kernel_rfl) rfl ?_ HSS.out ?_
            rotate_left
            · intro w9 hS9; obtain ⟨q0, q1, q2, q3, q4, q5⟩ := hS9; go_simp; (first | done | with_reducible rfl)
            try simp only [Act.put, List.setIfInBounds_toArray, List.set_cons_zero, List.set_cons_succ]
            refine stepQ HOPS 11 4095 ?_ (by decide) rfl (by kernel_rfl) (by kernel_rfl) rfl ?_ HSS.out ?_
            rotate_left
            · intro w9 hS9; obtain ⟨q0, q1, q2, q3, q4, q5⟩ := hS9; go_simp; (first | done | with_reducible rfl)
            try simp only [Act.put, List.setIfInBounds_toArray, List.set_cons_zero, List.set_cons_succ]
            refine stepQ HOPS 12 8191 ?_ (by decide) rfl (by kernel_rfl) (by kernel_rfl) rfl ?_ HSS.out ?_
            rotate_left
            · intro w9 hS9; obtain ⟨q0, q1, q2, q3, q4, q5⟩ := hS9; go_simp; (first | done | with_reducible rfl)
            try simp only [Act.put, List.setIfInBounds_toArray, List.set_cons_zero, List.set_cons_succ]
            refine stepQ HOPS 13 16383 ?_ (by decide) rfl (by kernel_rfl) (by kernel_rfl) rfl ?_ HSS.out ?_
            rotate_left
            · intro w9 hS9; obtain ⟨q0, q1, q2, q3, q4, q5⟩ := hS9; go_simp; (first | done | with_reducible rfl)
            try simp only [Act.put, List.setIfInBounds_toArray, List.set_cons_zero, List.set_cons_succ]
            refine stepQ HOPS 14 32767 ?_ (by decide) rfl (by kernel_rfl) (by kernel_rfl) rfl ?_ HSS.out ?_
            rotate_left
            · intro w9 hS9; obtain ⟨q0, q1, q2, q3, q4, q5⟩ := hS9; go_simp; (first | done | with_reducible rfl)
            try simp only [Act.put, List.setIfInBounds_toArray, List.set_cons_zero, List.set_cons_succ]
            refine stepQ HOPS 15 65535 ?_ (by decide) rfl (by kernel_rfl) (by kernel_rfl) rfl ?_ HSS.out ?_
            rotate_left
            · intro w9 hS9; obtain ⟨q0, q1, q2, q3, q4, q5⟩ := hS9; go_simp; (first | done | with_reducible rfl)
            try simp only [Act.put, List.setIfInBounds_toArray, List.set_cons_zero, List.set_cons_succ]
            refine stepQ HOPS 16 131071 ?_ (by decide) rfl (by kernel_rfl) (by kernel_rfl) rfl ?_ HSS.out ?_
            rotate_left
            · intro w9 hS9; obtain ⟨q0, q1, q2, q3, q4, q5⟩ := hS9; go_simp; (first | done | with_reducible rfl)
            try simp only [Act.put, List.setIfInBounds_toArray, List.set_cons_zero, List.set_cons_succ]
            refine stepQ HOPS 17 262143 ?_ (by decide) rfl (by kernel_rfl) (by kernel_rfl) rfl ?_ HSS.out ?_
            rotate_left
            · intro w9 hS9; obtain ⟨q0, q1, q2, q3, q4, q5⟩ := hS9; go_simp; (first | done | with_reducible rfl)
            try simp only [Act.put, List.setIfInBounds_toArray, List.set_cons_zero, List.set_cons_succ]
            refine stepQ HOPS 18 524287 ?_ (by decide) rfl (by kernel_rfl) (by kernel_rfl) rfl ?_ HSS.out ?_
            rotate_left
            · intro w9 hS9; obtain ⟨q0, q1, q2, q3, q4, q5⟩ := hS9; go_simp; (first | done | with_reducible rfl)
            try simp only [Act.put, List.setIfInBounds_toArray, List.set_cons_zero, List.set_cons_succ]
            refine stepQ HOPS 19 1048575 ?_ (by decide) rfl (by kernel_rfl) (by kernel_rfl) rfl ?_ HSS.out ?_
            rotate_left
            · intro w9 hS9; obtain ⟨q0, q1, q2, q3, q4, q5⟩ := hS9; go_simp; (first | done | with_reducible rfl)
            try simp only [Act.put, List.setIfInBounds_toArray, List.set_cons_zero, List.set_cons_succ]
            refine stepQ HOPS 20 2097151 ?_ (by decide) rfl (by kernel_rfl) (by kernel_rfl) rfl ?_ HSS.out ?_
            rotate_left
            · intro w9 hS9; obtain ⟨q0, q1, q2, q3, q4, q5⟩ := hS9; go_simp; (first | done | with_reducible rfl)
            try simp only [Act.put, List.setIfInBounds_toArray, List.set_cons_zero, List.set_cons_succ]
            refine stepQ HOPS 21 4194303 ?_ (by decide) rfl (by kernel_rfl) (by kernel_rfl) rfl ?_ HSS.out ?_
            rotate_left
            · intro w9 hS9; obtain ⟨q0, q1, q2, q3, q4, q5⟩ := hS9; go_simp; (first | done | with_reducible rfl)
            try simp only [Act.put, List.setIfInBounds_toArray, List.set_cons_zero, List.set_cons_succ]
            refine stepQ HOPS 22 8388607 ?_ (by decide) rfl (by kernel_rfl) (by kernel_rfl) rfl ?_ HSS.out ?_
            rotate_left
            · intro w9 hS9; obtain ⟨q0, q1, q2, q3, q4, q5⟩ := hS9; go_simp; (first | done | with_reducible rfl)
            try simp only [Act.put, List.setIfInBounds_toArray, List.set_cons_zero, List.set_cons_succ]
            refine stepQ HOPS 23 16777215 ?_ (by decide) rfl (by kernel_rfl) (by kernel_rfl) rfl ?_ HSS.out ?_
            rotate_left
            · intro w9 hS9; obtain ⟨q0, q1, q2, q3, q4, q5⟩ := hS9; go_simp; (first | done | with_reducible rfl)
            try simp only [Act.put, List.setIfInBounds_toArray, List.set_cons_zero, List.set_cons_succ]
            refine stepQ HOPS 24 33554431 ?_ (by decide) rfl (by kernel_rfl) (by kernel_rfl) rfl ?_ HSS.out ?_
            rotate_left
            · intro w9 hS9; obtain ⟨q0, q1, q2, q3, q4, q5⟩ := hS9; go_simp; (first | done | with_reducible rfl)
            try simp only [Act.put, List.setIfInBounds_toArray, List.set_cons_zero, List.set_cons_succ]
            refine stepQ HOPS 25 67108863 ?_ (by decide) rfl (by kernel_rfl) (by kernel_rfl) rfl ?_ HSS.out ?_
            rotate_left
            · intro w9 hS9; obtain ⟨q0, q1, q2, q3, q4, q5⟩ := hS9; go_simp; (first | done | with_reducible rfl)
            try simp only [Act.put, List.setIfInBounds_toArray, List.set_cons_zero, List.set_cons_succ]
            refine stepQ HOPS 26 134217727 ?_ (by decide) rfl (by kernel_rfl) (by kernel_rfl) rfl ?_ HSS.out ?_
            rotate_left
            · intro w9 hS9; obtain ⟨q0, q1, q2, q3, q4, q5⟩ := hS9; go_simp; (first | done | with_reducible rfl)
            try simp only [Act.put, List.setIfInBounds_toArray, List.set_cons_zero, List.set_cons_succ]
            refine stepU HOPS 27 268435455 (by decide) rfl (by kernel_rfl) (by kernel_rfl) rfl HSS.out ?_
            try simp only [Act.put, List.setIfInBounds_toArray, List.set_cons_zero, List.set_cons_succ]
            refine stepU HOPS 28 536870911 (by decide) rfl (by kernel_rfl) (by kernel_rfl) rfl HSS.out ?_
            try simp only [Act.put, List.setIfInBounds_toArray, List.set_cons_zero, List.set_cons_succ]
            refine stepU HOPS 29 1073741823 (by decide) rfl (by kernel_rfl) (by kernel_rfl) rfl HSS.out ?_
            try simp only [Act.put, List.setIfInBounds_toArray, List.set_cons_zero, List.set_cons_succ]
            refine stepU HOPS 30 2147483647 (by decide) rfl (by kernel_rfl) (by kernel_rfl) rfl HSS.out ?_
            try simp only [Act.put, List.setIfInBounds_toArray, List.set_cons_zero, List.set_cons_succ]
            refine stepU HOPS 31 4294967295 (by decide) rfl (by kernel_rfl) (by kernel_rfl) rfl HSS.out ?_
            try simp only [Act.put, List.setIfInBounds_toArray, List.set_cons_zero, List.set_cons_succ]
            refine stepU HOPS 32 8589934591 (by decide) rfl (by kernel_rfl) (by kernel_rfl) rfl HSS.out ?_
            try simp only [Act.put, List.setIfInBounds_toArray, List.set_cons_zero, List.set_cons_succ]
            refine stepU HOPS 33 17179869183 (by decide) rfl (by kernel_rfl) (by kernel_rfl) rfl HSS.out ?_
            try simp only [Act.put, List.setIfInBounds_toArray, List.set_cons_zero, List.set_cons_succ]
            refine stepU HOPS 34 34359738367 (by decide) rfl (by kernel_rfl) (by kernel_rfl) rfl HSS.out ?_
            try simp only [Act.put, List.setIfInBounds_toArray, List.set_cons_zero, List.set_cons_succ]
            refine stepU HOPS 35 68719476735 (by decide) rfl (by kernel_rfl) (by kernel_rfl) rfl HSS.out ?_
            try simp only [Act.put, List.setIfInBounds_toArray, List.set_cons_zero, List.set_cons_succ]
            refine stepU HOPS 36 137438953471 (by decide) rfl (by kernel_rfl) (by kernel_rfl) rfl HSS.out ?_
            try simp only [Act.put, List.setIfInBounds_toArray, List.set_cons_zero, List.set_cons_succ]
            refine stepU HOPS 37 274877906943 (by decide) rfl (by kernel_rfl) (by kernel_rfl) rfl HSS.out ?_
            try simp only [Act.put, List.setIfInBounds_toArray, List.set_cons_zero, List.set_cons_succ]
            refine stepQ HOPS 38 549755813887 ?_ (by decide) rfl (by kernel_rfl) (by kernel_rfl) rfl ?_ HSS.out ?_
            rotate_left
            · intro w9 hS9; obtain ⟨q0, q1, q2, q3, q4, q5⟩ := hS9; go_simp; (first | done | with_reducible rfl)
            try simp only [Act.put, List.setIfInBounds_toArray, List.set_cons_zero, List.set_cons_succ]
            refine stepQ HOPS 39 1099511627775 ?_ (by decide) rfl (by kernel_rfl) (by kernel_rfl) rfl ?_ HSS.out ?_
            rotate_left
            · intro w9 hS9; obtain ⟨q0, q1, q2, q3, q4, q5⟩ := hS9; go_simp; (first | done | with_reducible rfl)
            try simp only [Act.put, List.setIfInBounds_toArray, List.set_cons_zero, List.set_cons_succ]
            refine stepU HOPS 40 2199023255551 (by decide) rfl (by kernel_rfl) (by kernel_rfl) rfl HSS.out ?_
            try simp only [Act.put, List.setIfInBounds_toArray, List.set_cons_zero, List.set_cons_succ]
            refine stepU HOPS 41 4398046511103 (by decide) rfl (by kernel_rfl) (by kernel_rfl) rfl HSS.out ?_
            try simp only [Act.put, List.setIfInBounds_toArray, List.set_cons_zero, List.set_cons_succ]
            refine stepU HOPS 42 8796093022207 (by decide) rfl (by kernel_rfl) (by kernel_rfl) rfl HSS.out ?_
            try simp only [Act.put, List.setIfInBounds_toArray, List.set_cons_zero, List.set_cons_succ]
            refine stepU HOPS 43 17592186044415 (by decide) rfl (by kernel_rfl) (by kernel_rfl) rfl HSS.out ?_
            try simp only [Act.put, List.setIfInBounds_toArray, List.set_cons_zero, List.set_cons_succ]
            refine stepU HOPS 44 35184372088831 (by decide) rfl (by kernel_rfl) (by kernel_rfl) rfl HSS.out ?_
            try simp only [Act.put, List.setIfInBounds_toArray, List.set_cons_zero, List.set_cons_succ]
            refine stepU HOPS 45 70368744177663 (by decide) rfl (by kernel_rfl) (by kernel_rfl) rfl HSS.out ?_
            try simp only [Act.put, List.setIfInBounds_toArray, List.set_cons_zero, List.set_cons_succ]
            refine stepU HOPS 46 140737488355327 (by decide) rfl (by kernel_rfl) (by kernel_rfl) rfl HSS.out ?_
            try simp only [Act.put, List.setIfInBounds_toArray, List.set_cons_zero, List.set_cons_succ]
            refine stepU HOPS 47 281474976710655 (by decide) rfl (by kernel_rfl) (by kernel_rfl) rfl HSS.out ?_
            try simp only [Act.put, List.setIfInBounds_toArray, List.set_cons_zero, List.set_cons_succ]
            refine stepU HOPS 48 562949953421311 (by decide) rfl (by kernel_rfl) (by kernel_rfl) rfl HSS.out ?_
            try simp only [Act.put, List.setIfInBounds_toArray, List.set_cons_zero, List.set_cons_succ]
            refine stepU HOPS 49 1125899906842623 (by decide) rfl (by kernel_rfl) (by kernel_rfl) rfl HSS.out ?_
            try simp only [Act.put, List.setIfInBounds_toArray, List.set_cons_zero, List.set_cons_succ]
            refine stepU HOPS 50 2251799813685247 (by decide) rfl (by kernel_rfl) (by kernel_rfl) rfl HSS.out ?_
            try simp only [Act.put, List.setIfInBounds_toArray, List.set_cons_zero, List.set_cons_succ]
            refine stepQ HOPS 51 4503599627370495 ?_ (by decide) rfl (by kernel_rfl) (by kernel_rfl) rfl ?_ HSS.out ?_
            rotate_left
            · intro w9 hS9; obtain ⟨q0, q1, q2, q3, q4, q5⟩ := hS9; go_simp; (first | done | with_reducible rfl)
            try simp only [Act.put, List.setIfInBounds_toArray, List.set_cons_zero, List.set_cons_succ]
            refine stepQ HOPS 52 9007199254740991 ?_ (by decide) rfl (by kernel_rfl) (by kernel_rfl) rfl ?_ HSS.out ?_
            rotate_left
            · intro w9 hS9; obtain ⟨q0, q1, q2, q3, q4, q5⟩ := hS9; go_simp; (first | done | with_reducible rfl)
            try simp only [Act.put, List.setIfInBounds_toArray, List.set_cons_zero, List.set_cons_succ]
            refine stepQ HOPS 53 18014398509481983 ?_ (by decide) rfl (by kernel_rfl) (by kernel_rfl) rfl ?_ HSS.out ?_
            rotate_left
            · intro w9 hS9; obtain ⟨q0, q1, q2, q3, q4, q5⟩ := hS9; go_simp; (first | done | with_reducible rfl)
            try simp only [Act.put, List.setIfInBounds_toArray, List.set_cons_zero, List.set_cons_succ]
            refine stepE HOPS (by kernel_rfl) (HQ.out _ _ ?_)
            clear HQ HOPS
            clear Q ops
            go_wp2
            go_roundw
            case rel => exact ⟨j + 1, by go_num, by omega, by rw [HN.out], bel_drew HB2.out⟩
            case measure => simp [intOf]; omega
          rcases c3 : decide (x.hi ≤ y.hi) with _ | _
          · have HN := Lib.hid (show (m.take (j + 1)).any (goodS x) = false by rw [HAT.out, hth]; unfold goodS; rw [c1, c2, c3]; simp)
            go_wp2
            refine region_let (fun W9 : World => W9.cell? ⟨b2, o2 + j * 3, none⟩ = some (.int .i64 y.kind) ∧ W9.cell? ⟨b2, o2 + j * 3 + 1, none⟩ = some (.int .i64 y.lo) ∧ W9.cell? ⟨b2, o2 + j * 3 + 2, none⟩ = some (.int .i64 y.hi) ∧ W9.cell? ⟨b, o + k * 3, none⟩ = some (.int .i64 x.kind) ∧ W9.cell? ⟨b, o + k * 3 + 1, none⟩ = some (.int .i64 x.lo) ∧ W9.cell? ⟨b, o + k * 3 + 2, none⟩ = some (.int .i64 x.hi)) 99 54 hmx rfl fun ops Q HOPS HQ => ?_
            refine stepQ HOPS 0 1 ?_ (by decide) rfl (by kernel_rfl) (by kernel_rfl) rfl ?_ HSS.out ?_
            rotate_left
            · intro w9 hS9; obtain ⟨q0, q1, q2, q3, q4, q5⟩ := hS9; go_simp; (first | done | with_reducible rfl)
            try simp only [Act.put, List.setIfInBounds_toArray, List.set_cons_zero, List.set_cons_succ]
            refine stepQ HOPS 1 3 ?_ (by decide) rfl (by kernel_rfl) (by kernel_rfl) rfl ?_ HSS.out ?_
            rotate_left
            · intro w9 hS9; obtain ⟨q0, q1, q2, q3, q4, q5⟩ := hS9; go_simp; (first | done | with_reducible rfl)
            try simp only [Act.put, List.setIfInBounds_toArray, List.set_cons_zero, List.set_cons_succ]
            refine stepQ HOPS 2 7 ?_ (by decide) rfl (by kernel_rfl) (by kernel_rfl) rfl ?_ HSS.out ?_
            rotate_left
            · intro w9 hS9; obtain ⟨q0, q1, q2, q3, q4, q5⟩ := hS9; go_simp; (first | done | with_reducible rfl)
            try simp only [Act.put, List.setIfInBounds_toArray, List.set_cons_zero, List.set_cons_succ]
            refine stepQ HOPS 3 15 ?_ (by decide) rfl (by kernel_rfl) (by kernel_rfl) rfl ?_ HSS.out ?_
            rotate_left
            · intro w9 hS9; obtain ⟨q0, q1, q2, q3, q4, q5⟩ := hS9; go_simp; (first | done | with_reducible rfl)
            try simp only [Act.put, List.setIfInBounds_toArray, List.set_cons_zero, List.set_cons_succ]
            refine stepQ HOPS 4 31 ?_ (by decide) rfl (by kernel_rfl) (by kernel_rfl) rfl ?_ HSS.out ?_
            rotate_left
            · intro w9 hS9; obtain ⟨q0, q1, q2, q3, q4, q5⟩ := hS9; go_simp; (first | done | with_reducible rfl)
            try simp only [Act.put, List.setIfInBounds_toArray, List.set_cons_zero, List.set_cons_succ]
            refine stepQ HOPS 5 63 ?_ (by decide) rfl (by kernel_rfl) (by kernel_rfl) rfl ?_ HSS.out ?_
            rotate_left
            · intro w9 hS9; obtain ⟨q0, q1, q2, q3, q4, q5⟩ := hS9; go_simp; (first | done | with_reducible rfl)
            try simp only [Act.put, List.setIfInBounds_toArray, List.set_cons_zero, List.set_cons_succ]
            refine stepQ HOPS 6 127 ?_ (by decide) rfl (by kernel_rfl) (by kernel_rfl) rfl ?_ HSS.out ?_
            rotate_left
            · intro w9 hS9; obtain ⟨q0, q1, q2, q3, q4, q5⟩ := hS9; go_simp; (first | done | with_reducible rfl)
            try simp only [Act.put, List.setIfInBounds_toArray, List.set_cons_zero, List.set_cons_succ]
            refine stepQ HOPS 7 255 ?_ (by decide) rfl (by kernel_rfl) (by kernel_rfl) rfl ?_ HSS.out ?_
            rotate_left
            · intro w9 hS9; obtain ⟨q0, q1, q2, q3, q4, q5⟩ := hS9; go_simp; (first | done | with_reducible rfl)
            try simp only [Act.put, List.setIfInBounds_toArray, List.set_cons_zero, List.set_cons_succ]
            refine stepQ HOPS 8 511 ?_ (by decide) rfl (by kernel_rfl) (by kernel_rfl) rfl ?_ HSS.out ?_
            rotate_left
            · intro w9 hS9; obtain ⟨q0, q1, q2, q3, q4, q5⟩ := hS9; go_simp; (first | done | with_reducible rfl)
            try simp only [Act.put, List.setIfInBounds_toArray, List.set_cons_zero, List.set_cons_succ]
            refine stepQ HOPS 9 1023 ?_ (by decide) rfl (by kernel_rfl) (by kernel_rfl) rfl ?_ HSS.out ?_
            rotate_left
            · intro w9 hS9; obtain ⟨q0, q1, q2, q3, q4, q5⟩ := hS9; go_simp; (first | done | with_reducible rfl)
            try simp only [Act.put, List.setIfInBounds_toArray, List.set_cons_zero, List.set_cons_succ]
            refine stepQ HOPS 10 2047 ?_ (by decide) rfl (by kernel_rfl) (by kernel_rfl) rfl ?_ HSS.out ?_
            rotate_left
            · intro w9 hS9; obtain ⟨q0, q1, q2, q3, q4, q5⟩ := hS9; go_simp; (first | done | with_reducible rfl)
            try simp only [Act.put, List.setIfInBounds_toArray, List.set_cons_zero, List.set_cons_succ]
            refine stepQ HOPS 11 4095 ?_ (by decide) rfl (by kernel_rfl) (by kernel_rfl) rfl ?_ HSS.out ?_
            rotate_left
            · intro w9 hS9; obtain ⟨q0, q1, q2, q3, q4, q5⟩ := hS9; go_simp; (first | done | with_reducible rfl)
            try simp only [Act.put, List.setIfInBounds_toArray, List.set_cons_zero, List.set_cons_succ]
            refine stepQ HOPS 12 8191 ?_ (by decide) rfl (by kernel_rfl) (by kernel_rfl) rfl ?_ HSS.out ?_
            rotate_left
            · intro w9 hS9; obtain ⟨q0, q1, q2, q3, q4, q5⟩ := hS9; go_simp; (first | done | with_reducible rfl)
            try simp only [Act.put, List.setIfInBounds_toArray, List.set_cons_zero, List.set_cons_succ]
            refine stepQ HOPS 13 16383 ?_ (by decide) rfl (by kernel_rfl) (by kernel_rfl) rfl ?_ HSS.out ?_
            rotate_left
            · intro w9 hS9; obtain ⟨q0, q1, q2, q3, q4, q5⟩ := hS9; go_simp; (first | done | with_reducible rfl)
            try simp only [Act.put, List.setIfInBounds_toArray, List.set_cons_zero, List.set_cons_succ]
            refine stepQ HOPS 14 32767 ?_ (by decide) rfl (by kernel_rfl) (by kernel_rfl) rfl ?_ HSS.out ?_
            rotate_left
            · intro w9 hS9; obtain ⟨q0, q1, q2, q3, q4, q5⟩ := hS9; go_simp; (first | done | with_reducible rfl)
            try simp only [Act.put, List.setIfInBounds_toArray, List.set_cons_zero, List.set_cons_succ]
            refine stepQ HOPS 15 65535 ?_ (by decide) rfl (by kernel_rfl) (by kernel_rfl) rfl ?_ HSS.out ?_
            rotate_left
            · intro w9 hS9; obtain ⟨q0, q1, q2, q3, q4, q5⟩ := hS9; go_simp; (first | done | with_reducible rfl)
            try simp only [Act.put, List.setIfInBounds_toArray, List.set_cons_zero, List.set_cons_succ]
            refine stepQ HOPS 16 131071 ?_ (by decide) rfl (by kernel_rfl) (by kernel_rfl) rfl ?_ HSS.out ?_
            rotate_left
            · intro w9 hS9; obtain ⟨q0, q1, q2, q3, q4, q5⟩ := hS9; go_simp; (first | done | with_reducible rfl)
            try simp only [Act.put, List.setIfInBounds_toArray, List.set_cons_zero, List.set_cons_succ]
            refine stepQ HOPS 17 262143 ?_ (by decide) rfl (by kernel_rfl) (by kernel_rfl) rfl ?_ HSS.out ?_
            rotate_left
            · intro w9 hS9; obtain ⟨q0, q1, q2, q3, q4, q5⟩ := hS9; go_simp; (first | done | with_reducible rfl)
            try simp only [Act.put, List.setIfInBounds_toArray, List.set_cons_zero, List.set_cons_succ]
            refine stepQ HOPS 18 524287 ?_ (by decide) rfl (by kernel_rfl) (by kernel_rfl) rfl ?_ HSS.out ?_
            rotate_left
            · intro w9 hS9; obtain ⟨q0, q1, q2, q3, q4, q5⟩ := hS9; go_simp; (first | done | with_reducible rfl)
            try simp only [Act.put, List.setIfInBounds_toArray, List.set_cons_zero, List.set_cons_succ]
            refine stepQ HOPS 19 1048575 ?_ (by decide) rfl (by kernel_rfl) (by kernel_rfl) rfl ?_ HSS.out ?_
            rotate_left
            · intro w9 hS9; obtain ⟨q0, q1, q2, q3, q4, q5⟩ := hS9; go_simp; (first | done | with_reducible rfl)
            try simp only [Act.put, List.setIfInBounds_toArray, List.set_cons_zero, List.set_cons_succ]
            refine stepQ HOPS 20 2097151 ?_ (by decide) rfl (by kernel_rfl) (by kernel_rfl) rfl ?_ HSS.out ?_
            rotate_left
            · intro w9 hS9; obtain ⟨q0, q1, q2, q3, q4, q5⟩ := hS9; go_simp; (first | done | with_reducible rfl)
            try simp only [Act.put, List.setIfInBounds_toArray, List.set_cons_zero, List.set_cons_succ]
            refine stepQ HOPS 21 4194303 ?_ (by decide) rfl (by kernel_rfl) (by kernel_rfl) rfl ?_ HSS.out ?_
            rotate_left
            · intro w9 hS9; obtain ⟨q0, q1, q2, q3, q4, q5⟩ := hS9; go_simp; (first | done | with_reducible rfl)
            try simp only [Act.put, List.setIfInBounds_toArray, List.set_cons_zero, List.set_cons_succ]
            refine stepQ HOPS 22 8388607 ?_ (by decide) rfl (by kernel_rfl) (by kernel_rfl) rfl ?_ HSS.out ?_
            rotate_left
            · intro w9 hS9; obtain ⟨q0, q1, q2, q3, q4, q5⟩ := hS9; go_simp; (first | done | with_reducible rfl)
            try simp only [Act.put, List.setIfInBounds_toArray, List.set_cons_zero, List.set_cons_succ]
            refine stepQ HOPS 23 16777215 ?_ (by decide) rfl (by kernel_rfl) (by kernel_rfl) rfl ?_ HSS.out ?_
            rotate_left
            · intro w9 hS9; obtain ⟨q0, q1, q2, q3, q4, q5⟩ := hS9; go_simp; (first | done | with_reducible rfl)
            try simp only [Act.put, List.setIfInBounds_toArray, List.set_cons_zero, List.set_cons_succ]
            refine stepQ HOPS 24 33554431 ?_ (by decide) rfl (by kernel_rfl) (by kernel_rfl) rfl ?_ HSS.out ?_
            rotate_left
            · intro w9 hS9; obtain ⟨q0, q1, q2, q3, q4, q5⟩ := hS9; go_simp; (first | done | with_reducible rfl)
            try simp only [Act.put, List.setIfInBounds_toArray, List.set_cons_zero, List.set_cons_succ]
            refine stepQ HOPS 25 67108863 ?_ (by decide) rfl (by kernel_rfl) (by kernel_rfl) rfl ?_ HSS.out ?_
            rotate_left
            · intro w9 hS9; obtain ⟨q0, q1, q2, q3, q4, q5⟩ := hS9; go_simp; (first | done | with_reducible rfl)
            try simp only [Act.put, List.setIfInBounds_toArray, List.set_cons_zero, List.set_cons_succ]
            refine stepQ HOPS 26 134217727 ?_ (by decide) rfl (by kernel_rfl) (by kernel_rfl) rfl ?_ HSS.out ?_
            rotate_left
            · intro w9 hS9; obtain ⟨q0, q1, q2, q3, q4, q5⟩ := hS9; go_simp; (first | done | with_reducible rfl)
            try simp only [Act.put, List.setIfInBounds_toArray, List.set_cons_zero, List.set_cons_succ]
            refine stepQ HOPS 27 268435455 ?_ (by decide) rfl (by kernel_rfl) (by kernel_rfl) rfl ?_ HSS.out ?_
            rotate_left
            · intro w9 hS9; obtain ⟨q0, q1, q2, q3, q4, q5⟩ := hS9; go_simp; (first | done | with_reducible rfl)
            try simp only [Act.put, List.setIfInBounds_toArray, List.set_cons_zero, List.set_cons_succ]
            refine stepQ HOPS 28 536870911 ?_ (by decide) rfl (by kernel_rfl) (by kernel_rfl) rfl ?_ HSS.out ?_
            rotate_left
            · intro w9 hS9; obtain ⟨q0, q1, q2, q3, q4, q5⟩ := hS9; go_simp; (first | done | with_reducible rfl)
            try simp only [Act.put, List.setIfInBounds_toArray, List.set_cons_zero, List.set_cons_succ]
            refine stepQ HOPS 29 1073741823 ?_ (by decide) rfl (by kernel_rfl) (by kernel_rfl) rfl ?_ HSS.out ?_
            rotate_left
            · intro w9 hS9; obtain ⟨q0, q1, q2, q3, q4, q5⟩ := hS9; go_simp; (first | done | with_reducible rfl)
            try simp only [Act.put, List.setIfInBounds_toArray, List.set_cons_zero, List.set_cons_succ]
            refine stepQ HOPS 30 2147483647 ?_ (by decide) rfl (by kernel_rfl) (by kernel_rfl) rfl ?_ HSS.out ?_
            rotate_left
            · intro w9 hS9; obtain ⟨q0, q1, q2, q3, q4, q5⟩ := hS9; go_simp; (first | done | with_reducible rfl)
            try simp only [Act.put, List.setIfInBounds_toArray, List.set_cons_zero, List.set_cons_succ]
            refine stepQ HOPS 31 4294967295 ?_ (by decide) rfl (by kernel_rfl) (by kernel_rfl) rfl ?_ HSS.out ?_
            rotate_left
            · intro w9 hS9; obtain ⟨q0, q1, q2, q3, q4, q5⟩ := hS9; go_simp; (first | done | with_reducible rfl)
            try simp only [Act.put, List.setIfInBounds_toArray, List.set_cons_zero, List.set_cons_succ]
            refine stepQ HOPS 32 8589934591 ?_ (by decide) rfl (by kernel_rfl) (by kernel_rfl) rfl ?_ HSS.out ?_
            rotate_left
            · intro w9 hS9; obtain ⟨q0, q1, q2, q3, q4, q5⟩ := hS9; go_simp; (first | done | with_reducible rfl)
            try simp only [Act.put, List.setIfInBounds_toArray, List.set_cons_zero, List.set_cons_succ]
            refine stepQ HOPS 33 17179869183 ?_ (by decide) rfl (by kernel_rfl) (by kernel_rfl) rfl ?_ HSS.out ?_
            rotate_left
            · intro w9 hS9; obtain ⟨q0, q1, q2, q3, q4, q5⟩ := hS9; go_simp; (first | done | with_reducible rfl)
            try simp only [Act.put, List.setIfInBounds_toArray, List.set_cons_zero, List.set_cons_succ]
            refine stepQ HOPS 34 34359738367 ?_ (by decide) rfl (by kernel_rfl) (by kernel_rfl) rfl ?_ HSS.out ?_
            rotate_left
            · intro w9 hS9; obtain ⟨q0, q1, q2, q3, q4, q5⟩ := hS9; go_simp; (first | done | with_reducible rfl)
            try simp only [Act.put, List.setIfInBounds_toArray, List.set_cons_zero, List.set_cons_succ]
            refine stepQ HOPS 35 68719476735 ?_ (by decide) rfl (by kernel_rfl) (by kernel_rfl) rfl ?_ HSS.out ?_
            rotate_left
            · intro w9 hS9; obtain ⟨q0, q1, q2, q3, q4, q5⟩ := hS9; go_simp; (first | done | with_reducible rfl)
            try simp only [Act.put, List.setIfInBounds_toArray, List.set_cons_zero, List.set_cons_succ]
            refine stepQ HOPS 36 137438953471 ?_ (by decide) rfl (by kernel_rfl) (by kernel_rfl) rfl ?_ HSS.out ?_
            rotate_left
            · intro w9 hS9; obtain ⟨q0, q1, q2, q3, q4, q5⟩ := hS9; go_simp; (first | done | with_reducible rfl)
            try simp only [Act.put, List.setIfInBounds_toArray, List.set_cons_zero, List.set_cons_succ]
            refine stepQ HOPS 37 274877906943 ?_ (by decide) rfl (by kernel_rfl) (by kernel_rfl) rfl ?_ HSS.out ?_
            rotate_left
            · intro w9 hS9; obtain ⟨q0, q1, q2, q3, q4, q5⟩ := hS9; go_simp; (first | done | with_reducible rfl)
            try simp only [Act.put, List.setIfInBounds_toArray, List.set_cons_zero, List.set_cons_succ]
            refine stepQ HOPS 38 549755813887 ?_ (by decide) rfl (by kernel_rfl) (by kernel_rfl) rfl ?_ HSS.out ?_
            rotate_left
            · intro w9 hS9; obtain ⟨q0, q1, q2, q3, q4, q5⟩ := hS9; go_simp; (first | done | with_reducible rfl)
            try simp only [Act.put, List.setIfInBounds_toArray, List.set_cons_zero, List.set_cons_succ]
            refine stepQ HOPS 39 1099511627775 ?_ (by decide) rfl (by kernel_rfl) (by kernel_rfl) rfl ?_ HSS.out ?_
            rotate_left
            · intro w9 hS9; obtain ⟨q0, q1, q2, q3, q4, q5⟩ := hS9; go_simp; (first | done | with_reducible rfl)
            try simp only [Act.put, List.setIfInBounds_toArray, List.set_cons_zero, List.set_cons_succ]
            refine stepU HOPS 40 2199023255551 (by decide) rfl (by kernel_rfl) (by kernel_rfl) rfl HSS.out ?_
            try simp only [Act.put, List.setIfInBounds_toArray, List.set_cons_zero, List.set_cons_succ]
            refine stepU HOPS 41 4398046511103 (by decide) rfl (by kernel_rfl) (by kernel_rfl) rfl HSS.out ?_
            try simp only [Act.put, List.setIfInBounds_toArray, List.set_cons_zero, List.set_cons_succ]
            refine stepU HOPS 42 8796093022207 (by decide) rfl (by kernel_rfl) (by kernel_rfl) rfl HSS.out ?_
            try simp only [Act.put, List.setIfInBounds_toArray, List.set_cons_zero, List.set_cons_succ]
            refine stepU HOPS 43 17592186044415 (by decide) rfl (by kernel_rfl) (by kernel_rfl) rfl HSS.out ?_
            try simp only [Act.put, List.setIfInBounds_toArray, List.set_cons_zero, List.set_cons_succ]
            refine stepU HOPS 44 35184372088831 (by decide) rfl (by kernel_rfl) (by kernel_rfl) rfl HSS.out ?_
            try simp only [Act.put, List.setIfInBounds_toArray, List.set_cons_zero, List.set_cons_succ]
            refine stepU HOPS 45 70368744177663 (by decide) rfl (by kernel_rfl) (by kernel_rfl) rfl HSS.out ?_
            try simp only [Act.put, List.setIfInBounds_toArray, List.set_cons_zero, List.set_cons_succ]
            refine stepU HOPS 46 140737488355327 (by decide) rfl (by kernel_rfl) (by kernel_rfl) rfl HSS.out ?_
            try simp only [Act.put, List.setIfInBounds_toArray, List.set_cons_zero, List.set_cons_succ]
            refine stepU HOPS 47 281474976710655 (by decide) rfl (by kernel_rfl) (by kernel_rfl) rfl HSS.out ?_
            try simp only [Act.put, List.setIfInBounds_toArray, List.set_cons_zero, List.set_cons_succ]
            refine stepU HOPS 48 562949953421311 (by decide) rfl (by kernel_rfl) (by kernel_rfl) rfl HSS.out ?_
            try simp only [Act.put, List.setIfInBounds_toArray, List.set_cons_zero, List.set_cons_succ]
            refine stepU HOPS 49 1125899906842623 (by decide) rfl (by kernel_rfl) (by kernel_rfl) rfl HSS.out ?_
            try simp only [Act.put, List.setIfInBounds_toArray, List.set_cons_zero, List.set_cons_succ]
            refine stepU HOPS 50 2251799813685247 (by decide) rfl (by kernel_rfl) (by kernel_rfl) rfl HSS.out ?_
            try simp only [Act.put, List.setIfInBounds_toArray, List.set_cons_zero, List.set_cons_succ]
            refine stepQ HOPS 51 4503599627370495 ?_ (by decide) rfl (by kernel_rfl) (by kernel_rfl) rfl ?_ HSS.out ?_
            rotate_left
            · intro w9 hS9; obtain ⟨q0, q1, q2, q3, q4, q5⟩ := hS9; go_simp; (first | done | with_reducible rfl)
            try simp only [Act.put, List.setIfInBounds_toArray, List.set_cons_zero, List.set_cons_succ]
            refine stepQ HOPS 52 9007199254740991 ?_ (by decide) rfl (by kernel_rfl) (by kernel_rfl) rfl ?_ HSS.out ?_
            rotate_left
            · intro w9 hS9; obtain ⟨q0, q1, q2, q3, q4, q5⟩ := hS9; go_simp; (first | done | with_reducible rfl)
            try simp only [Act.put, List.setIfInBounds_toArray, List.set_cons_zero, List.set_cons_succ]
            refine stepQ HOPS 53 18014398509481983 ?_ (by decide) rfl (by kernel_rfl) (by kernel_rfl) rfl ?_ HSS.out ?_
            rotate_left
            · intro w9 hS9; obtain ⟨q0, q1, q2, q3, q4, q5⟩ := hS9; go_simp; (first | done | with_reducible rfl)
            try simp only [Act.put, List.setIfInBounds_toArray, List.set_cons_zero, List.set_cons_succ]
            refine stepE HOPS (by kernel_rfl) (HQ.out _ _ ?_)
            clear HQ HOPS
            clear Q ops
            go_wp2
            go_roundw
            case rel => exact ⟨j + 1, by go_num, by omega, by rw [HN.out], bel_drew HB2.out⟩
            case measure => simp [intOf]; omega
          have c4 : decide (x.lo ≤ x.hi) = true := decide_eq_true HLH.out
          have HN := Lib.hid (show (m.take (j + 1)).any (goodS x) = true by rw [HAT.out, hth]; unfold goodS; rw [c1, c2, c3, c4]; rfl)
          go_wp2
          refine region_let (fun W9 : World => W9.cell? ⟨b2, o2 + j * 3, none⟩ = some (.int .i64 y.kind) ∧ W9.cell? ⟨b2, o2 + j * 3 + 1, none⟩ = some (.int .i64 y.lo) ∧ W9.cell? ⟨b2, o2 + j * 3 + 2, none⟩ = some (.int .i64 y.hi) ∧ W9.cell? ⟨b, o + k * 3, none⟩ = some (.int .i64 x.kind) ∧ W9.cell? ⟨b, o + k * 3 + 1, none⟩ = some (.int .i64 x.lo) ∧ W9.cell? ⟨b, o + k * 3 + 2, none⟩ = some (.int .i64 x.hi)) 99 54 hmx rfl fun ops Q HOPS HQ => ?_
          refine stepQ HOPS 0 1 ?_ (by decide) rfl (by kernel_rfl) (by kernel_rfl) rfl ?_ HSS.out ?_
          rotate_left
          · intro w9 hS9; obtain ⟨q0, q1, q2, q3, q4, q5⟩ := hS9; go_simp; (first | done | with_reducible rfl)
          try simp only [Act.put, List.setIfInBounds_toArray, List.set_cons_zero, List.set_cons_succ]
          refine stepQ HOPS 1 3 ?_ (by decide) rfl (by kernel_rfl) (by kernel_rfl) rfl ?_ HSS.out ?_
          rotate_left
          · intro w9 hS9; obtain ⟨q0, q1, q2, q3, q4, q5⟩ := hS9; go_simp; (first | done | with_reducible rfl)
          try simp only [Act.put, List.setIfInBounds_toArray, List.set_cons_zero, List.set_cons_succ]
          refine stepQ HOPS 2 7 ?_ (by decide) rfl (by kernel_rfl) (by kernel_rfl) rfl ?_ HSS.out ?_
          rotate_left
          · intro w9 hS9; obtain ⟨q0, q1, q2, q3, q4, q5⟩ := hS9; go_simp; (first | done | with_reducible rfl)
          try simp only [Act.put, List.setIfInBounds_toArray, List.set_cons_zero, List.set_cons_succ]
          refine stepQ HOPS 3 15 ?_ (by decide) rfl (by kernel_rfl) (by kernel_rfl) rfl ?_ HSS.out ?_
          rotate_left
          · intro w9 hS9; obtain ⟨q0, q1, q2, q3, q4, q5⟩ := hS9; go_simp; (first | done | with_reducible rfl)
          try simp only [Act.put, List.setIfInBounds_toArray, List.set_cons_zero, List.set_cons_succ]
          refine stepQ HOPS 4 31 ?_ (by decide) rfl (by kernel_rfl) (by kernel_rfl) rfl ?_ HSS.out ?_
          rotate_left
          · intro w9 hS9; obtain ⟨q0, q1, q2, q3, q4, q5⟩ := hS9; go_simp; (first | done | with_reducible rfl)
          try simp only [Act.put, List.setIfInBounds_toArray, List.set_cons_zero, List.set_cons_succ]
          refine stepQ HOPS 5 63 ?_ (by decide) rfl (by kernel_rfl) (by kernel_rfl) rfl ?_ HSS.out ?_
          rotate_left
          · intro w9 hS9; obtain ⟨q0, q1, q2, q3, q4, q5⟩ := hS9; go_simp; (first | done | with_reducible rfl)
          try simp only [Act.put, List.setIfInBounds_toArray, List.set_cons_zero, List.set_cons_succ]
          refine stepQ HOPS 6 127 ?_ (by decide) rfl (by kernel_rfl) (by kernel_rfl) rfl ?_ HSS.out ?_
          rotate_left
          · intro w9 hS9; obtain ⟨q0, q1, q2, q3, q4, q5⟩ := hS9; go_simp; (first | done | with_reducible rfl)
          try simp only [Act.put, List.setIfInBounds_toArray, List.set_cons_zero, List.set_cons_succ]
          refine stepQ HOPS 7 255 ?_ (by decide) rfl (by kernel_rfl) (by kernel_rfl) rfl ?_ HSS.out ?_
          rotate_left
          · intro w9 hS9; obtain ⟨q0, q1, q2, q3, q4, q5⟩ := hS9; go_simp; (first | done | with_reducible rfl)
          try simp only [Act.put, List.setIfInBounds_toArray, List.set_cons_zero, List.set_cons_succ]
          refine stepQ HOPS 8 511 ?_ (by decide) rfl (by kernel_rfl) (by kernel_rfl) rfl ?_ HSS.out ?_
          rotate_left
          · intro w9 hS9; obtain ⟨q0, q1, q2, q3, q4, q5⟩ := hS9; go_simp; (first | done | with_reducible rfl)
          try simp only [Act.put, List.setIfInBounds_toArray, List.set_cons_zero, List.set_cons_succ]
          refine stepQ HOPS 9 1023 ?_ (by decide) rfl (by kernel_rfl) (by kernel_rfl) rfl ?_ HSS.out ?_
          rotate_left
          · intro w9 hS9; obtain ⟨q0, q1, q2, q3, q4, q5⟩ := hS9; go_simp; (first | done | with_reducible rfl)
          try simp only [Act.put, List.setIfInBounds_toArray, List.set_cons_zero, List.set_cons_succ]
          refine stepQ HOPS 10 2047 ?_ (by decide) rfl (by kernel_rfl) (by kernel_rfl) rfl ?_ HSS.out ?_
          rotate_left
          · intro w9 hS9; obtain ⟨q0, q1, q2, q3, q4, q5⟩ := hS9; go_simp; (first | done | with_reducible rfl)
          try simp only [Act.put, List.setIfInBounds_toArray, List.set_cons_zero, List.set_cons_succ]
          refine stepQ HOPS 11 4095 ?_ (by decide) rfl (by kernel_rfl) (by kernel_rfl) rfl ?_ HSS.out ?_
          rotate_left
          · intro w9 hS9; obtain ⟨q0, q1, q2, q3, q4, q5⟩ := hS9; go_simp; (first | done | with_reducible rfl)
          try simp only [Act.put, List.setIfInBounds_toArray, List.set_cons_zero, List.set_cons_succ]
          refine stepQ HOPS 12 8191 ?_ (by decide) rfl (by kernel_rfl) (by kernel_rfl) rfl ?_ HSS.out ?_
          rotate_left
          · intro w9 hS9; obtain ⟨q0, q1, q2, q3, q4, q5⟩ := hS9; go_simp; (first | done | with_reducible rfl)
          try simp only [Act.put, List.setIfInBounds_toArray, List.set_cons_zero, List.set_cons_succ]
          refine stepQ HOPS 13 16383 ?_ (by decide) rfl (by kernel_rfl) (by kernel_rfl) rfl ?_ HSS.out ?_
          rotate_left
          · intro w9 hS9; obtain ⟨q0, q1, q2, q3, q4, q5⟩ := hS9; go_simp; (first | done | with_reducible rfl)
          try simp only [Act.put, List.setIfInBounds_toArray, List.set_cons_zero, List.set_cons_succ]
          refine stepQ HOPS 14 32767 ?_ (by decide) rfl (by kernel_rfl) (by kernel_rfl) rfl ?_ HSS.out ?_
          rotate_left
          · intro w9 hS9; obtain ⟨q0, q1, q2, q3, q4, q5⟩ := hS9; go_simp; (first | done | with_reducible rfl)
          try simp only [Act.put, List.setIfInBounds_toArray, List.set_cons_zero, List.set_cons_succ]
          refine stepQ HOPS 15 65535 ?_ (by decide) rfl (by kernel_rfl) (by kernel_rfl) rfl ?_ HSS.out ?_
          rotate_left
          · intro w9 hS9; obtain ⟨q0, q1, q2, q3, q4, q5⟩ := hS9; go_simp; (first | done | with_reducible rfl)
          try simp only [Act.put, List.setIfInBounds_toArray, List.set_cons_zero, List.set_cons_succ]
          refine stepQ HOPS 16 131071 ?_ (by decide) rfl (by kernel_rfl) (by kernel_rfl) rfl ?_ HSS.out ?_
          rotate_left
          · intro w9 hS9; obtain ⟨q0, q1, q2, q3, q4, q5⟩ := hS9; go_simp; (first | done | with_reducible rfl)
          try simp only [Act.put, List.setIfInBounds_toArray, List.set_cons_zero, List.set_cons_succ]
          refine stepQ HOPS 17 262143 ?_ (by decide) rfl (by kernel_rfl) (by kernel_rfl) rfl ?_ HSS.out ?_
          rotate_left
          · intro w9 hS9; obtain ⟨q0, q1, q2, q3, q4, q5⟩ := hS9; go_simp; (first | done | with_reducible rfl)
          try simp only [Act.put, List.setIfInBounds_toArray, List.set_cons_zero, List.set_cons_succ]
          refine stepQ HOPS 18 524287 ?_ (by decide) rfl (by kernel_rfl) (by kernel_rfl) rfl ?_ HSS.out ?_
          rotate_left
          · intro w9 hS9; obtain ⟨q0, q1, q2, q3, q4, q5⟩ := hS9; go_simp; (first | done | with_reducible rfl)
          try simp only [Act.put, List.setIfInBounds_toArray, List.set_cons_zero, List.set_cons_succ]
          refine stepQ HOPS 19 1048575 ?_ (by decide) rfl (by kernel_rfl) (by kernel_rfl) rfl ?_ HSS.out ?_
          rotate_left
          · intro w9 hS9; obtain ⟨q0, q1, q2, q3, q4, q5⟩ := hS9; go_simp; (first | done | with_reducible rfl)
          try simp only [Act.put, List.setIfInBounds_toArray, List.set_cons_zero, List.set_cons_succ]
          refine stepQ HOPS 20 2097151 ?_ (by decide) rfl (by kernel_rfl) (by kernel_rfl) rfl ?_ HSS.out ?_
          rotate_left
          · intro w9 hS9; obtain ⟨q0, q1, q2, q3, q4, q5⟩ := hS9; go_simp; (first | done | with_reducible rfl)
          try simp only [Act.put, List.setIfInBounds_toArray, List.set_cons_zero, List.set_cons_succ]
          refine stepQ HOPS 21 4194303 ?_ (by decide) rfl (by kernel_rfl) (by kernel_rfl) rfl ?_ HSS.out ?_
          rotate_left
          · intro w9 hS9; obtain ⟨q0, q1, q2, q3, q4, q5⟩ := hS9; go_simp; (first | done | with_reducible rfl)
          try simp only [Act.put, List.setIfInBounds_toArray, List.set_cons_zero, List.set_cons_succ]
          refine stepQ HOPS 22 8388607 ?_ (by decide) rfl (by kernel_rfl) (by kernel_rfl) rfl ?_ HSS.out ?_
          rotate_left
          · intro w9 hS9; obtain ⟨q0, q1, q2, q3, q4, q5⟩ := hS9; go_simp; (first | done | with_reducible rfl)
          try simp only [Act.put, List.setIfInBounds_toArray, List.set_cons_zero, List.set_cons_succ]
          refine stepQ HOPS 23 16777215 ?_ (by decide) rfl (by kernel_rfl) (by kernel_rfl) rfl ?_ HSS.out ?_
          rotate_left
          · intro w9 hS9; obtain ⟨q0, q1, q2, q3, q4, q5⟩ := hS9; go_simp; (first | done | with_reducible rfl)
          try simp only [Act.put, List.setIfInBounds_toArray, List.set_cons_zero, List.set_cons_succ]
          refine stepQ HOPS 24 33554431 ?_ (by decide) rfl (by kernel_rfl) (by kernel_rfl) rfl ?_ HSS.out ?_
          rotate_left
          · intro w9 hS9; obtain ⟨q0, q1, q2, q3, q4, q5⟩ := hS9; go_simp; (first | done | with_reducible rfl)
          try simp only [Act.put, List.setIfInBounds_toArray, List.set_cons_zero, List.set_cons_succ]
          refine stepQ HOPS 25 67108863 ?_ (by decide) rfl (by kernel_rfl) (by kernel_rfl) rfl ?_ HSS.out ?_
          rotate_left
          · intro w9 hS9; obtain ⟨q0, q1, q2, q3, q4, q5⟩ := hS9; go_simp; (first | done | with_reducible rfl)
          try simp only [Act.put, List.setIfInBounds_toArray, List.set_cons_zero, List.set_cons_succ]
          refine stepQ HOPS 26 134217727 ?_ (by decide) rfl (by kernel_rfl) (by kernel_rfl) rfl ?_ HSS.out ?_
          rotate_left
          · intro w9 hS9; obtain ⟨q0, q1, q2, q3, q4, q5⟩ := hS9; go_simp; (first | done | with_reducible rfl)
          try simp only [Act.put, List.setIfInBounds_toArray, List.set_cons_zero, List.set_cons_succ]
          refine stepQ HOPS 27 268435455 ?_ (by decide) rfl (by kernel_rfl) (by kernel_rfl) rfl ?_ HSS.out ?_
          rotate_left
          · intro w9 hS9; obtain ⟨q0, q1, q2, q3, q4, q5⟩ := hS9; go_simp; (first | done | with_reducible rfl)
          try simp only [Act.put, List.setIfInBounds_toArray, List.set_cons_zero, List.set_cons_succ]
          refine stepQ HOPS 28 536870911 ?_ (by decide) rfl (by kernel_rfl) (by kernel_rfl) rfl ?_ HSS.out ?_
          rotate_left
          · intro w9 hS9; obtain ⟨q0, q1, q2, q3, q4, q5⟩ := hS9; go_simp; (first | done | with_reducible rfl)
          try simp only [Act.put, List.setIfInBounds_toArray, List.set_cons_zero, List.set_cons_succ]
          refine stepQ HOPS 29 1073741823 ?_ (by decide) rfl (by kernel_rfl) (by kernel_rfl) rfl ?_ HSS.out ?_
          rotate_left
          · intro w9 hS9; obtain ⟨q0, q1, q2, q3, q4, q5⟩ := hS9; go_simp; (first | done | with_reducible rfl)
          try simp only [Act.put, List.setIfInBounds_toArray, List.set_cons_zero, List.set_cons_succ]
          refine stepQ HOPS 30 2147483647 ?_ (by decide) rfl (by kernel_rfl) (by kernel_rfl) rfl ?_ HSS.out ?_
          rotate_left
          · intro w9 hS9; obtain ⟨q0, q1, q2, q3, q4, q5⟩ := hS9; go_simp; (first | done | with_reducible rfl)
          try simp only [Act.put, List.setIfInBounds_toArray, List.set_cons_zero, List.set_cons_succ]
          refine stepQ HOPS 31 4294967295 ?_ (by decide) rfl (by kernel_rfl) (by kernel_rfl) rfl ?_ HSS.out ?_
          rotate_left
          · intro w9 hS9; obtain ⟨q0, q1, q2, q3, q4, q5⟩ := hS9; go_simp; (first | done | with_reducible rfl)
          try simp only [Act.put, List.setIfInBounds_toArray, List.set_cons_zero, List.set_cons_succ]
          refine stepQ HOPS 32 8589934591 ?_ (by decide) rfl (by kernel_rfl) (by kernel_rfl) rfl ?_ HSS.out ?_
          rotate_left
          · intro w9 hS9; obtain ⟨q0, q1, q2, q3, q4, q5⟩ := hS9; go_simp; (first | done | with_reducible rfl)
          try simp only [Act.put, List.setIfInBounds_toArray, List.set_cons_zero, List.set_cons_succ]
          refine stepQ HOPS 33 17179869183 ?_ (by decide) rfl (by kernel_rfl) (by kernel_rfl) rfl ?_ HSS.out ?_
          rotate_left
          · intro w9 hS9; obtain ⟨q0, q1, q2, q3, q4, q5⟩ := hS9; go_simp; (first | done | with_reducible rfl)
          try simp only [Act.put, List.setIfInBounds_toArray, List.set_cons_zero, List.set_cons_succ]
          refine stepQ HOPS 34 34359738367 ?_ (by decide) rfl (by kernel_rfl) (by kernel_rfl) rfl ?_ HSS.out ?_
          rotate_left
          · intro w9 hS9; obtain ⟨q0, q1, q2, q3, q4, q5⟩ := hS9; go_simp; (first | done | with_reducible rfl)
          try simp only [Act.put, List.setIfInBounds_toArray, List.set_cons_zero, List.set_cons_succ]
          refine stepQ HOPS 35 68719476735 ?_ (by decide) rfl (by kernel_rfl) (by kernel_rfl) rfl ?_ HSS.out ?_
          rotate_left
          · intro w9 hS9; obtain ⟨q0, q1, q2, q3, q4, q5⟩ := hS9; go_simp; (first | done | with_reducible rfl)
          try simp only [Act.put, List.setIfInBounds_toArray, List.set_cons_zero, List.set_cons_succ]
          refine stepQ HOPS 36 137438953471 ?_ (by decide) rfl (by kernel_rfl) (by kernel_rfl) rfl ?_ HSS.out ?_
          rotate_left
          · intro w9 hS9; obtain ⟨q0, q1, q2, q3, q4, q5⟩ := hS9; go_simp; (first | done | with_reducible rfl)
          try simp only [Act.put, List.setIfInBounds_toArray, List.set_cons_zero, List.set_cons_succ]
          refine stepQ HOPS 37 274877906943 ?_ (by decide) rfl (by kernel_rfl) (by kernel_rfl) rfl ?_ HSS.out ?_
          rotate_left
          · intro w9 hS9; obtain ⟨q0, q1, q2, q3, q4, q5⟩ := hS9; go_simp; (first | done | with_reducible rfl)
          try simp only [Act.put, List.setIfInBounds_toArray, List.set_cons_zero, List.set_cons_succ]
          refine stepQ HOPS 38 549755813887 ?_ (by decide) rfl (by kernel_rfl) (by kernel_rfl) rfl ?_ HSS.out ?_
          rotate_left
          · intro w9 hS9; obtain ⟨q0, q1, q2, q3, q4, q5⟩ := hS9; go_simp; (first | done | with_reducible rfl)
          try simp only [Act.put, List.setIfInBounds_toArray, List.set_cons_zero, List.set_cons_succ]
          refine stepQ HOPS 39 1099511627775 ?_ (by decide) rfl (by kernel_rfl) (by kernel_rfl) rfl ?_ HSS.out ?_
          rotate_left
          · intro w9 hS9; obtain ⟨q0, q1, q2, q3, q4, q5⟩ := hS9; go_simp; (first | done | with_reducible rfl)
          try simp only [Act.put, List.setIfInBounds_toArray, List.set_cons_zero, List.set_cons_succ]
          refine stepQ HOPS 40 2199023255551 ?_ (by decide) rfl (by kernel_rfl) (by kernel_rfl) rfl ?_ HSS.out ?_
          rotate_left
          · intro w9 hS9; obtain ⟨q0, q1, q2, q3, q4, q5⟩ := hS9; go_simp; (first | done | with_reducible rfl)
          try simp only [Act.put, List.setIfInBounds_toArray, List.set_cons_zero, List.set_cons_succ]
          refine stepQ HOPS 41 4398046511103 ?_ (by decide) rfl (by kernel_rfl) (by kernel_rfl) rfl ?_ HSS.out ?_
          rotate_left
          · intro w9 hS9; obtain ⟨q0, q1, q2, q3, q4, q5⟩ := hS9; go_simp; (first | done | with_reducible rfl)
          try simp only [Act.put, List.setIfInBounds_toArray, List.set_cons_zero, List.set_cons_succ]
          refine stepQ HOPS 42 8796093022207 ?_ (by decide) rfl (by kernel_rfl) (by kernel_rfl) rfl ?_ HSS.out ?_
          rotate_left
          · intro w9 hS9; obtain ⟨q0, q1, q2, q3, q4, q5⟩ := hS9; go_simp; (first | done | with_reducible rfl)
          try simp only [Act.put, List.setIfInBounds_toArray, List.set_cons_zero, List.set_cons_succ]
          refine stepQ HOPS 43 17592186044415 ?_ (by decide) rfl (by kernel_rfl) (by kernel_rfl) rfl ?_ HSS.out ?_
          rotate_left
          · intro w9 hS9; obtain ⟨q0, q1, q2, q3, q4, q5⟩ := hS9; go_simp; (first | done | with_reducible rfl)
          try simp only [Act.put, List.setIfInBounds_toArray, List.set_cons_zero, List.set_cons_succ]
          refine stepQ HOPS 44 35184372088831 ?_ (by decide) rfl (by kernel_rfl) (by kernel_rfl) rfl ?_ HSS.out ?_
          rotate_left
          · intro w9 hS9; obtain ⟨q0, q1, q2, q3, q4, q5⟩ := hS9; go_simp; (first | done | with_reducible rfl)
          try simp only [Act.put, List.setIfInBounds_toArray, List.set_cons_zero, List.set_cons_succ]
          refine stepQ HOPS 45 70368744177663 ?_ (by decide) rfl (by kernel_rfl) (by kernel_rfl) rfl ?_ HSS.out ?_
          rotate_left
          · intro w9 hS9; obtain ⟨q0, q1, q2, q3, q4, q5⟩ := hS9; go_simp; (first | done | with_reducible rfl)
          try simp only [Act.put, List.setIfInBounds_toArray, List.set_cons_zero, List.set_cons_succ]
          refine stepQ HOPS 46 140737488355327 ?_ (by decide) rfl (by kernel_rfl) (by kernel_rfl) rfl ?_ HSS.out ?_
          rotate_left
          · intro w9 hS9; obtain ⟨q0, q1, q2, q3, q4, q5⟩ := hS9; go_simp; (first | done | with_reducible rfl)
          try simp only [Act.put, List.setIfInBounds_toArray, List.set_cons_zero, List.set_cons_succ]
          refine stepQ HOPS 47 281474976710655 ?_ (by decide) rfl (by kernel_rfl) (by kernel_rfl) rfl ?_ HSS.out ?_
          rotate_left
          · intro w9 hS9; obtain ⟨q0, q1, q2, q3, q4, q5⟩ := hS9; go_simp; (first | done | with_reducible rfl)
          try simp only [Act.put, List.setIfInBounds_toArray, List.set_cons_zero, List.set_cons_succ]
          refine stepQ HOPS 48 562949953421311 ?_ (by decide) rfl (by kernel_rfl) (by kernel_rfl) rfl ?_ HSS.out ?_
          rotate_left
          · intro w9 hS9; obtain ⟨q0, q1, q2, q3, q4, q5⟩ := hS9; go_simp; (first | done | with_reducible rfl)
          try simp only [Act.put, List.setIfInBounds_toArray, List.set_cons_zero, List.set_cons_succ]
          refine stepQ HOPS 49 1125899906842623 ?_ (by decide) rfl (by kernel_rfl) (by kernel_rfl) rfl ?_ HSS.out ?_
          rotate_left
          · intro w9 hS9; obtain ⟨q0, q1, q2, q3, q4, q5⟩ := hS9; go_simp; (first | done | with_reducible rfl)
          try simp only [Act.put, List.setIfInBounds_toArray, List.set_cons_zero, List.set_cons_succ]
          refine stepQ HOPS 50 2251799813685247 ?_ (by decide) rfl (by kernel_rfl) (by kernel_rfl) rfl ?_ HSS.out ?_
          rotate_left
          · intro w9 hS9; obtain ⟨q0, q1, q2, q3, q4, q5⟩ := hS9; go_simp; (first | done | with_reducible rfl)
          try simp only [Act.put, List.setIfInBounds_toArray, List.set_cons_zero, List.set_cons_succ]
          refine stepQ HOPS 51 4503599627370495 ?_ (by decide) rfl (by kernel_rfl) (by kernel_rfl) rfl ?_ HSS.out ?_
          rotate_left
          · intro w9 hS9; obtain ⟨q0, q1, q2, q3, q4, q5⟩ := hS9; go_simp; (first | done | with_reducible rfl)
          try simp only [Act.put, List.setIfInBounds_toArray, List.set_cons_zero, List.set_cons_succ]
          refine stepQ HOPS 52 9007199254740991 ?_ (by decide) rfl (by kernel_rfl) (by kernel_rfl) rfl ?_ HSS.out ?_
          rotate_left
          · intro w9 hS9; obtain ⟨q0, q1, q2, q3, q4, q5⟩ := hS9; go_simp; (first | done | with_reducible rfl)
          try simp only [Act.put, List.setIfInBounds_toArray, List.set_cons_zero, List.set_cons_succ]
          refine stepQ HOPS 53 18014398509481983 ?_ (by decide) rfl (by kernel_rfl) (by kernel_rfl) rfl ?_ HSS.out ?_
          rotate_left
          · intro w9 hS9; obtain ⟨q0, q1, q2, q3, q4, q5⟩ := hS9; go_simp; (first | done | with_reducible rfl)
          try simp only [Act.put, List.setIfInBounds_toArray, List.set_cons_zero, List.set_cons_succ]
          refine stepE HOPS (by kernel_rfl) (HQ.out _ _ ?_)
          clear HQ HOPS
          clear Q ops
          go_wp2
          go_roundw
          case rel => exact ⟨j + 1, by go_num, by omega, by rw [HN.out], bel_drew HB2.out⟩
          case measure => simp [intOf]; omega
        · have HTH := Lib.hid (show (m.take j).any (goodS x) = true by
            rw [List.take_of_length_le (by have := H2.out.len; omega), List.any_eq_true]
            obtain ⟨y, hy, e1, e2, e3⟩ := HG.out
            refine ⟨y, hy, ?_⟩
            unfold goodS
            rw [e1, decide_eq_true e2, decide_eq_true e3, decide_eq_true HLH.out]
            simp)
          rw [HTH.out]
          rcases k with _ | k2
          · clear HQ3
            go_wp2
            refine region_let (fun _ : World => True) 99 20 hmx rfl fun ops Q HOPS HQ => ?_
            refine stepQ HOPS 0 1 ?_ (by decide) rfl (by kernel_rfl) (by kernel_rfl) rfl ?_ trivial ?_
            rotate_left
            · intro w9 hS9; go_simp; (first | done | with_reducible rfl)
            try simp only [Act.put, List.setIfInBounds_toArray, List.set_cons_zero, List.set_cons_succ]
            refine stepQ HOPS 1 3 ?_ (by decide) rfl (by kernel_rfl) (by kernel_rfl) rfl ?_ trivial ?_
            rotate_left
            · intro w9 hS9; go_simp; (first | done | with_reducible rfl)
            try simp only [Act.put, List.setIfInBounds_toArray, List.set_cons_zero, List.set_cons_succ]
            refine stepQ HOPS 2 7 ?_ (by decide) rfl (by kernel_rfl) (by kernel_rfl) rfl ?_ trivial ?_
            rotate_left
            · intro w9 hS9; go_simp; (first | done | with_reducible rfl)
            try simp only [Act.put, List.setIfInBounds_toArray, List.set_cons_zero, List.set_cons_succ]
            refine stepQ HOPS 3 15 ?_ (by decide) rfl (by kernel_rfl) (by kernel_rfl) rfl ?_ trivial ?_
            rotate_left
            · intro w9 hS9; go_simp; (first | done | with_reducible rfl)
            try simp only [Act.put, List.setIfInBounds_toArray, List.set_cons_zero, List.set_cons_succ]
            refine stepQ HOPS 4 31 ?_ (by decide) rfl (by kernel_rfl) (by kernel_rfl) rfl ?_ trivial ?_
            rotate_left
            · intro w9 hS9; go_simp; (first | done | with_reducible rfl)
            try simp only [Act.put, List.setIfInBounds_toArray, List.set_cons_zero, List.set_cons_succ]
            refine stepQ HOPS 5 63 ?_ (by decide) rfl (by kernel_rfl) (by kernel_rfl) rfl ?_ trivial ?_
            rotate_left
            · intro w9 hS9; go_simp; (first | done | with_reducible rfl)
            try simp only [Act.put, List.setIfInBounds_toArray, List.set_cons_zero, List.set_cons_succ]
            refine stepU HOPS 6 127 (by decide) rfl (by kernel_rfl) (by kernel_rfl) rfl trivial ?_
            try simp only [Act.put, List.setIfInBounds_toArray, List.set_cons_zero, List.set_cons_succ]
            refine stepU HOPS 7 255 (by decide) rfl (by kernel_rfl) (by kernel_rfl) rfl trivial ?_
            try simp only [Act.put, List.setIfInBounds_toArray, List.set_cons_zero, List.set_cons_succ]
            refine stepU HOPS 8 511 (by decide) rfl (by kernel_rfl) (by kernel_rfl) rfl trivial ?_
            try simp only [Act.put, List.setIfInBounds_toArray, List.set_cons_zero, List.set_cons_succ]
            refine stepU HOPS 9 1023 (by decide) rfl (by kernel_rfl) (by kernel_rfl) rfl trivial ?_
            try simp only [Act.put, List.setIfInBounds_toArray, List.set_cons_zero, List.set_cons_succ]
            refine stepU HOPS 10 2047 (by decide) rfl (by kernel_rfl) (by kernel_rfl) rfl trivial ?_
            try simp only [Act.put, List.setIfInBounds_toArray, List.set_cons_zero, List.set_cons_succ]
            refine stepU HOPS 11 4095 (by decide) rfl (by kernel_rfl) (by kernel_rfl) rfl trivial ?_
            try simp only [Act.put, List.setIfInBounds_toArray, List.set_cons_zero, List.set_cons_succ]
            refine stepU HOPS 12 8191 (by decide) rfl (by kernel_rfl) (by kernel_rfl) rfl trivial ?_
            try simp only [Act.put, List.setIfInBounds_toArray, List.set_cons_zero, List.set_cons_succ]
            refine stepU HOPS 13 16383 (by decide) rfl (by kernel_rfl) (by kernel_rfl) rfl trivial ?_
            try simp only [Act.put, List.setIfInBounds_toArray, List.set_cons_zero, List.set_cons_succ]
            refine stepU HOPS 14 32767 (by decide) rfl (by kernel_rfl) (by kernel_rfl) rfl trivial ?_
            try simp only [Act.put, List.setIfInBounds_toArray, List.set_cons_zero, List.set_cons_succ]
            refine stepU HOPS 15 65535 (by decide) rfl (by kernel_rfl) (by kernel_rfl) rfl trivial ?_
            try simp only [Act.put, List.setIfInBounds_toArray, List.set_cons_zero, List.set_cons_succ]
            refine stepU HOPS 16 131071 (by decide) rfl (by kernel_rfl) (by kernel_rfl) rfl trivial ?_
            try simp only [Act.put, List.setIfInBounds_toArray, List.set_cons_zero, List.set_cons_succ]
            refine stepU HOPS 17 262143 (by decide) rfl (by kernel_rfl) (by kernel_rfl) rfl trivial ?_
            try simp only [Act.put, List.setIfInBounds_toArray, List.set_cons_zero, List.set_cons_succ]
            refine stepQ HOPS 18 524287 ?_ (by decide) rfl (by kernel_rfl) (by kernel_rfl) rfl ?_ trivial ?_
            rotate_left
            · intro w9 hS9; go_simp; (first | done | with_reducible rfl)
            try simp only [Act.put, List.setIfInBounds_toArray, List.set_cons_zero, List.set_cons_succ]
            refine stepQ HOPS 19 1048575 ?_ (by decide) rfl (by kernel_rfl) (by kernel_rfl) rfl ?_ trivial ?_
            rotate_left
            · intro w9 hS9; go_simp; (first | done | with_reducible rfl)
            try simp only [Act.put, List.setIfInBounds_toArray, List.set_cons_zero, List.set_cons_succ]
            refine stepE HOPS (by kernel_rfl) (HQ.out _ _ ?_)
            clear HQ HOPS
            clear Q ops
            go_wp2
            go_roundw
            case rel => exact ⟨0 + 1, by go_num, by omega, bel_drew HB2.out⟩
            case measure => simp [intOf]; omega
          · obtain ⟨b1, o1, x', e1, hb1, hx', _, x0, x1, x2⟩ := sp_at (H1.out.below HB2.out (Nat.le_refl _)) hlt
            obtain ⟨rfl, rfl⟩ : b = b1 ∧ o = o1 := by simpa using e1
            obtain rfl : x = x' := Option.some.inj (HXX.out.symm.trans hx')
            obtain ⟨b3, o3, z, e3, hb3, hz, _, z0, _, _⟩ := sp_at (k := k2) (H1.out.below HB2.out (Nat.le_refl _)) (by omega)
            obtain ⟨rfl, rfl⟩ : b = b3 ∧ o = o3 := by simpa using e3
            obtain ⟨p, hp⟩ : ∃ p, z.kind = p := ⟨_, rfl⟩
            have hlt3 := right_next HRA.out hz HXX.out
            rw [hp] at z0 hlt3
            have c9 : decide (x.kind ≤ p) = false := decide_eq_false (by omega)
            have hj1 : (0 : Int) ≤ (k2 : Int) + 1 := by omega
            have hj2 : k2 < n1 := by omega
            have hj3 : (0 : Int) < (k2 : Int) + 1 := by omega
            have hj4 : (k2 : Int) + 1 < (n1 : Int) := by omega
            have hw : IntKind.i64.wrap (k2 : Int) = (k2 : Int) := IntWalk.i64_in _ (by omega)
            have HS9 := Lib.hid (show wr.drew.cell? ⟨b, o + (k2 + 1) * 3, none⟩ = some (.int .i64 x.kind) ∧ wr.drew.cell? ⟨b, o + k2 * 3, none⟩ = some (.int .i64 p) from ⟨x0, z0⟩)
            clear e1 hx' x0 x1 x2 e3 hz z0 hp HQ3 hlt3
            go_wp2
            refine region_let (fun W9 : World => W9.cell? ⟨b, o + (k2 + 1) * 3, none⟩ = some (.int .i64 x.kind) ∧ W9.cell? ⟨b, o + k2 * 3, none⟩ = some (.int .i64 p)) 99 20 hmx rfl fun ops Q HOPS HQ => ?_
            refine stepQ HOPS 0 1 ?_ (by decide) rfl (by kernel_rfl) (by kernel_rfl) rfl ?_ HS9.out ?_
            rotate_left
            · intro w9 hS9; obtain ⟨q0, q1⟩ := hS9; go_simp; (first | done | with_reducible rfl)
            try simp only [Act.put, List.setIfInBounds_toArray, List.set_cons_zero, List.set_cons_succ]
            refine stepQ HOPS 1 3 ?_ (by decide) rfl (by kernel_rfl) (by kernel_rfl) rfl ?_ HS9.out ?_
            rotate_left
            · intro w9 hS9; obtain ⟨q0, q1⟩ := hS9; go_simp; (first | done | with_reducible rfl)
            try simp only [Act.put, List.setIfInBounds_toArray, List.set_cons_zero, List.set_cons_succ]
            refine stepQ HOPS 2 7 ?_ (by decide) rfl (by kernel_rfl) (by kernel_rfl) rfl ?_ HS9.out ?_
            rotate_left
            · intro w9 hS9; obtain ⟨q0, q1⟩ := hS9; go_simp; (first | done | with_reducible rfl)
            try simp only [Act.put, List.setIfInBounds_toArray, List.set_cons_zero, List.set_cons_succ]
            refine stepQ HOPS 3 15 ?_ (by decide) rfl (by kernel_rfl) (by kernel_rfl) rfl ?_ HS9.out ?_
            rotate_left
            · intro w9 hS9; obtain ⟨q0, q1⟩ := hS9; go_simp; (first | done | with_reducible rfl)
            try simp only [Act.put, List.setIfInBounds_toArray, List.set_cons_zero, List.set_cons_succ]
            refine stepQ HOPS 4 31 ?_ (by decide) rfl (by kernel_rfl) (by kernel_rfl) rfl ?_ HS9.out ?_
            rotate_left
            · intro w9 hS9; obtain ⟨q0, q1⟩ := hS9; go_simp; (first | done | with_reducible rfl)
            try simp only [Act.put, List.setIfInBounds_toArray, List.set_cons_zero, List.set_cons_succ]
            refine stepQ HOPS 5 63 ?_ (by decide) rfl (by kernel_rfl) (by kernel_rfl) rfl ?_ HS9.out ?_
            rotate_left
            · intro w9 hS9; obtain ⟨q0, q1⟩ := hS9; go_simp; (first | done | with_reducible rfl)
            try simp only [Act.put, List.setIfInBounds_toArray, List.set_cons_zero, List.set_cons_succ]
            refine stepQ HOPS 6 127 ?_ (by decide) rfl (by kernel_rfl) (by kernel_rfl) rfl ?_ HS9.out ?_
            rotate_left
            · intro w9 hS9; obtain ⟨q0, q1⟩ := hS9; go_simp; (first | done | with_reducible rfl)
            try simp only [Act.put, List.setIfInBounds_toArray, List.set_cons_zero, List.set_cons_succ]
            refine stepQ HOPS 7 255 ?_ (by decide) rfl (by kernel_rfl) (by kernel_rfl) rfl ?_ HS9.out ?_
            rotate_left
            · intro w9 hS9; obtain ⟨q0, q1⟩ := hS9; go_simp; (first | done | with_reducible rfl)
            try simp only [Act.put, List.setIfInBounds_toArray, List.set_cons_zero, List.set_cons_succ]
            refine stepQ HOPS 8 511 ?_ (by decide) rfl (by kernel_rfl) (by kernel_rfl) rfl ?_ HS9.out ?_
            rotate_left
            · intro w9 hS9; obtain ⟨q0, q1⟩ := hS9; go_simp; (first | done | with_reducible rfl)
            try simp only [Act.put, List.setIfInBounds_toArray, List.set_cons_zero, List.set_cons_succ]
            refine stepQ HOPS 9 1023 ?_ (by decide) rfl (by kernel_rfl) (by kernel_rfl) rfl ?_ HS9.out ?_
            rotate_left
            · intro w9 hS9; obtain ⟨q0, q1⟩ := hS9; go_simp; (first | done | with_reducible rfl)
            try simp only [Act.put, List.setIfInBounds_toArray, List.set_cons_zero, List.set_cons_succ]
            refine stepQ HOPS 10 2047 ?_ (by decide) rfl (by kernel_rfl) (by kernel_rfl) rfl ?_ HS9.out ?_
            rotate_left
            · intro w9 hS9; obtain ⟨q0, q1⟩ := hS9; go_simp; (first | done | with_reducible rfl)
            try simp only [Act.put, List.setIfInBounds_toArray, List.set_cons_zero, List.set_cons_succ]
            refine stepQ HOPS 11 4095 ?_ (by decide) rfl (by kernel_rfl) (by kernel_rfl) rfl ?_ HS9.out ?_
            rotate_left
            · intro w9 hS9; obtain ⟨q0, q1⟩ := hS9; go_simp; (first | done | with_reducible rfl)
            try simp only [Act.put, List.setIfInBounds_toArray, List.set_cons_zero, List.set_cons_succ]
            refine stepQ HOPS 12 8191 ?_ (by decide) rfl (by kernel_rfl) (by kernel_rfl) rfl ?_ HS9.out ?_
            rotate_left
            · intro w9 hS9; obtain ⟨q0, q1⟩ := hS9; go_simp; (first | done | with_reducible rfl)
            try simp only [Act.put, List.setIfInBounds_toArray, List.set_cons_zero, List.set_cons_succ]
            refine stepQ HOPS 13 16383 ?_ (by decide) rfl (by kernel_rfl) (by kernel_rfl) rfl ?_ HS9.out ?_
            rotate_left
            · intro w9 hS9; obtain ⟨q0, q1⟩ := hS9; go_simp; (first | done | with_reducible rfl)
            try simp only [Act.put, List.setIfInBounds_toArray, List.set_cons_zero, List.set_cons_succ]
            refine stepQ HOPS 14 32767 ?_ (by decide) rfl (by kernel_rfl) (by kernel_rfl) rfl ?_ HS9.out ?_
            rotate_left
            · intro w9 hS9; obtain ⟨q0, q1⟩ := hS9; go_simp; (first | done | with_reducible rfl)
            try simp only [Act.put, List.setIfInBounds_toArray, List.set_cons_zero, List.set_cons_succ]
            refine stepQ HOPS 15 65535 ?_ (by decide) rfl (by kernel_rfl) (by kernel_rfl) rfl ?_ HS9.out ?_
            rotate_left
            · intro w9 hS9; obtain ⟨q0, q1⟩ := hS9; go_simp; (first | done | with_reducible rfl)
            try simp only [Act.put, List.setIfInBounds_toArray, List.set_cons_zero, List.set_cons_succ]
            refine stepQ HOPS 16 131071 ?_ (by decide) rfl (by kernel_rfl) (by kernel_rfl) rfl ?_ HS9.out ?_
            rotate_left
            · intro w9 hS9; obtain ⟨q0, q1⟩ := hS9; go_simp; (first | done | with_reducible rfl)
            try simp only [Act.put, List.setIfInBounds_toArray, List.set_cons_zero, List.set_cons_succ]
            refine stepQ HOPS 17 262143 ?_ (by decide) rfl (by kernel_rfl) (by kernel_rfl) rfl ?_ HS9.out ?_
            rotate_left
            · intro w9 hS9; obtain ⟨q0, q1⟩ := hS9; go_simp; (first | done | with_reducible rfl)
            try simp only [Act.put, List.setIfInBounds_toArray, List.set_cons_zero, List.set_cons_succ]
            refine stepQ HOPS 18 524287 ?_ (by decide) rfl (by kernel_rfl) (by kernel_rfl) rfl ?_ HS9.out ?_
            rotate_left
            · intro w9 hS9; obtain ⟨q0, q1⟩ := hS9; go_simp; (first | done | with_reducible rfl)
            try simp only [Act.put, List.setIfInBounds_toArray, List.set_cons_zero, List.set_cons_succ]
            refine stepQ HOPS 19 1048575 ?_ (by decide) rfl (by kernel_rfl) (by kernel_rfl) rfl ?_ HS9.out ?_
            rotate_left
            · intro w9 hS9; obtain ⟨q0, q1⟩ := hS9; go_simp; (first | done | with_reducible rfl)
            try simp only [Act.put, List.setIfInBounds_toArray, List.set_cons_zero, List.set_cons_succ]
            refine stepE HOPS (by kernel_rfl) (HQ.out _ _ ?_)
            clear HQ HOPS
            clear Q ops
            go_wp2
            go_roundw
            case rel => exact ⟨k2 + 1 + 1, by go_num, by omega, bel_drew HB2.out⟩
            case measure => simp [intOf]; omega
    · go_wp2
      go_ret
      exact ⟨rfl, HB.out⟩
end Go.Proofs.YthhdhdjdhekgpaaDoor.Pro
