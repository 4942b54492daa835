/- Joined: ProRAg. -/
import Derived.Test.YthhdhdjdhekgpaaDoorProRt
import Derived.Test.YthhdhdjdhekgpaaDoorProAg
import Derived.Test.YthhdhdjdhekgpaaDoorInC
/- The document's Agree. -/
namespace Go.Proofs.YthhdhdjdhekgpaaDoor.Pro
open Go.RowKit Go.Proofs.YthhdhdjdhekgpaaDoor.Oct Go.Proofs.YthhdhdjdhekgpaaDoor.Lay Go.Proofs.YthhdhdjdhekgpaaDoor.RowF Go.Proofs.YthhdhdjdhekgpaaDoor.InR

def mt (x : Sp) (l : List Sp) : List Sp := (l.filter fun y => decide (x.kind = y.kind)).map (meet x)
theorem lupA {α : Type} [Lay α] {w0 w : World} {A : Option Addr} {n : Nat} {l : List α} (h : RdL w0 w0.heap.size A n l) (hb : Below w0.heap.size w0 w) : RdL w w.heap.size A n l := (h.below hb (Nat.le_refl _)).more hb.size
theorem mt_step {x y : Sp} {l : List Sp} {j : Nat} (h : l[j]? = some y) : mt x (l.take (j + 1)) = mt x (l.take j) ++ (if x.kind = y.kind then [meet x y] else []) := by
  unfold mt
  rw [List.take_add_one, h, List.filter_append, List.map_append]
  congr 1
  by_cases hk : x.kind = y.kind
  · rw [if_pos hk]; simp [hk]
  · rw [if_neg hk]; simp [hk]
theorem meet_in {m t : List Sp} {x y : Sp} (hx : x ∈ m) (hy : y ∈ t) (hk : x.kind = y.kind) : meet x y ∈ pairs m t := by
  unfold pairs
  rw [List.mem_flatMap]
  exact ⟨x, hx, List.mem_map.2 ⟨y, List.mem_filter.2 ⟨hy, by simpa using hk⟩, rfl⟩⟩
def raRel (m t : List Sp) (n : Nat) (w : World) (vl vi : Value) (wr : World) : Prop :=
  ∃ (k c : Nat) (A : Option Addr) (cc : Nat), vi = .int .i64 (k : Int) ∧ k ≤ n ∧ c ≤ k * 300 ∧ vl = .slice A c cc ∧ OwnF spc 3 wr 54 w.heap.size vl c (pairs (m.take k) t) ∧ (pairs (m.take k) t).any wrongS = false ∧ Below w.heap.size w wr
def rbRel (m t : List Sp) (x : Sp) (k n : Nat) (w : World) (vl vi : Value) (wr : World) : Prop :=
  ∃ (j c : Nat) (A : Option Addr) (cc : Nat), vi = .int .i64 (j : Int) ∧ j ≤ n ∧ c ≤ k * 300 + j ∧ vl = .slice A c cc ∧ OwnF spc 3 wr 54 w.heap.size vl c (pairs (m.take k) t ++ mt x (t.take j)) ∧ (pairs (m.take k) t ++ mt x (t.take j)).any wrongS = false ∧ Below w.heap.size w wr
set_option maxRecDepth 100000 in
set_option maxHeartbeats 16000000 in
theorem refAgree_any (A1 : Option Addr) (n1 c1 : Nat) (m : List Sp) (A2 : Option Addr) (n2 c2 : Nat) (t : List Sp) (w : World) (hr : RdL w w.heap.size A1 n1 m) (hr2 : RdL w w.heap.size A2 n2 t) (hn1 : n1 ≤ 300) (hn2 : n2 ≤ 300) :
    Calls Tryd.prog 28 #[.slice A1 n1 c1, .slice A2 n2 c2] w (AGR w (agr m t)) := by
  have H1 := Lib.hid hr
  have H2 := Lib.hid hr2
  have hmx : Tryd.prog.follows .mixedOrders = true := by kernel_rfl
  clear hr hr2
  obtain ⟨a, ha⟩ : ∃ a, right m = a := ⟨_, rfl⟩
  obtain ⟨b, hb⟩ : ∃ b, right t = b := ⟨_, rfl⟩
  have R1 := Lib.hid ha
  have R2 := Lib.hid hb
  clear ha hb
  rcases a with _ | _
  · have HZ := Lib.hid (agr_not (m := m) (t := t) (by rw [R1.out]; rfl))
    rw [HZ.out]
    go_enter Tryd.func28, Tryd.ntmps28
    go_wp2_with (first
      | (go_at_call 76; (with_reducible refine (refright_any A2 n2 c2 t w7 (lupA H2.out HB7.out) (by omega)).mono ?_); rw [R2.out]; rintro e w6 ⟨rfl, hb6⟩; have HB6 := Lib.hid (bel_trans HB7.out hb6); clear hb6)
      | (go_at_call 76; (with_reducible refine (refright_any A1 n1 c1 m w H1.out (by omega)).mono ?_); rw [R1.out]; rintro e w7 ⟨rfl, hb7⟩; have HB7 := Lib.hid hb7; clear hb7))
    go_ret2
    exact ⟨none, 0, 0, rfl, RdL.nil, by omega, HB7.out⟩
  rcases b with _ | _
  · have HZ := Lib.hid (agr_not (m := m) (t := t) (by rw [R1.out, R2.out]; rfl))
    rw [HZ.out]
    go_enter Tryd.func28, Tryd.ntmps28
    go_wp2_with (first
      | (go_at_call 76; (with_reducible refine (refright_any A2 n2 c2 t w7 (lupA H2.out HB7.out) (by omega)).mono ?_); rw [R2.out]; rintro e w6 ⟨rfl, hb6⟩; have HB6 := Lib.hid (bel_trans HB7.out hb6); clear hb6)
      | (go_at_call 76; (with_reducible refine (refright_any A1 n1 c1 m w H1.out (by omega)).mono ?_); rw [R1.out]; rintro e w7 ⟨rfl, hb7⟩; have HB7 := Lib.hid hb7; clear hb7))
    go_ret2
    exact ⟨none, 0, 0, rfl, RdL.nil, by omega, HB6.out⟩
  go_enter Tryd.func28, Tryd.ntmps28
  go_wp2_with (first
      | (go_at_call 76; (with_reducible refine (refright_any A2 n2 c2 t w7 (lupA H2.out HB7.out) (by omega)).mono ?_); rw [R2.out]; rintro e w6 ⟨rfl, hb6⟩; have HB6 := Lib.hid (bel_trans HB7.out hb6); clear hb6)
      | (go_at_call 76; (with_reducible refine (refright_any A1 n1 c1 m w H1.out (by omega)).mono ?_); rw [R1.out]; rintro e w7 ⟨rfl, hb7⟩; have HB7 := Lib.hid hb7; clear hb7))
  go_loopw [6, 7] (fun vl vi wr => raRel m t n1 w vl vi wr) (fun _ vi _ => n1 - (intOf vi).toNat)
  case atStart => exact ⟨0, 0, none, 0, rfl, Nat.zero_le _, by omega, rfl, OwnF.nil, rfl, HB6.out⟩
  case round =>
    obtain ⟨k, j0, A5, c5, rfl, hk, hjk, rfl, hO, hW, hB⟩ := hrel
    have HO := Lib.hid hO
    have HW := Lib.hid hW
    have HB := Lib.hid hB
    clear hO hW hB
    by_cases hlt : k < n1
    · obtain ⟨b, o, x, rfl, hb, hx, _, _, _, _⟩ := sp_at H1.out hlt
      have HXX := Lib.hid hx
      have HST := Lib.hid (pairs_take (t := t) hx)
      clear hx
      go_wp2
      go_loopw [6, 8] (fun vl vi wr2 => rbRel m t x k n2 w vl vi wr2) (fun _ vi _ => n2 - (intOf vi).toNat)
      case atStart => exact ⟨0, j0, A5, c5, rfl, Nat.zero_le _, by omega, rfl, by rw [show mt x (t.take 0) = [] from rfl, List.append_nil]; exact HO.out, by rw [show mt x (t.take 0) = [] from rfl, List.append_nil]; exact HW.out, HB.out⟩
      case round =>
        obtain ⟨j, cn, A8, c8, rfl, hj, hcn, rfl, hO2, hW2, hB2⟩ := hrel
        have HO2 := Lib.hid hO2
        have HW2 := Lib.hid hW2
        have HB2 := Lib.hid hB2
        clear hO2 hW2 hB2
        by_cases hlt2 : j < n2
        · obtain ⟨b2, o2, y, rfl, hb2, hy, hf2, y0, y1, y2⟩ := sp_at (H2.out.below HB2.out (Nat.le_refl _)) hlt2
          obtain ⟨b1, o1, x', e1, hb1, hx', _, x0, x1, x2⟩ := sp_at (H1.out.below HB2.out (Nat.le_refl _)) hlt
          obtain ⟨rfl, rfl⟩ : b = b1 ∧ o = o1 := by simpa using e1
          obtain rfl : x = x' := Option.some.inj (HXX.out.symm.trans hx')
          have HMS := Lib.hid (mt_step (x := x) hy)
          have HYM := Lib.hid (List.mem_of_getElem? hy)
          have HS := Lib.hid (show (fun W9 : World => W9.cell? ⟨b, o + k * 3, none⟩ = some (.int .i64 x.kind) ∧ W9.cell? ⟨b, o + k * 3 + 1, none⟩ = some (.int .i64 x.lo) ∧ W9.cell? ⟨b, o + k * 3 + 2, none⟩ = some (.int .i64 x.hi) ∧ W9.cell? ⟨b2, o2 + j * 3, none⟩ = some (.int .i64 y.kind) ∧ W9.cell? ⟨b2, o2 + j * 3 + 1, none⟩ = some (.int .i64 y.lo) ∧ W9.cell? ⟨b2, o2 + j * 3 + 2, none⟩ = some (.int .i64 y.hi)) wr.drew from ⟨x0, x1, x2, y0, y1, y2⟩)
          have HS2 := Lib.hid (show (fun W9 : World => W9.cell? ⟨b, o + k * 3, none⟩ = some (.int .i64 x.kind) ∧ W9.cell? ⟨b, o + k * 3 + 1, none⟩ = some (.int .i64 x.lo) ∧ W9.cell? ⟨b, o + k * 3 + 2, none⟩ = some (.int .i64 x.hi) ∧ W9.cell? ⟨b2, o2 + j * 3, none⟩ = some (.int .i64 y.kind) ∧ W9.cell? ⟨b2, o2 + j * 3 + 1, none⟩ = some (.int .i64 y.lo) ∧ W9.cell? ⟨b2, o2 + j * 3 + 2, none⟩ = some (.int .i64 y.hi)) wr.drew.drew from ⟨x0, x1, x2, y0, y1, y2⟩)
          have hlb : b < wr.heap.size := Nat.lt_of_lt_of_le hb HB2.out.size
          have hlb2 : b2 < wr.heap.size := Nat.lt_of_lt_of_le hb2 HB2.out.size
          clear hy hf2 e1 hx'
          by_cases hkk : x.kind = y.kind
          · have HM := Lib.hid (show pairs (m.take k) t ++ mt x (t.take (j + 1)) = (pairs (m.take k) t ++ mt x (t.take j)) ++ [meet x y] by rw [HMS.out, if_pos hkk, List.append_assoc])
            have HIN := Lib.hid (meet_in (List.mem_of_getElem? HXX.out) HYM.out hkk)
            have hne : (x.kind != y.kind) = false := by simp [hkk]
            clear hkk
            go_wp2
            refine region_let (fun W9 : World => W9.cell? ⟨b, o + k * 3, none⟩ = some (.int .i64 x.kind) ∧ W9.cell? ⟨b, o + k * 3 + 1, none⟩ = some (.int .i64 x.lo) ∧ W9.cell? ⟨b, o + k * 3 + 2, none⟩ = some (.int .i64 x.hi) ∧ W9.cell? ⟨b2, o2 + j * 3, none⟩ = some (.int .i64 y.kind) ∧ W9.cell? ⟨b2, o2 + j * 3 + 1, none⟩ = some (.int .i64 y.lo) ∧ W9.cell? ⟨b2, o2 + j * 3 + 2, none⟩ = some (.int .i64 y.hi)) 99 11 hmx rfl fun ops Q HOPS HQ => ?_
            refine stepQ HOPS 0 1 ?_ (by decide) rfl (by kernel_rfl) (by kernel_rfl) rfl ?_ HS.out ?_
            rotate_left
            · intro w9 hS9; obtain ⟨q0, q1, q2, q3, q4, q5⟩ := hS9; go_simp; (first | done | with_reducible rfl)
            try simp only [Act.put, List.setIfInBounds_toArray, List.set_cons_zero, List.set_cons_succ]
            refine stepQ HOPS 1 3 ?_ (by decide) rfl (by kernel_rfl) (by kernel_rfl) rfl ?_ HS.out ?_
            rotate_left
            · intro w9 hS9; obtain ⟨q0, q1, q2, q3, q4, q5⟩ := hS9; go_simp; (first | done | with_reducible rfl)
            try simp only [Act.put, List.setIfInBounds_toArray, List.set_cons_zero, List.set_cons_succ]
            refine stepQ HOPS 2 7 ?_ (by decide) rfl (by kernel_rfl) (by kernel_rfl) rfl ?_ HS.out ?_
            rotate_left
            · intro w9 hS9; obtain ⟨q0, q1, q2, q3, q4, q5⟩ := hS9; go_simp; (first | done | with_reducible rfl)
            try simp only [Act.put, List.setIfInBounds_toArray, List.set_cons_zero, List.set_cons_succ]
            refine stepQ HOPS 3 15 ?_ (by decide) rfl (by kernel_rfl) (by kernel_rfl) rfl ?_ HS.out ?_
            rotate_left
            · intro w9 hS9; obtain ⟨q0, q1, q2, q3, q4, q5⟩ := hS9; go_simp; (first | done | with_reducible rfl)
            try simp only [Act.put, List.setIfInBounds_toArray, List.set_cons_zero, List.set_cons_succ]
            refine stepQ HOPS 4 31 ?_ (by decide) rfl (by kernel_rfl) (by kernel_rfl) rfl ?_ HS.out ?_
            rotate_left
            · intro w9 hS9; obtain ⟨q0, q1, q2, q3, q4, q5⟩ := hS9; go_simp; (first | done | with_reducible rfl)
            try simp only [Act.put, List.setIfInBounds_toArray, List.set_cons_zero, List.set_cons_succ]
            refine stepQ HOPS 5 63 ?_ (by decide) rfl (by kernel_rfl) (by kernel_rfl) rfl ?_ HS.out ?_
            rotate_left
            · intro w9 hS9; obtain ⟨q0, q1, q2, q3, q4, q5⟩ := hS9; go_simp; (first | done | with_reducible rfl)
            try simp only [Act.put, List.setIfInBounds_toArray, List.set_cons_zero, List.set_cons_succ]
            refine stepQ HOPS 6 127 ?_ (by decide) rfl (by kernel_rfl) (by kernel_rfl) rfl ?_ HS.out ?_
            rotate_left
            · intro w9 hS9; obtain ⟨q0, q1, q2, q3, q4, q5⟩ := hS9; go_simp; (first | done | with_reducible rfl)
            try simp only [Act.put, List.setIfInBounds_toArray, List.set_cons_zero, List.set_cons_succ]
            refine stepQ HOPS 7 255 ?_ (by decide) rfl (by kernel_rfl) (by kernel_rfl) rfl ?_ HS.out ?_
            rotate_left
            · intro w9 hS9; obtain ⟨q0, q1, q2, q3, q4, q5⟩ := hS9; go_simp; (first | done | with_reducible rfl)
            try simp only [Act.put, List.setIfInBounds_toArray, List.set_cons_zero, List.set_cons_succ]
            refine stepQ HOPS 8 511 ?_ (by decide) rfl (by kernel_rfl) (by kernel_rfl) rfl ?_ HS.out ?_
            rotate_left
            · intro w9 hS9; obtain ⟨q0, q1, q2, q3, q4, q5⟩ := hS9; go_simp; (first | done | with_reducible rfl)
            try simp only [Act.put, List.setIfInBounds_toArray, List.set_cons_zero, List.set_cons_succ]
            refine stepQ HOPS 9 1023 ?_ (by decide) rfl (by kernel_rfl) (by kernel_rfl) rfl ?_ HS.out ?_
            rotate_left
            · intro w9 hS9; obtain ⟨q0, q1, q2, q3, q4, q5⟩ := hS9; go_simp; (first | done | with_reducible rfl)
            try simp only [Act.put, List.setIfInBounds_toArray, List.set_cons_zero, List.set_cons_succ]
            refine stepQ HOPS 10 2047 ?_ (by decide) rfl (by kernel_rfl) (by kernel_rfl) rfl ?_ HS.out ?_
            rotate_left
            · intro w9 hS9; obtain ⟨q0, q1, q2, q3, q4, q5⟩ := hS9; go_simp; (first | done | with_reducible rfl)
            try simp only [Act.put, List.setIfInBounds_toArray, List.set_cons_zero, List.set_cons_succ]
            refine stepE HOPS (by kernel_rfl) (HQ.out _ _ ?_)
            clear HQ HOPS
            clear Q ops
            go_wp2
            refine region_let (fun W9 : World => W9.cell? ⟨b, o + k * 3, none⟩ = some (.int .i64 x.kind) ∧ W9.cell? ⟨b, o + k * 3 + 1, none⟩ = some (.int .i64 x.lo) ∧ W9.cell? ⟨b, o + k * 3 + 2, none⟩ = some (.int .i64 x.hi) ∧ W9.cell? ⟨b2, o2 + j * 3, none⟩ = some (.int .i64 y.kind) ∧ W9.cell? ⟨b2, o2 + j * 3 + 1, none⟩ = some (.int .i64 y.lo) ∧ W9.cell? ⟨b2, o2 + j * 3 + 2, none⟩ = some (.int .i64 y.hi)) 99 30 hmx rfl fun ops Q HOPS HQ => ?_
            refine stepQ HOPS 0 1 ?_ (by decide) rfl (by kernel_rfl) (by kernel_rfl) rfl ?_ HS2.out ?_
            rotate_left
            · intro w9 hS9; obtain ⟨q0, q1, q2, q3, q4, q5⟩ := hS9; go_simp; (first | done | with_reducible rfl)
            try simp only [Act.put, List.setIfInBounds_toArray, List.set_cons_zero, List.set_cons_succ]
            refine stepQ HOPS 1 3 ?_ (by decide) rfl (by kernel_rfl) (by kernel_rfl) rfl ?_ HS2.out ?_
            rotate_left
            · intro w9 hS9; obtain ⟨q0, q1, q2, q3, q4, q5⟩ := hS9; go_simp; (first | done | with_reducible rfl)
            try simp only [Act.put, List.setIfInBounds_toArray, List.set_cons_zero, List.set_cons_succ]
            refine stepQ HOPS 2 7 ?_ (by decide) rfl (by kernel_rfl) (by kernel_rfl) rfl ?_ HS2.out ?_
            rotate_left
            · intro w9 hS9; obtain ⟨q0, q1, q2, q3, q4, q5⟩ := hS9; go_simp; (first | done | with_reducible rfl)
            try simp only [Act.put, List.setIfInBounds_toArray, List.set_cons_zero, List.set_cons_succ]
            refine stepQ HOPS 3 15 ?_ (by decide) rfl (by kernel_rfl) (by kernel_rfl) rfl ?_ HS2.out ?_
            rotate_left
            · intro w9 hS9; obtain ⟨q0, q1, q2, q3, q4, q5⟩ := hS9; go_simp; (first | done | with_reducible rfl)
            try simp only [Act.put, List.setIfInBounds_toArray, List.set_cons_zero, List.set_cons_succ]
            refine stepQ HOPS 4 31 ?_ (by decide) rfl (by kernel_rfl) (by kernel_rfl) rfl ?_ HS2.out ?_
            rotate_left
            · intro w9 hS9; obtain ⟨q0, q1, q2, q3, q4, q5⟩ := hS9; go_simp; (first | done | with_reducible rfl)
            try simp only [Act.put, List.setIfInBounds_toArray, List.set_cons_zero, List.set_cons_succ]
            refine stepQ HOPS 5 63 ?_ (by decide) rfl (by kernel_rfl) (by kernel_rfl) rfl ?_ HS2.out ?_
            rotate_left
            · intro w9 hS9; obtain ⟨q0, q1, q2, q3, q4, q5⟩ := hS9; go_simp; (first | done | with_reducible rfl)
            try simp only [Act.put, List.setIfInBounds_toArray, List.set_cons_zero, List.set_cons_succ]
            refine stepQ HOPS 6 127 ?_ (by decide) rfl (by kernel_rfl) (by kernel_rfl) rfl ?_ HS2.out ?_
            rotate_left
            · intro w9 hS9; obtain ⟨q0, q1, q2, q3, q4, q5⟩ := hS9; go_simp; (first | done | with_reducible rfl)
            try simp only [Act.put, List.setIfInBounds_toArray, List.set_cons_zero, List.set_cons_succ]
            refine stepQ HOPS 7 255 ?_ (by decide) rfl (by kernel_rfl) (by kernel_rfl) rfl ?_ HS2.out ?_
            rotate_left
            · intro w9 hS9; obtain ⟨q0, q1, q2, q3, q4, q5⟩ := hS9; go_simp; (first | done | with_reducible rfl)
            try simp only [Act.put, List.setIfInBounds_toArray, List.set_cons_zero, List.set_cons_succ]
            refine stepQ HOPS 8 511 ?_ (by decide) rfl (by kernel_rfl) (by kernel_rfl) rfl ?_ HS2.out ?_
            rotate_left
            · intro w9 hS9; obtain ⟨q0, q1, q2, q3, q4, q5⟩ := hS9; go_simp; (first | done | with_reducible rfl)
            try simp only [Act.put, List.setIfInBounds_toArray, List.set_cons_zero, List.set_cons_succ]
            refine stepQ HOPS 9 1023 ?_ (by decide) rfl (by kernel_rfl) (by kernel_rfl) rfl ?_ HS2.out ?_
            rotate_left
            · intro w9 hS9; obtain ⟨q0, q1, q2, q3, q4, q5⟩ := hS9; go_simp; (first | done | with_reducible rfl)
            try simp only [Act.put, List.setIfInBounds_toArray, List.set_cons_zero, List.set_cons_succ]
            refine stepQ HOPS 10 2047 ?_ (by decide) rfl (by kernel_rfl) (by kernel_rfl) rfl ?_ HS2.out ?_
            rotate_left
            · intro w9 hS9; obtain ⟨q0, q1, q2, q3, q4, q5⟩ := hS9; go_simp; (first | done | with_reducible rfl)
            try simp only [Act.put, List.setIfInBounds_toArray, List.set_cons_zero, List.set_cons_succ]
            refine stepQ HOPS 11 4095 ?_ (by decide) rfl (by kernel_rfl) (by kernel_rfl) rfl ?_ HS2.out ?_
            rotate_left
            · intro w9 hS9; obtain ⟨q0, q1, q2, q3, q4, q5⟩ := hS9; go_simp; (first | done | with_reducible rfl)
            try simp only [Act.put, List.setIfInBounds_toArray, List.set_cons_zero, List.set_cons_succ]
            refine stepQ HOPS 12 8191 ?_ (by decide) rfl (by kernel_rfl) (by kernel_rfl) rfl ?_ HS2.out ?_
            rotate_left
            · intro w9 hS9; obtain ⟨q0, q1, q2, q3, q4, q5⟩ := hS9; go_simp; (first | done | with_reducible rfl)
            try simp only [Act.put, List.setIfInBounds_toArray, List.set_cons_zero, List.set_cons_succ]
            refine stepQ HOPS 13 16383 ?_ (by decide) rfl (by kernel_rfl) (by kernel_rfl) rfl ?_ HS2.out ?_
            rotate_left
            · intro w9 hS9; obtain ⟨q0, q1, q2, q3, q4, q5⟩ := hS9; go_simp; (first | done | with_reducible rfl)
            try simp only [Act.put, List.setIfInBounds_toArray, List.set_cons_zero, List.set_cons_succ]
            refine stepQ HOPS 14 32767 ?_ (by decide) rfl (by kernel_rfl) (by kernel_rfl) rfl ?_ HS2.out ?_
            rotate_left
            · intro w9 hS9; obtain ⟨q0, q1, q2, q3, q4, q5⟩ := hS9; go_simp; (first | done | with_reducible rfl)
            try simp only [Act.put, List.setIfInBounds_toArray, List.set_cons_zero, List.set_cons_succ]
            refine stepQ HOPS 15 65535 ?_ (by decide) rfl (by kernel_rfl) (by kernel_rfl) rfl ?_ HS2.out ?_
            rotate_left
            · intro w9 hS9; obtain ⟨q0, q1, q2, q3, q4, q5⟩ := hS9; go_simp; (first | done | with_reducible rfl)
            try simp only [Act.put, List.setIfInBounds_toArray, List.set_cons_zero, List.set_cons_succ]
            refine stepQ HOPS 16 131071 ?_ (by decide) rfl (by kernel_rfl) (by kernel_rfl) rfl ?_ HS2.out ?_
            rotate_left
            · intro w9 hS9; obtain ⟨q0, q1, q2, q3, q4, q5⟩ := hS9; go_simp; (first | done | with_reducible rfl)
            try simp only [Act.put, List.setIfInBounds_toArray, List.set_cons_zero, List.set_cons_succ]
            refine stepQ HOPS 17 262143 ?_ (by decide) rfl (by kernel_rfl) (by kernel_rfl) rfl ?_ HS2.out ?_
            rotate_left
            · intro w9 hS9; obtain ⟨q0, q1, q2, q3, q4, q5⟩ := hS9; go_simp; (first | done | with_reducible rfl)
            try simp only [Act.put, List.setIfInBounds_toArray, List.set_cons_zero, List.set_cons_succ]
            refine stepQ HOPS 18 524287 ?_ (by decide) rfl (by kernel_rfl) (by kernel_rfl) rfl ?_ HS2.out ?_
            rotate_left
            · intro w9 hS9; obtain ⟨q0, q1, q2, q3, q4, q5⟩ := hS9; go_simp; (first | done | with_reducible rfl)
            try simp only [Act.put, List.setIfInBounds_toArray, List.set_cons_zero, List.set_cons_succ]
            refine stepQ HOPS 19 1048575 ?_ (by decide) rfl (by kernel_rfl) (by kernel_rfl) rfl ?_ HS2.out ?_
            rotate_left
            · intro w9 hS9; obtain ⟨q0, q1, q2, q3, q4, q5⟩ := hS9; go_simp; (first | done | with_reducible rfl)
            try simp only [Act.put, List.setIfInBounds_toArray, List.set_cons_zero, List.set_cons_succ]
            refine stepQ HOPS 20 2097151 ?_ (by decide) rfl (by kernel_rfl) (by kernel_rfl) rfl ?_ HS2.out ?_
            rotate_left
            · intro w9 hS9; obtain ⟨q0, q1, q2, q3, q4, q5⟩ := hS9; go_simp; (first | done | with_reducible rfl)
            try simp only [Act.put, List.setIfInBounds_toArray, List.set_cons_zero, List.set_cons_succ]
            refine stepQ HOPS 21 4194303 ?_ (by decide) rfl (by kernel_rfl) (by kernel_rfl) rfl ?_ HS2.out ?_
            rotate_left
            · intro w9 hS9; obtain ⟨q0, q1, q2, q3, q4, q5⟩ := hS9; go_simp; (first | done | with_reducible rfl)
            try simp only [Act.put, List.setIfInBounds_toArray, List.set_cons_zero, List.set_cons_succ]
            refine stepQ HOPS 22 8388607 ?_ (by decide) rfl (by kernel_rfl) (by kernel_rfl) rfl ?_ HS2.out ?_
            rotate_left
            · intro w9 hS9; obtain ⟨q0, q1, q2, q3, q4, q5⟩ := hS9; go_simp; (first | done | with_reducible rfl)
            try simp only [Act.put, List.setIfInBounds_toArray, List.set_cons_zero, List.set_cons_succ]
            refine stepQ HOPS 23 16777215 ?_ (by decide) rfl (by kernel_rfl) (by kernel_rfl) rfl ?_ HS2.out ?_
            rotate_left
            · intro w9 hS9; obtain ⟨q0, q1, q2, q3, q4, q5⟩ := hS9; go_simp; (first | done | with_reducible rfl)
            try simp only [Act.put, List.setIfInBounds_toArray, List.set_cons_zero, List.set_cons_succ]
            refine stepQ HOPS 24 33554431 ?_ (by decide) rfl (by kernel_rfl) (by kernel_rfl) rfl ?_ HS2.out ?_
            rotate_left
            · intro w9 hS9; obtain ⟨q0, q1, q2, q3, q4, q5⟩ := hS9; go_simp; (first | done | with_reducible rfl)
            try simp only [Act.put, List.setIfInBounds_toArray, List.set_cons_zero, List.set_cons_succ]
            refine stepQ HOPS 25 67108863 ?_ (by decide) rfl (by kernel_rfl) (by kernel_rfl) rfl ?_ HS2.out ?_
            rotate_left
            · intro w9 hS9; obtain ⟨q0, q1, q2, q3, q4, q5⟩ := hS9; go_simp; (first | done | with_reducible rfl)
            try simp only [Act.put, List.setIfInBounds_toArray, List.set_cons_zero, List.set_cons_succ]
            refine stepQ HOPS 26 134217727 ?_ (by decide) rfl (by kernel_rfl) (by kernel_rfl) rfl ?_ HS2.out ?_
            rotate_left
            · intro w9 hS9; obtain ⟨q0, q1, q2, q3, q4, q5⟩ := hS9; go_simp; (first | done | with_reducible rfl)
            try simp only [Act.put, List.setIfInBounds_toArray, List.set_cons_zero, List.set_cons_succ]
            refine stepQ HOPS 27 268435455 ?_ (by decide) rfl (by kernel_rfl) (by kernel_rfl) rfl ?_ HS2.out ?_
            rotate_left
            · intro w9 hS9; obtain ⟨q0, q1, q2, q3, q4, q5⟩ := hS9; go_simp; (first | done | with_reducible rfl)
            try simp only [Act.put, List.setIfInBounds_toArray, List.set_cons_zero, List.set_cons_succ]
            refine stepC HOPS 28 536870911 (by decide) rfl (by kernel_rfl) (by kernel_rfl) ?_
            go_simp
            try simp only [Act.put, List.setIfInBounds_toArray, List.set_cons_zero, List.set_cons_succ]
            refine stepC HOPS 29 1073741823 (by decide) rfl (by kernel_rfl) (by kernel_rfl) ?_
            go_simp
            try simp only [Act.put, List.setIfInBounds_toArray, List.set_cons_zero, List.set_cons_succ]
            refine stepE HOPS (by kernel_rfl) (HQ.out _ _ ?_)
            clear HQ HOPS
            clear Q ops
            obtain ⟨lo, hlo⟩ : ∃ lo, (if x.lo < y.lo then y.lo else x.lo) = lo := ⟨_, rfl⟩
            obtain ⟨hi, hhi⟩ : ∃ hi, (if y.hi < x.hi then y.hi else x.hi) = hi := ⟨_, rfl⟩
            rw [hlo, hhi]
            have HMT := Lib.hid (show meet x y = ⟨x.kind, lo, hi⟩ by
              rw [← hlo, ← hhi]
              unfold meet
              congr 1
              · split <;> omega
              · split <;> omega)
            clear hlo hhi
            have hsz : w.heap.size ≤ wr.heap.size := HB2.out.size
            have HBA := Lib.hid (show Below wr.heap.size wr (wr.alloc (.cells (spc ⟨x.kind, lo, hi⟩).toArray 54)) from bel_alloc (Below.refl _ _) _)
            have hsA : (wr.alloc (.cells (spc ⟨x.kind, lo, hi⟩).toArray 54)).heap.size = wr.heap.size + 1 := by simp
            have a0 : (wr.alloc (.cells (spc ⟨x.kind, lo, hi⟩).toArray 54)).cell? ⟨wr.heap.size, 0, none⟩ = some (.int .i64 x.kind) := by rw [cell_of_row _ _ _ _ _ (0, 0) (heap_alloc_new wr _)]; rfl
            have a1 : (wr.alloc (.cells (spc ⟨x.kind, lo, hi⟩).toArray 54)).cell? ⟨wr.heap.size, 1, none⟩ = some (.int .i64 lo) := by rw [cell_of_row _ _ _ _ _ (0, 0) (heap_alloc_new wr _)]; rfl
            have a2 : (wr.alloc (.cells (spc ⟨x.kind, lo, hi⟩).toArray 54)).cell? ⟨wr.heap.size, 2, none⟩ = some (.int .i64 hi) := by rw [cell_of_row _ _ _ _ _ (0, 0) (heap_alloc_new wr _)]; rfl
            generalize hwA : (wr.alloc (.cells (spc ⟨x.kind, lo, hi⟩).toArray 54)) = wA at HBA hsA a0 a1 a2
            rw [show (wr.alloc (.cells #[.int .i64 x.kind, .int .i64 lo, .int .i64 hi] 54)) = wA from hwA]
            clear hwA
            have HSA := Lib.hid hsA
            clear hsA
            have HB9 := Lib.hid (HB2.out.trans (HBA.out.mono hsz))
            have HO9 := Lib.hid (OwnF.below HO2.out HBA.out)
            have hs9 := HB9.out.size
            by_cases hw : hi < lo
            · have HZ := Lib.hid (agr_wrong R1.out R2.out HIN.out (by rw [HMT.out]; exact hw))
              go_wp2
              go_ret2
              exact ⟨none, 0, 0, by rw [HZ.out]; rfl, by rw [HZ.out]; exact RdL.nil, by omega, bel_drew (bel_drew HB9.out)⟩
            · have HWN := Lib.hid (show (pairs (m.take k) t ++ mt x (t.take (j + 1))).any wrongS = false by rw [HM.out, List.any_append, HW2.out, HMT.out]; simp [wrongS]; omega)
              go_wp2_with (at_builtin; refine wpList_appF _ spS rfl _ _ 45 rfl 24 w.heap.size 54 Tryd.underlying45 spRow _ cn (pairs (m.take k) t ++ mt x (t.take j)) rfl (OwnF.drew (OwnF.drew (HO9.out.alloc _))) _ _ 1 1 [⟨x.kind, lo, hi⟩] rfl (rdF_new wA spS 54 ⟨x.kind, lo, hi⟩) (by omega) (by omega) (by simp; omega) ?_; intro A7 c7 w7 hO7 hb7)
              go_roundw
              case rel => exact ⟨j + 1, cn + 1, A7, c7, by go_num, by omega, by omega, rfl, by rw [HM.out, HMT.out]; exact hO7, HWN.out, ((HB9.out.alloc hs9 _).drew.drew).trans hb7⟩
              case measure => simp [intOf]; omega
          · have HM := Lib.hid (show pairs (m.take k) t ++ mt x (t.take (j + 1)) = pairs (m.take k) t ++ mt x (t.take j) by rw [HMS.out, if_neg hkk, List.append_nil])
            have hne : (x.kind != y.kind) = true := by simp [bne_iff_ne, hkk]
            go_wp2
            refine region_let (fun W9 : World => W9.cell? ⟨b, o + k * 3, none⟩ = some (.int .i64 x.kind) ∧ W9.cell? ⟨b, o + k * 3 + 1, none⟩ = some (.int .i64 x.lo) ∧ W9.cell? ⟨b, o + k * 3 + 2, none⟩ = some (.int .i64 x.hi) ∧ W9.cell? ⟨b2, o2 + j * 3, none⟩ = some (.int .i64 y.kind) ∧ W9.cell? ⟨b2, o2 + j * 3 + 1, none⟩ = some (.int .i64 y.lo) ∧ W9.cell? ⟨b2, o2 + j * 3 + 2, none⟩ = some (.int .i64 y.hi)) 99 11 hmx rfl fun ops Q HOPS HQ => ?_
            refine stepQ HOPS 0 1 ?_ (by decide) rfl (by kernel_rfl) (by kernel_rfl) rfl ?_ HS.out ?_
            rotate_left
            · intro w9 hS9; obtain ⟨q0, q1, q2, q3, q4, q5⟩ := hS9; go_simp; (first | done | with_reducible rfl)
            try simp only [Act.put, List.setIfInBounds_toArray, List.set_cons_zero, List.set_cons_succ]
            refine stepQ HOPS 1 3 ?_ (by decide) rfl (by kernel_rfl) (by kernel_rfl) rfl ?_ HS.out ?_
            rotate_left
            · intro w9 hS9; obtain ⟨q0, q1, q2, q3, q4, q5⟩ := hS9; go_simp; (first | done | with_reducible rfl)
            try simp only [Act.put, List.setIfInBounds_toArray, List.set_cons_zero, List.set_cons_succ]
            refine stepQ HOPS 2 7 ?_ (by decide) rfl (by kernel_rfl) (by kernel_rfl) rfl ?_ HS.out ?_
            rotate_left
            · intro w9 hS9; obtain ⟨q0, q1, q2, q3, q4, q5⟩ := hS9; go_simp; (first | done | with_reducible rfl)
            try simp only [Act.put, List.setIfInBounds_toArray, List.set_cons_zero, List.set_cons_succ]
            refine stepQ HOPS 3 15 ?_ (by decide) rfl (by kernel_rfl) (by kernel_rfl) rfl ?_ HS.out ?_
            rotate_left
            · intro w9 hS9; obtain ⟨q0, q1, q2, q3, q4, q5⟩ := hS9; go_simp; (first | done | with_reducible rfl)
            try simp only [Act.put, List.setIfInBounds_toArray, List.set_cons_zero, List.set_cons_succ]
            refine stepQ HOPS 4 31 ?_ (by decide) rfl (by kernel_rfl) (by kernel_rfl) rfl ?_ HS.out ?_
            rotate_left
            · intro w9 hS9; obtain ⟨q0, q1, q2, q3, q4, q5⟩ := hS9; go_simp; (first | done | with_reducible rfl)
            try simp only [Act.put, List.setIfInBounds_toArray, List.set_cons_zero, List.set_cons_succ]
            refine stepQ HOPS 5 63 ?_ (by decide) rfl (by kernel_rfl) (by kernel_rfl) rfl ?_ HS.out ?_
            rotate_left
            · intro w9 hS9; obtain ⟨q0, q1, q2, q3, q4, q5⟩ := hS9; go_simp; (first | done | with_reducible rfl)
            try simp only [Act.put, List.setIfInBounds_toArray, List.set_cons_zero, List.set_cons_succ]
            refine stepQ HOPS 6 127 ?_ (by decide) rfl (by kernel_rfl) (by kernel_rfl) rfl ?_ HS.out ?_
            rotate_left
            · intro w9 hS9; obtain ⟨q0, q1, q2, q3, q4, q5⟩ := hS9; go_simp; (first | done | with_reducible rfl)
            try simp only [Act.put, List.setIfInBounds_toArray, List.set_cons_zero, List.set_cons_succ]
            refine stepQ HOPS 7 255 ?_ (by decide) rfl (by kernel_rfl) (by kernel_rfl) rfl ?_ HS.out ?_
            rotate_left
            · intro w9 hS9; obtain ⟨q0, q1, q2, q3, q4, q5⟩ := hS9; go_simp; (first | done | with_reducible rfl)
            try simp only [Act.put, List.setIfInBounds_toArray, List.set_cons_zero, List.set_cons_succ]
            refine stepQ HOPS 8 511 ?_ (by decide) rfl (by kernel_rfl) (by kernel_rfl) rfl ?_ HS.out ?_
            rotate_left
            · intro w9 hS9; obtain ⟨q0, q1, q2, q3, q4, q5⟩ := hS9; go_simp; (first | done | with_reducible rfl)
            try simp only [Act.put, List.setIfInBounds_toArray, List.set_cons_zero, List.set_cons_succ]
            refine stepQ HOPS 9 1023 ?_ (by decide) rfl (by kernel_rfl) (by kernel_rfl) rfl ?_ HS.out ?_
            rotate_left
            · intro w9 hS9; obtain ⟨q0, q1, q2, q3, q4, q5⟩ := hS9; go_simp; (first | done | with_reducible rfl)
            try simp only [Act.put, List.setIfInBounds_toArray, List.set_cons_zero, List.set_cons_succ]
            refine stepQ HOPS 10 2047 ?_ (by decide) rfl (by kernel_rfl) (by kernel_rfl) rfl ?_ HS.out ?_
            rotate_left
            · intro w9 hS9; obtain ⟨q0, q1, q2, q3, q4, q5⟩ := hS9; go_simp; (first | done | with_reducible rfl)
            try simp only [Act.put, List.setIfInBounds_toArray, List.set_cons_zero, List.set_cons_succ]
            refine stepE HOPS (by kernel_rfl) (HQ.out _ _ ?_)
            clear HQ HOPS
            clear Q ops
            go_wp2
            go_roundw
            case rel => exact ⟨j + 1, cn, A8, c8, by go_num, by omega, by omega, rfl, by rw [HM.out]; exact OwnF.drew HO2.out, by rw [HM.out]; exact HW2.out, bel_drew HB2.out⟩
            case measure => simp [intOf]; omega
        · have HM := Lib.hid (show pairs (m.take (k + 1)) t = pairs (m.take k) t ++ mt x (t.take j) by rw [HST.out, show t.take j = t from List.take_of_length_le (by have := H2.out.len; omega)]; rfl)
          go_wp2
          go_roundw
          case rel => exact ⟨k + 1, cn, A8, c8, by go_num, by omega, by omega, rfl, by rw [HM.out]; exact HO2.out, by rw [HM.out]; exact HW2.out, HB2.out⟩
          case measure => simp [intOf]; omega
    · have HT := Lib.hid (show m.take k = m by rw [List.take_of_length_le (by have := H1.out.len; omega)])
      have HZ := Lib.hid (show agr m t = (pairs m t, 0) from agr_fine R1.out R2.out (by have h := HW.out; rw [HT.out] at h; exact h))
      have HF := Lib.hid (pairs_fit R1.out R2.out)
      go_wp2
      go_ret2
      exact ⟨A5, j0, c5, by rw [HZ.out]; rfl, by rw [HZ.out]; have h := HO.out.rd spS; rw [HT.out] at h; exact rdL_spans h HF.out, by omega, HB.out⟩
end Go.Proofs.YthhdhdjdhekgpaaDoor.Pro
