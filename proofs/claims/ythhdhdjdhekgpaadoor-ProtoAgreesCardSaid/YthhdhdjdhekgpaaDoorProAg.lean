/- Joined: ProAg. -/
import Derived.Test.YthhdhdjdhekgpaaDoorProSp
import Derived.Test.YthhdhdjdhekgpaaDoorInC
import Derived.Deep.DeepCutAuto
/- The landed Agree. -/
namespace Go.Proofs.YthhdhdjdhekgpaaDoor.Pro
open Go.RowKit Go.Proofs.YthhdhdjdhekgpaaDoor.Oct Go.Proofs.YthhdhdjdhekgpaaDoor.Lay Go.Proofs.YthhdhdjdhekgpaaDoor.RowF Go.Proofs.YthhdhdjdhekgpaaDoor.InR

/-- what Agree answers -/
def AGR (w : World) (x : List Sp × Int) (en : Ending) (w' : World) : Prop :=
  ∃ A n c, en = .returned (.tuple #[.slice A n c, .int .i64 x.2]) ∧ RdL w' w'.heap.size A n x.1 ∧ n ≤ 1000000 ∧ Below w.heap.size w w'
theorem pairs_take {m t : List Sp} {k : Nat} {x : Sp} (h : m[k]? = some x) : pairs (m.take (k + 1)) t = pairs (m.take k) t ++ (t.filter fun y => decide (x.kind = y.kind)).map (meet x) := by
  unfold pairs
  rw [List.take_add_one, h, List.flatMap_append]
  simp
theorem filt_found {p : Int} {t : List Sp} {j : Nat} {x y : Sp} (hr : rt p t = true) (h : t[j]? = some y) (hk : y.kind = x.kind) : t.filter (fun y => decide (x.kind = y.kind)) = [y] := by
  rw [← hk]
  exact filt_one hr (List.mem_of_getElem? h)
theorem filt_not {t : List Sp} {x : Sp} (h : ∀ y ∈ t, y.kind ≠ x.kind) : t.filter (fun y => decide (x.kind = y.kind)) = [] := by
  rw [List.filter_eq_nil_iff]
  intro y hy he
  exact h y hy (of_decide_eq_true he).symm
theorem pairs_fit {m t : List Sp} (hm : right m = true) (ht : right t = true) : ∀ z ∈ pairs m t, FitS z := by
  intro z hz
  obtain ⟨x, hx, y, hy, _, rfl⟩ := pairs_mem hz
  have h1 := rt_mem hm x hx
  have h2 := rt_mem ht y hy
  unfold meet
  exact ⟨⟨by simp only; omega, by simp only; omega⟩, ⟨by simp only; omega, by simp only; omega⟩, ⟨by simp only; omega, by simp only; omega⟩⟩
theorem pairs_pre (m t : List Sp) (k : Nat) : ∃ r, pairs m t = pairs (m.take k) t ++ r := by
  refine ⟨pairs (m.drop k) t, ?_⟩
  unfold pairs
  rw [← List.flatMap_append, List.take_append_drop]
theorem agr_wrong {m t : List Sp} {z : Sp} (hm : right m = true) (ht : right t = true) (hz : z ∈ pairs m t) (hw : z.hi < z.lo) : agr m t = ([], 61) := by
  unfold agr
  rw [hm, ht, if_neg (by decide), if_pos]
  rw [List.any_eq_true]
  exact ⟨z, hz, decide_eq_true hw⟩
theorem agr_fine {m t : List Sp} (hm : right m = true) (ht : right t = true) (hw : (pairs m t).any wrongS = false) : agr m t = (pairs m t, 0) := by
  unfold agr
  rw [hm, ht, if_neg (by decide), if_neg (by rw [hw]; decide)]
theorem agr_not {m t : List Sp} (h : (right m && right t) = false) : agr m t = ([], 1) := by unfold agr; rw [if_pos h]
def agRel (m t : List Sp) (n : Nat) (w : World) (vl vi : Value) (wr : World) : Prop :=
  ∃ (k j : Nat) (A : Option Addr) (c : Nat), vi = .int .i64 (k : Int) ∧ k ≤ n ∧ j ≤ k ∧ vl = .slice A j c ∧ OwnF spc 3 wr 54 w.heap.size vl j (pairs (m.take k) t) ∧ (pairs (m.take k) t).any wrongS = false ∧ Below w.heap.size w wr
set_option maxRecDepth 100000 in
set_option maxHeartbeats 8000000 in
theorem Agree_any (A1 : Option Addr) (n1 c1 : Nat) (m : List Sp) (A2 : Option Addr) (n2 c2 : Nat) (t : List Sp) (w : World) (hr : RdL w w.heap.size A1 n1 m) (hr2 : RdL w w.heap.size A2 n2 t) (hn1 : n1 ≤ 1000000) (hn2 : n2 ≤ 1000000) :
    Calls Tryd.prog 27 #[.slice A1 n1 c1, .slice A2 n2 c2] w (AGR w (agr m t)) := by
  have H1 := Lib.hid hr
  have H2 := Lib.hid hr2
  have hmx : Tryd.prog.follows .mixedOrders = true := by kernel_rfl
  clear hr hr2
  obtain ⟨a, ha⟩ : ∃ a, right m = a := ⟨_, rfl⟩
  obtain ⟨b, hb⟩ : ∃ b, right t = b := ⟨_, rfl⟩
  have R1 := Lib.hid ha
  have R2 := Lib.hid hb
  clear ha hb
  rcases a with _ | _
  · have HZ := Lib.hid (agr_not (m := m) (t := t) (by rw [R1.out]; rfl))
    rw [HZ.out]
    go_enter Tryd.func27, Tryd.ntmps27
    go_wp2_with (first
      | (go_at_call 73; (with_reducible refine (areSpans_any A2 n2 c2 t w7 ((H2.out.below HB7.out (Nat.le_refl _)).more HB7.out.size) (by omega)).mono ?_); rw [R2.out]; rintro e w6 ⟨rfl, hb6⟩; have HB6 := Lib.hid (bel_trans HB7.out hb6); clear hb6)
      | (go_at_call 73; (with_reducible refine (areSpans_any A1 n1 c1 m w H1.out (by omega)).mono ?_); rw [R1.out]; rintro e w7 ⟨rfl, hb7⟩; have HB7 := Lib.hid hb7; clear hb7))
    go_ret2
    exact ⟨none, 0, 0, rfl, RdL.nil, by omega, HB7.out⟩
  rcases b with _ | _
  · have HZ := Lib.hid (agr_not (m := m) (t := t) (by rw [R1.out, R2.out]; rfl))
    rw [HZ.out]
    go_enter Tryd.func27, Tryd.ntmps27
    go_wp2_with (first
      | (go_at_call 73; (with_reducible refine (areSpans_any A2 n2 c2 t w7 ((H2.out.below HB7.out (Nat.le_refl _)).more HB7.out.size) (by omega)).mono ?_); rw [R2.out]; rintro e w6 ⟨rfl, hb6⟩; have HB6 := Lib.hid (bel_trans HB7.out hb6); clear hb6)
      | (go_at_call 73; (with_reducible refine (areSpans_any A1 n1 c1 m w H1.out (by omega)).mono ?_); rw [R1.out]; rintro e w7 ⟨rfl, hb7⟩; have HB7 := Lib.hid hb7; clear hb7))
    go_ret2
    exact ⟨none, 0, 0, rfl, RdL.nil, by omega, HB6.out⟩
  go_enter Tryd.func27, Tryd.ntmps27
  go_wp2_with (first
      | (go_at_call 73; (with_reducible refine (areSpans_any A2 n2 c2 t w7 ((H2.out.below HB7.out (Nat.le_refl _)).more HB7.out.size) (by omega)).mono ?_); rw [R2.out]; rintro e w6 ⟨rfl, hb6⟩; have HB6 := Lib.hid (bel_trans HB7.out hb6); clear hb6)
      | (go_at_call 73; (with_reducible refine (areSpans_any A1 n1 c1 m w H1.out (by omega)).mono ?_); rw [R1.out]; rintro e w7 ⟨rfl, hb7⟩; have HB7 := Lib.hid hb7; clear hb7))
  go_loopw [6, 21] (fun vl vi wr => agRel m t n1 w vl vi wr) (fun _ vi _ => n1 - (intOf vi).toNat)
  case atStart => exact ⟨0, 0, none, 0, rfl, Nat.zero_le _, Nat.le_refl _, rfl, OwnF.nil, rfl, HB6.out⟩
  case round =>
    obtain ⟨k, j, A5, c5, rfl, hk, hjk, rfl, hO, hW, hB⟩ := hrel
    have HO := Lib.hid hO
    have HW := Lib.hid hW
    have HB := Lib.hid hB
    have HX := Lib.hid (H1.out.below hB (Nat.le_refl _))
    have hsz := hB.size
    clear hO hW hB
    by_cases hlt : k < n1
    · obtain ⟨b, o, x, rfl, hb, hx, hf, q0, q1, q2⟩ := sp_at HX.out hlt
      have HXX := Lib.hid hx
      have HST := Lib.hid (pairs_take (t := t) hx)
      clear hx hf
      go_upto_region 8 with (go_at_call 74; (refine (indexSpans_any A2 n2 c2 t x wr.heap.size _ (((H2.out.below HB.out (Nat.le_refl _)).more hsz).below (bel_alloc (Below.refl _ _) _) (Nat.le_refl _) |>.more (by simp)) (by omega) (by go_simp)).mono ?_); rintro e w5 ⟨⟨ix, rfl, hix⟩, hb5⟩; have hl5 : wr.heap.size < w5.heap.size := Nat.lt_of_lt_of_le (by simp) hb5.size; have p0 : w5.cell? ⟨wr.heap.size, 0, none⟩ = some (.int .i64 x.kind) := (hb5.cell (p := ⟨wr.heap.size, 0, none⟩) (by simp)).trans (by go_simp); have p1 : w5.cell? ⟨wr.heap.size, 1, none⟩ = some (.int .i64 x.lo) := (hb5.cell (p := ⟨wr.heap.size, 1, none⟩) (by simp)).trans (by go_simp); have p2 : w5.cell? ⟨wr.heap.size, 2, none⟩ = some (.int .i64 x.hi) := (hb5.cell (p := ⟨wr.heap.size, 2, none⟩) (by simp)).trans (by go_simp); have HB5 := Lib.hid (show Below wr.heap.size wr w5 from bel_trans (bel_alloc (Below.refl _ _) _) hb5); have HIX := Lib.hid hix; clear hix hb5)
      rcases HIX.out with ⟨rfl, hno⟩ | ⟨j2, y, rfl, hy, hyk⟩
      · have HN := Lib.hid (show pairs (m.take (k + 1)) t = pairs (m.take k) t by rw [HST.out, filt_not hno]; simp)
        clear hno HIX
        go_wp2
        go_roundw
        case rel => exact ⟨k + 1, j, A5, c5, by go_num, by omega, by omega, rfl, by rw [HN.out]; exact OwnF.below HO.out HB5.out, by rw [HN.out]; exact HW.out, HB.out.trans (HB5.out.mono hsz)⟩
        case measure => simp [intOf]; omega
      · have hj2 : j2 < n2 := by have h := (List.getElem?_eq_some_iff.1 hy).1; have := H2.out.len; omega
        obtain ⟨b2, o2, y', rfl, hb2, hy', hf2, r0, r1, r2⟩ := sp_at ((H2.out.below HB.out (Nat.le_refl _)).below HB5.out hsz) hj2
        obtain rfl : y = y' := by rw [hy] at hy'; exact Option.some.inj hy'
        have HM := Lib.hid (show pairs (m.take (k + 1)) t = pairs (m.take k) t ++ [meet x y] by rw [HST.out, filt_found R2.out hy hyk]; rfl)
        have HIN := Lib.hid (show meet x y ∈ pairs m t by obtain ⟨r, hr⟩ := pairs_pre m t (k + 1); rw [hr, HM.out]; simp)
        have HS := Lib.hid (show w5.drew.cell? ⟨wr.heap.size, 0, none⟩ = some (.int .i64 x.kind) ∧ w5.drew.cell? ⟨wr.heap.size, 1, none⟩ = some (.int .i64 x.lo) ∧ w5.drew.cell? ⟨wr.heap.size, 2, none⟩ = some (.int .i64 x.hi) ∧ w5.drew.cell? ⟨b2, o2 + j2 * 3 + 1, none⟩ = some (.int .i64 y.lo) ∧ w5.drew.cell? ⟨b2, o2 + j2 * 3 + 2, none⟩ = some (.int .i64 y.hi) from ⟨p0, p1, p2, r1, r2⟩)
        have hlb2 : b2 < w5.heap.size := by have h := HB5.out.size; omega
        clear hy' hyk HIX r0 hf2 hy
        go_wp2
        refine region_let (fun W9 : World => W9.cell? ⟨wr.heap.size, 0, none⟩ = some (.int .i64 x.kind) ∧ W9.cell? ⟨wr.heap.size, 1, none⟩ = some (.int .i64 x.lo) ∧ W9.cell? ⟨wr.heap.size, 2, none⟩ = some (.int .i64 x.hi) ∧ W9.cell? ⟨b2, o2 + j2 * 3 + 1, none⟩ = some (.int .i64 y.lo) ∧ W9.cell? ⟨b2, o2 + j2 * 3 + 2, none⟩ = some (.int .i64 y.hi)) 99 21 hmx rfl fun ops Q HOPS HQ => ?_
        refine stepQ HOPS 0 1 ?_ (by decide) rfl (by kernel_rfl) (by kernel_rfl) rfl ?_ HS.out ?_
        rotate_left
        · intro w9 hS9; obtain ⟨q0, q1, q2, q3, q4⟩ := hS9; go_simp; (first | done | with_reducible rfl)
        try simp only [Act.put, List.setIfInBounds_toArray, List.set_cons_zero, List.set_cons_succ]
        refine stepQ HOPS 1 3 ?_ (by decide) rfl (by kernel_rfl) (by kernel_rfl) rfl ?_ HS.out ?_
        rotate_left
        · intro w9 hS9; obtain ⟨q0, q1, q2, q3, q4⟩ := hS9; go_simp; (first | done | with_reducible rfl)
        try simp only [Act.put, List.setIfInBounds_toArray, List.set_cons_zero, List.set_cons_succ]
        refine stepQ HOPS 2 7 ?_ (by decide) rfl (by kernel_rfl) (by kernel_rfl) rfl ?_ HS.out ?_
        rotate_left
        · intro w9 hS9; obtain ⟨q0, q1, q2, q3, q4⟩ := hS9; go_simp; (first | done | with_reducible rfl)
        try simp only [Act.put, List.setIfInBounds_toArray, List.set_cons_zero, List.set_cons_succ]
        refine stepQ HOPS 3 15 ?_ (by decide) rfl (by kernel_rfl) (by kernel_rfl) rfl ?_ HS.out ?_
        rotate_left
        · intro w9 hS9; obtain ⟨q0, q1, q2, q3, q4⟩ := hS9; go_simp; (first | done | with_reducible rfl)
        try simp only [Act.put, List.setIfInBounds_toArray, List.set_cons_zero, List.set_cons_succ]
        refine stepQ HOPS 4 31 ?_ (by decide) rfl (by kernel_rfl) (by kernel_rfl) rfl ?_ HS.out ?_
        rotate_left
        · intro w9 hS9; obtain ⟨q0, q1, q2, q3, q4⟩ := hS9; go_simp; (first | done | with_reducible rfl)
        try simp only [Act.put, List.setIfInBounds_toArray, List.set_cons_zero, List.set_cons_succ]
        refine stepQ HOPS 5 63 ?_ (by decide) rfl (by kernel_rfl) (by kernel_rfl) rfl ?_ HS.out ?_
        rotate_left
        · intro w9 hS9; obtain ⟨q0, q1, q2, q3, q4⟩ := hS9; go_simp; (first | done | with_reducible rfl)
        try simp only [Act.put, List.setIfInBounds_toArray, List.set_cons_zero, List.set_cons_succ]
        refine stepQ HOPS 6 127 ?_ (by decide) rfl (by kernel_rfl) (by kernel_rfl) rfl ?_ HS.out ?_
        rotate_left
        · intro w9 hS9; obtain ⟨q0, q1, q2, q3, q4⟩ := hS9; go_simp; (first | done | with_reducible rfl)
        try simp only [Act.put, List.setIfInBounds_toArray, List.set_cons_zero, List.set_cons_succ]
        refine stepQ HOPS 7 255 ?_ (by decide) rfl (by kernel_rfl) (by kernel_rfl) rfl ?_ HS.out ?_
        rotate_left
        · intro w9 hS9; obtain ⟨q0, q1, q2, q3, q4⟩ := hS9; go_simp; (first | done | with_reducible rfl)
        try simp only [Act.put, List.setIfInBounds_toArray, List.set_cons_zero, List.set_cons_succ]
        refine stepQ HOPS 8 511 ?_ (by decide) rfl (by kernel_rfl) (by kernel_rfl) rfl ?_ HS.out ?_
        rotate_left
        · intro w9 hS9; obtain ⟨q0, q1, q2, q3, q4⟩ := hS9; go_simp; (first | done | with_reducible rfl)
        try simp only [Act.put, List.setIfInBounds_toArray, List.set_cons_zero, List.set_cons_succ]
        refine stepQ HOPS 9 1023 ?_ (by decide) rfl (by kernel_rfl) (by kernel_rfl) rfl ?_ HS.out ?_
        rotate_left
        · intro w9 hS9; obtain ⟨q0, q1, q2, q3, q4⟩ := hS9; go_simp; (first | done | with_reducible rfl)
        try simp only [Act.put, List.setIfInBounds_toArray, List.set_cons_zero, List.set_cons_succ]
        refine stepQ HOPS 10 2047 ?_ (by decide) rfl (by kernel_rfl) (by kernel_rfl) rfl ?_ HS.out ?_
        rotate_left
        · intro w9 hS9; obtain ⟨q0, q1, q2, q3, q4⟩ := hS9; go_simp; (first | done | with_reducible rfl)
        try simp only [Act.put, List.setIfInBounds_toArray, List.set_cons_zero, List.set_cons_succ]
        refine stepQ HOPS 11 4095 ?_ (by decide) rfl (by kernel_rfl) (by kernel_rfl) rfl ?_ HS.out ?_
        rotate_left
        · intro w9 hS9; obtain ⟨q0, q1, q2, q3, q4⟩ := hS9; go_simp; (first | done | with_reducible rfl)
        try simp only [Act.put, List.setIfInBounds_toArray, List.set_cons_zero, List.set_cons_succ]
        refine stepQ HOPS 12 8191 ?_ (by decide) rfl (by kernel_rfl) (by kernel_rfl) rfl ?_ HS.out ?_
        rotate_left
        · intro w9 hS9; obtain ⟨q0, q1, q2, q3, q4⟩ := hS9; go_simp; (first | done | with_reducible rfl)
        try simp only [Act.put, List.setIfInBounds_toArray, List.set_cons_zero, List.set_cons_succ]
        refine stepQ HOPS 13 16383 ?_ (by decide) rfl (by kernel_rfl) (by kernel_rfl) rfl ?_ HS.out ?_
        rotate_left
        · intro w9 hS9; obtain ⟨q0, q1, q2, q3, q4⟩ := hS9; go_simp; (first | done | with_reducible rfl)
        try simp only [Act.put, List.setIfInBounds_toArray, List.set_cons_zero, List.set_cons_succ]
        refine stepQ HOPS 14 32767 ?_ (by decide) rfl (by kernel_rfl) (by kernel_rfl) rfl ?_ HS.out ?_
        rotate_left
        · intro w9 hS9; obtain ⟨q0, q1, q2, q3, q4⟩ := hS9; go_simp; (first | done | with_reducible rfl)
        try simp only [Act.put, List.setIfInBounds_toArray, List.set_cons_zero, List.set_cons_succ]
        refine stepQ HOPS 15 65535 ?_ (by decide) rfl (by kernel_rfl) (by kernel_rfl) rfl ?_ HS.out ?_
        rotate_left
        · intro w9 hS9; obtain ⟨q0, q1, q2, q3, q4⟩ := hS9; go_simp; (first | done | with_reducible rfl)
        try simp only [Act.put, List.setIfInBounds_toArray, List.set_cons_zero, List.set_cons_succ]
        refine stepQ HOPS 16 131071 ?_ (by decide) rfl (by kernel_rfl) (by kernel_rfl) rfl ?_ HS.out ?_
        rotate_left
        · intro w9 hS9; obtain ⟨q0, q1, q2, q3, q4⟩ := hS9; go_simp; (first | done | with_reducible rfl)
        try simp only [Act.put, List.setIfInBounds_toArray, List.set_cons_zero, List.set_cons_succ]
        refine stepQ HOPS 17 262143 ?_ (by decide) rfl (by kernel_rfl) (by kernel_rfl) rfl ?_ HS.out ?_
        rotate_left
        · intro w9 hS9; obtain ⟨q0, q1, q2, q3, q4⟩ := hS9; go_simp; (first | done | with_reducible rfl)
        try simp only [Act.put, List.setIfInBounds_toArray, List.set_cons_zero, List.set_cons_succ]
        refine stepQ HOPS 18 524287 ?_ (by decide) rfl (by kernel_rfl) (by kernel_rfl) rfl ?_ HS.out ?_
        rotate_left
        · intro w9 hS9; obtain ⟨q0, q1, q2, q3, q4⟩ := hS9; go_simp; (first | done | with_reducible rfl)
        try simp only [Act.put, List.setIfInBounds_toArray, List.set_cons_zero, List.set_cons_succ]
        refine stepC HOPS 19 1048575 (by decide) rfl (by kernel_rfl) (by kernel_rfl) ?_
        go_simp
        try simp only [Act.put, List.setIfInBounds_toArray, List.set_cons_zero, List.set_cons_succ]
        refine stepC HOPS 20 2097151 (by decide) rfl (by kernel_rfl) (by kernel_rfl) ?_
        go_simp
        try simp only [Act.put, List.setIfInBounds_toArray, List.set_cons_zero, List.set_cons_succ]
        refine stepE HOPS (by kernel_rfl) (HQ.out _ _ ?_)
        clear HQ HOPS
        clear Q ops
        obtain ⟨lo, hlo⟩ : ∃ lo, (if x.lo < y.lo then y.lo else x.lo) = lo := ⟨_, rfl⟩
        obtain ⟨hi, hhi⟩ : ∃ hi, (if y.hi < x.hi then y.hi else x.hi) = hi := ⟨_, rfl⟩
        rw [hlo, hhi]
        have HMT := Lib.hid (show meet x y = ⟨x.kind, lo, hi⟩ by
          rw [← hlo, ← hhi]
          unfold meet
          congr 1
          · split <;> omega
          · split <;> omega)
        clear hlo hhi
        have HBA := Lib.hid (show Below w5.heap.size w5 (w5.alloc (.cells (spc ⟨x.kind, lo, hi⟩).toArray 54)) from bel_alloc (Below.refl _ _) _)
        have hsA : (w5.alloc (.cells (spc ⟨x.kind, lo, hi⟩).toArray 54)).heap.size = w5.heap.size + 1 := by simp
        have a0 : (w5.alloc (.cells (spc ⟨x.kind, lo, hi⟩).toArray 54)).cell? ⟨w5.heap.size, 0, none⟩ = some (.int .i64 x.kind) := by rw [cell_of_row _ _ _ _ _ (0, 0) (heap_alloc_new w5 _)]; rfl
        have a1 : (w5.alloc (.cells (spc ⟨x.kind, lo, hi⟩).toArray 54)).cell? ⟨w5.heap.size, 1, none⟩ = some (.int .i64 lo) := by rw [cell_of_row _ _ _ _ _ (0, 0) (heap_alloc_new w5 _)]; rfl
        have a2 : (w5.alloc (.cells (spc ⟨x.kind, lo, hi⟩).toArray 54)).cell? ⟨w5.heap.size, 2, none⟩ = some (.int .i64 hi) := by rw [cell_of_row _ _ _ _ _ (0, 0) (heap_alloc_new w5 _)]; rfl
        generalize hwA : (w5.alloc (.cells (spc ⟨x.kind, lo, hi⟩).toArray 54)) = wA at HBA hsA a0 a1 a2
        rw [show (w5.alloc (.cells #[.int .i64 x.kind, .int .i64 lo, .int .i64 hi] 54)) = wA from hwA]
        clear hwA
        have HSA := Lib.hid hsA
        clear hsA
        have HB9 := Lib.hid (HB.out.trans ((bel_trans HB5.out HBA.out).mono hsz))
        have HO9 := Lib.hid (OwnF.below HO.out (bel_trans HB5.out HBA.out))
        have hs9 := HB9.out.size
        by_cases hw : hi < lo
        · have HZ := Lib.hid (agr_wrong R1.out R2.out HIN.out (by rw [HMT.out]; exact hw))
          go_wp2
          go_ret2
          exact ⟨none, 0, 0, by rw [HZ.out]; rfl, by rw [HZ.out]; exact RdL.nil, by omega, bel_drew HB9.out⟩
        · have HW2 := Lib.hid (show (pairs (m.take (k + 1)) t).any wrongS = false by rw [HM.out, List.any_append, HW.out, HMT.out]; simp [wrongS]; omega)
          go_wp2_with (at_builtin; refine wpList_appF _ spS rfl _ _ 45 rfl 24 w.heap.size 54 Tryd.underlying45 spRow _ j (pairs (m.take k) t) rfl (OwnF.drew (HO9.out.alloc _)) _ _ 1 1 [⟨x.kind, lo, hi⟩] rfl (rdF_new wA spS 54 ⟨x.kind, lo, hi⟩) (by omega) (by omega) (by simp; omega) ?_; intro A7 c7 w7 hO7 hb7)
          go_roundw
          case rel => exact ⟨k + 1, j + 1, A7, c7, by go_num, by omega, by omega, rfl, by rw [HM.out, HMT.out]; exact hO7, HW2.out, ((HB9.out.alloc hs9 _).drew).trans hb7⟩
          case measure => simp [intOf]; omega
    · have HT := Lib.hid (show m.take k = m by rw [List.take_of_length_le (by have := H1.out.len; omega)])
      have HZ := Lib.hid (show agr m t = (pairs m t, 0) from agr_fine R1.out R2.out (by have h := HW.out; rw [HT.out] at h; exact h))
      have HF := Lib.hid (pairs_fit R1.out R2.out)
      go_wp2
      go_ret2
      exact ⟨A5, j, c5, by rw [HZ.out]; rfl, by rw [HZ.out]; have h := HO.out.rd spS; rw [HT.out] at h; exact rdL_spans h HF.out, by omega, HB.out⟩
end Go.Proofs.YthhdhdjdhekgpaaDoor.Pro
