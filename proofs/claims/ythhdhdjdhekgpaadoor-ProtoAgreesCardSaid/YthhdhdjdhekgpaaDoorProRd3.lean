/- Joined: ProRd3. -/
import Derived.Test.YthhdhdjdhekgpaaDoorProRd2
import Derived.Test.YthhdhdjdhekgpaaDoorInC
/- The landed reader's end. -/
namespace Go.Proofs.YthhdhdjdhekgpaaDoor.Pro
open Go.RowKit Go.Proofs.YthhdhdjdhekgpaaDoor.Oct Go.Proofs.YthhdhdjdhekgpaaDoor.Rec Go.Proofs.YthhdhdjdhekgpaaDoor.Cod Go.Proofs.YthhdhdjdhekgpaaDoor.Lay Go.Proofs.YthhdhdjdhekgpaaDoor.RowF Go.Proofs.YthhdhdjdhekgpaaDoor.InR

/-- the first error in the end -/
def enE (n : Nat) (p e : Int) : Int := if e ≠ 0 then e else if p < (n : Int) then 11 else 0
set_option maxRecDepth 100000 in
set_option maxHeartbeats 1000000 in
theorem end_any (g : Nat) (A : Option Addr) (n c : Nat) (p e : Int) (w : World) (hR : Rdr 65 w g (.slice A n c) p e) :
    Calls Tryd.prog 50 #[.pointer (some ⟨g, 0, none⟩)] w fun en w' => en = .returned (.tuple #[]) ∧ Rdr 65 w' g (.slice A n c) p (enE n p e) ∧ w.grownBy w' (some g) := by
  have HRD := Lib.hid hR
  have hmx : Tryd.prog.follows .mixedOrders = true := by kernel_rfl
  have HS := Lib.hid (show w.drew.cell? ⟨g, 0, none⟩ = some (.slice A n c) ∧ w.drew.cell? ⟨g, 1, none⟩ = some (.int .i64 p) ∧ w.drew.cell? ⟨g, 2, none⟩ = some (.int .i64 e) from ⟨hR.c0, hR.c1, hR.c2⟩)
  have f2 : w.drew.frozen? ⟨g, 2, none⟩ = false := hR.f 2
  clear hR
  by_cases he : e = 0
  · subst he
    by_cases hp : p < (n : Int)
    · have HE := Lib.hid (show enE n p 0 = 11 by unfold enE; rw [if_neg (by simp), if_pos hp])
      go_enter Tryd.func50, Tryd.ntmps50
      go_wp2
      refine region_let (fun W9 : World => W9.cell? ⟨g, 0, none⟩ = some (.slice A n c) ∧ W9.cell? ⟨g, 1, none⟩ = some (.int .i64 p) ∧ W9.cell? ⟨g, 2, none⟩ = some (.int .i64 0)) 99 17 hmx rfl fun ops Q HOPS HQ => ?_
      refine stepQ HOPS 0 1 ?_ (by decide) rfl (by kernel_rfl) (by kernel_rfl) rfl ?_ HS.out ?_
      rotate_left
      · intro w9 hS9; obtain ⟨q0, q1, q2⟩ := hS9; go_simp; (first | done | with_reducible rfl)
      try simp only [Act.put, List.setIfInBounds_toArray, List.set_cons_zero, List.set_cons_succ]
      refine stepQ HOPS 1 3 ?_ (by decide) rfl (by kernel_rfl) (by kernel_rfl) rfl ?_ HS.out ?_
      rotate_left
      · intro w9 hS9; obtain ⟨q0, q1, q2⟩ := hS9; go_simp; (first | done | with_reducible rfl)
      try simp only [Act.put, List.setIfInBounds_toArray, List.set_cons_zero, List.set_cons_succ]
      refine stepQ HOPS 2 7 ?_ (by decide) rfl (by kernel_rfl) (by kernel_rfl) rfl ?_ HS.out ?_
      rotate_left
      · intro w9 hS9; obtain ⟨q0, q1, q2⟩ := hS9; go_simp; (first | done | with_reducible rfl)
      try simp only [Act.put, List.setIfInBounds_toArray, List.set_cons_zero, List.set_cons_succ]
      refine stepQ HOPS 3 15 ?_ (by decide) rfl (by kernel_rfl) (by kernel_rfl) rfl ?_ HS.out ?_
      rotate_left
      · intro w9 hS9; obtain ⟨q0, q1, q2⟩ := hS9; go_simp; (first | done | with_reducible rfl)
      try simp only [Act.put, List.setIfInBounds_toArray, List.set_cons_zero, List.set_cons_succ]
      refine stepQ HOPS 4 31 ?_ (by decide) rfl (by kernel_rfl) (by kernel_rfl) rfl ?_ HS.out ?_
      rotate_left
      · intro w9 hS9; obtain ⟨q0, q1, q2⟩ := hS9; go_simp; (first | done | with_reducible rfl)
      try simp only [Act.put, List.setIfInBounds_toArray, List.set_cons_zero, List.set_cons_succ]
      refine stepQ HOPS 5 63 ?_ (by decide) rfl (by kernel_rfl) (by kernel_rfl) rfl ?_ HS.out ?_
      rotate_left
      · intro w9 hS9; obtain ⟨q0, q1, q2⟩ := hS9; go_simp; (first | done | with_reducible rfl)
      try simp only [Act.put, List.setIfInBounds_toArray, List.set_cons_zero, List.set_cons_succ]
      refine stepQ HOPS 6 127 ?_ (by decide) rfl (by kernel_rfl) (by kernel_rfl) rfl ?_ HS.out ?_
      rotate_left
      · intro w9 hS9; obtain ⟨q0, q1, q2⟩ := hS9; go_simp; (first | done | with_reducible rfl)
      try simp only [Act.put, List.setIfInBounds_toArray, List.set_cons_zero, List.set_cons_succ]
      refine stepQ HOPS 7 255 ?_ (by decide) rfl (by kernel_rfl) (by kernel_rfl) rfl ?_ HS.out ?_
      rotate_left
      · intro w9 hS9; obtain ⟨q0, q1, q2⟩ := hS9; go_simp; (first | done | with_reducible rfl)
      try simp only [Act.put, List.setIfInBounds_toArray, List.set_cons_zero, List.set_cons_succ]
      refine stepQ HOPS 8 511 ?_ (by decide) rfl (by kernel_rfl) (by kernel_rfl) rfl ?_ HS.out ?_
      rotate_left
      · intro w9 hS9; obtain ⟨q0, q1, q2⟩ := hS9; go_simp; (first | done | with_reducible rfl)
      try simp only [Act.put, List.setIfInBounds_toArray, List.set_cons_zero, List.set_cons_succ]
      refine stepQ HOPS 9 1023 ?_ (by decide) rfl (by kernel_rfl) (by kernel_rfl) rfl ?_ HS.out ?_
      rotate_left
      · intro w9 hS9; obtain ⟨q0, q1, q2⟩ := hS9; go_simp; (first | done | with_reducible rfl)
      try simp only [Act.put, List.setIfInBounds_toArray, List.set_cons_zero, List.set_cons_succ]
      refine stepQ HOPS 10 2047 ?_ (by decide) rfl (by kernel_rfl) (by kernel_rfl) rfl ?_ HS.out ?_
      rotate_left
      · intro w9 hS9; obtain ⟨q0, q1, q2⟩ := hS9; go_simp; (first | done | with_reducible rfl)
      try simp only [Act.put, List.setIfInBounds_toArray, List.set_cons_zero, List.set_cons_succ]
      refine stepQ HOPS 11 4095 ?_ (by decide) rfl (by kernel_rfl) (by kernel_rfl) rfl ?_ HS.out ?_
      rotate_left
      · intro w9 hS9; obtain ⟨q0, q1, q2⟩ := hS9; go_simp; (first | done | with_reducible rfl)
      try simp only [Act.put, List.setIfInBounds_toArray, List.set_cons_zero, List.set_cons_succ]
      refine stepQ HOPS 12 8191 ?_ (by decide) rfl (by kernel_rfl) (by kernel_rfl) rfl ?_ HS.out ?_
      rotate_left
      · intro w9 hS9; obtain ⟨q0, q1, q2⟩ := hS9; go_simp; (first | done | with_reducible rfl)
      try simp only [Act.put, List.setIfInBounds_toArray, List.set_cons_zero, List.set_cons_succ]
      refine stepQ HOPS 13 16383 ?_ (by decide) rfl (by kernel_rfl) (by kernel_rfl) rfl ?_ HS.out ?_
      rotate_left
      · intro w9 hS9; obtain ⟨q0, q1, q2⟩ := hS9; go_simp; (first | done | with_reducible rfl)
      try simp only [Act.put, List.setIfInBounds_toArray, List.set_cons_zero, List.set_cons_succ]
      refine stepQ HOPS 14 32767 ?_ (by decide) rfl (by kernel_rfl) (by kernel_rfl) rfl ?_ HS.out ?_
      rotate_left
      · intro w9 hS9; obtain ⟨q0, q1, q2⟩ := hS9; go_simp; (first | done | with_reducible rfl)
      try simp only [Act.put, List.setIfInBounds_toArray, List.set_cons_zero, List.set_cons_succ]
      refine stepQ HOPS 15 65535 ?_ (by decide) rfl (by kernel_rfl) (by kernel_rfl) rfl ?_ HS.out ?_
      rotate_left
      · intro w9 hS9; obtain ⟨q0, q1, q2⟩ := hS9; go_simp; (first | done | with_reducible rfl)
      try simp only [Act.put, List.setIfInBounds_toArray, List.set_cons_zero, List.set_cons_succ]
      refine stepQ HOPS 16 131071 ?_ (by decide) rfl (by kernel_rfl) (by kernel_rfl) rfl ?_ HS.out ?_
      rotate_left
      · intro w9 hS9; obtain ⟨q0, q1, q2⟩ := hS9; go_simp; (first | done | with_reducible rfl)
      try simp only [Act.put, List.setIfInBounds_toArray, List.set_cons_zero, List.set_cons_succ]
      refine stepE HOPS (by kernel_rfl) (HQ.out _ _ ?_)
      clear HQ HOPS
      clear Q ops
      have k2 := HRD.out.c2
      go_wp2
      go_end0
      exact ⟨rfl, by rw [HE.out]; exact HRD.out.drew.set2 _, gb_trans (gb_drew _ _) (gb_set _ _ _ _)⟩
    · have HE := Lib.hid (show enE n p 0 = 0 by unfold enE; rw [if_neg (by simp), if_neg hp])
      go_enter Tryd.func50, Tryd.ntmps50
      go_wp2
      refine region_let (fun W9 : World => W9.cell? ⟨g, 0, none⟩ = some (.slice A n c) ∧ W9.cell? ⟨g, 1, none⟩ = some (.int .i64 p) ∧ W9.cell? ⟨g, 2, none⟩ = some (.int .i64 0)) 99 17 hmx rfl fun ops Q HOPS HQ => ?_
      refine stepQ HOPS 0 1 ?_ (by decide) rfl (by kernel_rfl) (by kernel_rfl) rfl ?_ HS.out ?_
      rotate_left
      · intro w9 hS9; obtain ⟨q0, q1, q2⟩ := hS9; go_simp; (first | done | with_reducible rfl)
      try simp only [Act.put, List.setIfInBounds_toArray, List.set_cons_zero, List.set_cons_succ]
      refine stepQ HOPS 1 3 ?_ (by decide) rfl (by kernel_rfl) (by kernel_rfl) rfl ?_ HS.out ?_
      rotate_left
      · intro w9 hS9; obtain ⟨q0, q1, q2⟩ := hS9; go_simp; (first | done | with_reducible rfl)
      try simp only [Act.put, List.setIfInBounds_toArray, List.set_cons_zero, List.set_cons_succ]
      refine stepQ HOPS 2 7 ?_ (by decide) rfl (by kernel_rfl) (by kernel_rfl) rfl ?_ HS.out ?_
      rotate_left
      · intro w9 hS9; obtain ⟨q0, q1, q2⟩ := hS9; go_simp; (first | done | with_reducible rfl)
      try simp only [Act.put, List.setIfInBounds_toArray, List.set_cons_zero, List.set_cons_succ]
      refine stepQ HOPS 3 15 ?_ (by decide) rfl (by kernel_rfl) (by kernel_rfl) rfl ?_ HS.out ?_
      rotate_left
      · intro w9 hS9; obtain ⟨q0, q1, q2⟩ := hS9; go_simp; (first | done | with_reducible rfl)
      try simp only [Act.put, List.setIfInBounds_toArray, List.set_cons_zero, List.set_cons_succ]
      refine stepQ HOPS 4 31 ?_ (by decide) rfl (by kernel_rfl) (by kernel_rfl) rfl ?_ HS.out ?_
      rotate_left
      · intro w9 hS9; obtain ⟨q0, q1, q2⟩ := hS9; go_simp; (first | done | with_reducible rfl)
      try simp only [Act.put, List.setIfInBounds_toArray, List.set_cons_zero, List.set_cons_succ]
      refine stepQ HOPS 5 63 ?_ (by decide) rfl (by kernel_rfl) (by kernel_rfl) rfl ?_ HS.out ?_
      rotate_left
      · intro w9 hS9; obtain ⟨q0, q1, q2⟩ := hS9; go_simp; (first | done | with_reducible rfl)
      try simp only [Act.put, List.setIfInBounds_toArray, List.set_cons_zero, List.set_cons_succ]
      refine stepQ HOPS 6 127 ?_ (by decide) rfl (by kernel_rfl) (by kernel_rfl) rfl ?_ HS.out ?_
      rotate_left
      · intro w9 hS9; obtain ⟨q0, q1, q2⟩ := hS9; go_simp; (first | done | with_reducible rfl)
      try simp only [Act.put, List.setIfInBounds_toArray, List.set_cons_zero, List.set_cons_succ]
      refine stepQ HOPS 7 255 ?_ (by decide) rfl (by kernel_rfl) (by kernel_rfl) rfl ?_ HS.out ?_
      rotate_left
      · intro w9 hS9; obtain ⟨q0, q1, q2⟩ := hS9; go_simp; (first | done | with_reducible rfl)
      try simp only [Act.put, List.setIfInBounds_toArray, List.set_cons_zero, List.set_cons_succ]
      refine stepQ HOPS 8 511 ?_ (by decide) rfl (by kernel_rfl) (by kernel_rfl) rfl ?_ HS.out ?_
      rotate_left
      · intro w9 hS9; obtain ⟨q0, q1, q2⟩ := hS9; go_simp; (first | done | with_reducible rfl)
      try simp only [Act.put, List.setIfInBounds_toArray, List.set_cons_zero, List.set_cons_succ]
      refine stepQ HOPS 9 1023 ?_ (by decide) rfl (by kernel_rfl) (by kernel_rfl) rfl ?_ HS.out ?_
      rotate_left
      · intro w9 hS9; obtain ⟨q0, q1, q2⟩ := hS9; go_simp; (first | done | with_reducible rfl)
      try simp only [Act.put, List.setIfInBounds_toArray, List.set_cons_zero, List.set_cons_succ]
      refine stepQ HOPS 10 2047 ?_ (by decide) rfl (by kernel_rfl) (by kernel_rfl) rfl ?_ HS.out ?_
      rotate_left
      · intro w9 hS9; obtain ⟨q0, q1, q2⟩ := hS9; go_simp; (first | done | with_reducible rfl)
      try simp only [Act.put, List.setIfInBounds_toArray, List.set_cons_zero, List.set_cons_succ]
      refine stepQ HOPS 11 4095 ?_ (by decide) rfl (by kernel_rfl) (by kernel_rfl) rfl ?_ HS.out ?_
      rotate_left
      · intro w9 hS9; obtain ⟨q0, q1, q2⟩ := hS9; go_simp; (first | done | with_reducible rfl)
      try simp only [Act.put, List.setIfInBounds_toArray, List.set_cons_zero, List.set_cons_succ]
      refine stepQ HOPS 12 8191 ?_ (by decide) rfl (by kernel_rfl) (by kernel_rfl) rfl ?_ HS.out ?_
      rotate_left
      · intro w9 hS9; obtain ⟨q0, q1, q2⟩ := hS9; go_simp; (first | done | with_reducible rfl)
      try simp only [Act.put, List.setIfInBounds_toArray, List.set_cons_zero, List.set_cons_succ]
      refine stepQ HOPS 13 16383 ?_ (by decide) rfl (by kernel_rfl) (by kernel_rfl) rfl ?_ HS.out ?_
      rotate_left
      · intro w9 hS9; obtain ⟨q0, q1, q2⟩ := hS9; go_simp; (first | done | with_reducible rfl)
      try simp only [Act.put, List.setIfInBounds_toArray, List.set_cons_zero, List.set_cons_succ]
      refine stepQ HOPS 14 32767 ?_ (by decide) rfl (by kernel_rfl) (by kernel_rfl) rfl ?_ HS.out ?_
      rotate_left
      · intro w9 hS9; obtain ⟨q0, q1, q2⟩ := hS9; go_simp; (first | done | with_reducible rfl)
      try simp only [Act.put, List.setIfInBounds_toArray, List.set_cons_zero, List.set_cons_succ]
      refine stepQ HOPS 15 65535 ?_ (by decide) rfl (by kernel_rfl) (by kernel_rfl) rfl ?_ HS.out ?_
      rotate_left
      · intro w9 hS9; obtain ⟨q0, q1, q2⟩ := hS9; go_simp; (first | done | with_reducible rfl)
      try simp only [Act.put, List.setIfInBounds_toArray, List.set_cons_zero, List.set_cons_succ]
      refine stepQ HOPS 16 131071 ?_ (by decide) rfl (by kernel_rfl) (by kernel_rfl) rfl ?_ HS.out ?_
      rotate_left
      · intro w9 hS9; obtain ⟨q0, q1, q2⟩ := hS9; go_simp; (first | done | with_reducible rfl)
      try simp only [Act.put, List.setIfInBounds_toArray, List.set_cons_zero, List.set_cons_succ]
      refine stepE HOPS (by kernel_rfl) (HQ.out _ _ ?_)
      clear HQ HOPS
      clear Q ops
      have k2 := HRD.out.c2
      go_wp2
      go_end0
      exact ⟨rfl, by rw [HE.out]; exact HRD.out.drew, gb_drew _ _⟩
  · have HE := Lib.hid (show enE n p e = e by unfold enE; rw [if_pos he])
    have heN : (e == 0) = false := beqF he
    clear he
    go_enter Tryd.func50, Tryd.ntmps50
    go_wp2
    refine region_let (fun W9 : World => W9.cell? ⟨g, 0, none⟩ = some (.slice A n c) ∧ W9.cell? ⟨g, 1, none⟩ = some (.int .i64 p) ∧ W9.cell? ⟨g, 2, none⟩ = some (.int .i64 e)) 99 17 hmx rfl fun ops Q HOPS HQ => ?_
    refine stepQ HOPS 0 1 ?_ (by decide) rfl (by kernel_rfl) (by kernel_rfl) rfl ?_ HS.out ?_
    rotate_left
    · intro w9 hS9; obtain ⟨q0, q1, q2⟩ := hS9; go_simp; (first | done | with_reducible rfl)
    try simp only [Act.put, List.setIfInBounds_toArray, List.set_cons_zero, List.set_cons_succ]
    refine stepQ HOPS 1 3 ?_ (by decide) rfl (by kernel_rfl) (by kernel_rfl) rfl ?_ HS.out ?_
    rotate_left
    · intro w9 hS9; obtain ⟨q0, q1, q2⟩ := hS9; go_simp; (first | done | with_reducible rfl)
    try simp only [Act.put, List.setIfInBounds_toArray, List.set_cons_zero, List.set_cons_succ]
    refine stepQ HOPS 2 7 ?_ (by decide) rfl (by kernel_rfl) (by kernel_rfl) rfl ?_ HS.out ?_
    rotate_left
    · intro w9 hS9; obtain ⟨q0, q1, q2⟩ := hS9; go_simp; (first | done | with_reducible rfl)
    try simp only [Act.put, List.setIfInBounds_toArray, List.set_cons_zero, List.set_cons_succ]
    refine stepQ HOPS 3 15 ?_ (by decide) rfl (by kernel_rfl) (by kernel_rfl) rfl ?_ HS.out ?_
    rotate_left
    · intro w9 hS9; obtain ⟨q0, q1, q2⟩ := hS9; go_simp; (first | done | with_reducible rfl)
    try simp only [Act.put, List.setIfInBounds_toArray, List.set_cons_zero, List.set_cons_succ]
    refine stepQ HOPS 4 31 ?_ (by decide) rfl (by kernel_rfl) (by kernel_rfl) rfl ?_ HS.out ?_
    rotate_left
    · intro w9 hS9; obtain ⟨q0, q1, q2⟩ := hS9; go_simp; (first | done | with_reducible rfl)
    try simp only [Act.put, List.setIfInBounds_toArray, List.set_cons_zero, List.set_cons_succ]
    refine stepQ HOPS 5 63 ?_ (by decide) rfl (by kernel_rfl) (by kernel_rfl) rfl ?_ HS.out ?_
    rotate_left
    · intro w9 hS9; obtain ⟨q0, q1, q2⟩ := hS9; go_simp; (first | done | with_reducible rfl)
    try simp only [Act.put, List.setIfInBounds_toArray, List.set_cons_zero, List.set_cons_succ]
    refine stepU HOPS 6 127 (by decide) rfl (by kernel_rfl) (by kernel_rfl) rfl HS.out ?_
    try simp only [Act.put, List.setIfInBounds_toArray, List.set_cons_zero, List.set_cons_succ]
    refine stepU HOPS 7 255 (by decide) rfl (by kernel_rfl) (by kernel_rfl) rfl HS.out ?_
    try simp only [Act.put, List.setIfInBounds_toArray, List.set_cons_zero, List.set_cons_succ]
    refine stepU HOPS 8 511 (by decide) rfl (by kernel_rfl) (by kernel_rfl) rfl HS.out ?_
    try simp only [Act.put, List.setIfInBounds_toArray, List.set_cons_zero, List.set_cons_succ]
    refine stepU HOPS 9 1023 (by decide) rfl (by kernel_rfl) (by kernel_rfl) rfl HS.out ?_
    try simp only [Act.put, List.setIfInBounds_toArray, List.set_cons_zero, List.set_cons_succ]
    refine stepU HOPS 10 2047 (by decide) rfl (by kernel_rfl) (by kernel_rfl) rfl HS.out ?_
    try simp only [Act.put, List.setIfInBounds_toArray, List.set_cons_zero, List.set_cons_succ]
    refine stepU HOPS 11 4095 (by decide) rfl (by kernel_rfl) (by kernel_rfl) rfl HS.out ?_
    try simp only [Act.put, List.setIfInBounds_toArray, List.set_cons_zero, List.set_cons_succ]
    refine stepU HOPS 12 8191 (by decide) rfl (by kernel_rfl) (by kernel_rfl) rfl HS.out ?_
    try simp only [Act.put, List.setIfInBounds_toArray, List.set_cons_zero, List.set_cons_succ]
    refine stepU HOPS 13 16383 (by decide) rfl (by kernel_rfl) (by kernel_rfl) rfl HS.out ?_
    try simp only [Act.put, List.setIfInBounds_toArray, List.set_cons_zero, List.set_cons_succ]
    refine stepU HOPS 14 32767 (by decide) rfl (by kernel_rfl) (by kernel_rfl) rfl HS.out ?_
    try simp only [Act.put, List.setIfInBounds_toArray, List.set_cons_zero, List.set_cons_succ]
    refine stepU HOPS 15 65535 (by decide) rfl (by kernel_rfl) (by kernel_rfl) rfl HS.out ?_
    try simp only [Act.put, List.setIfInBounds_toArray, List.set_cons_zero, List.set_cons_succ]
    refine stepQ HOPS 16 131071 ?_ (by decide) rfl (by kernel_rfl) (by kernel_rfl) rfl ?_ HS.out ?_
    rotate_left
    · intro w9 hS9; obtain ⟨q0, q1, q2⟩ := hS9; go_simp; (first | done | with_reducible rfl)
    try simp only [Act.put, List.setIfInBounds_toArray, List.set_cons_zero, List.set_cons_succ]
    refine stepE HOPS (by kernel_rfl) (HQ.out _ _ ?_)
    clear HQ HOPS
    clear Q ops
    have k2 := HRD.out.c2
    go_wp2
    go_end0
    exact ⟨rfl, by rw [HE.out]; exact HRD.out.drew, gb_drew _ _⟩
end Go.Proofs.YthhdhdjdhekgpaaDoor.Pro
