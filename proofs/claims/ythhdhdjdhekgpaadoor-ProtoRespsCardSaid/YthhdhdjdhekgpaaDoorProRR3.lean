/- Joined: ProRR3. -/
import Derived.Test.YthhdhdjdhekgpaaDoorProRR2
/- The document's reader: blob. -/
namespace Go.Proofs.YthhdhdjdhekgpaaDoor.Pro
open Go.RowKit Go.Proofs.YthhdhdjdhekgpaaDoor.Oct Go.Proofs.YthhdhdjdhekgpaaDoor.Rec Go.Proofs.YthhdhdjdhekgpaaDoor.Cod Go.Proofs.YthhdhdjdhekgpaaDoor.Lay Go.Proofs.YthhdhdjdhekgpaaDoor.RowF Go.Proofs.YthhdhdjdhekgpaaDoor.InR

/-- what blob answers: bytes of the call's own -/
def BlobR (M : Nat) (T : TypeId) (g : Nat) (sl : Value) (l : List UInt8) (n : Nat) (p e : Int) (w : World) (en : Ending) (w' : World) : Prop :=
  ∃ A m c xs q z, en = .returned (.slice A m c) ∧ m ≤ M ∧ OwnB w' 5 w.heap.size (.slice A m c) m xs ∧ Steps (cblob (ckM M) (ckM_pos M)) l p e xs q z ∧ At n q z ∧ Rdr T w' g sl q z ∧ w.grownBy w' (some g)
set_option maxRecDepth 100000 in
set_option maxHeartbeats 4000000 in
theorem rblob_any (M : Nat) (hM : M ≤ 1000000) (g : Nat) (A : Option Addr) (n c : Nat) (p e : Int) (l : List UInt8) (B : Nat) (w : World) (hR : Rdr 79 w g (.slice A n c) p e) (hr : Rd w B A n l) (hc : n ≤ c) (hn : n ≤ 1099511627776) (ha : At n p e) (hB : B ≤ g) :
    Calls Tryd.prog 58 #[.pointer (some ⟨g, 0, none⟩), .int .i64 (M : Int)] w (BlobR M 79 g (.slice A n c) l n p e w) := by
  have hglt := hR.lt
  have HR := Lib.hid hr
  have HRD := Lib.hid hR
  have HA := Lib.hid ha
  have hmx : Tryd.prog.follows .mixedOrders = true := by kernel_rfl
  clear hR hr ha
  go_enter Tryd.func58, Tryd.ntmps58
  go_upto_region 2 with (go_at_call 72; (with_reducible refine (rcount_any (M : Int) g A n c p e l B w HRD.out HR.out hn HA.out hB).mono ?_); rintro e w8 ⟨x, q, z, rfl, hI8, hS8, hA8, hr8, hg8⟩; dsimp only [mkI]; have HS8 := Lib.hid hS8; have HA8 := Lib.hid hA8; have HR8 := Lib.hid hr8; have HG8 := Lib.hid hg8; have hx8 := hI8.2; clear hI8 hS8 hA8 hr8 hg8)
  have HS2 := Lib.hid HR8.out.drew
  have hs8 := HG8.out.size
  rcases y1 : (z == 0) with _ | _
  · have hzN : (z != 0) = true := by simp [bne, y1]
    have HZ := Lib.hid (show z ≠ 0 by intro h; rw [h] at y1; cases y1)
    refine region_let (fun W9 : World => Rdr 79 W9 g (.slice A n c) q z) 99 19 hmx rfl fun ops Q HOPS HQ => ?_
    have HREG := reg_of HOPS tb_rbl2 rfl (by kernel_rfl) (by kernel_rfl) (by decide)
    refine stepTQ HOPS HREG 0 1 ?_ (by decide) rfl (by kernel_rfl) (by kernel_rfl) rfl ?_ HS2.out ?_
    rotate_left
    · intro w9 hS9; have q0 := hS9.c0; have q1 := hS9.c1; have q2 := hS9.c2; go_simp; (first | done | with_reducible rfl)
    dsimp only [List.set_cons_zero, List.set_cons_succ]
    refine stepTQ HOPS HREG 1 3 ?_ (by decide) rfl (by kernel_rfl) (by kernel_rfl) rfl ?_ HS2.out ?_
    rotate_left
    · intro w9 hS9; have q0 := hS9.c0; have q1 := hS9.c1; have q2 := hS9.c2; go_simp; (first | done | with_reducible rfl)
    dsimp only [List.set_cons_zero, List.set_cons_succ]
    refine stepTQ HOPS HREG 2 7 ?_ (by decide) rfl (by kernel_rfl) (by kernel_rfl) rfl ?_ HS2.out ?_
    rotate_left
    · intro w9 hS9; have q0 := hS9.c0; have q1 := hS9.c1; have q2 := hS9.c2; go_simp; (first | done | with_reducible rfl)
    dsimp only [List.set_cons_zero, List.set_cons_succ]
    refine stepTQ HOPS HREG 3 15 ?_ (by decide) rfl (by kernel_rfl) (by kernel_rfl) rfl ?_ HS2.out ?_
    rotate_left
    · intro w9 hS9; have q0 := hS9.c0; have q1 := hS9.c1; have q2 := hS9.c2; go_simp; (first | done | with_reducible rfl)
    dsimp only [List.set_cons_zero, List.set_cons_succ]
    refine stepTQ HOPS HREG 4 31 ?_ (by decide) rfl (by kernel_rfl) (by kernel_rfl) rfl ?_ HS2.out ?_
    rotate_left
    · intro w9 hS9; have q0 := hS9.c0; have q1 := hS9.c1; have q2 := hS9.c2; go_simp; (first | done | with_reducible rfl)
    dsimp only [List.set_cons_zero, List.set_cons_succ]
    refine stepTQ HOPS HREG 5 63 ?_ (by decide) rfl (by kernel_rfl) (by kernel_rfl) rfl ?_ HS2.out ?_
    rotate_left
    · intro w9 hS9; have q0 := hS9.c0; have q1 := hS9.c1; have q2 := hS9.c2; go_simp; (first | done | with_reducible rfl)
    dsimp only [List.set_cons_zero, List.set_cons_succ]
    refine stepTU HOPS HREG 6 127 (by decide) rfl (by kernel_rfl) (by kernel_rfl) rfl HS2.out ?_
    dsimp only [List.set_cons_zero, List.set_cons_succ]
    refine stepTU HOPS HREG 7 255 (by decide) rfl (by kernel_rfl) (by kernel_rfl) rfl HS2.out ?_
    dsimp only [List.set_cons_zero, List.set_cons_succ]
    refine stepTU HOPS HREG 8 511 (by decide) rfl (by kernel_rfl) (by kernel_rfl) rfl HS2.out ?_
    dsimp only [List.set_cons_zero, List.set_cons_succ]
    refine stepTU HOPS HREG 9 1023 (by decide) rfl (by kernel_rfl) (by kernel_rfl) rfl HS2.out ?_
    dsimp only [List.set_cons_zero, List.set_cons_succ]
    refine stepTU HOPS HREG 10 2047 (by decide) rfl (by kernel_rfl) (by kernel_rfl) rfl HS2.out ?_
    dsimp only [List.set_cons_zero, List.set_cons_succ]
    refine stepTU HOPS HREG 11 4095 (by decide) rfl (by kernel_rfl) (by kernel_rfl) rfl HS2.out ?_
    dsimp only [List.set_cons_zero, List.set_cons_succ]
    refine stepTU HOPS HREG 12 8191 (by decide) rfl (by kernel_rfl) (by kernel_rfl) rfl HS2.out ?_
    dsimp only [List.set_cons_zero, List.set_cons_succ]
    refine stepTU HOPS HREG 13 16383 (by decide) rfl (by kernel_rfl) (by kernel_rfl) rfl HS2.out ?_
    dsimp only [List.set_cons_zero, List.set_cons_succ]
    refine stepTU HOPS HREG 14 32767 (by decide) rfl (by kernel_rfl) (by kernel_rfl) rfl HS2.out ?_
    dsimp only [List.set_cons_zero, List.set_cons_succ]
    refine stepTU HOPS HREG 15 65535 (by decide) rfl (by kernel_rfl) (by kernel_rfl) rfl HS2.out ?_
    dsimp only [List.set_cons_zero, List.set_cons_succ]
    refine stepTU HOPS HREG 16 131071 (by decide) rfl (by kernel_rfl) (by kernel_rfl) rfl HS2.out ?_
    dsimp only [List.set_cons_zero, List.set_cons_succ]
    refine stepTU HOPS HREG 17 262143 (by decide) rfl (by kernel_rfl) (by kernel_rfl) rfl HS2.out ?_
    dsimp only [List.set_cons_zero, List.set_cons_succ]
    refine stepTQ HOPS HREG 18 524287 ?_ (by decide) rfl (by kernel_rfl) (by kernel_rfl) rfl ?_ HS2.out ?_
    rotate_left
    · intro w9 hS9; have q0 := hS9.c0; have q1 := hS9.c1; have q2 := hS9.c2; go_simp; (first | done | with_reducible rfl)
    dsimp only [List.set_cons_zero, List.set_cons_succ]
    refine stepE HOPS (by kernel_rfl) (HQ.out _ _ ?_)
    clear HQ HREG HOPS
    clear Q ops
    have k2 := HR8.out.c2
    go_wp2
    go_ret
    exact ⟨none, 0, 0, [], q, z, rfl, Nat.zero_le _, OwnB.nil, steps_bl HS8.out (fun h => absurd h HZ.out) (fun _ => rfl), HA8.out, HS2.out, gb_trans HG8.out (gb_drew _ _)⟩
  · obtain rfl : z = 0 := by simpa using y1
    have hq0 := HA8.out.1
    have hq1 := HA8.out.2.2 rfl
    obtain ⟨X, rfl⟩ : ∃ X : Nat, x = (X : Int) := ⟨x.toNat, by omega⟩
    obtain ⟨Qn, rfl⟩ : ∃ Qn : Nat, q = (Qn : Int) := ⟨q.toNat, by omega⟩
    have hXM : X ≤ M := by omega
    have hQn : Qn ≤ n := by omega
    clear hx8 hq0 hq1
    have wsub : IntKind.i64.wrap ((n : Int) - (Qn : Int)) = (n : Int) - (Qn : Int) := IntWalk.i64_in _ (by omega)
    rcases y2 : decide ((n : Int) - (Qn : Int) < (X : Int)) with _ | _
    · have hfit : Qn + X ≤ n := by have := of_decide_eq_false y2; omega
      obtain ⟨Z, hZ⟩ : ∃ Z : Nat, (Qn : Int) + (X : Int) = (Z : Int) := ⟨Qn + X, by omega⟩
      have hz1 : Z ≤ c := by omega
      have hz2 : Qn ≤ Z := by omega
      have wadd : IntKind.i64.wrap ((Qn : Int) + (X : Int)) = (Z : Int) := by rw [hZ]; exact IntWalk.i64_in _ (by omega)
      have wsub2 : IntKind.i64.wrap ((Z : Int) - (X : Int)) = (Qn : Int) := by rw [show (Z : Int) - (X : Int) = (Qn : Int) by omega]; exact IntWalk.i64_in _ (by omega)
      have HZZ := Lib.hid hZ
      have HZX := Lib.hid (show Z - Qn = X by omega)
      have hzm : Z - Qn ≤ M := by omega
      clear hZ
      refine region_let (fun W9 : World => Rdr 79 W9 g (.slice A n c) (Qn : Int) 0) 99 19 hmx rfl fun ops Q HOPS HQ => ?_
      have HREG := reg_of HOPS tb_rbl2 rfl (by kernel_rfl) (by kernel_rfl) (by decide)
      refine stepTQ HOPS HREG 0 1 ?_ (by decide) rfl (by kernel_rfl) (by kernel_rfl) rfl ?_ HS2.out ?_
      rotate_left
      · intro w9 hS9; have q0 := hS9.c0; have q1 := hS9.c1; have q2 := hS9.c2; go_simp; (first | done | with_reducible rfl)
      dsimp only [List.set_cons_zero, List.set_cons_succ]
      refine stepTQ HOPS HREG 1 3 ?_ (by decide) rfl (by kernel_rfl) (by kernel_rfl) rfl ?_ HS2.out ?_
      rotate_left
      · intro w9 hS9; have q0 := hS9.c0; have q1 := hS9.c1; have q2 := hS9.c2; go_simp; (first | done | with_reducible rfl)
      dsimp only [List.set_cons_zero, List.set_cons_succ]
      refine stepTQ HOPS HREG 2 7 ?_ (by decide) rfl (by kernel_rfl) (by kernel_rfl) rfl ?_ HS2.out ?_
      rotate_left
      · intro w9 hS9; have q0 := hS9.c0; have q1 := hS9.c1; have q2 := hS9.c2; go_simp; (first | done | with_reducible rfl)
      dsimp only [List.set_cons_zero, List.set_cons_succ]
      refine stepTQ HOPS HREG 3 15 ?_ (by decide) rfl (by kernel_rfl) (by kernel_rfl) rfl ?_ HS2.out ?_
      rotate_left
      · intro w9 hS9; have q0 := hS9.c0; have q1 := hS9.c1; have q2 := hS9.c2; go_simp; (first | done | with_reducible rfl)
      dsimp only [List.set_cons_zero, List.set_cons_succ]
      refine stepTQ HOPS HREG 4 31 ?_ (by decide) rfl (by kernel_rfl) (by kernel_rfl) rfl ?_ HS2.out ?_
      rotate_left
      · intro w9 hS9; have q0 := hS9.c0; have q1 := hS9.c1; have q2 := hS9.c2; go_simp; (first | done | with_reducible rfl)
      dsimp only [List.set_cons_zero, List.set_cons_succ]
      refine stepTQ HOPS HREG 5 63 ?_ (by decide) rfl (by kernel_rfl) (by kernel_rfl) rfl ?_ HS2.out ?_
      rotate_left
      · intro w9 hS9; have q0 := hS9.c0; have q1 := hS9.c1; have q2 := hS9.c2; go_simp; (first | done | with_reducible rfl)
      dsimp only [List.set_cons_zero, List.set_cons_succ]
      refine stepTQ HOPS HREG 6 127 ?_ (by decide) rfl (by kernel_rfl) (by kernel_rfl) rfl ?_ HS2.out ?_
      rotate_left
      · intro w9 hS9; have q0 := hS9.c0; have q1 := hS9.c1; have q2 := hS9.c2; go_simp; (first | done | with_reducible rfl)
      dsimp only [List.set_cons_zero, List.set_cons_succ]
      refine stepTQ HOPS HREG 7 255 ?_ (by decide) rfl (by kernel_rfl) (by kernel_rfl) rfl ?_ HS2.out ?_
      rotate_left
      · intro w9 hS9; have q0 := hS9.c0; have q1 := hS9.c1; have q2 := hS9.c2; go_simp; (first | done | with_reducible rfl)
      dsimp only [List.set_cons_zero, List.set_cons_succ]
      refine stepTQ HOPS HREG 8 511 ?_ (by decide) rfl (by kernel_rfl) (by kernel_rfl) rfl ?_ HS2.out ?_
      rotate_left
      · intro w9 hS9; have q0 := hS9.c0; have q1 := hS9.c1; have q2 := hS9.c2; go_simp; (first | done | with_reducible rfl)
      dsimp only [List.set_cons_zero, List.set_cons_succ]
      refine stepTQ HOPS HREG 9 1023 ?_ (by decide) rfl (by kernel_rfl) (by kernel_rfl) rfl ?_ HS2.out ?_
      rotate_left
      · intro w9 hS9; have q0 := hS9.c0; have q1 := hS9.c1; have q2 := hS9.c2; go_simp; (first | done | with_reducible rfl)
      dsimp only [List.set_cons_zero, List.set_cons_succ]
      refine stepTQ HOPS HREG 10 2047 ?_ (by decide) rfl (by kernel_rfl) (by kernel_rfl) rfl ?_ HS2.out ?_
      rotate_left
      · intro w9 hS9; have q0 := hS9.c0; have q1 := hS9.c1; have q2 := hS9.c2; go_simp; (first | done | with_reducible rfl)
      dsimp only [List.set_cons_zero, List.set_cons_succ]
      refine stepTQ HOPS HREG 11 4095 ?_ (by decide) rfl (by kernel_rfl) (by kernel_rfl) rfl ?_ HS2.out ?_
      rotate_left
      · intro w9 hS9; have q0 := hS9.c0; have q1 := hS9.c1; have q2 := hS9.c2; go_simp; (first | done | with_reducible rfl)
      dsimp only [List.set_cons_zero, List.set_cons_succ]
      refine stepTQ HOPS HREG 12 8191 ?_ (by decide) rfl (by kernel_rfl) (by kernel_rfl) rfl ?_ HS2.out ?_
      rotate_left
      · intro w9 hS9; have q0 := hS9.c0; have q1 := hS9.c1; have q2 := hS9.c2; go_simp; (first | done | with_reducible rfl)
      dsimp only [List.set_cons_zero, List.set_cons_succ]
      refine stepTQ HOPS HREG 13 16383 ?_ (by decide) rfl (by kernel_rfl) (by kernel_rfl) rfl ?_ HS2.out ?_
      rotate_left
      · intro w9 hS9; have q0 := hS9.c0; have q1 := hS9.c1; have q2 := hS9.c2; go_simp; (first | done | with_reducible rfl)
      dsimp only [List.set_cons_zero, List.set_cons_succ]
      refine stepTQ HOPS HREG 14 32767 ?_ (by decide) rfl (by kernel_rfl) (by kernel_rfl) rfl ?_ HS2.out ?_
      rotate_left
      · intro w9 hS9; have q0 := hS9.c0; have q1 := hS9.c1; have q2 := hS9.c2; go_simp; (first | done | with_reducible rfl)
      dsimp only [List.set_cons_zero, List.set_cons_succ]
      refine stepTQ HOPS HREG 15 65535 ?_ (by decide) rfl (by kernel_rfl) (by kernel_rfl) rfl ?_ HS2.out ?_
      rotate_left
      · intro w9 hS9; have q0 := hS9.c0; have q1 := hS9.c1; have q2 := hS9.c2; go_simp; (first | done | with_reducible rfl)
      dsimp only [List.set_cons_zero, List.set_cons_succ]
      refine stepTQ HOPS HREG 16 131071 ?_ (by decide) rfl (by kernel_rfl) (by kernel_rfl) rfl ?_ HS2.out ?_
      rotate_left
      · intro w9 hS9; have q0 := hS9.c0; have q1 := hS9.c1; have q2 := hS9.c2; go_simp; (first | done | with_reducible rfl)
      dsimp only [List.set_cons_zero, List.set_cons_succ]
      refine stepTQ HOPS HREG 17 262143 ?_ (by decide) rfl (by kernel_rfl) (by kernel_rfl) rfl ?_ HS2.out ?_
      rotate_left
      · intro w9 hS9; have q0 := hS9.c0; have q1 := hS9.c1; have q2 := hS9.c2; go_simp; (first | done | with_reducible rfl)
      dsimp only [List.set_cons_zero, List.set_cons_succ]
      refine stepTQ HOPS HREG 18 524287 ?_ (by decide) rfl (by kernel_rfl) (by kernel_rfl) rfl ?_ HS2.out ?_
      rotate_left
      · intro w9 hS9; have q0 := hS9.c0; have q1 := hS9.c1; have q2 := hS9.c2; go_simp; (first | done | with_reducible rfl)
      dsimp only [List.set_cons_zero, List.set_cons_succ]
      refine stepE HOPS (by kernel_rfl) (HQ.out _ _ ?_)
      clear HQ HREG HOPS
      clear Q ops
      have k1 := HR8.out.c1
      have k2 := HR8.out.c2
      have kf := HR8.out.f 1
      go_upto_region 7 with fail
      have HW := Lib.hid (show Rdr 79 (w8.setCell ⟨g, 1, none⟩ (.int .i64 (Z : Int))).drew g (.slice A n c) (Z : Int) 0 from (HR8.out.set1 _).drew)
      have HGW := Lib.hid (show w.grownBy (w8.setCell ⟨g, 1, none⟩ (.int .i64 (Z : Int))).drew (some g) from gb_trans HG8.out (gb_trans (gb_set _ _ _ _) (gb_drew _ _)))
      generalize (w8.setCell ⟨g, 1, none⟩ (.int .i64 (Z : Int))).drew = wd at HW HGW ⊢
      clear k1 k2 kf HS2
      have hgd := HW.out.lt
      have hsd := HGW.out.size
      have HS7 := Lib.hid HW.out.drew
      have HS7a := Lib.hid (show Rdr 79 (wd.alloc (.cells #[] 5)).drew g (.slice A n c) (Z : Int) 0 from HW.out.below (bel_drew (bel_alloc (Below.refl _ _) _)) hgd)
      have HOA := Lib.hid (show OwnB (wd.alloc (.cells #[] 5)).drew 5 wd.heap.size (.slice (some ⟨wd.heap.size, 0, none⟩) 0 0) 0 [] from Crc.own_lit wd 5 [] 0 rfl (by omega))
      have HXA := Lib.hid (show Rd (wd.alloc (.cells #[] 5)).drew B A n l from (gb_rd HR.out hB (by omega) HGW.out).alloc (by omega) _)
      refine region_let (fun W9 : World => Rdr 79 W9 g (.slice A n c) (Z : Int) 0) 99 18 hmx rfl fun ops Q HOPS HQ => ?_
      have HREG := reg_of HOPS tb_rbl7 rfl (by kernel_rfl) (by kernel_rfl) (by decide)
      refine stepTQ HOPS HREG 1 2 ?_ (by decide) rfl (by kernel_rfl) (by kernel_rfl) rfl ?_ HS7.out ?_
      rotate_left
      · intro w9 hS9; have q0 := hS9.c0; have q1 := hS9.c1; have q2 := hS9.c2; go_simp; (first | done | with_reducible rfl)
      dsimp only [List.set_cons_zero, List.set_cons_succ]
      refine stepTQ HOPS HREG 2 6 ?_ (by decide) rfl (by kernel_rfl) (by kernel_rfl) rfl ?_ HS7.out ?_
      rotate_left
      · intro w9 hS9; have q0 := hS9.c0; have q1 := hS9.c1; have q2 := hS9.c2; go_simp; (first | done | with_reducible rfl)
      dsimp only [List.set_cons_zero, List.set_cons_succ]
      refine stepTQ HOPS HREG 3 14 ?_ (by decide) rfl (by kernel_rfl) (by kernel_rfl) rfl ?_ HS7.out ?_
      rotate_left
      · intro w9 hS9; have q0 := hS9.c0; have q1 := hS9.c1; have q2 := hS9.c2; go_simp; (first | done | with_reducible rfl)
      dsimp only [List.set_cons_zero, List.set_cons_succ]
      refine stepTQ HOPS HREG 4 30 ?_ (by decide) rfl (by kernel_rfl) (by kernel_rfl) rfl ?_ HS7.out ?_
      rotate_left
      · intro w9 hS9; have q0 := hS9.c0; have q1 := hS9.c1; have q2 := hS9.c2; go_simp; (first | done | with_reducible rfl)
      dsimp only [List.set_cons_zero, List.set_cons_succ]
      refine stepTQ HOPS HREG 5 62 ?_ (by decide) rfl (by kernel_rfl) (by kernel_rfl) rfl ?_ HS7.out ?_
      rotate_left
      · intro w9 hS9; have q0 := hS9.c0; have q1 := hS9.c1; have q2 := hS9.c2; go_simp; (first | done | with_reducible rfl)
      dsimp only [List.set_cons_zero, List.set_cons_succ]
      refine stepTQ HOPS HREG 6 126 ?_ (by decide) rfl (by kernel_rfl) (by kernel_rfl) rfl ?_ HS7.out ?_
      rotate_left
      · intro w9 hS9; have q0 := hS9.c0; have q1 := hS9.c1; have q2 := hS9.c2; go_simp; (first | done | with_reducible rfl)
      dsimp only [List.set_cons_zero, List.set_cons_succ]
      refine stepTQ HOPS HREG 7 254 ?_ (by decide) rfl (by kernel_rfl) (by kernel_rfl) rfl ?_ HS7.out ?_
      rotate_left
      · intro w9 hS9; have q0 := hS9.c0; have q1 := hS9.c1; have q2 := hS9.c2; go_simp; (first | done | with_reducible rfl)
      dsimp only [List.set_cons_zero, List.set_cons_succ]
      refine stepTQ HOPS HREG 8 510 ?_ (by decide) rfl (by kernel_rfl) (by kernel_rfl) rfl ?_ HS7.out ?_
      rotate_left
      · intro w9 hS9; have q0 := hS9.c0; have q1 := hS9.c1; have q2 := hS9.c2; go_simp; (first | done | with_reducible rfl)
      dsimp only [List.set_cons_zero, List.set_cons_succ]
      refine stepTQ HOPS HREG 9 1022 ?_ (by decide) rfl (by kernel_rfl) (by kernel_rfl) rfl ?_ HS7.out ?_
      rotate_left
      · intro w9 hS9; have q0 := hS9.c0; have q1 := hS9.c1; have q2 := hS9.c2; go_simp; (first | done | with_reducible rfl)
      dsimp only [List.set_cons_zero, List.set_cons_succ]
      refine stepTQ HOPS HREG 10 2046 ?_ (by decide) rfl (by kernel_rfl) (by kernel_rfl) rfl ?_ HS7.out ?_
      rotate_left
      · intro w9 hS9; have q0 := hS9.c0; have q1 := hS9.c1; have q2 := hS9.c2; go_simp; (first | done | with_reducible rfl)
      dsimp only [List.set_cons_zero, List.set_cons_succ]
      refine stepTQ HOPS HREG 11 4094 ?_ (by decide) rfl (by kernel_rfl) (by kernel_rfl) rfl ?_ HS7.out ?_
      rotate_left
      · intro w9 hS9; have q0 := hS9.c0; have q1 := hS9.c1; have q2 := hS9.c2; go_simp; (first | done | with_reducible rfl)
      dsimp only [List.set_cons_zero, List.set_cons_succ]
      refine stepTQ HOPS HREG 12 8190 ?_ (by decide) rfl (by kernel_rfl) (by kernel_rfl) rfl ?_ HS7.out ?_
      rotate_left
      · intro w9 hS9; have q0 := hS9.c0; have q1 := hS9.c1; have q2 := hS9.c2; go_simp; (first | done | with_reducible rfl)
      dsimp only [List.set_cons_zero, List.set_cons_succ]
      refine stepTQ HOPS HREG 13 16382 ?_ (by decide) rfl (by kernel_rfl) (by kernel_rfl) rfl ?_ HS7.out ?_
      rotate_left
      · intro w9 hS9; have q0 := hS9.c0; have q1 := hS9.c1; have q2 := hS9.c2; go_simp; (first | done | with_reducible rfl)
      dsimp only [List.set_cons_zero, List.set_cons_succ]
      refine stepTQ HOPS HREG 14 32766 ?_ (by decide) rfl (by kernel_rfl) (by kernel_rfl) rfl ?_ HS7.out ?_
      rotate_left
      · intro w9 hS9; have q0 := hS9.c0; have q1 := hS9.c1; have q2 := hS9.c2; go_simp; (first | done | with_reducible rfl)
      dsimp only [List.set_cons_zero, List.set_cons_succ]
      refine stepTQ HOPS HREG 15 65534 ?_ (by decide) rfl (by kernel_rfl) (by kernel_rfl) rfl ?_ HS7.out ?_
      rotate_left
      · intro w9 hS9; have q0 := hS9.c0; have q1 := hS9.c1; have q2 := hS9.c2; go_simp; (first | done | with_reducible rfl)
      dsimp only [List.set_cons_zero, List.set_cons_succ]
      refine stepC HOPS 0 65535 (by decide) rfl (by kernel_rfl) (by kernel_rfl) ?_
      go_simp
      refine ⟨HS7a.out, ?_⟩
      try simp only [Act.put, List.setIfInBounds_toArray, List.set_cons_zero, List.set_cons_succ]
      obtain ⟨SA, hSA⟩ : ∃ SA, (if c = Qn then A else Option.map (fun x => x.add Qn) A) = SA := ⟨_, rfl⟩
      rw [hSA]
      obtain ⟨A', c', w', hrun, hown, hbw⟩ := run_appB (P := Tryd.prog) (w := (wd.alloc (.cells #[] 5)).drew) wd.heap.size 24 24 5 Tryd.underlying24 u8row _ 0 [] HOA.out B SA (Z - Qn) (c - Qn) ((l.drop Qn).take X) (HXA.out.cut' (i := Qn) (m := X) (by omega) HZX.out (by intro h0; rw [← hSA]; exact if_neg (by omega))) (by omega) (by simp)
      rw [Nat.zero_add, List.nil_append] at hown
      rw [Nat.zero_add] at hrun
      have HS7b := Lib.hid (HS7a.out.below hbw hgd)
      have HOW := Lib.hid hown
      have HBW := Lib.hid (show Below wd.heap.size wd w' from (bel_drew (bel_alloc (Below.refl _ _) _)).trans hbw)
      clear hown hbw hSA
      refine stepC HOPS 16 131071 (by decide) rfl (by kernel_rfl) (by kernel_rfl) ?_
      refine wp_append (.tmp 45) (.tmp 60) 24 rfl rfl rfl hrun ?_
      refine ⟨fun _ => HS7b.out, ?_⟩
      try simp only [Act.put, List.setIfInBounds_toArray]
      refine stepTQ HOPS HREG 17 262143 ?_ (by decide) rfl (by kernel_rfl) (by kernel_rfl) rfl ?_ HS7b.out ?_
      rotate_left
      · intro w9 hS9; have q0 := hS9.c0; have q1 := hS9.c1; have q2 := hS9.c2; go_simp; (first | done | with_reducible rfl)
      dsimp only [List.set_cons_zero, List.set_cons_succ]
      refine stepE HOPS (by kernel_rfl) (HQ.out _ _ ?_)
      clear HQ HREG HOPS
      clear Q ops
      go_wp2
      go_ret
      exact ⟨A', Z - Qn, c', (l.drop Qn).take X, (Z : Int), 0, rfl, hzm, HOW.out.more hsd, steps_bl HS8.out (fun _ => by have h := steps_raw (l := l) (p := (Qn : Int)) (n := X) (by rw [HR.out.len]; omega); rw [Int.toNat_natCast, HZZ.out] at h; rw [Int.toNat_natCast]; exact h) (fun h => absurd rfl h), ⟨by omega, by have := HZZ.out; omega, fun _ => by have := HZZ.out; omega⟩, HS7b.out, gb_below HGW.out (HBW.out.mono hsd)⟩
    · have hno : ¬ (Qn : Int) + (X : Int) ≤ (n : Int) := by have := of_decide_eq_true y2; omega
      refine region_let (fun W9 : World => Rdr 79 W9 g (.slice A n c) (Qn : Int) 0) 99 19 hmx rfl fun ops Q HOPS HQ => ?_
      have HREG := reg_of HOPS tb_rbl2 rfl (by kernel_rfl) (by kernel_rfl) (by decide)
      refine stepTQ HOPS HREG 0 1 ?_ (by decide) rfl (by kernel_rfl) (by kernel_rfl) rfl ?_ HS2.out ?_
      rotate_left
      · intro w9 hS9; have q0 := hS9.c0; have q1 := hS9.c1; have q2 := hS9.c2; go_simp; (first | done | with_reducible rfl)
      dsimp only [List.set_cons_zero, List.set_cons_succ]
      refine stepTQ HOPS HREG 1 3 ?_ (by decide) rfl (by kernel_rfl) (by kernel_rfl) rfl ?_ HS2.out ?_
      rotate_left
      · intro w9 hS9; have q0 := hS9.c0; have q1 := hS9.c1; have q2 := hS9.c2; go_simp; (first | done | with_reducible rfl)
      dsimp only [List.set_cons_zero, List.set_cons_succ]
      refine stepTQ HOPS HREG 2 7 ?_ (by decide) rfl (by kernel_rfl) (by kernel_rfl) rfl ?_ HS2.out ?_
      rotate_left
      · intro w9 hS9; have q0 := hS9.c0; have q1 := hS9.c1; have q2 := hS9.c2; go_simp; (first | done | with_reducible rfl)
      dsimp only [List.set_cons_zero, List.set_cons_succ]
      refine stepTQ HOPS HREG 3 15 ?_ (by decide) rfl (by kernel_rfl) (by kernel_rfl) rfl ?_ HS2.out ?_
      rotate_left
      · intro w9 hS9; have q0 := hS9.c0; have q1 := hS9.c1; have q2 := hS9.c2; go_simp; (first | done | with_reducible rfl)
      dsimp only [List.set_cons_zero, List.set_cons_succ]
      refine stepTQ HOPS HREG 4 31 ?_ (by decide) rfl (by kernel_rfl) (by kernel_rfl) rfl ?_ HS2.out ?_
      rotate_left
      · intro w9 hS9; have q0 := hS9.c0; have q1 := hS9.c1; have q2 := hS9.c2; go_simp; (first | done | with_reducible rfl)
      dsimp only [List.set_cons_zero, List.set_cons_succ]
      refine stepTQ HOPS HREG 5 63 ?_ (by decide) rfl (by kernel_rfl) (by kernel_rfl) rfl ?_ HS2.out ?_
      rotate_left
      · intro w9 hS9; have q0 := hS9.c0; have q1 := hS9.c1; have q2 := hS9.c2; go_simp; (first | done | with_reducible rfl)
      dsimp only [List.set_cons_zero, List.set_cons_succ]
      refine stepTQ HOPS HREG 6 127 ?_ (by decide) rfl (by kernel_rfl) (by kernel_rfl) rfl ?_ HS2.out ?_
      rotate_left
      · intro w9 hS9; have q0 := hS9.c0; have q1 := hS9.c1; have q2 := hS9.c2; go_simp; (first | done | with_reducible rfl)
      dsimp only [List.set_cons_zero, List.set_cons_succ]
      refine stepTQ HOPS HREG 7 255 ?_ (by decide) rfl (by kernel_rfl) (by kernel_rfl) rfl ?_ HS2.out ?_
      rotate_left
      · intro w9 hS9; have q0 := hS9.c0; have q1 := hS9.c1; have q2 := hS9.c2; go_simp; (first | done | with_reducible rfl)
      dsimp only [List.set_cons_zero, List.set_cons_succ]
      refine stepTQ HOPS HREG 8 511 ?_ (by decide) rfl (by kernel_rfl) (by kernel_rfl) rfl ?_ HS2.out ?_
      rotate_left
      · intro w9 hS9; have q0 := hS9.c0; have q1 := hS9.c1; have q2 := hS9.c2; go_simp; (first | done | with_reducible rfl)
      dsimp only [List.set_cons_zero, List.set_cons_succ]
      refine stepTQ HOPS HREG 9 1023 ?_ (by decide) rfl (by kernel_rfl) (by kernel_rfl) rfl ?_ HS2.out ?_
      rotate_left
      · intro w9 hS9; have q0 := hS9.c0; have q1 := hS9.c1; have q2 := hS9.c2; go_simp; (first | done | with_reducible rfl)
      dsimp only [List.set_cons_zero, List.set_cons_succ]
      refine stepTQ HOPS HREG 10 2047 ?_ (by decide) rfl (by kernel_rfl) (by kernel_rfl) rfl ?_ HS2.out ?_
      rotate_left
      · intro w9 hS9; have q0 := hS9.c0; have q1 := hS9.c1; have q2 := hS9.c2; go_simp; (first | done | with_reducible rfl)
      dsimp only [List.set_cons_zero, List.set_cons_succ]
      refine stepTQ HOPS HREG 11 4095 ?_ (by decide) rfl (by kernel_rfl) (by kernel_rfl) rfl ?_ HS2.out ?_
      rotate_left
      · intro w9 hS9; have q0 := hS9.c0; have q1 := hS9.c1; have q2 := hS9.c2; go_simp; (first | done | with_reducible rfl)
      dsimp only [List.set_cons_zero, List.set_cons_succ]
      refine stepTQ HOPS HREG 12 8191 ?_ (by decide) rfl (by kernel_rfl) (by kernel_rfl) rfl ?_ HS2.out ?_
      rotate_left
      · intro w9 hS9; have q0 := hS9.c0; have q1 := hS9.c1; have q2 := hS9.c2; go_simp; (first | done | with_reducible rfl)
      dsimp only [List.set_cons_zero, List.set_cons_succ]
      refine stepTQ HOPS HREG 13 16383 ?_ (by decide) rfl (by kernel_rfl) (by kernel_rfl) rfl ?_ HS2.out ?_
      rotate_left
      · intro w9 hS9; have q0 := hS9.c0; have q1 := hS9.c1; have q2 := hS9.c2; go_simp; (first | done | with_reducible rfl)
      dsimp only [List.set_cons_zero, List.set_cons_succ]
      refine stepTQ HOPS HREG 14 32767 ?_ (by decide) rfl (by kernel_rfl) (by kernel_rfl) rfl ?_ HS2.out ?_
      rotate_left
      · intro w9 hS9; have q0 := hS9.c0; have q1 := hS9.c1; have q2 := hS9.c2; go_simp; (first | done | with_reducible rfl)
      dsimp only [List.set_cons_zero, List.set_cons_succ]
      refine stepTQ HOPS HREG 15 65535 ?_ (by decide) rfl (by kernel_rfl) (by kernel_rfl) rfl ?_ HS2.out ?_
      rotate_left
      · intro w9 hS9; have q0 := hS9.c0; have q1 := hS9.c1; have q2 := hS9.c2; go_simp; (first | done | with_reducible rfl)
      dsimp only [List.set_cons_zero, List.set_cons_succ]
      refine stepTQ HOPS HREG 16 131071 ?_ (by decide) rfl (by kernel_rfl) (by kernel_rfl) rfl ?_ HS2.out ?_
      rotate_left
      · intro w9 hS9; have q0 := hS9.c0; have q1 := hS9.c1; have q2 := hS9.c2; go_simp; (first | done | with_reducible rfl)
      dsimp only [List.set_cons_zero, List.set_cons_succ]
      refine stepTQ HOPS HREG 17 262143 ?_ (by decide) rfl (by kernel_rfl) (by kernel_rfl) rfl ?_ HS2.out ?_
      rotate_left
      · intro w9 hS9; have q0 := hS9.c0; have q1 := hS9.c1; have q2 := hS9.c2; go_simp; (first | done | with_reducible rfl)
      dsimp only [List.set_cons_zero, List.set_cons_succ]
      refine stepTQ HOPS HREG 18 524287 ?_ (by decide) rfl (by kernel_rfl) (by kernel_rfl) rfl ?_ HS2.out ?_
      rotate_left
      · intro w9 hS9; have q0 := hS9.c0; have q1 := hS9.c1; have q2 := hS9.c2; go_simp; (first | done | with_reducible rfl)
      dsimp only [List.set_cons_zero, List.set_cons_succ]
      refine stepE HOPS (by kernel_rfl) (HQ.out _ _ ?_)
      clear HQ HREG HOPS
      clear Q ops
      have k2 := HR8.out.c2
      have kf := HR8.out.f 2
      go_wp2
      go_ret
      exact ⟨none, 0, 0, [], (Qn : Int), 10, rfl, Nat.zero_le _, OwnB.nil, steps_bl HS8.out (fun _ => steps_rawX (by rw [Int.toNat_natCast, HR.out.len]; omega)) (fun h => absurd rfl h), ⟨HA8.out.1, HA8.out.2.1, fun h => absurd h (by decide)⟩, (HR8.out.set2 _).drew, gb_trans HG8.out (gb_trans (gb_set _ _ _ _) (gb_drew _ _))⟩
end Go.Proofs.YthhdhdjdhekgpaaDoor.Pro
