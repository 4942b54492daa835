/- Joined: ProRPP. -/
import Derived.Test.YthhdhdjdhekgpaaDoorProRP
import Derived.Test.YthhdhdjdhekgpaaDoorProRCP
/- The document's PutResp. -/
namespace Go.Proofs.YthhdhdjdhekgpaaDoor.Pro
open Go.RowKit Go.Proofs.YthhdhdjdhekgpaaDoor.Oct Go.Proofs.YthhdhdjdhekgpaaDoor.Rec Go.Proofs.YthhdhdjdhekgpaaDoor.Cod Go.Proofs.YthhdhdjdhekgpaaDoor.Lay Go.Proofs.YthhdhdjdhekgpaaDoor.RowF Go.Proofs.YthhdhdjdhekgpaaDoor.InR

/-- an answer's box that is kept -/
def CP (w : World) (k v i E t : Int) (a b c : Value) (W : World) : Prop := BoxP W w.heap.size k v i E t a b c ∧ Below w.heap.size w W ∧ w.heap.size < W.heap.size
theorem CP.step {w W W' : World} {k v i E t : Int} {a b c : Value} (h : CP w k v i E t a b c W) (hb : Below W.heap.size W W') : CP w k v i E t a b c W' :=
  ⟨BoxP_below h.1 hb h.2.2, bel_trans h.2.1 hb, Nat.lt_of_lt_of_le h.2.2 hb.size⟩
theorem CP.drew {w W : World} {k v i E t : Int} {a b c : Value} (h : CP w k v i E t a b c W) : CP w k v i E t a b c W.drew := ⟨h.1, h.2.1.drew, h.2.2⟩
theorem CP.bel {w W : World} {k v i E t : Int} {a b c : Value} (h : CP w k v i E t a b c W) : Below w.heap.size w W := h.2.1
theorem CP.lt {w W : World} {k v i E t : Int} {a b c : Value} (h : CP w k v i E t a b c W) : w.heap.size + 1 ≤ W.heap.size := h.2.2
def PSP (w : World) (k v i E t : Int) (a b c : Value) (l : List UInt8) (mx : Nat) (vb : Value) (W : World) : Prop :=
  CP w k v i E t a b c W ∧ ∃ A n c', vb = .slice A n c' ∧ OwnB W 5 (w.heap.size + 1) (.slice A n c') n l ∧ n ≤ mx
def tb_rpp9 : List (Nat × Nat) := [(0, 511), (0, 511), (2, 509), (4, 507), (9, 502), (0, 511), (32, 479), (80, 431), (255, 382)]
def tb_rpp10 : List (Nat × Nat) := [(0, 511), (0, 511), (2, 509), (4, 507), (9, 502), (0, 511), (32, 479), (80, 431), (255, 382)]
set_option maxRecDepth 100000 in
set_option maxHeartbeats 1000000 in
theorem refPutResp_no (k v i E t : Int) (A1 : Option Addr) (n1 c1 : Nat) (l1 : List Int) (A2 : Option Addr) (n2 c2 : Nat) (l2 : List ByteArray) (A3 : Option Addr) (n3 c3 : Nat) (l3 : List UInt8) (w : World) (hI : RdL w w.heap.size A1 n1 l1) (hn1 : n1 ≤ 140737488351232) (hT : RdL w w.heap.size A2 n2 l2) (hn2 : n2 ≤ 140737488351232) (hR : Rd w w.heap.size A3 n3 l3) (hn3 : n3 ≤ 140737488351232) {z : Int} (hck : ckP ⟨k, v, i, E, t, l1, l2, l3⟩ = z) (hz : z ≠ 0) :
    Calls Tryd.prog 23 #[.agg #[.int .i64 k, .int .i64 v, .int .i64 i, .int .i64 E, .int .i64 t, .slice A1 n1 c1, .slice A2 n2 c2, .slice A3 n3 c3]] w (PQR w ([], z)) := by
  have HI := Lib.hid hI
  have HT := Lib.hid hT
  have HR := Lib.hid hR
  have HL3 := Lib.hid hR.len
  have HCK := Lib.hid hck
  have HW1 := Lib.hid (bel_alloc (Below.refl w.heap.size w) (.cells #[.int .i64 k, .int .i64 v, .int .i64 i, .int .i64 E, .int .i64 t, .slice A1 n1 c1, .slice A2 n2 c2, .slice A3 n3 c3] 38))
  clear hI hT hR hck
  have hzN : (z != 0) = true := by simp [hz]
  clear hz
  go_enter Tryd.func23, Tryd.ntmps23
  go_wp2_with (go_at_call 71; (with_reducible refine (refcheckResp_any k v i E t A1 n1 c1 l1 A2 n2 c2 l2 A3 n3 c3 l3 _ (HI.out.below HW1.out (Nat.le_refl _) |>.more HW1.out.size) hn1 (HT.out.below HW1.out (Nat.le_refl _) |>.more HW1.out.size) hn2 hn3 HL3.out).mono ?_); rw [HCK.out]; rintro e w9 ⟨rfl, hb9⟩; have HW9 := Lib.hid (HW1.out.trans (hb9.mono HW1.out.size)); clear hb9)
  go_ret2
  exact ⟨none, 0, 0, rfl, Rd.nil, Nat.le_refl _, HW9.out⟩
set_option maxRecDepth 100000 in
set_option maxHeartbeats 16000000 in
theorem refPutResp_yes (k v i E t : Int) (A1 : Option Addr) (n1 c1 : Nat) (l1 : List Int) (A2 : Option Addr) (n2 c2 : Nat) (l2 : List ByteArray) (A3 : Option Addr) (n3 c3 : Nat) (l3 : List UInt8) (w : World) (hI : RdL w w.heap.size A1 n1 l1) (hn1 : n1 ≤ 140737488351232) (hT : RdL w w.heap.size A2 n2 l2) (hn2 : n2 ≤ 140737488351232) (hR : Rd w w.heap.size A3 n3 l3) (hn3 : n3 ≤ 140737488351232) (hck : ckP ⟨k, v, i, E, t, l1, l2, l3⟩ = 0) :
    Calls Tryd.prog 23 #[.agg #[.int .i64 k, .int .i64 v, .int .i64 i, .int .i64 E, .int .i64 t, .slice A1 n1 c1, .slice A2 n2 c2, .slice A3 n3 c3]] w (PQR w (respC.put ⟨k, v, i, E, t, l1, l2, l3⟩, 0)) := by
  have hok := ckP_iff.1 hck
  obtain ⟨⟨hkk, hvv⟩, ⟨hi0, hi1⟩, ⟨ht0, ht1⟩, hvt, ⟨he0, he1⟩, hl1, hints, hl2, htx, hl3⟩ := (⟨known_iff.1 hok.1, hok.2⟩ : ((1 ≤ k ∧ k ≤ 12) ∧ 0 ≤ v ∧ v ≤ 2) ∧ OkP ⟨k, v, i, E, t, l1, l2, l3⟩)
  clear hok
  simp only at hi0 hi1 ht0 ht1 hvt he0 he1 hl1 hints hl2 htx hl3
  rw [hI.len] at hl1
  rw [hT.len] at hl2
  rw [hR.len] at hl3
  obtain ⟨K, rfl⟩ : ∃ K : Nat, k = (K : Int) := ⟨k.toNat, by omega⟩
  obtain ⟨V, rfl⟩ : ∃ V : Nat, v = (V : Int) := ⟨v.toNat, by omega⟩
  have H64 := Lib.hid htx
  have h50 := many_ten l1 (fun x hx => by have := hints x hx; omega)
  have h74 := many_74 l2 htx
  have HLI := Lib.hid hI.len
  have HLT := Lib.hid hT.len
  rw [hI.len] at h50
  rw [hT.len] at h74
  have H640 := Lib.hid (Nat.le_trans h50 (Nat.mul_le_mul_left 10 hl1))
  have H74 := Lib.hid (Nat.le_trans h74 (Nat.mul_le_mul_left 74 hl2))
  have wk : (K : Int) % 256 = (K : Int) := by omega
  have wv : (V : Int) % 256 = (V : Int) := by omega
  have BK := Lib.hid (show bv (UInt8.ofNat K) = .int .u8 (K : Int) by unfold bv; rw [ofNat_toNat' (by omega)])
  have BV := Lib.hid (show bv (UInt8.ofNat V) = .int .u8 (V : Int) by unfold bv; rw [ofNat_toNat' (by omega)])
  have hI8 := u8row
  have hmx : Tryd.prog.follows .mixedOrders = true := by kernel_rfl
  have HI := Lib.hid hI
  have HT := Lib.hid hT
  have HR := Lib.hid hR
  have HL3 := Lib.hid hR.len
  have HCK := Lib.hid hck
  have HW1 := Lib.hid (bel_alloc (Below.refl w.heap.size w) (.cells #[.int .i64 (K : Int), .int .i64 (V : Int), .int .i64 i, .int .i64 E, .int .i64 t, .slice A1 n1 c1, .slice A2 n2 c2, .slice A3 n3 c3] 38))
  clear hI hT hR hck
  clear hvt htx hints hkk h50 h74
  have HEQ := Lib.hid (show respC.put ⟨(K : Int), (V : Int), i, E, t, l1, l2, l3⟩ = (((((((([UInt8.ofNat K, UInt8.ofNat V] ++ vb (zz i)) ++ vb (zz E)) ++ (waitC (V : Int)).put t) ++ vb (zz (n1 : Int))) ++ putMany cvar l1) ++ vb (zz (n2 : Int))) ++ putMany txt64 l2) ++ vb (zz (n3 : Int))) ++ l3 from by have h := putr_eq ⟨(K : Int), (V : Int), i, E, t, l1, l2, l3⟩; simp only [HLI.out, HLT.out, HL3.out] at h; exact h)
  rw [HEQ.out]
  go_enter Tryd.func23, Tryd.ntmps23
  go_upto_if 28 with (first
    | (go_at_call 40; (with_reducible refine (refPutVar_any A7 n7 c7 E _ _ w7 HO7.out.rd (by omega) (by omega) (by omega)).mono ?_); rintro e w8 ⟨A8, n8, c8, rfl, hown8, hb8⟩; have HQ8 := Lib.hid (HQ7.out.step hb8); have HO8 := Lib.hid (hown8.more (B' := w.heap.size + 1) HQ7.out.lt); have hn8 : n8 ≤ 22 := (by have h := hown8.len; have h2 := vb_ten (zz_lt (n := E) (by omega)); have h3 := HO7.out.len; simp only [List.length_append, List.length_cons, List.length_nil] at h h3; omega); clear hown8 hb8; (try clear q0 q1 q2 q3 q4 q5 q6 q7); obtain ⟨q0, q1, q2, q3, q4, q5, q6, q7⟩ := HQ8.out.1)
    | (go_at_call 40; (with_reducible refine (refPutVar_any (some ⟨w9.heap.size, 0, none⟩) 2 2 i _ _ _ HO9.out.rd (by omega) (by omega) (by omega)).mono ?_); rintro e w7 ⟨A7, n7, c7, rfl, hown7, hb7⟩; have HQ7 := Lib.hid (HQ9.out.step ((bel_alloc (Below.refl _ _) _).trans (hb7.mono (by simp)))); have HO7 := Lib.hid (hown7.more (B' := w.heap.size + 1) (by have := HQ9.out.lt; simp; omega)); have hn7 : n7 ≤ 12 := (by have h := hown7.len; have h2 := vb_ten (zz_lt (n := i) (by omega));  simp only [List.length_append, List.length_cons, List.length_nil] at h; omega); clear hown7 hb7; (try clear q0 q1 q2 q3 q4 q5 q6 q7); obtain ⟨q0, q1, q2, q3, q4, q5, q6, q7⟩ := HQ7.out.1)
    | (go_at_call 71; (with_reducible refine (refcheckResp_any (K : Int) (V : Int) i E t A1 n1 c1 l1 A2 n2 c2 l2 A3 n3 c3 l3 _ (HI.out.below HW1.out (Nat.le_refl _) |>.more HW1.out.size) hn1 (HT.out.below HW1.out (Nat.le_refl _) |>.more HW1.out.size) hn2 hn3 HL3.out).mono ?_); rw [HCK.out]; rintro e w9 ⟨rfl, hb9⟩; have HQ9 := Lib.hid (show CP w (K : Int) (V : Int) i E t (.slice A1 n1 c1) (.slice A2 n2 c2) (.slice A3 n3 c3) w9 from CP.step ⟨BoxP_new _ _ _ _ _ _ _ _ _ _, bel_alloc (Below.refl _ _) _, by simp⟩ hb9); have HO9 := Lib.hid (show OwnB (w9.alloc (.cells #[.int .u8 (K : Int), .int .u8 (V : Int)] 5)) 5 w9.heap.size (.slice (some ⟨w9.heap.size, 0, none⟩) 2 2) 2 [UInt8.ofNat K, UInt8.ofNat V] from by have h := Crc.own_lit w9 5 [UInt8.ofNat K, UInt8.ofNat V] 2 rfl (by omega); simp only [List.map_cons, List.map_nil, BK.out, BV.out] at h; exact h); clear hb9; have hlt9 : w.heap.size < w9.heap.size := HQ9.out.lt; (try clear q0 q1 q2 q3 q4 q5 q6 q7); obtain ⟨q0, q1, q2, q3, q4, q5, q6, q7⟩ := HQ9.out.1))
  go_cut [5] (fun s5 wx => PSP w (K : Int) (V : Int) i E t (.slice A1 n1 c1) (.slice A2 n2 c2) (.slice A3 n3 c3) ((([UInt8.ofNat K, UInt8.ofNat V] ++ vb (zz i)) ++ vb (zz E)) ++ (waitC (V : Int)).put t) 32 s5 wx)
  case first =>
    by_cases hv2 : 1 ≤ (V : Int)
    · have HWC := Lib.hid (wait_put1 hv2 t)
      go_wp2_with (go_at_call 40; (with_reducible refine (refPutVar_any A8 n8 c8 t _ _ w8 HO8.out.rd (by omega) (by omega) (by omega)).mono ?_); rintro e w10 ⟨A10, n10, c10, rfl, hown10, hb10⟩; have HQ10 := Lib.hid (HQ8.out.step hb10); have HO10 := Lib.hid (hown10.more (B' := w.heap.size + 1) HQ8.out.lt); have hn10 : n10 ≤ 32 := (by have h := hown10.len; have h2 := vb_ten (zz_lt (n := t) (by omega)); have h3 := HO8.out.len; simp only [List.length_append, List.length_cons, List.length_nil] at h h3; omega); clear hown10 hb10; (try clear q0 q1 q2 q3 q4 q5 q6 q7); obtain ⟨q0, q1, q2, q3, q4, q5, q6, q7⟩ := HQ10.out.1)
      go_meet
      exact ⟨HQ10.out, A10, n10, c10, rfl, by rw [HWC.out]; exact HO10.out, hn10⟩
    · have HWC := Lib.hid (wait_put0 hv2 t)
      go_wp2
      go_meet
      exact ⟨HQ8.out, A8, n8, c8, rfl, by rw [HWC.out, List.append_nil]; exact HO8.out, by omega⟩
  case rest =>
    obtain ⟨hQ, A6, n6, c6, rfl, hO, hn6⟩ := hcut
    rename World => w6
    have HQ6 := Lib.hid hQ
    have HO6 := Lib.hid hO
    clear hQ hO HQ8 HO8 hn8 q0 q1 q2 q3 q4 q5 q6 q7
    have HS6 := Lib.hid HQ6.out.drew
    go_wp2
    refine region_let (fun W9 : World => CP w (K : Int) (V : Int) i E t (.slice A1 n1 c1) (.slice A2 n2 c2) (.slice A3 n3 c3) W9) 99 9 hmx rfl fun ops Q HOPS HQ => ?_
    have HREG := reg_of HOPS tb_rpp9 rfl (by kernel_rfl) (by kernel_rfl) (by decide)
    refine stepTQ HOPS HREG 0 1 ?_ (by decide) rfl (by kernel_rfl) (by kernel_rfl) rfl ?_ HS6.out ?_
    rotate_left
    · intro w9 hS9; obtain ⟨⟨q0, q1, q2, q3, q4, q5, q6, q7⟩, -, -⟩ := hS9; go_simp; (first | done | with_reducible rfl)
    dsimp only [List.set_cons_zero, List.set_cons_succ]
    refine stepTQ HOPS HREG 1 3 ?_ (by decide) rfl (by kernel_rfl) (by kernel_rfl) rfl ?_ HS6.out ?_
    rotate_left
    · intro w9 hS9; obtain ⟨⟨q0, q1, q2, q3, q4, q5, q6, q7⟩, -, -⟩ := hS9; go_simp; (first | done | with_reducible rfl)
    dsimp only [List.set_cons_zero, List.set_cons_succ]
    refine stepTQ HOPS HREG 2 7 ?_ (by decide) rfl (by kernel_rfl) (by kernel_rfl) rfl ?_ HS6.out ?_
    rotate_left
    · intro w9 hS9; obtain ⟨⟨q0, q1, q2, q3, q4, q5, q6, q7⟩, -, -⟩ := hS9; go_simp; (first | done | with_reducible rfl)
    dsimp only [List.set_cons_zero, List.set_cons_succ]
    refine stepTQ HOPS HREG 3 15 ?_ (by decide) rfl (by kernel_rfl) (by kernel_rfl) rfl ?_ HS6.out ?_
    rotate_left
    · intro w9 hS9; obtain ⟨⟨q0, q1, q2, q3, q4, q5, q6, q7⟩, -, -⟩ := hS9; go_simp; (first | done | with_reducible rfl)
    dsimp only [List.set_cons_zero, List.set_cons_succ]
    refine stepTQ HOPS HREG 5 47 ?_ (by decide) rfl (by kernel_rfl) (by kernel_rfl) rfl ?_ HS6.out ?_
    rotate_left
    · intro w9 hS9; obtain ⟨⟨q0, q1, q2, q3, q4, q5, q6, q7⟩, -, -⟩ := hS9; go_simp; (first | done | with_reducible rfl)
    dsimp only [List.set_cons_zero, List.set_cons_succ]
    refine stepTQ HOPS HREG 6 111 ?_ (by decide) rfl (by kernel_rfl) (by kernel_rfl) rfl ?_ HS6.out ?_
    rotate_left
    · intro w9 hS9; obtain ⟨⟨q0, q1, q2, q3, q4, q5, q6, q7⟩, -, -⟩ := hS9; go_simp; (first | done | with_reducible rfl)
    dsimp only [List.set_cons_zero, List.set_cons_succ]
    refine stepC HOPS 4 127 (by decide) rfl (by kernel_rfl) (by kernel_rfl) ?_
    go_simp
    refine (refPutVar_any A6 n6 c6 (n1 : Int) _ _ _ HO6.out.drew.rd (by omega) (by omega) (by omega)).mono ?_
    rintro e w5 ⟨A5, n5, c5, rfl, hown5, hb5⟩
    dsimp only
    have HQ5 := Lib.hid (HQ6.out.drew.step hb5)
    have HO5 := Lib.hid (hown5.more (B' := w.heap.size + 1) HQ6.out.lt)
    have hn5 : n5 ≤ 42 := by have h := hown5.len; have h2 := vb_ten (zz_lt (n := (n1 : Int)) (by omega)); have h3 := HO6.out.len; rw [List.length_append, h3] at h; omega
    clear hown5 hb5
    refine ⟨HQ5.out, ?_⟩
    try simp only [Act.put, List.setIfInBounds_toArray, List.set_cons_zero, List.set_cons_succ]
    refine stepC HOPS 7 255 (by decide) rfl (by kernel_rfl) (by kernel_rfl) ?_
    go_simp
    refine (refputAll_any (w.heap.size + 1) A5 n5 c5 _ A1 n1 c1 l1 w5 HQ5.out.lt HO5.out ((HI.out.below HQ5.out.bel (Nat.le_refl _)).more (Nat.le_succ _)) (by omega)).mono ?_
    rintro e w4 ⟨A4, n4, c4, rfl, hown4, hb4⟩
    dsimp only
    have HQ4 := Lib.hid (HQ5.out.step hb4)
    have HO4 := Lib.hid hown4
    have hn4 : n4 ≤ 682 := by have h := hown4.len; have h2 := H640.out; have h3 := HO5.out.len; rw [List.length_append, h3] at h; omega
    clear hown4 hb4
    refine ⟨HQ4.out, ?_⟩
    try simp only [Act.put, List.setIfInBounds_toArray, List.set_cons_zero, List.set_cons_succ]
    refine stepTQ HOPS HREG 8 511 ?_ (by decide) rfl (by kernel_rfl) (by kernel_rfl) rfl ?_ HQ4.out ?_
    rotate_left
    · intro w9 hS9; obtain ⟨⟨q0, q1, q2, q3, q4, q5, q6, q7⟩, -, -⟩ := hS9; go_simp; (first | done | with_reducible rfl)
    dsimp only [List.set_cons_zero, List.set_cons_succ]
    refine stepE HOPS (by kernel_rfl) (HQ.out _ _ ?_)
    clear HQ HREG HOPS
    clear Q ops
    go_wp2
    have HS4 := Lib.hid HQ4.out.drew
    refine region_let (fun W9 : World => CP w (K : Int) (V : Int) i E t (.slice A1 n1 c1) (.slice A2 n2 c2) (.slice A3 n3 c3) W9) 99 9 hmx rfl fun ops Q HOPS HQ => ?_
    have HREG := reg_of HOPS tb_rpp10 rfl (by kernel_rfl) (by kernel_rfl) (by decide)
    refine stepTQ HOPS HREG 0 1 ?_ (by decide) rfl (by kernel_rfl) (by kernel_rfl) rfl ?_ HS4.out ?_
    rotate_left
    · intro w9 hS9; obtain ⟨⟨q0, q1, q2, q3, q4, q5, q6, q7⟩, -, -⟩ := hS9; go_simp; (first | done | with_reducible rfl)
    dsimp only [List.set_cons_zero, List.set_cons_succ]
    refine stepTQ HOPS HREG 1 3 ?_ (by decide) rfl (by kernel_rfl) (by kernel_rfl) rfl ?_ HS4.out ?_
    rotate_left
    · intro w9 hS9; obtain ⟨⟨q0, q1, q2, q3, q4, q5, q6, q7⟩, -, -⟩ := hS9; go_simp; (first | done | with_reducible rfl)
    dsimp only [List.set_cons_zero, List.set_cons_succ]
    refine stepTQ HOPS HREG 2 7 ?_ (by decide) rfl (by kernel_rfl) (by kernel_rfl) rfl ?_ HS4.out ?_
    rotate_left
    · intro w9 hS9; obtain ⟨⟨q0, q1, q2, q3, q4, q5, q6, q7⟩, -, -⟩ := hS9; go_simp; (first | done | with_reducible rfl)
    dsimp only [List.set_cons_zero, List.set_cons_succ]
    refine stepTQ HOPS HREG 3 15 ?_ (by decide) rfl (by kernel_rfl) (by kernel_rfl) rfl ?_ HS4.out ?_
    rotate_left
    · intro w9 hS9; obtain ⟨⟨q0, q1, q2, q3, q4, q5, q6, q7⟩, -, -⟩ := hS9; go_simp; (first | done | with_reducible rfl)
    dsimp only [List.set_cons_zero, List.set_cons_succ]
    refine stepTQ HOPS HREG 5 47 ?_ (by decide) rfl (by kernel_rfl) (by kernel_rfl) rfl ?_ HS4.out ?_
    rotate_left
    · intro w9 hS9; obtain ⟨⟨q0, q1, q2, q3, q4, q5, q6, q7⟩, -, -⟩ := hS9; go_simp; (first | done | with_reducible rfl)
    dsimp only [List.set_cons_zero, List.set_cons_succ]
    refine stepTQ HOPS HREG 6 111 ?_ (by decide) rfl (by kernel_rfl) (by kernel_rfl) rfl ?_ HS4.out ?_
    rotate_left
    · intro w9 hS9; obtain ⟨⟨q0, q1, q2, q3, q4, q5, q6, q7⟩, -, -⟩ := hS9; go_simp; (first | done | with_reducible rfl)
    dsimp only [List.set_cons_zero, List.set_cons_succ]
    refine stepC HOPS 4 127 (by decide) rfl (by kernel_rfl) (by kernel_rfl) ?_
    go_simp
    refine (refPutVar_any A4 n4 c4 (n2 : Int) _ _ _ HO4.out.drew.rd (by omega) (by omega) (by omega)).mono ?_
    rintro e w3 ⟨A30, n30, c30, rfl, hown3, hb3⟩
    dsimp only
    have HQ3 := Lib.hid (HQ4.out.drew.step hb3)
    have HO3 := Lib.hid (hown3.more (B' := w.heap.size + 1) HQ4.out.lt)
    have hn30 : n30 ≤ 692 := by have h := hown3.len; have h2 := vb_ten (zz_lt (n := (n2 : Int)) (by omega)); have h3 := HO4.out.len; rw [List.length_append, h3] at h; omega
    clear hown3 hb3
    refine ⟨HQ3.out, ?_⟩
    try simp only [Act.put, List.setIfInBounds_toArray, List.set_cons_zero, List.set_cons_succ]
    refine stepC HOPS 7 255 (by decide) rfl (by kernel_rfl) (by kernel_rfl) ?_
    go_simp
    refine (refputTexts_any (w.heap.size + 1) A30 n30 c30 _ A2 n2 c2 l2 w3 HQ3.out.lt HO3.out ((HT.out.below HQ3.out.bel (Nat.le_refl _)).more (Nat.le_succ _)) H64.out (by omega)).mono ?_
    rintro e w2 ⟨A20, n20, c20, rfl, hown2, hb2⟩
    dsimp only
    have HQ2 := Lib.hid (HQ3.out.step hb2)
    have HO2 := Lib.hid hown2
    have hn20 : n20 ≤ 1876 := by have h := hown2.len; have h2 := H74.out; have h3 := HO3.out.len; rw [List.length_append, h3] at h; omega
    clear hown2 hb2
    refine ⟨HQ2.out, ?_⟩
    try simp only [Act.put, List.setIfInBounds_toArray, List.set_cons_zero, List.set_cons_succ]
    refine stepTQ HOPS HREG 8 511 ?_ (by decide) rfl (by kernel_rfl) (by kernel_rfl) rfl ?_ HQ2.out ?_
    rotate_left
    · intro w9 hS9; obtain ⟨⟨q0, q1, q2, q3, q4, q5, q6, q7⟩, -, -⟩ := hS9; go_simp; (first | done | with_reducible rfl)
    dsimp only [List.set_cons_zero, List.set_cons_succ]
    refine stepE HOPS (by kernel_rfl) (HQ.out _ _ ?_)
    clear HQ HREG HOPS
    clear Q ops
    (try clear q0 q1 q2 q3 q4 q5 q6 q7)
    obtain ⟨q0, q1, q2, q3, q4, q5, q6, q7⟩ := HQ2.out.1
    go_wp2_with (first
      | (at_builtin; refine wpList_appB _ rfl _ _ 24 rfl (w.heap.size + 1) 5 Tryd.underlying24 hI8 _ n11 _ rfl HO11.out w.heap.size A3 n3 c3 l3 rfl (HR.out.below HQ11.out.bel (Nat.le_refl _)) (by omega) HQ11.out.lt ?_; intro A0 c0 w0 hown0 hb0)
      | (go_at_call 40; (with_reducible refine (refPutVar_any A20 n20 c20 (n3 : Int) _ _ w2 HO2.out.rd (by omega) (by omega) (by omega)).mono ?_); rintro e w11 ⟨A11, n11, c11, rfl, hown11, hb11⟩; have HQ11 := Lib.hid (HQ2.out.step hb11); have HO11 := Lib.hid (hown11.more (B' := w.heap.size + 1) HQ2.out.lt); have hn11 : n11 ≤ 1886 := (by have h := hown11.len; have h2 := vb_ten (zz_lt (n := (n3 : Int)) (by omega)); have h3 := HO2.out.len; simp only [List.length_append, List.length_cons, List.length_nil] at h h3; omega); clear hown11 hb11; (try clear q0 q1 q2 q3 q4 q5 q6 q7); obtain ⟨q0, q1, q2, q3, q4, q5, q6, q7⟩ := HQ11.out.1))
    go_ret2
    exact ⟨A0, n11 + n3, c0, rfl, hown0.rd, hown0.cap, HQ11.out.bel.trans (hb0.mono (Nat.le_succ _))⟩
theorem refPutResp_any (k v i E t : Int) (A1 : Option Addr) (n1 c1 : Nat) (l1 : List Int) (A2 : Option Addr) (n2 c2 : Nat) (l2 : List ByteArray) (A3 : Option Addr) (n3 c3 : Nat) (l3 : List UInt8) (w : World) (hI : RdL w w.heap.size A1 n1 l1) (hn1 : n1 ≤ 140737488351232) (hT : RdL w w.heap.size A2 n2 l2) (hn2 : n2 ≤ 140737488351232) (hR : Rd w w.heap.size A3 n3 l3) (hn3 : n3 ≤ 140737488351232) :
    Calls Tryd.prog 23 #[.agg #[.int .i64 k, .int .i64 v, .int .i64 i, .int .i64 E, .int .i64 t, .slice A1 n1 c1, .slice A2 n2 c2, .slice A3 n3 c3]] w (PQR w (ptP ⟨k, v, i, E, t, l1, l2, l3⟩)) := by
  unfold ptP
  by_cases hck : ckP ⟨k, v, i, E, t, l1, l2, l3⟩ = 0
  · rw [if_pos hck]; exact refPutResp_yes k v i E t A1 n1 c1 l1 A2 n2 c2 l2 A3 n3 c3 l3 w hI hn1 hT hn2 hR hn3 hck
  · rw [if_neg hck]; exact refPutResp_no k v i E t A1 n1 c1 l1 A2 n2 c2 l2 A3 n3 c3 l3 w hI hn1 hT hn2 hR hn3 rfl hck
end Go.Proofs.YthhdhdjdhekgpaaDoor.Pro
