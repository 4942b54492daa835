/- Joined: ProP3. -/
import Derived.Test.YthhdhdjdhekgpaaDoorProCP
import Derived.Test.YthhdhdjdhekgpaaDoorProP2
/- The contract of the landed PutResp. -/
namespace Go.Proofs.YthhdhdjdhekgpaaDoor.Pro
open Go.RowKit Go.Proofs.YthhdhdjdhekgpaaDoor.Oct Go.Proofs.YthhdhdjdhekgpaaDoor.Rec Go.Proofs.YthhdhdjdhekgpaaDoor.Cod Go.Proofs.YthhdhdjdhekgpaaDoor.Lay Go.Proofs.YthhdhdjdhekgpaaDoor.RowF Go.Proofs.YthhdhdjdhekgpaaDoor.InR

/-- an answer's cells in block g -/
def BoxP (W : World) (g : Nat) (k v i e t : Int) (a b c : Value) : Prop :=
  W.cell? ⟨g, 0, none⟩ = some (.int .i64 k) ∧ W.cell? ⟨g, 1, none⟩ = some (.int .i64 v) ∧ W.cell? ⟨g, 2, none⟩ = some (.int .i64 i) ∧ W.cell? ⟨g, 3, none⟩ = some (.int .i64 e) ∧ W.cell? ⟨g, 4, none⟩ = some (.int .i64 t) ∧ W.cell? ⟨g, 5, none⟩ = some a ∧ W.cell? ⟨g, 6, none⟩ = some b ∧ W.cell? ⟨g, 7, none⟩ = some c
theorem BoxP_new (w : World) (T : TypeId) (k v i e t : Int) (a b c : Value) : BoxP (w.alloc (.cells #[.int .i64 k, .int .i64 v, .int .i64 i, .int .i64 e, .int .i64 t, a, b, c] T)) w.heap.size k v i e t a b c := by
  refine ⟨?_, ?_, ?_, ?_, ?_, ?_, ?_, ?_⟩ <;> rw [cell_of_row _ _ _ _ T (0, 0) (heap_alloc_new w _)] <;> rfl
theorem BoxP_below {W W' : World} {g : Nat} {k v i e t : Int} {a b c : Value} (h : BoxP W g k v i e t a b c) (hb : Below W.heap.size W W') (hg : g < W.heap.size) : BoxP W' g k v i e t a b c :=
  ⟨(hb.cell (p := ⟨g, 0, none⟩) hg).trans h.1, (hb.cell (p := ⟨g, 1, none⟩) hg).trans h.2.1, (hb.cell (p := ⟨g, 2, none⟩) hg).trans h.2.2.1, (hb.cell (p := ⟨g, 3, none⟩) hg).trans h.2.2.2.1, (hb.cell (p := ⟨g, 4, none⟩) hg).trans h.2.2.2.2.1, (hb.cell (p := ⟨g, 5, none⟩) hg).trans h.2.2.2.2.2.1, (hb.cell (p := ⟨g, 6, none⟩) hg).trans h.2.2.2.2.2.2.1, (hb.cell (p := ⟨g, 7, none⟩) hg).trans h.2.2.2.2.2.2.2⟩
/-- all that a call keeps of an answer -/
def PR (w : World) (k v i e t : Int) (a b c : Value) (W : World) : Prop := BoxP W w.heap.size k v i e t a b c ∧ Below w.heap.size w W ∧ w.heap.size < W.heap.size
theorem PR.step {w W W' : World} {k v i e t : Int} {a b c : Value} (H : PR w k v i e t a b c W) (hb : Below W.heap.size W W') : PR w k v i e t a b c W' :=
  ⟨BoxP_below H.1 hb H.2.2, H.2.1.trans (hb.mono (Nat.le_of_lt H.2.2)), Nat.lt_of_lt_of_le H.2.2 hb.size⟩
theorem PR.drew {w W : World} {k v i e t : Int} {a b c : Value} (H : PR w k v i e t a b c W) : PR w k v i e t a b c W.drew := ⟨H.1, H.2.1.drew, H.2.2⟩
theorem PR.bel {w W : World} {k v i e t : Int} {a b c : Value} (H : PR w k v i e t a b c W) : Below w.heap.size w W := H.2.1
theorem PR.box {w W : World} {k v i e t : Int} {a b c : Value} (H : PR w k v i e t a b c W) : BoxP W w.heap.size k v i e t a b c := H.1
theorem putr_eq (r : Rp) : respC.put r = [UInt8.ofNat r.kind.toNat, UInt8.ofNat r.ver.toNat] ++ vb (zz r.id) ++ vb (zz r.e) ++ (waitC r.ver).put r.wait ++ vb (zz (r.ints.length : Int)) ++ putMany cvar r.ints ++ vb (zz (r.texts.length : Int)) ++ putMany txt64 r.texts ++ vb (zz (r.blob.length : Int)) ++ r.blob := by
  rw [respC_put]
  unfold tailP
  rw [ccount_put, ccount_put, cblob_put]
  simp only [List.append_assoc, List.cons_append, List.nil_append]
theorem wait_put1 {v : Int} (h : 1 ≤ v) (t : Int) : (waitC v).put t = vb (zz t) := by unfold waitC; rw [if_pos h]; rfl
theorem wait_put0 {v : Int} (h : ¬ 1 ≤ v) (t : Int) : (waitC v).put t = [] := by unfold waitC; rw [if_neg h]; rfl
set_option maxRecDepth 100000 in
set_option maxHeartbeats 1000000 in
theorem PutResp_no (k v i E t : Int) (A1 : Option Addr) (n1 c1 : Nat) (l1 : List Int) (A2 : Option Addr) (n2 c2 : Nat) (l2 : List ByteArray) (A3 : Option Addr) (n3 c3 : Nat) (l3 : List UInt8) (w : World) (hI : RdL w w.heap.size A1 n1 l1) (hn1 : n1 ≤ 140737488351232) (hT : RdL w w.heap.size A2 n2 l2) (hn2 : n2 ≤ 140737488351232) (hR : Rd w w.heap.size A3 n3 l3) (hn3 : n3 ≤ 140737488351232) {z : Int} (hck : ckP ⟨k, v, i, E, t, l1, l2, l3⟩ = z) (hz : z ≠ 0) :
    Calls Tryd.prog 22 #[.agg #[.int .i64 k, .int .i64 v, .int .i64 i, .int .i64 E, .int .i64 t, .slice A1 n1 c1, .slice A2 n2 c2, .slice A3 n3 c3]] w (PQR w ([], z)) := by
  have HI := Lib.hid hI
  have HT := Lib.hid hT
  have HR := Lib.hid hR
  have HL3 := Lib.hid hR.len
  have HCK := Lib.hid hck
  have HW1 := Lib.hid (bel_alloc (Below.refl w.heap.size w) (.cells #[.int .i64 k, .int .i64 v, .int .i64 i, .int .i64 E, .int .i64 t, .slice A1 n1 c1, .slice A2 n2 c2, .slice A3 n3 c3] 38))
  clear hI hT hR hck
  have hzN : (z != 0) = true := by simp [hz]
  clear hz
  go_enter Tryd.func22, Tryd.ntmps22
  go_wp2_with (go_at_call 70; (with_reducible refine (checkResp_any k v i E t A1 n1 c1 l1 A2 n2 c2 l2 A3 n3 c3 l3 _ (HI.out.below HW1.out (Nat.le_refl _) |>.more HW1.out.size) hn1 (HT.out.below HW1.out (Nat.le_refl _) |>.more HW1.out.size) hn2 hn3 HL3.out).mono ?_); rw [HCK.out]; rintro e w9 ⟨rfl, hb9⟩; have HW9 := Lib.hid (HW1.out.trans (hb9.mono HW1.out.size)); clear hb9)
  go_ret2
  exact ⟨none, 0, 0, rfl, Rd.nil, Nat.le_refl _, HW9.out⟩
set_option maxRecDepth 100000 in
set_option maxHeartbeats 4000000 in
theorem PutResp_v (k v i E t : Int) (A1 : Option Addr) (n1 c1 : Nat) (l1 : List Int) (A2 : Option Addr) (n2 c2 : Nat) (l2 : List ByteArray) (A3 : Option Addr) (n3 c3 : Nat) (l3 : List UInt8) (w : World) (hI : RdL w w.heap.size A1 n1 l1) (hn1 : n1 ≤ 140737488351232) (hT : RdL w w.heap.size A2 n2 l2) (hn2 : n2 ≤ 140737488351232) (hR : Rd w w.heap.size A3 n3 l3) (hn3 : n3 ≤ 140737488351232) (hck : ckP ⟨k, v, i, E, t, l1, l2, l3⟩ = 0) (hv : 1 ≤ v) :
    Calls Tryd.prog 22 #[.agg #[.int .i64 k, .int .i64 v, .int .i64 i, .int .i64 E, .int .i64 t, .slice A1 n1 c1, .slice A2 n2 c2, .slice A3 n3 c3]] w (PQR w (respC.put ⟨k, v, i, E, t, l1, l2, l3⟩, 0)) := by
  have hok := ckP_iff.1 hck
  obtain ⟨⟨hkk, hvv⟩, ⟨hi0, hi1⟩, ⟨ht0, ht1⟩, hvt, ⟨he0, he1⟩, hn1K, hints, hn2K, htx, hn3K⟩ := (⟨known_iff.1 hok.1, hok.2⟩ : ((1 ≤ k ∧ k ≤ 12) ∧ 0 ≤ v ∧ v ≤ 2) ∧ OkP ⟨k, v, i, E, t, l1, l2, l3⟩)
  clear hok
  simp only at hi0 hi1 ht0 ht1 he0 he1 hn1K hints hn2K htx hn3K
  rw [hI.len] at hn1K
  rw [hT.len] at hn2K
  rw [hR.len] at hn3K
  obtain ⟨K, rfl⟩ : ∃ K : Nat, k = (K : Int) := ⟨k.toNat, by omega⟩
  obtain ⟨V, rfl⟩ : ∃ V : Nat, v = (V : Int) := ⟨v.toNat, by omega⟩
  have H64 := Lib.hid htx
  have HB3 := Lib.hid (show (ByteArray.mk l3.toArray).size ≤ 4096 by have h := hR.len; show l3.toArray.size ≤ 4096; rw [List.size_toArray]; omega)
  have HIN := Lib.hid (fun x (hx : x ∈ l1) => (show -9223372036854775808 ≤ x ∧ x ≤ 9223372036854775807 by have := hints x hx; omega))
  have HV := Lib.hid hv
  have HI := Lib.hid hI
  have HT := Lib.hid hT
  have HR := Lib.hid hR
  have HL3 := Lib.hid hR.len
  have HCK := Lib.hid hck
  have HW1 := Lib.hid (bel_alloc (Below.refl w.heap.size w) (.cells #[.int .i64 (K : Int), .int .i64 (V : Int), .int .i64 i, .int .i64 E, .int .i64 t, .slice A1 n1 c1, .slice A2 n2 c2, .slice A3 n3 c3] 38))
  clear hI hT hR hck
  have hmx : Tryd.prog.follows .mixedOrders = true := by kernel_rfl
  clear hvt htx hints
  go_enter Tryd.func22, Tryd.ntmps22
  go_wp2_with (go_at_call 70; (with_reducible refine (checkResp_any (K : Int) (V : Int) i E t A1 n1 c1 l1 A2 n2 c2 l2 A3 n3 c3 l3 _ (HI.out.below HW1.out (Nat.le_refl _) |>.more HW1.out.size) hn1 (HT.out.below HW1.out (Nat.le_refl _) |>.more HW1.out.size) hn2 hn3 HL3.out).mono ?_); rw [HCK.out]; rintro e w9 ⟨rfl, hb9⟩; have HP20 := Lib.hid (PR.drew (show PR w (K : Int) (V : Int) i E t (.slice A1 n1 c1) (.slice A2 n2 c2) (.slice A3 n3 c3) w9 from ⟨BoxP_below (BoxP_new w 38 (K : Int) (V : Int) i E t (.slice A1 n1 c1) (.slice A2 n2 c2) (.slice A3 n3 c3)) hb9 (by simp), HW1.out.trans (hb9.mono HW1.out.size), Nat.lt_of_lt_of_le (by simp) hb9.size⟩)); clear hb9)
  refine region_let (fun W9 : World => BoxP W9 w.heap.size (K : Int) (V : Int) i E t (.slice A1 n1 c1) (.slice A2 n2 c2) (.slice A3 n3 c3)) 99 9 hmx rfl fun ops Q HOPS HQ => ?_
  refine stepQ HOPS 0 1 ?_ (by decide) rfl (by kernel_rfl) (by kernel_rfl) rfl ?_ HP20.out.box ?_
  rotate_left
  · intro w9 hS9; obtain ⟨q0, q1, q2, q3, q4, q5, q6, q7⟩ := hS9; go_simp; (first | done | with_reducible rfl)
  try simp only [Act.put, List.setIfInBounds_toArray, List.set_cons_zero, List.set_cons_succ]
  refine stepQ HOPS 1 3 ?_ (by decide) rfl (by kernel_rfl) (by kernel_rfl) rfl ?_ HP20.out.box ?_
  rotate_left
  · intro w9 hS9; obtain ⟨q0, q1, q2, q3, q4, q5, q6, q7⟩ := hS9; go_simp; (first | done | with_reducible rfl)
  try simp only [Act.put, List.setIfInBounds_toArray, List.set_cons_zero, List.set_cons_succ]
  refine stepQ HOPS 2 7 ?_ (by decide) rfl (by kernel_rfl) (by kernel_rfl) rfl ?_ HP20.out.box ?_
  rotate_left
  · intro w9 hS9; obtain ⟨q0, q1, q2, q3, q4, q5, q6, q7⟩ := hS9; go_simp; (first | done | with_reducible rfl)
  try simp only [Act.put, List.setIfInBounds_toArray, List.set_cons_zero, List.set_cons_succ]
  refine stepQ HOPS 3 15 ?_ (by decide) rfl (by kernel_rfl) (by kernel_rfl) rfl ?_ HP20.out.box ?_
  rotate_left
  · intro w9 hS9; obtain ⟨q0, q1, q2, q3, q4, q5, q6, q7⟩ := hS9; go_simp; (first | done | with_reducible rfl)
  try simp only [Act.put, List.setIfInBounds_toArray, List.set_cons_zero, List.set_cons_succ]
  refine stepQ HOPS 5 47 ?_ (by decide) rfl (by kernel_rfl) (by kernel_rfl) rfl ?_ HP20.out.box ?_
  rotate_left
  · intro w9 hS9; obtain ⟨q0, q1, q2, q3, q4, q5, q6, q7⟩ := hS9; go_simp; (first | done | with_reducible rfl)
  try simp only [Act.put, List.setIfInBounds_toArray, List.set_cons_zero, List.set_cons_succ]
  refine stepQ HOPS 6 111 ?_ (by decide) rfl (by kernel_rfl) (by kernel_rfl) rfl ?_ HP20.out.box ?_
  rotate_left
  · intro w9 hS9; obtain ⟨q0, q1, q2, q3, q4, q5, q6, q7⟩ := hS9; go_simp; (first | done | with_reducible rfl)
  try simp only [Act.put, List.setIfInBounds_toArray, List.set_cons_zero, List.set_cons_succ]
  refine stepC HOPS 4 127 (by decide) rfl (by kernel_rfl) (by kernel_rfl) ?_
  go_simp
  refine (putHead_any K V (by omega) (by omega) _).mono ?_
  rintro e w19 ⟨A19, n19, c19, rfl, hown19, hb19⟩
  dsimp only
  have HP19 := Lib.hid (HP20.out.step hb19)
  have HO19 := Lib.hid hown19.rd
  have hc19 : n19 ≤ c19 := hown19.cap
  have hn19 : n19 ≤ 2 := (by have h := hown19.len; simp at h; omega)
  clear hown19 hb19
  refine ⟨HP19.out.box, ?_⟩
  try simp only [Act.put, List.setIfInBounds_toArray, List.set_cons_zero, List.set_cons_succ]
  refine stepC HOPS 7 255 (by decide) rfl (by kernel_rfl) (by kernel_rfl) ?_
  go_simp
  refine (PutVar_any A19 n19 c19 i _ _ w19 HO19.out (Nat.le_refl _) (by omega) (by omega) (by omega)).mono ?_
  rintro e w18 ⟨A18, n18, c18, rfl, hown18, hb18⟩
  dsimp only
  have HP18 := Lib.hid (HP19.out.step hb18)
  have HO18 := Lib.hid hown18.rd
  have hc18 : n18 ≤ c18 := hown18.cap
  have hn18 : n18 ≤ 12 := (by have h := hown18.len; have h2 := vb_ten (zz_lt (n := i) (by omega)); have h3 := HO19.out.len; rw [List.length_append, h3] at h; omega)
  clear hown18 hb18
  refine ⟨HP18.out.box, ?_⟩
  try simp only [Act.put, List.setIfInBounds_toArray, List.set_cons_zero, List.set_cons_succ]
  refine stepQ HOPS 8 511 ?_ (by decide) rfl (by kernel_rfl) (by kernel_rfl) rfl ?_ HP18.out.box ?_
  rotate_left
  · intro w9 hS9; obtain ⟨q0, q1, q2, q3, q4, q5, q6, q7⟩ := hS9; go_simp; (first | done | with_reducible rfl)
  try simp only [Act.put, List.setIfInBounds_toArray, List.set_cons_zero, List.set_cons_succ]
  refine stepE HOPS (by kernel_rfl) (HQ.out _ _ ?_)
  clear HQ HOPS
  clear Q ops
  obtain ⟨_, q1, _, q3, q4, q5, q6, q7⟩ := HP18.out.box
  go_wp2_with (first
    | (go_at_call 35; (with_reducible refine (PutVar_any A17 n17 c17 t _ _ w17 HO17.out (Nat.le_refl _) (by omega) (by omega) (by omega)).mono ?_); rintro e w16 ⟨A16, n16, c16, rfl, hown16, hb16⟩; have HP16 := Lib.hid (HP17.out.step hb16); have HO16 := Lib.hid hown16.rd; have hc16 : n16 ≤ c16 := hown16.cap; have hn16 : n16 ≤ 32 := (by have h := hown16.len; have h2 := vb_ten (zz_lt (n := t) (by omega)); have h3 := HO17.out.len; rw [List.length_append, h3] at h; omega); clear hown16 hb16; obtain ⟨_, q1, _, q3, q4, q5, q6, q7⟩ := HP16.out.box)
    | (go_at_call 35; (with_reducible refine (PutVar_any A18 n18 c18 E _ _ w18 HO18.out (Nat.le_refl _) (by omega) (by omega) (by omega)).mono ?_); rintro e w17 ⟨A17, n17, c17, rfl, hown17, hb17⟩; have HP17 := Lib.hid (HP18.out.step hb17); have HO17 := Lib.hid hown17.rd; have hc17 : n17 ≤ c17 := hown17.cap; have hn17 : n17 ≤ 22 := (by have h := hown17.len; have h2 := vb_ten (zz_lt (n := E) (by omega)); have h3 := HO18.out.len; rw [List.length_append, h3] at h; omega); clear hown17 hb17; obtain ⟨_, q1, _, q3, q4, q5, q6, q7⟩ := HP17.out.box))
  have HP15 := Lib.hid HP16.out.drew
  have HO15 := Lib.hid HO16.out.drew
  have hc15 := hc16
  refine region_let (fun W9 : World => BoxP W9 w.heap.size (K : Int) (V : Int) i E t (.slice A1 n1 c1) (.slice A2 n2 c2) (.slice A3 n3 c3)) 99 9 hmx rfl fun ops Q HOPS HQ => ?_
  refine stepQ HOPS 0 1 ?_ (by decide) rfl (by kernel_rfl) (by kernel_rfl) rfl ?_ HP15.out.box ?_
  rotate_left
  · intro w9 hS9; obtain ⟨q0, q1, q2, q3, q4, q5, q6, q7⟩ := hS9; go_simp; (first | done | with_reducible rfl)
  try simp only [Act.put, List.setIfInBounds_toArray, List.set_cons_zero, List.set_cons_succ]
  refine stepQ HOPS 1 3 ?_ (by decide) rfl (by kernel_rfl) (by kernel_rfl) rfl ?_ HP15.out.box ?_
  rotate_left
  · intro w9 hS9; obtain ⟨q0, q1, q2, q3, q4, q5, q6, q7⟩ := hS9; go_simp; (first | done | with_reducible rfl)
  try simp only [Act.put, List.setIfInBounds_toArray, List.set_cons_zero, List.set_cons_succ]
  refine stepQ HOPS 2 7 ?_ (by decide) rfl (by kernel_rfl) (by kernel_rfl) rfl ?_ HP15.out.box ?_
  rotate_left
  · intro w9 hS9; obtain ⟨q0, q1, q2, q3, q4, q5, q6, q7⟩ := hS9; go_simp; (first | done | with_reducible rfl)
  try simp only [Act.put, List.setIfInBounds_toArray, List.set_cons_zero, List.set_cons_succ]
  refine stepQ HOPS 3 15 ?_ (by decide) rfl (by kernel_rfl) (by kernel_rfl) rfl ?_ HP15.out.box ?_
  rotate_left
  · intro w9 hS9; obtain ⟨q0, q1, q2, q3, q4, q5, q6, q7⟩ := hS9; go_simp; (first | done | with_reducible rfl)
  try simp only [Act.put, List.setIfInBounds_toArray, List.set_cons_zero, List.set_cons_succ]
  refine stepQ HOPS 5 47 ?_ (by decide) rfl (by kernel_rfl) (by kernel_rfl) rfl ?_ HP15.out.box ?_
  rotate_left
  · intro w9 hS9; obtain ⟨q0, q1, q2, q3, q4, q5, q6, q7⟩ := hS9; go_simp; (first | done | with_reducible rfl)
  try simp only [Act.put, List.setIfInBounds_toArray, List.set_cons_zero, List.set_cons_succ]
  refine stepQ HOPS 6 111 ?_ (by decide) rfl (by kernel_rfl) (by kernel_rfl) rfl ?_ HP15.out.box ?_
  rotate_left
  · intro w9 hS9; obtain ⟨q0, q1, q2, q3, q4, q5, q6, q7⟩ := hS9; go_simp; (first | done | with_reducible rfl)
  try simp only [Act.put, List.setIfInBounds_toArray, List.set_cons_zero, List.set_cons_succ]
  refine stepC HOPS 4 127 (by decide) rfl (by kernel_rfl) (by kernel_rfl) ?_
  go_simp
  refine (PutVar_any A16 n16 c16 (n1 : Int) _ _ _ HO15.out (Nat.le_refl _) (by omega) (by omega) (by omega)).mono ?_
  rintro e w14 ⟨A14, n14, c14, rfl, hown14, hb14⟩
  dsimp only
  have HP14 := Lib.hid (HP15.out.step hb14)
  have HO14 := Lib.hid hown14.rd
  have hc14 : n14 ≤ c14 := hown14.cap
  have hn14 : n14 ≤ 42 := (by have h := hown14.len; have h2 := vb_ten (zz_lt (n := (n1 : Int)) (by omega)); have h3 := HO15.out.len; rw [List.length_append, h3] at h; omega)
  clear hown14 hb14
  refine ⟨HP14.out.box, ?_⟩
  try simp only [Act.put, List.setIfInBounds_toArray, List.set_cons_zero, List.set_cons_succ]
  refine stepC HOPS 7 255 (by decide) rfl (by kernel_rfl) (by kernel_rfl) ?_
  go_simp
  refine (putNumbers_any A14 n14 c14 _ A1 n1 c1 l1 w14 HO14.out hc14 (HI.out.below HP14.out.bel (Nat.le_refl _) |>.more HP14.out.bel.size) (by omega)).mono ?_
  rintro e w13 ⟨A13, n13, c13, rfl, hr13, hc13', hb13⟩
  dsimp only
  have HP13 := Lib.hid (HP14.out.step hb13)
  have HO13 := Lib.hid hr13
  have hc13 : n13 ≤ c13 := hc13'
  have hn13 : n13 ≤ 682 := (by have h := hr13.len; have h2 := many_ten l1 HIN.out; have h3 := HO14.out.len; have h4 := HI.out.len; rw [List.length_append, h3] at h; omega)
  clear hr13 hb13
  refine ⟨HP13.out.box, ?_⟩
  try simp only [Act.put, List.setIfInBounds_toArray, List.set_cons_zero, List.set_cons_succ]
  refine stepQ HOPS 8 511 ?_ (by decide) rfl (by kernel_rfl) (by kernel_rfl) rfl ?_ HP13.out.box ?_
  rotate_left
  · intro w9 hS9; obtain ⟨q0, q1, q2, q3, q4, q5, q6, q7⟩ := hS9; go_simp; (first | done | with_reducible rfl)
  try simp only [Act.put, List.setIfInBounds_toArray, List.set_cons_zero, List.set_cons_succ]
  refine stepE HOPS (by kernel_rfl) (HQ.out _ _ ?_)
  clear HQ HOPS
  clear Q ops
  obtain ⟨_, q1, _, q3, q4, q5, q6, q7⟩ := HP13.out.box
  go_wp2
  have HP12 := Lib.hid HP13.out.drew
  have HO12 := Lib.hid HO13.out.drew
  have hc12 := hc13
  refine region_let (fun W9 : World => BoxP W9 w.heap.size (K : Int) (V : Int) i E t (.slice A1 n1 c1) (.slice A2 n2 c2) (.slice A3 n3 c3)) 99 9 hmx rfl fun ops Q HOPS HQ => ?_
  refine stepQ HOPS 0 1 ?_ (by decide) rfl (by kernel_rfl) (by kernel_rfl) rfl ?_ HP12.out.box ?_
  rotate_left
  · intro w9 hS9; obtain ⟨q0, q1, q2, q3, q4, q5, q6, q7⟩ := hS9; go_simp; (first | done | with_reducible rfl)
  try simp only [Act.put, List.setIfInBounds_toArray, List.set_cons_zero, List.set_cons_succ]
  refine stepQ HOPS 1 3 ?_ (by decide) rfl (by kernel_rfl) (by kernel_rfl) rfl ?_ HP12.out.box ?_
  rotate_left
  · intro w9 hS9; obtain ⟨q0, q1, q2, q3, q4, q5, q6, q7⟩ := hS9; go_simp; (first | done | with_reducible rfl)
  try simp only [Act.put, List.setIfInBounds_toArray, List.set_cons_zero, List.set_cons_succ]
  refine stepQ HOPS 2 7 ?_ (by decide) rfl (by kernel_rfl) (by kernel_rfl) rfl ?_ HP12.out.box ?_
  rotate_left
  · intro w9 hS9; obtain ⟨q0, q1, q2, q3, q4, q5, q6, q7⟩ := hS9; go_simp; (first | done | with_reducible rfl)
  try simp only [Act.put, List.setIfInBounds_toArray, List.set_cons_zero, List.set_cons_succ]
  refine stepQ HOPS 3 15 ?_ (by decide) rfl (by kernel_rfl) (by kernel_rfl) rfl ?_ HP12.out.box ?_
  rotate_left
  · intro w9 hS9; obtain ⟨q0, q1, q2, q3, q4, q5, q6, q7⟩ := hS9; go_simp; (first | done | with_reducible rfl)
  try simp only [Act.put, List.setIfInBounds_toArray, List.set_cons_zero, List.set_cons_succ]
  refine stepQ HOPS 5 47 ?_ (by decide) rfl (by kernel_rfl) (by kernel_rfl) rfl ?_ HP12.out.box ?_
  rotate_left
  · intro w9 hS9; obtain ⟨q0, q1, q2, q3, q4, q5, q6, q7⟩ := hS9; go_simp; (first | done | with_reducible rfl)
  try simp only [Act.put, List.setIfInBounds_toArray, List.set_cons_zero, List.set_cons_succ]
  refine stepQ HOPS 6 111 ?_ (by decide) rfl (by kernel_rfl) (by kernel_rfl) rfl ?_ HP12.out.box ?_
  rotate_left
  · intro w9 hS9; obtain ⟨q0, q1, q2, q3, q4, q5, q6, q7⟩ := hS9; go_simp; (first | done | with_reducible rfl)
  try simp only [Act.put, List.setIfInBounds_toArray, List.set_cons_zero, List.set_cons_succ]
  refine stepC HOPS 4 127 (by decide) rfl (by kernel_rfl) (by kernel_rfl) ?_
  go_simp
  refine (PutVar_any A13 n13 c13 (n2 : Int) _ _ _ HO12.out (Nat.le_refl _) (by omega) (by omega) (by omega)).mono ?_
  rintro e w11 ⟨A11, n11, c11, rfl, hown11, hb11⟩
  dsimp only
  have HP11 := Lib.hid (HP12.out.step hb11)
  have HO11 := Lib.hid hown11.rd
  have hc11 : n11 ≤ c11 := hown11.cap
  have hn11 : n11 ≤ 692 := (by have h := hown11.len; have h2 := vb_ten (zz_lt (n := (n2 : Int)) (by omega)); have h3 := HO12.out.len; rw [List.length_append, h3] at h; omega)
  clear hown11 hb11
  refine ⟨HP11.out.box, ?_⟩
  try simp only [Act.put, List.setIfInBounds_toArray, List.set_cons_zero, List.set_cons_succ]
  refine stepC HOPS 7 255 (by decide) rfl (by kernel_rfl) (by kernel_rfl) ?_
  go_simp
  refine (putTexts_any A11 n11 c11 _ A2 n2 c2 l2 w11 HO11.out hc11 (HT.out.below HP11.out.bel (Nat.le_refl _) |>.more HP11.out.bel.size) H64.out (by omega)).mono ?_
  rintro e w10 ⟨A10, n10, c10, rfl, hr10, hc10', hb10⟩
  dsimp only
  have HP10 := Lib.hid (HP11.out.step hb10)
  have HO10 := Lib.hid hr10
  have hc10 : n10 ≤ c10 := hc10'
  have hn10 : n10 ≤ 1876 := (by have h := hr10.len; have h2 := many_74 l2 H64.out; have h3 := HO11.out.len; have h4 := HT.out.len; rw [List.length_append, h3] at h; omega)
  have r1 := str_of w10 _ A3 n3 c3 l3 (HR.out.below HP10.out.bel (Nat.le_refl _))
  clear hr10 hb10
  refine ⟨HP10.out.box, ?_⟩
  try simp only [Act.put, List.setIfInBounds_toArray, List.set_cons_zero, List.set_cons_succ]
  refine stepQ HOPS 8 511 ?_ (by decide) rfl (by kernel_rfl) (by kernel_rfl) rfl ?_ HP10.out.box ?_
  rotate_left
  · intro w9 hS9; obtain ⟨q0, q1, q2, q3, q4, q5, q6, q7⟩ := hS9; go_simp; (first | done | with_reducible rfl)
  try simp only [Act.put, List.setIfInBounds_toArray, List.set_cons_zero, List.set_cons_succ]
  refine stepE HOPS (by kernel_rfl) (HQ.out _ _ ?_)
  clear HQ HOPS
  clear Q ops
  obtain ⟨_, q1, _, q3, q4, q5, q6, q7⟩ := HP10.out.box
  go_wp2_with (go_at_call 37; (with_reducible refine (PutText_any A10 n10 c10 ⟨l3.toArray⟩ _ _ w10 HO10.out (Nat.le_refl _) (by omega) (Nat.le_trans HB3.out (by omega))).mono ?_); rintro e w9 ⟨A9, n9, c9, rfl, hown9, hb9⟩; have HP9 := Lib.hid (HP10.out.step hb9); have HO9 := Lib.hid hown9.rd; have hc9 : n9 ≤ c9 := hown9.cap; clear hown9 hb9; obtain ⟨_, q1, _, q3, q4, q5, q6, q7⟩ := HP9.out.box)
  go_ret2
  have HEQ := Lib.hid (putr_eq ⟨(K : Int), (V : Int), i, E, t, l1, l2, l3⟩)
  refine ⟨A9, n9, c9, rfl, ?_, hc9, HP9.out.bel⟩
  have h := HO9.out
  show Rd _ _ _ _ (respC.put ⟨(K : Int), (V : Int), i, E, t, l1, l2, l3⟩)
  rw [HEQ.out]
  simp only [Int.toNat_natCast]
  rw [wait_put1 HV.out]
  simpa [List.append_assoc, HI.out.len, HT.out.len, HL3.out, show (ByteArray.mk l3.toArray).size = l3.length by simp [ByteArray.size]] using h
set_option maxRecDepth 100000 in
set_option maxHeartbeats 4000000 in
theorem PutResp_n (k v i E t : Int) (A1 : Option Addr) (n1 c1 : Nat) (l1 : List Int) (A2 : Option Addr) (n2 c2 : Nat) (l2 : List ByteArray) (A3 : Option Addr) (n3 c3 : Nat) (l3 : List UInt8) (w : World) (hI : RdL w w.heap.size A1 n1 l1) (hn1 : n1 ≤ 140737488351232) (hT : RdL w w.heap.size A2 n2 l2) (hn2 : n2 ≤ 140737488351232) (hR : Rd w w.heap.size A3 n3 l3) (hn3 : n3 ≤ 140737488351232) (hck : ckP ⟨k, v, i, E, t, l1, l2, l3⟩ = 0) (hv : ¬ 1 ≤ v) :
    Calls Tryd.prog 22 #[.agg #[.int .i64 k, .int .i64 v, .int .i64 i, .int .i64 E, .int .i64 t, .slice A1 n1 c1, .slice A2 n2 c2, .slice A3 n3 c3]] w (PQR w (respC.put ⟨k, v, i, E, t, l1, l2, l3⟩, 0)) := by
  have hok := ckP_iff.1 hck
  obtain ⟨⟨hkk, hvv⟩, ⟨hi0, hi1⟩, ⟨ht0, ht1⟩, hvt, ⟨he0, he1⟩, hn1K, hints, hn2K, htx, hn3K⟩ := (⟨known_iff.1 hok.1, hok.2⟩ : ((1 ≤ k ∧ k ≤ 12) ∧ 0 ≤ v ∧ v ≤ 2) ∧ OkP ⟨k, v, i, E, t, l1, l2, l3⟩)
  clear hok
  simp only at hi0 hi1 ht0 ht1 he0 he1 hn1K hints hn2K htx hn3K
  rw [hI.len] at hn1K
  rw [hT.len] at hn2K
  rw [hR.len] at hn3K
  obtain ⟨K, rfl⟩ : ∃ K : Nat, k = (K : Int) := ⟨k.toNat, by omega⟩
  obtain ⟨V, rfl⟩ : ∃ V : Nat, v = (V : Int) := ⟨v.toNat, by omega⟩
  have H64 := Lib.hid htx
  have HB3 := Lib.hid (show (ByteArray.mk l3.toArray).size ≤ 4096 by have h := hR.len; show l3.toArray.size ≤ 4096; rw [List.size_toArray]; omega)
  have HIN := Lib.hid (fun x (hx : x ∈ l1) => (show -9223372036854775808 ≤ x ∧ x ≤ 9223372036854775807 by have := hints x hx; omega))
  have HV := Lib.hid hv
  have HI := Lib.hid hI
  have HT := Lib.hid hT
  have HR := Lib.hid hR
  have HL3 := Lib.hid hR.len
  have HCK := Lib.hid hck
  have HW1 := Lib.hid (bel_alloc (Below.refl w.heap.size w) (.cells #[.int .i64 (K : Int), .int .i64 (V : Int), .int .i64 i, .int .i64 E, .int .i64 t, .slice A1 n1 c1, .slice A2 n2 c2, .slice A3 n3 c3] 38))
  clear hI hT hR hck
  have hmx : Tryd.prog.follows .mixedOrders = true := by kernel_rfl
  clear hvt htx hints
  go_enter Tryd.func22, Tryd.ntmps22
  go_wp2_with (go_at_call 70; (with_reducible refine (checkResp_any (K : Int) (V : Int) i E t A1 n1 c1 l1 A2 n2 c2 l2 A3 n3 c3 l3 _ (HI.out.below HW1.out (Nat.le_refl _) |>.more HW1.out.size) hn1 (HT.out.below HW1.out (Nat.le_refl _) |>.more HW1.out.size) hn2 hn3 HL3.out).mono ?_); rw [HCK.out]; rintro e w9 ⟨rfl, hb9⟩; have HP20 := Lib.hid (PR.drew (show PR w (K : Int) (V : Int) i E t (.slice A1 n1 c1) (.slice A2 n2 c2) (.slice A3 n3 c3) w9 from ⟨BoxP_below (BoxP_new w 38 (K : Int) (V : Int) i E t (.slice A1 n1 c1) (.slice A2 n2 c2) (.slice A3 n3 c3)) hb9 (by simp), HW1.out.trans (hb9.mono HW1.out.size), Nat.lt_of_lt_of_le (by simp) hb9.size⟩)); clear hb9)
  refine region_let (fun W9 : World => BoxP W9 w.heap.size (K : Int) (V : Int) i E t (.slice A1 n1 c1) (.slice A2 n2 c2) (.slice A3 n3 c3)) 99 9 hmx rfl fun ops Q HOPS HQ => ?_
  refine stepQ HOPS 0 1 ?_ (by decide) rfl (by kernel_rfl) (by kernel_rfl) rfl ?_ HP20.out.box ?_
  rotate_left
  · intro w9 hS9; obtain ⟨q0, q1, q2, q3, q4, q5, q6, q7⟩ := hS9; go_simp; (first | done | with_reducible rfl)
  try simp only [Act.put, List.setIfInBounds_toArray, List.set_cons_zero, List.set_cons_succ]
  refine stepQ HOPS 1 3 ?_ (by decide) rfl (by kernel_rfl) (by kernel_rfl) rfl ?_ HP20.out.box ?_
  rotate_left
  · intro w9 hS9; obtain ⟨q0, q1, q2, q3, q4, q5, q6, q7⟩ := hS9; go_simp; (first | done | with_reducible rfl)
  try simp only [Act.put, List.setIfInBounds_toArray, List.set_cons_zero, List.set_cons_succ]
  refine stepQ HOPS 2 7 ?_ (by decide) rfl (by kernel_rfl) (by kernel_rfl) rfl ?_ HP20.out.box ?_
  rotate_left
  · intro w9 hS9; obtain ⟨q0, q1, q2, q3, q4, q5, q6, q7⟩ := hS9; go_simp; (first | done | with_reducible rfl)
  try simp only [Act.put, List.setIfInBounds_toArray, List.set_cons_zero, List.set_cons_succ]
  refine stepQ HOPS 3 15 ?_ (by decide) rfl (by kernel_rfl) (by kernel_rfl) rfl ?_ HP20.out.box ?_
  rotate_left
  · intro w9 hS9; obtain ⟨q0, q1, q2, q3, q4, q5, q6, q7⟩ := hS9; go_simp; (first | done | with_reducible rfl)
  try simp only [Act.put, List.setIfInBounds_toArray, List.set_cons_zero, List.set_cons_succ]
  refine stepQ HOPS 5 47 ?_ (by decide) rfl (by kernel_rfl) (by kernel_rfl) rfl ?_ HP20.out.box ?_
  rotate_left
  · intro w9 hS9; obtain ⟨q0, q1, q2, q3, q4, q5, q6, q7⟩ := hS9; go_simp; (first | done | with_reducible rfl)
  try simp only [Act.put, List.setIfInBounds_toArray, List.set_cons_zero, List.set_cons_succ]
  refine stepQ HOPS 6 111 ?_ (by decide) rfl (by kernel_rfl) (by kernel_rfl) rfl ?_ HP20.out.box ?_
  rotate_left
  · intro w9 hS9; obtain ⟨q0, q1, q2, q3, q4, q5, q6, q7⟩ := hS9; go_simp; (first | done | with_reducible rfl)
  try simp only [Act.put, List.setIfInBounds_toArray, List.set_cons_zero, List.set_cons_succ]
  refine stepC HOPS 4 127 (by decide) rfl (by kernel_rfl) (by kernel_rfl) ?_
  go_simp
  refine (putHead_any K V (by omega) (by omega) _).mono ?_
  rintro e w19 ⟨A19, n19, c19, rfl, hown19, hb19⟩
  dsimp only
  have HP19 := Lib.hid (HP20.out.step hb19)
  have HO19 := Lib.hid hown19.rd
  have hc19 : n19 ≤ c19 := hown19.cap
  have hn19 : n19 ≤ 2 := (by have h := hown19.len; simp at h; omega)
  clear hown19 hb19
  refine ⟨HP19.out.box, ?_⟩
  try simp only [Act.put, List.setIfInBounds_toArray, List.set_cons_zero, List.set_cons_succ]
  refine stepC HOPS 7 255 (by decide) rfl (by kernel_rfl) (by kernel_rfl) ?_
  go_simp
  refine (PutVar_any A19 n19 c19 i _ _ w19 HO19.out (Nat.le_refl _) (by omega) (by omega) (by omega)).mono ?_
  rintro e w18 ⟨A18, n18, c18, rfl, hown18, hb18⟩
  dsimp only
  have HP18 := Lib.hid (HP19.out.step hb18)
  have HO18 := Lib.hid hown18.rd
  have hc18 : n18 ≤ c18 := hown18.cap
  have hn18 : n18 ≤ 12 := (by have h := hown18.len; have h2 := vb_ten (zz_lt (n := i) (by omega)); have h3 := HO19.out.len; rw [List.length_append, h3] at h; omega)
  clear hown18 hb18
  refine ⟨HP18.out.box, ?_⟩
  try simp only [Act.put, List.setIfInBounds_toArray, List.set_cons_zero, List.set_cons_succ]
  refine stepQ HOPS 8 511 ?_ (by decide) rfl (by kernel_rfl) (by kernel_rfl) rfl ?_ HP18.out.box ?_
  rotate_left
  · intro w9 hS9; obtain ⟨q0, q1, q2, q3, q4, q5, q6, q7⟩ := hS9; go_simp; (first | done | with_reducible rfl)
  try simp only [Act.put, List.setIfInBounds_toArray, List.set_cons_zero, List.set_cons_succ]
  refine stepE HOPS (by kernel_rfl) (HQ.out _ _ ?_)
  clear HQ HOPS
  clear Q ops
  obtain ⟨_, q1, _, q3, q4, q5, q6, q7⟩ := HP18.out.box
  go_wp2_with (first
    | (go_at_call 35; (with_reducible refine (PutVar_any A18 n18 c18 E _ _ w18 HO18.out (Nat.le_refl _) (by omega) (by omega) (by omega)).mono ?_); rintro e w17 ⟨A17, n17, c17, rfl, hown17, hb17⟩; have HP17 := Lib.hid (HP18.out.step hb17); have HO17 := Lib.hid hown17.rd; have hc17 : n17 ≤ c17 := hown17.cap; have hn17 : n17 ≤ 22 := (by have h := hown17.len; have h2 := vb_ten (zz_lt (n := E) (by omega)); have h3 := HO18.out.len; rw [List.length_append, h3] at h; omega); clear hown17 hb17; obtain ⟨_, q1, _, q3, q4, q5, q6, q7⟩ := HP17.out.box))
  have HP16 := Lib.hid HP17.out.drew
  have HO16 := Lib.hid HO17.out.drew
  have hc16 := hc17
  refine region_let (fun W9 : World => BoxP W9 w.heap.size (K : Int) (V : Int) i E t (.slice A1 n1 c1) (.slice A2 n2 c2) (.slice A3 n3 c3)) 99 9 hmx rfl fun ops Q HOPS HQ => ?_
  refine stepQ HOPS 0 1 ?_ (by decide) rfl (by kernel_rfl) (by kernel_rfl) rfl ?_ HP16.out.box ?_
  rotate_left
  · intro w9 hS9; obtain ⟨q0, q1, q2, q3, q4, q5, q6, q7⟩ := hS9; go_simp; (first | done | with_reducible rfl)
  try simp only [Act.put, List.setIfInBounds_toArray, List.set_cons_zero, List.set_cons_succ]
  refine stepQ HOPS 1 3 ?_ (by decide) rfl (by kernel_rfl) (by kernel_rfl) rfl ?_ HP16.out.box ?_
  rotate_left
  · intro w9 hS9; obtain ⟨q0, q1, q2, q3, q4, q5, q6, q7⟩ := hS9; go_simp; (first | done | with_reducible rfl)
  try simp only [Act.put, List.setIfInBounds_toArray, List.set_cons_zero, List.set_cons_succ]
  refine stepQ HOPS 2 7 ?_ (by decide) rfl (by kernel_rfl) (by kernel_rfl) rfl ?_ HP16.out.box ?_
  rotate_left
  · intro w9 hS9; obtain ⟨q0, q1, q2, q3, q4, q5, q6, q7⟩ := hS9; go_simp; (first | done | with_reducible rfl)
  try simp only [Act.put, List.setIfInBounds_toArray, List.set_cons_zero, List.set_cons_succ]
  refine stepQ HOPS 3 15 ?_ (by decide) rfl (by kernel_rfl) (by kernel_rfl) rfl ?_ HP16.out.box ?_
  rotate_left
  · intro w9 hS9; obtain ⟨q0, q1, q2, q3, q4, q5, q6, q7⟩ := hS9; go_simp; (first | done | with_reducible rfl)
  try simp only [Act.put, List.setIfInBounds_toArray, List.set_cons_zero, List.set_cons_succ]
  refine stepQ HOPS 5 47 ?_ (by decide) rfl (by kernel_rfl) (by kernel_rfl) rfl ?_ HP16.out.box ?_
  rotate_left
  · intro w9 hS9; obtain ⟨q0, q1, q2, q3, q4, q5, q6, q7⟩ := hS9; go_simp; (first | done | with_reducible rfl)
  try simp only [Act.put, List.setIfInBounds_toArray, List.set_cons_zero, List.set_cons_succ]
  refine stepQ HOPS 6 111 ?_ (by decide) rfl (by kernel_rfl) (by kernel_rfl) rfl ?_ HP16.out.box ?_
  rotate_left
  · intro w9 hS9; obtain ⟨q0, q1, q2, q3, q4, q5, q6, q7⟩ := hS9; go_simp; (first | done | with_reducible rfl)
  try simp only [Act.put, List.setIfInBounds_toArray, List.set_cons_zero, List.set_cons_succ]
  refine stepC HOPS 4 127 (by decide) rfl (by kernel_rfl) (by kernel_rfl) ?_
  go_simp
  refine (PutVar_any A17 n17 c17 (n1 : Int) _ _ _ HO16.out (Nat.le_refl _) (by omega) (by omega) (by omega)).mono ?_
  rintro e w15 ⟨A15, n15, c15, rfl, hown15, hb15⟩
  dsimp only
  have HP15 := Lib.hid (HP16.out.step hb15)
  have HO15 := Lib.hid hown15.rd
  have hc15 : n15 ≤ c15 := hown15.cap
  have hn15 : n15 ≤ 32 := (by have h := hown15.len; have h2 := vb_ten (zz_lt (n := (n1 : Int)) (by omega)); have h3 := HO16.out.len; rw [List.length_append, h3] at h; omega)
  clear hown15 hb15
  refine ⟨HP15.out.box, ?_⟩
  try simp only [Act.put, List.setIfInBounds_toArray, List.set_cons_zero, List.set_cons_succ]
  refine stepC HOPS 7 255 (by decide) rfl (by kernel_rfl) (by kernel_rfl) ?_
  go_simp
  refine (putNumbers_any A15 n15 c15 _ A1 n1 c1 l1 w15 HO15.out hc15 (HI.out.below HP15.out.bel (Nat.le_refl _) |>.more HP15.out.bel.size) (by omega)).mono ?_
  rintro e w14 ⟨A14, n14, c14, rfl, hr14, hc14', hb14⟩
  dsimp only
  have HP14 := Lib.hid (HP15.out.step hb14)
  have HO14 := Lib.hid hr14
  have hc14 : n14 ≤ c14 := hc14'
  have hn14 : n14 ≤ 672 := (by have h := hr14.len; have h2 := many_ten l1 HIN.out; have h3 := HO15.out.len; have h4 := HI.out.len; rw [List.length_append, h3] at h; omega)
  clear hr14 hb14
  refine ⟨HP14.out.box, ?_⟩
  try simp only [Act.put, List.setIfInBounds_toArray, List.set_cons_zero, List.set_cons_succ]
  refine stepQ HOPS 8 511 ?_ (by decide) rfl (by kernel_rfl) (by kernel_rfl) rfl ?_ HP14.out.box ?_
  rotate_left
  · intro w9 hS9; obtain ⟨q0, q1, q2, q3, q4, q5, q6, q7⟩ := hS9; go_simp; (first | done | with_reducible rfl)
  try simp only [Act.put, List.setIfInBounds_toArray, List.set_cons_zero, List.set_cons_succ]
  refine stepE HOPS (by kernel_rfl) (HQ.out _ _ ?_)
  clear HQ HOPS
  clear Q ops
  obtain ⟨_, q1, _, q3, q4, q5, q6, q7⟩ := HP14.out.box
  go_wp2
  have HP13 := Lib.hid HP14.out.drew
  have HO13 := Lib.hid HO14.out.drew
  have hc13 := hc14
  refine region_let (fun W9 : World => BoxP W9 w.heap.size (K : Int) (V : Int) i E t (.slice A1 n1 c1) (.slice A2 n2 c2) (.slice A3 n3 c3)) 99 9 hmx rfl fun ops Q HOPS HQ => ?_
  refine stepQ HOPS 0 1 ?_ (by decide) rfl (by kernel_rfl) (by kernel_rfl) rfl ?_ HP13.out.box ?_
  rotate_left
  · intro w9 hS9; obtain ⟨q0, q1, q2, q3, q4, q5, q6, q7⟩ := hS9; go_simp; (first | done | with_reducible rfl)
  try simp only [Act.put, List.setIfInBounds_toArray, List.set_cons_zero, List.set_cons_succ]
  refine stepQ HOPS 1 3 ?_ (by decide) rfl (by kernel_rfl) (by kernel_rfl) rfl ?_ HP13.out.box ?_
  rotate_left
  · intro w9 hS9; obtain ⟨q0, q1, q2, q3, q4, q5, q6, q7⟩ := hS9; go_simp; (first | done | with_reducible rfl)
  try simp only [Act.put, List.setIfInBounds_toArray, List.set_cons_zero, List.set_cons_succ]
  refine stepQ HOPS 2 7 ?_ (by decide) rfl (by kernel_rfl) (by kernel_rfl) rfl ?_ HP13.out.box ?_
  rotate_left
  · intro w9 hS9; obtain ⟨q0, q1, q2, q3, q4, q5, q6, q7⟩ := hS9; go_simp; (first | done | with_reducible rfl)
  try simp only [Act.put, List.setIfInBounds_toArray, List.set_cons_zero, List.set_cons_succ]
  refine stepQ HOPS 3 15 ?_ (by decide) rfl (by kernel_rfl) (by kernel_rfl) rfl ?_ HP13.out.box ?_
  rotate_left
  · intro w9 hS9; obtain ⟨q0, q1, q2, q3, q4, q5, q6, q7⟩ := hS9; go_simp; (first | done | with_reducible rfl)
  try simp only [Act.put, List.setIfInBounds_toArray, List.set_cons_zero, List.set_cons_succ]
  refine stepQ HOPS 5 47 ?_ (by decide) rfl (by kernel_rfl) (by kernel_rfl) rfl ?_ HP13.out.box ?_
  rotate_left
  · intro w9 hS9; obtain ⟨q0, q1, q2, q3, q4, q5, q6, q7⟩ := hS9; go_simp; (first | done | with_reducible rfl)
  try simp only [Act.put, List.setIfInBounds_toArray, List.set_cons_zero, List.set_cons_succ]
  refine stepQ HOPS 6 111 ?_ (by decide) rfl (by kernel_rfl) (by kernel_rfl) rfl ?_ HP13.out.box ?_
  rotate_left
  · intro w9 hS9; obtain ⟨q0, q1, q2, q3, q4, q5, q6, q7⟩ := hS9; go_simp; (first | done | with_reducible rfl)
  try simp only [Act.put, List.setIfInBounds_toArray, List.set_cons_zero, List.set_cons_succ]
  refine stepC HOPS 4 127 (by decide) rfl (by kernel_rfl) (by kernel_rfl) ?_
  go_simp
  refine (PutVar_any A14 n14 c14 (n2 : Int) _ _ _ HO13.out (Nat.le_refl _) (by omega) (by omega) (by omega)).mono ?_
  rintro e w12 ⟨A12, n12, c12, rfl, hown12, hb12⟩
  dsimp only
  have HP12 := Lib.hid (HP13.out.step hb12)
  have HO12 := Lib.hid hown12.rd
  have hc12 : n12 ≤ c12 := hown12.cap
  have hn12 : n12 ≤ 682 := (by have h := hown12.len; have h2 := vb_ten (zz_lt (n := (n2 : Int)) (by omega)); have h3 := HO13.out.len; rw [List.length_append, h3] at h; omega)
  clear hown12 hb12
  refine ⟨HP12.out.box, ?_⟩
  try simp only [Act.put, List.setIfInBounds_toArray, List.set_cons_zero, List.set_cons_succ]
  refine stepC HOPS 7 255 (by decide) rfl (by kernel_rfl) (by kernel_rfl) ?_
  go_simp
  refine (putTexts_any A12 n12 c12 _ A2 n2 c2 l2 w12 HO12.out hc12 (HT.out.below HP12.out.bel (Nat.le_refl _) |>.more HP12.out.bel.size) H64.out (by omega)).mono ?_
  rintro e w11 ⟨A11, n11, c11, rfl, hr11, hc11', hb11⟩
  dsimp only
  have HP11 := Lib.hid (HP12.out.step hb11)
  have HO11 := Lib.hid hr11
  have hc11 : n11 ≤ c11 := hc11'
  have hn11 : n11 ≤ 1866 := (by have h := hr11.len; have h2 := many_74 l2 H64.out; have h3 := HO12.out.len; have h4 := HT.out.len; rw [List.length_append, h3] at h; omega)
  have r1 := str_of w11 _ A3 n3 c3 l3 (HR.out.below HP11.out.bel (Nat.le_refl _))
  clear hr11 hb11
  refine ⟨HP11.out.box, ?_⟩
  try simp only [Act.put, List.setIfInBounds_toArray, List.set_cons_zero, List.set_cons_succ]
  refine stepQ HOPS 8 511 ?_ (by decide) rfl (by kernel_rfl) (by kernel_rfl) rfl ?_ HP11.out.box ?_
  rotate_left
  · intro w9 hS9; obtain ⟨q0, q1, q2, q3, q4, q5, q6, q7⟩ := hS9; go_simp; (first | done | with_reducible rfl)
  try simp only [Act.put, List.setIfInBounds_toArray, List.set_cons_zero, List.set_cons_succ]
  refine stepE HOPS (by kernel_rfl) (HQ.out _ _ ?_)
  clear HQ HOPS
  clear Q ops
  obtain ⟨_, q1, _, q3, q4, q5, q6, q7⟩ := HP11.out.box
  go_wp2_with (go_at_call 37; (with_reducible refine (PutText_any A11 n11 c11 ⟨l3.toArray⟩ _ _ w11 HO11.out (Nat.le_refl _) (by omega) (Nat.le_trans HB3.out (by omega))).mono ?_); rintro e w10 ⟨A10, n10, c10, rfl, hown10, hb10⟩; have HP10 := Lib.hid (HP11.out.step hb10); have HO10 := Lib.hid hown10.rd; have hc10 : n10 ≤ c10 := hown10.cap; clear hown10 hb10; obtain ⟨_, q1, _, q3, q4, q5, q6, q7⟩ := HP10.out.box)
  go_ret2
  have HEQ := Lib.hid (putr_eq ⟨(K : Int), (V : Int), i, E, t, l1, l2, l3⟩)
  refine ⟨A10, n10, c10, rfl, ?_, hc10, HP10.out.bel⟩
  have h := HO10.out
  show Rd _ _ _ _ (respC.put ⟨(K : Int), (V : Int), i, E, t, l1, l2, l3⟩)
  rw [HEQ.out]
  simp only [Int.toNat_natCast]
  rw [wait_put0 (v := (V : Int)) (by have := HV.out; omega)]
  simpa [List.append_assoc, HI.out.len, HT.out.len, HL3.out, show (ByteArray.mk l3.toArray).size = l3.length by simp [ByteArray.size]] using h
theorem PutResp_any (k v i E t : Int) (A1 : Option Addr) (n1 c1 : Nat) (l1 : List Int) (A2 : Option Addr) (n2 c2 : Nat) (l2 : List ByteArray) (A3 : Option Addr) (n3 c3 : Nat) (l3 : List UInt8) (w : World) (hI : RdL w w.heap.size A1 n1 l1) (hn1 : n1 ≤ 140737488351232) (hT : RdL w w.heap.size A2 n2 l2) (hn2 : n2 ≤ 140737488351232) (hR : Rd w w.heap.size A3 n3 l3) (hn3 : n3 ≤ 140737488351232) :
    Calls Tryd.prog 22 #[.agg #[.int .i64 k, .int .i64 v, .int .i64 i, .int .i64 E, .int .i64 t, .slice A1 n1 c1, .slice A2 n2 c2, .slice A3 n3 c3]] w (PQR w (ptP ⟨k, v, i, E, t, l1, l2, l3⟩)) := by
  unfold ptP
  by_cases hck : ckP ⟨k, v, i, E, t, l1, l2, l3⟩ = 0
  · rw [if_pos hck]
    by_cases hv : 1 ≤ v
    · exact PutResp_v k v i E t A1 n1 c1 l1 A2 n2 c2 l2 A3 n3 c3 l3 w hI hn1 hT hn2 hR hn3 hck hv
    · exact PutResp_n k v i E t A1 n1 c1 l1 A2 n2 c2 l2 A3 n3 c3 l3 w hI hn1 hT hn2 hR hn3 hck hv
  · rw [if_neg hck]
    exact PutResp_no k v i E t A1 n1 c1 l1 A2 n2 c2 l2 A3 n3 c3 l3 w hI hn1 hT hn2 hR hn3 rfl hck
end Go.Proofs.YthhdhdjdhekgpaaDoor.Pro
