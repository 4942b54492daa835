/- Joined: ProP2. -/
import Derived.Test.YthhdhdjdhekgpaaDoorProC
import Derived.Test.YthhdhdjdhekgpaaDoorProP1
import Derived.Test.YthhdhdjdhekgpaaDoorProW
import Derived.Test.YthhdhdjdhekgpaaDoorInC
/- The contract of the landed PutReq. -/
namespace Go.Proofs.YthhdhdjdhekgpaaDoor.Pro
open Go.RowKit Go.Proofs.YthhdhdjdhekgpaaDoor.Oct Go.Proofs.YthhdhdjdhekgpaaDoor.Rec Go.Proofs.YthhdhdjdhekgpaaDoor.Cod Go.Proofs.YthhdhdjdhekgpaaDoor.Lay Go.Proofs.YthhdhdjdhekgpaaDoor.RowF Go.Proofs.YthhdhdjdhekgpaaDoor.InR

/-- what PutReq and PutResp answer -/
def PQR (w : World) (x : List UInt8 × Int) (en : Ending) (w' : World) : Prop :=
  ∃ A n c, en = .returned (.tuple #[.slice A n c, .int .i64 x.2]) ∧ Rd w' w'.heap.size A n x.1 ∧ n ≤ c ∧ Below w.heap.size w w'
/-- a kind's row in a box -/
def ShpC (W : World) (h : Nat) (a b c d : Int) : Prop := W.cell? ⟨h, 0, none⟩ = some (.int .i64 a) ∧ W.cell? ⟨h, 1, none⟩ = some (.int .i64 b) ∧ W.cell? ⟨h, 2, none⟩ = some (.int .i64 c) ∧ W.cell? ⟨h, 3, none⟩ = some (.int .i64 d)
theorem ShpC_new (w : World) (t : TypeId) (a b c d : Int) : ShpC (w.alloc (.cells #[.int .i64 a, .int .i64 b, .int .i64 c, .int .i64 d] t)) w.heap.size a b c d := by
  refine ⟨?_, ?_, ?_, ?_⟩ <;> rw [cell_of_row _ _ _ _ t (0, 0) (heap_alloc_new w _)] <;> rfl
theorem ShpC_below {W W' : World} {h : Nat} {a b c d : Int} (k : ShpC W h a b c d) (hb : Below W.heap.size W W') (hh : h < W.heap.size) : ShpC W' h a b c d :=
  ⟨(hb.cell (p := ⟨h, 0, none⟩) hh).trans k.1, (hb.cell (p := ⟨h, 1, none⟩) hh).trans k.2.1, (hb.cell (p := ⟨h, 2, none⟩) hh).trans k.2.2.1, (hb.cell (p := ⟨h, 3, none⟩) hh).trans k.2.2.2⟩
/-- all that a call keeps of a request and its kind's row -/
def PQ (w : World) (h : Nat) (k v i : Int) (s : ByteArray) (a b c : Value) (m0 m1 m2 m3 : Int) (W : World) : Prop :=
  BoxQ W w.heap.size k v i s a b c ∧ ShpC W h m0 m1 m2 m3 ∧ Below w.heap.size w W ∧ w.heap.size < W.heap.size ∧ h < W.heap.size
theorem PQ.step {w W W' : World} {h : Nat} {k v i m0 m1 m2 m3 : Int} {s : ByteArray} {a b c : Value} (H : PQ w h k v i s a b c m0 m1 m2 m3 W) (hb : Below W.heap.size W W') : PQ w h k v i s a b c m0 m1 m2 m3 W' :=
  ⟨BoxQ_below H.1 hb H.2.2.2.1, ShpC_below H.2.1 hb H.2.2.2.2, H.2.2.1.trans (hb.mono (Nat.le_of_lt H.2.2.2.1)), Nat.lt_of_lt_of_le H.2.2.2.1 hb.size, Nat.lt_of_lt_of_le H.2.2.2.2 hb.size⟩
theorem PQ.drew {w W : World} {h : Nat} {k v i m0 m1 m2 m3 : Int} {s : ByteArray} {a b c : Value} (H : PQ w h k v i s a b c m0 m1 m2 m3 W) : PQ w h k v i s a b c m0 m1 m2 m3 W.drew :=
  ⟨H.1, H.2.1, H.2.2.1.drew, H.2.2.2.1, H.2.2.2.2⟩
theorem PQ.bel {w W : World} {h : Nat} {k v i m0 m1 m2 m3 : Int} {s : ByteArray} {a b c : Value} (H : PQ w h k v i s a b c m0 m1 m2 m3 W) : Below w.heap.size w W := H.2.2.1
theorem put_eq (r : Rq) : reqC.put r = [UInt8.ofNat r.kind.toNat, UInt8.ofNat r.ver.toNat] ++ vb (zz r.id) ++ (whoC r.ver).put r.who ++ putMany cvar r.ints ++ (textsC r.kind).put r.texts ++ (blobC r.kind).put r.blob := by
  rw [reqC_put]
  unfold tailQ
  simp only [List.append_assoc, List.cons_append, List.nil_append]
  rfl
theorem who_put2 (s : ByteArray) : (whoC 2).put s = vb (zz s.size) ++ s.data.toList := by unfold whoC; rw [if_pos rfl]; rfl
theorem who_put0 {v : Int} (h : v ≠ 2) (s : ByteArray) : (whoC v).put s = [] := by unfold whoC; rw [if_neg h]; rfl
theorem texts_put7 (l : List ByteArray) : (textsC 7).put l = vb (zz (l.length : Int)) ++ putMany txt64 l := by unfold textsC; rw [if_pos rfl]; exact ccount_put l
theorem texts_put0 {k : Int} (h : k ≠ 7) (l : List ByteArray) : (textsC k).put l = putMany txt64 l := by unfold textsC; rw [if_neg h]; rfl
theorem blob_put2 (l : List UInt8) : (blobC 2).put l = vb (zz (l.length : Int)) ++ l := by unfold blobC; rw [if_pos rfl]; exact cblob_put l
theorem blob_put0 {k : Int} (h : k ≠ 2) (l : List UInt8) : (blobC k).put l = [] := by unfold blobC; rw [if_neg h]; rfl
theorem many_ten (L : List Int) (h : ∀ x ∈ L, -9223372036854775808 ≤ x ∧ x ≤ 9223372036854775807) : (putMany cvar L).length ≤ 10 * L.length := by
  induction L with
  | nil => simp [putMany]
  | cons x L ih =>
    have h1 := ih fun y hy => h y (by simp [hy])
    have h2 := vb_ten (zz_lt (n := x) (h x (by simp)))
    rw [putMany_cons, List.length_append, List.length_cons]
    have h3 : (cvar.put x).length ≤ 10 := h2
    omega
theorem many_74 (L : List ByteArray) (h : ∀ x ∈ L, x.size ≤ 64) : (putMany txt64 L).length ≤ 74 * L.length := by
  induction L with
  | nil => simp [putMany]
  | cons x L ih =>
    have h1 := ih fun y hy => h y (by simp [hy])
    have h4 := h x (by simp)
    have h2 := vb_ten (zz_lt (n := (x.size : Int)) (by omega))
    have h5 : x.data.toList.length = x.size := by rw [Array.length_toList]; rfl
    rw [putMany_cons, List.length_append, List.length_cons]
    have h3 : (txt64.put x).length = (vb (zz (x.size : Int))).length + x.size := by show (vb (zz (x.size : Int)) ++ x.data.toList).length = _; rw [List.length_append, h5]
    omega
set_option maxRecDepth 100000 in
set_option maxHeartbeats 1000000 in
theorem PutReq_no (k v i : Int) (s : ByteArray) (A1 : Option Addr) (n1 c1 : Nat) (l1 : List Int) (A2 : Option Addr) (n2 c2 : Nat) (l2 : List ByteArray) (A3 : Option Addr) (n3 c3 : Nat) (l3 : List UInt8) (w : World) (hI : RdL w w.heap.size A1 n1 l1) (hn1 : n1 ≤ 140737488351232) (hT : RdL w w.heap.size A2 n2 l2) (hn2 : n2 ≤ 140737488351232) (hs47 : s.size ≤ 140737488351232) (hR : Rd w w.heap.size A3 n3 l3) (hn3 : n3 ≤ 140737488351232) (ht : Tab w) {z : Int} (hck : ckQ ⟨k, v, i, s, l1, l2, l3⟩ = z) (hz : z ≠ 0) :
    Calls Tryd.prog 14 #[.agg #[.int .i64 k, .int .i64 v, .int .i64 i, .string s, .slice A1 n1 c1, .slice A2 n2 c2, .slice A3 n3 c3]] w (PQR w ([], z)) := by
  have HI := Lib.hid hI
  have HT := Lib.hid hT
  have HR := Lib.hid hR
  have HTB := Lib.hid ht
  have HL3 := Lib.hid hR.len
  have HCK := Lib.hid hck
  have HW1 := Lib.hid (bel_alloc (Below.refl w.heap.size w) (.cells #[.int .i64 k, .int .i64 v, .int .i64 i, .string s, .slice A1 n1 c1, .slice A2 n2 c2, .slice A3 n3 c3] 26))
  clear hI hT hR ht hck
  have hzN : (z != 0) = true := by simp [hz]
  clear hz
  go_enter Tryd.func14, Tryd.ntmps14
  go_wp2_with (go_at_call 18; (with_reducible refine (CheckReq_any k v i s A1 n1 c1 l1 A2 n2 c2 l2 A3 n3 c3 l3 _ (HI.out.below HW1.out (Nat.le_refl _) |>.more HW1.out.size) hn1 (HT.out.below HW1.out (Nat.le_refl _) |>.more HW1.out.size) hn2 hs47 hn3 HL3.out (HTB.out.bel HW1.out)).mono ?_); rw [HCK.out]; rintro e w9 ⟨rfl, hb9⟩; have HW9 := Lib.hid (HW1.out.trans (hb9.mono HW1.out.size)); clear hb9)
  go_ret2
  exact ⟨none, 0, 0, rfl, Rd.nil, Nat.le_refl _, HW9.out⟩
set_option maxRecDepth 100000 in
set_option maxHeartbeats 4000000 in
theorem PutReq_vn (k v i : Int) (s : ByteArray) (A1 : Option Addr) (n1 c1 : Nat) (l1 : List Int) (A2 : Option Addr) (n2 c2 : Nat) (l2 : List ByteArray) (A3 : Option Addr) (n3 c3 : Nat) (l3 : List UInt8) (w : World) (hI : RdL w w.heap.size A1 n1 l1) (hn1 : n1 ≤ 140737488351232) (hT : RdL w w.heap.size A2 n2 l2) (hn2 : n2 ≤ 140737488351232) (hs47 : s.size ≤ 140737488351232) (hR : Rd w w.heap.size A3 n3 l3) (hn3 : n3 ≤ 140737488351232) (ht : Tab w) (hck : ckQ ⟨k, v, i, s, l1, l2, l3⟩ = 0) (hk7 : k ≠ 7) (hk2 : k ≠ 2) (hv : v = 2) :
    Calls Tryd.prog 14 #[.agg #[.int .i64 k, .int .i64 v, .int .i64 i, .string s, .slice A1 n1 c1, .slice A2 n2 c2, .slice A3 n3 c3]] w (PQR w (reqC.put ⟨k, v, i, s, l1, l2, l3⟩, 0)) := by
  have hok := ckQ_iff.1 hck
  obtain ⟨⟨hkk, hvv⟩, ⟨hi0, hi1⟩, hs64, hsv, hn1K, hints, ⟨hn2a, hn2b⟩, htx, hn3B⟩ := (⟨known_iff.1 hok.1, hok.2⟩ : ((1 ≤ k ∧ k ≤ 12) ∧ 0 ≤ v ∧ v ≤ 2) ∧ OkQ ⟨k, v, i, s, l1, l2, l3⟩)
  clear hok
  simp only at hi0 hi1 hs64 hsv hn1K hints hn2a hn2b htx hn3B
  rw [hI.len] at hn1K
  rw [hT.len] at hn2a hn2b
  rw [hR.len] at hn3B
  obtain ⟨K, rfl⟩ : ∃ K : Nat, k = (K : Int) := ⟨k.toNat, by omega⟩
  obtain ⟨V, rfl⟩ : ∃ V : Nat, v = (V : Int) := ⟨v.toNat, by omega⟩
  have hnI := nI_in (k := (K : Int)) (by omega)
  have hnT := nT_in (k := (K : Int)) (by omega)
  have hmT := mT_in (K : Int)
  have hmB := mB_in (K : Int)
  have hn1' : n1 ≤ 5 := by omega
  have hn2' : n2 ≤ 15 := by omega
  have hn3' : n3 ≤ 2048 := by omega
  have H64 := Lib.hid htx
  have hK2 : K < 13 := by omega
  have hge : (2 : Int) ≤ (V : Int) := by omega
  have hm1 : ¬ 0 < mT (K : Int) := by unfold mT; rw [if_neg hk7]; omega
  have hm2 : ¬ 0 < mB (K : Int) := by unfold mB; rw [if_neg hk2]; omega
  have HK7 := Lib.hid hk7
  have HK2 := Lib.hid hk2
  have HV := Lib.hid hv
  have HI := Lib.hid hI
  have HT := Lib.hid hT
  have HR := Lib.hid hR
  have HTB := Lib.hid ht
  have HL3 := Lib.hid hR.len
  have HCK := Lib.hid hck
  have HW1 := Lib.hid (bel_alloc (Below.refl w.heap.size w) (.cells #[.int .i64 (K : Int), .int .i64 (V : Int), .int .i64 i, .string s, .slice A1 n1 c1, .slice A2 n2 c2, .slice A3 n3 c3] 26))
  clear hI hT hR ht hck
  have hmx : Tryd.prog.follows .mixedOrders = true := by kernel_rfl
  have HIN := Lib.hid (fun x (hx : x ∈ l1) => (show -9223372036854775808 ≤ x ∧ x ≤ 9223372036854775807 by have := hints x hx; omega))
  clear hv hn1K hn2a hn2b hn3B hsv htx hints hnI hnT hmT hmB hk7 hk2
  go_enter Tryd.func14, Tryd.ntmps14
  go_wp2_with (go_at_call 18; (with_reducible refine (CheckReq_any (K : Int) (V : Int) i s A1 n1 c1 l1 A2 n2 c2 l2 A3 n3 c3 l3 _ (HI.out.below HW1.out (Nat.le_refl _) |>.more HW1.out.size) hn1 (HT.out.below HW1.out (Nat.le_refl _) |>.more HW1.out.size) hn2 hs47 hn3 HL3.out (HTB.out.bel HW1.out)).mono ?_); rw [HCK.out]; rintro e w9 ⟨rfl, hb9⟩; have HB9 := Lib.hid (HW1.out.trans (hb9.mono HW1.out.size)); have HX9 := Lib.hid (BoxQ_below (BoxQ_new w 26 (K : Int) (V : Int) i s (.slice A1 n1 c1) (.slice A2 n2 c2) (.slice A3 n3 c3)) hb9 (by simp)); have hlt9 : w.heap.size < w9.heap.size := Nat.lt_of_lt_of_le (by simp) hb9.size; have q0 := HX9.out.1; have t0 := (HTB.out.bel HB9.out).c0 hK2; have t1 := (HTB.out.bel HB9.out).c1 hK2; have t2 := (HTB.out.bel HB9.out).c2 hK2; have t3 := (HTB.out.bel HB9.out).c3 hK2; clear hb9)
  have HP := Lib.hid (show PQ w w9.heap.size (K : Int) (V : Int) i s (.slice A1 n1 c1) (.slice A2 n2 c2) (.slice A3 n3 c3) (nI (K : Int)) (nT (K : Int)) (mT (K : Int)) (mB (K : Int)) (w9.alloc (.cells #[.int .i64 (nI (K : Int)), .int .i64 (nT (K : Int)), .int .i64 (mT (K : Int)), .int .i64 (mB (K : Int))] 57)) from ⟨BoxQ_below HX9.out (bel_alloc (Below.refl _ _) _) hlt9, ShpC_new w9 _ _ _ _ _, HB9.out.trans (((Below.refl _ _).alloc (Nat.le_of_lt hlt9) _)), by simp; omega, by simp⟩)
  clear q0 t0 t1 t2 t3
  generalize (w9.alloc (.cells #[.int .i64 (nI (K : Int)), .int .i64 (nT (K : Int)), .int .i64 (mT (K : Int)), .int .i64 (mB (K : Int))] 57)) = w8 at HP ⊢
  have HP8 := Lib.hid HP.out.drew
  clear HP
  refine region_let (fun W9 : World => BoxQ W9 w.heap.size (K : Int) (V : Int) i s (.slice A1 n1 c1) (.slice A2 n2 c2) (.slice A3 n3 c3)) 99 9 hmx rfl fun ops Q HOPS HQ => ?_
  refine stepQ HOPS 0 1 ?_ (by decide) rfl (by kernel_rfl) (by kernel_rfl) rfl ?_ HP8.out.1 ?_
  rotate_left
  · intro w9 hS9; obtain ⟨q0, q1, q2, q3, q4, q5, q6⟩ := hS9; go_simp; (first | done | with_reducible rfl)
  try simp only [Act.put, List.setIfInBounds_toArray, List.set_cons_zero, List.set_cons_succ]
  refine stepQ HOPS 1 3 ?_ (by decide) rfl (by kernel_rfl) (by kernel_rfl) rfl ?_ HP8.out.1 ?_
  rotate_left
  · intro w9 hS9; obtain ⟨q0, q1, q2, q3, q4, q5, q6⟩ := hS9; go_simp; (first | done | with_reducible rfl)
  try simp only [Act.put, List.setIfInBounds_toArray, List.set_cons_zero, List.set_cons_succ]
  refine stepQ HOPS 2 7 ?_ (by decide) rfl (by kernel_rfl) (by kernel_rfl) rfl ?_ HP8.out.1 ?_
  rotate_left
  · intro w9 hS9; obtain ⟨q0, q1, q2, q3, q4, q5, q6⟩ := hS9; go_simp; (first | done | with_reducible rfl)
  try simp only [Act.put, List.setIfInBounds_toArray, List.set_cons_zero, List.set_cons_succ]
  refine stepQ HOPS 3 15 ?_ (by decide) rfl (by kernel_rfl) (by kernel_rfl) rfl ?_ HP8.out.1 ?_
  rotate_left
  · intro w9 hS9; obtain ⟨q0, q1, q2, q3, q4, q5, q6⟩ := hS9; go_simp; (first | done | with_reducible rfl)
  try simp only [Act.put, List.setIfInBounds_toArray, List.set_cons_zero, List.set_cons_succ]
  refine stepQ HOPS 5 47 ?_ (by decide) rfl (by kernel_rfl) (by kernel_rfl) rfl ?_ HP8.out.1 ?_
  rotate_left
  · intro w9 hS9; obtain ⟨q0, q1, q2, q3, q4, q5, q6⟩ := hS9; go_simp; (first | done | with_reducible rfl)
  try simp only [Act.put, List.setIfInBounds_toArray, List.set_cons_zero, List.set_cons_succ]
  refine stepQ HOPS 6 111 ?_ (by decide) rfl (by kernel_rfl) (by kernel_rfl) rfl ?_ HP8.out.1 ?_
  rotate_left
  · intro w9 hS9; obtain ⟨q0, q1, q2, q3, q4, q5, q6⟩ := hS9; go_simp; (first | done | with_reducible rfl)
  try simp only [Act.put, List.setIfInBounds_toArray, List.set_cons_zero, List.set_cons_succ]
  refine stepC HOPS 4 127 (by decide) rfl (by kernel_rfl) (by kernel_rfl) ?_
  go_simp
  refine (putHead_any K V (by omega) (by omega) _).mono ?_
  rintro e w17 ⟨A17, n17, c17, rfl, hown17, hb17⟩
  dsimp only
  have HP17 := Lib.hid (HP8.out.step hb17)
  have hn17 : n17 ≤ 2 := by have h := hown17.len; simp at h; omega
  have HO17 := Lib.hid hown17
  clear hown17 hb17
  refine ⟨HP17.out.1, ?_⟩
  try simp only [Act.put, List.setIfInBounds_toArray, List.set_cons_zero, List.set_cons_succ]
  refine stepC HOPS 7 255 (by decide) rfl (by kernel_rfl) (by kernel_rfl) ?_
  go_simp
  refine (PutVar_any A17 n17 c17 i _ _ w17 HO17.out.rd (Nat.le_refl _) (by omega) (by omega) (by omega)).mono ?_
  rintro e w16 ⟨A16, n16, c16, rfl, hown16, hb16⟩
  dsimp only
  have HP16 := Lib.hid (HP17.out.step hb16)
  have hn16 : n16 ≤ 12 := by have h := hown16.len; have h2 := vb_ten (zz_lt (n := i) (by omega)); have h3 := HO17.out.len; rw [List.length_append, h3] at h; omega
  have HO16 := Lib.hid hown16.rd
  have hc16 : n16 ≤ c16 := hown16.cap
  clear hown16 hb16
  refine ⟨HP16.out.1, ?_⟩
  try simp only [Act.put, List.setIfInBounds_toArray, List.set_cons_zero, List.set_cons_succ]
  refine stepQ HOPS 8 511 ?_ (by decide) rfl (by kernel_rfl) (by kernel_rfl) rfl ?_ HP16.out.1 ?_
  rotate_left
  · intro w9 hS9; obtain ⟨q0, q1, q2, q3, q4, q5, q6⟩ := hS9; go_simp; (first | done | with_reducible rfl)
  try simp only [Act.put, List.setIfInBounds_toArray, List.set_cons_zero, List.set_cons_succ]
  refine stepE HOPS (by kernel_rfl) (HQ.out _ _ ?_)
  clear HQ HOPS
  clear Q ops
  obtain ⟨⟨_, q1, _, q3, q4, q5, q6⟩, ⟨_, _, s2, s3⟩, _⟩ := HP16.out
  have hI64 : ∀ x ∈ l1, -9223372036854775808 ≤ x ∧ x ≤ 9223372036854775807 := fun x hx => HIN.out x hx
  go_wp2_with (first
    | (go_at_call 39; (with_reducible refine (putTexts_any A14 n14 c14 _ A2 n2 c2 l2 w14 HO14.out hc14 (HT.out.below HP14.out.bel (Nat.le_refl _) |>.more HP14.out.bel.size) H64.out (by omega)).mono ?_); rintro e w13 ⟨A13, n13, c13, rfl, hr13, hc13, hb13⟩; have HP13 := Lib.hid (HP14.out.step hb13); have HO13 := Lib.hid hr13; have hc13 : n13 ≤ c13 := hc13; have hn13 : n13 ≤ 1246 := (by have h := hr13.len; have h2 := many_74 l2 H64.out; have h3 := HO14.out.len; have h4 := HT.out.len; rw [List.length_append, h3] at h; omega); obtain ⟨⟨_, q1, _, q3, q4, q5, q6⟩, ⟨_, _, s2, s3⟩, _⟩ := HP13.out)
    | (go_at_call 38; (with_reducible refine (putNumbers_any A15 n15 c15 _ A1 n1 c1 l1 w15 HO15.out hc15 (HI.out.below HP15.out.bel (Nat.le_refl _) |>.more HP15.out.bel.size) (by omega)).mono ?_); rintro e w14 ⟨A14, n14, c14, rfl, hr14, hc14, hb14⟩; have HP14 := Lib.hid (HP15.out.step hb14); have HO14 := Lib.hid hr14; have hc14 : n14 ≤ c14 := hc14; have hn14 : n14 ≤ 136 := (by have h := hr14.len; have h2 := many_ten l1 hI64; have h3 := HO15.out.len; have h4 := HI.out.len; rw [List.length_append, h3] at h; omega); obtain ⟨⟨_, q1, _, q3, q4, q5, q6⟩, ⟨_, _, s2, s3⟩, _⟩ := HP14.out)
    | (go_at_call 37; (with_reducible refine (PutText_any A16 n16 c16 s _ _ w16 HO16.out (Nat.le_refl _) (by omega) (by omega)).mono ?_); rintro e w15 ⟨A15, n15, c15, rfl, hown15, hb15⟩; have HP15 := Lib.hid (HP16.out.step hb15); have HO15 := Lib.hid hown15.rd; have hc15 : n15 ≤ c15 := hown15.cap; have hn15 : n15 ≤ 86 := (by have h := hown15.len; have h2 := vb_ten (zz_lt (n := (s.size : Int)) (by omega)); have h3 := HO16.out.len; have h4 : s.data.toList.length = s.size := (by rw [Array.length_toList]; rfl); rw [List.length_append, List.length_append, h3, h4] at h; omega); obtain ⟨⟨_, q1, _, q3, q4, q5, q6⟩, ⟨_, _, s2, s3⟩, _⟩ := HP15.out))
  go_ret2
  have HEQ := Lib.hid (put_eq ⟨(K : Int), (V : Int), i, s, l1, l2, l3⟩)
  refine ⟨A13, n13, c13, rfl, ?_, hc13, HP13.out.bel⟩
  have h := HO13.out
  show Rd _ _ _ _ (reqC.put ⟨(K : Int), (V : Int), i, s, l1, l2, l3⟩)
  rw [HEQ.out]
  simp only [Int.toNat_natCast]
  rw [HV.out]
  rw [who_put2, texts_put0 HK7.out, blob_put0 HK2.out]
  simpa [List.append_assoc] using h
set_option maxRecDepth 100000 in
set_option maxHeartbeats 4000000 in
theorem PutReq_v7 (k v i : Int) (s : ByteArray) (A1 : Option Addr) (n1 c1 : Nat) (l1 : List Int) (A2 : Option Addr) (n2 c2 : Nat) (l2 : List ByteArray) (A3 : Option Addr) (n3 c3 : Nat) (l3 : List UInt8) (w : World) (hI : RdL w w.heap.size A1 n1 l1) (hn1 : n1 ≤ 140737488351232) (hT : RdL w w.heap.size A2 n2 l2) (hn2 : n2 ≤ 140737488351232) (hs47 : s.size ≤ 140737488351232) (hR : Rd w w.heap.size A3 n3 l3) (hn3 : n3 ≤ 140737488351232) (ht : Tab w) (hck : ckQ ⟨k, v, i, s, l1, l2, l3⟩ = 0) (hk : k = 7) (hv : v = 2) :
    Calls Tryd.prog 14 #[.agg #[.int .i64 k, .int .i64 v, .int .i64 i, .string s, .slice A1 n1 c1, .slice A2 n2 c2, .slice A3 n3 c3]] w (PQR w (reqC.put ⟨k, v, i, s, l1, l2, l3⟩, 0)) := by
  have hok := ckQ_iff.1 hck
  obtain ⟨⟨hkk, hvv⟩, ⟨hi0, hi1⟩, hs64, hsv, hn1K, hints, ⟨hn2a, hn2b⟩, htx, hn3B⟩ := (⟨known_iff.1 hok.1, hok.2⟩ : ((1 ≤ k ∧ k ≤ 12) ∧ 0 ≤ v ∧ v ≤ 2) ∧ OkQ ⟨k, v, i, s, l1, l2, l3⟩)
  clear hok
  simp only at hi0 hi1 hs64 hsv hn1K hints hn2a hn2b htx hn3B
  rw [hI.len] at hn1K
  rw [hT.len] at hn2a hn2b
  rw [hR.len] at hn3B
  obtain ⟨K, rfl⟩ : ∃ K : Nat, k = (K : Int) := ⟨k.toNat, by omega⟩
  obtain ⟨V, rfl⟩ : ∃ V : Nat, v = (V : Int) := ⟨v.toNat, by omega⟩
  have hnI := nI_in (k := (K : Int)) (by omega)
  have hnT := nT_in (k := (K : Int)) (by omega)
  have hmT := mT_in (K : Int)
  have hmB := mB_in (K : Int)
  have hn1' : n1 ≤ 5 := by omega
  have hn2' : n2 ≤ 15 := by omega
  have hn3' : n3 ≤ 2048 := by omega
  have H64 := Lib.hid htx
  have hK2 : K < 13 := by omega
  have hge : (2 : Int) ≤ (V : Int) := by omega
  have hm1 : 0 < mT (K : Int) := by rw [hk]; decide
  have hm2 : ¬ 0 < mB (K : Int) := by rw [hk]; decide
  have HK := Lib.hid hk
  have HV := Lib.hid hv
  have HI := Lib.hid hI
  have HT := Lib.hid hT
  have HR := Lib.hid hR
  have HTB := Lib.hid ht
  have HL3 := Lib.hid hR.len
  have HCK := Lib.hid hck
  have HW1 := Lib.hid (bel_alloc (Below.refl w.heap.size w) (.cells #[.int .i64 (K : Int), .int .i64 (V : Int), .int .i64 i, .string s, .slice A1 n1 c1, .slice A2 n2 c2, .slice A3 n3 c3] 26))
  clear hI hT hR ht hck
  have hmx : Tryd.prog.follows .mixedOrders = true := by kernel_rfl
  have HIN := Lib.hid (fun x (hx : x ∈ l1) => (show -9223372036854775808 ≤ x ∧ x ≤ 9223372036854775807 by have := hints x hx; omega))
  clear hv hn1K hn2a hn2b hn3B hsv htx hints hnI hnT hmT hmB hk
  go_enter Tryd.func14, Tryd.ntmps14
  go_wp2_with (go_at_call 18; (with_reducible refine (CheckReq_any (K : Int) (V : Int) i s A1 n1 c1 l1 A2 n2 c2 l2 A3 n3 c3 l3 _ (HI.out.below HW1.out (Nat.le_refl _) |>.more HW1.out.size) hn1 (HT.out.below HW1.out (Nat.le_refl _) |>.more HW1.out.size) hn2 hs47 hn3 HL3.out (HTB.out.bel HW1.out)).mono ?_); rw [HCK.out]; rintro e w9 ⟨rfl, hb9⟩; have HB9 := Lib.hid (HW1.out.trans (hb9.mono HW1.out.size)); have HX9 := Lib.hid (BoxQ_below (BoxQ_new w 26 (K : Int) (V : Int) i s (.slice A1 n1 c1) (.slice A2 n2 c2) (.slice A3 n3 c3)) hb9 (by simp)); have hlt9 : w.heap.size < w9.heap.size := Nat.lt_of_lt_of_le (by simp) hb9.size; have q0 := HX9.out.1; have t0 := (HTB.out.bel HB9.out).c0 hK2; have t1 := (HTB.out.bel HB9.out).c1 hK2; have t2 := (HTB.out.bel HB9.out).c2 hK2; have t3 := (HTB.out.bel HB9.out).c3 hK2; clear hb9)
  have HP := Lib.hid (show PQ w w9.heap.size (K : Int) (V : Int) i s (.slice A1 n1 c1) (.slice A2 n2 c2) (.slice A3 n3 c3) (nI (K : Int)) (nT (K : Int)) (mT (K : Int)) (mB (K : Int)) (w9.alloc (.cells #[.int .i64 (nI (K : Int)), .int .i64 (nT (K : Int)), .int .i64 (mT (K : Int)), .int .i64 (mB (K : Int))] 57)) from ⟨BoxQ_below HX9.out (bel_alloc (Below.refl _ _) _) hlt9, ShpC_new w9 _ _ _ _ _, HB9.out.trans (((Below.refl _ _).alloc (Nat.le_of_lt hlt9) _)), by simp; omega, by simp⟩)
  clear q0 t0 t1 t2 t3
  generalize (w9.alloc (.cells #[.int .i64 (nI (K : Int)), .int .i64 (nT (K : Int)), .int .i64 (mT (K : Int)), .int .i64 (mB (K : Int))] 57)) = w8 at HP ⊢
  have HP8 := Lib.hid HP.out.drew
  clear HP
  refine region_let (fun W9 : World => BoxQ W9 w.heap.size (K : Int) (V : Int) i s (.slice A1 n1 c1) (.slice A2 n2 c2) (.slice A3 n3 c3)) 99 9 hmx rfl fun ops Q HOPS HQ => ?_
  refine stepQ HOPS 0 1 ?_ (by decide) rfl (by kernel_rfl) (by kernel_rfl) rfl ?_ HP8.out.1 ?_
  rotate_left
  · intro w9 hS9; obtain ⟨q0, q1, q2, q3, q4, q5, q6⟩ := hS9; go_simp; (first | done | with_reducible rfl)
  try simp only [Act.put, List.setIfInBounds_toArray, List.set_cons_zero, List.set_cons_succ]
  refine stepQ HOPS 1 3 ?_ (by decide) rfl (by kernel_rfl) (by kernel_rfl) rfl ?_ HP8.out.1 ?_
  rotate_left
  · intro w9 hS9; obtain ⟨q0, q1, q2, q3, q4, q5, q6⟩ := hS9; go_simp; (first | done | with_reducible rfl)
  try simp only [Act.put, List.setIfInBounds_toArray, List.set_cons_zero, List.set_cons_succ]
  refine stepQ HOPS 2 7 ?_ (by decide) rfl (by kernel_rfl) (by kernel_rfl) rfl ?_ HP8.out.1 ?_
  rotate_left
  · intro w9 hS9; obtain ⟨q0, q1, q2, q3, q4, q5, q6⟩ := hS9; go_simp; (first | done | with_reducible rfl)
  try simp only [Act.put, List.setIfInBounds_toArray, List.set_cons_zero, List.set_cons_succ]
  refine stepQ HOPS 3 15 ?_ (by decide) rfl (by kernel_rfl) (by kernel_rfl) rfl ?_ HP8.out.1 ?_
  rotate_left
  · intro w9 hS9; obtain ⟨q0, q1, q2, q3, q4, q5, q6⟩ := hS9; go_simp; (first | done | with_reducible rfl)
  try simp only [Act.put, List.setIfInBounds_toArray, List.set_cons_zero, List.set_cons_succ]
  refine stepQ HOPS 5 47 ?_ (by decide) rfl (by kernel_rfl) (by kernel_rfl) rfl ?_ HP8.out.1 ?_
  rotate_left
  · intro w9 hS9; obtain ⟨q0, q1, q2, q3, q4, q5, q6⟩ := hS9; go_simp; (first | done | with_reducible rfl)
  try simp only [Act.put, List.setIfInBounds_toArray, List.set_cons_zero, List.set_cons_succ]
  refine stepQ HOPS 6 111 ?_ (by decide) rfl (by kernel_rfl) (by kernel_rfl) rfl ?_ HP8.out.1 ?_
  rotate_left
  · intro w9 hS9; obtain ⟨q0, q1, q2, q3, q4, q5, q6⟩ := hS9; go_simp; (first | done | with_reducible rfl)
  try simp only [Act.put, List.setIfInBounds_toArray, List.set_cons_zero, List.set_cons_succ]
  refine stepC HOPS 4 127 (by decide) rfl (by kernel_rfl) (by kernel_rfl) ?_
  go_simp
  refine (putHead_any K V (by omega) (by omega) _).mono ?_
  rintro e w17 ⟨A17, n17, c17, rfl, hown17, hb17⟩
  dsimp only
  have HP17 := Lib.hid (HP8.out.step hb17)
  have hn17 : n17 ≤ 2 := by have h := hown17.len; simp at h; omega
  have HO17 := Lib.hid hown17
  clear hown17 hb17
  refine ⟨HP17.out.1, ?_⟩
  try simp only [Act.put, List.setIfInBounds_toArray, List.set_cons_zero, List.set_cons_succ]
  refine stepC HOPS 7 255 (by decide) rfl (by kernel_rfl) (by kernel_rfl) ?_
  go_simp
  refine (PutVar_any A17 n17 c17 i _ _ w17 HO17.out.rd (Nat.le_refl _) (by omega) (by omega) (by omega)).mono ?_
  rintro e w16 ⟨A16, n16, c16, rfl, hown16, hb16⟩
  dsimp only
  have HP16 := Lib.hid (HP17.out.step hb16)
  have hn16 : n16 ≤ 12 := by have h := hown16.len; have h2 := vb_ten (zz_lt (n := i) (by omega)); have h3 := HO17.out.len; rw [List.length_append, h3] at h; omega
  have HO16 := Lib.hid hown16.rd
  have hc16 : n16 ≤ c16 := hown16.cap
  clear hown16 hb16
  refine ⟨HP16.out.1, ?_⟩
  try simp only [Act.put, List.setIfInBounds_toArray, List.set_cons_zero, List.set_cons_succ]
  refine stepQ HOPS 8 511 ?_ (by decide) rfl (by kernel_rfl) (by kernel_rfl) rfl ?_ HP16.out.1 ?_
  rotate_left
  · intro w9 hS9; obtain ⟨q0, q1, q2, q3, q4, q5, q6⟩ := hS9; go_simp; (first | done | with_reducible rfl)
  try simp only [Act.put, List.setIfInBounds_toArray, List.set_cons_zero, List.set_cons_succ]
  refine stepE HOPS (by kernel_rfl) (HQ.out _ _ ?_)
  clear HQ HOPS
  clear Q ops
  obtain ⟨⟨_, q1, _, q3, q4, q5, q6⟩, ⟨_, _, s2, s3⟩, _⟩ := HP16.out
  have hI64 : ∀ x ∈ l1, -9223372036854775808 ≤ x ∧ x ≤ 9223372036854775807 := fun x hx => HIN.out x hx
  go_wp2_with (first
    | (go_at_call 39; (with_reducible refine (putTexts_any A13 n13 c13 _ A2 n2 c2 l2 w13 HO13.out hc13 (HT.out.below HP13.out.bel (Nat.le_refl _) |>.more HP13.out.bel.size) H64.out (by omega)).mono ?_); rintro e w12 ⟨A12, n12, c12, rfl, hr12, hc12, hb12⟩; have HP12 := Lib.hid (HP13.out.step hb12); have HO12 := Lib.hid hr12; have hc12 : n12 ≤ c12 := hc12; have hn12 : n12 ≤ 1256 := (by have h := hr12.len; have h2 := many_74 l2 H64.out; have h3 := HO13.out.len; have h4 := HT.out.len; rw [List.length_append, h3] at h; omega); obtain ⟨⟨_, q1, _, q3, q4, q5, q6⟩, ⟨_, _, s2, s3⟩, _⟩ := HP12.out)
    | (go_at_call 35; (with_reducible refine (PutVar_any A14 n14 c14 (n2 : Int) _ _ w14 HO14.out (Nat.le_refl _) (by omega) (by omega) (by omega)).mono ?_); rintro e w13 ⟨A13, n13, c13, rfl, hown13, hb13⟩; have HP13 := Lib.hid (HP14.out.step hb13); have HO13 := Lib.hid hown13.rd; have hc13 : n13 ≤ c13 := hown13.cap; have hn13 : n13 ≤ 146 := (by have h := hown13.len; have h2 := vb_ten (zz_lt (n := (n2 : Int)) (by omega)); have h3 := HO14.out.len; rw [List.length_append, h3] at h; omega); obtain ⟨⟨_, q1, _, q3, q4, q5, q6⟩, ⟨_, _, s2, s3⟩, _⟩ := HP13.out)
    | (go_at_call 38; (with_reducible refine (putNumbers_any A15 n15 c15 _ A1 n1 c1 l1 w15 HO15.out hc15 (HI.out.below HP15.out.bel (Nat.le_refl _) |>.more HP15.out.bel.size) (by omega)).mono ?_); rintro e w14 ⟨A14, n14, c14, rfl, hr14, hc14, hb14⟩; have HP14 := Lib.hid (HP15.out.step hb14); have HO14 := Lib.hid hr14; have hc14 : n14 ≤ c14 := hc14; have hn14 : n14 ≤ 136 := (by have h := hr14.len; have h2 := many_ten l1 hI64; have h3 := HO15.out.len; have h4 := HI.out.len; rw [List.length_append, h3] at h; omega); obtain ⟨⟨_, q1, _, q3, q4, q5, q6⟩, ⟨_, _, s2, s3⟩, _⟩ := HP14.out)
    | (go_at_call 37; (with_reducible refine (PutText_any A16 n16 c16 s _ _ w16 HO16.out (Nat.le_refl _) (by omega) (by omega)).mono ?_); rintro e w15 ⟨A15, n15, c15, rfl, hown15, hb15⟩; have HP15 := Lib.hid (HP16.out.step hb15); have HO15 := Lib.hid hown15.rd; have hc15 : n15 ≤ c15 := hown15.cap; have hn15 : n15 ≤ 86 := (by have h := hown15.len; have h2 := vb_ten (zz_lt (n := (s.size : Int)) (by omega)); have h3 := HO16.out.len; have h4 : s.data.toList.length = s.size := (by rw [Array.length_toList]; rfl); rw [List.length_append, List.length_append, h3, h4] at h; omega); obtain ⟨⟨_, q1, _, q3, q4, q5, q6⟩, ⟨_, _, s2, s3⟩, _⟩ := HP15.out))
  go_ret2
  have HEQ := Lib.hid (put_eq ⟨(K : Int), (V : Int), i, s, l1, l2, l3⟩)
  refine ⟨A12, n12, c12, rfl, ?_, hc12, HP12.out.bel⟩
  have h := HO12.out
  show Rd _ _ _ _ (reqC.put ⟨(K : Int), (V : Int), i, s, l1, l2, l3⟩)
  rw [HEQ.out]
  simp only [Int.toNat_natCast]
  rw [HK.out]
  rw [HV.out]
  rw [who_put2, texts_put7, blob_put0 (k := (7 : Int)) (by decide)]
  simpa [List.append_assoc, HT.out.len] using h
set_option maxRecDepth 100000 in
set_option maxHeartbeats 4000000 in
theorem PutReq_v2 (k v i : Int) (s : ByteArray) (A1 : Option Addr) (n1 c1 : Nat) (l1 : List Int) (A2 : Option Addr) (n2 c2 : Nat) (l2 : List ByteArray) (A3 : Option Addr) (n3 c3 : Nat) (l3 : List UInt8) (w : World) (hI : RdL w w.heap.size A1 n1 l1) (hn1 : n1 ≤ 140737488351232) (hT : RdL w w.heap.size A2 n2 l2) (hn2 : n2 ≤ 140737488351232) (hs47 : s.size ≤ 140737488351232) (hR : Rd w w.heap.size A3 n3 l3) (hn3 : n3 ≤ 140737488351232) (ht : Tab w) (hck : ckQ ⟨k, v, i, s, l1, l2, l3⟩ = 0) (hk : k = 2) (hv : v = 2) :
    Calls Tryd.prog 14 #[.agg #[.int .i64 k, .int .i64 v, .int .i64 i, .string s, .slice A1 n1 c1, .slice A2 n2 c2, .slice A3 n3 c3]] w (PQR w (reqC.put ⟨k, v, i, s, l1, l2, l3⟩, 0)) := by
  have hok := ckQ_iff.1 hck
  obtain ⟨⟨hkk, hvv⟩, ⟨hi0, hi1⟩, hs64, hsv, hn1K, hints, ⟨hn2a, hn2b⟩, htx, hn3B⟩ := (⟨known_iff.1 hok.1, hok.2⟩ : ((1 ≤ k ∧ k ≤ 12) ∧ 0 ≤ v ∧ v ≤ 2) ∧ OkQ ⟨k, v, i, s, l1, l2, l3⟩)
  clear hok
  simp only at hi0 hi1 hs64 hsv hn1K hints hn2a hn2b htx hn3B
  rw [hI.len] at hn1K
  rw [hT.len] at hn2a hn2b
  rw [hR.len] at hn3B
  obtain ⟨K, rfl⟩ : ∃ K : Nat, k = (K : Int) := ⟨k.toNat, by omega⟩
  obtain ⟨V, rfl⟩ : ∃ V : Nat, v = (V : Int) := ⟨v.toNat, by omega⟩
  have hnI := nI_in (k := (K : Int)) (by omega)
  have hnT := nT_in (k := (K : Int)) (by omega)
  have hmT := mT_in (K : Int)
  have hmB := mB_in (K : Int)
  have hn1' : n1 ≤ 5 := by omega
  have hn2' : n2 ≤ 15 := by omega
  have hn3' : n3 ≤ 2048 := by omega
  have H64 := Lib.hid htx
  have hK2 : K < 13 := by omega
  have hge : (2 : Int) ≤ (V : Int) := by omega
  have hm1 : ¬ 0 < mT (K : Int) := by rw [hk]; decide
  have hm2 : 0 < mB (K : Int) := by rw [hk]; decide
  have HK := Lib.hid hk
  have HV := Lib.hid hv
  have HB3 := Lib.hid (show (ByteArray.mk l3.toArray).size ≤ 2048 by have h := hR.len; show l3.toArray.size ≤ 2048; rw [List.size_toArray]; omega)
  have HI := Lib.hid hI
  have HT := Lib.hid hT
  have HR := Lib.hid hR
  have HTB := Lib.hid ht
  have HL3 := Lib.hid hR.len
  have HCK := Lib.hid hck
  have HW1 := Lib.hid (bel_alloc (Below.refl w.heap.size w) (.cells #[.int .i64 (K : Int), .int .i64 (V : Int), .int .i64 i, .string s, .slice A1 n1 c1, .slice A2 n2 c2, .slice A3 n3 c3] 26))
  clear hI hT hR ht hck
  have hmx : Tryd.prog.follows .mixedOrders = true := by kernel_rfl
  have HIN := Lib.hid (fun x (hx : x ∈ l1) => (show -9223372036854775808 ≤ x ∧ x ≤ 9223372036854775807 by have := hints x hx; omega))
  clear hv hn1K hn2a hn2b hn3B hsv htx hints hnI hnT hmT hmB hk
  go_enter Tryd.func14, Tryd.ntmps14
  go_wp2_with (go_at_call 18; (with_reducible refine (CheckReq_any (K : Int) (V : Int) i s A1 n1 c1 l1 A2 n2 c2 l2 A3 n3 c3 l3 _ (HI.out.below HW1.out (Nat.le_refl _) |>.more HW1.out.size) hn1 (HT.out.below HW1.out (Nat.le_refl _) |>.more HW1.out.size) hn2 hs47 hn3 HL3.out (HTB.out.bel HW1.out)).mono ?_); rw [HCK.out]; rintro e w9 ⟨rfl, hb9⟩; have HB9 := Lib.hid (HW1.out.trans (hb9.mono HW1.out.size)); have HX9 := Lib.hid (BoxQ_below (BoxQ_new w 26 (K : Int) (V : Int) i s (.slice A1 n1 c1) (.slice A2 n2 c2) (.slice A3 n3 c3)) hb9 (by simp)); have hlt9 : w.heap.size < w9.heap.size := Nat.lt_of_lt_of_le (by simp) hb9.size; have q0 := HX9.out.1; have t0 := (HTB.out.bel HB9.out).c0 hK2; have t1 := (HTB.out.bel HB9.out).c1 hK2; have t2 := (HTB.out.bel HB9.out).c2 hK2; have t3 := (HTB.out.bel HB9.out).c3 hK2; clear hb9)
  have HP := Lib.hid (show PQ w w9.heap.size (K : Int) (V : Int) i s (.slice A1 n1 c1) (.slice A2 n2 c2) (.slice A3 n3 c3) (nI (K : Int)) (nT (K : Int)) (mT (K : Int)) (mB (K : Int)) (w9.alloc (.cells #[.int .i64 (nI (K : Int)), .int .i64 (nT (K : Int)), .int .i64 (mT (K : Int)), .int .i64 (mB (K : Int))] 57)) from ⟨BoxQ_below HX9.out (bel_alloc (Below.refl _ _) _) hlt9, ShpC_new w9 _ _ _ _ _, HB9.out.trans (((Below.refl _ _).alloc (Nat.le_of_lt hlt9) _)), by simp; omega, by simp⟩)
  clear q0 t0 t1 t2 t3
  generalize (w9.alloc (.cells #[.int .i64 (nI (K : Int)), .int .i64 (nT (K : Int)), .int .i64 (mT (K : Int)), .int .i64 (mB (K : Int))] 57)) = w8 at HP ⊢
  have HP8 := Lib.hid HP.out.drew
  clear HP
  refine region_let (fun W9 : World => BoxQ W9 w.heap.size (K : Int) (V : Int) i s (.slice A1 n1 c1) (.slice A2 n2 c2) (.slice A3 n3 c3)) 99 9 hmx rfl fun ops Q HOPS HQ => ?_
  refine stepQ HOPS 0 1 ?_ (by decide) rfl (by kernel_rfl) (by kernel_rfl) rfl ?_ HP8.out.1 ?_
  rotate_left
  · intro w9 hS9; obtain ⟨q0, q1, q2, q3, q4, q5, q6⟩ := hS9; go_simp; (first | done | with_reducible rfl)
  try simp only [Act.put, List.setIfInBounds_toArray, List.set_cons_zero, List.set_cons_succ]
  refine stepQ HOPS 1 3 ?_ (by decide) rfl (by kernel_rfl) (by kernel_rfl) rfl ?_ HP8.out.1 ?_
  rotate_left
  · intro w9 hS9; obtain ⟨q0, q1, q2, q3, q4, q5, q6⟩ := hS9; go_simp; (first | done | with_reducible rfl)
  try simp only [Act.put, List.setIfInBounds_toArray, List.set_cons_zero, List.set_cons_succ]
  refine stepQ HOPS 2 7 ?_ (by decide) rfl (by kernel_rfl) (by kernel_rfl) rfl ?_ HP8.out.1 ?_
  rotate_left
  · intro w9 hS9; obtain ⟨q0, q1, q2, q3, q4, q5, q6⟩ := hS9; go_simp; (first | done | with_reducible rfl)
  try simp only [Act.put, List.setIfInBounds_toArray, List.set_cons_zero, List.set_cons_succ]
  refine stepQ HOPS 3 15 ?_ (by decide) rfl (by kernel_rfl) (by kernel_rfl) rfl ?_ HP8.out.1 ?_
  rotate_left
  · intro w9 hS9; obtain ⟨q0, q1, q2, q3, q4, q5, q6⟩ := hS9; go_simp; (first | done | with_reducible rfl)
  try simp only [Act.put, List.setIfInBounds_toArray, List.set_cons_zero, List.set_cons_succ]
  refine stepQ HOPS 5 47 ?_ (by decide) rfl (by kernel_rfl) (by kernel_rfl) rfl ?_ HP8.out.1 ?_
  rotate_left
  · intro w9 hS9; obtain ⟨q0, q1, q2, q3, q4, q5, q6⟩ := hS9; go_simp; (first | done | with_reducible rfl)
  try simp only [Act.put, List.setIfInBounds_toArray, List.set_cons_zero, List.set_cons_succ]
  refine stepQ HOPS 6 111 ?_ (by decide) rfl (by kernel_rfl) (by kernel_rfl) rfl ?_ HP8.out.1 ?_
  rotate_left
  · intro w9 hS9; obtain ⟨q0, q1, q2, q3, q4, q5, q6⟩ := hS9; go_simp; (first | done | with_reducible rfl)
  try simp only [Act.put, List.setIfInBounds_toArray, List.set_cons_zero, List.set_cons_succ]
  refine stepC HOPS 4 127 (by decide) rfl (by kernel_rfl) (by kernel_rfl) ?_
  go_simp
  refine (putHead_any K V (by omega) (by omega) _).mono ?_
  rintro e w17 ⟨A17, n17, c17, rfl, hown17, hb17⟩
  dsimp only
  have HP17 := Lib.hid (HP8.out.step hb17)
  have hn17 : n17 ≤ 2 := by have h := hown17.len; simp at h; omega
  have HO17 := Lib.hid hown17
  clear hown17 hb17
  refine ⟨HP17.out.1, ?_⟩
  try simp only [Act.put, List.setIfInBounds_toArray, List.set_cons_zero, List.set_cons_succ]
  refine stepC HOPS 7 255 (by decide) rfl (by kernel_rfl) (by kernel_rfl) ?_
  go_simp
  refine (PutVar_any A17 n17 c17 i _ _ w17 HO17.out.rd (Nat.le_refl _) (by omega) (by omega) (by omega)).mono ?_
  rintro e w16 ⟨A16, n16, c16, rfl, hown16, hb16⟩
  dsimp only
  have HP16 := Lib.hid (HP17.out.step hb16)
  have hn16 : n16 ≤ 12 := by have h := hown16.len; have h2 := vb_ten (zz_lt (n := i) (by omega)); have h3 := HO17.out.len; rw [List.length_append, h3] at h; omega
  have HO16 := Lib.hid hown16.rd
  have hc16 : n16 ≤ c16 := hown16.cap
  clear hown16 hb16
  refine ⟨HP16.out.1, ?_⟩
  try simp only [Act.put, List.setIfInBounds_toArray, List.set_cons_zero, List.set_cons_succ]
  refine stepQ HOPS 8 511 ?_ (by decide) rfl (by kernel_rfl) (by kernel_rfl) rfl ?_ HP16.out.1 ?_
  rotate_left
  · intro w9 hS9; obtain ⟨q0, q1, q2, q3, q4, q5, q6⟩ := hS9; go_simp; (first | done | with_reducible rfl)
  try simp only [Act.put, List.setIfInBounds_toArray, List.set_cons_zero, List.set_cons_succ]
  refine stepE HOPS (by kernel_rfl) (HQ.out _ _ ?_)
  clear HQ HOPS
  clear Q ops
  obtain ⟨⟨_, q1, _, q3, q4, q5, q6⟩, ⟨_, _, s2, s3⟩, _⟩ := HP16.out
  have hI64 : ∀ x ∈ l1, -9223372036854775808 ≤ x ∧ x ≤ 9223372036854775807 := fun x hx => HIN.out x hx
  go_wp2_with (first
    | (go_at_call 37; (with_reducible refine (PutText_any A13 n13 c13 ⟨l3.toArray⟩ _ _ w13 HO13.out (Nat.le_refl _) (by omega) (Nat.le_trans HB3.out (by omega))).mono ?_); rintro e w12 ⟨A12, n12, c12, rfl, hown12, hb12⟩; have HP12 := Lib.hid (HP13.out.step hb12); have HO12 := Lib.hid hown12.rd; have hc12 : n12 ≤ c12 := hown12.cap; skip; obtain ⟨⟨_, q1, _, q3, q4, q5, q6⟩, ⟨_, _, s2, s3⟩, _⟩ := HP12.out)
    | (go_at_call 39; (with_reducible refine (putTexts_any A14 n14 c14 _ A2 n2 c2 l2 w14 HO14.out hc14 (HT.out.below HP14.out.bel (Nat.le_refl _) |>.more HP14.out.bel.size) H64.out (by omega)).mono ?_); rintro e w13 ⟨A13, n13, c13, rfl, hr13, hc13, hb13⟩; have HP13 := Lib.hid (HP14.out.step hb13); have HO13 := Lib.hid hr13; have hc13 : n13 ≤ c13 := hc13; have hn13 : n13 ≤ 1246 := (by have h := hr13.len; have h2 := many_74 l2 H64.out; have h3 := HO14.out.len; have h4 := HT.out.len; rw [List.length_append, h3] at h; omega); have r1 := str_of w13 _ A3 n3 c3 l3 (HR.out.below HP13.out.bel (Nat.le_refl _)); obtain ⟨⟨_, q1, _, q3, q4, q5, q6⟩, ⟨_, _, s2, s3⟩, _⟩ := HP13.out)
    | (go_at_call 38; (with_reducible refine (putNumbers_any A15 n15 c15 _ A1 n1 c1 l1 w15 HO15.out hc15 (HI.out.below HP15.out.bel (Nat.le_refl _) |>.more HP15.out.bel.size) (by omega)).mono ?_); rintro e w14 ⟨A14, n14, c14, rfl, hr14, hc14, hb14⟩; have HP14 := Lib.hid (HP15.out.step hb14); have HO14 := Lib.hid hr14; have hc14 : n14 ≤ c14 := hc14; have hn14 : n14 ≤ 136 := (by have h := hr14.len; have h2 := many_ten l1 hI64; have h3 := HO15.out.len; have h4 := HI.out.len; rw [List.length_append, h3] at h; omega); obtain ⟨⟨_, q1, _, q3, q4, q5, q6⟩, ⟨_, _, s2, s3⟩, _⟩ := HP14.out)
    | (go_at_call 37; (with_reducible refine (PutText_any A16 n16 c16 s _ _ w16 HO16.out (Nat.le_refl _) (by omega) (by omega)).mono ?_); rintro e w15 ⟨A15, n15, c15, rfl, hown15, hb15⟩; have HP15 := Lib.hid (HP16.out.step hb15); have HO15 := Lib.hid hown15.rd; have hc15 : n15 ≤ c15 := hown15.cap; have hn15 : n15 ≤ 86 := (by have h := hown15.len; have h2 := vb_ten (zz_lt (n := (s.size : Int)) (by omega)); have h3 := HO16.out.len; have h4 : s.data.toList.length = s.size := (by rw [Array.length_toList]; rfl); rw [List.length_append, List.length_append, h3, h4] at h; omega); obtain ⟨⟨_, q1, _, q3, q4, q5, q6⟩, ⟨_, _, s2, s3⟩, _⟩ := HP15.out))
  go_ret2
  have HEQ := Lib.hid (put_eq ⟨(K : Int), (V : Int), i, s, l1, l2, l3⟩)
  refine ⟨A12, n12, c12, rfl, ?_, hc12, HP12.out.bel⟩
  have h := HO12.out
  show Rd _ _ _ _ (reqC.put ⟨(K : Int), (V : Int), i, s, l1, l2, l3⟩)
  rw [HEQ.out]
  simp only [Int.toNat_natCast]
  rw [HK.out]
  rw [HV.out]
  rw [who_put2, texts_put0 (k := (2 : Int)) (by decide), blob_put2]
  simpa [List.append_assoc, HL3.out, show (ByteArray.mk l3.toArray).size = l3.length by simp [ByteArray.size]] using h
set_option maxRecDepth 100000 in
set_option maxHeartbeats 4000000 in
theorem PutReq_nn (k v i : Int) (s : ByteArray) (A1 : Option Addr) (n1 c1 : Nat) (l1 : List Int) (A2 : Option Addr) (n2 c2 : Nat) (l2 : List ByteArray) (A3 : Option Addr) (n3 c3 : Nat) (l3 : List UInt8) (w : World) (hI : RdL w w.heap.size A1 n1 l1) (hn1 : n1 ≤ 140737488351232) (hT : RdL w w.heap.size A2 n2 l2) (hn2 : n2 ≤ 140737488351232) (hs47 : s.size ≤ 140737488351232) (hR : Rd w w.heap.size A3 n3 l3) (hn3 : n3 ≤ 140737488351232) (ht : Tab w) (hck : ckQ ⟨k, v, i, s, l1, l2, l3⟩ = 0) (hk7 : k ≠ 7) (hk2 : k ≠ 2) (hv : v ≠ 2) :
    Calls Tryd.prog 14 #[.agg #[.int .i64 k, .int .i64 v, .int .i64 i, .string s, .slice A1 n1 c1, .slice A2 n2 c2, .slice A3 n3 c3]] w (PQR w (reqC.put ⟨k, v, i, s, l1, l2, l3⟩, 0)) := by
  have hok := ckQ_iff.1 hck
  obtain ⟨⟨hkk, hvv⟩, ⟨hi0, hi1⟩, hs64, hsv, hn1K, hints, ⟨hn2a, hn2b⟩, htx, hn3B⟩ := (⟨known_iff.1 hok.1, hok.2⟩ : ((1 ≤ k ∧ k ≤ 12) ∧ 0 ≤ v ∧ v ≤ 2) ∧ OkQ ⟨k, v, i, s, l1, l2, l3⟩)
  clear hok
  simp only at hi0 hi1 hs64 hsv hn1K hints hn2a hn2b htx hn3B
  rw [hI.len] at hn1K
  rw [hT.len] at hn2a hn2b
  rw [hR.len] at hn3B
  obtain ⟨K, rfl⟩ : ∃ K : Nat, k = (K : Int) := ⟨k.toNat, by omega⟩
  obtain ⟨V, rfl⟩ : ∃ V : Nat, v = (V : Int) := ⟨v.toNat, by omega⟩
  have hnI := nI_in (k := (K : Int)) (by omega)
  have hnT := nT_in (k := (K : Int)) (by omega)
  have hmT := mT_in (K : Int)
  have hmB := mB_in (K : Int)
  have hn1' : n1 ≤ 5 := by omega
  have hn2' : n2 ≤ 15 := by omega
  have hn3' : n3 ≤ 2048 := by omega
  have H64 := Lib.hid htx
  have hK2 : K < 13 := by omega
  have hge : ¬ (2 : Int) ≤ (V : Int) := by omega
  have hm1 : ¬ 0 < mT (K : Int) := by unfold mT; rw [if_neg hk7]; omega
  have hm2 : ¬ 0 < mB (K : Int) := by unfold mB; rw [if_neg hk2]; omega
  have HK7 := Lib.hid hk7
  have HK2 := Lib.hid hk2
  have HV := Lib.hid hv
  have HI := Lib.hid hI
  have HT := Lib.hid hT
  have HR := Lib.hid hR
  have HTB := Lib.hid ht
  have HL3 := Lib.hid hR.len
  have HCK := Lib.hid hck
  have HW1 := Lib.hid (bel_alloc (Below.refl w.heap.size w) (.cells #[.int .i64 (K : Int), .int .i64 (V : Int), .int .i64 i, .string s, .slice A1 n1 c1, .slice A2 n2 c2, .slice A3 n3 c3] 26))
  clear hI hT hR ht hck
  have hmx : Tryd.prog.follows .mixedOrders = true := by kernel_rfl
  have HIN := Lib.hid (fun x (hx : x ∈ l1) => (show -9223372036854775808 ≤ x ∧ x ≤ 9223372036854775807 by have := hints x hx; omega))
  clear hv hn1K hn2a hn2b hn3B hsv htx hints hnI hnT hmT hmB hk7 hk2
  go_enter Tryd.func14, Tryd.ntmps14
  go_wp2_with (go_at_call 18; (with_reducible refine (CheckReq_any (K : Int) (V : Int) i s A1 n1 c1 l1 A2 n2 c2 l2 A3 n3 c3 l3 _ (HI.out.below HW1.out (Nat.le_refl _) |>.more HW1.out.size) hn1 (HT.out.below HW1.out (Nat.le_refl _) |>.more HW1.out.size) hn2 hs47 hn3 HL3.out (HTB.out.bel HW1.out)).mono ?_); rw [HCK.out]; rintro e w9 ⟨rfl, hb9⟩; have HB9 := Lib.hid (HW1.out.trans (hb9.mono HW1.out.size)); have HX9 := Lib.hid (BoxQ_below (BoxQ_new w 26 (K : Int) (V : Int) i s (.slice A1 n1 c1) (.slice A2 n2 c2) (.slice A3 n3 c3)) hb9 (by simp)); have hlt9 : w.heap.size < w9.heap.size := Nat.lt_of_lt_of_le (by simp) hb9.size; have q0 := HX9.out.1; have t0 := (HTB.out.bel HB9.out).c0 hK2; have t1 := (HTB.out.bel HB9.out).c1 hK2; have t2 := (HTB.out.bel HB9.out).c2 hK2; have t3 := (HTB.out.bel HB9.out).c3 hK2; clear hb9)
  have HP := Lib.hid (show PQ w w9.heap.size (K : Int) (V : Int) i s (.slice A1 n1 c1) (.slice A2 n2 c2) (.slice A3 n3 c3) (nI (K : Int)) (nT (K : Int)) (mT (K : Int)) (mB (K : Int)) (w9.alloc (.cells #[.int .i64 (nI (K : Int)), .int .i64 (nT (K : Int)), .int .i64 (mT (K : Int)), .int .i64 (mB (K : Int))] 57)) from ⟨BoxQ_below HX9.out (bel_alloc (Below.refl _ _) _) hlt9, ShpC_new w9 _ _ _ _ _, HB9.out.trans (((Below.refl _ _).alloc (Nat.le_of_lt hlt9) _)), by simp; omega, by simp⟩)
  clear q0 t0 t1 t2 t3
  generalize (w9.alloc (.cells #[.int .i64 (nI (K : Int)), .int .i64 (nT (K : Int)), .int .i64 (mT (K : Int)), .int .i64 (mB (K : Int))] 57)) = w8 at HP ⊢
  have HP8 := Lib.hid HP.out.drew
  clear HP
  refine region_let (fun W9 : World => BoxQ W9 w.heap.size (K : Int) (V : Int) i s (.slice A1 n1 c1) (.slice A2 n2 c2) (.slice A3 n3 c3)) 99 9 hmx rfl fun ops Q HOPS HQ => ?_
  refine stepQ HOPS 0 1 ?_ (by decide) rfl (by kernel_rfl) (by kernel_rfl) rfl ?_ HP8.out.1 ?_
  rotate_left
  · intro w9 hS9; obtain ⟨q0, q1, q2, q3, q4, q5, q6⟩ := hS9; go_simp; (first | done | with_reducible rfl)
  try simp only [Act.put, List.setIfInBounds_toArray, List.set_cons_zero, List.set_cons_succ]
  refine stepQ HOPS 1 3 ?_ (by decide) rfl (by kernel_rfl) (by kernel_rfl) rfl ?_ HP8.out.1 ?_
  rotate_left
  · intro w9 hS9; obtain ⟨q0, q1, q2, q3, q4, q5, q6⟩ := hS9; go_simp; (first | done | with_reducible rfl)
  try simp only [Act.put, List.setIfInBounds_toArray, List.set_cons_zero, List.set_cons_succ]
  refine stepQ HOPS 2 7 ?_ (by decide) rfl (by kernel_rfl) (by kernel_rfl) rfl ?_ HP8.out.1 ?_
  rotate_left
  · intro w9 hS9; obtain ⟨q0, q1, q2, q3, q4, q5, q6⟩ := hS9; go_simp; (first | done | with_reducible rfl)
  try simp only [Act.put, List.setIfInBounds_toArray, List.set_cons_zero, List.set_cons_succ]
  refine stepQ HOPS 3 15 ?_ (by decide) rfl (by kernel_rfl) (by kernel_rfl) rfl ?_ HP8.out.1 ?_
  rotate_left
  · intro w9 hS9; obtain ⟨q0, q1, q2, q3, q4, q5, q6⟩ := hS9; go_simp; (first | done | with_reducible rfl)
  try simp only [Act.put, List.setIfInBounds_toArray, List.set_cons_zero, List.set_cons_succ]
  refine stepQ HOPS 5 47 ?_ (by decide) rfl (by kernel_rfl) (by kernel_rfl) rfl ?_ HP8.out.1 ?_
  rotate_left
  · intro w9 hS9; obtain ⟨q0, q1, q2, q3, q4, q5, q6⟩ := hS9; go_simp; (first | done | with_reducible rfl)
  try simp only [Act.put, List.setIfInBounds_toArray, List.set_cons_zero, List.set_cons_succ]
  refine stepQ HOPS 6 111 ?_ (by decide) rfl (by kernel_rfl) (by kernel_rfl) rfl ?_ HP8.out.1 ?_
  rotate_left
  · intro w9 hS9; obtain ⟨q0, q1, q2, q3, q4, q5, q6⟩ := hS9; go_simp; (first | done | with_reducible rfl)
  try simp only [Act.put, List.setIfInBounds_toArray, List.set_cons_zero, List.set_cons_succ]
  refine stepC HOPS 4 127 (by decide) rfl (by kernel_rfl) (by kernel_rfl) ?_
  go_simp
  refine (putHead_any K V (by omega) (by omega) _).mono ?_
  rintro e w17 ⟨A17, n17, c17, rfl, hown17, hb17⟩
  dsimp only
  have HP17 := Lib.hid (HP8.out.step hb17)
  have hn17 : n17 ≤ 2 := by have h := hown17.len; simp at h; omega
  have HO17 := Lib.hid hown17
  clear hown17 hb17
  refine ⟨HP17.out.1, ?_⟩
  try simp only [Act.put, List.setIfInBounds_toArray, List.set_cons_zero, List.set_cons_succ]
  refine stepC HOPS 7 255 (by decide) rfl (by kernel_rfl) (by kernel_rfl) ?_
  go_simp
  refine (PutVar_any A17 n17 c17 i _ _ w17 HO17.out.rd (Nat.le_refl _) (by omega) (by omega) (by omega)).mono ?_
  rintro e w16 ⟨A16, n16, c16, rfl, hown16, hb16⟩
  dsimp only
  have HP16 := Lib.hid (HP17.out.step hb16)
  have hn16 : n16 ≤ 12 := by have h := hown16.len; have h2 := vb_ten (zz_lt (n := i) (by omega)); have h3 := HO17.out.len; rw [List.length_append, h3] at h; omega
  have HO16 := Lib.hid hown16.rd
  have hc16 : n16 ≤ c16 := hown16.cap
  clear hown16 hb16
  refine ⟨HP16.out.1, ?_⟩
  try simp only [Act.put, List.setIfInBounds_toArray, List.set_cons_zero, List.set_cons_succ]
  refine stepQ HOPS 8 511 ?_ (by decide) rfl (by kernel_rfl) (by kernel_rfl) rfl ?_ HP16.out.1 ?_
  rotate_left
  · intro w9 hS9; obtain ⟨q0, q1, q2, q3, q4, q5, q6⟩ := hS9; go_simp; (first | done | with_reducible rfl)
  try simp only [Act.put, List.setIfInBounds_toArray, List.set_cons_zero, List.set_cons_succ]
  refine stepE HOPS (by kernel_rfl) (HQ.out _ _ ?_)
  clear HQ HOPS
  clear Q ops
  obtain ⟨⟨_, q1, _, q3, q4, q5, q6⟩, ⟨_, _, s2, s3⟩, _⟩ := HP16.out
  have hI64 : ∀ x ∈ l1, -9223372036854775808 ≤ x ∧ x ≤ 9223372036854775807 := fun x hx => HIN.out x hx
  go_wp2_with (first
    | (go_at_call 39; (with_reducible refine (putTexts_any A15 n15 c15 _ A2 n2 c2 l2 w15 HO15.out hc15 (HT.out.below HP15.out.bel (Nat.le_refl _) |>.more HP15.out.bel.size) H64.out (by omega)).mono ?_); rintro e w14 ⟨A14, n14, c14, rfl, hr14, hc14, hb14⟩; have HP14 := Lib.hid (HP15.out.step hb14); have HO14 := Lib.hid hr14; have hc14 : n14 ≤ c14 := hc14; have hn14 : n14 ≤ 1172 := (by have h := hr14.len; have h2 := many_74 l2 H64.out; have h3 := HO15.out.len; have h4 := HT.out.len; rw [List.length_append, h3] at h; omega); obtain ⟨⟨_, q1, _, q3, q4, q5, q6⟩, ⟨_, _, s2, s3⟩, _⟩ := HP14.out)
    | (go_at_call 38; (with_reducible refine (putNumbers_any A16 n16 c16 _ A1 n1 c1 l1 w16 HO16.out hc16 (HI.out.below HP16.out.bel (Nat.le_refl _) |>.more HP16.out.bel.size) (by omega)).mono ?_); rintro e w15 ⟨A15, n15, c15, rfl, hr15, hc15, hb15⟩; have HP15 := Lib.hid (HP16.out.step hb15); have HO15 := Lib.hid hr15; have hc15 : n15 ≤ c15 := hc15; have hn15 : n15 ≤ 62 := (by have h := hr15.len; have h2 := many_ten l1 hI64; have h3 := HO16.out.len; have h4 := HI.out.len; rw [List.length_append, h3] at h; omega); obtain ⟨⟨_, q1, _, q3, q4, q5, q6⟩, ⟨_, _, s2, s3⟩, _⟩ := HP15.out))
  go_ret2
  have HEQ := Lib.hid (put_eq ⟨(K : Int), (V : Int), i, s, l1, l2, l3⟩)
  refine ⟨A14, n14, c14, rfl, ?_, hc14, HP14.out.bel⟩
  have h := HO14.out
  show Rd _ _ _ _ (reqC.put ⟨(K : Int), (V : Int), i, s, l1, l2, l3⟩)
  rw [HEQ.out]
  simp only [Int.toNat_natCast]
  rw [who_put0 HV.out, texts_put0 HK7.out, blob_put0 HK2.out]
  simpa [List.append_assoc] using h
set_option maxRecDepth 100000 in
set_option maxHeartbeats 4000000 in
theorem PutReq_n7 (k v i : Int) (s : ByteArray) (A1 : Option Addr) (n1 c1 : Nat) (l1 : List Int) (A2 : Option Addr) (n2 c2 : Nat) (l2 : List ByteArray) (A3 : Option Addr) (n3 c3 : Nat) (l3 : List UInt8) (w : World) (hI : RdL w w.heap.size A1 n1 l1) (hn1 : n1 ≤ 140737488351232) (hT : RdL w w.heap.size A2 n2 l2) (hn2 : n2 ≤ 140737488351232) (hs47 : s.size ≤ 140737488351232) (hR : Rd w w.heap.size A3 n3 l3) (hn3 : n3 ≤ 140737488351232) (ht : Tab w) (hck : ckQ ⟨k, v, i, s, l1, l2, l3⟩ = 0) (hk : k = 7) (hv : v ≠ 2) :
    Calls Tryd.prog 14 #[.agg #[.int .i64 k, .int .i64 v, .int .i64 i, .string s, .slice A1 n1 c1, .slice A2 n2 c2, .slice A3 n3 c3]] w (PQR w (reqC.put ⟨k, v, i, s, l1, l2, l3⟩, 0)) := by
  have hok := ckQ_iff.1 hck
  obtain ⟨⟨hkk, hvv⟩, ⟨hi0, hi1⟩, hs64, hsv, hn1K, hints, ⟨hn2a, hn2b⟩, htx, hn3B⟩ := (⟨known_iff.1 hok.1, hok.2⟩ : ((1 ≤ k ∧ k ≤ 12) ∧ 0 ≤ v ∧ v ≤ 2) ∧ OkQ ⟨k, v, i, s, l1, l2, l3⟩)
  clear hok
  simp only at hi0 hi1 hs64 hsv hn1K hints hn2a hn2b htx hn3B
  rw [hI.len] at hn1K
  rw [hT.len] at hn2a hn2b
  rw [hR.len] at hn3B
  obtain ⟨K, rfl⟩ : ∃ K : Nat, k = (K : Int) := ⟨k.toNat, by omega⟩
  obtain ⟨V, rfl⟩ : ∃ V : Nat, v = (V : Int) := ⟨v.toNat, by omega⟩
  have hnI := nI_in (k := (K : Int)) (by omega)
  have hnT := nT_in (k := (K : Int)) (by omega)
  have hmT := mT_in (K : Int)
  have hmB := mB_in (K : Int)
  have hn1' : n1 ≤ 5 := by omega
  have hn2' : n2 ≤ 15 := by omega
  have hn3' : n3 ≤ 2048 := by omega
  have H64 := Lib.hid htx
  have hK2 : K < 13 := by omega
  have hge : ¬ (2 : Int) ≤ (V : Int) := by omega
  have hm1 : 0 < mT (K : Int) := by rw [hk]; decide
  have hm2 : ¬ 0 < mB (K : Int) := by rw [hk]; decide
  have HK := Lib.hid hk
  have HV := Lib.hid hv
  have HI := Lib.hid hI
  have HT := Lib.hid hT
  have HR := Lib.hid hR
  have HTB := Lib.hid ht
  have HL3 := Lib.hid hR.len
  have HCK := Lib.hid hck
  have HW1 := Lib.hid (bel_alloc (Below.refl w.heap.size w) (.cells #[.int .i64 (K : Int), .int .i64 (V : Int), .int .i64 i, .string s, .slice A1 n1 c1, .slice A2 n2 c2, .slice A3 n3 c3] 26))
  clear hI hT hR ht hck
  have hmx : Tryd.prog.follows .mixedOrders = true := by kernel_rfl
  have HIN := Lib.hid (fun x (hx : x ∈ l1) => (show -9223372036854775808 ≤ x ∧ x ≤ 9223372036854775807 by have := hints x hx; omega))
  clear hv hn1K hn2a hn2b hn3B hsv htx hints hnI hnT hmT hmB hk
  go_enter Tryd.func14, Tryd.ntmps14
  go_wp2_with (go_at_call 18; (with_reducible refine (CheckReq_any (K : Int) (V : Int) i s A1 n1 c1 l1 A2 n2 c2 l2 A3 n3 c3 l3 _ (HI.out.below HW1.out (Nat.le_refl _) |>.more HW1.out.size) hn1 (HT.out.below HW1.out (Nat.le_refl _) |>.more HW1.out.size) hn2 hs47 hn3 HL3.out (HTB.out.bel HW1.out)).mono ?_); rw [HCK.out]; rintro e w9 ⟨rfl, hb9⟩; have HB9 := Lib.hid (HW1.out.trans (hb9.mono HW1.out.size)); have HX9 := Lib.hid (BoxQ_below (BoxQ_new w 26 (K : Int) (V : Int) i s (.slice A1 n1 c1) (.slice A2 n2 c2) (.slice A3 n3 c3)) hb9 (by simp)); have hlt9 : w.heap.size < w9.heap.size := Nat.lt_of_lt_of_le (by simp) hb9.size; have q0 := HX9.out.1; have t0 := (HTB.out.bel HB9.out).c0 hK2; have t1 := (HTB.out.bel HB9.out).c1 hK2; have t2 := (HTB.out.bel HB9.out).c2 hK2; have t3 := (HTB.out.bel HB9.out).c3 hK2; clear hb9)
  have HP := Lib.hid (show PQ w w9.heap.size (K : Int) (V : Int) i s (.slice A1 n1 c1) (.slice A2 n2 c2) (.slice A3 n3 c3) (nI (K : Int)) (nT (K : Int)) (mT (K : Int)) (mB (K : Int)) (w9.alloc (.cells #[.int .i64 (nI (K : Int)), .int .i64 (nT (K : Int)), .int .i64 (mT (K : Int)), .int .i64 (mB (K : Int))] 57)) from ⟨BoxQ_below HX9.out (bel_alloc (Below.refl _ _) _) hlt9, ShpC_new w9 _ _ _ _ _, HB9.out.trans (((Below.refl _ _).alloc (Nat.le_of_lt hlt9) _)), by simp; omega, by simp⟩)
  clear q0 t0 t1 t2 t3
  generalize (w9.alloc (.cells #[.int .i64 (nI (K : Int)), .int .i64 (nT (K : Int)), .int .i64 (mT (K : Int)), .int .i64 (mB (K : Int))] 57)) = w8 at HP ⊢
  have HP8 := Lib.hid HP.out.drew
  clear HP
  refine region_let (fun W9 : World => BoxQ W9 w.heap.size (K : Int) (V : Int) i s (.slice A1 n1 c1) (.slice A2 n2 c2) (.slice A3 n3 c3)) 99 9 hmx rfl fun ops Q HOPS HQ => ?_
  refine stepQ HOPS 0 1 ?_ (by decide) rfl (by kernel_rfl) (by kernel_rfl) rfl ?_ HP8.out.1 ?_
  rotate_left
  · intro w9 hS9; obtain ⟨q0, q1, q2, q3, q4, q5, q6⟩ := hS9; go_simp; (first | done | with_reducible rfl)
  try simp only [Act.put, List.setIfInBounds_toArray, List.set_cons_zero, List.set_cons_succ]
  refine stepQ HOPS 1 3 ?_ (by decide) rfl (by kernel_rfl) (by kernel_rfl) rfl ?_ HP8.out.1 ?_
  rotate_left
  · intro w9 hS9; obtain ⟨q0, q1, q2, q3, q4, q5, q6⟩ := hS9; go_simp; (first | done | with_reducible rfl)
  try simp only [Act.put, List.setIfInBounds_toArray, List.set_cons_zero, List.set_cons_succ]
  refine stepQ HOPS 2 7 ?_ (by decide) rfl (by kernel_rfl) (by kernel_rfl) rfl ?_ HP8.out.1 ?_
  rotate_left
  · intro w9 hS9; obtain ⟨q0, q1, q2, q3, q4, q5, q6⟩ := hS9; go_simp; (first | done | with_reducible rfl)
  try simp only [Act.put, List.setIfInBounds_toArray, List.set_cons_zero, List.set_cons_succ]
  refine stepQ HOPS 3 15 ?_ (by decide) rfl (by kernel_rfl) (by kernel_rfl) rfl ?_ HP8.out.1 ?_
  rotate_left
  · intro w9 hS9; obtain ⟨q0, q1, q2, q3, q4, q5, q6⟩ := hS9; go_simp; (first | done | with_reducible rfl)
  try simp only [Act.put, List.setIfInBounds_toArray, List.set_cons_zero, List.set_cons_succ]
  refine stepQ HOPS 5 47 ?_ (by decide) rfl (by kernel_rfl) (by kernel_rfl) rfl ?_ HP8.out.1 ?_
  rotate_left
  · intro w9 hS9; obtain ⟨q0, q1, q2, q3, q4, q5, q6⟩ := hS9; go_simp; (first | done | with_reducible rfl)
  try simp only [Act.put, List.setIfInBounds_toArray, List.set_cons_zero, List.set_cons_succ]
  refine stepQ HOPS 6 111 ?_ (by decide) rfl (by kernel_rfl) (by kernel_rfl) rfl ?_ HP8.out.1 ?_
  rotate_left
  · intro w9 hS9; obtain ⟨q0, q1, q2, q3, q4, q5, q6⟩ := hS9; go_simp; (first | done | with_reducible rfl)
  try simp only [Act.put, List.setIfInBounds_toArray, List.set_cons_zero, List.set_cons_succ]
  refine stepC HOPS 4 127 (by decide) rfl (by kernel_rfl) (by kernel_rfl) ?_
  go_simp
  refine (putHead_any K V (by omega) (by omega) _).mono ?_
  rintro e w17 ⟨A17, n17, c17, rfl, hown17, hb17⟩
  dsimp only
  have HP17 := Lib.hid (HP8.out.step hb17)
  have hn17 : n17 ≤ 2 := by have h := hown17.len; simp at h; omega
  have HO17 := Lib.hid hown17
  clear hown17 hb17
  refine ⟨HP17.out.1, ?_⟩
  try simp only [Act.put, List.setIfInBounds_toArray, List.set_cons_zero, List.set_cons_succ]
  refine stepC HOPS 7 255 (by decide) rfl (by kernel_rfl) (by kernel_rfl) ?_
  go_simp
  refine (PutVar_any A17 n17 c17 i _ _ w17 HO17.out.rd (Nat.le_refl _) (by omega) (by omega) (by omega)).mono ?_
  rintro e w16 ⟨A16, n16, c16, rfl, hown16, hb16⟩
  dsimp only
  have HP16 := Lib.hid (HP17.out.step hb16)
  have hn16 : n16 ≤ 12 := by have h := hown16.len; have h2 := vb_ten (zz_lt (n := i) (by omega)); have h3 := HO17.out.len; rw [List.length_append, h3] at h; omega
  have HO16 := Lib.hid hown16.rd
  have hc16 : n16 ≤ c16 := hown16.cap
  clear hown16 hb16
  refine ⟨HP16.out.1, ?_⟩
  try simp only [Act.put, List.setIfInBounds_toArray, List.set_cons_zero, List.set_cons_succ]
  refine stepQ HOPS 8 511 ?_ (by decide) rfl (by kernel_rfl) (by kernel_rfl) rfl ?_ HP16.out.1 ?_
  rotate_left
  · intro w9 hS9; obtain ⟨q0, q1, q2, q3, q4, q5, q6⟩ := hS9; go_simp; (first | done | with_reducible rfl)
  try simp only [Act.put, List.setIfInBounds_toArray, List.set_cons_zero, List.set_cons_succ]
  refine stepE HOPS (by kernel_rfl) (HQ.out _ _ ?_)
  clear HQ HOPS
  clear Q ops
  obtain ⟨⟨_, q1, _, q3, q4, q5, q6⟩, ⟨_, _, s2, s3⟩, _⟩ := HP16.out
  have hI64 : ∀ x ∈ l1, -9223372036854775808 ≤ x ∧ x ≤ 9223372036854775807 := fun x hx => HIN.out x hx
  go_wp2_with (first
    | (go_at_call 39; (with_reducible refine (putTexts_any A14 n14 c14 _ A2 n2 c2 l2 w14 HO14.out hc14 (HT.out.below HP14.out.bel (Nat.le_refl _) |>.more HP14.out.bel.size) H64.out (by omega)).mono ?_); rintro e w13 ⟨A13, n13, c13, rfl, hr13, hc13, hb13⟩; have HP13 := Lib.hid (HP14.out.step hb13); have HO13 := Lib.hid hr13; have hc13 : n13 ≤ c13 := hc13; have hn13 : n13 ≤ 1182 := (by have h := hr13.len; have h2 := many_74 l2 H64.out; have h3 := HO14.out.len; have h4 := HT.out.len; rw [List.length_append, h3] at h; omega); obtain ⟨⟨_, q1, _, q3, q4, q5, q6⟩, ⟨_, _, s2, s3⟩, _⟩ := HP13.out)
    | (go_at_call 35; (with_reducible refine (PutVar_any A15 n15 c15 (n2 : Int) _ _ w15 HO15.out (Nat.le_refl _) (by omega) (by omega) (by omega)).mono ?_); rintro e w14 ⟨A14, n14, c14, rfl, hown14, hb14⟩; have HP14 := Lib.hid (HP15.out.step hb14); have HO14 := Lib.hid hown14.rd; have hc14 : n14 ≤ c14 := hown14.cap; have hn14 : n14 ≤ 72 := (by have h := hown14.len; have h2 := vb_ten (zz_lt (n := (n2 : Int)) (by omega)); have h3 := HO15.out.len; rw [List.length_append, h3] at h; omega); obtain ⟨⟨_, q1, _, q3, q4, q5, q6⟩, ⟨_, _, s2, s3⟩, _⟩ := HP14.out)
    | (go_at_call 38; (with_reducible refine (putNumbers_any A16 n16 c16 _ A1 n1 c1 l1 w16 HO16.out hc16 (HI.out.below HP16.out.bel (Nat.le_refl _) |>.more HP16.out.bel.size) (by omega)).mono ?_); rintro e w15 ⟨A15, n15, c15, rfl, hr15, hc15, hb15⟩; have HP15 := Lib.hid (HP16.out.step hb15); have HO15 := Lib.hid hr15; have hc15 : n15 ≤ c15 := hc15; have hn15 : n15 ≤ 62 := (by have h := hr15.len; have h2 := many_ten l1 hI64; have h3 := HO16.out.len; have h4 := HI.out.len; rw [List.length_append, h3] at h; omega); obtain ⟨⟨_, q1, _, q3, q4, q5, q6⟩, ⟨_, _, s2, s3⟩, _⟩ := HP15.out))
  go_ret2
  have HEQ := Lib.hid (put_eq ⟨(K : Int), (V : Int), i, s, l1, l2, l3⟩)
  refine ⟨A13, n13, c13, rfl, ?_, hc13, HP13.out.bel⟩
  have h := HO13.out
  show Rd _ _ _ _ (reqC.put ⟨(K : Int), (V : Int), i, s, l1, l2, l3⟩)
  rw [HEQ.out]
  simp only [Int.toNat_natCast]
  rw [HK.out]
  rw [who_put0 HV.out, texts_put7, blob_put0 (k := (7 : Int)) (by decide)]
  simpa [List.append_assoc, HT.out.len] using h
set_option maxRecDepth 100000 in
set_option maxHeartbeats 4000000 in
theorem PutReq_n2 (k v i : Int) (s : ByteArray) (A1 : Option Addr) (n1 c1 : Nat) (l1 : List Int) (A2 : Option Addr) (n2 c2 : Nat) (l2 : List ByteArray) (A3 : Option Addr) (n3 c3 : Nat) (l3 : List UInt8) (w : World) (hI : RdL w w.heap.size A1 n1 l1) (hn1 : n1 ≤ 140737488351232) (hT : RdL w w.heap.size A2 n2 l2) (hn2 : n2 ≤ 140737488351232) (hs47 : s.size ≤ 140737488351232) (hR : Rd w w.heap.size A3 n3 l3) (hn3 : n3 ≤ 140737488351232) (ht : Tab w) (hck : ckQ ⟨k, v, i, s, l1, l2, l3⟩ = 0) (hk : k = 2) (hv : v ≠ 2) :
    Calls Tryd.prog 14 #[.agg #[.int .i64 k, .int .i64 v, .int .i64 i, .string s, .slice A1 n1 c1, .slice A2 n2 c2, .slice A3 n3 c3]] w (PQR w (reqC.put ⟨k, v, i, s, l1, l2, l3⟩, 0)) := by
  have hok := ckQ_iff.1 hck
  obtain ⟨⟨hkk, hvv⟩, ⟨hi0, hi1⟩, hs64, hsv, hn1K, hints, ⟨hn2a, hn2b⟩, htx, hn3B⟩ := (⟨known_iff.1 hok.1, hok.2⟩ : ((1 ≤ k ∧ k ≤ 12) ∧ 0 ≤ v ∧ v ≤ 2) ∧ OkQ ⟨k, v, i, s, l1, l2, l3⟩)
  clear hok
  simp only at hi0 hi1 hs64 hsv hn1K hints hn2a hn2b htx hn3B
  rw [hI.len] at hn1K
  rw [hT.len] at hn2a hn2b
  rw [hR.len] at hn3B
  obtain ⟨K, rfl⟩ : ∃ K : Nat, k = (K : Int) := ⟨k.toNat, by omega⟩
  obtain ⟨V, rfl⟩ : ∃ V : Nat, v = (V : Int) := ⟨v.toNat, by omega⟩
  have hnI := nI_in (k := (K : Int)) (by omega)
  have hnT := nT_in (k := (K : Int)) (by omega)
  have hmT := mT_in (K : Int)
  have hmB := mB_in (K : Int)
  have hn1' : n1 ≤ 5 := by omega
  have hn2' : n2 ≤ 15 := by omega
  have hn3' : n3 ≤ 2048 := by omega
  have H64 := Lib.hid htx
  have hK2 : K < 13 := by omega
  have hge : ¬ (2 : Int) ≤ (V : Int) := by omega
  have hm1 : ¬ 0 < mT (K : Int) := by rw [hk]; decide
  have hm2 : 0 < mB (K : Int) := by rw [hk]; decide
  have HK := Lib.hid hk
  have HV := Lib.hid hv
  have HB3 := Lib.hid (show (ByteArray.mk l3.toArray).size ≤ 2048 by have h := hR.len; show l3.toArray.size ≤ 2048; rw [List.size_toArray]; omega)
  have HI := Lib.hid hI
  have HT := Lib.hid hT
  have HR := Lib.hid hR
  have HTB := Lib.hid ht
  have HL3 := Lib.hid hR.len
  have HCK := Lib.hid hck
  have HW1 := Lib.hid (bel_alloc (Below.refl w.heap.size w) (.cells #[.int .i64 (K : Int), .int .i64 (V : Int), .int .i64 i, .string s, .slice A1 n1 c1, .slice A2 n2 c2, .slice A3 n3 c3] 26))
  clear hI hT hR ht hck
  have hmx : Tryd.prog.follows .mixedOrders = true := by kernel_rfl
  have HIN := Lib.hid (fun x (hx : x ∈ l1) => (show -9223372036854775808 ≤ x ∧ x ≤ 9223372036854775807 by have := hints x hx; omega))
  clear hv hn1K hn2a hn2b hn3B hsv htx hints hnI hnT hmT hmB hk
  go_enter Tryd.func14, Tryd.ntmps14
  go_wp2_with (go_at_call 18; (with_reducible refine (CheckReq_any (K : Int) (V : Int) i s A1 n1 c1 l1 A2 n2 c2 l2 A3 n3 c3 l3 _ (HI.out.below HW1.out (Nat.le_refl _) |>.more HW1.out.size) hn1 (HT.out.below HW1.out (Nat.le_refl _) |>.more HW1.out.size) hn2 hs47 hn3 HL3.out (HTB.out.bel HW1.out)).mono ?_); rw [HCK.out]; rintro e w9 ⟨rfl, hb9⟩; have HB9 := Lib.hid (HW1.out.trans (hb9.mono HW1.out.size)); have HX9 := Lib.hid (BoxQ_below (BoxQ_new w 26 (K : Int) (V : Int) i s (.slice A1 n1 c1) (.slice A2 n2 c2) (.slice A3 n3 c3)) hb9 (by simp)); have hlt9 : w.heap.size < w9.heap.size := Nat.lt_of_lt_of_le (by simp) hb9.size; have q0 := HX9.out.1; have t0 := (HTB.out.bel HB9.out).c0 hK2; have t1 := (HTB.out.bel HB9.out).c1 hK2; have t2 := (HTB.out.bel HB9.out).c2 hK2; have t3 := (HTB.out.bel HB9.out).c3 hK2; clear hb9)
  have HP := Lib.hid (show PQ w w9.heap.size (K : Int) (V : Int) i s (.slice A1 n1 c1) (.slice A2 n2 c2) (.slice A3 n3 c3) (nI (K : Int)) (nT (K : Int)) (mT (K : Int)) (mB (K : Int)) (w9.alloc (.cells #[.int .i64 (nI (K : Int)), .int .i64 (nT (K : Int)), .int .i64 (mT (K : Int)), .int .i64 (mB (K : Int))] 57)) from ⟨BoxQ_below HX9.out (bel_alloc (Below.refl _ _) _) hlt9, ShpC_new w9 _ _ _ _ _, HB9.out.trans (((Below.refl _ _).alloc (Nat.le_of_lt hlt9) _)), by simp; omega, by simp⟩)
  clear q0 t0 t1 t2 t3
  generalize (w9.alloc (.cells #[.int .i64 (nI (K : Int)), .int .i64 (nT (K : Int)), .int .i64 (mT (K : Int)), .int .i64 (mB (K : Int))] 57)) = w8 at HP ⊢
  have HP8 := Lib.hid HP.out.drew
  clear HP
  refine region_let (fun W9 : World => BoxQ W9 w.heap.size (K : Int) (V : Int) i s (.slice A1 n1 c1) (.slice A2 n2 c2) (.slice A3 n3 c3)) 99 9 hmx rfl fun ops Q HOPS HQ => ?_
  refine stepQ HOPS 0 1 ?_ (by decide) rfl (by kernel_rfl) (by kernel_rfl) rfl ?_ HP8.out.1 ?_
  rotate_left
  · intro w9 hS9; obtain ⟨q0, q1, q2, q3, q4, q5, q6⟩ := hS9; go_simp; (first | done | with_reducible rfl)
  try simp only [Act.put, List.setIfInBounds_toArray, List.set_cons_zero, List.set_cons_succ]
  refine stepQ HOPS 1 3 ?_ (by decide) rfl (by kernel_rfl) (by kernel_rfl) rfl ?_ HP8.out.1 ?_
  rotate_left
  · intro w9 hS9; obtain ⟨q0, q1, q2, q3, q4, q5, q6⟩ := hS9; go_simp; (first | done | with_reducible rfl)
  try simp only [Act.put, List.setIfInBounds_toArray, List.set_cons_zero, List.set_cons_succ]
  refine stepQ HOPS 2 7 ?_ (by decide) rfl (by kernel_rfl) (by kernel_rfl) rfl ?_ HP8.out.1 ?_
  rotate_left
  · intro w9 hS9; obtain ⟨q0, q1, q2, q3, q4, q5, q6⟩ := hS9; go_simp; (first | done | with_reducible rfl)
  try simp only [Act.put, List.setIfInBounds_toArray, List.set_cons_zero, List.set_cons_succ]
  refine stepQ HOPS 3 15 ?_ (by decide) rfl (by kernel_rfl) (by kernel_rfl) rfl ?_ HP8.out.1 ?_
  rotate_left
  · intro w9 hS9; obtain ⟨q0, q1, q2, q3, q4, q5, q6⟩ := hS9; go_simp; (first | done | with_reducible rfl)
  try simp only [Act.put, List.setIfInBounds_toArray, List.set_cons_zero, List.set_cons_succ]
  refine stepQ HOPS 5 47 ?_ (by decide) rfl (by kernel_rfl) (by kernel_rfl) rfl ?_ HP8.out.1 ?_
  rotate_left
  · intro w9 hS9; obtain ⟨q0, q1, q2, q3, q4, q5, q6⟩ := hS9; go_simp; (first | done | with_reducible rfl)
  try simp only [Act.put, List.setIfInBounds_toArray, List.set_cons_zero, List.set_cons_succ]
  refine stepQ HOPS 6 111 ?_ (by decide) rfl (by kernel_rfl) (by kernel_rfl) rfl ?_ HP8.out.1 ?_
  rotate_left
  · intro w9 hS9; obtain ⟨q0, q1, q2, q3, q4, q5, q6⟩ := hS9; go_simp; (first | done | with_reducible rfl)
  try simp only [Act.put, List.setIfInBounds_toArray, List.set_cons_zero, List.set_cons_succ]
  refine stepC HOPS 4 127 (by decide) rfl (by kernel_rfl) (by kernel_rfl) ?_
  go_simp
  refine (putHead_any K V (by omega) (by omega) _).mono ?_
  rintro e w17 ⟨A17, n17, c17, rfl, hown17, hb17⟩
  dsimp only
  have HP17 := Lib.hid (HP8.out.step hb17)
  have hn17 : n17 ≤ 2 := by have h := hown17.len; simp at h; omega
  have HO17 := Lib.hid hown17
  clear hown17 hb17
  refine ⟨HP17.out.1, ?_⟩
  try simp only [Act.put, List.setIfInBounds_toArray, List.set_cons_zero, List.set_cons_succ]
  refine stepC HOPS 7 255 (by decide) rfl (by kernel_rfl) (by kernel_rfl) ?_
  go_simp
  refine (PutVar_any A17 n17 c17 i _ _ w17 HO17.out.rd (Nat.le_refl _) (by omega) (by omega) (by omega)).mono ?_
  rintro e w16 ⟨A16, n16, c16, rfl, hown16, hb16⟩
  dsimp only
  have HP16 := Lib.hid (HP17.out.step hb16)
  have hn16 : n16 ≤ 12 := by have h := hown16.len; have h2 := vb_ten (zz_lt (n := i) (by omega)); have h3 := HO17.out.len; rw [List.length_append, h3] at h; omega
  have HO16 := Lib.hid hown16.rd
  have hc16 : n16 ≤ c16 := hown16.cap
  clear hown16 hb16
  refine ⟨HP16.out.1, ?_⟩
  try simp only [Act.put, List.setIfInBounds_toArray, List.set_cons_zero, List.set_cons_succ]
  refine stepQ HOPS 8 511 ?_ (by decide) rfl (by kernel_rfl) (by kernel_rfl) rfl ?_ HP16.out.1 ?_
  rotate_left
  · intro w9 hS9; obtain ⟨q0, q1, q2, q3, q4, q5, q6⟩ := hS9; go_simp; (first | done | with_reducible rfl)
  try simp only [Act.put, List.setIfInBounds_toArray, List.set_cons_zero, List.set_cons_succ]
  refine stepE HOPS (by kernel_rfl) (HQ.out _ _ ?_)
  clear HQ HOPS
  clear Q ops
  obtain ⟨⟨_, q1, _, q3, q4, q5, q6⟩, ⟨_, _, s2, s3⟩, _⟩ := HP16.out
  have hI64 : ∀ x ∈ l1, -9223372036854775808 ≤ x ∧ x ≤ 9223372036854775807 := fun x hx => HIN.out x hx
  go_wp2_with (first
    | (go_at_call 37; (with_reducible refine (PutText_any A14 n14 c14 ⟨l3.toArray⟩ _ _ w14 HO14.out (Nat.le_refl _) (by omega) (Nat.le_trans HB3.out (by omega))).mono ?_); rintro e w13 ⟨A13, n13, c13, rfl, hown13, hb13⟩; have HP13 := Lib.hid (HP14.out.step hb13); have HO13 := Lib.hid hown13.rd; have hc13 : n13 ≤ c13 := hown13.cap; skip; obtain ⟨⟨_, q1, _, q3, q4, q5, q6⟩, ⟨_, _, s2, s3⟩, _⟩ := HP13.out)
    | (go_at_call 39; (with_reducible refine (putTexts_any A15 n15 c15 _ A2 n2 c2 l2 w15 HO15.out hc15 (HT.out.below HP15.out.bel (Nat.le_refl _) |>.more HP15.out.bel.size) H64.out (by omega)).mono ?_); rintro e w14 ⟨A14, n14, c14, rfl, hr14, hc14, hb14⟩; have HP14 := Lib.hid (HP15.out.step hb14); have HO14 := Lib.hid hr14; have hc14 : n14 ≤ c14 := hc14; have hn14 : n14 ≤ 1172 := (by have h := hr14.len; have h2 := many_74 l2 H64.out; have h3 := HO15.out.len; have h4 := HT.out.len; rw [List.length_append, h3] at h; omega); have r1 := str_of w14 _ A3 n3 c3 l3 (HR.out.below HP14.out.bel (Nat.le_refl _)); obtain ⟨⟨_, q1, _, q3, q4, q5, q6⟩, ⟨_, _, s2, s3⟩, _⟩ := HP14.out)
    | (go_at_call 38; (with_reducible refine (putNumbers_any A16 n16 c16 _ A1 n1 c1 l1 w16 HO16.out hc16 (HI.out.below HP16.out.bel (Nat.le_refl _) |>.more HP16.out.bel.size) (by omega)).mono ?_); rintro e w15 ⟨A15, n15, c15, rfl, hr15, hc15, hb15⟩; have HP15 := Lib.hid (HP16.out.step hb15); have HO15 := Lib.hid hr15; have hc15 : n15 ≤ c15 := hc15; have hn15 : n15 ≤ 62 := (by have h := hr15.len; have h2 := many_ten l1 hI64; have h3 := HO16.out.len; have h4 := HI.out.len; rw [List.length_append, h3] at h; omega); obtain ⟨⟨_, q1, _, q3, q4, q5, q6⟩, ⟨_, _, s2, s3⟩, _⟩ := HP15.out))
  go_ret2
  have HEQ := Lib.hid (put_eq ⟨(K : Int), (V : Int), i, s, l1, l2, l3⟩)
  refine ⟨A13, n13, c13, rfl, ?_, hc13, HP13.out.bel⟩
  have h := HO13.out
  show Rd _ _ _ _ (reqC.put ⟨(K : Int), (V : Int), i, s, l1, l2, l3⟩)
  rw [HEQ.out]
  simp only [Int.toNat_natCast]
  rw [HK.out]
  rw [who_put0 HV.out, texts_put0 (k := (2 : Int)) (by decide), blob_put2]
  simpa [List.append_assoc, HL3.out, show (ByteArray.mk l3.toArray).size = l3.length by simp [ByteArray.size]] using h
theorem PutReq_any (k v i : Int) (s : ByteArray) (A1 : Option Addr) (n1 c1 : Nat) (l1 : List Int) (A2 : Option Addr) (n2 c2 : Nat) (l2 : List ByteArray) (A3 : Option Addr) (n3 c3 : Nat) (l3 : List UInt8) (w : World) (hI : RdL w w.heap.size A1 n1 l1) (hn1 : n1 ≤ 140737488351232) (hT : RdL w w.heap.size A2 n2 l2) (hn2 : n2 ≤ 140737488351232) (hs47 : s.size ≤ 140737488351232) (hR : Rd w w.heap.size A3 n3 l3) (hn3 : n3 ≤ 140737488351232) (ht : Tab w) :
    Calls Tryd.prog 14 #[.agg #[.int .i64 k, .int .i64 v, .int .i64 i, .string s, .slice A1 n1 c1, .slice A2 n2 c2, .slice A3 n3 c3]] w (PQR w (ptQ ⟨k, v, i, s, l1, l2, l3⟩)) := by
  unfold ptQ
  by_cases hck : ckQ ⟨k, v, i, s, l1, l2, l3⟩ = 0
  · rw [if_pos hck]
    by_cases hv : v = 2
    · by_cases hk7 : k = 7
      · exact PutReq_v7 k v i s A1 n1 c1 l1 A2 n2 c2 l2 A3 n3 c3 l3 w hI hn1 hT hn2 hs47 hR hn3 ht hck hk7 hv
      · by_cases hk2 : k = 2
        · exact PutReq_v2 k v i s A1 n1 c1 l1 A2 n2 c2 l2 A3 n3 c3 l3 w hI hn1 hT hn2 hs47 hR hn3 ht hck hk2 hv
        · exact PutReq_vn k v i s A1 n1 c1 l1 A2 n2 c2 l2 A3 n3 c3 l3 w hI hn1 hT hn2 hs47 hR hn3 ht hck hk7 hk2 hv
    · by_cases hk7 : k = 7
      · exact PutReq_n7 k v i s A1 n1 c1 l1 A2 n2 c2 l2 A3 n3 c3 l3 w hI hn1 hT hn2 hs47 hR hn3 ht hck hk7 hv
      · by_cases hk2 : k = 2
        · exact PutReq_n2 k v i s A1 n1 c1 l1 A2 n2 c2 l2 A3 n3 c3 l3 w hI hn1 hT hn2 hs47 hR hn3 ht hck hk2 hv
        · exact PutReq_nn k v i s A1 n1 c1 l1 A2 n2 c2 l2 A3 n3 c3 l3 w hI hn1 hT hn2 hs47 hR hn3 ht hck hk7 hk2 hv
  · rw [if_neg hck]
    exact PutReq_no k v i s A1 n1 c1 l1 A2 n2 c2 l2 A3 n3 c3 l3 w hI hn1 hT hn2 hs47 hR hn3 ht rfl hck
end Go.Proofs.YthhdhdjdhekgpaaDoor.Pro
