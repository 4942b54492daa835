/- Joined: ProG1. -/
import Derived.Test.YthhdhdjdhekgpaaDoorProC
import Derived.Test.YthhdhdjdhekgpaaDoorProG
import Derived.Test.YthhdhdjdhekgpaaDoorProRd3
import Derived.Deep.DeepCutAuto
/- The contract of the landed GetReq. -/
namespace Go.Proofs.YthhdhdjdhekgpaaDoor.Pro
open Go.RowKit Go.Proofs.YthhdhdjdhekgpaaDoor.Oct Go.Proofs.YthhdhdjdhekgpaaDoor.Rec Go.Proofs.YthhdhdjdhekgpaaDoor.Cod Go.Proofs.YthhdhdjdhekgpaaDoor.Lay Go.Proofs.YthhdhdjdhekgpaaDoor.RowF Go.Proofs.YthhdhdjdhekgpaaDoor.InR

theorem empty_eq : ByteArray.empty = { data := #[] } := rfl
theorem ckB_15 : ckB 3 15 11 = ck15 := by
  funext n
  unfold ckB ck15
  by_cases h1 : n < 3
  · rw [if_pos h1, if_pos (.inl h1)]
  · rw [if_neg h1]
    by_cases h2 : 15 < n
    · rw [if_pos h2, if_pos (.inr h2)]
    · rw [if_neg h2, if_neg (by omega)]
theorem ckB_M (m : Int) : ckB 0 m 2 = ckM m := rfl
set_option maxRecDepth 100000 in
set_option maxHeartbeats 8000000 in
theorem GetReq_vn (A : Option Addr) (n c : Nat) (l : List UInt8) (K V : Nat) (w : World) (hr : Rd w w.heap.size A n l) (hc : n ≤ c) (hn : n ≤ 1099511627776) (ht : Tab w) (hkv : hdV l = ((K : Int), (V : Int))) (hK : K ≤ 12) (hk7 : K ≠ 7) (hk2 : K ≠ 2) (hV : V = 2) :
    Calls Tryd.prog 16 #[.slice A n c] w (GQR w (gtQ l)) := by
  have HR := Lib.hid hr
  have HLEN := Lib.hid hr.len
  have HTB := Lib.hid ht
  have HKV := Lib.hid hkv
  obtain ⟨e0, he0⟩ : ∃ e0, hdE l = e0 := ⟨_, rfl⟩
  have HE0 := Lib.hid he0
  have h2n : hdE l = 0 → 2 ≤ n := by
    intro h
    unfold hdE at h
    by_cases h3 : (l.length : Int) < 2
    · rw [if_pos h3] at h; cases h
    · have := hr.len; omega
  have H2N := Lib.hid h2n
  clear hr ht hkv he0 h2n
  have hK13 : K < 13 := by omega
  have hm1 : ¬ 0 < mT (K : Int) := by unfold mT; rw [if_neg (by omega)]; omega
  have hm2 : ¬ 0 < mB (K : Int) := by unfold mB; rw [if_neg (by omega)]; omega
  have HC4 := Lib.hid (show textsC (K : Int) = cmany txt64 (nT (K : Int)).toNat by unfold textsC; rw [if_neg (by omega)])
  have HC5 := Lib.hid (show blobC (K : Int) = cnone [] by unfold blobC; rw [if_neg (by omega)])
  have HC2 := Lib.hid (show whoC (V : Int) = txt64 by unfold whoC; rw [if_pos (by omega)])
  have hge : (2 : Int) ≤ (V : Int) := by omega
  have hnI5 : nI (K : Int) ≤ 5 ∧ nT (K : Int) ≤ 3 := by
    by_cases h : K = 0
    · subst h; decide
    · have h1 := nI_in (k := (K : Int)) (by omega); have h2 := nT_in (k := (K : Int)) (by omega); omega
  obtain ⟨hnI5, hnT3⟩ := hnI5
  clear hV hk7 hk2
  have HS0 := Lib.hid (show GS w w.heap.size (w.heap.size + 1) (w.heap.size + 1 + 1) 26 #[(.int .i64 0), (.int .i64 0), (.int .i64 0), (.string { data := #[] }), (.slice none 0 0), (.slice none 0 0), (.slice none 0 0)] 26 #[(.int .i64 0), (.int .i64 0), (.int .i64 0), (.string { data := #[] }), (.slice none 0 0), (.slice none 0 0), (.slice none 0 0)] 65 (.slice A n c) 0 0 (((w.alloc (.cells #[(.int .i64 0), (.int .i64 0), (.int .i64 0), (.string { data := #[] }), (.slice none 0 0), (.slice none 0 0), (.slice none 0 0)] 26)).alloc (.cells #[(.int .i64 0), (.int .i64 0), (.int .i64 0), (.string { data := #[] }), (.slice none 0 0), (.slice none 0 0), (.slice none 0 0)] 26)).alloc (.cells #[.slice A n c, .int .i64 0, .int .i64 0] 65)) from GS_start _ _ _ _ _ _ _)
  have hmx : Tryd.prog.follows .mixedOrders = true := by kernel_rfl
  go_enter Tryd.func16, Tryd.ntmps16
  go_upto_region 16 with (first
    | (go_at_call 50; have HSA := Lib.hid (show GS w w.heap.size (w.heap.size + 1) (w.heap.size + 1 + 1) 26 #[(.int .i64 0), (.int .i64 0), (.int .i64 0), (.string { data := #[] }), (.slice none 0 0), (.slice none 0 0), (.slice none 0 0)] 26 #[(.int .i64 (K : Int)), (.int .i64 (V : Int)), (.int .i64 i), (.string s), (.slice A1 n1 c1), (.slice A2 n2 c2), (.slice none 0 0)] 65 (.slice A n c) p4 e4 (w26.setCell ⟨(w.heap.size + 1), 5, none⟩ (.slice A2 n2 c2)) from HS26.out.set 5 _); (with_reducible refine (end_any _ A n c p4 e4 _ HSA.out.rd).mono ?_); rintro e w25 ⟨rfl, hr9, hg9⟩; have HS25 := Lib.hid (HSA.out.grow hg9 hr9); have HON25 := Lib.hid (own_row (own_set (g := (w.heap.size + 1)) (j := 5) (u := (.slice A2 n2 c2)) HON26.out (by omega)) hg9 (by omega)); have HOT25 := Lib.hid (own_row (own_set (g := (w.heap.size + 1)) (j := 5) (u := (.slice A2 n2 c2)) HOT26.out (by omega)) hg9 (by omega)); clear HSA hr9 hg9)
    | (go_at_call 49; have HSA := Lib.hid (show GS w w.heap.size (w.heap.size + 1) (w.heap.size + 1 + 1) 26 #[(.int .i64 0), (.int .i64 0), (.int .i64 0), (.string { data := #[] }), (.slice none 0 0), (.slice none 0 0), (.slice none 0 0)] 26 #[(.int .i64 (K : Int)), (.int .i64 (V : Int)), (.int .i64 i), (.string s), (.slice A1 n1 c1), (.slice none 0 0), (.slice none 0 0)] 65 (.slice A n c) p3 e3 (w27.setCell ⟨(w.heap.size + 1), 4, none⟩ (.slice A1 n1 c1)) from HS27.out.set 4 _); have HHA := Lib.hid (blk_set (g := (w.heap.size + 1)) (j := 4) (v := (.slice A1 n1 c1)) HH27.out (by omega)); have HONA := Lib.hid (own_set (g := (w.heap.size + 1)) (j := 4) (u := (.slice A1 n1 c1)) HON27.out (by omega)); (with_reducible refine (texts_any (nT (K : Int)) (by omega) _ A n c p3 e3 l w.heap.size _ HSA.out.rd (HR.out.below HSA.out.bel (Nat.le_refl _)) hc hn HA27.out (by omega)).mono ?_); rintro e w26 ⟨A2, n2, c2, L2, p4, e4, rfl, hm9, hO9, hI9, hS9, hA9, hr9, hg9⟩; have HS26 := Lib.hid (HSA.out.grow hg9 hr9); have HH26 := Lib.hid (blk_grow HHA.out hg9 (by omega)); have HON26 := Lib.hid (own_row HONA.out hg9 (by omega)); have HP4 := Lib.hid hS9; have HA26 := Lib.hid hA9; have HN2 := Lib.hid hm9; have HI2 := Lib.hid hI9; have HOT26 := Lib.hid hO9; have hbT : w.heap.size + 1 + 1 < (w27.setCell ⟨(w.heap.size + 1), 4, none⟩ (.slice A1 n1 c1)).heap.size ∧ w30.heap.size < (w27.setCell ⟨(w.heap.size + 1), 4, none⟩ (.slice A1 n1 c1)).heap.size := ⟨HSA.out.l5, heap_lt HHA.out⟩; clear hS9 hA9 hI9 hm9 hO9; clear HSA HHA hr9 hg9 HONA; dsimp only [mkI, mkS]; (try clear q0 q1 q2 q3 q4 q5 q6 f4); (try clear s0 s1 s2 s3); (try clear t0 t1 t2 t3); have q0 := HS26.out.c4 0; have q1 := HS26.out.c4 1; have q2 := HS26.out.c4 2; have q3 := HS26.out.c4 3; have q4 := HS26.out.c4 4; have q5 := HS26.out.c4 5; have q6 := HS26.out.c4 6; simp only [List.getElem?_toArray, List.getElem?_cons_zero, List.getElem?_cons_succ] at q0 q1 q2 q3 q4 q5 q6; have f4 := HS26.out.f4; have s0 := heap_cell HH26.out 0; have s1 := heap_cell HH26.out 1; have s2 := heap_cell HH26.out 2; have s3 := heap_cell HH26.out 3; simp only [List.getElem?_toArray, List.getElem?_cons_zero, List.getElem?_cons_succ] at s0 s1 s2 s3)
    | (go_at_call 47; have HSA := Lib.hid (show GS w w.heap.size (w.heap.size + 1) (w.heap.size + 1 + 1) 26 #[(.int .i64 0), (.int .i64 0), (.int .i64 0), (.string { data := #[] }), (.slice none 0 0), (.slice none 0 0), (.slice none 0 0)] 26 #[(.int .i64 (K : Int)), (.int .i64 (V : Int)), (.int .i64 i), (.string s), (.slice none 0 0), (.slice none 0 0), (.slice none 0 0)] 65 (.slice A n c) p2 e2 (w28.setCell ⟨(w.heap.size + 1), 3, none⟩ (.string s)) from HS28.out.set 3 _); have HHA := Lib.hid (blk_set (g := (w.heap.size + 1)) (j := 3) (v := (.string s)) HH28.out (by omega)); (with_reducible refine (numbers_any (nI (K : Int)) (by omega) _ A n c p2 e2 l w.heap.size _ HSA.out.rd (HR.out.below HSA.out.bel (Nat.le_refl _)) hn HA28.out (by omega)).mono ?_); rintro e w27 ⟨A1, n1, c1, L1, p3, e3, rfl, hm9, hO9, hI9, hS9, hA9, hr9, hg9⟩; have HS27 := Lib.hid (HSA.out.grow hg9 hr9); have HH27 := Lib.hid (blk_grow HHA.out hg9 (by omega)); have HP3 := Lib.hid hS9; have HA27 := Lib.hid hA9; have HN1 := Lib.hid hm9; have HI1 := Lib.hid hI9; have HON27 := Lib.hid hO9; have hbN : w.heap.size + 1 + 1 < (w28.setCell ⟨(w.heap.size + 1), 3, none⟩ (.string s)).heap.size ∧ w30.heap.size < (w28.setCell ⟨(w.heap.size + 1), 3, none⟩ (.string s)).heap.size := ⟨HSA.out.l5, heap_lt HHA.out⟩; clear hS9 hA9 hI9 hm9 hO9; clear HSA HHA hr9 hg9 ; dsimp only [mkI, mkS]; (try clear q0 q1 q2 q3 q4 q5 q6 f4); (try clear s0 s1 s2 s3); (try clear t0 t1 t2 t3); have q0 := HS27.out.c4 0; have q1 := HS27.out.c4 1; have q2 := HS27.out.c4 2; have q3 := HS27.out.c4 3; have q4 := HS27.out.c4 4; have q5 := HS27.out.c4 5; have q6 := HS27.out.c4 6; simp only [List.getElem?_toArray, List.getElem?_cons_zero, List.getElem?_cons_succ] at q0 q1 q2 q3 q4 q5 q6; have f4 := HS27.out.f4; have s0 := heap_cell HH27.out 0; have s1 := heap_cell HH27.out 1; have s2 := heap_cell HH27.out 2; have s3 := heap_cell HH27.out 3; simp only [List.getElem?_toArray, List.getElem?_cons_zero, List.getElem?_cons_succ] at s0 s1 s2 s3)
    | (go_at_call 46; have HSA := Lib.hid (show GS w w.heap.size (w.heap.size + 1) (w.heap.size + 1 + 1) 26 #[(.int .i64 0), (.int .i64 0), (.int .i64 0), (.string { data := #[] }), (.slice none 0 0), (.slice none 0 0), (.slice none 0 0)] 26 #[(.int .i64 (K : Int)), (.int .i64 (V : Int)), (.int .i64 i), (.string { data := #[] }), (.slice none 0 0), (.slice none 0 0), (.slice none 0 0)] 65 (.slice A n c) p1 e1 (w29.setCell ⟨(w.heap.size + 1), 2, none⟩ (.int .i64 i)) from HS29.out.set 2 _); have HHA := Lib.hid (blk_set (g := (w.heap.size + 1)) (j := 2) (v := (.int .i64 i)) HH29.out (by omega)); (refine (text_any _ A n c 64 p1 e1 l w.heap.size _ (by omega) HSA.out.rd (HR.out.below HSA.out.bel (Nat.le_refl _)) hc hn HA29.out).mono ?_); rintro e w28 ⟨s, p2, e2, rfl, hI9, hS9, hA9, hr9, hg9⟩; have HS28 := Lib.hid (HSA.out.grow hg9 hr9); have HH28 := Lib.hid (blk_grow HHA.out hg9 (by omega)); have HP2 := Lib.hid hS9; have HA28 := Lib.hid hA9; have HS64 := Lib.hid hI9; clear hS9 hA9 hI9; clear HSA HHA hr9 hg9 ; dsimp only [mkI, mkS]; (try clear q0 q1 q2 q3 q4 q5 q6 f4); (try clear s0 s1 s2 s3); (try clear t0 t1 t2 t3); have q0 := HS28.out.c4 0; have q1 := HS28.out.c4 1; have q2 := HS28.out.c4 2; have q3 := HS28.out.c4 3; have q4 := HS28.out.c4 4; have q5 := HS28.out.c4 5; have q6 := HS28.out.c4 6; simp only [List.getElem?_toArray, List.getElem?_cons_zero, List.getElem?_cons_succ] at q0 q1 q2 q3 q4 q5 q6; have f4 := HS28.out.f4; have s0 := heap_cell HH28.out 0; have s1 := heap_cell HH28.out 1; have s2 := heap_cell HH28.out 2; have s3 := heap_cell HH28.out 3; simp only [List.getElem?_toArray, List.getElem?_cons_zero, List.getElem?_cons_succ] at s0 s1 s2 s3)
    | (go_at_call 45; have HSA := Lib.hid (show GS w w.heap.size (w.heap.size + 1) (w.heap.size + 1 + 1) 26 #[(.int .i64 0), (.int .i64 0), (.int .i64 0), (.string { data := #[] }), (.slice none 0 0), (.slice none 0 0), (.slice none 0 0)] 26 #[(.int .i64 (K : Int)), (.int .i64 (V : Int)), (.int .i64 0), (.string { data := #[] }), (.slice none 0 0), (.slice none 0 0), (.slice none 0 0)] 65 (.slice A n c) p0 e0 (((w30.setCell ⟨(w.heap.size + 1), 0, none⟩ (.int .i64 (K : Int))).setCell ⟨(w.heap.size + 1), 1, none⟩ (.int .i64 (V : Int))).alloc (.cells #[.int .i64 (nI (K : Int)), .int .i64 (nT (K : Int)), .int .i64 (mT (K : Int)), .int .i64 (mB (K : Int))] 57)) from ((HS30.out.set 0 _).set 1 _).alloc _); have HHA := Lib.hid (show (((w30.setCell ⟨(w.heap.size + 1), 0, none⟩ (.int .i64 (K : Int))).setCell ⟨(w.heap.size + 1), 1, none⟩ (.int .i64 (V : Int))).alloc (.cells #[.int .i64 (nI (K : Int)), .int .i64 (nT (K : Int)), .int .i64 (mT (K : Int)), .int .i64 (mB (K : Int))] 57)).heap[w30.heap.size]? = some (Obj.cells #[.int .i64 (nI (K : Int)), .int .i64 (nT (K : Int)), .int .i64 (mT (K : Int)), .int .i64 (mB (K : Int))] 57 (0, 0)) from alloc_at (by rw [size_set, size_set])); have hl30 : w.heap.size + 1 < w30.heap.size ∧ w.heap.size + 1 + 1 < w30.heap.size := ⟨HS30.out.l4, HS30.out.l5⟩; (with_reducible refine (number_any _ A n c p0 e0 l w.heap.size _ HSA.out.rd (HR.out.below HSA.out.bel (Nat.le_refl _)) hn HA30.out).mono ?_); rintro e w29 ⟨i, p1, e1, rfl, hI9, hS9, hA9, hr9, hg9⟩; have HS29 := Lib.hid (HSA.out.grow hg9 hr9); have HH29 := Lib.hid (blk_grow HHA.out hg9 (by omega)); have HP1 := Lib.hid hS9; have HA29 := Lib.hid hA9; clear hS9 hA9 hI9; clear HSA HHA hr9 hg9 ; dsimp only [mkI, mkS]; (try clear q0 q1 q2 q3 q4 q5 q6 f4); (try clear s0 s1 s2 s3); (try clear t0 t1 t2 t3); have q0 := HS29.out.c4 0; have q1 := HS29.out.c4 1; have q2 := HS29.out.c4 2; have q3 := HS29.out.c4 3; have q4 := HS29.out.c4 4; have q5 := HS29.out.c4 5; have q6 := HS29.out.c4 6; simp only [List.getElem?_toArray, List.getElem?_cons_zero, List.getElem?_cons_succ] at q0 q1 q2 q3 q4 q5 q6; have f4 := HS29.out.f4; have s0 := heap_cell HH29.out 0; have s1 := heap_cell HH29.out 1; have s2 := heap_cell HH29.out 2; have s3 := heap_cell HH29.out 3; simp only [List.getElem?_toArray, List.getElem?_cons_zero, List.getElem?_cons_succ] at s0 s1 s2 s3)
    | (go_at_call 44; (with_reducible refine (head_any _ A n c l w.heap.size _ HS0.out.rd (HR.out.below HS0.out.bel (Nat.le_refl _)) hc hn (by omega)).mono ?_); rw [HKV.out, HE0.out]; rintro e w30 ⟨p0, rfl, hp0, hp1, hp2, hr9, hg9⟩; have HS30 := Lib.hid (HS0.out.grow hg9 hr9); have HA30 := Lib.hid (show At n p0 e0 from ⟨hp1, by omega, fun h => by have h1 := H2N.out (HE0.out.trans h); omega⟩); have HP0 := Lib.hid (show Steps chead l 0 0 ((K : Int), (V : Int)) p0 e0 by have h := steps_head (l := l) (q := p0) (fun h => hp0 (HE0.out.symm.trans h)); rw [HKV.out, HE0.out] at h; exact h); clear hp0 hp1 hp2 hr9 hg9; dsimp only; (try clear q0 q1 q2 q3 q4 q5 q6 f4); (try clear s0 s1 s2 s3); (try clear t0 t1 t2 t3); have q0 := HS30.out.c4 0; have q1 := HS30.out.c4 1; have q2 := HS30.out.c4 2; have q3 := HS30.out.c4 3; have q4 := HS30.out.c4 4; have q5 := HS30.out.c4 5; have q6 := HS30.out.c4 6; simp only [List.getElem?_toArray, List.getElem?_cons_zero, List.getElem?_cons_succ] at q0 q1 q2 q3 q4 q5 q6; have f4 := HS30.out.f4; have t0 := (HTB.out.bel HS30.out.bel).c0 hK13; have t1 := (HTB.out.bel HS30.out.bel).c1 hK13; have t2 := (HTB.out.bel HS30.out.bel).c2 hK13; have t3 := (HTB.out.bel HS30.out.bel).c3 hK13))
  have HALL := Lib.hid (show Steps reqC l 0 0 ⟨(K : Int), (V : Int), i, s, L1, L2, []⟩ p4 e4 from steps_req HP0.out HP1.out (by rw [HC2.out]; exact HP2.out) HP3.out (by rw [HC4.out]; exact HP4.out) (by rw [HC5.out]; exact .none))
  obtain ⟨z, hz⟩ : ∃ z, enE n p4 e4 = z := ⟨_, rfl⟩
  have HEND := Lib.hid (gtQ_end HLEN.out HALL.out HA26.out (show _ = z from hz))
  rw [hz] at HS25
  clear hz
  have hl25 : w.heap.size + 1 < w25.heap.size ∧ w.heap.size + 1 + 1 < w25.heap.size ∧ w.heap.size < w25.heap.size := ⟨HS25.out.l4, HS25.out.l5, heap_lt HS25.out.b2⟩
  have r2 := HS25.out.rd.c2
  have z0 := HS25.out.c2 0
  have z1 := HS25.out.c2 1
  have z2 := HS25.out.c2 2
  have z3 := HS25.out.c2 3
  have z4 := HS25.out.c2 4
  have z5 := HS25.out.c2 5
  have z6 := HS25.out.c2 6
  simp only [List.getElem?_toArray, List.getElem?_cons_zero, List.getElem?_cons_succ] at z0 z1 z2 z3 z4 z5 z6
  have f2 := HS25.out.f2
  by_cases hz0 : z = 0
  case neg =>
    have hzN : (z != 0) = true := by simp [hz0]
    have HZ := Lib.hid (HEND.out.1 hz0)
    clear hz0
    go_wp2
    refine region_let (fun W9 : World => W9.cell? ⟨(w.heap.size + 1 + 1), 2, none⟩ = some (.int .i64 z)) 99 5 hmx rfl fun ops Q HOPS HQ => ?_
    refine stepQ HOPS 0 1 ?_ (by decide) rfl (by kernel_rfl) (by kernel_rfl) rfl ?_ r2 ?_
    rotate_left
    · intro w9 hS9; go_simp; (first | done | with_reducible rfl)
    try simp only [Act.put, List.setIfInBounds_toArray, List.set_cons_zero, List.set_cons_succ]
    refine stepQ HOPS 1 3 ?_ (by decide) rfl (by kernel_rfl) (by kernel_rfl) rfl ?_ r2 ?_
    rotate_left
    · intro w9 hS9; go_simp; (first | done | with_reducible rfl)
    try simp only [Act.put, List.setIfInBounds_toArray, List.set_cons_zero, List.set_cons_succ]
    refine stepQ HOPS 2 7 ?_ (by decide) rfl (by kernel_rfl) (by kernel_rfl) rfl ?_ r2 ?_
    rotate_left
    · intro w9 hS9; go_simp; (first | done | with_reducible rfl)
    try simp only [Act.put, List.setIfInBounds_toArray, List.set_cons_zero, List.set_cons_succ]
    refine stepC HOPS 3 15 (by decide) rfl (by kernel_rfl) (by kernel_rfl) ?_
    go_simp
    try simp only [Act.put, List.setIfInBounds_toArray, List.set_cons_zero, List.set_cons_succ]
    refine stepQ HOPS 4 31 ?_ (by decide) rfl (by kernel_rfl) (by kernel_rfl) rfl ?_ (by go_simp) ?_
    rotate_left
    · intro w9 hS9; go_simp; (first | done | with_reducible rfl)
    try simp only [Act.put, List.setIfInBounds_toArray, List.set_cons_zero, List.set_cons_succ]
    refine stepE HOPS (by kernel_rfl) (HQ.out _ _ ?_)
    clear HQ HOPS
    clear Q ops
    go_wp2
    refine bodyPost_ret (v := .tuple #[reqV nilQ none 0 0 none 0 0 none 0 0, .int .i64 z]) (by simp [results, Tryd.results16, go_sem, reqV, nilQ, empty_eq, z0, z1, z2, z3, z4, z5, z6]) rfl ?_
    rw [HZ.out]
    exact ⟨none, 0, 0, none, 0, 0, none, 0, 0, rfl, Three.nil _, (show ByteArray.empty.size ≤ 64 by decide), (put7_bel HS25.out.bel (Nat.le_refl _) _ _ _ _ _ _ _).drew⟩
  subst hz0
  obtain ⟨y2, hz2⟩ : ∃ y2, ckQ ⟨(K : Int), (V : Int), i, s, L1, L2, []⟩ = y2 := ⟨_, rfl⟩
  have HCK := Lib.hid hz2
  have HL1 := Lib.hid (rdL_nums (HON25.out.rd nS) HI1.out)
  have HL2 := Lib.hid (rdL_strs (HOT25.out.rd sS) (fun x hx => Nat.le_trans (HI2.out x hx) (by decide)))
  have hN1 := HN1.out
  have hN2 := HN2.out
  have hbk : w.heap.size < w30.heap.size := by omega
  have q0 := HS25.out.c4 0
  have q1 := HS25.out.c4 1
  have q2 := HS25.out.c4 2
  have q3 := HS25.out.c4 3
  have q4 := HS25.out.c4 4
  have q5 := HS25.out.c4 5
  have q6 := HS25.out.c4 6
  simp only [List.getElem?_toArray, List.getElem?_cons_zero, List.getElem?_cons_succ] at q0 q1 q2 q3 q4 q5 q6
  by_cases hck : y2 = 0
  case neg =>
    have hz2N : (y2 != 0) = true := by simp [hck]
    have HZ := Lib.hid (HEND.out.2.1 rfl (by rw [hz2]; exact hck))
    clear hz2 hck
    go_wp2_with (go_at_call 18; (refine (CheckReq_any (K : Int) (V : Int) i s A1 n1 c1 L1 A2 n2 c2 L2 none 0 0 [] w25 HL1.out (by omega) HL2.out (by omega) (Nat.le_trans HS64.out (by decide)) (by omega) rfl (HTB.out.bel HS25.out.bel)).mono ?_); rw [HCK.out]; rintro e w9 ⟨rfl, hb9⟩; have HS9 := Lib.hid (HS25.out.below hb9); have HON9 := Lib.hid (OwnF.below HON25.out hb9); have HOT9 := Lib.hid (OwnF.below HOT25.out hb9); have z0 := HS9.out.c2 0; have z1 := HS9.out.c2 1; have z2 := HS9.out.c2 2; have z3 := HS9.out.c2 3; have z4 := HS9.out.c2 4; have z5 := HS9.out.c2 5; have z6 := HS9.out.c2 6; have q0 := HS9.out.c4 0; have q1 := HS9.out.c4 1; have q2 := HS9.out.c4 2; have q3 := HS9.out.c4 3; have q4 := HS9.out.c4 4; have q5 := HS9.out.c4 5; have q6 := HS9.out.c4 6; simp only [List.getElem?_toArray, List.getElem?_cons_zero, List.getElem?_cons_succ] at z0 z1 z2 z3 z4 z5 z6 q0 q1 q2 q3 q4 q5 q6; have f2 := HS9.out.f2; have f4 := HS9.out.f4; clear hb9)
    refine bodyPost_ret (v := .tuple #[reqV nilQ none 0 0 none 0 0 none 0 0, .int .i64 1]) (by simp [results, Tryd.results16, go_sem, reqV, nilQ, empty_eq, z0, z1, z2, z3, z4, z5, z6]) rfl ?_
    rw [HZ.out]
    exact ⟨none, 0, 0, none, 0, 0, none, 0, 0, rfl, Three.nil _, (show ByteArray.empty.size ≤ 64 by decide), put7_bel HS9.out.bel (Nat.le_refl _) _ _ _ _ _ _ _⟩
  have HZ := Lib.hid (HEND.out.2.2 rfl (by rw [hz2]; exact hck))
  subst hck
  clear hz2
  go_wp2_with (go_at_call 18; (refine (CheckReq_any (K : Int) (V : Int) i s A1 n1 c1 L1 A2 n2 c2 L2 none 0 0 [] w25 HL1.out (by omega) HL2.out (by omega) (Nat.le_trans HS64.out (by decide)) (by omega) rfl (HTB.out.bel HS25.out.bel)).mono ?_); rw [HCK.out]; rintro e w9 ⟨rfl, hb9⟩; have HS9 := Lib.hid (HS25.out.below hb9); have HON9 := Lib.hid (OwnF.below HON25.out hb9); have HOT9 := Lib.hid (OwnF.below HOT25.out hb9); have z0 := HS9.out.c2 0; have z1 := HS9.out.c2 1; have z2 := HS9.out.c2 2; have z3 := HS9.out.c2 3; have z4 := HS9.out.c2 4; have z5 := HS9.out.c2 5; have z6 := HS9.out.c2 6; have q0 := HS9.out.c4 0; have q1 := HS9.out.c4 1; have q2 := HS9.out.c4 2; have q3 := HS9.out.c4 3; have q4 := HS9.out.c4 4; have q5 := HS9.out.c4 5; have q6 := HS9.out.c4 6; simp only [List.getElem?_toArray, List.getElem?_cons_zero, List.getElem?_cons_succ] at z0 z1 z2 z3 z4 z5 z6 q0 q1 q2 q3 q4 q5 q6; have f2 := HS9.out.f2; have f4 := HS9.out.f4; clear hb9)
  refine bodyPost_ret (v := .tuple #[reqV ⟨(K : Int), (V : Int), i, s, L1, L2, []⟩ A1 n1 c1 A2 n2 c2 none 0 0, .int .i64 0]) (by simp [results, Tryd.results16, go_sem, reqV, z0, z1, z2, z3, z4, z5, z6]) rfl ?_
  rw [HZ.out]
  refine ⟨A1, n1, c1, A2, n2, c2, none, 0, 0, rfl, ⟨rdL_nums ((own_row HON9.out (put7_gb w9 w.heap.size _ _ _ _ _ _ _) (by omega)).rd nS) HI1.out, rdL_strs ((own_row HOT9.out (put7_gb w9 w.heap.size _ _ _ _ _ _ _) (by omega)).rd sS) (fun x hx => Nat.le_trans (HI2.out x hx) (by decide)), Rd.nil, by omega, by omega, by omega⟩, HS64.out, put7_bel HS9.out.bel (Nat.le_refl _) _ _ _ _ _ _ _⟩
set_option maxRecDepth 100000 in
set_option maxHeartbeats 8000000 in
theorem GetReq_v7 (A : Option Addr) (n c : Nat) (l : List UInt8) (K V : Nat) (w : World) (hr : Rd w w.heap.size A n l) (hc : n ≤ c) (hn : n ≤ 1099511627776) (ht : Tab w) (hkv : hdV l = ((K : Int), (V : Int))) (hK : K ≤ 12) (hk : K = 7) (hV : V = 2) :
    Calls Tryd.prog 16 #[.slice A n c] w (GQR w (gtQ l)) := by
  have HR := Lib.hid hr
  have HLEN := Lib.hid hr.len
  have HTB := Lib.hid ht
  have HKV := Lib.hid hkv
  obtain ⟨e0, he0⟩ : ∃ e0, hdE l = e0 := ⟨_, rfl⟩
  have HE0 := Lib.hid he0
  have h2n : hdE l = 0 → 2 ≤ n := by
    intro h
    unfold hdE at h
    by_cases h3 : (l.length : Int) < 2
    · rw [if_pos h3] at h; cases h
    · have := hr.len; omega
  have H2N := Lib.hid h2n
  clear hr ht hkv he0 h2n
  have hK13 : K < 13 := by omega
  have hm1 : 0 < mT (K : Int) := by rw [hk]; decide
  have hm2 : ¬ 0 < mB (K : Int) := by rw [hk]; decide
  have HC4 := Lib.hid (show textsC (K : Int) = ccount txt64 ck15 ck15_pos by unfold textsC; rw [if_pos (by omega)])
  have HC5 := Lib.hid (show blobC (K : Int) = cnone [] by unfold blobC; rw [if_neg (by omega)])
  have HN3 := Lib.hid (show nT (K : Int) = 3 by rw [hk]; decide)
  have HM12 := Lib.hid (show nT (K : Int) + mT (K : Int) = 15 by rw [hk]; decide)
  have wp9 : IntKind.i64.wrap (nT (K : Int) + mT (K : Int)) = nT (K : Int) + mT (K : Int) := IntWalk.i64_in _ (by have := HM12.out; omega)
  have HC2 := Lib.hid (show whoC (V : Int) = txt64 by unfold whoC; rw [if_pos (by omega)])
  have hge : (2 : Int) ≤ (V : Int) := by omega
  have hnI5 : nI (K : Int) ≤ 5 ∧ nT (K : Int) ≤ 3 := by
    by_cases h : K = 0
    · subst h; decide
    · have h1 := nI_in (k := (K : Int)) (by omega); have h2 := nT_in (k := (K : Int)) (by omega); omega
  obtain ⟨hnI5, hnT3⟩ := hnI5
  clear hV hk
  have HS0 := Lib.hid (show GS w w.heap.size (w.heap.size + 1) (w.heap.size + 1 + 1) 26 #[(.int .i64 0), (.int .i64 0), (.int .i64 0), (.string { data := #[] }), (.slice none 0 0), (.slice none 0 0), (.slice none 0 0)] 26 #[(.int .i64 0), (.int .i64 0), (.int .i64 0), (.string { data := #[] }), (.slice none 0 0), (.slice none 0 0), (.slice none 0 0)] 65 (.slice A n c) 0 0 (((w.alloc (.cells #[(.int .i64 0), (.int .i64 0), (.int .i64 0), (.string { data := #[] }), (.slice none 0 0), (.slice none 0 0), (.slice none 0 0)] 26)).alloc (.cells #[(.int .i64 0), (.int .i64 0), (.int .i64 0), (.string { data := #[] }), (.slice none 0 0), (.slice none 0 0), (.slice none 0 0)] 26)).alloc (.cells #[.slice A n c, .int .i64 0, .int .i64 0] 65)) from GS_start _ _ _ _ _ _ _)
  have hmx : Tryd.prog.follows .mixedOrders = true := by kernel_rfl
  go_enter Tryd.func16, Tryd.ntmps16
  go_upto_region 16 with (first
    | (go_at_call 50; have HSA := Lib.hid (show GS w w.heap.size (w.heap.size + 1) (w.heap.size + 1 + 1) 26 #[(.int .i64 0), (.int .i64 0), (.int .i64 0), (.string { data := #[] }), (.slice none 0 0), (.slice none 0 0), (.slice none 0 0)] 26 #[(.int .i64 (K : Int)), (.int .i64 (V : Int)), (.int .i64 i), (.string s), (.slice A1 n1 c1), (.slice A2 n2 c2), (.slice none 0 0)] 65 (.slice A n c) p4 e4 (w25.setCell ⟨(w.heap.size + 1), 5, none⟩ (.slice A2 n2 c2)) from HS25.out.set 5 _); (with_reducible refine (end_any _ A n c p4 e4 _ HSA.out.rd).mono ?_); rintro e w24 ⟨rfl, hr9, hg9⟩; have HS24 := Lib.hid (HSA.out.grow hg9 hr9); have HON24 := Lib.hid (own_row (own_set (g := (w.heap.size + 1)) (j := 5) (u := (.slice A2 n2 c2)) HON25.out (by omega)) hg9 (by omega)); have HOT24 := Lib.hid (own_row (own_set (g := (w.heap.size + 1)) (j := 5) (u := (.slice A2 n2 c2)) HOT25.out (by omega)) hg9 (by omega)); clear HSA hr9 hg9)
    | (go_at_call 49; have HSA := HS26; have HHA := HH26; have HONA := HON26; (with_reducible refine (texts_any m (by omega) _ A n c p9 e9 l w.heap.size _ HSA.out.rd (HR.out.below HSA.out.bel (Nat.le_refl _)) hc hn HA26.out (by omega)).mono ?_); rintro e w25 ⟨A2, n2, c2, L2, p4, e4, rfl, hm9, hO9, hI9, hS9, hA9, hr9, hg9⟩; have HS25 := Lib.hid (HSA.out.grow hg9 hr9); have HH25 := Lib.hid (blk_grow HHA.out hg9 (by omega)); have HON25 := Lib.hid (own_row HONA.out hg9 (by omega)); have HP4 := Lib.hid hS9; have HA25 := Lib.hid hA9; have HN2 := Lib.hid hm9; have HI2 := Lib.hid hI9; have HOT25 := Lib.hid hO9; have hbT : w.heap.size + 1 + 1 < w26.heap.size ∧ w30.heap.size < w26.heap.size := ⟨HSA.out.l5, heap_lt HHA.out⟩; clear hS9 hA9 hI9 hm9 hO9; clear HSA HHA hr9 hg9 HONA; dsimp only [mkI, mkS]; (try clear q0 q1 q2 q3 q4 q5 q6 f4); (try clear s0 s1 s2 s3); (try clear t0 t1 t2 t3); have q0 := HS25.out.c4 0; have q1 := HS25.out.c4 1; have q2 := HS25.out.c4 2; have q3 := HS25.out.c4 3; have q4 := HS25.out.c4 4; have q5 := HS25.out.c4 5; have q6 := HS25.out.c4 6; simp only [List.getElem?_toArray, List.getElem?_cons_zero, List.getElem?_cons_succ] at q0 q1 q2 q3 q4 q5 q6; have f4 := HS25.out.f4; have s0 := heap_cell HH25.out 0; have s1 := heap_cell HH25.out 1; have s2 := heap_cell HH25.out 2; have s3 := heap_cell HH25.out 3; simp only [List.getElem?_toArray, List.getElem?_cons_zero, List.getElem?_cons_succ] at s0 s1 s2 s3)
    | (go_at_call 48; have HSA := Lib.hid (show GS w w.heap.size (w.heap.size + 1) (w.heap.size + 1 + 1) 26 #[(.int .i64 0), (.int .i64 0), (.int .i64 0), (.string { data := #[] }), (.slice none 0 0), (.slice none 0 0), (.slice none 0 0)] 26 #[(.int .i64 (K : Int)), (.int .i64 (V : Int)), (.int .i64 i), (.string s), (.slice A1 n1 c1), (.slice none 0 0), (.slice none 0 0)] 65 (.slice A n c) p3 e3 (w27.setCell ⟨(w.heap.size + 1), 4, none⟩ (.slice A1 n1 c1)) from HS27.out.set 4 _); have HHA := Lib.hid (blk_set (g := (w.heap.size + 1)) (j := 4) (v := (.slice A1 n1 c1)) HH27.out (by omega)); have HONA := Lib.hid (own_set (g := (w.heap.size + 1)) (j := 4) (u := (.slice A1 n1 c1)) HON27.out (by omega)); (with_reducible refine (count_any (nT (K : Int)) (nT (K : Int) + mT (K : Int)) 11 (by decide) _ A n c p3 e3 l w.heap.size _ HSA.out.rd (HR.out.below HSA.out.bel (Nat.le_refl _)) hn HA27.out (by omega)).mono ?_); rintro e w26 ⟨m, p9, e9, rfl, hI9, hS9, hA9, hr9, hg9⟩; have HS26 := Lib.hid (HSA.out.grow hg9 hr9); have HH26 := Lib.hid (blk_grow HHA.out hg9 (by omega)); have HON26 := Lib.hid (own_row HONA.out hg9 (by omega)); have HP9 := Lib.hid hS9; have HA26 := Lib.hid hA9; have hm15 : m ≤ 1099511627776 := (by have h1 := hI9.2; have h2 := HM12.out; omega); clear hS9 hA9 hI9; clear HSA HHA hr9 hg9 HONA; dsimp only [mkI, mkS]; (try clear q0 q1 q2 q3 q4 q5 q6 f4); (try clear s0 s1 s2 s3); (try clear t0 t1 t2 t3); have q0 := HS26.out.c4 0; have q1 := HS26.out.c4 1; have q2 := HS26.out.c4 2; have q3 := HS26.out.c4 3; have q4 := HS26.out.c4 4; have q5 := HS26.out.c4 5; have q6 := HS26.out.c4 6; simp only [List.getElem?_toArray, List.getElem?_cons_zero, List.getElem?_cons_succ] at q0 q1 q2 q3 q4 q5 q6; have f4 := HS26.out.f4; have s0 := heap_cell HH26.out 0; have s1 := heap_cell HH26.out 1; have s2 := heap_cell HH26.out 2; have s3 := heap_cell HH26.out 3; simp only [List.getElem?_toArray, List.getElem?_cons_zero, List.getElem?_cons_succ] at s0 s1 s2 s3)
    | (go_at_call 47; have HSA := Lib.hid (show GS w w.heap.size (w.heap.size + 1) (w.heap.size + 1 + 1) 26 #[(.int .i64 0), (.int .i64 0), (.int .i64 0), (.string { data := #[] }), (.slice none 0 0), (.slice none 0 0), (.slice none 0 0)] 26 #[(.int .i64 (K : Int)), (.int .i64 (V : Int)), (.int .i64 i), (.string s), (.slice none 0 0), (.slice none 0 0), (.slice none 0 0)] 65 (.slice A n c) p2 e2 (w28.setCell ⟨(w.heap.size + 1), 3, none⟩ (.string s)) from HS28.out.set 3 _); have HHA := Lib.hid (blk_set (g := (w.heap.size + 1)) (j := 3) (v := (.string s)) HH28.out (by omega)); (with_reducible refine (numbers_any (nI (K : Int)) (by omega) _ A n c p2 e2 l w.heap.size _ HSA.out.rd (HR.out.below HSA.out.bel (Nat.le_refl _)) hn HA28.out (by omega)).mono ?_); rintro e w27 ⟨A1, n1, c1, L1, p3, e3, rfl, hm9, hO9, hI9, hS9, hA9, hr9, hg9⟩; have HS27 := Lib.hid (HSA.out.grow hg9 hr9); have HH27 := Lib.hid (blk_grow HHA.out hg9 (by omega)); have HP3 := Lib.hid hS9; have HA27 := Lib.hid hA9; have HN1 := Lib.hid hm9; have HI1 := Lib.hid hI9; have HON27 := Lib.hid hO9; have hbN : w.heap.size + 1 + 1 < (w28.setCell ⟨(w.heap.size + 1), 3, none⟩ (.string s)).heap.size ∧ w30.heap.size < (w28.setCell ⟨(w.heap.size + 1), 3, none⟩ (.string s)).heap.size := ⟨HSA.out.l5, heap_lt HHA.out⟩; clear hS9 hA9 hI9 hm9 hO9; clear HSA HHA hr9 hg9 ; dsimp only [mkI, mkS]; (try clear q0 q1 q2 q3 q4 q5 q6 f4); (try clear s0 s1 s2 s3); (try clear t0 t1 t2 t3); have q0 := HS27.out.c4 0; have q1 := HS27.out.c4 1; have q2 := HS27.out.c4 2; have q3 := HS27.out.c4 3; have q4 := HS27.out.c4 4; have q5 := HS27.out.c4 5; have q6 := HS27.out.c4 6; simp only [List.getElem?_toArray, List.getElem?_cons_zero, List.getElem?_cons_succ] at q0 q1 q2 q3 q4 q5 q6; have f4 := HS27.out.f4; have s0 := heap_cell HH27.out 0; have s1 := heap_cell HH27.out 1; have s2 := heap_cell HH27.out 2; have s3 := heap_cell HH27.out 3; simp only [List.getElem?_toArray, List.getElem?_cons_zero, List.getElem?_cons_succ] at s0 s1 s2 s3)
    | (go_at_call 46; have HSA := Lib.hid (show GS w w.heap.size (w.heap.size + 1) (w.heap.size + 1 + 1) 26 #[(.int .i64 0), (.int .i64 0), (.int .i64 0), (.string { data := #[] }), (.slice none 0 0), (.slice none 0 0), (.slice none 0 0)] 26 #[(.int .i64 (K : Int)), (.int .i64 (V : Int)), (.int .i64 i), (.string { data := #[] }), (.slice none 0 0), (.slice none 0 0), (.slice none 0 0)] 65 (.slice A n c) p1 e1 (w29.setCell ⟨(w.heap.size + 1), 2, none⟩ (.int .i64 i)) from HS29.out.set 2 _); have HHA := Lib.hid (blk_set (g := (w.heap.size + 1)) (j := 2) (v := (.int .i64 i)) HH29.out (by omega)); (refine (text_any _ A n c 64 p1 e1 l w.heap.size _ (by omega) HSA.out.rd (HR.out.below HSA.out.bel (Nat.le_refl _)) hc hn HA29.out).mono ?_); rintro e w28 ⟨s, p2, e2, rfl, hI9, hS9, hA9, hr9, hg9⟩; have HS28 := Lib.hid (HSA.out.grow hg9 hr9); have HH28 := Lib.hid (blk_grow HHA.out hg9 (by omega)); have HP2 := Lib.hid hS9; have HA28 := Lib.hid hA9; have HS64 := Lib.hid hI9; clear hS9 hA9 hI9; clear HSA HHA hr9 hg9 ; dsimp only [mkI, mkS]; (try clear q0 q1 q2 q3 q4 q5 q6 f4); (try clear s0 s1 s2 s3); (try clear t0 t1 t2 t3); have q0 := HS28.out.c4 0; have q1 := HS28.out.c4 1; have q2 := HS28.out.c4 2; have q3 := HS28.out.c4 3; have q4 := HS28.out.c4 4; have q5 := HS28.out.c4 5; have q6 := HS28.out.c4 6; simp only [List.getElem?_toArray, List.getElem?_cons_zero, List.getElem?_cons_succ] at q0 q1 q2 q3 q4 q5 q6; have f4 := HS28.out.f4; have s0 := heap_cell HH28.out 0; have s1 := heap_cell HH28.out 1; have s2 := heap_cell HH28.out 2; have s3 := heap_cell HH28.out 3; simp only [List.getElem?_toArray, List.getElem?_cons_zero, List.getElem?_cons_succ] at s0 s1 s2 s3)
    | (go_at_call 45; have HSA := Lib.hid (show GS w w.heap.size (w.heap.size + 1) (w.heap.size + 1 + 1) 26 #[(.int .i64 0), (.int .i64 0), (.int .i64 0), (.string { data := #[] }), (.slice none 0 0), (.slice none 0 0), (.slice none 0 0)] 26 #[(.int .i64 (K : Int)), (.int .i64 (V : Int)), (.int .i64 0), (.string { data := #[] }), (.slice none 0 0), (.slice none 0 0), (.slice none 0 0)] 65 (.slice A n c) p0 e0 (((w30.setCell ⟨(w.heap.size + 1), 0, none⟩ (.int .i64 (K : Int))).setCell ⟨(w.heap.size + 1), 1, none⟩ (.int .i64 (V : Int))).alloc (.cells #[.int .i64 (nI (K : Int)), .int .i64 (nT (K : Int)), .int .i64 (mT (K : Int)), .int .i64 (mB (K : Int))] 57)) from ((HS30.out.set 0 _).set 1 _).alloc _); have HHA := Lib.hid (show (((w30.setCell ⟨(w.heap.size + 1), 0, none⟩ (.int .i64 (K : Int))).setCell ⟨(w.heap.size + 1), 1, none⟩ (.int .i64 (V : Int))).alloc (.cells #[.int .i64 (nI (K : Int)), .int .i64 (nT (K : Int)), .int .i64 (mT (K : Int)), .int .i64 (mB (K : Int))] 57)).heap[w30.heap.size]? = some (Obj.cells #[.int .i64 (nI (K : Int)), .int .i64 (nT (K : Int)), .int .i64 (mT (K : Int)), .int .i64 (mB (K : Int))] 57 (0, 0)) from alloc_at (by rw [size_set, size_set])); have hl30 : w.heap.size + 1 < w30.heap.size ∧ w.heap.size + 1 + 1 < w30.heap.size := ⟨HS30.out.l4, HS30.out.l5⟩; (with_reducible refine (number_any _ A n c p0 e0 l w.heap.size _ HSA.out.rd (HR.out.below HSA.out.bel (Nat.le_refl _)) hn HA30.out).mono ?_); rintro e w29 ⟨i, p1, e1, rfl, hI9, hS9, hA9, hr9, hg9⟩; have HS29 := Lib.hid (HSA.out.grow hg9 hr9); have HH29 := Lib.hid (blk_grow HHA.out hg9 (by omega)); have HP1 := Lib.hid hS9; have HA29 := Lib.hid hA9; clear hS9 hA9 hI9; clear HSA HHA hr9 hg9 ; dsimp only [mkI, mkS]; (try clear q0 q1 q2 q3 q4 q5 q6 f4); (try clear s0 s1 s2 s3); (try clear t0 t1 t2 t3); have q0 := HS29.out.c4 0; have q1 := HS29.out.c4 1; have q2 := HS29.out.c4 2; have q3 := HS29.out.c4 3; have q4 := HS29.out.c4 4; have q5 := HS29.out.c4 5; have q6 := HS29.out.c4 6; simp only [List.getElem?_toArray, List.getElem?_cons_zero, List.getElem?_cons_succ] at q0 q1 q2 q3 q4 q5 q6; have f4 := HS29.out.f4; have s0 := heap_cell HH29.out 0; have s1 := heap_cell HH29.out 1; have s2 := heap_cell HH29.out 2; have s3 := heap_cell HH29.out 3; simp only [List.getElem?_toArray, List.getElem?_cons_zero, List.getElem?_cons_succ] at s0 s1 s2 s3)
    | (go_at_call 44; (with_reducible refine (head_any _ A n c l w.heap.size _ HS0.out.rd (HR.out.below HS0.out.bel (Nat.le_refl _)) hc hn (by omega)).mono ?_); rw [HKV.out, HE0.out]; rintro e w30 ⟨p0, rfl, hp0, hp1, hp2, hr9, hg9⟩; have HS30 := Lib.hid (HS0.out.grow hg9 hr9); have HA30 := Lib.hid (show At n p0 e0 from ⟨hp1, by omega, fun h => by have h1 := H2N.out (HE0.out.trans h); omega⟩); have HP0 := Lib.hid (show Steps chead l 0 0 ((K : Int), (V : Int)) p0 e0 by have h := steps_head (l := l) (q := p0) (fun h => hp0 (HE0.out.symm.trans h)); rw [HKV.out, HE0.out] at h; exact h); clear hp0 hp1 hp2 hr9 hg9; dsimp only; (try clear q0 q1 q2 q3 q4 q5 q6 f4); (try clear s0 s1 s2 s3); (try clear t0 t1 t2 t3); have q0 := HS30.out.c4 0; have q1 := HS30.out.c4 1; have q2 := HS30.out.c4 2; have q3 := HS30.out.c4 3; have q4 := HS30.out.c4 4; have q5 := HS30.out.c4 5; have q6 := HS30.out.c4 6; simp only [List.getElem?_toArray, List.getElem?_cons_zero, List.getElem?_cons_succ] at q0 q1 q2 q3 q4 q5 q6; have f4 := HS30.out.f4; have t0 := (HTB.out.bel HS30.out.bel).c0 hK13; have t1 := (HTB.out.bel HS30.out.bel).c1 hK13; have t2 := (HTB.out.bel HS30.out.bel).c2 hK13; have t3 := (HTB.out.bel HS30.out.bel).c3 hK13))
  have HALL := Lib.hid (show Steps reqC l 0 0 ⟨(K : Int), (V : Int), i, s, L1, L2, []⟩ p4 e4 from steps_req HP0.out HP1.out (by rw [HC2.out]; exact HP2.out) HP3.out (by rw [HC4.out]; refine Steps.count (hchk := ck15_pos) (m := m) (?_ : Steps (cthat cvar ck15) l p3 e3 m p9 e9) (fun h => by have h2 := HP4.out; rw [h] at h2; exact h2) (fun h => HP4.out.keep h); have h := HP9.out; rw [HN3.out, show (3 : Int) + mT (K : Int) = 15 by rw [← HN3.out]; exact HM12.out, ckB_15] at h; exact h) (by rw [HC5.out]; exact .none))
  obtain ⟨z, hz⟩ : ∃ z, enE n p4 e4 = z := ⟨_, rfl⟩
  have HEND := Lib.hid (gtQ_end HLEN.out HALL.out HA25.out (show _ = z from hz))
  rw [hz] at HS24
  clear hz
  have hl24 : w.heap.size + 1 < w24.heap.size ∧ w.heap.size + 1 + 1 < w24.heap.size ∧ w.heap.size < w24.heap.size := ⟨HS24.out.l4, HS24.out.l5, heap_lt HS24.out.b2⟩
  have r2 := HS24.out.rd.c2
  have z0 := HS24.out.c2 0
  have z1 := HS24.out.c2 1
  have z2 := HS24.out.c2 2
  have z3 := HS24.out.c2 3
  have z4 := HS24.out.c2 4
  have z5 := HS24.out.c2 5
  have z6 := HS24.out.c2 6
  simp only [List.getElem?_toArray, List.getElem?_cons_zero, List.getElem?_cons_succ] at z0 z1 z2 z3 z4 z5 z6
  have f2 := HS24.out.f2
  by_cases hz0 : z = 0
  case neg =>
    have hzN : (z != 0) = true := by simp [hz0]
    have HZ := Lib.hid (HEND.out.1 hz0)
    clear hz0
    go_wp2
    refine region_let (fun W9 : World => W9.cell? ⟨(w.heap.size + 1 + 1), 2, none⟩ = some (.int .i64 z)) 99 5 hmx rfl fun ops Q HOPS HQ => ?_
    refine stepQ HOPS 0 1 ?_ (by decide) rfl (by kernel_rfl) (by kernel_rfl) rfl ?_ r2 ?_
    rotate_left
    · intro w9 hS9; go_simp; (first | done | with_reducible rfl)
    try simp only [Act.put, List.setIfInBounds_toArray, List.set_cons_zero, List.set_cons_succ]
    refine stepQ HOPS 1 3 ?_ (by decide) rfl (by kernel_rfl) (by kernel_rfl) rfl ?_ r2 ?_
    rotate_left
    · intro w9 hS9; go_simp; (first | done | with_reducible rfl)
    try simp only [Act.put, List.setIfInBounds_toArray, List.set_cons_zero, List.set_cons_succ]
    refine stepQ HOPS 2 7 ?_ (by decide) rfl (by kernel_rfl) (by kernel_rfl) rfl ?_ r2 ?_
    rotate_left
    · intro w9 hS9; go_simp; (first | done | with_reducible rfl)
    try simp only [Act.put, List.setIfInBounds_toArray, List.set_cons_zero, List.set_cons_succ]
    refine stepC HOPS 3 15 (by decide) rfl (by kernel_rfl) (by kernel_rfl) ?_
    go_simp
    try simp only [Act.put, List.setIfInBounds_toArray, List.set_cons_zero, List.set_cons_succ]
    refine stepQ HOPS 4 31 ?_ (by decide) rfl (by kernel_rfl) (by kernel_rfl) rfl ?_ (by go_simp) ?_
    rotate_left
    · intro w9 hS9; go_simp; (first | done | with_reducible rfl)
    try simp only [Act.put, List.setIfInBounds_toArray, List.set_cons_zero, List.set_cons_succ]
    refine stepE HOPS (by kernel_rfl) (HQ.out _ _ ?_)
    clear HQ HOPS
    clear Q ops
    go_wp2
    refine bodyPost_ret (v := .tuple #[reqV nilQ none 0 0 none 0 0 none 0 0, .int .i64 z]) (by simp [results, Tryd.results16, go_sem, reqV, nilQ, empty_eq, z0, z1, z2, z3, z4, z5, z6]) rfl ?_
    rw [HZ.out]
    exact ⟨none, 0, 0, none, 0, 0, none, 0, 0, rfl, Three.nil _, (show ByteArray.empty.size ≤ 64 by decide), (put7_bel HS24.out.bel (Nat.le_refl _) _ _ _ _ _ _ _).drew⟩
  subst hz0
  obtain ⟨y2, hz2⟩ : ∃ y2, ckQ ⟨(K : Int), (V : Int), i, s, L1, L2, []⟩ = y2 := ⟨_, rfl⟩
  have HCK := Lib.hid hz2
  have HL1 := Lib.hid (rdL_nums (HON24.out.rd nS) HI1.out)
  have HL2 := Lib.hid (rdL_strs (HOT24.out.rd sS) (fun x hx => Nat.le_trans (HI2.out x hx) (by decide)))
  have hN1 := HN1.out
  have hN2 := HN2.out
  have hbk : w.heap.size < w30.heap.size := by omega
  have q0 := HS24.out.c4 0
  have q1 := HS24.out.c4 1
  have q2 := HS24.out.c4 2
  have q3 := HS24.out.c4 3
  have q4 := HS24.out.c4 4
  have q5 := HS24.out.c4 5
  have q6 := HS24.out.c4 6
  simp only [List.getElem?_toArray, List.getElem?_cons_zero, List.getElem?_cons_succ] at q0 q1 q2 q3 q4 q5 q6
  by_cases hck : y2 = 0
  case neg =>
    have hz2N : (y2 != 0) = true := by simp [hck]
    have HZ := Lib.hid (HEND.out.2.1 rfl (by rw [hz2]; exact hck))
    clear hz2 hck
    go_wp2_with (go_at_call 18; (refine (CheckReq_any (K : Int) (V : Int) i s A1 n1 c1 L1 A2 n2 c2 L2 none 0 0 [] w24 HL1.out (by omega) HL2.out (by omega) (Nat.le_trans HS64.out (by decide)) (by omega) rfl (HTB.out.bel HS24.out.bel)).mono ?_); rw [HCK.out]; rintro e w9 ⟨rfl, hb9⟩; have HS9 := Lib.hid (HS24.out.below hb9); have HON9 := Lib.hid (OwnF.below HON24.out hb9); have HOT9 := Lib.hid (OwnF.below HOT24.out hb9); have z0 := HS9.out.c2 0; have z1 := HS9.out.c2 1; have z2 := HS9.out.c2 2; have z3 := HS9.out.c2 3; have z4 := HS9.out.c2 4; have z5 := HS9.out.c2 5; have z6 := HS9.out.c2 6; have q0 := HS9.out.c4 0; have q1 := HS9.out.c4 1; have q2 := HS9.out.c4 2; have q3 := HS9.out.c4 3; have q4 := HS9.out.c4 4; have q5 := HS9.out.c4 5; have q6 := HS9.out.c4 6; simp only [List.getElem?_toArray, List.getElem?_cons_zero, List.getElem?_cons_succ] at z0 z1 z2 z3 z4 z5 z6 q0 q1 q2 q3 q4 q5 q6; have f2 := HS9.out.f2; have f4 := HS9.out.f4; clear hb9)
    refine bodyPost_ret (v := .tuple #[reqV nilQ none 0 0 none 0 0 none 0 0, .int .i64 1]) (by simp [results, Tryd.results16, go_sem, reqV, nilQ, empty_eq, z0, z1, z2, z3, z4, z5, z6]) rfl ?_
    rw [HZ.out]
    exact ⟨none, 0, 0, none, 0, 0, none, 0, 0, rfl, Three.nil _, (show ByteArray.empty.size ≤ 64 by decide), put7_bel HS9.out.bel (Nat.le_refl _) _ _ _ _ _ _ _⟩
  have HZ := Lib.hid (HEND.out.2.2 rfl (by rw [hz2]; exact hck))
  subst hck
  clear hz2
  go_wp2_with (go_at_call 18; (refine (CheckReq_any (K : Int) (V : Int) i s A1 n1 c1 L1 A2 n2 c2 L2 none 0 0 [] w24 HL1.out (by omega) HL2.out (by omega) (Nat.le_trans HS64.out (by decide)) (by omega) rfl (HTB.out.bel HS24.out.bel)).mono ?_); rw [HCK.out]; rintro e w9 ⟨rfl, hb9⟩; have HS9 := Lib.hid (HS24.out.below hb9); have HON9 := Lib.hid (OwnF.below HON24.out hb9); have HOT9 := Lib.hid (OwnF.below HOT24.out hb9); have z0 := HS9.out.c2 0; have z1 := HS9.out.c2 1; have z2 := HS9.out.c2 2; have z3 := HS9.out.c2 3; have z4 := HS9.out.c2 4; have z5 := HS9.out.c2 5; have z6 := HS9.out.c2 6; have q0 := HS9.out.c4 0; have q1 := HS9.out.c4 1; have q2 := HS9.out.c4 2; have q3 := HS9.out.c4 3; have q4 := HS9.out.c4 4; have q5 := HS9.out.c4 5; have q6 := HS9.out.c4 6; simp only [List.getElem?_toArray, List.getElem?_cons_zero, List.getElem?_cons_succ] at z0 z1 z2 z3 z4 z5 z6 q0 q1 q2 q3 q4 q5 q6; have f2 := HS9.out.f2; have f4 := HS9.out.f4; clear hb9)
  refine bodyPost_ret (v := .tuple #[reqV ⟨(K : Int), (V : Int), i, s, L1, L2, []⟩ A1 n1 c1 A2 n2 c2 none 0 0, .int .i64 0]) (by simp [results, Tryd.results16, go_sem, reqV, z0, z1, z2, z3, z4, z5, z6]) rfl ?_
  rw [HZ.out]
  refine ⟨A1, n1, c1, A2, n2, c2, none, 0, 0, rfl, ⟨rdL_nums ((own_row HON9.out (put7_gb w9 w.heap.size _ _ _ _ _ _ _) (by omega)).rd nS) HI1.out, rdL_strs ((own_row HOT9.out (put7_gb w9 w.heap.size _ _ _ _ _ _ _) (by omega)).rd sS) (fun x hx => Nat.le_trans (HI2.out x hx) (by decide)), Rd.nil, by omega, by omega, by omega⟩, HS64.out, put7_bel HS9.out.bel (Nat.le_refl _) _ _ _ _ _ _ _⟩
set_option maxRecDepth 100000 in
set_option maxHeartbeats 8000000 in
theorem GetReq_v2 (A : Option Addr) (n c : Nat) (l : List UInt8) (K V : Nat) (w : World) (hr : Rd w w.heap.size A n l) (hc : n ≤ c) (hn : n ≤ 1099511627776) (ht : Tab w) (hkv : hdV l = ((K : Int), (V : Int))) (hK : K ≤ 12) (hk : K = 2) (hV : V = 2) :
    Calls Tryd.prog 16 #[.slice A n c] w (GQR w (gtQ l)) := by
  have HR := Lib.hid hr
  have HLEN := Lib.hid hr.len
  have HTB := Lib.hid ht
  have HKV := Lib.hid hkv
  obtain ⟨e0, he0⟩ : ∃ e0, hdE l = e0 := ⟨_, rfl⟩
  have HE0 := Lib.hid he0
  have h2n : hdE l = 0 → 2 ≤ n := by
    intro h
    unfold hdE at h
    by_cases h3 : (l.length : Int) < 2
    · rw [if_pos h3] at h; cases h
    · have := hr.len; omega
  have H2N := Lib.hid h2n
  clear hr ht hkv he0 h2n
  have hK13 : K < 13 := by omega
  have hm1 : ¬ 0 < mT (K : Int) := by rw [hk]; decide
  have hm2 : 0 < mB (K : Int) := by rw [hk]; decide
  have HC4 := Lib.hid (show textsC (K : Int) = cmany txt64 (nT (K : Int)).toNat by unfold textsC; rw [if_neg (by omega)])
  have HC5 := Lib.hid (show blobC (K : Int) = cblob (ckM 2048) (ckM_pos 2048) by unfold blobC; rw [if_pos (by omega)])
  have HMB := Lib.hid (show mB (K : Int) = ((2048 : Nat) : Int) by rw [hk]; decide)
  have HC2 := Lib.hid (show whoC (V : Int) = txt64 by unfold whoC; rw [if_pos (by omega)])
  have hge : (2 : Int) ≤ (V : Int) := by omega
  have hnI5 : nI (K : Int) ≤ 5 ∧ nT (K : Int) ≤ 3 := by
    by_cases h : K = 0
    · subst h; decide
    · have h1 := nI_in (k := (K : Int)) (by omega); have h2 := nT_in (k := (K : Int)) (by omega); omega
  obtain ⟨hnI5, hnT3⟩ := hnI5
  clear hV hk
  have HS0 := Lib.hid (show GS w w.heap.size (w.heap.size + 1) (w.heap.size + 1 + 1) 26 #[(.int .i64 0), (.int .i64 0), (.int .i64 0), (.string { data := #[] }), (.slice none 0 0), (.slice none 0 0), (.slice none 0 0)] 26 #[(.int .i64 0), (.int .i64 0), (.int .i64 0), (.string { data := #[] }), (.slice none 0 0), (.slice none 0 0), (.slice none 0 0)] 65 (.slice A n c) 0 0 (((w.alloc (.cells #[(.int .i64 0), (.int .i64 0), (.int .i64 0), (.string { data := #[] }), (.slice none 0 0), (.slice none 0 0), (.slice none 0 0)] 26)).alloc (.cells #[(.int .i64 0), (.int .i64 0), (.int .i64 0), (.string { data := #[] }), (.slice none 0 0), (.slice none 0 0), (.slice none 0 0)] 26)).alloc (.cells #[.slice A n c, .int .i64 0, .int .i64 0] 65)) from GS_start _ _ _ _ _ _ _)
  have hmx : Tryd.prog.follows .mixedOrders = true := by kernel_rfl
  go_enter Tryd.func16, Tryd.ntmps16
  go_upto_region 16 with (first
    | (go_at_call 50; have HSA := Lib.hid (show GS w w.heap.size (w.heap.size + 1) (w.heap.size + 1 + 1) 26 #[(.int .i64 0), (.int .i64 0), (.int .i64 0), (.string { data := #[] }), (.slice none 0 0), (.slice none 0 0), (.slice none 0 0)] 26 #[(.int .i64 (K : Int)), (.int .i64 (V : Int)), (.int .i64 i), (.string s), (.slice A1 n1 c1), (.slice A2 n2 c2), (.slice (some ⟨w25.heap.size, 0, none⟩) x.size cB)] 65 (.slice A n c) p5 e5 (wB.setCell ⟨(w.heap.size + 1), 6, none⟩ (.slice (some ⟨w25.heap.size, 0, none⟩) x.size cB)) from HSB.out.set 6 _); (with_reducible refine (end_any _ A n c p5 e5 _ HSA.out.rd).mono ?_); rintro e w24 ⟨rfl, hr9, hg9⟩; have HS24 := Lib.hid (HSA.out.grow hg9 hr9); have HON24 := Lib.hid (own_row (own_set (g := (w.heap.size + 1)) (j := 6) (u := (.slice (some ⟨w25.heap.size, 0, none⟩) x.size cB)) HONB.out (by omega)) hg9 (by omega)); have HOT24 := Lib.hid (own_row (own_set (g := (w.heap.size + 1)) (j := 6) (u := (.slice (some ⟨w25.heap.size, 0, none⟩) x.size cB)) HOTB.out (by omega)) hg9 (by omega)); have HX24 := Lib.hid (blk_grow (blk_set (g := (w.heap.size + 1)) (j := 6) (v := (.slice (some ⟨w25.heap.size, 0, none⟩) x.size cB)) HBX.out (by omega)) hg9 (by omega)); clear HSA hr9 hg9)
    | (go_at_call 46; rw [HMB.out]; have HSA := Lib.hid (show GS w w.heap.size (w.heap.size + 1) (w.heap.size + 1 + 1) 26 #[(.int .i64 0), (.int .i64 0), (.int .i64 0), (.string { data := #[] }), (.slice none 0 0), (.slice none 0 0), (.slice none 0 0)] 26 #[(.int .i64 (K : Int)), (.int .i64 (V : Int)), (.int .i64 i), (.string s), (.slice A1 n1 c1), (.slice A2 n2 c2), (.slice none 0 0)] 65 (.slice A n c) p4 e4 (w26.setCell ⟨(w.heap.size + 1), 5, none⟩ (.slice A2 n2 c2)) from HS26.out.set 5 _); have HHA := Lib.hid (blk_set (g := (w.heap.size + 1)) (j := 5) (v := (.slice A2 n2 c2)) HH26.out (by omega)); have HONA := Lib.hid (own_set (g := (w.heap.size + 1)) (j := 5) (u := (.slice A2 n2 c2)) HON26.out (by omega)); have HOTA := Lib.hid (own_set (g := (w.heap.size + 1)) (j := 5) (u := (.slice A2 n2 c2)) HOT26.out (by omega)); (refine ((blob_any _ A n c 2048 p4 e4 l w.heap.size _ HSA.out.rd (HR.out.below HSA.out.bel (Nat.le_refl _)) hc hn HA26.out)).mono ?_); rintro e w25 ⟨x, p5, e5, rfl, hI9, hS9, hA9, hr9, hg9⟩; have HS25 := Lib.hid (HSA.out.grow hg9 hr9); have HH25 := Lib.hid (blk_grow HHA.out hg9 (by omega)); have HON25 := Lib.hid (own_row HONA.out hg9 (by omega)); have HOT25 := Lib.hid (own_row HOTA.out hg9 (by omega)); have HP5 := Lib.hid hS9; have HA25 := Lib.hid hA9; have HX48 := Lib.hid hI9; clear hS9 hA9 hI9; obtain ⟨wB, hwB⟩ : ∃ wB, Lib.bytesWorld w25 5 x = wB := ⟨_, rfl⟩; obtain ⟨cB, hcB⟩ : ∃ cB, grownCap w25 x.size 0 5 = cB := ⟨_, rfl⟩; have rc := Lib.run_convert_string_bytes (P := Tryd.prog) w25 9 24 5 x Tryd.underlying9 Tryd.underlying24 Tryd.underlying5; rw [hwB, hcB] at rc; have hbB : Below w25.heap.size w25 wB := hwB ▸ bytes_below w25 _ x; have HBX := Lib.hid (hwB ▸ Lib.bytesWorld_at_new w25 5 x); have HSB := Lib.hid (HS25.out.below hbB); have HHB := Lib.hid (blk_below HH25.out hbB); have HONB := Lib.hid (OwnF.below HON25.out hbB); have HOTB := Lib.hid (OwnF.below HOT25.out hbB); have hlB : w.heap.size + 1 + 1 < w25.heap.size := HS25.out.l5; clear hwB hbB; clear HSA HHA hr9 hg9 HONA HOTA; dsimp only [mkI, mkS]; (try clear q0 q1 q2 q3 q4 q5 q6 f4); (try clear s0 s1 s2 s3); (try clear t0 t1 t2 t3); have q0 := HSB.out.c4 0; have q1 := HSB.out.c4 1; have q2 := HSB.out.c4 2; have q3 := HSB.out.c4 3; have q4 := HSB.out.c4 4; have q5 := HSB.out.c4 5; have q6 := HSB.out.c4 6; simp only [List.getElem?_toArray, List.getElem?_cons_zero, List.getElem?_cons_succ] at q0 q1 q2 q3 q4 q5 q6; have f4 := HSB.out.f4; have s0 := heap_cell HHB.out 0; have s1 := heap_cell HHB.out 1; have s2 := heap_cell HHB.out 2; have s3 := heap_cell HHB.out 3; simp only [List.getElem?_toArray, List.getElem?_cons_zero, List.getElem?_cons_succ] at s0 s1 s2 s3)
    | (go_at_call 49; have HSA := Lib.hid (show GS w w.heap.size (w.heap.size + 1) (w.heap.size + 1 + 1) 26 #[(.int .i64 0), (.int .i64 0), (.int .i64 0), (.string { data := #[] }), (.slice none 0 0), (.slice none 0 0), (.slice none 0 0)] 26 #[(.int .i64 (K : Int)), (.int .i64 (V : Int)), (.int .i64 i), (.string s), (.slice A1 n1 c1), (.slice none 0 0), (.slice none 0 0)] 65 (.slice A n c) p3 e3 (w27.setCell ⟨(w.heap.size + 1), 4, none⟩ (.slice A1 n1 c1)) from HS27.out.set 4 _); have HHA := Lib.hid (blk_set (g := (w.heap.size + 1)) (j := 4) (v := (.slice A1 n1 c1)) HH27.out (by omega)); have HONA := Lib.hid (own_set (g := (w.heap.size + 1)) (j := 4) (u := (.slice A1 n1 c1)) HON27.out (by omega)); (with_reducible refine (texts_any (nT (K : Int)) (by omega) _ A n c p3 e3 l w.heap.size _ HSA.out.rd (HR.out.below HSA.out.bel (Nat.le_refl _)) hc hn HA27.out (by omega)).mono ?_); rintro e w26 ⟨A2, n2, c2, L2, p4, e4, rfl, hm9, hO9, hI9, hS9, hA9, hr9, hg9⟩; have HS26 := Lib.hid (HSA.out.grow hg9 hr9); have HH26 := Lib.hid (blk_grow HHA.out hg9 (by omega)); have HON26 := Lib.hid (own_row HONA.out hg9 (by omega)); have HP4 := Lib.hid hS9; have HA26 := Lib.hid hA9; have HN2 := Lib.hid hm9; have HI2 := Lib.hid hI9; have HOT26 := Lib.hid hO9; have hbT : w.heap.size + 1 + 1 < (w27.setCell ⟨(w.heap.size + 1), 4, none⟩ (.slice A1 n1 c1)).heap.size ∧ w30.heap.size < (w27.setCell ⟨(w.heap.size + 1), 4, none⟩ (.slice A1 n1 c1)).heap.size := ⟨HSA.out.l5, heap_lt HHA.out⟩; clear hS9 hA9 hI9 hm9 hO9; clear HSA HHA hr9 hg9 HONA; dsimp only [mkI, mkS]; (try clear q0 q1 q2 q3 q4 q5 q6 f4); (try clear s0 s1 s2 s3); (try clear t0 t1 t2 t3); have q0 := HS26.out.c4 0; have q1 := HS26.out.c4 1; have q2 := HS26.out.c4 2; have q3 := HS26.out.c4 3; have q4 := HS26.out.c4 4; have q5 := HS26.out.c4 5; have q6 := HS26.out.c4 6; simp only [List.getElem?_toArray, List.getElem?_cons_zero, List.getElem?_cons_succ] at q0 q1 q2 q3 q4 q5 q6; have f4 := HS26.out.f4; have s0 := heap_cell HH26.out 0; have s1 := heap_cell HH26.out 1; have s2 := heap_cell HH26.out 2; have s3 := heap_cell HH26.out 3; simp only [List.getElem?_toArray, List.getElem?_cons_zero, List.getElem?_cons_succ] at s0 s1 s2 s3)
    | (go_at_call 47; have HSA := Lib.hid (show GS w w.heap.size (w.heap.size + 1) (w.heap.size + 1 + 1) 26 #[(.int .i64 0), (.int .i64 0), (.int .i64 0), (.string { data := #[] }), (.slice none 0 0), (.slice none 0 0), (.slice none 0 0)] 26 #[(.int .i64 (K : Int)), (.int .i64 (V : Int)), (.int .i64 i), (.string s), (.slice none 0 0), (.slice none 0 0), (.slice none 0 0)] 65 (.slice A n c) p2 e2 (w28.setCell ⟨(w.heap.size + 1), 3, none⟩ (.string s)) from HS28.out.set 3 _); have HHA := Lib.hid (blk_set (g := (w.heap.size + 1)) (j := 3) (v := (.string s)) HH28.out (by omega)); (with_reducible refine (numbers_any (nI (K : Int)) (by omega) _ A n c p2 e2 l w.heap.size _ HSA.out.rd (HR.out.below HSA.out.bel (Nat.le_refl _)) hn HA28.out (by omega)).mono ?_); rintro e w27 ⟨A1, n1, c1, L1, p3, e3, rfl, hm9, hO9, hI9, hS9, hA9, hr9, hg9⟩; have HS27 := Lib.hid (HSA.out.grow hg9 hr9); have HH27 := Lib.hid (blk_grow HHA.out hg9 (by omega)); have HP3 := Lib.hid hS9; have HA27 := Lib.hid hA9; have HN1 := Lib.hid hm9; have HI1 := Lib.hid hI9; have HON27 := Lib.hid hO9; have hbN : w.heap.size + 1 + 1 < (w28.setCell ⟨(w.heap.size + 1), 3, none⟩ (.string s)).heap.size ∧ w30.heap.size < (w28.setCell ⟨(w.heap.size + 1), 3, none⟩ (.string s)).heap.size := ⟨HSA.out.l5, heap_lt HHA.out⟩; clear hS9 hA9 hI9 hm9 hO9; clear HSA HHA hr9 hg9 ; dsimp only [mkI, mkS]; (try clear q0 q1 q2 q3 q4 q5 q6 f4); (try clear s0 s1 s2 s3); (try clear t0 t1 t2 t3); have q0 := HS27.out.c4 0; have q1 := HS27.out.c4 1; have q2 := HS27.out.c4 2; have q3 := HS27.out.c4 3; have q4 := HS27.out.c4 4; have q5 := HS27.out.c4 5; have q6 := HS27.out.c4 6; simp only [List.getElem?_toArray, List.getElem?_cons_zero, List.getElem?_cons_succ] at q0 q1 q2 q3 q4 q5 q6; have f4 := HS27.out.f4; have s0 := heap_cell HH27.out 0; have s1 := heap_cell HH27.out 1; have s2 := heap_cell HH27.out 2; have s3 := heap_cell HH27.out 3; simp only [List.getElem?_toArray, List.getElem?_cons_zero, List.getElem?_cons_succ] at s0 s1 s2 s3)
    | (go_at_call 46; have HSA := Lib.hid (show GS w w.heap.size (w.heap.size + 1) (w.heap.size + 1 + 1) 26 #[(.int .i64 0), (.int .i64 0), (.int .i64 0), (.string { data := #[] }), (.slice none 0 0), (.slice none 0 0), (.slice none 0 0)] 26 #[(.int .i64 (K : Int)), (.int .i64 (V : Int)), (.int .i64 i), (.string { data := #[] }), (.slice none 0 0), (.slice none 0 0), (.slice none 0 0)] 65 (.slice A n c) p1 e1 (w29.setCell ⟨(w.heap.size + 1), 2, none⟩ (.int .i64 i)) from HS29.out.set 2 _); have HHA := Lib.hid (blk_set (g := (w.heap.size + 1)) (j := 2) (v := (.int .i64 i)) HH29.out (by omega)); (refine (text_any _ A n c 64 p1 e1 l w.heap.size _ (by omega) HSA.out.rd (HR.out.below HSA.out.bel (Nat.le_refl _)) hc hn HA29.out).mono ?_); rintro e w28 ⟨s, p2, e2, rfl, hI9, hS9, hA9, hr9, hg9⟩; have HS28 := Lib.hid (HSA.out.grow hg9 hr9); have HH28 := Lib.hid (blk_grow HHA.out hg9 (by omega)); have HP2 := Lib.hid hS9; have HA28 := Lib.hid hA9; have HS64 := Lib.hid hI9; clear hS9 hA9 hI9; clear HSA HHA hr9 hg9 ; dsimp only [mkI, mkS]; (try clear q0 q1 q2 q3 q4 q5 q6 f4); (try clear s0 s1 s2 s3); (try clear t0 t1 t2 t3); have q0 := HS28.out.c4 0; have q1 := HS28.out.c4 1; have q2 := HS28.out.c4 2; have q3 := HS28.out.c4 3; have q4 := HS28.out.c4 4; have q5 := HS28.out.c4 5; have q6 := HS28.out.c4 6; simp only [List.getElem?_toArray, List.getElem?_cons_zero, List.getElem?_cons_succ] at q0 q1 q2 q3 q4 q5 q6; have f4 := HS28.out.f4; have s0 := heap_cell HH28.out 0; have s1 := heap_cell HH28.out 1; have s2 := heap_cell HH28.out 2; have s3 := heap_cell HH28.out 3; simp only [List.getElem?_toArray, List.getElem?_cons_zero, List.getElem?_cons_succ] at s0 s1 s2 s3)
    | (go_at_call 45; have HSA := Lib.hid (show GS w w.heap.size (w.heap.size + 1) (w.heap.size + 1 + 1) 26 #[(.int .i64 0), (.int .i64 0), (.int .i64 0), (.string { data := #[] }), (.slice none 0 0), (.slice none 0 0), (.slice none 0 0)] 26 #[(.int .i64 (K : Int)), (.int .i64 (V : Int)), (.int .i64 0), (.string { data := #[] }), (.slice none 0 0), (.slice none 0 0), (.slice none 0 0)] 65 (.slice A n c) p0 e0 (((w30.setCell ⟨(w.heap.size + 1), 0, none⟩ (.int .i64 (K : Int))).setCell ⟨(w.heap.size + 1), 1, none⟩ (.int .i64 (V : Int))).alloc (.cells #[.int .i64 (nI (K : Int)), .int .i64 (nT (K : Int)), .int .i64 (mT (K : Int)), .int .i64 (mB (K : Int))] 57)) from ((HS30.out.set 0 _).set 1 _).alloc _); have HHA := Lib.hid (show (((w30.setCell ⟨(w.heap.size + 1), 0, none⟩ (.int .i64 (K : Int))).setCell ⟨(w.heap.size + 1), 1, none⟩ (.int .i64 (V : Int))).alloc (.cells #[.int .i64 (nI (K : Int)), .int .i64 (nT (K : Int)), .int .i64 (mT (K : Int)), .int .i64 (mB (K : Int))] 57)).heap[w30.heap.size]? = some (Obj.cells #[.int .i64 (nI (K : Int)), .int .i64 (nT (K : Int)), .int .i64 (mT (K : Int)), .int .i64 (mB (K : Int))] 57 (0, 0)) from alloc_at (by rw [size_set, size_set])); have hl30 : w.heap.size + 1 < w30.heap.size ∧ w.heap.size + 1 + 1 < w30.heap.size := ⟨HS30.out.l4, HS30.out.l5⟩; (with_reducible refine (number_any _ A n c p0 e0 l w.heap.size _ HSA.out.rd (HR.out.below HSA.out.bel (Nat.le_refl _)) hn HA30.out).mono ?_); rintro e w29 ⟨i, p1, e1, rfl, hI9, hS9, hA9, hr9, hg9⟩; have HS29 := Lib.hid (HSA.out.grow hg9 hr9); have HH29 := Lib.hid (blk_grow HHA.out hg9 (by omega)); have HP1 := Lib.hid hS9; have HA29 := Lib.hid hA9; clear hS9 hA9 hI9; clear HSA HHA hr9 hg9 ; dsimp only [mkI, mkS]; (try clear q0 q1 q2 q3 q4 q5 q6 f4); (try clear s0 s1 s2 s3); (try clear t0 t1 t2 t3); have q0 := HS29.out.c4 0; have q1 := HS29.out.c4 1; have q2 := HS29.out.c4 2; have q3 := HS29.out.c4 3; have q4 := HS29.out.c4 4; have q5 := HS29.out.c4 5; have q6 := HS29.out.c4 6; simp only [List.getElem?_toArray, List.getElem?_cons_zero, List.getElem?_cons_succ] at q0 q1 q2 q3 q4 q5 q6; have f4 := HS29.out.f4; have s0 := heap_cell HH29.out 0; have s1 := heap_cell HH29.out 1; have s2 := heap_cell HH29.out 2; have s3 := heap_cell HH29.out 3; simp only [List.getElem?_toArray, List.getElem?_cons_zero, List.getElem?_cons_succ] at s0 s1 s2 s3)
    | (go_at_call 44; (with_reducible refine (head_any _ A n c l w.heap.size _ HS0.out.rd (HR.out.below HS0.out.bel (Nat.le_refl _)) hc hn (by omega)).mono ?_); rw [HKV.out, HE0.out]; rintro e w30 ⟨p0, rfl, hp0, hp1, hp2, hr9, hg9⟩; have HS30 := Lib.hid (HS0.out.grow hg9 hr9); have HA30 := Lib.hid (show At n p0 e0 from ⟨hp1, by omega, fun h => by have h1 := H2N.out (HE0.out.trans h); omega⟩); have HP0 := Lib.hid (show Steps chead l 0 0 ((K : Int), (V : Int)) p0 e0 by have h := steps_head (l := l) (q := p0) (fun h => hp0 (HE0.out.symm.trans h)); rw [HKV.out, HE0.out] at h; exact h); clear hp0 hp1 hp2 hr9 hg9; dsimp only; (try clear q0 q1 q2 q3 q4 q5 q6 f4); (try clear s0 s1 s2 s3); (try clear t0 t1 t2 t3); have q0 := HS30.out.c4 0; have q1 := HS30.out.c4 1; have q2 := HS30.out.c4 2; have q3 := HS30.out.c4 3; have q4 := HS30.out.c4 4; have q5 := HS30.out.c4 5; have q6 := HS30.out.c4 6; simp only [List.getElem?_toArray, List.getElem?_cons_zero, List.getElem?_cons_succ] at q0 q1 q2 q3 q4 q5 q6; have f4 := HS30.out.f4; have t0 := (HTB.out.bel HS30.out.bel).c0 hK13; have t1 := (HTB.out.bel HS30.out.bel).c1 hK13; have t2 := (HTB.out.bel HS30.out.bel).c2 hK13; have t3 := (HTB.out.bel HS30.out.bel).c3 hK13))
  have HALL := Lib.hid (show Steps reqC l 0 0 ⟨(K : Int), (V : Int), i, s, L1, L2, x.data.toList⟩ p5 e5 from steps_req HP0.out HP1.out (by rw [HC2.out]; exact HP2.out) HP3.out (by rw [HC4.out]; exact HP4.out) (by rw [HC5.out]; exact HP5.out))
  obtain ⟨z, hz⟩ : ∃ z, enE n p5 e5 = z := ⟨_, rfl⟩
  have HEND := Lib.hid (gtQ_end HLEN.out HALL.out HA25.out (show _ = z from hz))
  rw [hz] at HS24
  clear hz
  have hl24 : w.heap.size + 1 < w24.heap.size ∧ w.heap.size + 1 + 1 < w24.heap.size ∧ w.heap.size < w24.heap.size := ⟨HS24.out.l4, HS24.out.l5, heap_lt HS24.out.b2⟩
  have r2 := HS24.out.rd.c2
  have z0 := HS24.out.c2 0
  have z1 := HS24.out.c2 1
  have z2 := HS24.out.c2 2
  have z3 := HS24.out.c2 3
  have z4 := HS24.out.c2 4
  have z5 := HS24.out.c2 5
  have z6 := HS24.out.c2 6
  simp only [List.getElem?_toArray, List.getElem?_cons_zero, List.getElem?_cons_succ] at z0 z1 z2 z3 z4 z5 z6
  have f2 := HS24.out.f2
  by_cases hz0 : z = 0
  case neg =>
    have hzN : (z != 0) = true := by simp [hz0]
    have HZ := Lib.hid (HEND.out.1 hz0)
    clear hz0
    go_wp2
    refine region_let (fun W9 : World => W9.cell? ⟨(w.heap.size + 1 + 1), 2, none⟩ = some (.int .i64 z)) 99 5 hmx rfl fun ops Q HOPS HQ => ?_
    refine stepQ HOPS 0 1 ?_ (by decide) rfl (by kernel_rfl) (by kernel_rfl) rfl ?_ r2 ?_
    rotate_left
    · intro w9 hS9; go_simp; (first | done | with_reducible rfl)
    try simp only [Act.put, List.setIfInBounds_toArray, List.set_cons_zero, List.set_cons_succ]
    refine stepQ HOPS 1 3 ?_ (by decide) rfl (by kernel_rfl) (by kernel_rfl) rfl ?_ r2 ?_
    rotate_left
    · intro w9 hS9; go_simp; (first | done | with_reducible rfl)
    try simp only [Act.put, List.setIfInBounds_toArray, List.set_cons_zero, List.set_cons_succ]
    refine stepQ HOPS 2 7 ?_ (by decide) rfl (by kernel_rfl) (by kernel_rfl) rfl ?_ r2 ?_
    rotate_left
    · intro w9 hS9; go_simp; (first | done | with_reducible rfl)
    try simp only [Act.put, List.setIfInBounds_toArray, List.set_cons_zero, List.set_cons_succ]
    refine stepC HOPS 3 15 (by decide) rfl (by kernel_rfl) (by kernel_rfl) ?_
    go_simp
    try simp only [Act.put, List.setIfInBounds_toArray, List.set_cons_zero, List.set_cons_succ]
    refine stepQ HOPS 4 31 ?_ (by decide) rfl (by kernel_rfl) (by kernel_rfl) rfl ?_ (by go_simp) ?_
    rotate_left
    · intro w9 hS9; go_simp; (first | done | with_reducible rfl)
    try simp only [Act.put, List.setIfInBounds_toArray, List.set_cons_zero, List.set_cons_succ]
    refine stepE HOPS (by kernel_rfl) (HQ.out _ _ ?_)
    clear HQ HOPS
    clear Q ops
    go_wp2
    refine bodyPost_ret (v := .tuple #[reqV nilQ none 0 0 none 0 0 none 0 0, .int .i64 z]) (by simp [results, Tryd.results16, go_sem, reqV, nilQ, empty_eq, z0, z1, z2, z3, z4, z5, z6]) rfl ?_
    rw [HZ.out]
    exact ⟨none, 0, 0, none, 0, 0, none, 0, 0, rfl, Three.nil _, (show ByteArray.empty.size ≤ 64 by decide), (put7_bel HS24.out.bel (Nat.le_refl _) _ _ _ _ _ _ _).drew⟩
  subst hz0
  obtain ⟨y2, hz2⟩ : ∃ y2, ckQ ⟨(K : Int), (V : Int), i, s, L1, L2, x.data.toList⟩ = y2 := ⟨_, rfl⟩
  have HCK := Lib.hid hz2
  have HL1 := Lib.hid (rdL_nums (HON24.out.rd nS) HI1.out)
  have HL2 := Lib.hid (rdL_strs (HOT24.out.rd sS) (fun x hx => Nat.le_trans (HI2.out x hx) (by decide)))
  have hN1 := HN1.out
  have hN2 := HN2.out
  have HL3 := Lib.hid ((bytes_rd HX24.out rfl).more (B' := w24.heap.size) (heap_lt HX24.out))
  have hx48 := HX48.out
  have hbk : w.heap.size < w30.heap.size := by omega
  have q0 := HS24.out.c4 0
  have q1 := HS24.out.c4 1
  have q2 := HS24.out.c4 2
  have q3 := HS24.out.c4 3
  have q4 := HS24.out.c4 4
  have q5 := HS24.out.c4 5
  have q6 := HS24.out.c4 6
  simp only [List.getElem?_toArray, List.getElem?_cons_zero, List.getElem?_cons_succ] at q0 q1 q2 q3 q4 q5 q6
  by_cases hck : y2 = 0
  case neg =>
    have hz2N : (y2 != 0) = true := by simp [hck]
    have HZ := Lib.hid (HEND.out.2.1 rfl (by rw [hz2]; exact hck))
    clear hz2 hck
    go_wp2_with (go_at_call 18; (refine (CheckReq_any (K : Int) (V : Int) i s A1 n1 c1 L1 A2 n2 c2 L2 (some ⟨w25.heap.size, 0, none⟩) x.size cB x.data.toList w24 HL1.out (by omega) HL2.out (by omega) (Nat.le_trans HS64.out (by decide)) (by omega) HL3.out.len (HTB.out.bel HS24.out.bel)).mono ?_); rw [HCK.out]; rintro e w9 ⟨rfl, hb9⟩; have HS9 := Lib.hid (HS24.out.below hb9); have HON9 := Lib.hid (OwnF.below HON24.out hb9); have HOT9 := Lib.hid (OwnF.below HOT24.out hb9); have HX9 := Lib.hid (blk_below HX24.out hb9); have z0 := HS9.out.c2 0; have z1 := HS9.out.c2 1; have z2 := HS9.out.c2 2; have z3 := HS9.out.c2 3; have z4 := HS9.out.c2 4; have z5 := HS9.out.c2 5; have z6 := HS9.out.c2 6; have q0 := HS9.out.c4 0; have q1 := HS9.out.c4 1; have q2 := HS9.out.c4 2; have q3 := HS9.out.c4 3; have q4 := HS9.out.c4 4; have q5 := HS9.out.c4 5; have q6 := HS9.out.c4 6; simp only [List.getElem?_toArray, List.getElem?_cons_zero, List.getElem?_cons_succ] at z0 z1 z2 z3 z4 z5 z6 q0 q1 q2 q3 q4 q5 q6; have f2 := HS9.out.f2; have f4 := HS9.out.f4; clear hb9)
    refine bodyPost_ret (v := .tuple #[reqV nilQ none 0 0 none 0 0 none 0 0, .int .i64 1]) (by simp [results, Tryd.results16, go_sem, reqV, nilQ, empty_eq, z0, z1, z2, z3, z4, z5, z6]) rfl ?_
    rw [HZ.out]
    exact ⟨none, 0, 0, none, 0, 0, none, 0, 0, rfl, Three.nil _, (show ByteArray.empty.size ≤ 64 by decide), put7_bel HS9.out.bel (Nat.le_refl _) _ _ _ _ _ _ _⟩
  have HZ := Lib.hid (HEND.out.2.2 rfl (by rw [hz2]; exact hck))
  subst hck
  clear hz2
  go_wp2_with (go_at_call 18; (refine (CheckReq_any (K : Int) (V : Int) i s A1 n1 c1 L1 A2 n2 c2 L2 (some ⟨w25.heap.size, 0, none⟩) x.size cB x.data.toList w24 HL1.out (by omega) HL2.out (by omega) (Nat.le_trans HS64.out (by decide)) (by omega) HL3.out.len (HTB.out.bel HS24.out.bel)).mono ?_); rw [HCK.out]; rintro e w9 ⟨rfl, hb9⟩; have HS9 := Lib.hid (HS24.out.below hb9); have HON9 := Lib.hid (OwnF.below HON24.out hb9); have HOT9 := Lib.hid (OwnF.below HOT24.out hb9); have HX9 := Lib.hid (blk_below HX24.out hb9); have z0 := HS9.out.c2 0; have z1 := HS9.out.c2 1; have z2 := HS9.out.c2 2; have z3 := HS9.out.c2 3; have z4 := HS9.out.c2 4; have z5 := HS9.out.c2 5; have z6 := HS9.out.c2 6; have q0 := HS9.out.c4 0; have q1 := HS9.out.c4 1; have q2 := HS9.out.c4 2; have q3 := HS9.out.c4 3; have q4 := HS9.out.c4 4; have q5 := HS9.out.c4 5; have q6 := HS9.out.c4 6; simp only [List.getElem?_toArray, List.getElem?_cons_zero, List.getElem?_cons_succ] at z0 z1 z2 z3 z4 z5 z6 q0 q1 q2 q3 q4 q5 q6; have f2 := HS9.out.f2; have f4 := HS9.out.f4; clear hb9)
  refine bodyPost_ret (v := .tuple #[reqV ⟨(K : Int), (V : Int), i, s, L1, L2, x.data.toList⟩ A1 n1 c1 A2 n2 c2 (some ⟨w25.heap.size, 0, none⟩) x.size cB, .int .i64 0]) (by simp [results, Tryd.results16, go_sem, reqV, z0, z1, z2, z3, z4, z5, z6]) rfl ?_
  rw [HZ.out]
  refine ⟨A1, n1, c1, A2, n2, c2, (some ⟨w25.heap.size, 0, none⟩), x.size, cB, rfl, ⟨rdL_nums ((own_row HON9.out (put7_gb w9 w.heap.size _ _ _ _ _ _ _) (by omega)).rd nS) HI1.out, rdL_strs ((own_row HOT9.out (put7_gb w9 w.heap.size _ _ _ _ _ _ _) (by omega)).rd sS) (fun x hx => Nat.le_trans (HI2.out x hx) (by decide)), (bytes_rd (blk_grow HX9.out (put7_gb w9 w.heap.size _ _ _ _ _ _ _) (by omega)) rfl).more (heap_lt (blk_grow HX9.out (put7_gb w9 w.heap.size _ _ _ _ _ _ _) (by omega))), by omega, by omega, by omega⟩, HS64.out, put7_bel HS9.out.bel (Nat.le_refl _) _ _ _ _ _ _ _⟩
set_option maxRecDepth 100000 in
set_option maxHeartbeats 8000000 in
theorem GetReq_nn (A : Option Addr) (n c : Nat) (l : List UInt8) (K V : Nat) (w : World) (hr : Rd w w.heap.size A n l) (hc : n ≤ c) (hn : n ≤ 1099511627776) (ht : Tab w) (hkv : hdV l = ((K : Int), (V : Int))) (hK : K ≤ 12) (hk7 : K ≠ 7) (hk2 : K ≠ 2) (hV : V < 2) :
    Calls Tryd.prog 16 #[.slice A n c] w (GQR w (gtQ l)) := by
  have HR := Lib.hid hr
  have HLEN := Lib.hid hr.len
  have HTB := Lib.hid ht
  have HKV := Lib.hid hkv
  obtain ⟨e0, he0⟩ : ∃ e0, hdE l = e0 := ⟨_, rfl⟩
  have HE0 := Lib.hid he0
  have h2n : hdE l = 0 → 2 ≤ n := by
    intro h
    unfold hdE at h
    by_cases h3 : (l.length : Int) < 2
    · rw [if_pos h3] at h; cases h
    · have := hr.len; omega
  have H2N := Lib.hid h2n
  clear hr ht hkv he0 h2n
  have hK13 : K < 13 := by omega
  have hm1 : ¬ 0 < mT (K : Int) := by unfold mT; rw [if_neg (by omega)]; omega
  have hm2 : ¬ 0 < mB (K : Int) := by unfold mB; rw [if_neg (by omega)]; omega
  have HC4 := Lib.hid (show textsC (K : Int) = cmany txt64 (nT (K : Int)).toNat by unfold textsC; rw [if_neg (by omega)])
  have HC5 := Lib.hid (show blobC (K : Int) = cnone [] by unfold blobC; rw [if_neg (by omega)])
  have HC2 := Lib.hid (show whoC (V : Int) = cnone ({ data := #[] } : ByteArray) by unfold whoC; rw [if_neg (by omega)]; rfl)
  have hge : ¬ (2 : Int) ≤ (V : Int) := by omega
  have hnI5 : nI (K : Int) ≤ 5 ∧ nT (K : Int) ≤ 3 := by
    by_cases h : K = 0
    · subst h; decide
    · have h1 := nI_in (k := (K : Int)) (by omega); have h2 := nT_in (k := (K : Int)) (by omega); omega
  obtain ⟨hnI5, hnT3⟩ := hnI5
  clear hV hk7 hk2
  have HS0 := Lib.hid (show GS w w.heap.size (w.heap.size + 1) (w.heap.size + 1 + 1) 26 #[(.int .i64 0), (.int .i64 0), (.int .i64 0), (.string { data := #[] }), (.slice none 0 0), (.slice none 0 0), (.slice none 0 0)] 26 #[(.int .i64 0), (.int .i64 0), (.int .i64 0), (.string { data := #[] }), (.slice none 0 0), (.slice none 0 0), (.slice none 0 0)] 65 (.slice A n c) 0 0 (((w.alloc (.cells #[(.int .i64 0), (.int .i64 0), (.int .i64 0), (.string { data := #[] }), (.slice none 0 0), (.slice none 0 0), (.slice none 0 0)] 26)).alloc (.cells #[(.int .i64 0), (.int .i64 0), (.int .i64 0), (.string { data := #[] }), (.slice none 0 0), (.slice none 0 0), (.slice none 0 0)] 26)).alloc (.cells #[.slice A n c, .int .i64 0, .int .i64 0] 65)) from GS_start _ _ _ _ _ _ _)
  have hmx : Tryd.prog.follows .mixedOrders = true := by kernel_rfl
  go_enter Tryd.func16, Tryd.ntmps16
  go_upto_region 16 with (first
    | (go_at_call 50; have HSA := Lib.hid (show GS w w.heap.size (w.heap.size + 1) (w.heap.size + 1 + 1) 26 #[(.int .i64 0), (.int .i64 0), (.int .i64 0), (.string { data := #[] }), (.slice none 0 0), (.slice none 0 0), (.slice none 0 0)] 26 #[(.int .i64 (K : Int)), (.int .i64 (V : Int)), (.int .i64 i), (.string { data := #[] }), (.slice A1 n1 c1), (.slice A2 n2 c2), (.slice none 0 0)] 65 (.slice A n c) p4 e4 (w27.setCell ⟨(w.heap.size + 1), 5, none⟩ (.slice A2 n2 c2)) from HS27.out.set 5 _); (with_reducible refine (end_any _ A n c p4 e4 _ HSA.out.rd).mono ?_); rintro e w26 ⟨rfl, hr9, hg9⟩; have HS26 := Lib.hid (HSA.out.grow hg9 hr9); have HON26 := Lib.hid (own_row (own_set (g := (w.heap.size + 1)) (j := 5) (u := (.slice A2 n2 c2)) HON27.out (by omega)) hg9 (by omega)); have HOT26 := Lib.hid (own_row (own_set (g := (w.heap.size + 1)) (j := 5) (u := (.slice A2 n2 c2)) HOT27.out (by omega)) hg9 (by omega)); clear HSA hr9 hg9)
    | (go_at_call 49; have HSA := Lib.hid (show GS w w.heap.size (w.heap.size + 1) (w.heap.size + 1 + 1) 26 #[(.int .i64 0), (.int .i64 0), (.int .i64 0), (.string { data := #[] }), (.slice none 0 0), (.slice none 0 0), (.slice none 0 0)] 26 #[(.int .i64 (K : Int)), (.int .i64 (V : Int)), (.int .i64 i), (.string { data := #[] }), (.slice A1 n1 c1), (.slice none 0 0), (.slice none 0 0)] 65 (.slice A n c) p3 e3 (w28.setCell ⟨(w.heap.size + 1), 4, none⟩ (.slice A1 n1 c1)) from HS28.out.set 4 _); have HHA := Lib.hid (blk_set (g := (w.heap.size + 1)) (j := 4) (v := (.slice A1 n1 c1)) HH28.out (by omega)); have HONA := Lib.hid (own_set (g := (w.heap.size + 1)) (j := 4) (u := (.slice A1 n1 c1)) HON28.out (by omega)); (with_reducible refine (texts_any (nT (K : Int)) (by omega) _ A n c p3 e3 l w.heap.size _ HSA.out.rd (HR.out.below HSA.out.bel (Nat.le_refl _)) hc hn HA28.out (by omega)).mono ?_); rintro e w27 ⟨A2, n2, c2, L2, p4, e4, rfl, hm9, hO9, hI9, hS9, hA9, hr9, hg9⟩; have HS27 := Lib.hid (HSA.out.grow hg9 hr9); have HH27 := Lib.hid (blk_grow HHA.out hg9 (by omega)); have HON27 := Lib.hid (own_row HONA.out hg9 (by omega)); have HP4 := Lib.hid hS9; have HA27 := Lib.hid hA9; have HN2 := Lib.hid hm9; have HI2 := Lib.hid hI9; have HOT27 := Lib.hid hO9; have hbT : w.heap.size + 1 + 1 < (w28.setCell ⟨(w.heap.size + 1), 4, none⟩ (.slice A1 n1 c1)).heap.size ∧ w30.heap.size < (w28.setCell ⟨(w.heap.size + 1), 4, none⟩ (.slice A1 n1 c1)).heap.size := ⟨HSA.out.l5, heap_lt HHA.out⟩; clear hS9 hA9 hI9 hm9 hO9; clear HSA HHA hr9 hg9 HONA; dsimp only [mkI, mkS]; (try clear q0 q1 q2 q3 q4 q5 q6 f4); (try clear s0 s1 s2 s3); (try clear t0 t1 t2 t3); have q0 := HS27.out.c4 0; have q1 := HS27.out.c4 1; have q2 := HS27.out.c4 2; have q3 := HS27.out.c4 3; have q4 := HS27.out.c4 4; have q5 := HS27.out.c4 5; have q6 := HS27.out.c4 6; simp only [List.getElem?_toArray, List.getElem?_cons_zero, List.getElem?_cons_succ] at q0 q1 q2 q3 q4 q5 q6; have f4 := HS27.out.f4; have s0 := heap_cell HH27.out 0; have s1 := heap_cell HH27.out 1; have s2 := heap_cell HH27.out 2; have s3 := heap_cell HH27.out 3; simp only [List.getElem?_toArray, List.getElem?_cons_zero, List.getElem?_cons_succ] at s0 s1 s2 s3)
    | (go_at_call 47; have HSA := Lib.hid (show GS w w.heap.size (w.heap.size + 1) (w.heap.size + 1 + 1) 26 #[(.int .i64 0), (.int .i64 0), (.int .i64 0), (.string { data := #[] }), (.slice none 0 0), (.slice none 0 0), (.slice none 0 0)] 26 #[(.int .i64 (K : Int)), (.int .i64 (V : Int)), (.int .i64 i), (.string { data := #[] }), (.slice none 0 0), (.slice none 0 0), (.slice none 0 0)] 65 (.slice A n c) p1 e1 (w29.setCell ⟨(w.heap.size + 1), 2, none⟩ (.int .i64 i)) from HS29.out.set 2 _); have HHA := Lib.hid (blk_set (g := (w.heap.size + 1)) (j := 2) (v := (.int .i64 i)) HH29.out (by omega)); (with_reducible refine (numbers_any (nI (K : Int)) (by omega) _ A n c p1 e1 l w.heap.size _ HSA.out.rd (HR.out.below HSA.out.bel (Nat.le_refl _)) hn HA29.out (by omega)).mono ?_); rintro e w28 ⟨A1, n1, c1, L1, p3, e3, rfl, hm9, hO9, hI9, hS9, hA9, hr9, hg9⟩; have HS28 := Lib.hid (HSA.out.grow hg9 hr9); have HH28 := Lib.hid (blk_grow HHA.out hg9 (by omega)); have HP3 := Lib.hid hS9; have HA28 := Lib.hid hA9; have HN1 := Lib.hid hm9; have HI1 := Lib.hid hI9; have HON28 := Lib.hid hO9; have hbN : w.heap.size + 1 + 1 < (w29.setCell ⟨(w.heap.size + 1), 2, none⟩ (.int .i64 i)).heap.size ∧ w30.heap.size < (w29.setCell ⟨(w.heap.size + 1), 2, none⟩ (.int .i64 i)).heap.size := ⟨HSA.out.l5, heap_lt HHA.out⟩; clear hS9 hA9 hI9 hm9 hO9; clear HSA HHA hr9 hg9 ; dsimp only [mkI, mkS]; (try clear q0 q1 q2 q3 q4 q5 q6 f4); (try clear s0 s1 s2 s3); (try clear t0 t1 t2 t3); have q0 := HS28.out.c4 0; have q1 := HS28.out.c4 1; have q2 := HS28.out.c4 2; have q3 := HS28.out.c4 3; have q4 := HS28.out.c4 4; have q5 := HS28.out.c4 5; have q6 := HS28.out.c4 6; simp only [List.getElem?_toArray, List.getElem?_cons_zero, List.getElem?_cons_succ] at q0 q1 q2 q3 q4 q5 q6; have f4 := HS28.out.f4; have s0 := heap_cell HH28.out 0; have s1 := heap_cell HH28.out 1; have s2 := heap_cell HH28.out 2; have s3 := heap_cell HH28.out 3; simp only [List.getElem?_toArray, List.getElem?_cons_zero, List.getElem?_cons_succ] at s0 s1 s2 s3)
    | (go_at_call 45; have HSA := Lib.hid (show GS w w.heap.size (w.heap.size + 1) (w.heap.size + 1 + 1) 26 #[(.int .i64 0), (.int .i64 0), (.int .i64 0), (.string { data := #[] }), (.slice none 0 0), (.slice none 0 0), (.slice none 0 0)] 26 #[(.int .i64 (K : Int)), (.int .i64 (V : Int)), (.int .i64 0), (.string { data := #[] }), (.slice none 0 0), (.slice none 0 0), (.slice none 0 0)] 65 (.slice A n c) p0 e0 (((w30.setCell ⟨(w.heap.size + 1), 0, none⟩ (.int .i64 (K : Int))).setCell ⟨(w.heap.size + 1), 1, none⟩ (.int .i64 (V : Int))).alloc (.cells #[.int .i64 (nI (K : Int)), .int .i64 (nT (K : Int)), .int .i64 (mT (K : Int)), .int .i64 (mB (K : Int))] 57)) from ((HS30.out.set 0 _).set 1 _).alloc _); have HHA := Lib.hid (show (((w30.setCell ⟨(w.heap.size + 1), 0, none⟩ (.int .i64 (K : Int))).setCell ⟨(w.heap.size + 1), 1, none⟩ (.int .i64 (V : Int))).alloc (.cells #[.int .i64 (nI (K : Int)), .int .i64 (nT (K : Int)), .int .i64 (mT (K : Int)), .int .i64 (mB (K : Int))] 57)).heap[w30.heap.size]? = some (Obj.cells #[.int .i64 (nI (K : Int)), .int .i64 (nT (K : Int)), .int .i64 (mT (K : Int)), .int .i64 (mB (K : Int))] 57 (0, 0)) from alloc_at (by rw [size_set, size_set])); have hl30 : w.heap.size + 1 < w30.heap.size ∧ w.heap.size + 1 + 1 < w30.heap.size := ⟨HS30.out.l4, HS30.out.l5⟩; (with_reducible refine (number_any _ A n c p0 e0 l w.heap.size _ HSA.out.rd (HR.out.below HSA.out.bel (Nat.le_refl _)) hn HA30.out).mono ?_); rintro e w29 ⟨i, p1, e1, rfl, hI9, hS9, hA9, hr9, hg9⟩; have HS29 := Lib.hid (HSA.out.grow hg9 hr9); have HH29 := Lib.hid (blk_grow HHA.out hg9 (by omega)); have HP1 := Lib.hid hS9; have HA29 := Lib.hid hA9; clear hS9 hA9 hI9; clear HSA HHA hr9 hg9 ; dsimp only [mkI, mkS]; (try clear q0 q1 q2 q3 q4 q5 q6 f4); (try clear s0 s1 s2 s3); (try clear t0 t1 t2 t3); have q0 := HS29.out.c4 0; have q1 := HS29.out.c4 1; have q2 := HS29.out.c4 2; have q3 := HS29.out.c4 3; have q4 := HS29.out.c4 4; have q5 := HS29.out.c4 5; have q6 := HS29.out.c4 6; simp only [List.getElem?_toArray, List.getElem?_cons_zero, List.getElem?_cons_succ] at q0 q1 q2 q3 q4 q5 q6; have f4 := HS29.out.f4; have s0 := heap_cell HH29.out 0; have s1 := heap_cell HH29.out 1; have s2 := heap_cell HH29.out 2; have s3 := heap_cell HH29.out 3; simp only [List.getElem?_toArray, List.getElem?_cons_zero, List.getElem?_cons_succ] at s0 s1 s2 s3)
    | (go_at_call 44; (with_reducible refine (head_any _ A n c l w.heap.size _ HS0.out.rd (HR.out.below HS0.out.bel (Nat.le_refl _)) hc hn (by omega)).mono ?_); rw [HKV.out, HE0.out]; rintro e w30 ⟨p0, rfl, hp0, hp1, hp2, hr9, hg9⟩; have HS30 := Lib.hid (HS0.out.grow hg9 hr9); have HA30 := Lib.hid (show At n p0 e0 from ⟨hp1, by omega, fun h => by have h1 := H2N.out (HE0.out.trans h); omega⟩); have HP0 := Lib.hid (show Steps chead l 0 0 ((K : Int), (V : Int)) p0 e0 by have h := steps_head (l := l) (q := p0) (fun h => hp0 (HE0.out.symm.trans h)); rw [HKV.out, HE0.out] at h; exact h); clear hp0 hp1 hp2 hr9 hg9; dsimp only; (try clear q0 q1 q2 q3 q4 q5 q6 f4); (try clear s0 s1 s2 s3); (try clear t0 t1 t2 t3); have q0 := HS30.out.c4 0; have q1 := HS30.out.c4 1; have q2 := HS30.out.c4 2; have q3 := HS30.out.c4 3; have q4 := HS30.out.c4 4; have q5 := HS30.out.c4 5; have q6 := HS30.out.c4 6; simp only [List.getElem?_toArray, List.getElem?_cons_zero, List.getElem?_cons_succ] at q0 q1 q2 q3 q4 q5 q6; have f4 := HS30.out.f4; have t0 := (HTB.out.bel HS30.out.bel).c0 hK13; have t1 := (HTB.out.bel HS30.out.bel).c1 hK13; have t2 := (HTB.out.bel HS30.out.bel).c2 hK13; have t3 := (HTB.out.bel HS30.out.bel).c3 hK13))
  have HALL := Lib.hid (show Steps reqC l 0 0 ⟨(K : Int), (V : Int), i, { data := #[] }, L1, L2, []⟩ p4 e4 from steps_req HP0.out HP1.out (by rw [HC2.out]; exact .none) HP3.out (by rw [HC4.out]; exact HP4.out) (by rw [HC5.out]; exact .none))
  obtain ⟨z, hz⟩ : ∃ z, enE n p4 e4 = z := ⟨_, rfl⟩
  have HEND := Lib.hid (gtQ_end HLEN.out HALL.out HA27.out (show _ = z from hz))
  rw [hz] at HS26
  clear hz
  have hl26 : w.heap.size + 1 < w26.heap.size ∧ w.heap.size + 1 + 1 < w26.heap.size ∧ w.heap.size < w26.heap.size := ⟨HS26.out.l4, HS26.out.l5, heap_lt HS26.out.b2⟩
  have r2 := HS26.out.rd.c2
  have z0 := HS26.out.c2 0
  have z1 := HS26.out.c2 1
  have z2 := HS26.out.c2 2
  have z3 := HS26.out.c2 3
  have z4 := HS26.out.c2 4
  have z5 := HS26.out.c2 5
  have z6 := HS26.out.c2 6
  simp only [List.getElem?_toArray, List.getElem?_cons_zero, List.getElem?_cons_succ] at z0 z1 z2 z3 z4 z5 z6
  have f2 := HS26.out.f2
  by_cases hz0 : z = 0
  case neg =>
    have hzN : (z != 0) = true := by simp [hz0]
    have HZ := Lib.hid (HEND.out.1 hz0)
    clear hz0
    go_wp2
    refine region_let (fun W9 : World => W9.cell? ⟨(w.heap.size + 1 + 1), 2, none⟩ = some (.int .i64 z)) 99 5 hmx rfl fun ops Q HOPS HQ => ?_
    refine stepQ HOPS 0 1 ?_ (by decide) rfl (by kernel_rfl) (by kernel_rfl) rfl ?_ r2 ?_
    rotate_left
    · intro w9 hS9; go_simp; (first | done | with_reducible rfl)
    try simp only [Act.put, List.setIfInBounds_toArray, List.set_cons_zero, List.set_cons_succ]
    refine stepQ HOPS 1 3 ?_ (by decide) rfl (by kernel_rfl) (by kernel_rfl) rfl ?_ r2 ?_
    rotate_left
    · intro w9 hS9; go_simp; (first | done | with_reducible rfl)
    try simp only [Act.put, List.setIfInBounds_toArray, List.set_cons_zero, List.set_cons_succ]
    refine stepQ HOPS 2 7 ?_ (by decide) rfl (by kernel_rfl) (by kernel_rfl) rfl ?_ r2 ?_
    rotate_left
    · intro w9 hS9; go_simp; (first | done | with_reducible rfl)
    try simp only [Act.put, List.setIfInBounds_toArray, List.set_cons_zero, List.set_cons_succ]
    refine stepC HOPS 3 15 (by decide) rfl (by kernel_rfl) (by kernel_rfl) ?_
    go_simp
    try simp only [Act.put, List.setIfInBounds_toArray, List.set_cons_zero, List.set_cons_succ]
    refine stepQ HOPS 4 31 ?_ (by decide) rfl (by kernel_rfl) (by kernel_rfl) rfl ?_ (by go_simp) ?_
    rotate_left
    · intro w9 hS9; go_simp; (first | done | with_reducible rfl)
    try simp only [Act.put, List.setIfInBounds_toArray, List.set_cons_zero, List.set_cons_succ]
    refine stepE HOPS (by kernel_rfl) (HQ.out _ _ ?_)
    clear HQ HOPS
    clear Q ops
    go_wp2
    refine bodyPost_ret (v := .tuple #[reqV nilQ none 0 0 none 0 0 none 0 0, .int .i64 z]) (by simp [results, Tryd.results16, go_sem, reqV, nilQ, empty_eq, z0, z1, z2, z3, z4, z5, z6]) rfl ?_
    rw [HZ.out]
    exact ⟨none, 0, 0, none, 0, 0, none, 0, 0, rfl, Three.nil _, (show ByteArray.empty.size ≤ 64 by decide), (put7_bel HS26.out.bel (Nat.le_refl _) _ _ _ _ _ _ _).drew⟩
  subst hz0
  obtain ⟨y2, hz2⟩ : ∃ y2, ckQ ⟨(K : Int), (V : Int), i, { data := #[] }, L1, L2, []⟩ = y2 := ⟨_, rfl⟩
  have HCK := Lib.hid hz2
  have HL1 := Lib.hid (rdL_nums (HON26.out.rd nS) HI1.out)
  have HL2 := Lib.hid (rdL_strs (HOT26.out.rd sS) (fun x hx => Nat.le_trans (HI2.out x hx) (by decide)))
  have hN1 := HN1.out
  have hN2 := HN2.out
  have hbk : w.heap.size < w30.heap.size := by omega
  have q0 := HS26.out.c4 0
  have q1 := HS26.out.c4 1
  have q2 := HS26.out.c4 2
  have q3 := HS26.out.c4 3
  have q4 := HS26.out.c4 4
  have q5 := HS26.out.c4 5
  have q6 := HS26.out.c4 6
  simp only [List.getElem?_toArray, List.getElem?_cons_zero, List.getElem?_cons_succ] at q0 q1 q2 q3 q4 q5 q6
  by_cases hck : y2 = 0
  case neg =>
    have hz2N : (y2 != 0) = true := by simp [hck]
    have HZ := Lib.hid (HEND.out.2.1 rfl (by rw [hz2]; exact hck))
    clear hz2 hck
    go_wp2_with (go_at_call 18; (refine (CheckReq_any (K : Int) (V : Int) i { data := #[] } A1 n1 c1 L1 A2 n2 c2 L2 none 0 0 [] w26 HL1.out (by omega) HL2.out (by omega) (by decide) (by omega) rfl (HTB.out.bel HS26.out.bel)).mono ?_); rw [HCK.out]; rintro e w9 ⟨rfl, hb9⟩; have HS9 := Lib.hid (HS26.out.below hb9); have HON9 := Lib.hid (OwnF.below HON26.out hb9); have HOT9 := Lib.hid (OwnF.below HOT26.out hb9); have z0 := HS9.out.c2 0; have z1 := HS9.out.c2 1; have z2 := HS9.out.c2 2; have z3 := HS9.out.c2 3; have z4 := HS9.out.c2 4; have z5 := HS9.out.c2 5; have z6 := HS9.out.c2 6; have q0 := HS9.out.c4 0; have q1 := HS9.out.c4 1; have q2 := HS9.out.c4 2; have q3 := HS9.out.c4 3; have q4 := HS9.out.c4 4; have q5 := HS9.out.c4 5; have q6 := HS9.out.c4 6; simp only [List.getElem?_toArray, List.getElem?_cons_zero, List.getElem?_cons_succ] at z0 z1 z2 z3 z4 z5 z6 q0 q1 q2 q3 q4 q5 q6; have f2 := HS9.out.f2; have f4 := HS9.out.f4; clear hb9)
    refine bodyPost_ret (v := .tuple #[reqV nilQ none 0 0 none 0 0 none 0 0, .int .i64 1]) (by simp [results, Tryd.results16, go_sem, reqV, nilQ, empty_eq, z0, z1, z2, z3, z4, z5, z6]) rfl ?_
    rw [HZ.out]
    exact ⟨none, 0, 0, none, 0, 0, none, 0, 0, rfl, Three.nil _, (show ByteArray.empty.size ≤ 64 by decide), put7_bel HS9.out.bel (Nat.le_refl _) _ _ _ _ _ _ _⟩
  have HZ := Lib.hid (HEND.out.2.2 rfl (by rw [hz2]; exact hck))
  subst hck
  clear hz2
  go_wp2_with (go_at_call 18; (refine (CheckReq_any (K : Int) (V : Int) i { data := #[] } A1 n1 c1 L1 A2 n2 c2 L2 none 0 0 [] w26 HL1.out (by omega) HL2.out (by omega) (by decide) (by omega) rfl (HTB.out.bel HS26.out.bel)).mono ?_); rw [HCK.out]; rintro e w9 ⟨rfl, hb9⟩; have HS9 := Lib.hid (HS26.out.below hb9); have HON9 := Lib.hid (OwnF.below HON26.out hb9); have HOT9 := Lib.hid (OwnF.below HOT26.out hb9); have z0 := HS9.out.c2 0; have z1 := HS9.out.c2 1; have z2 := HS9.out.c2 2; have z3 := HS9.out.c2 3; have z4 := HS9.out.c2 4; have z5 := HS9.out.c2 5; have z6 := HS9.out.c2 6; have q0 := HS9.out.c4 0; have q1 := HS9.out.c4 1; have q2 := HS9.out.c4 2; have q3 := HS9.out.c4 3; have q4 := HS9.out.c4 4; have q5 := HS9.out.c4 5; have q6 := HS9.out.c4 6; simp only [List.getElem?_toArray, List.getElem?_cons_zero, List.getElem?_cons_succ] at z0 z1 z2 z3 z4 z5 z6 q0 q1 q2 q3 q4 q5 q6; have f2 := HS9.out.f2; have f4 := HS9.out.f4; clear hb9)
  refine bodyPost_ret (v := .tuple #[reqV ⟨(K : Int), (V : Int), i, { data := #[] }, L1, L2, []⟩ A1 n1 c1 A2 n2 c2 none 0 0, .int .i64 0]) (by simp [results, Tryd.results16, go_sem, reqV, z0, z1, z2, z3, z4, z5, z6]) rfl ?_
  rw [HZ.out]
  refine ⟨A1, n1, c1, A2, n2, c2, none, 0, 0, rfl, ⟨rdL_nums ((own_row HON9.out (put7_gb w9 w.heap.size _ _ _ _ _ _ _) (by omega)).rd nS) HI1.out, rdL_strs ((own_row HOT9.out (put7_gb w9 w.heap.size _ _ _ _ _ _ _) (by omega)).rd sS) (fun x hx => Nat.le_trans (HI2.out x hx) (by decide)), Rd.nil, by omega, by omega, by omega⟩, (show ByteArray.empty.size ≤ 64 by decide), put7_bel HS9.out.bel (Nat.le_refl _) _ _ _ _ _ _ _⟩
set_option maxRecDepth 100000 in
set_option maxHeartbeats 8000000 in
theorem GetReq_n7 (A : Option Addr) (n c : Nat) (l : List UInt8) (K V : Nat) (w : World) (hr : Rd w w.heap.size A n l) (hc : n ≤ c) (hn : n ≤ 1099511627776) (ht : Tab w) (hkv : hdV l = ((K : Int), (V : Int))) (hK : K ≤ 12) (hk : K = 7) (hV : V < 2) :
    Calls Tryd.prog 16 #[.slice A n c] w (GQR w (gtQ l)) := by
  have HR := Lib.hid hr
  have HLEN := Lib.hid hr.len
  have HTB := Lib.hid ht
  have HKV := Lib.hid hkv
  obtain ⟨e0, he0⟩ : ∃ e0, hdE l = e0 := ⟨_, rfl⟩
  have HE0 := Lib.hid he0
  have h2n : hdE l = 0 → 2 ≤ n := by
    intro h
    unfold hdE at h
    by_cases h3 : (l.length : Int) < 2
    · rw [if_pos h3] at h; cases h
    · have := hr.len; omega
  have H2N := Lib.hid h2n
  clear hr ht hkv he0 h2n
  have hK13 : K < 13 := by omega
  have hm1 : 0 < mT (K : Int) := by rw [hk]; decide
  have hm2 : ¬ 0 < mB (K : Int) := by rw [hk]; decide
  have HC4 := Lib.hid (show textsC (K : Int) = ccount txt64 ck15 ck15_pos by unfold textsC; rw [if_pos (by omega)])
  have HC5 := Lib.hid (show blobC (K : Int) = cnone [] by unfold blobC; rw [if_neg (by omega)])
  have HN3 := Lib.hid (show nT (K : Int) = 3 by rw [hk]; decide)
  have HM12 := Lib.hid (show nT (K : Int) + mT (K : Int) = 15 by rw [hk]; decide)
  have wp9 : IntKind.i64.wrap (nT (K : Int) + mT (K : Int)) = nT (K : Int) + mT (K : Int) := IntWalk.i64_in _ (by have := HM12.out; omega)
  have HC2 := Lib.hid (show whoC (V : Int) = cnone ({ data := #[] } : ByteArray) by unfold whoC; rw [if_neg (by omega)]; rfl)
  have hge : ¬ (2 : Int) ≤ (V : Int) := by omega
  have hnI5 : nI (K : Int) ≤ 5 ∧ nT (K : Int) ≤ 3 := by
    by_cases h : K = 0
    · subst h; decide
    · have h1 := nI_in (k := (K : Int)) (by omega); have h2 := nT_in (k := (K : Int)) (by omega); omega
  obtain ⟨hnI5, hnT3⟩ := hnI5
  clear hV hk
  have HS0 := Lib.hid (show GS w w.heap.size (w.heap.size + 1) (w.heap.size + 1 + 1) 26 #[(.int .i64 0), (.int .i64 0), (.int .i64 0), (.string { data := #[] }), (.slice none 0 0), (.slice none 0 0), (.slice none 0 0)] 26 #[(.int .i64 0), (.int .i64 0), (.int .i64 0), (.string { data := #[] }), (.slice none 0 0), (.slice none 0 0), (.slice none 0 0)] 65 (.slice A n c) 0 0 (((w.alloc (.cells #[(.int .i64 0), (.int .i64 0), (.int .i64 0), (.string { data := #[] }), (.slice none 0 0), (.slice none 0 0), (.slice none 0 0)] 26)).alloc (.cells #[(.int .i64 0), (.int .i64 0), (.int .i64 0), (.string { data := #[] }), (.slice none 0 0), (.slice none 0 0), (.slice none 0 0)] 26)).alloc (.cells #[.slice A n c, .int .i64 0, .int .i64 0] 65)) from GS_start _ _ _ _ _ _ _)
  have hmx : Tryd.prog.follows .mixedOrders = true := by kernel_rfl
  go_enter Tryd.func16, Tryd.ntmps16
  go_upto_region 16 with (first
    | (go_at_call 50; have HSA := Lib.hid (show GS w w.heap.size (w.heap.size + 1) (w.heap.size + 1 + 1) 26 #[(.int .i64 0), (.int .i64 0), (.int .i64 0), (.string { data := #[] }), (.slice none 0 0), (.slice none 0 0), (.slice none 0 0)] 26 #[(.int .i64 (K : Int)), (.int .i64 (V : Int)), (.int .i64 i), (.string { data := #[] }), (.slice A1 n1 c1), (.slice A2 n2 c2), (.slice none 0 0)] 65 (.slice A n c) p4 e4 (w26.setCell ⟨(w.heap.size + 1), 5, none⟩ (.slice A2 n2 c2)) from HS26.out.set 5 _); (with_reducible refine (end_any _ A n c p4 e4 _ HSA.out.rd).mono ?_); rintro e w25 ⟨rfl, hr9, hg9⟩; have HS25 := Lib.hid (HSA.out.grow hg9 hr9); have HON25 := Lib.hid (own_row (own_set (g := (w.heap.size + 1)) (j := 5) (u := (.slice A2 n2 c2)) HON26.out (by omega)) hg9 (by omega)); have HOT25 := Lib.hid (own_row (own_set (g := (w.heap.size + 1)) (j := 5) (u := (.slice A2 n2 c2)) HOT26.out (by omega)) hg9 (by omega)); clear HSA hr9 hg9)
    | (go_at_call 49; have HSA := HS27; have HHA := HH27; have HONA := HON27; (with_reducible refine (texts_any m (by omega) _ A n c p9 e9 l w.heap.size _ HSA.out.rd (HR.out.below HSA.out.bel (Nat.le_refl _)) hc hn HA27.out (by omega)).mono ?_); rintro e w26 ⟨A2, n2, c2, L2, p4, e4, rfl, hm9, hO9, hI9, hS9, hA9, hr9, hg9⟩; have HS26 := Lib.hid (HSA.out.grow hg9 hr9); have HH26 := Lib.hid (blk_grow HHA.out hg9 (by omega)); have HON26 := Lib.hid (own_row HONA.out hg9 (by omega)); have HP4 := Lib.hid hS9; have HA26 := Lib.hid hA9; have HN2 := Lib.hid hm9; have HI2 := Lib.hid hI9; have HOT26 := Lib.hid hO9; have hbT : w.heap.size + 1 + 1 < w27.heap.size ∧ w30.heap.size < w27.heap.size := ⟨HSA.out.l5, heap_lt HHA.out⟩; clear hS9 hA9 hI9 hm9 hO9; clear HSA HHA hr9 hg9 HONA; dsimp only [mkI, mkS]; (try clear q0 q1 q2 q3 q4 q5 q6 f4); (try clear s0 s1 s2 s3); (try clear t0 t1 t2 t3); have q0 := HS26.out.c4 0; have q1 := HS26.out.c4 1; have q2 := HS26.out.c4 2; have q3 := HS26.out.c4 3; have q4 := HS26.out.c4 4; have q5 := HS26.out.c4 5; have q6 := HS26.out.c4 6; simp only [List.getElem?_toArray, List.getElem?_cons_zero, List.getElem?_cons_succ] at q0 q1 q2 q3 q4 q5 q6; have f4 := HS26.out.f4; have s0 := heap_cell HH26.out 0; have s1 := heap_cell HH26.out 1; have s2 := heap_cell HH26.out 2; have s3 := heap_cell HH26.out 3; simp only [List.getElem?_toArray, List.getElem?_cons_zero, List.getElem?_cons_succ] at s0 s1 s2 s3)
    | (go_at_call 48; have HSA := Lib.hid (show GS w w.heap.size (w.heap.size + 1) (w.heap.size + 1 + 1) 26 #[(.int .i64 0), (.int .i64 0), (.int .i64 0), (.string { data := #[] }), (.slice none 0 0), (.slice none 0 0), (.slice none 0 0)] 26 #[(.int .i64 (K : Int)), (.int .i64 (V : Int)), (.int .i64 i), (.string { data := #[] }), (.slice A1 n1 c1), (.slice none 0 0), (.slice none 0 0)] 65 (.slice A n c) p3 e3 (w28.setCell ⟨(w.heap.size + 1), 4, none⟩ (.slice A1 n1 c1)) from HS28.out.set 4 _); have HHA := Lib.hid (blk_set (g := (w.heap.size + 1)) (j := 4) (v := (.slice A1 n1 c1)) HH28.out (by omega)); have HONA := Lib.hid (own_set (g := (w.heap.size + 1)) (j := 4) (u := (.slice A1 n1 c1)) HON28.out (by omega)); (with_reducible refine (count_any (nT (K : Int)) (nT (K : Int) + mT (K : Int)) 11 (by decide) _ A n c p3 e3 l w.heap.size _ HSA.out.rd (HR.out.below HSA.out.bel (Nat.le_refl _)) hn HA28.out (by omega)).mono ?_); rintro e w27 ⟨m, p9, e9, rfl, hI9, hS9, hA9, hr9, hg9⟩; have HS27 := Lib.hid (HSA.out.grow hg9 hr9); have HH27 := Lib.hid (blk_grow HHA.out hg9 (by omega)); have HON27 := Lib.hid (own_row HONA.out hg9 (by omega)); have HP9 := Lib.hid hS9; have HA27 := Lib.hid hA9; have hm15 : m ≤ 1099511627776 := (by have h1 := hI9.2; have h2 := HM12.out; omega); clear hS9 hA9 hI9; clear HSA HHA hr9 hg9 HONA; dsimp only [mkI, mkS]; (try clear q0 q1 q2 q3 q4 q5 q6 f4); (try clear s0 s1 s2 s3); (try clear t0 t1 t2 t3); have q0 := HS27.out.c4 0; have q1 := HS27.out.c4 1; have q2 := HS27.out.c4 2; have q3 := HS27.out.c4 3; have q4 := HS27.out.c4 4; have q5 := HS27.out.c4 5; have q6 := HS27.out.c4 6; simp only [List.getElem?_toArray, List.getElem?_cons_zero, List.getElem?_cons_succ] at q0 q1 q2 q3 q4 q5 q6; have f4 := HS27.out.f4; have s0 := heap_cell HH27.out 0; have s1 := heap_cell HH27.out 1; have s2 := heap_cell HH27.out 2; have s3 := heap_cell HH27.out 3; simp only [List.getElem?_toArray, List.getElem?_cons_zero, List.getElem?_cons_succ] at s0 s1 s2 s3)
    | (go_at_call 47; have HSA := Lib.hid (show GS w w.heap.size (w.heap.size + 1) (w.heap.size + 1 + 1) 26 #[(.int .i64 0), (.int .i64 0), (.int .i64 0), (.string { data := #[] }), (.slice none 0 0), (.slice none 0 0), (.slice none 0 0)] 26 #[(.int .i64 (K : Int)), (.int .i64 (V : Int)), (.int .i64 i), (.string { data := #[] }), (.slice none 0 0), (.slice none 0 0), (.slice none 0 0)] 65 (.slice A n c) p1 e1 (w29.setCell ⟨(w.heap.size + 1), 2, none⟩ (.int .i64 i)) from HS29.out.set 2 _); have HHA := Lib.hid (blk_set (g := (w.heap.size + 1)) (j := 2) (v := (.int .i64 i)) HH29.out (by omega)); (with_reducible refine (numbers_any (nI (K : Int)) (by omega) _ A n c p1 e1 l w.heap.size _ HSA.out.rd (HR.out.below HSA.out.bel (Nat.le_refl _)) hn HA29.out (by omega)).mono ?_); rintro e w28 ⟨A1, n1, c1, L1, p3, e3, rfl, hm9, hO9, hI9, hS9, hA9, hr9, hg9⟩; have HS28 := Lib.hid (HSA.out.grow hg9 hr9); have HH28 := Lib.hid (blk_grow HHA.out hg9 (by omega)); have HP3 := Lib.hid hS9; have HA28 := Lib.hid hA9; have HN1 := Lib.hid hm9; have HI1 := Lib.hid hI9; have HON28 := Lib.hid hO9; have hbN : w.heap.size + 1 + 1 < (w29.setCell ⟨(w.heap.size + 1), 2, none⟩ (.int .i64 i)).heap.size ∧ w30.heap.size < (w29.setCell ⟨(w.heap.size + 1), 2, none⟩ (.int .i64 i)).heap.size := ⟨HSA.out.l5, heap_lt HHA.out⟩; clear hS9 hA9 hI9 hm9 hO9; clear HSA HHA hr9 hg9 ; dsimp only [mkI, mkS]; (try clear q0 q1 q2 q3 q4 q5 q6 f4); (try clear s0 s1 s2 s3); (try clear t0 t1 t2 t3); have q0 := HS28.out.c4 0; have q1 := HS28.out.c4 1; have q2 := HS28.out.c4 2; have q3 := HS28.out.c4 3; have q4 := HS28.out.c4 4; have q5 := HS28.out.c4 5; have q6 := HS28.out.c4 6; simp only [List.getElem?_toArray, List.getElem?_cons_zero, List.getElem?_cons_succ] at q0 q1 q2 q3 q4 q5 q6; have f4 := HS28.out.f4; have s0 := heap_cell HH28.out 0; have s1 := heap_cell HH28.out 1; have s2 := heap_cell HH28.out 2; have s3 := heap_cell HH28.out 3; simp only [List.getElem?_toArray, List.getElem?_cons_zero, List.getElem?_cons_succ] at s0 s1 s2 s3)
    | (go_at_call 45; have HSA := Lib.hid (show GS w w.heap.size (w.heap.size + 1) (w.heap.size + 1 + 1) 26 #[(.int .i64 0), (.int .i64 0), (.int .i64 0), (.string { data := #[] }), (.slice none 0 0), (.slice none 0 0), (.slice none 0 0)] 26 #[(.int .i64 (K : Int)), (.int .i64 (V : Int)), (.int .i64 0), (.string { data := #[] }), (.slice none 0 0), (.slice none 0 0), (.slice none 0 0)] 65 (.slice A n c) p0 e0 (((w30.setCell ⟨(w.heap.size + 1), 0, none⟩ (.int .i64 (K : Int))).setCell ⟨(w.heap.size + 1), 1, none⟩ (.int .i64 (V : Int))).alloc (.cells #[.int .i64 (nI (K : Int)), .int .i64 (nT (K : Int)), .int .i64 (mT (K : Int)), .int .i64 (mB (K : Int))] 57)) from ((HS30.out.set 0 _).set 1 _).alloc _); have HHA := Lib.hid (show (((w30.setCell ⟨(w.heap.size + 1), 0, none⟩ (.int .i64 (K : Int))).setCell ⟨(w.heap.size + 1), 1, none⟩ (.int .i64 (V : Int))).alloc (.cells #[.int .i64 (nI (K : Int)), .int .i64 (nT (K : Int)), .int .i64 (mT (K : Int)), .int .i64 (mB (K : Int))] 57)).heap[w30.heap.size]? = some (Obj.cells #[.int .i64 (nI (K : Int)), .int .i64 (nT (K : Int)), .int .i64 (mT (K : Int)), .int .i64 (mB (K : Int))] 57 (0, 0)) from alloc_at (by rw [size_set, size_set])); have hl30 : w.heap.size + 1 < w30.heap.size ∧ w.heap.size + 1 + 1 < w30.heap.size := ⟨HS30.out.l4, HS30.out.l5⟩; (with_reducible refine (number_any _ A n c p0 e0 l w.heap.size _ HSA.out.rd (HR.out.below HSA.out.bel (Nat.le_refl _)) hn HA30.out).mono ?_); rintro e w29 ⟨i, p1, e1, rfl, hI9, hS9, hA9, hr9, hg9⟩; have HS29 := Lib.hid (HSA.out.grow hg9 hr9); have HH29 := Lib.hid (blk_grow HHA.out hg9 (by omega)); have HP1 := Lib.hid hS9; have HA29 := Lib.hid hA9; clear hS9 hA9 hI9; clear HSA HHA hr9 hg9 ; dsimp only [mkI, mkS]; (try clear q0 q1 q2 q3 q4 q5 q6 f4); (try clear s0 s1 s2 s3); (try clear t0 t1 t2 t3); have q0 := HS29.out.c4 0; have q1 := HS29.out.c4 1; have q2 := HS29.out.c4 2; have q3 := HS29.out.c4 3; have q4 := HS29.out.c4 4; have q5 := HS29.out.c4 5; have q6 := HS29.out.c4 6; simp only [List.getElem?_toArray, List.getElem?_cons_zero, List.getElem?_cons_succ] at q0 q1 q2 q3 q4 q5 q6; have f4 := HS29.out.f4; have s0 := heap_cell HH29.out 0; have s1 := heap_cell HH29.out 1; have s2 := heap_cell HH29.out 2; have s3 := heap_cell HH29.out 3; simp only [List.getElem?_toArray, List.getElem?_cons_zero, List.getElem?_cons_succ] at s0 s1 s2 s3)
    | (go_at_call 44; (with_reducible refine (head_any _ A n c l w.heap.size _ HS0.out.rd (HR.out.below HS0.out.bel (Nat.le_refl _)) hc hn (by omega)).mono ?_); rw [HKV.out, HE0.out]; rintro e w30 ⟨p0, rfl, hp0, hp1, hp2, hr9, hg9⟩; have HS30 := Lib.hid (HS0.out.grow hg9 hr9); have HA30 := Lib.hid (show At n p0 e0 from ⟨hp1, by omega, fun h => by have h1 := H2N.out (HE0.out.trans h); omega⟩); have HP0 := Lib.hid (show Steps chead l 0 0 ((K : Int), (V : Int)) p0 e0 by have h := steps_head (l := l) (q := p0) (fun h => hp0 (HE0.out.symm.trans h)); rw [HKV.out, HE0.out] at h; exact h); clear hp0 hp1 hp2 hr9 hg9; dsimp only; (try clear q0 q1 q2 q3 q4 q5 q6 f4); (try clear s0 s1 s2 s3); (try clear t0 t1 t2 t3); have q0 := HS30.out.c4 0; have q1 := HS30.out.c4 1; have q2 := HS30.out.c4 2; have q3 := HS30.out.c4 3; have q4 := HS30.out.c4 4; have q5 := HS30.out.c4 5; have q6 := HS30.out.c4 6; simp only [List.getElem?_toArray, List.getElem?_cons_zero, List.getElem?_cons_succ] at q0 q1 q2 q3 q4 q5 q6; have f4 := HS30.out.f4; have t0 := (HTB.out.bel HS30.out.bel).c0 hK13; have t1 := (HTB.out.bel HS30.out.bel).c1 hK13; have t2 := (HTB.out.bel HS30.out.bel).c2 hK13; have t3 := (HTB.out.bel HS30.out.bel).c3 hK13))
  have HALL := Lib.hid (show Steps reqC l 0 0 ⟨(K : Int), (V : Int), i, { data := #[] }, L1, L2, []⟩ p4 e4 from steps_req HP0.out HP1.out (by rw [HC2.out]; exact .none) HP3.out (by rw [HC4.out]; refine Steps.count (hchk := ck15_pos) (m := m) (?_ : Steps (cthat cvar ck15) l p3 e3 m p9 e9) (fun h => by have h2 := HP4.out; rw [h] at h2; exact h2) (fun h => HP4.out.keep h); have h := HP9.out; rw [HN3.out, show (3 : Int) + mT (K : Int) = 15 by rw [← HN3.out]; exact HM12.out, ckB_15] at h; exact h) (by rw [HC5.out]; exact .none))
  obtain ⟨z, hz⟩ : ∃ z, enE n p4 e4 = z := ⟨_, rfl⟩
  have HEND := Lib.hid (gtQ_end HLEN.out HALL.out HA26.out (show _ = z from hz))
  rw [hz] at HS25
  clear hz
  have hl25 : w.heap.size + 1 < w25.heap.size ∧ w.heap.size + 1 + 1 < w25.heap.size ∧ w.heap.size < w25.heap.size := ⟨HS25.out.l4, HS25.out.l5, heap_lt HS25.out.b2⟩
  have r2 := HS25.out.rd.c2
  have z0 := HS25.out.c2 0
  have z1 := HS25.out.c2 1
  have z2 := HS25.out.c2 2
  have z3 := HS25.out.c2 3
  have z4 := HS25.out.c2 4
  have z5 := HS25.out.c2 5
  have z6 := HS25.out.c2 6
  simp only [List.getElem?_toArray, List.getElem?_cons_zero, List.getElem?_cons_succ] at z0 z1 z2 z3 z4 z5 z6
  have f2 := HS25.out.f2
  by_cases hz0 : z = 0
  case neg =>
    have hzN : (z != 0) = true := by simp [hz0]
    have HZ := Lib.hid (HEND.out.1 hz0)
    clear hz0
    go_wp2
    refine region_let (fun W9 : World => W9.cell? ⟨(w.heap.size + 1 + 1), 2, none⟩ = some (.int .i64 z)) 99 5 hmx rfl fun ops Q HOPS HQ => ?_
    refine stepQ HOPS 0 1 ?_ (by decide) rfl (by kernel_rfl) (by kernel_rfl) rfl ?_ r2 ?_
    rotate_left
    · intro w9 hS9; go_simp; (first | done | with_reducible rfl)
    try simp only [Act.put, List.setIfInBounds_toArray, List.set_cons_zero, List.set_cons_succ]
    refine stepQ HOPS 1 3 ?_ (by decide) rfl (by kernel_rfl) (by kernel_rfl) rfl ?_ r2 ?_
    rotate_left
    · intro w9 hS9; go_simp; (first | done | with_reducible rfl)
    try simp only [Act.put, List.setIfInBounds_toArray, List.set_cons_zero, List.set_cons_succ]
    refine stepQ HOPS 2 7 ?_ (by decide) rfl (by kernel_rfl) (by kernel_rfl) rfl ?_ r2 ?_
    rotate_left
    · intro w9 hS9; go_simp; (first | done | with_reducible rfl)
    try simp only [Act.put, List.setIfInBounds_toArray, List.set_cons_zero, List.set_cons_succ]
    refine stepC HOPS 3 15 (by decide) rfl (by kernel_rfl) (by kernel_rfl) ?_
    go_simp
    try simp only [Act.put, List.setIfInBounds_toArray, List.set_cons_zero, List.set_cons_succ]
    refine stepQ HOPS 4 31 ?_ (by decide) rfl (by kernel_rfl) (by kernel_rfl) rfl ?_ (by go_simp) ?_
    rotate_left
    · intro w9 hS9; go_simp; (first | done | with_reducible rfl)
    try simp only [Act.put, List.setIfInBounds_toArray, List.set_cons_zero, List.set_cons_succ]
    refine stepE HOPS (by kernel_rfl) (HQ.out _ _ ?_)
    clear HQ HOPS
    clear Q ops
    go_wp2
    refine bodyPost_ret (v := .tuple #[reqV nilQ none 0 0 none 0 0 none 0 0, .int .i64 z]) (by simp [results, Tryd.results16, go_sem, reqV, nilQ, empty_eq, z0, z1, z2, z3, z4, z5, z6]) rfl ?_
    rw [HZ.out]
    exact ⟨none, 0, 0, none, 0, 0, none, 0, 0, rfl, Three.nil _, (show ByteArray.empty.size ≤ 64 by decide), (put7_bel HS25.out.bel (Nat.le_refl _) _ _ _ _ _ _ _).drew⟩
  subst hz0
  obtain ⟨y2, hz2⟩ : ∃ y2, ckQ ⟨(K : Int), (V : Int), i, { data := #[] }, L1, L2, []⟩ = y2 := ⟨_, rfl⟩
  have HCK := Lib.hid hz2
  have HL1 := Lib.hid (rdL_nums (HON25.out.rd nS) HI1.out)
  have HL2 := Lib.hid (rdL_strs (HOT25.out.rd sS) (fun x hx => Nat.le_trans (HI2.out x hx) (by decide)))
  have hN1 := HN1.out
  have hN2 := HN2.out
  have hbk : w.heap.size < w30.heap.size := by omega
  have q0 := HS25.out.c4 0
  have q1 := HS25.out.c4 1
  have q2 := HS25.out.c4 2
  have q3 := HS25.out.c4 3
  have q4 := HS25.out.c4 4
  have q5 := HS25.out.c4 5
  have q6 := HS25.out.c4 6
  simp only [List.getElem?_toArray, List.getElem?_cons_zero, List.getElem?_cons_succ] at q0 q1 q2 q3 q4 q5 q6
  by_cases hck : y2 = 0
  case neg =>
    have hz2N : (y2 != 0) = true := by simp [hck]
    have HZ := Lib.hid (HEND.out.2.1 rfl (by rw [hz2]; exact hck))
    clear hz2 hck
    go_wp2_with (go_at_call 18; (refine (CheckReq_any (K : Int) (V : Int) i { data := #[] } A1 n1 c1 L1 A2 n2 c2 L2 none 0 0 [] w25 HL1.out (by omega) HL2.out (by omega) (by decide) (by omega) rfl (HTB.out.bel HS25.out.bel)).mono ?_); rw [HCK.out]; rintro e w9 ⟨rfl, hb9⟩; have HS9 := Lib.hid (HS25.out.below hb9); have HON9 := Lib.hid (OwnF.below HON25.out hb9); have HOT9 := Lib.hid (OwnF.below HOT25.out hb9); have z0 := HS9.out.c2 0; have z1 := HS9.out.c2 1; have z2 := HS9.out.c2 2; have z3 := HS9.out.c2 3; have z4 := HS9.out.c2 4; have z5 := HS9.out.c2 5; have z6 := HS9.out.c2 6; have q0 := HS9.out.c4 0; have q1 := HS9.out.c4 1; have q2 := HS9.out.c4 2; have q3 := HS9.out.c4 3; have q4 := HS9.out.c4 4; have q5 := HS9.out.c4 5; have q6 := HS9.out.c4 6; simp only [List.getElem?_toArray, List.getElem?_cons_zero, List.getElem?_cons_succ] at z0 z1 z2 z3 z4 z5 z6 q0 q1 q2 q3 q4 q5 q6; have f2 := HS9.out.f2; have f4 := HS9.out.f4; clear hb9)
    refine bodyPost_ret (v := .tuple #[reqV nilQ none 0 0 none 0 0 none 0 0, .int .i64 1]) (by simp [results, Tryd.results16, go_sem, reqV, nilQ, empty_eq, z0, z1, z2, z3, z4, z5, z6]) rfl ?_
    rw [HZ.out]
    exact ⟨none, 0, 0, none, 0, 0, none, 0, 0, rfl, Three.nil _, (show ByteArray.empty.size ≤ 64 by decide), put7_bel HS9.out.bel (Nat.le_refl _) _ _ _ _ _ _ _⟩
  have HZ := Lib.hid (HEND.out.2.2 rfl (by rw [hz2]; exact hck))
  subst hck
  clear hz2
  go_wp2_with (go_at_call 18; (refine (CheckReq_any (K : Int) (V : Int) i { data := #[] } A1 n1 c1 L1 A2 n2 c2 L2 none 0 0 [] w25 HL1.out (by omega) HL2.out (by omega) (by decide) (by omega) rfl (HTB.out.bel HS25.out.bel)).mono ?_); rw [HCK.out]; rintro e w9 ⟨rfl, hb9⟩; have HS9 := Lib.hid (HS25.out.below hb9); have HON9 := Lib.hid (OwnF.below HON25.out hb9); have HOT9 := Lib.hid (OwnF.below HOT25.out hb9); have z0 := HS9.out.c2 0; have z1 := HS9.out.c2 1; have z2 := HS9.out.c2 2; have z3 := HS9.out.c2 3; have z4 := HS9.out.c2 4; have z5 := HS9.out.c2 5; have z6 := HS9.out.c2 6; have q0 := HS9.out.c4 0; have q1 := HS9.out.c4 1; have q2 := HS9.out.c4 2; have q3 := HS9.out.c4 3; have q4 := HS9.out.c4 4; have q5 := HS9.out.c4 5; have q6 := HS9.out.c4 6; simp only [List.getElem?_toArray, List.getElem?_cons_zero, List.getElem?_cons_succ] at z0 z1 z2 z3 z4 z5 z6 q0 q1 q2 q3 q4 q5 q6; have f2 := HS9.out.f2; have f4 := HS9.out.f4; clear hb9)
  refine bodyPost_ret (v := .tuple #[reqV ⟨(K : Int), (V : Int), i, { data := #[] }, L1, L2, []⟩ A1 n1 c1 A2 n2 c2 none 0 0, .int .i64 0]) (by simp [results, Tryd.results16, go_sem, reqV, z0, z1, z2, z3, z4, z5, z6]) rfl ?_
  rw [HZ.out]
  refine ⟨A1, n1, c1, A2, n2, c2, none, 0, 0, rfl, ⟨rdL_nums ((own_row HON9.out (put7_gb w9 w.heap.size _ _ _ _ _ _ _) (by omega)).rd nS) HI1.out, rdL_strs ((own_row HOT9.out (put7_gb w9 w.heap.size _ _ _ _ _ _ _) (by omega)).rd sS) (fun x hx => Nat.le_trans (HI2.out x hx) (by decide)), Rd.nil, by omega, by omega, by omega⟩, (show ByteArray.empty.size ≤ 64 by decide), put7_bel HS9.out.bel (Nat.le_refl _) _ _ _ _ _ _ _⟩
set_option maxRecDepth 100000 in
set_option maxHeartbeats 8000000 in
theorem GetReq_n2 (A : Option Addr) (n c : Nat) (l : List UInt8) (K V : Nat) (w : World) (hr : Rd w w.heap.size A n l) (hc : n ≤ c) (hn : n ≤ 1099511627776) (ht : Tab w) (hkv : hdV l = ((K : Int), (V : Int))) (hK : K ≤ 12) (hk : K = 2) (hV : V < 2) :
    Calls Tryd.prog 16 #[.slice A n c] w (GQR w (gtQ l)) := by
  have HR := Lib.hid hr
  have HLEN := Lib.hid hr.len
  have HTB := Lib.hid ht
  have HKV := Lib.hid hkv
  obtain ⟨e0, he0⟩ : ∃ e0, hdE l = e0 := ⟨_, rfl⟩
  have HE0 := Lib.hid he0
  have h2n : hdE l = 0 → 2 ≤ n := by
    intro h
    unfold hdE at h
    by_cases h3 : (l.length : Int) < 2
    · rw [if_pos h3] at h; cases h
    · have := hr.len; omega
  have H2N := Lib.hid h2n
  clear hr ht hkv he0 h2n
  have hK13 : K < 13 := by omega
  have hm1 : ¬ 0 < mT (K : Int) := by rw [hk]; decide
  have hm2 : 0 < mB (K : Int) := by rw [hk]; decide
  have HC4 := Lib.hid (show textsC (K : Int) = cmany txt64 (nT (K : Int)).toNat by unfold textsC; rw [if_neg (by omega)])
  have HC5 := Lib.hid (show blobC (K : Int) = cblob (ckM 2048) (ckM_pos 2048) by unfold blobC; rw [if_pos (by omega)])
  have HMB := Lib.hid (show mB (K : Int) = ((2048 : Nat) : Int) by rw [hk]; decide)
  have HC2 := Lib.hid (show whoC (V : Int) = cnone ({ data := #[] } : ByteArray) by unfold whoC; rw [if_neg (by omega)]; rfl)
  have hge : ¬ (2 : Int) ≤ (V : Int) := by omega
  have hnI5 : nI (K : Int) ≤ 5 ∧ nT (K : Int) ≤ 3 := by
    by_cases h : K = 0
    · subst h; decide
    · have h1 := nI_in (k := (K : Int)) (by omega); have h2 := nT_in (k := (K : Int)) (by omega); omega
  obtain ⟨hnI5, hnT3⟩ := hnI5
  clear hV hk
  have HS0 := Lib.hid (show GS w w.heap.size (w.heap.size + 1) (w.heap.size + 1 + 1) 26 #[(.int .i64 0), (.int .i64 0), (.int .i64 0), (.string { data := #[] }), (.slice none 0 0), (.slice none 0 0), (.slice none 0 0)] 26 #[(.int .i64 0), (.int .i64 0), (.int .i64 0), (.string { data := #[] }), (.slice none 0 0), (.slice none 0 0), (.slice none 0 0)] 65 (.slice A n c) 0 0 (((w.alloc (.cells #[(.int .i64 0), (.int .i64 0), (.int .i64 0), (.string { data := #[] }), (.slice none 0 0), (.slice none 0 0), (.slice none 0 0)] 26)).alloc (.cells #[(.int .i64 0), (.int .i64 0), (.int .i64 0), (.string { data := #[] }), (.slice none 0 0), (.slice none 0 0), (.slice none 0 0)] 26)).alloc (.cells #[.slice A n c, .int .i64 0, .int .i64 0] 65)) from GS_start _ _ _ _ _ _ _)
  have hmx : Tryd.prog.follows .mixedOrders = true := by kernel_rfl
  go_enter Tryd.func16, Tryd.ntmps16
  go_upto_region 16 with (first
    | (go_at_call 50; have HSA := Lib.hid (show GS w w.heap.size (w.heap.size + 1) (w.heap.size + 1 + 1) 26 #[(.int .i64 0), (.int .i64 0), (.int .i64 0), (.string { data := #[] }), (.slice none 0 0), (.slice none 0 0), (.slice none 0 0)] 26 #[(.int .i64 (K : Int)), (.int .i64 (V : Int)), (.int .i64 i), (.string { data := #[] }), (.slice A1 n1 c1), (.slice A2 n2 c2), (.slice (some ⟨w26.heap.size, 0, none⟩) x.size cB)] 65 (.slice A n c) p5 e5 (wB.setCell ⟨(w.heap.size + 1), 6, none⟩ (.slice (some ⟨w26.heap.size, 0, none⟩) x.size cB)) from HSB.out.set 6 _); (with_reducible refine (end_any _ A n c p5 e5 _ HSA.out.rd).mono ?_); rintro e w25 ⟨rfl, hr9, hg9⟩; have HS25 := Lib.hid (HSA.out.grow hg9 hr9); have HON25 := Lib.hid (own_row (own_set (g := (w.heap.size + 1)) (j := 6) (u := (.slice (some ⟨w26.heap.size, 0, none⟩) x.size cB)) HONB.out (by omega)) hg9 (by omega)); have HOT25 := Lib.hid (own_row (own_set (g := (w.heap.size + 1)) (j := 6) (u := (.slice (some ⟨w26.heap.size, 0, none⟩) x.size cB)) HOTB.out (by omega)) hg9 (by omega)); have HX25 := Lib.hid (blk_grow (blk_set (g := (w.heap.size + 1)) (j := 6) (v := (.slice (some ⟨w26.heap.size, 0, none⟩) x.size cB)) HBX.out (by omega)) hg9 (by omega)); clear HSA hr9 hg9)
    | (go_at_call 46; rw [HMB.out]; have HSA := Lib.hid (show GS w w.heap.size (w.heap.size + 1) (w.heap.size + 1 + 1) 26 #[(.int .i64 0), (.int .i64 0), (.int .i64 0), (.string { data := #[] }), (.slice none 0 0), (.slice none 0 0), (.slice none 0 0)] 26 #[(.int .i64 (K : Int)), (.int .i64 (V : Int)), (.int .i64 i), (.string { data := #[] }), (.slice A1 n1 c1), (.slice A2 n2 c2), (.slice none 0 0)] 65 (.slice A n c) p4 e4 (w27.setCell ⟨(w.heap.size + 1), 5, none⟩ (.slice A2 n2 c2)) from HS27.out.set 5 _); have HHA := Lib.hid (blk_set (g := (w.heap.size + 1)) (j := 5) (v := (.slice A2 n2 c2)) HH27.out (by omega)); have HONA := Lib.hid (own_set (g := (w.heap.size + 1)) (j := 5) (u := (.slice A2 n2 c2)) HON27.out (by omega)); have HOTA := Lib.hid (own_set (g := (w.heap.size + 1)) (j := 5) (u := (.slice A2 n2 c2)) HOT27.out (by omega)); (refine ((blob_any _ A n c 2048 p4 e4 l w.heap.size _ HSA.out.rd (HR.out.below HSA.out.bel (Nat.le_refl _)) hc hn HA27.out)).mono ?_); rintro e w26 ⟨x, p5, e5, rfl, hI9, hS9, hA9, hr9, hg9⟩; have HS26 := Lib.hid (HSA.out.grow hg9 hr9); have HH26 := Lib.hid (blk_grow HHA.out hg9 (by omega)); have HON26 := Lib.hid (own_row HONA.out hg9 (by omega)); have HOT26 := Lib.hid (own_row HOTA.out hg9 (by omega)); have HP5 := Lib.hid hS9; have HA26 := Lib.hid hA9; have HX48 := Lib.hid hI9; clear hS9 hA9 hI9; obtain ⟨wB, hwB⟩ : ∃ wB, Lib.bytesWorld w26 5 x = wB := ⟨_, rfl⟩; obtain ⟨cB, hcB⟩ : ∃ cB, grownCap w26 x.size 0 5 = cB := ⟨_, rfl⟩; have rc := Lib.run_convert_string_bytes (P := Tryd.prog) w26 9 24 5 x Tryd.underlying9 Tryd.underlying24 Tryd.underlying5; rw [hwB, hcB] at rc; have hbB : Below w26.heap.size w26 wB := hwB ▸ bytes_below w26 _ x; have HBX := Lib.hid (hwB ▸ Lib.bytesWorld_at_new w26 5 x); have HSB := Lib.hid (HS26.out.below hbB); have HHB := Lib.hid (blk_below HH26.out hbB); have HONB := Lib.hid (OwnF.below HON26.out hbB); have HOTB := Lib.hid (OwnF.below HOT26.out hbB); have hlB : w.heap.size + 1 + 1 < w26.heap.size := HS26.out.l5; clear hwB hbB; clear HSA HHA hr9 hg9 HONA HOTA; dsimp only [mkI, mkS]; (try clear q0 q1 q2 q3 q4 q5 q6 f4); (try clear s0 s1 s2 s3); (try clear t0 t1 t2 t3); have q0 := HSB.out.c4 0; have q1 := HSB.out.c4 1; have q2 := HSB.out.c4 2; have q3 := HSB.out.c4 3; have q4 := HSB.out.c4 4; have q5 := HSB.out.c4 5; have q6 := HSB.out.c4 6; simp only [List.getElem?_toArray, List.getElem?_cons_zero, List.getElem?_cons_succ] at q0 q1 q2 q3 q4 q5 q6; have f4 := HSB.out.f4; have s0 := heap_cell HHB.out 0; have s1 := heap_cell HHB.out 1; have s2 := heap_cell HHB.out 2; have s3 := heap_cell HHB.out 3; simp only [List.getElem?_toArray, List.getElem?_cons_zero, List.getElem?_cons_succ] at s0 s1 s2 s3)
    | (go_at_call 49; have HSA := Lib.hid (show GS w w.heap.size (w.heap.size + 1) (w.heap.size + 1 + 1) 26 #[(.int .i64 0), (.int .i64 0), (.int .i64 0), (.string { data := #[] }), (.slice none 0 0), (.slice none 0 0), (.slice none 0 0)] 26 #[(.int .i64 (K : Int)), (.int .i64 (V : Int)), (.int .i64 i), (.string { data := #[] }), (.slice A1 n1 c1), (.slice none 0 0), (.slice none 0 0)] 65 (.slice A n c) p3 e3 (w28.setCell ⟨(w.heap.size + 1), 4, none⟩ (.slice A1 n1 c1)) from HS28.out.set 4 _); have HHA := Lib.hid (blk_set (g := (w.heap.size + 1)) (j := 4) (v := (.slice A1 n1 c1)) HH28.out (by omega)); have HONA := Lib.hid (own_set (g := (w.heap.size + 1)) (j := 4) (u := (.slice A1 n1 c1)) HON28.out (by omega)); (with_reducible refine (texts_any (nT (K : Int)) (by omega) _ A n c p3 e3 l w.heap.size _ HSA.out.rd (HR.out.below HSA.out.bel (Nat.le_refl _)) hc hn HA28.out (by omega)).mono ?_); rintro e w27 ⟨A2, n2, c2, L2, p4, e4, rfl, hm9, hO9, hI9, hS9, hA9, hr9, hg9⟩; have HS27 := Lib.hid (HSA.out.grow hg9 hr9); have HH27 := Lib.hid (blk_grow HHA.out hg9 (by omega)); have HON27 := Lib.hid (own_row HONA.out hg9 (by omega)); have HP4 := Lib.hid hS9; have HA27 := Lib.hid hA9; have HN2 := Lib.hid hm9; have HI2 := Lib.hid hI9; have HOT27 := Lib.hid hO9; have hbT : w.heap.size + 1 + 1 < (w28.setCell ⟨(w.heap.size + 1), 4, none⟩ (.slice A1 n1 c1)).heap.size ∧ w30.heap.size < (w28.setCell ⟨(w.heap.size + 1), 4, none⟩ (.slice A1 n1 c1)).heap.size := ⟨HSA.out.l5, heap_lt HHA.out⟩; clear hS9 hA9 hI9 hm9 hO9; clear HSA HHA hr9 hg9 HONA; dsimp only [mkI, mkS]; (try clear q0 q1 q2 q3 q4 q5 q6 f4); (try clear s0 s1 s2 s3); (try clear t0 t1 t2 t3); have q0 := HS27.out.c4 0; have q1 := HS27.out.c4 1; have q2 := HS27.out.c4 2; have q3 := HS27.out.c4 3; have q4 := HS27.out.c4 4; have q5 := HS27.out.c4 5; have q6 := HS27.out.c4 6; simp only [List.getElem?_toArray, List.getElem?_cons_zero, List.getElem?_cons_succ] at q0 q1 q2 q3 q4 q5 q6; have f4 := HS27.out.f4; have s0 := heap_cell HH27.out 0; have s1 := heap_cell HH27.out 1; have s2 := heap_cell HH27.out 2; have s3 := heap_cell HH27.out 3; simp only [List.getElem?_toArray, List.getElem?_cons_zero, List.getElem?_cons_succ] at s0 s1 s2 s3)
    | (go_at_call 47; have HSA := Lib.hid (show GS w w.heap.size (w.heap.size + 1) (w.heap.size + 1 + 1) 26 #[(.int .i64 0), (.int .i64 0), (.int .i64 0), (.string { data := #[] }), (.slice none 0 0), (.slice none 0 0), (.slice none 0 0)] 26 #[(.int .i64 (K : Int)), (.int .i64 (V : Int)), (.int .i64 i), (.string { data := #[] }), (.slice none 0 0), (.slice none 0 0), (.slice none 0 0)] 65 (.slice A n c) p1 e1 (w29.setCell ⟨(w.heap.size + 1), 2, none⟩ (.int .i64 i)) from HS29.out.set 2 _); have HHA := Lib.hid (blk_set (g := (w.heap.size + 1)) (j := 2) (v := (.int .i64 i)) HH29.out (by omega)); (with_reducible refine (numbers_any (nI (K : Int)) (by omega) _ A n c p1 e1 l w.heap.size _ HSA.out.rd (HR.out.below HSA.out.bel (Nat.le_refl _)) hn HA29.out (by omega)).mono ?_); rintro e w28 ⟨A1, n1, c1, L1, p3, e3, rfl, hm9, hO9, hI9, hS9, hA9, hr9, hg9⟩; have HS28 := Lib.hid (HSA.out.grow hg9 hr9); have HH28 := Lib.hid (blk_grow HHA.out hg9 (by omega)); have HP3 := Lib.hid hS9; have HA28 := Lib.hid hA9; have HN1 := Lib.hid hm9; have HI1 := Lib.hid hI9; have HON28 := Lib.hid hO9; have hbN : w.heap.size + 1 + 1 < (w29.setCell ⟨(w.heap.size + 1), 2, none⟩ (.int .i64 i)).heap.size ∧ w30.heap.size < (w29.setCell ⟨(w.heap.size + 1), 2, none⟩ (.int .i64 i)).heap.size := ⟨HSA.out.l5, heap_lt HHA.out⟩; clear hS9 hA9 hI9 hm9 hO9; clear HSA HHA hr9 hg9 ; dsimp only [mkI, mkS]; (try clear q0 q1 q2 q3 q4 q5 q6 f4); (try clear s0 s1 s2 s3); (try clear t0 t1 t2 t3); have q0 := HS28.out.c4 0; have q1 := HS28.out.c4 1; have q2 := HS28.out.c4 2; have q3 := HS28.out.c4 3; have q4 := HS28.out.c4 4; have q5 := HS28.out.c4 5; have q6 := HS28.out.c4 6; simp only [List.getElem?_toArray, List.getElem?_cons_zero, List.getElem?_cons_succ] at q0 q1 q2 q3 q4 q5 q6; have f4 := HS28.out.f4; have s0 := heap_cell HH28.out 0; have s1 := heap_cell HH28.out 1; have s2 := heap_cell HH28.out 2; have s3 := heap_cell HH28.out 3; simp only [List.getElem?_toArray, List.getElem?_cons_zero, List.getElem?_cons_succ] at s0 s1 s2 s3)
    | (go_at_call 45; have HSA := Lib.hid (show GS w w.heap.size (w.heap.size + 1) (w.heap.size + 1 + 1) 26 #[(.int .i64 0), (.int .i64 0), (.int .i64 0), (.string { data := #[] }), (.slice none 0 0), (.slice none 0 0), (.slice none 0 0)] 26 #[(.int .i64 (K : Int)), (.int .i64 (V : Int)), (.int .i64 0), (.string { data := #[] }), (.slice none 0 0), (.slice none 0 0), (.slice none 0 0)] 65 (.slice A n c) p0 e0 (((w30.setCell ⟨(w.heap.size + 1), 0, none⟩ (.int .i64 (K : Int))).setCell ⟨(w.heap.size + 1), 1, none⟩ (.int .i64 (V : Int))).alloc (.cells #[.int .i64 (nI (K : Int)), .int .i64 (nT (K : Int)), .int .i64 (mT (K : Int)), .int .i64 (mB (K : Int))] 57)) from ((HS30.out.set 0 _).set 1 _).alloc _); have HHA := Lib.hid (show (((w30.setCell ⟨(w.heap.size + 1), 0, none⟩ (.int .i64 (K : Int))).setCell ⟨(w.heap.size + 1), 1, none⟩ (.int .i64 (V : Int))).alloc (.cells #[.int .i64 (nI (K : Int)), .int .i64 (nT (K : Int)), .int .i64 (mT (K : Int)), .int .i64 (mB (K : Int))] 57)).heap[w30.heap.size]? = some (Obj.cells #[.int .i64 (nI (K : Int)), .int .i64 (nT (K : Int)), .int .i64 (mT (K : Int)), .int .i64 (mB (K : Int))] 57 (0, 0)) from alloc_at (by rw [size_set, size_set])); have hl30 : w.heap.size + 1 < w30.heap.size ∧ w.heap.size + 1 + 1 < w30.heap.size := ⟨HS30.out.l4, HS30.out.l5⟩; (with_reducible refine (number_any _ A n c p0 e0 l w.heap.size _ HSA.out.rd (HR.out.below HSA.out.bel (Nat.le_refl _)) hn HA30.out).mono ?_); rintro e w29 ⟨i, p1, e1, rfl, hI9, hS9, hA9, hr9, hg9⟩; have HS29 := Lib.hid (HSA.out.grow hg9 hr9); have HH29 := Lib.hid (blk_grow HHA.out hg9 (by omega)); have HP1 := Lib.hid hS9; have HA29 := Lib.hid hA9; clear hS9 hA9 hI9; clear HSA HHA hr9 hg9 ; dsimp only [mkI, mkS]; (try clear q0 q1 q2 q3 q4 q5 q6 f4); (try clear s0 s1 s2 s3); (try clear t0 t1 t2 t3); have q0 := HS29.out.c4 0; have q1 := HS29.out.c4 1; have q2 := HS29.out.c4 2; have q3 := HS29.out.c4 3; have q4 := HS29.out.c4 4; have q5 := HS29.out.c4 5; have q6 := HS29.out.c4 6; simp only [List.getElem?_toArray, List.getElem?_cons_zero, List.getElem?_cons_succ] at q0 q1 q2 q3 q4 q5 q6; have f4 := HS29.out.f4; have s0 := heap_cell HH29.out 0; have s1 := heap_cell HH29.out 1; have s2 := heap_cell HH29.out 2; have s3 := heap_cell HH29.out 3; simp only [List.getElem?_toArray, List.getElem?_cons_zero, List.getElem?_cons_succ] at s0 s1 s2 s3)
    | (go_at_call 44; (with_reducible refine (head_any _ A n c l w.heap.size _ HS0.out.rd (HR.out.below HS0.out.bel (Nat.le_refl _)) hc hn (by omega)).mono ?_); rw [HKV.out, HE0.out]; rintro e w30 ⟨p0, rfl, hp0, hp1, hp2, hr9, hg9⟩; have HS30 := Lib.hid (HS0.out.grow hg9 hr9); have HA30 := Lib.hid (show At n p0 e0 from ⟨hp1, by omega, fun h => by have h1 := H2N.out (HE0.out.trans h); omega⟩); have HP0 := Lib.hid (show Steps chead l 0 0 ((K : Int), (V : Int)) p0 e0 by have h := steps_head (l := l) (q := p0) (fun h => hp0 (HE0.out.symm.trans h)); rw [HKV.out, HE0.out] at h; exact h); clear hp0 hp1 hp2 hr9 hg9; dsimp only; (try clear q0 q1 q2 q3 q4 q5 q6 f4); (try clear s0 s1 s2 s3); (try clear t0 t1 t2 t3); have q0 := HS30.out.c4 0; have q1 := HS30.out.c4 1; have q2 := HS30.out.c4 2; have q3 := HS30.out.c4 3; have q4 := HS30.out.c4 4; have q5 := HS30.out.c4 5; have q6 := HS30.out.c4 6; simp only [List.getElem?_toArray, List.getElem?_cons_zero, List.getElem?_cons_succ] at q0 q1 q2 q3 q4 q5 q6; have f4 := HS30.out.f4; have t0 := (HTB.out.bel HS30.out.bel).c0 hK13; have t1 := (HTB.out.bel HS30.out.bel).c1 hK13; have t2 := (HTB.out.bel HS30.out.bel).c2 hK13; have t3 := (HTB.out.bel HS30.out.bel).c3 hK13))
  have HALL := Lib.hid (show Steps reqC l 0 0 ⟨(K : Int), (V : Int), i, { data := #[] }, L1, L2, x.data.toList⟩ p5 e5 from steps_req HP0.out HP1.out (by rw [HC2.out]; exact .none) HP3.out (by rw [HC4.out]; exact HP4.out) (by rw [HC5.out]; exact HP5.out))
  obtain ⟨z, hz⟩ : ∃ z, enE n p5 e5 = z := ⟨_, rfl⟩
  have HEND := Lib.hid (gtQ_end HLEN.out HALL.out HA26.out (show _ = z from hz))
  rw [hz] at HS25
  clear hz
  have hl25 : w.heap.size + 1 < w25.heap.size ∧ w.heap.size + 1 + 1 < w25.heap.size ∧ w.heap.size < w25.heap.size := ⟨HS25.out.l4, HS25.out.l5, heap_lt HS25.out.b2⟩
  have r2 := HS25.out.rd.c2
  have z0 := HS25.out.c2 0
  have z1 := HS25.out.c2 1
  have z2 := HS25.out.c2 2
  have z3 := HS25.out.c2 3
  have z4 := HS25.out.c2 4
  have z5 := HS25.out.c2 5
  have z6 := HS25.out.c2 6
  simp only [List.getElem?_toArray, List.getElem?_cons_zero, List.getElem?_cons_succ] at z0 z1 z2 z3 z4 z5 z6
  have f2 := HS25.out.f2
  by_cases hz0 : z = 0
  case neg =>
    have hzN : (z != 0) = true := by simp [hz0]
    have HZ := Lib.hid (HEND.out.1 hz0)
    clear hz0
    go_wp2
    refine region_let (fun W9 : World => W9.cell? ⟨(w.heap.size + 1 + 1), 2, none⟩ = some (.int .i64 z)) 99 5 hmx rfl fun ops Q HOPS HQ => ?_
    refine stepQ HOPS 0 1 ?_ (by decide) rfl (by kernel_rfl) (by kernel_rfl) rfl ?_ r2 ?_
    rotate_left
    · intro w9 hS9; go_simp; (first | done | with_reducible rfl)
    try simp only [Act.put, List.setIfInBounds_toArray, List.set_cons_zero, List.set_cons_succ]
    refine stepQ HOPS 1 3 ?_ (by decide) rfl (by kernel_rfl) (by kernel_rfl) rfl ?_ r2 ?_
    rotate_left
    · intro w9 hS9; go_simp; (first | done | with_reducible rfl)
    try simp only [Act.put, List.setIfInBounds_toArray, List.set_cons_zero, List.set_cons_succ]
    refine stepQ HOPS 2 7 ?_ (by decide) rfl (by kernel_rfl) (by kernel_rfl) rfl ?_ r2 ?_
    rotate_left
    · intro w9 hS9; go_simp; (first | done | with_reducible rfl)
    try simp only [Act.put, List.setIfInBounds_toArray, List.set_cons_zero, List.set_cons_succ]
    refine stepC HOPS 3 15 (by decide) rfl (by kernel_rfl) (by kernel_rfl) ?_
    go_simp
    try simp only [Act.put, List.setIfInBounds_toArray, List.set_cons_zero, List.set_cons_succ]
    refine stepQ HOPS 4 31 ?_ (by decide) rfl (by kernel_rfl) (by kernel_rfl) rfl ?_ (by go_simp) ?_
    rotate_left
    · intro w9 hS9; go_simp; (first | done | with_reducible rfl)
    try simp only [Act.put, List.setIfInBounds_toArray, List.set_cons_zero, List.set_cons_succ]
    refine stepE HOPS (by kernel_rfl) (HQ.out _ _ ?_)
    clear HQ HOPS
    clear Q ops
    go_wp2
    refine bodyPost_ret (v := .tuple #[reqV nilQ none 0 0 none 0 0 none 0 0, .int .i64 z]) (by simp [results, Tryd.results16, go_sem, reqV, nilQ, empty_eq, z0, z1, z2, z3, z4, z5, z6]) rfl ?_
    rw [HZ.out]
    exact ⟨none, 0, 0, none, 0, 0, none, 0, 0, rfl, Three.nil _, (show ByteArray.empty.size ≤ 64 by decide), (put7_bel HS25.out.bel (Nat.le_refl _) _ _ _ _ _ _ _).drew⟩
  subst hz0
  obtain ⟨y2, hz2⟩ : ∃ y2, ckQ ⟨(K : Int), (V : Int), i, { data := #[] }, L1, L2, x.data.toList⟩ = y2 := ⟨_, rfl⟩
  have HCK := Lib.hid hz2
  have HL1 := Lib.hid (rdL_nums (HON25.out.rd nS) HI1.out)
  have HL2 := Lib.hid (rdL_strs (HOT25.out.rd sS) (fun x hx => Nat.le_trans (HI2.out x hx) (by decide)))
  have hN1 := HN1.out
  have hN2 := HN2.out
  have HL3 := Lib.hid ((bytes_rd HX25.out rfl).more (B' := w25.heap.size) (heap_lt HX25.out))
  have hx48 := HX48.out
  have hbk : w.heap.size < w30.heap.size := by omega
  have q0 := HS25.out.c4 0
  have q1 := HS25.out.c4 1
  have q2 := HS25.out.c4 2
  have q3 := HS25.out.c4 3
  have q4 := HS25.out.c4 4
  have q5 := HS25.out.c4 5
  have q6 := HS25.out.c4 6
  simp only [List.getElem?_toArray, List.getElem?_cons_zero, List.getElem?_cons_succ] at q0 q1 q2 q3 q4 q5 q6
  by_cases hck : y2 = 0
  case neg =>
    have hz2N : (y2 != 0) = true := by simp [hck]
    have HZ := Lib.hid (HEND.out.2.1 rfl (by rw [hz2]; exact hck))
    clear hz2 hck
    go_wp2_with (go_at_call 18; (refine (CheckReq_any (K : Int) (V : Int) i { data := #[] } A1 n1 c1 L1 A2 n2 c2 L2 (some ⟨w26.heap.size, 0, none⟩) x.size cB x.data.toList w25 HL1.out (by omega) HL2.out (by omega) (by decide) (by omega) HL3.out.len (HTB.out.bel HS25.out.bel)).mono ?_); rw [HCK.out]; rintro e w9 ⟨rfl, hb9⟩; have HS9 := Lib.hid (HS25.out.below hb9); have HON9 := Lib.hid (OwnF.below HON25.out hb9); have HOT9 := Lib.hid (OwnF.below HOT25.out hb9); have HX9 := Lib.hid (blk_below HX25.out hb9); have z0 := HS9.out.c2 0; have z1 := HS9.out.c2 1; have z2 := HS9.out.c2 2; have z3 := HS9.out.c2 3; have z4 := HS9.out.c2 4; have z5 := HS9.out.c2 5; have z6 := HS9.out.c2 6; have q0 := HS9.out.c4 0; have q1 := HS9.out.c4 1; have q2 := HS9.out.c4 2; have q3 := HS9.out.c4 3; have q4 := HS9.out.c4 4; have q5 := HS9.out.c4 5; have q6 := HS9.out.c4 6; simp only [List.getElem?_toArray, List.getElem?_cons_zero, List.getElem?_cons_succ] at z0 z1 z2 z3 z4 z5 z6 q0 q1 q2 q3 q4 q5 q6; have f2 := HS9.out.f2; have f4 := HS9.out.f4; clear hb9)
    refine bodyPost_ret (v := .tuple #[reqV nilQ none 0 0 none 0 0 none 0 0, .int .i64 1]) (by simp [results, Tryd.results16, go_sem, reqV, nilQ, empty_eq, z0, z1, z2, z3, z4, z5, z6]) rfl ?_
    rw [HZ.out]
    exact ⟨none, 0, 0, none, 0, 0, none, 0, 0, rfl, Three.nil _, (show ByteArray.empty.size ≤ 64 by decide), put7_bel HS9.out.bel (Nat.le_refl _) _ _ _ _ _ _ _⟩
  have HZ := Lib.hid (HEND.out.2.2 rfl (by rw [hz2]; exact hck))
  subst hck
  clear hz2
  go_wp2_with (go_at_call 18; (refine (CheckReq_any (K : Int) (V : Int) i { data := #[] } A1 n1 c1 L1 A2 n2 c2 L2 (some ⟨w26.heap.size, 0, none⟩) x.size cB x.data.toList w25 HL1.out (by omega) HL2.out (by omega) (by decide) (by omega) HL3.out.len (HTB.out.bel HS25.out.bel)).mono ?_); rw [HCK.out]; rintro e w9 ⟨rfl, hb9⟩; have HS9 := Lib.hid (HS25.out.below hb9); have HON9 := Lib.hid (OwnF.below HON25.out hb9); have HOT9 := Lib.hid (OwnF.below HOT25.out hb9); have HX9 := Lib.hid (blk_below HX25.out hb9); have z0 := HS9.out.c2 0; have z1 := HS9.out.c2 1; have z2 := HS9.out.c2 2; have z3 := HS9.out.c2 3; have z4 := HS9.out.c2 4; have z5 := HS9.out.c2 5; have z6 := HS9.out.c2 6; have q0 := HS9.out.c4 0; have q1 := HS9.out.c4 1; have q2 := HS9.out.c4 2; have q3 := HS9.out.c4 3; have q4 := HS9.out.c4 4; have q5 := HS9.out.c4 5; have q6 := HS9.out.c4 6; simp only [List.getElem?_toArray, List.getElem?_cons_zero, List.getElem?_cons_succ] at z0 z1 z2 z3 z4 z5 z6 q0 q1 q2 q3 q4 q5 q6; have f2 := HS9.out.f2; have f4 := HS9.out.f4; clear hb9)
  refine bodyPost_ret (v := .tuple #[reqV ⟨(K : Int), (V : Int), i, { data := #[] }, L1, L2, x.data.toList⟩ A1 n1 c1 A2 n2 c2 (some ⟨w26.heap.size, 0, none⟩) x.size cB, .int .i64 0]) (by simp [results, Tryd.results16, go_sem, reqV, z0, z1, z2, z3, z4, z5, z6]) rfl ?_
  rw [HZ.out]
  refine ⟨A1, n1, c1, A2, n2, c2, (some ⟨w26.heap.size, 0, none⟩), x.size, cB, rfl, ⟨rdL_nums ((own_row HON9.out (put7_gb w9 w.heap.size _ _ _ _ _ _ _) (by omega)).rd nS) HI1.out, rdL_strs ((own_row HOT9.out (put7_gb w9 w.heap.size _ _ _ _ _ _ _) (by omega)).rd sS) (fun x hx => Nat.le_trans (HI2.out x hx) (by decide)), (bytes_rd (blk_grow HX9.out (put7_gb w9 w.heap.size _ _ _ _ _ _ _) (by omega)) rfl).more (heap_lt (blk_grow HX9.out (put7_gb w9 w.heap.size _ _ _ _ _ _ _) (by omega))), by omega, by omega, by omega⟩, (show ByteArray.empty.size ≤ 64 by decide), put7_bel HS9.out.bel (Nat.le_refl _) _ _ _ _ _ _ _⟩
theorem GetReq_any (A : Option Addr) (n c : Nat) (l : List UInt8) (w : World) (hr : Rd w w.heap.size A n l) (hc : n ≤ c) (hn : n ≤ 1099511627776) (ht : Tab w) :
    Calls Tryd.prog 16 #[.slice A n c] w (GQR w (gtQ l)) := by
  obtain ⟨K, V, hkv, hK, hV⟩ := hdV_le l
  by_cases hv : V = 2
  · by_cases hk7 : K = 7
    · exact GetReq_v7 A n c l K V w hr hc hn ht hkv hK hk7 hv
    · by_cases hk2 : K = 2
      · exact GetReq_v2 A n c l K V w hr hc hn ht hkv hK hk2 hv
      · exact GetReq_vn A n c l K V w hr hc hn ht hkv hK hk7 hk2 hv
  · by_cases hk7 : K = 7
    · exact GetReq_n7 A n c l K V w hr hc hn ht hkv hK hk7 (by omega)
    · by_cases hk2 : K = 2
      · exact GetReq_n2 A n c l K V w hr hc hn ht hkv hK hk2 (by omega)
      · exact GetReq_nn A n c l K V w hr hc hn ht hkv hK hk7 hk2 (by omega)
end Go.Proofs.YthhdhdjdhekgpaaDoor.Pro
