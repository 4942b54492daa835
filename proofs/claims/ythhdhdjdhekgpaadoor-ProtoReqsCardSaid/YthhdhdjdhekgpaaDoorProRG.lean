/- Joined: ProRG. -/
import Derived.Test.YthhdhdjdhekgpaaDoorProQS
import Derived.Test.YthhdhdjdhekgpaaDoorProG1
import Derived.Deep.DeepCutAuto
/- The document's GetReq. -/
namespace Go.Proofs.YthhdhdjdhekgpaaDoor.Pro
open Go.RowKit Go.Proofs.YthhdhdjdhekgpaaDoor.Oct Go.Proofs.YthhdhdjdhekgpaaDoor.Rec Go.Proofs.YthhdhdjdhekgpaaDoor.Cod Go.Proofs.YthhdhdjdhekgpaaDoor.Lay Go.Proofs.YthhdhdjdhekgpaaDoor.RowF Go.Proofs.YthhdhdjdhekgpaaDoor.InR

set_option maxRecDepth 100000 in
set_option maxHeartbeats 2000000 in
theorem refGetReq_short (A : Option Addr) (n c : Nat) (l : List UInt8) (w : World) (hl : l.length = n) (h2 : n < 2) :
    Calls Tryd.prog 17 #[.slice A n c] w (GQR w (gtQ l)) := by
  have HZ := Lib.hid (show gtQ l = (nilQ, 10) by have h : hdE l = 10 := hd_short (by omega); rw [gtQ_head (by rw [h]; decide), h])
  have HW := Lib.hid (World.alloc_heap_new w (.cells #[.int .i64 0, .int .i64 0, .int .i64 0, .string { data := #[] }, .slice none 0 0, .slice none 0 0, .slice none 0 0] 26))
  have HB := Lib.hid (bel_alloc (Below.refl w.heap.size w) (.cells #[.int .i64 0, .int .i64 0, .int .i64 0, .string { data := #[] }, .slice none 0 0, .slice none 0 0, .slice none 0 0] 26))
  have z0 := heap_cell HW.out 0
  have z1 := heap_cell HW.out 1
  have z2 := heap_cell HW.out 2
  have z3 := heap_cell HW.out 3
  have z4 := heap_cell HW.out 4
  have z5 := heap_cell HW.out 5
  have z6 := heap_cell HW.out 6
  simp only [List.getElem?_toArray, List.getElem?_cons_zero, List.getElem?_cons_succ] at z0 z1 z2 z3 z4 z5 z6
  have zfz := heap_frozen HW.out
  clear hl
  go_enter Tryd.func17, Tryd.ntmps17
  go_wp2_with (go_at_call 51; (with_reducible refine (rbegin_short A n c _ h2).mono ?_); rintro e w9 ⟨rfl, rfl⟩)
  refine bodyPost_ret (v := .tuple #[reqV nilQ none 0 0 none 0 0 none 0 0, .int .i64 10]) (by simp [results, Tryd.results17, go_sem, reqV, nilQ, empty_eq, z0, z1, z2, z3, z4, z5, z6]) rfl ?_
  rw [HZ.out]
  exact ⟨none, 0, 0, none, 0, 0, none, 0, 0, rfl, Three.nil _, (show ByteArray.empty.size ≤ 64 by decide), HB.out⟩
set_option maxRecDepth 100000 in
set_option maxHeartbeats 2000000 in
theorem refGetReq_head (A : Option Addr) (n c : Nat) (l : List UInt8) (w : World) (hr : Rd w w.heap.size A n l) (h2 : 2 ≤ n) {z : Int} (hz : known (kv l 0).1 (kv l 0).2 = z) (hz0 : z ≠ 0) :
    Calls Tryd.prog 17 #[.slice A n c] w (GQR w (gtQ l)) := by
  have HZ := Lib.hid (show gtQ l = (nilQ, z) by have h : hdE l = z := (hd_long (by have := hr.len; omega)).trans hz; rw [gtQ_head (by rw [h]; exact hz0), h])
  have hzN : (z != 0) = true := by simp [hz0]
  have HW := Lib.hid (World.alloc_heap_new w (.cells #[.int .i64 0, .int .i64 0, .int .i64 0, .string { data := #[] }, .slice none 0 0, .slice none 0 0, .slice none 0 0] 26))
  have HB := Lib.hid (bel_alloc (Below.refl w.heap.size w) (.cells #[.int .i64 0, .int .i64 0, .int .i64 0, .string { data := #[] }, .slice none 0 0, .slice none 0 0, .slice none 0 0] 26))
  have hsz : (w.alloc (.cells #[.int .i64 0, .int .i64 0, .int .i64 0, .string { data := #[] }, .slice none 0 0, .slice none 0 0, .slice none 0 0] 26)).heap.size = w.heap.size + 1 := by simp
  have hbg := rbegin_any A n c l (w.alloc (.cells #[.int .i64 0, .int .i64 0, .int .i64 0, .string { data := #[] }, .slice none 0 0, .slice none 0 0, .slice none 0 0] 26)) ((hr.below HB.out (Nat.le_refl _)).more HB.out.size) (by omega) hz
  rw [hsz] at hbg
  have HBG := Lib.hid hbg
  have HR := Lib.hid hr
  clear hbg hr
  clear hz0 hz
  go_enter Tryd.func17, Tryd.ntmps17
  go_upto_if 15 with (go_at_call 51; (with_reducible refine HBG.out.mono ?_); rintro e w30 ⟨rfl, hr30, hb30, hs30⟩; have HR30 := Lib.hid hr30; have HB30 := Lib.hid hb30; have HS30 := Lib.hid hs30; have hsz30 : w.heap.size < w30.heap.size := (by omega); clear hr30 hb30 hs30)
  have HW30 := Lib.hid (show w30.heap[w.heap.size]? = some (.cells #[.int .i64 0, .int .i64 0, .int .i64 0, .string { data := #[] }, .slice none 0 0, .slice none 0 0, .slice none 0 0] 26 (0, 0)) from (HB30.out.block _ (Nat.lt_succ_self _)).trans HW.out)
  have z0 := heap_cell HW30.out 0
  have z1 := heap_cell HW30.out 1
  have z2 := heap_cell HW30.out 2
  have z3 := heap_cell HW30.out 3
  have z4 := heap_cell HW30.out 4
  have z5 := heap_cell HW30.out 5
  have z6 := heap_cell HW30.out 6
  simp only [List.getElem?_toArray, List.getElem?_cons_zero, List.getElem?_cons_succ] at z0 z1 z2 z3 z4 z5 z6
  have zfz := heap_frozen HW30.out
  go_wp2
  refine bodyPost_ret (v := .tuple #[reqV nilQ none 0 0 none 0 0 none 0 0, .int .i64 z]) (by simp [results, Tryd.results17, go_sem, reqV, nilQ, empty_eq, z0, z1, z2, z3, z4, z5, z6]) rfl ?_
  rw [HZ.out]
  exact ⟨none, 0, 0, none, 0, 0, none, 0, 0, rfl, Three.nil _, (show ByteArray.empty.size ≤ 64 by decide), put7_bel (HB.out.trans (HB30.out.mono (Nat.le_succ _))) (Nat.le_refl _) _ _ _ _ _ _ _⟩
def tb_rg4 : List (Nat × Nat) := [(0, 2047), (1, 2046), (2, 2045), (4, 2043), (0, 2047), (16, 2031), (32, 2015), (64, 1983), (136, 1911), (0, 2047), (1023, 1279)]
set_option maxRecDepth 100000 in
set_option maxHeartbeats 16000000 in
theorem refGetReq_body (A : Option Addr) (n c : Nat) (l : List UInt8) (w : World) (hr : Rd w w.heap.size A n l) (hc : n ≤ c) (hn : n ≤ 1099511627776) (h2 : 2 ≤ n) (hE : hdE l = 0) :
    Calls Tryd.prog 17 #[.slice A n c] w (GQR w (gtQ l)) := by
  obtain ⟨K, V, hkv, hK1, hK2, hV2, hst⟩ := hd_ok hE
  have hz : known (kv l 0).1 (kv l 0).2 = 0 := (hd_long (by have := hr.len; omega)).symm.trans hE
  obtain ⟨b, o, c0, rfl, hb, h0, x0⟩ := hr.at (k := 0) (by omega)
  obtain ⟨b', o', c1, e', hb', h1, x1⟩ := hr.at (k := 1) (by omega)
  obtain ⟨rfl, rfl⟩ : b = b' ∧ o = o' := by simpa using e'
  rw [Nat.add_zero] at x0
  have hkv2 : kv l 0 = ((c0.toNat : Int), (c1.toNat : Int)) := by unfold kv; simp only [Int.toNat_zero, Nat.zero_add]; rw [h0, h1]; rfl
  rw [hkv2] at hkv
  simp only [Prod.mk.injEq] at hkv
  obtain rfl : c0.toNat = K := by omega
  obtain rfl : c1.toNat = V := by omega
  have HST0 := Lib.hid hst
  have HLEN := Lib.hid hr.len
  have hw0 : IntKind.i64.wrap (c0.toNat : Int) = (c0.toNat : Int) := IntWalk.i64_in _ (by omega)
  have hw1 : IntKind.i64.wrap (c1.toNat : Int) = (c1.toNat : Int) := IntWalk.i64_in _ (by omega)
  have hn0 : 0 < n := by omega
  have hn1 : (1 : Int) < (n : Int) := by omega
  have hmx : Tryd.prog.follows .mixedOrders = true := by kernel_rfl
  have hnI := nI_in (k := (c0.toNat : Int)) (by omega)
  have hnT := nT_in (k := (c0.toNat : Int)) (by omega)
  have HW := Lib.hid (World.alloc_heap_new w (.cells #[.int .i64 0, .int .i64 0, .int .i64 0, .string { data := #[] }, .slice none 0 0, .slice none 0 0, .slice none 0 0] 26))
  have HB := Lib.hid (bel_alloc (Below.refl w.heap.size w) (.cells #[.int .i64 0, .int .i64 0, .int .i64 0, .string { data := #[] }, .slice none 0 0, .slice none 0 0, .slice none 0 0] 26))
  have hsz : (w.alloc (.cells #[.int .i64 0, .int .i64 0, .int .i64 0, .string { data := #[] }, .slice none 0 0, .slice none 0 0, .slice none 0 0] 26)).heap.size = w.heap.size + 1 := by simp
  have hbg := rbegin_any (some ⟨b, o, none⟩) n c l (w.alloc (.cells #[.int .i64 0, .int .i64 0, .int .i64 0, .string { data := #[] }, .slice none 0 0, .slice none 0 0, .slice none 0 0] 26)) ((hr.below HB.out (Nat.le_refl _)).more HB.out.size) (by omega) hz
  rw [hsz] at hbg
  have HBG := Lib.hid hbg
  have HR := Lib.hid hr
  clear hbg hr
  have X0 := Lib.hid x0
  have X1 := Lib.hid x1
  clear hkv hkv2 hst h0 h1 x0 x1 e' hb' hz hE
  go_enter Tryd.func17, Tryd.ntmps17
  go_upto_region 4 with (go_at_call 51; (with_reducible refine HBG.out.mono ?_); rintro e w30 ⟨rfl, hr30, hb30, hs30⟩; have HR30 := Lib.hid hr30; have HB30 := Lib.hid hb30; have HS30 := Lib.hid hs30; have hsz30 : w.heap.size < w30.heap.size := (by omega); clear hr30 hb30 hs30)
  have hb30 : b < w30.heap.size := by omega
  have HBW := Lib.hid (show Below w.heap.size w w30 from HB.out.trans (HB30.out.mono (Nat.le_succ _)))
  have d0 : w30.cell? ⟨b, o, none⟩ = some (.int .u8 (c0.toNat : Int)) := (HBW.out.cell (p := ⟨b, o, none⟩) hb).trans X0.out
  have d1 : w30.cell? ⟨b, o + 1, none⟩ = some (.int .u8 (c1.toNat : Int)) := (HBW.out.cell (p := ⟨b, o + 1, none⟩) hb).trans X1.out
  have HS0 := Lib.hid (show (fun W9 : World => W9.cell? ⟨b, o, none⟩ = some (.int .u8 (c0.toNat : Int)) ∧ W9.cell? ⟨b, o + 1, none⟩ = some (.int .u8 (c1.toNat : Int))) w30.drew from ⟨d0, d1⟩)
  refine region_let (fun W9 : World => W9.cell? ⟨b, o, none⟩ = some (.int .u8 (c0.toNat : Int)) ∧ W9.cell? ⟨b, o + 1, none⟩ = some (.int .u8 (c1.toNat : Int))) 99 11 hmx rfl fun ops Q HOPS HQ => ?_
  have HREG := reg_of HOPS tb_rg4 rfl (by kernel_rfl) (by kernel_rfl) (by decide)
  refine stepTQ HOPS HREG 0 1 ?_ (by decide) rfl (by kernel_rfl) (by kernel_rfl) rfl ?_ HS0.out ?_
  rotate_left
  · intro w9 hS9; obtain ⟨q0, q1⟩ := hS9; go_simp; (first | done | with_reducible rfl)
  dsimp only [List.set_cons_zero, List.set_cons_succ]
  refine stepTQ HOPS HREG 1 3 ?_ (by decide) rfl (by kernel_rfl) (by kernel_rfl) rfl ?_ HS0.out ?_
  rotate_left
  · intro w9 hS9; obtain ⟨q0, q1⟩ := hS9; go_simp; (first | done | with_reducible rfl)
  dsimp only [List.set_cons_zero, List.set_cons_succ]
  refine stepTQ HOPS HREG 2 7 ?_ (by decide) rfl (by kernel_rfl) (by kernel_rfl) rfl ?_ HS0.out ?_
  rotate_left
  · intro w9 hS9; obtain ⟨q0, q1⟩ := hS9; go_simp; (first | done | with_reducible rfl)
  dsimp only [List.set_cons_zero, List.set_cons_succ]
  refine stepTQ HOPS HREG 3 15 ?_ (by decide) rfl (by kernel_rfl) (by kernel_rfl) rfl ?_ HS0.out ?_
  rotate_left
  · intro w9 hS9; obtain ⟨q0, q1⟩ := hS9; go_simp; (first | done | with_reducible rfl)
  dsimp only [List.set_cons_zero, List.set_cons_succ]
  refine stepTQ HOPS HREG 4 31 ?_ (by decide) rfl (by kernel_rfl) (by kernel_rfl) rfl ?_ HS0.out ?_
  rotate_left
  · intro w9 hS9; obtain ⟨q0, q1⟩ := hS9; go_simp; (first | done | with_reducible rfl)
  dsimp only [List.set_cons_zero, List.set_cons_succ]
  refine stepTQ HOPS HREG 5 63 ?_ (by decide) rfl (by kernel_rfl) (by kernel_rfl) rfl ?_ HS0.out ?_
  rotate_left
  · intro w9 hS9; obtain ⟨q0, q1⟩ := hS9; go_simp; (first | done | with_reducible rfl)
  dsimp only [List.set_cons_zero, List.set_cons_succ]
  refine stepTQ HOPS HREG 6 127 ?_ (by decide) rfl (by kernel_rfl) (by kernel_rfl) rfl ?_ HS0.out ?_
  rotate_left
  · intro w9 hS9; obtain ⟨q0, q1⟩ := hS9; go_simp; (first | done | with_reducible rfl)
  dsimp only [List.set_cons_zero, List.set_cons_succ]
  refine stepTQ HOPS HREG 7 255 ?_ (by decide) rfl (by kernel_rfl) (by kernel_rfl) rfl ?_ HS0.out ?_
  rotate_left
  · intro w9 hS9; obtain ⟨q0, q1⟩ := hS9; go_simp; (first | done | with_reducible rfl)
  dsimp only [List.set_cons_zero, List.set_cons_succ]
  refine stepTQ HOPS HREG 8 511 ?_ (by decide) rfl (by kernel_rfl) (by kernel_rfl) rfl ?_ HS0.out ?_
  rotate_left
  · intro w9 hS9; obtain ⟨q0, q1⟩ := hS9; go_simp; (first | done | with_reducible rfl)
  dsimp only [List.set_cons_zero, List.set_cons_succ]
  refine stepC HOPS 9 1023 (by decide) rfl (by kernel_rfl) (by kernel_rfl) ?_
  go_simp
  try simp only [Act.put, List.setIfInBounds_toArray, List.set_cons_zero, List.set_cons_succ]
  refine stepC HOPS 10 2047 (by decide) rfl (by kernel_rfl) (by kernel_rfl) ?_
  go_simp
  try simp only [Act.put, List.setIfInBounds_toArray, List.set_cons_zero, List.set_cons_succ]
  refine stepE HOPS (by kernel_rfl) (HQ.out _ _ ?_)
  clear HQ HREG HOPS
  clear Q ops
  have HQ4 := Lib.hid (show QS w 26 #[.int .i64 0, .int .i64 0, .int .i64 0, .string { data := #[] }, .slice none 0 0, .slice none 0 0, .slice none 0 0] #[.int .i64 (c0.toNat : Int), .int .i64 (c1.toNat : Int), .int .i64 (0), .string ({ data := #[] }), .slice none 0 0, .slice none 0 0, .slice none 0 0] (.slice (some ⟨b, o, none⟩) n c) 2 0 none 0 0 [] none 0 0 [] none 0 0 [] (w30.alloc (.cells #[.int .i64 (c0.toNat : Int), .int .i64 (c1.toNat : Int), .int .i64 (0), .string ({ data := #[] }), .slice none 0 0, .slice none 0 0, .slice none 0 0] 26)).drew from (QS_start HB30.out HS30.out HR30.out).below (bel_drew (Below.refl _ _)))
  generalize (w30.alloc (.cells #[.int .i64 (c0.toNat : Int), .int .i64 (c1.toNat : Int), .int .i64 (0), .string ({ data := #[] }), .slice none 0 0, .slice none 0 0, .slice none 0 0] 26)).drew = w4 at HQ4 ⊢
  have hs2 : w30.heap.size = w.heap.size + 2 := HS30.out
  rw [hs2]
  clear hs2
  clear d0 d1 HS0 HB30 HR30 HS30 hsz30 hb30 HBW HBG
  (try clear q0 q1 q2 q3 q4 q5 q6 f4); have q0 := HQ4.out.gs.c4 0; have q1 := HQ4.out.gs.c4 1; have q2 := HQ4.out.gs.c4 2; have q3 := HQ4.out.gs.c4 3; have q4 := HQ4.out.gs.c4 4; have q5 := HQ4.out.gs.c4 5; have q6 := HQ4.out.gs.c4 6; simp only [List.getElem?_toArray, List.getElem?_cons_zero, List.getElem?_cons_succ] at q0 q1 q2 q3 q4 q5 q6; have f4 := HQ4.out.gs.f4
  have HA4 := Lib.hid (show At n 2 0 from ⟨by omega, by omega, fun _ => by omega⟩)
  go_upto_if 32 with (go_at_call 52; (with_reducible refine (rnum_any (w.heap.size + 1) (some ⟨b, o, none⟩) n c 2 0 l w.heap.size w4 HQ4.out.rd (HR.out.below HQ4.out.bel (Nat.le_refl _)) hn HA4.out).mono ?_); rintro e w5 ⟨i, p1, e1, rfl, hI9, hS9, hA9, hr9, hg9⟩; dsimp only [mkI]; have HQ5 := Lib.hid (HQ4.out.grow hg9 hr9); have HQ6 := Lib.hid (show QS w 26 #[.int .i64 0, .int .i64 0, .int .i64 0, .string { data := #[] }, .slice none 0 0, .slice none 0 0, .slice none 0 0] #[.int .i64 (c0.toNat : Int), .int .i64 (c1.toNat : Int), .int .i64 (i), .string ({ data := #[] }), .slice none 0 0, .slice none 0 0, .slice none 0 0] (.slice (some ⟨b, o, none⟩) n c) p1 e1 none 0 0 [] none 0 0 [] none 0 0 [] (w5.setCell ⟨w.heap.size + 2, 2, none⟩ (.int .i64 i)) from (HQ4.out.grow hg9 hr9).set 2 (.int .i64 i)); have HS1 := Lib.hid hS9; have HA5 := Lib.hid hA9; clear hI9 hS9 hA9 hr9 hg9; (try clear q0 q1 q2 q3 q4 q5 q6 f4); have q0 := HQ5.out.gs.c4 0; have q1 := HQ5.out.gs.c4 1; have q2 := HQ5.out.gs.c4 2; have q3 := HQ5.out.gs.c4 3; have q4 := HQ5.out.gs.c4 4; have q5 := HQ5.out.gs.c4 5; have q6 := HQ5.out.gs.c4 6; simp only [List.getElem?_toArray, List.getElem?_cons_zero, List.getElem?_cons_succ] at q0 q1 q2 q3 q4 q5 q6; have f4 := HQ5.out.gs.f4)
  generalize (w5.setCell ⟨w.heap.size + 2, 2, none⟩ (.int .i64 i)) = w6 at HQ6 ⊢
  (try clear q0 q1 q2 q3 q4 q5 q6 f4); have q0 := HQ6.out.gs.c4 0; have q1 := HQ6.out.gs.c4 1; have q2 := HQ6.out.gs.c4 2; have q3 := HQ6.out.gs.c4 3; have q4 := HQ6.out.gs.c4 4; have q5 := HQ6.out.gs.c4 5; have q6 := HQ6.out.gs.c4 6; simp only [List.getElem?_toArray, List.getElem?_cons_zero, List.getElem?_cons_succ] at q0 q1 q2 q3 q4 q5 q6; have f4 := HQ6.out.gs.f4
  go_cut [] (fun wx => ∃ s p2 e2, QS w 26 #[.int .i64 0, .int .i64 0, .int .i64 0, .string { data := #[] }, .slice none 0 0, .slice none 0 0, .slice none 0 0] #[.int .i64 (c0.toNat : Int), .int .i64 (c1.toNat : Int), .int .i64 (i), .string (s), .slice none 0 0, .slice none 0 0, .slice none 0 0] (.slice (some ⟨b, o, none⟩) n c) p2 e2 none 0 0 [] none 0 0 [] none 0 0 [] wx ∧ Steps (whoC (c1.toNat : Int)) l p1 e1 s p2 e2 ∧ At n p2 e2 ∧ s.size ≤ 64)
  case first =>
    by_cases hv2 : (c1.toNat : Int) = 2
    · have hvb : ((c1.toNat : Int) == 2) = true := by simp [hv2]
      have HWC := Lib.hid (show whoC (c1.toNat : Int) = txt64 by unfold whoC; rw [if_pos hv2])
      clear hv2
      go_wp2_with (go_at_call 53; (with_reducible refine (rtext_any (w.heap.size + 1) (some ⟨b, o, none⟩) n c p1 e1 l w.heap.size w6 HQ6.out.rd (HR.out.below HQ6.out.bel (Nat.le_refl _)) hc hn HA5.out).mono ?_); rintro e w7 ⟨s, p2, e2, rfl, hI9, hS9, hA9, hr9, hg9⟩; dsimp only [mkS]; have HQ7 := Lib.hid (HQ6.out.grow hg9 hr9); have HS7 := Lib.hid hS9; have HA7 := Lib.hid hA9; have HI7 := Lib.hid hI9; clear hI9 hS9 hA9 hr9 hg9; (try clear q0 q1 q2 q3 q4 q5 q6 f4); have q0 := HQ7.out.gs.c4 0; have q1 := HQ7.out.gs.c4 1; have q2 := HQ7.out.gs.c4 2; have q3 := HQ7.out.gs.c4 3; have q4 := HQ7.out.gs.c4 4; have q5 := HQ7.out.gs.c4 5; have q6 := HQ7.out.gs.c4 6; simp only [List.getElem?_toArray, List.getElem?_cons_zero, List.getElem?_cons_succ] at q0 q1 q2 q3 q4 q5 q6; have f4 := HQ7.out.gs.f4)
      go_meet
      exact ⟨s, p2, e2, HQ7.out.set 3 _, by rw [HWC.out]; exact HS7.out, HA7.out, HI7.out⟩
    · have hvb : ((c1.toNat : Int) == 2) = false := by simp [hv2]
      have HWC := Lib.hid (show whoC (c1.toNat : Int) = cnone ({ data := #[] } : ByteArray) by unfold whoC; rw [if_neg hv2]; rfl)
      clear hv2
      go_wp2
      go_meet
      exact ⟨{ data := #[] }, p1, e1, HQ6.out, by rw [HWC.out]; exact Steps.none, HA5.out, by decide⟩
  case rest =>
    obtain ⟨s, p2, e2, hQ, hS, hA, hs64⟩ := hcut
    rename World => w8
    have HQ8 := Lib.hid hQ
    have HS2 := Lib.hid hS
    have HA8 := Lib.hid hA
    clear hQ hS hA HQ6
    (try clear q0 q1 q2 q3 q4 q5 q6 f4); have q0 := HQ8.out.gs.c4 0; have q1 := HQ8.out.gs.c4 1; have q2 := HQ8.out.gs.c4 2; have q3 := HQ8.out.gs.c4 3; have q4 := HQ8.out.gs.c4 4; have q5 := HQ8.out.gs.c4 5; have q6 := HQ8.out.gs.c4 6; simp only [List.getElem?_toArray, List.getElem?_cons_zero, List.getElem?_cons_succ] at q0 q1 q2 q3 q4 q5 q6; have f4 := HQ8.out.gs.f4
    go_upto_if 47 with (first
      | (go_at_call 56; (with_reducible refine (reftexts_any (c0.toNat : Int) _ (by omega)).mono ?_); rintro e w12 ⟨rfl, hb9⟩; have HQ12 := Lib.hid (HQ11.out.below hb9); clear hb9; (try clear q0 q1 q2 q3 q4 q5 q6 f4); have q0 := HQ12.out.gs.c4 0; have q1 := HQ12.out.gs.c4 1; have q2 := HQ12.out.gs.c4 2; have q3 := HQ12.out.gs.c4 3; have q4 := HQ12.out.gs.c4 4; have q5 := HQ12.out.gs.c4 5; have q6 := HQ12.out.gs.c4 6; simp only [List.getElem?_toArray, List.getElem?_cons_zero, List.getElem?_cons_succ] at q0 q1 q2 q3 q4 q5 q6; have f4 := HQ12.out.gs.f4)
      | (go_at_call 54; (with_reducible refine (rnums_any (nI (c0.toNat : Int)) (w.heap.size + 1) (some ⟨b, o, none⟩) n c p2 e2 (fun _ => by omega) l w.heap.size w9 HQ9.out.rd (HR.out.below HQ9.out.bel (Nat.le_refl _)) hn HA8.out (by omega)).mono ?_); rintro e w10 ⟨A1, n1, k1, L1, p3, e3, rfl, hm9, hO9, hI9, hS9, hA9, hr9, hg9⟩; have hn5 : n1 ≤ 5 := (by omega); have HQ11 := Lib.hid (show QS w 26 #[.int .i64 0, .int .i64 0, .int .i64 0, .string { data := #[] }, .slice none 0 0, .slice none 0 0, .slice none 0 0] #[.int .i64 (c0.toNat : Int), .int .i64 (c1.toNat : Int), .int .i64 (i), .string (s), .slice A1 n1 k1, .slice none 0 0, .slice none 0 0] (.slice (some ⟨b, o, none⟩) n c) p3 e3 A1 n1 k1 L1 none 0 0 [] none 0 0 [] (w10.setCell ⟨w.heap.size + 2, 4, none⟩ (.slice A1 n1 k1)) from (((HQ9.out.grow hg9 hr9).row1 hO9 HQ9.out.size).set 4 (.slice A1 n1 k1))); have HS3 := Lib.hid hS9; have HA11 := Lib.hid hA9; have HI1 := Lib.hid hI9; have HQ10 := Lib.hid (HQ9.out.grow hg9 hr9); clear hI9 hS9 hA9 hr9 hg9 hO9 hm9; (try clear q0 q1 q2 q3 q4 q5 q6 f4); have q0 := HQ10.out.gs.c4 0; have q1 := HQ10.out.gs.c4 1; have q2 := HQ10.out.gs.c4 2; have q3 := HQ10.out.gs.c4 3; have q4 := HQ10.out.gs.c4 4; have q5 := HQ10.out.gs.c4 5; have q6 := HQ10.out.gs.c4 6; simp only [List.getElem?_toArray, List.getElem?_cons_zero, List.getElem?_cons_succ] at q0 q1 q2 q3 q4 q5 q6; have f4 := HQ10.out.gs.f4)
      | (go_at_call 55; (with_reducible refine (refints_any (c0.toNat : Int) w8 (by omega)).mono ?_); rintro e w9 ⟨rfl, hb9⟩; have HQ9 := Lib.hid (HQ8.out.below hb9); clear hb9; (try clear q0 q1 q2 q3 q4 q5 q6 f4); have q0 := HQ9.out.gs.c4 0; have q1 := HQ9.out.gs.c4 1; have q2 := HQ9.out.gs.c4 2; have q3 := HQ9.out.gs.c4 3; have q4 := HQ9.out.gs.c4 4; have q5 := HQ9.out.gs.c4 5; have q6 := HQ9.out.gs.c4 6; simp only [List.getElem?_toArray, List.getElem?_cons_zero, List.getElem?_cons_succ] at q0 q1 q2 q3 q4 q5 q6; have f4 := HQ9.out.gs.f4))
    go_cut [7] (fun s7 wx => ∃ m p9 e9, s7 = .int .i64 m ∧ QS w 26 #[.int .i64 0, .int .i64 0, .int .i64 0, .string { data := #[] }, .slice none 0 0, .slice none 0 0, .slice none 0 0] #[.int .i64 (c0.toNat : Int), .int .i64 (c1.toNat : Int), .int .i64 (i), .string (s), .slice A1 n1 k1, .slice none 0 0, .slice none 0 0] (.slice (some ⟨b, o, none⟩) n c) p9 e9 A1 n1 k1 L1 none 0 0 [] none 0 0 [] wx ∧ At n p9 e9 ∧ (e9 = 0 → m ≤ 1099511627776) ∧ (∀ L q y, Steps (cmany txt64 m.toNat) l p9 e9 L q y → Steps (textsC (c0.toNat : Int)) l p3 e3 L q y))
    case first =>
      by_cases hk7 : (c0.toNat : Int) = 7
      · have hkb : ((c0.toNat : Int) == 7) = true := by simp [hk7]
        have HK7 := Lib.hid hk7
        clear hk7
        go_upto_region 12 with (go_at_call 52; (with_reducible refine (rnum_any (w.heap.size + 1) (some ⟨b, o, none⟩) n c p3 e3 l w.heap.size w12 HQ12.out.rd (HR.out.below HQ12.out.bel (Nat.le_refl _)) hn HA11.out).mono ?_); rintro e w13 ⟨m, p9, e9, rfl, hI9, hS9, hA9, hr9, hg9⟩; dsimp only [mkI]; have HQ13 := Lib.hid (HQ12.out.grow hg9 hr9); have HS13 := Lib.hid hS9; have HA13 := Lib.hid hA9; have k2 := HQ13.out.rd.c2; have kf := HQ13.out.rd.f 2; clear hI9 hS9 hA9 hr9 hg9; (try clear q0 q1 q2 q3 q4 q5 q6 f4); have q0 := HQ13.out.gs.c4 0; have q1 := HQ13.out.gs.c4 1; have q2 := HQ13.out.gs.c4 2; have q3 := HQ13.out.gs.c4 3; have q4 := HQ13.out.gs.c4 4; have q5 := HQ13.out.gs.c4 5; have q6 := HQ13.out.gs.c4 6; simp only [List.getElem?_toArray, List.getElem?_cons_zero, List.getElem?_cons_succ] at q0 q1 q2 q3 q4 q5 q6; have f4 := HQ13.out.gs.f4)
        rcases y0 : (e9 == 0) with _ | _
        · have HE9 := Lib.hid (show e9 ≠ 0 by intro h; rw [h] at y0; cases y0)
          go_wp2
          go_meet
          exact ⟨m, p9, e9, rfl, HQ13.out, HA13.out, fun h => absurd h HE9.out, fun L q y h => by rw [HK7.out]; exact texts_read (HS13.out.that (fun _ => rfl) (fun h => absurd h HE9.out)) h⟩
        · obtain rfl : e9 = 0 := by simpa using y0
          rcases y1 : decide (m < 3) with _ | _
          · have y1' := of_decide_eq_false y1
            rcases y2 : decide (15 < m) with _ | _
            · have y2' := of_decide_eq_false y2
              have HCK := Lib.hid (show ck15 m = 0 by unfold ck15; rw [if_neg (by omega)])
              go_wp2
              go_meet
              exact ⟨m, p9, 0, rfl, HQ13.out, HA13.out, fun _ => by omega, fun L q y h => by rw [HK7.out]; exact texts_read (HS13.out.that (fun h => absurd rfl h) (fun _ => HCK.out)) h⟩
            · have y2' := of_decide_eq_true y2
              have HCK := Lib.hid (show ck15 m = 11 by unfold ck15; rw [if_pos (.inr y2')])
              go_wp2
              go_meet
              exact ⟨m, p9, 11, rfl, HQ13.out.err 11, ⟨HA13.out.1, HA13.out.2.1, fun h => absurd h (by decide)⟩, fun h => absurd h (by decide), fun L q y h => by rw [HK7.out]; exact texts_read (HS13.out.that (fun h => absurd rfl h) (fun _ => HCK.out)) h⟩
          · have y1' := of_decide_eq_true y1
            have HCK := Lib.hid (show ck15 m = 11 by unfold ck15; rw [if_pos (.inl y1')])
            go_wp2
            go_meet
            exact ⟨m, p9, 11, rfl, HQ13.out.err 11, ⟨HA13.out.1, HA13.out.2.1, fun h => absurd h (by decide)⟩, fun h => absurd h (by decide), fun L q y h => by rw [HK7.out]; exact texts_read (HS13.out.that (fun h => absurd rfl h) (fun _ => HCK.out)) h⟩
      · have hkb : ((c0.toNat : Int) == 7) = false := by simp [hk7]
        have HK7 := Lib.hid hk7
        clear hk7
        go_wp2
        go_meet
        exact ⟨nT (c0.toNat : Int), p3, e3, rfl, HQ12.out, HA11.out, fun _ => by omega, fun L q y h => texts_know HK7.out h⟩
    case rest =>
      obtain ⟨m, p9, e9, rfl, hQ, hA, hm, hS⟩ := hcut
      rename World => w14
      have HQ14 := Lib.hid hQ
      have HA14 := Lib.hid hA
      have HTX := Lib.hid hS
      have HM := Lib.hid hm
      clear hQ hS hA hm HQ12 HQ11 HQ10 HQ9 HQ8
      (try clear q0 q1 q2 q3 q4 q5 q6 f4); have q0 := HQ14.out.gs.c4 0; have q1 := HQ14.out.gs.c4 1; have q2 := HQ14.out.gs.c4 2; have q3 := HQ14.out.gs.c4 3; have q4 := HQ14.out.gs.c4 4; have q5 := HQ14.out.gs.c4 5; have q6 := HQ14.out.gs.c4 6; simp only [List.getElem?_toArray, List.getElem?_cons_zero, List.getElem?_cons_succ] at q0 q1 q2 q3 q4 q5 q6; have f4 := HQ14.out.gs.f4
      go_upto_if 72 with (go_at_call 57; (refine (rtexts_any m (w.heap.size + 1) (some ⟨b, o, none⟩) n c p9 e9 HM.out l w.heap.size w14 HQ14.out.rd (HR.out.below HQ14.out.bel (Nat.le_refl _)) hc hn HA14.out (by omega)).mono ?_); rintro e w15 ⟨A2, n2, k2, L2, p4, e4, rfl, hm9, hO9, hI9, hS9, hA9, hr9, hg9⟩; have HN2 := Lib.hid hm9; have HQ16 := Lib.hid (show QS w 26 #[.int .i64 0, .int .i64 0, .int .i64 0, .string { data := #[] }, .slice none 0 0, .slice none 0 0, .slice none 0 0] #[.int .i64 (c0.toNat : Int), .int .i64 (c1.toNat : Int), .int .i64 (i), .string (s), .slice A1 n1 k1, .slice A2 n2 k2, .slice none 0 0] (.slice (some ⟨b, o, none⟩) n c) p4 e4 A1 n1 k1 L1 A2 n2 k2 L2 none 0 0 [] (w15.setCell ⟨w.heap.size + 2, 5, none⟩ (.slice A2 n2 k2)) from (((HQ14.out.grow hg9 hr9).row2 hO9 HQ14.out.size).set 5 (.slice A2 n2 k2))); have HS4 := Lib.hid (HTX.out _ _ _ hS9); have HS9 := Lib.hid hS9; have HA16 := Lib.hid hA9; have HI2 := Lib.hid hI9; have HQ15 := Lib.hid (HQ14.out.grow hg9 hr9); clear hI9 hS9 hA9 hr9 hg9 hO9 hm9; (try clear q0 q1 q2 q3 q4 q5 q6 f4); have q0 := HQ15.out.gs.c4 0; have q1 := HQ15.out.gs.c4 1; have q2 := HQ15.out.gs.c4 2; have q3 := HQ15.out.gs.c4 3; have q4 := HQ15.out.gs.c4 4; have q5 := HQ15.out.gs.c4 5; have q6 := HQ15.out.gs.c4 6; simp only [List.getElem?_toArray, List.getElem?_cons_zero, List.getElem?_cons_succ] at q0 q1 q2 q3 q4 q5 q6; have f4 := HQ15.out.gs.f4)
      generalize (w15.setCell ⟨w.heap.size + 2, 5, none⟩ (.slice A2 n2 k2)) = w16 at HQ16 ⊢
      clear HQ14 HQ15 HTX
      (try clear q0 q1 q2 q3 q4 q5 q6 f4); have q0 := HQ16.out.gs.c4 0; have q1 := HQ16.out.gs.c4 1; have q2 := HQ16.out.gs.c4 2; have q3 := HQ16.out.gs.c4 3; have q4 := HQ16.out.gs.c4 4; have q5 := HQ16.out.gs.c4 5; have q6 := HQ16.out.gs.c4 6; simp only [List.getElem?_toArray, List.getElem?_cons_zero, List.getElem?_cons_succ] at q0 q1 q2 q3 q4 q5 q6; have f4 := HQ16.out.gs.f4
      go_cut [] (fun wx => ∃ A3 n3 k3 bl p5 e5, QS w 26 #[.int .i64 0, .int .i64 0, .int .i64 0, .string { data := #[] }, .slice none 0 0, .slice none 0 0, .slice none 0 0] #[.int .i64 (c0.toNat : Int), .int .i64 (c1.toNat : Int), .int .i64 (i), .string (s), .slice A1 n1 k1, .slice A2 n2 k2, .slice A3 n3 k3] (.slice (some ⟨b, o, none⟩) n c) p5 e5 A1 n1 k1 L1 A2 n2 k2 L2 A3 n3 k3 bl wx ∧ Steps (blobC (c0.toNat : Int)) l p4 e4 bl p5 e5 ∧ At n p5 e5 ∧ n3 ≤ 2048)
      case first =>
        by_cases hk2 : (c0.toNat : Int) = 2
        · have hkb : ((c0.toNat : Int) == 2) = true := by simp [hk2]
          have HBC := Lib.hid (show blobC (c0.toNat : Int) = cblob (ckM ((2048 : Nat) : Int)) (ckM_pos ((2048 : Nat) : Int)) by unfold blobC; rw [if_pos hk2]; rfl)
          clear hk2
          go_wp2_with (go_at_call 58; (refine (rblob_any 2048 (by omega) (w.heap.size + 1) (some ⟨b, o, none⟩) n c p4 e4 l w.heap.size w16 HQ16.out.rd (HR.out.below HQ16.out.bel (Nat.le_refl _)) hc hn HA16.out (by omega)).mono ?_); rintro e w17 ⟨A3, n3, k3, bl, p5, e5, rfl, hm9, hO9, hS9, hA9, hr9, hg9⟩; have HQ17 := Lib.hid ((HQ16.out.grow hg9 hr9).row3 hO9 HQ16.out.size); have HS5 := Lib.hid hS9; have HA17 := Lib.hid hA9; have HN3 := Lib.hid hm9; clear hm9 hS9 hA9 hr9 hg9 hO9; (try clear q0 q1 q2 q3 q4 q5 q6 f4); have q0 := HQ17.out.gs.c4 0; have q1 := HQ17.out.gs.c4 1; have q2 := HQ17.out.gs.c4 2; have q3 := HQ17.out.gs.c4 3; have q4 := HQ17.out.gs.c4 4; have q5 := HQ17.out.gs.c4 5; have q6 := HQ17.out.gs.c4 6; simp only [List.getElem?_toArray, List.getElem?_cons_zero, List.getElem?_cons_succ] at q0 q1 q2 q3 q4 q5 q6; have f4 := HQ17.out.gs.f4)
          go_meet
          exact ⟨A3, n3, k3, bl, p5, e5, HQ17.out.set 6 _, by rw [HBC.out]; exact HS5.out, HA17.out, HN3.out⟩
        · have hkb : ((c0.toNat : Int) == 2) = false := by simp [hk2]
          have HBC := Lib.hid (show blobC (c0.toNat : Int) = cnone [] by unfold blobC; rw [if_neg hk2])
          clear hk2
          go_wp2
          go_meet
          exact ⟨none, 0, 0, [], p4, e4, HQ16.out, by rw [HBC.out]; exact Steps.none, HA16.out, by omega⟩
      case rest =>
        obtain ⟨A3, n3, k3, bl, p5, e5, hQ, hS, hA, hn3⟩ := hcut
        rename World => w17
        have HQ17 := Lib.hid hQ
        have HS5 := Lib.hid hS
        have HA17 := Lib.hid hA
        clear hQ hS hA HQ16
        (try clear q0 q1 q2 q3 q4 q5 q6 f4); have q0 := HQ17.out.gs.c4 0; have q1 := HQ17.out.gs.c4 1; have q2 := HQ17.out.gs.c4 2; have q3 := HQ17.out.gs.c4 3; have q4 := HQ17.out.gs.c4 4; have q5 := HQ17.out.gs.c4 5; have q6 := HQ17.out.gs.c4 6; simp only [List.getElem?_toArray, List.getElem?_cons_zero, List.getElem?_cons_succ] at q0 q1 q2 q3 q4 q5 q6; have f4 := HQ17.out.gs.f4
        go_upto_if 79 with (go_at_call 59; (with_reducible refine (rend_any (w.heap.size + 1) (some ⟨b, o, none⟩) n c p5 e5 w17 HQ17.out.rd HA17.out).mono ?_); rintro e w18 ⟨rfl, hr9, hg9⟩; have HQ18 := Lib.hid (HQ17.out.grow hg9 hr9); clear hr9 hg9)
        obtain ⟨z, hz⟩ : ∃ z, enE n p5 e5 = z := ⟨_, rfl⟩
        rw [hz]
        have HEND := Lib.hid (gtQ_end (z := z) HLEN.out (steps_req HST0.out HS1.out HS2.out HS3.out HS4.out HS5.out) HA17.out hz)
        have HE59 := Lib.hid (show z = 0 → e9 = 0 from fun h => by
          have h1 : e5 = 0 := by
            by_cases h2 : e5 = 0
            · exact h2
            · unfold enE at hz; rw [if_pos h2] at hz; omega
          have h3 := HS5.out; rw [h1] at h3
          have h4 := h3.was; have h5 := HS9.out; rw [h4] at h5
          exact h5.was)
        clear hz HQ17
        (try clear q0 q1 q2 q3 q4 q5 q6 f4); have q0 := HQ18.out.gs.c4 0; have q1 := HQ18.out.gs.c4 1; have q2 := HQ18.out.gs.c4 2; have q3 := HQ18.out.gs.c4 3; have q4 := HQ18.out.gs.c4 4; have q5 := HQ18.out.gs.c4 5; have q6 := HQ18.out.gs.c4 6; simp only [List.getElem?_toArray, List.getElem?_cons_zero, List.getElem?_cons_succ] at q0 q1 q2 q3 q4 q5 q6; have f4 := HQ18.out.gs.f4
        have z0 := HQ18.out.gs.c2 0; have z1 := HQ18.out.gs.c2 1; have z2 := HQ18.out.gs.c2 2; have z3 := HQ18.out.gs.c2 3; have z4 := HQ18.out.gs.c2 4; have z5 := HQ18.out.gs.c2 5; have z6 := HQ18.out.gs.c2 6; simp only [List.getElem?_toArray, List.getElem?_cons_zero, List.getElem?_cons_succ] at z0 z1 z2 z3 z4 z5 z6; have zfz := HQ18.out.gs.f2
        by_cases hz0 : z = 0
        case neg =>
          have hzN : (z != 0) = true := by simp [hz0]
          have HZ := Lib.hid (HEND.out.1 hz0)
          clear hz0
          go_wp2
          refine bodyPost_ret (v := .tuple #[reqV nilQ none 0 0 none 0 0 none 0 0, .int .i64 z]) (by simp [results, Tryd.results17, go_sem, reqV, nilQ, empty_eq, z0, z1, z2, z3, z4, z5, z6]) rfl ?_
          rw [HZ.out]
          exact ⟨none, 0, 0, none, 0, 0, none, 0, 0, rfl, Three.nil _, (show ByteArray.empty.size ≤ 64 by decide), put7_bel HQ18.out.bel (Nat.le_refl _) _ _ _ _ _ _ _⟩
        subst hz0
        have he9 := HE59.out rfl
        have hN2 : n2 ≤ 1099511627776 := by have h1 := HM.out he9; have h2 := HN2.out; omega
        obtain ⟨y2, hz2⟩ : ∃ y2, ckQ ⟨(c0.toNat : Int), (c1.toNat : Int), i, s, L1, L2, bl⟩ = y2 := ⟨_, rfl⟩
        have HCK := Lib.hid hz2
        have HL1 := Lib.hid (rdL_nums (HQ18.out.o1.rd nS) HI1.out)
        have HL2 := Lib.hid (rdL_strs (HQ18.out.o2.rd sS) (fun x hx => Nat.le_trans (HI2.out x hx) (by decide)))
        have HL3 := Lib.hid (HQ18.out.o3.len)
        by_cases hck : y2 = 0
        case neg =>
          have hz2N : (y2 != 0) = true := by simp [hck]
          have HZ := Lib.hid (HEND.out.2.1 rfl (by rw [hz2]; exact hck))
          clear hz2 hck he9
          go_wp2_with (go_at_call 19; (refine (refCheckReq_any (c0.toNat : Int) (c1.toNat : Int) i s A1 n1 k1 L1 A2 n2 k2 L2 A3 n3 k3 bl w18 HL1.out (by omega) HL2.out (by omega) (by omega) (by omega) HL3.out).mono ?_); rw [HCK.out]; rintro e w19 ⟨rfl, hb9⟩; have HQ19 := Lib.hid (HQ18.out.below hb9); clear hb9; clear z0 z1 z2 z3 z4 z5 z6 zfz; (try clear q0 q1 q2 q3 q4 q5 q6 f4); have q0 := HQ19.out.gs.c4 0; have q1 := HQ19.out.gs.c4 1; have q2 := HQ19.out.gs.c4 2; have q3 := HQ19.out.gs.c4 3; have q4 := HQ19.out.gs.c4 4; have q5 := HQ19.out.gs.c4 5; have q6 := HQ19.out.gs.c4 6; simp only [List.getElem?_toArray, List.getElem?_cons_zero, List.getElem?_cons_succ] at q0 q1 q2 q3 q4 q5 q6; have f4 := HQ19.out.gs.f4; have z0 := HQ19.out.gs.c2 0; have z1 := HQ19.out.gs.c2 1; have z2 := HQ19.out.gs.c2 2; have z3 := HQ19.out.gs.c2 3; have z4 := HQ19.out.gs.c2 4; have z5 := HQ19.out.gs.c2 5; have z6 := HQ19.out.gs.c2 6; simp only [List.getElem?_toArray, List.getElem?_cons_zero, List.getElem?_cons_succ] at z0 z1 z2 z3 z4 z5 z6; have zfz := HQ19.out.gs.f2)
          refine bodyPost_ret (v := .tuple #[reqV nilQ none 0 0 none 0 0 none 0 0, .int .i64 1]) (by simp [results, Tryd.results17, go_sem, reqV, nilQ, empty_eq, z0, z1, z2, z3, z4, z5, z6]) rfl ?_
          rw [HZ.out]
          exact ⟨none, 0, 0, none, 0, 0, none, 0, 0, rfl, Three.nil _, (show ByteArray.empty.size ≤ 64 by decide), put7_bel HQ19.out.bel (Nat.le_refl _) _ _ _ _ _ _ _⟩
        have HZ := Lib.hid (HEND.out.2.2 rfl (by rw [hz2]; exact hck))
        subst hck
        clear hz2 he9
        go_wp2_with (go_at_call 19; (refine (refCheckReq_any (c0.toNat : Int) (c1.toNat : Int) i s A1 n1 k1 L1 A2 n2 k2 L2 A3 n3 k3 bl w18 HL1.out (by omega) HL2.out (by omega) (by omega) (by omega) HL3.out).mono ?_); rw [HCK.out]; rintro e w19 ⟨rfl, hb9⟩; have HQ19 := Lib.hid (HQ18.out.below hb9); clear hb9; clear z0 z1 z2 z3 z4 z5 z6 zfz; (try clear q0 q1 q2 q3 q4 q5 q6 f4); have q0 := HQ19.out.gs.c4 0; have q1 := HQ19.out.gs.c4 1; have q2 := HQ19.out.gs.c4 2; have q3 := HQ19.out.gs.c4 3; have q4 := HQ19.out.gs.c4 4; have q5 := HQ19.out.gs.c4 5; have q6 := HQ19.out.gs.c4 6; simp only [List.getElem?_toArray, List.getElem?_cons_zero, List.getElem?_cons_succ] at q0 q1 q2 q3 q4 q5 q6; have f4 := HQ19.out.gs.f4; have z0 := HQ19.out.gs.c2 0; have z1 := HQ19.out.gs.c2 1; have z2 := HQ19.out.gs.c2 2; have z3 := HQ19.out.gs.c2 3; have z4 := HQ19.out.gs.c2 4; have z5 := HQ19.out.gs.c2 5; have z6 := HQ19.out.gs.c2 6; simp only [List.getElem?_toArray, List.getElem?_cons_zero, List.getElem?_cons_succ] at z0 z1 z2 z3 z4 z5 z6; have zfz := HQ19.out.gs.f2)
        refine bodyPost_ret (v := .tuple #[reqV ⟨(c0.toNat : Int), (c1.toNat : Int), i, s, L1, L2, bl⟩ A1 n1 k1 A2 n2 k2 A3 n3 k3, .int .i64 0]) (by simp [results, Tryd.results17, go_sem, reqV, z0, z1, z2, z3, z4, z5, z6]) rfl ?_
        rw [HZ.out]
        exact ⟨A1, n1, k1, A2, n2, k2, A3, n3, k3, rfl, ⟨rdL_nums ((own_row HQ19.out.o1 (put7_gb w19 w.heap.size _ _ _ _ _ _ _) (by omega)).rd nS) HI1.out, rdL_strs ((own_row HQ19.out.o2 (put7_gb w19 w.heap.size _ _ _ _ _ _ _) (by omega)).rd sS) (fun x hx => Nat.le_trans (HI2.out x hx) (by decide)), (ownB_row HQ19.out.o3 (put7_gb w19 w.heap.size _ _ _ _ _ _ _) (by omega)).rd, by omega, hN2, by omega⟩, hs64, put7_bel HQ19.out.bel (Nat.le_refl _) _ _ _ _ _ _ _⟩
theorem refGetReq_any (A : Option Addr) (n c : Nat) (l : List UInt8) (w : World) (hr : Rd w w.heap.size A n l) (hc : n ≤ c) (hn : n ≤ 1099511627776) :
    Calls Tryd.prog 17 #[.slice A n c] w (GQR w (gtQ l)) := by
  by_cases h2 : n < 2
  · exact refGetReq_short A n c l w hr.len h2
  · by_cases hE : hdE l = 0
    · exact refGetReq_body A n c l w hr hc hn (by omega) hE
    · exact refGetReq_head A n c l w hr (by omega) rfl (by rw [← hd_long (by have := hr.len; omega)]; exact hE)
end Go.Proofs.YthhdhdjdhekgpaaDoor.Pro
