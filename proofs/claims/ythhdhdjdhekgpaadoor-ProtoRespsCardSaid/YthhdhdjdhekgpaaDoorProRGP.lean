/- Joined: ProRGP. -/
import Derived.Test.YthhdhdjdhekgpaaDoorProQS
import Derived.Test.YthhdhdjdhekgpaaDoorProRCP
import Derived.Test.YthhdhdjdhekgpaaDoorProG2
import Derived.Deep.DeepCutAuto
/- The document's GetResp. -/
namespace Go.Proofs.YthhdhdjdhekgpaaDoor.Pro
open Go.RowKit Go.Proofs.YthhdhdjdhekgpaaDoor.Oct Go.Proofs.YthhdhdjdhekgpaaDoor.Rec Go.Proofs.YthhdhdjdhekgpaaDoor.Cod Go.Proofs.YthhdhdjdhekgpaaDoor.Lay Go.Proofs.YthhdhdjdhekgpaaDoor.RowF Go.Proofs.YthhdhdjdhekgpaaDoor.InR

set_option maxRecDepth 100000 in
set_option maxHeartbeats 2000000 in
theorem refGetResp_short (A : Option Addr) (n c : Nat) (l : List UInt8) (w : World) (hl : l.length = n) (h2 : n < 2) :
    Calls Tryd.prog 25 #[.slice A n c] w (GPR w (gtP l)) := by
  have HZ := Lib.hid (show gtP l = (nilP, 10) by have h : hdE l = 10 := hd_short (by omega); rw [gtP_head (by rw [h]; decide), h])
  have HW := Lib.hid (World.alloc_heap_new w (.cells #[.int .i64 0, .int .i64 0, .int .i64 0, .int .i64 0, .int .i64 0, .slice none 0 0, .slice none 0 0, .slice none 0 0] 38))
  have HB := Lib.hid (bel_alloc (Below.refl w.heap.size w) (.cells #[.int .i64 0, .int .i64 0, .int .i64 0, .int .i64 0, .int .i64 0, .slice none 0 0, .slice none 0 0, .slice none 0 0] 38))
  have z0 := heap_cell HW.out 0
  have z1 := heap_cell HW.out 1
  have z2 := heap_cell HW.out 2
  have z3 := heap_cell HW.out 3
  have z4 := heap_cell HW.out 4
  have z5 := heap_cell HW.out 5
  have z6 := heap_cell HW.out 6
  have z7 := heap_cell HW.out 7
  simp only [List.getElem?_toArray, List.getElem?_cons_zero, List.getElem?_cons_succ] at z0 z1 z2 z3 z4 z5 z6 z7
  have zfz := heap_frozen HW.out
  clear hl
  go_enter Tryd.func25, Tryd.ntmps25
  go_wp2_with (go_at_call 51; (with_reducible refine (rbegin_short A n c _ h2).mono ?_); rintro e w9 ⟨rfl, rfl⟩)
  refine bodyPost_ret (v := .tuple #[respV nilP none 0 0 none 0 0 none 0 0, .int .i64 10]) (by simp [results, Tryd.results25, go_sem, respV, nilP, z0, z1, z2, z3, z4, z5, z6, z7]) rfl ?_
  rw [HZ.out]
  exact ⟨none, 0, 0, none, 0, 0, none, 0, 0, rfl, Three.nil _, HB.out⟩
set_option maxRecDepth 100000 in
set_option maxHeartbeats 2000000 in
theorem refGetResp_head (A : Option Addr) (n c : Nat) (l : List UInt8) (w : World) (hr : Rd w w.heap.size A n l) (h2 : 2 ≤ n) {z : Int} (hz : known (kv l 0).1 (kv l 0).2 = z) (hz0 : z ≠ 0) :
    Calls Tryd.prog 25 #[.slice A n c] w (GPR w (gtP l)) := by
  have HZ := Lib.hid (show gtP l = (nilP, z) by have h : hdE l = z := (hd_long (by have := hr.len; omega)).trans hz; rw [gtP_head (by rw [h]; exact hz0), h])
  have hzN : (z != 0) = true := by simp [hz0]
  have HW := Lib.hid (World.alloc_heap_new w (.cells #[.int .i64 0, .int .i64 0, .int .i64 0, .int .i64 0, .int .i64 0, .slice none 0 0, .slice none 0 0, .slice none 0 0] 38))
  have HB := Lib.hid (bel_alloc (Below.refl w.heap.size w) (.cells #[.int .i64 0, .int .i64 0, .int .i64 0, .int .i64 0, .int .i64 0, .slice none 0 0, .slice none 0 0, .slice none 0 0] 38))
  have hsz : (w.alloc (.cells #[.int .i64 0, .int .i64 0, .int .i64 0, .int .i64 0, .int .i64 0, .slice none 0 0, .slice none 0 0, .slice none 0 0] 38)).heap.size = w.heap.size + 1 := by simp
  have hbg := rbegin_any A n c l (w.alloc (.cells #[.int .i64 0, .int .i64 0, .int .i64 0, .int .i64 0, .int .i64 0, .slice none 0 0, .slice none 0 0, .slice none 0 0] 38)) ((hr.below HB.out (Nat.le_refl _)).more HB.out.size) (by omega) hz
  rw [hsz] at hbg
  have HBG := Lib.hid hbg
  have HR := Lib.hid hr
  clear hbg hr
  clear hz0 hz
  go_enter Tryd.func25, Tryd.ntmps25
  go_upto_if 14 with (go_at_call 51; (with_reducible refine HBG.out.mono ?_); rintro e w30 ⟨rfl, hr30, hb30, hs30⟩; have HR30 := Lib.hid hr30; have HB30 := Lib.hid hb30; have HS30 := Lib.hid hs30; have hsz30 : w.heap.size < w30.heap.size := (by omega); clear hr30 hb30 hs30)
  have HW30 := Lib.hid (show w30.heap[w.heap.size]? = some (.cells #[.int .i64 0, .int .i64 0, .int .i64 0, .int .i64 0, .int .i64 0, .slice none 0 0, .slice none 0 0, .slice none 0 0] 38 (0, 0)) from (HB30.out.block _ (Nat.lt_succ_self _)).trans HW.out)
  have z0 := heap_cell HW30.out 0
  have z1 := heap_cell HW30.out 1
  have z2 := heap_cell HW30.out 2
  have z3 := heap_cell HW30.out 3
  have z4 := heap_cell HW30.out 4
  have z5 := heap_cell HW30.out 5
  have z6 := heap_cell HW30.out 6
  have z7 := heap_cell HW30.out 7
  simp only [List.getElem?_toArray, List.getElem?_cons_zero, List.getElem?_cons_succ] at z0 z1 z2 z3 z4 z5 z6 z7
  have zfz := heap_frozen HW30.out
  go_wp2
  refine bodyPost_ret (v := .tuple #[respV nilP none 0 0 none 0 0 none 0 0, .int .i64 z]) (by simp [results, Tryd.results25, go_sem, respV, nilP, z0, z1, z2, z3, z4, z5, z6, z7]) rfl ?_
  rw [HZ.out]
  exact ⟨none, 0, 0, none, 0, 0, none, 0, 0, rfl, Three.nil _, put8_bel (HB.out.trans (HB30.out.mono (Nat.le_succ _))) (Nat.le_refl _) _ _ _ _ _ _ _ _⟩
def tb_rgp4 : List (Nat × Nat) := [(0, 2047), (1, 2046), (2, 2045), (4, 2043), (0, 2047), (16, 2031), (32, 2015), (64, 1983), (136, 1911), (0, 2047), (1023, 1279)]
set_option maxRecDepth 100000 in
set_option maxHeartbeats 16000000 in
theorem refGetResp_body (A : Option Addr) (n c : Nat) (l : List UInt8) (w : World) (hr : Rd w w.heap.size A n l) (hc : n ≤ c) (hn : n ≤ 1099511627776) (h2 : 2 ≤ n) (hE : hdE l = 0) :
    Calls Tryd.prog 25 #[.slice A n c] w (GPR w (gtP l)) := by
  obtain ⟨K, V, hkv, hK1, hK2, hV2, hst⟩ := hd_ok hE
  have hz : known (kv l 0).1 (kv l 0).2 = 0 := (hd_long (by have := hr.len; omega)).symm.trans hE
  obtain ⟨b, o, c0, rfl, hb, h0, x0⟩ := hr.at (k := 0) (by omega)
  obtain ⟨b', o', c1, e', hb', h1, x1⟩ := hr.at (k := 1) (by omega)
  obtain ⟨rfl, rfl⟩ : b = b' ∧ o = o' := by simpa using e'
  rw [Nat.add_zero] at x0
  have hkv2 : kv l 0 = ((c0.toNat : Int), (c1.toNat : Int)) := by unfold kv; simp only [Int.toNat_zero, Nat.zero_add]; rw [h0, h1]; rfl
  rw [hkv2] at hkv
  simp only [Prod.mk.injEq] at hkv
  obtain rfl : c0.toNat = K := by omega
  obtain rfl : c1.toNat = V := by omega
  have HST0 := Lib.hid hst
  have HLEN := Lib.hid hr.len
  have hw0 : IntKind.i64.wrap (c0.toNat : Int) = (c0.toNat : Int) := IntWalk.i64_in _ (by omega)
  have hw1 : IntKind.i64.wrap (c1.toNat : Int) = (c1.toNat : Int) := IntWalk.i64_in _ (by omega)
  have hn0 : 0 < n := by omega
  have hn1 : (1 : Int) < (n : Int) := by omega
  have hmx : Tryd.prog.follows .mixedOrders = true := by kernel_rfl
  have HW := Lib.hid (World.alloc_heap_new w (.cells #[.int .i64 0, .int .i64 0, .int .i64 0, .int .i64 0, .int .i64 0, .slice none 0 0, .slice none 0 0, .slice none 0 0] 38))
  have HB := Lib.hid (bel_alloc (Below.refl w.heap.size w) (.cells #[.int .i64 0, .int .i64 0, .int .i64 0, .int .i64 0, .int .i64 0, .slice none 0 0, .slice none 0 0, .slice none 0 0] 38))
  have hsz : (w.alloc (.cells #[.int .i64 0, .int .i64 0, .int .i64 0, .int .i64 0, .int .i64 0, .slice none 0 0, .slice none 0 0, .slice none 0 0] 38)).heap.size = w.heap.size + 1 := by simp
  have hbg := rbegin_any (some ⟨b, o, none⟩) n c l (w.alloc (.cells #[.int .i64 0, .int .i64 0, .int .i64 0, .int .i64 0, .int .i64 0, .slice none 0 0, .slice none 0 0, .slice none 0 0] 38)) ((hr.below HB.out (Nat.le_refl _)).more HB.out.size) (by omega) hz
  rw [hsz] at hbg
  have HBG := Lib.hid hbg
  have HR := Lib.hid hr
  clear hbg hr
  have X0 := Lib.hid x0
  have X1 := Lib.hid x1
  clear hkv hkv2 hst h0 h1 x0 x1 e' hb' hz hE
  go_enter Tryd.func25, Tryd.ntmps25
  go_upto_region 4 with (go_at_call 51; (with_reducible refine HBG.out.mono ?_); rintro e w30 ⟨rfl, hr30, hb30, hs30⟩; have HR30 := Lib.hid hr30; have HB30 := Lib.hid hb30; have HS30 := Lib.hid hs30; have hsz30 : w.heap.size < w30.heap.size := (by omega); clear hr30 hb30 hs30)
  have hb30 : b < w30.heap.size := by omega
  have HBW := Lib.hid (show Below w.heap.size w w30 from HB.out.trans (HB30.out.mono (Nat.le_succ _)))
  have d0 : w30.cell? ⟨b, o, none⟩ = some (.int .u8 (c0.toNat : Int)) := (HBW.out.cell (p := ⟨b, o, none⟩) hb).trans X0.out
  have d1 : w30.cell? ⟨b, o + 1, none⟩ = some (.int .u8 (c1.toNat : Int)) := (HBW.out.cell (p := ⟨b, o + 1, none⟩) hb).trans X1.out
  have HS0 := Lib.hid (show (fun W9 : World => W9.cell? ⟨b, o, none⟩ = some (.int .u8 (c0.toNat : Int)) ∧ W9.cell? ⟨b, o + 1, none⟩ = some (.int .u8 (c1.toNat : Int))) w30.drew from ⟨d0, d1⟩)
  refine region_let (fun W9 : World => W9.cell? ⟨b, o, none⟩ = some (.int .u8 (c0.toNat : Int)) ∧ W9.cell? ⟨b, o + 1, none⟩ = some (.int .u8 (c1.toNat : Int))) 99 11 hmx rfl fun ops Q HOPS HQ => ?_
  have HREG := reg_of HOPS tb_rgp4 rfl (by kernel_rfl) (by kernel_rfl) (by decide)
  refine stepTQ HOPS HREG 0 1 ?_ (by decide) rfl (by kernel_rfl) (by kernel_rfl) rfl ?_ HS0.out ?_
  rotate_left
  · intro w9 hS9; obtain ⟨q0, q1⟩ := hS9; go_simp; (first | done | with_reducible rfl)
  dsimp only [List.set_cons_zero, List.set_cons_succ]
  refine stepTQ HOPS HREG 1 3 ?_ (by decide) rfl (by kernel_rfl) (by kernel_rfl) rfl ?_ HS0.out ?_
  rotate_left
  · intro w9 hS9; obtain ⟨q0, q1⟩ := hS9; go_simp; (first | done | with_reducible rfl)
  dsimp only [List.set_cons_zero, List.set_cons_succ]
  refine stepTQ HOPS HREG 2 7 ?_ (by decide) rfl (by kernel_rfl) (by kernel_rfl) rfl ?_ HS0.out ?_
  rotate_left
  · intro w9 hS9; obtain ⟨q0, q1⟩ := hS9; go_simp; (first | done | with_reducible rfl)
  dsimp only [List.set_cons_zero, List.set_cons_succ]
  refine stepTQ HOPS HREG 3 15 ?_ (by decide) rfl (by kernel_rfl) (by kernel_rfl) rfl ?_ HS0.out ?_
  rotate_left
  · intro w9 hS9; obtain ⟨q0, q1⟩ := hS9; go_simp; (first | done | with_reducible rfl)
  dsimp only [List.set_cons_zero, List.set_cons_succ]
  refine stepTQ HOPS HREG 4 31 ?_ (by decide) rfl (by kernel_rfl) (by kernel_rfl) rfl ?_ HS0.out ?_
  rotate_left
  · intro w9 hS9; obtain ⟨q0, q1⟩ := hS9; go_simp; (first | done | with_reducible rfl)
  dsimp only [List.set_cons_zero, List.set_cons_succ]
  refine stepTQ HOPS HREG 5 63 ?_ (by decide) rfl (by kernel_rfl) (by kernel_rfl) rfl ?_ HS0.out ?_
  rotate_left
  · intro w9 hS9; obtain ⟨q0, q1⟩ := hS9; go_simp; (first | done | with_reducible rfl)
  dsimp only [List.set_cons_zero, List.set_cons_succ]
  refine stepTQ HOPS HREG 6 127 ?_ (by decide) rfl (by kernel_rfl) (by kernel_rfl) rfl ?_ HS0.out ?_
  rotate_left
  · intro w9 hS9; obtain ⟨q0, q1⟩ := hS9; go_simp; (first | done | with_reducible rfl)
  dsimp only [List.set_cons_zero, List.set_cons_succ]
  refine stepTQ HOPS HREG 7 255 ?_ (by decide) rfl (by kernel_rfl) (by kernel_rfl) rfl ?_ HS0.out ?_
  rotate_left
  · intro w9 hS9; obtain ⟨q0, q1⟩ := hS9; go_simp; (first | done | with_reducible rfl)
  dsimp only [List.set_cons_zero, List.set_cons_succ]
  refine stepTQ HOPS HREG 8 511 ?_ (by decide) rfl (by kernel_rfl) (by kernel_rfl) rfl ?_ HS0.out ?_
  rotate_left
  · intro w9 hS9; obtain ⟨q0, q1⟩ := hS9; go_simp; (first | done | with_reducible rfl)
  dsimp only [List.set_cons_zero, List.set_cons_succ]
  refine stepC HOPS 9 1023 (by decide) rfl (by kernel_rfl) (by kernel_rfl) ?_
  go_simp
  try simp only [Act.put, List.setIfInBounds_toArray, List.set_cons_zero, List.set_cons_succ]
  refine stepC HOPS 10 2047 (by decide) rfl (by kernel_rfl) (by kernel_rfl) ?_
  go_simp
  try simp only [Act.put, List.setIfInBounds_toArray, List.set_cons_zero, List.set_cons_succ]
  refine stepE HOPS (by kernel_rfl) (HQ.out _ _ ?_)
  clear HQ HREG HOPS
  clear Q ops
  have HQ4 := Lib.hid (show QS w 38 #[.int .i64 0, .int .i64 0, .int .i64 0, .int .i64 0, .int .i64 0, .slice none 0 0, .slice none 0 0, .slice none 0 0] #[.int .i64 (c0.toNat : Int), .int .i64 (c1.toNat : Int), .int .i64 (0), .int .i64 (0), .int .i64 (0), .slice none 0 0, .slice none 0 0, .slice none 0 0] (.slice (some ⟨b, o, none⟩) n c) 2 0 none 0 0 [] none 0 0 [] none 0 0 [] (w30.alloc (.cells #[.int .i64 (c0.toNat : Int), .int .i64 (c1.toNat : Int), .int .i64 (0), .int .i64 (0), .int .i64 (0), .slice none 0 0, .slice none 0 0, .slice none 0 0] 38)).drew from (QS_start HB30.out HS30.out HR30.out).below (bel_drew (Below.refl _ _)))
  generalize (w30.alloc (.cells #[.int .i64 (c0.toNat : Int), .int .i64 (c1.toNat : Int), .int .i64 (0), .int .i64 (0), .int .i64 (0), .slice none 0 0, .slice none 0 0, .slice none 0 0] 38)).drew = w4 at HQ4 ⊢
  have hs2 : w30.heap.size = w.heap.size + 2 := HS30.out
  rw [hs2]
  clear hs2
  clear d0 d1 HS0 HB30 HR30 HS30 hsz30 hb30 HBW HBG
  (try clear q0 q1 q2 q3 q4 q5 q6 q7 f4); have q0 := HQ4.out.gs.c4 0; have q1 := HQ4.out.gs.c4 1; have q2 := HQ4.out.gs.c4 2; have q3 := HQ4.out.gs.c4 3; have q4 := HQ4.out.gs.c4 4; have q5 := HQ4.out.gs.c4 5; have q6 := HQ4.out.gs.c4 6; have q7 := HQ4.out.gs.c4 7; simp only [List.getElem?_toArray, List.getElem?_cons_zero, List.getElem?_cons_succ] at q0 q1 q2 q3 q4 q5 q6 q7; have f4 := HQ4.out.gs.f4
  have HA4 := Lib.hid (show At n 2 0 from ⟨by omega, by omega, fun _ => by omega⟩)
  go_upto_if 34 with (first
    | (go_at_call 52; (with_reducible refine (rnum_any (w.heap.size + 1) (some ⟨b, o, none⟩) n c p1 e1 l w.heap.size _ HQ6.out.rd (HR.out.below HQ6.out.bel (Nat.le_refl _)) hn HA5.out).mono ?_); rintro e w7 ⟨E, p2, e2, rfl, hI9, hS9, hA9, hr9, hg9⟩; dsimp only [mkI]; have HQ7 := Lib.hid (HQ6.out.grow hg9 hr9); have HQ8 := Lib.hid (show QS w 38 #[.int .i64 0, .int .i64 0, .int .i64 0, .int .i64 0, .int .i64 0, .slice none 0 0, .slice none 0 0, .slice none 0 0] #[.int .i64 (c0.toNat : Int), .int .i64 (c1.toNat : Int), .int .i64 (i), .int .i64 (E), .int .i64 (0), .slice none 0 0, .slice none 0 0, .slice none 0 0] (.slice (some ⟨b, o, none⟩) n c) p2 e2 none 0 0 [] none 0 0 [] none 0 0 [] (w7.setCell ⟨w.heap.size + 2, 3, none⟩ (.int .i64 E)) from (HQ6.out.grow hg9 hr9).set 3 (.int .i64 E)); have HS2 := Lib.hid hS9; have HA8 := Lib.hid hA9; clear hI9 hS9 hA9 hr9 hg9; (try clear q0 q1 q2 q3 q4 q5 q6 q7 f4); have q0 := HQ7.out.gs.c4 0; have q1 := HQ7.out.gs.c4 1; have q2 := HQ7.out.gs.c4 2; have q3 := HQ7.out.gs.c4 3; have q4 := HQ7.out.gs.c4 4; have q5 := HQ7.out.gs.c4 5; have q6 := HQ7.out.gs.c4 6; have q7 := HQ7.out.gs.c4 7; simp only [List.getElem?_toArray, List.getElem?_cons_zero, List.getElem?_cons_succ] at q0 q1 q2 q3 q4 q5 q6 q7; have f4 := HQ7.out.gs.f4)
    | (go_at_call 52; (with_reducible refine (rnum_any (w.heap.size + 1) (some ⟨b, o, none⟩) n c 2 0 l w.heap.size w4 HQ4.out.rd (HR.out.below HQ4.out.bel (Nat.le_refl _)) hn HA4.out).mono ?_); rintro e w5 ⟨i, p1, e1, rfl, hI9, hS9, hA9, hr9, hg9⟩; dsimp only [mkI]; have HQ5 := Lib.hid (HQ4.out.grow hg9 hr9); have HQ6 := Lib.hid (show QS w 38 #[.int .i64 0, .int .i64 0, .int .i64 0, .int .i64 0, .int .i64 0, .slice none 0 0, .slice none 0 0, .slice none 0 0] #[.int .i64 (c0.toNat : Int), .int .i64 (c1.toNat : Int), .int .i64 (i), .int .i64 (0), .int .i64 (0), .slice none 0 0, .slice none 0 0, .slice none 0 0] (.slice (some ⟨b, o, none⟩) n c) p1 e1 none 0 0 [] none 0 0 [] none 0 0 [] (w5.setCell ⟨w.heap.size + 2, 2, none⟩ (.int .i64 i)) from (HQ4.out.grow hg9 hr9).set 2 (.int .i64 i)); have HS1 := Lib.hid hS9; have HA5 := Lib.hid hA9; clear hI9 hS9 hA9 hr9 hg9; (try clear q0 q1 q2 q3 q4 q5 q6 q7 f4); have q0 := HQ5.out.gs.c4 0; have q1 := HQ5.out.gs.c4 1; have q2 := HQ5.out.gs.c4 2; have q3 := HQ5.out.gs.c4 3; have q4 := HQ5.out.gs.c4 4; have q5 := HQ5.out.gs.c4 5; have q6 := HQ5.out.gs.c4 6; have q7 := HQ5.out.gs.c4 7; simp only [List.getElem?_toArray, List.getElem?_cons_zero, List.getElem?_cons_succ] at q0 q1 q2 q3 q4 q5 q6 q7; have f4 := HQ5.out.gs.f4))
  generalize (w7.setCell ⟨w.heap.size + 2, 3, none⟩ (.int .i64 E)) = w8 at HQ8 ⊢
  (try clear q0 q1 q2 q3 q4 q5 q6 q7 f4); have q0 := HQ8.out.gs.c4 0; have q1 := HQ8.out.gs.c4 1; have q2 := HQ8.out.gs.c4 2; have q3 := HQ8.out.gs.c4 3; have q4 := HQ8.out.gs.c4 4; have q5 := HQ8.out.gs.c4 5; have q6 := HQ8.out.gs.c4 6; have q7 := HQ8.out.gs.c4 7; simp only [List.getElem?_toArray, List.getElem?_cons_zero, List.getElem?_cons_succ] at q0 q1 q2 q3 q4 q5 q6 q7; have f4 := HQ8.out.gs.f4
  go_cut [] (fun wx => ∃ t p3 e3, QS w 38 #[.int .i64 0, .int .i64 0, .int .i64 0, .int .i64 0, .int .i64 0, .slice none 0 0, .slice none 0 0, .slice none 0 0] #[.int .i64 (c0.toNat : Int), .int .i64 (c1.toNat : Int), .int .i64 (i), .int .i64 (E), .int .i64 (t), .slice none 0 0, .slice none 0 0, .slice none 0 0] (.slice (some ⟨b, o, none⟩) n c) p3 e3 none 0 0 [] none 0 0 [] none 0 0 [] wx ∧ Steps (waitC (c1.toNat : Int)) l p2 e2 t p3 e3 ∧ At n p3 e3)
  case first =>
    by_cases hv2 : 1 ≤ (c1.toNat : Int)
    · have HWC := Lib.hid (show waitC (c1.toNat : Int) = cvar by unfold waitC; rw [if_pos hv2])
      go_wp2_with (go_at_call 52; (with_reducible refine (rnum_any (w.heap.size + 1) (some ⟨b, o, none⟩) n c p2 e2 l w.heap.size w8 HQ8.out.rd (HR.out.below HQ8.out.bel (Nat.le_refl _)) hn HA8.out).mono ?_); rintro e w9 ⟨t, p3, e3, rfl, hI9, hS9, hA9, hr9, hg9⟩; dsimp only [mkI]; have HQ9 := Lib.hid (HQ8.out.grow hg9 hr9); have HS9 := Lib.hid hS9; have HA9 := Lib.hid hA9; clear hI9 hS9 hA9 hr9 hg9; (try clear q0 q1 q2 q3 q4 q5 q6 q7 f4); have q0 := HQ9.out.gs.c4 0; have q1 := HQ9.out.gs.c4 1; have q2 := HQ9.out.gs.c4 2; have q3 := HQ9.out.gs.c4 3; have q4 := HQ9.out.gs.c4 4; have q5 := HQ9.out.gs.c4 5; have q6 := HQ9.out.gs.c4 6; have q7 := HQ9.out.gs.c4 7; simp only [List.getElem?_toArray, List.getElem?_cons_zero, List.getElem?_cons_succ] at q0 q1 q2 q3 q4 q5 q6 q7; have f4 := HQ9.out.gs.f4)
      go_meet
      exact ⟨t, p3, e3, HQ9.out.set 4 _, by rw [HWC.out]; exact HS9.out, HA9.out⟩
    · have HWC := Lib.hid (show waitC (c1.toNat : Int) = cnone 0 by unfold waitC; rw [if_neg hv2])
      go_wp2
      go_meet
      exact ⟨0, p2, e2, HQ8.out, by rw [HWC.out]; exact Steps.none, HA8.out⟩
  case rest =>
    obtain ⟨t, p3, e3, hQ, hS, hA⟩ := hcut
    rename World => w10
    have HQ10 := Lib.hid hQ
    have HS3 := Lib.hid hS
    have HA10 := Lib.hid hA
    clear hQ hS hA HQ8
    (try clear q0 q1 q2 q3 q4 q5 q6 q7 f4); have q0 := HQ10.out.gs.c4 0; have q1 := HQ10.out.gs.c4 1; have q2 := HQ10.out.gs.c4 2; have q3 := HQ10.out.gs.c4 3; have q4 := HQ10.out.gs.c4 4; have q5 := HQ10.out.gs.c4 5; have q6 := HQ10.out.gs.c4 6; have q7 := HQ10.out.gs.c4 7; simp only [List.getElem?_toArray, List.getElem?_cons_zero, List.getElem?_cons_succ] at q0 q1 q2 q3 q4 q5 q6 q7; have f4 := HQ10.out.gs.f4
    go_upto_region 12 with (first
      | (go_at_call 58; (refine (rblob_any 4096 (by omega) (w.heap.size + 1) (some ⟨b, o, none⟩) n c p7 e7 l w.heap.size _ HQ16.out.rd (HR.out.below HQ16.out.bel (Nat.le_refl _)) hc hn HA15.out (by omega)).mono ?_); rintro e w17 ⟨A3, n3, k3, bl, p8, e8, rfl, hm9, hO9, hS9, hA9, hr9, hg9⟩; have HQ17 := Lib.hid (show QS w 38 #[.int .i64 0, .int .i64 0, .int .i64 0, .int .i64 0, .int .i64 0, .slice none 0 0, .slice none 0 0, .slice none 0 0] #[.int .i64 (c0.toNat : Int), .int .i64 (c1.toNat : Int), .int .i64 (i), .int .i64 (E), .int .i64 (t), .slice A1 n1 k1, .slice A2 n2 k2, .slice A3 n3 k3] (.slice (some ⟨b, o, none⟩) n c) p8 e8 A1 n1 k1 L1 A2 n2 k2 L2 A3 n3 k3 bl (w17.setCell ⟨w.heap.size + 2, 7, none⟩ (.slice A3 n3 k3)) from ((HQ16.out.grow hg9 hr9).row3 hO9 HQ16.out.size).set 7 _); have HQ17a := Lib.hid (HQ16.out.grow hg9 hr9); have HS8 := Lib.hid hS9; have HA17 := Lib.hid hA9; have hn3 := hm9; clear hm9 hS9 hA9 hr9 hg9 hO9; (try clear q0 q1 q2 q3 q4 q5 q6 q7 f4); have q0 := HQ17a.out.gs.c4 0; have q1 := HQ17a.out.gs.c4 1; have q2 := HQ17a.out.gs.c4 2; have q3 := HQ17a.out.gs.c4 3; have q4 := HQ17a.out.gs.c4 4; have q5 := HQ17a.out.gs.c4 5; have q6 := HQ17a.out.gs.c4 6; have q7 := HQ17a.out.gs.c4 7; simp only [List.getElem?_toArray, List.getElem?_cons_zero, List.getElem?_cons_succ] at q0 q1 q2 q3 q4 q5 q6 q7; have f4 := HQ17a.out.gs.f4)
      | (go_at_call 57; (refine (rtexts_any m2 (w.heap.size + 1) (some ⟨b, o, none⟩) n c p6 e6 HM2.out l w.heap.size _ HQ14.out.rd (HR.out.below HQ14.out.bel (Nat.le_refl _)) hc hn HA14.out (by omega)).mono ?_); rintro e w15 ⟨A2, n2, k2, L2, p7, e7, rfl, hm9, hO9, hI9, hS9, hA9, hr9, hg9⟩; have hn2 := Nat.le_trans hm9 HM2n.out; have HQ16 := Lib.hid (show QS w 38 #[.int .i64 0, .int .i64 0, .int .i64 0, .int .i64 0, .int .i64 0, .slice none 0 0, .slice none 0 0, .slice none 0 0] #[.int .i64 (c0.toNat : Int), .int .i64 (c1.toNat : Int), .int .i64 (i), .int .i64 (E), .int .i64 (t), .slice A1 n1 k1, .slice A2 n2 k2, .slice none 0 0] (.slice (some ⟨b, o, none⟩) n c) p7 e7 A1 n1 k1 L1 A2 n2 k2 L2 none 0 0 [] (w15.setCell ⟨w.heap.size + 2, 6, none⟩ (.slice A2 n2 k2)) from (((HQ14.out.grow hg9 hr9).row2 hO9 HQ14.out.size).set 6 (.slice A2 n2 k2))); have HS7 := Lib.hid (show Steps (ccount txt64 (ckM 16) (ckM_pos 16)) l p5 e5 L2 p7 e7 from Steps.count HS6.out (fun h0 => by subst h0; exact hS9) (fun hz => hS9.keep hz)); have HA15 := Lib.hid hA9; have HI2 := Lib.hid hI9; have HQ15 := Lib.hid (HQ14.out.grow hg9 hr9); clear hI9 hS9 hA9 hr9 hg9 hO9 hm9; (try clear q0 q1 q2 q3 q4 q5 q6 q7 f4); have q0 := HQ15.out.gs.c4 0; have q1 := HQ15.out.gs.c4 1; have q2 := HQ15.out.gs.c4 2; have q3 := HQ15.out.gs.c4 3; have q4 := HQ15.out.gs.c4 4; have q5 := HQ15.out.gs.c4 5; have q6 := HQ15.out.gs.c4 6; have q7 := HQ15.out.gs.c4 7; simp only [List.getElem?_toArray, List.getElem?_cons_zero, List.getElem?_cons_succ] at q0 q1 q2 q3 q4 q5 q6 q7; have f4 := HQ15.out.gs.f4)
      | (go_at_call 54; (refine (rnums_any m1 (w.heap.size + 1) (some ⟨b, o, none⟩) n c p4 e4 HM1.out l w.heap.size w11 HQ11.out.rd (HR.out.below HQ11.out.bel (Nat.le_refl _)) hn HA11.out (by omega)).mono ?_); rintro e w12 ⟨A1, n1, k1, L1, p5, e5, rfl, hm9, hO9, hI9, hS9, hA9, hr9, hg9⟩; have hn1' := Nat.le_trans hm9 HM1n.out; have HQ13 := Lib.hid (show QS w 38 #[.int .i64 0, .int .i64 0, .int .i64 0, .int .i64 0, .int .i64 0, .slice none 0 0, .slice none 0 0, .slice none 0 0] #[.int .i64 (c0.toNat : Int), .int .i64 (c1.toNat : Int), .int .i64 (i), .int .i64 (E), .int .i64 (t), .slice A1 n1 k1, .slice none 0 0, .slice none 0 0] (.slice (some ⟨b, o, none⟩) n c) p5 e5 A1 n1 k1 L1 none 0 0 [] none 0 0 [] (w12.setCell ⟨w.heap.size + 2, 5, none⟩ (.slice A1 n1 k1)) from (((HQ11.out.grow hg9 hr9).row1 hO9 HQ11.out.size).set 5 (.slice A1 n1 k1))); have HS5 := Lib.hid (show Steps (ccount cvar (ckM 64) (ckM_pos 64)) l p3 e3 L1 p5 e5 from Steps.count HS4.out (fun h0 => by subst h0; exact hS9) (fun hz => hS9.keep hz)); have HA12 := Lib.hid hA9; have HI1 := Lib.hid hI9; have HQ12 := Lib.hid (HQ11.out.grow hg9 hr9); clear hI9 hS9 hA9 hr9 hg9 hO9 hm9; (try clear q0 q1 q2 q3 q4 q5 q6 q7 f4); have q0 := HQ12.out.gs.c4 0; have q1 := HQ12.out.gs.c4 1; have q2 := HQ12.out.gs.c4 2; have q3 := HQ12.out.gs.c4 3; have q4 := HQ12.out.gs.c4 4; have q5 := HQ12.out.gs.c4 5; have q6 := HQ12.out.gs.c4 6; have q7 := HQ12.out.gs.c4 7; simp only [List.getElem?_toArray, List.getElem?_cons_zero, List.getElem?_cons_succ] at q0 q1 q2 q3 q4 q5 q6 q7; have f4 := HQ12.out.gs.f4)
      | (go_at_call 72; (refine (rcount_any (16 : Int) (w.heap.size + 1) (some ⟨b, o, none⟩) n c p5 e5 l w.heap.size _ HQ13.out.rd (HR.out.below HQ13.out.bel (Nat.le_refl _)) hn HA12.out (by omega)).mono ?_); rintro e w14 ⟨m2, p6, e6, rfl, hI9, hS9, hA9, hr9, hg9⟩; dsimp only [mkI]; have HQ14 := Lib.hid (HQ13.out.grow hg9 hr9); have HS6 := Lib.hid hS9; have HA14 := Lib.hid hA9; have HM2 := Lib.hid (show e6 = 0 → m2 ≤ 1099511627776 from fun _ => by have := hI9.2; omega); have HM2n := Lib.hid (show m2.toNat ≤ 16 by have := hI9.2; omega); clear hI9 hS9 hA9 hr9 hg9; (try clear q0 q1 q2 q3 q4 q5 q6 q7 f4); have q0 := HQ14.out.gs.c4 0; have q1 := HQ14.out.gs.c4 1; have q2 := HQ14.out.gs.c4 2; have q3 := HQ14.out.gs.c4 3; have q4 := HQ14.out.gs.c4 4; have q5 := HQ14.out.gs.c4 5; have q6 := HQ14.out.gs.c4 6; have q7 := HQ14.out.gs.c4 7; simp only [List.getElem?_toArray, List.getElem?_cons_zero, List.getElem?_cons_succ] at q0 q1 q2 q3 q4 q5 q6 q7; have f4 := HQ14.out.gs.f4)
      | (go_at_call 72; (refine (rcount_any (64 : Int) (w.heap.size + 1) (some ⟨b, o, none⟩) n c p3 e3 l w.heap.size w10 HQ10.out.rd (HR.out.below HQ10.out.bel (Nat.le_refl _)) hn HA10.out (by omega)).mono ?_); rintro e w11 ⟨m1, p4, e4, rfl, hI9, hS9, hA9, hr9, hg9⟩; dsimp only [mkI]; have HQ11 := Lib.hid (HQ10.out.grow hg9 hr9); have HS4 := Lib.hid hS9; have HA11 := Lib.hid hA9; have HM1 := Lib.hid (show e4 = 0 → m1 ≤ 1099511627776 from fun _ => by have := hI9.2; omega); have HM1n := Lib.hid (show m1.toNat ≤ 64 by have := hI9.2; omega); clear hI9 hS9 hA9 hr9 hg9; (try clear q0 q1 q2 q3 q4 q5 q6 q7 f4); have q0 := HQ11.out.gs.c4 0; have q1 := HQ11.out.gs.c4 1; have q2 := HQ11.out.gs.c4 2; have q3 := HQ11.out.gs.c4 3; have q4 := HQ11.out.gs.c4 4; have q5 := HQ11.out.gs.c4 5; have q6 := HQ11.out.gs.c4 6; have q7 := HQ11.out.gs.c4 7; simp only [List.getElem?_toArray, List.getElem?_cons_zero, List.getElem?_cons_succ] at q0 q1 q2 q3 q4 q5 q6 q7; have f4 := HQ11.out.gs.f4))
    generalize (w17.setCell ⟨w.heap.size + 2, 7, none⟩ (.slice A3 n3 k3)) = w20 at HQ17 ⊢
    clear HQ10 HQ11 HQ12 HQ13 HQ14 HQ15 HQ16 HQ17a
    (try clear q0 q1 q2 q3 q4 q5 q6 q7 f4); have q0 := HQ17.out.gs.c4 0; have q1 := HQ17.out.gs.c4 1; have q2 := HQ17.out.gs.c4 2; have q3 := HQ17.out.gs.c4 3; have q4 := HQ17.out.gs.c4 4; have q5 := HQ17.out.gs.c4 5; have q6 := HQ17.out.gs.c4 6; have q7 := HQ17.out.gs.c4 7; simp only [List.getElem?_toArray, List.getElem?_cons_zero, List.getElem?_cons_succ] at q0 q1 q2 q3 q4 q5 q6 q7; have f4 := HQ17.out.gs.f4
    go_upto_if 54 with (go_at_call 59; (with_reducible refine (rend_any (w.heap.size + 1) (some ⟨b, o, none⟩) n c p8 e8 w20 HQ17.out.rd HA17.out).mono ?_); rintro e w18 ⟨rfl, hr9, hg9⟩; have HQ18 := Lib.hid (HQ17.out.grow hg9 hr9); clear hr9 hg9)
    obtain ⟨z, hz⟩ : ∃ z, enE n p8 e8 = z := ⟨_, rfl⟩
    rw [hz]
    have HEND := Lib.hid (gtP_end (z := z) HLEN.out (steps_resp HST0.out HS1.out HS2.out HS3.out HS5.out HS7.out HS8.out) HA17.out hz)
    clear hz HQ17
    (try clear q0 q1 q2 q3 q4 q5 q6 q7 f4); have q0 := HQ18.out.gs.c4 0; have q1 := HQ18.out.gs.c4 1; have q2 := HQ18.out.gs.c4 2; have q3 := HQ18.out.gs.c4 3; have q4 := HQ18.out.gs.c4 4; have q5 := HQ18.out.gs.c4 5; have q6 := HQ18.out.gs.c4 6; have q7 := HQ18.out.gs.c4 7; simp only [List.getElem?_toArray, List.getElem?_cons_zero, List.getElem?_cons_succ] at q0 q1 q2 q3 q4 q5 q6 q7; have f4 := HQ18.out.gs.f4
    have z0 := HQ18.out.gs.c2 0; have z1 := HQ18.out.gs.c2 1; have z2 := HQ18.out.gs.c2 2; have z3 := HQ18.out.gs.c2 3; have z4 := HQ18.out.gs.c2 4; have z5 := HQ18.out.gs.c2 5; have z6 := HQ18.out.gs.c2 6; have z7 := HQ18.out.gs.c2 7; simp only [List.getElem?_toArray, List.getElem?_cons_zero, List.getElem?_cons_succ] at z0 z1 z2 z3 z4 z5 z6 z7; have zfz := HQ18.out.gs.f2
    by_cases hz0 : z = 0
    case neg =>
      have hzN : (z != 0) = true := by simp [hz0]
      have HZ := Lib.hid (HEND.out.1 hz0)
      clear hz0
      go_wp2
      refine bodyPost_ret (v := .tuple #[respV nilP none 0 0 none 0 0 none 0 0, .int .i64 z]) (by simp [results, Tryd.results25, go_sem, respV, nilP, z0, z1, z2, z3, z4, z5, z6, z7]) rfl ?_
      rw [HZ.out]
      exact ⟨none, 0, 0, none, 0, 0, none, 0, 0, rfl, Three.nil _, put8_bel HQ18.out.bel (Nat.le_refl _) _ _ _ _ _ _ _ _⟩
    subst hz0
    obtain ⟨y2, hz2⟩ : ∃ y2, ckP ⟨(c0.toNat : Int), (c1.toNat : Int), i, E, t, L1, L2, bl⟩ = y2 := ⟨_, rfl⟩
    have HCK := Lib.hid hz2
    have HL1 := Lib.hid (rdL_nums (HQ18.out.o1.rd nS) HI1.out)
    have HL2 := Lib.hid (rdL_strs (HQ18.out.o2.rd sS) (fun x hx => Nat.le_trans (HI2.out x hx) (by decide)))
    have HL3 := Lib.hid (HQ18.out.o3.len)
    by_cases hck : y2 = 0
    case neg =>
      have hz2N : (y2 != 0) = true := by simp [hck]
      have HZ := Lib.hid (HEND.out.2.1 rfl (by rw [hz2]; exact hck))
      clear hz2 hck
      go_wp2_with (go_at_call 71; (refine (refcheckResp_any (c0.toNat : Int) (c1.toNat : Int) i E t A1 n1 k1 L1 A2 n2 k2 L2 A3 n3 k3 bl w18 HL1.out (by omega) HL2.out (by omega) (by omega) HL3.out).mono ?_); rw [HCK.out]; rintro e w19 ⟨rfl, hb9⟩; have HQ19 := Lib.hid (HQ18.out.below hb9); clear hb9; clear z0 z1 z2 z3 z4 z5 z6 z7 zfz; (try clear q0 q1 q2 q3 q4 q5 q6 q7 f4); have q0 := HQ19.out.gs.c4 0; have q1 := HQ19.out.gs.c4 1; have q2 := HQ19.out.gs.c4 2; have q3 := HQ19.out.gs.c4 3; have q4 := HQ19.out.gs.c4 4; have q5 := HQ19.out.gs.c4 5; have q6 := HQ19.out.gs.c4 6; have q7 := HQ19.out.gs.c4 7; simp only [List.getElem?_toArray, List.getElem?_cons_zero, List.getElem?_cons_succ] at q0 q1 q2 q3 q4 q5 q6 q7; have f4 := HQ19.out.gs.f4; have z0 := HQ19.out.gs.c2 0; have z1 := HQ19.out.gs.c2 1; have z2 := HQ19.out.gs.c2 2; have z3 := HQ19.out.gs.c2 3; have z4 := HQ19.out.gs.c2 4; have z5 := HQ19.out.gs.c2 5; have z6 := HQ19.out.gs.c2 6; have z7 := HQ19.out.gs.c2 7; simp only [List.getElem?_toArray, List.getElem?_cons_zero, List.getElem?_cons_succ] at z0 z1 z2 z3 z4 z5 z6 z7; have zfz := HQ19.out.gs.f2)
      refine bodyPost_ret (v := .tuple #[respV nilP none 0 0 none 0 0 none 0 0, .int .i64 1]) (by simp [results, Tryd.results25, go_sem, respV, nilP, z0, z1, z2, z3, z4, z5, z6, z7]) rfl ?_
      rw [HZ.out]
      exact ⟨none, 0, 0, none, 0, 0, none, 0, 0, rfl, Three.nil _, put8_bel HQ19.out.bel (Nat.le_refl _) _ _ _ _ _ _ _ _⟩
    have HZ := Lib.hid (HEND.out.2.2 rfl (by rw [hz2]; exact hck))
    subst hck
    clear hz2
    go_wp2_with (go_at_call 71; (refine (refcheckResp_any (c0.toNat : Int) (c1.toNat : Int) i E t A1 n1 k1 L1 A2 n2 k2 L2 A3 n3 k3 bl w18 HL1.out (by omega) HL2.out (by omega) (by omega) HL3.out).mono ?_); rw [HCK.out]; rintro e w19 ⟨rfl, hb9⟩; have HQ19 := Lib.hid (HQ18.out.below hb9); clear hb9; clear z0 z1 z2 z3 z4 z5 z6 z7 zfz; (try clear q0 q1 q2 q3 q4 q5 q6 q7 f4); have q0 := HQ19.out.gs.c4 0; have q1 := HQ19.out.gs.c4 1; have q2 := HQ19.out.gs.c4 2; have q3 := HQ19.out.gs.c4 3; have q4 := HQ19.out.gs.c4 4; have q5 := HQ19.out.gs.c4 5; have q6 := HQ19.out.gs.c4 6; have q7 := HQ19.out.gs.c4 7; simp only [List.getElem?_toArray, List.getElem?_cons_zero, List.getElem?_cons_succ] at q0 q1 q2 q3 q4 q5 q6 q7; have f4 := HQ19.out.gs.f4; have z0 := HQ19.out.gs.c2 0; have z1 := HQ19.out.gs.c2 1; have z2 := HQ19.out.gs.c2 2; have z3 := HQ19.out.gs.c2 3; have z4 := HQ19.out.gs.c2 4; have z5 := HQ19.out.gs.c2 5; have z6 := HQ19.out.gs.c2 6; have z7 := HQ19.out.gs.c2 7; simp only [List.getElem?_toArray, List.getElem?_cons_zero, List.getElem?_cons_succ] at z0 z1 z2 z3 z4 z5 z6 z7; have zfz := HQ19.out.gs.f2)
    refine bodyPost_ret (v := .tuple #[respV ⟨(c0.toNat : Int), (c1.toNat : Int), i, E, t, L1, L2, bl⟩ A1 n1 k1 A2 n2 k2 A3 n3 k3, .int .i64 0]) (by simp [results, Tryd.results25, go_sem, respV, z0, z1, z2, z3, z4, z5, z6, z7]) rfl ?_
    rw [HZ.out]
    exact ⟨A1, n1, k1, A2, n2, k2, A3, n3, k3, rfl, ⟨rdL_nums ((own_row HQ19.out.o1 (put8_gb w19 w.heap.size _ _ _ _ _ _ _ _) (by omega)).rd nS) HI1.out, rdL_strs ((own_row HQ19.out.o2 (put8_gb w19 w.heap.size _ _ _ _ _ _ _ _) (by omega)).rd sS) (fun x hx => Nat.le_trans (HI2.out x hx) (by decide)), (ownB_row HQ19.out.o3 (put8_gb w19 w.heap.size _ _ _ _ _ _ _ _) (by omega)).rd, by omega, by omega, by omega⟩, put8_bel HQ19.out.bel (Nat.le_refl _) _ _ _ _ _ _ _ _⟩
theorem refGetResp_any (A : Option Addr) (n c : Nat) (l : List UInt8) (w : World) (hr : Rd w w.heap.size A n l) (hc : n ≤ c) (hn : n ≤ 1099511627776) :
    Calls Tryd.prog 25 #[.slice A n c] w (GPR w (gtP l)) := by
  by_cases h2 : n < 2
  · exact refGetResp_short A n c l w hr.len h2
  · by_cases hE : hdE l = 0
    · exact refGetResp_body A n c l w hr hc hn (by omega) hE
    · exact refGetResp_head A n c l w hr (by omega) rfl (by rw [← hd_long (by have := hr.len; omega)]; exact hE)
end Go.Proofs.YthhdhdjdhekgpaaDoor.Pro
