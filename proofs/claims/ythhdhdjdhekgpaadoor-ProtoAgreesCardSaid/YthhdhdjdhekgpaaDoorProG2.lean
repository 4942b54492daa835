/- Joined: ProG2. -/
import Derived.Test.YthhdhdjdhekgpaaDoorProCP
import Derived.Test.YthhdhdjdhekgpaaDoorProG
import Derived.Test.YthhdhdjdhekgpaaDoorProRd3
import Derived.Deep.DeepCutAuto
/- The contract of the landed GetResp. -/
namespace Go.Proofs.YthhdhdjdhekgpaaDoor.Pro
open Go.RowKit Go.Proofs.YthhdhdjdhekgpaaDoor.Oct Go.Proofs.YthhdhdjdhekgpaaDoor.Rec Go.Proofs.YthhdhdjdhekgpaaDoor.Cod Go.Proofs.YthhdhdjdhekgpaaDoor.Lay Go.Proofs.YthhdhdjdhekgpaaDoor.RowF Go.Proofs.YthhdhdjdhekgpaaDoor.InR

set_option maxRecDepth 100000 in
set_option maxHeartbeats 8000000 in
theorem GetResp_v (A : Option Addr) (n c : Nat) (l : List UInt8) (K V : Nat) (w : World) (hr : Rd w w.heap.size A n l) (hc : n ≤ c) (hn : n ≤ 1099511627776) (hkv : hdV l = ((K : Int), (V : Int))) (_hK : K ≤ 12) (hV : 1 ≤ V) :
    Calls Tryd.prog 24 #[.slice A n c] w (GPR w (gtP l)) := by
  have HR := Lib.hid hr
  have HLEN := Lib.hid hr.len
  have HKV := Lib.hid hkv
  obtain ⟨e0, he0⟩ : ∃ e0, hdE l = e0 := ⟨_, rfl⟩
  have HE0 := Lib.hid he0
  have h2n : hdE l = 0 → 2 ≤ n := by
    intro h
    unfold hdE at h
    by_cases h3 : (l.length : Int) < 2
    · rw [if_pos h3] at h; cases h
    · have := hr.len; omega
  have H2N := Lib.hid h2n
  clear hr hkv he0 h2n
  have HC3 := Lib.hid (show waitC (V : Int) = cvar by unfold waitC; rw [if_pos (by omega)])
  have hge : (1 : Int) ≤ (V : Int) := by omega
  clear hV
  have HS0 := Lib.hid (show GS w w.heap.size (w.heap.size + 1) (w.heap.size + 1 + 1) 38 #[(.int .i64 0), (.int .i64 0), (.int .i64 0), (.int .i64 0), (.int .i64 0), (.slice none 0 0), (.slice none 0 0), (.slice none 0 0)] 38 #[(.int .i64 0), (.int .i64 0), (.int .i64 0), (.int .i64 0), (.int .i64 0), (.slice none 0 0), (.slice none 0 0), (.slice none 0 0)] 65 (.slice A n c) 0 0 (((w.alloc (.cells #[(.int .i64 0), (.int .i64 0), (.int .i64 0), (.int .i64 0), (.int .i64 0), (.slice none 0 0), (.slice none 0 0), (.slice none 0 0)] 38)).alloc (.cells #[(.int .i64 0), (.int .i64 0), (.int .i64 0), (.int .i64 0), (.int .i64 0), (.slice none 0 0), (.slice none 0 0), (.slice none 0 0)] 38)).alloc (.cells #[.slice A n c, .int .i64 0, .int .i64 0] 65)) from GS_start _ _ _ _ _ _ _)
  have hmx : Tryd.prog.follows .mixedOrders = true := by kernel_rfl
  go_enter Tryd.func24, Tryd.ntmps24
  go_upto_region 12 with (first
    | (go_at_call 50; have HSA := Lib.hid (show GS w w.heap.size (w.heap.size + 1) (w.heap.size + 1 + 1) 38 #[(.int .i64 0), (.int .i64 0), (.int .i64 0), (.int .i64 0), (.int .i64 0), (.slice none 0 0), (.slice none 0 0), (.slice none 0 0)] 38 #[(.int .i64 (K : Int)), (.int .i64 (V : Int)), (.int .i64 i), (.int .i64 E), (.int .i64 t), (.slice A1 n1 c1), (.slice A2 n2 c2), (.slice (some ⟨w32.heap.size, 0, none⟩) x.size cB)] 65 (.slice A n c) p8 e8 (wB.setCell ⟨(w.heap.size + 1), 7, none⟩ (.slice (some ⟨w32.heap.size, 0, none⟩) x.size cB)) from HSB.out.set 7 _); have HONA := Lib.hid (own_set (g := (w.heap.size + 1)) (j := 7) (u := (.slice (some ⟨w32.heap.size, 0, none⟩) x.size cB)) HONB.out (by omega)); have HOTA := Lib.hid (own_set (g := (w.heap.size + 1)) (j := 7) (u := (.slice (some ⟨w32.heap.size, 0, none⟩) x.size cB)) HOTB.out (by omega)); have HXA := Lib.hid (blk_set (g := (w.heap.size + 1)) (j := 7) (v := (.slice (some ⟨w32.heap.size, 0, none⟩) x.size cB)) HXB.out (by omega)); (with_reducible refine (end_any _ A n c p8 e8 _ HSA.out.rd).mono ?_); rintro e w31 ⟨rfl, hr9, hg9⟩; have HS31 := Lib.hid (HSA.out.grow hg9 hr9); have HON31 := Lib.hid (own_row HONA.out hg9 (by omega)); have HOT31 := Lib.hid (own_row HOTA.out hg9 (by omega)); have HX31 := Lib.hid (blk_grow HXA.out hg9 (by omega)); clear HSA hr9 hg9 HONA HOTA HXA)
    | (go_at_call 46; have HSA := Lib.hid (show GS w w.heap.size (w.heap.size + 1) (w.heap.size + 1 + 1) 38 #[(.int .i64 0), (.int .i64 0), (.int .i64 0), (.int .i64 0), (.int .i64 0), (.slice none 0 0), (.slice none 0 0), (.slice none 0 0)] 38 #[(.int .i64 (K : Int)), (.int .i64 (V : Int)), (.int .i64 i), (.int .i64 E), (.int .i64 t), (.slice A1 n1 c1), (.slice A2 n2 c2), (.slice none 0 0)] 65 (.slice A n c) p7 e7 (w33.setCell ⟨(w.heap.size + 1), 6, none⟩ (.slice A2 n2 c2)) from HS33.out.set 6 _); have HONA := Lib.hid (own_set (g := (w.heap.size + 1)) (j := 6) (u := (.slice A2 n2 c2)) HON33.out (by omega)); have HOTA := Lib.hid (own_set (g := (w.heap.size + 1)) (j := 6) (u := (.slice A2 n2 c2)) HOT33.out (by omega)); (refine (blob_any _ A n c 4096 p7 e7 l w.heap.size _ HSA.out.rd (HR.out.below HSA.out.bel (Nat.le_refl _)) hc hn HA33.out).mono ?_); rintro e w32 ⟨x, p8, e8, rfl, hI9, hS9, hA9, hr9, hg9⟩; have HS32 := Lib.hid (HSA.out.grow hg9 hr9); have HON32 := Lib.hid (own_row HONA.out hg9 (by omega)); have HOT32 := Lib.hid (own_row HOTA.out hg9 (by omega)); have HP8 := Lib.hid hS9; have HA32 := Lib.hid hA9; have HX48 := Lib.hid hI9; clear hS9 hA9 hI9; clear HSA hr9 hg9 HONA HOTA; obtain ⟨wB, hwB⟩ : ∃ wB, Lib.bytesWorld w32 5 x = wB := ⟨_, rfl⟩; obtain ⟨cB, hcB⟩ : ∃ cB, grownCap w32 x.size 0 5 = cB := ⟨_, rfl⟩; have rc := Lib.run_convert_string_bytes (P := Tryd.prog) w32 9 24 5 x Tryd.underlying9 Tryd.underlying24 Tryd.underlying5; rw [hwB, hcB] at rc; have hbB : Below w32.heap.size w32 wB := hwB ▸ bytes_below w32 _ x; have HXB := Lib.hid (hwB ▸ Lib.bytesWorld_at_new w32 5 x); have HSB := Lib.hid (HS32.out.below hbB); have HONB := Lib.hid (OwnF.below HON32.out hbB); have HOTB := Lib.hid (OwnF.below HOT32.out hbB); have hlB : w.heap.size + 1 + 1 < w32.heap.size := HS32.out.l5; clear hwB hbB; dsimp only [mkI, mkS]; (try clear q0 q1 q2 q3 q4 q5 q6 q7 f4); have q0 := HSB.out.c4 0; have q1 := HSB.out.c4 1; have q2 := HSB.out.c4 2; have q3 := HSB.out.c4 3; have q4 := HSB.out.c4 4; have q5 := HSB.out.c4 5; have q6 := HSB.out.c4 6; have q7 := HSB.out.c4 7; simp only [List.getElem?_toArray, List.getElem?_cons_zero, List.getElem?_cons_succ] at q0 q1 q2 q3 q4 q5 q6 q7; have f4 := HSB.out.f4)
    | (go_at_call 49; have HSA := HS34; have HONA := HON34; (refine (texts_any m2 (by omega) _ A n c p6 e6 l w.heap.size _ HSA.out.rd (HR.out.below HSA.out.bel (Nat.le_refl _)) hc hn HA34.out (by omega)).mono ?_); rintro e w33 ⟨A2, n2, c2, L2, p7, e7, rfl, hm9, hO9, hI9, hS9, hA9, hr9, hg9⟩; have HS33 := Lib.hid (HSA.out.grow hg9 hr9); have HON33 := Lib.hid (own_row HONA.out hg9 (by omega)); have HOT33 := Lib.hid hO9; have hbHOT : w.heap.size + 1 + 1 < w34.heap.size := HSA.out.l5; have HP7 := Lib.hid hS9; have HA33 := Lib.hid hA9; have HN2 := Lib.hid hm9; have HI2 := Lib.hid hI9; clear hS9 hA9 hI9 hm9 hO9; clear HSA hr9 hg9 HONA; dsimp only [mkI, mkS]; (try clear q0 q1 q2 q3 q4 q5 q6 q7 f4); have q0 := HS33.out.c4 0; have q1 := HS33.out.c4 1; have q2 := HS33.out.c4 2; have q3 := HS33.out.c4 3; have q4 := HS33.out.c4 4; have q5 := HS33.out.c4 5; have q6 := HS33.out.c4 6; have q7 := HS33.out.c4 7; simp only [List.getElem?_toArray, List.getElem?_cons_zero, List.getElem?_cons_succ] at q0 q1 q2 q3 q4 q5 q6 q7; have f4 := HS33.out.f4)
    | (go_at_call 48; have HSA := Lib.hid (show GS w w.heap.size (w.heap.size + 1) (w.heap.size + 1 + 1) 38 #[(.int .i64 0), (.int .i64 0), (.int .i64 0), (.int .i64 0), (.int .i64 0), (.slice none 0 0), (.slice none 0 0), (.slice none 0 0)] 38 #[(.int .i64 (K : Int)), (.int .i64 (V : Int)), (.int .i64 i), (.int .i64 E), (.int .i64 t), (.slice A1 n1 c1), (.slice none 0 0), (.slice none 0 0)] 65 (.slice A n c) p5 e5 (w35.setCell ⟨(w.heap.size + 1), 5, none⟩ (.slice A1 n1 c1)) from HS35.out.set 5 _); have HONA := Lib.hid (own_set (g := (w.heap.size + 1)) (j := 5) (u := (.slice A1 n1 c1)) HON35.out (by omega)); (with_reducible refine (count_any 0 16 2 (by decide) _ A n c p5 e5 l w.heap.size _ HSA.out.rd (HR.out.below HSA.out.bel (Nat.le_refl _)) hn HA35.out (by omega)).mono ?_); rintro e w34 ⟨m2, p6, e6, rfl, hI9, hS9, hA9, hr9, hg9⟩; have HS34 := Lib.hid (HSA.out.grow hg9 hr9); have HON34 := Lib.hid (own_row HONA.out hg9 (by omega)); have HP6 := Lib.hid hS9; have HA34 := Lib.hid hA9; have hm29 : m2 ≤ 16 := (by have h1 := hI9.2; omega); clear hS9 hA9 hI9; clear HSA hr9 hg9 HONA; dsimp only [mkI, mkS]; (try clear q0 q1 q2 q3 q4 q5 q6 q7 f4); have q0 := HS34.out.c4 0; have q1 := HS34.out.c4 1; have q2 := HS34.out.c4 2; have q3 := HS34.out.c4 3; have q4 := HS34.out.c4 4; have q5 := HS34.out.c4 5; have q6 := HS34.out.c4 6; have q7 := HS34.out.c4 7; simp only [List.getElem?_toArray, List.getElem?_cons_zero, List.getElem?_cons_succ] at q0 q1 q2 q3 q4 q5 q6 q7; have f4 := HS34.out.f4)
    | (go_at_call 47; have HSA := HS36; (refine (numbers_any m1 (by omega) _ A n c p4 e4 l w.heap.size _ HSA.out.rd (HR.out.below HSA.out.bel (Nat.le_refl _)) hn HA36.out (by omega)).mono ?_); rintro e w35 ⟨A1, n1, c1, L1, p5, e5, rfl, hm9, hO9, hI9, hS9, hA9, hr9, hg9⟩; have HS35 := Lib.hid (HSA.out.grow hg9 hr9); have HON35 := Lib.hid hO9; have hbHON : w.heap.size + 1 + 1 < w36.heap.size := HSA.out.l5; have HP5 := Lib.hid hS9; have HA35 := Lib.hid hA9; have HN1 := Lib.hid hm9; have HI1 := Lib.hid hI9; clear hS9 hA9 hI9 hm9 hO9; clear HSA hr9 hg9 ; dsimp only [mkI, mkS]; (try clear q0 q1 q2 q3 q4 q5 q6 q7 f4); have q0 := HS35.out.c4 0; have q1 := HS35.out.c4 1; have q2 := HS35.out.c4 2; have q3 := HS35.out.c4 3; have q4 := HS35.out.c4 4; have q5 := HS35.out.c4 5; have q6 := HS35.out.c4 6; have q7 := HS35.out.c4 7; simp only [List.getElem?_toArray, List.getElem?_cons_zero, List.getElem?_cons_succ] at q0 q1 q2 q3 q4 q5 q6 q7; have f4 := HS35.out.f4)
    | (go_at_call 48; have HSA := Lib.hid (show GS w w.heap.size (w.heap.size + 1) (w.heap.size + 1 + 1) 38 #[(.int .i64 0), (.int .i64 0), (.int .i64 0), (.int .i64 0), (.int .i64 0), (.slice none 0 0), (.slice none 0 0), (.slice none 0 0)] 38 #[(.int .i64 (K : Int)), (.int .i64 (V : Int)), (.int .i64 i), (.int .i64 E), (.int .i64 t), (.slice none 0 0), (.slice none 0 0), (.slice none 0 0)] 65 (.slice A n c) p3 e3 (w37.setCell ⟨(w.heap.size + 1), 4, none⟩ (.int .i64 t)) from HS37.out.set 4 _); (with_reducible refine (count_any 0 64 2 (by decide) _ A n c p3 e3 l w.heap.size _ HSA.out.rd (HR.out.below HSA.out.bel (Nat.le_refl _)) hn HA37.out (by omega)).mono ?_); rintro e w36 ⟨m1, p4, e4, rfl, hI9, hS9, hA9, hr9, hg9⟩; have HS36 := Lib.hid (HSA.out.grow hg9 hr9); have HP4 := Lib.hid hS9; have HA36 := Lib.hid hA9; have hm19 : m1 ≤ 64 := (by have h1 := hI9.2; omega); clear hS9 hA9 hI9; clear HSA hr9 hg9 ; dsimp only [mkI, mkS]; (try clear q0 q1 q2 q3 q4 q5 q6 q7 f4); have q0 := HS36.out.c4 0; have q1 := HS36.out.c4 1; have q2 := HS36.out.c4 2; have q3 := HS36.out.c4 3; have q4 := HS36.out.c4 4; have q5 := HS36.out.c4 5; have q6 := HS36.out.c4 6; have q7 := HS36.out.c4 7; simp only [List.getElem?_toArray, List.getElem?_cons_zero, List.getElem?_cons_succ] at q0 q1 q2 q3 q4 q5 q6 q7; have f4 := HS36.out.f4)
    | (go_at_call 45; have HSA := Lib.hid (show GS w w.heap.size (w.heap.size + 1) (w.heap.size + 1 + 1) 38 #[(.int .i64 0), (.int .i64 0), (.int .i64 0), (.int .i64 0), (.int .i64 0), (.slice none 0 0), (.slice none 0 0), (.slice none 0 0)] 38 #[(.int .i64 (K : Int)), (.int .i64 (V : Int)), (.int .i64 i), (.int .i64 E), (.int .i64 0), (.slice none 0 0), (.slice none 0 0), (.slice none 0 0)] 65 (.slice A n c) p2 e2 (w38.setCell ⟨(w.heap.size + 1), 3, none⟩ (.int .i64 E)) from HS38.out.set 3 _); (with_reducible refine (number_any _ A n c p2 e2 l w.heap.size _ HSA.out.rd (HR.out.below HSA.out.bel (Nat.le_refl _)) hn HA38.out).mono ?_); rintro e w37 ⟨t, p3, e3, rfl, hI9, hS9, hA9, hr9, hg9⟩; have HS37 := Lib.hid (HSA.out.grow hg9 hr9); have HP3 := Lib.hid hS9; have HA37 := Lib.hid hA9; clear hS9 hA9 hI9; clear HSA hr9 hg9 ; dsimp only [mkI, mkS]; (try clear q0 q1 q2 q3 q4 q5 q6 q7 f4); have q0 := HS37.out.c4 0; have q1 := HS37.out.c4 1; have q2 := HS37.out.c4 2; have q3 := HS37.out.c4 3; have q4 := HS37.out.c4 4; have q5 := HS37.out.c4 5; have q6 := HS37.out.c4 6; have q7 := HS37.out.c4 7; simp only [List.getElem?_toArray, List.getElem?_cons_zero, List.getElem?_cons_succ] at q0 q1 q2 q3 q4 q5 q6 q7; have f4 := HS37.out.f4)
    | (go_at_call 45; have HSA := Lib.hid (show GS w w.heap.size (w.heap.size + 1) (w.heap.size + 1 + 1) 38 #[(.int .i64 0), (.int .i64 0), (.int .i64 0), (.int .i64 0), (.int .i64 0), (.slice none 0 0), (.slice none 0 0), (.slice none 0 0)] 38 #[(.int .i64 (K : Int)), (.int .i64 (V : Int)), (.int .i64 i), (.int .i64 0), (.int .i64 0), (.slice none 0 0), (.slice none 0 0), (.slice none 0 0)] 65 (.slice A n c) p1 e1 (w39.setCell ⟨(w.heap.size + 1), 2, none⟩ (.int .i64 i)) from HS39.out.set 2 _); (with_reducible refine (number_any _ A n c p1 e1 l w.heap.size _ HSA.out.rd (HR.out.below HSA.out.bel (Nat.le_refl _)) hn HA39.out).mono ?_); rintro e w38 ⟨E, p2, e2, rfl, hI9, hS9, hA9, hr9, hg9⟩; have HS38 := Lib.hid (HSA.out.grow hg9 hr9); have HP2 := Lib.hid hS9; have HA38 := Lib.hid hA9; clear hS9 hA9 hI9; clear HSA hr9 hg9 ; dsimp only [mkI, mkS]; (try clear q0 q1 q2 q3 q4 q5 q6 q7 f4); have q0 := HS38.out.c4 0; have q1 := HS38.out.c4 1; have q2 := HS38.out.c4 2; have q3 := HS38.out.c4 3; have q4 := HS38.out.c4 4; have q5 := HS38.out.c4 5; have q6 := HS38.out.c4 6; have q7 := HS38.out.c4 7; simp only [List.getElem?_toArray, List.getElem?_cons_zero, List.getElem?_cons_succ] at q0 q1 q2 q3 q4 q5 q6 q7; have f4 := HS38.out.f4)
    | (go_at_call 45; have HSA := Lib.hid (show GS w w.heap.size (w.heap.size + 1) (w.heap.size + 1 + 1) 38 #[(.int .i64 0), (.int .i64 0), (.int .i64 0), (.int .i64 0), (.int .i64 0), (.slice none 0 0), (.slice none 0 0), (.slice none 0 0)] 38 #[(.int .i64 (K : Int)), (.int .i64 (V : Int)), (.int .i64 0), (.int .i64 0), (.int .i64 0), (.slice none 0 0), (.slice none 0 0), (.slice none 0 0)] 65 (.slice A n c) p0 e0 ((w40.setCell ⟨(w.heap.size + 1), 0, none⟩ (.int .i64 (K : Int))).setCell ⟨(w.heap.size + 1), 1, none⟩ (.int .i64 (V : Int))) from (HS40.out.set 0 _).set 1 _); (with_reducible refine (number_any _ A n c p0 e0 l w.heap.size _ HSA.out.rd (HR.out.below HSA.out.bel (Nat.le_refl _)) hn HA40.out).mono ?_); rintro e w39 ⟨i, p1, e1, rfl, hI9, hS9, hA9, hr9, hg9⟩; have HS39 := Lib.hid (HSA.out.grow hg9 hr9); have HP1 := Lib.hid hS9; have HA39 := Lib.hid hA9; clear hS9 hA9 hI9; clear HSA hr9 hg9 ; dsimp only [mkI, mkS]; (try clear q0 q1 q2 q3 q4 q5 q6 q7 f4); have q0 := HS39.out.c4 0; have q1 := HS39.out.c4 1; have q2 := HS39.out.c4 2; have q3 := HS39.out.c4 3; have q4 := HS39.out.c4 4; have q5 := HS39.out.c4 5; have q6 := HS39.out.c4 6; have q7 := HS39.out.c4 7; simp only [List.getElem?_toArray, List.getElem?_cons_zero, List.getElem?_cons_succ] at q0 q1 q2 q3 q4 q5 q6 q7; have f4 := HS39.out.f4)
    | (go_at_call 44; (with_reducible refine (head_any _ A n c l w.heap.size _ HS0.out.rd (HR.out.below HS0.out.bel (Nat.le_refl _)) hc hn (by omega)).mono ?_); rw [HKV.out, HE0.out]; rintro e w40 ⟨p0, rfl, hp0, hp1, hp2, hr9, hg9⟩; have HS40 := Lib.hid (HS0.out.grow hg9 hr9); have HA40 := Lib.hid (show At n p0 e0 from ⟨hp1, by omega, fun h => by have h1 := H2N.out (HE0.out.trans h); omega⟩); have HP0 := Lib.hid (show Steps chead l 0 0 ((K : Int), (V : Int)) p0 e0 by have h := steps_head (l := l) (q := p0) (fun h => hp0 (HE0.out.symm.trans h)); rw [HKV.out, HE0.out] at h; exact h); clear hp0 hp1 hp2 hr9 hg9; dsimp only; (try clear q0 q1 q2 q3 q4 q5 q6 q7 f4); have q0 := HS40.out.c4 0; have q1 := HS40.out.c4 1; have q2 := HS40.out.c4 2; have q3 := HS40.out.c4 3; have q4 := HS40.out.c4 4; have q5 := HS40.out.c4 5; have q6 := HS40.out.c4 6; have q7 := HS40.out.c4 7; simp only [List.getElem?_toArray, List.getElem?_cons_zero, List.getElem?_cons_succ] at q0 q1 q2 q3 q4 q5 q6 q7; have f4 := HS40.out.f4))
  have HALL := Lib.hid (show Steps respC l 0 0 ⟨(K : Int), (V : Int), i, E, t, L1, L2, x.data.toList⟩ p8 e8 from steps_resp HP0.out HP1.out HP2.out (by rw [HC3.out]; exact HP3.out) (by refine Steps.count (hchk := ckM_pos 64) (m := m1) (?_ : Steps (cthat cvar (ckM 64)) l p3 e3 m1 p4 e4) (fun h => by have h2 := HP5.out; rw [h] at h2; exact h2) (fun h => HP5.out.keep h); exact HP4.out) (by refine Steps.count (hchk := ckM_pos 16) (m := m2) (?_ : Steps (cthat cvar (ckM 16)) l p5 e5 m2 p6 e6) (fun h => by have h2 := HP7.out; rw [h] at h2; exact h2) (fun h => HP7.out.keep h); exact HP6.out) HP8.out)
  obtain ⟨z, hz⟩ : ∃ z, enE n p8 e8 = z := ⟨_, rfl⟩
  have HEND := Lib.hid (gtP_end HLEN.out HALL.out HA32.out (show _ = z from hz))
  rw [hz] at HS31
  clear hz
  have hl31 : w.heap.size + 1 < w31.heap.size ∧ w.heap.size + 1 + 1 < w31.heap.size ∧ w.heap.size < w31.heap.size := ⟨HS31.out.l4, HS31.out.l5, heap_lt HS31.out.b2⟩
  have r2 := HS31.out.rd.c2
  have z0 := HS31.out.c2 0
  have z1 := HS31.out.c2 1
  have z2 := HS31.out.c2 2
  have z3 := HS31.out.c2 3
  have z4 := HS31.out.c2 4
  have z5 := HS31.out.c2 5
  have z6 := HS31.out.c2 6
  have z7 := HS31.out.c2 7
  simp only [List.getElem?_toArray, List.getElem?_cons_zero, List.getElem?_cons_succ] at z0 z1 z2 z3 z4 z5 z6 z7
  have f2 := HS31.out.f2
  by_cases hz0 : z = 0
  case neg =>
    have hzN : (z != 0) = true := by simp [hz0]
    have HZ := Lib.hid (HEND.out.1 hz0)
    clear hz0
    go_wp2
    refine region_let (fun W9 : World => W9.cell? ⟨(w.heap.size + 1 + 1), 2, none⟩ = some (.int .i64 z)) 99 5 hmx rfl fun ops Q HOPS HQ => ?_
    refine stepQ HOPS 0 1 ?_ (by decide) rfl (by kernel_rfl) (by kernel_rfl) rfl ?_ r2 ?_
    rotate_left
    · intro w9 hS9; go_simp; (first | done | with_reducible rfl)
    try simp only [Act.put, List.setIfInBounds_toArray, List.set_cons_zero, List.set_cons_succ]
    refine stepQ HOPS 1 3 ?_ (by decide) rfl (by kernel_rfl) (by kernel_rfl) rfl ?_ r2 ?_
    rotate_left
    · intro w9 hS9; go_simp; (first | done | with_reducible rfl)
    try simp only [Act.put, List.setIfInBounds_toArray, List.set_cons_zero, List.set_cons_succ]
    refine stepQ HOPS 2 7 ?_ (by decide) rfl (by kernel_rfl) (by kernel_rfl) rfl ?_ r2 ?_
    rotate_left
    · intro w9 hS9; go_simp; (first | done | with_reducible rfl)
    try simp only [Act.put, List.setIfInBounds_toArray, List.set_cons_zero, List.set_cons_succ]
    refine stepC HOPS 3 15 (by decide) rfl (by kernel_rfl) (by kernel_rfl) ?_
    go_simp
    try simp only [Act.put, List.setIfInBounds_toArray, List.set_cons_zero, List.set_cons_succ]
    refine stepQ HOPS 4 31 ?_ (by decide) rfl (by kernel_rfl) (by kernel_rfl) rfl ?_ (by go_simp) ?_
    rotate_left
    · intro w9 hS9; go_simp; (first | done | with_reducible rfl)
    try simp only [Act.put, List.setIfInBounds_toArray, List.set_cons_zero, List.set_cons_succ]
    refine stepE HOPS (by kernel_rfl) (HQ.out _ _ ?_)
    clear HQ HOPS
    clear Q ops
    go_wp2
    refine bodyPost_ret (v := .tuple #[respV nilP none 0 0 none 0 0 none 0 0, .int .i64 z]) (by simp [results, Tryd.results24, go_sem, respV, nilP, z0, z1, z2, z3, z4, z5, z6, z7]) rfl ?_
    rw [HZ.out]
    exact ⟨none, 0, 0, none, 0, 0, none, 0, 0, rfl, Three.nil _, (put8_bel HS31.out.bel (Nat.le_refl _) _ _ _ _ _ _ _ _).drew⟩
  subst hz0
  obtain ⟨y2, hz2⟩ : ∃ y2, ckP ⟨(K : Int), (V : Int), i, E, t, L1, L2, x.data.toList⟩ = y2 := ⟨_, rfl⟩
  have HCK := Lib.hid hz2
  have HL1 := Lib.hid (rdL_nums (HON31.out.rd nS) HI1.out)
  have HL2 := Lib.hid (rdL_strs (HOT31.out.rd sS) (fun x hx => Nat.le_trans (HI2.out x hx) (by decide)))
  have hN1 := HN1.out
  have hN2 := HN2.out
  have HL3 := Lib.hid ((bytes_rd HX31.out rfl).more (B' := w31.heap.size) (heap_lt HX31.out))
  have hx48 := HX48.out
  have q0 := HS31.out.c4 0
  have q1 := HS31.out.c4 1
  have q2 := HS31.out.c4 2
  have q3 := HS31.out.c4 3
  have q4 := HS31.out.c4 4
  have q5 := HS31.out.c4 5
  have q6 := HS31.out.c4 6
  have q7 := HS31.out.c4 7
  simp only [List.getElem?_toArray, List.getElem?_cons_zero, List.getElem?_cons_succ] at q0 q1 q2 q3 q4 q5 q6 q7
  by_cases hck : y2 = 0
  case neg =>
    have hz2N : (y2 != 0) = true := by simp [hck]
    have HZ := Lib.hid (HEND.out.2.1 rfl (by rw [hz2]; exact hck))
    clear hz2 hck
    go_wp2_with (go_at_call 70; (refine (checkResp_any (K : Int) (V : Int) i E t A1 n1 c1 L1 A2 n2 c2 L2 (some ⟨w32.heap.size, 0, none⟩) x.size cB x.data.toList w31 HL1.out (by omega) HL2.out (by omega) (by omega) HL3.out.len).mono ?_); rw [HCK.out]; rintro e w9 ⟨rfl, hb9⟩; have HS9 := Lib.hid (HS31.out.below hb9); have HON9 := Lib.hid (OwnF.below HON31.out hb9); have HOT9 := Lib.hid (OwnF.below HOT31.out hb9); have HX9 := Lib.hid (blk_below HX31.out hb9); have z0 := HS9.out.c2 0; have z1 := HS9.out.c2 1; have z2 := HS9.out.c2 2; have z3 := HS9.out.c2 3; have z4 := HS9.out.c2 4; have z5 := HS9.out.c2 5; have z6 := HS9.out.c2 6; have z7 := HS9.out.c2 7; have q0 := HS9.out.c4 0; have q1 := HS9.out.c4 1; have q2 := HS9.out.c4 2; have q3 := HS9.out.c4 3; have q4 := HS9.out.c4 4; have q5 := HS9.out.c4 5; have q6 := HS9.out.c4 6; have q7 := HS9.out.c4 7; simp only [List.getElem?_toArray, List.getElem?_cons_zero, List.getElem?_cons_succ] at z0 z1 z2 z3 z4 z5 z6 z7 q0 q1 q2 q3 q4 q5 q6 q7; have f2 := HS9.out.f2; have f4 := HS9.out.f4; clear hb9)
    refine bodyPost_ret (v := .tuple #[respV nilP none 0 0 none 0 0 none 0 0, .int .i64 1]) (by simp [results, Tryd.results24, go_sem, respV, nilP, z0, z1, z2, z3, z4, z5, z6, z7]) rfl ?_
    rw [HZ.out]
    exact ⟨none, 0, 0, none, 0, 0, none, 0, 0, rfl, Three.nil _, put8_bel HS9.out.bel (Nat.le_refl _) _ _ _ _ _ _ _ _⟩
  have HZ := Lib.hid (HEND.out.2.2 rfl (by rw [hz2]; exact hck))
  subst hck
  clear hz2
  go_wp2_with (go_at_call 70; (refine (checkResp_any (K : Int) (V : Int) i E t A1 n1 c1 L1 A2 n2 c2 L2 (some ⟨w32.heap.size, 0, none⟩) x.size cB x.data.toList w31 HL1.out (by omega) HL2.out (by omega) (by omega) HL3.out.len).mono ?_); rw [HCK.out]; rintro e w9 ⟨rfl, hb9⟩; have HS9 := Lib.hid (HS31.out.below hb9); have HON9 := Lib.hid (OwnF.below HON31.out hb9); have HOT9 := Lib.hid (OwnF.below HOT31.out hb9); have HX9 := Lib.hid (blk_below HX31.out hb9); have z0 := HS9.out.c2 0; have z1 := HS9.out.c2 1; have z2 := HS9.out.c2 2; have z3 := HS9.out.c2 3; have z4 := HS9.out.c2 4; have z5 := HS9.out.c2 5; have z6 := HS9.out.c2 6; have z7 := HS9.out.c2 7; have q0 := HS9.out.c4 0; have q1 := HS9.out.c4 1; have q2 := HS9.out.c4 2; have q3 := HS9.out.c4 3; have q4 := HS9.out.c4 4; have q5 := HS9.out.c4 5; have q6 := HS9.out.c4 6; have q7 := HS9.out.c4 7; simp only [List.getElem?_toArray, List.getElem?_cons_zero, List.getElem?_cons_succ] at z0 z1 z2 z3 z4 z5 z6 z7 q0 q1 q2 q3 q4 q5 q6 q7; have f2 := HS9.out.f2; have f4 := HS9.out.f4; clear hb9)
  refine bodyPost_ret (v := .tuple #[respV ⟨(K : Int), (V : Int), i, E, t, L1, L2, x.data.toList⟩ A1 n1 c1 A2 n2 c2 (some ⟨w32.heap.size, 0, none⟩) x.size cB, .int .i64 0]) (by simp [results, Tryd.results24, go_sem, respV, z0, z1, z2, z3, z4, z5, z6, z7]) rfl ?_
  rw [HZ.out]
  refine ⟨A1, n1, c1, A2, n2, c2, (some ⟨w32.heap.size, 0, none⟩), x.size, cB, rfl, ⟨rdL_nums ((own_row HON9.out (put8_gb w9 w.heap.size _ _ _ _ _ _ _ _) (by omega)).rd nS) HI1.out, rdL_strs ((own_row HOT9.out (put8_gb w9 w.heap.size _ _ _ _ _ _ _ _) (by omega)).rd sS) (fun x hx => Nat.le_trans (HI2.out x hx) (by decide)), (bytes_rd (blk_grow HX9.out (put8_gb w9 w.heap.size _ _ _ _ _ _ _ _) (by omega)) rfl).more (heap_lt (blk_grow HX9.out (put8_gb w9 w.heap.size _ _ _ _ _ _ _ _) (by omega))), by omega, by omega, by omega⟩, put8_bel HS9.out.bel (Nat.le_refl _) _ _ _ _ _ _ _ _⟩
set_option maxRecDepth 100000 in
set_option maxHeartbeats 8000000 in
theorem GetResp_n (A : Option Addr) (n c : Nat) (l : List UInt8) (K V : Nat) (w : World) (hr : Rd w w.heap.size A n l) (hc : n ≤ c) (hn : n ≤ 1099511627776) (hkv : hdV l = ((K : Int), (V : Int))) (_hK : K ≤ 12) (hV : V = 0) :
    Calls Tryd.prog 24 #[.slice A n c] w (GPR w (gtP l)) := by
  have HR := Lib.hid hr
  have HLEN := Lib.hid hr.len
  have HKV := Lib.hid hkv
  obtain ⟨e0, he0⟩ : ∃ e0, hdE l = e0 := ⟨_, rfl⟩
  have HE0 := Lib.hid he0
  have h2n : hdE l = 0 → 2 ≤ n := by
    intro h
    unfold hdE at h
    by_cases h3 : (l.length : Int) < 2
    · rw [if_pos h3] at h; cases h
    · have := hr.len; omega
  have H2N := Lib.hid h2n
  clear hr hkv he0 h2n
  have HC3 := Lib.hid (show waitC (V : Int) = cnone 0 by unfold waitC; rw [if_neg (by omega)])
  have hge : ¬ (1 : Int) ≤ (V : Int) := by omega
  clear hV
  have HS0 := Lib.hid (show GS w w.heap.size (w.heap.size + 1) (w.heap.size + 1 + 1) 38 #[(.int .i64 0), (.int .i64 0), (.int .i64 0), (.int .i64 0), (.int .i64 0), (.slice none 0 0), (.slice none 0 0), (.slice none 0 0)] 38 #[(.int .i64 0), (.int .i64 0), (.int .i64 0), (.int .i64 0), (.int .i64 0), (.slice none 0 0), (.slice none 0 0), (.slice none 0 0)] 65 (.slice A n c) 0 0 (((w.alloc (.cells #[(.int .i64 0), (.int .i64 0), (.int .i64 0), (.int .i64 0), (.int .i64 0), (.slice none 0 0), (.slice none 0 0), (.slice none 0 0)] 38)).alloc (.cells #[(.int .i64 0), (.int .i64 0), (.int .i64 0), (.int .i64 0), (.int .i64 0), (.slice none 0 0), (.slice none 0 0), (.slice none 0 0)] 38)).alloc (.cells #[.slice A n c, .int .i64 0, .int .i64 0] 65)) from GS_start _ _ _ _ _ _ _)
  have hmx : Tryd.prog.follows .mixedOrders = true := by kernel_rfl
  go_enter Tryd.func24, Tryd.ntmps24
  go_upto_region 12 with (first
    | (go_at_call 50; have HSA := Lib.hid (show GS w w.heap.size (w.heap.size + 1) (w.heap.size + 1 + 1) 38 #[(.int .i64 0), (.int .i64 0), (.int .i64 0), (.int .i64 0), (.int .i64 0), (.slice none 0 0), (.slice none 0 0), (.slice none 0 0)] 38 #[(.int .i64 (K : Int)), (.int .i64 (V : Int)), (.int .i64 i), (.int .i64 E), (.int .i64 0), (.slice A1 n1 c1), (.slice A2 n2 c2), (.slice (some ⟨w33.heap.size, 0, none⟩) x.size cB)] 65 (.slice A n c) p8 e8 (wB.setCell ⟨(w.heap.size + 1), 7, none⟩ (.slice (some ⟨w33.heap.size, 0, none⟩) x.size cB)) from HSB.out.set 7 _); have HONA := Lib.hid (own_set (g := (w.heap.size + 1)) (j := 7) (u := (.slice (some ⟨w33.heap.size, 0, none⟩) x.size cB)) HONB.out (by omega)); have HOTA := Lib.hid (own_set (g := (w.heap.size + 1)) (j := 7) (u := (.slice (some ⟨w33.heap.size, 0, none⟩) x.size cB)) HOTB.out (by omega)); have HXA := Lib.hid (blk_set (g := (w.heap.size + 1)) (j := 7) (v := (.slice (some ⟨w33.heap.size, 0, none⟩) x.size cB)) HXB.out (by omega)); (with_reducible refine (end_any _ A n c p8 e8 _ HSA.out.rd).mono ?_); rintro e w32 ⟨rfl, hr9, hg9⟩; have HS32 := Lib.hid (HSA.out.grow hg9 hr9); have HON32 := Lib.hid (own_row HONA.out hg9 (by omega)); have HOT32 := Lib.hid (own_row HOTA.out hg9 (by omega)); have HX32 := Lib.hid (blk_grow HXA.out hg9 (by omega)); clear HSA hr9 hg9 HONA HOTA HXA)
    | (go_at_call 46; have HSA := Lib.hid (show GS w w.heap.size (w.heap.size + 1) (w.heap.size + 1 + 1) 38 #[(.int .i64 0), (.int .i64 0), (.int .i64 0), (.int .i64 0), (.int .i64 0), (.slice none 0 0), (.slice none 0 0), (.slice none 0 0)] 38 #[(.int .i64 (K : Int)), (.int .i64 (V : Int)), (.int .i64 i), (.int .i64 E), (.int .i64 0), (.slice A1 n1 c1), (.slice A2 n2 c2), (.slice none 0 0)] 65 (.slice A n c) p7 e7 (w34.setCell ⟨(w.heap.size + 1), 6, none⟩ (.slice A2 n2 c2)) from HS34.out.set 6 _); have HONA := Lib.hid (own_set (g := (w.heap.size + 1)) (j := 6) (u := (.slice A2 n2 c2)) HON34.out (by omega)); have HOTA := Lib.hid (own_set (g := (w.heap.size + 1)) (j := 6) (u := (.slice A2 n2 c2)) HOT34.out (by omega)); (refine (blob_any _ A n c 4096 p7 e7 l w.heap.size _ HSA.out.rd (HR.out.below HSA.out.bel (Nat.le_refl _)) hc hn HA34.out).mono ?_); rintro e w33 ⟨x, p8, e8, rfl, hI9, hS9, hA9, hr9, hg9⟩; have HS33 := Lib.hid (HSA.out.grow hg9 hr9); have HON33 := Lib.hid (own_row HONA.out hg9 (by omega)); have HOT33 := Lib.hid (own_row HOTA.out hg9 (by omega)); have HP8 := Lib.hid hS9; have HA33 := Lib.hid hA9; have HX48 := Lib.hid hI9; clear hS9 hA9 hI9; clear HSA hr9 hg9 HONA HOTA; obtain ⟨wB, hwB⟩ : ∃ wB, Lib.bytesWorld w33 5 x = wB := ⟨_, rfl⟩; obtain ⟨cB, hcB⟩ : ∃ cB, grownCap w33 x.size 0 5 = cB := ⟨_, rfl⟩; have rc := Lib.run_convert_string_bytes (P := Tryd.prog) w33 9 24 5 x Tryd.underlying9 Tryd.underlying24 Tryd.underlying5; rw [hwB, hcB] at rc; have hbB : Below w33.heap.size w33 wB := hwB ▸ bytes_below w33 _ x; have HXB := Lib.hid (hwB ▸ Lib.bytesWorld_at_new w33 5 x); have HSB := Lib.hid (HS33.out.below hbB); have HONB := Lib.hid (OwnF.below HON33.out hbB); have HOTB := Lib.hid (OwnF.below HOT33.out hbB); have hlB : w.heap.size + 1 + 1 < w33.heap.size := HS33.out.l5; clear hwB hbB; dsimp only [mkI, mkS]; (try clear q0 q1 q2 q3 q4 q5 q6 q7 f4); have q0 := HSB.out.c4 0; have q1 := HSB.out.c4 1; have q2 := HSB.out.c4 2; have q3 := HSB.out.c4 3; have q4 := HSB.out.c4 4; have q5 := HSB.out.c4 5; have q6 := HSB.out.c4 6; have q7 := HSB.out.c4 7; simp only [List.getElem?_toArray, List.getElem?_cons_zero, List.getElem?_cons_succ] at q0 q1 q2 q3 q4 q5 q6 q7; have f4 := HSB.out.f4)
    | (go_at_call 49; have HSA := HS35; have HONA := HON35; (refine (texts_any m2 (by omega) _ A n c p6 e6 l w.heap.size _ HSA.out.rd (HR.out.below HSA.out.bel (Nat.le_refl _)) hc hn HA35.out (by omega)).mono ?_); rintro e w34 ⟨A2, n2, c2, L2, p7, e7, rfl, hm9, hO9, hI9, hS9, hA9, hr9, hg9⟩; have HS34 := Lib.hid (HSA.out.grow hg9 hr9); have HON34 := Lib.hid (own_row HONA.out hg9 (by omega)); have HOT34 := Lib.hid hO9; have hbHOT : w.heap.size + 1 + 1 < w35.heap.size := HSA.out.l5; have HP7 := Lib.hid hS9; have HA34 := Lib.hid hA9; have HN2 := Lib.hid hm9; have HI2 := Lib.hid hI9; clear hS9 hA9 hI9 hm9 hO9; clear HSA hr9 hg9 HONA; dsimp only [mkI, mkS]; (try clear q0 q1 q2 q3 q4 q5 q6 q7 f4); have q0 := HS34.out.c4 0; have q1 := HS34.out.c4 1; have q2 := HS34.out.c4 2; have q3 := HS34.out.c4 3; have q4 := HS34.out.c4 4; have q5 := HS34.out.c4 5; have q6 := HS34.out.c4 6; have q7 := HS34.out.c4 7; simp only [List.getElem?_toArray, List.getElem?_cons_zero, List.getElem?_cons_succ] at q0 q1 q2 q3 q4 q5 q6 q7; have f4 := HS34.out.f4)
    | (go_at_call 48; have HSA := Lib.hid (show GS w w.heap.size (w.heap.size + 1) (w.heap.size + 1 + 1) 38 #[(.int .i64 0), (.int .i64 0), (.int .i64 0), (.int .i64 0), (.int .i64 0), (.slice none 0 0), (.slice none 0 0), (.slice none 0 0)] 38 #[(.int .i64 (K : Int)), (.int .i64 (V : Int)), (.int .i64 i), (.int .i64 E), (.int .i64 0), (.slice A1 n1 c1), (.slice none 0 0), (.slice none 0 0)] 65 (.slice A n c) p5 e5 (w36.setCell ⟨(w.heap.size + 1), 5, none⟩ (.slice A1 n1 c1)) from HS36.out.set 5 _); have HONA := Lib.hid (own_set (g := (w.heap.size + 1)) (j := 5) (u := (.slice A1 n1 c1)) HON36.out (by omega)); (with_reducible refine (count_any 0 16 2 (by decide) _ A n c p5 e5 l w.heap.size _ HSA.out.rd (HR.out.below HSA.out.bel (Nat.le_refl _)) hn HA36.out (by omega)).mono ?_); rintro e w35 ⟨m2, p6, e6, rfl, hI9, hS9, hA9, hr9, hg9⟩; have HS35 := Lib.hid (HSA.out.grow hg9 hr9); have HON35 := Lib.hid (own_row HONA.out hg9 (by omega)); have HP6 := Lib.hid hS9; have HA35 := Lib.hid hA9; have hm29 : m2 ≤ 16 := (by have h1 := hI9.2; omega); clear hS9 hA9 hI9; clear HSA hr9 hg9 HONA; dsimp only [mkI, mkS]; (try clear q0 q1 q2 q3 q4 q5 q6 q7 f4); have q0 := HS35.out.c4 0; have q1 := HS35.out.c4 1; have q2 := HS35.out.c4 2; have q3 := HS35.out.c4 3; have q4 := HS35.out.c4 4; have q5 := HS35.out.c4 5; have q6 := HS35.out.c4 6; have q7 := HS35.out.c4 7; simp only [List.getElem?_toArray, List.getElem?_cons_zero, List.getElem?_cons_succ] at q0 q1 q2 q3 q4 q5 q6 q7; have f4 := HS35.out.f4)
    | (go_at_call 47; have HSA := HS37; (refine (numbers_any m1 (by omega) _ A n c p4 e4 l w.heap.size _ HSA.out.rd (HR.out.below HSA.out.bel (Nat.le_refl _)) hn HA37.out (by omega)).mono ?_); rintro e w36 ⟨A1, n1, c1, L1, p5, e5, rfl, hm9, hO9, hI9, hS9, hA9, hr9, hg9⟩; have HS36 := Lib.hid (HSA.out.grow hg9 hr9); have HON36 := Lib.hid hO9; have hbHON : w.heap.size + 1 + 1 < w37.heap.size := HSA.out.l5; have HP5 := Lib.hid hS9; have HA36 := Lib.hid hA9; have HN1 := Lib.hid hm9; have HI1 := Lib.hid hI9; clear hS9 hA9 hI9 hm9 hO9; clear HSA hr9 hg9 ; dsimp only [mkI, mkS]; (try clear q0 q1 q2 q3 q4 q5 q6 q7 f4); have q0 := HS36.out.c4 0; have q1 := HS36.out.c4 1; have q2 := HS36.out.c4 2; have q3 := HS36.out.c4 3; have q4 := HS36.out.c4 4; have q5 := HS36.out.c4 5; have q6 := HS36.out.c4 6; have q7 := HS36.out.c4 7; simp only [List.getElem?_toArray, List.getElem?_cons_zero, List.getElem?_cons_succ] at q0 q1 q2 q3 q4 q5 q6 q7; have f4 := HS36.out.f4)
    | (go_at_call 48; have HSA := Lib.hid (show GS w w.heap.size (w.heap.size + 1) (w.heap.size + 1 + 1) 38 #[(.int .i64 0), (.int .i64 0), (.int .i64 0), (.int .i64 0), (.int .i64 0), (.slice none 0 0), (.slice none 0 0), (.slice none 0 0)] 38 #[(.int .i64 (K : Int)), (.int .i64 (V : Int)), (.int .i64 i), (.int .i64 E), (.int .i64 0), (.slice none 0 0), (.slice none 0 0), (.slice none 0 0)] 65 (.slice A n c) p2 e2 (w38.setCell ⟨(w.heap.size + 1), 3, none⟩ (.int .i64 E)) from HS38.out.set 3 _); (with_reducible refine (count_any 0 64 2 (by decide) _ A n c p2 e2 l w.heap.size _ HSA.out.rd (HR.out.below HSA.out.bel (Nat.le_refl _)) hn HA38.out (by omega)).mono ?_); rintro e w37 ⟨m1, p4, e4, rfl, hI9, hS9, hA9, hr9, hg9⟩; have HS37 := Lib.hid (HSA.out.grow hg9 hr9); have HP4 := Lib.hid hS9; have HA37 := Lib.hid hA9; have hm19 : m1 ≤ 64 := (by have h1 := hI9.2; omega); clear hS9 hA9 hI9; clear HSA hr9 hg9 ; dsimp only [mkI, mkS]; (try clear q0 q1 q2 q3 q4 q5 q6 q7 f4); have q0 := HS37.out.c4 0; have q1 := HS37.out.c4 1; have q2 := HS37.out.c4 2; have q3 := HS37.out.c4 3; have q4 := HS37.out.c4 4; have q5 := HS37.out.c4 5; have q6 := HS37.out.c4 6; have q7 := HS37.out.c4 7; simp only [List.getElem?_toArray, List.getElem?_cons_zero, List.getElem?_cons_succ] at q0 q1 q2 q3 q4 q5 q6 q7; have f4 := HS37.out.f4)
    | (go_at_call 45; have HSA := Lib.hid (show GS w w.heap.size (w.heap.size + 1) (w.heap.size + 1 + 1) 38 #[(.int .i64 0), (.int .i64 0), (.int .i64 0), (.int .i64 0), (.int .i64 0), (.slice none 0 0), (.slice none 0 0), (.slice none 0 0)] 38 #[(.int .i64 (K : Int)), (.int .i64 (V : Int)), (.int .i64 i), (.int .i64 0), (.int .i64 0), (.slice none 0 0), (.slice none 0 0), (.slice none 0 0)] 65 (.slice A n c) p1 e1 (w39.setCell ⟨(w.heap.size + 1), 2, none⟩ (.int .i64 i)) from HS39.out.set 2 _); (with_reducible refine (number_any _ A n c p1 e1 l w.heap.size _ HSA.out.rd (HR.out.below HSA.out.bel (Nat.le_refl _)) hn HA39.out).mono ?_); rintro e w38 ⟨E, p2, e2, rfl, hI9, hS9, hA9, hr9, hg9⟩; have HS38 := Lib.hid (HSA.out.grow hg9 hr9); have HP2 := Lib.hid hS9; have HA38 := Lib.hid hA9; clear hS9 hA9 hI9; clear HSA hr9 hg9 ; dsimp only [mkI, mkS]; (try clear q0 q1 q2 q3 q4 q5 q6 q7 f4); have q0 := HS38.out.c4 0; have q1 := HS38.out.c4 1; have q2 := HS38.out.c4 2; have q3 := HS38.out.c4 3; have q4 := HS38.out.c4 4; have q5 := HS38.out.c4 5; have q6 := HS38.out.c4 6; have q7 := HS38.out.c4 7; simp only [List.getElem?_toArray, List.getElem?_cons_zero, List.getElem?_cons_succ] at q0 q1 q2 q3 q4 q5 q6 q7; have f4 := HS38.out.f4)
    | (go_at_call 45; have HSA := Lib.hid (show GS w w.heap.size (w.heap.size + 1) (w.heap.size + 1 + 1) 38 #[(.int .i64 0), (.int .i64 0), (.int .i64 0), (.int .i64 0), (.int .i64 0), (.slice none 0 0), (.slice none 0 0), (.slice none 0 0)] 38 #[(.int .i64 (K : Int)), (.int .i64 (V : Int)), (.int .i64 0), (.int .i64 0), (.int .i64 0), (.slice none 0 0), (.slice none 0 0), (.slice none 0 0)] 65 (.slice A n c) p0 e0 ((w40.setCell ⟨(w.heap.size + 1), 0, none⟩ (.int .i64 (K : Int))).setCell ⟨(w.heap.size + 1), 1, none⟩ (.int .i64 (V : Int))) from (HS40.out.set 0 _).set 1 _); (with_reducible refine (number_any _ A n c p0 e0 l w.heap.size _ HSA.out.rd (HR.out.below HSA.out.bel (Nat.le_refl _)) hn HA40.out).mono ?_); rintro e w39 ⟨i, p1, e1, rfl, hI9, hS9, hA9, hr9, hg9⟩; have HS39 := Lib.hid (HSA.out.grow hg9 hr9); have HP1 := Lib.hid hS9; have HA39 := Lib.hid hA9; clear hS9 hA9 hI9; clear HSA hr9 hg9 ; dsimp only [mkI, mkS]; (try clear q0 q1 q2 q3 q4 q5 q6 q7 f4); have q0 := HS39.out.c4 0; have q1 := HS39.out.c4 1; have q2 := HS39.out.c4 2; have q3 := HS39.out.c4 3; have q4 := HS39.out.c4 4; have q5 := HS39.out.c4 5; have q6 := HS39.out.c4 6; have q7 := HS39.out.c4 7; simp only [List.getElem?_toArray, List.getElem?_cons_zero, List.getElem?_cons_succ] at q0 q1 q2 q3 q4 q5 q6 q7; have f4 := HS39.out.f4)
    | (go_at_call 44; (with_reducible refine (head_any _ A n c l w.heap.size _ HS0.out.rd (HR.out.below HS0.out.bel (Nat.le_refl _)) hc hn (by omega)).mono ?_); rw [HKV.out, HE0.out]; rintro e w40 ⟨p0, rfl, hp0, hp1, hp2, hr9, hg9⟩; have HS40 := Lib.hid (HS0.out.grow hg9 hr9); have HA40 := Lib.hid (show At n p0 e0 from ⟨hp1, by omega, fun h => by have h1 := H2N.out (HE0.out.trans h); omega⟩); have HP0 := Lib.hid (show Steps chead l 0 0 ((K : Int), (V : Int)) p0 e0 by have h := steps_head (l := l) (q := p0) (fun h => hp0 (HE0.out.symm.trans h)); rw [HKV.out, HE0.out] at h; exact h); clear hp0 hp1 hp2 hr9 hg9; dsimp only; (try clear q0 q1 q2 q3 q4 q5 q6 q7 f4); have q0 := HS40.out.c4 0; have q1 := HS40.out.c4 1; have q2 := HS40.out.c4 2; have q3 := HS40.out.c4 3; have q4 := HS40.out.c4 4; have q5 := HS40.out.c4 5; have q6 := HS40.out.c4 6; have q7 := HS40.out.c4 7; simp only [List.getElem?_toArray, List.getElem?_cons_zero, List.getElem?_cons_succ] at q0 q1 q2 q3 q4 q5 q6 q7; have f4 := HS40.out.f4))
  have HALL := Lib.hid (show Steps respC l 0 0 ⟨(K : Int), (V : Int), i, E, 0, L1, L2, x.data.toList⟩ p8 e8 from steps_resp HP0.out HP1.out HP2.out (by rw [HC3.out]; exact .none) (by refine Steps.count (hchk := ckM_pos 64) (m := m1) (?_ : Steps (cthat cvar (ckM 64)) l p2 e2 m1 p4 e4) (fun h => by have h2 := HP5.out; rw [h] at h2; exact h2) (fun h => HP5.out.keep h); exact HP4.out) (by refine Steps.count (hchk := ckM_pos 16) (m := m2) (?_ : Steps (cthat cvar (ckM 16)) l p5 e5 m2 p6 e6) (fun h => by have h2 := HP7.out; rw [h] at h2; exact h2) (fun h => HP7.out.keep h); exact HP6.out) HP8.out)
  obtain ⟨z, hz⟩ : ∃ z, enE n p8 e8 = z := ⟨_, rfl⟩
  have HEND := Lib.hid (gtP_end HLEN.out HALL.out HA33.out (show _ = z from hz))
  rw [hz] at HS32
  clear hz
  have hl32 : w.heap.size + 1 < w32.heap.size ∧ w.heap.size + 1 + 1 < w32.heap.size ∧ w.heap.size < w32.heap.size := ⟨HS32.out.l4, HS32.out.l5, heap_lt HS32.out.b2⟩
  have r2 := HS32.out.rd.c2
  have z0 := HS32.out.c2 0
  have z1 := HS32.out.c2 1
  have z2 := HS32.out.c2 2
  have z3 := HS32.out.c2 3
  have z4 := HS32.out.c2 4
  have z5 := HS32.out.c2 5
  have z6 := HS32.out.c2 6
  have z7 := HS32.out.c2 7
  simp only [List.getElem?_toArray, List.getElem?_cons_zero, List.getElem?_cons_succ] at z0 z1 z2 z3 z4 z5 z6 z7
  have f2 := HS32.out.f2
  by_cases hz0 : z = 0
  case neg =>
    have hzN : (z != 0) = true := by simp [hz0]
    have HZ := Lib.hid (HEND.out.1 hz0)
    clear hz0
    go_wp2
    refine region_let (fun W9 : World => W9.cell? ⟨(w.heap.size + 1 + 1), 2, none⟩ = some (.int .i64 z)) 99 5 hmx rfl fun ops Q HOPS HQ => ?_
    refine stepQ HOPS 0 1 ?_ (by decide) rfl (by kernel_rfl) (by kernel_rfl) rfl ?_ r2 ?_
    rotate_left
    · intro w9 hS9; go_simp; (first | done | with_reducible rfl)
    try simp only [Act.put, List.setIfInBounds_toArray, List.set_cons_zero, List.set_cons_succ]
    refine stepQ HOPS 1 3 ?_ (by decide) rfl (by kernel_rfl) (by kernel_rfl) rfl ?_ r2 ?_
    rotate_left
    · intro w9 hS9; go_simp; (first | done | with_reducible rfl)
    try simp only [Act.put, List.setIfInBounds_toArray, List.set_cons_zero, List.set_cons_succ]
    refine stepQ HOPS 2 7 ?_ (by decide) rfl (by kernel_rfl) (by kernel_rfl) rfl ?_ r2 ?_
    rotate_left
    · intro w9 hS9; go_simp; (first | done | with_reducible rfl)
    try simp only [Act.put, List.setIfInBounds_toArray, List.set_cons_zero, List.set_cons_succ]
    refine stepC HOPS 3 15 (by decide) rfl (by kernel_rfl) (by kernel_rfl) ?_
    go_simp
    try simp only [Act.put, List.setIfInBounds_toArray, List.set_cons_zero, List.set_cons_succ]
    refine stepQ HOPS 4 31 ?_ (by decide) rfl (by kernel_rfl) (by kernel_rfl) rfl ?_ (by go_simp) ?_
    rotate_left
    · intro w9 hS9; go_simp; (first | done | with_reducible rfl)
    try simp only [Act.put, List.setIfInBounds_toArray, List.set_cons_zero, List.set_cons_succ]
    refine stepE HOPS (by kernel_rfl) (HQ.out _ _ ?_)
    clear HQ HOPS
    clear Q ops
    go_wp2
    refine bodyPost_ret (v := .tuple #[respV nilP none 0 0 none 0 0 none 0 0, .int .i64 z]) (by simp [results, Tryd.results24, go_sem, respV, nilP, z0, z1, z2, z3, z4, z5, z6, z7]) rfl ?_
    rw [HZ.out]
    exact ⟨none, 0, 0, none, 0, 0, none, 0, 0, rfl, Three.nil _, (put8_bel HS32.out.bel (Nat.le_refl _) _ _ _ _ _ _ _ _).drew⟩
  subst hz0
  obtain ⟨y2, hz2⟩ : ∃ y2, ckP ⟨(K : Int), (V : Int), i, E, 0, L1, L2, x.data.toList⟩ = y2 := ⟨_, rfl⟩
  have HCK := Lib.hid hz2
  have HL1 := Lib.hid (rdL_nums (HON32.out.rd nS) HI1.out)
  have HL2 := Lib.hid (rdL_strs (HOT32.out.rd sS) (fun x hx => Nat.le_trans (HI2.out x hx) (by decide)))
  have hN1 := HN1.out
  have hN2 := HN2.out
  have HL3 := Lib.hid ((bytes_rd HX32.out rfl).more (B' := w32.heap.size) (heap_lt HX32.out))
  have hx48 := HX48.out
  have q0 := HS32.out.c4 0
  have q1 := HS32.out.c4 1
  have q2 := HS32.out.c4 2
  have q3 := HS32.out.c4 3
  have q4 := HS32.out.c4 4
  have q5 := HS32.out.c4 5
  have q6 := HS32.out.c4 6
  have q7 := HS32.out.c4 7
  simp only [List.getElem?_toArray, List.getElem?_cons_zero, List.getElem?_cons_succ] at q0 q1 q2 q3 q4 q5 q6 q7
  by_cases hck : y2 = 0
  case neg =>
    have hz2N : (y2 != 0) = true := by simp [hck]
    have HZ := Lib.hid (HEND.out.2.1 rfl (by rw [hz2]; exact hck))
    clear hz2 hck
    go_wp2_with (go_at_call 70; (refine (checkResp_any (K : Int) (V : Int) i E 0 A1 n1 c1 L1 A2 n2 c2 L2 (some ⟨w33.heap.size, 0, none⟩) x.size cB x.data.toList w32 HL1.out (by omega) HL2.out (by omega) (by omega) HL3.out.len).mono ?_); rw [HCK.out]; rintro e w9 ⟨rfl, hb9⟩; have HS9 := Lib.hid (HS32.out.below hb9); have HON9 := Lib.hid (OwnF.below HON32.out hb9); have HOT9 := Lib.hid (OwnF.below HOT32.out hb9); have HX9 := Lib.hid (blk_below HX32.out hb9); have z0 := HS9.out.c2 0; have z1 := HS9.out.c2 1; have z2 := HS9.out.c2 2; have z3 := HS9.out.c2 3; have z4 := HS9.out.c2 4; have z5 := HS9.out.c2 5; have z6 := HS9.out.c2 6; have z7 := HS9.out.c2 7; have q0 := HS9.out.c4 0; have q1 := HS9.out.c4 1; have q2 := HS9.out.c4 2; have q3 := HS9.out.c4 3; have q4 := HS9.out.c4 4; have q5 := HS9.out.c4 5; have q6 := HS9.out.c4 6; have q7 := HS9.out.c4 7; simp only [List.getElem?_toArray, List.getElem?_cons_zero, List.getElem?_cons_succ] at z0 z1 z2 z3 z4 z5 z6 z7 q0 q1 q2 q3 q4 q5 q6 q7; have f2 := HS9.out.f2; have f4 := HS9.out.f4; clear hb9)
    refine bodyPost_ret (v := .tuple #[respV nilP none 0 0 none 0 0 none 0 0, .int .i64 1]) (by simp [results, Tryd.results24, go_sem, respV, nilP, z0, z1, z2, z3, z4, z5, z6, z7]) rfl ?_
    rw [HZ.out]
    exact ⟨none, 0, 0, none, 0, 0, none, 0, 0, rfl, Three.nil _, put8_bel HS9.out.bel (Nat.le_refl _) _ _ _ _ _ _ _ _⟩
  have HZ := Lib.hid (HEND.out.2.2 rfl (by rw [hz2]; exact hck))
  subst hck
  clear hz2
  go_wp2_with (go_at_call 70; (refine (checkResp_any (K : Int) (V : Int) i E 0 A1 n1 c1 L1 A2 n2 c2 L2 (some ⟨w33.heap.size, 0, none⟩) x.size cB x.data.toList w32 HL1.out (by omega) HL2.out (by omega) (by omega) HL3.out.len).mono ?_); rw [HCK.out]; rintro e w9 ⟨rfl, hb9⟩; have HS9 := Lib.hid (HS32.out.below hb9); have HON9 := Lib.hid (OwnF.below HON32.out hb9); have HOT9 := Lib.hid (OwnF.below HOT32.out hb9); have HX9 := Lib.hid (blk_below HX32.out hb9); have z0 := HS9.out.c2 0; have z1 := HS9.out.c2 1; have z2 := HS9.out.c2 2; have z3 := HS9.out.c2 3; have z4 := HS9.out.c2 4; have z5 := HS9.out.c2 5; have z6 := HS9.out.c2 6; have z7 := HS9.out.c2 7; have q0 := HS9.out.c4 0; have q1 := HS9.out.c4 1; have q2 := HS9.out.c4 2; have q3 := HS9.out.c4 3; have q4 := HS9.out.c4 4; have q5 := HS9.out.c4 5; have q6 := HS9.out.c4 6; have q7 := HS9.out.c4 7; simp only [List.getElem?_toArray, List.getElem?_cons_zero, List.getElem?_cons_succ] at z0 z1 z2 z3 z4 z5 z6 z7 q0 q1 q2 q3 q4 q5 q6 q7; have f2 := HS9.out.f2; have f4 := HS9.out.f4; clear hb9)
  refine bodyPost_ret (v := .tuple #[respV ⟨(K : Int), (V : Int), i, E, 0, L1, L2, x.data.toList⟩ A1 n1 c1 A2 n2 c2 (some ⟨w33.heap.size, 0, none⟩) x.size cB, .int .i64 0]) (by simp [results, Tryd.results24, go_sem, respV, z0, z1, z2, z3, z4, z5, z6, z7]) rfl ?_
  rw [HZ.out]
  refine ⟨A1, n1, c1, A2, n2, c2, (some ⟨w33.heap.size, 0, none⟩), x.size, cB, rfl, ⟨rdL_nums ((own_row HON9.out (put8_gb w9 w.heap.size _ _ _ _ _ _ _ _) (by omega)).rd nS) HI1.out, rdL_strs ((own_row HOT9.out (put8_gb w9 w.heap.size _ _ _ _ _ _ _ _) (by omega)).rd sS) (fun x hx => Nat.le_trans (HI2.out x hx) (by decide)), (bytes_rd (blk_grow HX9.out (put8_gb w9 w.heap.size _ _ _ _ _ _ _ _) (by omega)) rfl).more (heap_lt (blk_grow HX9.out (put8_gb w9 w.heap.size _ _ _ _ _ _ _ _) (by omega))), by omega, by omega, by omega⟩, put8_bel HS9.out.bel (Nat.le_refl _) _ _ _ _ _ _ _ _⟩
theorem GetResp_any (A : Option Addr) (n c : Nat) (l : List UInt8) (w : World) (hr : Rd w w.heap.size A n l) (hc : n ≤ c) (hn : n ≤ 1099511627776) :
    Calls Tryd.prog 24 #[.slice A n c] w (GPR w (gtP l)) := by
  obtain ⟨K, V, hkv, hK, hV⟩ := hdV_le l
  by_cases hv : 1 ≤ V
  · exact GetResp_v A n c l K V w hr hc hn hkv hK hv
  · exact GetResp_n A n c l K V w hr hc hn hkv hK (by omega)
end Go.Proofs.YthhdhdjdhekgpaaDoor.Pro
