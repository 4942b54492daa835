/- For any bytes (at most 5,000): if they are a request, it may be and its bytes are these; so with an answer; of others nothing is told but an error (the law answers true, and changes nothing that was there). Conditions: none.
-/
import Derived.Test.YthhdhdjdhekgpaaDoorProIs
import Derived.Test.YthhdhdjdhekgpaaDoorRows
import Derived.WalkKit
import Derived.ProofKit
import Derived.OpenShut
import Derived.ChangeOld
import Derived.Below
import Derived.Carry
import Derived.Test.YthhdhdjdhekgpaaDoorJOct
import Derived.Test.YthhdhdjdhekgpaaDoorProTied
import Derived.Test.YthhdhdjdhekgpaaDoorTie
import Derived.Test.YthhdhdjdhekgpaaDoorCards
import Derived.SevenTiedAt
/- The walk of ProtoOnly. -/
namespace Go.Proofs.YthhdhdjdhekgpaaDoor.Pro
open Go.RowKit Go.Proofs.YthhdhdjdhekgpaaDoor.Oct Go.Proofs.YthhdhdjdhekgpaaDoor.Rec Go.Proofs.YthhdhdjdhekgpaaDoor.Cod Go.Proofs.YthhdhdjdhekgpaaDoor.Lay Go.Proofs.YthhdhdjdhekgpaaDoor.RowF

set_option maxRecDepth 100000 in
set_option maxHeartbeats 4000000 in
theorem only_n (A : Option Addr) (n c : Nat) (w : World) (ht : Tab w) (hn : 5000 < n) :
    Calls Tryd.prog 7 #[.slice A n c] w fun e w' => e = .returned (.bool true) ∧ Below w.heap.size w w' := by
  have HT := Lib.hid ht
  clear ht
  go_enter Tryd.func7, Tryd.ntmps7
  go_wp2_with (go_at_call 12; refine (live_any _ HT.out).mono ?_; rintro e w1 ⟨rfl, hb1⟩)
  go_ret
  exact ⟨rfl, hb1⟩
set_option maxRecDepth 100000 in
set_option maxHeartbeats 8000000 in
theorem only_tt (A : Option Addr) (n c : Nat) (l : List UInt8) (w : World) (hr : Rd w w.heap.size A n l) (hc : n ≤ c) (ht : Tab w) (hn : n ≤ 5000) (k v i : Int) (s : ByteArray) (l1 : List Int) (l2 : List ByteArray) (l3 : List UInt8) (hq : gtQ l = (⟨k, v, i, s, l1, l2, l3⟩, 0)) (hpq : ptQ ⟨k, v, i, s, l1, l2, l3⟩ = (l, 0)) (hck : ckQ ⟨k, v, i, s, l1, l2, l3⟩ = 0) (k2 v2 i2 E2 t2 : Int) (m1 : List Int) (m2 : List ByteArray) (m3 : List UInt8) (hp : gtP l = (⟨k2, v2, i2, E2, t2, m1, m2, m3⟩, 0)) (hpp : ptP ⟨k2, v2, i2, E2, t2, m1, m2, m3⟩ = (l, 0)) :
    Calls Tryd.prog 7 #[.slice A n c] w fun e w' => e = .returned (.bool true) ∧ Below w.heap.size w w' := by
  have HT := Lib.hid ht
  have HR := Lib.hid hr
  have HQ := Lib.hid hq
  have HP := Lib.hid hp
  have HPQ := Lib.hid hpq
  have HPP := Lib.hid hpp
  have HCK := Lib.hid hck
  clear hck
  clear ht hr hq hp hpq hpp
  have hn4 : ¬ 5000 < n := by omega
  go_enter Tryd.func7, Tryd.ntmps7
  go_wp2_with (first
    | (go_at_call 18; obtain ⟨z1, z2, z3, z4, z5, z6⟩ := H3.out.below (HB3.out.trans ((HB4.out.trans (HB45.out.mono HB4.out.size)).mono HB3.out.size)); (with_reducible refine (CheckReq_any k v i s A1 n1 c1 l1 A2 n2 c2 l2 A3 n3 c3 l3 w5 z1 (by omega) z2 (by omega) (by omega) (by omega) z3.len (HT.out.bel HB25.out)).mono ?_); rw [HCK.out]; rintro e w6 ⟨rfl, hb6⟩; have HB26 := Lib.hid (HB25.out.trans (hb6.mono HB25.out.size)); have r2 := str_of w6 _ G gn gc l (H7.out.below hb6 (Nat.le_refl _)); have r3 := str_of w6 _ A n c l (HR.out.below HB26.out (Nat.le_refl _)); clear hb6 z1 z2 z3 z4 z5 z6)
    | (go_at_call 22; obtain ⟨z1, z2, z3, z4, z5, z6⟩ := H5.out; (with_reducible refine (PutResp_is k2 v2 i2 E2 t2 D1 x1 y1 m1 D2 x2 y2 m2 D3 x3 y3 m3 w3 w4 z1 (by omega) z2 (by omega) z3 (by omega) HB4.out HPP.out).mono ?_); rintro e w5 ⟨G, gn, gc, rfl, h7, hgc, hb5⟩; have H7 := Lib.hid h7; have HB45 := Lib.hid hb5; have HB25 := Lib.hid (HB2.out.trans ((HB3.out.trans ((HB4.out.trans (hb5.mono HB4.out.size)).mono HB3.out.size)).mono HB2.out.size)); obtain ⟨q0, q1, q2, q3, q4, q5, q6⟩ := BoxQ_below HX4.out hb5 hl5; have r0 := str_of w5 _ F fn fc l (H6.out.below hb5 (Nat.le_refl _)); have r1 := str_of w5 _ A n c l (HR.out.below HB25.out (Nat.le_refl _)); clear hb5 h7 z1 z2 z3 z4 z5 z6)
    | (go_at_call 14; have HB3a := Lib.hid (bel_alloc (Below.refl _ _) (.cells #[.int .i64 k2, .int .i64 v2, .int .i64 i2, .int .i64 E2, .int .i64 t2, .slice D1 x1 y1, .slice D2 x2 y2, .slice D3 x3 y3] 38) : Below w3.heap.size w3 (w3.alloc (.cells #[.int .i64 k2, .int .i64 v2, .int .i64 i2, .int .i64 E2, .int .i64 t2, .slice D1 x1 y1, .slice D2 x2 y2, .slice D3 x3 y3] 38))); obtain ⟨z1, z2, z3, z4, z5, z6⟩ := H3.out; (with_reducible refine (PutReq_is k v i s A1 n1 c1 l1 A2 n2 c2 l2 A3 n3 c3 l3 w2 _ z1 (by omega) z2 (by omega) (by omega) z3 (by omega) (HB3.out.trans (HB3a.out.mono HB3.out.size)) (HT.out.bel (HB2.out.trans ((HB3.out.trans (HB3a.out.mono HB3.out.size)).mono HB2.out.size))) HPQ.out).mono ?_); rintro e w4 ⟨F, fn, fc, rfl, h6, hfc, hb4⟩; have H6 := Lib.hid h6; have HY := Lib.hid (BoxP_at rfl rfl hb4 : BoxP w4 w3.heap.size k2 v2 i2 E2 t2 (.slice D1 x1 y1) (.slice D2 x2 y2) (.slice D3 x3 y3)); have HB4 := Lib.hid (HB3a.out.trans (hb4.mono HB3a.out.size)); have HX4 := Lib.hid (BoxQ_below HX.out HB4.out hl4); have hl5 : w2.heap.size < w4.heap.size := Nat.lt_of_lt_of_le hl4 HB4.out.size; obtain ⟨o0, o1, o2, o3, o4, o5, o6, o7⟩ := HY.out; clear hb4 h6 z1 z2 z3 z4 z5 z6)
    | (go_at_call 24; have HB2a := Lib.hid (bel_alloc (Below.refl _ _) (.cells #[.int .i64 k, .int .i64 v, .int .i64 i, .string s, .slice A1 n1 c1, .slice A2 n2 c2, .slice A3 n3 c3] 26) : Below w2.heap.size w2 (w2.alloc (.cells #[.int .i64 k, .int .i64 v, .int .i64 i, .string s, .slice A1 n1 c1, .slice A2 n2 c2, .slice A3 n3 c3] 26))); (with_reducible refine (GetResp_is A n c l w _ HR.out (HB2.out.trans (HB2a.out.mono HB2.out.size)) hc (by omega) HP.out).mono ?_); rintro e w3 ⟨D1, x1, y1, D2, x2, y2, D3, x3, y3, rfl, h5, hb3⟩; have H5 := Lib.hid h5; have HX := Lib.hid (BoxQ_at rfl rfl hb3 : BoxQ w3 w2.heap.size k v i s (.slice A1 n1 c1) (.slice A2 n2 c2) (.slice A3 n3 c3)); have HB3 := Lib.hid (HB2a.out.trans (hb3.mono HB2a.out.size)); have hl4 : w2.heap.size < w3.heap.size := World.block_lt_of_cell? w3 _ HX.out.1; obtain ⟨u0, u1, u2, u3, u4, u5, u6⟩ := HX.out; clear hb3 h5)
    | (go_at_call 16; (with_reducible refine (GetReq_is A n c l w w1 HR.out HB1.out hc (by omega) HT.out HQ.out).mono ?_); rintro e w2 ⟨A1, n1, c1, A2, n2, c2, A3, n3, c3, rfl, h3, hs64, hb2⟩; have H3 := Lib.hid h3; have HB2 := Lib.hid (HB1.out.trans (hb2.mono HB1.out.size)); clear hb2 h3)
    | (go_at_call 12; refine (live_any _ HT.out).mono ?_; rintro e w1 ⟨rfl, hb1⟩; have HB1 := Lib.hid hb1; clear hb1))
  go_ret
  exact ⟨rfl, HB26.out⟩
set_option maxRecDepth 100000 in
set_option maxHeartbeats 8000000 in
theorem only_ty (A : Option Addr) (n c : Nat) (l : List UInt8) (w : World) (hr : Rd w w.heap.size A n l) (hc : n ≤ c) (ht : Tab w) (hn : n ≤ 5000) (k v i : Int) (s : ByteArray) (l1 : List Int) (l2 : List ByteArray) (l3 : List UInt8) (hq : gtQ l = (⟨k, v, i, s, l1, l2, l3⟩, 0)) (hpq : ptQ ⟨k, v, i, s, l1, l2, l3⟩ = (l, 0)) (hck : ckQ ⟨k, v, i, s, l1, l2, l3⟩ = 0) (v2 i2 E2 t2 : Int) (m1 : List Int) (m2 : List ByteArray) (m3 : List UInt8) (ff : Int) (hff : (ff != 0) = true) (hp : gtP l = (⟨0, v2, i2, E2, t2, m1, m2, m3⟩, ff)) (hm1 : m1 = []) (hm2 : m2 = []) (xp : List UInt8) (ep : Int) (hpp : ptP ⟨0, v2, i2, E2, t2, m1, m2, m3⟩ = (xp, ep)) :
    Calls Tryd.prog 7 #[.slice A n c] w fun e w' => e = .returned (.bool true) ∧ Below w.heap.size w w' := by
  have HT := Lib.hid ht
  have HR := Lib.hid hr
  have HQ := Lib.hid hq
  have HP := Lib.hid hp
  have HPQ := Lib.hid hpq
  have HPP := Lib.hid hpp
  have HCK := Lib.hid hck
  clear hck
  clear ht hr hq hp hpq hpp
  have hn4 : ¬ 5000 < n := by omega
  go_enter Tryd.func7, Tryd.ntmps7
  go_wp2_with (first
    | (go_at_call 18; obtain ⟨z1, z2, z3, z4, z5, z6⟩ := H3.out.below (HB3.out.trans ((HB4.out.trans (HB45.out.mono HB4.out.size)).mono HB3.out.size)); (with_reducible refine (CheckReq_any k v i s A1 n1 c1 l1 A2 n2 c2 l2 A3 n3 c3 l3 w5 z1 (by omega) z2 (by omega) (by omega) (by omega) z3.len (HT.out.bel HB25.out)).mono ?_); rw [HCK.out]; rintro e w6 ⟨rfl, hb6⟩; have HB26 := Lib.hid (HB25.out.trans (hb6.mono HB25.out.size)); clear hb6 z1 z2 z3 z4 z5 z6)
    | (go_at_call 22; obtain ⟨z1, z2, z3, z4, z5, z6⟩ := H5.out; (with_reducible refine (PutResp_is 0 v2 i2 E2 t2 D1 0 y1 m1 D2 0 y2 m2 D3 x3 y3 m3 w3 w4 z1 (by omega) z2 (by omega) z3 (by omega) HB4.out HPP.out).mono ?_); rintro e w5 ⟨G, gn, gc, rfl, h7, hgc, hb5⟩; have H7 := Lib.hid h7; have HB45 := Lib.hid hb5; have HB25 := Lib.hid (HB2.out.trans ((HB3.out.trans ((HB4.out.trans (hb5.mono HB4.out.size)).mono HB3.out.size)).mono HB2.out.size)); obtain ⟨q0, q1, q2, q3, q4, q5, q6⟩ := BoxQ_below HX4.out hb5 hl5; have r0 := str_of w5 _ F fn fc l (H6.out.below hb5 (Nat.le_refl _)); have r1 := str_of w5 _ A n c l (HR.out.below HB25.out (Nat.le_refl _)); clear hb5 h7 z1 z2 z3 z4 z5 z6)
    | (go_at_call 14; have HB3a := Lib.hid (bel_alloc (Below.refl _ _) (.cells #[.int .i64 0, .int .i64 v2, .int .i64 i2, .int .i64 E2, .int .i64 t2, .slice D1 0 y1, .slice D2 0 y2, .slice D3 x3 y3] 38) : Below w3.heap.size w3 (w3.alloc (.cells #[.int .i64 0, .int .i64 v2, .int .i64 i2, .int .i64 E2, .int .i64 t2, .slice D1 0 y1, .slice D2 0 y2, .slice D3 x3 y3] 38))); obtain ⟨z1, z2, z3, z4, z5, z6⟩ := H3.out; (with_reducible refine (PutReq_is k v i s A1 n1 c1 l1 A2 n2 c2 l2 A3 n3 c3 l3 w2 _ z1 (by omega) z2 (by omega) (by omega) z3 (by omega) (HB3.out.trans (HB3a.out.mono HB3.out.size)) (HT.out.bel (HB2.out.trans ((HB3.out.trans (HB3a.out.mono HB3.out.size)).mono HB2.out.size))) HPQ.out).mono ?_); rintro e w4 ⟨F, fn, fc, rfl, h6, hfc, hb4⟩; have H6 := Lib.hid h6; have HY := Lib.hid (BoxP_at rfl rfl hb4 : BoxP w4 w3.heap.size 0 v2 i2 E2 t2 (.slice D1 0 y1) (.slice D2 0 y2) (.slice D3 x3 y3)); have HB4 := Lib.hid (HB3a.out.trans (hb4.mono HB3a.out.size)); have HX4 := Lib.hid (BoxQ_below HX.out HB4.out hl4); have hl5 : w2.heap.size < w4.heap.size := Nat.lt_of_lt_of_le hl4 HB4.out.size; obtain ⟨o0, o1, o2, o3, o4, o5, o6, o7⟩ := HY.out; clear hb4 h6 z1 z2 z3 z4 z5 z6)
    | (go_at_call 24; have HB2a := Lib.hid (bel_alloc (Below.refl _ _) (.cells #[.int .i64 k, .int .i64 v, .int .i64 i, .string s, .slice A1 n1 c1, .slice A2 n2 c2, .slice A3 n3 c3] 26) : Below w2.heap.size w2 (w2.alloc (.cells #[.int .i64 k, .int .i64 v, .int .i64 i, .string s, .slice A1 n1 c1, .slice A2 n2 c2, .slice A3 n3 c3] 26))); (with_reducible refine (GetResp_is A n c l w _ HR.out (HB2.out.trans (HB2a.out.mono HB2.out.size)) hc (by omega) HP.out).mono ?_); rintro e w3 ⟨D1, x1, y1, D2, x2, y2, D3, x3, y3, rfl, h5, hb3⟩; obtain rfl : x1 = 0 := (by have h4 := h5.1.len; rw [hm1] at h4; exact h4.symm); obtain rfl : x2 = 0 := (by have h4 := h5.2.1.len; rw [hm2] at h4; exact h4.symm); have H5 := Lib.hid h5; have HX := Lib.hid (BoxQ_at rfl rfl hb3 : BoxQ w3 w2.heap.size k v i s (.slice A1 n1 c1) (.slice A2 n2 c2) (.slice A3 n3 c3)); have HB3 := Lib.hid (HB2a.out.trans (hb3.mono HB2a.out.size)); have hl4 : w2.heap.size < w3.heap.size := World.block_lt_of_cell? w3 _ HX.out.1; obtain ⟨u0, u1, u2, u3, u4, u5, u6⟩ := HX.out; clear hb3 h5)
    | (go_at_call 16; (with_reducible refine (GetReq_is A n c l w w1 HR.out HB1.out hc (by omega) HT.out HQ.out).mono ?_); rintro e w2 ⟨A1, n1, c1, A2, n2, c2, A3, n3, c3, rfl, h3, hs64, hb2⟩; have H3 := Lib.hid h3; have HB2 := Lib.hid (HB1.out.trans (hb2.mono HB1.out.size)); clear hb2 h3)
    | (go_at_call 12; refine (live_any _ HT.out).mono ?_; rintro e w1 ⟨rfl, hb1⟩; have HB1 := Lib.hid hb1; clear hb1))
  go_ret
  exact ⟨rfl, HB26.out⟩
set_option maxRecDepth 100000 in
set_option maxHeartbeats 8000000 in
theorem only_yt (A : Option Addr) (n c : Nat) (l : List UInt8) (w : World) (hr : Rd w w.heap.size A n l) (hc : n ≤ c) (ht : Tab w) (hn : n ≤ 5000) (v i : Int) (s : ByteArray) (l1 : List Int) (l2 : List ByteArray) (l3 : List UInt8) (ee : Int) (hee : (ee != 0) = true) (hq : gtQ l = (⟨0, v, i, s, l1, l2, l3⟩, ee)) (hl1 : l1 = []) (hl2 : l2 = []) (xq : List UInt8) (eq : Int) (hpq : ptQ ⟨0, v, i, s, l1, l2, l3⟩ = (xq, eq)) (k2 v2 i2 E2 t2 : Int) (m1 : List Int) (m2 : List ByteArray) (m3 : List UInt8) (hp : gtP l = (⟨k2, v2, i2, E2, t2, m1, m2, m3⟩, 0)) (hpp : ptP ⟨k2, v2, i2, E2, t2, m1, m2, m3⟩ = (l, 0)) :
    Calls Tryd.prog 7 #[.slice A n c] w fun e w' => e = .returned (.bool true) ∧ Below w.heap.size w w' := by
  have HT := Lib.hid ht
  have HR := Lib.hid hr
  have HQ := Lib.hid hq
  have HP := Lib.hid hp
  have HPQ := Lib.hid hpq
  have HPP := Lib.hid hpp
  clear ht hr hq hp hpq hpp
  have hn4 : ¬ 5000 < n := by omega
  go_enter Tryd.func7, Tryd.ntmps7
  go_wp2_with (first
    | (go_at_call 22; obtain ⟨z1, z2, z3, z4, z5, z6⟩ := H5.out; (with_reducible refine (PutResp_is k2 v2 i2 E2 t2 D1 x1 y1 m1 D2 x2 y2 m2 D3 x3 y3 m3 w3 w4 z1 (by omega) z2 (by omega) z3 (by omega) HB4.out HPP.out).mono ?_); rintro e w5 ⟨G, gn, gc, rfl, h7, hgc, hb5⟩; have H7 := Lib.hid h7; have HB45 := Lib.hid hb5; have HB25 := Lib.hid (HB2.out.trans ((HB3.out.trans ((HB4.out.trans (hb5.mono HB4.out.size)).mono HB3.out.size)).mono HB2.out.size)); obtain ⟨q0, q1, q2, q3, q4, q5, q6⟩ := BoxQ_below HX4.out hb5 hl5; have r2 := str_of w5 _ G gn gc l h7; have r3 := str_of w5 _ A n c l (HR.out.below HB25.out (Nat.le_refl _)); clear hb5 h7 z1 z2 z3 z4 z5 z6)
    | (go_at_call 14; have HB3a := Lib.hid (bel_alloc (Below.refl _ _) (.cells #[.int .i64 k2, .int .i64 v2, .int .i64 i2, .int .i64 E2, .int .i64 t2, .slice D1 x1 y1, .slice D2 x2 y2, .slice D3 x3 y3] 38) : Below w3.heap.size w3 (w3.alloc (.cells #[.int .i64 k2, .int .i64 v2, .int .i64 i2, .int .i64 E2, .int .i64 t2, .slice D1 x1 y1, .slice D2 x2 y2, .slice D3 x3 y3] 38))); obtain ⟨z1, z2, z3, z4, z5, z6⟩ := H3.out; (with_reducible refine (PutReq_is 0 v i s A1 0 c1 l1 A2 0 c2 l2 A3 n3 c3 l3 w2 _ z1 (by omega) z2 (by omega) (by omega) z3 (by omega) (HB3.out.trans (HB3a.out.mono HB3.out.size)) (HT.out.bel (HB2.out.trans ((HB3.out.trans (HB3a.out.mono HB3.out.size)).mono HB2.out.size))) HPQ.out).mono ?_); rintro e w4 ⟨F, fn, fc, rfl, h6, hfc, hb4⟩; have H6 := Lib.hid h6; have HY := Lib.hid (BoxP_at rfl rfl hb4 : BoxP w4 w3.heap.size k2 v2 i2 E2 t2 (.slice D1 x1 y1) (.slice D2 x2 y2) (.slice D3 x3 y3)); have HB4 := Lib.hid (HB3a.out.trans (hb4.mono HB3a.out.size)); have HX4 := Lib.hid (BoxQ_below HX.out HB4.out hl4); have hl5 : w2.heap.size < w4.heap.size := Nat.lt_of_lt_of_le hl4 HB4.out.size; obtain ⟨o0, o1, o2, o3, o4, o5, o6, o7⟩ := HY.out; clear hb4 h6 z1 z2 z3 z4 z5 z6)
    | (go_at_call 24; have HB2a := Lib.hid (bel_alloc (Below.refl _ _) (.cells #[.int .i64 0, .int .i64 v, .int .i64 i, .string s, .slice A1 0 c1, .slice A2 0 c2, .slice A3 n3 c3] 26) : Below w2.heap.size w2 (w2.alloc (.cells #[.int .i64 0, .int .i64 v, .int .i64 i, .string s, .slice A1 0 c1, .slice A2 0 c2, .slice A3 n3 c3] 26))); (with_reducible refine (GetResp_is A n c l w _ HR.out (HB2.out.trans (HB2a.out.mono HB2.out.size)) hc (by omega) HP.out).mono ?_); rintro e w3 ⟨D1, x1, y1, D2, x2, y2, D3, x3, y3, rfl, h5, hb3⟩; have H5 := Lib.hid h5; have HX := Lib.hid (BoxQ_at rfl rfl hb3 : BoxQ w3 w2.heap.size 0 v i s (.slice A1 0 c1) (.slice A2 0 c2) (.slice A3 n3 c3)); have HB3 := Lib.hid (HB2a.out.trans (hb3.mono HB2a.out.size)); have hl4 : w2.heap.size < w3.heap.size := World.block_lt_of_cell? w3 _ HX.out.1; obtain ⟨u0, u1, u2, u3, u4, u5, u6⟩ := HX.out; clear hb3 h5)
    | (go_at_call 16; (with_reducible refine (GetReq_is A n c l w w1 HR.out HB1.out hc (by omega) HT.out HQ.out).mono ?_); rintro e w2 ⟨A1, n1, c1, A2, n2, c2, A3, n3, c3, rfl, h3, hs64, hb2⟩; obtain rfl : n1 = 0 := (by have h4 := h3.1.len; rw [hl1] at h4; exact h4.symm); obtain rfl : n2 = 0 := (by have h4 := h3.2.1.len; rw [hl2] at h4; exact h4.symm); have H3 := Lib.hid h3; have HB2 := Lib.hid (HB1.out.trans (hb2.mono HB1.out.size)); clear hb2 h3)
    | (go_at_call 12; refine (live_any _ HT.out).mono ?_; rintro e w1 ⟨rfl, hb1⟩; have HB1 := Lib.hid hb1; clear hb1))
  go_ret
  exact ⟨rfl, HB25.out⟩
set_option maxRecDepth 100000 in
set_option maxHeartbeats 8000000 in
theorem only_yy (A : Option Addr) (n c : Nat) (l : List UInt8) (w : World) (hr : Rd w w.heap.size A n l) (hc : n ≤ c) (ht : Tab w) (hn : n ≤ 5000) (v i : Int) (s : ByteArray) (l1 : List Int) (l2 : List ByteArray) (l3 : List UInt8) (ee : Int) (hee : (ee != 0) = true) (hq : gtQ l = (⟨0, v, i, s, l1, l2, l3⟩, ee)) (hl1 : l1 = []) (hl2 : l2 = []) (xq : List UInt8) (eq : Int) (hpq : ptQ ⟨0, v, i, s, l1, l2, l3⟩ = (xq, eq)) (v2 i2 E2 t2 : Int) (m1 : List Int) (m2 : List ByteArray) (m3 : List UInt8) (ff : Int) (hff : (ff != 0) = true) (hp : gtP l = (⟨0, v2, i2, E2, t2, m1, m2, m3⟩, ff)) (hm1 : m1 = []) (hm2 : m2 = []) (xp : List UInt8) (ep : Int) (hpp : ptP ⟨0, v2, i2, E2, t2, m1, m2, m3⟩ = (xp, ep)) :
    Calls Tryd.prog 7 #[.slice A n c] w fun e w' => e = .returned (.bool true) ∧ Below w.heap.size w w' := by
  have HT := Lib.hid ht
  have HR := Lib.hid hr
  have HQ := Lib.hid hq
  have HP := Lib.hid hp
  have HPQ := Lib.hid hpq
  have HPP := Lib.hid hpp
  clear ht hr hq hp hpq hpp
  have hn4 : ¬ 5000 < n := by omega
  go_enter Tryd.func7, Tryd.ntmps7
  go_wp2_with (first
    | (go_at_call 22; obtain ⟨z1, z2, z3, z4, z5, z6⟩ := H5.out; (with_reducible refine (PutResp_is 0 v2 i2 E2 t2 D1 0 y1 m1 D2 0 y2 m2 D3 x3 y3 m3 w3 w4 z1 (by omega) z2 (by omega) z3 (by omega) HB4.out HPP.out).mono ?_); rintro e w5 ⟨G, gn, gc, rfl, h7, hgc, hb5⟩; have H7 := Lib.hid h7; have HB45 := Lib.hid hb5; have HB25 := Lib.hid (HB2.out.trans ((HB3.out.trans ((HB4.out.trans (hb5.mono HB4.out.size)).mono HB3.out.size)).mono HB2.out.size)); obtain ⟨q0, q1, q2, q3, q4, q5, q6⟩ := BoxQ_below HX4.out hb5 hl5; clear hb5 h7 z1 z2 z3 z4 z5 z6)
    | (go_at_call 14; have HB3a := Lib.hid (bel_alloc (Below.refl _ _) (.cells #[.int .i64 0, .int .i64 v2, .int .i64 i2, .int .i64 E2, .int .i64 t2, .slice D1 0 y1, .slice D2 0 y2, .slice D3 x3 y3] 38) : Below w3.heap.size w3 (w3.alloc (.cells #[.int .i64 0, .int .i64 v2, .int .i64 i2, .int .i64 E2, .int .i64 t2, .slice D1 0 y1, .slice D2 0 y2, .slice D3 x3 y3] 38))); obtain ⟨z1, z2, z3, z4, z5, z6⟩ := H3.out; (with_reducible refine (PutReq_is 0 v i s A1 0 c1 l1 A2 0 c2 l2 A3 n3 c3 l3 w2 _ z1 (by omega) z2 (by omega) (by omega) z3 (by omega) (HB3.out.trans (HB3a.out.mono HB3.out.size)) (HT.out.bel (HB2.out.trans ((HB3.out.trans (HB3a.out.mono HB3.out.size)).mono HB2.out.size))) HPQ.out).mono ?_); rintro e w4 ⟨F, fn, fc, rfl, h6, hfc, hb4⟩; have H6 := Lib.hid h6; have HY := Lib.hid (BoxP_at rfl rfl hb4 : BoxP w4 w3.heap.size 0 v2 i2 E2 t2 (.slice D1 0 y1) (.slice D2 0 y2) (.slice D3 x3 y3)); have HB4 := Lib.hid (HB3a.out.trans (hb4.mono HB3a.out.size)); have HX4 := Lib.hid (BoxQ_below HX.out HB4.out hl4); have hl5 : w2.heap.size < w4.heap.size := Nat.lt_of_lt_of_le hl4 HB4.out.size; obtain ⟨o0, o1, o2, o3, o4, o5, o6, o7⟩ := HY.out; clear hb4 h6 z1 z2 z3 z4 z5 z6)
    | (go_at_call 24; have HB2a := Lib.hid (bel_alloc (Below.refl _ _) (.cells #[.int .i64 0, .int .i64 v, .int .i64 i, .string s, .slice A1 0 c1, .slice A2 0 c2, .slice A3 n3 c3] 26) : Below w2.heap.size w2 (w2.alloc (.cells #[.int .i64 0, .int .i64 v, .int .i64 i, .string s, .slice A1 0 c1, .slice A2 0 c2, .slice A3 n3 c3] 26))); (with_reducible refine (GetResp_is A n c l w _ HR.out (HB2.out.trans (HB2a.out.mono HB2.out.size)) hc (by omega) HP.out).mono ?_); rintro e w3 ⟨D1, x1, y1, D2, x2, y2, D3, x3, y3, rfl, h5, hb3⟩; obtain rfl : x1 = 0 := (by have h4 := h5.1.len; rw [hm1] at h4; exact h4.symm); obtain rfl : x2 = 0 := (by have h4 := h5.2.1.len; rw [hm2] at h4; exact h4.symm); have H5 := Lib.hid h5; have HX := Lib.hid (BoxQ_at rfl rfl hb3 : BoxQ w3 w2.heap.size 0 v i s (.slice A1 0 c1) (.slice A2 0 c2) (.slice A3 n3 c3)); have HB3 := Lib.hid (HB2a.out.trans (hb3.mono HB2a.out.size)); have hl4 : w2.heap.size < w3.heap.size := World.block_lt_of_cell? w3 _ HX.out.1; obtain ⟨u0, u1, u2, u3, u4, u5, u6⟩ := HX.out; clear hb3 h5)
    | (go_at_call 16; (with_reducible refine (GetReq_is A n c l w w1 HR.out HB1.out hc (by omega) HT.out HQ.out).mono ?_); rintro e w2 ⟨A1, n1, c1, A2, n2, c2, A3, n3, c3, rfl, h3, hs64, hb2⟩; obtain rfl : n1 = 0 := (by have h4 := h3.1.len; rw [hl1] at h4; exact h4.symm); obtain rfl : n2 = 0 := (by have h4 := h3.2.1.len; rw [hl2] at h4; exact h4.symm); have H3 := Lib.hid h3; have HB2 := Lib.hid (HB1.out.trans (hb2.mono HB1.out.size)); clear hb2 h3)
    | (go_at_call 12; refine (live_any _ HT.out).mono ?_; rintro e w1 ⟨rfl, hb1⟩; have HB1 := Lib.hid hb1; clear hb1))
  go_ret
  exact ⟨rfl, HB25.out⟩
theorem ptQ_of {r : Rq} {l : List UInt8} (h : gtQ l = (r, 0)) : ptQ r = (l, 0) ∧ ckQ r = 0 := by
  obtain ⟨h1, h2⟩ := gtQ_is h
  refine ⟨?_, h1⟩
  unfold ptQ
  rw [if_pos h1, h2]
theorem ptP_of {r : Rp} {l : List UInt8} (h : gtP l = (r, 0)) : ptP r = (l, 0) := by
  obtain ⟨h1, h2⟩ := gtP_is h
  unfold ptP
  rw [if_pos h1, h2]
theorem protoOnly_walk (A : Option Addr) (n c : Nat) (l : List UInt8) (w : World) (hr : Rd w w.heap.size A n l) (hc : n ≤ c) (ht : Tab w) :
    Calls Tryd.prog 7 #[.slice A n c] w fun e w' => e = .returned (.bool true) ∧ Below w.heap.size w w' := by
  by_cases hn : 5000 < n
  · exact only_n A n c w ht hn
  have hn : n ≤ 5000 := by omega
  rcases hq : gtQ l with ⟨⟨k, v, i, s, l1, l2, l3⟩, ee⟩
  rcases hp : gtP l with ⟨⟨k2, v2, i2, E2, t2, m1, m2, m3⟩, ff⟩
  by_cases he : ee = 0
  · subst he
    by_cases hf : ff = 0
    · subst hf
      exact only_tt A n c l w hr hc ht hn k v i s l1 l2 l3 hq (ptQ_of hq).1 (ptQ_of hq).2 k2 v2 i2 E2 t2 m1 m2 m3 hp (ptP_of hp)
    · have hb := gtP_bad hp hf
      unfold nilP at hb
      injection hb with e1 e2 e3 e4 e5 e6 e7 e8
      subst e1
      rcases hpp : ptP ⟨0, v2, i2, E2, t2, m1, m2, m3⟩ with ⟨xp, ep⟩
      exact only_ty A n c l w hr hc ht hn k v i s l1 l2 l3 hq (ptQ_of hq).1 (ptQ_of hq).2 v2 i2 E2 t2 m1 m2 m3 ff (by simp [bne_iff_ne, hf]) hp e6 e7 xp ep hpp
  · have hb := gtQ_bad hq he
    unfold nilQ at hb
    injection hb with e1 e2 e3 e4 e5 e6 e7
    subst e1
    rcases hpq : ptQ ⟨0, v, i, s, l1, l2, l3⟩ with ⟨xq, eq⟩
    by_cases hf : ff = 0
    · subst hf
      exact only_yt A n c l w hr hc ht hn v i s l1 l2 l3 ee (by simp [bne_iff_ne, he]) hq e5 e6 xq eq hpq k2 v2 i2 E2 t2 m1 m2 m3 hp (ptP_of hp)
    · have hb := gtP_bad hp hf
      unfold nilP at hb
      injection hb with g1 g2 g3 g4 g5 g6 g7 g8
      subst g1
      rcases hpp : ptP ⟨0, v2, i2, E2, t2, m1, m2, m3⟩ with ⟨xp, ep⟩
      exact only_yy A n c l w hr hc ht hn v i s l1 l2 l3 ee (by simp [bne_iff_ne, he]) hq e5 e6 xq eq hpq v2 i2 E2 t2 m1 m2 m3 ff (by simp [bne_iff_ne, hf]) hp g6 g7 xp ep hpp
end Go.Proofs.YthhdhdjdhekgpaaDoor.Pro

namespace Go.Proofs.YthhdhdjdhekgpaaDoor.protoOnly
open Go.ChangeShapes Go.WideShapes Go.ChangeAt Go.RowKit

theorem own : ownKnob Tryd.prog.godebug = none := by kernel_rfl
theorem laidOut : laidOutB Tryd.prog = true := by kernel_rfl

set_option maxRecDepth 100000 in
theorem lifted (os : Os) (started : os.Started) (H : Type) (enc : TypeId × Value → H) :
    ReturnsInHanded {} Tryd.checked os 7 .any (fun w args => (Rows.protoOnlySpec.pre enc Tryd.prog Tryd.f7 [] false w args ∧ laidMetH Tryd.prog Pro.listed w) ∧ sizedMet enc Tryd.prog Tryd.f7 (OpenSpec.ofChange Rows.protoOnlySpec) false w args)
      (Rows.protoOnlySpec.post enc Tryd.prog Tryd.f7 false true false false) := by
  refine returnsInHanded_of_change_and (C := Tryd.checked) (X := fun w _ => laidMetH Tryd.prog Pro.listed w) (fun _ _ _ hh h => h.of_heap hh) own started (by kernel_rfl) Tryd.func7
    (ChangeSpec.witness_shaped (enc := enc) (C := Tryd.checked) (os := os) (X := fun w _ => laidMetH Tryd.prog Pro.listed w) false (World.doorLaid Tryd.prog 400 os) #[.slice none 0 0] 8 rfl (World.shaped_of_RefB (by kernel_rfl) (by kernel_rfl)) (by kernel_rfl) (by kernel_rfl) (by kernel_rfl) (Pro.door_met os _)) ?_
  intro W base args ds gs before hval0 hW _ hwt hL _
  have hval : ∀ (j : Nat) t v, Tryd.f7.params[j]? = some t → args[j]? = some v → Value.okWide Tryd.prog W .any base t v := hval0
  have hW' := hW
  obtain ⟨p, q, hA0, hV, rfl, hfz, hnd⟩ := hW
  have hA : DataW.TrodAll enc Tryd.prog W 0 (fun _ => true) true Tryd.f7.params.toList args.toList ds p := hA0
  rw [Tryd.params7] at hA hval
  obtain ⟨v0, vs0, d0, ds0, p0, q0, hargs, rfl, rfl, h0, r0⟩ := trodAll_cons hA
  obtain ⟨rfl, rfl, rfl⟩ := trodAll_nil r0
  obtain rfl : args = #[v0] := by cases args; simp_all
  obtain ⟨rfl, rfl⟩ := trodVars_none hV
  have k0 := h0
  have lt0 : ∀ x ∈ p0, x.block < W.heap.size := by obtain ⟨m, hm⟩ := k0; exact DataW.trod_lt m _ _ _ hm
  obtain ⟨a0, len0, cap0, l0, rfl, rd0, cp0⟩ := Oct.open_bytes Tryd.underlying24 Tryd.underlying5 (by kernel_rfl) (hval 0 24 v0 rfl rfl) h0
  clear hA0 hval0
  refine (Pro.protoOnly_walk a0 len0 cap0 l0 W rd0 cp0 (Pro.tab_of_laid hL)).mono fun e W' ⟨he, bel⟩ => ?_
  subst he
  exact ⟨_, rfl, _, _, _, [], _, [], hW', trodAll_mk1 (shut_bool Tryd.underlying4 _), (trodAll_cons_mk (Below.trod laidOut (by kernel_rfl) (of_decide_eq_true (by kernel_rfl)) k0 bel lt0) trodAll_mk0), rfl, bel.frame _, fun h => by cases h⟩

theorem over : Rows.protoOnlyRow.holds Tryd.pinned (OpenSpec.ofChange Rows.protoOnlySpec) :=
  OpenClaim.holds_of_wide 7 Tryd.f7 rfl rfl rfl rfl rfl rfl rfl ⟨rfl, rfl, rfl, rfl, rfl⟩ rfl rfl rfl rfl rfl (by kernel_rfl) Tryd.func7 (by kernel_rfl)
    (of_decide_eq_true (by kernel_rfl)) (by unfold Func.isWrapper; first | (rw [if_pos (by decide +kernel)]; kernel_rfl) | (rw [if_neg (by decide +kernel)]; exact ⟨rfl, rfl⟩))
    (fun os started H enc _ => lifted os started H enc)

theorem proved : Rows.ProtoOnlyCardSaid :=
  Claim7.holds_tied_plain_at .later [] [.data] true (true, "914bd8f4ba55f588f3411a616729fba77a27d8a54981671c67a2ae6954f02f7f") false
    over (fun _ h => by cases h) (by kernel_rfl) (fun _ h => by cases h) protoOnly_row_tie rfl ⟨rfl, rfl⟩ (by kernel_rfl) rfl
    (fun f fn hf hfn => by
      obtain rfl : f = 7 := Option.some.inj ((show Tryd.prog.funcNamed "watermeet/watermeetlaw06.ProtoOnly" = some 7 by kernel_rfl).symm.trans hf) |>.symm
      obtain rfl : fn = Tryd.f7 := (Option.some.inj (Tryd.func7.symm.trans hfn)).symm
      exact ⟨by kernel_rfl, fun j t ht => by
        rw [Tryd.params7] at ht
        have hm : t ∈ [24] := by simpa using Array.mem_of_getElem? ht
        have hall : ([24].all fun u => !Tryd.prog.wantsStandIn u) = true := by kernel_rfl
        exact (show Tryd.prog.wantsStandIn t = false by simpa using List.all_eq_true.1 hall t hm)⟩)
    (by kernel_rfl)
#print axioms proved
end Go.Proofs.YthhdhdjdhekgpaaDoor.protoOnly
