/- For any answer and any bytes (at most 5,000): the answer's bytes, and which answer the bytes are, is what the document says, of what is few (the law answers true, and changes nothing that was there). Conditions: none.
-/
import Derived.Test.YthhdhdjdhekgpaaDoorProIs
import Derived.Test.YthhdhdjdhekgpaaDoorProLive2
import Derived.Test.YthhdhdjdhekgpaaDoorProRPP
import Derived.Test.YthhdhdjdhekgpaaDoorProRGP
import Derived.Test.YthhdhdjdhekgpaaDoorRows
import Derived.WalkKit
import Derived.ProofKit
import Derived.OpenShut
import Derived.ChangeOld
import Derived.Below
import Derived.Carry
import Derived.Test.YthhdhdjdhekgpaaDoorJOct
import Derived.Test.YthhdhdjdhekgpaaDoorProArg
import Derived.Test.YthhdhdjdhekgpaaDoorProTied
import Derived.Test.YthhdhdjdhekgpaaDoorTie
import Derived.Test.YthhdhdjdhekgpaaDoorCards
import Derived.SevenTiedAt
/- The walk of ProtoResps. -/
namespace Go.Proofs.YthhdhdjdhekgpaaDoor.Pro
open Go.RowKit Go.Proofs.YthhdhdjdhekgpaaDoor.Oct Go.Proofs.YthhdhdjdhekgpaaDoor.Rec Go.Proofs.YthhdhdjdhekgpaaDoor.Cod Go.Proofs.YthhdhdjdhekgpaaDoor.Lay Go.Proofs.YthhdhdjdhekgpaaDoor.RowF Go.Proofs.YthhdhdjdhekgpaaDoor.InR

theorem refPutResp_is (k v i E t : Int) (A1 : Option Addr) (n1 c1 : Nat) (l1 : List Int) (A2 : Option Addr) (n2 c2 : Nat) (l2 : List ByteArray) (A3 : Option Addr) (n3 c3 : Nat) (l3 : List UInt8) (w0 w : World) (hI : RdL w0 w0.heap.size A1 n1 l1) (hn1 : n1 ≤ 140737488351232) (hT : RdL w0 w0.heap.size A2 n2 l2) (hn2 : n2 ≤ 140737488351232) (hR : Rd w0 w0.heap.size A3 n3 l3) (hn3 : n3 ≤ 140737488351232) (hb : Below w0.heap.size w0 w) {x : List UInt8} {e : Int} (h : ptP ⟨k, v, i, E, t, l1, l2, l3⟩ = (x, e)) :
    Calls Tryd.prog 23 #[.agg #[.int .i64 k, .int .i64 v, .int .i64 i, .int .i64 E, .int .i64 t, .slice A1 n1 c1, .slice A2 n2 c2, .slice A3 n3 c3]] w fun en w' => ∃ A n c, en = .returned (.tuple #[.slice A n c, .int .i64 e]) ∧ Rd w' w'.heap.size A n x ∧ n ≤ c ∧ Below w.heap.size w w' := by
  have h1 := refPutResp_any k v i E t A1 n1 c1 l1 A2 n2 c2 l2 A3 n3 c3 l3 w ((hI.below hb (Nat.le_refl _)).more hb.size) hn1 ((hT.below hb (Nat.le_refl _)).more hb.size) hn2 ((hR.below hb (Nat.le_refl _)).more hb.size) hn3
  rw [h] at h1
  exact h1
theorem refGetResp_is (A : Option Addr) (n c : Nat) (l : List UInt8) (w0 w : World) (hr : Rd w0 w0.heap.size A n l) (hb : Below w0.heap.size w0 w) (hc : n ≤ c) (hn : n ≤ 1099511627776) {k v i E t : Int} {l1 : List Int} {l2 : List ByteArray} {l3 : List UInt8} {e : Int} (h : gtP l = (⟨k, v, i, E, t, l1, l2, l3⟩, e)) :
    Calls Tryd.prog 25 #[.slice A n c] w fun en w' => ∃ A1 n1 c1 A2 n2 c2 A3 n3 c3, en = .returned (.tuple #[.agg #[.int .i64 k, .int .i64 v, .int .i64 i, .int .i64 E, .int .i64 t, .slice A1 n1 c1, .slice A2 n2 c2, .slice A3 n3 c3], .int .i64 e]) ∧ Three w' A1 n1 A2 n2 A3 n3 l1 l2 l3 ∧ Below w.heap.size w w' := by
  have h1 := refGetResp_any A n c l w ((hr.below hb (Nat.le_refl _)).more hb.size) hc hn
  rw [h] at h1
  exact h1
/-- what the last statement keeps -/
structure R8Resp (w wk : World) (k v i E t : Int) (a b c : Value) (g1 : Nat) (k2 v2 i2 E2 t2 : Int) (a1 b1 d1 : Value) (g2 : Nat) (a2 b2 d2 : Value) (X : Option Addr) (xn : Nat) (C : Option Addr) (cn : Nat) (x : List UInt8) (W : World) : Prop where
  all : Below w.heap.size w W
  bel : Below wk.heap.size wk W
  b0 : BoxP W w.heap.size k v i E t a b c
  b1 : BoxP W g1 k2 v2 i2 E2 t2 a1 b1 d1
  b2 : BoxP W g2 k2 v2 i2 E2 t2 a2 b2 d2
  rx : Rd W wk.heap.size X xn x
  rc : Rd W wk.heap.size C cn x
  lt : w.heap.size < wk.heap.size ∧ g1 < wk.heap.size ∧ g2 < wk.heap.size
theorem R8Resp.step {w wk W W' : World} {k v i E t : Int} {a b c : Value} {g1 : Nat} {k2 v2 i2 E2 t2 : Int} {a1 b1 d1 : Value} {g2 : Nat} {a2 b2 d2 : Value} {X : Option Addr} {xn : Nat} {C : Option Addr} {cn : Nat} {x : List UInt8} (h : R8Resp w wk k v i E t a b c g1 k2 v2 i2 E2 t2 a1 b1 d1 g2 a2 b2 d2 X xn C cn x W) (hb : Below W.heap.size W W') : R8Resp w wk k v i E t a b c g1 k2 v2 i2 E2 t2 a1 b1 d1 g2 a2 b2 d2 X xn C cn x W' := by
  have hs := h.bel.size
  exact ⟨bel_trans h.all hb, bel_trans h.bel hb, BoxP_below h.b0 hb (by have := h.lt; omega), BoxP_below h.b1 hb (by have := h.lt; omega), BoxP_below h.b2 hb (by have := h.lt; omega), h.rx.below hb hs, h.rc.below hb hs, h.lt⟩
def tb_l8Resp : List (Nat × Nat) := [(0, 16777215), (1, 16777214), (2, 16777213), (6, 16777209), (2, 16777213), (18, 16777197), (42, 16777173), (66, 16777149), (130, 16777087), (256, 16776959), (256, 16776959), (1792, 16775423), (2304, 16774911), (4352, 16773119), (8192, 16769023), (8192, 16769023), (57344, 16719871), (73728, 16703487), (196608, 16646143), (262144, 16515071), (262144, 16515071), (1835008, 14942207), (2359296, 14417919), (8388607, 12582911)]
set_option maxRecDepth 100000 in
set_option maxHeartbeats 16000000 in
theorem resps_n (k v i E t : Int) (A1 : Option Addr) (n1 c1 : Nat) (l1 : List Int) (A2 : Option Addr) (n2 c2 : Nat) (l2 : List ByteArray) (A3 : Option Addr) (n3 c3 : Nat) (l3 : List UInt8) (G : Option Addr) (gn gc : Nat) (lb : List UInt8) (w : World) (h1 : RdL w w.heap.size A1 n1 l1) (hn1 : n1 ≤ reach) (h2 : RdL w w.heap.size A2 n2 l2) (hn2 : n2 ≤ reach) (h3 : Rd w w.heap.size A3 n3 l3) (_hc3 : n3 ≤ c3) (hn3 : n3 ≤ reach) (hG : Rd w w.heap.size G gn lb) (_hgc : gn ≤ gc) (ht : Tab w) (hfq : fewP ⟨k, v, i, E, t, l1, l2, l3⟩ = false) :
    Calls Tryd.prog 4 #[.agg #[.int .i64 k, .int .i64 v, .int .i64 i, .int .i64 E, .int .i64 t, .slice A1 n1 c1, .slice A2 n2 c2, .slice A3 n3 c3], .slice G gn gc] w fun e w' => e = .returned (.bool true) ∧ Below w.heap.size w w' := by
  have HT := Lib.hid ht
  have H1 := Lib.hid h1
  have H2 := Lib.hid h2
  have H3 := Lib.hid h3
  have HG := Lib.hid hG
  have hr1 : n1 ≤ 140737488351232 := hn1
  have hr2 : n2 ≤ 140737488351232 := hn2
  have hr3 : n3 ≤ 140737488351232 := hn3
  have K0 := Lib.hid (show CP w k v i E t (.slice A1 n1 c1) (.slice A2 n2 c2) (.slice A3 n3 c3) (w.alloc (.cells #[.int .i64 k, .int .i64 v, .int .i64 i, .int .i64 E, .int .i64 t, .slice A1 n1 c1, .slice A2 n2 c2, .slice A3 n3 c3] 38)) from ⟨BoxP_new _ _ _ _ _ _ _ _ _ _, bel_alloc (Below.refl _ _) _, by simp⟩)
  clear ht h1 h2 h3 hG
  have HFQ := Lib.hid hfq
  clear hfq
  go_enter Tryd.func4, Tryd.ntmps4
  go_wp2_with (first
    | (go_at_call 21; (with_reducible refine (reffewP_any k v i E t A1 n1 c1 l1 A2 n2 c2 l2 A3 n3 c3 l3 w1 H1.out.len (lup H2.out (CP.bel K1.out)) hr2 H3.out.len).mono ?_); rw [HFQ.out]; rintro e w2 ⟨rfl, hb2⟩; have K2 := Lib.hid (K1.out.step hb2); (try clear q0 q1 q2 q3 q4 q5 q6 q7); obtain ⟨q0, q1, q2, q3, q4, q5, q6, q7⟩ := K2.out.1; clear hb2)
    | (go_at_call 12; (with_reducible refine (live_is w _ (CP.bel K0.out) HT.out).mono ?_); rintro e w1 ⟨rfl, hb1⟩; have K1 := Lib.hid (K0.out.step hb1); obtain ⟨q0, q1, q2, q3, q4, q5, q6, q7⟩ := K1.out.1; clear hb1))
  go_ret
  exact ⟨rfl, CP.bel K2.out⟩
set_option maxRecDepth 100000 in
set_option maxHeartbeats 16000000 in
theorem resps_m (k v i E t : Int) (A1 : Option Addr) (n1 c1 : Nat) (l1 : List Int) (A2 : Option Addr) (n2 c2 : Nat) (l2 : List ByteArray) (A3 : Option Addr) (n3 c3 : Nat) (l3 : List UInt8) (G : Option Addr) (gn gc : Nat) (lb : List UInt8) (w : World) (h1 : RdL w w.heap.size A1 n1 l1) (hn1 : n1 ≤ reach) (h2 : RdL w w.heap.size A2 n2 l2) (hn2 : n2 ≤ reach) (h3 : Rd w w.heap.size A3 n3 l3) (_hc3 : n3 ≤ c3) (hn3 : n3 ≤ reach) (hG : Rd w w.heap.size G gn lb) (_hgc : gn ≤ gc) (ht : Tab w) (hfq : fewP ⟨k, v, i, E, t, l1, l2, l3⟩ = true) (hgn : 5000 < gn) :
    Calls Tryd.prog 4 #[.agg #[.int .i64 k, .int .i64 v, .int .i64 i, .int .i64 E, .int .i64 t, .slice A1 n1 c1, .slice A2 n2 c2, .slice A3 n3 c3], .slice G gn gc] w fun e w' => e = .returned (.bool true) ∧ Below w.heap.size w w' := by
  have HT := Lib.hid ht
  have H1 := Lib.hid h1
  have H2 := Lib.hid h2
  have H3 := Lib.hid h3
  have HG := Lib.hid hG
  have hr1 : n1 ≤ 140737488351232 := hn1
  have hr2 : n2 ≤ 140737488351232 := hn2
  have hr3 : n3 ≤ 140737488351232 := hn3
  have K0 := Lib.hid (show CP w k v i E t (.slice A1 n1 c1) (.slice A2 n2 c2) (.slice A3 n3 c3) (w.alloc (.cells #[.int .i64 k, .int .i64 v, .int .i64 i, .int .i64 E, .int .i64 t, .slice A1 n1 c1, .slice A2 n2 c2, .slice A3 n3 c3] 38)) from ⟨BoxP_new _ _ _ _ _ _ _ _ _ _, bel_alloc (Below.refl _ _) _, by simp⟩)
  clear ht h1 h2 h3 hG
  have HFQ := Lib.hid hfq
  have hgn' : (5000 : Int) < (gn : Int) := by omega
  clear hfq
  go_enter Tryd.func4, Tryd.ntmps4
  go_wp2_with (first
    | (go_at_call 21; (with_reducible refine (reffewP_any k v i E t A1 n1 c1 l1 A2 n2 c2 l2 A3 n3 c3 l3 w1 H1.out.len (lup H2.out (CP.bel K1.out)) hr2 H3.out.len).mono ?_); rw [HFQ.out]; rintro e w2 ⟨rfl, hb2⟩; have K2 := Lib.hid (K1.out.step hb2); (try clear q0 q1 q2 q3 q4 q5 q6 q7); obtain ⟨q0, q1, q2, q3, q4, q5, q6, q7⟩ := K2.out.1; clear hb2)
    | (go_at_call 12; (with_reducible refine (live_is w _ (CP.bel K0.out) HT.out).mono ?_); rintro e w1 ⟨rfl, hb1⟩; have K1 := Lib.hid (K0.out.step hb1); obtain ⟨q0, q1, q2, q3, q4, q5, q6, q7⟩ := K1.out.1; clear hb1))
  go_ret
  exact ⟨rfl, CP.bel K2.out⟩
set_option maxRecDepth 100000 in
set_option maxHeartbeats 16000000 in
theorem resps_ok (k v i E t : Int) (A1 : Option Addr) (n1 c1 : Nat) (l1 : List Int) (A2 : Option Addr) (n2 c2 : Nat) (l2 : List ByteArray) (A3 : Option Addr) (n3 c3 : Nat) (l3 : List UInt8) (G : Option Addr) (gn gc : Nat) (lb : List UInt8) (w : World) (h1 : RdL w w.heap.size A1 n1 l1) (hn1 : n1 ≤ reach) (h2 : RdL w w.heap.size A2 n2 l2) (hn2 : n2 ≤ reach) (h3 : Rd w w.heap.size A3 n3 l3) (_hc3 : n3 ≤ c3) (hn3 : n3 ≤ reach) (hG : Rd w w.heap.size G gn lb) (hgc : gn ≤ gc) (ht : Tab w) (hfq : fewP ⟨k, v, i, E, t, l1, l2, l3⟩ = true) (hgn : gn ≤ 5000) (x : List UInt8) (e1 : Int) (hpt : ptP ⟨k, v, i, E, t, l1, l2, l3⟩ = (x, e1)) (k2 v2 i2 E2 t2 : Int) (a1 : List Int) (a2 : List ByteArray) (a3 : List UInt8) (e2 : Int) (hgt : gtP lb = (⟨k2, v2, i2, E2, t2, a1, a2, a3⟩, e2)) :
    Calls Tryd.prog 4 #[.agg #[.int .i64 k, .int .i64 v, .int .i64 i, .int .i64 E, .int .i64 t, .slice A1 n1 c1, .slice A2 n2 c2, .slice A3 n3 c3], .slice G gn gc] w fun e w' => e = .returned (.bool true) ∧ Below w.heap.size w w' := by
  have HT := Lib.hid ht
  have H1 := Lib.hid h1
  have H2 := Lib.hid h2
  have H3 := Lib.hid h3
  have HG := Lib.hid hG
  have hr1 : n1 ≤ 140737488351232 := hn1
  have hr2 : n2 ≤ 140737488351232 := hn2
  have hr3 : n3 ≤ 140737488351232 := hn3
  have K0 := Lib.hid (show CP w k v i E t (.slice A1 n1 c1) (.slice A2 n2 c2) (.slice A3 n3 c3) (w.alloc (.cells #[.int .i64 k, .int .i64 v, .int .i64 i, .int .i64 E, .int .i64 t, .slice A1 n1 c1, .slice A2 n2 c2, .slice A3 n3 c3] 38)) from ⟨BoxP_new _ _ _ _ _ _ _ _ _ _, bel_alloc (Below.refl _ _) _, by simp⟩)
  clear ht h1 h2 h3 hG
  have HFQ := Lib.hid hfq
  have HPT := Lib.hid hpt
  have HGT := Lib.hid hgt
  have hgn' : ¬ (5000 : Int) < (gn : Int) := by omega
  have hmx : Tryd.prog.follows .mixedOrders = true := by kernel_rfl
  clear hfq hpt hgt
  go_enter Tryd.func4, Tryd.ntmps4
  go_upto_region 8 with (first
    | (go_at_call 25; (with_reducible refine (refGetResp_is G gn gc lb w (w5.alloc (.cells #[.int .i64 k2, .int .i64 v2, .int .i64 i2, .int .i64 E2, .int .i64 t2, .slice P1 P2 P3, .slice P4 P5 P6, .slice P7 P8 P9] 38)) HG.out (CP.bel K5a.out) hgc (by omega) HGT.out).mono ?_); rintro e w6 ⟨S1, S2, S3, S4, S5, S6, S7, S8, S9, rfl, h3, hb9⟩; have HT6 := Lib.hid h3; have K6 := Lib.hid (K5a.out.step hb9); have HB6 := Lib.hid hb9; clear hb9 h3)
    | (go_at_call 24; (with_reducible refine (GetResp_is G gn gc lb w w4 HG.out (CP.bel K4.out) hgc (by omega) HGT.out).mono ?_); rintro e w5 ⟨P1, P2, P3, P4, P5, P6, P7, P8, P9, rfl, h3, hb9⟩; have HT5 := Lib.hid h3; have K5 := Lib.hid (K4.out.step hb9); have HB5 := Lib.hid hb9; have K5a := Lib.hid (show CP w k v i E t (.slice A1 n1 c1) (.slice A2 n2 c2) (.slice A3 n3 c3) (w5.alloc (.cells #[.int .i64 k2, .int .i64 v2, .int .i64 i2, .int .i64 E2, .int .i64 t2, .slice P1 P2 P3, .slice P4 P5 P6, .slice P7 P8 P9] 38)) from K5.out.step (bel_alloc (Below.refl _ _) _)); have HB5a := Lib.hid (bel_alloc (Below.refl w5.heap.size w5) (.cells #[.int .i64 k2, .int .i64 v2, .int .i64 i2, .int .i64 E2, .int .i64 t2, .slice P1 P2 P3, .slice P4 P5 P6, .slice P7 P8 P9] 38)); clear hb9 h3)
    | (go_at_call 23; (with_reducible refine (refPutResp_is k v i E t A1 n1 c1 l1 A2 n2 c2 l2 A3 n3 c3 l3 w w3 H1.out hr1 H2.out hr2 H3.out hr3 (CP.bel K3.out) HPT.out).mono ?_); rintro e w4 ⟨C5, Cn, Cc, rfl, hC, hCc, hb9⟩; have HC := Lib.hid hC; have K4 := Lib.hid (K3.out.step hb9); have HBK4 := Lib.hid hb9; (try clear q0 q1 q2 q3 q4 q5 q6 q7); obtain ⟨q0, q1, q2, q3, q4, q5, q6, q7⟩ := K4.out.1; clear hb9 hC)
    | (go_at_call 22; (with_reducible refine (PutResp_is k v i E t A1 n1 c1 l1 A2 n2 c2 l2 A3 n3 c3 l3 w w2 H1.out hr1 H2.out hr2 H3.out hr3 (CP.bel K2.out) HPT.out).mono ?_); rintro e w3 ⟨X5, Xn, Xc, rfl, hX, hXc, hb9⟩; have HX := Lib.hid hX; have K3 := Lib.hid (K2.out.step hb9); have HBK3 := Lib.hid hb9; (try clear q0 q1 q2 q3 q4 q5 q6 q7); obtain ⟨q0, q1, q2, q3, q4, q5, q6, q7⟩ := K3.out.1; clear hb9 hX)
    | (go_at_call 21; (with_reducible refine (reffewP_any k v i E t A1 n1 c1 l1 A2 n2 c2 l2 A3 n3 c3 l3 w1 H1.out.len (lup H2.out (CP.bel K1.out)) hr2 H3.out.len).mono ?_); rw [HFQ.out]; rintro e w2 ⟨rfl, hb2⟩; have K2 := Lib.hid (K1.out.step hb2); (try clear q0 q1 q2 q3 q4 q5 q6 q7); obtain ⟨q0, q1, q2, q3, q4, q5, q6, q7⟩ := K2.out.1; clear hb2)
    | (go_at_call 12; (with_reducible refine (live_is w _ (CP.bel K0.out) HT.out).mono ?_); rintro e w1 ⟨rfl, hb1⟩; have K1 := Lib.hid (K0.out.step hb1); obtain ⟨q0, q1, q2, q3, q4, q5, q6, q7⟩ := K1.out.1; clear hb1))
  have HB6a := Lib.hid (bel_alloc (Below.refl w6.heap.size w6) (.cells #[.int .i64 k2, .int .i64 v2, .int .i64 i2, .int .i64 E2, .int .i64 t2, .slice S1 S2 S3, .slice S4 S5 S6, .slice S7 S8 S9] 38))
  have HBX := Lib.hid (show Below w3.heap.size w3 (w6.alloc (.cells #[.int .i64 k2, .int .i64 v2, .int .i64 i2, .int .i64 E2, .int .i64 t2, .slice S1 S2 S3, .slice S4 S5 S6, .slice S7 S8 S9] 38)) from bel_trans HBK4.out (bel_trans HB5.out (bel_trans HB5a.out (bel_trans HB6.out HB6a.out))))
  have HBC := Lib.hid (show Below w4.heap.size w4 (w6.alloc (.cells #[.int .i64 k2, .int .i64 v2, .int .i64 i2, .int .i64 E2, .int .i64 t2, .slice S1 S2 S3, .slice S4 S5 S6, .slice S7 S8 S9] 38)) from bel_trans HB5.out (bel_trans HB5a.out (bel_trans HB6.out HB6a.out)))
  have HB5k := Lib.hid (show Below (w5.alloc (.cells #[.int .i64 k2, .int .i64 v2, .int .i64 i2, .int .i64 E2, .int .i64 t2, .slice P1 P2 P3, .slice P4 P5 P6, .slice P7 P8 P9] 38)).heap.size (w5.alloc (.cells #[.int .i64 k2, .int .i64 v2, .int .i64 i2, .int .i64 E2, .int .i64 t2, .slice P1 P2 P3, .slice P4 P5 P6, .slice P7 P8 P9] 38)) (w6.alloc (.cells #[.int .i64 k2, .int .i64 v2, .int .i64 i2, .int .i64 E2, .int .i64 t2, .slice S1 S2 S3, .slice S4 S5 S6, .slice S7 S8 S9] 38)) from bel_trans HB6.out HB6a.out)
  have HT5k := Lib.hid (HT5.out.below (bel_trans HB5a.out HB5k.out))
  have HT6k := Lib.hid (HT6.out.below HB6a.out)
  have K7 := Lib.hid (K6.out.step HB6a.out)
  have B1k := Lib.hid (show BoxP (w6.alloc (.cells #[.int .i64 k2, .int .i64 v2, .int .i64 i2, .int .i64 E2, .int .i64 t2, .slice S1 S2 S3, .slice S4 S5 S6, .slice S7 S8 S9] 38)) w5.heap.size k2 v2 i2 E2 t2 (.slice P1 P2 P3) (.slice P4 P5 P6) (.slice P7 P8 P9) from BoxP_below (BoxP_new w5 38 _ _ _ _ _ _ _ _) HB5k.out (by simp))
  have B2k := Lib.hid (show BoxP (w6.alloc (.cells #[.int .i64 k2, .int .i64 v2, .int .i64 i2, .int .i64 E2, .int .i64 t2, .slice S1 S2 S3, .slice S4 S5 S6, .slice S7 S8 S9] 38)) w6.heap.size k2 v2 i2 E2 t2 (.slice S1 S2 S3) (.slice S4 S5 S6) (.slice S7 S8 S9) from BoxP_new w6 38 _ _ _ _ _ _ _ _)
  have hl6 : w6.heap.size < (w6.alloc (.cells #[.int .i64 k2, .int .i64 v2, .int .i64 i2, .int .i64 E2, .int .i64 t2, .slice S1 S2 S3, .slice S4 S5 S6, .slice S7 S8 S9] 38)).heap.size := by simp
  have hl5 : w5.heap.size < (w6.alloc (.cells #[.int .i64 k2, .int .i64 v2, .int .i64 i2, .int .i64 E2, .int .i64 t2, .slice S1 S2 S3, .slice S4 S5 S6, .slice S7 S8 S9] 38)).heap.size := Nat.lt_of_lt_of_le (by simp) HB5k.out.size
  generalize (w6.alloc (.cells #[.int .i64 k2, .int .i64 v2, .int .i64 i2, .int .i64 E2, .int .i64 t2, .slice S1 S2 S3, .slice S4 S5 S6, .slice S7 S8 S9] 38)) = wk at HBX HBC HB5k HT5k HT6k K7 B1k B2k hl5 hl6 ⊢
  have HS8 := Lib.hid (show R8Resp w wk k v i E t (.slice A1 n1 c1) (.slice A2 n2 c2) (.slice A3 n3 c3) w5.heap.size k2 v2 i2 E2 t2 (.slice P1 P2 P3) (.slice P4 P5 P6) (.slice P7 P8 P9) w6.heap.size (.slice S1 S2 S3) (.slice S4 S5 S6) (.slice S7 S8 S9) X5 Xn C5 Cn x wk from ⟨K7.out.2.1, Below.refl _ _, K7.out.1, B1k.out, B2k.out, rup HX.out HBX.out, rup HC.out HBC.out, ⟨K7.out.2.2, hl5, hl6⟩⟩)
  clear q0 q1 q2 q3 q4 q5 q6 q7
  have hS9 := HS8.out
  obtain ⟨q0, q1, q2, q3, q4, q5, q6, q7⟩ := hS9.b0
  obtain ⟨u0, u1, u2, u3, u4, u5, u6, u7⟩ := hS9.b1
  obtain ⟨v0', v1', v2', v3', v4', v5', v6', v7'⟩ := hS9.b2
  have r1 := str_of wk _ X5 Xn Xc x hS9.rx
  have r2 := str_of wk _ C5 Cn Cc x hS9.rc
  clear hS9
  refine region_seq fun ops Q HOPS HQ => ?_
  refine lstepQ HOPS ?_ rfl (by kernel_rfl) rfl ?_ ?_
  rotate_left
  · go_simp; (first | done | with_reducible rfl)
  dsimp only [List.set_cons_zero, List.set_cons_succ]
  refine lstepQ HOPS ?_ rfl (by kernel_rfl) rfl ?_ ?_
  rotate_left
  · go_simp; (first | done | with_reducible rfl)
  dsimp only [List.set_cons_zero, List.set_cons_succ]
  refine lstepQ HOPS ?_ rfl (by kernel_rfl) rfl ?_ ?_
  rotate_left
  · go_simp; (first | done | with_reducible rfl)
  dsimp only [List.set_cons_zero, List.set_cons_succ]
  refine lstepQ HOPS ?_ rfl (by kernel_rfl) rfl ?_ ?_
  rotate_left
  · go_simp; (first | done | with_reducible rfl)
  dsimp only [List.set_cons_zero, List.set_cons_succ]
  refine lstepQ HOPS ?_ rfl (by kernel_rfl) rfl ?_ ?_
  rotate_left
  · go_simp; (first | done | with_reducible rfl)
  dsimp only [List.set_cons_zero, List.set_cons_succ]
  refine lstepQ HOPS ?_ rfl (by kernel_rfl) rfl ?_ ?_
  rotate_left
  · go_simp; (first | done | with_reducible rfl)
  dsimp only [List.set_cons_zero, List.set_cons_succ]
  refine lstepQ HOPS ?_ rfl (by kernel_rfl) rfl ?_ ?_
  rotate_left
  · go_simp; (first | done | with_reducible rfl)
  dsimp only [List.set_cons_zero, List.set_cons_succ]
  refine lstepQ HOPS ?_ rfl (by kernel_rfl) rfl ?_ ?_
  rotate_left
  · go_simp; (first | done | with_reducible rfl)
  dsimp only [List.set_cons_zero, List.set_cons_succ]
  refine lstepQ HOPS ?_ rfl (by kernel_rfl) rfl ?_ ?_
  rotate_left
  · go_simp; (first | done | with_reducible rfl)
  dsimp only [List.set_cons_zero, List.set_cons_succ]
  refine lstepQ HOPS ?_ rfl (by kernel_rfl) rfl ?_ ?_
  rotate_left
  · go_simp; (first | done | with_reducible rfl)
  dsimp only [List.set_cons_zero, List.set_cons_succ]
  refine lstepQ HOPS ?_ rfl (by kernel_rfl) rfl ?_ ?_
  rotate_left
  · go_simp; (first | done | with_reducible rfl)
  dsimp only [List.set_cons_zero, List.set_cons_succ]
  refine lstepQ HOPS ?_ rfl (by kernel_rfl) rfl ?_ ?_
  rotate_left
  · go_simp; (first | done | with_reducible rfl)
  dsimp only [List.set_cons_zero, List.set_cons_succ]
  refine lstepQ HOPS ?_ rfl (by kernel_rfl) rfl ?_ ?_
  rotate_left
  · go_simp; (first | done | with_reducible rfl)
  dsimp only [List.set_cons_zero, List.set_cons_succ]
  refine lstepQ HOPS ?_ rfl (by kernel_rfl) rfl ?_ ?_
  rotate_left
  · go_simp; (first | done | with_reducible rfl)
  dsimp only [List.set_cons_zero, List.set_cons_succ]
  refine lstepQ HOPS ?_ rfl (by kernel_rfl) rfl ?_ ?_
  rotate_left
  · go_simp; (first | done | with_reducible rfl)
  dsimp only [List.set_cons_zero, List.set_cons_succ]
  refine lstepQ HOPS ?_ rfl (by kernel_rfl) rfl ?_ ?_
  rotate_left
  · go_simp; (first | done | with_reducible rfl)
  dsimp only [List.set_cons_zero, List.set_cons_succ]
  refine lstepC HOPS rfl (by kernel_rfl) ?_
  go_simp
  obtain ⟨z1, z2, z3, z4, z5, z6⟩ := HT5k.out.below HS8.out.bel
  obtain ⟨y1, y2, y3, y4, y5, y6⟩ := HT6k.out.below HS8.out.bel
  refine (refsameP_any k2 k2 v2 v2 i2 i2 E2 E2 t2 t2 P1 P2 P3 a1 P4 P5 P6 a2 P7 P8 P9 a3 S1 S2 S3 a1 S4 S5 S6 a2 S7 S8 S9 a3 _ z1 z4 z2 z5 z3 y1 y2 y3).mono ?_
  rw [eqq_yes rfl]
  rintro e w21 ⟨rfl, hb9⟩
  dsimp only
  have HS21 := Lib.hid (HS8.out.step hb9)
  clear hb9
  try simp only [Act.put, List.setIfInBounds_toArray, List.set_cons_zero, List.set_cons_succ]
  refine lstepQ HOPS ?_ rfl (by kernel_rfl) rfl ?_ ?_
  rotate_left
  · go_simp; (first | done | with_reducible rfl)
  dsimp only [List.set_cons_zero, List.set_cons_succ]
  refine lstepQ HOPS ?_ rfl (by kernel_rfl) rfl ?_ ?_
  rotate_left
  · go_simp; (first | done | with_reducible rfl)
  dsimp only [List.set_cons_zero, List.set_cons_succ]
  refine lstepQ HOPS ?_ rfl (by kernel_rfl) rfl ?_ ?_
  rotate_left
  · go_simp; (first | done | with_reducible rfl)
  dsimp only [List.set_cons_zero, List.set_cons_succ]
  refine lstepQ HOPS ?_ rfl (by kernel_rfl) rfl ?_ ?_
  rotate_left
  · go_simp; (first | done | with_reducible rfl)
  dsimp only [List.set_cons_zero, List.set_cons_succ]
  refine lstepQ HOPS ?_ rfl (by kernel_rfl) rfl ?_ ?_
  rotate_left
  · go_simp; (first | done | with_reducible rfl)
  dsimp only [List.set_cons_zero, List.set_cons_succ]
  refine lstepQ HOPS ?_ rfl (by kernel_rfl) rfl ?_ ?_
  rotate_left
  · go_simp; (first | done | with_reducible rfl)
  dsimp only [List.set_cons_zero, List.set_cons_succ]
  refine lstepQ HOPS ?_ rfl (by kernel_rfl) rfl ?_ ?_
  rotate_left
  · go_simp; (first | done | with_reducible rfl)
  dsimp only [List.set_cons_zero, List.set_cons_succ]
  refine lstepE HOPS (by decide) (HQ.out _ _ ?_)
  clear HQ HOPS
  clear Q ops
  go_wp2
  go_ret
  exact ⟨rfl, HS21.out.all⟩
theorem protoResps_walk (k v i E t : Int) (A1 : Option Addr) (n1 c1 : Nat) (l1 : List Int) (A2 : Option Addr) (n2 c2 : Nat) (l2 : List ByteArray) (A3 : Option Addr) (n3 c3 : Nat) (l3 : List UInt8) (G : Option Addr) (gn gc : Nat) (lb : List UInt8) (w : World) (h1 : RdL w w.heap.size A1 n1 l1) (hn1 : n1 ≤ reach) (h2 : RdL w w.heap.size A2 n2 l2) (hn2 : n2 ≤ reach) (h3 : Rd w w.heap.size A3 n3 l3) (hc3 : n3 ≤ c3) (hn3 : n3 ≤ reach) (hG : Rd w w.heap.size G gn lb) (hgc : gn ≤ gc) (ht : Tab w) :
    Calls Tryd.prog 4 #[.agg #[.int .i64 k, .int .i64 v, .int .i64 i, .int .i64 E, .int .i64 t, .slice A1 n1 c1, .slice A2 n2 c2, .slice A3 n3 c3], .slice G gn gc] w fun e w' => e = .returned (.bool true) ∧ Below w.heap.size w w' := by
  rcases hf : fewP ⟨k, v, i, E, t, l1, l2, l3⟩ with _ | _
  · exact resps_n k v i E t A1 n1 c1 l1 A2 n2 c2 l2 A3 n3 c3 l3 G gn gc lb w h1 hn1 h2 hn2 h3 hc3 hn3 hG hgc ht hf
  by_cases hg : 5000 < gn
  · exact resps_m k v i E t A1 n1 c1 l1 A2 n2 c2 l2 A3 n3 c3 l3 G gn gc lb w h1 hn1 h2 hn2 h3 hc3 hn3 hG hgc ht hf hg
  rcases hp : ptP ⟨k, v, i, E, t, l1, l2, l3⟩ with ⟨x, e1⟩
  rcases hq : gtP lb with ⟨⟨k2, v2, i2, E2, t2, a1, a2, a3⟩, e2⟩
  exact resps_ok k v i E t A1 n1 c1 l1 A2 n2 c2 l2 A3 n3 c3 l3 G gn gc lb w h1 hn1 h2 hn2 h3 hc3 hn3 hG hgc ht hf (by omega) x e1 hp k2 v2 i2 E2 t2 a1 a2 a3 e2 hq
end Go.Proofs.YthhdhdjdhekgpaaDoor.Pro

namespace Go.Proofs.YthhdhdjdhekgpaaDoor.protoResps
open Go.ChangeShapes Go.WideShapes Go.ChangeAt Go.RowKit

theorem own : ownKnob Tryd.prog.godebug = none := by kernel_rfl
theorem laidOut : laidOutB Tryd.prog = true := by kernel_rfl

set_option maxRecDepth 100000 in
theorem lifted (os : Os) (started : os.Started) (H : Type) (enc : TypeId × Value → H) :
    ReturnsInHanded {} Tryd.checked os 4 .any (fun w args => (Rows.protoRespsSpec.pre enc Tryd.prog Tryd.f4 [] false w args ∧ laidMetH Tryd.prog Pro.listed w) ∧ sizedMet enc Tryd.prog Tryd.f4 (OpenSpec.ofChange Rows.protoRespsSpec) false w args)
      (Rows.protoRespsSpec.post enc Tryd.prog Tryd.f4 false true false false) := by
  refine returnsInHanded_of_change_and (C := Tryd.checked) (X := fun w _ => laidMetH Tryd.prog Pro.listed w) (fun _ _ _ hh h => h.of_heap hh) own started (by kernel_rfl) Tryd.func4
    (ChangeSpec.witness_shaped (enc := enc) (C := Tryd.checked) (os := os) (X := fun w _ => laidMetH Tryd.prog Pro.listed w) false (World.doorLaid Tryd.prog 400 os) #[.agg #[.int .i64 0, .int .i64 0, .int .i64 0, .int .i64 0, .int .i64 0, .slice none 0 0, .slice none 0 0, .slice none 0 0], .slice none 0 0] 8 rfl (World.shaped_of_RefB (by kernel_rfl) (by kernel_rfl)) (by kernel_rfl) (by kernel_rfl) (by kernel_rfl) (Pro.door_met os _)) ?_
  intro W base args ds gs before hval0 hW _ hwt hL _
  have hval : ∀ (j : Nat) t v, Tryd.f4.params[j]? = some t → args[j]? = some v → Value.okWide Tryd.prog W .any base t v := hval0
  have hW' := hW
  obtain ⟨p, q, hA0, hV, rfl, hfz, hnd⟩ := hW
  have hA : DataW.TrodAll enc Tryd.prog W 0 (fun _ => true) true Tryd.f4.params.toList args.toList ds p := hA0
  rw [Tryd.params4] at hA hval
  obtain ⟨v0, vs0, d0, ds0, p0, q0, hargs, rfl, rfl, h0, r0⟩ := trodAll_cons hA
  obtain ⟨v1, vs1, d1, ds1, p1, q1, rfl, rfl, rfl, h1, r1⟩ := trodAll_cons r0
  obtain ⟨rfl, rfl, rfl⟩ := trodAll_nil r1
  obtain rfl : args = #[v0, v1] := by cases args; simp_all
  obtain ⟨rfl, rfl⟩ := trodVars_none hV
  have k0 := h0
  have lt0 : ∀ x ∈ p0, x.block < W.heap.size := by obtain ⟨m, hm⟩ := k0; exact DataW.trod_lt m _ _ _ hm
  obtain ⟨k_0, ver_0, id_0, er_0, wt_0, A_0, n_0, c_0, l_0, B_0, m_0, d_0, t_0, C_0, q_0, e_0, b_0, rfl, h1_0, hn1_0, h2_0, hn2_0, h3_0, hc3_0, hn3_0⟩ := Pro.open_resp (hval 0 38 v0 rfl rfl) h0 (Pro.weights_arg (j := 0) hwt (by kernel_rfl) rfl)
  have k1 := h1
  have lt1 : ∀ x ∈ p1, x.block < W.heap.size := by obtain ⟨m, hm⟩ := k1; exact DataW.trod_lt m _ _ _ hm
  obtain ⟨a1, len1, cap1, l1, rfl, rd1, cp1⟩ := Oct.open_bytes Tryd.underlying24 Tryd.underlying5 (by kernel_rfl) (hval 1 24 v1 rfl rfl) h1
  clear hA0 hval0
  refine (Pro.protoResps_walk k_0 ver_0 id_0 er_0 wt_0 A_0 n_0 c_0 l_0 B_0 m_0 d_0 t_0 C_0 q_0 e_0 b_0 a1 len1 cap1 l1 W h1_0 hn1_0 h2_0 hn2_0 h3_0 hc3_0 hn3_0 rd1 cp1 (Pro.tab_of_laid hL)).mono fun e W' ⟨he, bel⟩ => ?_
  subst he
  exact ⟨_, rfl, _, _, _, [], _, [], hW', trodAll_mk1 (shut_bool Tryd.underlying4 _), (trodAll_cons_mk (Below.trod laidOut (by kernel_rfl) (of_decide_eq_true (by kernel_rfl)) k0 bel lt0) (trodAll_cons_mk (Below.trod laidOut (by kernel_rfl) (of_decide_eq_true (by kernel_rfl)) k1 bel lt1) trodAll_mk0)), rfl, bel.frame _, fun h => by cases h⟩

theorem over : Rows.protoRespsRow.holds Tryd.pinned (OpenSpec.ofChange Rows.protoRespsSpec) :=
  OpenClaim.holds_of_wide 4 Tryd.f4 rfl rfl rfl rfl rfl rfl rfl ⟨rfl, rfl, rfl, rfl, rfl⟩ rfl rfl rfl rfl rfl (by kernel_rfl) Tryd.func4 (by kernel_rfl)
    (of_decide_eq_true (by kernel_rfl)) (by unfold Func.isWrapper; first | (rw [if_pos (by decide +kernel)]; kernel_rfl) | (rw [if_neg (by decide +kernel)]; exact ⟨rfl, rfl⟩))
    (fun os started H enc _ => lifted os started H enc)

theorem proved : Rows.ProtoRespsCardSaid :=
  Claim7.holds_tied_plain_at .later [] [.data] true (true, "914bd8f4ba55f588f3411a616729fba77a27d8a54981671c67a2ae6954f02f7f") false
    over (fun _ h => by cases h) (by kernel_rfl) (fun _ h => by cases h) protoResps_row_tie rfl ⟨rfl, rfl⟩ (by kernel_rfl) rfl
    (fun f fn hf hfn => by
      obtain rfl : f = 4 := Option.some.inj ((show Tryd.prog.funcNamed "watermeet/watermeetlaw06.ProtoResps" = some 4 by kernel_rfl).symm.trans hf) |>.symm
      obtain rfl : fn = Tryd.f4 := (Option.some.inj (Tryd.func4.symm.trans hfn)).symm
      exact ⟨by kernel_rfl, fun j t ht => by
        rw [Tryd.params4] at ht
        have hm : t ∈ [38, 24] := by simpa using Array.mem_of_getElem? ht
        have hall : ([38, 24].all fun u => !Tryd.prog.wantsStandIn u) = true := by kernel_rfl
        exact (show Tryd.prog.wantsStandIn t = false by simpa using List.all_eq_true.1 hall t hm)⟩)
    (by kernel_rfl)
#print axioms proved
end Go.Proofs.YthhdhdjdhekgpaaDoor.protoResps
