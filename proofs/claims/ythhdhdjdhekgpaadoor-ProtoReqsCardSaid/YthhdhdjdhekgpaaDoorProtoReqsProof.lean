/- For any request and any bytes (at most 3,000): whether the request may be, its bytes, and which request the bytes are, is what the document says, of what is few (the law answers true, and changes nothing that was there). Conditions: none.
-/
import Derived.Test.YthhdhdjdhekgpaaDoorProIs
import Derived.Test.YthhdhdjdhekgpaaDoorProLive2
import Derived.Test.YthhdhdjdhekgpaaDoorProRP
import Derived.Test.YthhdhdjdhekgpaaDoorProRG
import Derived.Test.YthhdhdjdhekgpaaDoorRows
import Derived.WalkKit
import Derived.ProofKit
import Derived.OpenShut
import Derived.ChangeOld
import Derived.Below
import Derived.Carry
import Derived.Test.YthhdhdjdhekgpaaDoorJOct
import Derived.Test.YthhdhdjdhekgpaaDoorProArg
import Derived.Test.YthhdhdjdhekgpaaDoorProTied
import Derived.Test.YthhdhdjdhekgpaaDoorTie
import Derived.Test.YthhdhdjdhekgpaaDoorCards
import Derived.SevenTiedAt
/- The walk of ProtoReqs. -/
namespace Go.Proofs.YthhdhdjdhekgpaaDoor.Pro
open Go.RowKit Go.Proofs.YthhdhdjdhekgpaaDoor.Oct Go.Proofs.YthhdhdjdhekgpaaDoor.Rec Go.Proofs.YthhdhdjdhekgpaaDoor.Cod Go.Proofs.YthhdhdjdhekgpaaDoor.Lay Go.Proofs.YthhdhdjdhekgpaaDoor.RowF Go.Proofs.YthhdhdjdhekgpaaDoor.InR

theorem refPutReq_is (k v i : Int) (s : ByteArray) (A1 : Option Addr) (n1 c1 : Nat) (l1 : List Int) (A2 : Option Addr) (n2 c2 : Nat) (l2 : List ByteArray) (A3 : Option Addr) (n3 c3 : Nat) (l3 : List UInt8) (w0 w : World) (hI : RdL w0 w0.heap.size A1 n1 l1) (hn1 : n1 ≤ 140737488351232) (hT : RdL w0 w0.heap.size A2 n2 l2) (hn2 : n2 ≤ 140737488351232) (hs47 : s.size ≤ 140737488351232) (hR : Rd w0 w0.heap.size A3 n3 l3) (hn3 : n3 ≤ 140737488351232) (hb : Below w0.heap.size w0 w) {x : List UInt8} {e : Int} (h : ptQ ⟨k, v, i, s, l1, l2, l3⟩ = (x, e)) :
    Calls Tryd.prog 15 #[.agg #[.int .i64 k, .int .i64 v, .int .i64 i, .string s, .slice A1 n1 c1, .slice A2 n2 c2, .slice A3 n3 c3]] w fun en w' => ∃ A n c, en = .returned (.tuple #[.slice A n c, .int .i64 e]) ∧ Rd w' w'.heap.size A n x ∧ n ≤ c ∧ Below w.heap.size w w' := by
  have h1 := refPutReq_any k v i s A1 n1 c1 l1 A2 n2 c2 l2 A3 n3 c3 l3 w ((hI.below hb (Nat.le_refl _)).more hb.size) hn1 ((hT.below hb (Nat.le_refl _)).more hb.size) hn2 hs47 ((hR.below hb (Nat.le_refl _)).more hb.size) hn3
  rw [h] at h1
  exact h1
theorem refGetReq_is (A : Option Addr) (n c : Nat) (l : List UInt8) (w0 w : World) (hr : Rd w0 w0.heap.size A n l) (hb : Below w0.heap.size w0 w) (hc : n ≤ c) (hn : n ≤ 1099511627776) {k v i : Int} {s : ByteArray} {l1 : List Int} {l2 : List ByteArray} {l3 : List UInt8} {e : Int} (h : gtQ l = (⟨k, v, i, s, l1, l2, l3⟩, e)) :
    Calls Tryd.prog 17 #[.slice A n c] w fun en w' => ∃ A1 n1 c1 A2 n2 c2 A3 n3 c3, en = .returned (.tuple #[.agg #[.int .i64 k, .int .i64 v, .int .i64 i, .string s, .slice A1 n1 c1, .slice A2 n2 c2, .slice A3 n3 c3], .int .i64 e]) ∧ Three w' A1 n1 A2 n2 A3 n3 l1 l2 l3 ∧ s.size ≤ 64 ∧ Below w.heap.size w w' := by
  have h1 := refGetReq_any A n c l w ((hr.below hb (Nat.le_refl _)).more hb.size) hc hn
  rw [h] at h1
  exact h1
/-- what the last statement keeps -/
structure R8Req (w wk : World) (k v i : Int) (s : ByteArray) (a b c : Value) (g1 : Nat) (k2 v2 i2 : Int) (s2 : ByteArray) (a1 b1 d1 : Value) (g2 : Nat) (a2 b2 d2 : Value) (X : Option Addr) (xn : Nat) (C : Option Addr) (cn : Nat) (x : List UInt8) (W : World) : Prop where
  all : Below w.heap.size w W
  bel : Below wk.heap.size wk W
  b0 : BoxQ W w.heap.size k v i s a b c
  b1 : BoxQ W g1 k2 v2 i2 s2 a1 b1 d1
  b2 : BoxQ W g2 k2 v2 i2 s2 a2 b2 d2
  rx : Rd W wk.heap.size X xn x
  rc : Rd W wk.heap.size C cn x
  lt : w.heap.size < wk.heap.size ∧ g1 < wk.heap.size ∧ g2 < wk.heap.size
theorem R8Req.step {w wk W W' : World} {k v i : Int} {s : ByteArray} {a b c : Value} {g1 : Nat} {k2 v2 i2 : Int} {s2 : ByteArray} {a1 b1 d1 : Value} {g2 : Nat} {a2 b2 d2 : Value} {X : Option Addr} {xn : Nat} {C : Option Addr} {cn : Nat} {x : List UInt8} (h : R8Req w wk k v i s a b c g1 k2 v2 i2 s2 a1 b1 d1 g2 a2 b2 d2 X xn C cn x W) (hb : Below W.heap.size W W') : R8Req w wk k v i s a b c g1 k2 v2 i2 s2 a1 b1 d1 g2 a2 b2 d2 X xn C cn x W' := by
  have hs := h.bel.size
  exact ⟨bel_trans h.all hb, bel_trans h.bel hb, BoxQ_below h.b0 hb (by have := h.lt; omega), BoxQ_below h.b1 hb (by have := h.lt; omega), BoxQ_below h.b2 hb (by have := h.lt; omega), h.rx.below hb hs, h.rc.below hb hs, h.lt⟩
def tb_l8Req : List (Nat × Nat) := [(0, 2147483647), (1, 2147483646), (2, 2147483645), (6, 2147483641), (2, 2147483645), (26, 2147483629), (42, 2147483605), (66, 2147483581), (160, 2147483519), (256, 2147483391), (768, 2147482879), (256, 2147483391), (2304, 2147481343), (5376, 2147478271), (8448, 2147475199), (16640, 2147467263), (32768, 2147450879), (32768, 2147450879), (229376, 2147254271), (294912, 2147188735), (557056, 2146959359), (1048576, 2146435071), (1048576, 2146435071), (7340032, 2140143615), (9437184, 2138046463), (25165824, 2130706431), (33554432, 2113929215), (33554432, 2113929215), (234881024, 1912602623), (301989888, 1845493759), (1073741823, 1610612735)]
set_option maxRecDepth 100000 in
set_option maxHeartbeats 16000000 in
theorem reqs_n (k v i : Int) (s : ByteArray) (A1 : Option Addr) (n1 c1 : Nat) (l1 : List Int) (A2 : Option Addr) (n2 c2 : Nat) (l2 : List ByteArray) (A3 : Option Addr) (n3 c3 : Nat) (l3 : List UInt8) (G : Option Addr) (gn gc : Nat) (lb : List UInt8) (w : World) (hs : s.size ≤ reach) (h1 : RdL w w.heap.size A1 n1 l1) (hn1 : n1 ≤ reach) (h2 : RdL w w.heap.size A2 n2 l2) (hn2 : n2 ≤ reach) (h3 : Rd w w.heap.size A3 n3 l3) (_hc3 : n3 ≤ c3) (hn3 : n3 ≤ reach) (hG : Rd w w.heap.size G gn lb) (_hgc : gn ≤ gc) (ht : Tab w) (hfq : fewQ ⟨k, v, i, s, l1, l2, l3⟩ = false) :
    Calls Tryd.prog 3 #[.agg #[.int .i64 k, .int .i64 v, .int .i64 i, .string s, .slice A1 n1 c1, .slice A2 n2 c2, .slice A3 n3 c3], .slice G gn gc] w fun e w' => e = .returned (.bool true) ∧ Below w.heap.size w w' := by
  have HT := Lib.hid ht
  have H1 := Lib.hid h1
  have H2 := Lib.hid h2
  have H3 := Lib.hid h3
  have HG := Lib.hid hG
  have hr1 : n1 ≤ 140737488351232 := hn1
  have hr2 : n2 ≤ 140737488351232 := hn2
  have hr3 : n3 ≤ 140737488351232 := hn3
  have hrs : s.size ≤ 140737488351232 := hs
  have K0 := Lib.hid (show CQ w k v i s (.slice A1 n1 c1) (.slice A2 n2 c2) (.slice A3 n3 c3) (w.alloc (.cells #[.int .i64 k, .int .i64 v, .int .i64 i, .string s, .slice A1 n1 c1, .slice A2 n2 c2, .slice A3 n3 c3] 26)) from ⟨BoxQ_new _ _ _ _ _ _ _ _ _, bel_alloc (Below.refl _ _) _, by simp⟩)
  clear ht h1 h2 h3 hG
  have HFQ := Lib.hid hfq
  clear hfq
  go_enter Tryd.func3, Tryd.ntmps3
  go_wp2_with (first
    | (go_at_call 13; (with_reducible refine (reffewQ_any k v i s A1 n1 c1 l1 A2 n2 c2 l2 A3 n3 c3 l3 w1 H1.out.len (lup H2.out (CQ.bel K1.out)) hr2 H3.out.len hrs).mono ?_); rw [HFQ.out]; rintro e w2 ⟨rfl, hb2⟩; have K2 := Lib.hid (K1.out.step hb2); (try clear q0 q1 q2 q3 q4 q5 q6); obtain ⟨q0, q1, q2, q3, q4, q5, q6⟩ := K2.out.1; clear hb2)
    | (go_at_call 12; (with_reducible refine (live_is w _ (CQ.bel K0.out) HT.out).mono ?_); rintro e w1 ⟨rfl, hb1⟩; have K1 := Lib.hid (K0.out.step hb1); obtain ⟨q0, q1, q2, q3, q4, q5, q6⟩ := K1.out.1; clear hb1))
  go_ret
  exact ⟨rfl, CQ.bel K2.out⟩
set_option maxRecDepth 100000 in
set_option maxHeartbeats 16000000 in
theorem reqs_m (k v i : Int) (s : ByteArray) (A1 : Option Addr) (n1 c1 : Nat) (l1 : List Int) (A2 : Option Addr) (n2 c2 : Nat) (l2 : List ByteArray) (A3 : Option Addr) (n3 c3 : Nat) (l3 : List UInt8) (G : Option Addr) (gn gc : Nat) (lb : List UInt8) (w : World) (hs : s.size ≤ reach) (h1 : RdL w w.heap.size A1 n1 l1) (hn1 : n1 ≤ reach) (h2 : RdL w w.heap.size A2 n2 l2) (hn2 : n2 ≤ reach) (h3 : Rd w w.heap.size A3 n3 l3) (_hc3 : n3 ≤ c3) (hn3 : n3 ≤ reach) (hG : Rd w w.heap.size G gn lb) (_hgc : gn ≤ gc) (ht : Tab w) (hfq : fewQ ⟨k, v, i, s, l1, l2, l3⟩ = true) (hgn : 3000 < gn) :
    Calls Tryd.prog 3 #[.agg #[.int .i64 k, .int .i64 v, .int .i64 i, .string s, .slice A1 n1 c1, .slice A2 n2 c2, .slice A3 n3 c3], .slice G gn gc] w fun e w' => e = .returned (.bool true) ∧ Below w.heap.size w w' := by
  have HT := Lib.hid ht
  have H1 := Lib.hid h1
  have H2 := Lib.hid h2
  have H3 := Lib.hid h3
  have HG := Lib.hid hG
  have hr1 : n1 ≤ 140737488351232 := hn1
  have hr2 : n2 ≤ 140737488351232 := hn2
  have hr3 : n3 ≤ 140737488351232 := hn3
  have hrs : s.size ≤ 140737488351232 := hs
  have K0 := Lib.hid (show CQ w k v i s (.slice A1 n1 c1) (.slice A2 n2 c2) (.slice A3 n3 c3) (w.alloc (.cells #[.int .i64 k, .int .i64 v, .int .i64 i, .string s, .slice A1 n1 c1, .slice A2 n2 c2, .slice A3 n3 c3] 26)) from ⟨BoxQ_new _ _ _ _ _ _ _ _ _, bel_alloc (Below.refl _ _) _, by simp⟩)
  clear ht h1 h2 h3 hG
  have HFQ := Lib.hid hfq
  have hgn' : (3000 : Int) < (gn : Int) := by omega
  clear hfq
  go_enter Tryd.func3, Tryd.ntmps3
  go_wp2_with (first
    | (go_at_call 13; (with_reducible refine (reffewQ_any k v i s A1 n1 c1 l1 A2 n2 c2 l2 A3 n3 c3 l3 w1 H1.out.len (lup H2.out (CQ.bel K1.out)) hr2 H3.out.len hrs).mono ?_); rw [HFQ.out]; rintro e w2 ⟨rfl, hb2⟩; have K2 := Lib.hid (K1.out.step hb2); (try clear q0 q1 q2 q3 q4 q5 q6); obtain ⟨q0, q1, q2, q3, q4, q5, q6⟩ := K2.out.1; clear hb2)
    | (go_at_call 12; (with_reducible refine (live_is w _ (CQ.bel K0.out) HT.out).mono ?_); rintro e w1 ⟨rfl, hb1⟩; have K1 := Lib.hid (K0.out.step hb1); obtain ⟨q0, q1, q2, q3, q4, q5, q6⟩ := K1.out.1; clear hb1))
  go_ret
  exact ⟨rfl, CQ.bel K2.out⟩
set_option maxRecDepth 100000 in
set_option maxHeartbeats 16000000 in
theorem reqs_ok (k v i : Int) (s : ByteArray) (A1 : Option Addr) (n1 c1 : Nat) (l1 : List Int) (A2 : Option Addr) (n2 c2 : Nat) (l2 : List ByteArray) (A3 : Option Addr) (n3 c3 : Nat) (l3 : List UInt8) (G : Option Addr) (gn gc : Nat) (lb : List UInt8) (w : World) (hs : s.size ≤ reach) (h1 : RdL w w.heap.size A1 n1 l1) (hn1 : n1 ≤ reach) (h2 : RdL w w.heap.size A2 n2 l2) (hn2 : n2 ≤ reach) (h3 : Rd w w.heap.size A3 n3 l3) (_hc3 : n3 ≤ c3) (hn3 : n3 ≤ reach) (hG : Rd w w.heap.size G gn lb) (hgc : gn ≤ gc) (ht : Tab w) (hfq : fewQ ⟨k, v, i, s, l1, l2, l3⟩ = true) (hgn : gn ≤ 3000) (x : List UInt8) (e1 : Int) (hpt : ptQ ⟨k, v, i, s, l1, l2, l3⟩ = (x, e1)) (k2 v2 i2 : Int) (s2 : ByteArray) (a1 : List Int) (a2 : List ByteArray) (a3 : List UInt8) (e2 : Int) (hgt : gtQ lb = (⟨k2, v2, i2, s2, a1, a2, a3⟩, e2)) (z : Int) (hck : ckQ ⟨k, v, i, s, l1, l2, l3⟩ = z) :
    Calls Tryd.prog 3 #[.agg #[.int .i64 k, .int .i64 v, .int .i64 i, .string s, .slice A1 n1 c1, .slice A2 n2 c2, .slice A3 n3 c3], .slice G gn gc] w fun e w' => e = .returned (.bool true) ∧ Below w.heap.size w w' := by
  have HT := Lib.hid ht
  have H1 := Lib.hid h1
  have H2 := Lib.hid h2
  have H3 := Lib.hid h3
  have HG := Lib.hid hG
  have hr1 : n1 ≤ 140737488351232 := hn1
  have hr2 : n2 ≤ 140737488351232 := hn2
  have hr3 : n3 ≤ 140737488351232 := hn3
  have hrs : s.size ≤ 140737488351232 := hs
  have K0 := Lib.hid (show CQ w k v i s (.slice A1 n1 c1) (.slice A2 n2 c2) (.slice A3 n3 c3) (w.alloc (.cells #[.int .i64 k, .int .i64 v, .int .i64 i, .string s, .slice A1 n1 c1, .slice A2 n2 c2, .slice A3 n3 c3] 26)) from ⟨BoxQ_new _ _ _ _ _ _ _ _ _, bel_alloc (Below.refl _ _) _, by simp⟩)
  clear ht h1 h2 h3 hG
  have HFQ := Lib.hid hfq
  have HPT := Lib.hid hpt
  have HGT := Lib.hid hgt
  have HCK := Lib.hid hck
  have hgn' : ¬ (3000 : Int) < (gn : Int) := by omega
  have hmx : Tryd.prog.follows .mixedOrders = true := by kernel_rfl
  clear hfq hpt hgt hck
  go_enter Tryd.func3, Tryd.ntmps3
  go_wp2_with (first
    | (go_at_call 17; (with_reducible refine (refGetReq_is G gn gc lb w (w5.alloc (.cells #[.int .i64 k2, .int .i64 v2, .int .i64 i2, .string s2, .slice P1 P2 P3, .slice P4 P5 P6, .slice P7 P8 P9] 26)) HG.out (CQ.bel K5a.out) hgc (by omega) HGT.out).mono ?_); rintro e w6 ⟨S1, S2, S3, S4, S5, S6, S7, S8, S9, rfl, h3, _, hb9⟩; have HT6 := Lib.hid h3; have K6 := Lib.hid (K5a.out.step hb9); have HB6 := Lib.hid hb9; clear hb9 h3)
    | (go_at_call 16; (with_reducible refine (GetReq_is G gn gc lb w w4 HG.out (CQ.bel K4.out) hgc (by omega) HT.out HGT.out).mono ?_); rintro e w5 ⟨P1, P2, P3, P4, P5, P6, P7, P8, P9, rfl, h3, _, hb9⟩; have HT5 := Lib.hid h3; have K5 := Lib.hid (K4.out.step hb9); have HB5 := Lib.hid hb9; have K5a := Lib.hid (show CQ w k v i s (.slice A1 n1 c1) (.slice A2 n2 c2) (.slice A3 n3 c3) (w5.alloc (.cells #[.int .i64 k2, .int .i64 v2, .int .i64 i2, .string s2, .slice P1 P2 P3, .slice P4 P5 P6, .slice P7 P8 P9] 26)) from K5.out.step (bel_alloc (Below.refl _ _) _)); have HB5a := Lib.hid (bel_alloc (Below.refl w5.heap.size w5) (.cells #[.int .i64 k2, .int .i64 v2, .int .i64 i2, .string s2, .slice P1 P2 P3, .slice P4 P5 P6, .slice P7 P8 P9] 26)); clear hb9 h3)
    | (go_at_call 15; (with_reducible refine (refPutReq_is k v i s A1 n1 c1 l1 A2 n2 c2 l2 A3 n3 c3 l3 w w3 H1.out hr1 H2.out hr2 hrs H3.out hr3 (CQ.bel K3.out) HPT.out).mono ?_); rintro e w4 ⟨C5, Cn, Cc, rfl, hC, hCc, hb9⟩; have HC := Lib.hid hC; have K4 := Lib.hid (K3.out.step hb9); have HBK4 := Lib.hid hb9; (try clear q0 q1 q2 q3 q4 q5 q6); obtain ⟨q0, q1, q2, q3, q4, q5, q6⟩ := K4.out.1; clear hb9 hC)
    | (go_at_call 14; (with_reducible refine (PutReq_is k v i s A1 n1 c1 l1 A2 n2 c2 l2 A3 n3 c3 l3 w w2 H1.out hr1 H2.out hr2 hrs H3.out hr3 (CQ.bel K2.out) (HT.out.bel (CQ.bel K2.out)) HPT.out).mono ?_); rintro e w3 ⟨X5, Xn, Xc, rfl, hX, hXc, hb9⟩; have HX := Lib.hid hX; have K3 := Lib.hid (K2.out.step hb9); have HBK3 := Lib.hid hb9; (try clear q0 q1 q2 q3 q4 q5 q6); obtain ⟨q0, q1, q2, q3, q4, q5, q6⟩ := K3.out.1; clear hb9 hX)
    | (go_at_call 13; (with_reducible refine (reffewQ_any k v i s A1 n1 c1 l1 A2 n2 c2 l2 A3 n3 c3 l3 w1 H1.out.len (lup H2.out (CQ.bel K1.out)) hr2 H3.out.len hrs).mono ?_); rw [HFQ.out]; rintro e w2 ⟨rfl, hb2⟩; have K2 := Lib.hid (K1.out.step hb2); (try clear q0 q1 q2 q3 q4 q5 q6); obtain ⟨q0, q1, q2, q3, q4, q5, q6⟩ := K2.out.1; clear hb2)
    | (go_at_call 12; (with_reducible refine (live_is w _ (CQ.bel K0.out) HT.out).mono ?_); rintro e w1 ⟨rfl, hb1⟩; have K1 := Lib.hid (K0.out.step hb1); obtain ⟨q0, q1, q2, q3, q4, q5, q6⟩ := K1.out.1; clear hb1))
  have HB6a := Lib.hid (bel_alloc (Below.refl w6.heap.size w6) (.cells #[.int .i64 k2, .int .i64 v2, .int .i64 i2, .string s2, .slice S1 S2 S3, .slice S4 S5 S6, .slice S7 S8 S9] 26))
  have HBX := Lib.hid (show Below w3.heap.size w3 (w6.alloc (.cells #[.int .i64 k2, .int .i64 v2, .int .i64 i2, .string s2, .slice S1 S2 S3, .slice S4 S5 S6, .slice S7 S8 S9] 26)) from bel_trans HBK4.out (bel_trans HB5.out (bel_trans HB5a.out (bel_trans HB6.out HB6a.out))))
  have HBC := Lib.hid (show Below w4.heap.size w4 (w6.alloc (.cells #[.int .i64 k2, .int .i64 v2, .int .i64 i2, .string s2, .slice S1 S2 S3, .slice S4 S5 S6, .slice S7 S8 S9] 26)) from bel_trans HB5.out (bel_trans HB5a.out (bel_trans HB6.out HB6a.out)))
  have HB5k := Lib.hid (show Below (w5.alloc (.cells #[.int .i64 k2, .int .i64 v2, .int .i64 i2, .string s2, .slice P1 P2 P3, .slice P4 P5 P6, .slice P7 P8 P9] 26)).heap.size (w5.alloc (.cells #[.int .i64 k2, .int .i64 v2, .int .i64 i2, .string s2, .slice P1 P2 P3, .slice P4 P5 P6, .slice P7 P8 P9] 26)) (w6.alloc (.cells #[.int .i64 k2, .int .i64 v2, .int .i64 i2, .string s2, .slice S1 S2 S3, .slice S4 S5 S6, .slice S7 S8 S9] 26)) from bel_trans HB6.out HB6a.out)
  have HT5k := Lib.hid (HT5.out.below (bel_trans HB5a.out HB5k.out))
  have HT6k := Lib.hid (HT6.out.below HB6a.out)
  have K7 := Lib.hid (K6.out.step HB6a.out)
  have B1k := Lib.hid (show BoxQ (w6.alloc (.cells #[.int .i64 k2, .int .i64 v2, .int .i64 i2, .string s2, .slice S1 S2 S3, .slice S4 S5 S6, .slice S7 S8 S9] 26)) w5.heap.size k2 v2 i2 s2 (.slice P1 P2 P3) (.slice P4 P5 P6) (.slice P7 P8 P9) from BoxQ_below (BoxQ_new w5 26 _ _ _ _ _ _ _) HB5k.out (by simp))
  have B2k := Lib.hid (show BoxQ (w6.alloc (.cells #[.int .i64 k2, .int .i64 v2, .int .i64 i2, .string s2, .slice S1 S2 S3, .slice S4 S5 S6, .slice S7 S8 S9] 26)) w6.heap.size k2 v2 i2 s2 (.slice S1 S2 S3) (.slice S4 S5 S6) (.slice S7 S8 S9) from BoxQ_new w6 26 _ _ _ _ _ _ _)
  have hl6 : w6.heap.size < (w6.alloc (.cells #[.int .i64 k2, .int .i64 v2, .int .i64 i2, .string s2, .slice S1 S2 S3, .slice S4 S5 S6, .slice S7 S8 S9] 26)).heap.size := by simp
  have hl5 : w5.heap.size < (w6.alloc (.cells #[.int .i64 k2, .int .i64 v2, .int .i64 i2, .string s2, .slice S1 S2 S3, .slice S4 S5 S6, .slice S7 S8 S9] 26)).heap.size := Nat.lt_of_lt_of_le (by simp) HB5k.out.size
  generalize (w6.alloc (.cells #[.int .i64 k2, .int .i64 v2, .int .i64 i2, .string s2, .slice S1 S2 S3, .slice S4 S5 S6, .slice S7 S8 S9] 26)) = wk at HBX HBC HB5k HT5k HT6k K7 B1k B2k hl5 hl6 ⊢
  have HS8 := Lib.hid (show R8Req w wk k v i s (.slice A1 n1 c1) (.slice A2 n2 c2) (.slice A3 n3 c3) w5.heap.size k2 v2 i2 s2 (.slice P1 P2 P3) (.slice P4 P5 P6) (.slice P7 P8 P9) w6.heap.size (.slice S1 S2 S3) (.slice S4 S5 S6) (.slice S7 S8 S9) X5 Xn C5 Cn x wk.drew from ⟨(K7.out.2.1).drew, bel_drew (Below.refl _ _), K7.out.1, B1k.out, B2k.out, rup HX.out HBX.out.drew, rup HC.out HBC.out.drew, ⟨K7.out.2.2, hl5, hl6⟩⟩)
  refine region_let (fun W9 : World => R8Req w wk k v i s (.slice A1 n1 c1) (.slice A2 n2 c2) (.slice A3 n3 c3) w5.heap.size k2 v2 i2 s2 (.slice P1 P2 P3) (.slice P4 P5 P6) (.slice P7 P8 P9) w6.heap.size (.slice S1 S2 S3) (.slice S4 S5 S6) (.slice S7 S8 S9) X5 Xn C5 Cn x W9) 99 31 hmx rfl fun ops Q HOPS HQ => ?_
  have HREG := reg_of HOPS tb_l8Req rfl (by kernel_rfl) (by kernel_rfl) (by decide)
  refine stepTQ HOPS HREG 0 1 ?_ (by decide) rfl (by kernel_rfl) (by kernel_rfl) rfl ?_ HS8.out ?_
  rotate_left
  · intro w9 hS9; obtain ⟨q0, q1, q2, q3, q4, q5, q6⟩ := hS9.b0; obtain ⟨u0, u1, u2, u3, u4, u5, u6⟩ := hS9.b1; obtain ⟨v0', v1', v2', v3', v4', v5', v6'⟩ := hS9.b2; have r1 := str_of w9 _ X5 Xn Xc x hS9.rx; have r2 := str_of w9 _ C5 Cn Cc x hS9.rc; go_simp; (first | done | with_reducible rfl)
  dsimp only [List.set_cons_zero, List.set_cons_succ]
  refine stepTQ HOPS HREG 1 3 ?_ (by decide) rfl (by kernel_rfl) (by kernel_rfl) rfl ?_ HS8.out ?_
  rotate_left
  · intro w9 hS9; obtain ⟨q0, q1, q2, q3, q4, q5, q6⟩ := hS9.b0; obtain ⟨u0, u1, u2, u3, u4, u5, u6⟩ := hS9.b1; obtain ⟨v0', v1', v2', v3', v4', v5', v6'⟩ := hS9.b2; have r1 := str_of w9 _ X5 Xn Xc x hS9.rx; have r2 := str_of w9 _ C5 Cn Cc x hS9.rc; go_simp; (first | done | with_reducible rfl)
  dsimp only [List.set_cons_zero, List.set_cons_succ]
  refine stepTQ HOPS HREG 2 7 ?_ (by decide) rfl (by kernel_rfl) (by kernel_rfl) rfl ?_ HS8.out ?_
  rotate_left
  · intro w9 hS9; obtain ⟨q0, q1, q2, q3, q4, q5, q6⟩ := hS9.b0; obtain ⟨u0, u1, u2, u3, u4, u5, u6⟩ := hS9.b1; obtain ⟨v0', v1', v2', v3', v4', v5', v6'⟩ := hS9.b2; have r1 := str_of w9 _ X5 Xn Xc x hS9.rx; have r2 := str_of w9 _ C5 Cn Cc x hS9.rc; go_simp; (first | done | with_reducible rfl)
  dsimp only [List.set_cons_zero, List.set_cons_succ]
  refine stepTQ HOPS HREG 4 23 ?_ (by decide) rfl (by kernel_rfl) (by kernel_rfl) rfl ?_ HS8.out ?_
  rotate_left
  · intro w9 hS9; obtain ⟨q0, q1, q2, q3, q4, q5, q6⟩ := hS9.b0; obtain ⟨u0, u1, u2, u3, u4, u5, u6⟩ := hS9.b1; obtain ⟨v0', v1', v2', v3', v4', v5', v6'⟩ := hS9.b2; have r1 := str_of w9 _ X5 Xn Xc x hS9.rx; have r2 := str_of w9 _ C5 Cn Cc x hS9.rc; go_simp; (first | done | with_reducible rfl)
  dsimp only [List.set_cons_zero, List.set_cons_succ]
  refine stepC HOPS 3 31 (by decide) rfl (by kernel_rfl) (by kernel_rfl) ?_
  go_simp
  refine (CheckReq_any k v i s A1 n1 c1 l1 A2 n2 c2 l2 A3 n3 c3 l3 _ (lup H1.out HS8.out.all) hr1 (lup H2.out HS8.out.all) hr2 hrs hr3 H3.out.len (HT.out.bel HS8.out.all)).mono ?_
  rw [HCK.out]
  rintro e w21 ⟨rfl, hb9⟩
  dsimp only
  have HS21 := Lib.hid (HS8.out.step hb9)
  clear hb9
  refine ⟨HS21.out, ?_⟩
  try simp only [Act.put, List.setIfInBounds_toArray, List.set_cons_zero, List.set_cons_succ]
  refine stepC HOPS 5 63 (by decide) rfl (by kernel_rfl) (by kernel_rfl) ?_
  go_simp
  refine (refCheckReq_any k v i s A1 n1 c1 l1 A2 n2 c2 l2 A3 n3 c3 l3 _ (lup H1.out HS21.out.all) hr1 (lup H2.out HS21.out.all) hr2 hrs hr3 H3.out.len).mono ?_
  rw [HCK.out]
  rintro e w22 ⟨rfl, hb9⟩
  dsimp only
  have HS22 := Lib.hid (HS21.out.step hb9)
  clear hb9
  refine ⟨HS22.out, ?_⟩
  try simp only [Act.put, List.setIfInBounds_toArray, List.set_cons_zero, List.set_cons_succ]
  refine stepTQ HOPS HREG 6 127 ?_ (by decide) rfl (by kernel_rfl) (by kernel_rfl) rfl ?_ HS22.out ?_
  rotate_left
  · intro w9 hS9; obtain ⟨q0, q1, q2, q3, q4, q5, q6⟩ := hS9.b0; obtain ⟨u0, u1, u2, u3, u4, u5, u6⟩ := hS9.b1; obtain ⟨v0', v1', v2', v3', v4', v5', v6'⟩ := hS9.b2; have r1 := str_of w9 _ X5 Xn Xc x hS9.rx; have r2 := str_of w9 _ C5 Cn Cc x hS9.rc; go_simp; (first | done | with_reducible rfl)
  dsimp only [List.set_cons_zero, List.set_cons_succ]
  refine stepTQ HOPS HREG 7 255 ?_ (by decide) rfl (by kernel_rfl) (by kernel_rfl) rfl ?_ HS22.out ?_
  rotate_left
  · intro w9 hS9; obtain ⟨q0, q1, q2, q3, q4, q5, q6⟩ := hS9.b0; obtain ⟨u0, u1, u2, u3, u4, u5, u6⟩ := hS9.b1; obtain ⟨v0', v1', v2', v3', v4', v5', v6'⟩ := hS9.b2; have r1 := str_of w9 _ X5 Xn Xc x hS9.rx; have r2 := str_of w9 _ C5 Cn Cc x hS9.rc; go_simp; (first | done | with_reducible rfl)
  dsimp only [List.set_cons_zero, List.set_cons_succ]
  refine stepTQ HOPS HREG 8 511 ?_ (by decide) rfl (by kernel_rfl) (by kernel_rfl) rfl ?_ HS22.out ?_
  rotate_left
  · intro w9 hS9; obtain ⟨q0, q1, q2, q3, q4, q5, q6⟩ := hS9.b0; obtain ⟨u0, u1, u2, u3, u4, u5, u6⟩ := hS9.b1; obtain ⟨v0', v1', v2', v3', v4', v5', v6'⟩ := hS9.b2; have r1 := str_of w9 _ X5 Xn Xc x hS9.rx; have r2 := str_of w9 _ C5 Cn Cc x hS9.rc; go_simp; (first | done | with_reducible rfl)
  dsimp only [List.set_cons_zero, List.set_cons_succ]
  refine stepTQ HOPS HREG 9 1023 ?_ (by decide) rfl (by kernel_rfl) (by kernel_rfl) rfl ?_ HS22.out ?_
  rotate_left
  · intro w9 hS9; obtain ⟨q0, q1, q2, q3, q4, q5, q6⟩ := hS9.b0; obtain ⟨u0, u1, u2, u3, u4, u5, u6⟩ := hS9.b1; obtain ⟨v0', v1', v2', v3', v4', v5', v6'⟩ := hS9.b2; have r1 := str_of w9 _ X5 Xn Xc x hS9.rx; have r2 := str_of w9 _ C5 Cn Cc x hS9.rc; go_simp; (first | done | with_reducible rfl)
  dsimp only [List.set_cons_zero, List.set_cons_succ]
  refine stepTQ HOPS HREG 10 2047 ?_ (by decide) rfl (by kernel_rfl) (by kernel_rfl) rfl ?_ HS22.out ?_
  rotate_left
  · intro w9 hS9; obtain ⟨q0, q1, q2, q3, q4, q5, q6⟩ := hS9.b0; obtain ⟨u0, u1, u2, u3, u4, u5, u6⟩ := hS9.b1; obtain ⟨v0', v1', v2', v3', v4', v5', v6'⟩ := hS9.b2; have r1 := str_of w9 _ X5 Xn Xc x hS9.rx; have r2 := str_of w9 _ C5 Cn Cc x hS9.rc; go_simp; (first | done | with_reducible rfl)
  dsimp only [List.set_cons_zero, List.set_cons_succ]
  refine stepTQ HOPS HREG 11 4095 ?_ (by decide) rfl (by kernel_rfl) (by kernel_rfl) rfl ?_ HS22.out ?_
  rotate_left
  · intro w9 hS9; obtain ⟨q0, q1, q2, q3, q4, q5, q6⟩ := hS9.b0; obtain ⟨u0, u1, u2, u3, u4, u5, u6⟩ := hS9.b1; obtain ⟨v0', v1', v2', v3', v4', v5', v6'⟩ := hS9.b2; have r1 := str_of w9 _ X5 Xn Xc x hS9.rx; have r2 := str_of w9 _ C5 Cn Cc x hS9.rc; go_simp; (first | done | with_reducible rfl)
  dsimp only [List.set_cons_zero, List.set_cons_succ]
  refine stepTQ HOPS HREG 12 8191 ?_ (by decide) rfl (by kernel_rfl) (by kernel_rfl) rfl ?_ HS22.out ?_
  rotate_left
  · intro w9 hS9; obtain ⟨q0, q1, q2, q3, q4, q5, q6⟩ := hS9.b0; obtain ⟨u0, u1, u2, u3, u4, u5, u6⟩ := hS9.b1; obtain ⟨v0', v1', v2', v3', v4', v5', v6'⟩ := hS9.b2; have r1 := str_of w9 _ X5 Xn Xc x hS9.rx; have r2 := str_of w9 _ C5 Cn Cc x hS9.rc; go_simp; (first | done | with_reducible rfl)
  dsimp only [List.set_cons_zero, List.set_cons_succ]
  refine stepTQ HOPS HREG 13 16383 ?_ (by decide) rfl (by kernel_rfl) (by kernel_rfl) rfl ?_ HS22.out ?_
  rotate_left
  · intro w9 hS9; obtain ⟨q0, q1, q2, q3, q4, q5, q6⟩ := hS9.b0; obtain ⟨u0, u1, u2, u3, u4, u5, u6⟩ := hS9.b1; obtain ⟨v0', v1', v2', v3', v4', v5', v6'⟩ := hS9.b2; have r1 := str_of w9 _ X5 Xn Xc x hS9.rx; have r2 := str_of w9 _ C5 Cn Cc x hS9.rc; go_simp; (first | done | with_reducible rfl)
  dsimp only [List.set_cons_zero, List.set_cons_succ]
  refine stepTQ HOPS HREG 14 32767 ?_ (by decide) rfl (by kernel_rfl) (by kernel_rfl) rfl ?_ HS22.out ?_
  rotate_left
  · intro w9 hS9; obtain ⟨q0, q1, q2, q3, q4, q5, q6⟩ := hS9.b0; obtain ⟨u0, u1, u2, u3, u4, u5, u6⟩ := hS9.b1; obtain ⟨v0', v1', v2', v3', v4', v5', v6'⟩ := hS9.b2; have r1 := str_of w9 _ X5 Xn Xc x hS9.rx; have r2 := str_of w9 _ C5 Cn Cc x hS9.rc; go_simp; (first | done | with_reducible rfl)
  dsimp only [List.set_cons_zero, List.set_cons_succ]
  refine stepTQ HOPS HREG 15 65535 ?_ (by decide) rfl (by kernel_rfl) (by kernel_rfl) rfl ?_ HS22.out ?_
  rotate_left
  · intro w9 hS9; obtain ⟨q0, q1, q2, q3, q4, q5, q6⟩ := hS9.b0; obtain ⟨u0, u1, u2, u3, u4, u5, u6⟩ := hS9.b1; obtain ⟨v0', v1', v2', v3', v4', v5', v6'⟩ := hS9.b2; have r1 := str_of w9 _ X5 Xn Xc x hS9.rx; have r2 := str_of w9 _ C5 Cn Cc x hS9.rc; go_simp; (first | done | with_reducible rfl)
  dsimp only [List.set_cons_zero, List.set_cons_succ]
  refine stepTQ HOPS HREG 16 131071 ?_ (by decide) rfl (by kernel_rfl) (by kernel_rfl) rfl ?_ HS22.out ?_
  rotate_left
  · intro w9 hS9; obtain ⟨q0, q1, q2, q3, q4, q5, q6⟩ := hS9.b0; obtain ⟨u0, u1, u2, u3, u4, u5, u6⟩ := hS9.b1; obtain ⟨v0', v1', v2', v3', v4', v5', v6'⟩ := hS9.b2; have r1 := str_of w9 _ X5 Xn Xc x hS9.rx; have r2 := str_of w9 _ C5 Cn Cc x hS9.rc; go_simp; (first | done | with_reducible rfl)
  dsimp only [List.set_cons_zero, List.set_cons_succ]
  refine stepTQ HOPS HREG 17 262143 ?_ (by decide) rfl (by kernel_rfl) (by kernel_rfl) rfl ?_ HS22.out ?_
  rotate_left
  · intro w9 hS9; obtain ⟨q0, q1, q2, q3, q4, q5, q6⟩ := hS9.b0; obtain ⟨u0, u1, u2, u3, u4, u5, u6⟩ := hS9.b1; obtain ⟨v0', v1', v2', v3', v4', v5', v6'⟩ := hS9.b2; have r1 := str_of w9 _ X5 Xn Xc x hS9.rx; have r2 := str_of w9 _ C5 Cn Cc x hS9.rc; go_simp; (first | done | with_reducible rfl)
  dsimp only [List.set_cons_zero, List.set_cons_succ]
  refine stepTQ HOPS HREG 18 524287 ?_ (by decide) rfl (by kernel_rfl) (by kernel_rfl) rfl ?_ HS22.out ?_
  rotate_left
  · intro w9 hS9; obtain ⟨q0, q1, q2, q3, q4, q5, q6⟩ := hS9.b0; obtain ⟨u0, u1, u2, u3, u4, u5, u6⟩ := hS9.b1; obtain ⟨v0', v1', v2', v3', v4', v5', v6'⟩ := hS9.b2; have r1 := str_of w9 _ X5 Xn Xc x hS9.rx; have r2 := str_of w9 _ C5 Cn Cc x hS9.rc; go_simp; (first | done | with_reducible rfl)
  dsimp only [List.set_cons_zero, List.set_cons_succ]
  refine stepTQ HOPS HREG 19 1048575 ?_ (by decide) rfl (by kernel_rfl) (by kernel_rfl) rfl ?_ HS22.out ?_
  rotate_left
  · intro w9 hS9; obtain ⟨q0, q1, q2, q3, q4, q5, q6⟩ := hS9.b0; obtain ⟨u0, u1, u2, u3, u4, u5, u6⟩ := hS9.b1; obtain ⟨v0', v1', v2', v3', v4', v5', v6'⟩ := hS9.b2; have r1 := str_of w9 _ X5 Xn Xc x hS9.rx; have r2 := str_of w9 _ C5 Cn Cc x hS9.rc; go_simp; (first | done | with_reducible rfl)
  dsimp only [List.set_cons_zero, List.set_cons_succ]
  refine stepTQ HOPS HREG 20 2097151 ?_ (by decide) rfl (by kernel_rfl) (by kernel_rfl) rfl ?_ HS22.out ?_
  rotate_left
  · intro w9 hS9; obtain ⟨q0, q1, q2, q3, q4, q5, q6⟩ := hS9.b0; obtain ⟨u0, u1, u2, u3, u4, u5, u6⟩ := hS9.b1; obtain ⟨v0', v1', v2', v3', v4', v5', v6'⟩ := hS9.b2; have r1 := str_of w9 _ X5 Xn Xc x hS9.rx; have r2 := str_of w9 _ C5 Cn Cc x hS9.rc; go_simp; (first | done | with_reducible rfl)
  dsimp only [List.set_cons_zero, List.set_cons_succ]
  refine stepTQ HOPS HREG 21 4194303 ?_ (by decide) rfl (by kernel_rfl) (by kernel_rfl) rfl ?_ HS22.out ?_
  rotate_left
  · intro w9 hS9; obtain ⟨q0, q1, q2, q3, q4, q5, q6⟩ := hS9.b0; obtain ⟨u0, u1, u2, u3, u4, u5, u6⟩ := hS9.b1; obtain ⟨v0', v1', v2', v3', v4', v5', v6'⟩ := hS9.b2; have r1 := str_of w9 _ X5 Xn Xc x hS9.rx; have r2 := str_of w9 _ C5 Cn Cc x hS9.rc; go_simp; (first | done | with_reducible rfl)
  dsimp only [List.set_cons_zero, List.set_cons_succ]
  refine stepTQ HOPS HREG 22 8388607 ?_ (by decide) rfl (by kernel_rfl) (by kernel_rfl) rfl ?_ HS22.out ?_
  rotate_left
  · intro w9 hS9; obtain ⟨q0, q1, q2, q3, q4, q5, q6⟩ := hS9.b0; obtain ⟨u0, u1, u2, u3, u4, u5, u6⟩ := hS9.b1; obtain ⟨v0', v1', v2', v3', v4', v5', v6'⟩ := hS9.b2; have r1 := str_of w9 _ X5 Xn Xc x hS9.rx; have r2 := str_of w9 _ C5 Cn Cc x hS9.rc; go_simp; (first | done | with_reducible rfl)
  dsimp only [List.set_cons_zero, List.set_cons_succ]
  refine stepC HOPS 23 16777215 (by decide) rfl (by kernel_rfl) (by kernel_rfl) ?_
  go_simp
  obtain ⟨z1, z2, z3, z4, z5, z6⟩ := HT5k.out.below HS22.out.bel
  obtain ⟨y1, y2, y3, y4, y5, y6⟩ := HT6k.out.below HS22.out.bel
  refine (refsameQ_any k2 k2 v2 v2 i2 i2 s2 s2 P1 P2 P3 a1 P4 P5 P6 a2 P7 P8 P9 a3 S1 S2 S3 a1 S4 S5 S6 a2 S7 S8 S9 a3 _ z1 z4 z2 z5 z3 y1 y2 y3).mono ?_
  rw [eqq_yes rfl]
  rintro e w23 ⟨rfl, hb9⟩
  dsimp only
  have HS23 := Lib.hid (HS22.out.step hb9)
  clear hb9
  refine ⟨HS23.out, ?_⟩
  try simp only [Act.put, List.setIfInBounds_toArray, List.set_cons_zero, List.set_cons_succ]
  refine stepTQ HOPS HREG 24 33554431 ?_ (by decide) rfl (by kernel_rfl) (by kernel_rfl) rfl ?_ HS23.out ?_
  rotate_left
  · intro w9 hS9; obtain ⟨q0, q1, q2, q3, q4, q5, q6⟩ := hS9.b0; obtain ⟨u0, u1, u2, u3, u4, u5, u6⟩ := hS9.b1; obtain ⟨v0', v1', v2', v3', v4', v5', v6'⟩ := hS9.b2; have r1 := str_of w9 _ X5 Xn Xc x hS9.rx; have r2 := str_of w9 _ C5 Cn Cc x hS9.rc; go_simp; (first | done | with_reducible rfl)
  dsimp only [List.set_cons_zero, List.set_cons_succ]
  refine stepTQ HOPS HREG 25 67108863 ?_ (by decide) rfl (by kernel_rfl) (by kernel_rfl) rfl ?_ HS23.out ?_
  rotate_left
  · intro w9 hS9; obtain ⟨q0, q1, q2, q3, q4, q5, q6⟩ := hS9.b0; obtain ⟨u0, u1, u2, u3, u4, u5, u6⟩ := hS9.b1; obtain ⟨v0', v1', v2', v3', v4', v5', v6'⟩ := hS9.b2; have r1 := str_of w9 _ X5 Xn Xc x hS9.rx; have r2 := str_of w9 _ C5 Cn Cc x hS9.rc; go_simp; (first | done | with_reducible rfl)
  dsimp only [List.set_cons_zero, List.set_cons_succ]
  refine stepTQ HOPS HREG 26 134217727 ?_ (by decide) rfl (by kernel_rfl) (by kernel_rfl) rfl ?_ HS23.out ?_
  rotate_left
  · intro w9 hS9; obtain ⟨q0, q1, q2, q3, q4, q5, q6⟩ := hS9.b0; obtain ⟨u0, u1, u2, u3, u4, u5, u6⟩ := hS9.b1; obtain ⟨v0', v1', v2', v3', v4', v5', v6'⟩ := hS9.b2; have r1 := str_of w9 _ X5 Xn Xc x hS9.rx; have r2 := str_of w9 _ C5 Cn Cc x hS9.rc; go_simp; (first | done | with_reducible rfl)
  dsimp only [List.set_cons_zero, List.set_cons_succ]
  refine stepTQ HOPS HREG 27 268435455 ?_ (by decide) rfl (by kernel_rfl) (by kernel_rfl) rfl ?_ HS23.out ?_
  rotate_left
  · intro w9 hS9; obtain ⟨q0, q1, q2, q3, q4, q5, q6⟩ := hS9.b0; obtain ⟨u0, u1, u2, u3, u4, u5, u6⟩ := hS9.b1; obtain ⟨v0', v1', v2', v3', v4', v5', v6'⟩ := hS9.b2; have r1 := str_of w9 _ X5 Xn Xc x hS9.rx; have r2 := str_of w9 _ C5 Cn Cc x hS9.rc; go_simp; (first | done | with_reducible rfl)
  dsimp only [List.set_cons_zero, List.set_cons_succ]
  refine stepTQ HOPS HREG 28 536870911 ?_ (by decide) rfl (by kernel_rfl) (by kernel_rfl) rfl ?_ HS23.out ?_
  rotate_left
  · intro w9 hS9; obtain ⟨q0, q1, q2, q3, q4, q5, q6⟩ := hS9.b0; obtain ⟨u0, u1, u2, u3, u4, u5, u6⟩ := hS9.b1; obtain ⟨v0', v1', v2', v3', v4', v5', v6'⟩ := hS9.b2; have r1 := str_of w9 _ X5 Xn Xc x hS9.rx; have r2 := str_of w9 _ C5 Cn Cc x hS9.rc; go_simp; (first | done | with_reducible rfl)
  dsimp only [List.set_cons_zero, List.set_cons_succ]
  refine stepTQ HOPS HREG 29 1073741823 ?_ (by decide) rfl (by kernel_rfl) (by kernel_rfl) rfl ?_ HS23.out ?_
  rotate_left
  · intro w9 hS9; obtain ⟨q0, q1, q2, q3, q4, q5, q6⟩ := hS9.b0; obtain ⟨u0, u1, u2, u3, u4, u5, u6⟩ := hS9.b1; obtain ⟨v0', v1', v2', v3', v4', v5', v6'⟩ := hS9.b2; have r1 := str_of w9 _ X5 Xn Xc x hS9.rx; have r2 := str_of w9 _ C5 Cn Cc x hS9.rc; go_simp; (first | done | with_reducible rfl)
  dsimp only [List.set_cons_zero, List.set_cons_succ]
  refine stepTQ HOPS HREG 30 2147483647 ?_ (by decide) rfl (by kernel_rfl) (by kernel_rfl) rfl ?_ HS23.out ?_
  rotate_left
  · intro w9 hS9; obtain ⟨q0, q1, q2, q3, q4, q5, q6⟩ := hS9.b0; obtain ⟨u0, u1, u2, u3, u4, u5, u6⟩ := hS9.b1; obtain ⟨v0', v1', v2', v3', v4', v5', v6'⟩ := hS9.b2; have r1 := str_of w9 _ X5 Xn Xc x hS9.rx; have r2 := str_of w9 _ C5 Cn Cc x hS9.rc; go_simp; (first | done | with_reducible rfl)
  dsimp only [List.set_cons_zero, List.set_cons_succ]
  refine stepE HOPS (by kernel_rfl) (HQ.out _ _ ?_)
  clear HQ HREG HOPS
  clear Q ops
  go_wp2
  go_ret
  exact ⟨rfl, HS23.out.all⟩
theorem protoReqs_walk (k v i : Int) (s : ByteArray) (A1 : Option Addr) (n1 c1 : Nat) (l1 : List Int) (A2 : Option Addr) (n2 c2 : Nat) (l2 : List ByteArray) (A3 : Option Addr) (n3 c3 : Nat) (l3 : List UInt8) (G : Option Addr) (gn gc : Nat) (lb : List UInt8) (w : World) (hs : s.size ≤ reach) (h1 : RdL w w.heap.size A1 n1 l1) (hn1 : n1 ≤ reach) (h2 : RdL w w.heap.size A2 n2 l2) (hn2 : n2 ≤ reach) (h3 : Rd w w.heap.size A3 n3 l3) (hc3 : n3 ≤ c3) (hn3 : n3 ≤ reach) (hG : Rd w w.heap.size G gn lb) (hgc : gn ≤ gc) (ht : Tab w) :
    Calls Tryd.prog 3 #[.agg #[.int .i64 k, .int .i64 v, .int .i64 i, .string s, .slice A1 n1 c1, .slice A2 n2 c2, .slice A3 n3 c3], .slice G gn gc] w fun e w' => e = .returned (.bool true) ∧ Below w.heap.size w w' := by
  rcases hf : fewQ ⟨k, v, i, s, l1, l2, l3⟩ with _ | _
  · exact reqs_n k v i s A1 n1 c1 l1 A2 n2 c2 l2 A3 n3 c3 l3 G gn gc lb w hs h1 hn1 h2 hn2 h3 hc3 hn3 hG hgc ht hf
  by_cases hg : 3000 < gn
  · exact reqs_m k v i s A1 n1 c1 l1 A2 n2 c2 l2 A3 n3 c3 l3 G gn gc lb w hs h1 hn1 h2 hn2 h3 hc3 hn3 hG hgc ht hf hg
  rcases hp : ptQ ⟨k, v, i, s, l1, l2, l3⟩ with ⟨x, e1⟩
  rcases hq : gtQ lb with ⟨⟨k2, v2, i2, s2, a1, a2, a3⟩, e2⟩
  exact reqs_ok k v i s A1 n1 c1 l1 A2 n2 c2 l2 A3 n3 c3 l3 G gn gc lb w hs h1 hn1 h2 hn2 h3 hc3 hn3 hG hgc ht hf (by omega) x e1 hp k2 v2 i2 s2 a1 a2 a3 e2 hq _ rfl
end Go.Proofs.YthhdhdjdhekgpaaDoor.Pro

namespace Go.Proofs.YthhdhdjdhekgpaaDoor.protoReqs
open Go.ChangeShapes Go.WideShapes Go.ChangeAt Go.RowKit

theorem own : ownKnob Tryd.prog.godebug = none := by kernel_rfl
theorem laidOut : laidOutB Tryd.prog = true := by kernel_rfl

set_option maxRecDepth 100000 in
theorem lifted (os : Os) (started : os.Started) (H : Type) (enc : TypeId × Value → H) :
    ReturnsInHanded {} Tryd.checked os 3 .any (fun w args => (Rows.protoReqsSpec.pre enc Tryd.prog Tryd.f3 [] false w args ∧ laidMetH Tryd.prog Pro.listed w) ∧ sizedMet enc Tryd.prog Tryd.f3 (OpenSpec.ofChange Rows.protoReqsSpec) false w args)
      (Rows.protoReqsSpec.post enc Tryd.prog Tryd.f3 false true false false) := by
  refine returnsInHanded_of_change_and (C := Tryd.checked) (X := fun w _ => laidMetH Tryd.prog Pro.listed w) (fun _ _ _ hh h => h.of_heap hh) own started (by kernel_rfl) Tryd.func3
    (ChangeSpec.witness_shaped (enc := enc) (C := Tryd.checked) (os := os) (X := fun w _ => laidMetH Tryd.prog Pro.listed w) false (World.doorLaid Tryd.prog 400 os) #[.agg #[.int .i64 0, .int .i64 0, .int .i64 0, .string ByteArray.empty, .slice none 0 0, .slice none 0 0, .slice none 0 0], .slice none 0 0] 8 rfl (World.shaped_of_RefB (by kernel_rfl) (by kernel_rfl)) (by kernel_rfl) (by kernel_rfl) (by kernel_rfl) (Pro.door_met os _)) ?_
  intro W base args ds gs before hval0 hW _ hwt hL _
  have hval : ∀ (j : Nat) t v, Tryd.f3.params[j]? = some t → args[j]? = some v → Value.okWide Tryd.prog W .any base t v := hval0
  have hW' := hW
  obtain ⟨p, q, hA0, hV, rfl, hfz, hnd⟩ := hW
  have hA : DataW.TrodAll enc Tryd.prog W 0 (fun _ => true) true Tryd.f3.params.toList args.toList ds p := hA0
  rw [Tryd.params3] at hA hval
  obtain ⟨v0, vs0, d0, ds0, p0, q0, hargs, rfl, rfl, h0, r0⟩ := trodAll_cons hA
  obtain ⟨v1, vs1, d1, ds1, p1, q1, rfl, rfl, rfl, h1, r1⟩ := trodAll_cons r0
  obtain ⟨rfl, rfl, rfl⟩ := trodAll_nil r1
  obtain rfl : args = #[v0, v1] := by cases args; simp_all
  obtain ⟨rfl, rfl⟩ := trodVars_none hV
  have k0 := h0
  have lt0 : ∀ x ∈ p0, x.block < W.heap.size := by obtain ⟨m, hm⟩ := k0; exact DataW.trod_lt m _ _ _ hm
  obtain ⟨k_0, ver_0, id_0, s_0, A_0, n_0, c_0, l_0, B_0, m_0, d_0, t_0, C_0, q_0, e_0, b_0, rfl, hs_0, h1_0, hn1_0, h2_0, hn2_0, h3_0, hc3_0, hn3_0⟩ := Pro.open_req (hval 0 26 v0 rfl rfl) h0 (Pro.weights_arg (j := 0) hwt (by kernel_rfl) rfl)
  have k1 := h1
  have lt1 : ∀ x ∈ p1, x.block < W.heap.size := by obtain ⟨m, hm⟩ := k1; exact DataW.trod_lt m _ _ _ hm
  obtain ⟨a1, len1, cap1, l1, rfl, rd1, cp1⟩ := Oct.open_bytes Tryd.underlying24 Tryd.underlying5 (by kernel_rfl) (hval 1 24 v1 rfl rfl) h1
  clear hA0 hval0
  refine (Pro.protoReqs_walk k_0 ver_0 id_0 s_0 A_0 n_0 c_0 l_0 B_0 m_0 d_0 t_0 C_0 q_0 e_0 b_0 a1 len1 cap1 l1 W hs_0 h1_0 hn1_0 h2_0 hn2_0 h3_0 hc3_0 hn3_0 rd1 cp1 (Pro.tab_of_laid hL)).mono fun e W' ⟨he, bel⟩ => ?_
  subst he
  exact ⟨_, rfl, _, _, _, [], _, [], hW', trodAll_mk1 (shut_bool Tryd.underlying4 _), (trodAll_cons_mk (Below.trod laidOut (by kernel_rfl) (of_decide_eq_true (by kernel_rfl)) k0 bel lt0) (trodAll_cons_mk (Below.trod laidOut (by kernel_rfl) (of_decide_eq_true (by kernel_rfl)) k1 bel lt1) trodAll_mk0)), rfl, bel.frame _, fun h => by cases h⟩

theorem over : Rows.protoReqsRow.holds Tryd.pinned (OpenSpec.ofChange Rows.protoReqsSpec) :=
  OpenClaim.holds_of_wide 3 Tryd.f3 rfl rfl rfl rfl rfl rfl rfl ⟨rfl, rfl, rfl, rfl, rfl⟩ rfl rfl rfl rfl rfl (by kernel_rfl) Tryd.func3 (by kernel_rfl)
    (of_decide_eq_true (by kernel_rfl)) (by unfold Func.isWrapper; first | (rw [if_pos (by decide +kernel)]; kernel_rfl) | (rw [if_neg (by decide +kernel)]; exact ⟨rfl, rfl⟩))
    (fun os started H enc _ => lifted os started H enc)

theorem proved : Rows.ProtoReqsCardSaid :=
  Claim7.holds_tied_plain_at .later [] [.data] true (true, "914bd8f4ba55f588f3411a616729fba77a27d8a54981671c67a2ae6954f02f7f") false
    over (fun _ h => by cases h) (by kernel_rfl) (fun _ h => by cases h) protoReqs_row_tie rfl ⟨rfl, rfl⟩ (by kernel_rfl) rfl
    (fun f fn hf hfn => by
      obtain rfl : f = 3 := Option.some.inj ((show Tryd.prog.funcNamed "watermeet/watermeetlaw06.ProtoReqs" = some 3 by kernel_rfl).symm.trans hf) |>.symm
      obtain rfl : fn = Tryd.f3 := (Option.some.inj (Tryd.func3.symm.trans hfn)).symm
      exact ⟨by kernel_rfl, fun j t ht => by
        rw [Tryd.params3] at ht
        have hm : t ∈ [26, 24] := by simpa using Array.mem_of_getElem? ht
        have hall : ([26, 24].all fun u => !Tryd.prog.wantsStandIn u) = true := by kernel_rfl
        exact (show Tryd.prog.wantsStandIn t = false by simpa using List.all_eq_true.1 hall t hm)⟩)
    (by kernel_rfl)
#print axioms proved
end Go.Proofs.YthhdhdjdhekgpaaDoor.protoReqs
