/- For any request and any answer that are few, any cut and any byte: what is put is got; cut short anywhere, or with a byte more, it is none (the law answers true, and changes nothing that was there). Conditions: none.
-/
import Derived.Test.YthhdhdjdhekgpaaDoorProIs
import Derived.Test.YthhdhdjdhekgpaaDoorProLens
import Derived.Test.YthhdhdjdhekgpaaDoorProAlone
import Derived.Test.YthhdhdjdhekgpaaDoorProLaws5
import Derived.Test.YthhdhdjdhekgpaaDoorRows
import Derived.WalkKit
import Derived.ProofKit
import Derived.OpenShut
import Derived.ChangeOld
import Derived.Below
import Derived.Carry
import Derived.Test.YthhdhdjdhekgpaaDoorJOct
import Derived.Test.YthhdhdjdhekgpaaDoorProArg
import Derived.Test.YthhdhdjdhekgpaaDoorProTied
import Derived.Test.YthhdhdjdhekgpaaDoorTie
import Derived.Test.YthhdhdjdhekgpaaDoorCards
import Derived.SevenTiedAt
/- The walk of ProtoBack. -/
namespace Go.Proofs.YthhdhdjdhekgpaaDoor.Pro
open Go.RowKit Go.Proofs.YthhdhdjdhekgpaaDoor.Oct Go.Proofs.YthhdhdjdhekgpaaDoor.Rec Go.Proofs.YthhdhdjdhekgpaaDoor.Cod Go.Proofs.YthhdhdjdhekgpaaDoor.Lay Go.Proofs.YthhdhdjdhekgpaaDoor.RowF

/-- a request's and an answer's box, as they were laid -/
structure BK (w : World) (csq csp : Array Value) (W : World) : Prop where
  bel : Below w.heap.size w W
  q : W.heap[w.heap.size]? = some (.cells csq 26 (0, 0))
  p : W.heap[w.heap.size + 1]? = some (.cells csp 38 (0, 0))
theorem BK.step {w W W' : World} {csq csp : Array Value} (h : BK w csq csp W) (hb : Below W.heap.size W W') : BK w csq csp W' :=
  ⟨h.bel.trans (hb.mono h.bel.size), blk_below h.q hb, blk_below h.p hb⟩
theorem BK.init (w : World) (csq csp : Array Value) : BK w csq csp ((w.alloc (.cells csq 26)).alloc (.cells csp 38)) :=
  ⟨bel_alloc (bel_alloc (Below.refl _ _) _) _, blk_below (alloc_at rfl) (bel_alloc (Below.refl _ _) _), alloc_at (by simp)⟩
set_option maxRecDepth 100000 in
set_option maxHeartbeats 16000000 in
theorem back_n (k v i : Int) (s : ByteArray) (A1 : Option Addr) (n1 c1 : Nat) (l1 : List Int) (A2 : Option Addr) (n2 c2 : Nat) (l2 : List ByteArray) (A3 : Option Addr) (n3 c3 : Nat) (l3 : List UInt8) (pk pv pi pe pt : Int) (B1 : Option Addr) (m1 d1 : Nat) (r1 : List Int) (B2 : Option Addr) (m2 d2 : Nat) (r2 : List ByteArray) (B3 : Option Addr) (m3 d3 : Nat) (r3 : List UInt8) (cut : Int) (more : UInt8) (w : World) (hs : s.size ≤ reach) (h1 : RdL w w.heap.size A1 n1 l1) (hn1 : n1 ≤ reach) (h2 : RdL w w.heap.size A2 n2 l2) (hn2 : n2 ≤ reach) (h3 : Rd w w.heap.size A3 n3 l3) (_hc3 : n3 ≤ c3) (hn3 : n3 ≤ reach) (g1 : RdL w w.heap.size B1 m1 r1) (gn1 : m1 ≤ reach) (g2 : RdL w w.heap.size B2 m2 r2) (gn2 : m2 ≤ reach) (g3 : Rd w w.heap.size B3 m3 r3) (_gc3 : m3 ≤ d3) (gn3 : m3 ≤ reach) (_hcut : I64 cut) (ht : Tab w) (hfq : fewQ ⟨k, v, i, s, l1, l2, l3⟩ = false) :
    Calls Tryd.prog 6 #[.agg #[.int .i64 k, .int .i64 v, .int .i64 i, .string s, .slice A1 n1 c1, .slice A2 n2 c2, .slice A3 n3 c3], .agg #[.int .i64 pk, .int .i64 pv, .int .i64 pi, .int .i64 pe, .int .i64 pt, .slice B1 m1 d1, .slice B2 m2 d2, .slice B3 m3 d3], .int .i64 cut, .int .u8 (more.toNat : Int)] w fun e w' => e = .returned (.bool true) ∧ Below w.heap.size w w' := by
  have HT := Lib.hid ht
  have H1 := Lib.hid h1
  have H2 := Lib.hid h2
  have H3 := Lib.hid h3
  have G1 := Lib.hid g1
  have G2 := Lib.hid g2
  have G3 := Lib.hid g3
  have hr1 : n1 ≤ 140737488351232 := hn1
  have hr2 : n2 ≤ 140737488351232 := hn2
  have hr3 : n3 ≤ 140737488351232 := hn3
  have gr1 : m1 ≤ 140737488351232 := gn1
  have gr2 : m2 ≤ 140737488351232 := gn2
  have gr3 : m3 ≤ 140737488351232 := gn3
  have hrs : s.size ≤ 140737488351232 := hs
  have K0 := Lib.hid (BK.init w #[.int .i64 k, .int .i64 v, .int .i64 i, .string s, .slice A1 n1 c1, .slice A2 n2 c2, .slice A3 n3 c3] #[.int .i64 pk, .int .i64 pv, .int .i64 pi, .int .i64 pe, .int .i64 pt, .slice B1 m1 d1, .slice B2 m2 d2, .slice B3 m3 d3])
  have HFQ := Lib.hid hfq
  clear hfq
  clear ht h1 h2 h3 g1 g2 g3
  go_enter Tryd.func6, Tryd.ntmps6
  go_wp2_with (first
    | (go_at_call 13; (with_reducible refine (reffewQ_any k v i s A1 n1 c1 l1 A2 n2 c2 l2 A3 n3 c3 l3 w1 H1.out.len (lup H2.out (BK.bel K1.out)) hr2 H3.out.len hrs).mono ?_); rw [HFQ.out]; rintro e w2 ⟨rfl, hb2⟩; have K2 := Lib.hid (K1.out.step hb2); obtain ⟨o0, o1, o2, o3, o4, o5, o6, o7⟩ := (boxP_blk K2.out.p).1; clear hb2)
    | (go_at_call 12; (with_reducible refine (live_is w _ (BK.bel K0.out) HT.out).mono ?_); rintro e w1 ⟨rfl, hb1⟩; have K1 := Lib.hid (K0.out.step hb1); obtain ⟨u0, u1, u2, u3, u4, u5, u6⟩ := (boxQ_blk K1.out.q).1; clear hb1))
  go_ret
  exact ⟨rfl, K2.out.bel⟩
set_option maxRecDepth 100000 in
set_option maxHeartbeats 16000000 in
theorem back_m (k v i : Int) (s : ByteArray) (A1 : Option Addr) (n1 c1 : Nat) (l1 : List Int) (A2 : Option Addr) (n2 c2 : Nat) (l2 : List ByteArray) (A3 : Option Addr) (n3 c3 : Nat) (l3 : List UInt8) (pk pv pi pe pt : Int) (B1 : Option Addr) (m1 d1 : Nat) (r1 : List Int) (B2 : Option Addr) (m2 d2 : Nat) (r2 : List ByteArray) (B3 : Option Addr) (m3 d3 : Nat) (r3 : List UInt8) (cut : Int) (more : UInt8) (w : World) (hs : s.size ≤ reach) (h1 : RdL w w.heap.size A1 n1 l1) (hn1 : n1 ≤ reach) (h2 : RdL w w.heap.size A2 n2 l2) (hn2 : n2 ≤ reach) (h3 : Rd w w.heap.size A3 n3 l3) (_hc3 : n3 ≤ c3) (hn3 : n3 ≤ reach) (g1 : RdL w w.heap.size B1 m1 r1) (gn1 : m1 ≤ reach) (g2 : RdL w w.heap.size B2 m2 r2) (gn2 : m2 ≤ reach) (g3 : Rd w w.heap.size B3 m3 r3) (_gc3 : m3 ≤ d3) (gn3 : m3 ≤ reach) (_hcut : I64 cut) (ht : Tab w) (hfq : fewQ ⟨k, v, i, s, l1, l2, l3⟩ = true) (hfp : fewP ⟨pk, pv, pi, pe, pt, r1, r2, r3⟩ = false) :
    Calls Tryd.prog 6 #[.agg #[.int .i64 k, .int .i64 v, .int .i64 i, .string s, .slice A1 n1 c1, .slice A2 n2 c2, .slice A3 n3 c3], .agg #[.int .i64 pk, .int .i64 pv, .int .i64 pi, .int .i64 pe, .int .i64 pt, .slice B1 m1 d1, .slice B2 m2 d2, .slice B3 m3 d3], .int .i64 cut, .int .u8 (more.toNat : Int)] w fun e w' => e = .returned (.bool true) ∧ Below w.heap.size w w' := by
  have HT := Lib.hid ht
  have H1 := Lib.hid h1
  have H2 := Lib.hid h2
  have H3 := Lib.hid h3
  have G1 := Lib.hid g1
  have G2 := Lib.hid g2
  have G3 := Lib.hid g3
  have hr1 : n1 ≤ 140737488351232 := hn1
  have hr2 : n2 ≤ 140737488351232 := hn2
  have hr3 : n3 ≤ 140737488351232 := hn3
  have gr1 : m1 ≤ 140737488351232 := gn1
  have gr2 : m2 ≤ 140737488351232 := gn2
  have gr3 : m3 ≤ 140737488351232 := gn3
  have hrs : s.size ≤ 140737488351232 := hs
  have K0 := Lib.hid (BK.init w #[.int .i64 k, .int .i64 v, .int .i64 i, .string s, .slice A1 n1 c1, .slice A2 n2 c2, .slice A3 n3 c3] #[.int .i64 pk, .int .i64 pv, .int .i64 pi, .int .i64 pe, .int .i64 pt, .slice B1 m1 d1, .slice B2 m2 d2, .slice B3 m3 d3])
  have HFQ := Lib.hid hfq
  have HFP := Lib.hid hfp
  clear hfq hfp
  clear ht h1 h2 h3 g1 g2 g3
  go_enter Tryd.func6, Tryd.ntmps6
  go_wp2_with (first
    | (go_at_call 21; (with_reducible refine (reffewP_any pk pv pi pe pt B1 m1 d1 r1 B2 m2 d2 r2 B3 m3 d3 r3 w2 G1.out.len (lup G2.out (BK.bel K2.out)) gr2 G3.out.len).mono ?_); rw [HFP.out]; rintro e w3 ⟨rfl, hb3⟩; have K3 := Lib.hid (K2.out.step hb3); obtain ⟨x0, x1, x2, x3, x4, x5, x6⟩ := (boxQ_blk K3.out.q).1; clear hb3)
    | (go_at_call 13; (with_reducible refine (reffewQ_any k v i s A1 n1 c1 l1 A2 n2 c2 l2 A3 n3 c3 l3 w1 H1.out.len (lup H2.out (BK.bel K1.out)) hr2 H3.out.len hrs).mono ?_); rw [HFQ.out]; rintro e w2 ⟨rfl, hb2⟩; have K2 := Lib.hid (K1.out.step hb2); obtain ⟨o0, o1, o2, o3, o4, o5, o6, o7⟩ := (boxP_blk K2.out.p).1; clear hb2)
    | (go_at_call 12; (with_reducible refine (live_is w _ (BK.bel K0.out) HT.out).mono ?_); rintro e w1 ⟨rfl, hb1⟩; have K1 := Lib.hid (K0.out.step hb1); obtain ⟨u0, u1, u2, u3, u4, u5, u6⟩ := (boxQ_blk K1.out.q).1; clear hb1))
  go_ret
  exact ⟨rfl, K3.out.bel⟩
set_option maxRecDepth 100000 in
set_option maxHeartbeats 16000000 in
theorem back_tt (k v i : Int) (s : ByteArray) (A1 : Option Addr) (n1 c1 : Nat) (l1 : List Int) (A2 : Option Addr) (n2 c2 : Nat) (l2 : List ByteArray) (A3 : Option Addr) (n3 c3 : Nat) (l3 : List UInt8) (pk pv pi pe pt : Int) (B1 : Option Addr) (m1 d1 : Nat) (r1 : List Int) (B2 : Option Addr) (m2 d2 : Nat) (r2 : List ByteArray) (B3 : Option Addr) (m3 d3 : Nat) (r3 : List UInt8) (cut : Int) (more : UInt8) (w : World) (hs : s.size ≤ reach) (h1 : RdL w w.heap.size A1 n1 l1) (hn1 : n1 ≤ reach) (h2 : RdL w w.heap.size A2 n2 l2) (hn2 : n2 ≤ reach) (h3 : Rd w w.heap.size A3 n3 l3) (_hc3 : n3 ≤ c3) (hn3 : n3 ≤ reach) (g1 : RdL w w.heap.size B1 m1 r1) (gn1 : m1 ≤ reach) (g2 : RdL w w.heap.size B2 m2 r2) (gn2 : m2 ≤ reach) (g3 : Rd w w.heap.size B3 m3 r3) (_gc3 : m3 ≤ d3) (gn3 : m3 ≤ reach) (_hcut : I64 cut) (ht : Tab w) (hfq : fewQ ⟨k, v, i, s, l1, l2, l3⟩ = true) (hfp : fewP ⟨pk, pv, pi, pe, pt, r1, r2, r3⟩ = true) (x : List UInt8) (hpq : ptQ ⟨k, v, i, s, l1, l2, l3⟩ = (x, 0)) (hgq : gtQ x = (⟨k, v, i, s, l1, l2, l3⟩, 0)) (hsq : ∀ j, j < x.length → gtQ (x.take j) = (⟨0, 0, 0, ByteArray.empty, [], [], []⟩, 10)) (hmq : gtQ (x ++ [more]) = (⟨0, 0, 0, ByteArray.empty, [], [], []⟩, 11)) (hx1 : 1 ≤ x.length) (hx2 : x.length ≤ 100000) (y : List UInt8) (hpp : ptP ⟨pk, pv, pi, pe, pt, r1, r2, r3⟩ = (y, 0)) (hgp : gtP y = (⟨pk, pv, pi, pe, pt, r1, r2, r3⟩, 0)) (hsp : ∀ j, j < y.length → gtP (y.take j) = (⟨0, 0, 0, 0, 0, [], [], []⟩, 10)) (hmp : gtP (y ++ [more]) = (⟨0, 0, 0, 0, 0, [], [], []⟩, 11)) (hy1 : 1 ≤ y.length) (hy2 : y.length ≤ 100000) :
    Calls Tryd.prog 6 #[.agg #[.int .i64 k, .int .i64 v, .int .i64 i, .string s, .slice A1 n1 c1, .slice A2 n2 c2, .slice A3 n3 c3], .agg #[.int .i64 pk, .int .i64 pv, .int .i64 pi, .int .i64 pe, .int .i64 pt, .slice B1 m1 d1, .slice B2 m2 d2, .slice B3 m3 d3], .int .i64 cut, .int .u8 (more.toNat : Int)] w fun e w' => e = .returned (.bool true) ∧ Below w.heap.size w w' := by
  have HT := Lib.hid ht
  have H1 := Lib.hid h1
  have H2 := Lib.hid h2
  have H3 := Lib.hid h3
  have G1 := Lib.hid g1
  have G2 := Lib.hid g2
  have G3 := Lib.hid g3
  have hr1 : n1 ≤ 140737488351232 := hn1
  have hr2 : n2 ≤ 140737488351232 := hn2
  have hr3 : n3 ≤ 140737488351232 := hn3
  have gr1 : m1 ≤ 140737488351232 := gn1
  have gr2 : m2 ≤ 140737488351232 := gn2
  have gr3 : m3 ≤ 140737488351232 := gn3
  have hrs : s.size ≤ 140737488351232 := hs
  have K0 := Lib.hid (BK.init w #[.int .i64 k, .int .i64 v, .int .i64 i, .string s, .slice A1 n1 c1, .slice A2 n2 c2, .slice A3 n3 c3] #[.int .i64 pk, .int .i64 pv, .int .i64 pi, .int .i64 pe, .int .i64 pt, .slice B1 m1 d1, .slice B2 m2 d2, .slice B3 m3 d3])
  have HFQ := Lib.hid hfq
  have HFP := Lib.hid hfp
  have HPQ := Lib.hid hpq
  have HPP := Lib.hid hpp
  clear hfq hfp hpq hpp
  have HGQ := Lib.hid hgq
  have HSQ := Lib.hid hsq
  have HMQ := Lib.hid hmq
  have HX12 := Lib.hid (And.intro hx1 hx2)
  clear hgq hsq hmq hx1 hx2
  have HGP := Lib.hid hgp
  have HSP := Lib.hid hsp
  have HMP := Lib.hid hmp
  have HY12 := Lib.hid (And.intro hy1 hy2)
  clear hgp hsp hmp hy1 hy2
  clear ht h1 h2 h3 g1 g2 g3
  go_enter Tryd.func6, Tryd.ntmps6
  go_wp2_with (first
    | (go_at_call 32; (with_reducible refine (alone_resp Y yn yc y cut more w10 (rup HY.out HB10.out) hyc (by have h8 := HY.out.len; have h9 := HY12.out; omega) hyn (HT.out.bel (BK.bel K10.out)) (by rw [← HY.out.len]; exact HSP.out) HMP.out).mono ?_); rintro e w11 ⟨rfl, hb9⟩; have K11 := Lib.hid (K10.out.step hb9); clear hb9)
    | (go_at_call 26; have K9a := Lib.hid (K9.out.step (bel_alloc (Below.refl _ _) (.cells #[.int .i64 pk, .int .i64 pv, .int .i64 pi, .int .i64 pe, .int .i64 pt, .slice S1 S2 S3, .slice S4 S5 S6, .slice S7 S8 S9] 38))); have HB9a := Lib.hid (bel_alloc (Below.refl w9.heap.size w9) (.cells #[.int .i64 pk, .int .i64 pv, .int .i64 pi, .int .i64 pe, .int .i64 pt, .slice S1 S2 S3, .slice S4 S5 S6, .slice S7 S8 S9] 38)); obtain ⟨z1, z2, z3, z4, z5, z6⟩ := H9.out.below HB9a.out; (with_reducible refine (refsameP_any pk pk pv pv pi pi pe pe pt pt S1 S2 S3 r1 S4 S5 S6 r2 S7 S8 S9 r3 B1 m1 d1 r1 B2 m2 d2 r2 B3 m3 d3 r3 (w9.alloc (.cells #[.int .i64 pk, .int .i64 pv, .int .i64 pi, .int .i64 pe, .int .i64 pt, .slice S1 S2 S3, .slice S4 S5 S6, .slice S7 S8 S9] 38)) z1 z4 z2 z5 z3 (lup G1.out (BK.bel K9a.out)) (lup G2.out (BK.bel K9a.out)) (rup G3.out (BK.bel K9a.out))).mono ?_); rw [eqq_yes rfl]; rintro e w10 ⟨rfl, hb9⟩; have HB10 := Lib.hid (HB9.out.trans ((HB9a.out.trans (hb9.mono HB9a.out.size)).mono HB9.out.size)); have K10 := Lib.hid (K9a.out.step hb9); clear hb9 z1 z2 z3 z4 z5 z6)
    | (go_at_call 24; (with_reducible refine (GetResp_is Y yn yc _ w8 w8 HY.out (Below.refl _ _) hyc (by omega) HGP.out).mono ?_); rintro e w9 ⟨S1, S2, S3, S4, S5, S6, S7, S8, S9, rfl, h3, hb9⟩; have H9 := Lib.hid h3; have HB9 := Lib.hid hb9; have K9 := Lib.hid (K8.out.step hb9); have hl9 : w.heap.size < w9.heap.size := heap_lt K9.out.q; have hl9' : w.heap.size + 1 < w9.heap.size := heap_lt K9.out.p; obtain ⟨q0, q1, q2, q3, q4, q5, q6, q7⟩ := (boxP_blk K9.out.p).1; clear hb9 h3)
    | (go_at_call 22; (with_reducible refine (PutResp_is pk pv pi pe pt B1 m1 d1 r1 B2 m2 d2 r2 B3 m3 d3 r3 w w7 G1.out gr1 G2.out gr2 G3.out gr3 (BK.bel K7.out) HPP.out).mono ?_); rintro e w8 ⟨Y, yn, yc, rfl, hY, hyc, hb9⟩; have HY := Lib.hid hY; have K8 := Lib.hid (K7.out.step hb9); have hyn : yn ≤ 100000 := (by have h8 := hY.len; have h9 := HY12.out; omega); clear hb9 hY)
    | (go_at_call 32; (with_reducible refine (alone_req X xn xc x cut more w6 (rup HX.out HB6.out) hxc (by have h8 := HX.out.len; have h9 := HX12.out; omega) hxn (HT.out.bel (BK.bel K6.out)) (by rw [← HX.out.len]; exact HSQ.out) HMQ.out).mono ?_); rintro e w7 ⟨rfl, hb9⟩; have K7 := Lib.hid (K6.out.step hb9); obtain ⟨y0, y1, y2, y3, y4, y5, y6, y7⟩ := (boxP_blk K7.out.p).1; clear hb9)
    | (go_at_call 20; have K5a := Lib.hid (K5.out.step (bel_alloc (Below.refl _ _) (.cells #[.int .i64 k, .int .i64 v, .int .i64 i, .string s, .slice P1 P2 P3, .slice P4 P5 P6, .slice P7 P8 P9] 26))); have HB5a := Lib.hid (bel_alloc (Below.refl w5.heap.size w5) (.cells #[.int .i64 k, .int .i64 v, .int .i64 i, .string s, .slice P1 P2 P3, .slice P4 P5 P6, .slice P7 P8 P9] 26)); obtain ⟨z1, z2, z3, z4, z5, z6⟩ := H5.out.below HB5a.out; (with_reducible refine (refsameQ_any k k v v i i s s P1 P2 P3 l1 P4 P5 P6 l2 P7 P8 P9 l3 A1 n1 c1 l1 A2 n2 c2 l2 A3 n3 c3 l3 (w5.alloc (.cells #[.int .i64 k, .int .i64 v, .int .i64 i, .string s, .slice P1 P2 P3, .slice P4 P5 P6, .slice P7 P8 P9] 26)) z1 z4 z2 z5 z3 (lup H1.out (BK.bel K5a.out)) (lup H2.out (BK.bel K5a.out)) (rup H3.out (BK.bel K5a.out))).mono ?_); rw [eqq_yes rfl]; rintro e w6 ⟨rfl, hb9⟩; have HB6 := Lib.hid (HB5.out.trans ((HB5a.out.trans (hb9.mono HB5a.out.size)).mono HB5.out.size)); have K6 := Lib.hid (K5a.out.step hb9); clear hb9 z1 z2 z3 z4 z5 z6)
    | (go_at_call 16; (with_reducible refine (GetReq_is X xn xc _ w4 w4 HX.out (Below.refl _ _) hxc (by omega) (HT.out.bel (BK.bel K4.out)) HGQ.out).mono ?_); rintro e w5 ⟨P1, P2, P3, P4, P5, P6, P7, P8, P9, rfl, h3, _, hb9⟩; have H5 := Lib.hid h3; have HB5 := Lib.hid hb9; have K5 := Lib.hid (K4.out.step hb9); have hl5 : w.heap.size < w5.heap.size := heap_lt K5.out.q; have hl5' : w.heap.size + 1 < w5.heap.size := heap_lt K5.out.p; obtain ⟨u0, u1, u2, u3, u4, u5, u6⟩ := (boxQ_blk K5.out.q).1; obtain ⟨p0, p1, p2, p3, p4, p5, p6, p7⟩ := (boxP_blk K5.out.p).1; clear hb9 h3)
    | (go_at_call 14; (with_reducible refine (PutReq_is k v i s A1 n1 c1 l1 A2 n2 c2 l2 A3 n3 c3 l3 w w3 H1.out hr1 H2.out hr2 hrs H3.out hr3 (BK.bel K3.out) (HT.out.bel (BK.bel K3.out)) HPQ.out).mono ?_); rintro e w4 ⟨X, xn, xc, rfl, hX, hxc, hb9⟩; have HX := Lib.hid hX; have K4 := Lib.hid (K3.out.step hb9); have hxn : xn ≤ 100000 := (by have h8 := hX.len; have h9 := HX12.out; omega); clear hb9 hX)
    | (go_at_call 21; (with_reducible refine (reffewP_any pk pv pi pe pt B1 m1 d1 r1 B2 m2 d2 r2 B3 m3 d3 r3 w2 G1.out.len (lup G2.out (BK.bel K2.out)) gr2 G3.out.len).mono ?_); rw [HFP.out]; rintro e w3 ⟨rfl, hb3⟩; have K3 := Lib.hid (K2.out.step hb3); obtain ⟨x0, x1, x2, x3, x4, x5, x6⟩ := (boxQ_blk K3.out.q).1; clear hb3)
    | (go_at_call 13; (with_reducible refine (reffewQ_any k v i s A1 n1 c1 l1 A2 n2 c2 l2 A3 n3 c3 l3 w1 H1.out.len (lup H2.out (BK.bel K1.out)) hr2 H3.out.len hrs).mono ?_); rw [HFQ.out]; rintro e w2 ⟨rfl, hb2⟩; have K2 := Lib.hid (K1.out.step hb2); obtain ⟨o0, o1, o2, o3, o4, o5, o6, o7⟩ := (boxP_blk K2.out.p).1; clear hb2)
    | (go_at_call 12; (with_reducible refine (live_is w _ (BK.bel K0.out) HT.out).mono ?_); rintro e w1 ⟨rfl, hb1⟩; have K1 := Lib.hid (K0.out.step hb1); obtain ⟨u0, u1, u2, u3, u4, u5, u6⟩ := (boxQ_blk K1.out.q).1; clear hb1))
  go_ret
  exact ⟨rfl, K11.out.bel⟩
set_option maxRecDepth 100000 in
set_option maxHeartbeats 16000000 in
theorem back_ty (k v i : Int) (s : ByteArray) (A1 : Option Addr) (n1 c1 : Nat) (l1 : List Int) (A2 : Option Addr) (n2 c2 : Nat) (l2 : List ByteArray) (A3 : Option Addr) (n3 c3 : Nat) (l3 : List UInt8) (pk pv pi pe pt : Int) (B1 : Option Addr) (m1 d1 : Nat) (r1 : List Int) (B2 : Option Addr) (m2 d2 : Nat) (r2 : List ByteArray) (B3 : Option Addr) (m3 d3 : Nat) (r3 : List UInt8) (cut : Int) (more : UInt8) (w : World) (hs : s.size ≤ reach) (h1 : RdL w w.heap.size A1 n1 l1) (hn1 : n1 ≤ reach) (h2 : RdL w w.heap.size A2 n2 l2) (hn2 : n2 ≤ reach) (h3 : Rd w w.heap.size A3 n3 l3) (_hc3 : n3 ≤ c3) (hn3 : n3 ≤ reach) (g1 : RdL w w.heap.size B1 m1 r1) (gn1 : m1 ≤ reach) (g2 : RdL w w.heap.size B2 m2 r2) (gn2 : m2 ≤ reach) (g3 : Rd w w.heap.size B3 m3 r3) (_gc3 : m3 ≤ d3) (gn3 : m3 ≤ reach) (_hcut : I64 cut) (ht : Tab w) (hfq : fewQ ⟨k, v, i, s, l1, l2, l3⟩ = true) (hfp : fewP ⟨pk, pv, pi, pe, pt, r1, r2, r3⟩ = true) (x : List UInt8) (hpq : ptQ ⟨k, v, i, s, l1, l2, l3⟩ = (x, 0)) (hgq : gtQ x = (⟨k, v, i, s, l1, l2, l3⟩, 0)) (hsq : ∀ j, j < x.length → gtQ (x.take j) = (⟨0, 0, 0, ByteArray.empty, [], [], []⟩, 10)) (hmq : gtQ (x ++ [more]) = (⟨0, 0, 0, ByteArray.empty, [], [], []⟩, 11)) (hx1 : 1 ≤ x.length) (hx2 : x.length ≤ 100000) (ep : Int) (hep : (ep == 0) = false) (hpp : ptP ⟨pk, pv, pi, pe, pt, r1, r2, r3⟩ = ([], ep)) :
    Calls Tryd.prog 6 #[.agg #[.int .i64 k, .int .i64 v, .int .i64 i, .string s, .slice A1 n1 c1, .slice A2 n2 c2, .slice A3 n3 c3], .agg #[.int .i64 pk, .int .i64 pv, .int .i64 pi, .int .i64 pe, .int .i64 pt, .slice B1 m1 d1, .slice B2 m2 d2, .slice B3 m3 d3], .int .i64 cut, .int .u8 (more.toNat : Int)] w fun e w' => e = .returned (.bool true) ∧ Below w.heap.size w w' := by
  have HT := Lib.hid ht
  have H1 := Lib.hid h1
  have H2 := Lib.hid h2
  have H3 := Lib.hid h3
  have G1 := Lib.hid g1
  have G2 := Lib.hid g2
  have G3 := Lib.hid g3
  have hr1 : n1 ≤ 140737488351232 := hn1
  have hr2 : n2 ≤ 140737488351232 := hn2
  have hr3 : n3 ≤ 140737488351232 := hn3
  have gr1 : m1 ≤ 140737488351232 := gn1
  have gr2 : m2 ≤ 140737488351232 := gn2
  have gr3 : m3 ≤ 140737488351232 := gn3
  have hrs : s.size ≤ 140737488351232 := hs
  have K0 := Lib.hid (BK.init w #[.int .i64 k, .int .i64 v, .int .i64 i, .string s, .slice A1 n1 c1, .slice A2 n2 c2, .slice A3 n3 c3] #[.int .i64 pk, .int .i64 pv, .int .i64 pi, .int .i64 pe, .int .i64 pt, .slice B1 m1 d1, .slice B2 m2 d2, .slice B3 m3 d3])
  have HFQ := Lib.hid hfq
  have HFP := Lib.hid hfp
  have HPQ := Lib.hid hpq
  have HPP := Lib.hid hpp
  clear hfq hfp hpq hpp
  have HGQ := Lib.hid hgq
  have HSQ := Lib.hid hsq
  have HMQ := Lib.hid hmq
  have HX12 := Lib.hid (And.intro hx1 hx2)
  clear hgq hsq hmq hx1 hx2
  rcases hgp : gtP [] with ⟨⟨pk2, pv2, pi2, pe2, pt2, b1, b2, b3⟩, fg⟩
  have HGP := Lib.hid hgp
  clear hgp
  clear ht h1 h2 h3 g1 g2 g3
  go_enter Tryd.func6, Tryd.ntmps6
  go_wp2_with (first
    | (go_at_call 24; (with_reducible refine (GetResp_is Y 0 yc _ w8 w8 HY.out (Below.refl _ _) hyc (by omega) HGP.out).mono ?_); rintro e w9 ⟨S1, S2, S3, S4, S5, S6, S7, S8, S9, rfl, h3, hb9⟩; have H9 := Lib.hid h3; have HB9 := Lib.hid hb9; have K9 := Lib.hid (K8.out.step hb9); have hl9 : w.heap.size < w9.heap.size := heap_lt K9.out.q; have hl9' : w.heap.size + 1 < w9.heap.size := heap_lt K9.out.p; obtain ⟨q0, q1, q2, q3, q4, q5, q6, q7⟩ := (boxP_blk K9.out.p).1; clear hb9 h3)
    | (go_at_call 22; (with_reducible refine (PutResp_is pk pv pi pe pt B1 m1 d1 r1 B2 m2 d2 r2 B3 m3 d3 r3 w w7 G1.out gr1 G2.out gr2 G3.out gr3 (BK.bel K7.out) HPP.out).mono ?_); rintro e w8 ⟨Y, yn, yc, rfl, hY, hyc, hb9⟩; have HY := Lib.hid hY; have K8 := Lib.hid (K7.out.step hb9); obtain rfl : yn = 0 := hY.len.symm; clear hb9 hY)
    | (go_at_call 32; (with_reducible refine (alone_req X xn xc x cut more w6 (rup HX.out HB6.out) hxc (by have h8 := HX.out.len; have h9 := HX12.out; omega) hxn (HT.out.bel (BK.bel K6.out)) (by rw [← HX.out.len]; exact HSQ.out) HMQ.out).mono ?_); rintro e w7 ⟨rfl, hb9⟩; have K7 := Lib.hid (K6.out.step hb9); obtain ⟨y0, y1, y2, y3, y4, y5, y6, y7⟩ := (boxP_blk K7.out.p).1; clear hb9)
    | (go_at_call 20; have K5a := Lib.hid (K5.out.step (bel_alloc (Below.refl _ _) (.cells #[.int .i64 k, .int .i64 v, .int .i64 i, .string s, .slice P1 P2 P3, .slice P4 P5 P6, .slice P7 P8 P9] 26))); have HB5a := Lib.hid (bel_alloc (Below.refl w5.heap.size w5) (.cells #[.int .i64 k, .int .i64 v, .int .i64 i, .string s, .slice P1 P2 P3, .slice P4 P5 P6, .slice P7 P8 P9] 26)); obtain ⟨z1, z2, z3, z4, z5, z6⟩ := H5.out.below HB5a.out; (with_reducible refine (refsameQ_any k k v v i i s s P1 P2 P3 l1 P4 P5 P6 l2 P7 P8 P9 l3 A1 n1 c1 l1 A2 n2 c2 l2 A3 n3 c3 l3 (w5.alloc (.cells #[.int .i64 k, .int .i64 v, .int .i64 i, .string s, .slice P1 P2 P3, .slice P4 P5 P6, .slice P7 P8 P9] 26)) z1 z4 z2 z5 z3 (lup H1.out (BK.bel K5a.out)) (lup H2.out (BK.bel K5a.out)) (rup H3.out (BK.bel K5a.out))).mono ?_); rw [eqq_yes rfl]; rintro e w6 ⟨rfl, hb9⟩; have HB6 := Lib.hid (HB5.out.trans ((HB5a.out.trans (hb9.mono HB5a.out.size)).mono HB5.out.size)); have K6 := Lib.hid (K5a.out.step hb9); clear hb9 z1 z2 z3 z4 z5 z6)
    | (go_at_call 16; (with_reducible refine (GetReq_is X xn xc _ w4 w4 HX.out (Below.refl _ _) hxc (by omega) (HT.out.bel (BK.bel K4.out)) HGQ.out).mono ?_); rintro e w5 ⟨P1, P2, P3, P4, P5, P6, P7, P8, P9, rfl, h3, _, hb9⟩; have H5 := Lib.hid h3; have HB5 := Lib.hid hb9; have K5 := Lib.hid (K4.out.step hb9); have hl5 : w.heap.size < w5.heap.size := heap_lt K5.out.q; have hl5' : w.heap.size + 1 < w5.heap.size := heap_lt K5.out.p; obtain ⟨u0, u1, u2, u3, u4, u5, u6⟩ := (boxQ_blk K5.out.q).1; obtain ⟨p0, p1, p2, p3, p4, p5, p6, p7⟩ := (boxP_blk K5.out.p).1; clear hb9 h3)
    | (go_at_call 14; (with_reducible refine (PutReq_is k v i s A1 n1 c1 l1 A2 n2 c2 l2 A3 n3 c3 l3 w w3 H1.out hr1 H2.out hr2 hrs H3.out hr3 (BK.bel K3.out) (HT.out.bel (BK.bel K3.out)) HPQ.out).mono ?_); rintro e w4 ⟨X, xn, xc, rfl, hX, hxc, hb9⟩; have HX := Lib.hid hX; have K4 := Lib.hid (K3.out.step hb9); have hxn : xn ≤ 100000 := (by have h8 := hX.len; have h9 := HX12.out; omega); clear hb9 hX)
    | (go_at_call 21; (with_reducible refine (reffewP_any pk pv pi pe pt B1 m1 d1 r1 B2 m2 d2 r2 B3 m3 d3 r3 w2 G1.out.len (lup G2.out (BK.bel K2.out)) gr2 G3.out.len).mono ?_); rw [HFP.out]; rintro e w3 ⟨rfl, hb3⟩; have K3 := Lib.hid (K2.out.step hb3); obtain ⟨x0, x1, x2, x3, x4, x5, x6⟩ := (boxQ_blk K3.out.q).1; clear hb3)
    | (go_at_call 13; (with_reducible refine (reffewQ_any k v i s A1 n1 c1 l1 A2 n2 c2 l2 A3 n3 c3 l3 w1 H1.out.len (lup H2.out (BK.bel K1.out)) hr2 H3.out.len hrs).mono ?_); rw [HFQ.out]; rintro e w2 ⟨rfl, hb2⟩; have K2 := Lib.hid (K1.out.step hb2); obtain ⟨o0, o1, o2, o3, o4, o5, o6, o7⟩ := (boxP_blk K2.out.p).1; clear hb2)
    | (go_at_call 12; (with_reducible refine (live_is w _ (BK.bel K0.out) HT.out).mono ?_); rintro e w1 ⟨rfl, hb1⟩; have K1 := Lib.hid (K0.out.step hb1); obtain ⟨u0, u1, u2, u3, u4, u5, u6⟩ := (boxQ_blk K1.out.q).1; clear hb1))
  go_ret
  exact ⟨rfl, bel_alloc K9.out.bel _⟩
set_option maxRecDepth 100000 in
set_option maxHeartbeats 16000000 in
theorem back_yt (k v i : Int) (s : ByteArray) (A1 : Option Addr) (n1 c1 : Nat) (l1 : List Int) (A2 : Option Addr) (n2 c2 : Nat) (l2 : List ByteArray) (A3 : Option Addr) (n3 c3 : Nat) (l3 : List UInt8) (pk pv pi pe pt : Int) (B1 : Option Addr) (m1 d1 : Nat) (r1 : List Int) (B2 : Option Addr) (m2 d2 : Nat) (r2 : List ByteArray) (B3 : Option Addr) (m3 d3 : Nat) (r3 : List UInt8) (cut : Int) (more : UInt8) (w : World) (hs : s.size ≤ reach) (h1 : RdL w w.heap.size A1 n1 l1) (hn1 : n1 ≤ reach) (h2 : RdL w w.heap.size A2 n2 l2) (hn2 : n2 ≤ reach) (h3 : Rd w w.heap.size A3 n3 l3) (_hc3 : n3 ≤ c3) (hn3 : n3 ≤ reach) (g1 : RdL w w.heap.size B1 m1 r1) (gn1 : m1 ≤ reach) (g2 : RdL w w.heap.size B2 m2 r2) (gn2 : m2 ≤ reach) (g3 : Rd w w.heap.size B3 m3 r3) (_gc3 : m3 ≤ d3) (gn3 : m3 ≤ reach) (_hcut : I64 cut) (ht : Tab w) (hfq : fewQ ⟨k, v, i, s, l1, l2, l3⟩ = true) (hfp : fewP ⟨pk, pv, pi, pe, pt, r1, r2, r3⟩ = true) (eq : Int) (heq : (eq == 0) = false) (hpq : ptQ ⟨k, v, i, s, l1, l2, l3⟩ = ([], eq)) (y : List UInt8) (hpp : ptP ⟨pk, pv, pi, pe, pt, r1, r2, r3⟩ = (y, 0)) (hgp : gtP y = (⟨pk, pv, pi, pe, pt, r1, r2, r3⟩, 0)) (hsp : ∀ j, j < y.length → gtP (y.take j) = (⟨0, 0, 0, 0, 0, [], [], []⟩, 10)) (hmp : gtP (y ++ [more]) = (⟨0, 0, 0, 0, 0, [], [], []⟩, 11)) (hy1 : 1 ≤ y.length) (hy2 : y.length ≤ 100000) :
    Calls Tryd.prog 6 #[.agg #[.int .i64 k, .int .i64 v, .int .i64 i, .string s, .slice A1 n1 c1, .slice A2 n2 c2, .slice A3 n3 c3], .agg #[.int .i64 pk, .int .i64 pv, .int .i64 pi, .int .i64 pe, .int .i64 pt, .slice B1 m1 d1, .slice B2 m2 d2, .slice B3 m3 d3], .int .i64 cut, .int .u8 (more.toNat : Int)] w fun e w' => e = .returned (.bool true) ∧ Below w.heap.size w w' := by
  have HT := Lib.hid ht
  have H1 := Lib.hid h1
  have H2 := Lib.hid h2
  have H3 := Lib.hid h3
  have G1 := Lib.hid g1
  have G2 := Lib.hid g2
  have G3 := Lib.hid g3
  have hr1 : n1 ≤ 140737488351232 := hn1
  have hr2 : n2 ≤ 140737488351232 := hn2
  have hr3 : n3 ≤ 140737488351232 := hn3
  have gr1 : m1 ≤ 140737488351232 := gn1
  have gr2 : m2 ≤ 140737488351232 := gn2
  have gr3 : m3 ≤ 140737488351232 := gn3
  have hrs : s.size ≤ 140737488351232 := hs
  have K0 := Lib.hid (BK.init w #[.int .i64 k, .int .i64 v, .int .i64 i, .string s, .slice A1 n1 c1, .slice A2 n2 c2, .slice A3 n3 c3] #[.int .i64 pk, .int .i64 pv, .int .i64 pi, .int .i64 pe, .int .i64 pt, .slice B1 m1 d1, .slice B2 m2 d2, .slice B3 m3 d3])
  have HFQ := Lib.hid hfq
  have HFP := Lib.hid hfp
  have HPQ := Lib.hid hpq
  have HPP := Lib.hid hpp
  clear hfq hfp hpq hpp
  rcases hgq : gtQ [] with ⟨⟨k2, v2, i2, s2, a1, a2, a3⟩, eg⟩
  have HGQ := Lib.hid hgq
  clear hgq
  have HGP := Lib.hid hgp
  have HSP := Lib.hid hsp
  have HMP := Lib.hid hmp
  have HY12 := Lib.hid (And.intro hy1 hy2)
  clear hgp hsp hmp hy1 hy2
  clear ht h1 h2 h3 g1 g2 g3
  go_enter Tryd.func6, Tryd.ntmps6
  go_wp2_with (first
    | (go_at_call 32; (with_reducible refine (alone_resp Y yn yc y cut more w10 (rup HY.out HB10.out) hyc (by have h8 := HY.out.len; have h9 := HY12.out; omega) hyn (HT.out.bel (BK.bel K10.out)) (by rw [← HY.out.len]; exact HSP.out) HMP.out).mono ?_); rintro e w11 ⟨rfl, hb9⟩; have K11 := Lib.hid (K10.out.step hb9); clear hb9)
    | (go_at_call 26; have K9a := Lib.hid (K9.out.step (bel_alloc (Below.refl _ _) (.cells #[.int .i64 pk, .int .i64 pv, .int .i64 pi, .int .i64 pe, .int .i64 pt, .slice S1 S2 S3, .slice S4 S5 S6, .slice S7 S8 S9] 38))); have HB9a := Lib.hid (bel_alloc (Below.refl w9.heap.size w9) (.cells #[.int .i64 pk, .int .i64 pv, .int .i64 pi, .int .i64 pe, .int .i64 pt, .slice S1 S2 S3, .slice S4 S5 S6, .slice S7 S8 S9] 38)); obtain ⟨z1, z2, z3, z4, z5, z6⟩ := H9.out.below HB9a.out; (with_reducible refine (refsameP_any pk pk pv pv pi pi pe pe pt pt S1 S2 S3 r1 S4 S5 S6 r2 S7 S8 S9 r3 B1 m1 d1 r1 B2 m2 d2 r2 B3 m3 d3 r3 (w9.alloc (.cells #[.int .i64 pk, .int .i64 pv, .int .i64 pi, .int .i64 pe, .int .i64 pt, .slice S1 S2 S3, .slice S4 S5 S6, .slice S7 S8 S9] 38)) z1 z4 z2 z5 z3 (lup G1.out (BK.bel K9a.out)) (lup G2.out (BK.bel K9a.out)) (rup G3.out (BK.bel K9a.out))).mono ?_); rw [eqq_yes rfl]; rintro e w10 ⟨rfl, hb9⟩; have HB10 := Lib.hid (HB9.out.trans ((HB9a.out.trans (hb9.mono HB9a.out.size)).mono HB9.out.size)); have K10 := Lib.hid (K9a.out.step hb9); clear hb9 z1 z2 z3 z4 z5 z6)
    | (go_at_call 24; (with_reducible refine (GetResp_is Y yn yc _ w8 w8 HY.out (Below.refl _ _) hyc (by omega) HGP.out).mono ?_); rintro e w9 ⟨S1, S2, S3, S4, S5, S6, S7, S8, S9, rfl, h3, hb9⟩; have H9 := Lib.hid h3; have HB9 := Lib.hid hb9; have K9 := Lib.hid (K8.out.step hb9); have hl9 : w.heap.size < w9.heap.size := heap_lt K9.out.q; have hl9' : w.heap.size + 1 < w9.heap.size := heap_lt K9.out.p; obtain ⟨q0, q1, q2, q3, q4, q5, q6, q7⟩ := (boxP_blk K9.out.p).1; clear hb9 h3)
    | (go_at_call 22; have K5a := Lib.hid (K5.out.step (bel_alloc (Below.refl _ _) (.cells #[.int .i64 k2, .int .i64 v2, .int .i64 i2, .string s2, .slice P1 P2 P3, .slice P4 P5 P6, .slice P7 P8 P9] 26))); have HB5a := Lib.hid (bel_alloc (Below.refl w5.heap.size w5) (.cells #[.int .i64 k2, .int .i64 v2, .int .i64 i2, .string s2, .slice P1 P2 P3, .slice P4 P5 P6, .slice P7 P8 P9] 26)); (with_reducible refine (PutResp_is pk pv pi pe pt B1 m1 d1 r1 B2 m2 d2 r2 B3 m3 d3 r3 w (w5.alloc (.cells #[.int .i64 k2, .int .i64 v2, .int .i64 i2, .string s2, .slice P1 P2 P3, .slice P4 P5 P6, .slice P7 P8 P9] 26)) G1.out gr1 G2.out gr2 G3.out gr3 (BK.bel K5a.out) HPP.out).mono ?_); rintro e w8 ⟨Y, yn, yc, rfl, hY, hyc, hb9⟩; have HY := Lib.hid hY; have K8 := Lib.hid (K5a.out.step hb9); have hyn : yn ≤ 100000 := (by have h8 := hY.len; have h9 := HY12.out; omega); clear hb9 hY)
    | (go_at_call 16; (with_reducible refine (GetReq_is X 0 xc _ w4 w4 HX.out (Below.refl _ _) hxc (by omega) (HT.out.bel (BK.bel K4.out)) HGQ.out).mono ?_); rintro e w5 ⟨P1, P2, P3, P4, P5, P6, P7, P8, P9, rfl, h3, _, hb9⟩; have H5 := Lib.hid h3; have HB5 := Lib.hid hb9; have K5 := Lib.hid (K4.out.step hb9); have hl5 : w.heap.size < w5.heap.size := heap_lt K5.out.q; have hl5' : w.heap.size + 1 < w5.heap.size := heap_lt K5.out.p; obtain ⟨u0, u1, u2, u3, u4, u5, u6⟩ := (boxQ_blk K5.out.q).1; obtain ⟨p0, p1, p2, p3, p4, p5, p6, p7⟩ := (boxP_blk K5.out.p).1; clear hb9 h3)
    | (go_at_call 14; (with_reducible refine (PutReq_is k v i s A1 n1 c1 l1 A2 n2 c2 l2 A3 n3 c3 l3 w w3 H1.out hr1 H2.out hr2 hrs H3.out hr3 (BK.bel K3.out) (HT.out.bel (BK.bel K3.out)) HPQ.out).mono ?_); rintro e w4 ⟨X, xn, xc, rfl, hX, hxc, hb9⟩; have HX := Lib.hid hX; have K4 := Lib.hid (K3.out.step hb9); obtain rfl : xn = 0 := hX.len.symm; clear hb9 hX)
    | (go_at_call 21; (with_reducible refine (reffewP_any pk pv pi pe pt B1 m1 d1 r1 B2 m2 d2 r2 B3 m3 d3 r3 w2 G1.out.len (lup G2.out (BK.bel K2.out)) gr2 G3.out.len).mono ?_); rw [HFP.out]; rintro e w3 ⟨rfl, hb3⟩; have K3 := Lib.hid (K2.out.step hb3); obtain ⟨x0, x1, x2, x3, x4, x5, x6⟩ := (boxQ_blk K3.out.q).1; clear hb3)
    | (go_at_call 13; (with_reducible refine (reffewQ_any k v i s A1 n1 c1 l1 A2 n2 c2 l2 A3 n3 c3 l3 w1 H1.out.len (lup H2.out (BK.bel K1.out)) hr2 H3.out.len hrs).mono ?_); rw [HFQ.out]; rintro e w2 ⟨rfl, hb2⟩; have K2 := Lib.hid (K1.out.step hb2); obtain ⟨o0, o1, o2, o3, o4, o5, o6, o7⟩ := (boxP_blk K2.out.p).1; clear hb2)
    | (go_at_call 12; (with_reducible refine (live_is w _ (BK.bel K0.out) HT.out).mono ?_); rintro e w1 ⟨rfl, hb1⟩; have K1 := Lib.hid (K0.out.step hb1); obtain ⟨u0, u1, u2, u3, u4, u5, u6⟩ := (boxQ_blk K1.out.q).1; clear hb1))
  go_ret
  exact ⟨rfl, K11.out.bel⟩
set_option maxRecDepth 100000 in
set_option maxHeartbeats 16000000 in
theorem back_yy (k v i : Int) (s : ByteArray) (A1 : Option Addr) (n1 c1 : Nat) (l1 : List Int) (A2 : Option Addr) (n2 c2 : Nat) (l2 : List ByteArray) (A3 : Option Addr) (n3 c3 : Nat) (l3 : List UInt8) (pk pv pi pe pt : Int) (B1 : Option Addr) (m1 d1 : Nat) (r1 : List Int) (B2 : Option Addr) (m2 d2 : Nat) (r2 : List ByteArray) (B3 : Option Addr) (m3 d3 : Nat) (r3 : List UInt8) (cut : Int) (more : UInt8) (w : World) (hs : s.size ≤ reach) (h1 : RdL w w.heap.size A1 n1 l1) (hn1 : n1 ≤ reach) (h2 : RdL w w.heap.size A2 n2 l2) (hn2 : n2 ≤ reach) (h3 : Rd w w.heap.size A3 n3 l3) (_hc3 : n3 ≤ c3) (hn3 : n3 ≤ reach) (g1 : RdL w w.heap.size B1 m1 r1) (gn1 : m1 ≤ reach) (g2 : RdL w w.heap.size B2 m2 r2) (gn2 : m2 ≤ reach) (g3 : Rd w w.heap.size B3 m3 r3) (_gc3 : m3 ≤ d3) (gn3 : m3 ≤ reach) (_hcut : I64 cut) (ht : Tab w) (hfq : fewQ ⟨k, v, i, s, l1, l2, l3⟩ = true) (hfp : fewP ⟨pk, pv, pi, pe, pt, r1, r2, r3⟩ = true) (eq : Int) (heq : (eq == 0) = false) (hpq : ptQ ⟨k, v, i, s, l1, l2, l3⟩ = ([], eq)) (ep : Int) (hep : (ep == 0) = false) (hpp : ptP ⟨pk, pv, pi, pe, pt, r1, r2, r3⟩ = ([], ep)) :
    Calls Tryd.prog 6 #[.agg #[.int .i64 k, .int .i64 v, .int .i64 i, .string s, .slice A1 n1 c1, .slice A2 n2 c2, .slice A3 n3 c3], .agg #[.int .i64 pk, .int .i64 pv, .int .i64 pi, .int .i64 pe, .int .i64 pt, .slice B1 m1 d1, .slice B2 m2 d2, .slice B3 m3 d3], .int .i64 cut, .int .u8 (more.toNat : Int)] w fun e w' => e = .returned (.bool true) ∧ Below w.heap.size w w' := by
  have HT := Lib.hid ht
  have H1 := Lib.hid h1
  have H2 := Lib.hid h2
  have H3 := Lib.hid h3
  have G1 := Lib.hid g1
  have G2 := Lib.hid g2
  have G3 := Lib.hid g3
  have hr1 : n1 ≤ 140737488351232 := hn1
  have hr2 : n2 ≤ 140737488351232 := hn2
  have hr3 : n3 ≤ 140737488351232 := hn3
  have gr1 : m1 ≤ 140737488351232 := gn1
  have gr2 : m2 ≤ 140737488351232 := gn2
  have gr3 : m3 ≤ 140737488351232 := gn3
  have hrs : s.size ≤ 140737488351232 := hs
  have K0 := Lib.hid (BK.init w #[.int .i64 k, .int .i64 v, .int .i64 i, .string s, .slice A1 n1 c1, .slice A2 n2 c2, .slice A3 n3 c3] #[.int .i64 pk, .int .i64 pv, .int .i64 pi, .int .i64 pe, .int .i64 pt, .slice B1 m1 d1, .slice B2 m2 d2, .slice B3 m3 d3])
  have HFQ := Lib.hid hfq
  have HFP := Lib.hid hfp
  have HPQ := Lib.hid hpq
  have HPP := Lib.hid hpp
  clear hfq hfp hpq hpp
  rcases hgq : gtQ [] with ⟨⟨k2, v2, i2, s2, a1, a2, a3⟩, eg⟩
  have HGQ := Lib.hid hgq
  clear hgq
  rcases hgp : gtP [] with ⟨⟨pk2, pv2, pi2, pe2, pt2, b1, b2, b3⟩, fg⟩
  have HGP := Lib.hid hgp
  clear hgp
  clear ht h1 h2 h3 g1 g2 g3
  go_enter Tryd.func6, Tryd.ntmps6
  go_wp2_with (first
    | (go_at_call 24; (with_reducible refine (GetResp_is Y 0 yc _ w8 w8 HY.out (Below.refl _ _) hyc (by omega) HGP.out).mono ?_); rintro e w9 ⟨S1, S2, S3, S4, S5, S6, S7, S8, S9, rfl, h3, hb9⟩; have H9 := Lib.hid h3; have HB9 := Lib.hid hb9; have K9 := Lib.hid (K8.out.step hb9); have hl9 : w.heap.size < w9.heap.size := heap_lt K9.out.q; have hl9' : w.heap.size + 1 < w9.heap.size := heap_lt K9.out.p; obtain ⟨q0, q1, q2, q3, q4, q5, q6, q7⟩ := (boxP_blk K9.out.p).1; clear hb9 h3)
    | (go_at_call 22; have K5a := Lib.hid (K5.out.step (bel_alloc (Below.refl _ _) (.cells #[.int .i64 k2, .int .i64 v2, .int .i64 i2, .string s2, .slice P1 P2 P3, .slice P4 P5 P6, .slice P7 P8 P9] 26))); have HB5a := Lib.hid (bel_alloc (Below.refl w5.heap.size w5) (.cells #[.int .i64 k2, .int .i64 v2, .int .i64 i2, .string s2, .slice P1 P2 P3, .slice P4 P5 P6, .slice P7 P8 P9] 26)); (with_reducible refine (PutResp_is pk pv pi pe pt B1 m1 d1 r1 B2 m2 d2 r2 B3 m3 d3 r3 w (w5.alloc (.cells #[.int .i64 k2, .int .i64 v2, .int .i64 i2, .string s2, .slice P1 P2 P3, .slice P4 P5 P6, .slice P7 P8 P9] 26)) G1.out gr1 G2.out gr2 G3.out gr3 (BK.bel K5a.out) HPP.out).mono ?_); rintro e w8 ⟨Y, yn, yc, rfl, hY, hyc, hb9⟩; have HY := Lib.hid hY; have K8 := Lib.hid (K5a.out.step hb9); obtain rfl : yn = 0 := hY.len.symm; clear hb9 hY)
    | (go_at_call 16; (with_reducible refine (GetReq_is X 0 xc _ w4 w4 HX.out (Below.refl _ _) hxc (by omega) (HT.out.bel (BK.bel K4.out)) HGQ.out).mono ?_); rintro e w5 ⟨P1, P2, P3, P4, P5, P6, P7, P8, P9, rfl, h3, _, hb9⟩; have H5 := Lib.hid h3; have HB5 := Lib.hid hb9; have K5 := Lib.hid (K4.out.step hb9); have hl5 : w.heap.size < w5.heap.size := heap_lt K5.out.q; have hl5' : w.heap.size + 1 < w5.heap.size := heap_lt K5.out.p; obtain ⟨u0, u1, u2, u3, u4, u5, u6⟩ := (boxQ_blk K5.out.q).1; obtain ⟨p0, p1, p2, p3, p4, p5, p6, p7⟩ := (boxP_blk K5.out.p).1; clear hb9 h3)
    | (go_at_call 14; (with_reducible refine (PutReq_is k v i s A1 n1 c1 l1 A2 n2 c2 l2 A3 n3 c3 l3 w w3 H1.out hr1 H2.out hr2 hrs H3.out hr3 (BK.bel K3.out) (HT.out.bel (BK.bel K3.out)) HPQ.out).mono ?_); rintro e w4 ⟨X, xn, xc, rfl, hX, hxc, hb9⟩; have HX := Lib.hid hX; have K4 := Lib.hid (K3.out.step hb9); obtain rfl : xn = 0 := hX.len.symm; clear hb9 hX)
    | (go_at_call 21; (with_reducible refine (reffewP_any pk pv pi pe pt B1 m1 d1 r1 B2 m2 d2 r2 B3 m3 d3 r3 w2 G1.out.len (lup G2.out (BK.bel K2.out)) gr2 G3.out.len).mono ?_); rw [HFP.out]; rintro e w3 ⟨rfl, hb3⟩; have K3 := Lib.hid (K2.out.step hb3); obtain ⟨x0, x1, x2, x3, x4, x5, x6⟩ := (boxQ_blk K3.out.q).1; clear hb3)
    | (go_at_call 13; (with_reducible refine (reffewQ_any k v i s A1 n1 c1 l1 A2 n2 c2 l2 A3 n3 c3 l3 w1 H1.out.len (lup H2.out (BK.bel K1.out)) hr2 H3.out.len hrs).mono ?_); rw [HFQ.out]; rintro e w2 ⟨rfl, hb2⟩; have K2 := Lib.hid (K1.out.step hb2); obtain ⟨o0, o1, o2, o3, o4, o5, o6, o7⟩ := (boxP_blk K2.out.p).1; clear hb2)
    | (go_at_call 12; (with_reducible refine (live_is w _ (BK.bel K0.out) HT.out).mono ?_); rintro e w1 ⟨rfl, hb1⟩; have K1 := Lib.hid (K0.out.step hb1); obtain ⟨u0, u1, u2, u3, u4, u5, u6⟩ := (boxQ_blk K1.out.q).1; clear hb1))
  go_ret
  exact ⟨rfl, bel_alloc K9.out.bel _⟩
theorem protoBack_walk (k v i : Int) (s : ByteArray) (A1 : Option Addr) (n1 c1 : Nat) (l1 : List Int) (A2 : Option Addr) (n2 c2 : Nat) (l2 : List ByteArray) (A3 : Option Addr) (n3 c3 : Nat) (l3 : List UInt8) (pk pv pi pe pt : Int) (B1 : Option Addr) (m1 d1 : Nat) (r1 : List Int) (B2 : Option Addr) (m2 d2 : Nat) (r2 : List ByteArray) (B3 : Option Addr) (m3 d3 : Nat) (r3 : List UInt8) (cut : Int) (more : UInt8) (w : World) (hs : s.size ≤ reach) (h1 : RdL w w.heap.size A1 n1 l1) (hn1 : n1 ≤ reach) (h2 : RdL w w.heap.size A2 n2 l2) (hn2 : n2 ≤ reach) (h3 : Rd w w.heap.size A3 n3 l3) (hc3 : n3 ≤ c3) (hn3 : n3 ≤ reach) (g1 : RdL w w.heap.size B1 m1 r1) (gn1 : m1 ≤ reach) (g2 : RdL w w.heap.size B2 m2 r2) (gn2 : m2 ≤ reach) (g3 : Rd w w.heap.size B3 m3 r3) (gc3 : m3 ≤ d3) (gn3 : m3 ≤ reach) (hcut : I64 cut) (ht : Tab w) :
    Calls Tryd.prog 6 #[.agg #[.int .i64 k, .int .i64 v, .int .i64 i, .string s, .slice A1 n1 c1, .slice A2 n2 c2, .slice A3 n3 c3], .agg #[.int .i64 pk, .int .i64 pv, .int .i64 pi, .int .i64 pe, .int .i64 pt, .slice B1 m1 d1, .slice B2 m2 d2, .slice B3 m3 d3], .int .i64 cut, .int .u8 (more.toNat : Int)] w fun e w' => e = .returned (.bool true) ∧ Below w.heap.size w w' := by
  rcases hfq : fewQ ⟨k, v, i, s, l1, l2, l3⟩ with _ | _
  · exact back_n k v i s A1 n1 c1 l1 A2 n2 c2 l2 A3 n3 c3 l3 pk pv pi pe pt B1 m1 d1 r1 B2 m2 d2 r2 B3 m3 d3 r3 cut more w hs h1 hn1 h2 hn2 h3 hc3 hn3 g1 gn1 g2 gn2 g3 gc3 gn3 hcut ht hfq
  rcases hfp : fewP ⟨pk, pv, pi, pe, pt, r1, r2, r3⟩ with _ | _
  · exact back_m k v i s A1 n1 c1 l1 A2 n2 c2 l2 A3 n3 c3 l3 pk pv pi pe pt B1 m1 d1 r1 B2 m2 d2 r2 B3 m3 d3 r3 cut more w hs h1 hn1 h2 hn2 h3 hc3 hn3 g1 gn1 g2 gn2 g3 gc3 gn3 hcut ht hfq hfp
  have qp : ∀ r : Rq, 1 ≤ (reqC.put r).length := fun r => by rw [reqC_put]; simp
  have pp : ∀ r : Rp, 1 ≤ (respC.put r).length := fun r => by rw [respC_put]; simp
  by_cases hq : ckQ ⟨k, v, i, s, l1, l2, l3⟩ = 0
  · have q1 : ptQ ⟨k, v, i, s, l1, l2, l3⟩ = (reqC.put ⟨k, v, i, s, l1, l2, l3⟩, 0) := by unfold ptQ; rw [if_pos hq]
    by_cases hp : ckP ⟨pk, pv, pi, pe, pt, r1, r2, r3⟩ = 0
    · have p1 : ptP ⟨pk, pv, pi, pe, pt, r1, r2, r3⟩ = (respC.put ⟨pk, pv, pi, pe, pt, r1, r2, r3⟩, 0) := by unfold ptP; rw [if_pos hp]
      exact back_tt k v i s A1 n1 c1 l1 A2 n2 c2 l2 A3 n3 c3 l3 pk pv pi pe pt B1 m1 d1 r1 B2 m2 d2 r2 B3 m3 d3 r3 cut more w hs h1 hn1 h2 hn2 h3 hc3 hn3 g1 gn1 g2 gn2 g3 gc3 gn3 hcut ht hfq hfp _ q1 (gtQ_put hq) (fun j hj => gtQ_short hq hj) (gtQ_more hq more) (qp _) (putQ_len hq) _ p1 (gtP_put hp) (fun j hj => gtP_short hp hj) (gtP_more hp more) (pp _) (putP_len hp)
    · have p1 : ptP ⟨pk, pv, pi, pe, pt, r1, r2, r3⟩ = ([], ckP ⟨pk, pv, pi, pe, pt, r1, r2, r3⟩) := by unfold ptP; rw [if_neg hp]
      exact back_ty k v i s A1 n1 c1 l1 A2 n2 c2 l2 A3 n3 c3 l3 pk pv pi pe pt B1 m1 d1 r1 B2 m2 d2 r2 B3 m3 d3 r3 cut more w hs h1 hn1 h2 hn2 h3 hc3 hn3 g1 gn1 g2 gn2 g3 gc3 gn3 hcut ht hfq hfp _ q1 (gtQ_put hq) (fun j hj => gtQ_short hq hj) (gtQ_more hq more) (qp _) (putQ_len hq) _ (beqF hp) p1
  · have q1 : ptQ ⟨k, v, i, s, l1, l2, l3⟩ = ([], ckQ ⟨k, v, i, s, l1, l2, l3⟩) := by unfold ptQ; rw [if_neg hq]
    by_cases hp : ckP ⟨pk, pv, pi, pe, pt, r1, r2, r3⟩ = 0
    · have p1 : ptP ⟨pk, pv, pi, pe, pt, r1, r2, r3⟩ = (respC.put ⟨pk, pv, pi, pe, pt, r1, r2, r3⟩, 0) := by unfold ptP; rw [if_pos hp]
      exact back_yt k v i s A1 n1 c1 l1 A2 n2 c2 l2 A3 n3 c3 l3 pk pv pi pe pt B1 m1 d1 r1 B2 m2 d2 r2 B3 m3 d3 r3 cut more w hs h1 hn1 h2 hn2 h3 hc3 hn3 g1 gn1 g2 gn2 g3 gc3 gn3 hcut ht hfq hfp _ (beqF hq) q1 _ p1 (gtP_put hp) (fun j hj => gtP_short hp hj) (gtP_more hp more) (pp _) (putP_len hp)
    · have p1 : ptP ⟨pk, pv, pi, pe, pt, r1, r2, r3⟩ = ([], ckP ⟨pk, pv, pi, pe, pt, r1, r2, r3⟩) := by unfold ptP; rw [if_neg hp]
      exact back_yy k v i s A1 n1 c1 l1 A2 n2 c2 l2 A3 n3 c3 l3 pk pv pi pe pt B1 m1 d1 r1 B2 m2 d2 r2 B3 m3 d3 r3 cut more w hs h1 hn1 h2 hn2 h3 hc3 hn3 g1 gn1 g2 gn2 g3 gc3 gn3 hcut ht hfq hfp _ (beqF hq) q1 _ (beqF hp) p1
end Go.Proofs.YthhdhdjdhekgpaaDoor.Pro

namespace Go.Proofs.YthhdhdjdhekgpaaDoor.protoBack
open Go.ChangeShapes Go.WideShapes Go.ChangeAt Go.RowKit

theorem own : ownKnob Tryd.prog.godebug = none := by kernel_rfl
theorem laidOut : laidOutB Tryd.prog = true := by kernel_rfl

set_option maxRecDepth 100000 in
theorem lifted (os : Os) (started : os.Started) (H : Type) (enc : TypeId × Value → H) :
    ReturnsInHanded {} Tryd.checked os 6 .any (fun w args => (Rows.protoBackSpec.pre enc Tryd.prog Tryd.f6 [] false w args ∧ laidMetH Tryd.prog Pro.listed w) ∧ sizedMet enc Tryd.prog Tryd.f6 (OpenSpec.ofChange Rows.protoBackSpec) false w args)
      (Rows.protoBackSpec.post enc Tryd.prog Tryd.f6 false true false false) := by
  refine returnsInHanded_of_change_and (C := Tryd.checked) (X := fun w _ => laidMetH Tryd.prog Pro.listed w) (fun _ _ _ hh h => h.of_heap hh) own started (by kernel_rfl) Tryd.func6
    (ChangeSpec.witness_shaped (enc := enc) (C := Tryd.checked) (os := os) (X := fun w _ => laidMetH Tryd.prog Pro.listed w) false (World.doorLaid Tryd.prog 400 os) #[.agg #[.int .i64 0, .int .i64 0, .int .i64 0, .string ByteArray.empty, .slice none 0 0, .slice none 0 0, .slice none 0 0], .agg #[.int .i64 0, .int .i64 0, .int .i64 0, .int .i64 0, .int .i64 0, .slice none 0 0, .slice none 0 0, .slice none 0 0], .int .i64 0, .int .u8 0] 8 rfl (World.shaped_of_RefB (by kernel_rfl) (by kernel_rfl)) (by kernel_rfl) (by kernel_rfl) (by kernel_rfl) (Pro.door_met os _)) ?_
  intro W base args ds gs before hval0 hW _ hwt hL _
  have hval : ∀ (j : Nat) t v, Tryd.f6.params[j]? = some t → args[j]? = some v → Value.okWide Tryd.prog W .any base t v := hval0
  have hW' := hW
  obtain ⟨p, q, hA0, hV, rfl, hfz, hnd⟩ := hW
  have hA : DataW.TrodAll enc Tryd.prog W 0 (fun _ => true) true Tryd.f6.params.toList args.toList ds p := hA0
  rw [Tryd.params6] at hA hval
  obtain ⟨v0, vs0, d0, ds0, p0, q0, hargs, rfl, rfl, h0, r0⟩ := trodAll_cons hA
  obtain ⟨v1, vs1, d1, ds1, p1, q1, rfl, rfl, rfl, h1, r1⟩ := trodAll_cons r0
  obtain ⟨v2, vs2, d2, ds2, p2, q2, rfl, rfl, rfl, h2, r2⟩ := trodAll_cons r1
  obtain ⟨v3, vs3, d3, ds3, p3, q3, rfl, rfl, rfl, h3, r3⟩ := trodAll_cons r2
  obtain ⟨rfl, rfl, rfl⟩ := trodAll_nil r3
  obtain rfl : args = #[v0, v1, v2, v3] := by cases args; simp_all
  obtain ⟨rfl, rfl⟩ := trodVars_none hV
  have k0 := h0
  have lt0 : ∀ x ∈ p0, x.block < W.heap.size := by obtain ⟨m, hm⟩ := k0; exact DataW.trod_lt m _ _ _ hm
  obtain ⟨k_0, ver_0, id_0, s_0, A_0, n_0, c_0, l_0, B_0, m_0, d_0, t_0, C_0, q_0, e_0, b_0, rfl, hs_0, h1_0, hn1_0, h2_0, hn2_0, h3_0, hc3_0, hn3_0⟩ := Pro.open_req (hval 0 26 v0 rfl rfl) h0 (Pro.weights_arg (j := 0) hwt (by kernel_rfl) rfl)
  have k1 := h1
  have lt1 : ∀ x ∈ p1, x.block < W.heap.size := by obtain ⟨m, hm⟩ := k1; exact DataW.trod_lt m _ _ _ hm
  obtain ⟨k_1, ver_1, id_1, er_1, wt_1, A_1, n_1, c_1, l_1, B_1, m_1, d_1, t_1, C_1, q_1, e_1, b_1, rfl, h1_1, hn1_1, h2_1, hn2_1, h3_1, hc3_1, hn3_1⟩ := Pro.open_resp (hval 1 38 v1 rfl rfl) h1 (Pro.weights_arg (j := 1) hwt (by kernel_rfl) rfl)
  have k2 := h2
  have lt2 : ∀ x ∈ p2, x.block < W.heap.size := by obtain ⟨m, hm⟩ := k2; exact DataW.trod_lt m _ _ _ hm
  obtain ⟨a2, rfl, hi2⟩ := Oct.open_i64 Tryd.underlying3 (hval 2 3 v2 rfl rfl) h2
  have k3 := h3
  have lt3 : ∀ x ∈ p3, x.block < W.heap.size := by obtain ⟨m, hm⟩ := k3; exact DataW.trod_lt m _ _ _ hm
  obtain ⟨a3, rfl⟩ := Oct.open_u8 Tryd.underlying5 (hval 3 5 v3 rfl rfl) h3
  clear hA0 hval0
  refine (Pro.protoBack_walk k_0 ver_0 id_0 s_0 A_0 n_0 c_0 l_0 B_0 m_0 d_0 t_0 C_0 q_0 e_0 b_0 k_1 ver_1 id_1 er_1 wt_1 A_1 n_1 c_1 l_1 B_1 m_1 d_1 t_1 C_1 q_1 e_1 b_1 a2 a3 W hs_0 h1_0 hn1_0 h2_0 hn2_0 h3_0 hc3_0 hn3_0 h1_1 hn1_1 h2_1 hn2_1 h3_1 hc3_1 hn3_1 hi2 (Pro.tab_of_laid hL)).mono fun e W' ⟨he, bel⟩ => ?_
  subst he
  exact ⟨_, rfl, _, _, _, [], _, [], hW', trodAll_mk1 (shut_bool Tryd.underlying4 _), (trodAll_cons_mk (Below.trod laidOut (by kernel_rfl) (of_decide_eq_true (by kernel_rfl)) k0 bel lt0) (trodAll_cons_mk (Below.trod laidOut (by kernel_rfl) (of_decide_eq_true (by kernel_rfl)) k1 bel lt1) (trodAll_cons_mk (Below.trod laidOut (by kernel_rfl) (of_decide_eq_true (by kernel_rfl)) k2 bel lt2) (trodAll_cons_mk (Below.trod laidOut (by kernel_rfl) (of_decide_eq_true (by kernel_rfl)) k3 bel lt3) trodAll_mk0)))), rfl, bel.frame _, fun h => by cases h⟩

theorem over : Rows.protoBackRow.holds Tryd.pinned (OpenSpec.ofChange Rows.protoBackSpec) :=
  OpenClaim.holds_of_wide 6 Tryd.f6 rfl rfl rfl rfl rfl rfl rfl ⟨rfl, rfl, rfl, rfl, rfl⟩ rfl rfl rfl rfl rfl (by kernel_rfl) Tryd.func6 (by kernel_rfl)
    (of_decide_eq_true (by kernel_rfl)) (by unfold Func.isWrapper; first | (rw [if_pos (by decide +kernel)]; kernel_rfl) | (rw [if_neg (by decide +kernel)]; exact ⟨rfl, rfl⟩))
    (fun os started H enc _ => lifted os started H enc)

theorem proved : Rows.ProtoBackCardSaid :=
  Claim7.holds_tied_plain_at .later [] [.data] true (true, "914bd8f4ba55f588f3411a616729fba77a27d8a54981671c67a2ae6954f02f7f") false
    over (fun _ h => by cases h) (by kernel_rfl) (fun _ h => by cases h) protoBack_row_tie rfl ⟨rfl, rfl⟩ (by kernel_rfl) rfl
    (fun f fn hf hfn => by
      obtain rfl : f = 6 := Option.some.inj ((show Tryd.prog.funcNamed "watermeet/watermeetlaw06.ProtoBack" = some 6 by kernel_rfl).symm.trans hf) |>.symm
      obtain rfl : fn = Tryd.f6 := (Option.some.inj (Tryd.func6.symm.trans hfn)).symm
      exact ⟨by kernel_rfl, fun j t ht => by
        rw [Tryd.params6] at ht
        have hm : t ∈ [26, 38, 3, 5] := by simpa using Array.mem_of_getElem? ht
        have hall : ([26, 38, 3, 5].all fun u => !Tryd.prog.wantsStandIn u) = true := by kernel_rfl
        exact (show Tryd.prog.wantsStandIn t = false by simpa using List.all_eq_true.1 hall t hm)⟩)
    (by kernel_rfl)
#print axioms proved
end Go.Proofs.YthhdhdjdhekgpaaDoor.protoBack
