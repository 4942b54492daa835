/- For any bytes (at most 5,000): too few of them, a kind or a version that there is not, are told first, of a request as of an answer, and of others neither of these errors is told (the law answers true, and changes nothing that was there). Conditions: none.
-/
import Derived.Test.YthhdhdjdhekgpaaDoorProIs
import Derived.Test.YthhdhdjdhekgpaaDoorRows
import Derived.WalkKit
import Derived.ProofKit
import Derived.OpenShut
import Derived.ChangeOld
import Derived.Below
import Derived.Carry
import Derived.Test.YthhdhdjdhekgpaaDoorJOct
import Derived.Test.YthhdhdjdhekgpaaDoorProTied
import Derived.Test.YthhdhdjdhekgpaaDoorTie
import Derived.Test.YthhdhdjdhekgpaaDoorCards
import Derived.SevenTiedAt
/- The walk of ProtoTotal. -/
namespace Go.Proofs.YthhdhdjdhekgpaaDoor.Pro
open Go.RowKit Go.Proofs.YthhdhdjdhekgpaaDoor.Oct Go.Proofs.YthhdhdjdhekgpaaDoor.Rec Go.Proofs.YthhdhdjdhekgpaaDoor.Cod Go.Proofs.YthhdhdjdhekgpaaDoor.Lay Go.Proofs.YthhdhdjdhekgpaaDoor.RowF

set_option maxRecDepth 100000 in
set_option maxHeartbeats 4000000 in
theorem total_n (A : Option Addr) (n c : Nat) (l : List UInt8) (w : World) (_hr : Rd w w.heap.size A n l) (_hc : n ≤ c) (ht : Tab w) (hn : 5000 < n) :
    Calls Tryd.prog 11 #[.slice A n c] w fun e w' => e = .returned (.bool true) ∧ Below w.heap.size w w' := by
  have HT := Lib.hid ht
  clear ht
  go_enter Tryd.func11, Tryd.ntmps11
  go_wp2_with (go_at_call 12; refine (live_any _ HT.out).mono ?_; rintro e w1 ⟨rfl, hb1⟩)
  go_ret
  exact ⟨rfl, hb1⟩
set_option maxRecDepth 100000 in
set_option maxHeartbeats 4000000 in
theorem total_s (A : Option Addr) (n c : Nat) (l : List UInt8) (w : World) (hr : Rd w w.heap.size A n l) (hc : n ≤ c) (ht : Tab w) (hn : n < 2) {k v i : Int} {s : ByteArray} {l1 : List Int} {l2 : List ByteArray} {l3 : List UInt8} (h : gtQ l = (⟨k, v, i, s, l1, l2, l3⟩, 10)) {k2 v2 i2 E2 t2 : Int} {m1 : List Int} {m2 : List ByteArray} {m3 : List UInt8} (h2 : gtP l = (⟨k2, v2, i2, E2, t2, m1, m2, m3⟩, 10)) :
    Calls Tryd.prog 11 #[.slice A n c] w fun e w' => e = .returned (.bool true) ∧ Below w.heap.size w w' := by
  have HT := Lib.hid ht
  have HR := Lib.hid hr
  have H := Lib.hid h
  have H2 := Lib.hid h2
  clear ht hr h h2
  go_enter Tryd.func11, Tryd.ntmps11
  go_wp2_with (first
    | (go_at_call 24; have HB3 := Lib.hid (bel_alloc HB2.out (.cells #[.int .i64 k, .int .i64 v, .int .i64 i, .string s, .slice A1 n1 c1, .slice A2 n2 c2, .slice A3 n3 c3] 26)); (with_reducible refine (GetResp_is A n c l w _ HR.out HB3.out hc (by omega) H2.out).mono ?_); rintro e w3 ⟨D1, x1, y1, D2, x2, y2, D3, x3, y3, rfl, _, hb3⟩; have HB4 := Lib.hid (bel_alloc (HB3.out.trans (hb3.mono HB3.out.size)) (.cells #[.int .i64 k2, .int .i64 v2, .int .i64 i2, .int .i64 E2, .int .i64 t2, .slice D1 x1 y1, .slice D2 x2 y2, .slice D3 x3 y3] 38)); clear hb3)
    | (go_at_call 16; (with_reducible refine (GetReq_is A n c l w w1 HR.out HB1.out hc (by omega) HT.out H.out).mono ?_); rintro e w2 ⟨A1, n1, c1, A2, n2, c2, A3, n3, c3, rfl, _, _, hb2⟩; have HB2 := Lib.hid (HB1.out.trans (hb2.mono HB1.out.size)); clear hb2)
    | (go_at_call 12; refine (live_any _ HT.out).mono ?_; rintro e w1 ⟨rfl, hb1⟩; have HB1 := Lib.hid hb1; clear hb1))
  go_ret
  exact ⟨rfl, HB4.out⟩
set_option maxRecDepth 100000 in
set_option maxHeartbeats 4000000 in
theorem total_a (b o n c : Nat) (l : List UInt8) (X0 X1 : Int) (w : World) (hr : Rd w w.heap.size (some ⟨b, o, none⟩) n l) (hc : n ≤ c) (ht : Tab w) (hn1 : 2 ≤ n) (hn2 : n ≤ 5000) (hbl : b < w.heap.size) (hx0 : w.cell? ⟨b, o, none⟩ = some (.int .u8 X0)) (hx1 : w.cell? ⟨b, o + 1, none⟩ = some (.int .u8 X1)) (c1 : X0 < 1) {k v i : Int} {s : ByteArray} {l1 : List Int} {l2 : List ByteArray} {l3 : List UInt8} (h : gtQ l = (⟨k, v, i, s, l1, l2, l3⟩, 60)) {k2 v2 i2 E2 t2 : Int} {m1 : List Int} {m2 : List ByteArray} {m3 : List UInt8} (h2 : gtP l = (⟨k2, v2, i2, E2, t2, m1, m2, m3⟩, 60))  :
    Calls Tryd.prog 11 #[.slice (some ⟨b, o, none⟩) n c] w fun e w' => e = .returned (.bool true) ∧ Below w.heap.size w w' := by
  have HT := Lib.hid ht
  have HR := Lib.hid hr
  have H := Lib.hid h
  have H2 := Lib.hid h2
  have HX := Lib.hid (And.intro hx0 hx1)
  clear ht hr h h2 hx0 hx1
  have hn3 : ¬ n < 2 := by omega
  have hn4 : ¬ 5000 < n := by omega
  go_enter Tryd.func11, Tryd.ntmps11
  go_wp2_with (first
    | (go_at_call 24; have HB3 := Lib.hid (bel_alloc HB2.out (.cells #[.int .i64 k, .int .i64 v, .int .i64 i, .string s, .slice A1 n1 c1, .slice A2 n2 c2, .slice A3 n3 c3] 26)); (with_reducible refine (GetResp_is _ n c l w _ HR.out HB3.out hc (by omega) H2.out).mono ?_); rintro e w3 ⟨D1, x1, y1, D2, x2, y2, D3, x3, y3, rfl, _, hb3⟩; have HB4 := Lib.hid (bel_alloc (HB3.out.trans (hb3.mono HB3.out.size)) (.cells #[.int .i64 k2, .int .i64 v2, .int .i64 i2, .int .i64 E2, .int .i64 t2, .slice D1 x1 y1, .slice D2 x2 y2, .slice D3 x3 y3] 38)); have r0 := (HB4.out.cell (p := ⟨b, o, none⟩) hbl).trans HX.out.1; have r1 := (HB4.out.cell (p := ⟨b, o + 1, none⟩) hbl).trans HX.out.2; clear hb3)
    | (go_at_call 16; (with_reducible refine (GetReq_is _ n c l w w1 HR.out HB1.out hc (by omega) HT.out H.out).mono ?_); rintro e w2 ⟨A1, n1, c1, A2, n2, c2, A3, n3, c3, rfl, _, _, hb2⟩; have HB2 := Lib.hid (HB1.out.trans (hb2.mono HB1.out.size)); clear hb2)
    | (go_at_call 12; refine (live_any _ HT.out).mono ?_; rintro e w1 ⟨rfl, hb1⟩; have HB1 := Lib.hid hb1; clear hb1))
  go_ret
  exact ⟨rfl, HB4.out⟩
set_option maxRecDepth 100000 in
set_option maxHeartbeats 4000000 in
theorem total_b (b o n c : Nat) (l : List UInt8) (X0 X1 : Int) (w : World) (hr : Rd w w.heap.size (some ⟨b, o, none⟩) n l) (hc : n ≤ c) (ht : Tab w) (hn1 : 2 ≤ n) (hn2 : n ≤ 5000) (hbl : b < w.heap.size) (hx0 : w.cell? ⟨b, o, none⟩ = some (.int .u8 X0)) (hx1 : w.cell? ⟨b, o + 1, none⟩ = some (.int .u8 X1)) (c1 : ¬ X0 < 1) (c2 : X0 > 12) {k v i : Int} {s : ByteArray} {l1 : List Int} {l2 : List ByteArray} {l3 : List UInt8} (h : gtQ l = (⟨k, v, i, s, l1, l2, l3⟩, 60)) {k2 v2 i2 E2 t2 : Int} {m1 : List Int} {m2 : List ByteArray} {m3 : List UInt8} (h2 : gtP l = (⟨k2, v2, i2, E2, t2, m1, m2, m3⟩, 60))  :
    Calls Tryd.prog 11 #[.slice (some ⟨b, o, none⟩) n c] w fun e w' => e = .returned (.bool true) ∧ Below w.heap.size w w' := by
  have HT := Lib.hid ht
  have HR := Lib.hid hr
  have H := Lib.hid h
  have H2 := Lib.hid h2
  have HX := Lib.hid (And.intro hx0 hx1)
  clear ht hr h h2 hx0 hx1
  have hn3 : ¬ n < 2 := by omega
  have hn4 : ¬ 5000 < n := by omega
  go_enter Tryd.func11, Tryd.ntmps11
  go_wp2_with (first
    | (go_at_call 24; have HB3 := Lib.hid (bel_alloc HB2.out (.cells #[.int .i64 k, .int .i64 v, .int .i64 i, .string s, .slice A1 n1 c1, .slice A2 n2 c2, .slice A3 n3 c3] 26)); (with_reducible refine (GetResp_is _ n c l w _ HR.out HB3.out hc (by omega) H2.out).mono ?_); rintro e w3 ⟨D1, x1, y1, D2, x2, y2, D3, x3, y3, rfl, _, hb3⟩; have HB4 := Lib.hid (bel_alloc (HB3.out.trans (hb3.mono HB3.out.size)) (.cells #[.int .i64 k2, .int .i64 v2, .int .i64 i2, .int .i64 E2, .int .i64 t2, .slice D1 x1 y1, .slice D2 x2 y2, .slice D3 x3 y3] 38)); have r0 := (HB4.out.cell (p := ⟨b, o, none⟩) hbl).trans HX.out.1; have r1 := (HB4.out.cell (p := ⟨b, o + 1, none⟩) hbl).trans HX.out.2; clear hb3)
    | (go_at_call 16; (with_reducible refine (GetReq_is _ n c l w w1 HR.out HB1.out hc (by omega) HT.out H.out).mono ?_); rintro e w2 ⟨A1, n1, c1, A2, n2, c2, A3, n3, c3, rfl, _, _, hb2⟩; have HB2 := Lib.hid (HB1.out.trans (hb2.mono HB1.out.size)); clear hb2)
    | (go_at_call 12; refine (live_any _ HT.out).mono ?_; rintro e w1 ⟨rfl, hb1⟩; have HB1 := Lib.hid hb1; clear hb1))
  go_ret
  exact ⟨rfl, HB4.out⟩
set_option maxRecDepth 100000 in
set_option maxHeartbeats 4000000 in
theorem total_c (b o n c : Nat) (l : List UInt8) (X0 X1 : Int) (w : World) (hr : Rd w w.heap.size (some ⟨b, o, none⟩) n l) (hc : n ≤ c) (ht : Tab w) (hn1 : 2 ≤ n) (hn2 : n ≤ 5000) (hbl : b < w.heap.size) (hx0 : w.cell? ⟨b, o, none⟩ = some (.int .u8 X0)) (hx1 : w.cell? ⟨b, o + 1, none⟩ = some (.int .u8 X1)) (c1 : ¬ X0 < 1) (c2 : ¬ X0 > 12) (c3 : X1 > 2) {k v i : Int} {s : ByteArray} {l1 : List Int} {l2 : List ByteArray} {l3 : List UInt8} (h : gtQ l = (⟨k, v, i, s, l1, l2, l3⟩, 61)) {k2 v2 i2 E2 t2 : Int} {m1 : List Int} {m2 : List ByteArray} {m3 : List UInt8} (h2 : gtP l = (⟨k2, v2, i2, E2, t2, m1, m2, m3⟩, 61))  :
    Calls Tryd.prog 11 #[.slice (some ⟨b, o, none⟩) n c] w fun e w' => e = .returned (.bool true) ∧ Below w.heap.size w w' := by
  have HT := Lib.hid ht
  have HR := Lib.hid hr
  have H := Lib.hid h
  have H2 := Lib.hid h2
  have HX := Lib.hid (And.intro hx0 hx1)
  clear ht hr h h2 hx0 hx1
  have hn3 : ¬ n < 2 := by omega
  have hn4 : ¬ 5000 < n := by omega
  go_enter Tryd.func11, Tryd.ntmps11
  go_wp2_with (first
    | (go_at_call 24; have HB3 := Lib.hid (bel_alloc HB2.out (.cells #[.int .i64 k, .int .i64 v, .int .i64 i, .string s, .slice A1 n1 c1, .slice A2 n2 c2, .slice A3 n3 c3] 26)); (with_reducible refine (GetResp_is _ n c l w _ HR.out HB3.out hc (by omega) H2.out).mono ?_); rintro e w3 ⟨D1, x1, y1, D2, x2, y2, D3, x3, y3, rfl, _, hb3⟩; have HB4 := Lib.hid (bel_alloc (HB3.out.trans (hb3.mono HB3.out.size)) (.cells #[.int .i64 k2, .int .i64 v2, .int .i64 i2, .int .i64 E2, .int .i64 t2, .slice D1 x1 y1, .slice D2 x2 y2, .slice D3 x3 y3] 38)); have r0 := (HB4.out.cell (p := ⟨b, o, none⟩) hbl).trans HX.out.1; have r1 := (HB4.out.cell (p := ⟨b, o + 1, none⟩) hbl).trans HX.out.2; clear hb3)
    | (go_at_call 16; (with_reducible refine (GetReq_is _ n c l w w1 HR.out HB1.out hc (by omega) HT.out H.out).mono ?_); rintro e w2 ⟨A1, n1, c1, A2, n2, c2, A3, n3, c3, rfl, _, _, hb2⟩; have HB2 := Lib.hid (HB1.out.trans (hb2.mono HB1.out.size)); clear hb2)
    | (go_at_call 12; refine (live_any _ HT.out).mono ?_; rintro e w1 ⟨rfl, hb1⟩; have HB1 := Lib.hid hb1; clear hb1))
  go_ret
  exact ⟨rfl, HB4.out⟩
set_option maxRecDepth 100000 in
set_option maxHeartbeats 4000000 in
theorem total_e (b o n c : Nat) (l : List UInt8) (X0 X1 : Int) (w : World) (hr : Rd w w.heap.size (some ⟨b, o, none⟩) n l) (hc : n ≤ c) (ht : Tab w) (hn1 : 2 ≤ n) (hn2 : n ≤ 5000) (hbl : b < w.heap.size) (hx0 : w.cell? ⟨b, o, none⟩ = some (.int .u8 X0)) (hx1 : w.cell? ⟨b, o + 1, none⟩ = some (.int .u8 X1)) (c1 : ¬ X0 < 1) (c2 : ¬ X0 > 12) (c3 : ¬ X1 > 2) {ee ff : Int} (q1 : (ee != 60) = true) (q2 : (ee != 61) = true) (q3 : (ff != 60) = true) (q4 : (ff != 61) = true) {k v i : Int} {s : ByteArray} {l1 : List Int} {l2 : List ByteArray} {l3 : List UInt8} (h : gtQ l = (⟨k, v, i, s, l1, l2, l3⟩, ee)) {k2 v2 i2 E2 t2 : Int} {m1 : List Int} {m2 : List ByteArray} {m3 : List UInt8} (h2 : gtP l = (⟨k2, v2, i2, E2, t2, m1, m2, m3⟩, ff))  :
    Calls Tryd.prog 11 #[.slice (some ⟨b, o, none⟩) n c] w fun e w' => e = .returned (.bool true) ∧ Below w.heap.size w w' := by
  have HT := Lib.hid ht
  have HR := Lib.hid hr
  have H := Lib.hid h
  have H2 := Lib.hid h2
  have HX := Lib.hid (And.intro hx0 hx1)
  clear ht hr h h2 hx0 hx1
  have hn3 : ¬ n < 2 := by omega
  have hn4 : ¬ 5000 < n := by omega
  go_enter Tryd.func11, Tryd.ntmps11
  go_wp2_with (first
    | (go_at_call 24; have HB3 := Lib.hid (bel_alloc HB2.out (.cells #[.int .i64 k, .int .i64 v, .int .i64 i, .string s, .slice A1 n1 c1, .slice A2 n2 c2, .slice A3 n3 c3] 26)); (with_reducible refine (GetResp_is _ n c l w _ HR.out HB3.out hc (by omega) H2.out).mono ?_); rintro e w3 ⟨D1, x1, y1, D2, x2, y2, D3, x3, y3, rfl, _, hb3⟩; have HB4 := Lib.hid (bel_alloc (HB3.out.trans (hb3.mono HB3.out.size)) (.cells #[.int .i64 k2, .int .i64 v2, .int .i64 i2, .int .i64 E2, .int .i64 t2, .slice D1 x1 y1, .slice D2 x2 y2, .slice D3 x3 y3] 38)); have r0 := (HB4.out.cell (p := ⟨b, o, none⟩) hbl).trans HX.out.1; have r1 := (HB4.out.cell (p := ⟨b, o + 1, none⟩) hbl).trans HX.out.2; clear hb3)
    | (go_at_call 16; (with_reducible refine (GetReq_is _ n c l w w1 HR.out HB1.out hc (by omega) HT.out H.out).mono ?_); rintro e w2 ⟨A1, n1, c1, A2, n2, c2, A3, n3, c3, rfl, _, _, hb2⟩; have HB2 := Lib.hid (HB1.out.trans (hb2.mono HB1.out.size)); clear hb2)
    | (go_at_call 12; refine (live_any _ HT.out).mono ?_; rintro e w1 ⟨rfl, hb1⟩; have HB1 := Lib.hid hb1; clear hb1))
  go_ret
  exact ⟨rfl, HB4.out⟩
theorem protoTotal_walk (A : Option Addr) (n c : Nat) (l : List UInt8) (w : World) (hr : Rd w w.heap.size A n l) (hc : n ≤ c) (ht : Tab w) :
    Calls Tryd.prog 11 #[.slice A n c] w fun e w' => e = .returned (.bool true) ∧ Below w.heap.size w w' := by
  rcases hq : gtQ l with ⟨⟨k, v, i, s, l1, l2, l3⟩, ee⟩
  rcases hp : gtP l with ⟨⟨k2, v2, i2, E2, t2, m1, m2, m3⟩, ff⟩
  have tq := gtQ_tells l
  have tp := gtP_tells l
  rw [hq] at tq
  rw [hp] at tp
  obtain ⟨a1, a2, a3⟩ := tq
  obtain ⟨b1, b2, b3⟩ := tp
  have hlen := hr.len
  by_cases hn : 5000 < n
  · exact total_n A n c l w hr hc ht hn
  · by_cases hn2 : n < 2
    · obtain rfl : ee = 10 := a1 (by omega)
      obtain rfl : ff = 10 := b1 (by omega)
      exact total_s A n c l w hr hc ht hn2 hq hp
    · obtain ⟨b, o, x0, rfl, hbl, hx0, h0⟩ := hr.at (k := 0) (by omega)
      obtain ⟨b', o', x1, hA, _, hx1, h1⟩ := hr.at (k := 1) (by omega)
      cases hA
      rw [Nat.add_zero] at h0
      have hkv : kv l 0 = ((x0.toNat : Int), (x1.toNat : Int)) := by
        unfold kv
        rw [show (0 : Int).toNat = 0 from rfl, hx0, hx1]
        rfl
      rw [hkv] at a2 a3 b2 b3
      simp only at a2 a3 b2 b3
      have hl2 : 2 ≤ (l.length : Int) := by omega
      have A2 := a2 hl2
      have A3 := a3 hl2
      have B2 := b2 hl2
      have B3 := b3 hl2
      clear a1 a2 a3 b1 b2 b3 hkv
      generalize hX0 : (x0.toNat : Int) = X0 at h0 A2 A3 B2 B3
      generalize hX1 : (x1.toNat : Int) = X1 at h1 A2 A3 B2 B3
      have g1 : 0 ≤ X1 := by omega
      by_cases c1 : X0 < 1
      · have hk : known X0 X1 = 60 := if_pos (Or.inl c1)
        rw [hk] at A2 B2
        obtain rfl := A2 (by decide)
        obtain rfl := B2 (by decide)
        exact total_a b o n c l X0 X1 w hr hc ht (by omega) (by omega) hbl h0 h1 c1 hq hp
      · by_cases c2 : X0 > 12
        · have hk : known X0 X1 = 60 := if_pos (Or.inr c2)
          rw [hk] at A2 B2
          obtain rfl := A2 (by decide)
          obtain rfl := B2 (by decide)
          exact total_b b o n c l X0 X1 w hr hc ht (by omega) (by omega) hbl h0 h1 c1 c2 hq hp
        · by_cases c3 : X1 > 2
          · have hk : known X0 X1 = 61 := (if_neg (by omega)).trans (if_pos (Or.inr c3))
            rw [hk] at A2 B2
            obtain rfl := A2 (by decide)
            obtain rfl := B2 (by decide)
            exact total_c b o n c l X0 X1 w hr hc ht (by omega) (by omega) hbl h0 h1 c1 c2 c3 hq hp
          · have hk : known X0 X1 = 0 := known_iff.2 ⟨⟨by omega, by omega⟩, g1, by omega⟩
            obtain ⟨u1, u2⟩ := A3 hk
            obtain ⟨u3, u4⟩ := B3 hk
            exact total_e b o n c l X0 X1 w hr hc ht (by omega) (by omega) hbl h0 h1 c1 c2 c3 (by simp [bne_iff_ne, u1]) (by simp [bne_iff_ne, u2]) (by simp [bne_iff_ne, u3]) (by simp [bne_iff_ne, u4]) hq hp
end Go.Proofs.YthhdhdjdhekgpaaDoor.Pro

namespace Go.Proofs.YthhdhdjdhekgpaaDoor.protoTotal
open Go.ChangeShapes Go.WideShapes Go.ChangeAt Go.RowKit

theorem own : ownKnob Tryd.prog.godebug = none := by kernel_rfl
theorem laidOut : laidOutB Tryd.prog = true := by kernel_rfl

set_option maxRecDepth 100000 in
theorem lifted (os : Os) (started : os.Started) (H : Type) (enc : TypeId × Value → H) :
    ReturnsInHanded {} Tryd.checked os 11 .any (fun w args => (Rows.protoTotalSpec.pre enc Tryd.prog Tryd.f11 [] false w args ∧ laidMetH Tryd.prog Pro.listed w) ∧ sizedMet enc Tryd.prog Tryd.f11 (OpenSpec.ofChange Rows.protoTotalSpec) false w args)
      (Rows.protoTotalSpec.post enc Tryd.prog Tryd.f11 false true false false) := by
  refine returnsInHanded_of_change_and (C := Tryd.checked) (X := fun w _ => laidMetH Tryd.prog Pro.listed w) (fun _ _ _ hh h => h.of_heap hh) own started (by kernel_rfl) Tryd.func11
    (ChangeSpec.witness_shaped (enc := enc) (C := Tryd.checked) (os := os) (X := fun w _ => laidMetH Tryd.prog Pro.listed w) false (World.doorLaid Tryd.prog 400 os) #[.slice none 0 0] 8 rfl (World.shaped_of_RefB (by kernel_rfl) (by kernel_rfl)) (by kernel_rfl) (by kernel_rfl) (by kernel_rfl) (Pro.door_met os _)) ?_
  intro W base args ds gs before hval0 hW _ hwt hL _
  have hval : ∀ (j : Nat) t v, Tryd.f11.params[j]? = some t → args[j]? = some v → Value.okWide Tryd.prog W .any base t v := hval0
  have hW' := hW
  obtain ⟨p, q, hA0, hV, rfl, hfz, hnd⟩ := hW
  have hA : DataW.TrodAll enc Tryd.prog W 0 (fun _ => true) true Tryd.f11.params.toList args.toList ds p := hA0
  rw [Tryd.params11] at hA hval
  obtain ⟨v0, vs0, d0, ds0, p0, q0, hargs, rfl, rfl, h0, r0⟩ := trodAll_cons hA
  obtain ⟨rfl, rfl, rfl⟩ := trodAll_nil r0
  obtain rfl : args = #[v0] := by cases args; simp_all
  obtain ⟨rfl, rfl⟩ := trodVars_none hV
  have k0 := h0
  have lt0 : ∀ x ∈ p0, x.block < W.heap.size := by obtain ⟨m, hm⟩ := k0; exact DataW.trod_lt m _ _ _ hm
  obtain ⟨a0, len0, cap0, l0, rfl, rd0, cp0⟩ := Oct.open_bytes Tryd.underlying24 Tryd.underlying5 (by kernel_rfl) (hval 0 24 v0 rfl rfl) h0
  clear hA0 hval0
  refine (Pro.protoTotal_walk a0 len0 cap0 l0 W rd0 cp0 (Pro.tab_of_laid hL)).mono fun e W' ⟨he, bel⟩ => ?_
  subst he
  exact ⟨_, rfl, _, _, _, [], _, [], hW', trodAll_mk1 (shut_bool Tryd.underlying4 _), (trodAll_cons_mk (Below.trod laidOut (by kernel_rfl) (of_decide_eq_true (by kernel_rfl)) k0 bel lt0) trodAll_mk0), rfl, bel.frame _, fun h => by cases h⟩

theorem over : Rows.protoTotalRow.holds Tryd.pinned (OpenSpec.ofChange Rows.protoTotalSpec) :=
  OpenClaim.holds_of_wide 11 Tryd.f11 rfl rfl rfl rfl rfl rfl rfl ⟨rfl, rfl, rfl, rfl, rfl⟩ rfl rfl rfl rfl rfl (by kernel_rfl) Tryd.func11 (by kernel_rfl)
    (of_decide_eq_true (by kernel_rfl)) (by unfold Func.isWrapper; first | (rw [if_pos (by decide +kernel)]; kernel_rfl) | (rw [if_neg (by decide +kernel)]; exact ⟨rfl, rfl⟩))
    (fun os started H enc _ => lifted os started H enc)

theorem proved : Rows.ProtoTotalCardSaid :=
  Claim7.holds_tied_plain_at .later [] [.data] true (true, "914bd8f4ba55f588f3411a616729fba77a27d8a54981671c67a2ae6954f02f7f") false
    over (fun _ h => by cases h) (by kernel_rfl) (fun _ h => by cases h) protoTotal_row_tie rfl ⟨rfl, rfl⟩ (by kernel_rfl) rfl
    (fun f fn hf hfn => by
      obtain rfl : f = 11 := Option.some.inj ((show Tryd.prog.funcNamed "watermeet/watermeetlaw06.ProtoTotal" = some 11 by kernel_rfl).symm.trans hf) |>.symm
      obtain rfl : fn = Tryd.f11 := (Option.some.inj (Tryd.func11.symm.trans hfn)).symm
      exact ⟨by kernel_rfl, fun j t ht => by
        rw [Tryd.params11] at ht
        have hm : t ∈ [24] := by simpa using Array.mem_of_getElem? ht
        have hall : ([24].all fun u => !Tryd.prog.wantsStandIn u) = true := by kernel_rfl
        exact (show Tryd.prog.wantsStandIn t = false by simpa using List.all_eq_true.1 hall t hm)⟩)
    (by kernel_rfl)
#print axioms proved
end Go.Proofs.YthhdhdjdhekgpaaDoor.protoTotal
