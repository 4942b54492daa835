/- The walk of RecMoved. -/
import Derived.Test.YtfjdalekpmlnaaaRecLaws3
namespace Go.Proofs.Ytfjdalekpmlnaaa.Rec
open Go.RowKit Go.Proofs.Ytfjdalekpmlnaaa.Oct Go.Proofs.Ytfjdalekpmlnaaa.Crc

theorem big_chk {o s : Int} {k v : ByteArray} {d : Bool} (h : 1099511627776 < o ∨ 1099511627776 < s) : chk ⟨o, k, v, d, s⟩ = 1 := chk_one fun hh => by
  have h1 := (may_iff.1 hh).1
  have h2 := (may_iff.1 hh).2.1
  simp only at h1 h2
  omega
set_option maxRecDepth 100000 in
set_option maxHeartbeats 2000000 in
theorem moved_big (o : Int) (k v : ByteArray) (d : Bool) (s b t : Int) (y z : Int) (w : World) (ho : I64 o) (hs : I64 s) (hk : k.size ≤ maxLen) (hv : v.size ≤ maxLen) (hb : I64 b) (ht : I64 t) (hy : 0 ≤ y) (hy1 : y ≤ 1099511627776) (hz : 0 ≤ z) (hz1 : z ≤ 1099511627776) (hk3 : k.size ≤ 300) (hv3 : v.size ≤ 300) (m1 : 0 ≤ o ∧ o ≤ 1099511627776) (m2 : 0 ≤ s ∧ s ≤ 1099511627776) (b1 : 0 ≤ b ∧ b ≤ 1099511627776) (b2 : 0 ≤ t ∧ t ≤ 1099511627776) (HP : Hid (pt ⟨o, k, v, d, s⟩ b t = (rb ⟨o, k, v, d, s⟩ b t, 0))) (hbig : 1099511627776 < o + y ∨ 1099511627776 < s + z) :
    Calls Try.prog 8 #[.agg #[.int .i64 o, .string k, .string v, .bool d, .int .i64 s], .int .i64 b, .int .i64 t, .int .i64 y, .int .i64 z] w fun e w' => e = .returned (.bool true) ∧ Below w.heap.size w w' := by
  have HB0 := Lib.hid (box_new w 23 ⟨o, k, v, d, s⟩)
  have hsz : w.heap.size < (w.alloc (.cells #[.int .i64 o, .string k, .string v, .bool d, .int .i64 s] 23)).heap.size := by simp
  have hw0 := bel_alloc (Below.refl w.heap.size w) (.cells #[.int .i64 o, .string k, .string v, .bool d, .int .i64 s] 23)
  have HOY := Lib.hid (show I64 (o + y) by unfold I64; omega)
  have HSZ := Lib.hid (show I64 (s + z) by unfold I64; omega)
  have HC := Lib.hid (big_chk (k := k) (v := v) (d := d) hbig)
  clear hbig
  go_enter Try.func8, Try.ntmps8
  go_wp2_with (first
    | (go_at_call 12; refine (live_any _).mono ?_; rintro e w1 ⟨rfl, hb1⟩; have HB1 := Lib.hid (HB0.out.below hb1 hsz); obtain ⟨p0, p1, p2, p3, p4⟩ := HB1.out; have hs1 := Nat.lt_of_lt_of_le hsz hb1.size)
    | (go_at_call 13; refine (refFew_yes o s k v d w1 hk3 hv3).mono ?_; rintro e w2 ⟨rfl, hb2⟩; have HB2 := Lib.hid (HB1.out.below hb2 hs1); obtain ⟨q0, q1, q2, q3, q4⟩ := HB2.out; have hs2 := Nat.lt_of_lt_of_le hs1 hb2.size)
    | (go_at_call 14; (with_reducible refine (Put_is o s k v d b t w2 ho hs (by omega) (by omega) hb ht HP.out).mono ?_); rintro e w3 ⟨A3, n3, c3, rfl, hown3, hb3⟩; have hs3 := Nat.lt_of_lt_of_le hs2 hb3.size; have HB3 := Lib.hid (HB2.out.below hb3 hs2); obtain ⟨t0, t1, t2, t3, t4⟩ := HB3.out; have hz0 := fun X : Obj => (HB3.out.alloc hs3 X).1; have hz4 := fun X : Obj => (HB3.out.alloc hs3 X).2.2.2.2; have hb03 := bel_trans (bel_trans (bel_trans hw0 hb1) hb2) hb3)
    | (go_at_call 16; refine (Check_is (o + y) (s + z) k v d _ HOY.out HSZ.out (by omega) (by omega) HC.out).mono ?_; rintro e w4 ⟨rfl, hb4⟩; have hb34 := bel_trans (bel_alloc (Below.refl w3.heap.size w3) (.cells #[.int .i64 (o + y), .string k, .string v, .bool d, .int .i64 (s + z)] 23)) hb4; have hb04 := bel_trans hb03 hb34; have HX4 := Lib.hid ((box_new w3 23 ⟨o + y, k, v, d, s + z⟩).below hb4 (by simp)); have hx4 : w3.heap.size < w4.heap.size := Nat.lt_of_lt_of_le (by simp) hb4.size; obtain ⟨j0, j1, j2, j3, j4⟩ := HX4.out; have HB4 := Lib.hid (HB3.out.below hb34 hs3); have hs4 := Nat.lt_of_lt_of_le hs3 hb34.size))
  go_ret
  exact ⟨rfl, hb04⟩
set_option maxRecDepth 100000 in
set_option maxHeartbeats 2000000 in
theorem moved_b (o : Int) (k v : ByteArray) (d : Bool) (s b t : Int) (y z : Int) (w : World) (ho : I64 o) (hs : I64 s) (hk : k.size ≤ maxLen) (hv : v.size ≤ maxLen) (hb : I64 b) (ht : I64 t) (hy : 0 ≤ y) (hy1 : y ≤ 1099511627776) (hz : 0 ≤ z) (hz1 : z ≤ 1099511627776) (hk3 : k.size ≤ 300) (hv3 : v.size ≤ 300) (m1 : 0 ≤ o ∧ o ≤ 1099511627776) (m2 : 0 ≤ s ∧ s ≤ 1099511627776) (b1 : 0 ≤ b ∧ b ≤ 1099511627776) (b2 : 0 ≤ t ∧ t ≤ 1099511627776) (HP : Hid (pt ⟨o, k, v, d, s⟩ b t = (rb ⟨o, k, v, d, s⟩ b t, 0))) (HC : Hid (chk ⟨o + y, k, v, d, s + z⟩ = 0)) (c1 : 1099511627776 < b + y) :
    Calls Try.prog 8 #[.agg #[.int .i64 o, .string k, .string v, .bool d, .int .i64 s], .int .i64 b, .int .i64 t, .int .i64 y, .int .i64 z] w fun e w' => e = .returned (.bool true) ∧ Below w.heap.size w w' := by
  have HB0 := Lib.hid (box_new w 23 ⟨o, k, v, d, s⟩)
  have hsz : w.heap.size < (w.alloc (.cells #[.int .i64 o, .string k, .string v, .bool d, .int .i64 s] 23)).heap.size := by simp
  have hw0 := bel_alloc (Below.refl w.heap.size w) (.cells #[.int .i64 o, .string k, .string v, .bool d, .int .i64 s] 23)
  have HOY := Lib.hid (show I64 (o + y) by unfold I64; omega)
  have HSZ := Lib.hid (show I64 (s + z) by unfold I64; omega)
  go_enter Try.func8, Try.ntmps8
  go_wp2_with (first
    | (go_at_call 12; refine (live_any _).mono ?_; rintro e w1 ⟨rfl, hb1⟩; have HB1 := Lib.hid (HB0.out.below hb1 hsz); obtain ⟨p0, p1, p2, p3, p4⟩ := HB1.out; have hs1 := Nat.lt_of_lt_of_le hsz hb1.size)
    | (go_at_call 13; refine (refFew_yes o s k v d w1 hk3 hv3).mono ?_; rintro e w2 ⟨rfl, hb2⟩; have HB2 := Lib.hid (HB1.out.below hb2 hs1); obtain ⟨q0, q1, q2, q3, q4⟩ := HB2.out; have hs2 := Nat.lt_of_lt_of_le hs1 hb2.size)
    | (go_at_call 14; (with_reducible refine (Put_is o s k v d b t w2 ho hs (by omega) (by omega) hb ht HP.out).mono ?_); rintro e w3 ⟨A3, n3, c3, rfl, hown3, hb3⟩; have hs3 := Nat.lt_of_lt_of_le hs2 hb3.size; have HB3 := Lib.hid (HB2.out.below hb3 hs2); obtain ⟨t0, t1, t2, t3, t4⟩ := HB3.out; have hz0 := fun X : Obj => (HB3.out.alloc hs3 X).1; have hz4 := fun X : Obj => (HB3.out.alloc hs3 X).2.2.2.2; have hb03 := bel_trans (bel_trans (bel_trans hw0 hb1) hb2) hb3)
    | (go_at_call 16; refine (Check_is (o + y) (s + z) k v d _ HOY.out HSZ.out (by omega) (by omega) HC.out).mono ?_; rintro e w4 ⟨rfl, hb4⟩; have hb34 := bel_trans (bel_alloc (Below.refl w3.heap.size w3) (.cells #[.int .i64 (o + y), .string k, .string v, .bool d, .int .i64 (s + z)] 23)) hb4; have hb04 := bel_trans hb03 hb34; have HX4 := Lib.hid ((box_new w3 23 ⟨o + y, k, v, d, s + z⟩).below hb4 (by simp)); have hx4 : w3.heap.size < w4.heap.size := Nat.lt_of_lt_of_le (by simp) hb4.size; obtain ⟨j0, j1, j2, j3, j4⟩ := HX4.out; have HB4 := Lib.hid (HB3.out.below hb34 hs3); have hs4 := Nat.lt_of_lt_of_le hs3 hb34.size))
  go_ret
  exact ⟨rfl, hb04⟩
set_option maxRecDepth 100000 in
set_option maxHeartbeats 2000000 in
theorem moved_c (o : Int) (k v : ByteArray) (d : Bool) (s b t : Int) (y z : Int) (w : World) (ho : I64 o) (hs : I64 s) (hk : k.size ≤ maxLen) (hv : v.size ≤ maxLen) (hb : I64 b) (ht : I64 t) (hy : 0 ≤ y) (hy1 : y ≤ 1099511627776) (hz : 0 ≤ z) (hz1 : z ≤ 1099511627776) (hk3 : k.size ≤ 300) (hv3 : v.size ≤ 300) (m1 : 0 ≤ o ∧ o ≤ 1099511627776) (m2 : 0 ≤ s ∧ s ≤ 1099511627776) (b1 : 0 ≤ b ∧ b ≤ 1099511627776) (b2 : 0 ≤ t ∧ t ≤ 1099511627776) (HP : Hid (pt ⟨o, k, v, d, s⟩ b t = (rb ⟨o, k, v, d, s⟩ b t, 0))) (HC : Hid (chk ⟨o + y, k, v, d, s + z⟩ = 0)) (c1 : b + y ≤ 1099511627776) (c2 : 1099511627776 < t + z) :
    Calls Try.prog 8 #[.agg #[.int .i64 o, .string k, .string v, .bool d, .int .i64 s], .int .i64 b, .int .i64 t, .int .i64 y, .int .i64 z] w fun e w' => e = .returned (.bool true) ∧ Below w.heap.size w w' := by
  have HB0 := Lib.hid (box_new w 23 ⟨o, k, v, d, s⟩)
  have hsz : w.heap.size < (w.alloc (.cells #[.int .i64 o, .string k, .string v, .bool d, .int .i64 s] 23)).heap.size := by simp
  have hw0 := bel_alloc (Below.refl w.heap.size w) (.cells #[.int .i64 o, .string k, .string v, .bool d, .int .i64 s] 23)
  have HOY := Lib.hid (show I64 (o + y) by unfold I64; omega)
  have HSZ := Lib.hid (show I64 (s + z) by unfold I64; omega)
  go_enter Try.func8, Try.ntmps8
  go_wp2_with (first
    | (go_at_call 12; refine (live_any _).mono ?_; rintro e w1 ⟨rfl, hb1⟩; have HB1 := Lib.hid (HB0.out.below hb1 hsz); obtain ⟨p0, p1, p2, p3, p4⟩ := HB1.out; have hs1 := Nat.lt_of_lt_of_le hsz hb1.size)
    | (go_at_call 13; refine (refFew_yes o s k v d w1 hk3 hv3).mono ?_; rintro e w2 ⟨rfl, hb2⟩; have HB2 := Lib.hid (HB1.out.below hb2 hs1); obtain ⟨q0, q1, q2, q3, q4⟩ := HB2.out; have hs2 := Nat.lt_of_lt_of_le hs1 hb2.size)
    | (go_at_call 14; (with_reducible refine (Put_is o s k v d b t w2 ho hs (by omega) (by omega) hb ht HP.out).mono ?_); rintro e w3 ⟨A3, n3, c3, rfl, hown3, hb3⟩; have hs3 := Nat.lt_of_lt_of_le hs2 hb3.size; have HB3 := Lib.hid (HB2.out.below hb3 hs2); obtain ⟨t0, t1, t2, t3, t4⟩ := HB3.out; have hz0 := fun X : Obj => (HB3.out.alloc hs3 X).1; have hz4 := fun X : Obj => (HB3.out.alloc hs3 X).2.2.2.2; have hb03 := bel_trans (bel_trans (bel_trans hw0 hb1) hb2) hb3)
    | (go_at_call 16; refine (Check_is (o + y) (s + z) k v d _ HOY.out HSZ.out (by omega) (by omega) HC.out).mono ?_; rintro e w4 ⟨rfl, hb4⟩; have hb34 := bel_trans (bel_alloc (Below.refl w3.heap.size w3) (.cells #[.int .i64 (o + y), .string k, .string v, .bool d, .int .i64 (s + z)] 23)) hb4; have hb04 := bel_trans hb03 hb34; have HX4 := Lib.hid ((box_new w3 23 ⟨o + y, k, v, d, s + z⟩).below hb4 (by simp)); have hx4 : w3.heap.size < w4.heap.size := Nat.lt_of_lt_of_le (by simp) hb4.size; obtain ⟨j0, j1, j2, j3, j4⟩ := HX4.out; have HB4 := Lib.hid (HB3.out.below hb34 hs3); have hs4 := Nat.lt_of_lt_of_le hs3 hb34.size))
  go_ret
  exact ⟨rfl, hb04⟩
set_option maxRecDepth 100000 in
set_option maxHeartbeats 2000000 in
theorem moved_on (o : Int) (k v : ByteArray) (d : Bool) (s b t : Int) (y z : Int) (w : World) (ho : I64 o) (hs : I64 s) (hk : k.size ≤ maxLen) (hv : v.size ≤ maxLen) (hb : I64 b) (ht : I64 t) (hy : 0 ≤ y) (hy1 : y ≤ 1099511627776) (hz : 0 ≤ z) (hz1 : z ≤ 1099511627776) (hk3 : k.size ≤ 300) (hv3 : v.size ≤ 300) (m1 : 0 ≤ o ∧ o ≤ 1099511627776) (m2 : 0 ≤ s ∧ s ≤ 1099511627776) (b1 : 0 ≤ b ∧ b ≤ 1099511627776) (b2 : 0 ≤ t ∧ t ≤ 1099511627776) (c1 : b + y ≤ 1099511627776) (c2 : t + z ≤ 1099511627776) (x1 x2 : List UInt8) (bb : Bool)
    (HPX : Hid (pt ⟨o, k, v, d, s⟩ b t = (x1, 0))) (HQ : Hid (pt ⟨o + y, k, v, d, s + z⟩ (b + y) (t + z) = (x1, 0))) (HR : Hid (pt ⟨o + y, k, v, d, s⟩ b t = (x2, 0))) (HC : Hid (chk ⟨o + y, k, v, d, s + z⟩ = 0)) (hyy : (x1 == x2) = bb) (hy2 : (y == 0) = bb) :
    Calls Try.prog 8 #[.agg #[.int .i64 o, .string k, .string v, .bool d, .int .i64 s], .int .i64 b, .int .i64 t, .int .i64 y, .int .i64 z] w fun e w' => e = .returned (.bool true) ∧ Below w.heap.size w w' := by
  have HB0 := Lib.hid (box_new w 23 ⟨o, k, v, d, s⟩)
  have hsz : w.heap.size < (w.alloc (.cells #[.int .i64 o, .string k, .string v, .bool d, .int .i64 s] 23)).heap.size := by simp
  have hw0 := bel_alloc (Below.refl w.heap.size w) (.cells #[.int .i64 o, .string k, .string v, .bool d, .int .i64 s] 23)
  have HOY := Lib.hid (show I64 (o + y) by unfold I64; omega)
  have HSZ := Lib.hid (show I64 (s + z) by unfold I64; omega)
  have HBY := Lib.hid (show I64 (b + y) by unfold I64; omega)
  have HTZ := Lib.hid (show I64 (t + z) by unfold I64; omega)
  have hxx : (x1 == x1) = true := by simp
  go_enter Try.func8, Try.ntmps8
  go_wp2_with (first
    | (go_at_call 12; refine (live_any _).mono ?_; rintro e w1 ⟨rfl, hb1⟩; have HB1 := Lib.hid (HB0.out.below hb1 hsz); obtain ⟨p0, p1, p2, p3, p4⟩ := HB1.out; have hs1 := Nat.lt_of_lt_of_le hsz hb1.size)
    | (go_at_call 13; refine (refFew_yes o s k v d w1 hk3 hv3).mono ?_; rintro e w2 ⟨rfl, hb2⟩; have HB2 := Lib.hid (HB1.out.below hb2 hs1); obtain ⟨q0, q1, q2, q3, q4⟩ := HB2.out; have hs2 := Nat.lt_of_lt_of_le hs1 hb2.size)
    | (go_at_call 14; (with_reducible refine (Put_is (o + y) s k v d b t (w5.alloc (.cells #[.int .i64 (o + y), .string k, .string v, .bool d, .int .i64 s] 23)) HOY.out hs (by omega) (by omega) hb ht HR.out).mono ?_); rintro e w6 ⟨A6, n6, c6, rfl, hown6, hb6⟩; have hb56 := bel_trans (bel_alloc (Below.refl w5.heap.size w5) (.cells #[.int .i64 (o + y), .string k, .string v, .bool d, .int .i64 s] 23)) hb6; have q1 := str_of w6 _ A3 n3 c3 x1 (hown3.rd.below (bel_trans (bel_trans hb34 hb5) hb56) (Nat.le_refl _)); have q2 := str_of w6 _ A5 n5 c5 x1 (hown5.rd.below hb56 (Nat.le_refl _)); have q3 := str_of w6 _ A6 n6 c6 x2 hown6.rd; have hfin := bel_trans (bel_trans hb04 hb5) hb56)
    | (go_at_call 14; (with_reducible refine (Put_is (o + y) (s + z) k v d (b + y) (t + z) w4 HOY.out HSZ.out (by omega) (by omega) HBY.out HTZ.out HQ.out).mono ?_); rintro e w5 ⟨A5, n5, c5, rfl, hown5, hb5⟩; have HB5 := Lib.hid (HB4.out.below hb5 hs4); have hs5 := Nat.lt_of_lt_of_le hs4 hb5.size; obtain ⟨u0, u1, u2, u3, u4⟩ := HB5.out; have hz5 := fun X : Obj => (HB5.out.alloc hs5 X).1)
    | (go_at_call 14; (with_reducible refine (Put_is o s k v d b t w2 ho hs (by omega) (by omega) hb ht HPX.out).mono ?_); rintro e w3 ⟨A3, n3, c3, rfl, hown3, hb3⟩; have hs3 := Nat.lt_of_lt_of_le hs2 hb3.size; have HB3 := Lib.hid (HB2.out.below hb3 hs2); obtain ⟨t0, t1, t2, t3, t4⟩ := HB3.out; have hz0 := fun X : Obj => (HB3.out.alloc hs3 X).1; have hz4 := fun X : Obj => (HB3.out.alloc hs3 X).2.2.2.2; have hb03 := bel_trans (bel_trans (bel_trans hw0 hb1) hb2) hb3)
    | (go_at_call 16; refine (Check_is (o + y) (s + z) k v d _ HOY.out HSZ.out (by omega) (by omega) HC.out).mono ?_; rintro e w4 ⟨rfl, hb4⟩; have hb34 := bel_trans (bel_alloc (Below.refl w3.heap.size w3) (.cells #[.int .i64 (o + y), .string k, .string v, .bool d, .int .i64 (s + z)] 23)) hb4; have hb04 := bel_trans hb03 hb34; have HX4 := Lib.hid ((box_new w3 23 ⟨o + y, k, v, d, s + z⟩).below hb4 (by simp)); have hx4 : w3.heap.size < w4.heap.size := Nat.lt_of_lt_of_le (by simp) hb4.size; obtain ⟨j0, j1, j2, j3, j4⟩ := HX4.out; have HB4 := Lib.hid (HB3.out.below hb34 hs3); have hs4 := Nat.lt_of_lt_of_le hs3 hb34.size))
  go_ret
  exact ⟨ret_bool (by first | rfl | (simp; done) | (simp; omega)), hfin⟩
set_option maxRecDepth 100000 in
set_option maxHeartbeats 2000000 in
theorem moved_none (o : Int) (k v : ByteArray) (d : Bool) (s b t : Int) (y z : Int) (w : World) (ho : I64 o) (hs : I64 s) (hk : k.size ≤ maxLen) (hv : v.size ≤ maxLen) (hb : I64 b) (ht : I64 t) (hy : 0 ≤ y) (hy1 : y ≤ 1099511627776) (hz : 0 ≤ z) (hz1 : z ≤ 1099511627776) (hk3 : k.size ≤ 300) (hv3 : v.size ≤ 300) (HP : Hid (pt ⟨o, k, v, d, s⟩ b t = ([], 1))) :
    Calls Try.prog 8 #[.agg #[.int .i64 o, .string k, .string v, .bool d, .int .i64 s], .int .i64 b, .int .i64 t, .int .i64 y, .int .i64 z] w fun e w' => e = .returned (.bool true) ∧ Below w.heap.size w w' := by
  have HB0 := Lib.hid (box_new w 23 ⟨o, k, v, d, s⟩)
  have hsz : w.heap.size < (w.alloc (.cells #[.int .i64 o, .string k, .string v, .bool d, .int .i64 s] 23)).heap.size := by simp
  have hw0 := bel_alloc (Below.refl w.heap.size w) (.cells #[.int .i64 o, .string k, .string v, .bool d, .int .i64 s] 23)
  go_enter Try.func8, Try.ntmps8
  go_wp2_with (first
    | (go_at_call 12; refine (live_any _).mono ?_; rintro e w1 ⟨rfl, hb1⟩; have HB1 := Lib.hid (HB0.out.below hb1 hsz); obtain ⟨p0, p1, p2, p3, p4⟩ := HB1.out; have hs1 := Nat.lt_of_lt_of_le hsz hb1.size)
    | (go_at_call 13; refine (refFew_yes o s k v d w1 hk3 hv3).mono ?_; rintro e w2 ⟨rfl, hb2⟩; have HB2 := Lib.hid (HB1.out.below hb2 hs1); obtain ⟨q0, q1, q2, q3, q4⟩ := HB2.out; have hs2 := Nat.lt_of_lt_of_le hs1 hb2.size)
    | (go_at_call 14; (with_reducible refine (Put_is o s k v d b t w2 ho hs (by omega) (by omega) hb ht HP.out).mono ?_); rintro e w3 ⟨A3, n3, c3, rfl, hown3, hb3⟩; have hs3 := Nat.lt_of_lt_of_le hs2 hb3.size; have HB3 := Lib.hid (HB2.out.below hb3 hs2); obtain ⟨t0, t1, t2, t3, t4⟩ := HB3.out; have hz0 := fun X : Obj => (HB3.out.alloc hs3 X).1; have hz4 := fun X : Obj => (HB3.out.alloc hs3 X).2.2.2.2; have hb03 := bel_trans (bel_trans (bel_trans hw0 hb1) hb2) hb3))
  go_ret
  exact ⟨rfl, bel_alloc hb03 _⟩
set_option maxRecDepth 100000 in
set_option maxHeartbeats 2000000 in
theorem recMoved_walk (o : Int) (k v : ByteArray) (d : Bool) (s b t : Int) (y z : Int) (w : World) (ho : I64 o) (hs : I64 s) (hk : k.size ≤ maxLen) (hv : v.size ≤ maxLen) (hb : I64 b) (ht : I64 t) (hy0 : I64 y) (hz0 : I64 z) :
    Calls Try.prog 8 #[.agg #[.int .i64 o, .string k, .string v, .bool d, .int .i64 s], .int .i64 b, .int .i64 t, .int .i64 y, .int .i64 z] w fun e w' => e = .returned (.bool true) ∧ Below w.heap.size w w' := by
  by_cases hfew : k.size ≤ 300 ∧ v.size ≤ 300
  · obtain ⟨hk3, hv3⟩ := hfew
    by_cases hin : 0 ≤ y ∧ 0 ≤ z ∧ y ≤ 1099511627776 ∧ z ≤ 1099511627776
    · obtain ⟨c1, c2, c3, c4⟩ := hin
      rcases pt_cases ⟨o, k, v, d, s⟩ b t with ⟨hpt, -⟩ | ⟨hpt, hm, h1, h2⟩
      · exact moved_none o k v d s b t y z w ho hs hk hv hb ht c1 c3 c2 c4 hk3 hv3 (Lib.hid hpt)
      · obtain ⟨m1, m2, m3, m4, m5⟩ := may_iff.1 hm
        simp only at m1 m2 m3 m4 m5
        have b1 := inR_iff.1 h1
        have b2 := inR_iff.1 h2
        by_cases hbig : 1099511627776 < o + y ∨ 1099511627776 < s + z
        · exact moved_big o k v d s b t y z w ho hs hk hv hb ht c1 c3 c2 c4 hk3 hv3 m1 m2 b1 b2 (Lib.hid hpt) hbig
        · have hmx : may ⟨o + y, k, v, d, s + z⟩ = true := may_iff.2 ⟨by simp only; omega, by simp only; omega, m3, m4, m5⟩
          have hmy : may ⟨o + y, k, v, d, s⟩ = true := may_iff.2 ⟨by simp only; omega, m2, m3, m4, m5⟩
          by_cases d1 : b + y ≤ 1099511627776
          · by_cases d2 : t + z ≤ 1099511627776
            · refine moved_on o k v d s b t y z w ho hs hk hv hb ht c1 c3 c2 c4 hk3 hv3 m1 m2 b1 b2 d1 d2 (rb ⟨o, k, v, d, s⟩ b t) (rb ⟨o + y, k, v, d, s⟩ b t) (y == 0) (Lib.hid hpt) (Lib.hid ?_) (Lib.hid (pt_yes hmy h1 h2)) (Lib.hid (chk_zero hmx)) ?_ rfl
              · rw [pt_yes hmx (inR_iff.2 (by omega)) (inR_iff.2 (by omega))]
                congr 1
                exact rb_moved ⟨o, k, v, d, s⟩ b t y z
              · by_cases e0 : y = 0
                · rw [e0, Int.add_zero]; simp
                · have hne : rb ⟨o, k, v, d, s⟩ b t ≠ rb ⟨o + y, k, v, d, s⟩ b t := fun e => by
                    have e2 := rb_inj hm hmy h1 h2 e
                    simp only [Rc.mk.injEq] at e2
                    omega
                  rw [beq_false_of_ne hne, beq_false_of_ne e0]
            · exact moved_c o k v d s b t y z w ho hs hk hv hb ht c1 c3 c2 c4 hk3 hv3 m1 m2 b1 b2 (Lib.hid hpt) (Lib.hid (chk_zero hmx)) d1 (by omega)
          · exact moved_b o k v d s b t y z w ho hs hk hv hb ht c1 c3 c2 c4 hk3 hv3 m1 m2 b1 b2 (Lib.hid hpt) (Lib.hid (chk_zero hmx)) (by omega)
    · have hor : y < 0 ∨ 0 ≤ y ∧ z < 0 ∨ 0 ≤ y ∧ 0 ≤ z ∧ 1099511627776 < y ∨ 0 ≤ y ∧ 0 ≤ z ∧ y ≤ 1099511627776 ∧ 1099511627776 < z := by omega
      clear hin
      have HB0 := Lib.hid (box_new w 23 ⟨o, k, v, d, s⟩)
      have hsz : w.heap.size < (w.alloc (.cells #[.int .i64 o, .string k, .string v, .bool d, .int .i64 s] 23)).heap.size := by simp
      have hw0 := bel_alloc (Below.refl w.heap.size w) (.cells #[.int .i64 o, .string k, .string v, .bool d, .int .i64 s] 23)

      rcases hor with c1 | ⟨c1, c2⟩ | ⟨c1, c2, c3⟩ | ⟨c1, c2, c3, c4⟩
      all_goals
        go_enter Try.func8, Try.ntmps8
        go_wp2_with (first
          | (go_at_call 12; refine (live_any _).mono ?_; rintro e w1 ⟨rfl, hb1⟩; have HB1 := Lib.hid (HB0.out.below hb1 hsz); obtain ⟨p0, p1, p2, p3, p4⟩ := HB1.out; have hs1 := Nat.lt_of_lt_of_le hsz hb1.size)
          | (go_at_call 13; refine (refFew_yes o s k v d w1 hk3 hv3).mono ?_; rintro e w2 ⟨rfl, hb2⟩; have HB2 := Lib.hid (HB1.out.below hb2 hs1); obtain ⟨q0, q1, q2, q3, q4⟩ := HB2.out; have hs2 := Nat.lt_of_lt_of_le hs1 hb2.size))
        go_ret
        exact ⟨rfl, bel_trans (bel_trans hw0 hb1) hb2⟩
  · have hfew1 : 300 < k.size ∨ 300 < v.size := by omega
    clear hfew
    have HB0 := Lib.hid (box_new w 23 ⟨o, k, v, d, s⟩)
    have hsz : w.heap.size < (w.alloc (.cells #[.int .i64 o, .string k, .string v, .bool d, .int .i64 s] 23)).heap.size := by simp
    have hw0 := bel_alloc (Below.refl w.heap.size w) (.cells #[.int .i64 o, .string k, .string v, .bool d, .int .i64 s] 23)

    go_enter Try.func8, Try.ntmps8
    go_wp2_with (first
      | (go_at_call 12; refine (live_any _).mono ?_; rintro e w1 ⟨rfl, hb1⟩; have HB1 := Lib.hid (HB0.out.below hb1 hsz); obtain ⟨p0, p1, p2, p3, p4⟩ := HB1.out; have hs1 := Nat.lt_of_lt_of_le hsz hb1.size)
      | (go_at_call 13; refine (refFew_no o s k v d w1 hk hv hfew1).mono ?_; rintro e w2 ⟨rfl, hb2⟩))
    go_ret
    exact ⟨rfl, bel_trans (bel_trans hw0 hb1) hb2⟩
end Go.Proofs.Ytfjdalekpmlnaaa.Rec
