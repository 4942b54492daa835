/- The walk of RecTells. -/
import Derived.Test.YtfjdalekpmlnaaaRecLaws3
import Derived.Test.YtfjdalekpmlnaaaRecRefS
import Derived.Deep.RegionHeld3
namespace Go.Proofs.Ytfjdalekpmlnaaa.Rec
open Go.RowKit Go.Proofs.Ytfjdalekpmlnaaa.Oct Go.Proofs.Ytfjdalekpmlnaaa.Crc

set_option maxRecDepth 100000 in
set_option maxHeartbeats 2000000 in
theorem refPut_f (o s : Int) (k v : ByteArray) (d : Bool) (b t : Int) (w : World) (hk : k.size ≤ 1099511627776) (hv : v.size ≤ 1099511627776) (hb : I64 b) (ht : I64 t) {x : List UInt8} {z : Int} (h : pt ⟨o, k, v, d, s⟩ b t = (x, z)) :
    Calls Try.prog 15 #[.agg #[.int .i64 o, .string k, .string v, .bool d, .int .i64 s], .int .i64 b, .int .i64 t] w (OPr 5 w.heap.size w x z) := by
  have h1 := refPut_any o s k v d b t w hk hv hb.1 hb.2 ht.1 ht.2
  rw [h] at h1
  exact h1
theorem refSize_f (o s : Int) (k v : ByteArray) (d : Bool) (b t : Int) (w : World) (hk : k.size ≤ 1099511627776) (hv : v.size ≤ 1099511627776) (hb : I64 b) (ht : I64 t) {x : List UInt8} {z : Int} {n : Nat} (h : pt ⟨o, k, v, d, s⟩ b t = (x, z)) (hn : x.length = n) :
    Calls Try.prog 19 #[.agg #[.int .i64 o, .string k, .string v, .bool d, .int .i64 s], .int .i64 b, .int .i64 t] w fun e w' => e = .returned (.int .i64 (n : Int)) ∧ Below w.heap.size w w' := by
  have h1 := refSize_any o s k v d b t w hk hv hb.1 hb.2 ht.1 ht.2
  rw [h] at h1
  subst hn
  exact h1
theorem refCheck_f (o s : Int) (k v : ByteArray) (d : Bool) (w : World) (hk : k.size ≤ 1099511627776) (hv : v.size ≤ 1099511627776) {z : Int} (h : chk ⟨o, k, v, d, s⟩ = z) :
    Calls Try.prog 17 #[.agg #[.int .i64 o, .string k, .string v, .bool d, .int .i64 s]] w fun e w' => e = .returned (.int .i64 z) ∧ Below w.heap.size w w' := by
  subst h
  exact refCheck_any o s k v d w hk hv
set_option maxRecDepth 100000 in
set_option maxHeartbeats 2000000 in
theorem recTells_walk (o : Int) (k v : ByteArray) (d : Bool) (s b t : Int) (w : World) (ho : I64 o) (hs : I64 s) (hk : k.size ≤ maxLen) (hv : v.size ≤ maxLen) (hb : I64 b) (ht : I64 t) :
    Calls Try.prog 3 #[.agg #[.int .i64 o, .string k, .string v, .bool d, .int .i64 s], .int .i64 b, .int .i64 t] w fun e w' => e = .returned (.bool true) ∧ Below w.heap.size w w' := by
  have HB0 := Lib.hid (box_new w 23 ⟨o, k, v, d, s⟩)
  have hsz : w.heap.size < (w.alloc (.cells #[.int .i64 o, .string k, .string v, .bool d, .int .i64 s] 23)).heap.size := by simp
  have hw0 := bel_alloc (Below.refl w.heap.size w) (.cells #[.int .i64 o, .string k, .string v, .bool d, .int .i64 s] 23)
  by_cases hfew : k.size ≤ 300 ∧ v.size ≤ 300
  · obtain ⟨hk3, hv3⟩ := hfew
    rcases hpt : pt ⟨o, k, v, d, s⟩ b t with ⟨x, z⟩
    obtain ⟨y, hy⟩ : ∃ y, chk ⟨o, k, v, d, s⟩ = y := ⟨_, rfl⟩
    have HP := Lib.hid hpt
    have HC := Lib.hid hy
    have hxx : (x == x) = true := by simp
    obtain ⟨N, hN⟩ : ∃ N, x.length = N := ⟨_, rfl⟩
    have HN := Lib.hid hN
    clear hpt hy hN
    go_enter Try.func3, Try.ntmps3
    go_wp2_with (first
      | (go_at_call 12; refine (live_any _).mono ?_; rintro e w1 ⟨rfl, hb1⟩; have HB1 := Lib.hid (HB0.out.below hb1 hsz); obtain ⟨p0, p1, p2, p3, p4⟩ := HB1.out; have hs1 := Nat.lt_of_lt_of_le hsz hb1.size)
      | (go_at_call 13; refine (refFew_yes o s k v d w1 hk3 hv3).mono ?_; rintro e w2 ⟨rfl, hb2⟩; have HB2 := Lib.hid (HB1.out.below hb2 hs1); obtain ⟨q0, q1, q2, q3, q4⟩ := HB2.out; have hs2 := Nat.lt_of_lt_of_le hs1 hb2.size)
      | (go_at_call 14; refine (Put_is o s k v d b t w2 ho hs (by omega) (by omega) hb ht HP.out).mono ?_; rintro e w3 ⟨A3, n3, c3, rfl, hown3, hb3⟩; have hs3 := Nat.lt_of_lt_of_le hs2 hb3.size; have HB3 := Lib.hid (HB2.out.below hb3 hs2); obtain ⟨t0, t1, t2, t3, t4⟩ := HB3.out)
      | (go_at_call 15; refine (refPut_f o s k v d b t w3 (by omega) (by omega) hb ht HP.out).mono ?_; rintro e w4 ⟨A4, n4, c4, rfl, hown4, hb4⟩))
    have bk5 : Below w4.drew.heap.size w4.drew w4.drew := Below.refl _ _
    have hsx : w.heap.size < w4.drew.heap.size := Nat.lt_of_lt_of_le hs3 hb4.size
    have HX := Lib.hid (show Box w4.drew w.heap.size ⟨o, k, v, d, s⟩ from (show Box w4 w.heap.size ⟨o, k, v, d, s⟩ from HB3.out.below hb4 hs3))
    have HO3 := Lib.hid (show OwnB w4.drew 5 w2.heap.size (.slice A3 n3 c3) n3 x from (hown3.below hb4).drew)
    have HO4 := Lib.hid (show OwnB w4.drew 5 w3.heap.size (.slice A4 n4 c4) n4 x from hown4.drew)
    have hb05 := Lib.hid (show Below w.heap.size w w4.drew from bel_drew (bel_trans (bel_trans (bel_trans (bel_trans hw0 hb1) hb2) hb3) hb4))
    have r5a := str_of w4.drew _ A3 n3 c3 x HO3.out.rd
    have r5b := str_of w4.drew _ A4 n4 c4 x HO4.out.rd
    clear hb1 hb2 hb3 hb4 hown3 hown4 hw0
    go_region_held (fun w' => w'.cell? ⟨w.heap.size, 0, none⟩ = some (.int .i64 o) ∧ w'.cell? ⟨w.heap.size, 1, none⟩ = some (.string k) ∧ w'.cell? ⟨w.heap.size, 2, none⟩ = some (.string v) ∧ w'.cell? ⟨w.heap.size, 3, none⟩ = some (.bool d) ∧ w'.cell? ⟨w.heap.size, 4, none⟩ = some (.int .i64 s)) (first | exact hx9 | exact hx8 | exact hx7 | exact hx6 | exact HX.out) (first
      | (go_at_call 19; (with_reducible refine (refSize_f o s k v d b t w8 (by omega) (by omega) hb ht HP.out HN.out).mono ?_); rintro e w9 ⟨rfl, hb9⟩; have bk9 := bel_trans bk8 hb9; have hx9 := HX.out.below bk9 hsx; have r9a := str_of w9 _ A3 n3 c3 x (HO3.out.rd.below bk9 (Nat.le_refl _)); have r9b := str_of w9 _ A4 n4 c4 x (HO4.out.rd.below bk9 (Nat.le_refl _)))
      | (go_at_call 18; (with_reducible refine (Size_is o s k v d b t w7 ho hs (by omega) (by omega) hb ht HP.out HN.out).mono ?_); rintro e w8 ⟨rfl, hb8⟩; have bk8 := bel_trans bk7 hb8; have hx8 := HX.out.below bk8 hsx; have r8a := str_of w8 _ A3 n3 c3 x (HO3.out.rd.below bk8 (Nat.le_refl _)); have r8b := str_of w8 _ A4 n4 c4 x (HO4.out.rd.below bk8 (Nat.le_refl _)))
      | (go_at_call 17; (with_reducible refine (refCheck_f o s k v d w6 (by omega) (by omega) HC.out).mono ?_); rintro e w7 ⟨rfl, hb7⟩; have bk7 := bel_trans bk6 hb7; have hx7 := HX.out.below bk7 hsx; have r7a := str_of w7 _ A3 n3 c3 x (HO3.out.rd.below bk7 (Nat.le_refl _)); have r7b := str_of w7 _ A4 n4 c4 x (HO4.out.rd.below bk7 (Nat.le_refl _)))
      | (go_at_call 16; (with_reducible refine (Check_is o s k v d w4.drew ho hs (by omega) (by omega) HC.out).mono ?_); rintro e w6 ⟨rfl, hb6⟩; have bk6 := bel_trans bk5 hb6; have hx6 := HX.out.below bk6 hsx; have r6a := str_of w6 _ A3 n3 c3 x (HO3.out.rd.below bk6 (Nat.le_refl _)); have r6b := str_of w6 _ A4 n4 c4 x (HO4.out.rd.below bk6 (Nat.le_refl _))))
    all_goals go_wp2
    all_goals go_ret
    all_goals exact ⟨ret_bool (by first | rfl | (simp; done) | (simp; omega)), bel_trans hb05.out bk9⟩
  · have hfew1 : 300 < k.size ∨ 300 < v.size := by omega
    clear hfew
    go_enter Try.func3, Try.ntmps3
    go_wp2_with (first
      | (go_at_call 12; refine (live_any _).mono ?_; rintro e w1 ⟨rfl, hb1⟩; have HB1 := Lib.hid (HB0.out.below hb1 hsz); obtain ⟨p0, p1, p2, p3, p4⟩ := HB1.out; have hs1 := Nat.lt_of_lt_of_le hsz hb1.size)
      | (go_at_call 13; refine (refFew_no o s k v d w1 hk hv hfew1).mono ?_; rintro e w2 ⟨rfl, hb2⟩))
    go_ret
    exact ⟨rfl, bel_trans (bel_trans hw0 hb1) hb2⟩
end Go.Proofs.Ytfjdalekpmlnaaa.Rec
