/- The walk of RecDead. -/
import Derived.Test.YtfjdalekpmlnaaaRecLaws3
import Derived.Deep.RegionHeld3
namespace Go.Proofs.Ytfjdalekpmlnaaa.Rec
open Go.RowKit Go.Proofs.Ytfjdalekpmlnaaa.Oct Go.Proofs.Ytfjdalekpmlnaaa.Crc

set_option maxRecDepth 100000 in
set_option maxHeartbeats 2000000 in
theorem recDead_walk (o : Int) (k v : ByteArray) (d : Bool) (s : Int) (w : World) (ho : I64 o) (hs : I64 s) (hk : k.size ≤ maxLen) (hv : v.size ≤ maxLen) :
    Calls Try.prog 11 #[.agg #[.int .i64 o, .string k, .string v, .bool d, .int .i64 s]] w fun e w' => e = .returned (.bool true) ∧ Below w.heap.size w w' := by
  have HB0 := Lib.hid (box_new w 23 ⟨o, k, v, d, s⟩)
  have hsz : w.heap.size < (w.alloc (.cells #[.int .i64 o, .string k, .string v, .bool d, .int .i64 s] 23)).heap.size := by simp
  have hw0 := bel_alloc (Below.refl w.heap.size w) (.cells #[.int .i64 o, .string k, .string v, .bool d, .int .i64 s] 23)
  by_cases hfew : k.size ≤ 300 ∧ v.size ≤ 300
  · obtain ⟨hk3, hv3⟩ := hfew
    by_cases hm : may ⟨o, k, v, d, s⟩ = true
    · have HC := Lib.hid (chk_zero hm)
      obtain ⟨m1, m2, m3, m4, m5⟩ := may_iff.1 hm
      simp only at m1 m2 m3 m4 m5
      go_enter Try.func11, Try.ntmps11
      go_wp2_with (first
        | (go_at_call 12; refine (live_any _).mono ?_; rintro e w1 ⟨rfl, hb1⟩; have HB1 := Lib.hid (HB0.out.below hb1 hsz); obtain ⟨p0, p1, p2, p3, p4⟩ := HB1.out; have hs1 := Nat.lt_of_lt_of_le hsz hb1.size)
        | (go_at_call 13; refine (refFew_yes o s k v d w1 hk3 hv3).mono ?_; rintro e w2 ⟨rfl, hb2⟩; have HB2 := Lib.hid (HB1.out.below hb2 hs1); obtain ⟨q0, q1, q2, q3, q4⟩ := HB2.out; have hs2 := Nat.lt_of_lt_of_le hs1 hb2.size)
        | (go_at_call 16; refine (Check_is o s k v d w2 ho hs (by omega) (by omega) HC.out).mono ?_; rintro e w3 ⟨rfl, hb3⟩; have hs3 := Nat.lt_of_lt_of_le hs2 hb3.size; have HB3 := Lib.hid (HB2.out.below hb3 hs2); obtain ⟨t0, t1, t2, t3, t4⟩ := HB3.out; have hz0 := fun X Y Z : Obj => ((((HB3.out.alloc hs3 X).alloc (by simp; omega) Y).alloc (by simp; omega) Z).1); have hz1 := fun X Y : Obj => (((HB3.out.alloc hs3 X).alloc (by simp; omega) Y))))
      generalize hvz : (v ++ (_ : ByteArray)) = vv
      have hvv : 64 < vv.size := by rw [← hvz, ByteArray.size_append]; show 64 < v.size + 70; omega
      have e1 : ∀ X : Obj, (w3.alloc X).heap.size = w3.heap.size + 1 := fun X => by simp
      have e2 : ∀ X Y : Obj, ((w3.alloc X).alloc Y).heap.size = w3.heap.size + 1 + 1 := fun X Y => by simp
      generalize hw6 : World.alloc (World.alloc (World.alloc w3 _) _) _ = w6
      have hb36 : Below w3.heap.size w3 w6 := by rw [← hw6]; exact bel_alloc (bel_alloc (bel_alloc (Below.refl _ _) _) _) _
      have HXX := Lib.hid (show Box w6.drew w3.heap.size ⟨o, k, v, true, s⟩ by rw [← hw6]; exact ((box_new w3 23 ⟨o, k, v, true, s⟩).alloc (by simp) _).alloc (by simp; omega) _)
      have HYY := Lib.hid (show Box w6.drew (w3.heap.size + 1) ⟨o, k, vv, d, s⟩ by rw [← hw6]; exact Box.alloc (e1 _ ▸ box_new _ 23 ⟨o, k, vv, d, s⟩) (by simp) _)
      have HZZ := Lib.hid (show Box w6.drew (w3.heap.size + 1 + 1) ⟨o + 1099511627776 + 1, k, v, d, s⟩ by rw [← hw6]; exact (e2 _ _ ▸ box_new _ 23 ⟨o + 1099511627776 + 1, k, v, d, s⟩))
      have HRR := Lib.hid (show Box w6.drew w.heap.size ⟨o, k, v, d, s⟩ from (show Box w6 w.heap.size ⟨o, k, v, d, s⟩ from HB3.out.below hb36 hs3))
      have hsz6 : w6.drew.heap.size = w3.heap.size + 1 + 1 + 1 := by rw [← hw6]; simp
      have hsX : w3.heap.size < w6.drew.heap.size := by omega
      have hsY : w3.heap.size + 1 < w6.drew.heap.size := by omega
      have hsZ : w3.heap.size + 1 + 1 < w6.drew.heap.size := by omega
      have hsR : w.heap.size < w6.drew.heap.size := by omega
      have HY1 := Lib.hid (chk_one (r := ⟨o, k, vv, d, s⟩) fun hh => by have := (may_iff.1 hh).2.2.2.1; simp only at this; omega)
      have HZ1 := Lib.hid (chk_one (r := ⟨o + 1099511627776 + 1, k, v, d, s⟩) fun hh => by have := (may_iff.1 hh).1; simp only at this; omega)
      have HOZ := Lib.hid (show I64 (o + 1099511627776 + 1) by unfold I64; omega)
      have HVV := Lib.hid (show vv.size ≤ 1099511627776 by rw [← hvz, ByteArray.size_append]; show v.size + 70 ≤ _; omega)
      have hX6 := HXX.out
      have hY6 := HYY.out
      have hZ6 := HZZ.out
      have hR6 := HRR.out
      have bk6 : Below w6.drew.heap.size w6.drew w6.drew := Below.refl _ _
      have hb06 := Lib.hid (show Below w.heap.size w w6.drew from bel_drew (bel_trans (bel_trans (bel_trans (bel_trans hw0 hb1) hb2) hb3) hb36))
      clear hz0 hz1 hw6 hvz hvv hb36 hb1 hb2 hb3 e1 e2 hw0 t0 t1 t2 t3 t4 hm
      by_cases h5 : k = ByteArray.empty
      · have HX1 := Lib.hid (chk_one (r := ⟨o, k, v, true, s⟩) fun hh => ((may_iff.1 hh).2.2.2.2 rfl).1 (empty_iff.2 h5))
        subst h5
        obtain ⟨a60, a61, a62, a63, a64⟩ := hX6
        obtain ⟨a70, a71, a72, a73, a74⟩ := hY6
        obtain ⟨a80, a81, a82, a83, a84⟩ := hZ6
        obtain ⟨a90, a91, a92, a93, a94⟩ := hR6
        first | (go_region_with (first
          | (go_at_call 16; (with_reducible refine (Check_is (o + 1099511627776 + 1) s ByteArray.empty v d w8 HOZ.out hs (by omega) (by omega) HZ1.out).mono ?_); rintro e w9 ⟨rfl, hb9⟩; have bk9 := bel_trans bk8 hb9; have hX9 := HXX.out.below bk9 hsX; have hY9 := HYY.out.below bk9 hsY; have hZ9 := HZZ.out.below bk9 hsZ; have hR9 := HRR.out.below bk9 hsR; obtain ⟨b90, b91, b92, b93, b94⟩ := hX9; obtain ⟨c90, c91, c92, c93, c94⟩ := hY9; obtain ⟨d90, d91, d92, d93, d94⟩ := hZ9; obtain ⟨f90, f91, f92, f93, f94⟩ := hR9)
          | (go_at_call 16; (with_reducible refine (Check_is o s ByteArray.empty vv d w7 ho hs (by omega) HVV.out HY1.out).mono ?_); rintro e w8 ⟨rfl, hb8⟩; have bk8 := bel_trans bk7 hb8; have hX8 := HXX.out.below bk8 hsX; have hY8 := HYY.out.below bk8 hsY; have hZ8 := HZZ.out.below bk8 hsZ; have hR8 := HRR.out.below bk8 hsR; obtain ⟨b80, b81, b82, b83, b84⟩ := hX8; obtain ⟨c80, c81, c82, c83, c84⟩ := hY8; obtain ⟨d80, d81, d82, d83, d84⟩ := hZ8; obtain ⟨f80, f81, f82, f83, f84⟩ := hR8)
          | (go_at_call 16; (with_reducible refine (Check_is o s ByteArray.empty v true w6.drew ho hs (by omega) (by omega) HX1.out).mono ?_); rintro e w7 ⟨rfl, hb7⟩; have bk7 := bel_trans bk6 hb7; have hX7 := HXX.out.below bk7 hsX; have hY7 := HYY.out.below bk7 hsY; have hZ7 := HZZ.out.below bk7 hsZ; have hR7 := HRR.out.below bk7 hsR; obtain ⟨b70, b71, b72, b73, b74⟩ := hX7; obtain ⟨c70, c71, c72, c73, c74⟩ := hY7; obtain ⟨d70, d71, d72, d73, d74⟩ := hZ7; obtain ⟨f70, f71, f72, f73, f74⟩ := hR7))) | fail
        all_goals go_wp2
        all_goals go_ret
        all_goals exact ⟨ret_bool (by first | rfl | (simp; done) | (simp; omega)), bel_trans hb06.out bk9⟩
      · have hk5 := empty_tests h5
        by_cases h6 : v = ByteArray.empty
        · have HX1 := Lib.hid (show chk ⟨o, k, v, true, s⟩ = 0 from chk_zero (may_iff.2 ⟨by simp only; omega, by simp only; omega, m3, m4, fun _ => ⟨fun hz => h5 (empty_iff.1 hz), empty_iff.2 h6⟩⟩))
          have hk6 : v.toList.isEmpty = true := by rw [h6, Go.ByteArray.toList_eq]; rfl
          clear h6
          go_region_held (fun w' => w'.cell? ⟨w3.heap.size, 0, none⟩ = some (.int .i64 o) ∧ w'.cell? ⟨w3.heap.size, 1, none⟩ = some (.string k) ∧ w'.cell? ⟨w3.heap.size, 2, none⟩ = some (.string v) ∧ w'.cell? ⟨w3.heap.size, 3, none⟩ = some (.bool true) ∧ w'.cell? ⟨w3.heap.size, 4, none⟩ = some (.int .i64 s) ∧ w'.cell? ⟨w3.heap.size + 1, 0, none⟩ = some (.int .i64 o) ∧ w'.cell? ⟨w3.heap.size + 1, 1, none⟩ = some (.string k) ∧ w'.cell? ⟨w3.heap.size + 1, 2, none⟩ = some (.string vv) ∧ w'.cell? ⟨w3.heap.size + 1, 3, none⟩ = some (.bool d) ∧ w'.cell? ⟨w3.heap.size + 1, 4, none⟩ = some (.int .i64 s) ∧ w'.cell? ⟨w3.heap.size + 1 + 1, 0, none⟩ = some (.int .i64 (o + 1099511627776 + 1)) ∧ w'.cell? ⟨w3.heap.size + 1 + 1, 1, none⟩ = some (.string k) ∧ w'.cell? ⟨w3.heap.size + 1 + 1, 2, none⟩ = some (.string v) ∧ w'.cell? ⟨w3.heap.size + 1 + 1, 3, none⟩ = some (.bool d) ∧ w'.cell? ⟨w3.heap.size + 1 + 1, 4, none⟩ = some (.int .i64 s) ∧ w'.cell? ⟨w.heap.size, 1, none⟩ = some (.string k) ∧ w'.cell? ⟨w.heap.size, 2, none⟩ = some (.string v)) (first | exact ⟨hX9.1, hX9.2.1, hX9.2.2.1, hX9.2.2.2.1, hX9.2.2.2.2, hY9.1, hY9.2.1, hY9.2.2.1, hY9.2.2.2.1, hY9.2.2.2.2, hZ9.1, hZ9.2.1, hZ9.2.2.1, hZ9.2.2.2.1, hZ9.2.2.2.2, hR9.2.1, hR9.2.2.1⟩ | exact ⟨hX8.1, hX8.2.1, hX8.2.2.1, hX8.2.2.2.1, hX8.2.2.2.2, hY8.1, hY8.2.1, hY8.2.2.1, hY8.2.2.2.1, hY8.2.2.2.2, hZ8.1, hZ8.2.1, hZ8.2.2.1, hZ8.2.2.2.1, hZ8.2.2.2.2, hR8.2.1, hR8.2.2.1⟩ | exact ⟨hX7.1, hX7.2.1, hX7.2.2.1, hX7.2.2.2.1, hX7.2.2.2.2, hY7.1, hY7.2.1, hY7.2.2.1, hY7.2.2.2.1, hY7.2.2.2.2, hZ7.1, hZ7.2.1, hZ7.2.2.1, hZ7.2.2.2.1, hZ7.2.2.2.2, hR7.2.1, hR7.2.2.1⟩ | exact ⟨hX6.1, hX6.2.1, hX6.2.2.1, hX6.2.2.2.1, hX6.2.2.2.2, hY6.1, hY6.2.1, hY6.2.2.1, hY6.2.2.2.1, hY6.2.2.2.2, hZ6.1, hZ6.2.1, hZ6.2.2.1, hZ6.2.2.2.1, hZ6.2.2.2.2, hR6.2.1, hR6.2.2.1⟩) (first
            | (go_at_call 16; (with_reducible refine (Check_is (o + 1099511627776 + 1) s k v d w8 HOZ.out hs (by omega) (by omega) HZ1.out).mono ?_); rintro e w9 ⟨rfl, hb9⟩; have bk9 := bel_trans bk8 hb9; have hX9 := HXX.out.below bk9 hsX; have hY9 := HYY.out.below bk9 hsY; have hZ9 := HZZ.out.below bk9 hsZ; have hR9 := HRR.out.below bk9 hsR)
            | (go_at_call 16; (with_reducible refine (Check_is o s k vv d w7 ho hs (by omega) HVV.out HY1.out).mono ?_); rintro e w8 ⟨rfl, hb8⟩; have bk8 := bel_trans bk7 hb8; have hX8 := HXX.out.below bk8 hsX; have hY8 := HYY.out.below bk8 hsY; have hZ8 := HZZ.out.below bk8 hsZ; have hR8 := HRR.out.below bk8 hsR)
            | (go_at_call 16; (with_reducible refine (Check_is o s k v true w6.drew ho hs (by omega) (by omega) HX1.out).mono ?_); rintro e w7 ⟨rfl, hb7⟩; have bk7 := bel_trans bk6 hb7; have hX7 := HXX.out.below bk7 hsX; have hY7 := HYY.out.below bk7 hsY; have hZ7 := HZZ.out.below bk7 hsZ; have hR7 := HRR.out.below bk7 hsR))
          all_goals go_wp2
          all_goals go_ret
          all_goals exact ⟨ret_bool (by first | rfl | (simp; done) | (simp; omega)), bel_trans hb06.out bk9⟩
        · have HX1 := Lib.hid (chk_one (r := ⟨o, k, v, true, s⟩) fun hh => h6 (empty_iff.1 ((may_iff.1 hh).2.2.2.2 rfl).2))
          have hk6 := empty_tests h6
          go_region_held (fun w' => w'.cell? ⟨w3.heap.size, 0, none⟩ = some (.int .i64 o) ∧ w'.cell? ⟨w3.heap.size, 1, none⟩ = some (.string k) ∧ w'.cell? ⟨w3.heap.size, 2, none⟩ = some (.string v) ∧ w'.cell? ⟨w3.heap.size, 3, none⟩ = some (.bool true) ∧ w'.cell? ⟨w3.heap.size, 4, none⟩ = some (.int .i64 s) ∧ w'.cell? ⟨w3.heap.size + 1, 0, none⟩ = some (.int .i64 o) ∧ w'.cell? ⟨w3.heap.size + 1, 1, none⟩ = some (.string k) ∧ w'.cell? ⟨w3.heap.size + 1, 2, none⟩ = some (.string vv) ∧ w'.cell? ⟨w3.heap.size + 1, 3, none⟩ = some (.bool d) ∧ w'.cell? ⟨w3.heap.size + 1, 4, none⟩ = some (.int .i64 s) ∧ w'.cell? ⟨w3.heap.size + 1 + 1, 0, none⟩ = some (.int .i64 (o + 1099511627776 + 1)) ∧ w'.cell? ⟨w3.heap.size + 1 + 1, 1, none⟩ = some (.string k) ∧ w'.cell? ⟨w3.heap.size + 1 + 1, 2, none⟩ = some (.string v) ∧ w'.cell? ⟨w3.heap.size + 1 + 1, 3, none⟩ = some (.bool d) ∧ w'.cell? ⟨w3.heap.size + 1 + 1, 4, none⟩ = some (.int .i64 s) ∧ w'.cell? ⟨w.heap.size, 1, none⟩ = some (.string k) ∧ w'.cell? ⟨w.heap.size, 2, none⟩ = some (.string v)) (first | exact ⟨hX9.1, hX9.2.1, hX9.2.2.1, hX9.2.2.2.1, hX9.2.2.2.2, hY9.1, hY9.2.1, hY9.2.2.1, hY9.2.2.2.1, hY9.2.2.2.2, hZ9.1, hZ9.2.1, hZ9.2.2.1, hZ9.2.2.2.1, hZ9.2.2.2.2, hR9.2.1, hR9.2.2.1⟩ | exact ⟨hX8.1, hX8.2.1, hX8.2.2.1, hX8.2.2.2.1, hX8.2.2.2.2, hY8.1, hY8.2.1, hY8.2.2.1, hY8.2.2.2.1, hY8.2.2.2.2, hZ8.1, hZ8.2.1, hZ8.2.2.1, hZ8.2.2.2.1, hZ8.2.2.2.2, hR8.2.1, hR8.2.2.1⟩ | exact ⟨hX7.1, hX7.2.1, hX7.2.2.1, hX7.2.2.2.1, hX7.2.2.2.2, hY7.1, hY7.2.1, hY7.2.2.1, hY7.2.2.2.1, hY7.2.2.2.2, hZ7.1, hZ7.2.1, hZ7.2.2.1, hZ7.2.2.2.1, hZ7.2.2.2.2, hR7.2.1, hR7.2.2.1⟩ | exact ⟨hX6.1, hX6.2.1, hX6.2.2.1, hX6.2.2.2.1, hX6.2.2.2.2, hY6.1, hY6.2.1, hY6.2.2.1, hY6.2.2.2.1, hY6.2.2.2.2, hZ6.1, hZ6.2.1, hZ6.2.2.1, hZ6.2.2.2.1, hZ6.2.2.2.2, hR6.2.1, hR6.2.2.1⟩) (first
            | (go_at_call 16; (with_reducible refine (Check_is (o + 1099511627776 + 1) s k v d w8 HOZ.out hs (by omega) (by omega) HZ1.out).mono ?_); rintro e w9 ⟨rfl, hb9⟩; have bk9 := bel_trans bk8 hb9; have hX9 := HXX.out.below bk9 hsX; have hY9 := HYY.out.below bk9 hsY; have hZ9 := HZZ.out.below bk9 hsZ; have hR9 := HRR.out.below bk9 hsR)
            | (go_at_call 16; (with_reducible refine (Check_is o s k vv d w7 ho hs (by omega) HVV.out HY1.out).mono ?_); rintro e w8 ⟨rfl, hb8⟩; have bk8 := bel_trans bk7 hb8; have hX8 := HXX.out.below bk8 hsX; have hY8 := HYY.out.below bk8 hsY; have hZ8 := HZZ.out.below bk8 hsZ; have hR8 := HRR.out.below bk8 hsR)
            | (go_at_call 16; (with_reducible refine (Check_is o s k v true w6.drew ho hs (by omega) (by omega) HX1.out).mono ?_); rintro e w7 ⟨rfl, hb7⟩; have bk7 := bel_trans bk6 hb7; have hX7 := HXX.out.below bk7 hsX; have hY7 := HYY.out.below bk7 hsY; have hZ7 := HZZ.out.below bk7 hsZ; have hR7 := HRR.out.below bk7 hsR))
          all_goals go_wp2
          all_goals go_ret
          all_goals exact ⟨ret_bool (by first | rfl | (simp; done) | (simp; omega)), bel_trans hb06.out bk9⟩
    · have HC := Lib.hid (chk_one hm)
      clear hm
      go_enter Try.func11, Try.ntmps11
      go_wp2_with (first
        | (go_at_call 12; refine (live_any _).mono ?_; rintro e w1 ⟨rfl, hb1⟩; have HB1 := Lib.hid (HB0.out.below hb1 hsz); obtain ⟨p0, p1, p2, p3, p4⟩ := HB1.out; have hs1 := Nat.lt_of_lt_of_le hsz hb1.size)
        | (go_at_call 13; refine (refFew_yes o s k v d w1 hk3 hv3).mono ?_; rintro e w2 ⟨rfl, hb2⟩; have HB2 := Lib.hid (HB1.out.below hb2 hs1); obtain ⟨q0, q1, q2, q3, q4⟩ := HB2.out; have hs2 := Nat.lt_of_lt_of_le hs1 hb2.size)
        | (go_at_call 16; refine (Check_is o s k v d w2 ho hs (by omega) (by omega) HC.out).mono ?_; rintro e w3 ⟨rfl, hb3⟩; have hs3 := Nat.lt_of_lt_of_le hs2 hb3.size; have HB3 := Lib.hid (HB2.out.below hb3 hs2); obtain ⟨t0, t1, t2, t3, t4⟩ := HB3.out; have hz0 := fun X Y Z : Obj => ((((HB3.out.alloc hs3 X).alloc (by simp; omega) Y).alloc (by simp; omega) Z).1); have hz1 := fun X Y : Obj => (((HB3.out.alloc hs3 X).alloc (by simp; omega) Y))))
      go_ret
      exact ⟨rfl, bel_trans (bel_trans (bel_trans hw0 hb1) hb2) hb3⟩
  · have hfew1 : 300 < k.size ∨ 300 < v.size := by omega
    clear hfew
    go_enter Try.func11, Try.ntmps11
    go_wp2_with (first
      | (go_at_call 12; refine (live_any _).mono ?_; rintro e w1 ⟨rfl, hb1⟩; have HB1 := Lib.hid (HB0.out.below hb1 hsz); obtain ⟨p0, p1, p2, p3, p4⟩ := HB1.out; have hs1 := Nat.lt_of_lt_of_le hsz hb1.size)
      | (go_at_call 13; refine (refFew_no o s k v d w1 hk hv hfew1).mono ?_; rintro e w2 ⟨rfl, hb2⟩))
    go_ret
    exact ⟨rfl, bel_trans (bel_trans hw0 hb1) hb2⟩
end Go.Proofs.Ytfjdalekpmlnaaa.Rec
