/- The walk of RecRow. -/
import Derived.Test.YtfjdalekpmlnaaaRecLaws3
namespace Go.Proofs.Ytfjdalekpmlnaaa.Rec
open Go.RowKit Go.Proofs.Ytfjdalekpmlnaaa.Oct Go.Proofs.Ytfjdalekpmlnaaa.Crc

set_option maxRecDepth 100000 in
set_option maxHeartbeats 2000000 in
theorem recRow_walk (o : Int) (k v : ByteArray) (d : Bool) (s : Int) (o2 : Int) (k2 v2 : ByteArray) (d2 : Bool) (s2 : Int) (b t : Int) (w : World) (ho : I64 o) (hs : I64 s) (hk : k.size ≤ maxLen) (hv : v.size ≤ maxLen) (ho2 : I64 o2) (hs2x : I64 s2) (hk2 : k2.size ≤ maxLen) (hv2 : v2.size ≤ maxLen) (hb : I64 b) (ht : I64 t) :
    Calls Try.prog 9 #[.agg #[.int .i64 o, .string k, .string v, .bool d, .int .i64 s], .agg #[.int .i64 o2, .string k2, .string v2, .bool d2, .int .i64 s2], .int .i64 b, .int .i64 t] w fun e w' => e = .returned (.bool true) ∧ Below w.heap.size w w' := by
  have HB0 := Lib.hid ((box_new w 23 ⟨o, k, v, d, s⟩).alloc (by simp) (.cells #[.int .i64 o2, .string k2, .string v2, .bool d2, .int .i64 s2] 23))
  have hs11 : (w.alloc (.cells #[.int .i64 o, .string k, .string v, .bool d, .int .i64 s] 23)).heap.size = w.heap.size + 1 := by simp
  have HD0 := Lib.hid (hs11 ▸ box_new (w.alloc (.cells #[.int .i64 o, .string k, .string v, .bool d, .int .i64 s] 23)) 23 ⟨o2, k2, v2, d2, s2⟩ : Box _ (w.heap.size + 1) _)
  have hsz : w.heap.size < ((w.alloc (.cells #[.int .i64 o, .string k, .string v, .bool d, .int .i64 s] 23)).alloc (.cells #[.int .i64 o2, .string k2, .string v2, .bool d2, .int .i64 s2] 23)).heap.size := by simp; omega
  have hsd : w.heap.size + 1 < ((w.alloc (.cells #[.int .i64 o, .string k, .string v, .bool d, .int .i64 s] 23)).alloc (.cells #[.int .i64 o2, .string k2, .string v2, .bool d2, .int .i64 s2] 23)).heap.size := by simp
  have hw0 := bel_alloc (bel_alloc (Below.refl w.heap.size w) (.cells #[.int .i64 o, .string k, .string v, .bool d, .int .i64 s] 23)) (.cells #[.int .i64 o2, .string k2, .string v2, .bool d2, .int .i64 s2] 23)
  have hI := u8row
  by_cases hfew : k.size ≤ 300 ∧ v.size ≤ 300
  · obtain ⟨hk3, hv3⟩ := hfew
    by_cases hfew' : k2.size ≤ 300 ∧ v2.size ≤ 300
    · obtain ⟨hk4, hv4⟩ := hfew'
      rcases pt_cases ⟨o, k, v, d, s⟩ b t with ⟨hpt, -⟩ | ⟨hpt, hm, h1, h2⟩
      · have HP := Lib.hid hpt
        clear hpt
        rcases pt_cases ⟨o2, k2, v2, d2, s2⟩ b t with ⟨hqt, -⟩ | ⟨hqt, -, -, -⟩
        all_goals
          have HQ := Lib.hid hqt
          clear hqt
          go_enter Try.func9, Try.ntmps9
          go_wp2_with (first
            | (go_at_call 12; refine (live_any _).mono ?_; rintro e w1 ⟨rfl, hb1⟩; have HB1 := Lib.hid (HB0.out.below hb1 hsz); obtain ⟨r10, r11, r12, r13, r14⟩ := HB1.out; have HD1 := Lib.hid (HD0.out.below hb1 hsd); obtain ⟨z10, z11, z12, z13, z14⟩ := HD1.out; have hs1 := Nat.lt_of_lt_of_le hsz hb1.size; have hd1 := Nat.lt_of_lt_of_le hsd hb1.size)
            | (go_at_call 13; (with_reducible refine (refFew_yes o2 s2 k2 v2 d2 w2 hk4 hv4).mono ?_); rintro e w3 ⟨rfl, hb3⟩; have HB3 := Lib.hid (HB2.out.below hb3 hs2); obtain ⟨r30, r31, r32, r33, r34⟩ := HB3.out; have HD3 := Lib.hid (HD2.out.below hb3 hd2); obtain ⟨z30, z31, z32, z33, z34⟩ := HD3.out; have hs3 := Nat.lt_of_lt_of_le hs2 hb3.size; have hd3 := Nat.lt_of_lt_of_le hd2 hb3.size)
            | (go_at_call 13; (with_reducible refine (refFew_yes o s k v d w1 hk3 hv3).mono ?_); rintro e w2 ⟨rfl, hb2⟩; have HB2 := Lib.hid (HB1.out.below hb2 hs1); obtain ⟨r20, r21, r22, r23, r24⟩ := HB2.out; have HD2 := Lib.hid (HD1.out.below hb2 hd1); obtain ⟨z20, z21, z22, z23, z24⟩ := HD2.out; have hs2 := Nat.lt_of_lt_of_le hs1 hb2.size; have hd2 := Nat.lt_of_lt_of_le hd1 hb2.size)
            | (go_at_call 14; (with_reducible refine (Put_is o2 s2 k2 v2 d2 b t w4 ho2 hs2x (by omega) (by omega) hb ht HQ.out).mono ?_); rintro e w5 ⟨A5, n5, c5, rfl, hown5, hb5⟩; have hl5 := hown5.len; have HB5 := Lib.hid (HB4.out.below hb5 hs4); obtain ⟨r50, r51, r52, r53, r54⟩ := HB5.out; have HD5 := Lib.hid (HD4.out.below hb5 hd4); obtain ⟨z50, z51, z52, z53, z54⟩ := HD5.out; have hs5 := Nat.lt_of_lt_of_le hs4 hb5.size; have hd5 := Nat.lt_of_lt_of_le hd4 hb5.size; have hb05 := bel_trans (bel_trans (bel_trans (bel_trans (bel_trans hw0 hb1) hb2) hb3) hb4) hb5)
            | (go_at_call 14; (with_reducible refine (Put_is o s k v d b t w3 ho hs (by omega) (by omega) hb ht HP.out).mono ?_); rintro e w4 ⟨A4, n4, c4, rfl, hown4, hb4⟩; have hl4 := hown4.len; have HB4 := Lib.hid (HB3.out.below hb4 hs3); obtain ⟨r40, r41, r42, r43, r44⟩ := HB4.out; have HD4 := Lib.hid (HD3.out.below hb4 hd3); obtain ⟨z40, z41, z42, z43, z44⟩ := HD4.out; have hs4 := Nat.lt_of_lt_of_le hs3 hb4.size; have hd4 := Nat.lt_of_lt_of_le hd3 hb4.size))
          go_ret
          exact ⟨rfl, hb05⟩
      · rcases pt_cases ⟨o2, k2, v2, d2, s2⟩ b t with ⟨hqt, -⟩ | ⟨hqt, hm', -, -⟩
        · have HP := Lib.hid hpt
          have HQ := Lib.hid hqt
          clear hpt hqt
          go_enter Try.func9, Try.ntmps9
          go_wp2_with (first
            | (go_at_call 12; refine (live_any _).mono ?_; rintro e w1 ⟨rfl, hb1⟩; have HB1 := Lib.hid (HB0.out.below hb1 hsz); obtain ⟨r10, r11, r12, r13, r14⟩ := HB1.out; have HD1 := Lib.hid (HD0.out.below hb1 hsd); obtain ⟨z10, z11, z12, z13, z14⟩ := HD1.out; have hs1 := Nat.lt_of_lt_of_le hsz hb1.size; have hd1 := Nat.lt_of_lt_of_le hsd hb1.size)
            | (go_at_call 13; (with_reducible refine (refFew_yes o2 s2 k2 v2 d2 w2 hk4 hv4).mono ?_); rintro e w3 ⟨rfl, hb3⟩; have HB3 := Lib.hid (HB2.out.below hb3 hs2); obtain ⟨r30, r31, r32, r33, r34⟩ := HB3.out; have HD3 := Lib.hid (HD2.out.below hb3 hd2); obtain ⟨z30, z31, z32, z33, z34⟩ := HD3.out; have hs3 := Nat.lt_of_lt_of_le hs2 hb3.size; have hd3 := Nat.lt_of_lt_of_le hd2 hb3.size)
            | (go_at_call 13; (with_reducible refine (refFew_yes o s k v d w1 hk3 hv3).mono ?_); rintro e w2 ⟨rfl, hb2⟩; have HB2 := Lib.hid (HB1.out.below hb2 hs1); obtain ⟨r20, r21, r22, r23, r24⟩ := HB2.out; have HD2 := Lib.hid (HD1.out.below hb2 hd1); obtain ⟨z20, z21, z22, z23, z24⟩ := HD2.out; have hs2 := Nat.lt_of_lt_of_le hs1 hb2.size; have hd2 := Nat.lt_of_lt_of_le hd1 hb2.size)
            | (go_at_call 14; (with_reducible refine (Put_is o2 s2 k2 v2 d2 b t w4 ho2 hs2x (by omega) (by omega) hb ht HQ.out).mono ?_); rintro e w5 ⟨A5, n5, c5, rfl, hown5, hb5⟩; have hl5 := hown5.len; have HB5 := Lib.hid (HB4.out.below hb5 hs4); obtain ⟨r50, r51, r52, r53, r54⟩ := HB5.out; have HD5 := Lib.hid (HD4.out.below hb5 hd4); obtain ⟨z50, z51, z52, z53, z54⟩ := HD5.out; have hs5 := Nat.lt_of_lt_of_le hs4 hb5.size; have hd5 := Nat.lt_of_lt_of_le hd4 hb5.size; have hb05 := bel_trans (bel_trans (bel_trans (bel_trans (bel_trans hw0 hb1) hb2) hb3) hb4) hb5)
            | (go_at_call 14; (with_reducible refine (Put_is o s k v d b t w3 ho hs (by omega) (by omega) hb ht HP.out).mono ?_); rintro e w4 ⟨A4, n4, c4, rfl, hown4, hb4⟩; have hl4 := hown4.len; have HB4 := Lib.hid (HB3.out.below hb4 hs3); obtain ⟨r40, r41, r42, r43, r44⟩ := HB4.out; have HD4 := Lib.hid (HD3.out.below hb4 hd3); obtain ⟨z40, z41, z42, z43, z44⟩ := HD4.out; have hs4 := Nat.lt_of_lt_of_le hs3 hb4.size; have hd4 := Nat.lt_of_lt_of_le hd3 hb4.size))
          go_ret
          exact ⟨rfl, hb05⟩
        · have HP := Lib.hid hpt
          have HQ := Lib.hid hqt
          have hx2 := (rb_size hm h1 h2).2.1
          have hy2 := (rb_size hm' h1 h2).2.1
          have G1 := gr_rb hm h1 h2 [] (rb ⟨o2, k2, v2, d2, s2⟩ b t)
          have G2 := gr_rb hm' h1 h2 (rb ⟨o, k, v, d, s⟩ b t) []
          obtain ⟨x, hx⟩ : ∃ x, x = rb ⟨o, k, v, d, s⟩ b t := ⟨_, rfl⟩
          obtain ⟨y, hy⟩ : ∃ y, y = rb ⟨o2, k2, v2, d2, s2⟩ b t := ⟨_, rfl⟩
          rw [← hx, ← hy] at G1 G2
          rw [← hx] at hx2
          rw [← hy] at hy2
          rw [List.append_nil] at G2
          have G3 := gr_end (l := x ++ y) h1 h2
          have HX := Lib.hid hx
          have HY := Lib.hid hy
          have HG1 := Lib.hid (show gr (x ++ y) 0 b t = (⟨o, k, v, d, s⟩, (x.length : Int), 0) by have e : ((([] : List UInt8).length : Nat) : Int) = 0 := rfl; rw [List.nil_append, e, Int.zero_add] at G1; exact G1)
          have HG2 := Lib.hid G2
          have HG3 := Lib.hid (show gr (x ++ y) ((x.length : Int) + (y.length : Int)) b t = (⟨0, ByteArray.empty, ByteArray.empty, false, 0⟩, 0, 10) by rw [List.length_append, Int.natCast_add] at G3; exact G3)
          clear hpt hqt G1 G2 G3 hx hy hm hm' h1 h2
          go_enter Try.func9, Try.ntmps9
          go_wp2_with (first
            | (go_at_call 12; refine (live_any _).mono ?_; rintro e w1 ⟨rfl, hb1⟩; have HB1 := Lib.hid (HB0.out.below hb1 hsz); obtain ⟨r10, r11, r12, r13, r14⟩ := HB1.out; have HD1 := Lib.hid (HD0.out.below hb1 hsd); obtain ⟨z10, z11, z12, z13, z14⟩ := HD1.out; have hs1 := Nat.lt_of_lt_of_le hsz hb1.size; have hd1 := Nat.lt_of_lt_of_le hsd hb1.size)
            | (go_at_call 13; (with_reducible refine (refFew_yes o2 s2 k2 v2 d2 w2 hk4 hv4).mono ?_); rintro e w3 ⟨rfl, hb3⟩; have HB3 := Lib.hid (HB2.out.below hb3 hs2); obtain ⟨r30, r31, r32, r33, r34⟩ := HB3.out; have HD3 := Lib.hid (HD2.out.below hb3 hd2); obtain ⟨z30, z31, z32, z33, z34⟩ := HD3.out; have hs3 := Nat.lt_of_lt_of_le hs2 hb3.size; have hd3 := Nat.lt_of_lt_of_le hd2 hb3.size)
            | (go_at_call 13; (with_reducible refine (refFew_yes o s k v d w1 hk3 hv3).mono ?_); rintro e w2 ⟨rfl, hb2⟩; have HB2 := Lib.hid (HB1.out.below hb2 hs1); obtain ⟨r20, r21, r22, r23, r24⟩ := HB2.out; have HD2 := Lib.hid (HD1.out.below hb2 hd1); obtain ⟨z20, z21, z22, z23, z24⟩ := HD2.out; have hs2 := Nat.lt_of_lt_of_le hs1 hb2.size; have hd2 := Nat.lt_of_lt_of_le hd1 hb2.size)
            | (go_at_call 14; (with_reducible refine (Put_is o2 s2 k2 v2 d2 b t w4 ho2 hs2x (by omega) (by omega) hb ht HQ.out).mono ?_); rw [← HY.out]; rintro e w5 ⟨A5, n5, c5, rfl, hown5, hb5⟩; have HL5 := Lib.hid hown5.len; have hn5 : n5 ≤ 145 := (by have := HL5.out; omega); have HB5 := Lib.hid (HB4.out.below hb5 hs4); obtain ⟨r50, r51, r52, r53, r54⟩ := HB5.out; have HD5 := Lib.hid (HD4.out.below hb5 hd4); obtain ⟨z50, z51, z52, z53, z54⟩ := HD5.out; have hs5 := Nat.lt_of_lt_of_le hs4 hb5.size; have hd5 := Nat.lt_of_lt_of_le hd4 hb5.size; have hb05 := bel_trans (bel_trans (bel_trans (bel_trans (bel_trans hw0 hb1) hb2) hb3) hb4) hb5)
            | (go_at_call 14; (with_reducible refine (Put_is o s k v d b t w3 ho hs (by omega) (by omega) hb ht HP.out).mono ?_); rw [← HX.out]; rintro e w4 ⟨A4, n4, c4, rfl, hown4, hb4⟩; have HL4 := Lib.hid hown4.len; have hn4 : n4 ≤ 145 := (by have := HL4.out; omega); have HB4 := Lib.hid (HB3.out.below hb4 hs3); obtain ⟨r40, r41, r42, r43, r44⟩ := HB4.out; have HD4 := Lib.hid (HD3.out.below hb4 hd3); obtain ⟨z40, z41, z42, z43, z44⟩ := HD4.out; have hs4 := Nat.lt_of_lt_of_le hs3 hb4.size; have hd4 := Nat.lt_of_lt_of_le hd3 hb4.size)
            | (at_builtin; refine wpList_appB w6 rfl _ _ 26 rfl w5.heap.size 5 Try.underlying26 hI _ n4 _ rfl hown6 _ A5 n5 c5 y rfl (hown5.rd.below hb56 (Nat.le_refl _)) (by omega) hs56 ?_; intro A7 c7 w7 hown7 hb7; have hb57 := hb56.trans hb7; have hb07 := bel_trans hb05 hb57; have HB7 := Lib.hid (HB5.out.below hb57 hs5); have HD7 := Lib.hid (HD5.out.below hb57 hd5); have hs7 := Nat.lt_of_lt_of_le hs5 hb57.size; have hd7 := Nat.lt_of_lt_of_le hd5 hb57.size)
            | (at_builtin; refine wpList_app0 (w5.alloc (.cells #[] 5)) rfl _ _ 26 rfl w5.heap.size 5 Try.underlying26 hI _ rfl (own_lit w5 5 [] 0 rfl (by omega)) w4.heap.size A4 n4 c4 x rfl ((hown4.rd.below hb5 (Nat.le_refl _)).alloc hb5.size _) (by omega) (by simp) ?_; intro A6 c6 w6 hown6 hb6; have hb56 := ((Below.refl w5.heap.size w5).alloc (Nat.le_refl _) (.cells #[] 5)).trans hb6; have hs56 := hb56.size)
            | (go_at_call 20; (with_reducible refine (Get_f A7 (n4 + n5) c7 _ _ ((x.length : Int) + (y.length : Int)) b t _ HRB.out (Nat.le_refl _) hown7.cap (by omega) (by unfold I64; omega) hb ht HG3.out).mono ?_); rintro e w10 ⟨rfl, hb10⟩; have hbx := bel_alloc (bel_trans (bel_alloc hb9 (.cells #[.int .i64 o2, .string k2, .string v2, .bool d2, .int .i64 s2] 23)) hb10) (.cells #[.int .i64 0, .string ByteArray.empty, .string ByteArray.empty, .bool false, .int .i64 0] 23); have hb711 := bel_trans (bel_alloc hb8 (.cells #[.int .i64 o, .string k, .string v, .bool d, .int .i64 s] 23)) hbx; have hby := bel_alloc hb10 (.cells #[.int .i64 0, .string ByteArray.empty, .string ByteArray.empty, .bool false, .int .i64 0] 23); obtain ⟨j10, j11, j12, j13, j14⟩ := (box_new w8 23 ⟨o, k, v, d, s⟩).below hbx (by simp); obtain ⟨j20, j21, j22, j23, j24⟩ := (box_new w9 23 ⟨o2, k2, v2, d2, s2⟩).below hby (by simp); obtain ⟨j30, j31, j32, j33, j34⟩ := HB7.out.below hb711 hs7; obtain ⟨j40, j41, j42, j43, j44⟩ := HD7.out.below hb711 hd7; have hfin := bel_trans hb07 hb711; have e1 : ((x.length : Int) == (n4 : Int)) = true := (by rw [HL4.out]; simp); have e2 : ((x.length : Int) + (y.length : Int) == ((n4 + n5 : Nat) : Int)) = true := (by rw [HL4.out, HL5.out]; simp))
            | (go_at_call 20; (with_reducible refine (Get_f A7 (n4 + n5) c7 _ _ (x.length : Int) b t _ HRA.out (Nat.le_refl _) hown7.cap (by omega) (by unfold I64; omega) hb ht HG2.out).mono ?_); rintro e w9 ⟨rfl, hb9⟩; have HRB := Lib.hid (show Rd (w9.alloc (.cells #[.int .i64 o2, .string k2, .string v2, .bool d2, .int .i64 s2] 23)) (w9.alloc (.cells #[.int .i64 o2, .string k2, .string v2, .bool d2, .int .i64 s2] 23)).heap.size A7 (n4 + n5) (x ++ y) from ((HRA.out.below hb9 (Nat.le_refl _)).alloc hb9.size (.cells #[.int .i64 o2, .string k2, .string v2, .bool d2, .int .i64 s2] 23)).more (Nat.le_trans hb9.size (by simp))))
            | (go_at_call 20; (with_reducible refine (Get_f A7 (n4 + n5) c7 _ _ 0 b t w7 hown7.rd (Nat.le_refl _) hown7.cap (by omega) i0 hb ht HG1.out).mono ?_); rintro e w8 ⟨rfl, hb8⟩; have HRA := Lib.hid (show Rd (w8.alloc (.cells #[.int .i64 o, .string k, .string v, .bool d, .int .i64 s] 23)) (w8.alloc (.cells #[.int .i64 o, .string k, .string v, .bool d, .int .i64 s] 23)).heap.size A7 (n4 + n5) (x ++ y) from ((hown7.rd.below hb8 (Nat.le_refl _)).alloc hb8.size (.cells #[.int .i64 o, .string k, .string v, .bool d, .int .i64 s] 23)).more (Nat.le_trans hb8.size (by simp)))))
          all_goals go_ret
          all_goals
            have hl4 := HL4.out
            have hl5 := HL5.out
            first
            | exact ⟨ret_bool (by first | rfl | (simp; done) | (simp; omega)), hfin⟩
            | (exfalso; omega)
    · have hfew2 : 300 < k2.size ∨ 300 < v2.size := by omega
      clear hfew'
      go_enter Try.func9, Try.ntmps9
      go_wp2_with (first
        | (go_at_call 12; refine (live_any _).mono ?_; rintro e w1 ⟨rfl, hb1⟩; have HB1 := Lib.hid (HB0.out.below hb1 hsz); obtain ⟨r10, r11, r12, r13, r14⟩ := HB1.out; have HD1 := Lib.hid (HD0.out.below hb1 hsd); obtain ⟨z10, z11, z12, z13, z14⟩ := HD1.out; have hs1 := Nat.lt_of_lt_of_le hsz hb1.size; have hd1 := Nat.lt_of_lt_of_le hsd hb1.size)
        | (go_at_call 13; (with_reducible refine (refFew_no o2 s2 k2 v2 d2 w2 hk2 hv2 hfew2).mono ?_); rintro e w3 ⟨rfl, hb3⟩)
        | (go_at_call 13; (with_reducible refine (refFew_yes o s k v d w1 hk3 hv3).mono ?_); rintro e w2 ⟨rfl, hb2⟩; have HB2 := Lib.hid (HB1.out.below hb2 hs1); obtain ⟨r20, r21, r22, r23, r24⟩ := HB2.out; have HD2 := Lib.hid (HD1.out.below hb2 hd1); obtain ⟨z20, z21, z22, z23, z24⟩ := HD2.out; have hs2 := Nat.lt_of_lt_of_le hs1 hb2.size; have hd2 := Nat.lt_of_lt_of_le hd1 hb2.size))
      go_ret
      exact ⟨rfl, bel_trans (bel_trans (bel_trans hw0 hb1) hb2) hb3⟩
  · have hfew1 : 300 < k.size ∨ 300 < v.size := by omega
    clear hfew
    go_enter Try.func9, Try.ntmps9
    go_wp2_with (first
      | (go_at_call 12; refine (live_any _).mono ?_; rintro e w1 ⟨rfl, hb1⟩; have HB1 := Lib.hid (HB0.out.below hb1 hsz); obtain ⟨r10, r11, r12, r13, r14⟩ := HB1.out; have HD1 := Lib.hid (HD0.out.below hb1 hsd); obtain ⟨z10, z11, z12, z13, z14⟩ := HD1.out; have hs1 := Nat.lt_of_lt_of_le hsz hb1.size; have hd1 := Nat.lt_of_lt_of_le hsd hb1.size)
      | (go_at_call 13; refine (refFew_no o s k v d w1 hk hv hfew1).mono ?_; rintro e w2 ⟨rfl, hb2⟩))
    go_ret
    exact ⟨rfl, bel_trans (bel_trans hw0 hb1) hb2⟩
end Go.Proofs.Ytfjdalekpmlnaaa.Rec
