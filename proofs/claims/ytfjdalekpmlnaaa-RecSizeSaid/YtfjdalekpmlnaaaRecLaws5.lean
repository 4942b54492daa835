/- The walk of RecSize. -/
import Derived.Test.YtfjdalekpmlnaaaRecLaws3
namespace Go.Proofs.Ytfjdalekpmlnaaa.Rec
open Go.RowKit Go.Proofs.Ytfjdalekpmlnaaa.Oct Go.Proofs.Ytfjdalekpmlnaaa.Crc

set_option maxRecDepth 100000 in
set_option maxHeartbeats 2000000 in
theorem recSize_walk (o : Int) (k v : ByteArray) (d : Bool) (s b t : Int) (w : World) (ho : I64 o) (hs : I64 s) (hk : k.size ≤ maxLen) (hv : v.size ≤ maxLen) (hb : I64 b) (ht : I64 t) :
    Calls Try.prog 10 #[.agg #[.int .i64 o, .string k, .string v, .bool d, .int .i64 s], .int .i64 b, .int .i64 t] w fun e w' => e = .returned (.bool true) ∧ Below w.heap.size w w' := by
  have HB0 := Lib.hid (box_new w 23 ⟨o, k, v, d, s⟩)
  have hsz : w.heap.size < (w.alloc (.cells #[.int .i64 o, .string k, .string v, .bool d, .int .i64 s] 23)).heap.size := by simp
  have hw0 := bel_alloc (Below.refl w.heap.size w) (.cells #[.int .i64 o, .string k, .string v, .bool d, .int .i64 s] 23)
  by_cases hfew : k.size ≤ 300 ∧ v.size ≤ 300
  · obtain ⟨hk3, hv3⟩ := hfew
    by_cases hm : may ⟨o, k, v, d, s⟩ = true
    · have HC := Lib.hid (chk_zero hm)
      by_cases hin : inR b = true ∧ inR t = true
      · obtain ⟨h1, h2⟩ := hin
        obtain ⟨m1, m2, m3, m4, -⟩ := may_iff.1 hm
        simp only at m1 m2 m3 m4
        have hm0 : may ⟨o, ByteArray.empty, ByteArray.empty, false, s⟩ = true := may_iff.2 ⟨m1, m2, by simp, by simp, fun hh => by cases hh⟩
        have HP := Lib.hid (pt_yes hm h1 h2)
        have HP0 := Lib.hid (show pt ⟨o, ⟨#[]⟩, ⟨#[]⟩, false, s⟩ b t = (rb ⟨o, ByteArray.empty, ByteArray.empty, false, s⟩ b t, 0) from pt_yes hm0 h1 h2)
        obtain ⟨f1, f2, f3, f4, f5, f6⟩ := rb_size hm h1 h2
        simp only at f1 f2 f3 f4 f5 f6
        obtain ⟨N, hN⟩ : ∃ N, N = (rb ⟨o, k, v, d, s⟩ b t).length := ⟨_, rfl⟩
        obtain ⟨M, hM⟩ : ∃ M, M = (rb ⟨o, ByteArray.empty, ByteArray.empty, false, s⟩ b t).length := ⟨_, rfl⟩
        rw [← hN] at f1 f2 f3 f4 f5 f6
        rw [← hM] at f5 f6
        have HN := Lib.hid hN
        have HM := Lib.hid hM
        have b1 := inR_iff.1 h1
        have b2 := inR_iff.1 h2
        clear hN hM hm hm0 m1 m2 h1 h2
        go_enter Try.func10, Try.ntmps10
        go_wp2_with (first
          | (go_at_call 12; refine (live_any _).mono ?_; rintro e w1 ⟨rfl, hb1⟩; have HB1 := Lib.hid (HB0.out.below hb1 hsz); obtain ⟨p0, p1, p2, p3, p4⟩ := HB1.out; have hs1 := Nat.lt_of_lt_of_le hsz hb1.size)
          | (go_at_call 13; refine (refFew_yes o s k v d w1 hk3 hv3).mono ?_; rintro e w2 ⟨rfl, hb2⟩; have HB2 := Lib.hid (HB1.out.below hb2 hs1); obtain ⟨q0, q1, q2, q3, q4⟩ := HB2.out; have hs2 := Nat.lt_of_lt_of_le hs1 hb2.size)
          | (go_at_call 16; refine (Check_is o s k v d w2 ho hs (by omega) (by omega) HC.out).mono ?_; rintro e w3 ⟨rfl, hb3⟩; have hs3 := Nat.lt_of_lt_of_le hs2 hb3.size; have HB3 := Lib.hid (HB2.out.below hb3 hs2); obtain ⟨t0, t1, t2, t3, t4⟩ := HB3.out)
          | (go_at_call 18; (with_reducible refine (Size_is o s ⟨#[]⟩ ⟨#[]⟩ false b t w4 ho hs (by decide) (by decide) hb ht HP0.out HM.out.symm).mono ?_); rintro e w5 ⟨rfl, hb5⟩)
          | (go_at_call 18; (with_reducible refine (Size_is o s k v d b t w3 ho hs (by omega) (by omega) hb ht HP.out HN.out.symm).mono ?_); rintro e w4 ⟨rfl, hb4⟩; obtain ⟨u0, u1, u2, u3, u4⟩ := HB3.out.below hb4 hs3))
        go_ret
        exact ⟨ret_bool (by first | rfl | (simp; done) | (simp; omega)), bel_trans (bel_trans (bel_trans (bel_trans (bel_trans hw0 hb1) hb2) hb3) hb4) hb5⟩
      · have hor : b < 0 ∨ 0 ≤ b ∧ t < 0 ∨ 0 ≤ b ∧ 0 ≤ t ∧ 1099511627776 < b ∨ 0 ≤ b ∧ 0 ≤ t ∧ b ≤ 1099511627776 ∧ 1099511627776 < t := by
          by_cases hb0 : inR b = true
          · have hb1 := inR_iff.1 hb0
            have := inR_F (n := t) fun hh => hin ⟨hb0, hh⟩
            omega
          · have := inR_F hb0
            omega
        clear hin hm
        rcases hor with c1 | ⟨c1, c2⟩ | ⟨c1, c2, c3⟩ | ⟨c1, c2, c3, c4⟩
        all_goals
          go_enter Try.func10, Try.ntmps10
          go_wp2_with (first
            | (go_at_call 12; refine (live_any _).mono ?_; rintro e w1 ⟨rfl, hb1⟩; have HB1 := Lib.hid (HB0.out.below hb1 hsz); obtain ⟨p0, p1, p2, p3, p4⟩ := HB1.out; have hs1 := Nat.lt_of_lt_of_le hsz hb1.size)
            | (go_at_call 13; refine (refFew_yes o s k v d w1 hk3 hv3).mono ?_; rintro e w2 ⟨rfl, hb2⟩; have HB2 := Lib.hid (HB1.out.below hb2 hs1); obtain ⟨q0, q1, q2, q3, q4⟩ := HB2.out; have hs2 := Nat.lt_of_lt_of_le hs1 hb2.size)
            | (go_at_call 16; refine (Check_is o s k v d w2 ho hs (by omega) (by omega) HC.out).mono ?_; rintro e w3 ⟨rfl, hb3⟩; have hs3 := Nat.lt_of_lt_of_le hs2 hb3.size; have HB3 := Lib.hid (HB2.out.below hb3 hs2); obtain ⟨t0, t1, t2, t3, t4⟩ := HB3.out))
          go_ret
          exact ⟨rfl, bel_trans (bel_trans (bel_trans hw0 hb1) hb2) hb3⟩
    · have HC := Lib.hid (chk_one hm)
      clear hm
      go_enter Try.func10, Try.ntmps10
      go_wp2_with (first
        | (go_at_call 12; refine (live_any _).mono ?_; rintro e w1 ⟨rfl, hb1⟩; have HB1 := Lib.hid (HB0.out.below hb1 hsz); obtain ⟨p0, p1, p2, p3, p4⟩ := HB1.out; have hs1 := Nat.lt_of_lt_of_le hsz hb1.size)
        | (go_at_call 13; refine (refFew_yes o s k v d w1 hk3 hv3).mono ?_; rintro e w2 ⟨rfl, hb2⟩; have HB2 := Lib.hid (HB1.out.below hb2 hs1); obtain ⟨q0, q1, q2, q3, q4⟩ := HB2.out; have hs2 := Nat.lt_of_lt_of_le hs1 hb2.size)
        | (go_at_call 16; refine (Check_is o s k v d w2 ho hs (by omega) (by omega) HC.out).mono ?_; rintro e w3 ⟨rfl, hb3⟩; have hs3 := Nat.lt_of_lt_of_le hs2 hb3.size; have HB3 := Lib.hid (HB2.out.below hb3 hs2); obtain ⟨t0, t1, t2, t3, t4⟩ := HB3.out))
      go_ret
      exact ⟨rfl, bel_trans (bel_trans (bel_trans hw0 hb1) hb2) hb3⟩
  · have hfew1 : 300 < k.size ∨ 300 < v.size := by omega
    clear hfew
    go_enter Try.func10, Try.ntmps10
    go_wp2_with (first
      | (go_at_call 12; refine (live_any _).mono ?_; rintro e w1 ⟨rfl, hb1⟩; have HB1 := Lib.hid (HB0.out.below hb1 hsz); obtain ⟨p0, p1, p2, p3, p4⟩ := HB1.out; have hs1 := Nat.lt_of_lt_of_le hsz hb1.size)
      | (go_at_call 13; refine (refFew_no o s k v d w1 hk hv hfew1).mono ?_; rintro e w2 ⟨rfl, hb2⟩))
    go_ret
    exact ⟨rfl, bel_trans (bel_trans hw0 hb1) hb2⟩
end Go.Proofs.Ytfjdalekpmlnaaa.Rec
