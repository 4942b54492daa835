/- The walk of RecBack. -/
import Derived.Test.YtfjdalekpmlnaaaRecLaws2
namespace Go.Proofs.Ytfjdalekpmlnaaa.Rec
open Go.RowKit Go.Proofs.Ytfjdalekpmlnaaa.Oct Go.Proofs.Ytfjdalekpmlnaaa.Crc

theorem inR_F {n : Int} (h : ¬ inR n = true) : n < 0 ∨ 1099511627776 < n := by
  by_cases h1 : n < 0
  · exact .inl h1
  · by_cases h2 : 1099511627776 < n
    · exact .inr h2
    · exact absurd (inR_iff.2 ⟨by omega, by omega⟩) h
theorem chk_one {r : Rc} (h : ¬ may r = true) : chk r = 1 := if_neg h
theorem chk_zero {r : Rc} (h : may r = true) : chk r = 0 := if_pos h
set_option maxRecDepth 100000 in
set_option maxHeartbeats 2000000 in
theorem recBack_walk (o : Int) (k v : ByteArray) (d : Bool) (s b t : Int) (A : Option Addr) (n c : Nat) (l : List UInt8) (A' : Option Addr) (n' c' : Nat) (l' : List UInt8) (w : World) (ho : I64 o) (hs : I64 s) (hk : k.size ≤ maxLen) (hv : v.size ≤ maxLen) (hb : I64 b) (ht : I64 t)
    (hr : Rd w w.heap.size A n l) (hc : n ≤ c) (hr' : Rd w w.heap.size A' n' l') (hc' : n' ≤ c') :
    Calls Try.prog 5 #[.agg #[.int .i64 o, .string k, .string v, .bool d, .int .i64 s], .int .i64 b, .int .i64 t, .slice A n c, .slice A' n' c'] w fun e w' => e = .returned (.bool true) ∧ Below w.heap.size w w' := by
  have HB0 := Lib.hid (box_new w 23 ⟨o, k, v, d, s⟩)
  have hsz : w.heap.size < (w.alloc (.cells #[.int .i64 o, .string k, .string v, .bool d, .int .i64 s] 23)).heap.size := by simp
  have hw0 := bel_alloc (Below.refl w.heap.size w) (.cells #[.int .i64 o, .string k, .string v, .bool d, .int .i64 s] 23)
  have hI := u8row
  have HR := Lib.hid hr
  have HR' := Lib.hid hr'
  have hln := hr.len
  clear hr hr'
  by_cases hfew : k.size ≤ 300 ∧ v.size ≤ 300
  · obtain ⟨hk3, hv3⟩ := hfew
    by_cases hg : n ≤ 200 ∧ n' ≤ 200
    · obtain ⟨hg1, hg2⟩ := hg
      rcases pt_cases ⟨o, k, v, d, s⟩ b t with ⟨hpt, hno⟩ | ⟨hpt, hm, h1, h2⟩
      · have HP := Lib.hid hpt
        clear hpt
        rcases hmm : may ⟨o, k, v, d, s⟩ with _ | _
        · have HC := Lib.hid (chk_one (r := ⟨o, k, v, d, s⟩) (by rw [hmm]; simp))
          clear hno hmm
          go_enter Try.func5, Try.ntmps5
          go_wp2_with (first
            | (go_at_call 12; refine (live_any _).mono ?_; rintro e w1 ⟨rfl, hb1⟩; have HB1 := Lib.hid (HB0.out.below hb1 hsz); obtain ⟨p0, p1, p2, p3, p4⟩ := HB1.out; have hs1 := Nat.lt_of_lt_of_le hsz hb1.size)
            | (go_at_call 13; refine (refFew_yes o s k v d w1 hk3 hv3).mono ?_; rintro e w2 ⟨rfl, hb2⟩; have HB2 := Lib.hid (HB1.out.below hb2 hs1); obtain ⟨q0, q1, q2, q3, q4⟩ := HB2.out; have hs2 := Nat.lt_of_lt_of_le hs1 hb2.size)
            | (go_at_call 14; refine (Put_is o s k v d b t w2 ho hs (by omega) (by omega) hb ht HP.out).mono ?_; rintro e w3 ⟨A3, n3, c3, rfl, hown3, hb3⟩; have hn3 : n3 = 0 := hown3.len.symm; subst hn3; have HB3 := Lib.hid (HB2.out.below hb3 hs2); obtain ⟨t0, t1, t2, t3, t4⟩ := HB3.out)
            | (go_at_call 16; refine (Check_is o s k v d w3 ho hs (by omega) (by omega) HC.out).mono ?_; rintro e w4 ⟨rfl, hb4⟩))
          go_ret
          exact ⟨rfl, bel_trans (bel_trans (bel_trans (bel_trans hw0 hb1) hb2) hb3) hb4⟩
        · have HC := Lib.hid (chk_zero (r := ⟨o, k, v, d, s⟩) hmm)
          have hor : b < 0 ∨ 0 ≤ b ∧ t < 0 ∨ 0 ≤ b ∧ 0 ≤ t ∧ 1099511627776 < b ∨ 0 ≤ b ∧ 0 ≤ t ∧ b ≤ 1099511627776 ∧ 1099511627776 < t := by
            by_cases hb0 : inR b = true
            · have hb1 := inR_iff.1 hb0
              have := inR_F (n := t) fun hh => hno ⟨hmm, hb0, hh⟩
              omega
            · have := inR_F hb0
              omega
          clear hno hmm
          rcases hor with c1 | ⟨c1, c2⟩ | ⟨c1, c2, c3⟩ | ⟨c1, c2, c3, c4⟩
          all_goals
            go_enter Try.func5, Try.ntmps5
            go_wp2_with (first
              | (go_at_call 12; refine (live_any _).mono ?_; rintro e w1 ⟨rfl, hb1⟩; have HB1 := Lib.hid (HB0.out.below hb1 hsz); obtain ⟨p0, p1, p2, p3, p4⟩ := HB1.out; have hs1 := Nat.lt_of_lt_of_le hsz hb1.size)
              | (go_at_call 13; refine (refFew_yes o s k v d w1 hk3 hv3).mono ?_; rintro e w2 ⟨rfl, hb2⟩; have HB2 := Lib.hid (HB1.out.below hb2 hs1); obtain ⟨q0, q1, q2, q3, q4⟩ := HB2.out; have hs2 := Nat.lt_of_lt_of_le hs1 hb2.size)
              | (go_at_call 14; refine (Put_is o s k v d b t w2 ho hs (by omega) (by omega) hb ht HP.out).mono ?_; rintro e w3 ⟨A3, n3, c3, rfl, hown3, hb3⟩; have hn3 : n3 = 0 := hown3.len.symm; subst hn3; have HB3 := Lib.hid (HB2.out.below hb3 hs2); obtain ⟨t0, t1, t2, t3, t4⟩ := HB3.out)
              | (go_at_call 16; refine (Check_is o s k v d w3 ho hs (by omega) (by omega) HC.out).mono ?_; rintro e w4 ⟨rfl, hb4⟩))
            go_ret
            exact ⟨rfl, bel_trans (bel_trans (bel_trans (bel_trans hw0 hb1) hb2) hb3) hb4⟩
      · have HP := Lib.hid hpt
        have hlen2 := (rb_size hm h1 h2).2.1
        have HG0 := gr_rb hm h1 h2 l l'
        rw [hln] at HG0
        obtain ⟨x, hx⟩ : ∃ x, x = rb ⟨o, k, v, d, s⟩ b t := ⟨_, rfl⟩
        rw [← hx] at hlen2 HG0
        have HG := Lib.hid HG0
        have HX := Lib.hid hx
        clear hpt hx HG0
        go_enter Try.func5, Try.ntmps5
        go_wp2_with (first
          | (go_at_call 12; refine (live_any _).mono ?_; rintro e w1 ⟨rfl, hb1⟩; have HB1 := Lib.hid (HB0.out.below hb1 hsz); obtain ⟨p0, p1, p2, p3, p4⟩ := HB1.out; have hs1 := Nat.lt_of_lt_of_le hsz hb1.size)
          | (go_at_call 13; refine (refFew_yes o s k v d w1 hk3 hv3).mono ?_; rintro e w2 ⟨rfl, hb2⟩; have HB2 := Lib.hid (HB1.out.below hb2 hs1); obtain ⟨q0, q1, q2, q3, q4⟩ := HB2.out; have hs2 := Nat.lt_of_lt_of_le hs1 hb2.size)
          | (go_at_call 14; refine (Put_is o s k v d b t w2 ho hs (by omega) (by omega) hb ht HP.out).mono ?_; rw [← HX.out]; rintro e w3 ⟨A3, n3, c3, rfl, hown3, hb3⟩; have hl3 := hown3.len; have hn3b : n3 ≤ 145 := (by omega); have HB3 := Lib.hid (HB2.out.below hb3 hs2); have hs3 := Nat.lt_of_lt_of_le hs2 hb3.size; have hb03 := bel_trans (bel_trans (bel_trans hw0 hb1) hb2) hb3)
          | (at_builtin; refine wpList_appB w5 rfl _ _ 26 rfl w3.heap.size 5 Try.underlying26 hI _ (n + n3) _ rfl hown5 w.heap.size A' n' c' l' rfl (HR'.out.below hb05 (Nat.le_refl _)) (by omega) hs35 ?_; intro A6 c6 w6 hown6 hb6; have hb36 := hb35.trans hb6; have hb06 := bel_trans hb03 hb36; have HB6 := Lib.hid (HB3.out.below hb36 hs3); have hs6 := Nat.lt_of_lt_of_le hs3 hb36.size)
          | (at_builtin; refine wpList_appB w4 rfl _ _ 26 rfl w3.heap.size 5 Try.underlying26 hI _ n _ rfl hown4 _ A3 n3 c3 x rfl (hown3.rd.below hb34 (Nat.le_refl _)) (by omega) hs34 ?_; intro A5 c5 w5 hown5 hb5; have hb35 := hb34.trans hb5; have hs35 := hb35.size; have hb05 := bel_trans hb03 hb35)
          | (at_builtin; refine wpList_app0 (w3.alloc (.cells #[] 5)) rfl _ _ 26 rfl w3.heap.size 5 Try.underlying26 hI _ rfl (own_lit w3 5 [] 0 rfl (by omega)) w.heap.size A n c l rfl ((HR.out.below hb03 (Nat.le_refl _)).alloc hb03.size _) (by omega) (by simp) ?_; intro A4 c4 w4 hown4 hb4; have hb34 := ((Below.refl w3.heap.size w3).alloc (Nat.le_refl _) (.cells #[] 5)).trans hb4; have hs34 := hb34.size)
          | (go_at_call 20; refine (Get_f A6 (n + n3 + n') c6 _ _ n b t w6 hown6.rd (Nat.le_refl _) hown6.cap (by omega) (by unfold I64; omega) hb ht HG.out).mono ?_; rintro e w7 ⟨rfl, hb7⟩; obtain ⟨u0, u1, u2, u3, u4⟩ := (HB6.out.below hb7 hs6).alloc (Nat.lt_of_lt_of_le hs6 hb7.size) (.cells #[.int .i64 o, .string k, .string v, .bool d, .int .i64 s] 23); have hsum : ((n : Int) + (x.length : Int) == IntKind.i64.wrap ((n : Int) + (n3 : Int))) = true := (by rw [IntWalk.i64_in _ (by omega), hl3]; simp)))
        go_ret
        exact ⟨rfl, bel_alloc (bel_trans hb06 hb7) _⟩
    · have hg1 : 200 < n ∨ n ≤ 200 ∧ 200 < n' := by omega
      clear hg
      rcases hg1 with h | ⟨h, h2⟩
      all_goals
        go_enter Try.func5, Try.ntmps5
        go_wp2_with (first
          | (go_at_call 12; refine (live_any _).mono ?_; rintro e w1 ⟨rfl, hb1⟩; have HB1 := Lib.hid (HB0.out.below hb1 hsz); obtain ⟨p0, p1, p2, p3, p4⟩ := HB1.out; have hs1 := Nat.lt_of_lt_of_le hsz hb1.size)
          | (go_at_call 13; refine (refFew_yes o s k v d w1 hk3 hv3).mono ?_; rintro e w2 ⟨rfl, hb2⟩; have HB2 := Lib.hid (HB1.out.below hb2 hs1); obtain ⟨q0, q1, q2, q3, q4⟩ := HB2.out; have hs2 := Nat.lt_of_lt_of_le hs1 hb2.size))
        go_ret
        exact ⟨rfl, bel_trans (bel_trans hw0 hb1) hb2⟩
  · have hfew1 : 300 < k.size ∨ 300 < v.size := by omega
    clear hfew
    go_enter Try.func5, Try.ntmps5
    go_wp2_with (first
      | (go_at_call 12; refine (live_any _).mono ?_; rintro e w1 ⟨rfl, hb1⟩; have HB1 := Lib.hid (HB0.out.below hb1 hsz); obtain ⟨p0, p1, p2, p3, p4⟩ := HB1.out; have hs1 := Nat.lt_of_lt_of_le hsz hb1.size)
      | (go_at_call 13; refine (refFew_no o s k v d w1 hk hv hfew1).mono ?_; rintro e w2 ⟨rfl, hb2⟩))
    go_ret
    exact ⟨rfl, bel_trans (bel_trans hw0 hb1) hb2⟩
end Go.Proofs.Ytfjdalekpmlnaaa.Rec
