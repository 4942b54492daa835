/- The walk of RecShort. -/
import Derived.Test.YtfjdalekpmlnaaaRecLaws1
namespace Go.Proofs.Ytfjdalekpmlnaaa.Rec
open Go.RowKit Go.Proofs.Ytfjdalekpmlnaaa.Oct Go.Proofs.Ytfjdalekpmlnaaa.Crc

theorem pt_cases (r : Rc) (b t : Int) : pt r b t = ([], 1) ∧ ¬ (may r = true ∧ inR b = true ∧ inR t = true) ∨ pt r b t = (rb r b t, 0) ∧ may r = true ∧ inR b = true ∧ inR t = true := by
  by_cases h : may r = true ∧ inR b = true ∧ inR t = true
  · exact .inr ⟨pt_yes h.1 h.2.1 h.2.2, h⟩
  · exact .inl ⟨pt_no h, h⟩
theorem i64_and65535 (n : Int) : bits .and .i64 n 65535 = n % 65536 := by
  have h127 : (BitVec.ofInt 64 65535).toNat = 2 ^ 16 - 1 := by decide
  have key : (BitVec.ofInt 64 n &&& BitVec.ofInt 64 65535).toNat = (n % ((2 ^ 64 : Nat) : Int)).toNat % 2 ^ 16 := by
    rw [BitVec.toNat_and, BitVec.toNat_ofInt, h127, Nat.and_two_pow_sub_one_eq_mod]
  show IntKind.i64.wrap ((BitVec.ofInt 64 n &&& BitVec.ofInt 64 65535).toNat : Nat) = n % 65536
  rw [key, IntKind.wrap_i64]
  omega
set_option maxRecDepth 100000 in
set_option maxHeartbeats 1000000 in
theorem recShort_walk (o : Int) (k v : ByteArray) (d : Bool) (s b t cut : Int) (w : World) (ho : I64 o) (hs : I64 s) (hk : k.size ≤ maxLen) (hv : v.size ≤ maxLen) (hb : I64 b) (ht : I64 t) (hcut : I64 cut) :
    Calls Try.prog 7 #[.agg #[.int .i64 o, .string k, .string v, .bool d, .int .i64 s], .int .i64 b, .int .i64 t, .int .i64 cut] w fun e w' => e = .returned (.bool true) ∧ Below w.heap.size w w' := by
  have HB0 := Lib.hid (box_new w 23 ⟨o, k, v, d, s⟩)
  have hsz : w.heap.size < (w.alloc (.cells #[.int .i64 o, .string k, .string v, .bool d, .int .i64 s] 23)).heap.size := by simp
  have hw0 := bel_alloc (Below.refl w.heap.size w) (.cells #[.int .i64 o, .string k, .string v, .bool d, .int .i64 s] 23)
  by_cases hfew : k.size ≤ 300 ∧ v.size ≤ 300
  · obtain ⟨hk3, hv3⟩ := hfew
    rcases pt_cases ⟨o, k, v, d, s⟩ b t with ⟨hpt, _⟩ | ⟨hpt, hm, h1, h2⟩
    · have HP := Lib.hid hpt
      clear hpt
      go_enter Try.func7, Try.ntmps7
      go_wp2_with (first
        | (go_at_call 12; refine (live_any _).mono ?_; rintro e w1 ⟨rfl, hb1⟩; have HB1 := Lib.hid (HB0.out.below hb1 hsz); obtain ⟨p0, p1, p2, p3, p4⟩ := HB1.out; have hs1 := Nat.lt_of_lt_of_le hsz hb1.size)
        | (go_at_call 13; refine (refFew_yes o s k v d w1 hk3 hv3).mono ?_; rintro e w2 ⟨rfl, hb2⟩; have HB2 := Lib.hid (HB1.out.below hb2 hs1); obtain ⟨q0, q1, q2, q3, q4⟩ := HB2.out; have hs2 := Nat.lt_of_lt_of_le hs1 hb2.size)
        | (go_at_call 14; refine (Put_is o s k v d b t w2 ho hs (by omega) (by omega) hb ht HP.out).mono ?_; rintro e w3 ⟨A3, n3, c3, rfl, hown3, hb3⟩))
      go_ret
      exact ⟨rfl, bel_trans (bel_trans (bel_trans hw0 hb1) hb2) hb3⟩
    · have HP := Lib.hid hpt
      have hlen := (rb_size hm h1 h2).1
      have hlen2 := (rb_size hm h1 h2).2.1
      obtain ⟨C, hC⟩ : ∃ C : Nat, cut % 65536 = (C : Int) := ⟨(cut % 65536).toNat, by omega⟩
      have hand : bits .and .i64 cut 65535 = (C : Int) := by rw [i64_and65535, hC]
      have HCUT := Lib.hid (fun j hj => gr_cut hm h1 h2 [] j hj)
      obtain ⟨x, hx⟩ : ∃ x, x = rb ⟨o, k, v, d, s⟩ b t := ⟨_, rfl⟩
      rw [← hx] at hlen hlen2
      have HX := Lib.hid hx
      clear hpt hx hC
      go_enter Try.func7, Try.ntmps7
      go_wp2_with (first
        | (go_at_call 12; refine (live_any _).mono ?_; rintro e w1 ⟨rfl, hb1⟩; have HB1 := Lib.hid (HB0.out.below hb1 hsz); obtain ⟨p0, p1, p2, p3, p4⟩ := HB1.out; have hs1 := Nat.lt_of_lt_of_le hsz hb1.size)
        | (go_at_call 13; refine (refFew_yes o s k v d w1 hk3 hv3).mono ?_; rintro e w2 ⟨rfl, hb2⟩; have HB2 := Lib.hid (HB1.out.below hb2 hs1); obtain ⟨q0, q1, q2, q3, q4⟩ := HB2.out; have hs2 := Nat.lt_of_lt_of_le hs1 hb2.size)
        | (go_at_call 14; refine (Put_is o s k v d b t w2 ho hs (by omega) (by omega) hb ht HP.out).mono ?_; rw [← HX.out]; rintro e w3 ⟨A3, n3, c3, rfl, hown3, hb3⟩; have hl3 := hown3.len; have hn3 : 5 ≤ n3 := (by omega); have hn3b : n3 ≤ 145 := (by omega); have hne3 : ((n3 : Int) == 0) = false := beqF (by omega); obtain ⟨y1, y2, y3, y4⟩ := cut_facts (C := C) (by omega) hown3.cap; have HG := Lib.hid (show gr (x.take (C % n3)) 0 b t = (nil, 0, 10) by have h := HCUT.out (C % n3) (by rw [← HX.out]; omega); rw [← HX.out] at h; exact h))
        | (go_at_call 20; refine (Get_f A3 (C % n3) c3 _ _ 0 b t w3 (hown3.rd.take (by omega)) (Nat.le_refl _) (by omega) (by omega) i0 hb ht HG.out).mono ?_; rintro e w4 ⟨rfl, hb4⟩))
      go_ret
      exact ⟨rfl, bel_alloc (bel_trans (bel_trans (bel_trans (bel_trans hw0 hb1) hb2) hb3) hb4) _⟩
  · have hfew1 : 300 < k.size ∨ 300 < v.size := by omega
    clear hfew
    go_enter Try.func7, Try.ntmps7
    go_wp2_with (first
      | (go_at_call 12; refine (live_any _).mono ?_; rintro e w1 ⟨rfl, hb1⟩; obtain ⟨p0, p1, p2, p3, p4⟩ := HB0.out.below hb1 hsz)
      | (go_at_call 13; refine (refFew_no o s k v d w1 hk hv hfew1).mono ?_; rintro e w2 ⟨rfl, hb2⟩))
    go_ret
    exact ⟨rfl, bel_trans (bel_trans hw0 hb1) hb2⟩
end Go.Proofs.Ytfjdalekpmlnaaa.Rec
