/- The walk of EpochEnds. -/
import Derived.Test.YtmjnleohchmadaaEpoV
import Derived.Test.YtmjnleohchmadaaEpoRS
import Derived.Deep.DeepCutAuto
namespace Go.Proofs.Ytmjnleohchmadaa.Epo
open Go.RowKit Go.Proofs.Ytmjnleohchmadaa.Oct Go.Proofs.Ytmjnleohchmadaa.RowF Go.Proofs.Ytmjnleohchmadaa.Lay Go.Proofs.Ytmjnleohchmadaa.InR Go.Proofs.Ytmjnleohchmadaa.Bat

def endsRel (n : Nat) (w : World) (vi : Value) (wr : World) : Prop := ∃ k : Nat, vi = .int .i64 (k : Int) ∧ k ≤ n ∧ Below w.heap.size w wr
theorem ends_at {l : List Ep} {k : Nat} {x : Ep} {last : Int} (h : okE l = true) (hk : l[k]? = some x) : endOf l x.ep last = (x.ep, nx (l.drop (k + 1)) last) := by
  unfold endOf
  rw [if_pos h]
  exact endO_at h hk (Int.le_refl _) fun y hy => (upE_at h (Nat.lt_succ_self k) hk hy).1
theorem ends_first {l : List Ep} {x : Ep} {last : Int} (h : okE l = true) (hk : l[0]? = some x) : endOf l (x.ep - 1) last = (-1, 0) := by
  unfold endOf
  rw [if_pos h]
  refine endO_skip fun y hy => ?_
  obtain ⟨j, hj⟩ := List.mem_iff_getElem?.1 hy
  cases j with
  | zero => obtain rfl : x = y := Option.some.inj (hk.symm.trans hj); omega
  | succ j => have := (upE_at h (Nat.succ_pos j) hk hj).1; omega
theorem ends_later {l : List Ep} {k : Nat} {x y : Ep} {last : Int} (h : okE l = true) (hk : l[k + 1]? = some x) (hy : l[k]? = some y) : endOf l (x.ep - 1) last = (y.ep, x.st) := by
  have h1 := (upE_at h (Nat.lt_succ_self k) hy hk).1
  unfold endOf
  rw [if_pos h, endO_at h hy (by omega) fun z hz => by obtain rfl : x = z := Option.some.inj (hk.symm.trans hz); omega]
  rw [List.drop_eq_getElem_cons (List.getElem?_eq_some_iff.1 hk).1, (List.getElem?_eq_some_iff.1 hk).2]
  rfl
set_option maxRecDepth 100000 in
set_option maxHeartbeats 8000000 in
theorem epochEnds_walk (A : Option Addr) (n c : Nat) (l : List Ep) (last : Int) (w : World) (hr : RdE w w.heap.size A n l) (_hc : n ≤ c) :
    Calls Try.prog 9 #[.slice A n c, .int .i64 last] w fun e w' => e = .returned (.bool true) ∧ Below w.heap.size w w' := by
  have HR0 := Lib.hid hr
  have HB0 := Lib.hid (Below.refl w.heap.size w)
  clear hr
  by_cases hn : (n : Int) ≤ 100
  case neg =>
    have HZ := Lib.hid (decide_eq_false hn)
    clear hn
    go_enter Try.func9, Try.ntmps9
    go_wp2_with (first
      | (go_at_call 11; (with_reducible refine (live_any _).mono ?_); rintro e w1 ⟨rfl, hb⟩; have HB1 := Lib.hid (bel_trans HB0.out hb); have HR_1 := Lib.hid (rdeUp HR0.out hb); clear hb)
      | (go_at_call 12; (with_reducible refine (few_any A n c HZ.out _).mono ?_); rintro e w9 ⟨rfl, rfl⟩; skip))
    go_ret
    exact ⟨rfl, HB1.out⟩
  have HZ := Lib.hid (decide_eq_true hn)
  have hn9 : n ≤ reach := Nat.le_trans (show n ≤ 100 by omega) (by decide)
  have hn6 : n ≤ 1000000 := by omega
  cases hok : okE l with
  | false =>
    have HC := Lib.hid (show ckE l = 1 by unfold ckE; rw [hok]; rfl)
    clear hok hn
    go_enter Try.func9, Try.ntmps9
    go_wp2_with (first
      | (go_at_call 11; (with_reducible refine (live_any _).mono ?_); rintro e w1 ⟨rfl, hb⟩; have HB1 := Lib.hid (bel_trans HB0.out hb); have HR_1 := Lib.hid (rdeUp HR0.out hb); clear hb)
      | (go_at_call 12; (with_reducible refine (few_any A n c HZ.out _).mono ?_); rintro e w9 ⟨rfl, rfl⟩; skip)
      | (go_at_call 17; (with_reducible refine (dCheck_is A n c l _ HR_1.out hn9 HC.out).mono ?_); rintro e w2 ⟨rfl, hb⟩; have HB2 := Lib.hid (bel_trans HB1.out hb); have HR_2 := Lib.hid (rdeUp HR_1.out hb); clear hb))
    go_ret
    exact ⟨rfl, HB2.out⟩
  | true =>
    have HC := Lib.hid (show ckE l = 0 by unfold ckE; rw [hok]; rfl)
    have HOK := Lib.hid hok
    clear hok hn
    go_enter Try.func9, Try.ntmps9
    go_wp2_with (first
      | (go_at_call 11; (with_reducible refine (live_any _).mono ?_); rintro e w1 ⟨rfl, hb⟩; have HB1 := Lib.hid (bel_trans HB0.out hb); have HR_1 := Lib.hid (rdeUp HR0.out hb); clear hb)
      | (go_at_call 12; (with_reducible refine (few_any A n c HZ.out _).mono ?_); rintro e w9 ⟨rfl, rfl⟩; skip)
      | (go_at_call 17; (with_reducible refine (dCheck_is A n c l _ HR_1.out hn9 HC.out).mono ?_); rintro e w2 ⟨rfl, hb⟩; have HB2 := Lib.hid (bel_trans HB1.out hb); have HR_2 := Lib.hid (rdeUp HR_1.out hb); clear hb))
    go_loopw [24] (fun vi wr => endsRel n w2 vi wr) (fun vi _ => n - (intOf vi).toNat)
    case atStart => exact ⟨0, rfl, Nat.zero_le _, Below.refl _ _⟩
    case round =>
      obtain ⟨k, rfl, hk, hb⟩ := hrel
      have HB3 := Lib.hid (bel_trans HB2.out hb)
      have HZ3 := Lib.hid hb
      have HR3 := Lib.hid (rdeUp HR_2.out hb)
      clear hb
      by_cases hlt : k < n
      · obtain ⟨g, o, ⟨x0, x1⟩, rfl, hbl, hxk, d0, d1⟩ := ep_at HR3.out hlt
        simp only at d0 d1
        have HE := Lib.hid (ends_at (last := last) HOK.out hxk)
        have HXK := Lib.hid hxk
        have hbd := upE_mem HOK.out ⟨x0, x1⟩ (List.mem_of_getElem? hxk)
        simp only at hbd
        have hkl : (k : Int) < (n : Int) := by omega
        have hk0 : (0 : Int) ≤ (k : Int) := by omega
        have hw1 : IntKind.i64.wrap ((k : Int) + 1) = (k : Int) + 1 := IntWalk.i64_in _ (by omega)
        have hw2 : IntKind.i64.wrap (x0 - 1) = x0 - 1 := IntWalk.i64_in _ (by omega)
        clear hxk hbd
        go_upto_region 8 with fail
        have hba := belA wr (.cells #[.int .i64 x0, .int .i64 x1] 32)
        have HX := Lib.hid (At0.new wr [.int .i64 x0, .int .i64 x1] 32)
        have HR4 := Lib.hid (rdeUp HR3.out hba)
        have HZ4 := Lib.hid (bel_trans HZ3.out hba)
        clear hba d0 d1 hbl HR3 HZ3 HB3
        generalize (wr.alloc (.cells #[.int .i64 x0, .int .i64 x1] 32)) = w4 at *
        obtain ⟨c0, c1⟩ := cel2 HX.out
        obtain ⟨N1, hN1⟩ : ∃ N1, nx (l.drop (k + 1)) last = N1 := ⟨_, rfl⟩
        rw [hN1] at HE
        rcases Nat.eq_zero_or_pos k with hkz | hkp
        · have HE2 := Lib.hid (ends_first (last := last) HOK.out (show l[0]? = some ⟨x0, x1⟩ by rw [← hkz]; exact HXK.out))
          simp only at HE2
          have hkT : ((k : Int) == 0) = true := beqT (by omega)
          have hkP : ¬ (0 : Int) < (k : Int) := by omega
          clear hkz HXK
          by_cases hl1 : k + 1 < n
          · obtain ⟨g', o', ⟨z0, z1⟩, hA0, hbl, hzk, e0, e1⟩ := ep_at (k := k + 1) HR4.out hl1
            obtain ⟨rfl, rfl⟩ : g = g' ∧ o = o' := by injection hA0 with h; injection h with h1 h2; exact ⟨h1, h2⟩
            simp only at e0 e1
            have HN := Lib.hid (AtO.two hbl e0 e1)
            obtain rfl : z1 = N1 := by rw [← hN1, drop_at9 hzk]; rfl
            have hq2 : (0 : Int) ≤ (k : Int) + 1 := by omega
            have hq3 : (k : Int) + 1 < (n : Int) := by omega
            have hq4 : ((k : Int) + 1).toNat = k + 1 := by omega
            clear hA0 hzk e0 e1 hN1 hbl hl1
            go_wp2_with (first
              | (go_at_call 19; (with_reducible refine (dEndOf_is (some ⟨g, o, none⟩) n c l x0 last _ HR4.out hn6 HE.out).mono ?_); rintro e w5 ⟨rfl, hb⟩; have HX5 := Lib.hid (HX.out.below hb); obtain ⟨c50, c51⟩ := cel2 HX5.out; have HR5 := Lib.hid (rdeUp HR4.out hb); have HZ5 := Lib.hid (bel_trans HZ4.out hb); have HN5 := Lib.hid (HN.out.below hb); obtain ⟨n50, n51⟩ := del2 HN5.out; clear hb)
              | (go_at_call 19; (with_reducible refine (dEndOf_is (some ⟨g, o, none⟩) n c l (x0 - 1) last _ HR5.out hn6 HE2.out).mono ?_); rintro e w6 ⟨rfl, hb⟩; have HX6 := Lib.hid (HX5.out.below hb); obtain ⟨c60, c61⟩ := cel2 HX6.out; have HZ6 := Lib.hid (bel_trans HZ5.out hb); clear hb))
            go_roundw
            case rel => exact ⟨k + 1, by go_num, by omega, HZ6.out⟩
            case measure => simp [intOf]; omega
          · obtain rfl : last = N1 := by rw [← hN1, List.drop_of_length_le (by have := HR4.out.len; omega)]; rfl
            have hq3 : ¬ (k : Int) + 1 < (n : Int) := by omega
            clear hN1 hl1
            go_wp2_with (first
              | (go_at_call 19; (with_reducible refine (dEndOf_is (some ⟨g, o, none⟩) n c l x0 last _ HR4.out hn6 HE.out).mono ?_); rintro e w5 ⟨rfl, hb⟩; have HX5 := Lib.hid (HX.out.below hb); obtain ⟨c50, c51⟩ := cel2 HX5.out; have HR5 := Lib.hid (rdeUp HR4.out hb); have HZ5 := Lib.hid (bel_trans HZ4.out hb); clear hb)
              | (go_at_call 19; (with_reducible refine (dEndOf_is (some ⟨g, o, none⟩) n c l (x0 - 1) last _ HR5.out hn6 HE2.out).mono ?_); rintro e w6 ⟨rfl, hb⟩; have HX6 := Lib.hid (HX5.out.below hb); obtain ⟨c60, c61⟩ := cel2 HX6.out; have HZ6 := Lib.hid (bel_trans HZ5.out hb); clear hb))
            go_roundw
            case rel => exact ⟨k + 1, by go_num, by omega, HZ6.out⟩
            case measure => simp [intOf]; omega
        · obtain ⟨g', o', ⟨y0, y1⟩, hA0, hbl, hyk, e0, e1⟩ := ep_at (k := k - 1) HR4.out (by omega)
          obtain ⟨rfl, rfl⟩ : g = g' ∧ o = o' := by injection hA0 with h; injection h with h1 h2; exact ⟨h1, h2⟩
          simp only at e0 e1
          have HP := Lib.hid (AtO.two hbl e0 e1)
          have HE2 := Lib.hid (ends_later (last := last) (k := k - 1) HOK.out (by rw [show k - 1 + 1 = k by omega]; exact HXK.out) hyk)
          simp only at HE2
          have hkT : ((k : Int) == 0) = false := beqF (by omega)
          have hkP : (0 : Int) < (k : Int) := by omega
          have hw3 : IntKind.i64.wrap ((k : Int) - 1) = (k : Int) - 1 := IntWalk.i64_in _ (by omega)
          have hq5 : ((k : Int) - 1).toNat = k - 1 := by omega
          have hq6 : (0 : Int) ≤ (k : Int) - 1 := by omega
          have hq7 : (k : Int) - 1 < (n : Int) := by omega
          have hq8 : (1 : Int) ≤ (k : Int) := by omega
          clear hA0 hyk e0 e1 hbl HXK
          by_cases hl1 : k + 1 < n
          · obtain ⟨g', o', ⟨z0, z1⟩, hA0, hbl, hzk, e0, e1⟩ := ep_at (k := k + 1) HR4.out hl1
            obtain ⟨rfl, rfl⟩ : g = g' ∧ o = o' := by injection hA0 with h; injection h with h1 h2; exact ⟨h1, h2⟩
            simp only at e0 e1
            have HN := Lib.hid (AtO.two hbl e0 e1)
            obtain rfl : z1 = N1 := by rw [← hN1, drop_at9 hzk]; rfl
            have hq2 : (0 : Int) ≤ (k : Int) + 1 := by omega
            have hq3 : (k : Int) + 1 < (n : Int) := by omega
            have hq4 : ((k : Int) + 1).toNat = k + 1 := by omega
            clear hA0 hzk e0 e1 hN1 hbl hl1
            go_wp2_with (first
              | (go_at_call 19; (with_reducible refine (dEndOf_is (some ⟨g, o, none⟩) n c l x0 last _ HR4.out hn6 HE.out).mono ?_); rintro e w5 ⟨rfl, hb⟩; have HX5 := Lib.hid (HX.out.below hb); obtain ⟨c50, c51⟩ := cel2 HX5.out; have HR5 := Lib.hid (rdeUp HR4.out hb); have HZ5 := Lib.hid (bel_trans HZ4.out hb); have HN5 := Lib.hid (HN.out.below hb); obtain ⟨n50, n51⟩ := del2 HN5.out; have HP5 := Lib.hid (HP.out.below hb); clear hb)
              | (go_at_call 19; (with_reducible refine (dEndOf_is (some ⟨g, o, none⟩) n c l (x0 - 1) last _ HR5.out hn6 HE2.out).mono ?_); rintro e w6 ⟨rfl, hb⟩; have HX6 := Lib.hid (HX5.out.below hb); obtain ⟨c60, c61⟩ := cel2 HX6.out; have HZ6 := Lib.hid (bel_trans HZ5.out hb); have HP6 := Lib.hid (HP5.out.below hb); obtain ⟨p60, p61⟩ := del2 HP6.out; clear hb))
            go_roundw
            case rel => exact ⟨k + 1, by go_num, by omega, HZ6.out⟩
            case measure => simp [intOf]; omega
          · obtain rfl : last = N1 := by rw [← hN1, List.drop_of_length_le (by have := HR4.out.len; omega)]; rfl
            have hq3 : ¬ (k : Int) + 1 < (n : Int) := by omega
            clear hN1 hl1
            go_wp2_with (first
              | (go_at_call 19; (with_reducible refine (dEndOf_is (some ⟨g, o, none⟩) n c l x0 last _ HR4.out hn6 HE.out).mono ?_); rintro e w5 ⟨rfl, hb⟩; have HX5 := Lib.hid (HX.out.below hb); obtain ⟨c50, c51⟩ := cel2 HX5.out; have HR5 := Lib.hid (rdeUp HR4.out hb); have HZ5 := Lib.hid (bel_trans HZ4.out hb); have HP5 := Lib.hid (HP.out.below hb); clear hb)
              | (go_at_call 19; (with_reducible refine (dEndOf_is (some ⟨g, o, none⟩) n c l (x0 - 1) last _ HR5.out hn6 HE2.out).mono ?_); rintro e w6 ⟨rfl, hb⟩; have HX6 := Lib.hid (HX5.out.below hb); obtain ⟨c60, c61⟩ := cel2 HX6.out; have HZ6 := Lib.hid (bel_trans HZ5.out hb); have HP6 := Lib.hid (HP5.out.below hb); obtain ⟨p60, p61⟩ := del2 HP6.out; clear hb))
            go_roundw
            case rel => exact ⟨k + 1, by go_num, by omega, HZ6.out⟩
            case measure => simp [intOf]; omega
      · obtain rfl : k = n := by omega
        clear hlt
        go_wp2
        go_ret
        exact ⟨rfl, HB3.out⟩
end Go.Proofs.Ytmjnleohchmadaa.Epo
