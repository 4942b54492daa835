/- The walk of EpochBoth. -/
import Derived.Test.YtmjnleohchmadaaEpoV
import Derived.Test.YtmjnleohchmadaaEpoD5
import Derived.Deep.DeepCutAuto
namespace Go.Proofs.Ytmjnleohchmadaa.Epo
open Go.RowKit Go.Proofs.Ytmjnleohchmadaa.Oct Go.Proofs.Ytmjnleohchmadaa.RowF Go.Proofs.Ytmjnleohchmadaa.Lay Go.Proofs.Ytmjnleohchmadaa.InR Go.Proofs.Ytmjnleohchmadaa.Bat

set_option maxRecDepth 100000 in
set_option maxHeartbeats 8000000 in
theorem epochBoth_walk (A B : Option Addr) (n c n2 c2 : Nat) (a b : List Ep) (ea eb : Int) (w : World) (hr : RdE w w.heap.size A n a) (hc : n ≤ c) (hr2 : RdE w w.heap.size B n2 b) (hc2 : n2 ≤ c2) :
    Calls Try.prog 7 #[.slice A n c, .slice B n2 c2, .int .i64 ea, .int .i64 eb] w fun e w' => e = .returned (.bool true) ∧ Below w.heap.size w w' := by
  have HR0 := Lib.hid hr
  have HQ0 := Lib.hid hr2
  have HB0 := Lib.hid (Below.refl w.heap.size w)
  clear hr hr2
  by_cases hn : (n : Int) ≤ 100
  case neg =>
    have HZ := Lib.hid (decide_eq_false hn)
    clear hn
    go_enter Try.func7, Try.ntmps7
    go_wp2_with (first
      | (go_at_call 11; (with_reducible refine (live_any _).mono ?_); rintro e w1 ⟨rfl, hb⟩; have HB1 := Lib.hid (bel_trans HB0.out hb); have HR_1 := Lib.hid (rdeUp HR0.out hb); have HQ_1 := Lib.hid (rdeUp HQ0.out hb); clear hb)
      | (go_at_call 12; (with_reducible refine (few_any A n c HZ.out _).mono ?_); rintro e w9 ⟨rfl, rfl⟩; skip))
    go_ret
    exact ⟨rfl, HB1.out⟩
  have HZ := Lib.hid (decide_eq_true hn)
  by_cases hn2 : (n2 : Int) ≤ 100
  case neg =>
    have HZ2 := Lib.hid (decide_eq_false hn2)
    clear hn2
    go_enter Try.func7, Try.ntmps7
    go_wp2_with (first
      | (go_at_call 11; (with_reducible refine (live_any _).mono ?_); rintro e w1 ⟨rfl, hb⟩; have HB1 := Lib.hid (bel_trans HB0.out hb); have HR_1 := Lib.hid (rdeUp HR0.out hb); have HQ_1 := Lib.hid (rdeUp HQ0.out hb); clear hb)
      | (go_at_call 12; (with_reducible refine (few_any A n c HZ.out _).mono ?_); rintro e w9 ⟨rfl, rfl⟩; skip)
      | (go_at_call 12; (with_reducible refine (few_any B n2 c2 HZ2.out _).mono ?_); rintro e w9 ⟨rfl, rfl⟩; skip))
    go_ret
    exact ⟨rfl, HB1.out⟩
  have HZ2 := Lib.hid (decide_eq_true hn2)
  have hn9 : n ≤ reach := Nat.le_trans (show n ≤ 100 by omega) (by decide)
  have hn29 : n2 ≤ reach := Nat.le_trans (show n2 ≤ 100 by omega) (by decide)
  have hn6 : n ≤ 1000000 := by omega
  have hn26 : n2 ≤ 1000000 := by omega
  obtain ⟨X, hX⟩ : ∃ X, meetE a ea b eb = X := ⟨_, rfl⟩
  have HX := Lib.hid hX
  have HX2 := Lib.hid (show meetE b eb a ea = X by rw [← meetE_comm]; exact hX)
  have hlen := HR0.out.len
  have hlen2 := HQ0.out.len
  by_cases oa : okE a = true
  case neg =>
    have HCA := Lib.hid (show ckE a = 1 by unfold ckE; rw [if_neg oa])
    have h0 : X = 0 := by rw [← hX]; unfold meetE; rw [if_neg (fun h => oa h.1)]
    subst h0
    clear hX hlen hlen2
    go_enter Try.func7, Try.ntmps7
    go_wp2_with (first
      | (go_at_call 11; (with_reducible refine (live_any _).mono ?_); rintro e w1 ⟨rfl, hb⟩; have HB1 := Lib.hid (bel_trans HB0.out hb); have HR_1 := Lib.hid (rdeUp HR0.out hb); have HQ_1 := Lib.hid (rdeUp HQ0.out hb); clear hb)
      | (go_at_call 12; (with_reducible refine (few_any A n c HZ.out _).mono ?_); rintro e w9 ⟨rfl, rfl⟩; skip)
      | (go_at_call 12; (with_reducible refine (few_any B n2 c2 HZ2.out _).mono ?_); rintro e w9 ⟨rfl, rfl⟩; skip)
      | (go_at_call 26; (with_reducible refine (dMeet_is A B n c n2 c2 a b ea eb _ HR_1.out HQ_1.out hn6 hn26 hc2 HX.out).mono ?_); rintro e w2 ⟨rfl, hb⟩; have HB2 := Lib.hid (bel_trans HB1.out hb); have HR_2 := Lib.hid (rdeUp HR_1.out hb); have HQ_2 := Lib.hid (rdeUp HQ_1.out hb); clear hb)
      | (go_at_call 26; (with_reducible refine (dMeet_is B A n2 c2 n c b a eb ea _ HQ_2.out HR_2.out hn26 hn6 hc HX2.out).mono ?_); rintro e w3 ⟨rfl, hb⟩; have HB3 := Lib.hid (bel_trans HB2.out hb); have HR_3 := Lib.hid (rdeUp HR_2.out hb); have HQ_3 := Lib.hid (rdeUp HQ_2.out hb); clear hb)
      | (go_at_call 17; (with_reducible refine (dCheck_is A n c a _ HR_3.out hn9 HCA.out).mono ?_); rintro e w4 ⟨rfl, hb⟩; have HB4 := Lib.hid (bel_trans HB3.out hb); have HR_4 := Lib.hid (rdeUp HR_3.out hb); have HQ_4 := Lib.hid (rdeUp HQ_3.out hb); clear hb))
    go_ret
    exact ⟨rfl, HB4.out⟩
  have HCA := Lib.hid (show ckE a = 0 by unfold ckE; rw [if_pos oa])
  by_cases ob : okE b = true
  case neg =>
    have HCB := Lib.hid (show ckE b = 1 by unfold ckE; rw [if_neg ob])
    have h0 : X = 0 := by rw [← hX]; unfold meetE; rw [if_neg (fun h => ob h.2)]
    subst h0
    clear hX hlen hlen2
    go_enter Try.func7, Try.ntmps7
    go_wp2_with (first
      | (go_at_call 11; (with_reducible refine (live_any _).mono ?_); rintro e w1 ⟨rfl, hb⟩; have HB1 := Lib.hid (bel_trans HB0.out hb); have HR_1 := Lib.hid (rdeUp HR0.out hb); have HQ_1 := Lib.hid (rdeUp HQ0.out hb); clear hb)
      | (go_at_call 12; (with_reducible refine (few_any A n c HZ.out _).mono ?_); rintro e w9 ⟨rfl, rfl⟩; skip)
      | (go_at_call 12; (with_reducible refine (few_any B n2 c2 HZ2.out _).mono ?_); rintro e w9 ⟨rfl, rfl⟩; skip)
      | (go_at_call 26; (with_reducible refine (dMeet_is A B n c n2 c2 a b ea eb _ HR_1.out HQ_1.out hn6 hn26 hc2 HX.out).mono ?_); rintro e w2 ⟨rfl, hb⟩; have HB2 := Lib.hid (bel_trans HB1.out hb); have HR_2 := Lib.hid (rdeUp HR_1.out hb); have HQ_2 := Lib.hid (rdeUp HQ_1.out hb); clear hb)
      | (go_at_call 26; (with_reducible refine (dMeet_is B A n2 c2 n c b a eb ea _ HQ_2.out HR_2.out hn26 hn6 hc HX2.out).mono ?_); rintro e w3 ⟨rfl, hb⟩; have HB3 := Lib.hid (bel_trans HB2.out hb); have HR_3 := Lib.hid (rdeUp HR_2.out hb); have HQ_3 := Lib.hid (rdeUp HQ_2.out hb); clear hb)
      | (go_at_call 17; (with_reducible refine (dCheck_is A n c a _ HR_3.out hn9 HCA.out).mono ?_); rintro e w4 ⟨rfl, hb⟩; have HB4 := Lib.hid (bel_trans HB3.out hb); have HR_4 := Lib.hid (rdeUp HR_3.out hb); have HQ_4 := Lib.hid (rdeUp HQ_3.out hb); clear hb)
      | (go_at_call 17; (with_reducible refine (dCheck_is B n2 c2 b _ HQ_4.out hn29 HCB.out).mono ?_); rintro e w5 ⟨rfl, hb⟩; have HB5 := Lib.hid (bel_trans HB4.out hb); have HR_5 := Lib.hid (rdeUp HR_4.out hb); have HQ_5 := Lib.hid (rdeUp HQ_4.out hb); clear hb))
    go_ret
    exact ⟨rfl, HB5.out⟩
  have HCB := Lib.hid (show ckE b = 0 by unfold ckE; rw [if_pos ob])
  by_cases h1 : n = 0
  case pos =>
    have hq1 : ((n : Int) == 0) = true := beq_iff_eq.2 (by omega)
    have ha0 : a = [] := List.length_eq_zero_iff.1 (hlen.trans h1)
    have h0 : X = 0 := by rw [← hX, ha0]; unfold meetE; split <;> rfl
    subst h0
    clear ha0 h1 hX hlen hlen2
    go_enter Try.func7, Try.ntmps7
    go_wp2_with (first
      | (go_at_call 11; (with_reducible refine (live_any _).mono ?_); rintro e w1 ⟨rfl, hb⟩; have HB1 := Lib.hid (bel_trans HB0.out hb); have HR_1 := Lib.hid (rdeUp HR0.out hb); have HQ_1 := Lib.hid (rdeUp HQ0.out hb); clear hb)
      | (go_at_call 12; (with_reducible refine (few_any A n c HZ.out _).mono ?_); rintro e w9 ⟨rfl, rfl⟩; skip)
      | (go_at_call 12; (with_reducible refine (few_any B n2 c2 HZ2.out _).mono ?_); rintro e w9 ⟨rfl, rfl⟩; skip)
      | (go_at_call 26; (with_reducible refine (dMeet_is A B n c n2 c2 a b ea eb _ HR_1.out HQ_1.out hn6 hn26 hc2 HX.out).mono ?_); rintro e w2 ⟨rfl, hb⟩; have HB2 := Lib.hid (bel_trans HB1.out hb); have HR_2 := Lib.hid (rdeUp HR_1.out hb); have HQ_2 := Lib.hid (rdeUp HQ_1.out hb); clear hb)
      | (go_at_call 26; (with_reducible refine (dMeet_is B A n2 c2 n c b a eb ea _ HQ_2.out HR_2.out hn26 hn6 hc HX2.out).mono ?_); rintro e w3 ⟨rfl, hb⟩; have HB3 := Lib.hid (bel_trans HB2.out hb); have HR_3 := Lib.hid (rdeUp HR_2.out hb); have HQ_3 := Lib.hid (rdeUp HQ_2.out hb); clear hb)
      | (go_at_call 17; (with_reducible refine (dCheck_is A n c a _ HR_3.out hn9 HCA.out).mono ?_); rintro e w4 ⟨rfl, hb⟩; have HB4 := Lib.hid (bel_trans HB3.out hb); have HR_4 := Lib.hid (rdeUp HR_3.out hb); have HQ_4 := Lib.hid (rdeUp HQ_3.out hb); clear hb)
      | (go_at_call 17; (with_reducible refine (dCheck_is B n2 c2 b _ HQ_4.out hn29 HCB.out).mono ?_); rintro e w5 ⟨rfl, hb⟩; have HB5 := Lib.hid (bel_trans HB4.out hb); have HR_5 := Lib.hid (rdeUp HR_4.out hb); have HQ_5 := Lib.hid (rdeUp HQ_4.out hb); clear hb))
    go_ret
    exact ⟨rfl, HB5.out⟩
  have hq1 : ((n : Int) == 0) = false := beq_eq_false_iff_ne.2 (by omega)
  by_cases h2 : n2 = 0
  case pos =>
    have hq2 : ((n2 : Int) == 0) = true := beq_iff_eq.2 (by omega)
    have hb0 : b = [] := List.length_eq_zero_iff.1 (hlen2.trans h2)
    clear h1
    have h0 : X = 0 := by rw [← hX, meetE_comm, hb0]; unfold meetE; split <;> rfl
    subst h0
    clear hb0 h2 hX hlen hlen2
    go_enter Try.func7, Try.ntmps7
    go_wp2_with (first
      | (go_at_call 11; (with_reducible refine (live_any _).mono ?_); rintro e w1 ⟨rfl, hb⟩; have HB1 := Lib.hid (bel_trans HB0.out hb); have HR_1 := Lib.hid (rdeUp HR0.out hb); have HQ_1 := Lib.hid (rdeUp HQ0.out hb); clear hb)
      | (go_at_call 12; (with_reducible refine (few_any A n c HZ.out _).mono ?_); rintro e w9 ⟨rfl, rfl⟩; skip)
      | (go_at_call 12; (with_reducible refine (few_any B n2 c2 HZ2.out _).mono ?_); rintro e w9 ⟨rfl, rfl⟩; skip)
      | (go_at_call 26; (with_reducible refine (dMeet_is A B n c n2 c2 a b ea eb _ HR_1.out HQ_1.out hn6 hn26 hc2 HX.out).mono ?_); rintro e w2 ⟨rfl, hb⟩; have HB2 := Lib.hid (bel_trans HB1.out hb); have HR_2 := Lib.hid (rdeUp HR_1.out hb); have HQ_2 := Lib.hid (rdeUp HQ_1.out hb); clear hb)
      | (go_at_call 26; (with_reducible refine (dMeet_is B A n2 c2 n c b a eb ea _ HQ_2.out HR_2.out hn26 hn6 hc HX2.out).mono ?_); rintro e w3 ⟨rfl, hb⟩; have HB3 := Lib.hid (bel_trans HB2.out hb); have HR_3 := Lib.hid (rdeUp HR_2.out hb); have HQ_3 := Lib.hid (rdeUp HQ_2.out hb); clear hb)
      | (go_at_call 17; (with_reducible refine (dCheck_is A n c a _ HR_3.out hn9 HCA.out).mono ?_); rintro e w4 ⟨rfl, hb⟩; have HB4 := Lib.hid (bel_trans HB3.out hb); have HR_4 := Lib.hid (rdeUp HR_3.out hb); have HQ_4 := Lib.hid (rdeUp HQ_3.out hb); clear hb)
      | (go_at_call 17; (with_reducible refine (dCheck_is B n2 c2 b _ HQ_4.out hn29 HCB.out).mono ?_); rintro e w5 ⟨rfl, hb⟩; have HB5 := Lib.hid (bel_trans HB4.out hb); have HR_5 := Lib.hid (rdeUp HR_4.out hb); have HQ_5 := Lib.hid (rdeUp HQ_4.out hb); clear hb))
    go_ret
    exact ⟨rfl, HB5.out⟩
  have hq2 : ((n2 : Int) == 0) = false := beq_eq_false_iff_ne.2 (by omega)
  obtain ⟨x, hx⟩ : ∃ x, a[n - 1]? = some x := ⟨a[n - 1]'(by omega), List.getElem?_eq_getElem _⟩
  obtain ⟨y, hy⟩ : ∃ y, b[n2 - 1]? = some y := ⟨b[n2 - 1]'(by omega), List.getElem?_eq_getElem _⟩
  obtain ⟨g, o, rfl, hg, hk, _, d1⟩ := ep_k HR0.out hx
  obtain ⟨g2, o2, rfl, hg2, hk2, _, d2⟩ := ep_k HQ0.out hy
  have HD1 := Lib.hid d1
  have HD2 := Lib.hid d2
  have HLE := Lib.hid (show x.st ≤ ea → y.st ≤ eb → 0 ≤ X ∧ X ≤ ea ∧ X ≤ eb from fun h3 h4 => hX ▸ meetE_le oa ob (by rw [List.getLast?_eq_getElem?, hlen]; exact hx) (by rw [List.getLast?_eq_getElem?, hlen2]; exact hy) h3 h4)
  obtain ⟨x0, x1⟩ := x
  obtain ⟨y0, y1⟩ := y
  simp only at d1 d2 HD1 HD2 HLE
  have hw1 : IntKind.i64.wrap ((n : Int) - 1) = (n : Int) - 1 := IntWalk.i64_in _ (by omega)
  have hw2 : IntKind.i64.wrap ((n2 : Int) - 1) = (n2 : Int) - 1 := IntWalk.i64_in _ (by omega)
  have hp1 : (0 : Int) ≤ (n : Int) - 1 := by omega
  have hp2 : (0 : Int) ≤ (n2 : Int) - 1 := by omega
  have hp3 : (n : Int) - 1 < (n : Int) := by omega
  have hp4 : (n2 : Int) - 1 < (n2 : Int) := by omega
  have hp5 : ((n : Int) - 1).toNat = n - 1 := by omega
  have hp6 : ((n2 : Int) - 1).toNat = n2 - 1 := by omega
  have hp7 : (0 : Int) < (n : Int) := by omega
  have hp8 : (0 : Int) < (n2 : Int) := by omega
  clear hX hlen hlen2 h1 h2 hx hy d1 d2 oa ob hn hn2
  go_enter Try.func7, Try.ntmps7
  go_upto_region 10 with (first
    | (go_at_call 11; (with_reducible refine (live_any _).mono ?_); rintro e w1 ⟨rfl, hb⟩; have HB1 := Lib.hid (bel_trans HB0.out hb); have HR_1 := Lib.hid (rdeUp HR0.out hb); have HQ_1 := Lib.hid (rdeUp HQ0.out hb); clear hb)
    | (go_at_call 12; (with_reducible refine (few_any (some ⟨g, o, none⟩) n c HZ.out _).mono ?_); rintro e w9 ⟨rfl, rfl⟩; skip)
    | (go_at_call 12; (with_reducible refine (few_any (some ⟨g2, o2, none⟩) n2 c2 HZ2.out _).mono ?_); rintro e w9 ⟨rfl, rfl⟩; skip)
    | (go_at_call 26; (with_reducible refine (dMeet_is (some ⟨g, o, none⟩) (some ⟨g2, o2, none⟩) n c n2 c2 a b ea eb _ HR_1.out HQ_1.out hn6 hn26 hc2 HX.out).mono ?_); rintro e w2 ⟨rfl, hb⟩; have HB2 := Lib.hid (bel_trans HB1.out hb); have HR_2 := Lib.hid (rdeUp HR_1.out hb); have HQ_2 := Lib.hid (rdeUp HQ_1.out hb); clear hb)
    | (go_at_call 26; (with_reducible refine (dMeet_is (some ⟨g2, o2, none⟩) (some ⟨g, o, none⟩) n2 c2 n c b a eb ea _ HQ_2.out HR_2.out hn26 hn6 hc HX2.out).mono ?_); rintro e w3 ⟨rfl, hb⟩; have HB3 := Lib.hid (bel_trans HB2.out hb); have HR_3 := Lib.hid (rdeUp HR_2.out hb); have HQ_3 := Lib.hid (rdeUp HQ_2.out hb); clear hb)
    | (go_at_call 17; (with_reducible refine (dCheck_is (some ⟨g, o, none⟩) n c a _ HR_3.out hn9 HCA.out).mono ?_); rintro e w4 ⟨rfl, hb⟩; have HB4 := Lib.hid (bel_trans HB3.out hb); have HR_4 := Lib.hid (rdeUp HR_3.out hb); have HQ_4 := Lib.hid (rdeUp HQ_3.out hb); clear hb)
    | (go_at_call 17; (with_reducible refine (dCheck_is (some ⟨g2, o2, none⟩) n2 c2 b _ HQ_4.out hn29 HCB.out).mono ?_); rintro e w5 ⟨rfl, hb⟩; have HB5 := Lib.hid (bel_trans HB4.out hb); have HR_5 := Lib.hid (rdeUp HR_4.out hb); have HQ_5 := Lib.hid (rdeUp HQ_4.out hb); clear hb))
  have e1 := (HB5.out.cell (p := ⟨g, o + (n - 1) * 2 + 1, none⟩) hg).trans HD1.out
  have e2 := (HB5.out.cell (p := ⟨g2, o2 + (n2 - 1) * 2 + 1, none⟩) hg2).trans HD2.out
  have hbd := bel_drew HB5.out
  have HBD := Lib.hid hbd
  clear hbd
  go_region
  by_cases h3 : ea < x1
  · go_wp2
    go_ret
    exact ⟨rfl, HBD.out⟩
  by_cases h4 : eb < y1
  · go_wp2
    go_ret
    exact ⟨rfl, HBD.out⟩
  obtain ⟨m1, m2, m3⟩ := HLE.out (by omega) (by omega)
  go_wp2
  go_ret
  exact ⟨rfl, HBD.out⟩
end Go.Proofs.Ytmjnleohchmadaa.Epo
