/- Joined: EpoL3. -/
import Derived.Test.YtmjnleohchmadaaEpoV
import Derived.Test.YtmjnleohchmadaaEpoD5
import Derived.Test.YtmjnleohchmadaaEpoD6
import Derived.Test.YtmjnleohchmadaaEpoR5
import Derived.Test.YtmjnleohchmadaaEpoR6
import Derived.Test.YtmjnleohchmadaaEpoRS
import Derived.Test.YtmjnleohchmadaaJBatK
import Derived.Deep.DeepCutAuto
/- The walk of EpochMeets. -/
namespace Go.Proofs.Ytmjnleohchmadaa.Epo
open Go.RowKit Go.Proofs.Ytmjnleohchmadaa.Oct Go.Proofs.Ytmjnleohchmadaa.RowF Go.Proofs.Ytmjnleohchmadaa.Lay Go.Proofs.Ytmjnleohchmadaa.InR Go.Proofs.Ytmjnleohchmadaa.Bat

theorem rdlUp9 {w w' : World} {A : Option Addr} {n : Nat} {l : List Bt} (h : RdL w w.heap.size A n l) (hb : Below w.heap.size w w') : RdL w' w'.heap.size A n l := (h.below hb (Nat.le_refl _)).more hb.size
theorem ofE_len (ps : List (Int × Int)) (l : List Ep) : (ofE l ps).length ≤ l.length + ps.length := by
  induction ps generalizing l with
  | nil => exact Nat.le_refl _
  | cons p ps ih =>
    rw [ofE_cons]
    refine Nat.le_trans (ih _) ?_
    rw [List.length_cons]
    split
    · rcases hP : putE l p.1 p.2 with ⟨x, e⟩
      have := putE_len hP
      simp only
      omega
    · omega
set_option maxRecDepth 100000 in
set_option maxHeartbeats 8000000 in
theorem epochMeets_walk (A B E : Option Addr) (n c n2 c2 n3 c3 : Nat) (a b : List Ep) (ea eb : Int) (bs : List Bt) (w : World) (hr : RdE w w.heap.size A n a) (hr2 : RdE w w.heap.size B n2 b) (hc2 : n2 ≤ c2) (hl : RdL w w.heap.size E n3 bs) (h3 : n3 ≤ reach) :
    Calls Try.prog 5 #[.slice A n c, .slice B n2 c2, .int .i64 ea, .int .i64 eb, .slice E n3 c3] w fun e w' => e = .returned (.bool true) ∧ Below w.heap.size w w' := by
  have HR0 := Lib.hid hr
  have HQ0 := Lib.hid hr2
  have HL0 := Lib.hid hl
  have HB0 := Lib.hid (Below.refl w.heap.size w)
  clear hr hr2 hl
  by_cases hn : (n : Int) ≤ 100
  case neg =>
    have HZ := Lib.hid (decide_eq_false hn)
    clear hn
    go_enter Try.func5, Try.ntmps5
    go_wp2_with (first
      | (go_at_call 11; (with_reducible refine (live_any _).mono ?_); rintro e w1 ⟨rfl, hb⟩; have HB1 := Lib.hid (bel_trans HB0.out hb); have HR_1 := Lib.hid (rdeUp HR0.out hb); have HQ_1 := Lib.hid (rdeUp HQ0.out hb); have HL_1 := Lib.hid (rdlUp9 HL0.out hb); clear hb)
      | (go_at_call 12; (with_reducible refine (few_any A n c HZ.out _).mono ?_); rintro e w9 ⟨rfl, rfl⟩; skip))
    go_ret
    exact ⟨rfl, HB1.out⟩
  have HZ := Lib.hid (decide_eq_true hn)
  by_cases hn2 : (n2 : Int) ≤ 100
  case neg =>
    have HZ2 := Lib.hid (decide_eq_false hn2)
    clear hn hn2
    go_enter Try.func5, Try.ntmps5
    go_wp2_with (first
      | (go_at_call 11; (with_reducible refine (live_any _).mono ?_); rintro e w1 ⟨rfl, hb⟩; have HB1 := Lib.hid (bel_trans HB0.out hb); have HR_1 := Lib.hid (rdeUp HR0.out hb); have HQ_1 := Lib.hid (rdeUp HQ0.out hb); have HL_1 := Lib.hid (rdlUp9 HL0.out hb); clear hb)
      | (go_at_call 12; (with_reducible refine (few_any A n c HZ.out _).mono ?_); rintro e w9 ⟨rfl, rfl⟩; skip)
      | (go_at_call 12; (with_reducible refine (few_any B n2 c2 HZ2.out _).mono ?_); rintro e w9 ⟨rfl, rfl⟩; skip))
    go_ret
    exact ⟨rfl, HB1.out⟩
  have HZ2 := Lib.hid (decide_eq_true hn2)
  cases h9 : (bs.all fewT && decide ((bs.length : Int) ≤ 60)) with
  | false =>
    have HZ3 := Lib.hid h9
    clear hn hn2 h9
    go_enter Try.func5, Try.ntmps5
    go_wp2_with (first
      | (go_at_call 11; (with_reducible refine (live_any _).mono ?_); rintro e w1 ⟨rfl, hb⟩; have HB1 := Lib.hid (bel_trans HB0.out hb); have HR_1 := Lib.hid (rdeUp HR0.out hb); have HQ_1 := Lib.hid (rdeUp HQ0.out hb); have HL_1 := Lib.hid (rdlUp9 HL0.out hb); clear hb)
      | (go_at_call 12; (with_reducible refine (few_any A n c HZ.out _).mono ?_); rintro e w9 ⟨rfl, rfl⟩; skip)
      | (go_at_call 12; (with_reducible refine (few_any B n2 c2 HZ2.out _).mono ?_); rintro e w9 ⟨rfl, rfl⟩; skip)
      | (go_at_call 25; (with_reducible refine (refFewAll_is bs E n3 c3 60 _ HL_1.out h3 HZ3.out).mono ?_); rintro e w2 ⟨rfl, hb⟩; have HB2 := Lib.hid (bel_trans HB1.out hb); have HR_2 := Lib.hid (rdeUp HR_1.out hb); have HQ_2 := Lib.hid (rdeUp HQ_1.out hb); have HL_2 := Lib.hid (rdlUp9 HL_1.out hb); clear hb))
    go_ret
    exact ⟨rfl, HB2.out⟩
  | true =>
    have HZ3 := Lib.hid h9
    rw [Bool.and_eq_true, decide_eq_true_eq] at h9
    have HT0 := Lib.hid (rdT_of HL0.out h9.1)
    have hl3 : bs.length = n3 := HT0.out.len
    have hn3 : n3 ≤ 1000000 := by have := h9.2; omega
    have hof : (ofE [] (psB bs)).length ≤ 60 := Nat.le_trans (ofE_len _ _) (by unfold psB; rw [List.length_map]; have := h9.2; simp only [List.length_nil]; omega)
    have hn6 : n ≤ 1000000 := by omega
    have hn7 : n2 ≤ 1000000 := by omega
    obtain ⟨X, hX⟩ : ∃ X, meetE a ea b eb = X := ⟨_, rfl⟩
    have HX := Lib.hid hX
    clear hn hn2 h9 hl3 hX
    go_enter Try.func5, Try.ntmps5
    go_wp2_with (first
      | (go_at_call 11; (with_reducible refine (live_any _).mono ?_); rintro e w1 ⟨rfl, hb⟩; have HB1 := Lib.hid (bel_trans HB0.out hb); have HR_1 := Lib.hid (rdeUp HR0.out hb); have HQ_1 := Lib.hid (rdeUp HQ0.out hb); have HL_1 := Lib.hid (rdlUp9 HL0.out hb); have HT_1 := Lib.hid (rdtUp9 HT0.out hb); clear hb)
      | (go_at_call 12; (with_reducible refine (few_any A n c HZ.out _).mono ?_); rintro e w9 ⟨rfl, rfl⟩; skip)
      | (go_at_call 12; (with_reducible refine (few_any B n2 c2 HZ2.out _).mono ?_); rintro e w9 ⟨rfl, rfl⟩; skip)
      | (go_at_call 25; (with_reducible refine (refFewAll_is bs E n3 c3 60 _ HL_1.out h3 HZ3.out).mono ?_); rintro e w2 ⟨rfl, hb⟩; have HB2 := Lib.hid (bel_trans HB1.out hb); have HR_2 := Lib.hid (rdeUp HR_1.out hb); have HQ_2 := Lib.hid (rdeUp HQ_1.out hb); have HL_2 := Lib.hid (rdlUp9 HL_1.out hb); have HT_2 := Lib.hid (rdtUp9 HT_1.out hb); clear hb)
      | (go_at_call 26; (with_reducible refine (dMeet_is A B n c n2 c2 a b ea eb _ HR_2.out HQ_2.out hn6 hn7 hc2 HX.out).mono ?_); rintro e w3 ⟨rfl, hb⟩; have HB3 := Lib.hid (bel_trans HB2.out hb); have HR_3 := Lib.hid (rdeUp HR_2.out hb); have HQ_3 := Lib.hid (rdeUp HQ_2.out hb); have HL_3 := Lib.hid (rdlUp9 HL_2.out hb); have HT_3 := Lib.hid (rdtUp9 HT_2.out hb); clear hb)
      | (go_at_call 27; (with_reducible refine (rMeet_is A B n c n2 c2 a b ea eb _ HR_3.out HQ_3.out hn6 hn7 HX.out).mono ?_); rintro e w4 ⟨rfl, hb⟩; have HB4 := Lib.hid (bel_trans HB3.out hb); have HR_4 := Lib.hid (rdeUp HR_3.out hb); have HQ_4 := Lib.hid (rdeUp HQ_3.out hb); have HL_4 := Lib.hid (rdlUp9 HL_3.out hb); have HT_4 := Lib.hid (rdtUp9 HT_3.out hb); clear hb)
      | (go_at_call 28; (with_reducible refine (dOf_is E n3 c3 bs _ HT_4.out hn3).mono ?_); rintro e w5 ⟨A5, m5, c5, rfl, ho, hb⟩; have HB5 := Lib.hid (bel_trans HB4.out hb); have HR_5 := Lib.hid (rdeUp HR_4.out hb); have HQ_5 := Lib.hid (rdeUp HQ_4.out hb); have HL_5 := Lib.hid (rdlUp9 HL_4.out hb); have HT_5 := Lib.hid (rdtUp9 HT_4.out hb); have HU_5 := Lib.hid (OwnF.rd epS ho); have hm6 : m5 ≤ 60 := (by have := OwnF.len epS ho; omega); have HLU := Lib.hid (OwnF.len epS ho); clear hb ho)
      | (go_at_call 29; (with_reducible refine (rOf_is E n3 c3 bs _ HT_5.out hn3).mono ?_); rintro e w6 ⟨A6, m6, c6, rfl, ho, hb⟩; have HB6 := Lib.hid (bel_trans HB5.out hb); have HR_6 := Lib.hid (rdeUp HR_5.out hb); have HQ_6 := Lib.hid (rdeUp HQ_5.out hb); have HU_6 := Lib.hid (rdeUp HU_5.out hb); have HL_6 := Lib.hid (rdlUp9 HL_5.out hb); have HT_6 := Lib.hid (rdtUp9 HT_5.out hb); have HV_6 := Lib.hid (OwnF.rd epS ho); obtain rfl : m6 = m5 := (by rw [← OwnF.len epS ho, HLU.out]); clear hb ho)
      | (go_at_call 16; (with_reducible refine (rSame_yes A5 m6 c5 (ofE [] (psB bs)) A6 m6 c6 _ HU_6.out HV_6.out (by omega)).mono ?_); rintro e w7 ⟨rfl, hb⟩; have HB7 := Lib.hid (bel_trans HB6.out hb); have HR_7 := Lib.hid (rdeUp HR_6.out hb); have HQ_7 := Lib.hid (rdeUp HQ_6.out hb); have HU_7 := Lib.hid (rdeUp HU_6.out hb); have HV_7 := Lib.hid (rdeUp HV_6.out hb); have HL_7 := Lib.hid (rdlUp9 HL_6.out hb); have HT_7 := Lib.hid (rdtUp9 HT_6.out hb); clear hb))
    go_ret
    exact ⟨rfl, HB7.out⟩
end Go.Proofs.Ytmjnleohchmadaa.Epo
