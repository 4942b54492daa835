/- Joined: EpoR6. -/
import Derived.Test.YtmjnleohchmadaaEpoR3
/- The document's Meet. -/
namespace Go.Proofs.Ytmjnleohchmadaa.Epo
open Go.RowKit Go.Proofs.Ytmjnleohchmadaa.Oct Go.Proofs.Ytmjnleohchmadaa.RowF Go.Proofs.Ytmjnleohchmadaa.Lay Go.Proofs.Ytmjnleohchmadaa.InR

theorem meetG_cons {q E eb m : Int} {y : Ep} {b : List Ep} : meetG q E eb (y :: b) m = meetG q E eb b (if q = y.ep then min E (nx b eb) else m) := rfl
def meetOut (ea eb : Int) (a b : List Ep) (X : Int) (n : Nat) (w : World) (vm vi : Value) (wr : World) : Prop :=
  ∃ (k : Nat) (m : Int), vi = .int .i64 (k : Int) ∧ vm = .int .i64 m ∧ k ≤ n ∧ meetF ea b eb (a.drop k) m = X ∧ Below w.heap.size w wr
def meetIn (q E eb : Int) (b : List Ep) (X : Int) (n : Nat) (w : World) (vm vi : Value) (wr : World) : Prop :=
  ∃ (j : Nat) (m : Int), vi = .int .i64 (j : Int) ∧ vm = .int .i64 m ∧ j ≤ n ∧ meetG q E eb (b.drop j) m = X ∧ Below w.heap.size w wr
set_option maxRecDepth 100000 in
set_option maxHeartbeats 8000000 in
theorem rMeet_is (A B : Option Addr) (n c n2 c2 : Nat) (a b : List Ep) (ea eb : Int) (w : World) (hr : RdE w w.heap.size A n a) (hr2 : RdE w w.heap.size B n2 b) (hn : n ≤ 1000000) (hn2 : n2 ≤ 1000000) {X : Int} (hX : meetE a ea b eb = X) :
    Calls Try.prog 27 #[.slice A n c, .int .i64 ea, .slice B n2 c2, .int .i64 eb] w fun e w' => e = .returned (.int .i64 X) ∧ Below w.heap.size w w' := by
  have HR := Lib.hid hr
  have HQ := Lib.hid hr2
  have HL := Lib.hid hr.len
  have HL2 := Lib.hid hr2.len
  have hn9 : n ≤ reach := Nat.le_trans hn (by decide)
  have hn8 : n2 ≤ reach := Nat.le_trans hn2 (by decide)
  clear hr hr2
  unfold meetE at hX
  cases ha : okE a with
  | false =>
    have HC := Lib.hid (show ckE a = 1 by unfold ckE; rw [ha]; rfl)
    rw [ha, if_neg (by simp)] at hX
    subst hX
    clear ha
    go_enter Try.func27, Try.ntmps27
    go_wp2_with (first
      | (go_at_call 18; (with_reducible refine (rCheck_is A n c a _ HR.out hn9 HC.out).mono ?_); rintro e w1 ⟨rfl, hb⟩; have HB1 := Lib.hid hb; have HR1 := Lib.hid (rdeUp HR.out hb); have HQ1 := Lib.hid (rdeUp HQ.out hb); clear hb))
    go_ret
    exact ⟨rfl, HB1.out⟩
  | true =>
  have HC := Lib.hid (show ckE a = 0 by unfold ckE; rw [ha]; rfl)
  cases hb : okE b with
  | false =>
    have HC2 := Lib.hid (show ckE b = 1 by unfold ckE; rw [hb]; rfl)
    rw [hb, if_neg (by simp)] at hX
    subst hX
    clear ha hb
    go_enter Try.func27, Try.ntmps27
    go_wp2_with (first
      | (go_at_call 18; (with_reducible refine (rCheck_is A n c a _ HR.out hn9 HC.out).mono ?_); rintro e w1 ⟨rfl, hb⟩; have HB1 := Lib.hid hb; have HR1 := Lib.hid (rdeUp HR.out hb); have HQ1 := Lib.hid (rdeUp HQ.out hb); clear hb)
      | (go_at_call 18; (with_reducible refine (rCheck_is B n2 c2 b _ HQ1.out hn8 HC2.out).mono ?_); rintro e w2 ⟨rfl, hb⟩; have HB2 := Lib.hid (bel_trans HB1.out hb); have HR2 := Lib.hid (rdeUp HR1.out hb); have HQ2 := Lib.hid (rdeUp HQ1.out hb); clear hb))
    go_ret
    exact ⟨rfl, HB2.out⟩
  | true =>
  have HC2 := Lib.hid (show ckE b = 0 by unfold ckE; rw [hb]; rfl)
  rw [ha, hb, if_pos ⟨rfl, rfl⟩] at hX
  have HX9 := Lib.hid hX
  clear ha hb hX
  go_enter Try.func27, Try.ntmps27
  go_wp2_with (first
    | (go_at_call 18; (with_reducible refine (rCheck_is A n c a _ HR.out hn9 HC.out).mono ?_); rintro e w1 ⟨rfl, hb⟩; have HB1 := Lib.hid hb; have HR1 := Lib.hid (rdeUp HR.out hb); have HQ1 := Lib.hid (rdeUp HQ.out hb); clear hb)
    | (go_at_call 18; (with_reducible refine (rCheck_is B n2 c2 b _ HQ1.out hn8 HC2.out).mono ?_); rintro e w2 ⟨rfl, hb⟩; have HB2 := Lib.hid (bel_trans HB1.out hb); have HR2 := Lib.hid (rdeUp HR1.out hb); have HQ2 := Lib.hid (rdeUp HQ1.out hb); clear hb))
  go_loopw [9, 24] (fun vm vi wr => meetOut ea eb a b X n w2 vm vi wr) (fun _ vi _ => n - (intOf vi).toNat)
  case atStart => exact ⟨0, 0, rfl, rfl, Nat.zero_le _, HX9.out, Below.refl _ _⟩
  case round =>
    obtain ⟨k, m, rfl, rfl, hk, he, hb⟩ := hrel
    have HE := Lib.hid he
    have HB3 := Lib.hid hb
    have HR3 := Lib.hid (rdeUp HR2.out hb)
    have HQ3 := Lib.hid (rdeUp HQ2.out hb)
    clear hb he
    by_cases hlt : k < n
    · obtain ⟨g, o, ⟨x0, x1⟩, rfl, hbl, hxk, d0, d1⟩ := ep_at HR3.out hlt
      simp only at d0 d1
      have hkl : (k : Int) < (n : Int) := by omega
      have hk0 : (0 : Int) ≤ (k : Int) := by omega
      have hw1 : IntKind.i64.wrap ((k : Int) + 1) = (k : Int) + 1 := IntWalk.i64_in _ (by omega)
      have HE3 := Lib.hid (show meetF ea b eb (a.drop (k + 1)) (meetG x0 (nx (a.drop (k + 1)) ea) eb b m) = X by have h9 := HE.out; rw [drop_at9 hxk] at h9; exact h9)
      clear hxk HE
      go_wp2
      have hba := belA wr (.cells #[.int .i64 x0, .int .i64 x1] 32)
      have HX := Lib.hid (At0.new wr [.int .i64 x0, .int .i64 x1] 32)
      have HB4 := Lib.hid (bel_trans HB3.out hba)
      have HR4 := Lib.hid (rdeUp HR3.out hba)
      have HQ4 := Lib.hid (rdeUp HQ3.out hba)
      clear hba d0 d1 hbl HR3 HQ3 HB3
      generalize (wr.alloc (.cells #[.int .i64 x0, .int .i64 x1] 32)) = w4 at *
      go_loopw [9, 31] (fun vm vi wr => meetIn x0 (nx (a.drop (k + 1)) ea) eb b (meetG x0 (nx (a.drop (k + 1)) ea) eb b m) n2 w4 vm vi wr) (fun _ vi _ => n2 - (intOf vi).toNat)
      case atStart => exact ⟨0, m, rfl, rfl, Nat.zero_le _, rfl, Below.refl _ _⟩
      case round =>
        obtain ⟨j, m2, rfl, rfl, hj, he, hb⟩ := hrel
        have HG := Lib.hid he
        have HB5 := Lib.hid (bel_trans HB4.out hb)
        have HB54 := Lib.hid hb
        have HR5 := Lib.hid (rdeUp HR4.out hb)
        have HQ5 := Lib.hid (rdeUp HQ4.out hb)
        have HX5 := Lib.hid (HX.out.below hb)
        clear hb he
        by_cases hjt : j < n2
        · obtain ⟨g2, o2, ⟨y0, y1⟩, rfl, hbl, hyk, d0, d1⟩ := ep_at HQ5.out hjt
          simp only at d0 d1
          have hjl : (j : Int) < (n2 : Int) := by omega
          have hj0 : (0 : Int) ≤ (j : Int) := by omega
          have hw2 : IntKind.i64.wrap ((j : Int) + 1) = (j : Int) + 1 := IntWalk.i64_in _ (by omega)
          have HD := Lib.hid (drop_at9 hyk)
          clear hyk
          go_upto_region 10 with fail
          have hba := belA wr (.cells #[.int .i64 y0, .int .i64 y1] 32)
          have HY := Lib.hid (At0.new wr [.int .i64 y0, .int .i64 y1] 32)
          have HB6 := Lib.hid (bel_trans HB54.out hba)
          have HR6 := Lib.hid (rdeUp HR5.out hba)
          have HQ6 := Lib.hid (rdeUp HQ5.out hba)
          have HX6 := Lib.hid (HX5.out.below hba)
          clear hba d0 d1 hbl HR5 HQ5 HB54 HX5
          generalize (wr.alloc (.cells #[.int .i64 y0, .int .i64 y1] 32)) = w6 at *
          obtain ⟨c0, c1⟩ := cel2 HX6.out
          obtain ⟨e0, e1⟩ := cel2 HY.out
          by_cases heq : x0 = y0
          · have heT : (x0 == y0) = true := beqT heq
            obtain ⟨E1, hE1⟩ : ∃ E1, nx (a.drop (k + 1)) ea = E1 := ⟨_, rfl⟩
            obtain ⟨E2, hE2⟩ : ∃ E2, nx (b.drop (j + 1)) eb = E2 := ⟨_, rfl⟩
            have hG9 := HG.out
            rw [HD.out, meetG_cons, if_pos heq, hE2, hE1] at hG9
            clear heq
            by_cases hmn : E2 < E1
            · rw [show min E1 E2 = E2 by omega] at hG9
              have HS := Lib.hid hG9
              clear hG9
              go_wp2_with (first
                | (go_at_call 37; (with_reducible refine (rend_is (some ⟨g, o, none⟩) n c k ea a _ HR6.out hn9 hlt hE1).mono ?_); rintro e w7 ⟨rfl, rfl⟩; skip)
                | (go_at_call 37; (with_reducible refine (rend_is (some ⟨g2, o2, none⟩) n2 c2 j eb b _ HQ6.out hn8 hjt hE2).mono ?_); rintro e w8 ⟨rfl, rfl⟩; skip))
              go_roundw
              case rel => exact ⟨j + 1, _, by go_num, rfl, by omega, by rw [hE1]; exact HS.out, HB6.out⟩
              case measure => simp [intOf]; omega
            · rw [show min E1 E2 = E1 by omega] at hG9
              have HS := Lib.hid hG9
              clear hG9
              go_wp2_with (first
                | (go_at_call 37; (with_reducible refine (rend_is (some ⟨g, o, none⟩) n c k ea a _ HR6.out hn9 hlt hE1).mono ?_); rintro e w7 ⟨rfl, rfl⟩; skip)
                | (go_at_call 37; (with_reducible refine (rend_is (some ⟨g2, o2, none⟩) n2 c2 j eb b _ HQ6.out hn8 hjt hE2).mono ?_); rintro e w8 ⟨rfl, rfl⟩; skip))
              go_roundw
              case rel => exact ⟨j + 1, _, by go_num, rfl, by omega, by rw [hE1]; exact HS.out, HB6.out⟩
              case measure => simp [intOf]; omega
          · have heT : (x0 == y0) = false := beqF heq
            have hG9 := HG.out
            rw [HD.out, meetG_cons, if_neg heq] at hG9
            have HS := Lib.hid hG9
            clear heq hG9
            go_wp2
            go_roundw
            case rel => exact ⟨j + 1, _, by go_num, rfl, by omega, HS.out, HB6.out⟩
            case measure => simp [intOf]; omega
        · obtain rfl : j = n2 := by omega
          have HS := Lib.hid (show m2 = meetG x0 (nx (a.drop (k + 1)) ea) eb b m by have h9 := HG.out; rw [show b.drop j = [] from List.drop_of_length_le (by rw [HL2.out]; exact Nat.le_refl _)] at h9; exact h9)
          clear hjt
          go_wp2
          go_roundw
          case rel => exact ⟨k + 1, _, by go_num, rfl, by omega, by rw [HS.out]; exact HE3.out, HB5.out⟩
          case measure => simp [intOf]; omega
    · obtain rfl : k = n := by omega
      obtain rfl : m = X := by rw [← HE.out, List.drop_of_length_le (by rw [HL.out]; exact Nat.le_refl _)]; rfl
      clear hlt
      go_wp2
      go_ret
      exact ⟨rfl, bel_trans HB2.out HB3.out⟩
end Go.Proofs.Ytmjnleohchmadaa.Epo
