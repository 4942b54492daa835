/- Joined: EpoD6. -/
import Derived.Test.YtmjnleohchmadaaEpoD4
import Derived.Test.YtmjnleohchmadaaEpoOfW
/- The landed epoch: Of. -/
namespace Go.Proofs.Ytmjnleohchmadaa.Epo
open Go.RowKit Go.Proofs.Ytmjnleohchmadaa.Oct Go.Proofs.Ytmjnleohchmadaa.RowF Go.Proofs.Ytmjnleohchmadaa.Lay Go.Proofs.Ytmjnleohchmadaa.InR Go.Proofs.Ytmjnleohchmadaa.Bat

def ofRelD (X : List Ep) (ps : List (Int × Int)) (n : Nat) (w : World) (vo vi : Value) (wr : World) : Prop :=
  ∃ (k m : Nat) (A : Option Addr) (c : Nat) (out : List Ep), vi = .int .i64 (k : Int) ∧ vo = .slice A m c ∧ k ≤ n ∧ m ≤ k ∧ okE out = true ∧ ofE out (ps.drop k) = X ∧ OwnE wr w.heap.size (.slice A m c) m out ∧ Below w.heap.size w wr
set_option maxRecDepth 100000 in
set_option maxHeartbeats 8000000 in
theorem dOf_is (A : Option Addr) (n c : Nat) (bs : List Bt) (w : World) (hr : RdT w w.heap.size A n bs) (hn : n ≤ 1000000) :
    Calls Try.prog 28 #[.slice A n c] w fun e w' => ∃ A' m c', e = .returned (.slice A' m c') ∧ OwnE w' w.heap.size (.slice A' m c') m (ofE [] (psB bs)) ∧ Below w.heap.size w w' := by
  have HR := Lib.hid hr
  have HLEN := Lib.hid hr.len
  have hn9 : n ≤ reach := Nat.le_trans hn (by decide)
  clear hr
  go_enter Try.func28, Try.ntmps28
  go_wp2
  go_loopw [3, 10] (fun vo vi wr => ofRelD (ofE [] (psB bs)) (psB bs) n w vo vi wr) (fun _ vi _ => n - (intOf vi).toNat)
  case atStart => exact ⟨0, 0, none, 0, [], rfl, rfl, Nat.zero_le _, Nat.le_refl _, rfl, rfl, OwnF.nil, Below.refl _ _⟩
  case round =>
    obtain ⟨k, m, A1, c1, out, rfl, rfl, hk, hmk, hok, he, ho, hb⟩ := hrel
    have HOK := Lib.hid hok
    clear hok
    have HE := Lib.hid he
    have HB2 := Lib.hid hb
    have HO2 := Lib.hid ho
    have HR2 := Lib.hid (rdtUp9 HR.out hb)
    clear ho hb he
    by_cases hlt : k < n
    · obtain ⟨g, o, ⟨ba, la, fr, ep, pi, ge, se, tx, ct, rs⟩, A4, n4, c4, rfl, hbl, hxk, hc4, hn4, _, _, hat⟩ := HR2.out.at hlt
      have d0 : wr.cell? ⟨g, o + k * 10, none⟩ = some (.int .i64 ba) := hat 0 _ rfl
      have d1 : wr.cell? ⟨g, o + k * 10 + 1, none⟩ = some (.int .i64 la) := hat 1 _ rfl
      have d2 : wr.cell? ⟨g, o + k * 10 + 2, none⟩ = some (.int .i64 fr) := hat 2 _ rfl
      have d3 : wr.cell? ⟨g, o + k * 10 + 3, none⟩ = some (.int .i64 ep) := hat 3 _ rfl
      have d4 : wr.cell? ⟨g, o + k * 10 + 4, none⟩ = some (.int .i64 pi) := hat 4 _ rfl
      have d5 : wr.cell? ⟨g, o + k * 10 + 5, none⟩ = some (.int .i64 ge) := hat 5 _ rfl
      have d6 : wr.cell? ⟨g, o + k * 10 + 6, none⟩ = some (.int .i64 se) := hat 6 _ rfl
      have d7 : wr.cell? ⟨g, o + k * 10 + 7, none⟩ = some (.bool tx) := hat 7 _ rfl
      have d8 : wr.cell? ⟨g, o + k * 10 + 8, none⟩ = some (.int .i64 ct) := hat 8 _ rfl
      have d9 : wr.cell? ⟨g, o + k * 10 + 9, none⟩ = some (.slice A4 n4 c4) := hat 9 _ rfl
      have HD := Lib.hid (psB_at hxk)
      have hkl : (k : Int) < (n : Int) := by omega
      have hk0 : (0 : Int) ≤ (k : Int) := by omega
      have hw1 : IntKind.i64.wrap ((k : Int) + 1) = (k : Int) + 1 := IntWalk.i64_in _ (by omega)
      clear hxk hat hc4 hn4
      go_upto_region 5 with fail
      have hba := belA wr (.cells #[.int .i64 ba, .int .i64 la, .int .i64 fr, .int .i64 ep, .int .i64 pi, .int .i64 ge, .int .i64 se, .bool tx, .int .i64 ct, .slice A4 n4 c4] 46)
      have HX := Lib.hid (At0.new wr [.int .i64 ba, .int .i64 la, .int .i64 fr, .int .i64 ep, .int .i64 pi, .int .i64 ge, .int .i64 se, .bool tx, .int .i64 ct, .slice A4 n4 c4] 46)
      have HB3 := Lib.hid (bel_trans HB2.out hba)
      have HO3 := Lib.hid (OwnF.below HO2.out hba)
      clear hba d0 d1 d2 d3 d4 d5 d6 d7 d8 d9 hbl HR2 HO2 HB2
      generalize (wr.alloc (.cells #[.int .i64 ba, .int .i64 la, .int .i64 fr, .int .i64 ep, .int .i64 pi, .int .i64 ge, .int .i64 se, .bool tx, .int .i64 ct, .slice A4 n4 c4] 46)) = w3 at *
      have c0 := HX.out.cell 0
      have c3 := HX.out.cell 3
      simp only [List.getElem?_cons_zero, List.getElem?_cons_succ] at c0 c3
      rcases hP : putE out ep ba with ⟨x, e⟩
      have HP := Lib.hid hP
      have HP2 := Lib.hid (show putN out ep ba = (x, e) by rw [← putE_ok HOK.out]; exact hP)
      have hol := OwnF.len epS HO3.out
      have HRO := Lib.hid (OwnF.rd epS HO3.out)
      by_cases h0 : e = 0
      · subst h0
        have HOX := Lib.hid (putE_good hP).2.2.2.1
        have HS := Lib.hid (show ofE x ((psB bs).drop (k + 1)) = ofE [] (psB bs) by have h9 := HE.out; rw [HD.out, ofE_cons] at h9; simp only [hP, if_true] at h9; exact h9)
        clear hP
        go_wp2_with (first
          | (go_at_call 32; (with_reducible refine (put_is A1 m c1 w.heap.size out ep ba _ HO3.out HB3.out.size (by omega) HP2.out).mono ?_); rintro e w4 ⟨A5, n5, c5, rfl, ho, hb, hb0⟩; have hn5 := OwnF.len epS ho; have hlen := putN_len HP2.out; have HO5 := Lib.hid ho; have HB5 := Lib.hid (HB3.out.trans hb); clear ho hb hb0))
        go_roundw
        case rel => exact ⟨k + 1, n5, _, _, _, by go_num, rfl, by omega, by omega, HOX.out, HS.out, HO5.out, HB5.out⟩
        case measure => simp [intOf]; omega
      · have h0q : (e == 0) = false := beqF h0
        have HS := Lib.hid (show ofE out ((psB bs).drop (k + 1)) = ofE [] (psB bs) by have h9 := HE.out; rw [HD.out, ofE_cons] at h9; simp only [hP, if_neg h0] at h9; exact h9)
        clear hP
        go_wp2_with (first
          | (go_at_call 32; (with_reducible refine (put_is A1 m c1 w.heap.size out ep ba _ HO3.out HB3.out.size (by omega) HP2.out).mono ?_); rintro e w4 ⟨A5, n5, c5, rfl, ho, hb, hb0⟩; have HO6 := Lib.hid (OwnF.below HO3.out (hb0 h0)); have HB5 := Lib.hid (HB3.out.trans hb); clear ho hb hb0))
        go_roundw
        case rel => exact ⟨k + 1, m, _, _, _, by go_num, rfl, by omega, by omega, HOK.out, HS.out, HO6.out, HB5.out⟩
        case measure => simp [intOf]; omega
    · obtain rfl : k = n := by omega
      have HE2 := Lib.hid (show out = ofE [] (psB bs) by rw [← HE.out, List.drop_of_length_le (by unfold psB; rw [List.length_map, HLEN.out]; exact Nat.le_refl _)]; rfl)
      clear hlt
      go_wp2
      go_ret
      exact ⟨A1, m, c1, rfl, HE2.out ▸ HO2.out, HB2.out⟩
end Go.Proofs.Ytmjnleohchmadaa.Epo
