/- The landed epoch: Trim. -/
import Derived.Test.YtmjnleohchmadaaEpoD2
namespace Go.Proofs.Ytmjnleohchmadaa.Epo
open Go.RowKit Go.Proofs.Ytmjnleohchmadaa.Oct Go.Proofs.Ytmjnleohchmadaa.RowF Go.Proofs.Ytmjnleohchmadaa.Lay Go.Proofs.Ytmjnleohchmadaa.InR Go.Proofs.Ytmjnleohchmadaa.RngQ Go.Proofs.Ytmjnleohchmadaa.RowL

set_option maxRecDepth 100000 in
set_option maxHeartbeats 8000000 in
theorem dTrim_is (A : Option Addr) (n c : Nat) (l : List Ep) (q : Int) (w : World) (hr : RdE w w.heap.size A n l) (hn : n ≤ 1000000) (hc : n ≤ c) :
    Calls Try.prog 22 #[.slice A n c, .int .i64 q] w fun e w' => ∃ A' m c', e = .returned (.slice A' m c') ∧ OwnE w' w.heap.size (.slice A' m c') m (trimE l q) ∧ Below w.heap.size w w' := by
  have hb1 := belA w (.cells #[.int .i64 q] 3)
  have HR1 := Lib.hid (rdeUp hr hb1)
  have HB1 := Lib.hid hb1
  have HC1 := Lib.hid (show (w.alloc (.cells #[.int .i64 q] 3)).cell? ⟨w.heap.size, 0, none⟩ = some (.int .i64 q) from (At0.new w [.int .i64 q] 3).cell 0)
  have hz1 : w.heap.size < (w.alloc (.cells #[.int .i64 q] 3)).heap.size := by simp
  by_cases ok : okE l = true
  · have HCK := Lib.hid (show ckE l = 0 by unfold ckE; rw [if_pos ok])
    by_cases hq : 0 ≤ q ∧ q ≤ 1099511627776
    · have HQ := Lib.hid (decide_eq_true hq)
      have htr := trimE_lst ok hq 0
      rcases hl : lstE (fun x => decide (x.st ≤ q)) 0 l with _ | ⟨k, o9⟩
      · rw [hl] at htr
        simp only at htr
        rw [htr]
        have HG := Lib.hid (show (goL (fun _ : Unit => fun x : Ep => decide (x.st ≤ q)) (fun _ _ => ()) () 0 l.reverse).2 = none from hl)
        have hnc : (n : Int) ≤ (c : Int) := by omega
        cases A with
        | none =>
          obtain ⟨rfl, rfl⟩ := hr.isNil
          clear hr hl hb1 ok hq htr
          go_enter Try.func22, Try.ntmps22
          go_wp2_with (first
            | (go_at_call 17; (with_reducible refine (dCheck_is none 0 c [] _ HR1.out (by unfold reach; omega) HCK.out).mono ?_); rintro e w2 ⟨rfl, hb⟩; have HB2 := Lib.hid (bel_trans HB1.out hb); have HR2 := Lib.hid (rdeUp HR1.out hb); have hc2 := (hb.cell (p := ⟨w.heap.size, 0, none⟩) hz1).trans HC1.out; have HC2 := Lib.hid hc2; clear hb)
            | (go_at_call 39; (with_reducible refine (isOff_is q _).mono ?_); rintro e w' ⟨rfl, rfl⟩; rw [HQ.out])
            | (go_at_call 35; (with_reducible refine (last_is 40 #[.pointer (some ⟨w.heap.size, 0, none⟩)] (fun ys w => by go_simp) (fun x => decide (x.st ≤ q)) 0 none 0 c [] w2 HR2.out (by omega) (fun x W hb => tr1_is w.heap.size q w2 x W HC2.out hb) HG.out).mono ?_); rintro e w3 ⟨rfl, hb⟩; have HB3 := Lib.hid (bel_trans HB2.out hb); have HR3 := Lib.hid (rdeUp HR2.out hb); clear hb; dsimp only [atL])
            | (go_at_call 33; (with_reducible refine (Clone_is none 0 _ [] w3 HR3.out (by omega)).mono ?_); rintro e w4 ⟨A4, m4, c4, rfl, _, ho, hb⟩; have HB4 := Lib.hid (bel_trans HB3.out hb); have HO4 := Lib.hid (OwnF.more ho HB3.out.size); clear hb ho))
          go_ret
          exact ⟨A4, m4, c4, rfl, HO4.out, HB4.out⟩
        | some a =>
          obtain ⟨ab, ao, al⟩ := a
          clear hr hl hb1 ok hq htr
          go_enter Try.func22, Try.ntmps22
          go_wp2_with (first
            | (go_at_call 17; (with_reducible refine (dCheck_is _ n c l _ HR1.out (by unfold reach; omega) HCK.out).mono ?_); rintro e w2 ⟨rfl, hb⟩; have HB2 := Lib.hid (bel_trans HB1.out hb); have HR2 := Lib.hid (rdeUp HR1.out hb); have hc2 := (hb.cell (p := ⟨w.heap.size, 0, none⟩) hz1).trans HC1.out; have HC2 := Lib.hid hc2; clear hb)
            | (go_at_call 39; (with_reducible refine (isOff_is q _).mono ?_); rintro e w' ⟨rfl, rfl⟩; rw [HQ.out])
            | (go_at_call 35; (with_reducible refine (last_is 40 #[.pointer (some ⟨w.heap.size, 0, none⟩)] (fun ys w => by go_simp) (fun x => decide (x.st ≤ q)) 0 _ n c l w2 HR2.out (by omega) (fun x W hb => tr1_is w.heap.size q w2 x W HC2.out hb) HG.out).mono ?_); rintro e w3 ⟨rfl, hb⟩; have HB3 := Lib.hid (bel_trans HB2.out hb); have HR3 := Lib.hid (rdeUp HR2.out hb); clear hb; dsimp only [atL])
            | (go_at_call 33; (with_reducible refine (Clone_is _ n _ l w3 HR3.out (by omega)).mono ?_); rintro e w4 ⟨A4, m4, c4, rfl, _, ho, hb⟩; have HB4 := Lib.hid (bel_trans HB3.out hb); have HO4 := Lib.hid (OwnF.more ho HB3.out.size); clear hb ho))
          go_ret
          exact ⟨A4, m4, c4, rfl, HO4.out, HB4.out⟩
      · rw [hl] at htr
        obtain ⟨x, hx⟩ : ∃ x, l[k]? = some x := let ⟨x, h, _⟩ := lstE_some hl; ⟨x, h⟩
        simp only [hx, Option.map_some, Option.getD_some] at htr
        rw [htr]
        obtain ⟨b, o, rfl, hbl, hk, _, _⟩ := ep_k hr hx
        have HG := Lib.hid (show (goL (fun _ : Unit => fun x : Ep => decide (x.st ≤ q)) (fun _ _ => ()) () 0 l.reverse).2 = some (k, o9) from hl)
        have HM := Lib.hid (show RdE w w.heap.size (some ⟨b, o + k * 2, none⟩) (n - k) (l.drop k) from by
          have h := rdE_cut hr (i := k) (m := n - k) (by omega) (some ⟨b, o + k * 2, none⟩) (fun _ => by simp [Addr.add])
          rwa [List.take_of_length_le (by rw [List.length_drop]; have := hr.len; omega)] at h)
        have HS := Lib.hid (show ∀ z : Ep, (l.drop k).set 0 z = z :: l.drop (k + 1) from fun z => by
          rw [List.drop_eq_getElem_cons (show k < l.length by have := hr.len; omega)]; rfl)
        have HX := Lib.hid (show (l.drop k)[0]? = some x by rw [List.getElem?_drop]; exact hx)
        have hk0 : (0 : Int) ≤ (k : Int) := by omega
        have hk1 : ¬ (k : Int) < 0 := by omega
        have hkn : (k : Int) ≤ (n : Int) := by omega
        have hkn' : k ≤ n := by omega
        have hnc : (n : Int) ≤ (c : Int) := by omega
        have hp : 0 < n - k := by omega
        have hkc : k ≤ c := by omega
        clear hr hl hb1 ok hq htr hx
        go_enter Try.func22, Try.ntmps22
        go_wp2_with (first
          | (go_at_call 17; (with_reducible refine (dCheck_is _ n c l _ HR1.out (by unfold reach; omega) HCK.out).mono ?_); rintro e w2 ⟨rfl, hb⟩; have HB2 := Lib.hid (bel_trans HB1.out hb); have HR2 := Lib.hid (rdeUp HR1.out hb); have hc2 := (hb.cell (p := ⟨w.heap.size, 0, none⟩) hz1).trans HC1.out; have HC2 := Lib.hid hc2; have hz2 := Nat.lt_of_lt_of_le hz1 hb.size; clear hb)
          | (go_at_call 39; (with_reducible refine (isOff_is q _).mono ?_); rintro e w' ⟨rfl, rfl⟩; rw [HQ.out])
          | (go_at_call 35; (with_reducible refine (last_is 40 #[.pointer (some ⟨w.heap.size, 0, none⟩)] (fun ys w => by go_simp) (fun x => decide (x.st ≤ q)) 0 _ n c l w2 HR2.out (by omega) (fun x W hb => tr1_is w.heap.size q w2 x W HC2.out hb) HG.out).mono ?_); rintro e w3 ⟨rfl, hb⟩; have HB3 := Lib.hid (bel_trans HB2.out hb); have HR3 := Lib.hid (rdeUp HM.out HB3.out); have HC3 := Lib.hid ((hb.cell (p := ⟨w.heap.size, 0, none⟩) hz2).trans HC2.out); have hz3 := Nat.lt_of_lt_of_le hz2 hb.size; clear hb; dsimp only [atL])
          | (go_at_call 33; (with_reducible refine (Clone_is _ (n - k) _ (l.drop k) w3 HR3.out (by omega)).mono ?_); rintro e w4 ⟨A4, m4, c4, rfl, hm4, ho, hb⟩; obtain ⟨g, rfl, hg, hgl⟩ := OwnF.form ho (by omega); have HB4 := Lib.hid (bel_trans HB3.out hb); have HO4 := Lib.hid (OwnF.more ho HB3.out.size); have HG4 := Lib.hid (Nat.le_trans HB3.out.size hg); have c4s := (hb.cell (p := ⟨w.heap.size, 0, none⟩) hz3).trans HC3.out; have c4x := OwnF.cellAt epS HO4.out (k := 0) (i := 1) HX.out rfl; have c4f := OwnF.frozen HO4.out 1; simp only [Nat.zero_mul, Nat.zero_add] at c4x; have hm40 : (0 : Int) < (m4 : Int) := (by omega); clear hb ho hg hm4))
        go_ret
        have HS4 := OwnF.set epS HO4.out HG4.out (k := 0) (i := 1) (u := .int .i64 q) (y := ⟨x.ep, q⟩) HX.out (by decide) rfl
        rw [HS.out] at HS4
        simp only [Nat.zero_mul, Nat.zero_add] at HS4
        exact ⟨_, m4, c4, rfl, HS4.1, HB4.out.trans HS4.2⟩
    · have HQ := Lib.hid (decide_eq_false hq)
      have HE := Lib.hid (show trimE l q = [] by unfold trimE; rw [if_neg (fun h => hq h.2)])
      clear hr hb1 ok hq
      go_enter Try.func22, Try.ntmps22
      go_wp2_with (first
        | (go_at_call 17; (with_reducible refine (dCheck_is A n c l _ HR1.out (by unfold reach; omega) HCK.out).mono ?_); rintro e w2 ⟨rfl, hb⟩; have HB2 := Lib.hid (bel_trans HB1.out hb); have hc2 := (hb.cell (p := ⟨w.heap.size, 0, none⟩) hz1).trans HC1.out; clear hb)
        | (go_at_call 39; (with_reducible refine (isOff_is q _).mono ?_); rintro e w' ⟨rfl, rfl⟩; rw [HQ.out]))
      go_ret
      exact ⟨none, 0, 0, rfl, by rw [HE.out]; exact OwnF.nil, HB2.out⟩
  · have HCK := Lib.hid (show ckE l = 1 by unfold ckE; rw [if_neg ok])
    have HE := Lib.hid (show trimE l q = [] by unfold trimE; rw [if_neg (fun h => ok h.1)])
    clear hr hb1 ok
    go_enter Try.func22, Try.ntmps22
    go_wp2_with (go_at_call 17; (with_reducible refine (dCheck_is A n c l _ HR1.out (by unfold reach; omega) HCK.out).mono ?_); rintro e w2 ⟨rfl, hb⟩; have HB2 := Lib.hid (bel_trans HB1.out hb); clear hb)
    go_ret
    exact ⟨none, 0, 0, rfl, by rw [HE.out]; exact OwnF.nil, HB2.out⟩
end Go.Proofs.Ytmjnleohchmadaa.Epo
