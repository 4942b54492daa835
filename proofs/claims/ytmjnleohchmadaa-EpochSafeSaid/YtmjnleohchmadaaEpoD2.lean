/- Joined: EpoD2. -/
import Derived.Test.YtmjnleohchmadaaEpoD1
/- The landed epoch: EndOf, Cut, Trim. -/
namespace Go.Proofs.Ytmjnleohchmadaa.Epo
open Go.RowKit Go.Proofs.Ytmjnleohchmadaa.Oct Go.Proofs.Ytmjnleohchmadaa.RowF Go.Proofs.Ytmjnleohchmadaa.Lay Go.Proofs.Ytmjnleohchmadaa.InR Go.Proofs.Ytmjnleohchmadaa.RngQ Go.Proofs.Ytmjnleohchmadaa.RowL

theorem ep_k {w : World} {B n k : Nat} {A : Option Addr} {l : List Ep} {x : Ep} (h : RdE w B A n l) (hx : l[k]? = some x) : ∃ b o, A = some ⟨b, o, none⟩ ∧ b < B ∧ k < n ∧ w.cell? ⟨b, o + k * 2, none⟩ = some (.int .i64 x.ep) ∧ w.cell? ⟨b, o + k * 2 + 1, none⟩ = some (.int .i64 x.st) := by
  have hk : k < n := by have := (List.getElem?_eq_some_iff.1 hx).1; have := h.len; omega
  obtain ⟨b, o, y, hA, hb, hy, h0, h1⟩ := ep_at h hk
  rw [hx] at hy
  obtain rfl := Option.some.inj hy
  exact ⟨b, o, hA, hb, hk, h0, h1⟩
set_option maxRecDepth 100000 in
set_option maxHeartbeats 8000000 in
theorem dEndOf_is (A : Option Addr) (n c : Nat) (l : List Ep) (q last : Int) (w : World) (hr : RdE w w.heap.size A n l) (hn : n ≤ 1000000) {a0 b0 : Int} (hP : endOf l q last = (a0, b0)) :
    Calls Try.prog 19 #[.slice A n c, .int .i64 q, .int .i64 last] w fun e w' => e = .returned (.tuple #[.int .i64 a0, .int .i64 b0]) ∧ Below w.heap.size w w' := by
  have hb1 := belA w (.cells #[.int .i64 q] 3)
  have HR1 := Lib.hid (rdeUp hr hb1)
  have HB1 := Lib.hid hb1
  have HC1 := Lib.hid (show (w.alloc (.cells #[.int .i64 q] 3)).cell? ⟨w.heap.size, 0, none⟩ = some (.int .i64 q) from (At0.new w [.int .i64 q] 3).cell 0)
  have hz1 : w.heap.size < (w.alloc (.cells #[.int .i64 q] 3)).heap.size := by simp
  by_cases ok : okE l = true
  · have HCK := Lib.hid (show ckE l = 0 by unfold ckE; rw [if_pos ok])
    rw [endOf_lst ok] at hP
    rcases hl : lstE (fun x => decide (x.ep ≤ q)) last l with _ | ⟨k, o9⟩
    · rw [hl] at hP
      injection hP with h1 h2
      subst h1; subst h2
      have HG := Lib.hid (show (goL (fun _ : Unit => fun x : Ep => decide (x.ep ≤ q)) (fun _ _ => ()) () last l.reverse).2 = none from hl)
      clear hr hl hb1 ok
      go_enter Try.func19, Try.ntmps19
      go_wp2_with (first
        | (go_at_call 17; (with_reducible refine (dCheck_is A n c l _ HR1.out (by unfold reach; omega) HCK.out).mono ?_); rintro e w2 ⟨rfl, hb⟩; have HB2 := Lib.hid (bel_trans HB1.out hb); have HR2 := Lib.hid (rdeUp HR1.out hb); have HC2 := Lib.hid ((hb.cell (p := ⟨w.heap.size, 0, none⟩) hz1).trans HC1.out); clear hb)
        | (go_at_call 35; (with_reducible refine (last_is 36 #[.pointer (some ⟨w.heap.size, 0, none⟩)] (fun ys w => by go_simp) (fun x => decide (x.ep ≤ q)) last A n c l w2 HR2.out (by omega) (fun x W hb => en1_is w.heap.size q w2 x W HC2.out hb) HG.out).mono ?_); rintro e w3 ⟨rfl, hb⟩; have HB3 := Lib.hid (bel_trans HB2.out hb); clear hb; dsimp only [atL]))
      go_ret2
      exact ⟨rfl, HB3.out⟩
    · rw [hl] at hP
      obtain ⟨x, h1⟩ : ∃ x, l[k]? = some x := let ⟨x, h, _⟩ := lstE_some hl; ⟨x, h⟩
      simp only [h1, Option.map_some, Option.getD_some] at hP
      injection hP with h2 h3
      subst h2; subst h3
      obtain ⟨b, o, rfl, hbl, hk, d0, _⟩ := ep_k hr h1
      have HD := Lib.hid d0
      have HG := Lib.hid (show (goL (fun _ : Unit => fun x : Ep => decide (x.ep ≤ q)) (fun _ _ => ()) () last l.reverse).2 = some (k, o9) from hl)
      have hk0 : (0 : Int) ≤ (k : Int) := by omega
      have hkn : (k : Int) < (n : Int) := by omega
      clear hr hl hb1 ok d0 h1
      go_enter Try.func19, Try.ntmps19
      go_wp2_with (first
        | (go_at_call 17; (with_reducible refine (dCheck_is (some ⟨b, o, none⟩) n c l _ HR1.out (by unfold reach; omega) HCK.out).mono ?_); rintro e w2 ⟨rfl, hb⟩; have HB2 := Lib.hid (bel_trans HB1.out hb); have HR2 := Lib.hid (rdeUp HR1.out hb); have HC2 := Lib.hid ((hb.cell (p := ⟨w.heap.size, 0, none⟩) hz1).trans HC1.out); clear hb)
        | (go_at_call 35; (with_reducible refine (last_is 36 #[.pointer (some ⟨w.heap.size, 0, none⟩)] (fun ys w => by go_simp) (fun x => decide (x.ep ≤ q)) last (some ⟨b, o, none⟩) n c l w2 HR2.out (by omega) (fun x W hb => en1_is w.heap.size q w2 x W HC2.out hb) HG.out).mono ?_); rintro e w3 ⟨rfl, hb⟩; have HB3 := Lib.hid (bel_trans HB2.out hb); clear hb; have d3 := (HB3.out.cell (p := ⟨b, o + k * 2, none⟩) hbl).trans HD.out; dsimp only [atL]))
      go_ret2
      exact ⟨rfl, HB3.out⟩
  · have HCK := Lib.hid (show ckE l = 1 by unfold ckE; rw [if_neg ok])
    unfold endOf at hP
    rw [if_neg ok] at hP
    injection hP with h1 h2
    subst h1; subst h2
    clear hr hb1 ok
    go_enter Try.func19, Try.ntmps19
    go_wp2_with (go_at_call 17; (with_reducible refine (dCheck_is A n c l _ HR1.out (by unfold reach; omega) HCK.out).mono ?_); rintro e w2 ⟨rfl, hb⟩; have HB2 := Lib.hid (bel_trans HB1.out hb); clear hb)
    go_ret2
    exact ⟨rfl, HB2.out⟩
end Go.Proofs.Ytmjnleohchmadaa.Epo
