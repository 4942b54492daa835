/- Joined: ProR1. -/
import Derived.Test.YthhdhdjdhekgpaaDoorLay
import Derived.Test.YthhdhdjdhekgpaaDoorJOct
import Derived.Test.YthhdhdjdhekgpaaDoorProMath
/- The document's small functions of layer 6: known, ints, texts, in, short, little. -/
namespace Go.Proofs.YthhdhdjdhekgpaaDoor.Pro
open Go.RowKit Go.Proofs.YthhdhdjdhekgpaaDoor.Oct Go.Proofs.YthhdhdjdhekgpaaDoor.Lay

theorem refknown_any (k v : Int) (w : World) : Calls Tryd.prog 65 #[.int .i64 k, .int .i64 v] w fun e w' => e = .returned (.int .i64 (known k v)) ∧ w = w' := by
  unfold known
  by_cases h1 : k < 1
  · rw [if_pos (.inl h1)]
    go_enter Tryd.func65, Tryd.ntmps65
    go_wp2
    go_ret
    exact ⟨rfl, rfl⟩
  · by_cases h2 : 12 < k
    · rw [if_pos (.inr h2)]
      go_enter Tryd.func65, Tryd.ntmps65
      go_wp2
      go_ret
      exact ⟨rfl, rfl⟩
    · rw [if_neg (by omega)]
      by_cases h3 : v < 0
      · rw [if_pos (.inl h3)]
        go_enter Tryd.func65, Tryd.ntmps65
        go_wp2
        go_ret
        exact ⟨rfl, rfl⟩
      · by_cases h4 : 2 < v
        · rw [if_pos (.inr h4)]
          go_enter Tryd.func65, Tryd.ntmps65
          go_wp2
          go_ret
          exact ⟨rfl, rfl⟩
        · rw [if_neg (by omega)]
          go_enter Tryd.func65, Tryd.ntmps65
          go_wp2
          go_ret
          exact ⟨rfl, rfl⟩
set_option maxRecDepth 100000 in
set_option maxHeartbeats 1000000 in
theorem refints_any (k : Int) (w : World) (h : 1 ≤ k ∧ k ≤ 12) : Calls Tryd.prog 55 #[.int .i64 k] w fun e w' => e = .returned (.int .i64 (nI k)) ∧ Below w.heap.size w w' := by
  obtain ⟨n, rfl⟩ : ∃ n : Nat, k = (n : Int) := ⟨k.toNat, by omega⟩
  have : n = 1 ∨ n = 2 ∨ n = 3 ∨ n = 4 ∨ n = 5 ∨ n = 6 ∨ n = 7 ∨ n = 8 ∨ n = 9 ∨ n = 10 ∨ n = 11 ∨ n = 12 := by omega
  rcases this with rfl | rfl | rfl | rfl | rfl | rfl | rfl | rfl | rfl | rfl | rfl | rfl
  all_goals
    go_enter Tryd.func55, Tryd.ntmps55
    go_wp2
    go_ret
    exact ⟨rfl, bel_alloc (Below.refl _ _) _⟩
set_option maxRecDepth 100000 in
set_option maxHeartbeats 1000000 in
theorem reftexts_any (k : Int) (w : World) (h : 1 ≤ k ∧ k ≤ 12) : Calls Tryd.prog 56 #[.int .i64 k] w fun e w' => e = .returned (.int .i64 (nT k)) ∧ Below w.heap.size w w' := by
  obtain ⟨n, rfl⟩ : ∃ n : Nat, k = (n : Int) := ⟨k.toNat, by omega⟩
  have : n = 1 ∨ n = 2 ∨ n = 3 ∨ n = 4 ∨ n = 5 ∨ n = 6 ∨ n = 7 ∨ n = 8 ∨ n = 9 ∨ n = 10 ∨ n = 11 ∨ n = 12 := by omega
  rcases this with rfl | rfl | rfl | rfl | rfl | rfl | rfl | rfl | rfl | rfl | rfl | rfl
  all_goals
    go_enter Tryd.func56, Tryd.ntmps56
    go_wp2
    go_ret
    exact ⟨rfl, bel_alloc (Below.refl _ _) _⟩
/-- are numbers all from one to another one? -/
def allIn (l : List Int) (lo hi : Int) : Bool := l.all fun x => decide (lo ≤ x ∧ x ≤ hi)
def allShort (m : Nat) (l : List ByteArray) : Bool := l.all fun t => decide (t.size ≤ m)
theorem all_step {α : Type} {f : α → Bool} {l : List α} {k : Nat} {x : α} (h : l[k]? = some x) : (l.drop k).all f = (f x && (l.drop (k + 1)).all f) := by
  have e : l.drop k = x :: l.drop (k + 1) := by
    obtain ⟨hlt, hr⟩ := List.getElem?_eq_some_iff.1 h
    rw [List.drop_eq_getElem_cons hlt, hr]
  rw [e]
  rfl
/-- what is still to be looked at -/
def allRel {α : Type} (f : α → Bool) (l : List α) (n : Nat) (i : Value) : Prop := ∃ k : Nat, i = .int .i64 (k : Int) ∧ k ≤ n ∧ l.all f = (l.drop k).all f
theorem num_at {w : World} {B n k : Nat} {A : Option Addr} {l : List Int} (h : RdL w B A n l) (hk : k < n) : ∃ b o x, A = some ⟨b, o, none⟩ ∧ b < B ∧ l[k]? = some x ∧ I64 x ∧ w.cell? ⟨b, o + k, none⟩ = some (.int .i64 x) := by
  obtain ⟨b, o, x, cs, hA, hb, hx, his, hc⟩ := h.at hk
  obtain ⟨v, rfl, rfl, hi⟩ := his
  have h1 := hc 0 _ rfl
  rw [show o + k * Lay.sz Int + 0 = o + k from by show o + k * 1 + 0 = o + k; omega] at h1
  exact ⟨b, o, x, hA, hb, hx, hi, h1⟩
theorem txt_at {w : World} {B n k : Nat} {A : Option Addr} {l : List ByteArray} (h : RdL w B A n l) (hk : k < n) : ∃ b o x, A = some ⟨b, o, none⟩ ∧ b < B ∧ l[k]? = some x ∧ x.size ≤ 140737488351232 ∧ w.cell? ⟨b, o + k, none⟩ = some (.string x) := by
  obtain ⟨b, o, x, cs, hA, hb, hx, his, hc⟩ := h.at hk
  obtain ⟨v, rfl, rfl, hi⟩ := his
  have h1 := hc 0 _ rfl
  rw [show o + k * Lay.sz ByteArray + 0 = o + k from by show o + k * 1 + 0 = o + k; omega] at h1
  exact ⟨b, o, x, hA, hb, hx, hi, h1⟩
set_option maxRecDepth 100000 in
set_option maxHeartbeats 1000000 in
theorem refin_any (A : Option Addr) (n c : Nat) (l : List Int) (lo hi : Int) (B : Nat) (w : World) (hr : RdL w B A n l) (hn : n ≤ 140737488351232) :
    Calls Tryd.prog 66 #[.slice A n c, .int .i64 lo, .int .i64 hi] w fun e w' => e = .returned (.bool (allIn l lo hi)) ∧ w = w' := by
  have HR := Lib.hid hr
  clear hr
  go_enter Tryd.func66, Tryd.ntmps66
  go_wp2
  go_loop [7] (fun i => allRel (fun x => decide (lo ≤ x ∧ x ≤ hi)) l n i) (fun i => n - (intOf i).toNat)
  case atStart => exact ⟨0, rfl, Nat.zero_le _, rfl⟩
  case round =>
    obtain ⟨k, rfl, hk, hD⟩ := hrel
    have HD := Lib.hid hD
    clear hD
    by_cases hlt : k < n
    · obtain ⟨b, o, x, rfl, hb, hx, _, hcell⟩ := num_at HR.out hlt
      have HS := Lib.hid (all_step (f := fun x => decide (lo ≤ x ∧ x ≤ hi)) hx)
      clear hx
      by_cases h1 : x < lo
      · have HF := Lib.hid (show allIn l lo hi = false by unfold allIn; rw [HD.out, HS.out, decide_eq_false (by omega)]; rfl)
        go_wp2
        go_ret
        exact ⟨by rw [HF.out]; rfl, rfl⟩
      · by_cases h2 : hi < x
        · have HF := Lib.hid (show allIn l lo hi = false by unfold allIn; rw [HD.out, HS.out, decide_eq_false (by omega)]; rfl)
          go_wp2
          go_ret
          exact ⟨by rw [HF.out]; rfl, rfl⟩
        · have HN := Lib.hid (show l.all (fun x => decide (lo ≤ x ∧ x ≤ hi)) = (l.drop (k + 1)).all (fun x => decide (lo ≤ x ∧ x ≤ hi)) by rw [HD.out, HS.out, decide_eq_true (by omega)]; rfl)
          go_wp2
          go_round
          case rel => exact ⟨k + 1, by go_num, by omega, HN.out⟩
          case measure => simp [intOf]; omega
    · have HT := Lib.hid (show allIn l lo hi = true by unfold allIn; rw [HD.out, List.drop_of_length_le (by have := HR.out.len; omega)]; rfl)
      go_wp2
      go_ret
      exact ⟨by rw [HT.out]; rfl, rfl⟩
set_option maxRecDepth 100000 in
set_option maxHeartbeats 1000000 in
theorem refshort_any (A : Option Addr) (n c : Nat) (l : List ByteArray) (B : Nat) (w : World) (hr : RdL w B A n l) (hn : n ≤ 140737488351232) :
    Calls Tryd.prog 67 #[.slice A n c] w fun e w' => e = .returned (.bool (allShort 64 l)) ∧ w = w' := by
  have HR := Lib.hid hr
  clear hr
  go_enter Tryd.func67, Tryd.ntmps67
  go_wp2
  go_loop [3] (fun i => allRel (fun t : ByteArray => decide (t.size ≤ 64)) l n i) (fun i => n - (intOf i).toNat)
  case atStart => exact ⟨0, rfl, Nat.zero_le _, rfl⟩
  case round =>
    obtain ⟨k, rfl, hk, hD⟩ := hrel
    have HD := Lib.hid hD
    clear hD
    by_cases hlt : k < n
    · obtain ⟨b, o, x, rfl, hb, hx, hxm, hcell⟩ := txt_at HR.out hlt
      have HS := Lib.hid (all_step (f := fun t : ByteArray => decide (t.size ≤ 64)) hx)

      clear hx
      by_cases h1 : 64 < x.size
      · have HF := Lib.hid (show allShort 64 l = false by unfold allShort; rw [HD.out, HS.out, decide_eq_false (by omega)]; rfl)
        go_wp2
        go_ret
        exact ⟨by rw [HF.out]; rfl, rfl⟩
      · have HN := Lib.hid (show l.all (fun t : ByteArray => decide (t.size ≤ 64)) = (l.drop (k + 1)).all (fun t : ByteArray => decide (t.size ≤ 64)) by rw [HD.out, HS.out, decide_eq_true (by omega)]; rfl)
        go_wp2
        go_round
        case rel => exact ⟨k + 1, by go_num, by omega, HN.out⟩
        case measure => simp [intOf]; omega
    · have HT := Lib.hid (show allShort 64 l = true by unfold allShort; rw [HD.out, List.drop_of_length_le (by have := HR.out.len; omega)]; rfl)
      go_wp2
      go_ret
      exact ⟨by rw [HT.out]; rfl, rfl⟩
end Go.Proofs.YthhdhdjdhekgpaaDoor.Pro
