/- Joined: ProA. -/
import Derived.Test.YthhdhdjdhekgpaaDoorProR1
/- The landed proto's small functions: isWithin, isText, checkHead, areWithin, areTexts. -/
namespace Go.Proofs.YthhdhdjdhekgpaaDoor.Pro
open Go.RowKit Go.Proofs.YthhdhdjdhekgpaaDoor.Oct Go.Proofs.YthhdhdjdhekgpaaDoor.Lay

def wi (n a b : Int) : Bool := decide (a ≤ n ∧ n ≤ b)
theorem isWithin_any (n a b : Int) (w : World) : Calls Tryd.prog 61 #[.int .i64 n, .int .i64 a, .int .i64 b] w fun e w' => e = .returned (.bool (wi n a b)) ∧ w = w' := by
  by_cases h1 : a ≤ n
  · by_cases h2 : n ≤ b
    · have hw : wi n a b = true := by unfold wi; exact decide_eq_true ⟨h1, h2⟩
      rw [hw]
      go_enter Tryd.func61, Tryd.ntmps61
      go_wp2
      go_ret
      exact ⟨rfl, rfl⟩
    · have hw : wi n a b = false := by unfold wi; exact decide_eq_false fun h => h2 h.2
      rw [hw]
      go_enter Tryd.func61, Tryd.ntmps61
      go_wp2
      go_ret
      exact ⟨rfl, rfl⟩
  · have hw : wi n a b = false := by unfold wi; exact decide_eq_false fun h => h1 h.1
    rw [hw]
    go_enter Tryd.func61, Tryd.ntmps61
    go_wp2
    go_ret
    exact ⟨rfl, rfl⟩
theorem isText_any (s : ByteArray) (w : World) : Calls Tryd.prog 62 #[.string s] w fun e w' => e = .returned (.bool (decide ((s.size : Int) ≤ 64))) ∧ w = w' := by
  go_enter Tryd.func62, Tryd.ntmps62
  go_wp2
  go_ret
  exact ⟨rfl, rfl⟩
theorem checkHead_any (k v : Int) (w : World) : Calls Tryd.prog 60 #[.int .i64 k, .int .i64 v] w fun e w' => e = .returned (.int .i64 (known k v)) ∧ w = w' := by
  unfold known
  rcases h1 : wi k 1 12 with _ | _
  · rw [if_pos (by have := of_decide_eq_false h1; omega)]
    go_enter Tryd.func60, Tryd.ntmps60
    go_wp2_with (go_at_call 61; (with_reducible refine (isWithin_any _ _ _ _).mono ?_); rw [h1]; rintro e w9 ⟨rfl, rfl⟩)
    go_ret
    exact ⟨rfl, rfl⟩
  · rw [if_neg (by have := of_decide_eq_true h1; omega)]
    rcases h2 : wi v 0 2 with _ | _
    · rw [if_pos (by have := of_decide_eq_false h2; omega)]
      go_enter Tryd.func60, Tryd.ntmps60
      go_wp2_with (go_at_call 61; (with_reducible refine (isWithin_any _ _ _ _).mono ?_); (first | rw [h1] | rw [h2]); rintro e w9 ⟨rfl, rfl⟩)
      go_ret
      exact ⟨rfl, rfl⟩
    · rw [if_neg (by have := of_decide_eq_true h2; omega)]
      go_enter Tryd.func60, Tryd.ntmps60
      go_wp2_with (go_at_call 61; (with_reducible refine (isWithin_any _ _ _ _).mono ?_); (first | rw [h1] | rw [h2]); rintro e w9 ⟨rfl, rfl⟩)
      go_ret
      exact ⟨rfl, rfl⟩
/-- where the first one is that is not as f says -/
def ixNot {α : Type} (f : α → Bool) (l : List α) : Int := match l.findIdx? (fun x => !f x) with | some i => (i : Int) | none => -1
theorem ixNot_no {α : Type} {f : α → Bool} {l : List α} (h : l.all f = true) : ixNot f l = -1 := by
  have h2 : l.findIdx? (fun x => !f x) = none := List.findIdx?_eq_none_iff.2 fun x hx => by simpa using List.all_eq_true.1 h x hx
  unfold ixNot; rw [h2]
theorem within1_any (a b x : Int) (X Y : Nat) (w : World) (hX : w.cell? ⟨X, 0, none⟩ = some (.int .i64 a)) (hY : w.cell? ⟨Y, 0, none⟩ = some (.int .i64 b)) :
    Calls Tryd.prog 87 #[.int .i64 x, .pointer (some ⟨X, 0, none⟩), .pointer (some ⟨Y, 0, none⟩)] w fun e w' => e = .returned (.bool (!decide (a ≤ x ∧ x ≤ b))) ∧ w = w' := by
  go_enter Tryd.func87, Tryd.ntmps87
  go_wp2_with (go_at_call 61; (with_reducible refine (isWithin_any _ _ _ _).mono ?_); rintro e w9 ⟨rfl, rfl⟩)
  go_ret
  exact ⟨rfl, rfl⟩
theorem text1_any (s : ByteArray) (w : World) :
    Calls Tryd.prog 89 #[.string s] w fun e w' => e = .returned (.bool (!decide ((s.size : Int) ≤ 64))) ∧ w = w' := by
  go_enter Tryd.func89, Tryd.ntmps89
  go_wp2_with (go_at_call 62; (with_reducible refine (isText_any _ _).mono ?_); rintro e w9 ⟨rfl, rfl⟩)
  go_ret
  exact ⟨rfl, rfl⟩
set_option maxRecDepth 100000 in
set_option maxHeartbeats 1000000 in
theorem indexInts_any (A : Option Addr) (n c : Nat) (l : List Int) (lo hi : Int) (X Y : Nat) (B : Nat) (w : World) (hr : RdL w B A n l) (hn : n ≤ 140737488351232) (hX : w.cell? ⟨X, 0, none⟩ = some (.int .i64 lo)) (hY : w.cell? ⟨Y, 0, none⟩ = some (.int .i64 hi)) :
    Calls Tryd.prog 95 #[.slice A n c, .func (.func 87) #[] #[.pointer (some ⟨X, 0, none⟩), .pointer (some ⟨Y, 0, none⟩)]] w fun e w' => (∃ i : Int, e = .returned (.int .i64 i) ∧ decide (0 ≤ i) = !allIn l lo hi) ∧ w = w' := by
  have HR := Lib.hid hr
  have HX := Lib.hid hX
  have HY := Lib.hid hY
  clear hr hX hY
  go_enter Tryd.func95, Tryd.ntmps95
  go_wp2
  go_loop [8] (fun i => allRel (fun x => decide (lo ≤ x ∧ x ≤ hi)) l n i) (fun i => n - (intOf i).toNat)
  case atStart => exact ⟨0, rfl, Nat.zero_le _, rfl⟩
  case round =>
    obtain ⟨k, rfl, hk, hD⟩ := hrel
    have HD := Lib.hid hD
    clear hD
    by_cases hlt : k < n
    · obtain ⟨b, o, x, rfl, hb, hx, _, hcell⟩ := num_at HR.out hlt
      have HS := Lib.hid (all_step (f := fun x => decide (lo ≤ x ∧ x ≤ hi)) hx)
      clear hx
      rcases h1 : decide (lo ≤ x ∧ x ≤ hi) with _ | _
      · have HF := Lib.hid (show allIn l lo hi = false by unfold allIn; rw [HD.out, HS.out, h1]; rfl)
        go_wp2_with (go_at_call 87; (with_reducible refine (within1_any lo hi x X Y _ HX.out HY.out).mono ?_); rw [h1]; rintro e w9 ⟨rfl, rfl⟩)
        go_ret
        exact ⟨⟨_, rfl, by rw [HF.out]; exact decide_eq_true (by omega)⟩, rfl⟩
      · have HN := Lib.hid (show l.all (fun x => decide (lo ≤ x ∧ x ≤ hi)) = (l.drop (k + 1)).all (fun x => decide (lo ≤ x ∧ x ≤ hi)) by rw [HD.out, HS.out, h1]; rfl)
        go_wp2_with (go_at_call 87; (with_reducible refine (within1_any lo hi x X Y _ HX.out HY.out).mono ?_); rw [h1]; rintro e w9 ⟨rfl, rfl⟩)
        go_round
        case rel => exact ⟨k + 1, by go_num, by omega, HN.out⟩
        case measure => simp [intOf]; omega
    · have HT := Lib.hid (show allIn l lo hi = true by unfold allIn; rw [HD.out, List.drop_of_length_le (by have := HR.out.len; omega)]; rfl)
      go_wp2
      go_ret
      exact ⟨⟨_, rfl, by rw [HT.out]; rfl⟩, rfl⟩
set_option maxRecDepth 100000 in
set_option maxHeartbeats 1000000 in
theorem indexTexts_any (A : Option Addr) (n c : Nat) (l : List ByteArray) (B : Nat) (w : World) (hr : RdL w B A n l) (hn : n ≤ 140737488351232) :
    Calls Tryd.prog 96 #[.slice A n c, .func (.func 89) #[] #[]] w fun e w' => (∃ i : Int, e = .returned (.int .i64 i) ∧ decide (0 ≤ i) = !allShort 64 l) ∧ w = w' := by
  have HR := Lib.hid hr
  clear hr
  go_enter Tryd.func96, Tryd.ntmps96
  go_wp2
  go_loop [8] (fun i => allRel (fun t : ByteArray => decide (t.size ≤ 64)) l n i) (fun i => n - (intOf i).toNat)
  case atStart => exact ⟨0, rfl, Nat.zero_le _, rfl⟩
  case round =>
    obtain ⟨k, rfl, hk, hD⟩ := hrel
    have HD := Lib.hid hD
    clear hD
    by_cases hlt : k < n
    · obtain ⟨b, o, x, rfl, hb, hx, hxm, hcell⟩ := txt_at HR.out hlt
      have HS := Lib.hid (all_step (f := fun t : ByteArray => decide (t.size ≤ 64)) hx)
      clear hx
      have hcast : decide ((x.size : Int) ≤ 64) = decide (x.size ≤ 64) := decide_eq_decide.2 (by omega)
      rcases h1 : decide (x.size ≤ 64) with _ | _
      · have HF := Lib.hid (show allShort 64 l = false by unfold allShort; rw [HD.out, HS.out, h1]; rfl)
        have HC := Lib.hid (hcast.trans h1)
        clear hcast h1
        go_wp2_with (go_at_call 89; (with_reducible refine (text1_any x _).mono ?_); rw [HC.out]; rintro e w9 ⟨rfl, rfl⟩)
        go_ret
        exact ⟨⟨_, rfl, by rw [HF.out]; exact decide_eq_true (by omega)⟩, rfl⟩
      · have HN := Lib.hid (show l.all (fun t : ByteArray => decide (t.size ≤ 64)) = (l.drop (k + 1)).all (fun t : ByteArray => decide (t.size ≤ 64)) by rw [HD.out, HS.out, h1]; rfl)
        have HC := Lib.hid (hcast.trans h1)
        clear hcast h1
        go_wp2_with (go_at_call 89; (with_reducible refine (text1_any x _).mono ?_); rw [HC.out]; rintro e w9 ⟨rfl, rfl⟩)
        go_round
        case rel => exact ⟨k + 1, by go_num, by omega, HN.out⟩
        case measure => simp [intOf]; omega
    · have HT := Lib.hid (show allShort 64 l = true by unfold allShort; rw [HD.out, List.drop_of_length_le (by have := HR.out.len; omega)]; rfl)
      go_wp2
      go_ret
      exact ⟨⟨_, rfl, by rw [HT.out]; rfl⟩, rfl⟩
theorem containsInts_any (A : Option Addr) (n c : Nat) (l : List Int) (lo hi : Int) (X Y : Nat) (B : Nat) (w : World) (hr : RdL w B A n l) (hn : n ≤ 140737488351232) (hX : w.cell? ⟨X, 0, none⟩ = some (.int .i64 lo)) (hY : w.cell? ⟨Y, 0, none⟩ = some (.int .i64 hi)) :
    Calls Tryd.prog 86 #[.slice A n c, .func (.func 87) #[] #[.pointer (some ⟨X, 0, none⟩), .pointer (some ⟨Y, 0, none⟩)]] w fun e w' => e = .returned (.bool (!allIn l lo hi)) ∧ w = w' := by
  have HR := Lib.hid hr
  have HX := Lib.hid hX
  have HY := Lib.hid hY
  clear hr hX hY
  go_enter Tryd.func86, Tryd.ntmps86
  go_wp2_with (go_at_call 95; (with_reducible refine (indexInts_any A n c l lo hi X Y B _ HR.out hn HX.out HY.out).mono ?_); rintro e w9 ⟨⟨i, rfl, hi9⟩, rfl⟩; have HI := Lib.hid hi9; clear hi9)
  go_ret
  exact ⟨by rw [← HI.out]; rfl, rfl⟩
theorem containsTexts_any (A : Option Addr) (n c : Nat) (l : List ByteArray) (B : Nat) (w : World) (hr : RdL w B A n l) (hn : n ≤ 140737488351232) :
    Calls Tryd.prog 88 #[.slice A n c, .func (.func 89) #[] #[]] w fun e w' => e = .returned (.bool (!allShort 64 l)) ∧ w = w' := by
  have HR := Lib.hid hr
  clear hr
  go_enter Tryd.func88, Tryd.ntmps88
  go_wp2_with (go_at_call 96; (with_reducible refine (indexTexts_any A n c l B _ HR.out hn).mono ?_); rintro e w9 ⟨⟨i, rfl, hi9⟩, rfl⟩; have HI := Lib.hid hi9; clear hi9)
  go_ret
  exact ⟨by rw [← HI.out]; rfl, rfl⟩
set_option maxRecDepth 100000 in
theorem areWithin_any (A : Option Addr) (n c : Nat) (l : List Int) (lo hi : Int) (w : World) (hr : RdL w w.heap.size A n l) (hn : n ≤ 140737488351232) :
    Calls Tryd.prog 63 #[.slice A n c, .int .i64 lo, .int .i64 hi] w fun e w' => e = .returned (.bool (allIn l lo hi)) ∧ Below w.heap.size w w' := by
  have HR := Lib.hid hr
  clear hr
  go_enter Tryd.func63, Tryd.ntmps63
  go_wp2_with (go_at_call 86; (with_reducible refine (containsInts_any A n c l lo hi _ _ w.heap.size _ (HR.out.below (bel_alloc (bel_alloc (Below.refl _ _) _) _) (Nat.le_refl _)) hn (by go_simp) (by go_simp)).mono ?_); rintro e w9 ⟨rfl, rfl⟩)
  go_ret
  exact ⟨by simp, bel_alloc (bel_alloc (Below.refl _ _) _) _⟩
theorem areTexts_any (A : Option Addr) (n c : Nat) (l : List ByteArray) (B : Nat) (w : World) (hr : RdL w B A n l) (hn : n ≤ 140737488351232) :
    Calls Tryd.prog 64 #[.slice A n c] w fun e w' => e = .returned (.bool (allShort 64 l)) ∧ w = w' := by
  have HR := Lib.hid hr
  clear hr
  go_enter Tryd.func64, Tryd.ntmps64
  go_wp2_with (go_at_call 88; (with_reducible refine (containsTexts_any A n c l B _ HR.out hn).mono ?_); rintro e w9 ⟨rfl, rfl⟩)
  go_ret
  exact ⟨by simp, rfl⟩
end Go.Proofs.YthhdhdjdhekgpaaDoor.Pro
