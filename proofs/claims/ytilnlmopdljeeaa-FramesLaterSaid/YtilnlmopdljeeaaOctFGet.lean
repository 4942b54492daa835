/- The contract of octet.Get. -/
import Derived.Test.YtilnlmopdljeeaaOctFHas
import Derived.Test.YtilnlmopdljeeaaOctFIsWidth
namespace Go.Proofs.Ytilnlmopdljeeaa.Oct
open Go.RowKit

set_option maxRecDepth 100000 in
set_option maxHeartbeats 800000 in
theorem Get_yes (A : Option Addr) (n c : Nat) (m k : Nat) (l : List UInt8) (B : Nat) (w : World) (hr : Rd w B A n l) (hc : n ≤ c) (hn : n ≤ 1099511627776) (hw : isW (k : Int) = true) (hh : hasB n (m : Int) (k : Int) = true) :
    Calls Try.prog 21 #[.slice A n c, .int .i64 (m : Int), .int .i64 (k : Int)] w fun e w' => e = .returned (.tuple #[.int .u64 (getN ((l.drop m).take k) : Int), .int .i64 0]) ∧ w = w' := by
  have h1 : 1 ≤ k ∧ k ≤ 8 := by simp [isW] at hw; omega
  have h2 : m + k ≤ n := by simp [hasB] at hh; omega
  obtain ⟨b, o, d0, rfl, _, _, _⟩ := hr.at (k := m) (by omega)
  have hcut := hr.cut (i := m) (m := k) h2 _ (fun _ => rfl)
  have HLEN := Lib.hid hcut.len
  go_enter Try.func21, Try.ntmps21
  go_wp2_with (first | (go_at_call 26; refine (isWidth_any _ _).mono ?_; rintro e w1 ⟨rfl, rfl⟩) | (go_at_call 27; refine (has_any _ _ _ _ _ _ (by omega) (by omega)).mono ?_; rintro e w1 ⟨rfl, rfl⟩))
  go_loop [8, 30] (fun v i => gtRel ((l.drop m).take k) k v i) (fun _ i => k - (intOf i).toNat)
  case atStart => exact ⟨0, 0, rfl, rfl, Nat.zero_le _, rfl⟩
  case round =>
    obtain ⟨j, U, rfl, rfl, hj, hU⟩ := hrel
    have HU := Lib.hid hU
    clear hU
    by_cases hlt : j < k
    · obtain ⟨b', o', d, he, _, hd, hcell⟩ := hcut.at hlt
      simp only [Option.map_some, Addr.add_lit, Option.some.injEq, Addr.mk.injEq] at he
      obtain ⟨rfl, rfl, _⟩ := he
      have HD := Lib.hid hd
      have hd255 : d.toNat ≤ 255 := by have := d.toNat_lt; omega
      have HOR := Lib.hid (or8 U d (by rw [HU.out]; exact getN_small (by rw [List.length_take]; omega)))
      clear hd hcut hr
      go_wp2
      go_round
      case rel => exact ⟨j + 1, _, congrArg (Value.int .u64) HOR.out, by go_num, by omega, by rw [getN_take _ _ _ HD.out, HU.out]⟩
      case measure => simp [intOf]; omega
    · have hjk : j = k := by omega
      subst hjk
      have HT := Lib.hid (show U = getN ((l.drop m).take j) by rw [HU.out, List.take_of_length_le (by have := HLEN.out; omega)])
      clear hcut hr
      go_wp2
      go_ret2
      exact ⟨congrArg (fun z : Nat => Ending.returned (.tuple #[.int .u64 (z : Int), .int .i64 0])) HT.out, rfl⟩

theorem Get_any (A : Option Addr) (n c : Nat) (p k : Int) (l : List UInt8) (B : Nat) (w : World) (hr : Rd w B A n l) (hc : n ≤ c) (hn : n ≤ 1099511627776) :
    Calls Try.prog 21 #[.slice A n c, .int .i64 p, .int .i64 k] w fun e w' => GT l p k e ∧ w = w' := by
  have hl := hr.len
  unfold GT gt
  rw [hl]
  by_cases h1 : isW k = true
  · by_cases h2 : p < 0
    · rw [if_pos (Or.inr h2)]
      clear hl hr hc
      go_enter Try.func21, Try.ntmps21
      go_wp2_with (go_at_call 26; refine (isWidth_any _ _).mono ?_; rintro e w1 ⟨rfl, rfl⟩)
      go_ret2
      exact ⟨rfl, rfl⟩
    · have h2' : 0 ≤ p := by omega
      rw [if_neg (by simp [h1, h2])]
      by_cases h3 : hasB n p k = true
      · rw [if_neg (by simp [h3])]
        obtain ⟨m, rfl⟩ : ∃ m : Nat, p = (m : Int) := ⟨p.toNat, by omega⟩
        obtain ⟨k, rfl⟩ : ∃ m : Nat, k = (m : Int) := ⟨k.toNat, by simp [isW] at h1; omega⟩
        exact Get_yes A n c m k l B w hr hc hn h1 h3
      · have h3' : hasB n p k = false := by simpa using h3
        rw [if_pos h3']
        clear hl hr hc h3 h2
        go_enter Try.func21, Try.ntmps21
        go_wp2_with (first | (go_at_call 26; refine (isWidth_any _ _).mono ?_; rintro e w1 ⟨rfl, rfl⟩) | (go_at_call 27; refine (has_any _ _ _ _ _ _ (by omega) (by omega)).mono ?_; rintro e w1 ⟨rfl, rfl⟩))
        go_ret2
        exact ⟨rfl, rfl⟩
  · have h1' : isW k = false := by simpa using h1
    rw [if_pos (Or.inl h1')]
    clear hl hr hc h1
    go_enter Try.func21, Try.ntmps21
    go_wp2_with (go_at_call 26; refine (isWidth_any _ _).mono ?_; rintro e w1 ⟨rfl, rfl⟩)
    all_goals go_ret2
    all_goals exact ⟨rfl, rfl⟩

theorem Get_is (A : Option Addr) (n c : Nat) (p k : Int) (l : List UInt8) (B : Nat) (w : World) (hr : Rd w B A n l) (hc : n ≤ c) (hn : n ≤ 1099511627776) {x : Nat} {z : Int} (h : gt l p k = (x, z)) :
    Calls Try.prog 21 #[.slice A n c, .int .i64 p, .int .i64 k] w fun e w' => e = .returned (.tuple #[.int .u64 (x : Int), .int .i64 z]) ∧ w = w' := by
  have h1 := Get_any A n c p k l B w hr hc hn
  unfold GT at h1
  rw [h] at h1
  exact h1

end Go.Proofs.Ytilnlmopdljeeaa.Oct
