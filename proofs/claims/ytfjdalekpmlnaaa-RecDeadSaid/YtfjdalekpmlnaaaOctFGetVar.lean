/- The contract of octet.GetVar. -/
import Derived.Test.YtfjdalekpmlnaaaOctFHas
import Derived.Test.YtfjdalekpmlnaaaOctFUnfold
namespace Go.Proofs.Ytfjdalekpmlnaaa.Oct
open Go.RowKit

set_option maxRecDepth 100000 in
set_option maxHeartbeats 800000 in
theorem GetVar_at (A : Option Addr) (n c : Nat) (m : Nat) (l : List UInt8) (B : Nat) (w : World) (hr : Rd w B A n l) (hn : n ≤ 1099511627776) (hm : m ≤ 9223372036854775807) :
    Calls Try.prog 32 #[.slice A n c, .int .i64 (m : Int)] w fun e w' => GV l (m : Int) e ∧ w = w' := by
  have HL := Lib.hid hr.len
  have HM := Lib.hid hm
  have HN := Lib.hid hn
  clear hm hn
  go_enter Try.func32, Try.ntmps32
  go_wp2
  go_loop [7, 12] (fun v i => gvRel l m v i) (fun _ i => 10 - (intOf i).toNat)
  case atStart => exact ⟨0, 0, rfl, rfl, by omega, by simp, rfl⟩
  case round =>
    obtain ⟨U, j, rfl, rfl, hj, hU, hs⟩ := hrel
    have HS := Lib.hid hs
    have HU := Lib.hid hU
    clear hs hU
    by_cases hk : m + j < n
    · obtain ⟨b, o, d, rfl, _, hd, hcell⟩ := hr.at hk
      have hh : hasB n (m : Int) ((j : Int) + 1) = true := by simp [hasB]; omega
      have hd255 : d.toNat ≤ 255 := by have := d.toNat_lt; omega
      have hmn : m ≤ 1099511627776 := by have := HN.out; omega
      have HD := Lib.hid hd
      clear hd hr
      have hstep : scan (l.drop m) 0 0 = if VR.bad j d then .form else if d.toNat < 128 then .ok (U + d.toNat * 128 ^ j) (j + 1) else scan (l.drop (m + j + 1)) (j + 1) (U + (d.toNat - 128) * 128 ^ j) := by
        rw [HS.out, drop_at HD.out, scan]
      by_cases hbad : VR.bad j d
      · rw [if_pos hbad] at hstep
        have HF := Lib.hid hstep
        have hb2 : j = 9 ∧ 1 < d.toNat ∨ 0 < j ∧ d.toNat = 0 := hbad
        clear hstep hbad
        rcases hb2 with ⟨h9, h1⟩ | ⟨h0, h1⟩
        · have h9' : ((j : Int) == 9) = true := by simp; omega
          clear h9
          go_wp2_with (go_at_call 47; refine (has_any _ _ _ _ _ _ (by have := HN.out; omega) (by omega)).mono ?_; rintro e w1 ⟨rfl, rfl⟩)
          all_goals go_ret3
          all_goals exact ⟨GV.form HF.out, rfl⟩
        · have h1' : ((d.toNat : Int) == 0) = true := by simp; omega
          have h1'' : ¬ (1 : Int) < (d.toNat : Int) := by omega
          clear h1
          go_wp2_with (go_at_call 47; refine (has_any _ _ _ _ _ _ (by have := HN.out; omega) (by omega)).mono ?_; rintro e w1 ⟨rfl, rfl⟩)
          all_goals go_ret3
          all_goals exact ⟨GV.form HF.out, rfl⟩
      · rw [if_neg hbad] at hstep
        have hb2 : (j = 9 → d.toNat ≤ 1) ∧ (0 < j → 1 ≤ d.toNat) := by unfold VR.bad at hbad; omega
        clear hbad
        have HOR := Lib.hid (orVar U j d HU.out hj hb2.1)
        by_cases hs : d.toNat < 128
        · rw [if_pos hs] at hstep
          have HF := Lib.hid hstep
          have HOR2 := Lib.hid (HOR.out.trans (congrArg Nat.cast (congrArg (fun z => U + z * 128 ^ j) (Nat.mod_eq_of_lt hs))))
          have HU2 := Lib.hid (scan_lt HF.out)
          clear hstep HOR
          by_cases h9 : j = 9
          · have h9' : ((j : Int) == 9) = true := by simp; omega
            have h1 : ¬ (1 : Int) < (d.toNat : Int) := by have := hb2.1 h9; omega
            have h2 : ((d.toNat : Int) == 0) = false := by have := hb2.2 (by omega); simp; omega
            clear hb2 h9
            go_wp2_with (first | (go_at_call 47; refine (has_any _ _ _ _ _ _ (by have := HN.out; omega) (by omega)).mono ?_; rintro e w1 ⟨rfl, rfl⟩) | (go_at_call 48; (with_reducible refine (unfold_at _ _ HOR2.out _ HU2.out).mono ?_); rintro e w1 ⟨rfl, rfl⟩))
            all_goals go_ret3
            all_goals exact ⟨GV.ok HF.out rfl (by omega), rfl⟩
          · have h9' : ((j : Int) == 9) = false := by simp; omega
            by_cases h0 : j = 0
            · have h0' : ¬ (0 : Int) < (j : Int) := by omega
              clear hb2 h9 h0
              go_wp2_with (first | (go_at_call 47; refine (has_any _ _ _ _ _ _ (by have := HN.out; omega) (by omega)).mono ?_; rintro e w1 ⟨rfl, rfl⟩) | (go_at_call 48; (with_reducible refine (unfold_at _ _ HOR2.out _ HU2.out).mono ?_); rintro e w1 ⟨rfl, rfl⟩))
              all_goals go_ret3
              all_goals exact ⟨GV.ok HF.out rfl (by omega), rfl⟩
            · have h2 : ((d.toNat : Int) == 0) = false := by have := hb2.2 (by omega); simp; omega
              clear hb2 h9 h0
              go_wp2_with (first | (go_at_call 47; refine (has_any _ _ _ _ _ _ (by have := HN.out; omega) (by omega)).mono ?_; rintro e w1 ⟨rfl, rfl⟩) | (go_at_call 48; (with_reducible refine (unfold_at _ _ HOR2.out _ HU2.out).mono ?_); rintro e w1 ⟨rfl, rfl⟩))
              all_goals go_ret3
              all_goals exact ⟨GV.ok HF.out rfl (by omega), rfl⟩
        · rw [if_neg hs] at hstep
          have HF := Lib.hid hstep
          have HOR2 := Lib.hid (HOR.out.trans (congrArg Nat.cast (congrArg (fun z => U + z * 128 ^ j) (show d.toNat % 128 = d.toNat - 128 by omega))))
          have h9' : ((j : Int) == 9) = false := by have := hb2.1; simp; omega
          have h2 : ((d.toNat : Int) == 0) = false := by simp; omega
          have hj9 : j + 1 ≤ 9 := by have := hb2.1; omega
          clear hstep HOR hb2
          go_wp2_with (go_at_call 47; refine (has_any _ _ _ _ _ _ (by have := HN.out; omega) (by omega)).mono ?_; rintro e w1 ⟨rfl, rfl⟩)
          all_goals go_round
          all_goals first | exact ⟨_, j + 1, congrArg (Value.int .u64) HOR2.out, by go_num, hj9, step_lt HU.out (by omega), by rw [HF.out, Nat.add_assoc]⟩ | (simp [intOf]; omega)
    · have hh : hasB n (m : Int) ((j : Int) + 1) = false := by simp [hasB]; omega
      have hsh : scan (l.drop m) 0 0 = .short := by
        rw [HS.out, drop_end (by have := HL.out; omega)]; rfl
      have HSH := Lib.hid hsh
      clear hsh hk hr
      go_wp2_with (go_at_call 47; refine (has_any _ _ _ _ _ _ (by have := HN.out; omega) (by omega)).mono ?_; rintro e w1 ⟨rfl, rfl⟩)
      go_ret3
      exact ⟨GV.short HSH.out, rfl⟩

theorem GetVar_any (A : Option Addr) (n c : Nat) (k : Int) (l : List UInt8) (B : Nat) (w : World) (hr : Rd w B A n l) (hn : n ≤ 1099511627776) (hk : k ≤ 9223372036854775807) :
    Calls Try.prog 32 #[.slice A n c, .int .i64 k] w fun e w' => GV l k e ∧ w = w' := by
  by_cases h0 : 0 ≤ k
  · obtain ⟨m, rfl⟩ : ∃ m : Nat, k = (m : Int) := ⟨k.toNat, by omega⟩
    exact GetVar_at A n c m l B w hr hn (by omega)
  · have h0' : k < 0 := by omega
    have H := Lib.hid (GV.neg (l := l) h0')
    clear h0 hk hn hr
    go_enter Try.func32, Try.ntmps32
    go_wp2
    go_ret3
    exact ⟨H.out, rfl⟩

theorem GetVar_is (A : Option Addr) (n c : Nat) (k : Int) (l : List UInt8) (B : Nat) (w : World) (hr : Rd w B A n l) (hn : n ≤ 1099511627776) (hk : k ≤ 9223372036854775807) {x y z : Int} (h : gv l k = (x, y, z)) :
    Calls Try.prog 32 #[.slice A n c, .int .i64 k] w fun e w' => e = .returned (.tuple #[.int .i64 x, .int .i64 y, .int .i64 z]) ∧ w = w' := by
  have h1 := GetVar_any A n c k l B w hr hn hk
  unfold GV at h1
  rw [h] at h1
  exact h1

end Go.Proofs.Ytfjdalekpmlnaaa.Oct
