/- The contract of the document's GetVar. -/
import Derived.Test.YtfjdalekpmlnaaaOctU8
namespace Go.Proofs.Ytfjdalekpmlnaaa.Oct
open Go.RowKit

def rgvRel (l : List UInt8) (m : Nat) (v t i : Value) : Prop :=
  ∃ U j T, v = .int .u64 ((U : Nat) : Int) ∧ t = .int .u64 ((T : Nat) : Int) ∧ T = 128 ^ j % 18446744073709551616 ∧ i = .int .i64 ((j : Nat) : Int) ∧ j ≤ 9 ∧ U < 128 ^ j ∧ scan (l.drop m) 0 0 = scan (l.drop (m + j)) j U

set_option maxRecDepth 100000 in
set_option maxHeartbeats 800000 in
theorem refGetVar_at (A : Option Addr) (n c : Nat) (m : Nat) (l : List UInt8) (B : Nat) (w : World) (hr : Rd w B A n l) (hn : n ≤ 1099511627776) (hm : m ≤ 9223372036854775807) :
    Calls Try.prog 40 #[.slice A n c, .int .i64 (m : Int)] w fun e w' => GV l (m : Int) e ∧ w = w' := by
  have HL := Lib.hid hr.len
  have HM := Lib.hid hm
  have HN := Lib.hid hn
  clear hm hn
  go_enter Try.func40, Try.ntmps40
  go_wp2
  go_loop [7, 8, 9] (fun v t i => rgvRel l m v t i) (fun _ _ i => 10 - (intOf i).toNat)
  case atStart => exact ⟨0, 0, 1, rfl, rfl, by simp, rfl, by omega, by simp, rfl⟩
  case round =>
    obtain ⟨U, j, T, rfl, rfl, hT, rfl, hj, hU, hs⟩ := hrel
    have HT := Lib.hid hT
    have hnn := HN.out
    clear hT
    have HS := Lib.hid hs
    have HU := Lib.hid hU
    clear hs hU
    by_cases hk : m + j < n
    · obtain ⟨b, o, d, rfl, _, hd, hcell⟩ := hr.at hk
      have hd255 : d.toNat ≤ 255 := by have := d.toNat_lt; omega
      have hmn : m ≤ 1099511627776 := by have := HN.out; omega
      have HD := Lib.hid hd
      clear hd hr
      have hstep : scan (l.drop m) 0 0 = if VR.bad j d then .form else if d.toNat < 128 then .ok (U + d.toNat * 128 ^ j) (j + 1) else scan (l.drop (m + j + 1)) (j + 1) (U + (d.toNat - 128) * 128 ^ j) := by
        rw [HS.out, drop_at HD.out, scan]
      by_cases hbad : VR.bad j d
      · rw [if_pos hbad] at hstep
        have HF := Lib.hid hstep
        have hb2 : j = 9 ∧ 1 < d.toNat ∨ 0 < j ∧ d.toNat = 0 := hbad
        clear hstep hbad
        rcases hb2 with ⟨h9, h1⟩ | ⟨h0, h1⟩
        · have h9' : ((j : Int) == 9) = true := beqT (by omega)
          clear h9
          go_wp2
          all_goals go_ret3
          all_goals exact ⟨GV.form HF.out, rfl⟩
        · have h1' : ((d.toNat : Int) == 0) = true := beqT (by omega)
          have h1'' : ¬ (1 : Int) < (d.toNat : Int) := by omega
          clear h1
          go_wp2
          all_goals go_ret3
          all_goals exact ⟨GV.form HF.out, rfl⟩
      · rw [if_neg hbad] at hstep
        have hb2 : (j = 9 → d.toNat ≤ 1) ∧ (0 < j → 1 ≤ d.toNat) := by unfold VR.bad at hbad; omega
        clear hbad
        have hor := addVar U j d HU.out hj hb2.1
        have hunit := unitVar j
        by_cases hs : d.toNat < 128
        · rw [if_pos hs] at hstep
          obtain ⟨V, hV⟩ : ∃ V, V = U + d.toNat * 128 ^ j := ⟨_, rfl⟩
          rw [← hV] at hstep
          have HF := Lib.hid hstep
          have hT0 : T = 128 ^ j := by rw [HT.out]; exact Nat.mod_eq_of_lt (Nat.lt_of_le_of_lt (Nat.pow_le_pow_right (by omega) hj : 128 ^ j ≤ 128 ^ 9) (by decide))
          rw [Nat.mod_eq_of_lt hs, ← hV, ← hT0] at hor
          have HV64 := scan_lt hstep
          have hVc : (V : Int) ≤ 18446744073709551615 := by omega
          have HC := Lib.hid HV64
          clear hstep hunit hV hT0 HV64
          by_cases h9 : j = 9
          · have h9' : ((j : Int) == 9) = true := beqT (by omega)
            have h1 : ¬ (1 : Int) < (d.toNat : Int) := by have := hb2.1 h9; omega
            have h2 : ((d.toNat : Int) == 0) = false := beqF (by have := hb2.2 (by omega); omega)
            clear hb2 h9
            rcases (show V % 2 = 0 ∨ V % 2 = 1 by omega) with hpar | hpar
            · have HU2 := Lib.hid (show (V : Int) / 2 = uz V by unfold uz; rw [if_pos hpar]; omega)
              have hp2 : ((V : Int) % 2 == 1) = false := beqF (by omega)
              clear hpar
              go_wp2
              all_goals go_ret3
              all_goals exact ⟨GV.ok HF.out HU2.out (by omega), rfl⟩
            · have HU2 := Lib.hid (show -((V : Int) / 2) - 1 = uz V by unfold uz; rw [if_neg (by omega)]; omega)
              have hp2 : ((V : Int) % 2 == 1) = true := beqT (by omega)
              clear hpar
              go_wp2
              all_goals go_ret3
              all_goals exact ⟨GV.ok HF.out HU2.out (by omega), rfl⟩
          · by_cases h0 : j = 0
            · have h9' : ((j : Int) == 9) = false := beqF (by omega)
              have h0' : ¬ (0 : Int) < (j : Int) := by omega
              clear hb2 h9 h0
              rcases (show V % 2 = 0 ∨ V % 2 = 1 by omega) with hpar | hpar
              · have HU2 := Lib.hid (show (V : Int) / 2 = uz V by unfold uz; rw [if_pos hpar]; omega)
                have hp2 : ((V : Int) % 2 == 1) = false := beqF (by omega)
                clear hpar
                go_wp2
                all_goals go_ret3
                all_goals exact ⟨GV.ok HF.out HU2.out (by omega), rfl⟩
              · have HU2 := Lib.hid (show -((V : Int) / 2) - 1 = uz V by unfold uz; rw [if_neg (by omega)]; omega)
                have hp2 : ((V : Int) % 2 == 1) = true := beqT (by omega)
                clear hpar
                go_wp2
                all_goals go_ret3
                all_goals exact ⟨GV.ok HF.out HU2.out (by omega), rfl⟩
            · have h9' : ((j : Int) == 9) = false := beqF (by omega)
              have h2 : ((d.toNat : Int) == 0) = false := beqF (by have := hb2.2 (by omega); omega)
              clear hb2 h9 h0
              rcases (show V % 2 = 0 ∨ V % 2 = 1 by omega) with hpar | hpar
              · have HU2 := Lib.hid (show (V : Int) / 2 = uz V by unfold uz; rw [if_pos hpar]; omega)
                have hp2 : ((V : Int) % 2 == 1) = false := beqF (by omega)
                clear hpar
                go_wp2
                all_goals go_ret3
                all_goals exact ⟨GV.ok HF.out HU2.out (by omega), rfl⟩
              · have HU2 := Lib.hid (show -((V : Int) / 2) - 1 = uz V by unfold uz; rw [if_neg (by omega)]; omega)
                have hp2 : ((V : Int) % 2 == 1) = true := beqT (by omega)
                clear hpar
                go_wp2
                all_goals go_ret3
                all_goals exact ⟨GV.ok HF.out HU2.out (by omega), rfl⟩
        · rw [if_neg hs] at hstep
          have HF := Lib.hid hstep
          have hj9 : j + 1 ≤ 9 := by have := hb2.1; omega
          have hT0 : T = 128 ^ j := by rw [HT.out]; exact Nat.mod_eq_of_lt (Nat.lt_of_le_of_lt (Nat.pow_le_pow_right (by omega) hj : 128 ^ j ≤ 128 ^ 9) (by decide))
          rw [show d.toNat % 128 = d.toNat - 128 by omega] at hor
          have HOR := Lib.hid (show IntKind.u64.wrap ((U : Int) + IntKind.u64.wrap ((T : Int) * ((d.toNat : Int) % 128))) = ((U + (d.toNat - 128) * 128 ^ j : Nat) : Int) by rw [hT0]; exact hor)
          rw [← HT.out] at hunit
          have HUN := Lib.hid hunit
          have h9' : ((j : Int) == 9) = false := beqF (by omega)
          have h2 : ((d.toNat : Int) == 0) = false := beqF (by omega)
          clear hstep hor hunit hb2 hT0
          go_wp2
          all_goals go_round
          all_goals first | exact ⟨_, j + 1, _, congrArg (Value.int .u64) HOR.out, congrArg (Value.int .u64) HUN.out, rfl, by go_num, hj9, step_lt HU.out (by omega), by rw [HF.out, Nat.add_assoc]⟩ | (simp [intOf]; omega)
    · have hsh : scan (l.drop m) 0 0 = .short := by
        rw [HS.out, drop_end (by have := HL.out; omega)]; rfl
      have HSH := Lib.hid hsh
      clear hsh hr
      rcases (show n ≤ m ∨ m < n ∧ n - m ≤ j by omega) with h | ⟨h, h'⟩
      all_goals
        clear hk
        go_wp2
        go_ret3
        exact ⟨GV.short HSH.out, rfl⟩

theorem refGetVar_any (A : Option Addr) (n c : Nat) (k : Int) (l : List UInt8) (B : Nat) (w : World) (hr : Rd w B A n l) (hn : n ≤ 1099511627776) (hk : k ≤ 9223372036854775807) :
    Calls Try.prog 40 #[.slice A n c, .int .i64 k] w fun e w' => GV l k e ∧ w = w' := by
  by_cases h0 : 0 ≤ k
  · obtain ⟨m, rfl⟩ : ∃ m : Nat, k = (m : Int) := ⟨k.toNat, by omega⟩
    exact refGetVar_at A n c m l B w hr hn (by omega)
  · have h0' : k < 0 := by omega
    have H := Lib.hid (GV.neg (l := l) h0')
    clear h0 hk hn hr
    go_enter Try.func40, Try.ntmps40
    go_wp2
    go_ret3
    exact ⟨H.out, rfl⟩

theorem refGetVar_is (A : Option Addr) (n c : Nat) (k : Int) (l : List UInt8) (B : Nat) (w : World) (hr : Rd w B A n l) (hn : n ≤ 1099511627776) (hk : k ≤ 9223372036854775807) {x y z : Int} (h : gv l k = (x, y, z)) :
    Calls Try.prog 40 #[.slice A n c, .int .i64 k] w fun e w' => e = .returned (.tuple #[.int .i64 x, .int .i64 y, .int .i64 z]) ∧ w = w' := by
  have h1 := refGetVar_any A n c k l B w hr hn hk
  unfold GV at h1
  rw [h] at h1
  exact h1

end Go.Proofs.Ytfjdalekpmlnaaa.Oct
