/- The contracts of the document's own answers of layer 1: Get, GetVar, GetText. -/
import Derived.Test.YtjjokjgakenhlaaOctGetText
import Derived.Test.YtjjokjgakenhlaaOctRef
namespace Go.Proofs.Ytjjokjgakenhlaa.Oct
open Go.RowKit

theorem mul8 (U : Nat) (d : UInt8) (h : U < 72057594037927936) : IntKind.u64.wrap (IntKind.u64.wrap ((U : Int) * 256) + (d.toNat : Int)) = ((U * 256 + d.toNat : Nat) : Int) := by
  have hd := d.toNat_lt
  rw [IntKind.wrap_u64, IntKind.wrap_u64]
  omega

set_option maxRecDepth 100000 in
set_option maxHeartbeats 800000 in
theorem refGet_yes (A : Option Addr) (n c : Nat) (m k : Nat) (l : List UInt8) (B : Nat) (w : World) (hr : Rd w B A n l) (hn : n ≤ 1099511627776) (h1 : 1 ≤ k) (h8 : k ≤ 8) (h2 : m + k ≤ n) :
    Calls Try.prog 15 #[.slice A n c, .int .i64 (m : Int), .int .i64 (k : Int)] w fun e w' => e = .returned (.tuple #[.int .u64 (getN ((l.drop m).take k) : Int), .int .i64 0]) ∧ w = w' := by
  obtain ⟨b, o, d0, rfl, _, _, _⟩ := hr.at (k := m) (by omega)
  have HLEN := Lib.hid (show ((l.drop m).take k).length = k by have := hr.len; rw [List.length_take, List.length_drop]; omega)
  go_enter Try.func15, Try.ntmps15
  go_wp2
  go_loop [8, 33] (fun v i => gtRel ((l.drop m).take k) k v i) (fun _ i => k - (intOf i).toNat)
  case atStart => exact ⟨0, 0, rfl, rfl, Nat.zero_le _, rfl⟩
  case round =>
    obtain ⟨j, U, rfl, rfl, hj, hU⟩ := hrel
    have HU := Lib.hid hU
    clear hU
    by_cases hlt : j < k
    · obtain ⟨b', o', d, he, _, hd, hcell⟩ := hr.at (k := m + j) (by omega)
      simp only [Option.some.injEq, Addr.mk.injEq] at he
      obtain ⟨rfl, rfl, _⟩ := he
      have HD := Lib.hid (show ((l.drop m).take k)[j]? = some d by rw [List.getElem?_take, if_pos hlt, List.getElem?_drop]; exact hd)
      have hd255 : d.toNat ≤ 255 := by have := d.toNat_lt; omega
      have HOR := Lib.hid (mul8 U d (by rw [HU.out]; exact getN_small (by rw [List.length_take]; omega)))
      clear hd hr
      go_wp2
      go_round
      case rel => exact ⟨j + 1, _, congrArg (Value.int .u64) HOR.out, by go_num, by omega, by rw [getN_take _ _ _ HD.out, HU.out]⟩
      case measure => simp [intOf]; omega
    · have hjk : j = k := by omega
      subst hjk
      have HT := Lib.hid (show U = getN ((l.drop m).take j) by rw [HU.out, List.take_of_length_le (by have := HLEN.out; omega)])
      clear hr
      go_wp2
      go_ret2
      exact ⟨congrArg (fun z : Nat => Ending.returned (.tuple #[.int .u64 (z : Int), .int .i64 0])) HT.out, rfl⟩

theorem refGet_any (A : Option Addr) (n c : Nat) (p k : Int) (l : List UInt8) (B : Nat) (w : World) (hr : Rd w B A n l) (hn : n ≤ 1099511627776) :
    Calls Try.prog 15 #[.slice A n c, .int .i64 p, .int .i64 k] w fun e w' => GT l p k e ∧ w = w' := by
  have hl := hr.len
  unfold GT gt
  rw [hl]
  by_cases h1 : 1 ≤ k ∧ k ≤ 8
  · have h1' : isW k = true := by simp [isW]; omega
    obtain ⟨h1a, h1b⟩ := h1
    by_cases h2 : p < 0
    · rw [if_pos (Or.inr h2)]
      clear hl hr
      go_enter Try.func15, Try.ntmps15
      go_wp2
      go_ret2
      exact ⟨rfl, rfl⟩
    · have h2' : 0 ≤ p := by omega
      rw [if_neg (by simp [h1', h2])]
      by_cases h3 : p ≤ n ∧ k ≤ n - p
      · have h3' : hasB n p k = true := by simp [hasB]; omega
        rw [if_neg (by simp [h3'])]
        obtain ⟨m, rfl⟩ : ∃ m : Nat, p = (m : Int) := ⟨p.toNat, by omega⟩
        obtain ⟨k, rfl⟩ : ∃ m : Nat, k = (m : Int) := ⟨k.toNat, by omega⟩
        exact refGet_yes A n c m k l B w hr hn (by omega) (by omega) (by omega)
      · have h3' : hasB n p k = false := by simp [hasB]; omega
        rw [if_pos h3']
        clear hl hr h2
        rcases (show n < p ∨ p ≤ n ∧ n - p < k by omega) with h | ⟨h, h'⟩
        all_goals
          clear h3
          go_enter Try.func15, Try.ntmps15
          go_wp2
          go_ret2
          exact ⟨rfl, rfl⟩
  · have h1' : isW k = false := by simp [isW]; omega
    rw [if_pos (Or.inl h1')]
    clear hl hr
    rcases (show k < 1 ∨ 8 < k by omega) with h | h
    all_goals
      clear h1
      go_enter Try.func15, Try.ntmps15
      go_wp2
      go_ret2
      exact ⟨rfl, rfl⟩

theorem addVar (U j : Nat) (c : UInt8) (hU : U < 128 ^ j) (hj : j ≤ 9) (h9 : j = 9 → c.toNat ≤ 1) :
    IntKind.u64.wrap ((U : Int) + IntKind.u64.wrap (((128 ^ j : Nat) : Int) * ((c.toNat : Int) % 128))) = ((U + c.toNat % 128 * 128 ^ j : Nat) : Int) := by
  have hc := c.toNat_lt
  have hlt : c.toNat % 128 * 128 ^ j + 128 ^ j ≤ 18446744073709551616 := by
    by_cases h : j = 9
    · have := h9 h
      subst h
      have e : (128 : Nat) ^ 9 = 9223372036854775808 := by decide
      rw [e]
      omega
    · have : 128 ^ j ≤ 128 ^ 8 := Nat.pow_le_pow_right (by omega) (by omega)
      have e : (128 : Nat) ^ 8 = 72057594037927936 := by decide
      rw [e] at this
      have h2 : c.toNat % 128 * 128 ^ j ≤ 127 * 72057594037927936 := Nat.mul_le_mul (by omega) this
      omega
  have e0 : ((128 ^ j : Nat) : Int) * ((c.toNat : Int) % 128) = ((c.toNat % 128 * 128 ^ j : Nat) : Int) := by
    rw [Int.natCast_mul, Int.mul_comm]; rfl
  rw [e0, IntKind.wrap_u64, IntKind.wrap_u64]
  generalize c.toNat % 128 * 128 ^ j = z at *
  omega
theorem unitVar (j : Nat) : IntKind.u64.wrap (((128 ^ j % 18446744073709551616 : Nat) : Int) * 128) = ((128 ^ (j + 1) % 18446744073709551616 : Nat) : Int) := by
  rw [IntKind.wrap_u64, Nat.pow_succ]
  generalize 128 ^ j = z
  omega

def rgvRel (l : List UInt8) (m : Nat) (v t i : Value) : Prop :=
  ∃ U j T, v = .int .u64 ((U : Nat) : Int) ∧ t = .int .u64 ((T : Nat) : Int) ∧ T = 128 ^ j % 18446744073709551616 ∧ i = .int .i64 ((j : Nat) : Int) ∧ j ≤ 9 ∧ U < 128 ^ j ∧ scan (l.drop m) 0 0 = scan (l.drop (m + j)) j U

set_option maxRecDepth 100000 in
set_option maxHeartbeats 800000 in
theorem refGetVar_at (A : Option Addr) (n c : Nat) (m : Nat) (l : List UInt8) (B : Nat) (w : World) (hr : Rd w B A n l) (hn : n ≤ 1099511627776) (hm : m ≤ 9223372036854775807) :
    Calls Try.prog 20 #[.slice A n c, .int .i64 (m : Int)] w fun e w' => GV l (m : Int) e ∧ w = w' := by
  have HL := Lib.hid hr.len
  have HM := Lib.hid hm
  have HN := Lib.hid hn
  clear hm hn
  go_enter Try.func20, Try.ntmps20
  go_wp2
  go_loop [7, 8, 9] (fun v t i => rgvRel l m v t i) (fun _ _ i => 10 - (intOf i).toNat)
  case atStart => exact ⟨0, 0, 1, rfl, rfl, by simp, rfl, by omega, by simp, rfl⟩
  case round =>
    obtain ⟨U, j, T, rfl, rfl, hT, rfl, hj, hU, hs⟩ := hrel
    have HT := Lib.hid hT
    have hnn := HN.out
    clear hT
    have HS := Lib.hid hs
    have HU := Lib.hid hU
    clear hs hU
    by_cases hk : m + j < n
    · obtain ⟨b, o, d, rfl, _, hd, hcell⟩ := hr.at hk
      have hd255 : d.toNat ≤ 255 := by have := d.toNat_lt; omega
      have hmn : m ≤ 1099511627776 := by have := HN.out; omega
      have HD := Lib.hid hd
      clear hd hr
      have hstep : scan (l.drop m) 0 0 = if VR.bad j d then .form else if d.toNat < 128 then .ok (U + d.toNat * 128 ^ j) (j + 1) else scan (l.drop (m + j + 1)) (j + 1) (U + (d.toNat - 128) * 128 ^ j) := by
        rw [HS.out, drop_at HD.out, scan]
      by_cases hbad : VR.bad j d
      · rw [if_pos hbad] at hstep
        have HF := Lib.hid hstep
        have hb2 : j = 9 ∧ 1 < d.toNat ∨ 0 < j ∧ d.toNat = 0 := hbad
        clear hstep hbad
        rcases hb2 with ⟨h9, h1⟩ | ⟨h0, h1⟩
        · have h9' : ((j : Int) == 9) = true := beqT (by omega)
          clear h9
          go_wp2
          all_goals go_ret3
          all_goals exact ⟨GV.form HF.out, rfl⟩
        · have h1' : ((d.toNat : Int) == 0) = true := beqT (by omega)
          have h1'' : ¬ (1 : Int) < (d.toNat : Int) := by omega
          clear h1
          go_wp2
          all_goals go_ret3
          all_goals exact ⟨GV.form HF.out, rfl⟩
      · rw [if_neg hbad] at hstep
        have hb2 : (j = 9 → d.toNat ≤ 1) ∧ (0 < j → 1 ≤ d.toNat) := by unfold VR.bad at hbad; omega
        clear hbad
        have hor := addVar U j d HU.out hj hb2.1
        have hunit := unitVar j
        by_cases hs : d.toNat < 128
        · rw [if_pos hs] at hstep
          obtain ⟨V, hV⟩ : ∃ V, V = U + d.toNat * 128 ^ j := ⟨_, rfl⟩
          rw [← hV] at hstep
          have HF := Lib.hid hstep
          have hT0 : T = 128 ^ j := by rw [HT.out]; exact Nat.mod_eq_of_lt (Nat.lt_of_le_of_lt (Nat.pow_le_pow_right (by omega) hj : 128 ^ j ≤ 128 ^ 9) (by decide))
          rw [Nat.mod_eq_of_lt hs, ← hV, ← hT0] at hor
          have HV64 := scan_lt hstep
          have hVc : (V : Int) ≤ 18446744073709551615 := by omega
          have HC := Lib.hid HV64
          clear hstep hunit hV hT0 HV64
          by_cases h9 : j = 9
          · have h9' : ((j : Int) == 9) = true := beqT (by omega)
            have h1 : ¬ (1 : Int) < (d.toNat : Int) := by have := hb2.1 h9; omega
            have h2 : ((d.toNat : Int) == 0) = false := beqF (by have := hb2.2 (by omega); omega)
            clear hb2 h9
            rcases (show V % 2 = 0 ∨ V % 2 = 1 by omega) with hpar | hpar
            · have HU2 := Lib.hid (show (V : Int) / 2 = uz V by unfold uz; rw [if_pos hpar]; omega)
              have hp2 : ((V : Int) % 2 == 1) = false := beqF (by omega)
              clear hpar
              go_wp2
              all_goals go_ret3
              all_goals exact ⟨GV.ok HF.out HU2.out (by omega), rfl⟩
            · have HU2 := Lib.hid (show -((V : Int) / 2) - 1 = uz V by unfold uz; rw [if_neg (by omega)]; omega)
              have hp2 : ((V : Int) % 2 == 1) = true := beqT (by omega)
              clear hpar
              go_wp2
              all_goals go_ret3
              all_goals exact ⟨GV.ok HF.out HU2.out (by omega), rfl⟩
          · by_cases h0 : j = 0
            · have h9' : ((j : Int) == 9) = false := beqF (by omega)
              have h0' : ¬ (0 : Int) < (j : Int) := by omega
              clear hb2 h9 h0
              rcases (show V % 2 = 0 ∨ V % 2 = 1 by omega) with hpar | hpar
              · have HU2 := Lib.hid (show (V : Int) / 2 = uz V by unfold uz; rw [if_pos hpar]; omega)
                have hp2 : ((V : Int) % 2 == 1) = false := beqF (by omega)
                clear hpar
                go_wp2
                all_goals go_ret3
                all_goals exact ⟨GV.ok HF.out HU2.out (by omega), rfl⟩
              · have HU2 := Lib.hid (show -((V : Int) / 2) - 1 = uz V by unfold uz; rw [if_neg (by omega)]; omega)
                have hp2 : ((V : Int) % 2 == 1) = true := beqT (by omega)
                clear hpar
                go_wp2
                all_goals go_ret3
                all_goals exact ⟨GV.ok HF.out HU2.out (by omega), rfl⟩
            · have h9' : ((j : Int) == 9) = false := beqF (by omega)
              have h2 : ((d.toNat : Int) == 0) = false := beqF (by have := hb2.2 (by omega); omega)
              clear hb2 h9 h0
              rcases (show V % 2 = 0 ∨ V % 2 = 1 by omega) with hpar | hpar
              · have HU2 := Lib.hid (show (V : Int) / 2 = uz V by unfold uz; rw [if_pos hpar]; omega)
                have hp2 : ((V : Int) % 2 == 1) = false := beqF (by omega)
                clear hpar
                go_wp2
                all_goals go_ret3
                all_goals exact ⟨GV.ok HF.out HU2.out (by omega), rfl⟩
              · have HU2 := Lib.hid (show -((V : Int) / 2) - 1 = uz V by unfold uz; rw [if_neg (by omega)]; omega)
                have hp2 : ((V : Int) % 2 == 1) = true := beqT (by omega)
                clear hpar
                go_wp2
                all_goals go_ret3
                all_goals exact ⟨GV.ok HF.out HU2.out (by omega), rfl⟩
        · rw [if_neg hs] at hstep
          have HF := Lib.hid hstep
          have hj9 : j + 1 ≤ 9 := by have := hb2.1; omega
          have hT0 : T = 128 ^ j := by rw [HT.out]; exact Nat.mod_eq_of_lt (Nat.lt_of_le_of_lt (Nat.pow_le_pow_right (by omega) hj : 128 ^ j ≤ 128 ^ 9) (by decide))
          rw [show d.toNat % 128 = d.toNat - 128 by omega] at hor
          have HOR := Lib.hid (show IntKind.u64.wrap ((U : Int) + IntKind.u64.wrap ((T : Int) * ((d.toNat : Int) % 128))) = ((U + (d.toNat - 128) * 128 ^ j : Nat) : Int) by rw [hT0]; exact hor)
          rw [← HT.out] at hunit
          have HUN := Lib.hid hunit
          have h9' : ((j : Int) == 9) = false := beqF (by omega)
          have h2 : ((d.toNat : Int) == 0) = false := beqF (by omega)
          clear hstep hor hunit hb2 hT0
          go_wp2
          all_goals go_round
          all_goals first | exact ⟨_, j + 1, _, congrArg (Value.int .u64) HOR.out, congrArg (Value.int .u64) HUN.out, rfl, by go_num, hj9, step_lt HU.out (by omega), by rw [HF.out, Nat.add_assoc]⟩ | (simp [intOf]; omega)
    · have hsh : scan (l.drop m) 0 0 = .short := by
        rw [HS.out, drop_end (by have := HL.out; omega)]; rfl
      have HSH := Lib.hid hsh
      clear hsh hr
      rcases (show n ≤ m ∨ m < n ∧ n - m ≤ j by omega) with h | ⟨h, h'⟩
      all_goals
        clear hk
        go_wp2
        go_ret3
        exact ⟨GV.short HSH.out, rfl⟩

theorem refGetVar_any (A : Option Addr) (n c : Nat) (k : Int) (l : List UInt8) (B : Nat) (w : World) (hr : Rd w B A n l) (hn : n ≤ 1099511627776) (hk : k ≤ 9223372036854775807) :
    Calls Try.prog 20 #[.slice A n c, .int .i64 k] w fun e w' => GV l k e ∧ w = w' := by
  by_cases h0 : 0 ≤ k
  · obtain ⟨m, rfl⟩ : ∃ m : Nat, k = (m : Int) := ⟨k.toNat, by omega⟩
    exact refGetVar_at A n c m l B w hr hn (by omega)
  · have h0' : k < 0 := by omega
    have H := Lib.hid (GV.neg (l := l) h0')
    clear h0 hk hn hr
    go_enter Try.func20, Try.ntmps20
    go_wp2
    go_ret3
    exact ⟨H.out, rfl⟩
theorem refGetVar_is (A : Option Addr) (n c : Nat) (k : Int) (l : List UInt8) (B : Nat) (w : World) (hr : Rd w B A n l) (hn : n ≤ 1099511627776) (hk : k ≤ 9223372036854775807) {x y z : Int} (h : gv l k = (x, y, z)) :
    Calls Try.prog 20 #[.slice A n c, .int .i64 k] w fun e w' => e = .returned (.tuple #[.int .i64 x, .int .i64 y, .int .i64 z]) ∧ w = w' := by
  have h1 := refGetVar_any A n c k l B w hr hn hk
  unfold GV at h1
  rw [h] at h1
  exact h1
theorem refGet_is (A : Option Addr) (n c : Nat) (p k : Int) (l : List UInt8) (B : Nat) (w : World) (hr : Rd w B A n l) (hn : n ≤ 1099511627776) {x : Nat} {z : Int} (h : gt l p k = (x, z)) :
    Calls Try.prog 15 #[.slice A n c, .int .i64 p, .int .i64 k] w fun e w' => e = .returned (.tuple #[.int .u64 (x : Int), .int .i64 z]) ∧ w = w' := by
  have h1 := refGet_any A n c p k l B w hr hn
  unfold GT at h1
  rw [h] at h1
  exact h1

set_option maxRecDepth 100000 in
set_option maxHeartbeats 800000 in
theorem refGetText_any (A : Option Addr) (n c : Nat) (p most : Int) (l : List UInt8) (B : Nat) (w : World) (hr : Rd w B A n l) (hc : n ≤ c) (hn : n ≤ 1099511627776) (hp : p ≤ 9223372036854775807) :
    Calls Try.prog 24 #[.slice A n c, .int .i64 p, .int .i64 most] w fun e w' => GX l p most e ∧ w = w' := by
  have hl := hr.len
  have hnx := gv_next (l := l) (p := p)
  have HG := refGetVar_any A n c p l B w hr hn hp
  unfold GX gx
  unfold GV at HG
  rw [hl] at hnx ⊢
  generalize hx : (gv l p).1 = x at *
  generalize hy : (gv l p).2.1 = y at *
  generalize hz : (gv l p).2.2 = z at *
  have HG2 := Lib.hid HG
  clear hx hy hz HG
  by_cases h1 : z = 0
  · subst h1
    obtain ⟨g1, g2, g3⟩ := hnx rfl
    rw [if_neg (by simp)]
    by_cases h2 : x < 0
    · rw [if_pos h2]
      clear hr hl hnx
      go_enter Try.func24, Try.ntmps24
      go_wp2_with (go_at_call 20; refine HG2.out.mono ?_; rintro e w1 ⟨rfl, rfl⟩)
      go_ret3
      exact ⟨rfl, rfl⟩
    · rw [if_neg h2]
      by_cases h3 : most < x
      · rw [if_pos h3]
        clear hr hl hnx
        go_enter Try.func24, Try.ntmps24
        go_wp2_with (go_at_call 20; refine HG2.out.mono ?_; rintro e w1 ⟨rfl, rfl⟩)
        go_ret3
        exact ⟨rfl, rfl⟩
      · rw [if_neg h3]
        by_cases h4 : hasB n y x = true
        · rw [if_neg (by simp [h4])]
          have h5 : y + x ≤ n := by simp [hasB] at h4; omega
          obtain ⟨Y, rfl⟩ : ∃ m : Nat, y = (m : Int) := ⟨y.toNat, by omega⟩
          obtain ⟨X, rfl⟩ : ∃ m : Nat, x = (m : Int) := ⟨x.toNat, by omega⟩
          clear hl hnx
          go_enter Try.func24, Try.ntmps24
          go_wp2_with (first | (go_at_call 20; refine HG2.out.mono ?_; rintro e w1 ⟨rfl, rfl⟩) | (refine wpList_toStr _ rfl (.tmp 38) 22 9 5 rfl Try.underlying22 Try.underlying5 Try.underlying9 _ _ _ _ ((l.drop Y).take X) rfl (hr.cut' (i := Y) (m := X) (by omega) (by omega) (by intro h0; first | rfl | exact if_neg (by omega) | (exfalso; omega))) ?_))
          all_goals go_ret3
          all_goals exact ⟨rfl, rfl⟩
        · have h4' : hasB n y x = false := by simpa using h4
          have h5 : (n : Int) - y < x := by simp [hasB] at h4'; omega
          rw [if_pos h4']
          clear hr hl hnx h4 h4'
          go_enter Try.func24, Try.ntmps24
          go_wp2_with (go_at_call 20; refine HG2.out.mono ?_; rintro e w1 ⟨rfl, rfl⟩)
          go_ret3
          exact ⟨rfl, rfl⟩
  · rw [if_pos h1]
    have h1' : (z == 0) = false := beqF h1
    have h1'' : (z != 0) = true := by simp [h1]
    clear hr hl hnx h1
    go_enter Try.func24, Try.ntmps24
    go_wp2_with (go_at_call 20; refine HG2.out.mono ?_; rintro e w1 ⟨rfl, rfl⟩)
    go_ret3
    exact ⟨rfl, rfl⟩
theorem refGetText_is (A : Option Addr) (n c : Nat) (p most : Int) (l : List UInt8) (B : Nat) (w : World) (hr : Rd w B A n l) (hc : n ≤ c) (hn : n ≤ 1099511627776) (hp : p ≤ 9223372036854775807) {t : ByteArray} {y z : Int} (h : gx l p most = (t, y, z)) :
    Calls Try.prog 24 #[.slice A n c, .int .i64 p, .int .i64 most] w fun e w' => e = .returned (.tuple #[.string t, .int .i64 y, .int .i64 z]) ∧ w = w' := by
  have h1 := refGetText_any A n c p most l B w hr hc hn hp
  unfold GX at h1
  rw [h] at h1
  exact h1
end Go.Proofs.Ytjjokjgakenhlaa.Oct
