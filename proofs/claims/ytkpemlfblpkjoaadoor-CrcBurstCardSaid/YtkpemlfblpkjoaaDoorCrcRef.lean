/- The contracts of the document's own answers of layer 2. -/
import Derived.Test.YtkpemlfblpkjoaaDoorCrcSpec
namespace Go.Proofs.YtkpemlfblpkjoaaDoor.Crc
open Go.RowKit Go.Proofs.YtkpemlfblpkjoaaDoor.Oct

theorem xor_u32 (a b : Nat) (ha : a < 4294967296) (hb : b < 4294967296) : bits .xor .u32 (a : Int) (b : Int) = ((a ^^^ b : Nat) : Int) := u32_xor_nat a b ha hb
theorem xor_poly (v : Nat) (h : v < 4294967296) : bits .xor .u32 ((v : Int) / 2) 3988292384 = ((v / 2 ^^^ 3988292384 : Nat) : Int) := by
  have e : (v : Int) / 2 = ((v / 2 : Nat) : Int) := by omega
  rw [e]
  exact u32_xor_nat (v / 2) 3988292384 (by omega) (by omega)
theorem step_odd {v : Nat} (h : v % 2 = 1) : step v = v / 2 ^^^ 3988292384 := by unfold step; rw [if_pos h]
theorem step_ev {v : Nat} (h : ¬ v % 2 = 1) : step v = v / 2 := by unfold step; rw [if_neg h]

theorem refStep_any (v : Nat) (w : World) (h : v < 4294967296) :
    Calls Tryd.prog 31 #[.int .u32 (v : Int)] w fun e w' => e = .returned (.int .u32 (step v : Int)) ∧ w = w' := by
  by_cases hp : v % 2 = 1
  · have H := Lib.hid ((xor_poly v h).trans (congrArg Nat.cast (step_odd hp).symm))
    have hp2 : ((v : Int) % 2 == 1) = true := beqT (by omega)
    have hb : (v : Int) ≤ 4294967295 := by omega
    clear h hp
    go_enter Tryd.func31, Tryd.ntmps31
    go_wp2
    go_ret
    exact ⟨ret_int H.out, rfl⟩
  · have H := Lib.hid (show (v : Int) / 2 = (step v : Int) by rw [step_ev hp]; omega)
    have hp2 : ((v : Int) % 2 == 1) = false := beqF (by omega)
    have hb : (v : Int) ≤ 4294967295 := by omega
    clear h hp
    go_enter Tryd.func31, Tryd.ntmps31
    go_wp2
    go_ret
    exact ⟨ret_int H.out, rfl⟩

def rstRel (v N : Nat) (x i : Value) : Prop := ∃ j, x = .int .u32 (steps j v : Int) ∧ i = .int .i64 ((j : Nat) : Int) ∧ j ≤ N
set_option maxRecDepth 100000 in
theorem refSteps_any (v N : Nat) (w : World) (h : v < 4294967296) (hN : N ≤ 100000) :
    Calls Tryd.prog 23 #[.int .u32 (v : Int), .int .i64 (N : Int)] w fun e w' => e = .returned (.int .u32 (steps N v : Int)) ∧ w = w' := by
  have H := Lib.hid h
  clear h
  go_enter Tryd.func23, Tryd.ntmps23
  go_wp2
  go_loop [0, 5] (fun x i => rstRel v N x i) (fun _ i => N - (intOf i).toNat)
  case atStart => exact ⟨0, rfl, rfl, Nat.zero_le _⟩
  case round =>
    obtain ⟨j, rfl, rfl, hj⟩ := hrel
    obtain ⟨x, hx⟩ : ∃ x, x = steps j v := ⟨_, rfl⟩
    rw [← hx]
    have HX := Lib.hid hx
    have HX2 := Lib.hid (show x < 4294967296 by rw [hx]; exact steps_lt H.out)
    clear hx
    by_cases hlt : j < N
    · go_wp2_with (go_at_call 31; refine (refStep_any x _ HX2.out).mono ?_; rintro e w1 ⟨rfl, rfl⟩)
      go_round
      case rel => exact ⟨j + 1, congrArg (fun z : Nat => Value.int .u32 (z : Int)) (by rw [steps_succ, HX.out]), by go_num, by omega⟩
      case measure => simp [intOf]; omega
    · have hjN : j = N := by omega
      have HR := Lib.hid (show x = steps N v by rw [HX.out, hjN])
      clear hjN
      go_wp2
      go_ret
      exact ⟨congrArg (fun z : Nat => Ending.returned (.int .u32 (z : Int))) HR.out, rfl⟩

def rsumRel (l : List UInt8) (n : Nat) (x i : Value) : Prop := ∃ j, x = .int .u32 (crc 4294967295 (l.take j) : Int) ∧ i = .int .i64 ((j : Nat) : Int) ∧ j ≤ n
theorem crc_take {v j : Nat} {l : List UInt8} {d : UInt8} (h : l[j]? = some d) : crc v (l.take (j + 1)) = steps 8 (crc v (l.take j) ^^^ d.toNat) := by
  rw [List.take_add_one, h]
  exact crc_snoc _ _ _
set_option maxRecDepth 100000 in
theorem refSum_any (A : Option Addr) (n c : Nat) (l : List UInt8) (B : Nat) (w : World) (hr : Rd w B A n l) (hn : n ≤ 1099511627776) :
    Calls Tryd.prog 14 #[.slice A n c] w fun e w' => e = .returned (.int .u32 (sum l : Int)) ∧ w = w' := by
  have HL := Lib.hid hr.len
  have HN := Lib.hid hn
  clear hn
  go_enter Tryd.func14, Tryd.ntmps14
  go_wp2
  go_loop [3, 4] (fun x i => rsumRel l n x i) (fun _ i => n - (intOf i).toNat)
  case atStart => exact ⟨0, rfl, rfl, Nat.zero_le _⟩
  case round =>
    obtain ⟨j, rfl, rfl, hj⟩ := hrel
    obtain ⟨x, hx⟩ : ∃ x, x = crc 4294967295 (l.take j) := ⟨_, rfl⟩
    rw [← hx]
    have HX := Lib.hid hx
    have HX2 := Lib.hid (show x < 4294967296 by rw [hx]; exact crc_lt (by omega))
    clear hx
    have hnn := HN.out
    by_cases hlt : j < n
    · obtain ⟨b, o, d, rfl, _, hd, hcell⟩ := hr.at hlt
      have HD := Lib.hid hd
      have hd255 : d.toNat ≤ 255 := by have := d.toNat_lt; omega
      have hxor := xor_u32 x d.toNat HX2.out (by omega)
      obtain ⟨y, hy⟩ : ∃ y, y = x ^^^ d.toNat := ⟨_, rfl⟩
      have HY := Lib.hid hy
      have HY2 := Lib.hid (show y < 4294967296 by rw [hy]; exact xor32 HX2.out (by omega))
      rw [← hy] at hxor
      clear hd hr hy
      go_wp2_with (go_at_call 23; refine (refSteps_any y 8 _ HY2.out (by omega)).mono ?_; rintro e w1 ⟨rfl, rfl⟩)
      go_round
      case rel => exact ⟨j + 1, congrArg (fun z : Nat => Value.int .u32 (z : Int)) (by rw [crc_take HD.out, HY.out, HX.out]), by go_num, by omega⟩
      case measure => simp [intOf]; omega
    · have hjn : j = n := by omega
      have HR := Lib.hid ((xor_u32 x 4294967295 HX2.out (by omega)).trans (congrArg Nat.cast (show x ^^^ 4294967295 = sum l by rw [HX.out, List.take_of_length_le (by have := HL.out; omega)]; rfl)))
      clear hjn hr
      go_wp2
      go_ret
      exact ⟨ret_int HR.out, rfl⟩

theorem refJoin_any (a b : Nat) (n : Int) (w : World) (ha : a < 4294967296) (hb : b < 4294967296) :
    Calls Tryd.prog 20 #[.int .u32 (a : Int), .int .u32 (b : Int), .int .i64 n] w fun e w' => e = .returned (.int .u32 (join a b n : Int)) ∧ w = w' := by
  have HA := Lib.hid ha
  have HB := Lib.hid hb
  clear ha hb
  rcases (show n < 0 ∨ 4096 < n ∨ 0 ≤ n ∧ n ≤ 4096 by omega) with h | h | ⟨h1, h2⟩
  · have H := Lib.hid (show (0 : Int) = (join a b n : Int) by unfold join; rw [if_pos (Or.inl h)]; rfl)
    go_enter Tryd.func20, Tryd.ntmps20
    go_wp2
    go_ret
    exact ⟨ret_int H.out, rfl⟩
  · have H := Lib.hid (show (0 : Int) = (join a b n : Int) by unfold join; rw [if_pos (Or.inr h)]; rfl)
    go_enter Tryd.func20, Tryd.ntmps20
    go_wp2
    go_ret
    exact ⟨ret_int H.out, rfl⟩
  · obtain ⟨N, rfl⟩ : ∃ N : Nat, n = (N : Int) := ⟨n.toNat, by omega⟩
    obtain ⟨x, hx⟩ : ∃ x, x = steps (8 * N) a := ⟨_, rfl⟩
    have HJ := Lib.hid ((xor_u32 x b (by rw [hx]; exact steps_lt HA.out) HB.out).trans (congrArg Nat.cast (show x ^^^ b = join a b (N : Int) by unfold join; rw [if_neg (by omega), hx, Int.toNat_natCast])))
    have HX := Lib.hid hx
    clear hx
    go_enter Tryd.func20, Tryd.ntmps20
    go_wp2_with (go_at_call 23; refine (refSteps_any a (8 * N) _ HA.out (by omega)).mono ?_; rw [← HX.out]; rintro e w1 ⟨rfl, rfl⟩)
    go_ret
    exact ⟨ret_int HJ.out, rfl⟩
end Go.Proofs.YtkpemlfblpkjoaaDoor.Crc
