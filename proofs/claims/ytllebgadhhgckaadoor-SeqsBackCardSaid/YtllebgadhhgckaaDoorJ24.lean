/- Joined: CrcRef, CrcRef2. -/
import Derived.Test.YtllebgadhhgckaaDoorJ08
import Derived.Laws.OwnMore
import Derived.Deep.QuietTactic
import Derived.BigQuiet
/- The contracts of the document's own answers of layer 2. -/
namespace Go.Proofs.YtllebgadhhgckaaDoor.Crc
open Go.RowKit Oct

theorem xor_u32 (a b : Nat) (ha : a < 4294967296) (hb : b < 4294967296) : bits .xor .u32 (a : Int) (b : Int) = ((a ^^^ b : Nat) : Int) := u32_xor_nat a b ha hb
theorem xor_poly (v : Nat) (h : v < 4294967296) : bits .xor .u32 ((v : Int) / 2) 3988292384 = ((v / 2 ^^^ 3988292384 : Nat) : Int) := by
  have e : (v : Int) / 2 = ((v / 2 : Nat) : Int) := by omega
  rw [e]
  exact u32_xor_nat (v / 2) 3988292384 (by omega) (by omega)
theorem step_odd {v : Nat} (h : v % 2 = 1) : step v = v / 2 ^^^ 3988292384 := by unfold step; rw [if_pos h]
theorem step_ev {v : Nat} (h : ¬ v % 2 = 1) : step v = v / 2 := by unfold step; rw [if_neg h]

theorem refStep_any (v : Nat) (w : World) (h : v < 4294967296) :
    Calls Tryd.prog 114 #[.int .u32 (v : Int)] w fun e w' => e = .returned (.int .u32 (step v : Int)) ∧ w = w' := by
  by_cases hp : v % 2 = 1
  · have H := Lib.hid ((xor_poly v h).trans (congrArg Nat.cast (step_odd hp).symm))
    have hp2 : ((v : Int) % 2 == 1) = true := beqT (by omega)
    have hb : (v : Int) ≤ 4294967295 := by omega
    clear h hp
    go_enter Tryd.func114, Tryd.ntmps114
    go_wp2
    go_ret
    exact ⟨ret_int H.out, rfl⟩
  · have H := Lib.hid (show (v : Int) / 2 = (step v : Int) by rw [step_ev hp]; omega)
    have hp2 : ((v : Int) % 2 == 1) = false := beqF (by omega)
    have hb : (v : Int) ≤ 4294967295 := by omega
    clear h hp
    go_enter Tryd.func114, Tryd.ntmps114
    go_wp2
    go_ret
    exact ⟨ret_int H.out, rfl⟩

def rstRel (v N : Nat) (x i : Value) : Prop := ∃ j, x = .int .u32 (steps j v : Int) ∧ i = .int .i64 ((j : Nat) : Int) ∧ j ≤ N
set_option maxRecDepth 100000 in
theorem refSteps_any (v N : Nat) (w : World) (h : v < 4294967296) (hN : N ≤ 100000) :
    Calls Tryd.prog 102 #[.int .u32 (v : Int), .int .i64 (N : Int)] w fun e w' => e = .returned (.int .u32 (steps N v : Int)) ∧ w = w' := by
  have H := Lib.hid h
  clear h
  go_enter Tryd.func102, Tryd.ntmps102
  go_wp2
  go_loop [0, 5] (fun x i => rstRel v N x i) (fun _ i => N - (intOf i).toNat)
  case atStart => exact ⟨0, rfl, rfl, Nat.zero_le _⟩
  case round =>
    obtain ⟨j, rfl, rfl, hj⟩ := hrel
    obtain ⟨x, hx⟩ : ∃ x, x = steps j v := ⟨_, rfl⟩
    rw [← hx]
    have HX := Lib.hid hx
    have HX2 := Lib.hid (show x < 4294967296 by rw [hx]; exact steps_lt H.out)
    clear hx
    by_cases hlt : j < N
    · go_wp2_with (go_at_call 114; refine (refStep_any x _ HX2.out).mono ?_; rintro e w1 ⟨rfl, rfl⟩)
      go_round
      case rel => exact ⟨j + 1, congrArg (fun z : Nat => Value.int .u32 (z : Int)) (by rw [steps_succ, HX.out]), by go_num, by omega⟩
      case measure => simp [intOf]; omega
    · have hjN : j = N := by omega
      have HR := Lib.hid (show x = steps N v by rw [HX.out, hjN])
      clear hjN
      go_wp2
      go_ret
      exact ⟨congrArg (fun z : Nat => Ending.returned (.int .u32 (z : Int))) HR.out, rfl⟩

def rsumRel (l : List UInt8) (n : Nat) (x i : Value) : Prop := ∃ j, x = .int .u32 (crc 4294967295 (l.take j) : Int) ∧ i = .int .i64 ((j : Nat) : Int) ∧ j ≤ n
theorem crc_take {v j : Nat} {l : List UInt8} {d : UInt8} (h : l[j]? = some d) : crc v (l.take (j + 1)) = steps 8 (crc v (l.take j) ^^^ d.toNat) := by
  rw [List.take_add_one, h]
  exact crc_snoc _ _ _
set_option maxRecDepth 100000 in
theorem refSum_any (A : Option Addr) (n c : Nat) (l : List UInt8) (B : Nat) (w : World) (hr : Rd w B A n l) (hn : n ≤ 1099511627776) :
    Calls Tryd.prog 81 #[.slice A n c] w fun e w' => e = .returned (.int .u32 (sum l : Int)) ∧ w = w' := by
  have HL := Lib.hid hr.len
  have HN := Lib.hid hn
  clear hn
  go_enter Tryd.func81, Tryd.ntmps81
  go_wp2
  go_loop [3, 4] (fun x i => rsumRel l n x i) (fun _ i => n - (intOf i).toNat)
  case atStart => exact ⟨0, rfl, rfl, Nat.zero_le _⟩
  case round =>
    obtain ⟨j, rfl, rfl, hj⟩ := hrel
    obtain ⟨x, hx⟩ : ∃ x, x = crc 4294967295 (l.take j) := ⟨_, rfl⟩
    rw [← hx]
    have HX := Lib.hid hx
    have HX2 := Lib.hid (show x < 4294967296 by rw [hx]; exact crc_lt (by omega))
    clear hx
    have hnn := HN.out
    by_cases hlt : j < n
    · obtain ⟨b, o, d, rfl, _, hd, hcell⟩ := hr.at hlt
      have HD := Lib.hid hd
      have hd255 : d.toNat ≤ 255 := by have := d.toNat_lt; omega
      have hxor := xor_u32 x d.toNat HX2.out (by omega)
      obtain ⟨y, hy⟩ : ∃ y, y = x ^^^ d.toNat := ⟨_, rfl⟩
      have HY := Lib.hid hy
      have HY2 := Lib.hid (show y < 4294967296 by rw [hy]; exact xor32 HX2.out (by omega))
      rw [← hy] at hxor
      clear hd hr hy
      go_wp2_with (go_at_call 102; refine (refSteps_any y 8 _ HY2.out (by omega)).mono ?_; rintro e w1 ⟨rfl, rfl⟩)
      go_round
      case rel => exact ⟨j + 1, congrArg (fun z : Nat => Value.int .u32 (z : Int)) (by rw [crc_take HD.out, HY.out, HX.out]), by go_num, by omega⟩
      case measure => simp [intOf]; omega
    · have hjn : j = n := by omega
      have HR := Lib.hid ((xor_u32 x 4294967295 HX2.out (by omega)).trans (congrArg Nat.cast (show x ^^^ 4294967295 = sum l by rw [HX.out, List.take_of_length_le (by have := HL.out; omega)]; rfl)))
      clear hjn hr
      go_wp2
      go_ret
      exact ⟨ret_int HR.out, rfl⟩

end Go.Proofs.YtllebgadhhgckaaDoor.Crc

/- The contracts of the document's own answers of layer 2: four, Seal, Open. -/
namespace Go.Proofs.YtllebgadhhgckaaDoor.Crc
open Go.RowKit Oct

theorem beN_four (v : Nat) : beN v 4 4 = [UInt8.ofNat (v / 16777216), UInt8.ofNat (v / 65536), UInt8.ofNat (v / 256), UInt8.ofNat v] := by
  simp [beN, List.range_succ]

theorem four_cells (v : Nat) (h : v < 4294967296) :
    (#[Value.int .u8 ((v : Int) / 16777216), Value.int .u8 ((v : Int) / 65536 % 256), Value.int .u8 ((v : Int) / 256 % 256), Value.int .u8 ((v : Int) % 256)] : Array Value) = ((beN v 4 4).map bv).toArray := by
  rw [beN_four]
  simp only [List.map_cons, List.map_nil, bv, UInt8.toNat_ofNat']
  have e1 : (v : Int) / 16777216 = ((v / 16777216 % 2 ^ 8 : Nat) : Int) := by omega
  have e2 : (v : Int) / 65536 % 256 = ((v / 65536 % 2 ^ 8 : Nat) : Int) := by omega
  have e3 : (v : Int) / 256 % 256 = ((v / 256 % 2 ^ 8 : Nat) : Int) := by omega
  have e4 : (v : Int) % 256 = ((v % 2 ^ 8 : Nat) : Int) := by omega
  rw [e1, e2, e3, e4]

theorem refFour_any (v : Nat) (w : World) (h : v < 4294967296) :
    Calls Tryd.prog 80 #[.int .u32 (v : Int)] w (RB 5 w.heap.size w (beN v 4 4)) := by
  have HC := Lib.hid (four_cells v h)
  have hb : (v : Int) ≤ 4294967295 := by omega
  clear h
  go_enter Tryd.func80, Tryd.ntmps80
  go_wp2
  go_ret
  rw [HC.out]
  exact ⟨_, 4, 4, rfl, own_lit w 5 (beN v 4 4) 4 (beN_length _ _ _) (by omega), (Below.refl _ _).alloc (Nat.le_refl _) _⟩

theorem refSeal_any (A : Option Addr) (n c : Nat) (l : List UInt8) (B : Nat) (w : World) (hr : Rd w B A n l) (hB : B ≤ w.heap.size) (hn : n ≤ 549755813888) :
    Calls Tryd.prog 76 #[.slice A n c] w (RB 5 w.heap.size w (sealB l)) := by
  have hI := u8row
  have HS := Lib.hid (sum_lt l)
  go_enter Tryd.func76, Tryd.ntmps76
  go_wp2_with (first
    | (at_builtin; refine wpList_app0 (w.alloc (.cells #[] 5)) rfl (.tmp 3) (.tmp 4) 39 rfl w.heap.size 5 Tryd.underlying39 hI _ rfl (own_lit w 5 [] 0 rfl (by omega)) B A n c l rfl (hr.alloc hB _) (by omega) (by simp) ?_; intro A1 c1 w1 hown1 hb1; have hb01 := ((Below.refl w.heap.size w).alloc (Nat.le_refl _) (.cells #[] 5)).trans hb1)
    | (go_at_call 81; refine (refSum_any A n c l B _ (hr.below hb01 hB) (by omega)).mono ?_; rintro e w9 ⟨rfl, rfl⟩)
    | (go_at_call 80; refine (refFour_any (sum l) _ HS.out).mono ?_; rintro e w2 ⟨A2, n2, c2, rfl, hown2, hb2⟩; have hn2 : n2 = 4 := (by have := hown2.len; rw [beN_length] at this; omega); subst hn2; have hb02 := bel_trans hb01 hb2)
    | (at_builtin; refine wpList_appB w2 rfl (.tmp 5) (.tmp 8) 39 rfl w.heap.size 5 Tryd.underlying39 hI _ n _ rfl (hown1.below hb2) _ A2 4 c2 (beN (sum l) 4 4) rfl hown2.rd (by omega) hb02.size ?_; intro A3 c3 w3 hown3 hb3))
  go_ret
  exact ⟨A3, _, c3, rfl, by simpa [sealB] using hown3, hb02.trans hb3⟩

def ropRel (l f : List UInt8) (N : Nat) (w2 : World) (i : Value) (wr : World) : Prop :=
  ∃ j, i = .int .i64 ((j : Nat) : Int) ∧ j ≤ 4 ∧ (l.drop N).take j = f.take j ∧ Below w2.heap.size w2 wr
end Go.Proofs.YtllebgadhhgckaaDoor.Crc
