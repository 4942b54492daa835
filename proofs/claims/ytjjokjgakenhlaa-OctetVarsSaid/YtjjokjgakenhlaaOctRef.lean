/- The contracts of the document's own answers of layer 1: Put, PutVar, PutText. -/
import Derived.Test.YtjjokjgakenhlaaOctLive
namespace Go.Proofs.Ytjjokjgakenhlaa.Oct
open Go.RowKit

theorem quo_u64 (X q : Nat) (hq : 0 < q) (h : X < 18446744073709551616) : IntKind.u64.wrap ((X : Int).tdiv (q : Int)) = ((X / q : Nat) : Int) := by
  have h1 : X / q ≤ X := Nat.div_le_self _ _
  rw [Int.tdiv_eq_ediv_of_nonneg (by omega), ← Int.natCast_ediv]
  generalize X / q = z at *
  exact IntWalk.u64_in _ (by omega)

theorem div_u64 (X q : Nat) (h : X < 18446744073709551616) : IntKind.u64.wrap ((X : Int) / (q : Int)) = ((X / q : Nat) : Int) := by
  have h1 : X / q ≤ X := Nat.div_le_self _ _
  rw [← Int.natCast_ediv]
  generalize X / q = z at *
  exact IntWalk.u64_in _ (by omega)
def rputIn (x q : Nat) (v i : Value) : Prop := ∃ t X, v = .int .u64 ((X : Nat) : Int) ∧ i = .int .i64 ((t : Nat) : Int) ∧ t ≤ q ∧ X = x / 256 ^ t ∧ X ≤ x

set_option maxRecDepth 100000 in
set_option maxHeartbeats 800000 in
theorem refPut_yes (A : Option Addr) (n c : Nat) (x k : Nat) (l : List UInt8) (B : Nat) (w : World) (hr : Rd w B A n l) (hn : n ≤ 274877906944) (hk1 : 1 ≤ k) (hk8 : k ≤ 8) (hx : x < 18446744073709551616) :
    Calls Try.prog 18 #[.slice A n c, .int .u64 (x : Int), .int .i64 (k : Int)] w (RB 5 w.heap.size w (l ++ beN x k k)) := by
  have hI := u8row
  have hlen := Lib.hid hr.len
  have HN := Lib.hid hn
  have HX := Lib.hid hx
  clear hn hx
  go_enter Try.func18, Try.ntmps18
  go_wp2_with (go_at_call 13; refine (Copy_any A n c l B w hr (by have := HN.out; omega)).mono ?_; rintro e w1 ⟨A1, n1, c1, rfl, hown1, hb1⟩)
  have hsz := hb1.size
  go_loopw [7, 20] (fun v i wr => putRel w.heap.size l x k w v i wr) (fun _ i _ => k - (intOf i).toNat)
  case atStart => exact ⟨A1, n1, c1, 0, rfl, rfl, Nat.zero_le _, by simpa [beN_zero] using hown1, hb1⟩
  case round =>
    clear hown1
    obtain ⟨A2, n2, c2, j, rfl, rfl, hj, hown2, hb2⟩ := hrel
    have hn2 : n2 ≤ n + 8 := by
      have a1 := hown2.len
      have a3 := hlen.out
      rw [List.length_append, beN_length] at a1
      omega
    have hbs := hb2.size
    obtain ⟨wo, rfl⟩ : ∃ wo : World, wo = wr := ⟨_, rfl⟩
    by_cases hlt : j < k
    · go_wp2
      go_loop [9, 28] (fun v i => rputIn x (k - 1 - j) v i) (fun _ i => (k - 1 - j) - (intOf i).toNat)
      case atStart => exact ⟨0, x, rfl, rfl, Nat.zero_le _, by simp, Nat.le_refl _⟩
      case round =>
        obtain ⟨t, X, rfl, rfl, ht, hX, hXx⟩ := hrel
        have HXX := Lib.hid hX
        have HXL := Lib.hid hXx
        clear hX hXx
        by_cases htq : t < k - 1 - j
        · go_wp2
          go_round
          case rel =>
            refine ⟨t + 1, X / 256, congrArg (Value.int .u64) (div_u64 X 256 (Nat.lt_of_le_of_lt HXL.out HX.out)), by go_num, by omega, ?_, Nat.le_trans (Nat.div_le_self _ _) HXL.out⟩
            rw [HXX.out, Nat.div_div_eq_div_mul, Nat.pow_succ]
          case measure => simp [intOf]; omega
        · have htq' : t = k - 1 - j := by omega
          have HB := Lib.hid (show (X : Int) % 256 = ((UInt8.ofNat (x / 256 ^ (k - 1 - j))).toNat : Int) by rw [UInt8.toNat_ofNat', HXX.out, htq']; omega)
          go_wp2_with (at_builtin; refine wpList_app1 _ rfl _ _ 22 rfl w.heap.size 5 Try.underlying22 hI _ n2 _ rfl hown2 _ _ rfl HB.out (by have := HN.out; omega) (by omega) ?_; intro A3 c3 w3 hown3 hb3)
          go_roundw
          case rel =>
            refine ⟨A3, n2 + 1, c3, j + 1, rfl, by go_num, by omega, ?_, hb2.trans hb3⟩
            rw [beN_succ, ← List.append_assoc]
            exact hown3
          case measure => simp [intOf]; omega
    · have hjk : j = k := by omega
      subst hjk
      go_wp2
      go_ret
      exact ⟨A2, n2, c2, rfl, hown2, hb2⟩

theorem refPut_any (A : Option Addr) (n c : Nat) (x : Nat) (k : Int) (l : List UInt8) (B : Nat) (w : World) (hr : Rd w B A n l) (hn : n ≤ 274877906944) (hx : x < 18446744073709551616) :
    Calls Try.prog 18 #[.slice A n c, .int .u64 (x : Int), .int .i64 k] w (RB 5 w.heap.size w (l ++ if isW k then beN x k.toNat k.toNat else [])) := by
  by_cases hk : isW k = true
  · obtain ⟨m, rfl⟩ : ∃ m : Nat, k = (m : Int) := ⟨k.toNat, by simp [isW] at hk; omega⟩
    have h := hk
    simp [isW] at h
    rw [if_pos hk, Int.toNat_natCast]
    exact refPut_yes A n c x m l B w hr hn (by omega) (by omega) hx
  · rw [if_neg hk, List.append_nil]
    have hk' : ¬ (1 ≤ k ∧ k ≤ 8) := by simpa [isW] using hk
    clear hk hx
    rcases (show k < 1 ∨ 8 < k by omega) with h | h
    all_goals
      go_enter Try.func18, Try.ntmps18
      go_wp2_with (go_at_call 13; refine (Copy_any A n c l B w hr (by omega)).mono ?_; rintro e w1 ⟨A1, n1, c1, rfl, hown1, hb1⟩)
      go_ret
      exact ⟨A1, n1, c1, rfl, hown1, hb1⟩

theorem low8s {u : Nat} (h : u < 128) : IntKind.u8.wrap (u : Int) = ((UInt8.ofNat u).toNat : Int) := low8 u
theorem mod128 (u : Nat) : (128 : Int) + (u : Int) % 128 = ((UInt8.ofNat (u % 128 + 128)).toNat : Int) := by
  rw [ofNat_toNat' (by omega)]
  omega
theorem zz_pos {x : Int} (h : 0 ≤ x) : 2 * x = (zz x : Int) := by
  unfold zz
  rw [if_pos h]
  omega
theorem zz_neg {x : Int} (h : x < 0) : 2 * -(x + 1) + 1 = (zz x : Int) := by
  unfold zz
  rw [if_neg (by omega)]
  omega

set_option maxRecDepth 100000 in
set_option maxHeartbeats 400000 in
theorem refPutVar_any (A : Option Addr) (n c : Nat) (x : Int) (l : List UInt8) (B : Nat) (w : World) (hr : Rd w B A n l) (hn : n ≤ 274877906944)
    (h1 : -9223372036854775808 ≤ x) (h2 : x ≤ 9223372036854775807) :
    Calls Try.prog 22 #[.slice A n c, .int .i64 x] w (RB 5 w.heap.size w (l ++ vb (zz x))) := by
  have hI := u8row
  have hz := zz_lt ⟨h1, h2⟩
  have hten := vb_ten hz
  have hlen := Lib.hid hr.len
  have HN := Lib.hid hn
  clear hn
  rcases (show 0 ≤ x ∨ x < 0 by omega) with hx | hx
  all_goals
    go_enter Try.func22, Try.ntmps22
    go_wp2_with (go_at_call 13; refine (Copy_any A n c l B w hr (by have := HN.out; omega)).mono ?_; rintro e w1 ⟨A0, n0, c0, rfl, hown0, hb0⟩)
    have hl0 := hown0.len
    have hb0s := hb0.size
    have HV := Lib.hid (show _ = Value.int .u64 (zz x : Int) from congrArg (Value.int .u64) (by first | exact zz_pos hx | exact zz_neg hx))
    go_loopw [6, 5] (fun v i wr => avRel w.heap.size l (zz x) w v i wr) (fun _ i _ => (intOf i).toNat)
    case atStart => exact ⟨A0, n0, c0, zz x, [], rfl, HV.out, by simpa using hown0, by simp, hz, hb0⟩
    case round =>
      obtain ⟨A1, n1, c1, u, l1, rfl, rfl, hown1, hv, hu, hb⟩ := hrel
      have hl1 : n1 ≤ n + 10 := by
        have a1 := hown1.len
        have a2 := congrArg List.length hv
        have a3 := hlen.out
        simp only [List.length_append] at a1 a2
        omega
      have hor := Lib.hid (mod128 u)
      have hbs := hb.size
      have hpos := vb_pos u
      have hV := Lib.hid hv
      have HU := Lib.hid hu
      clear hv hown0 hu hl0 hz hten h1 h2 hx
      by_cases hlt : u < 128
      · have hlow := Lib.hid (ofNat_toNat' (q := u) (by omega))
        go_wp2_with (at_builtin; refine wpList_app1 _ rfl _ _ 22 rfl w.heap.size 5 Try.underlying22 hI _ n1 _ rfl hown1 _ (UInt8.ofNat u) rfl (congrArg Nat.cast hlow.out.symm) (by have := HN.out; omega) (by omega) ?_; intro A2 c2 w2 hown2 hb2)
        go_ret
        refine ⟨A2, n1 + 1, c2, rfl, ?_, hb.trans hb2⟩
        rw [← hV.out, vb_small hlt, ← List.append_assoc]
        exact hown2
      · go_wp2_with (at_builtin; refine wpList_app1 _ rfl _ _ 22 rfl w.heap.size 5 Try.underlying22 hI _ n1 _ rfl hown1 _ _ rfl hor.out (by have := HN.out; omega) (by omega) ?_; intro A2 c2 w2 hown2 hb2)
        go_roundw
        case rel =>
          refine ⟨A2, n1 + 1, c2, u / 128, l1 ++ [UInt8.ofNat (u % 128 + 128)], rfl, congrArg (Value.int .u64) (div_u64 u 128 HU.out), ?_, ?_, Nat.lt_of_le_of_lt (Nat.div_le_self _ _) HU.out, hb.trans hb2⟩
          · rw [← List.append_assoc]; exact hown2
          · rw [← hV.out, vb_big (u := u) (by omega)]; simp
        case measure =>
          have hq : IntKind.u64.wrap ((u : Int) / 128) = ((u / 128 : Nat) : Int) := div_u64 u 128 HU.out
          simp only [intOf, hq]
          omega

theorem refPutText_any (A : Option Addr) (n c : Nat) (s : ByteArray) (l : List UInt8) (B : Nat) (w : World) (hr : Rd w B A n l) (hn : n ≤ 137438953472) (hs : s.size ≤ 274877906944) :
    Calls Try.prog 26 #[.slice A n c, .string s] w (RB 5 w.heap.size w (l ++ vb (zz s.size) ++ s.data.toList)) := by
  have hI := u8row
  go_enter Try.func26, Try.ntmps26
  go_wp2_with (first | (go_at_call 22; refine (refPutVar_any A n c _ l B w hr (by omega) (by omega) (by omega)).mono ?_; rintro e w2 ⟨A2, n2, c2, rfl, hown2, hb2⟩; have hn2 : n2 ≤ n + 10 := (by have a1 := hown2.len; have a2 := vb_ten (zz_lt (n := (s.size : Int)) (by omega)); have a3 := hr.len; simp only [List.length_append] at a1; omega)) | (at_builtin; refine wpList_appS _ rfl _ _ 22 9 rfl w.heap.size 5 Try.underlying22 Try.underlying9 hI _ n2 _ rfl hown2 s rfl (by omega) (by have a2 := hb2.size; omega) ?_; intro A3 c3 w3 hown3 hb3))
  go_ret
  exact ⟨A3, n2 + s.size, c3, rfl, hown3, hb2.trans hb3⟩
end Go.Proofs.Ytjjokjgakenhlaa.Oct
