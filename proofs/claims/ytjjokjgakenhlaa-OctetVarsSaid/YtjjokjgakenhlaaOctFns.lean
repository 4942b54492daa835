/- The contracts of octet's small functions, and of those that put. -/
import Derived.Test.YtjjokjgakenhlaaRows
import Derived.Test.YtjjokjgakenhlaaOctMath
import Derived.Test.YtjjokjgakenhlaaOctWords
import Derived.WalkSpells
import Derived.WalkLawsBesides
import Derived.Lib.Hide
namespace Go.Proofs.Ytjjokjgakenhlaa.Oct
open Go.RowKit

theorem u8row : U8 Try.prog 5 := by
  obtain ⟨i, h1, h2, h3, h4⟩ := info_parts (P := Try.prog) (e := 5) (z := .int .u8 0) (size := 1) (bytes := 1) (by kernel_rfl)
  exact ⟨i, h1, h2, h3, h4⟩

def isW (k : Int) : Bool := decide (1 ≤ k ∧ k ≤ 8)
theorem isWidth_any (k : Int) (w : World) : Calls Try.prog 27 #[.int .i64 k] w fun e w' => e = .returned (.bool (isW k)) ∧ w = w' := by
  go_enter Try.func27, Try.ntmps27
  go_wp2
  all_goals go_ret
  all_goals refine ⟨?_, rfl⟩
  · rename_i h; exact ret_bool (by simp [isW, h])
  · rename_i h; exact ret_bool (by simp [isW]; omega)

/-- b has 'many' bytes from its place 'at' on -/
def hasB (n : Nat) (k m : Int) : Bool := decide (k ≤ n ∧ m ≤ n - k)
theorem has_any (A : Option Addr) (n c : Nat) (k m : Int) (w : World) (hn : n ≤ 9223372036854775807) (hk0 : 0 ≤ k) :
    Calls Try.prog 28 #[.slice A n c, .int .i64 k, .int .i64 m] w fun e w' => e = .returned (.bool (hasB n k m)) ∧ w = w' := by
  go_enter Try.func28, Try.ntmps28
  go_wp2
  all_goals go_ret
  all_goals refine ⟨?_, rfl⟩
  · rename_i h; exact ret_bool (by simp [hasB, h])
  · rename_i h; exact ret_bool (by simp [hasB]; omega)

theorem fold_num (n : Int) (h : -9223372036854775808 ≤ n ∧ n ≤ 9223372036854775807) : bits .xor .u64 (IntKind.u64.wrap (IntKind.u64.wrap n * 2)) (IntKind.u64.wrap (n / 9223372036854775808)) = (zz n : Int) := by
  simp only [IntKind.wrap_u64]
  by_cases h0 : 0 ≤ n
  · have e1 : n / 9223372036854775808 = 0 := by omega
    have e2 : n % 18446744073709551616 * 2 % 18446744073709551616 = (((2 * n).toNat : Nat) : Int) := by omega
    have e3 : (0 : Int) % 18446744073709551616 = ((0 : Nat) : Int) := by omega
    rw [e1, e2, e3, u64_xor_nat _ _ (by omega) (by omega), Nat.xor_zero]
    simp [zz, h0]
  · have e1 : n / 9223372036854775808 % 18446744073709551616 = ((18446744073709551615 : Nat) : Int) := by omega
    have e2 : n % 18446744073709551616 * 2 % 18446744073709551616 = (((2 * n + 18446744073709551616).toNat : Nat) : Int) := by omega
    have hx : ∀ a : Nat, a < 18446744073709551616 → a ^^^ 18446744073709551615 = 18446744073709551615 - a := by
      intro a ha
      have h1 := BitVec.toNat_not (x := BitVec.ofNat 64 a)
      rw [← BitVec.xor_allOnes, BitVec.toNat_xor, BitVec.toNat_ofNat, BitVec.toNat_allOnes] at h1
      rw [Nat.mod_eq_of_lt (by omega)] at h1
      omega
    rw [e1, e2, u64_xor_nat _ _ (by omega) (by omega), hx _ (by omega)]
    simp only [zz, if_neg h0]
    omega

theorem fold_any (n : Int) (w : World) (h1 : -9223372036854775808 ≤ n) (h2 : n ≤ 9223372036854775807) :
    Calls Try.prog 32 #[.int .i64 n] w fun e w' => e = .returned (.int .u64 (zz n)) ∧ w = w' := by
  have H := Lib.hid (fold_num n ⟨h1, h2⟩)
  go_enter Try.func32, Try.ntmps32
  go_wp2
  go_ret
  exact ⟨ret_int H.out, rfl⟩

theorem unfold_num (u : Nat) (h : u < 18446744073709551616) : bits .xor .i64 ((u : Int) / 2) (wrap64 (-wrap64 (bits .and .u64 (u : Int) 1))) = uz u := by
  have e1 : bits .and .u64 (u : Int) 1 = ((u % 2 : Nat) : Int) := by
    have := u64_and_nat u 1 h (by omega)
    rw [nat_mask1] at this
    exact this
  rw [e1]
  have e2 : wrap64 (-wrap64 ((u % 2 : Nat) : Int)) = -((u % 2 : Nat) : Int) := by unfold wrap64; omega
  rw [e2]
  have hv : ∀ x : Int, bits .xor .i64 ((u : Int) / 2) x = IntKind.i64.wrap ((BitVec.ofInt 64 ((u : Int) / 2) ^^^ BitVec.ofInt 64 x).toNat : Int) := fun x => rfl
  have ea : (BitVec.ofInt 64 ((u : Int) / 2)).toNat = u / 2 := by
    have : ((u : Int) / 2) = ((u / 2 : Nat) : Int) := by omega
    rw [this]
    exact ofInt_u64 _ (by omega)
  rw [hv]
  unfold uz
  by_cases hu : u % 2 = 0
  · rw [if_pos hu, hu]
    have : BitVec.ofInt 64 (-((0 : Nat) : Int)) = 0#64 := by decide
    rw [this, BitVec.xor_zero, ea]
    exact IntWalk.i64_in _ (by omega)
  · rw [if_neg hu]
    have h1 : u % 2 = 1 := by omega
    rw [h1]
    have : BitVec.ofInt 64 (-((1 : Nat) : Int)) = BitVec.allOnes 64 := by decide
    rw [this, BitVec.xor_allOnes, BitVec.toNat_not, ea, IntKind.wrap_i64]
    omega

theorem unfold_any (u : Nat) (w : World) (h : u < 18446744073709551616) :
    Calls Try.prog 30 #[.int .u64 (u : Int)] w fun e w' => e = .returned (.int .i64 (uz u)) ∧ w = w' := by
  have H := Lib.hid (unfold_num u h)
  have hb : (u : Int) / 2 ≤ 9223372036854775807 := by omega
  clear h
  go_enter Try.func30, Try.ntmps30
  go_wp2
  go_ret
  exact ⟨ret_int H.out, rfl⟩

theorem copied_any (A : Option Addr) (n c : Nat) (k : Int) (l : List UInt8) (B : Nat) (w : World) (hr : Rd w B A n l) (hB : B ≤ w.heap.size) (hn : n ≤ 549755813888) (hk0 : 0 ≤ k) (hk : k ≤ 549755813888) :
    Calls Try.prog 29 #[.slice A n c, .int .i64 k] w (RB 5 w.heap.size w l) := by
  have hI := u8row
  obtain ⟨m, rfl⟩ : ∃ m : Nat, k = (m : Int) := ⟨k.toNat, by omega⟩
  go_enter Try.func29, Try.ntmps29
  go_wp2_with (first | (at_make; refine wpList_mkB _ rfl _ _ 22 rfl 5 Try.underlying22 hI _ _ _ (n + m) rfl rfl (by omega) (by omega) ?_; intro A1 c1 w1 hown1 hb1) | (at_builtin; refine wpList_appB _ rfl _ _ 22 rfl w.heap.size 5 Try.underlying22 hI _ 0 [] rfl hown1 B A n c l rfl (hr.below hb1 hB) (by omega) hb1.size ?_; intro A2 c2 w2 hown2 hb2))
  go_ret
  exact ⟨A2, n, c2, rfl, by simpa using hown2, hb1.trans hb2⟩

theorem or128 (u : Nat) : bits .or .u8 (IntKind.u8.wrap (u : Int)) 128 = ((UInt8.ofNat (u % 128 + 128)).toNat : Int) := by
  have e1 : IntKind.u8.wrap (u : Int) = ((u % 256 : Nat) : Int) := by rw [IntKind.wrap_u8']; omega
  rw [e1, ofNat_toNat' (by omega)]
  have h := u8_or_nat (u % 256) 128 (by omega) (by omega)
  have e : u % 256 ||| 128 = u % 128 + 128 := by
    have h2 : ∀ x : Fin 256, x.val ||| 128 = x.val % 128 + 128 := by decide +kernel
    have := h2 ⟨u % 256, by omega⟩
    simp only at this
    rw [this]
    omega
  rw [e] at h
  exact h
theorem low8 (u : Nat) : IntKind.u8.wrap (u : Int) = ((UInt8.ofNat u).toNat : Int) := by
  rw [IntKind.wrap_u8', UInt8.toNat_ofNat']
  omega

def avRel (base : Nat) (l : List UInt8) (z : Nat) (w : World) (v i : Value) (wr : World) : Prop :=
  ∃ A1 n1 c1 u l1, v = .slice A1 n1 c1 ∧ i = .int .u64 ((u : Nat) : Int) ∧ OwnB wr 5 base (.slice A1 n1 c1) n1 (l ++ l1) ∧ l1 ++ vb u = vb z ∧ u < 18446744073709551616 ∧ Below base w wr
set_option maxRecDepth 100000 in
set_option maxHeartbeats 400000 in
theorem appendVar_any (A : Option Addr) (n c : Nat) (x : Int) (l : List UInt8) (base : Nat) (w : World) (hown : OwnB w 5 base (.slice A n c) n l) (hbase : base ≤ w.heap.size) (hn : n ≤ 1099511620000)
    (h1 : -9223372036854775808 ≤ x) (h2 : x ≤ 9223372036854775807) :
    Calls Try.prog 31 #[.slice A n c, .int .i64 x] w (RB 5 base w (l ++ vb (zz x))) := by
  have hI := u8row
  have hz := zz_lt ⟨h1, h2⟩
  have hten := vb_ten hz
  have hlen := Lib.hid hown.len
  have HN := Lib.hid hn
  clear hn
  go_enter Try.func31, Try.ntmps31
  go_wp2_with (go_at_call 32; refine (fold_any _ _ h1 h2).mono ?_; rintro e w1 ⟨rfl, rfl⟩)
  obtain ⟨z, hzz⟩ : ∃ z, z = zz x := ⟨_, rfl⟩
  rw [← hzz] at hz hten ⊢
  have HZ := Lib.hid hz
  have HZZ := Lib.hid hzz
  clear hzz h1 h2 hz
  go_loopw [0, 5] (fun v i wr => avRel base l z w v i wr)
    (fun _ i _ => (intOf i).toNat)
  case atStart => exact ⟨A, n, c, z, [], rfl, rfl, by simpa using hown, by simp, HZ.out, Below.refl _ _⟩
  case round =>
    obtain ⟨A1, n1, c1, u, l1, rfl, rfl, hown1, hv, hu, hb⟩ := hrel
    have hl1 : n1 ≤ n + 10 := by
      have a1 := hown1.len
      have a2 := congrArg List.length hv
      have a3 := hlen.out
      simp only [List.length_append] at a1 a2
      omega
    have hor := Lib.hid (or128 u)
    have hbs := hb.size
    have hpos := vb_pos u
    have hV := Lib.hid hv
    have HU := Lib.hid hu
    clear hv hown hu
    by_cases hlt : u < 128
    · have hlow := Lib.hid (ofNat_toNat' (q := u) (by omega))
      go_wp2_with (at_builtin; refine wpList_app1 _ rfl _ _ 22 rfl base 5 Try.underlying22 hI _ n1 _ rfl hown1 _ (UInt8.ofNat u) rfl (congrArg Nat.cast hlow.out.symm) (by have := HN.out; omega) (by omega) ?_; intro A2 c2 w2 hown2 hb2)
      go_ret
      refine ⟨A2, n1 + 1, c2, rfl, ?_, hb.trans hb2⟩
      try rw [← HZZ.out]
      rw [← hV.out, vb_small hlt, ← List.append_assoc]
      exact hown2
    · go_wp2_with (at_builtin; refine wpList_app1 _ rfl _ _ 22 rfl base 5 Try.underlying22 hI _ n1 _ rfl hown1 _ _ rfl hor.out (by have := HN.out; omega) (by omega) ?_; intro A2 c2 w2 hown2 hb2)
      go_roundw
      case rel =>
        refine ⟨A2, n1 + 1, c2, u / 128, l1 ++ [UInt8.ofNat (u % 128 + 128)], rfl, by go_num, ?_, ?_, Nat.lt_of_le_of_lt (Nat.div_le_self _ _) HU.out, hb.trans hb2⟩
        · rw [← List.append_assoc]; exact hown2
        · rw [← hV.out, vb_big (u := u) (by omega)]; simp
      case measure => simp [intOf]; omega

theorem PutVar_any (A : Option Addr) (n c : Nat) (x : Int) (l : List UInt8) (B : Nat) (w : World) (hr : Rd w B A n l) (hB : B ≤ w.heap.size) (hn : n ≤ 549755813888) (h1 : -9223372036854775808 ≤ x) (h2 : x ≤ 9223372036854775807) :
    Calls Try.prog 21 #[.slice A n c, .int .i64 x] w (RB 5 w.heap.size w (l ++ vb (zz x))) := by
  go_enter Try.func21, Try.ntmps21
  go_wp2_with (first | (go_at_call 29; refine (copied_any A n c 10 l B w hr hB hn (by omega) (by omega)).mono ?_; rintro e w1 ⟨A1, n1, c1, rfl, hown1, hb1⟩; have hn1 : n1 = n := hown1.len.symm.trans hr.len; have HN1 := Lib.hid hn1; clear hn1) | (go_at_call 31; refine (appendVar_any A1 n1 c1 x l w.heap.size w1 hown1 hb1.size (by have := HN1.out; omega) h1 h2).mono ?_; rintro e w2 ⟨A2, n2, c2, rfl, hown2, hb2⟩))
  go_ret
  exact ⟨A2, n2, c2, rfl, hown2, hb1.trans hb2⟩

theorem PutText_any (A : Option Addr) (n c : Nat) (s : ByteArray) (l : List UInt8) (B : Nat) (w : World) (hr : Rd w B A n l) (hB : B ≤ w.heap.size) (hn : n ≤ 274877906944) (hs : s.size ≤ 274877906944) :
    Calls Try.prog 25 #[.slice A n c, .string s] w (RB 5 w.heap.size w (l ++ vb (zz s.size) ++ s.data.toList)) := by
  have hI := u8row
  go_enter Try.func25, Try.ntmps25
  go_wp2_with (first | (go_at_call 29; refine (copied_any A n c _ l B w hr hB (by omega) (by omega) (by omega)).mono ?_; rintro e w1 ⟨A1, n1, c1, rfl, hown1, hb1⟩; have hn1 : n1 = n := hown1.len.symm.trans hr.len; have HN1 := Lib.hid hn1; clear hn1) | (go_at_call 31; refine (appendVar_any A1 n1 c1 _ l w.heap.size w1 hown1 hb1.size (by have := HN1.out; omega) (by omega) (by omega)).mono ?_; rintro e w2 ⟨A2, n2, c2, rfl, hown2, hb2⟩; have hn2 : n2 ≤ n + 10 := (by have a1 := hown2.len; have a2 := vb_ten (zz_lt (n := (s.size : Int)) (by omega)); have a3 := hr.len; simp only [List.length_append] at a1; omega)) | (at_builtin; refine wpList_appS _ rfl _ _ 22 9 rfl w.heap.size 5 Try.underlying22 Try.underlying9 hI _ n2 _ rfl hown2 s rfl (by omega) (by have a1 := hb1.size; have a2 := hb2.size; omega) ?_; intro A3 c3 w3 hown3 hb3))
  go_ret
  exact ⟨A3, n2 + s.size, c3, rfl, hown3, (hb1.trans hb2).trans hb3⟩
end Go.Proofs.Ytjjokjgakenhlaa.Oct
