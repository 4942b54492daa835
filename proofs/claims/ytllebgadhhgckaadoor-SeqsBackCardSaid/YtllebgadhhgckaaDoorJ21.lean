/- Joined: RecDevA, OctFCopied, OctFIsWidth, OctFPut, OctFFold, OctFAppendVar, OctFPutText, OctFPutVar. -/
import Derived.Test.YtllebgadhhgckaaDoorJ08
/- The contracts of the landed rec's Check, and of what it calls. -/
namespace Go.Proofs.YtllebgadhhgckaaDoor.Rec
open Go.RowKit Oct

def chk (r : Rc) : Int := if may r then 0 else 1
theorem chk_open (r : Rc) : chk r = if may r then 0 else 1 := rfl
def tx64 (s : ByteArray) : Bool := decide ((s.size : Int) ≤ 64)
theorem tx64_no {s : ByteArray} (h : 64 < s.size) : tx64 s = false := by unfold tx64; simp; omega
theorem tx64_yes {s : ByteArray} (h : ¬ 64 < s.size) : tx64 s = true := by unfold tx64; simp; omega

theorem inRange_any (n : Int) (w : World) {b : Bool} (hb : inR n = b) : Calls Tryd.prog 116 #[.int .i64 n] w fun e w' => e = .returned (.bool b) ∧ w = w' := by
  subst hb
  go_enter Tryd.func116, Tryd.ntmps116
  go_wp2
  all_goals go_ret
  all_goals refine ⟨?_, rfl⟩
  · rename_i h; exact ret_bool (by simp [inR, h])
  · rename_i h; exact ret_bool (by simp [inR]; omega)

theorem isText_any (s : ByteArray) (w : World) {b : Bool} (hb : tx64 s = b) : Calls Tryd.prog 120 #[.string s] w fun e w' => e = .returned (.bool b) ∧ w = w' := by
  subst hb
  go_enter Tryd.func120, Tryd.ntmps120
  go_wp2
  go_ret
  exact ⟨rfl, rfl⟩

theorem flag_any (d : Bool) (w : World) : Calls Tryd.prog 117 #[.bool d] w fun e w' => e = .returned (.int .u64 ((fl d).toNat : Int)) ∧ w = w' := by
  rcases d with _ | _
  all_goals
    go_enter Tryd.func117, Tryd.ntmps117
    go_wp2
    go_ret
    exact ⟨rfl, rfl⟩

set_option maxRecDepth 100000 in
theorem Check_we (o s : Int) (k v : ByteArray) (d : Bool) (w : World) (hk : k.size ≤ 1099511627776) (hv : v.size ≤ 1099511627776) : Calls Tryd.prog 115 #[.agg #[.int .i64 o, .string k, .string v, .bool d, .int .i64 s]] w fun e w' => e = .returned (.int .i64 (chk ⟨o, k, v, d, s⟩)) ∧ w.alloc (.cells #[.int .i64 o, .string k, .string v, .bool d, .int .i64 s] 88) = w' := by
  rcases h1 : inR o with _ | _
  · have hm := Lib.hid (chk_no (r := ⟨o, k, v, d, s⟩) fun hh => by have := inR_iff.2 (may_iff.1 hh).1; simp only [h1] at this; cases this)
    first | rw [show chk _ = _ from hm.out] | rw [chk_open, hm.out]
    go_enter Tryd.func115, Tryd.ntmps115
    go_wp2_with (go_at_call 116; refine (inRange_any _ _ h1).mono ?_; rintro e w9 ⟨rfl, rfl⟩)
    go_ret
    exact ⟨rfl, rfl⟩
  rcases h2 : inR s with _ | _
  · have hm := Lib.hid (chk_no (r := ⟨o, k, v, d, s⟩) fun hh => by have := inR_iff.2 (may_iff.1 hh).2.1; simp only [h2] at this; cases this)
    first | rw [show chk _ = _ from hm.out] | rw [chk_open, hm.out]
    go_enter Tryd.func115, Tryd.ntmps115
    go_wp2_with (first | (go_at_call 116; refine (inRange_any _ _ (by first | exact h1 | exact h2)).mono ?_; rintro e w9 ⟨rfl, rfl⟩) | (go_at_call 120; refine (isText_any _ _ (by first | exact t3 | exact t4)).mono ?_; rintro e w8 ⟨rfl, rfl⟩))
    go_ret
    exact ⟨rfl, rfl⟩
  have g1 := inR_iff.1 h1
  have g2 := inR_iff.1 h2
  by_cases h3 : 64 < k.size
  · have t3 := tx64_no h3
    have hm := Lib.hid (chk_no (r := ⟨o, k, v, d, s⟩) fun hh => by have := (may_iff.1 hh).2.2.1; simp only at this; omega)
    clear h3
    first | rw [show chk _ = _ from hm.out] | rw [chk_open, hm.out]
    go_enter Tryd.func115, Tryd.ntmps115
    go_wp2_with (first | (go_at_call 116; refine (inRange_any _ _ (by first | exact h1 | exact h2)).mono ?_; rintro e w9 ⟨rfl, rfl⟩) | (go_at_call 120; refine (isText_any _ _ (by first | exact t3 | exact t4)).mono ?_; rintro e w8 ⟨rfl, rfl⟩))
    go_ret
    exact ⟨rfl, rfl⟩
  have t3 := tx64_yes h3
  by_cases h4 : 64 < v.size
  · have t4 := tx64_no h4
    have hm := Lib.hid (chk_no (r := ⟨o, k, v, d, s⟩) fun hh => by have := (may_iff.1 hh).2.2.2.1; simp only at this; omega)
    clear h4
    first | rw [show chk _ = _ from hm.out] | rw [chk_open, hm.out]
    go_enter Tryd.func115, Tryd.ntmps115
    go_wp2_with (first | (go_at_call 116; refine (inRange_any _ _ (by first | exact h1 | exact h2)).mono ?_; rintro e w9 ⟨rfl, rfl⟩) | (go_at_call 120; refine (isText_any _ _ (by first | exact t3 | exact t4)).mono ?_; rintro e w8 ⟨rfl, rfl⟩))
    go_ret
    exact ⟨rfl, rfl⟩
  have t4 := tx64_yes h4
  rcases d with _ | _
  · have hm := Lib.hid (chk_yes (r := ⟨o, k, v, false, s⟩) (may_iff.2 ⟨g1, g2, by simp only; omega, by simp only; omega, fun hh => by cases hh⟩))
    first | rw [show chk _ = _ from hm.out] | rw [chk_open, hm.out]
    go_enter Tryd.func115, Tryd.ntmps115
    go_wp2_with (first | (go_at_call 116; refine (inRange_any _ _ (by first | exact h1 | exact h2)).mono ?_; rintro e w9 ⟨rfl, rfl⟩) | (go_at_call 120; refine (isText_any _ _ (by first | exact t3 | exact t4)).mono ?_; rintro e w8 ⟨rfl, rfl⟩))
    go_ret
    exact ⟨rfl, rfl⟩
  by_cases h5 : k = ByteArray.empty
  · have hm := Lib.hid (chk_no (r := ⟨o, k, v, true, s⟩) fun hh => ((may_iff.1 hh).2.2.2.2 rfl).1 (empty_iff.2 h5))
    first | rw [show chk _ = _ from hm.out] | rw [chk_open, hm.out]
    subst h5
    go_enter Tryd.func115, Tryd.ntmps115
    go_wp2_with (first | (go_at_call 116; refine (inRange_any _ _ (by first | exact h1 | exact h2)).mono ?_; rintro e w9 ⟨rfl, rfl⟩) | (go_at_call 120; refine (isText_any _ _ (by first | exact t3 | exact t4)).mono ?_; rintro e w8 ⟨rfl, rfl⟩))
    go_ret
    exact ⟨rfl, rfl⟩
  by_cases h6 : v = ByteArray.empty
  · have hm := Lib.hid (chk_yes (r := ⟨o, k, v, true, s⟩) (may_iff.2 ⟨g1, g2, by simp only; omega, by simp only; omega, fun _ => ⟨fun hz => h5 (empty_iff.1 hz), empty_iff.2 h6⟩⟩))
    first | rw [show chk _ = _ from hm.out] | rw [chk_open, hm.out]
    subst h6
    have hk5 := empty_tests h5
    go_enter Tryd.func115, Tryd.ntmps115
    go_wp2_with (first | (go_at_call 116; refine (inRange_any _ _ (by first | exact h1 | exact h2)).mono ?_; rintro e w9 ⟨rfl, rfl⟩) | (go_at_call 120; refine (isText_any _ _ (by first | exact t3 | exact t4)).mono ?_; rintro e w8 ⟨rfl, rfl⟩))
    go_ret
    exact ⟨rfl, rfl⟩
  · have hm := Lib.hid (chk_no (r := ⟨o, k, v, true, s⟩) fun hh => h6 (empty_iff.1 ((may_iff.1 hh).2.2.2.2 rfl).2))
    first | rw [show chk _ = _ from hm.out] | rw [chk_open, hm.out]
    have hk5 := empty_tests h5
    have hk6 := empty_tests h6
    go_enter Tryd.func115, Tryd.ntmps115
    go_wp2_with (first | (go_at_call 116; refine (inRange_any _ _ (by first | exact h1 | exact h2)).mono ?_; rintro e w9 ⟨rfl, rfl⟩) | (go_at_call 120; refine (isText_any _ _ (by first | exact t3 | exact t4)).mono ?_; rintro e w8 ⟨rfl, rfl⟩))
    go_ret
    exact ⟨rfl, rfl⟩
theorem Check_at (o s : Int) (k v : ByteArray) (d : Bool) (w : World) (hk : k.size ≤ 1099511627776) (hv : v.size ≤ 1099511627776) : Calls Tryd.prog 115 #[.agg #[.int .i64 o, .string k, .string v, .bool d, .int .i64 s]] w fun e w' => e = .returned (.int .i64 (chk ⟨o, k, v, d, s⟩)) ∧ Below w.heap.size w w' :=
  (Check_we o s k v d w hk hv).mono fun _ _ h => ⟨h.1, h.2 ▸ (Below.refl _ _).alloc (Nat.le_refl _) _⟩
end Go.Proofs.YtllebgadhhgckaaDoor.Rec

/- The contract of octet.Copied. -/
namespace Go.Proofs.YtllebgadhhgckaaDoor.Oct
open Go.RowKit

theorem copied_any (A : Option Addr) (n c : Nat) (k : Int) (l : List UInt8) (B : Nat) (w : World) (hr : Rd w B A n l) (hB : B ≤ w.heap.size) (hn : n ≤ 549755813888) (hk0 : 0 ≤ k) (hk : k ≤ 549755813888) :
    Calls Tryd.prog 97 #[.slice A n c, .int .i64 k] w (RB 5 w.heap.size w l) := by
  have hI := u8row
  obtain ⟨m, rfl⟩ : ∃ m : Nat, k = (m : Int) := ⟨k.toNat, by omega⟩
  go_enter Tryd.func97, Tryd.ntmps97
  go_wp2_with (first | (at_make; refine wpList_mkB _ rfl _ _ 39 rfl 5 Tryd.underlying39 hI _ _ _ (n + m) rfl rfl (by omega) (by omega) ?_; intro A1 c1 w1 hown1 hb1) | (at_builtin; refine wpList_appB _ rfl _ _ 39 rfl w.heap.size 5 Tryd.underlying39 hI _ 0 [] rfl hown1 B A n c l rfl (hr.below hb1 hB) (by omega) hb1.size ?_; intro A2 c2 w2 hown2 hb2))
  go_ret
  exact ⟨A2, n, c2, rfl, by simpa using hown2, hb1.trans hb2⟩

end Go.Proofs.YtllebgadhhgckaaDoor.Oct

/- The contract of octet.IsWidth. -/
namespace Go.Proofs.YtllebgadhhgckaaDoor.Oct
open Go.RowKit

theorem isWidth_any (k : Int) (w : World) : Calls Tryd.prog 83 #[.int .i64 k] w fun e w' => e = .returned (.bool (isW k)) ∧ w = w' := by
  go_enter Tryd.func83, Tryd.ntmps83
  go_wp2
  all_goals go_ret
  all_goals refine ⟨?_, rfl⟩
  · rename_i h; exact ret_bool (by simp [isW, h])
  · rename_i h; exact ret_bool (by simp [isW]; omega)

end Go.Proofs.YtllebgadhhgckaaDoor.Oct

/- The contract of octet.Put. -/
namespace Go.Proofs.YtllebgadhhgckaaDoor.Oct
open Go.RowKit

set_option maxRecDepth 100000 in
set_option maxHeartbeats 400000 in
theorem Put_yes (A : Option Addr) (n c : Nat) (x k : Nat) (l : List UInt8) (B : Nat) (w : World) (hr : Rd w B A n l) (hB : B ≤ w.heap.size) (hn : n ≤ 274877906944) (hk1 : 1 ≤ k) (hk8 : k ≤ 8) :
    Calls Tryd.prog 74 #[.slice A n c, .int .u64 (x : Int), .int .i64 (k : Int)] w (RB 5 w.heap.size w (l ++ beN x k k)) := by
  have hI := u8row
  have hw : isW (k : Int) = true := by simp [isW]; omega
  have hlen := Lib.hid hr.len
  have HN := Lib.hid hn
  clear hn
  go_enter Tryd.func74, Tryd.ntmps74
  go_wp2_with (first | (go_at_call 83; refine (isWidth_any _ _).mono ?_; rintro e w1 ⟨rfl, rfl⟩) | (go_at_call 97; refine (copied_any A n c _ l B w hr hB (by have := HN.out; omega) (by omega) (by omega)).mono ?_; rintro e w1 ⟨A1, n1, c1, rfl, hown1, hb1⟩))
  have hsz := hb1.size
  go_loopw [7, 18] (fun v i wr => putRel w.heap.size l x k w v i wr) (fun _ i _ => k - (intOf i).toNat)
  case atStart => exact ⟨A1, n1, c1, 0, rfl, rfl, Nat.zero_le _, by simpa [beN_zero] using hown1, hb1⟩
  case round =>
    clear hown1
    obtain ⟨A2, n2, c2, j, rfl, rfl, hj, hown2, hb2⟩ := hrel
    have hn2 : n2 ≤ n + 8 := by
      have a1 := hown2.len
      have a3 := hlen.out
      rw [List.length_append, beN_length] at a1
      omega
    have hbs := hb2.size
    by_cases hlt : j < k
    · go_wp2_with (at_builtin; refine wpList_app1 _ rfl _ _ 39 rfl w.heap.size 5 Tryd.underlying39 hI _ n2 _ rfl hown2 _ _ rfl (putByte x (k - 1 - j)) (by have := HN.out; omega) (by omega) ?_; intro A3 c3 w3 hown3 hb3)
      go_roundw
      case rel =>
        refine ⟨A3, n2 + 1, c3, j + 1, rfl, by go_num, by omega, ?_, hb2.trans hb3⟩
        rw [beN_succ, ← List.append_assoc]
        exact hown3
      case measure => simp [intOf]; omega
    · have hjk : j = k := by omega
      subst hjk
      go_wp2
      go_ret
      exact ⟨A2, n2, c2, rfl, hown2, hb2⟩

theorem Put_any (A : Option Addr) (n c : Nat) (x : Nat) (k : Int) (l : List UInt8) (B : Nat) (w : World) (hr : Rd w B A n l) (hB : B ≤ w.heap.size) (hn : n ≤ 274877906944) :
    Calls Tryd.prog 74 #[.slice A n c, .int .u64 (x : Int), .int .i64 k] w (RB 5 w.heap.size w (l ++ if isW k then beN x k.toNat k.toNat else [])) := by
  by_cases hk : isW k = true
  · obtain ⟨m, rfl⟩ : ∃ m : Nat, k = (m : Int) := ⟨k.toNat, by simp [isW] at hk; omega⟩
    have h := hk
    simp [isW] at h
    rw [if_pos hk, Int.toNat_natCast]
    exact Put_yes A n c x m l B w hr hB hn (by omega) (by omega)
  · rw [if_neg hk, List.append_nil]
    have hk' : isW k = false := by simpa using hk
    clear hk
    go_enter Tryd.func74, Tryd.ntmps74
    go_wp2_with (first | (go_at_call 83; refine (isWidth_any _ _).mono ?_; rintro e w1 ⟨rfl, rfl⟩) | (go_at_call 97; refine (copied_any A n c _ l B w hr hB (by omega) (by omega) (by omega)).mono ?_; rintro e w1 ⟨A1, n1, c1, rfl, hown1, hb1⟩))
    go_ret
    exact ⟨A1, n1, c1, rfl, hown1, hb1⟩

end Go.Proofs.YtllebgadhhgckaaDoor.Oct

/- The contract of octet.Fold. -/
namespace Go.Proofs.YtllebgadhhgckaaDoor.Oct
open Go.RowKit

theorem fold_any (n : Int) (w : World) (h1 : -9223372036854775808 ≤ n) (h2 : n ≤ 9223372036854775807) :
    Calls Tryd.prog 112 #[.int .i64 n] w fun e w' => e = .returned (.int .u64 (zz n)) ∧ w = w' := by
  have H := Lib.hid (fold_num n ⟨h1, h2⟩)
  go_enter Tryd.func112, Tryd.ntmps112
  go_wp2
  go_ret
  exact ⟨ret_int H.out, rfl⟩

end Go.Proofs.YtllebgadhhgckaaDoor.Oct

/- The contract of octet.AppendVar. -/
namespace Go.Proofs.YtllebgadhhgckaaDoor.Oct
open Go.RowKit

set_option maxRecDepth 100000 in
set_option maxHeartbeats 400000 in
theorem appendVar_any (A : Option Addr) (n c : Nat) (x : Int) (l : List UInt8) (base : Nat) (w : World) (hown : OwnB w 5 base (.slice A n c) n l) (hbase : base ≤ w.heap.size) (hn : n ≤ 1099511620000)
    (h1 : -9223372036854775808 ≤ x) (h2 : x ≤ 9223372036854775807) :
    Calls Tryd.prog 96 #[.slice A n c, .int .i64 x] w (RB 5 base w (l ++ vb (zz x))) := by
  have hI := u8row
  have hz := zz_lt ⟨h1, h2⟩
  have hten := vb_ten hz
  have hlen := Lib.hid hown.len
  have HN := Lib.hid hn
  clear hn
  go_enter Tryd.func96, Tryd.ntmps96
  go_wp2_with (go_at_call 112; refine (fold_any _ _ h1 h2).mono ?_; rintro e w1 ⟨rfl, rfl⟩)
  obtain ⟨z, hzz⟩ : ∃ z, z = zz x := ⟨_, rfl⟩
  rw [← hzz] at hz hten ⊢
  have HZ := Lib.hid hz
  have HZZ := Lib.hid hzz
  clear hzz h1 h2 hz
  go_loopw [0, 5] (fun v i wr => avRel base l z w v i wr)
    (fun _ i _ => (intOf i).toNat)
  case atStart => exact ⟨A, n, c, z, [], rfl, rfl, by simpa using hown, by simp, HZ.out, Below.refl _ _⟩
  case round =>
    obtain ⟨A1, n1, c1, u, l1, rfl, rfl, hown1, hv, hu, hb⟩ := hrel
    have hl1 : n1 ≤ n + 10 := by
      have a1 := hown1.len
      have a2 := congrArg List.length hv
      have a3 := hlen.out
      simp only [List.length_append] at a1 a2
      omega
    have hor := Lib.hid (or128 u)
    have hbs := hb.size
    have hpos := vb_pos u
    have hV := Lib.hid hv
    have HU := Lib.hid hu
    clear hv hown hu
    by_cases hlt : u < 128
    · have hlow := Lib.hid (ofNat_toNat' (q := u) (by omega))
      go_wp2_with (at_builtin; refine wpList_app1 _ rfl _ _ 39 rfl base 5 Tryd.underlying39 hI _ n1 _ rfl hown1 _ (UInt8.ofNat u) rfl (congrArg Nat.cast hlow.out.symm) (by have := HN.out; omega) (by omega) ?_; intro A2 c2 w2 hown2 hb2)
      go_ret
      refine ⟨A2, n1 + 1, c2, rfl, ?_, hb.trans hb2⟩
      try rw [← HZZ.out]
      rw [← hV.out, vb_small hlt, ← List.append_assoc]
      exact hown2
    · go_wp2_with (at_builtin; refine wpList_app1 _ rfl _ _ 39 rfl base 5 Tryd.underlying39 hI _ n1 _ rfl hown1 _ _ rfl hor.out (by have := HN.out; omega) (by omega) ?_; intro A2 c2 w2 hown2 hb2)
      go_roundw
      case rel =>
        refine ⟨A2, n1 + 1, c2, u / 128, l1 ++ [UInt8.ofNat (u % 128 + 128)], rfl, by go_num, ?_, ?_, Nat.lt_of_le_of_lt (Nat.div_le_self _ _) HU.out, hb.trans hb2⟩
        · rw [← List.append_assoc]; exact hown2
        · rw [← hV.out, vb_big (u := u) (by omega)]; simp
      case measure => simp [intOf]; omega

end Go.Proofs.YtllebgadhhgckaaDoor.Oct

/- The contract of octet.PutText. -/
namespace Go.Proofs.YtllebgadhhgckaaDoor.Oct
open Go.RowKit

theorem PutText_any (A : Option Addr) (n c : Nat) (s : ByteArray) (l : List UInt8) (B : Nat) (w : World) (hr : Rd w B A n l) (hB : B ≤ w.heap.size) (hn : n ≤ 274877906944) (hs : s.size ≤ 274877906944) :
    Calls Tryd.prog 118 #[.slice A n c, .string s] w (RB 5 w.heap.size w (l ++ vb (zz s.size) ++ s.data.toList)) := by
  have hI := u8row
  go_enter Tryd.func118, Tryd.ntmps118
  go_wp2_with (first | (go_at_call 97; refine (copied_any A n c _ l B w hr hB (by omega) (by omega) (by omega)).mono ?_; rintro e w1 ⟨A1, n1, c1, rfl, hown1, hb1⟩; have hn1 : n1 = n := hown1.len.symm.trans hr.len; have HN1 := Lib.hid hn1; clear hn1) | (go_at_call 96; refine (appendVar_any A1 n1 c1 _ l w.heap.size w1 hown1 hb1.size (by have := HN1.out; omega) (by omega) (by omega)).mono ?_; rintro e w2 ⟨A2, n2, c2, rfl, hown2, hb2⟩; have hn2 : n2 ≤ n + 10 := (by have a1 := hown2.len; have a2 := vb_ten (zz_lt (n := (s.size : Int)) (by omega)); have a3 := hr.len; simp only [List.length_append] at a1; omega)) | (at_builtin; refine wpList_appS _ rfl _ _ 39 9 rfl w.heap.size 5 Tryd.underlying39 Tryd.underlying9 hI _ n2 _ rfl hown2 s rfl (by omega) (by have a1 := hb1.size; have a2 := hb2.size; omega) ?_; intro A3 c3 w3 hown3 hb3))
  go_ret
  exact ⟨A3, n2 + s.size, c3, rfl, hown3, (hb1.trans hb2).trans hb3⟩

end Go.Proofs.YtllebgadhhgckaaDoor.Oct

/- The contract of octet.PutVar. -/
namespace Go.Proofs.YtllebgadhhgckaaDoor.Oct
open Go.RowKit

theorem PutVar_any (A : Option Addr) (n c : Nat) (x : Int) (l : List UInt8) (B : Nat) (w : World) (hr : Rd w B A n l) (hB : B ≤ w.heap.size) (hn : n ≤ 549755813888) (h1 : -9223372036854775808 ≤ x) (h2 : x ≤ 9223372036854775807) :
    Calls Tryd.prog 73 #[.slice A n c, .int .i64 x] w (RB 5 w.heap.size w (l ++ vb (zz x))) := by
  go_enter Tryd.func73, Tryd.ntmps73
  go_wp2_with (first | (go_at_call 97; refine (copied_any A n c 10 l B w hr hB hn (by omega) (by omega)).mono ?_; rintro e w1 ⟨A1, n1, c1, rfl, hown1, hb1⟩; have hn1 : n1 = n := hown1.len.symm.trans hr.len; have HN1 := Lib.hid hn1; clear hn1) | (go_at_call 96; refine (appendVar_any A1 n1 c1 x l w.heap.size w1 hown1 hb1.size (by have := HN1.out; omega) h1 h2).mono ?_; rintro e w2 ⟨A2, n2, c2, rfl, hown2, hb2⟩))
  go_ret
  exact ⟨A2, n2, c2, rfl, hown2, hb1.trans hb2⟩

theorem PutVar_nil (x : Int) (w : World) (h1 : -9223372036854775808 ≤ x) (h2 : x ≤ 9223372036854775807) :
    Calls Tryd.prog 73 #[.slice none 0 0, .int .i64 x] w (RB 5 w.heap.size w (vb (zz x))) :=
  PutVar_any none 0 0 x [] 0 w Rd.nil (Nat.zero_le _) (by omega) h1 h2

end Go.Proofs.YtllebgadhhgckaaDoor.Oct
