/- The contract of octet.Put. -/
import Derived.Test.YtilnlmopdljeeaaOctFCopied
import Derived.Test.YtilnlmopdljeeaaOctFIsWidth
namespace Go.Proofs.Ytilnlmopdljeeaa.Oct
open Go.RowKit

set_option maxRecDepth 100000 in
set_option maxHeartbeats 400000 in
theorem Put_yes (A : Option Addr) (n c : Nat) (x k : Nat) (l : List UInt8) (B : Nat) (w : World) (hr : Rd w B A n l) (hB : B ≤ w.heap.size) (hn : n ≤ 274877906944) (hk1 : 1 ≤ k) (hk8 : k ≤ 8) :
    Calls Try.prog 22 #[.slice A n c, .int .u64 (x : Int), .int .i64 (k : Int)] w (RB 5 w.heap.size w (l ++ beN x k k)) := by
  have hI := u8row
  have hw : isW (k : Int) = true := by simp [isW]; omega
  have hlen := Lib.hid hr.len
  have HN := Lib.hid hn
  clear hn
  go_enter Try.func22, Try.ntmps22
  go_wp2_with (first | (go_at_call 26; refine (isWidth_any _ _).mono ?_; rintro e w1 ⟨rfl, rfl⟩) | (go_at_call 28; refine (copied_any A n c _ l B w hr hB (by have := HN.out; omega) (by omega) (by omega)).mono ?_; rintro e w1 ⟨A1, n1, c1, rfl, hown1, hb1⟩))
  have hsz := hb1.size
  go_loopw [7, 18] (fun v i wr => putRel w.heap.size l x k w v i wr) (fun _ i _ => k - (intOf i).toNat)
  case atStart => exact ⟨A1, n1, c1, 0, rfl, rfl, Nat.zero_le _, by simpa [beN_zero] using hown1, hb1⟩
  case round =>
    clear hown1
    obtain ⟨A2, n2, c2, j, rfl, rfl, hj, hown2, hb2⟩ := hrel
    have hn2 : n2 ≤ n + 8 := by
      have a1 := hown2.len
      have a3 := hlen.out
      rw [List.length_append, beN_length] at a1
      omega
    have hbs := hb2.size
    by_cases hlt : j < k
    · go_wp2_with (at_builtin; refine wpList_app1 _ rfl _ _ 22 rfl w.heap.size 5 Try.underlying22 hI _ n2 _ rfl hown2 _ _ rfl (putByte x (k - 1 - j)) (by have := HN.out; omega) (by omega) ?_; intro A3 c3 w3 hown3 hb3)
      go_roundw
      case rel =>
        refine ⟨A3, n2 + 1, c3, j + 1, rfl, by go_num, by omega, ?_, hb2.trans hb3⟩
        rw [beN_succ, ← List.append_assoc]
        exact hown3
      case measure => simp [intOf]; omega
    · have hjk : j = k := by omega
      subst hjk
      go_wp2
      go_ret
      exact ⟨A2, n2, c2, rfl, hown2, hb2⟩

theorem Put_any (A : Option Addr) (n c : Nat) (x : Nat) (k : Int) (l : List UInt8) (B : Nat) (w : World) (hr : Rd w B A n l) (hB : B ≤ w.heap.size) (hn : n ≤ 274877906944) :
    Calls Try.prog 22 #[.slice A n c, .int .u64 (x : Int), .int .i64 k] w (RB 5 w.heap.size w (l ++ if isW k then beN x k.toNat k.toNat else [])) := by
  by_cases hk : isW k = true
  · obtain ⟨m, rfl⟩ : ∃ m : Nat, k = (m : Int) := ⟨k.toNat, by simp [isW] at hk; omega⟩
    have h := hk
    simp [isW] at h
    rw [if_pos hk, Int.toNat_natCast]
    exact Put_yes A n c x m l B w hr hB hn (by omega) (by omega)
  · rw [if_neg hk, List.append_nil]
    have hk' : isW k = false := by simpa using hk
    clear hk
    go_enter Try.func22, Try.ntmps22
    go_wp2_with (first | (go_at_call 26; refine (isWidth_any _ _).mono ?_; rintro e w1 ⟨rfl, rfl⟩) | (go_at_call 28; refine (copied_any A n c _ l B w hr hB (by omega) (by omega) (by omega)).mono ?_; rintro e w1 ⟨A1, n1, c1, rfl, hown1, hb1⟩))
    go_ret
    exact ⟨A1, n1, c1, rfl, hown1, hb1⟩

theorem Put8 (x : Nat) (L : List UInt8) (hL : L = beN x 8 8) (w : World) :
    Calls Try.prog 22 #[.slice none 0 0, .int .u64 (x : Int), .int .i64 8] w (RB 5 w.heap.size w L) := by
  subst hL
  exact Put_yes none 0 0 x 8 [] 0 w Rd.nil (Nat.zero_le _) (by omega) (by omega) (by omega)

end Go.Proofs.Ytilnlmopdljeeaa.Oct
