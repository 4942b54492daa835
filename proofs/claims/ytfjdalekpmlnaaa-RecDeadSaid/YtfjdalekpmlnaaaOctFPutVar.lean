/- The contract of octet.PutVar. -/
import Derived.Test.YtfjdalekpmlnaaaOctFCopied
import Derived.Test.YtfjdalekpmlnaaaOctFAppendVar
namespace Go.Proofs.Ytfjdalekpmlnaaa.Oct
open Go.RowKit

theorem PutVar_any (A : Option Addr) (n c : Nat) (x : Int) (l : List UInt8) (B : Nat) (w : World) (hr : Rd w B A n l) (hB : B ≤ w.heap.size) (hn : n ≤ 549755813888) (h1 : -9223372036854775808 ≤ x) (h2 : x ≤ 9223372036854775807) :
    Calls Try.prog 23 #[.slice A n c, .int .i64 x] w (RB 5 w.heap.size w (l ++ vb (zz x))) := by
  go_enter Try.func23, Try.ntmps23
  go_wp2_with (first | (go_at_call 44; refine (copied_any A n c 10 l B w hr hB hn (by omega) (by omega)).mono ?_; rintro e w1 ⟨A1, n1, c1, rfl, hown1, hb1⟩; have hn1 : n1 = n := hown1.len.symm.trans hr.len; have HN1 := Lib.hid hn1; clear hn1) | (go_at_call 43; refine (appendVar_any A1 n1 c1 x l w.heap.size w1 hown1 hb1.size (by have := HN1.out; omega) h1 h2).mono ?_; rintro e w2 ⟨A2, n2, c2, rfl, hown2, hb2⟩))
  go_ret
  exact ⟨A2, n2, c2, rfl, hown2, hb1.trans hb2⟩

theorem PutVar_nil (x : Int) (w : World) (h1 : -9223372036854775808 ≤ x) (h2 : x ≤ 9223372036854775807) :
    Calls Try.prog 23 #[.slice none 0 0, .int .i64 x] w (RB 5 w.heap.size w (vb (zz x))) :=
  PutVar_any none 0 0 x [] 0 w Rd.nil (Nat.zero_le _) (by omega) h1 h2

end Go.Proofs.Ytfjdalekpmlnaaa.Oct
