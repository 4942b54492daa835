/- The contract of octet.PutText. -/
import Derived.Test.YtfjdalekpmlnaaaOctFCopied
import Derived.Test.YtfjdalekpmlnaaaOctFAppendVar
namespace Go.Proofs.Ytfjdalekpmlnaaa.Oct
open Go.RowKit

theorem PutText_any (A : Option Addr) (n c : Nat) (s : ByteArray) (l : List UInt8) (B : Nat) (w : World) (hr : Rd w B A n l) (hB : B ≤ w.heap.size) (hn : n ≤ 274877906944) (hs : s.size ≤ 274877906944) :
    Calls Try.prog 26 #[.slice A n c, .string s] w (RB 5 w.heap.size w (l ++ vb (zz s.size) ++ s.data.toList)) := by
  have hI := u8row
  go_enter Try.func26, Try.ntmps26
  go_wp2_with (first | (go_at_call 44; refine (copied_any A n c _ l B w hr hB (by omega) (by omega) (by omega)).mono ?_; rintro e w1 ⟨A1, n1, c1, rfl, hown1, hb1⟩; have hn1 : n1 = n := hown1.len.symm.trans hr.len; have HN1 := Lib.hid hn1; clear hn1) | (go_at_call 43; refine (appendVar_any A1 n1 c1 _ l w.heap.size w1 hown1 hb1.size (by have := HN1.out; omega) (by omega) (by omega)).mono ?_; rintro e w2 ⟨A2, n2, c2, rfl, hown2, hb2⟩; have hn2 : n2 ≤ n + 10 := (by have a1 := hown2.len; have a2 := vb_ten (zz_lt (n := (s.size : Int)) (by omega)); have a3 := hr.len; simp only [List.length_append] at a1; omega)) | (at_builtin; refine wpList_appS _ rfl _ _ 26 9 rfl w.heap.size 5 Try.underlying26 Try.underlying9 hI _ n2 _ rfl hown2 s rfl (by omega) (by have a1 := hb1.size; have a2 := hb2.size; omega) ?_; intro A3 c3 w3 hown3 hb3))
  go_ret
  exact ⟨A3, n2 + s.size, c3, rfl, hown3, (hb1.trans hb2).trans hb3⟩

theorem PutText_nil (s : ByteArray) (w : World) (hs : s.size ≤ 274877906944) :
    Calls Try.prog 26 #[.slice none 0 0, .string s] w (RB 5 w.heap.size w (vb (zz s.size) ++ s.data.toList)) :=
  PutText_any none 0 0 s [] 0 w Rd.nil (Nat.zero_le _) (by omega) hs

end Go.Proofs.Ytfjdalekpmlnaaa.Oct
