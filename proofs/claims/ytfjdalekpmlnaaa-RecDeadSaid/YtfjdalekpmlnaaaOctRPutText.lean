/- The contract of the document's PutText. -/
import Derived.Test.YtfjdalekpmlnaaaOctRPutVar
namespace Go.Proofs.Ytfjdalekpmlnaaa.Oct
open Go.RowKit

theorem refPutText_any (A : Option Addr) (n c : Nat) (s : ByteArray) (l : List UInt8) (B : Nat) (w : World) (hr : Rd w B A n l) (hn : n ≤ 137438953472) (hs : s.size ≤ 274877906944) :
    Calls Try.prog 29 #[.slice A n c, .string s] w (RB 5 w.heap.size w (l ++ vb (zz s.size) ++ s.data.toList)) := by
  have hI := u8row
  go_enter Try.func29, Try.ntmps29
  go_wp2_with (first | (go_at_call 28; refine (refPutVar_any A n c _ l B w hr (by omega) (by omega) (by omega)).mono ?_; rintro e w2 ⟨A2, n2, c2, rfl, hown2, hb2⟩; have hn2 : n2 ≤ n + 10 := (by have a1 := hown2.len; have a2 := vb_ten (zz_lt (n := (s.size : Int)) (by omega)); have a3 := hr.len; simp only [List.length_append] at a1; omega)) | (at_builtin; refine wpList_appS _ rfl _ _ 26 9 rfl w.heap.size 5 Try.underlying26 Try.underlying9 hI _ n2 _ rfl hown2 s rfl (by omega) (by have a2 := hb2.size; omega) ?_; intro A3 c3 w3 hown3 hb3))
  go_ret
  exact ⟨A3, n2 + s.size, c3, rfl, hown3, hb2.trans hb3⟩

end Go.Proofs.Ytfjdalekpmlnaaa.Oct
