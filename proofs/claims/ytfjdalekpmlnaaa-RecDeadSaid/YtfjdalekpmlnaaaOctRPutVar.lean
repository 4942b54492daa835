/- The contract of the document's PutVar. -/
import Derived.Test.YtfjdalekpmlnaaaOctRCopy
namespace Go.Proofs.Ytfjdalekpmlnaaa.Oct
open Go.RowKit

set_option maxRecDepth 100000 in
set_option maxHeartbeats 400000 in
theorem refPutVar_any (A : Option Addr) (n c : Nat) (x : Int) (l : List UInt8) (B : Nat) (w : World) (hr : Rd w B A n l) (hn : n ≤ 274877906944)
    (h1 : -9223372036854775808 ≤ x) (h2 : x ≤ 9223372036854775807) :
    Calls Try.prog 28 #[.slice A n c, .int .i64 x] w (RB 5 w.heap.size w (l ++ vb (zz x))) := by
  have hI := u8row
  have hz := zz_lt ⟨h1, h2⟩
  have hten := vb_ten hz
  have hlen := Lib.hid hr.len
  have HN := Lib.hid hn
  clear hn
  rcases (show 0 ≤ x ∨ x < 0 by omega) with hx | hx
  all_goals
    go_enter Try.func28, Try.ntmps28
    go_wp2_with (go_at_call 46; refine (Copy_any A n c l B w hr (by have := HN.out; omega)).mono ?_; rintro e w1 ⟨A0, n0, c0, rfl, hown0, hb0⟩)
    have hl0 := hown0.len
    have hb0s := hb0.size
    have HV := Lib.hid (show _ = Value.int .u64 (zz x : Int) from congrArg (Value.int .u64) (by first | exact zz_pos hx | exact zz_neg hx))
    go_loopw [6, 5] (fun v i wr => avRel w.heap.size l (zz x) w v i wr) (fun _ i _ => (intOf i).toNat)
    case atStart => exact ⟨A0, n0, c0, zz x, [], rfl, HV.out, by simpa using hown0, by simp, hz, hb0⟩
    case round =>
      obtain ⟨A1, n1, c1, u, l1, rfl, rfl, hown1, hv, hu, hb⟩ := hrel
      have hl1 : n1 ≤ n + 10 := by
        have a1 := hown1.len
        have a2 := congrArg List.length hv
        have a3 := hlen.out
        simp only [List.length_append] at a1 a2
        omega
      have hor := Lib.hid (mod128 u)
      have hbs := hb.size
      have hpos := vb_pos u
      have hV := Lib.hid hv
      have HU := Lib.hid hu
      clear hv hown0 hu hl0 hz hten h1 h2 hx
      by_cases hlt : u < 128
      · have hlow := Lib.hid (ofNat_toNat' (q := u) (by omega))
        go_wp2_with (at_builtin; refine wpList_app1 _ rfl _ _ 26 rfl w.heap.size 5 Try.underlying26 hI _ n1 _ rfl hown1 _ (UInt8.ofNat u) rfl (congrArg Nat.cast hlow.out.symm) (by have := HN.out; omega) (by omega) ?_; intro A2 c2 w2 hown2 hb2)
        go_ret
        refine ⟨A2, n1 + 1, c2, rfl, ?_, hb.trans hb2⟩
        rw [← hV.out, vb_small hlt, ← List.append_assoc]
        exact hown2
      · go_wp2_with (at_builtin; refine wpList_app1 _ rfl _ _ 26 rfl w.heap.size 5 Try.underlying26 hI _ n1 _ rfl hown1 _ _ rfl hor.out (by have := HN.out; omega) (by omega) ?_; intro A2 c2 w2 hown2 hb2)
        go_roundw
        case rel =>
          refine ⟨A2, n1 + 1, c2, u / 128, l1 ++ [UInt8.ofNat (u % 128 + 128)], rfl, congrArg (Value.int .u64) (div_u64 u 128 HU.out), ?_, ?_, Nat.lt_of_le_of_lt (Nat.div_le_self _ _) HU.out, hb.trans hb2⟩
          · rw [← List.append_assoc]; exact hown2
          · rw [← hV.out, vb_big (u := u) (by omega)]; simp
        case measure =>
          have hq : IntKind.u64.wrap ((u : Int) / 128) = ((u / 128 : Nat) : Int) := div_u64 u 128 HU.out
          simp only [intOf, hq]
          omega

end Go.Proofs.Ytfjdalekpmlnaaa.Oct
