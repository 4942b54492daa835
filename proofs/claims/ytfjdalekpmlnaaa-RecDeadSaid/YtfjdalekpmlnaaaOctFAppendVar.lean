/- The contract of octet.AppendVar. -/
import Derived.Test.YtfjdalekpmlnaaaOctFFold
namespace Go.Proofs.Ytfjdalekpmlnaaa.Oct
open Go.RowKit

set_option maxRecDepth 100000 in
set_option maxHeartbeats 400000 in
theorem appendVar_any (A : Option Addr) (n c : Nat) (x : Int) (l : List UInt8) (base : Nat) (w : World) (hown : OwnB w 5 base (.slice A n c) n l) (hbase : base ≤ w.heap.size) (hn : n ≤ 1099511620000)
    (h1 : -9223372036854775808 ≤ x) (h2 : x ≤ 9223372036854775807) :
    Calls Try.prog 43 #[.slice A n c, .int .i64 x] w (RB 5 base w (l ++ vb (zz x))) := by
  have hI := u8row
  have hz := zz_lt ⟨h1, h2⟩
  have hten := vb_ten hz
  have hlen := Lib.hid hown.len
  have HN := Lib.hid hn
  clear hn
  go_enter Try.func43, Try.ntmps43
  go_wp2_with (go_at_call 50; refine (fold_any _ _ h1 h2).mono ?_; rintro e w1 ⟨rfl, rfl⟩)
  obtain ⟨z, hzz⟩ : ∃ z, z = zz x := ⟨_, rfl⟩
  rw [← hzz] at hz hten ⊢
  have HZ := Lib.hid hz
  have HZZ := Lib.hid hzz
  clear hzz h1 h2 hz
  go_loopw [0, 5] (fun v i wr => avRel base l z w v i wr)
    (fun _ i _ => (intOf i).toNat)
  case atStart => exact ⟨A, n, c, z, [], rfl, rfl, by simpa using hown, by simp, HZ.out, Below.refl _ _⟩
  case round =>
    obtain ⟨A1, n1, c1, u, l1, rfl, rfl, hown1, hv, hu, hb⟩ := hrel
    have hl1 : n1 ≤ n + 10 := by
      have a1 := hown1.len
      have a2 := congrArg List.length hv
      have a3 := hlen.out
      simp only [List.length_append] at a1 a2
      omega
    have hor := Lib.hid (or128 u)
    have hbs := hb.size
    have hpos := vb_pos u
    have hV := Lib.hid hv
    have HU := Lib.hid hu
    clear hv hown hu
    by_cases hlt : u < 128
    · have hlow := Lib.hid (ofNat_toNat' (q := u) (by omega))
      go_wp2_with (at_builtin; refine wpList_app1 _ rfl _ _ 26 rfl base 5 Try.underlying26 hI _ n1 _ rfl hown1 _ (UInt8.ofNat u) rfl (congrArg Nat.cast hlow.out.symm) (by have := HN.out; omega) (by omega) ?_; intro A2 c2 w2 hown2 hb2)
      go_ret
      refine ⟨A2, n1 + 1, c2, rfl, ?_, hb.trans hb2⟩
      try rw [← HZZ.out]
      rw [← hV.out, vb_small hlt, ← List.append_assoc]
      exact hown2
    · go_wp2_with (at_builtin; refine wpList_app1 _ rfl _ _ 26 rfl base 5 Try.underlying26 hI _ n1 _ rfl hown1 _ _ rfl hor.out (by have := HN.out; omega) (by omega) ?_; intro A2 c2 w2 hown2 hb2)
      go_roundw
      case rel =>
        refine ⟨A2, n1 + 1, c2, u / 128, l1 ++ [UInt8.ofNat (u % 128 + 128)], rfl, by go_num, ?_, ?_, Nat.lt_of_le_of_lt (Nat.div_le_self _ _) HU.out, hb.trans hb2⟩
        · rw [← List.append_assoc]; exact hown2
        · rw [← hV.out, vb_big (u := u) (by omega)]; simp
      case measure => simp [intOf]; omega

end Go.Proofs.Ytfjdalekpmlnaaa.Oct
