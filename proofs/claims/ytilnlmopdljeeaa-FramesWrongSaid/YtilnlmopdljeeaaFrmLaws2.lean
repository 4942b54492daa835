/- The walks of FramesBack, FramesWrong. -/
import Derived.Test.YtilnlmopdljeeaaFrmLaws1
namespace Go.Proofs.Ytilnlmopdljeeaa.Frm
open Go.RowKit Go.Proofs.Ytilnlmopdljeeaa.Oct Go.Proofs.Ytilnlmopdljeeaa.RowF Go.Proofs.Ytilnlmopdljeeaa.RowL Go.Proofs.Ytilnlmopdljeeaa.Lay

theorem few_bound {L : List (List UInt8)} {n : Nat} (h : fewL L 0 = true) (hn : L.length = n) : n ≤ 3000 := by
  rcases fewL_small h with ⟨_, h2⟩ | h2
  · omega
  · rw [h2] at hn; simp at hn; omega
theorem gd_len (L : List (List UInt8)) : (gd L).length ≤ L.length := List.length_filter_le _ _
theorem PutB4 (A : Option Addr) (n c : Nat) (x : Nat) (l : List UInt8) (w : World) (hr : Rd w w.heap.size A n l) (hn : n ≤ 274877906944) :
    Calls Try.prog 22 #[.slice A n c, .int .u64 (x : Int), .int .i64 4] w (RB 5 w.heap.size w (l ++ beN x 4 4)) :=
  Put_yes A n c x 4 l w.heap.size w hr (Nat.le_refl _) hn (by omega) (by omega)
set_option maxRecDepth 100000 in
set_option maxHeartbeats 2000000 in
theorem framesBack_walk (A : Option Addr) (n c : Nat) (L : List (List UInt8)) (w : World) (hnc : n ≤ c) (hcap : c ≤ reach) (hR : RdL w w.heap.size A n L) :
    Calls Try.prog 6 #[.slice A n c] w fun e w' => e = .returned (.bool true) ∧ Below w.heap.size w w' := by
  have HR := Lib.hid (RowL.RdL.nest hR)
  have HS := Lib.hid (RowL.RdL.small hR)
  have hlen := (RowL.RdL.nest hR).len
  clear hR
  have hn : n ≤ 140737488351232 := Nat.le_trans hnc hcap
  rcases hz : fewL L 0 with _ | _
  · have HZ := Lib.hid hz
    clear hz hlen
    go_enter Try.func6, Try.ntmps6
    go_wp2_with (first
      | (go_at_call 11; (with_reducible refine (live_any _).mono ?_); rintro e w2 ⟨rfl, hb2⟩; have HB2 := Lib.hid hb2; clear hb2)
      | (go_at_call 19; (with_reducible refine (refFFew_is L A n c w2 (rdn_on HR.out HB2.out) hn HS.out HZ.out).mono ?_); rintro e w3 ⟨rfl, rfl⟩))
    go_ret
    exact ⟨rfl, HB2.out⟩
  · have HZ := Lib.hid hz
    have hn3 := few_bound hz hlen
    clear hz hlen
    go_enter Try.func6, Try.ntmps6
    go_wp2_with (first
      | (go_at_call 11; (with_reducible refine (live_any _).mono ?_); rintro e w2 ⟨rfl, hb2⟩; have HB2 := Lib.hid hb2; clear hb2)
      | (go_at_call 19; (with_reducible refine (refFFew_is L A n c w2 (rdn_on HR.out HB2.out) hn HS.out HZ.out).mono ?_); rintro e w3 ⟨rfl, rfl⟩)
      | (go_at_call 20; refine (framed_any A n c L w2 (rdn_on HR.out HB2.out) hn3).mono ?_; rintro e w3 ⟨A3, n3, c3, A4, n4, c4, rfl, ho3, ho4, hn4, hb3⟩; have HO3 := Lib.hid ho3; have HO4 := Lib.hid ho4; have HB3 := Lib.hid (bel_trans HB2.out hb3); clear ho3 ho4 hb3)
      | (go_at_call 14; (with_reducible refine (Split_is A4 n4 c4 _ w3 HO4.out.rd HO4.out.cap (by omega) (sp_gd L)).mono ?_); rintro e w4 ⟨A5, n5, c5, A6, n6, c6, rfl, ho5, ho6, hb4⟩; have hn6 : n6 = 0 := (by have := ho6.len; simpa using this.symm); subst hn6; have HO5 := Lib.hid ho5; have HX4 := Lib.hid hb4; have HB4 := Lib.hid (bel_trans HB3.out hb4); clear ho5 ho6 hb4)
      | (go_at_call 16; (with_reducible refine (Same_rows A3 n3 c3 A5 n5 c5 w4 (rdn_on (OwnL.rd HO3.out) HX4.out) (OwnL.rd HO5.out) (by have h1 := OwnL.len HO3.out; have h2 := gd_len L; have h3 := HR.out.len; omega)).mono ?_); rintro e w7 ⟨rfl, hb7⟩; have HB7 := Lib.hid (bel_trans HB4.out hb7); clear hb7))
    go_ret
    exact ⟨rfl, HB7.out⟩
set_option maxRecDepth 100000 in
set_option maxHeartbeats 4000000 in
theorem framesWrong_walk (A : Option Addr) (n c : Nat) (L : List (List UInt8)) (h : Nat) (A' : Option Addr) (n' c' : Nat) (l' : List UInt8) (w : World) (hnc : n ≤ c) (hcap : c ≤ reach) (hR : RdL w w.heap.size A n L) (hh : h < 4294967296) (hr' : Rd w w.heap.size A' n' l') (_hnc' : n' ≤ c') :
    Calls Try.prog 9 #[.slice A n c, .int .u32 (h : Int), .slice A' n' c'] w fun e w' => e = .returned (.bool true) ∧ Below w.heap.size w w' := by
  have HR := Lib.hid (RowL.RdL.nest hR)
  have HR' := Lib.hid hr'
  have HS := Lib.hid (RowL.RdL.small hR)
  have hlen := (RowL.RdL.nest hR).len
  clear hR hr'
  have hn : n ≤ 140737488351232 := Nat.le_trans hnc hcap
  have hI := u8row
  rcases hz : fewL L 0 with _ | _
  · have HZ := Lib.hid hz
    clear hz hlen
    go_enter Try.func9, Try.ntmps9
    go_wp2_with (first
      | (go_at_call 11; (with_reducible refine (live_any _).mono ?_); rintro e w2 ⟨rfl, hb2⟩; have HB2 := Lib.hid hb2; clear hb2)
      | (go_at_call 19; (with_reducible refine (refFFew_is L A n c w2 (rdn_on HR.out HB2.out) hn HS.out HZ.out).mono ?_); rintro e w3 ⟨rfl, rfl⟩))
    go_ret
    exact ⟨rfl, HB2.out⟩
  · have HZ := Lib.hid hz
    have hn3 := few_bound hz hlen
    clear hz hlen
    by_cases hbig : 3000 < n' ∨ (1 ≤ h ∧ h ≤ 4096)
    · go_enter Try.func9, Try.ntmps9
      go_wp2_with (first
        | (go_at_call 11; (with_reducible refine (live_any _).mono ?_); rintro e w2 ⟨rfl, hb2⟩; have HB2 := Lib.hid hb2; clear hb2; rcases hbig with hbig | ⟨hbig, hbig2⟩)
        | (go_at_call 19; (with_reducible refine (refFFew_is L A n c w2 (rdn_on HR.out HB2.out) hn HS.out HZ.out).mono ?_); rintro e w3 ⟨rfl, rfl⟩))
      all_goals go_ret
      all_goals exact ⟨rfl, HB2.out⟩
    · have hn'3 : n' ≤ 3000 := by omega
      have hout : h < 1 ∨ 4096 < h := by omega
      have HW := Lib.hid (sp_gd_head L hh hout l')
      have hl' := HR'.out.len
      clear hbig
      rcases hout with hlow | hhigh
      all_goals
        go_enter Try.func9, Try.ntmps9
        go_wp2_with (first
          | (go_at_call 11; (with_reducible refine (live_any _).mono ?_); rintro e w2 ⟨rfl, hb2⟩; have HB2 := Lib.hid hb2; clear hb2)
          | (go_at_call 19; (with_reducible refine (refFFew_is L A n c w2 (rdn_on HR.out HB2.out) hn HS.out HZ.out).mono ?_); rintro e w3 ⟨rfl, rfl⟩)
          | (go_at_call 20; refine (framed_any A n c L w2 (rdn_on HR.out HB2.out) hn3).mono ?_; rintro e w3 ⟨A3, n3, c3, A4, n4, c4, rfl, ho3, ho4, hn4, hb3⟩; have HO3 := Lib.hid ho3; have HO4 := Lib.hid ho4; have HB3 := Lib.hid (bel_trans HB2.out hb3); clear ho3 ho4 hb3)
          | (go_at_call 22; (with_reducible refine (Put4 h w10).mono ?_); rintro e w11 ⟨A11, n11, c11, rfl, ho11, hb11⟩; have hn11 : n11 ≤ 4 := (by have h9 := ho11.len; rw [beN_length] at h9; omega); have HO11 := Lib.hid ho11; have hs11 := hb11.size; have HX11 := Lib.hid (bel_trans HX10.out hb11); have HB11 := Lib.hid (bel_trans HB10.out hb11); clear ho11 hb11)
          | (go_at_call 22; (with_reducible refine (PutB4 A4 n4 c4 h _ w7 (rd_on HO4.out.rd HX7.out) (by omega)).mono ?_); rintro e w8 ⟨A8, n8, c8, rfl, ho8, hb8⟩; have hn8 : n8 ≤ 12300004 := (by have h9 := ho8.len; rw [List.length_append, beN_length, OwnB.len HO4.out] at h9; omega); have HO8 := Lib.hid ho8; have HX8 := Lib.hid (bel_trans HX7.out hb8); have HB8 := Lib.hid (bel_trans HB7.out hb8); have hs8 := hb8.size; clear ho8 hb8)
          | (at_builtin; refine wpList_appB w11 rfl _ _ 22 rfl w10.heap.size 5 Try.underlying22 hI _ n11 _ rfl HO11.out _ A' n' c' l' rfl (rd_on HR'.out HB11.out) (by omega) hs11 ?_; intro A12 c12 w12 hown12 hb12; have HO12 := Lib.hid hown12; have HX12 := Lib.hid (HX11.out.trans (hb12.mono (by have := HX10.out.size; omega))); have HB12 := Lib.hid (HB11.out.trans (hb12.mono (by have := HB10.out.size; omega))); clear hown12 hb12)
          | (at_builtin; refine wpList_appB w8 rfl _ _ 22 rfl w7.heap.size 5 Try.underlying22 hI _ n8 _ rfl HO8.out _ A' n' c' l' rfl (rd_on HR'.out HB8.out) (by omega) hs8 ?_; intro A9 c9 w9 hown9 hb9; have HO9 := Lib.hid hown9; have HX9 := Lib.hid (HX8.out.trans (hb9.mono (by have := HX7.out.size; omega))); have HB9 := Lib.hid (HB8.out.trans (hb9.mono (by have := HB7.out.size; omega))); clear hown9 hb9)
          | (go_at_call 14; (with_reducible refine (Split_is A9 (n8 + n') c9 _ w9 HO9.out.rd HO9.out.cap (by omega) ((congrArg sp (List.append_assoc _ _ _)).trans HW.out)).mono ?_); rintro e w10 ⟨A10, n10, c10, A13, n13, c13, rfl, _, _, hb10⟩; have HX10 := Lib.hid (bel_trans HX9.out hb10); have HB10 := Lib.hid (bel_trans HB9.out hb10); have hs10 := HX10.out.size; clear hb10)
          | (go_at_call 14; (with_reducible refine (Split_is A4 n4 c4 _ w3 HO4.out.rd HO4.out.cap (by omega) (sp_gd L)).mono ?_); rintro e w4 ⟨A5, n5, c5, A6, n6, c6, rfl, ho5, ho6, hb4⟩; have hn6 : n6 = 0 := (by have := ho6.len; simpa using this.symm); subst hn6; have HO5 := Lib.hid ho5; have HX4 := Lib.hid hb4; have HB4 := Lib.hid (bel_trans HB3.out hb4); clear ho5 ho6 hb4)
          | (go_at_call 17; (with_reducible refine (Feed_is A4 n4 c4 _ A12 (n11 + n') c12 _ w12 (rd_on HO4.out.rd HX12.out) HO4.out.cap HO12.out.rd HO12.out.cap (by omega) HW.out).mono ?_); rintro e w14 ⟨A14, n14, c14, A15, n15, c15, rfl, _, _, hb14⟩; have HB14 := Lib.hid (bel_trans HB12.out hb14); clear hb14)
          | (go_at_call 16; (with_reducible refine (Same_rows A3 n3 c3 A5 n5 c5 w4 (rdn_on (OwnL.rd HO3.out) HX4.out) (OwnL.rd HO5.out) (by have h1 := OwnL.len HO3.out; have h2 := gd_len L; have h3 := HR.out.len; omega)).mono ?_); rintro e w7 ⟨rfl, hb7⟩; have HX7 := Lib.hid (bel_trans HX4.out hb7); have HB7 := Lib.hid (bel_trans HB4.out hb7); clear hb7))
        go_ret
        exact ⟨rfl, HB14.out⟩
end Go.Proofs.Ytilnlmopdljeeaa.Frm
