/- The walk of FramesRest. -/
import Derived.Test.YtilnlmopdljeeaaFrmLaws2
import Derived.Test.YtilnlmopdljeeaaOctFGet
namespace Go.Proofs.Ytilnlmopdljeeaa.Frm
open Go.RowKit Go.Proofs.Ytilnlmopdljeeaa.Oct Go.Proofs.Ytilnlmopdljeeaa.RowF Go.Proofs.Ytilnlmopdljeeaa.RowL Go.Proofs.Ytilnlmopdljeeaa.Lay

set_option maxRecDepth 100000 in
set_option maxHeartbeats 4000000 in
theorem framesRest_walk (A : Option Addr) (n c : Nat) (l : List UInt8) (w : World) (hr : Rd w w.heap.size A n l) (hnc : n ≤ c) :
    Calls Try.prog 8 #[.slice A n c] w fun e w' => e = .returned (.bool true) ∧ Below w.heap.size w w' := by
  have HR := Lib.hid hr
  have hlen := hr.len
  clear hr
  by_cases hbig : 3000 < n
  · go_enter Try.func8, Try.ntmps8
    go_wp2_with (first
      | (go_at_call 11; (with_reducible refine (live_any _).mono ?_); rintro e w2 ⟨rfl, hb2⟩; have HB2 := Lib.hid hb2; clear hb2))
    go_ret
    exact ⟨rfl, HB2.out⟩
  by_cases hbad : (sp l).2.2 = 0
  · obtain ⟨h1, h2, h3⟩ := sp_rest hbad
    obtain ⟨s1, s2, s3⟩ := sp_size l
    rcases hp : sp l with ⟨x, y, z⟩
    rw [hp] at hbad h1 h2 h3 s1 s2 s3
    simp only at hbad h1 h2 h3 s1 s2 s3
    subst hbad
    have hgd := gd_all h1
    have HP := Lib.hid hp
    have HC := Lib.hid h2
    have HGD := Lib.hid hgd
    have hcat : (ByteArray.mk (frs x).toArray) ++ (ByteArray.mk y.toArray) = ByteArray.mk l.toArray := by
      rw [← h2]
      apply ByteArray.ext
      simp
    have hsum : (frs x).length + y.length ≤ 3000 := by rw [← List.length_append, h2]; omega
    clear hp h1 h2 hgd
    rcases h3 with h3 | ⟨h3, h4, h5⟩
    · go_enter Try.func8, Try.ntmps8
      go_wp2_with (first
        | (go_at_call 11; (with_reducible refine (live_any _).mono ?_); rintro e w2 ⟨rfl, hb2⟩; have HB2 := Lib.hid hb2; clear hb2)
        | (go_at_call 14; (with_reducible refine (Split_is A n c l w2 (rd_on HR.out HB2.out) hnc (by omega) HP.out).mono ?_); rintro e w3 ⟨A3, n3, c3, A5, n5, c5, rfl, ho3, ho5, hb3⟩; have hn3 : n3 ≤ 3000 := (by have h9 := OwnL.len ho3; omega); have hn5 : n5 < 4 := (by have h9 := ho5.len; omega); have HO3 := Lib.hid ho3; have HO5 := Lib.hid ho5; have HB3 := Lib.hid (bel_trans HB2.out hb3); clear ho3 ho5 hb3)
        | (go_at_call 20; refine (framed_any A3 n3 c3 x w3 (OwnL.rd HO3.out) hn3).mono ?_; unfold RG; rw [HGD.out]; rintro e w4 ⟨A6, n6, c6, A7, n7, c7, rfl, ho6, ho7, hn7, hb4⟩; have hnn : n6 = n3 := ((OwnL.len ho6).symm.trans (OwnL.len HO3.out)); subst hnn; have HO7 := Lib.hid ho7; have HX4 := Lib.hid hb4; have HB4 := Lib.hid (bel_trans HB3.out hb4); have r1 := str_of w4 _ A7 n7 c7 _ ho7.rd; have r2 := str_of w4 _ A5 n5 c5 y (HO5.out.rd.below hb4 (Nat.le_refl _)); have r3 := str_of w4 _ A n c l (rd_on HR.out HB4.out); clear ho6 ho7 hb4))
      go_ret
      exact ⟨rfl, HB4.out⟩
    · have HG := Lib.hid (show gt y 0 4 = (nm y, 0) by
        unfold gt
        rw [if_neg (by simp [isW]), if_neg (by simp [hasB]; omega)]
        rfl)
      obtain ⟨m, hm⟩ : ∃ m, m = nm y := ⟨_, rfl⟩
      rw [← hm] at h4 h5 HG
      clear hm
      go_enter Try.func8, Try.ntmps8
      go_wp2_with (first
        | (go_at_call 11; (with_reducible refine (live_any _).mono ?_); rintro e w2 ⟨rfl, hb2⟩; have HB2 := Lib.hid hb2; clear hb2)
        | (go_at_call 14; (with_reducible refine (Split_is A n c l w2 (rd_on HR.out HB2.out) hnc (by omega) HP.out).mono ?_); rintro e w3 ⟨A3, n3, c3, A5, n5, c5, rfl, ho3, ho5, hb3⟩; have hn3 : n3 ≤ 3000 := (by have h9 := OwnL.len ho3; omega); have hn5 : 4 ≤ n5 ∧ n5 < 4 + m := (by have h9 := ho5.len; omega); have HO3 := Lib.hid ho3; have HO5 := Lib.hid ho5; have HB3 := Lib.hid (bel_trans HB2.out hb3); clear ho3 ho5 hb3)
        | (go_at_call 20; refine (framed_any A3 n3 c3 x w3 (OwnL.rd HO3.out) hn3).mono ?_; unfold RG; rw [HGD.out]; rintro e w4 ⟨A6, n6, c6, A7, n7, c7, rfl, ho6, ho7, hn7, hb4⟩; have hnn : n6 = n3 := ((OwnL.len ho6).symm.trans (OwnL.len HO3.out)); subst hnn; have HO7 := Lib.hid ho7; have HX4 := Lib.hid hb4; have HB4 := Lib.hid (bel_trans HB3.out hb4); have r1 := str_of w4 _ A7 n7 c7 _ ho7.rd; have r2 := str_of w4 _ A5 n5 c5 y (HO5.out.rd.below hb4 (Nat.le_refl _)); have r3 := str_of w4 _ A n c l (rd_on HR.out HB4.out); clear ho6 ho7 hb4)
        | (go_at_call 21; (with_reducible refine (Get_is A5 n5 c5 0 4 y w4.heap.size w4 (rd_on HO5.out.rd HX4.out) HO5.out.cap (by omega) HG.out).mono ?_); rintro e w9 ⟨rfl, rfl⟩))
      all_goals go_ret
      all_goals exact ⟨ret_bool (decide_eq_true (show (n5 : Int) - 4 < (m : Int) by omega)), HB4.out⟩
  · have HP := Lib.hid (sp_err hbad)
    clear hbad
    go_enter Try.func8, Try.ntmps8
    go_wp2_with (first
      | (go_at_call 11; (with_reducible refine (live_any _).mono ?_); rintro e w2 ⟨rfl, hb2⟩; have HB2 := Lib.hid hb2; clear hb2)
      | (go_at_call 14; (with_reducible refine (Split_is A n c l w2 (rd_on HR.out HB2.out) hnc (by omega) HP.out).mono ?_); rintro e w3 ⟨A3, n3, c3, A5, n5, c5, rfl, ho3, ho5, hb3⟩; have HB3 := Lib.hid (bel_trans HB2.out hb3); clear ho3 ho5 hb3))
    go_ret
    exact ⟨rfl, HB3.out⟩
end Go.Proofs.Ytilnlmopdljeeaa.Frm
