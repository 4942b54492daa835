/- The walk of FramesStream. -/
import Derived.Test.YtilnlmopdljeeaaFrmLaws2
namespace Go.Proofs.Ytilnlmopdljeeaa.Frm
open Go.RowKit Go.Proofs.Ytilnlmopdljeeaa.Oct Go.Proofs.Ytilnlmopdljeeaa.RowF Go.Proofs.Ytilnlmopdljeeaa.RowL Go.Proofs.Ytilnlmopdljeeaa.Lay

theorem spans_pick {w : World} {Bx : Nat} {A : Option Addr} {cs : List Int} {m n k p : Nat} (hR : RdL w Bx A m cs) (hk : k ≤ m) (hp : p ≤ n) (_hn : n ≤ 3000) : ∃ q : Nat, p ≤ q ∧ q ≤ n ∧ (k = m → q = n) ∧
    ((m ≤ k ∧ q = n) ∨ (∃ b o, ∃ x : Int, A = some ⟨b, o, none⟩ ∧ b < Bx ∧ k < m ∧ w.cell? ⟨b, o + k, none⟩ = some (.int .i64 x) ∧ x < p ∧ q = n) ∨
      (∃ b o, ∃ x : Int, A = some ⟨b, o, none⟩ ∧ b < Bx ∧ k < m ∧ w.cell? ⟨b, o + k, none⟩ = some (.int .i64 x) ∧ (p : Int) ≤ x ∧ (n : Int) < x ∧ q = n) ∨
      (∃ b o, A = some ⟨b, o, none⟩ ∧ b < Bx ∧ k < m ∧ w.cell? ⟨b, o + k, none⟩ = some (.int .i64 (q : Int)))) := by
  by_cases h1 : k < m
  · obtain ⟨b, o, x, hA, hb, hx, hi, hc⟩ := RowL.RdL.num hR h1
    by_cases h2 : x < p
    · exact ⟨n, hp, Nat.le_refl _, fun _ => rfl, .inr (.inl ⟨b, o, x, hA, hb, h1, hc, h2, rfl⟩)⟩
    · by_cases h3 : (n : Int) < x
      · exact ⟨n, hp, Nat.le_refl _, fun _ => rfl, .inr (.inr (.inl ⟨b, o, x, hA, hb, h1, hc, by omega, h3, rfl⟩))⟩
      · obtain ⟨q, rfl⟩ : ∃ q : Nat, x = (q : Int) := ⟨x.toNat, by omega⟩
        exact ⟨q, by omega, by omega, fun h => by omega, .inr (.inr (.inr ⟨b, o, hA, hb, h1, hc⟩))⟩
  · exact ⟨n, hp, Nat.le_refl _, fun _ => rfl, .inl ⟨by omega, rfl⟩⟩
theorem leads_own {w : World} {P P' : Nat → Prop} {row row' : Option Nat} {hs : List (Option Addr × Nat × Nat)} {L : List (List UInt8)} (h : Leads w P row hs L) (hP : ∀ b, P b → P' b ∧ some b ≠ row') : Leads w P' row' hs L :=
  ⟨h.1, fun i x l hx hl => ⟨(h.2 i x l hx hl).1, (h.2 i x l hx hl).2.1, fun a ha hn => hP _ ((h.2 i x l hx hl).2.2 a ha hn).1⟩⟩
set_option maxRecDepth 100000 in
set_option maxHeartbeats 8000000 in
theorem framesStream_walk (A : Option Addr) (n c : Nat) (l : List UInt8) (A' : Option Addr) (m c' : Nat) (cs : List Int) (w : World) (hr : Rd w w.heap.size A n l) (hnc : n ≤ c) (hnc' : m ≤ c') (hcap' : c' ≤ reach) (hR' : RdL w w.heap.size A' m cs) :
    Calls Try.prog 7 #[.slice A n c, .slice A' m c'] w fun e w' => e = .returned (.bool true) ∧ Below w.heap.size w w' := by
  have HR := Lib.hid hr
  have HR' := Lib.hid hR'
  have hlen := hr.len
  have hI := u8row
  have hm47 : m ≤ 140737488351232 := Nat.le_trans hnc' hcap'
  clear hr hR' hnc' hcap'
  by_cases hbig : 3000 < n
  · go_enter Try.func7, Try.ntmps7
    go_wp2_with (first
      | (go_at_call 11; (with_reducible refine (live_any _).mono ?_); rintro e w2 ⟨rfl, hb2⟩; have HB2 := Lib.hid hb2; clear hb2))
    all_goals go_ret
    all_goals exact ⟨rfl, HB2.out⟩
  by_cases hbig2 : 60 < m
  · go_enter Try.func7, Try.ntmps7
    go_wp2_with (first
      | (go_at_call 11; (with_reducible refine (live_any _).mono ?_); rintro e w2 ⟨rfl, hb2⟩; have HB2 := Lib.hid hb2; clear hb2))
    all_goals go_ret
    all_goals exact ⟨rfl, HB2.out⟩
  by_cases hbad : (sp l).2.2 = 0
  · have HOK := Lib.hid hbad
    obtain ⟨s1, s2, s3⟩ := sp_size l
    have HP := Lib.hid (show sp l = ((sp l).1, (sp l).2.1, 0) by rw [← hbad])
    clear hbad
    go_enter Try.func7, Try.ntmps7
    go_wp2_with (first
      | (go_at_call 11; (with_reducible refine (live_any _).mono ?_); rintro e w2 ⟨rfl, hb2⟩; have HB2 := Lib.hid hb2; clear hb2)
      | (go_at_call 14; (with_reducible refine (Split_is A n c l w2 (rd_on HR.out HB2.out) hnc (by omega) HP.out).mono ?_); rintro e w3 ⟨A3, n3, c3, A5, n5, c5, rfl, ho3, ho5, hb3⟩; have HO3 := Lib.hid ho3; have HO5 := Lib.hid ho5; have HB3 := Lib.hid (bel_trans HB2.out hb3); have HR3 := Lib.hid (rd_on HR.out HB3.out); clear ho3 ho5 hb3))
    go_loopw [9, 10, 11, 12] (fun vg vh vat i wr => stRel 5 22 l n m w3 vg vh vat i wr) (fun _ _ _ i _ => m + 1 - (intOf i).toNat)
    case atStart => exact stRel_start _ _ _ _ _ _
    case round =>
      obtain ⟨k, p, A6, n6, c6, A7, n7, c7, rfl, hk, rfl, hp, hlast, rfl, rfl, hg, hh, ha, hb⟩ := hrel
      have HG := Lib.hid hg
      have HH := Lib.hid hh
      have HA := Lib.hid ha
      have HBL := Lib.hid hb
      have hsz := hb.size
      have HB4 := Lib.hid (bel_trans HB3.out hb)
      have HRW := Lib.hid (rd_on HR3.out hb)
      have hcap7 := hh.cap
      have hn7 : n7 ≤ 3000 := by have h9 := hh.len; have h8 := (sp_size (l.take p)).2.1; rw [List.length_take] at h8; omega
      clear hg hh ha hb
      by_cases hle : k ≤ m
      · obtain ⟨q, hpq, hqn, hql, hcase⟩ := spans_pick (((HR'.out.below HB4.out (Nat.le_refl _)).more HB4.out.size)) hle hp (by omega)
        obtain ⟨t1, t2, t3⟩ := sp_piece HOK.out hpq
        have HT := Lib.hid t3
        have hsq := sp_size (l.take q)
        rw [List.length_take] at hsq
        rcases hx : sp ((sp (l.take p)).2.1 ++ (l.drop p).take (q - p)) with ⟨x, y, z⟩
        rw [hx] at t2 t3
        simp only at t2 t3
        subst t2
        have HX := Lib.hid hx
        have HSQ := Lib.hid t3
        have hq1 : (sp (l.take p)).1.length + x.length ≤ 3000 := by have h9 := hsq.1; rw [t3] at h9; simp only [List.length_append] at h9; omega
        rw [OwnL.len HG.out] at hq1
        have HPC := Lib.hid (show ∀ A' : Option Addr, (0 < q - p → A' = A.map fun a => a.add p) → Rd wr wr.heap.size A' (q - p) ((l.drop p).take (q - p)) from fun A' hA => HRW.out.cut (i := p) (m := q - p) (by omega) A' hA)
        have HGL := Lib.hid (fun g h => (OwnL.lt HG.out g h))
        clear t1 t3 HT hsq hx s1 s2 s3
        rcases hcase with ⟨hc1, rfl⟩ | ⟨b, o, x0, rfl, hbx, hkm, hcell, hc1, rfl⟩ | ⟨b, o, x0, rfl, hbx, hkm, hcell, hc1, hc2, rfl⟩ | ⟨b, o, rfl, hbx, hkm, hcell⟩
        all_goals
          go_wp2_with (first
            | (go_at_call 17; generalize hA9 : (if c = p then A else Option.map (fun x => x.add p) A) = A9; (with_reducible refine (Feed_is A7 n7 c7 _ A9 (q - p) (c - p) _ wr HH.out.rd hcap7 (HPC.out A9 (by intro h0; rw [← hA9, if_neg (by omega)])) (by omega) (by omega) HX.out).mono ?_); clear hA9; rintro e w5 ⟨A8, n8, c8, A10, n10, c10, rfl, ho8, ho10, hb5⟩; have hn8 : n6 + n8 ≤ 3000 := (by have h9 := OwnL.len ho8; omega); have HO8 := Lib.hid ho8; have HO10 := Lib.hid ho10; have HW5 := Lib.hid hb5; have hs5 := hb5.size; clear ho8 ho10 hb5)
            | (at_builtin; obtain ⟨hs8, hq8, hl8⟩ := HO8.out; refine wpList_appL w5 rfl _ _ 28 rfl 24 w3.heap.size 22 Try.underlying28 slInfo (.slice A6 n6 c6) n6 _ rfl (HG.out.below HW5.out) w5.heap.size A8 n8 c8 hs8 x rfl (OwnF.rd hS hq8) (leads_own hl8 (fun b hb => ⟨Nat.le_trans hsz hb, fun he => absurd (HGL.out b he.symm).2 (by omega)⟩)) (by omega) (by omega) (by omega) ?_; intro A11 c11 w11 hL11 hg11 hat11 hb11; have HL11 := Lib.hid hL11; have HB11 := Lib.hid ((HBL.out.trans (HW5.out.mono hsz)).trans hb11); have HR11 := Lib.hid (own_far HO10.out (show Apart (.slice A6 n6 c6) (.slice A10 n10 c10) from fun g h1 h2 => absurd (World.ownsRow.lt HO10.out g h2).1 (by have := (HGL.out g h1).2; omega)) hg11); have HA11 := Lib.hid (apart_after HO10.out (show Apart (.slice A6 n6 c6) (.slice A10 n10 c10) from fun g h1 h2 => absurd (World.ownsRow.lt HO10.out g h2).1 (by have := (HGL.out g h1).2; omega)) hat11); clear hq8 hl8 hL11 hg11 hat11 hb11))
        all_goals
          go_roundw
          case rel => exact ⟨k + 1, q, A11, n6 + n8, c11, A10, n10, c10, by go_num, by omega, rfl, by omega, fun h9 => by first | rfl | exact hql (by omega), rfl, rfl, by rw [HSQ.out]; exact HL11.out, by rw [HSQ.out]; exact OwnB.more HR11.out hsz, HA11.out, HB11.out⟩
          case measure => simp [intOf]; omega
      · have hkm : k = m + 1 := by omega
        have hpn : p = n := hlast hkm
        subst hpn
        have htk : l.take p = l := List.take_of_length_le (by omega)
        rw [htk] at HG HH
        clear htk hlast
        have hn6 : n6 ≤ 3000 := by have h9 := OwnL.len HG.out; omega
        go_wp2_with (go_at_call 16; (with_reducible refine (Same_rows A6 n6 c6 A3 n3 c3 wr (OwnL.rd HG.out) (rdn_on (OwnL.rd HO3.out) HBL.out) (by omega)).mono ?_); rintro e w7 ⟨rfl, hb7⟩; have HB7 := Lib.hid (bel_trans HB4.out hb7); have r1 := str_of w7 _ A7 n7 c7 _ (HH.out.rd.below hb7 (Nat.le_refl _)); have r2 := str_of w7 _ A5 n5 c5 _ (HO5.out.rd.below (bel_trans HBL.out hb7) (Nat.le_refl _)); clear hb7)
        all_goals go_ret
        all_goals exact ⟨rfl, HB7.out⟩
  · have HP := Lib.hid (sp_err hbad)
    clear hbad
    go_enter Try.func7, Try.ntmps7
    go_wp2_with (first
      | (go_at_call 11; (with_reducible refine (live_any _).mono ?_); rintro e w2 ⟨rfl, hb2⟩; have HB2 := Lib.hid hb2; clear hb2)
      | (go_at_call 14; (with_reducible refine (Split_is A n c l w2 (rd_on HR.out HB2.out) hnc (by omega) HP.out).mono ?_); rintro e w3 ⟨A3, n3, c3, A5, n5, c5, rfl, ho3, ho5, hb3⟩; have hn3 : n3 = 0 := (by have h9 := OwnL.len ho3; simpa using h9.symm); have hn5 : n5 = 0 := (by have h9 := ho5.len; simpa using h9.symm); subst hn3; subst hn5; have HB3 := Lib.hid (bel_trans HB2.out hb3); clear ho3 ho5 hb3))
    all_goals go_ret
    all_goals exact ⟨rfl, HB3.out⟩
end Go.Proofs.Ytilnlmopdljeeaa.Frm
