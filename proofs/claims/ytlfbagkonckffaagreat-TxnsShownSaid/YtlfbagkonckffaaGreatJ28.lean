/- Joined: BatDevWr, CrcSum, OctFHas, OctFGet, CrcDev, BatDevK. -/
import Derived.Test.YtlfbagkonckffaaGreatJ27
import Derived.Test.YtlfbagkonckffaaGreatJ23
import Derived.Deep.RegionLaw
import Derived.Deep.DeepCutAuto
import Derived.Test.YtlfbagkonckffaaGreatJ14
import Derived.RegionTactic
import Derived.Test.YtlfbagkonckffaaGreatJ07
import Derived.Test.YtlfbagkonckffaaGreatJ22
import Derived.Lib.LazyBuf
import Derived.Test.YtlfbagkonckffaaGreatJ24
/- The contract of the landed write: a batch's body. -/
namespace Go.Proofs.YtlfbagkonckffaaGreat.Bat
open Go.RowKit Oct Rec Crc Lay RowF

def wrRel (e : TypeId) (g X B : Nat) (b : Bt) (v : Value) (pre : List UInt8) (st : Int) (n : Nat) (w : World) (i : Value) (wr : World) : Prop :=
  ∃ (k m : Nat) (A : Option Addr) (c : Nat), i = .int .i64 (k : Int) ∧ k ≤ n ∧ OwnB wr e B (.slice A m c) m (pre ++ rs b.base st (b.recs.take k)) ∧ wr.cell? ⟨X, 0, none⟩ = some (.slice A m c) ∧ wr.frozen? ⟨X, 0, none⟩ = false ∧ BoxB wr g b v ∧ Below g w wr ∧ B ≤ wr.heap.size
set_option maxRecDepth 100000 in
set_option maxHeartbeats 8000000 in
theorem write_any (ba la fr ep pi ge se : Int) (tx : Bool) (ct : Int) (rs0 : List Rc) (A : Option Addr) (n c : Nat) (w : World) (hF : Form ⟨ba, la, fr, ep, pi, ge, se, tx, ct, rs0⟩) (hr : RdR w w.heap.size A n rs0) :
    Calls Tryz.prog 94 #[.agg #[.int .i64 ba, .int .i64 la, .int .i64 fr, .int .i64 ep, .int .i64 pi, .int .i64 ge, .int .i64 se, .bool tx, .int .i64 ct, .slice A n c]] w (RB 5 w.heap.size w (body ⟨ba, la, fr, ep, pi, ge, se, tx, ct, rs0⟩)) := by
  have hI := u8row
  obtain ⟨BD, hBD⟩ : ∃ l, body ⟨ba, la, fr, ep, pi, ge, se, tx, ct, rs0⟩ = l := ⟨_, rfl⟩
  rw [hBD]
  have HBD := Lib.hid hBD
  clear hBD
  have hbox := boxB_new w 28 ⟨ba, la, fr, ep, pi, ge, se, tx, ct, rs0⟩ (.slice A n c)
  have hfz : (w.alloc (.cells #[.int .i64 ba, .int .i64 la, .int .i64 fr, .int .i64 ep, .int .i64 pi, .int .i64 ge, .int .i64 se, .bool tx, .int .i64 ct, .slice A n c] 28)).frozen? ⟨w.heap.size, 1, none⟩ = false := by simp [go_sem]
  have hb1 := bel_alloc (Below.refl w.heap.size w) (.cells #[.int .i64 ba, .int .i64 la, .int .i64 fr, .int .i64 ep, .int .i64 pi, .int .i64 ge, .int .i64 se, .bool tx, .int .i64 ct, .slice A n c] 28)
  have hs1 : (w.alloc (.cells #[.int .i64 ba, .int .i64 la, .int .i64 fr, .int .i64 ep, .int .i64 pi, .int .i64 ge, .int .i64 se, .bool tx, .int .i64 ct, .slice A n c] 28)).heap.size = w.heap.size + 1 := by simp
  have HE := Lib.hid (fun (w1 : World) (hb : BoxB w1 w.heap.size ⟨ba, la, fr, ep, pi, ge, se, tx, ct, rs0⟩ (.slice A n c)) (hz : w1.frozen? ⟨w.heap.size, 1, none⟩ = false) (hs : w1.heap.size = w.heap.size + 1) =>
    wrEach (w1.alloc (.cells #[.slice none 0 0] 94)) w.heap.size (w.heap.size + 1) ⟨ba, la, fr, ep, pi, ge, se, tx, ct, rs0⟩ (.slice A n c) (hb.below (bel_alloc (Below.refl _ _) _) (by omega)) ((World.frozen?_alloc_past _ _ _ (by show w.heap.size < w1.heap.size; omega)).trans hz) (by rw [← hs]; simp [go_sem]) (by rw [← hs]; simp [go_sem]) (by omega) (by simp; omega) hF)
  have HF := Lib.hid hF
  have HR := Lib.hid hr
  have HBX := Lib.hid hbox
  have HFZ := Lib.hid hfz
  have HB1 := Lib.hid hb1
  have hn16 := hF.few
  have hlen := hr.len
  have hn : n ≤ 16 := by simp only at hn16; omega
  have hct0 := hF.ctl0
  have hct2 := hF.ctl1
  simp only at hct0 hct2
  clear hF hr hbox hfz hb1 hn16
  go_enter Tryz.func94, Tryz.ntmps94
  generalize hw1 : w.alloc (.cells #[.int .i64 ba, .int .i64 la, .int .i64 fr, .int .i64 ep, .int .i64 pi, .int .i64 ge, .int .i64 se, .bool tx, .int .i64 ct, .slice A n c] 28) = w1 at HBX HFZ HB1 hs1
  have hg3 : w.heap.size < w.heap.size + 1 := by omega
  go_upto_region 3 with (first | (go_at_call 109; (with_reducible refine (HE.out w1 HBX.out HFZ.out hs1).mono ?_); rintro e w3 ⟨rfl, A3, n3, c3, hown3, hX3, fX3, hbox3, hb3, hs3⟩; have HO3 := Lib.hid hown3; have HBX3 := Lib.hid hbox3; have HB3 := Lib.hid hb3; have HS3 := Lib.hid hs3; obtain ⟨y3_0, y3_1, y3_2, y3_3, y3_4, y3_5, y3_6, y3_7, y3_8, y3_9⟩ := HBX3.out; simp only at y3_0 y3_1 y3_2 y3_3 y3_4 y3_5 y3_6 y3_7 y3_8 y3_9; have hl3 := hown3.len; clear hown3 hbox3 hb3 hs3))
  have hw2 : (w1.alloc (.cells #[.slice none 0 0] 94)).heap.size = w.heap.size + 2 := by simp; omega
  rw [hw2] at HO3 HS3
  have hs3 := HS3.out
  have hn3 : n3 ≤ 70 := by
    have h := vs_ten HF.out.heads
    rw [hl3] at h
    simpa [hd] using h
  clear hl3
  obtain ⟨mk, hmk⟩ : ∃ mk, mark ⟨ba, la, fr, ep, pi, ge, se, tx, ct, rs0⟩ = mk := ⟨_, rfl⟩
  have HM := Lib.hid (fun w' : World => (hmk ▸ mark_any ba la fr ep pi ge se tx ct rs0 A n c w' hct0 hct2 : Calls Tryz.prog 113 #[.agg #[.int .i64 ba, .int .i64 la, .int .i64 fr, .int .i64 ep, .int .i64 pi, .int .i64 ge, .int .i64 se, .bool tx, .int .i64 ct, .slice A n c]] w' fun e w'' => e = .returned (.int .u8 (mk.toNat : Int)) ∧ Below w'.heap.size w' w''))
  have HMK := Lib.hid hmk
  clear hmk
  go_cut [] (fun wx => ∃ A5 c5, OwnB wx 5 (w.heap.size + 2) (.slice A5 (n3 + 1) c5) (n3 + 1) (vs (hd ⟨ba, la, fr, ep, pi, ge, se, tx, ct, rs0⟩) ++ [mk]) ∧ wx.cell? ⟨w.heap.size + 1, 0, none⟩ = some (.slice A5 (n3 + 1) c5) ∧ wx.frozen? ⟨w.heap.size + 1, 0, none⟩ = false ∧ BoxB wx w.heap.size ⟨ba, la, fr, ep, pi, ge, se, tx, ct, rs0⟩ (.slice A n c) ∧ Below w.heap.size w3 wx)
  case first =>
    go_region_law (first
      | (refine step_appB _ rfl _ _ 94 rfl (w.heap.size + 2) 5 Tryz.underlying94 hI _ n3 _ rfl (HO4.out.alloc _) _ (some ⟨w4.heap.size, 0, none⟩) 1 1 [mk] rfl (new1 w4 5 mk) (by omega) (by simp; omega) ?_; intro A5 c5 w5 hown5 hb5; have hX5 := (hb5.cell (p := ⟨w.heap.size + 1, 0, none⟩) (show w.heap.size + 1 < w.heap.size + 2 by omega)).trans ((World.cell?_alloc_past _ _ _ (show w.heap.size + 1 < w4.heap.size by omega)).trans hX4); have fX5 := (hb5.frozen (p := ⟨w.heap.size + 1, 0, none⟩) (show w.heap.size + 1 < w.heap.size + 2 by omega)).trans ((World.frozen?_alloc_past _ _ _ (show w.heap.size + 1 < w4.heap.size by omega)).trans fX4); have HO5 := Lib.hid hown5; have HB5 := Lib.hid hb5; clear hown5 hb5)
      | (go_simp; go_at_call 113; (with_reducible refine (HM.out _).mono ?_); rintro e w4 ⟨rfl, hb4⟩; have hb34 := below_undrew hb4; have hs4 : w3.heap.size ≤ w4.heap.size := hb34.size; have hlt4 : w.heap.size + 1 < w4.heap.size := (by omega); have hX4 := (hb34.cell (p := ⟨w.heap.size + 1, 0, none⟩) (show w.heap.size + 1 < w3.heap.size by omega)).trans hX3; have fX4 := (hb34.frozen (p := ⟨w.heap.size + 1, 0, none⟩) (show w.heap.size + 1 < w3.heap.size by omega)).trans fX3; have HB4 := Lib.hid (show Below w3.heap.size w3 w4 from hb34); have HO4 := Lib.hid (HO3.out.below hb34); clear hb4 hb34))
    all_goals (go_wp2_with fail; go_meet)
    all_goals exact ⟨A5, c5, ownsRow_setCell_below HO5.out (show w.heap.size + 1 < w.heap.size + 2 by omega) _, World.cell?_setCell_same _ _ _ hX5, (frozen_set _ _ _ _).trans fX5, ((((HBX3.out.below HB4.out (by omega)).below (bel_alloc (Below.refl _ _) _) (by omega)).below HB5.out (by omega)).set (by omega)), (((HB4.out.mono (by omega)).alloc (by omega) _).trans (HB5.out.mono (by omega))).setCell (show w.heap.size ≤ w.heap.size + 1 by omega) _⟩
  case rest =>
    obtain ⟨A5, c5, hown5, hX5, fX5, hbox5, hb5⟩ := hcut
    have HO5 := Lib.hid hown5
    have HBX5 := Lib.hid hbox5
    have HB5 := Lib.hid ((HB1.out.trans ((bel_alloc (Below.refl _ _) _).mono (by omega))).trans (HB3.out.trans hb5))
    have hs5 : w.heap.size + 2 < wc.heap.size := by
      obtain ⟨g5, cap5, _, hg5, hl5⟩ := World.ownsRow.form hown5 (by omega)
      omega
    clear y3_0 y3_1 y3_2 y3_3 y3_4 y3_5 y3_6 y3_7 y3_8 y3_9
    obtain ⟨y5_0, y5_1, y5_2, y5_3, y5_4, y5_5, y5_6, y5_7, y5_8, y5_9⟩ := hbox5
    simp only at y5_0 y5_1 y5_2 y5_3 y5_4 y5_5 y5_6 y5_7 y5_8 y5_9
    clear hown5 hb5 hX3 fX3
    by_cases hn0 : n = 0
    · have hrs : rs0 = [] := List.eq_nil_of_length_eq_zero (hlen.trans hn0)
      have HB0 := Lib.hid (show vs (hd ⟨ba, la, fr, ep, pi, ge, se, tx, ct, rs0⟩) ++ [mk] ++ vb (zz 0) = BD by
        rw [← HBD.out, ← HMK.out]
        subst hrs
        simp [body, tl])
      subst hn0
      clear hrs
      go_wp2_with (first | (go_at_call 112; (with_reducible refine (PutVar_any A5 (n3 + 1) c5 0 _ _ wc HO5.out.rd (Nat.le_refl _) (by omega) (by omega) (by omega)).mono ?_); rintro e w6 ⟨A6, n6, c6, rfl, hown6, hb6⟩; have HO6 := Lib.hid hown6; have HB6 := Lib.hid hb6; have hs6 := hb6.size; have hX6 := (hb6.cell (p := ⟨w.heap.size + 1, 0, none⟩) (show w.heap.size + 1 < wc.heap.size by omega)).trans hX5; have fX6 := (hb6.frozen (p := ⟨w.heap.size + 1, 0, none⟩) (show w.heap.size + 1 < wc.heap.size by omega)).trans fX5; have y6_9 := (hb6.cell (p := ⟨w.heap.size, 9, none⟩) (show w.heap.size < wc.heap.size by omega)).trans y5_9; have HBX6 := Lib.hid (HBX5.out.below hb6 (by omega)); clear hown6 hb6))
      go_ret
      refine ⟨A6, n6, c6, rfl, ?_, (HB5.out.trans (HB6.out.mono (by omega))).setCell (show w.heap.size ≤ w.heap.size + 1 by omega) _⟩
      rw [← HB0.out]
      exact OwnB.more (ownsRow_setCell_below HO6.out (show w.heap.size + 1 < wc.heap.size by omega) _) (by omega)
    · have hn0' : ((n : Int) == 0) = false := beqF (by omega)
      have hRC := HR.out.below HB5.out (Nat.le_refl _)
      obtain ⟨b0, o0, r0, hA0, hbb0, hr0, hat0⟩ := hRC.at (show 0 < n by omega)
      obtain ⟨st, hst⟩ : ∃ st, r0.stamp = st := ⟨_, rfl⟩
      have g5 := hat0.2.2.2.2
      rw [hst, Nat.zero_mul, Nat.add_zero] at g5
      have hm0 := may_iff.1 (HF.out.mays _ (List.mem_of_getElem? hr0))
      rw [hst] at hm0
      obtain ⟨-, ⟨hst0, hst1⟩, -, -, -⟩ := hm0
      have HBE := Lib.hid (show vs (hd ⟨ba, la, fr, ep, pi, ge, se, tx, ct, rs0⟩) ++ [mk] ++ vb (zz (n : Int)) ++ vb (zz st) ++ rs ba st rs0 = BD by
        rw [← HBD.out, ← HMK.out]
        cases rs0 with
        | nil => simp at hr0
        | cons x l =>
          have hx : x = r0 := by simpa using hr0
          subst hx
          rw [← hst]
          simp only [body, tl]
          rw [show (((x :: l).length : Nat) : Int) = (n : Int) by rw [hlen]]
          simp [List.append_assoc])
      subst hA0
      have hne0 : ¬ b0 = w.heap.size + 1 := by omega
      have hne1 : ¬ w.heap.size + 1 = b0 := by omega
      clear hat0 hr0 hst hRC
      obtain ⟨pre, hpre⟩ : ∃ l, vs (hd ⟨ba, la, fr, ep, pi, ge, se, tx, ct, rs0⟩) ++ [mk] ++ vb (zz (n : Int)) ++ vb (zz st) = l := ⟨_, rfl⟩
      have HPRE := Lib.hid hpre
      have hpl : pre.length ≤ 200 := by
        rw [← hpre]
        have h1 := vs_ten HF.out.heads
        have h2 := vb_ten (zz_lt (n := (n : Int)) (by omega))
        have h3 := vb_ten (zz_lt (n := st) (by omega))
        simp only [List.length_append, List.length_singleton]
        simp only [hd, List.length_cons, List.length_nil] at h1 ⊢
        omega
      clear hpre
      go_wp2_with (first
        | (go_at_call 112; (with_reducible refine (PutVar_any A6 n6 c6 st _ _ _ HO6s.out.rd (Nat.le_refl _) (by omega) (by omega) (by omega)).mono ?_); rintro e w7 ⟨A7, n7, c7, rfl, hown7, hb7⟩; have HO7 := Lib.hid hown7; have HB7 := Lib.hid hb7; have hs7 := hb7.size; have hX7 := (hb7.cell (p := ⟨w.heap.size + 1, 0, none⟩) (show w.heap.size + 1 < _ by omega)).trans (World.cell?_setCell_same _ _ _ hX6); have fX7 := (hb7.frozen (p := ⟨w.heap.size + 1, 0, none⟩) (show w.heap.size + 1 < _ by omega)).trans ((frozen_set _ _ _ _).trans fX6); have HBX7 := Lib.hid (HBX6s.out.below hb7 (by omega)); have hl7 := hown7.len; have hn7 : n7 ≤ 110 := (by rw [List.length_append, HO6s.out.len] at hl7; have := vb_ten (zz_lt (n := st) (by omega)); omega); have y7_9 := (hb7.cell (p := ⟨w.heap.size, 9, none⟩) (show w.heap.size < _ by omega)).trans HBX6s.out.2.2.2.2.2.2.2.2.2; clear hown7 hb7 hl7)
        | (go_at_call 112; (with_reducible refine (PutVar_any A5 (n3 + 1) c5 (n : Int) _ _ wc HO5.out.rd (Nat.le_refl _) (by omega) (by omega) (by omega)).mono ?_); rintro e w6 ⟨A6, n6, c6, rfl, hown6, hb6⟩; have HO6 := Lib.hid hown6; have HB6 := Lib.hid hb6; have hs6 := hb6.size; have hX6 := (hb6.cell (p := ⟨w.heap.size + 1, 0, none⟩) (show w.heap.size + 1 < wc.heap.size by omega)).trans hX5; have fX6 := (hb6.frozen (p := ⟨w.heap.size + 1, 0, none⟩) (show w.heap.size + 1 < wc.heap.size by omega)).trans fX5; have y6_9 := (hb6.cell (p := ⟨w.heap.size, 9, none⟩) (show w.heap.size < wc.heap.size by omega)).trans y5_9; have HBX6 := Lib.hid (HBX5.out.below hb6 (by omega)); have g6 := (hb6.cell (p := ⟨b0, o0 + 4, none⟩) (show b0 < wc.heap.size by omega)).trans g5; have hl6 := hown6.len; have hn6 : n6 ≤ 90 := (by rw [List.length_append, HO5.out.len] at hl6; have := vb_ten (zz_lt (n := (n : Int)) (by omega)); omega); have HO6s := Lib.hid (show OwnB (w6.setCell ⟨w.heap.size + 1, 0, none⟩ (.slice A6 n6 c6)) 5 wc.heap.size (.slice A6 n6 c6) n6 _ from ownsRow_setCell_below hown6 (show w.heap.size + 1 < wc.heap.size by omega) _); have hsz6 : (w6.setCell ⟨w.heap.size + 1, 0, none⟩ (.slice A6 n6 c6)).heap.size = w6.heap.size := (by simp [World.setCell]); have HBX6s := Lib.hid (show BoxB (w6.setCell ⟨w.heap.size + 1, 0, none⟩ (.slice A6 n6 c6)) w.heap.size ⟨ba, la, fr, ep, pi, ge, se, tx, ct, rs0⟩ (.slice (some ⟨b0, o0, none⟩) n c) from HBX6.out.set (by omega)); have HB6s := Lib.hid (show Below w.heap.size w (w6.setCell ⟨w.heap.size + 1, 0, none⟩ (.slice A6 n6 c6)) from (HB5.out.trans (hb6.mono (by omega))).setCell (show w.heap.size ≤ w.heap.size + 1 by omega) _); clear hown6 hb6 hl6))
      have hbr : inR ba = true := inR_iff.2 ⟨HF.out.base0, HF.out.base1⟩
      have hsr : inR st = true := inR_iff.2 ⟨hst0, hst1⟩
      have hb64 := inR_iff.1 hbr
      have HO8 := Lib.hid (show OwnB (w7.setCell ⟨w.heap.size + 1, 0, none⟩ (.slice A7 n7 c7)) 5 wc.heap.size (.slice A7 n7 c7) n7 (pre ++ rs ba st (rs0.take 0)) by
        rw [List.take_zero, rs, List.append_nil, ← HPRE.out]
        exact OwnB.more (ownsRow_setCell_below HO7.out (show w.heap.size + 1 < _ by omega) _) (by omega))
      have HB8 := Lib.hid (show Below w.heap.size w (w7.setCell ⟨w.heap.size + 1, 0, none⟩ (.slice A7 n7 c7)) from (HB6s.out.trans (HB7.out.mono (by omega))).setCell (show w.heap.size ≤ w.heap.size + 1 by omega) _)
      have HBX8 := Lib.hid (show BoxB (w7.setCell ⟨w.heap.size + 1, 0, none⟩ (.slice A7 n7 c7)) w.heap.size ⟨ba, la, fr, ep, pi, ge, se, tx, ct, rs0⟩ (.slice (some ⟨b0, o0, none⟩) n c) from HBX7.out.set (by omega))
      have hX8 : (w7.setCell ⟨w.heap.size + 1, 0, none⟩ (.slice A7 n7 c7)).cell? ⟨w.heap.size + 1, 0, none⟩ = some (.slice A7 n7 c7) := World.cell?_setCell_same _ _ _ hX7
      have fX8 : (w7.setCell ⟨w.heap.size + 1, 0, none⟩ (.slice A7 n7 c7)).frozen? ⟨w.heap.size + 1, 0, none⟩ = false := (frozen_set _ _ _ _).trans fX7
      have hs8 : (w7.setCell ⟨w.heap.size + 1, 0, none⟩ (.slice A7 n7 c7)).heap.size = w7.heap.size := by simp [World.setCell]
      generalize hw8 : w7.setCell ⟨w.heap.size + 1, 0, none⟩ (.slice A7 n7 c7) = w8 at HO8 HB8 HBX8 hX8 fX8 hs8 ⊢
      clear hw8
      clear hX7 fX7 y7_9 hX6 fX6 y6_9 g6 g5
      clear y5_0 y5_1 y5_2 y5_3 y5_4 y5_5 y5_6 y5_7 y5_8 y5_9 hX5 fX5
      have hwc8 : wc.heap.size ≤ w8.heap.size := by omega
      clear hsz6 hs6 hs7 hs8
      go_loopw [37] (fun i wr => wrRel 5 w.heap.size (w.heap.size + 1) wc.heap.size ⟨ba, la, fr, ep, pi, ge, se, tx, ct, rs0⟩ (.slice (some ⟨b0, o0, none⟩) n c) pre st n w i wr) (fun i _ => n - (intOf i).toNat)
      case atStart => exact ⟨0, n7, A7, c7, rfl, Nat.zero_le _, HO8.out, hX8, fX8, HBX8.out, HB8.out, hwc8⟩
      case round =>
        obtain ⟨k, m, A9, c9, rfl, hk, hown9, hX9, fX9, hbox9, hb9, hs9⟩ := hrel
        simp only at hown9
        have hl9 := hown9.len
        have hm9 : m ≤ 2600 := by
          have h1 := rs_145 (l := rs0.take k) (fun r hr => HF.out.mays r (List.mem_of_mem_take hr)) hbr hsr
          rw [List.length_append] at hl9
          rw [List.length_take] at h1
          omega
        have HO9 := Lib.hid hown9
        have HB9 := Lib.hid hb9
        have HBX9 := Lib.hid hbox9
        have hws : w.heap.size + 2 < wr.heap.size := by omega
        clear hl9
        by_cases hlt : k < n
        · obtain ⟨b, o, r, hA, hbb, hrk, hat⟩ := (HR.out.below HB9.out (Nat.le_refl _)).at hlt
          obtain ⟨rfl, rfl⟩ : b0 = b ∧ o0 = o := by simpa using hA
          obtain ⟨ro, rk, rv, rd, rt⟩ := r
          obtain ⟨a0, a1, a2, a3, a4⟩ := hat
          simp only at a0 a1 a2 a3 a4
          have hmay := HF.out.mays _ (List.mem_of_getElem? hrk)
          obtain ⟨mo, mt, mk1, mv1, -⟩ := may_iff.1 hmay
          simp only at mo mt mk1 mv1
          have HP := Lib.hid (fun w' : World => (show Calls Tryz.prog 114 #[.agg #[.int .i64 ro, .string rk, .string rv, .bool rd, .int .i64 rt], .int .i64 ba, .int .i64 st] w' (OPr 5 w'.heap.size w' (rb ⟨ro, rk, rv, rd, rt⟩ ba st) 0) by
            have h := Put_any' ro rt rk rv rd ba st w' (by omega) (by omega) (by omega) (by omega) (by omega) (by omega)
            rw [pt_yes hmay hbr hsr] at h
            exact h))
          have hlb := (rb_size hmay hbr hsr).2.1
          have HST := Lib.hid (rs_take (ba := ba) (st := st) hrk)
          have hb10 := bel_alloc (Below.refl wr.heap.size wr) (.cells #[.int .i64 ro, .string rk, .string rv, .bool rd, .int .i64 rt] 61)
          have hs10 : (wr.alloc (.cells #[.int .i64 ro, .string rk, .string rv, .bool rd, .int .i64 rt] 61)).heap.size = wr.heap.size + 1 := by simp
          have HBX10 := Lib.hid (hbox9.below hb10 (by omega))
          have HO10 := Lib.hid (HO9.out.alloc (.cells #[.int .i64 ro, .string rk, .string rv, .bool rd, .int .i64 rt] 61))
          have hX10 := (hb10.cell (p := ⟨w.heap.size + 1, 0, none⟩) (show w.heap.size + 1 < wr.heap.size by omega)).trans hX9
          have fX10 := (hb10.frozen (p := ⟨w.heap.size + 1, 0, none⟩) (show w.heap.size + 1 < wr.heap.size by omega)).trans fX9
          have HB10 := Lib.hid (HB9.out.trans (hb10.mono (by omega)))
          have HX := Lib.hid (box_new wr 61 ⟨ro, rk, rv, rd, rt⟩)
          obtain ⟨x0, x1, x2, x3, x4⟩ := box_new wr 61 ⟨ro, rk, rv, rd, rt⟩
          obtain ⟨z0, z1, z2, z3, z4, z5, z6, z7, z8, z9⟩ := hbox9
          have u0 := HBX10.out.1
          simp only at z0 z1 z2 z3 z4 z5 z6 z7 z8 z9 u0
          clear hrk hmay hA hbb hown9 hb9 hb10 mo mt mk1 mv1
          go_wp2_with (first
            | (go_at_call 114; (with_reducible refine (HP.out _).mono ?_); rintro e w11 ⟨A11, n11, c11, rfl, hown11, hb11⟩; have HO11 := Lib.hid hown11; have HB11 := Lib.hid hb11; have hs11 := hb11.size; have hX11 := (hb11.cell (p := ⟨w.heap.size + 1, 0, none⟩) (show w.heap.size + 1 < _ by omega)).trans hX10; have fX11 := (hb11.frozen (p := ⟨w.heap.size + 1, 0, none⟩) (show w.heap.size + 1 < _ by omega)).trans fX10; have hl11 := hown11.len; have hn11 : n11 ≤ 145 := (by omega); clear hown11 hb11 hl11)
            | (at_builtin; refine wpList_appB _ rfl _ _ 94 rfl wc.heap.size 5 Tryz.underlying94 hI _ m _ rfl (HO10.out.below HB11.out) _ A11 n11 c11 _ rfl HO11.out.rd (by omega) (by omega) ?_; intro A12 c12 w12 hown12 hb12; have HO12 := Lib.hid hown12; have HB12 := Lib.hid hb12; have hs12 := hb12.size; have hX12 := (hb12.cell (p := ⟨w.heap.size + 1, 0, none⟩) (show w.heap.size + 1 < wc.heap.size by omega)).trans hX11; have fX12 := (hb12.frozen (p := ⟨w.heap.size + 1, 0, none⟩) (show w.heap.size + 1 < wc.heap.size by omega)).trans fX11; clear hown12 hb12))
          go_roundw
          case rel =>
            refine ⟨k + 1, m + n11, A12, c12, by go_num, by omega, ?_, World.cell?_setCell_same _ _ _ hX12, (frozen_set _ _ _ _).trans fX12, (((HBX10.out.below HB11.out (by omega)).below HB12.out (by omega)).set (by omega)), ?_, ?_⟩
            · simp only
              rw [HST.out, ← List.append_assoc]
              exact ownsRow_setCell_below HO12.out (show w.heap.size + 1 < wc.heap.size by omega) _
            · exact ((HB10.out.trans (HB11.out.mono (by omega))).trans (HB12.out.mono (by omega))).setCell (show w.heap.size ≤ w.heap.size + 1 by omega) _
            · simp [World.setCell]; omega
          case measure => simp [intOf]; omega
        · have hkn : k = n := by omega
          clear hown9 hb9 hbox9
          go_wp2
          go_ret
          refine ⟨A9, m, c9, rfl, ?_, HB9.out⟩
          have h := HO9.out
          rw [hkn, List.take_of_length_le (by omega), ← HPRE.out, HBE.out] at h
          exact h.more (by omega)
end Go.Proofs.YtlfbagkonckffaaGreat.Bat

/- The contracts of crc's Sum and of the closure in it. -/
namespace Go.Proofs.YtlfbagkonckffaaGreat.Crc
open Go.RowKit Oct

def goOnRel (b v : Nat) (w : World) (i : Value) (wr : World) : Prop := ∃ k : Nat, i = .int .i64 (k : Int) ∧ k ≤ 2 ∧ wr.heap[b]? = some (.cells #[.int .u32 (steps (4 * k) v : Int)] 138 (0, 0)) ∧ Below b w wr
def sumRel (l : List UInt8) (n b : Nat) (w : World) (i : Value) (wr : World) : Prop := ∃ j : Nat, i = .int .i64 (j : Int) ∧ j ≤ n ∧ wr.heap[b]? = some (.cells #[.int .u32 (crc 4294967295 (l.take j) : Int)] 138 (0, 0)) ∧ Below b w wr
end Go.Proofs.YtlfbagkonckffaaGreat.Crc

/- The contract of octet.Has. -/
namespace Go.Proofs.YtlfbagkonckffaaGreat.Oct
open Go.RowKit

end Go.Proofs.YtlfbagkonckffaaGreat.Oct

/- The contract of octet.Get. -/
namespace Go.Proofs.YtlfbagkonckffaaGreat.Oct
open Go.RowKit

end Go.Proofs.YtlfbagkonckffaaGreat.Oct

/- The contracts of crc's Seal and Open, and of bytes.Clone in it. -/
namespace Go.Proofs.YtlfbagkonckffaaGreat.Crc
open Go.RowKit Oct

end Go.Proofs.YtlfbagkonckffaaGreat.Crc

/- The contracts of the landed bodyOf, Check, Size and Put. -/
namespace Go.Proofs.YtlfbagkonckffaaGreat.Bat
open Go.RowKit Oct Rec Crc

theorem body_few {b : Bt} (hF : Form b) : (body b).length ≤ 1000000 := by
  have h1 := vs_ten hF.heads
  have h2 := hF.few
  have h3 := vb_ten (zz_lt (n := (b.recs.length : Int)) (by omega))
  have h4 : (tl b.base b.recs).length ≤ 10 + 145 * b.recs.length := by
    cases hr : b.recs with
    | nil => simp [tl]
    | cons x l =>
      have hm := hF.mays
      rw [hr] at hm
      have hx := may_iff.1 (hm x (by simp))
      have h5 := rs_145 (st := x.stamp) hm (inR_iff.2 ⟨hF.base0, hF.base1⟩) (inR_iff.2 hx.2.1)
      have h6 := vb_ten (zz_lt (n := x.stamp) (by omega))
      rw [tl, List.length_append]
      omega
  unfold body
  simp only [List.length_append, List.length_singleton]
  simp only [hd, List.length_cons, List.length_nil] at h1 ⊢
  omega
def boB (b : Bt) : List UInt8 := if chB b = 0 then body b else []
set_option maxRecDepth 100000 in
set_option maxHeartbeats 4000000 in
theorem bodyOf_any (ba la fr ep pi ge se : Int) (tx : Bool) (ct : Int) (rs : List Rc) (A : Option Addr) (n c : Nat) (w : World) (hF : Fits ⟨ba, la, fr, ep, pi, ge, se, tx, ct, rs⟩) (hr : RdR w w.heap.size A n rs) (hn : n ≤ 1099511627776) :
    Calls Tryz.prog 69 #[.agg #[.int .i64 ba, .int .i64 la, .int .i64 fr, .int .i64 ep, .int .i64 pi, .int .i64 ge, .int .i64 se, .bool tx, .int .i64 ct, .slice A n c]] w (OPr 5 w.heap.size w (boB ⟨ba, la, fr, ep, pi, ge, se, tx, ct, rs⟩) (chB ⟨ba, la, fr, ep, pi, ge, se, tx, ct, rs⟩)) := by
  have hb0 := bel_alloc (Below.refl w.heap.size w) (.cells #[.int .i64 ba, .int .i64 la, .int .i64 fr, .int .i64 ep, .int .i64 pi, .int .i64 ge, .int .i64 se, .bool tx, .int .i64 ct, .slice A n c] 28)
  have hrA : ∀ w', Below w.heap.size w w' → RdR w' w'.heap.size A n rs := fun w' hb => (hr.below hb (Nat.le_refl _)).more hb.size
  have HB0 := Lib.hid hb0
  have HRA := Lib.hid hrA
  have HFT := Lib.hid hF
  have HBX := Lib.hid (boxB_new w 28 ⟨ba, la, fr, ep, pi, ge, se, tx, ct, rs⟩ (.slice A n c))
  have hsz : w.heap.size < (w.alloc (.cells #[.int .i64 ba, .int .i64 la, .int .i64 fr, .int .i64 ep, .int .i64 pi, .int .i64 ge, .int .i64 se, .bool tx, .int .i64 ct, .slice A n c] 28)).heap.size := by simp
  clear hr hF hb0 hrA
  rcases hf : form ⟨ba, la, fr, ep, pi, ge, se, tx, ct, rs⟩ with _ | _
  · have hc : chB ⟨ba, la, fr, ep, pi, ge, se, tx, ct, rs⟩ = 1 := by unfold chB; rw [hf]; rfl
    rw [show boB ⟨ba, la, fr, ep, pi, ge, se, tx, ct, rs⟩ = [] by unfold boB; rw [hc]; rfl, hc]
    clear hc
    go_enter Tryz.func69, Tryz.ntmps69
    go_wp2_with (go_at_call 93; (with_reducible refine (hasForm_any ba la fr ep pi ge se tx ct rs A n c _ HFT.out (HRA.out _ HB0.out) hn hf).mono ?_); rintro e w2 ⟨rfl, hb2⟩; have HB2 := Lib.hid (bel_trans HB0.out hb2); obtain ⟨y0, y1, y2, y3, y4, y5, y6, y7, y8, y9⟩ := HBX.out.below hb2 hsz; simp only at y0 y1 y2 y3 y4 y5 y6 y7 y8 y9; clear hb2)
    go_ret2
    exact ⟨none, 0, 0, rfl, OwnB.nil, HB2.out⟩
  · have HFM := Lib.hid ((form_iff _).1 hf)
    have hbl := byB_length ⟨ba, la, fr, ep, pi, ge, se, tx, ct, rs⟩
    by_cases hlen : 2048 < (byB ⟨ba, la, fr, ep, pi, ge, se, tx, ct, rs⟩).length
    · have hc : chB ⟨ba, la, fr, ep, pi, ge, se, tx, ct, rs⟩ = 2 := by unfold chB; rw [hf, if_pos hlen]; rfl
      rw [show boB ⟨ba, la, fr, ep, pi, ge, se, tx, ct, rs⟩ = [] by unfold boB; rw [hc]; rfl, hc]
      have HL := Lib.hid (show 2040 < (body ⟨ba, la, fr, ep, pi, ge, se, tx, ct, rs⟩).length by omega)
      have HU := Lib.hid (body_few HFM.out)
      clear hc hlen hbl
      go_enter Tryz.func69, Tryz.ntmps69
      go_wp2_with (first | (go_at_call 93; (with_reducible refine (hasForm_any ba la fr ep pi ge se tx ct rs A n c _ HFT.out (HRA.out _ HB0.out) hn hf).mono ?_); rintro e w2 ⟨rfl, hb2⟩; have HB2 := Lib.hid (bel_trans HB0.out hb2); obtain ⟨y0, y1, y2, y3, y4, y5, y6, y7, y8, y9⟩ := HBX.out.below hb2 hsz; simp only at y0 y1 y2 y3 y4 y5 y6 y7 y8 y9; clear hb2) | (go_at_call 94; (with_reducible refine (write_any ba la fr ep pi ge se tx ct rs A n c _ HFM.out (HRA.out _ HB2.out)).mono ?_); rintro e w3 ⟨A3, n3, c3, rfl, hown3, hb3⟩; have hl3 := hown3.len; have HO3 := Lib.hid hown3; have HB3 := Lib.hid (bel_trans HB2.out hb3); have hs23 := HB2.out.size; clear hown3 hb3; have q3 : (2040 : Int) < (n3 : Int) := (by have := HL.out; omega); have q4 : n3 ≤ 1000000 := (by have := HU.out; omega); clear hl3))
      go_ret2
      exact ⟨none, 0, 0, rfl, OwnB.nil, HB3.out⟩
    · have hc : chB ⟨ba, la, fr, ep, pi, ge, se, tx, ct, rs⟩ = 0 := by unfold chB; rw [hf, if_neg hlen]; rfl
      rw [show boB ⟨ba, la, fr, ep, pi, ge, se, tx, ct, rs⟩ = body ⟨ba, la, fr, ep, pi, ge, se, tx, ct, rs⟩ by unfold boB; rw [if_pos hc], hc]
      have HL := Lib.hid (show (body ⟨ba, la, fr, ep, pi, ge, se, tx, ct, rs⟩).length ≤ 2040 by omega)
      clear hc hlen hbl
      go_enter Tryz.func69, Tryz.ntmps69
      go_wp2_with (first | (go_at_call 93; (with_reducible refine (hasForm_any ba la fr ep pi ge se tx ct rs A n c _ HFT.out (HRA.out _ HB0.out) hn hf).mono ?_); rintro e w2 ⟨rfl, hb2⟩; have HB2 := Lib.hid (bel_trans HB0.out hb2); obtain ⟨y0, y1, y2, y3, y4, y5, y6, y7, y8, y9⟩ := HBX.out.below hb2 hsz; simp only at y0 y1 y2 y3 y4 y5 y6 y7 y8 y9; clear hb2) | (go_at_call 94; (with_reducible refine (write_any ba la fr ep pi ge se tx ct rs A n c _ HFM.out (HRA.out _ HB2.out)).mono ?_); rintro e w3 ⟨A3, n3, c3, rfl, hown3, hb3⟩; have hl3 := hown3.len; have HO3 := Lib.hid hown3; have HB3 := Lib.hid (bel_trans HB2.out hb3); have hs23 := HB2.out.size; clear hown3 hb3; have q3 : (n3 : Int) ≤ (2040 : Int) := (by have := HL.out; omega); clear hl3))
      go_ret2
      exact ⟨A3, n3, c3, rfl, HO3.out.more hs23, HB3.out⟩
end Go.Proofs.YtlfbagkonckffaaGreat.Bat
