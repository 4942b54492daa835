/- Joined: SegR2. -/
import Derived.Test.YtgjbfhmfhmihhaaDoorSegR1
import Derived.Test.YtgjbfhmfhmihhaaDoorSegRS
import Derived.Test.YtgjbfhmfhmihhaaDoorSegF
import Derived.Test.YtgjbfhmfhmihhaaDoorJOct
import Derived.Deep.RegionHeld3
/- The document's New, End, Fix and Whole of a segment. -/
namespace Go.Proofs.YtgjbfhmfhmihhaaDoor.Seg
open Go.RowKit Go.Proofs.YtgjbfhmfhmihhaaDoor.Oct Go.Proofs.YtgjbfhmfhmihhaaDoor.Rec Go.Proofs.YtgjbfhmfhmihhaaDoor.Crc Go.Proofs.YtgjbfhmfhmihhaaDoor.Bat

theorem refNew_any (base : Int) (w : World) : Calls Tryd.prog 31 #[.int .i64 base] w (RSgE w (newS base)) := by
  by_cases h1 : base < 0
  · have hn : newS base = (nilS, 1) := by unfold newS; rw [if_pos (by omega)]
    rw [hn]
    clear hn
    go_enter Tryd.func31, Tryd.ntmps31
    go_wp2
    refine bodyPost_ret (v := .tuple #[.agg #[.int .i64 0, .slice none 0 0], .int .i64 1]) (by simp [results, Tryd.results31, go_sem]) rfl ?_
    exact ⟨none, 0, 0, rfl, OwnB.nil, bel_alloc (Below.refl _ _) _⟩
  by_cases h2 : 1099511627776 < base
  · have hn : newS base = (nilS, 1) := by unfold newS; rw [if_pos (by omega)]
    rw [hn]
    clear hn
    go_enter Tryd.func31, Tryd.ntmps31
    go_wp2
    refine bodyPost_ret (v := .tuple #[.agg #[.int .i64 0, .slice none 0 0], .int .i64 1]) (by simp [results, Tryd.results31, go_sem]) rfl ?_
    exact ⟨none, 0, 0, rfl, OwnB.nil, bel_alloc (Below.refl _ _) _⟩
  · have hn : newS base = (⟨base, []⟩, 0) := by unfold newS; rw [if_neg (by omega)]
    rw [hn]
    clear hn
    go_enter Tryd.func31, Tryd.ntmps31
    go_wp2
    refine bodyPost_ret (v := .tuple #[.agg #[.int .i64 base, .slice none 0 0], .int .i64 0]) (by simp [results, Tryd.results31, go_sem]) rfl ?_
    exact ⟨none, 0, 0, rfl, OwnB.nil, bel_alloc (Below.refl _ _) _⟩
section
variable (A : Option Addr) (n c : Nat) (base : Int) (bs : List UInt8) (w : World)
set_option maxRecDepth 100000 in
theorem refEnd_any (hr : Rd w w.heap.size A n bs) (hc : n ≤ c) (hn : n ≤ 137438953472) (hI : I64 base) :
    Calls Tryd.prog 21 #[.agg #[.int .i64 base, .slice A n c]] w fun e w' => e = .returned (.int .i64 (endS ⟨base, bs⟩)) ∧ Below w.heap.size w w' := by
  have HR := Lib.hid hr
  have HSC := Lib.hid (sc_good base bs)
  have hlen := hr.len
  clear hr
  by_cases hl0 : (sc base bs).1 = []
  · have HE := Lib.hid (show endS ⟨base, bs⟩ = base by unfold endS batS; rw [hl0]; rfl)
    have HL := Lib.hid hl0
    clear hl0
    go_enter Tryd.func21, Tryd.ntmps21
    go_wp2_with (first | (go_at_call 16; refine (refScan_any A n c base bs _ ((HR.out.alloc (Nat.le_refl _) _).more (by simp)) hc hn hI).mono ?_; rintro e w2 ⟨A2, n2, c2, rfl, ho2, hb2⟩; have a0 := (hb2.cell (p := ⟨w.heap.size, 0, none⟩) (by first | (simp; done) | (simp; omega))).trans (show _ = some (.int .i64 base) by simp [go_sem]); have a1 := (hb2.cell (p := ⟨w.heap.size, 1, none⟩) (by first | (simp; done) | (simp; omega))).trans (show _ = some (.slice A n c) by simp [go_sem]); obtain rfl : n2 = 0 := (by have h := ho2.len; rw [HL.out] at h; exact h.symm); have HB2 := Lib.hid ((bel_alloc (Below.refl _ _) (.cells #[.int .i64 base, .slice A n c] 24)).trans (hb2.mono (by simp))); clear hb2 ho2))
    go_ret
    exact ⟨by rw [HE.out]; rfl, HB2.out⟩
  · obtain ⟨y, hy, hye⟩ := endR_last (lo := base) hl0
    have hne : 0 < (sc base bs).1.length := List.length_pos_iff.2 hl0
    obtain ⟨yl, hyL⟩ : ∃ yl, yl = y.last := ⟨_, rfl⟩
    have HYY := Lib.hid (show chB y = 0 from by
      have h1 := HSC.out.1
      have h2 : ∃ p q, (sc base bs).1 = p ++ y :: q := List.append_of_mem (List.mem_of_getElem? hy)
      obtain ⟨p, q, h2⟩ := h2
      rw [h2, ris_app, ris_cons] at h1
      exact h1.2.1.1)
    have hlast := chB_last HYY.out
    rw [← hyL] at hlast hye
    have HE := Lib.hid (show endS ⟨base, bs⟩ = yl + 1 from hye)
    have HY := Lib.hid hy
    have HYL := Lib.hid hyL
    have hsm : (sc base bs).1.length ≤ 137438953472 := by have h1 := byR_ge (sc base bs).1; have h2 := HSC.out.2.1; have h3 := HSC.out.2.2.2.1; omega
    obtain ⟨m, hm⟩ : ∃ m, m = (sc base bs).1.length := ⟨_, rfl⟩
    rw [← hm] at hsm hne
    have HM := Lib.hid hm
    have hwp : IntKind.i64.wrap ((m : Int) - 1) = (m : Int) - 1 := IntWalk.i64_in _ (by omega)
    have htn : ((m : Int) - 1).toNat = m - 1 := by omega
    have hq2 : (1 : Int) ≤ (m : Int) := by omega
    have hq1 : (m : Int) - 1 < (m : Int) := by omega
    have hq3 : ¬ m = 0 := by omega
    clear hl0 hy hye hyL hm
    go_enter Tryd.func21, Tryd.ntmps21
    go_wp2_with (first | (go_at_call 16; refine (refScan_any A n c base bs _ ((HR.out.alloc (Nat.le_refl _) _).more (by simp)) hc hn hI).mono ?_; rintro e w2 ⟨A2, n2, c2, rfl, ho2, hb2⟩; have a0 := (hb2.cell (p := ⟨w.heap.size, 0, none⟩) (by first | (simp; done) | (simp; omega))).trans (show _ = some (.int .i64 base) by simp [go_sem]); have a1 := (hb2.cell (p := ⟨w.heap.size, 1, none⟩) (by first | (simp; done) | (simp; omega))).trans (show _ = some (.slice A n c) by simp [go_sem]); obtain rfl : m = n2 := HM.out.trans ho2.len; have HB2 := Lib.hid ((bel_alloc (Below.refl _ _) (.cells #[.int .i64 base, .slice A n c] 24)).trans (hb2.mono (by simp))); obtain ⟨yb, yo, yx, yA, yn, yc, rfl, hyl, hyk, _, _, _, _, hyc⟩ := ho2.rd.at (k := m - 1) (by omega); have hyy : yx = y := (by have h1 := hyk; rw [HM.out, HY.out] at h1; exact (Option.some.inj h1).symm); have hy1 : w2.cell? ⟨yb, yo + (m - 1) * 10 + 1, none⟩ = some (.int .i64 yl) := (by have h1 := hyc 1 _ rfl; rw [hyy] at h1; rw [HYL.out]; exact h1); clear hb2 ho2 hyc hyk hyy))
    go_ret
    exact ⟨by rw [HE.out]; rfl, HB2.out⟩
set_option maxRecDepth 100000 in
theorem refWhole_is (hr : Rd w w.heap.size A n bs) (hc : n ≤ c) (hn : n ≤ 137438953472) (hI : I64 base) {z : Bool} (hz : wholeS ⟨base, bs⟩ = z) :
    Calls Tryd.prog 44 #[.agg #[.int .i64 base, .slice A n c]] w fun e w' => e = .returned (.bool z) ∧ Below w.heap.size w w' := by
  have HR := Lib.hid hr
  have hlen := hr.len
  obtain ⟨g, hg⟩ : ∃ g, g = (sc base bs).2 := ⟨_, rfl⟩
  have HG := Lib.hid hg
  have hz' : decide (0 ≤ base ∧ base ≤ 1099511627776 ∧ g = n) = z := by rw [← hz]; unfold wholeS goodS; rw [← hg, ← hlen]
  clear hr hg hz hlen
  by_cases h1 : base < 0
  · have HZ := Lib.hid (show z = false by rw [← hz']; exact decide_eq_false (by omega))
    clear hz'
    go_enter Tryd.func44, Tryd.ntmps44
    go_wp2_with (first | (go_at_call 16; refine (refScan_any A n c base bs _ ((HR.out.alloc (Nat.le_refl _) _).more (by simp)) hc hn hI).mono ?_; rw [← HG.out]; rintro e w2 ⟨A2, n2, c2, rfl, ho2, hb2⟩; have a0 := (hb2.cell (p := ⟨w.heap.size, 0, none⟩) (by first | (simp; done) | (simp; omega))).trans (show _ = some (.int .i64 base) by simp [go_sem]); have a1 := (hb2.cell (p := ⟨w.heap.size, 1, none⟩) (by first | (simp; done) | (simp; omega))).trans (show _ = some (.slice A n c) by simp [go_sem]); have HB2 := Lib.hid ((bel_alloc (Below.refl _ _) (.cells #[.int .i64 base, .slice A n c] 24)).trans (hb2.mono (by simp))); clear hb2 ho2))
    go_ret
    exact ⟨by rw [HZ.out]; rfl, HB2.out⟩
  by_cases h2 : 1099511627776 < base
  · have HZ := Lib.hid (show z = false by rw [← hz']; exact decide_eq_false (by omega))
    clear hz'
    go_enter Tryd.func44, Tryd.ntmps44
    go_wp2_with (first | (go_at_call 16; refine (refScan_any A n c base bs _ ((HR.out.alloc (Nat.le_refl _) _).more (by simp)) hc hn hI).mono ?_; rw [← HG.out]; rintro e w2 ⟨A2, n2, c2, rfl, ho2, hb2⟩; have a0 := (hb2.cell (p := ⟨w.heap.size, 0, none⟩) (by first | (simp; done) | (simp; omega))).trans (show _ = some (.int .i64 base) by simp [go_sem]); have a1 := (hb2.cell (p := ⟨w.heap.size, 1, none⟩) (by first | (simp; done) | (simp; omega))).trans (show _ = some (.slice A n c) by simp [go_sem]); have HB2 := Lib.hid ((bel_alloc (Below.refl _ _) (.cells #[.int .i64 base, .slice A n c] 24)).trans (hb2.mono (by simp))); clear hb2 ho2))
    go_ret
    exact ⟨by rw [HZ.out]; rfl, HB2.out⟩
  by_cases h3 : g = n
  · have HZ := Lib.hid (show z = true by rw [← hz']; exact decide_eq_true (by omega))
    have h3' := h3.symm
    clear h3
    subst h3'
    clear hz'
    go_enter Tryd.func44, Tryd.ntmps44
    go_wp2_with (first | (go_at_call 16; refine (refScan_any A n c base bs _ ((HR.out.alloc (Nat.le_refl _) _).more (by simp)) hc hn hI).mono ?_; rw [← HG.out]; rintro e w2 ⟨A2, n2, c2, rfl, ho2, hb2⟩; have a0 := (hb2.cell (p := ⟨w.heap.size, 0, none⟩) (by first | (simp; done) | (simp; omega))).trans (show _ = some (.int .i64 base) by simp [go_sem]); have a1 := (hb2.cell (p := ⟨w.heap.size, 1, none⟩) (by first | (simp; done) | (simp; omega))).trans (show _ = some (.slice A n c) by simp [go_sem]); have HB2 := Lib.hid ((bel_alloc (Below.refl _ _) (.cells #[.int .i64 base, .slice A n c] 24)).trans (hb2.mono (by simp))); clear hb2 ho2))
    go_ret
    exact ⟨by rw [HZ.out]; rfl, HB2.out⟩
  · have HZ := Lib.hid (show z = false by rw [← hz']; exact decide_eq_false (by omega))
    have h3F : ((g : Int) == (n : Int)) = false := beq_false_of_ne (by omega)
    clear hz' h3
    go_enter Tryd.func44, Tryd.ntmps44
    go_wp2_with (first | (go_at_call 16; refine (refScan_any A n c base bs _ ((HR.out.alloc (Nat.le_refl _) _).more (by simp)) hc hn hI).mono ?_; rw [← HG.out]; rintro e w2 ⟨A2, n2, c2, rfl, ho2, hb2⟩; have a0 := (hb2.cell (p := ⟨w.heap.size, 0, none⟩) (by first | (simp; done) | (simp; omega))).trans (show _ = some (.int .i64 base) by simp [go_sem]); have a1 := (hb2.cell (p := ⟨w.heap.size, 1, none⟩) (by first | (simp; done) | (simp; omega))).trans (show _ = some (.slice A n c) by simp [go_sem]); have HB2 := Lib.hid ((bel_alloc (Below.refl _ _) (.cells #[.int .i64 base, .slice A n c] 24)).trans (hb2.mono (by simp))); clear hb2 ho2))
    go_ret
    exact ⟨by rw [HZ.out]; rfl, HB2.out⟩
set_option maxRecDepth 100000 in
set_option maxHeartbeats 2000000 in
theorem refFix_any (hr : Rd w w.heap.size A n bs) (hc : n ≤ c) (hn : n ≤ 137438953472) (hI : I64 base) :
    Calls Tryd.prog 18 #[.agg #[.int .i64 base, .slice A n c]] w (RSgE w (fixS ⟨base, bs⟩)) := by
  have HR := Lib.hid hr
  obtain ⟨g, hg⟩ : ∃ g, g = (sc base bs).2 := ⟨_, rfl⟩
  have hgn : g ≤ n := by have := (sc_good base bs).2.2.2.1; have := hr.len; omega
  have HE := Lib.hid (show fixS ⟨base, bs⟩ = (⟨base, bs.take g⟩, (n : Int) - (g : Int)) by unfold fixS goodS; rw [← hg, hr.len])
  have HG := Lib.hid hg
  have hmc : g ≤ c := by omega
  clear hr hg
  rw [HE.out]
  go_enter Tryd.func18, Tryd.ntmps18
  go_wp2_with (first | (go_at_call 16; refine (refScan_any A n c base bs _ (((HR.out.alloc (Nat.le_refl _) _).alloc (by simp) _).more (by simp; omega)) hc hn hI).mono ?_; rw [← HG.out]; rintro e w2 ⟨A2, n2, c2, rfl, ho2, hb2⟩; have a0 := (hb2.cell (p := ⟨w.heap.size, 0, none⟩) (by first | (simp; done) | (simp; omega))).trans (show _ = some (.int .i64 base) by simp [go_sem]); have a1 := (hb2.cell (p := ⟨w.heap.size, 1, none⟩) (by first | (simp; done) | (simp; omega))).trans (show _ = some (.slice A n c) by simp [go_sem]); have e0 := (hb2.cell (p := ⟨w.heap.size + 1, 0, none⟩) (by first | (simp; done) | (simp; omega))).trans (show _ = some (.int .i64 0) by simp [go_sem]); have e1 := (hb2.cell (p := ⟨w.heap.size + 1, 1, none⟩) (by first | (simp; done) | (simp; omega))).trans (show _ = some (.slice none 0 0) by simp [go_sem]); have q0 := (hb2.frozen (p := ⟨w.heap.size + 1, 0, none⟩) (by first | (simp; done) | (simp; omega))).trans (show _ = false by simp [go_sem]); have q1 := (hb2.frozen (p := ⟨w.heap.size + 1, 1, none⟩) (by first | (simp; done) | (simp; omega))).trans (show _ = false by simp [go_sem]); have hz2 := hb2.size; simp only [World.size_alloc] at hz2; have HB2 := Lib.hid ((bel_alloc (bel_alloc (Below.refl _ _) (.cells #[.int .i64 base, .slice A n c] 24)) (.cells #[.int .i64 0, .slice none 0 0] 24)).trans (hb2.mono (by simp; omega))); clear hb2 ho2))
  have hwr : IntKind.i64.wrap ((n : Int) - (g : Int)) = (n : Int) - (g : Int) := IntWalk.i64_in _ (by omega)
  have HRM := Lib.hid (show Rd w2 w2.heap.size A g (bs.take g) from by have h := ((HR.out.below HB2.out (Nat.le_refl _)).more HB2.out.size).cut (i := 0) (m := g) (by omega) A (fun _ => by cases A <;> simp [Addr.add]); simpa using h)
  have HA0 := Lib.hid a0
  have HA1 := Lib.hid a1
  clear a0 a1
  go_region_held3 (fun x : World => x.cell? ⟨w.heap.size, 0, none⟩ = some (.int .i64 base) ∧ x.cell? ⟨w.heap.size, 1, none⟩ = some (.slice A n c)) (first | exact ⟨HA0.out, HA1.out⟩ | exact ⟨P0, P1⟩ | exact ⟨(cell_off (by simp)).trans ((cell_off (by simp)).trans P0), (cell_off (by simp)).trans ((cell_off (by simp)).trans P1)⟩) (first
    | (go_at_call 14; refine (Copy_any A g c (bs.take g) w2.heap.size _ HRM.out.drew (by omega)).mono ?_; rintro e w3 ⟨A3, n3, c3, rfl, ho3, hb3⟩; have P0 := (hb3.cell (p := ⟨w.heap.size, 0, none⟩) (show w.heap.size < w2.heap.size by omega)).trans HA0.out; have P1 := (hb3.cell (p := ⟨w.heap.size, 1, none⟩) (show w.heap.size < w2.heap.size by omega)).trans HA1.out; have e3 := (hb3.cell (p := ⟨w.heap.size + 1, 0, none⟩) (show w.heap.size + 1 < w2.heap.size by omega)).trans e0; have e4 := (hb3.cell (p := ⟨w.heap.size + 1, 1, none⟩) (show w.heap.size + 1 < w2.heap.size by omega)).trans e1; have q3 := (hb3.frozen (p := ⟨w.heap.size + 1, 0, none⟩) (show w.heap.size + 1 < w2.heap.size by omega)).trans q0; have q4 := (hb3.frozen (p := ⟨w.heap.size + 1, 1, none⟩) (show w.heap.size + 1 < w2.heap.size by omega)).trans q1; have HB3 := Lib.hid hb3; have HO3 := Lib.hid ho3; clear hb3 ho3))
  go_wp2
  refine bodyPost_ret (v := .tuple #[.agg #[.int .i64 base, .slice A3 n3 c3], .int .i64 ((n : Int) - (g : Int))]) (by simp [results, Tryd.results18, go_sem, e3, e4]) rfl ?_
  exact ⟨A3, n3, c3, rfl, OwnB.more (ownsRow_setCell_below (ownsRow_setCell_below HO3.out (show w.heap.size + 1 < w2.heap.size by omega) _) (show w.heap.size + 1 < w2.heap.size by omega) _) (show w.heap.size ≤ w2.heap.size by omega), ((HB2.out.drew.trans (HB3.out.mono (show w.heap.size ≤ w2.heap.size by omega))).setCell (by simp) _).setCell (by simp) _⟩
end
end Go.Proofs.YtgjbfhmfhmihhaaDoor.Seg
