/- Joined: SegO, SegWO. -/
import Derived.Test.YtejcjmiofidedaaGreatDoorSegB
import Derived.Test.YtejcjmiofidedaaGreatDoorBatRow
import Derived.Test.YtejcjmiofidedaaGreatDoorJSegW
/- The contract of the landed seg.Of. -/
namespace Go.Proofs.YtejcjmiofidedaaGreatDoor.Seg
open Go.RowKit Oct Rec Crc Bat

theorem apS_of {s : Sg} {b : Bt} {limit : Int} (hw : wholeS s = true) (hl : isL limit = true) : apS s b limit = bhS s (endS s) b limit := by
  rw [apS_bh, if_neg (by rw [hw]; simp [isL] at hl; simp; omega)]
theorem endS_more {s x : Sg} {b : Bt} {limit : Int} (h : apS s b limit = (x, 0)) : endS x = b.last + 1 := by
  obtain ⟨_, _, _, _, _, _, _, h8⟩ := apS_good h
  unfold endS
  rw [h8, endR_snoc]
def ofRel (e8 : TypeId) (base limit : Int) (bs : List Bt) (n N X : Nat) (w : World) (ve i : Value) (wr : World) : Prop :=
  ∃ (k : Nat) (s : Sg) (A1 : Option Addr) (n1 c1 : Nat), i = .int .i64 (k : Int) ∧ k ≤ n ∧ ve = .int .i64 (endS s) ∧ s.base = base ∧ wholeS s = true ∧ s.bytes.length ≤ 4096 ∧ ofS base bs limit = allS limit s (bs.drop k) ∧
    wr.cell? ⟨X, 0, none⟩ = some (.int .i64 base) ∧ wr.cell? ⟨X, 1, none⟩ = some (.slice A1 n1 c1) ∧ wr.frozen? ⟨X, 0, none⟩ = false ∧ wr.frozen? ⟨X, 1, none⟩ = false ∧
    wr.cell? ⟨N, 0, none⟩ = some (.int .i64 0) ∧ wr.cell? ⟨N, 1, none⟩ = some (.slice none 0 0) ∧ wr.frozen? ⟨N, 0, none⟩ = false ∧ wr.frozen? ⟨N, 1, none⟩ = false ∧ X < wr.heap.size ∧
    OwnB wr e8 (N + 1) (.slice A1 n1 c1) n1 s.bytes ∧ (∀ g, (Value.slice A1 n1 c1).ownBlock = some g → X ≠ g ∧ N ≠ g) ∧ Below N w wr
theorem bel_alloc2 {w x : World} (h : Below w.heap.size w x) (o : Obj) : Below w.heap.size w (x.alloc o) := h.alloc h.size o
set_option maxRecDepth 100000 in
set_option maxHeartbeats 4000000 in
theorem Of_any (base : Int) (A : Option Addr) (n c : Nat) (bs : List Bt) (limit : Int) (w : World) (hr : RdT w w.heap.size A n bs) (hn : n ≤ 1099511627776) (hI : I64 base) (ht : Tab w) :
    Calls Tryz.prog 58 #[.int .i64 base, .slice A n c, .int .i64 limit] w (RSgE w (ofS base bs limit)) := by
  have HR := Lib.hid hr
  have HT := Lib.hid ht
  have hlen := hr.len
  clear hr ht
  rcases hib : isB base with _ | _
  · have HNW := Lib.hid (show newS base = (nilS, 1) by unfold newS; rw [if_pos (by simp [isB] at hib; omega)])
    clear hib
    have he : ofS base bs limit = (nilS, 1) := by unfold ofS; rw [if_pos (by left; rw [HNW.out]; decide)]
    rw [he]
    clear he
    go_enter Tryz.func58, Tryz.ntmps58
    go_wp2_with (first
      | (go_at_call 89; refine (New_any base _).mono ?_; rw [HNW.out]; rintro e w2 ⟨A2, n2, c2, rfl, ho2, hb2⟩; have r0 := (hb2.cell (p := ⟨w.heap.size, 0, none⟩) (by first | (simp; done) | (simp; omega))).trans (show _ = some (.int .i64 0) by simp [go_sem]); have r1 := (hb2.cell (p := ⟨w.heap.size, 1, none⟩) (by first | (simp; done) | (simp; omega))).trans (show _ = some (.slice none 0 0) by simp [go_sem]); have f0 := (hb2.frozen (p := ⟨w.heap.size, 0, none⟩) (by first | (simp; done) | (simp; omega))).trans (show _ = false by simp [go_sem]); have f1 := (hb2.frozen (p := ⟨w.heap.size, 1, none⟩) (by first | (simp; done) | (simp; omega))).trans (show _ = false by simp [go_sem]); have hz2 := hb2.size; simp only [World.size_alloc] at hz2; have hlt2 : w.heap.size < w2.heap.size := (by omega); have HB2 := Lib.hid ((bel_alloc (Below.refl _ _) (.cells #[.int .i64 0, .slice none 0 0] 59)).trans (hb2.mono (by simp))); have HO2 := Lib.hid ho2; clear hb2 ho2))
    have Z0 : ∀ o : Obj, (((w2.setCell ⟨w.heap.size, 0, none⟩ (.int .i64 0)).setCell ⟨w.heap.size, 1, none⟩ (.slice none 0 0)).alloc o).cell? ⟨w.heap.size, 0, none⟩ = some (.int .i64 0) := fun o => (World.cell?_alloc_lt _ _ _ (by simpa using hlt2)).trans (by simp [go_sem, r0])
    have Z1 : ∀ o : Obj, (((w2.setCell ⟨w.heap.size, 0, none⟩ (.int .i64 0)).setCell ⟨w.heap.size, 1, none⟩ (.slice none 0 0)).alloc o).cell? ⟨w.heap.size, 1, none⟩ = some (.slice none 0 0) := fun o => (World.cell?_alloc_lt _ _ _ (by simpa using hlt2)).trans (by simp [go_sem, r1])
    refine bodyPost_ret (v := .tuple #[.agg #[.int .i64 0, .slice none 0 0], .int .i64 1]) (by simp [results, Tryz.results58, go_sem, Z0, Z1]) rfl ?_
    exact ⟨none, 0, 0, rfl, OwnB.nil, bel_alloc2 ((HB2.out.setCell (by simp) _).setCell (by simp) _) _⟩
  have HNW := Lib.hid (show newS base = (⟨base, []⟩, 0) by unfold newS; rw [if_neg (by simp [isB] at hib; omega)])
  have HIB := Lib.hid hib
  clear hib
  rcases hil : isL limit with _ | _
  · have HIL := Lib.hid hil
    clear hil
    have he : ofS base bs limit = (nilS, 1) := by unfold ofS; rw [if_pos (by right; have := HIL.out; simp [isL] at this; omega)]
    rw [he]
    clear he
    go_enter Tryz.func58, Tryz.ntmps58
    go_wp2_with (first
      | (go_at_call 89; refine (New_any base _).mono ?_; rw [HNW.out]; rintro e w2 ⟨A2, n2, c2, rfl, ho2, hb2⟩; have r0 := (hb2.cell (p := ⟨w.heap.size, 0, none⟩) (by first | (simp; done) | (simp; omega))).trans (show _ = some (.int .i64 0) by simp [go_sem]); have r1 := (hb2.cell (p := ⟨w.heap.size, 1, none⟩) (by first | (simp; done) | (simp; omega))).trans (show _ = some (.slice none 0 0) by simp [go_sem]); have f0 := (hb2.frozen (p := ⟨w.heap.size, 0, none⟩) (by first | (simp; done) | (simp; omega))).trans (show _ = false by simp [go_sem]); have f1 := (hb2.frozen (p := ⟨w.heap.size, 1, none⟩) (by first | (simp; done) | (simp; omega))).trans (show _ = false by simp [go_sem]); have hz2 := hb2.size; simp only [World.size_alloc] at hz2; have hlt2 : w.heap.size < w2.heap.size := (by omega); have HB2 := Lib.hid ((bel_alloc (Below.refl _ _) (.cells #[.int .i64 0, .slice none 0 0] 59)).trans (hb2.mono (by simp))); have HO2 := Lib.hid ho2; clear hb2 ho2)
      | (go_at_call 90; refine (isLimit_any limit _).mono ?_; rw [HIL.out]; rintro e w' ⟨rfl, rfl⟩))
    have Z0 : ∀ o : Obj, (((w2.setCell ⟨w.heap.size, 0, none⟩ (.int .i64 0)).setCell ⟨w.heap.size, 1, none⟩ (.slice none 0 0)).alloc o).cell? ⟨w.heap.size, 0, none⟩ = some (.int .i64 0) := fun o => (World.cell?_alloc_lt _ _ _ (by simpa using hlt2)).trans (by simp [go_sem, r0])
    have Z1 : ∀ o : Obj, (((w2.setCell ⟨w.heap.size, 0, none⟩ (.int .i64 0)).setCell ⟨w.heap.size, 1, none⟩ (.slice none 0 0)).alloc o).cell? ⟨w.heap.size, 1, none⟩ = some (.slice none 0 0) := fun o => (World.cell?_alloc_lt _ _ _ (by simpa using hlt2)).trans (by simp [go_sem, r1])
    refine bodyPost_ret (v := .tuple #[.agg #[.int .i64 0, .slice none 0 0], .int .i64 1]) (by simp [results, Tryz.results58, go_sem, Z0, Z1]) rfl ?_
    exact ⟨none, 0, 0, rfl, OwnB.nil, bel_alloc2 ((HB2.out.setCell (by simp) _).setCell (by simp) _) _⟩
  · have HIL := Lib.hid hil
    have HOF := Lib.hid (show ofS base bs limit = allS limit ⟨base, []⟩ bs by unfold ofS; rw [HNW.out, if_neg (by simp [isL] at hil; simp; omega)])
    clear hil
    go_enter Tryz.func58, Tryz.ntmps58
    go_wp2_with (first
      | (go_at_call 89; refine (New_any base _).mono ?_; rw [HNW.out]; rintro e w2 ⟨A2, n2, c2, rfl, ho2, hb2⟩; have r0 := (hb2.cell (p := ⟨w.heap.size, 0, none⟩) (by first | (simp; done) | (simp; omega))).trans (show _ = some (.int .i64 0) by simp [go_sem]); have r1 := (hb2.cell (p := ⟨w.heap.size, 1, none⟩) (by first | (simp; done) | (simp; omega))).trans (show _ = some (.slice none 0 0) by simp [go_sem]); have f0 := (hb2.frozen (p := ⟨w.heap.size, 0, none⟩) (by first | (simp; done) | (simp; omega))).trans (show _ = false by simp [go_sem]); have f1 := (hb2.frozen (p := ⟨w.heap.size, 1, none⟩) (by first | (simp; done) | (simp; omega))).trans (show _ = false by simp [go_sem]); have hz2 := hb2.size; simp only [World.size_alloc] at hz2; have hlt2 : w.heap.size < w2.heap.size := (by omega); have HB2 := Lib.hid ((bel_alloc (Below.refl _ _) (.cells #[.int .i64 0, .slice none 0 0] 59)).trans (hb2.mono (by simp))); have HO2 := Lib.hid ho2; clear hb2 ho2)
      | (go_at_call 90; refine (isLimit_any limit _).mono ?_; rw [HIL.out]; rintro e w' ⟨rfl, rfl⟩))
    have hcap := HO2.out.cap
    go_loopw [10, 29] (fun ve i wr => ofRel 5 base limit bs n w.heap.size w2.heap.size w ve i wr) (fun _ i _ => n - (intOf i).toNat)
    case atStart =>
      have h0 : endS ⟨base, []⟩ = base := by unfold endS batS; rw [sc_nil]; rfl
      have h1 : wholeS ⟨base, []⟩ = true := by have h := HIB.out; simp [isB] at h; simp [wholeS, goodS, sc_nil]; omega
      have hx := HO2.out.len
      refine ⟨0, ⟨base, []⟩, A2, n2, c2, rfl, Nat.zero_le _, by rw [h0], rfl, h1, by simp, HOF.out, by simp [go_sem], by simp [go_sem], by simp [go_sem], by simp [go_sem], (World.cell?_alloc_lt _ _ _ hlt2).trans r0, (World.cell?_alloc_lt _ _ _ hlt2).trans r1, ?_, ?_, by simp, OwnB.more (World.ownsRow.alloc HO2.out _) (by simp), fun g hg => ?_, HB2.out.alloc HB2.out.size _⟩
      · exact ((bel_alloc (Below.refl _ _) _).frozen (p := ⟨w.heap.size, 0, none⟩) hlt2).trans f0
      · exact ((bel_alloc (Below.refl _ _) _).frozen (p := ⟨w.heap.size, 1, none⟩) hlt2).trans f1
      have := World.ownsRow.lt HO2.out g hg
      simp only [World.size_alloc] at this
      omega
    case round =>
      obtain ⟨k, s, A1, n1, c1, rfl, hk, rfl, hsb, hsw, hsl, hall, x0, x1, y0, y1, r0, r1, f0, f1, hX, ho, hne, hB⟩ := hrel
      have HALL := Lib.hid hall
      have HSW := Lib.hid hsw
      have HSB := Lib.hid hsb
      have HO := Lib.hid ho
      have HNE := Lib.hid hne
      have HBL := Lib.hid hB
      have HRR := Lib.hid (HR.out.below hB (Nat.le_refl _))
      have HTT := Lib.hid (HT.out.bel hB)
      have hn1 := ho.len
      have hsz := hB.size
      clear hall hsw hsb ho hne hB
      by_cases hlt : k < n
      · obtain ⟨b, o, x, A4, n4, c4, rfl, hbl, hxk, hc4, hn4, hrd, hfit, hcell⟩ := HRR.out.at hlt
        obtain ⟨ba, la, fr, ep, pi, ge, se, tx, ct, rs⟩ := x
        have HFIT := Lib.hid hfit
        have HRD := Lib.hid hrd
        have HD := Lib.hid (drop_at hxk)
        have a0 : wr.cell? ⟨b, o + k * 10, none⟩ = some (.int .i64 ba) := hcell 0 _ rfl
        have a1 : wr.cell? ⟨b, o + k * 10 + 1, none⟩ = some (.int .i64 la) := hcell 1 _ rfl
        have a2 : wr.cell? ⟨b, o + k * 10 + 2, none⟩ = some (.int .i64 fr) := hcell 2 _ rfl
        have a3 : wr.cell? ⟨b, o + k * 10 + 3, none⟩ = some (.int .i64 ep) := hcell 3 _ rfl
        have a4 : wr.cell? ⟨b, o + k * 10 + 4, none⟩ = some (.int .i64 pi) := hcell 4 _ rfl
        have a5 : wr.cell? ⟨b, o + k * 10 + 5, none⟩ = some (.int .i64 ge) := hcell 5 _ rfl
        have a6 : wr.cell? ⟨b, o + k * 10 + 6, none⟩ = some (.int .i64 se) := hcell 6 _ rfl
        have a7 : wr.cell? ⟨b, o + k * 10 + 7, none⟩ = some (.bool tx) := hcell 7 _ rfl
        have a8 : wr.cell? ⟨b, o + k * 10 + 8, none⟩ = some (.int .i64 ct) := hcell 8 _ rfl
        have a9 : wr.cell? ⟨b, o + k * 10 + 9, none⟩ = some (.slice A4 n4 c4) := hcell 9 _ rfl
        clear hcell hxk hfit hrd
        obtain ⟨w4, hw4⟩ : ∃ w4, w4 = wr.alloc (.cells #[.int .i64 ba, .int .i64 la, .int .i64 fr, .int .i64 ep, .int .i64 pi, .int .i64 ge, .int .i64 se, .bool tx, .int .i64 ct, .slice A4 n4 c4] 39) := ⟨_, rfl⟩
        have hN : w.heap.size < wr.heap.size := by omega
        have HB4 := Lib.hid (show Below wr.heap.size wr w4 by rw [hw4]; exact bel_alloc (Below.refl _ _) _)
        have hs4 := HB4.out.size
        have HRS := Lib.hid ((HO.out.rd.below HB4.out (Nat.le_refl _)).more hs4)
        have HRC := Lib.hid ((HRD.out.below HB4.out hsz).more (Nat.le_trans hsz hs4))
        have HT4 := Lib.hid (HTT.out.bel HB4.out)
        have hX4 : w2.heap.size < w4.heap.size := by omega
        have hN4 : w.heap.size < w4.heap.size := by omega
        have hT4 : wr.heap.size < w4.heap.size := by rw [hw4]; simp
        have x0' := (HB4.out.cell (p := ⟨w2.heap.size, 0, none⟩) hX).trans x0
        have x1' := (HB4.out.cell (p := ⟨w2.heap.size, 1, none⟩) hX).trans x1
        have y0' := (HB4.out.frozen (p := ⟨w2.heap.size, 0, none⟩) hX).trans y0
        have y1' := (HB4.out.frozen (p := ⟨w2.heap.size, 1, none⟩) hX).trans y1
        have r0' := (HB4.out.cell (p := ⟨w.heap.size, 0, none⟩) hN).trans r0
        have r1' := (HB4.out.cell (p := ⟨w.heap.size, 1, none⟩) hN).trans r1
        have f0' := (HB4.out.frozen (p := ⟨w.heap.size, 0, none⟩) hN).trans f0
        have f1' := (HB4.out.frozen (p := ⟨w.heap.size, 1, none⟩) hN).trans f1
        have b1' : w4.cell? ⟨wr.heap.size, 1, none⟩ = some (.int .i64 la) := by rw [hw4]; simp [go_sem]
        have HAP := Lib.hid (apS_of (b := ⟨ba, la, fr, ep, pi, ge, se, tx, ct, rs⟩) HSW.out HIL.out)
        obtain ⟨sb, ss⟩ := s
        obtain rfl : sb = base := HSB.out
        rcases hx : bhS ⟨sb, ss⟩ (endS ⟨sb, ss⟩) ⟨ba, la, fr, ep, pi, ge, se, tx, ct, rs⟩ limit with ⟨⟨xb, xs⟩, xe⟩
        have HX := Lib.hid hx
        rw [hx] at HAP
        simp only at hn1 hsl
        clear hx
        by_cases hxe : xe = 0
        · subst hxe
          have hg := apS_good HAP.out
          have hem := endS_more HAP.out
          have hlim := HIL.out
          simp [isL] at hlim
          have hlast := chB_last hg.2.2.1
          have hmore := hg.2.2.2.2.1
          have hxx := hg.2.2.2.2.2.1
          have HWX := Lib.hid hg.2.2.2.2.2.2.1
          obtain ⟨rfl, rfl⟩ : xb = sb ∧ xs = ss ++ byB ⟨ba, la, fr, ep, pi, ge, se, tx, ct, rs⟩ := by injection hxx with h1 h2; exact ⟨h1, h2⟩
          simp only at hlast hmore
          have HEM := Lib.hid hem
          have HLL := Lib.hid (show (ss ++ byB ⟨ba, la, fr, ep, pi, ge, se, tx, ct, rs⟩).length ≤ 4096 by rw [List.length_append]; omega)
          have HALL2 := Lib.hid (show ofS xb bs limit = allS limit ⟨xb, ss ++ byB ⟨ba, la, fr, ep, pi, ge, se, tx, ct, rs⟩⟩ (bs.drop (k + 1)) by rw [HALL.out, HD.out, allS_cons, HAP.out]; simp only; rw [if_neg (by simp)])
          clear hg hem hxx hmore
          subst hw4
          go_wp2_with (first
            | (go_at_call 91; refine (behind_any A1 n1 c1 xb ss (endS ⟨xb, ss⟩) ba la fr ep pi ge se tx ct rs A4 n4 c4 limit _ HRS.out HO.out.cap (by omega) HFIT.out HRC.out hn4 HT4.out).mono ?_; rw [HX.out]; rintro e w5 ⟨A5, n5, c5, rfl, ho5, hb5⟩; have X0 := (hb5.cell (p := ⟨w2.heap.size, 0, none⟩) hX4).trans x0'; have X1 := (hb5.cell (p := ⟨w2.heap.size, 1, none⟩) hX4).trans x1'; have Y0 := (hb5.frozen (p := ⟨w2.heap.size, 0, none⟩) hX4).trans y0'; have Y1 := (hb5.frozen (p := ⟨w2.heap.size, 1, none⟩) hX4).trans y1'; have R0 := (hb5.cell (p := ⟨w.heap.size, 0, none⟩) hN4).trans r0'; have R1 := (hb5.cell (p := ⟨w.heap.size, 1, none⟩) hN4).trans r1'; have F0 := (hb5.frozen (p := ⟨w.heap.size, 0, none⟩) hN4).trans f0'; have F1 := (hb5.frozen (p := ⟨w.heap.size, 1, none⟩) hN4).trans f1'; have B1 := (hb5.cell (p := ⟨wr.heap.size, 1, none⟩) hT4).trans b1'; have HO5 := Lib.hid ho5; have HB5 := Lib.hid hb5; clear hb5 ho5))
          go_roundw
          case rel =>
            refine ⟨k + 1, ⟨xb, ss ++ byB ⟨ba, la, fr, ep, pi, ge, se, tx, ct, rs⟩⟩, A5, n5, c5, by go_num, by omega, by rw [HEM.out], rfl, HWX.out, HLL.out, HALL2.out, by simp [go_sem, X0], by simp [go_sem, X1], ?_, ?_, (cell_off (by simp; omega)).trans ((cell_off (by simp; omega)).trans R0), (cell_off (by simp; omega)).trans ((cell_off (by simp; omega)).trans R1), ?_, ?_, ?_, ?_, fun g hg => ?_, ((HBL.out.trans ((HB4.out.trans (HB5.out.mono hs4)).mono hsz)).setCell (by simp only; omega) _).setCell (by simp only; omega) _⟩
            · rw [World.frozen?_setCell, World.frozen?_setCell]; exact Y0
            · rw [World.frozen?_setCell, World.frozen?_setCell]; exact Y1
            · rw [World.frozen?_setCell, World.frozen?_setCell]; exact F0
            · rw [World.frozen?_setCell, World.frozen?_setCell]; exact F1
            · have := HB5.out.size; simp only [World.size_setCell]; omega
            · exact OwnB.more (ownsRow_setCell_below (ownsRow_setCell_below HO5.out hX4 _) hX4 _) (by omega)
            · have := (World.ownsRow.lt HO5.out g hg).1; omega
          case measure => simp [intOf]; omega
        · have hzF : (xe == 0) = false := beqF hxe
          have HRES := Lib.hid (show ofS sb bs limit = (nilS, xe) by rw [HALL.out, HD.out, allS_cons, HAP.out]; simp only; rw [if_pos hxe])
          subst hw4
          go_wp2_with (first
            | (go_at_call 91; refine (behind_any A1 n1 c1 sb ss (endS ⟨sb, ss⟩) ba la fr ep pi ge se tx ct rs A4 n4 c4 limit _ HRS.out HO.out.cap (by omega) HFIT.out HRC.out hn4 HT4.out).mono ?_; rw [HX.out]; rintro e w5 ⟨A5, n5, c5, rfl, ho5, hb5⟩; have X0 := (hb5.cell (p := ⟨w2.heap.size, 0, none⟩) hX4).trans x0'; have X1 := (hb5.cell (p := ⟨w2.heap.size, 1, none⟩) hX4).trans x1'; have Y0 := (hb5.frozen (p := ⟨w2.heap.size, 0, none⟩) hX4).trans y0'; have Y1 := (hb5.frozen (p := ⟨w2.heap.size, 1, none⟩) hX4).trans y1'; have R0 := (hb5.cell (p := ⟨w.heap.size, 0, none⟩) hN4).trans r0'; have R1 := (hb5.cell (p := ⟨w.heap.size, 1, none⟩) hN4).trans r1'; have F0 := (hb5.frozen (p := ⟨w.heap.size, 0, none⟩) hN4).trans f0'; have F1 := (hb5.frozen (p := ⟨w.heap.size, 1, none⟩) hN4).trans f1'; have B1 := (hb5.cell (p := ⟨wr.heap.size, 1, none⟩) hT4).trans b1'; have HO5 := Lib.hid ho5; have HB5 := Lib.hid hb5; clear hb5 ho5))
          refine bodyPost_ret (v := .tuple #[.agg #[.int .i64 0, .slice none 0 0], .int .i64 xe]) ?_ rfl ?_
          · simp [results, Tryz.results58, go_sem, R0, R1]
          rw [HRES.out]
          exact ⟨none, 0, 0, rfl, OwnB.nil, ((((HBL.out.trans ((HB4.out.trans (HB5.out.mono hs4)).mono hsz)).setCell (by simp only; omega) _).setCell (by simp only; omega) _).setCell (by simp) _).setCell (by simp) _⟩
      · have hkn : k = n := by omega
        subst hkn
        have HRES := Lib.hid (show ofS base bs limit = (s, 0) by rw [HALL.out, List.drop_of_length_le (by omega)]; rfl)
        obtain ⟨sb, ss⟩ := s
        obtain rfl : sb = base := HSB.out
        go_wp2
        refine bodyPost_ret (v := .tuple #[.agg #[.int .i64 sb, .slice A1 n1 c1], .int .i64 0]) (by simp [results, Tryz.results58, go_sem, r0, r1]) rfl ?_
        rw [HRES.out]
        exact ⟨A1, n1, c1, rfl, OwnB.more (ownsRow_setCell_below (ownsRow_setCell_below HO.out (by simp) _) (by simp) _) (by omega), (HBL.out.setCell (by simp) _).setCell (by simp) _⟩
end Go.Proofs.YtejcjmiofidedaaGreatDoor.Seg

/- The landed Of, its answer named. -/
namespace Go.Proofs.YtejcjmiofidedaaGreatDoor.Seg
open Go.RowKit Oct Rec Crc Bat Lay

section
variable {A : Option Addr} {n c : Nat} {base : Int} {bs : List UInt8} {w : World} {xb xe : Int} {xs : List UInt8}
theorem Of_is {L : List Bt} {limit : Int} (h : ofS base L limit = (⟨xb, xs⟩, xe)) (hr : RdT w w.heap.size A n L) (hn : n ≤ 1099511627776) (hI : I64 base) (ht : Tab w) :
    Calls Tryz.prog 58 #[.int .i64 base, .slice A n c, .int .i64 limit] w (TSg w xb xs xe) := by
  have h1 := Of_any base A n c L limit w hr hn hI ht
  rw [h] at h1
  exact h1
end
end Go.Proofs.YtejcjmiofidedaaGreatDoor.Seg
