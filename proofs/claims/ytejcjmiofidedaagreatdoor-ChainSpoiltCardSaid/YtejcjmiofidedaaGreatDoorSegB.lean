/- Joined: SegB. -/
import Derived.Test.YtejcjmiofidedaaGreatDoorSegF
import Derived.Test.YtejcjmiofidedaaGreatDoorRowN
import Derived.Test.YtejcjmiofidedaaGreatDoorJBatK
/- The contracts of the landed seg.behind and seg.Append. -/
namespace Go.Proofs.YtejcjmiofidedaaGreatDoor.Seg
open Go.RowKit Oct Rec Crc Bat

def bhS (s : Sg) (e : Int) (b : Bt) (limit : Int) : Sg × Int :=
  if chB b ≠ 0 then (nilS, chB b)
  else if b.base < e then (nilS, 71)
  else if limit < (s.bytes.length : Int) + (byB b).length then (nilS, 70)
  else (⟨s.base, s.bytes ++ byB b⟩, 0)
theorem apS_bh (s : Sg) (b : Bt) (limit : Int) : apS s b limit = if wholeS s = false ∨ limit < 1 ∨ 4096 < limit then (nilS, 1) else bhS s (endS s) b limit := rfl
set_option maxRecDepth 100000 in
set_option maxHeartbeats 4000000 in
theorem behind_any (A : Option Addr) (n c : Nat) (base : Int) (bs : List UInt8) (e0 : Int) (ba la fr ep pi ge se : Int) (tx : Bool) (ct : Int) (rs : List Rc) (A4 : Option Addr) (n4 c4 : Nat) (limit : Int) (w : World) (hr : Rd w w.heap.size A n bs) (hc : n ≤ c) (hn : n ≤ 137438953472)
    (hf : Fits ⟨ba, la, fr, ep, pi, ge, se, tx, ct, rs⟩) (hrb : RdR w w.heap.size A4 n4 rs) (hn4 : n4 ≤ 1099511627776) (ht : Tab w) :
    Calls Tryz.prog 91 #[.agg #[.int .i64 base, .slice A n c], .int .i64 e0, .agg #[.int .i64 ba, .int .i64 la, .int .i64 fr, .int .i64 ep, .int .i64 pi, .int .i64 ge, .int .i64 se, .bool tx, .int .i64 ct, .slice A4 n4 c4], .int .i64 limit] w (RSgE w (bhS ⟨base, bs⟩ e0 ⟨ba, la, fr, ep, pi, ge, se, tx, ct, rs⟩ limit)) := by
  have HR := Lib.hid hr
  have HT := Lib.hid ht
  have HF := Lib.hid hf
  have HRB := Lib.hid hrb
  have HW1 := Lib.hid (show Below w.heap.size w (((w.alloc (.cells #[.int .i64 base, .slice A n c] 59)).alloc (.cells #[.int .i64 ba, .int .i64 la, .int .i64 fr, .int .i64 ep, .int .i64 pi, .int .i64 ge, .int .i64 se, .bool tx, .int .i64 ct, .slice A4 n4 c4] 39)).alloc (.cells #[.int .i64 0, .slice none 0 0] 59)) from bel_alloc (bel_alloc (bel_alloc (Below.refl _ _) _) _) _)
  clear hr ht hf hrb
  by_cases h1 : chB ⟨ba, la, fr, ep, pi, ge, se, tx, ct, rs⟩ = 0
  case neg =>
    have HP := Lib.hid (show ptB ⟨ba, la, fr, ep, pi, ge, se, tx, ct, rs⟩ = ([], chB ⟨ba, la, fr, ep, pi, ge, se, tx, ct, rs⟩) by unfold ptB; rw [if_neg h1])
    have he : bhS ⟨base, bs⟩ e0 ⟨ba, la, fr, ep, pi, ge, se, tx, ct, rs⟩ limit = (nilS, chB ⟨ba, la, fr, ep, pi, ge, se, tx, ct, rs⟩) := by unfold bhS; rw [if_pos h1]
    rw [he]
    obtain ⟨z, hz⟩ : ∃ z, z = chB ⟨ba, la, fr, ep, pi, ge, se, tx, ct, rs⟩ := ⟨_, rfl⟩
    rw [← hz] at HP ⊢
    have hzF : (z == 0) = false := beqF (by rw [hz]; exact h1)
    clear h1 he hz
    go_enter Tryz.func91, Tryz.ntmps91
    go_wp2_with (first | (go_at_call 109; (with_reducible refine (BPut_is ba la fr ep pi ge se tx ct rs A4 n4 c4 _ HF.out (HRB.out.below HW1.out (Nat.le_refl _) |>.more HW1.out.size) hn4 (HT.out.bel HW1.out) HP.out).mono ?_); rintro e w2 ⟨A2, n2, c2, rfl, ho2, hb2⟩; have s0 := (hb2.cell (p := ⟨w.heap.size, 0, none⟩) (by first | (simp; done) | (simp; omega))).trans (show _ = some (.int .i64 base) by simp [go_sem]); have s1 := (hb2.cell (p := ⟨w.heap.size, 1, none⟩) (by first | (simp; done) | (simp; omega))).trans (show _ = some (.slice A n c) by simp [go_sem]); have b0 := (hb2.cell (p := ⟨w.heap.size + 1, 0, none⟩) (by first | (simp; done) | (simp; omega))).trans (show _ = some (.int .i64 ba) by simp [go_sem]); have r0 := (hb2.cell (p := ⟨w.heap.size + 1 + 1, 0, none⟩) (by first | (simp; done) | (simp; omega))).trans (show _ = some (.int .i64 0) by simp [go_sem]); have r1 := (hb2.cell (p := ⟨w.heap.size + 1 + 1, 1, none⟩) (by first | (simp; done) | (simp; omega))).trans (show _ = some (.slice none 0 0) by simp [go_sem]); have f0 := (hb2.frozen (p := ⟨w.heap.size + 1 + 1, 0, none⟩) (by first | (simp; done) | (simp; omega))).trans (show _ = false by simp [go_sem]); have f1 := (hb2.frozen (p := ⟨w.heap.size + 1 + 1, 1, none⟩) (by first | (simp; done) | (simp; omega))).trans (show _ = false by simp [go_sem]); have hz2 := hb2.size; simp only [World.size_alloc] at hz2; have HB2 := Lib.hid (HW1.out.trans (hb2.mono HW1.out.size)); have HO2 := Lib.hid ho2; clear hb2 ho2))
    refine bodyPost_ret (v := .tuple #[.agg #[.int .i64 0, .slice none 0 0], .int .i64 z]) (by simp [results, Tryz.results91, go_sem, r0, r1]) rfl ?_
    exact ⟨none, 0, 0, rfl, OwnB.nil, (HB2.out.setCell (by simp; omega) _).setCell (by simp; omega) _⟩
  obtain ⟨y, hy⟩ : ∃ y, y = byB ⟨ba, la, fr, ep, pi, ge, se, tx, ct, rs⟩ := ⟨_, rfl⟩
  have HP := Lib.hid (show ptB ⟨ba, la, fr, ep, pi, ge, se, tx, ct, rs⟩ = (y, 0) by unfold ptB; rw [if_pos h1, hy])
  have hyl : y.length ≤ 2048 := by rw [hy]; exact (chB_form h1).2
  have h1' : ¬ chB ⟨ba, la, fr, ep, pi, ge, se, tx, ct, rs⟩ ≠ 0 := by omega
  have hlen := HR.out.len
  by_cases h2 : ba < e0
  · have he : bhS ⟨base, bs⟩ e0 ⟨ba, la, fr, ep, pi, ge, se, tx, ct, rs⟩ limit = (nilS, 71) := by unfold bhS; rw [if_neg h1', if_pos h2]
    rw [he]
    clear h1 h1' he hy
    go_enter Tryz.func91, Tryz.ntmps91
    go_wp2_with (first | (go_at_call 109; (with_reducible refine (BPut_is ba la fr ep pi ge se tx ct rs A4 n4 c4 _ HF.out (HRB.out.below HW1.out (Nat.le_refl _) |>.more HW1.out.size) hn4 (HT.out.bel HW1.out) HP.out).mono ?_); rintro e w2 ⟨A2, n2, c2, rfl, ho2, hb2⟩; have s0 := (hb2.cell (p := ⟨w.heap.size, 0, none⟩) (by first | (simp; done) | (simp; omega))).trans (show _ = some (.int .i64 base) by simp [go_sem]); have s1 := (hb2.cell (p := ⟨w.heap.size, 1, none⟩) (by first | (simp; done) | (simp; omega))).trans (show _ = some (.slice A n c) by simp [go_sem]); have b0 := (hb2.cell (p := ⟨w.heap.size + 1, 0, none⟩) (by first | (simp; done) | (simp; omega))).trans (show _ = some (.int .i64 ba) by simp [go_sem]); have r0 := (hb2.cell (p := ⟨w.heap.size + 1 + 1, 0, none⟩) (by first | (simp; done) | (simp; omega))).trans (show _ = some (.int .i64 0) by simp [go_sem]); have r1 := (hb2.cell (p := ⟨w.heap.size + 1 + 1, 1, none⟩) (by first | (simp; done) | (simp; omega))).trans (show _ = some (.slice none 0 0) by simp [go_sem]); have f0 := (hb2.frozen (p := ⟨w.heap.size + 1 + 1, 0, none⟩) (by first | (simp; done) | (simp; omega))).trans (show _ = false by simp [go_sem]); have f1 := (hb2.frozen (p := ⟨w.heap.size + 1 + 1, 1, none⟩) (by first | (simp; done) | (simp; omega))).trans (show _ = false by simp [go_sem]); have hz2 := hb2.size; simp only [World.size_alloc] at hz2; have HB2 := Lib.hid (HW1.out.trans (hb2.mono HW1.out.size)); have HO2 := Lib.hid ho2; clear hb2 ho2))
    refine bodyPost_ret (v := .tuple #[.agg #[.int .i64 0, .slice none 0 0], .int .i64 71]) (by simp [results, Tryz.results91, go_sem, r0, r1]) rfl ?_
    exact ⟨none, 0, 0, rfl, OwnB.nil, (HB2.out.setCell (by simp; omega) _).setCell (by simp; omega) _⟩
  by_cases h3 : limit < (n : Int) + y.length
  · have he : bhS ⟨base, bs⟩ e0 ⟨ba, la, fr, ep, pi, ge, se, tx, ct, rs⟩ limit = (nilS, 70) := by unfold bhS; rw [if_neg h1', if_neg h2, if_pos (by rw [← hy, hlen]; exact h3)]
    rw [he]
    clear h1 h1' he hy
    obtain ⟨m, hm⟩ : ∃ m, m = y.length := ⟨_, rfl⟩
    rw [← hm] at h3 hyl
    have HM := Lib.hid hm
    clear hm
    go_enter Tryz.func91, Tryz.ntmps91
    go_wp2_with (first | (go_at_call 109; (with_reducible refine (BPut_is ba la fr ep pi ge se tx ct rs A4 n4 c4 _ HF.out (HRB.out.below HW1.out (Nat.le_refl _) |>.more HW1.out.size) hn4 (HT.out.bel HW1.out) HP.out).mono ?_); rintro e w2 ⟨A2, n2, c2, rfl, ho2, hb2⟩; have s0 := (hb2.cell (p := ⟨w.heap.size, 0, none⟩) (by first | (simp; done) | (simp; omega))).trans (show _ = some (.int .i64 base) by simp [go_sem]); have s1 := (hb2.cell (p := ⟨w.heap.size, 1, none⟩) (by first | (simp; done) | (simp; omega))).trans (show _ = some (.slice A n c) by simp [go_sem]); have b0 := (hb2.cell (p := ⟨w.heap.size + 1, 0, none⟩) (by first | (simp; done) | (simp; omega))).trans (show _ = some (.int .i64 ba) by simp [go_sem]); have r0 := (hb2.cell (p := ⟨w.heap.size + 1 + 1, 0, none⟩) (by first | (simp; done) | (simp; omega))).trans (show _ = some (.int .i64 0) by simp [go_sem]); have r1 := (hb2.cell (p := ⟨w.heap.size + 1 + 1, 1, none⟩) (by first | (simp; done) | (simp; omega))).trans (show _ = some (.slice none 0 0) by simp [go_sem]); have f0 := (hb2.frozen (p := ⟨w.heap.size + 1 + 1, 0, none⟩) (by first | (simp; done) | (simp; omega))).trans (show _ = false by simp [go_sem]); have f1 := (hb2.frozen (p := ⟨w.heap.size + 1 + 1, 1, none⟩) (by first | (simp; done) | (simp; omega))).trans (show _ = false by simp [go_sem]); have hz2 := hb2.size; simp only [World.size_alloc] at hz2; have HB2 := Lib.hid (HW1.out.trans (hb2.mono HW1.out.size)); obtain rfl : m = n2 := HM.out.trans ho2.len; clear hb2 ho2))
    refine bodyPost_ret (v := .tuple #[.agg #[.int .i64 0, .slice none 0 0], .int .i64 70]) (by simp [results, Tryz.results91, go_sem, r0, r1]) rfl ?_
    exact ⟨none, 0, 0, rfl, OwnB.nil, (HB2.out.setCell (by simp; omega) _).setCell (by simp; omega) _⟩
  · have he : bhS ⟨base, bs⟩ e0 ⟨ba, la, fr, ep, pi, ge, se, tx, ct, rs⟩ limit = (⟨base, bs ++ y⟩, 0) := by unfold bhS; rw [if_neg h1', if_neg h2, if_neg (by rw [← hy, hlen]; exact h3), hy]
    rw [he]
    clear h1 h1' he hy
    obtain ⟨m, hm⟩ : ∃ m, m = y.length := ⟨_, rfl⟩
    rw [← hm] at h3 hyl
    have HM := Lib.hid hm
    clear hm
    go_enter Tryz.func91, Tryz.ntmps91
    go_wp2_with (first | (go_at_call 109; (with_reducible refine (BPut_is ba la fr ep pi ge se tx ct rs A4 n4 c4 _ HF.out (HRB.out.below HW1.out (Nat.le_refl _) |>.more HW1.out.size) hn4 (HT.out.bel HW1.out) HP.out).mono ?_); rintro e w2 ⟨A2, n2, c2, rfl, ho2, hb2⟩; have s0 := (hb2.cell (p := ⟨w.heap.size, 0, none⟩) (by first | (simp; done) | (simp; omega))).trans (show _ = some (.int .i64 base) by simp [go_sem]); have s1 := (hb2.cell (p := ⟨w.heap.size, 1, none⟩) (by first | (simp; done) | (simp; omega))).trans (show _ = some (.slice A n c) by simp [go_sem]); have b0 := (hb2.cell (p := ⟨w.heap.size + 1, 0, none⟩) (by first | (simp; done) | (simp; omega))).trans (show _ = some (.int .i64 ba) by simp [go_sem]); have r0 := (hb2.cell (p := ⟨w.heap.size + 1 + 1, 0, none⟩) (by first | (simp; done) | (simp; omega))).trans (show _ = some (.int .i64 0) by simp [go_sem]); have r1 := (hb2.cell (p := ⟨w.heap.size + 1 + 1, 1, none⟩) (by first | (simp; done) | (simp; omega))).trans (show _ = some (.slice none 0 0) by simp [go_sem]); have f0 := (hb2.frozen (p := ⟨w.heap.size + 1 + 1, 0, none⟩) (by first | (simp; done) | (simp; omega))).trans (show _ = false by simp [go_sem]); have f1 := (hb2.frozen (p := ⟨w.heap.size + 1 + 1, 1, none⟩) (by first | (simp; done) | (simp; omega))).trans (show _ = false by simp [go_sem]); have hz2 := hb2.size; simp only [World.size_alloc] at hz2; have HB2 := Lib.hid (HW1.out.trans (hb2.mono HW1.out.size)); obtain rfl : m = n2 := HM.out.trans ho2.len; have HO2 := Lib.hid ho2; clear hb2 ho2))
    have HRW := Lib.hid ((HR.out.below HB2.out (Nat.le_refl _)).more HB2.out.size)
    have HA0 := Lib.hid s0
    have HA1 := Lib.hid s1
    have HFL := Lib.hid (show [bs, y].flatten = bs ++ y by simp)
    have HLL := Lib.hid (show [bs, y].flatten.length ≤ 1099511627776 by rw [HFL.out, List.length_append, hlen, ← HM.out]; omega)
    have hcp := HO2.out.cap
    clear s0 s1 b0
    go_region_held3 (fun x : World => x.cell? ⟨w.heap.size, 0, none⟩ = some (.int .i64 base) ∧ x.cell? ⟨w.heap.size, 1, none⟩ = some (.slice A n c)) (first | exact ⟨HA0.out, HA1.out⟩ | exact ⟨(World.cell?_alloc_lt _ _ _ (show w.heap.size < w2.heap.size by omega)).trans HA0.out, (World.cell?_alloc_lt _ _ _ (show w.heap.size < w2.heap.size by omega)).trans HA1.out⟩ | exact ⟨P0, P1⟩ | exact ⟨(cell_off (by simp; omega)).trans ((cell_off (by simp; omega)).trans P0), (cell_off (by simp; omega)).trans ((cell_off (by simp; omega)).trans P1)⟩) (first
      | (go_at_call 110; refine (RowN.Concat_any _ 2 2 [bs, y] _ _ (RowN.rdn_two (w := w2.drew) 57 (0, 0) A A2 n c m c2 bs y (Nat.le_refl _) HRW.out.drew hc HO2.out.rd.drew hcp) (by simp) (by omega) HLL.out).mono ?_; rw [HFL.out]; rintro e w3 ⟨A3, n3, c3, rfl, ho3, hb3⟩; have hb4 := (bel_alloc (Below.refl w2.drew.heap.size w2.drew) (.cells #[.slice A n c, .slice A2 m c2] 57)).trans (hb3.mono (by simp)); have P0 := (hb4.cell (p := ⟨w.heap.size, 0, none⟩) (show w.heap.size < w2.heap.size by omega)).trans HA0.out; have P1 := (hb4.cell (p := ⟨w.heap.size, 1, none⟩) (show w.heap.size < w2.heap.size by omega)).trans HA1.out; have e3 := (hb4.cell (p := ⟨w.heap.size + 1 + 1, 0, none⟩) (show w.heap.size + 1 + 1 < w2.heap.size by omega)).trans r0; have e4 := (hb4.cell (p := ⟨w.heap.size + 1 + 1, 1, none⟩) (show w.heap.size + 1 + 1 < w2.heap.size by omega)).trans r1; have q3 := (hb4.frozen (p := ⟨w.heap.size + 1 + 1, 0, none⟩) (show w.heap.size + 1 + 1 < w2.heap.size by omega)).trans f0; have q4 := (hb4.frozen (p := ⟨w.heap.size + 1 + 1, 1, none⟩) (show w.heap.size + 1 + 1 < w2.heap.size by omega)).trans f1; have HB4 := Lib.hid hb4; have HO3 := Lib.hid (ho3.more (show w2.drew.heap.size ≤ _ by simp)); clear hb3 hb4 ho3))
    go_wp2
    refine bodyPost_ret (v := .tuple #[.agg #[.int .i64 base, .slice A3 n3 c3], .int .i64 0]) (by simp [results, Tryz.results91, go_sem, e3, e4]) rfl ?_
    exact ⟨A3, n3, c3, rfl, OwnB.more (ownsRow_setCell_below (ownsRow_setCell_below HO3.out (show w.heap.size + 1 + 1 < w2.heap.size by omega) _) (show w.heap.size + 1 + 1 < w2.heap.size by omega) _) HB2.out.size, ((HB2.out.drew.trans (HB4.out.mono HB2.out.size)).setCell (by simp; omega) _).setCell (by simp; omega) _⟩
end Go.Proofs.YtejcjmiofidedaaGreatDoor.Seg
