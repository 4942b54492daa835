/- Joined: SegR5. -/
import Derived.Test.YtgjbfhmfhmihhaaDoorSegR2
import Derived.Test.YtgjbfhmfhmihhaaDoorSegC
/- The document's Cut of a segment. -/
namespace Go.Proofs.YtgjbfhmfhmihhaaDoor.Seg
open Go.RowKit Go.Proofs.YtgjbfhmfhmihhaaDoor.Oct Go.Proofs.YtgjbfhmfhmihhaaDoor.Rec Go.Proofs.YtgjbfhmfhmihhaaDoor.Crc Go.Proofs.YtgjbfhmfhmihhaaDoor.Bat

def rcRel (off : Int) (l : List Bt) (n2 : Nat) (w : World) (vn i : Value) (wr : World) : Prop :=
  ∃ k : Nat, vn = .int .i64 ((byR (l.take k)).length : Int) ∧ i = .int .i64 (k : Int) ∧ k ≤ n2 ∧ (∀ b ∈ l.take k, b.last < off) ∧ Below w.heap.size w wr
theorem take_snoc {l : List Bt} {k : Nat} {b : Bt} (h : l[k]? = some b) : l.take (k + 1) = l.take k ++ [b] := by rw [List.take_add_one, h]; rfl
theorem split_at9 {l : List Bt} {k : Nat} {b : Bt} (h : l[k]? = some b) : l = l.take k ++ b :: l.drop (k + 1) := by
  obtain ⟨hlt, hr⟩ := List.getElem?_eq_some_iff.1 h
  conv => lhs; rw [← List.take_append_drop k l, List.drop_eq_getElem_cons hlt, hr]
theorem szB_of {b : Bt} (h : chB b = 0) : szB b = ((byB b).length : Int) := by unfold szB; rw [if_pos h]
set_option maxRecDepth 100000 in
set_option maxHeartbeats 8000000 in
theorem refCut_any (A : Option Addr) (n c : Nat) (base off : Int) (bs : List UInt8) (w : World) (hr : Rd w w.heap.size A n bs) (hc : n ≤ c) (hn : n ≤ 137438953472) (hI : I64 base) :
    Calls Tryd.prog 33 #[.agg #[.int .i64 base, .slice A n c], .int .i64 off] w (RSg w (cutS ⟨base, bs⟩ off)) := by
  have HR := Lib.hid hr
  have hlen := hr.len
  have HSC := Lib.hid (sc_good base bs)
  obtain ⟨l, hl⟩ : ∃ l, l = (sc base bs).1 := ⟨_, rfl⟩
  have HL := Lib.hid hl
  have hll : (byR l).length ≤ n := by have h1 := HSC.out.2.1; have h2 := HSC.out.2.2.2.1; rw [← hl] at h1; omega
  have hln := byR_ge l
  clear hr
  go_enter Tryd.func33, Tryd.ntmps33
  go_wp2_with (first | (go_at_call 16; refine (refScan_any A n c base bs _ (((HR.out.alloc (Nat.le_refl _) _).alloc (by simp) _).more (by simp; omega)) hc hn hI).mono ?_; rintro e w2 ⟨A2, n2, c2, rfl, ho2, hb2⟩; have a0 := (hb2.cell (p := ⟨w.heap.size, 0, none⟩) (by first | (simp; done) | (simp; omega))).trans (show _ = some (.int .i64 base) by simp [go_sem]); have a1 := (hb2.cell (p := ⟨w.heap.size, 1, none⟩) (by first | (simp; done) | (simp; omega))).trans (show _ = some (.slice A n c) by simp [go_sem]); have e0 := (hb2.cell (p := ⟨w.heap.size + 1, 0, none⟩) (by first | (simp; done) | (simp; omega))).trans (show _ = some (.int .i64 0) by simp [go_sem]); have e1 := (hb2.cell (p := ⟨w.heap.size + 1, 1, none⟩) (by first | (simp; done) | (simp; omega))).trans (show _ = some (.slice none 0 0) by simp [go_sem]); have q0 := (hb2.frozen (p := ⟨w.heap.size + 1, 0, none⟩) (by first | (simp; done) | (simp; omega))).trans (show _ = false by simp [go_sem]); have q1 := (hb2.frozen (p := ⟨w.heap.size + 1, 1, none⟩) (by first | (simp; done) | (simp; omega))).trans (show _ = false by simp [go_sem]); have hz2 := hb2.size; simp only [World.size_alloc] at hz2; have HB2 := Lib.hid ((bel_alloc (bel_alloc (Below.refl _ _) (.cells #[.int .i64 base, .slice A n c] 24)) (.cells #[.int .i64 0, .slice none 0 0] 24)).trans (hb2.mono (by simp; omega))); have HO2 := Lib.hid ho2.rd; have hl2 := ho2.len; clear hb2 ho2))
  rw [← hl] at HO2 hl2
  clear hl
  go_loopw [7, 17] (fun vn i wr => rcRel off l n2 w2 vn i wr) (fun _ i _ => n2 - (intOf i).toNat)
  case atStart => exact ⟨0, rfl, rfl, Nat.zero_le _, by simp, Below.refl _ _⟩
  case round =>
    obtain ⟨k, rfl, rfl, hk, hall, hB⟩ := hrel
    have HALL := Lib.hid hall
    have HBL := Lib.hid hB
    have HRR := Lib.hid (HO2.out.below hB (Nat.le_refl _))
    have hsz := hB.size
    clear hall hB
    by_cases hlt : k < n2
    · obtain ⟨b, o, x, A4, n4, c4, rfl, hbl, hxk, hc4, hn4, hrd, hfit, hcell⟩ := HRR.out.at hlt
      have HCH := Lib.hid (show chB x = 0 from by
        have h1 := HSC.out.1
        rw [← HL.out] at h1
        obtain ⟨p, q, h2⟩ := List.append_of_mem (List.mem_of_getElem? hxk)
        rw [h2, ris_app, ris_cons] at h1
        exact h1.2.1.1)
      have HTS := Lib.hid (take_snoc hxk)
      have HSPL := Lib.hid (show (sc base bs).1 = l.take k ++ x :: l.drop (k + 1) from HL.out.symm.trans (split_at9 hxk))
      have hsl : (byR (l.take (k + 1))).length ≤ (byR l).length := by
        have h1 : (byR (l.take (k + 1) ++ l.drop (k + 1))).length = (byR l).length := by rw [List.take_append_drop]
        rw [byR_app, List.length_append] at h1
        omega
      obtain ⟨ba, la, fr, ep, pi, ge, se, tx, ct, rs⟩ := x
      have HFIT := Lib.hid hfit
      have HRD := Lib.hid hrd
      have a0' : wr.cell? ⟨b, o + k * 10, none⟩ = some (.int .i64 ba) := hcell 0 _ rfl
      have a1' : wr.cell? ⟨b, o + k * 10 + 1, none⟩ = some (.int .i64 la) := hcell 1 _ rfl
      have a2' : wr.cell? ⟨b, o + k * 10 + 2, none⟩ = some (.int .i64 fr) := hcell 2 _ rfl
      have a3' : wr.cell? ⟨b, o + k * 10 + 3, none⟩ = some (.int .i64 ep) := hcell 3 _ rfl
      have a4' : wr.cell? ⟨b, o + k * 10 + 4, none⟩ = some (.int .i64 pi) := hcell 4 _ rfl
      have a5' : wr.cell? ⟨b, o + k * 10 + 5, none⟩ = some (.int .i64 ge) := hcell 5 _ rfl
      have a6' : wr.cell? ⟨b, o + k * 10 + 6, none⟩ = some (.int .i64 se) := hcell 6 _ rfl
      have a7' : wr.cell? ⟨b, o + k * 10 + 7, none⟩ = some (.bool tx) := hcell 7 _ rfl
      have a8' : wr.cell? ⟨b, o + k * 10 + 8, none⟩ = some (.int .i64 ct) := hcell 8 _ rfl
      have a9' : wr.cell? ⟨b, o + k * 10 + 9, none⟩ = some (.slice A4 n4 c4) := hcell 9 _ rfl
      clear hcell hxk hfit hrd
      by_cases hlo : off ≤ la
      · have hcut := ahead_stop (x := ⟨ba, la, fr, ep, pi, ge, se, tx, ct, rs⟩) (rest := l.drop (k + 1)) HALL.out hlo
        obtain ⟨ht1, ht2⟩ := take_byR HSPL.out
        have HRES := Lib.hid (show cutS ⟨base, bs⟩ off = ⟨base, bs.take (byR (l.take k)).length⟩ by unfold cutS batS; rw [HSPL.out, hcut, ht1])
        clear hcut ht1 hsl
        obtain ⟨w5, hw5⟩ : ∃ w5, wr.alloc (.cells #[.int .i64 ba, .int .i64 la, .int .i64 fr, .int .i64 ep, .int .i64 pi, .int .i64 ge, .int .i64 se, .bool tx, .int .i64 ct, .slice A4 n4 c4] 39) = w5 := ⟨_, rfl⟩
        have HBL5 := Lib.hid (show Below w2.heap.size w2 w5 by rw [← hw5]; exact HBL.out.alloc hsz _)
        have hx1 : w5.cell? ⟨wr.heap.size, 1, none⟩ = some (.int .i64 la) := by rw [← hw5]; simp [go_sem]
        clear HBL hsz
        have HBL := HBL5
        have hsz := HBL.out.size
        obtain ⟨G, hG⟩ : ∃ G, G = (byR (l.take k)).length := ⟨_, rfl⟩
        rw [← hG] at ht2 HRES ⊢
        rw [hlen] at ht2
        clear hG
        have hmc : G ≤ c := by omega
        have HRW := Lib.hid ((HR.out.below (HB2.out.trans (HBL.out.mono HB2.out.size)) (Nat.le_refl _)).more (show w.heap.size ≤ w5.heap.size by omega))
        have HRM := Lib.hid (show Rd w5 w5.heap.size A G (bs.take G) from by have h := HRW.out.cut (i := 0) (m := G) (by omega) A (fun _ => by cases A <;> simp [Addr.add]); simpa using h)
        have HA0 := Lib.hid ((HBL.out.cell (p := ⟨w.heap.size, 0, none⟩) (show w.heap.size < w2.heap.size by omega)).trans a0)
        have HA1 := Lib.hid ((HBL.out.cell (p := ⟨w.heap.size, 1, none⟩) (show w.heap.size < w2.heap.size by omega)).trans a1)
        have HE0 := Lib.hid ((HBL.out.cell (p := ⟨w.heap.size + 1, 0, none⟩) (show w.heap.size + 1 < w2.heap.size by omega)).trans e0)
        have HE1 := Lib.hid ((HBL.out.cell (p := ⟨w.heap.size + 1, 1, none⟩) (show w.heap.size + 1 < w2.heap.size by omega)).trans e1)
        have HQ0 := Lib.hid ((HBL.out.frozen (p := ⟨w.heap.size + 1, 0, none⟩) (show w.heap.size + 1 < w2.heap.size by omega)).trans q0)
        have HQ1 := Lib.hid ((HBL.out.frozen (p := ⟨w.heap.size + 1, 1, none⟩) (show w.heap.size + 1 < w2.heap.size by omega)).trans q1)
        clear a0 a1 e0 e1 q0 q1
        go_wp2
        go_region_held3 (fun x : World => x.cell? ⟨w.heap.size, 0, none⟩ = some (.int .i64 base) ∧ x.cell? ⟨w.heap.size, 1, none⟩ = some (.slice A n c)) (first | exact ⟨HA0.out, HA1.out⟩ | exact ⟨P0, P1⟩ | exact ⟨(cell_off (by simp)).trans ((cell_off (by simp)).trans P0), (cell_off (by simp)).trans ((cell_off (by simp)).trans P1)⟩) (first
          | (go_at_call 14; refine (Copy_any A G c (bs.take G) w5.heap.size _ HRM.out.drew (by omega)).mono ?_; rintro e w3 ⟨A3, n3, c3, rfl, ho3, hb3⟩; have P0 := (hb3.cell (p := ⟨w.heap.size, 0, none⟩) (show w.heap.size < w5.heap.size by omega)).trans HA0.out; have P1 := (hb3.cell (p := ⟨w.heap.size, 1, none⟩) (show w.heap.size < w5.heap.size by omega)).trans HA1.out; have e3 := (hb3.cell (p := ⟨w.heap.size + 1, 0, none⟩) (show w.heap.size + 1 < w5.heap.size by omega)).trans HE0.out; have e4 := (hb3.cell (p := ⟨w.heap.size + 1, 1, none⟩) (show w.heap.size + 1 < w5.heap.size by omega)).trans HE1.out; have q3 := (hb3.frozen (p := ⟨w.heap.size + 1, 0, none⟩) (show w.heap.size + 1 < w5.heap.size by omega)).trans HQ0.out; have q4 := (hb3.frozen (p := ⟨w.heap.size + 1, 1, none⟩) (show w.heap.size + 1 < w5.heap.size by omega)).trans HQ1.out; have HB3 := Lib.hid hb3; have HO3 := Lib.hid ho3; clear hb3 ho3))
        go_wp2
        refine bodyPost_ret (v := .agg #[.int .i64 base, .slice A3 n3 c3]) (by simp [results, Tryd.results33, go_sem, e3, e4]) rfl ?_
        rw [HRES.out]
        exact ⟨A3, n3, c3, rfl, OwnB.more (ownsRow_setCell_below (ownsRow_setCell_below HO3.out (show w.heap.size + 1 < w5.heap.size by omega) _) (show w.heap.size + 1 < w5.heap.size by omega) _) (show w.heap.size ≤ w5.heap.size by omega), (((HB2.out.trans (HBL.out.mono HB2.out.size)).drew.trans (HB3.out.mono (show w.heap.size ≤ w5.heap.size by omega))).setCell (by simp) _).setCell (by simp) _⟩
      · have hla : la < off := by omega
        have HSZ := Lib.hid (szB_of HCH.out)
        have hb48 := (chB_form HCH.out).2
        have HTB := Lib.hid (show (byR (l.take (k + 1))).length = (byR (l.take k)).length + (byB ⟨ba, la, fr, ep, pi, ge, se, tx, ct, rs⟩).length by rw [HTS.out, byR_snoc, List.length_append])
        have htb := HTB.out
        obtain ⟨g, hg⟩ : ∃ g, g = (byR (l.take k)).length := ⟨_, rfl⟩
        obtain ⟨y, hy⟩ : ∃ y, y = (byB ⟨ba, la, fr, ep, pi, ge, se, tx, ct, rs⟩).length := ⟨_, rfl⟩
        rw [← hg, ← hy] at htb HTB
        rw [← hy] at HSZ hb48
        rw [← hg]
        have hwg : g + y ≤ 137438953472 := by omega
        have HRD5 := Lib.hid (show RdR (wr.alloc (.cells #[.int .i64 ba, .int .i64 la, .int .i64 fr, .int .i64 ep, .int .i64 pi, .int .i64 ge, .int .i64 se, .bool tx, .int .i64 ct, .slice A4 n4 c4] 39)) (wr.alloc (.cells #[.int .i64 ba, .int .i64 la, .int .i64 fr, .int .i64 ep, .int .i64 pi, .int .i64 ge, .int .i64 se, .bool tx, .int .i64 ct, .slice A4 n4 c4] 39)).heap.size A4 n4 rs from (HRD.out.more hsz).below (bel_alloc (Below.refl _ _) _) (Nat.le_refl _) |>.more (by simp))
        have HALL2 := Lib.hid (show ∀ b ∈ l.take (k + 1), b.last < off by
          rw [HTS.out]
          intro b hb
          rcases List.mem_append.1 hb with h9 | h9
          · exact HALL.out b h9
          · obtain rfl : b = _ := by simpa using h9
            exact hla)
        clear htb hg hy hsl
        go_wp2_with (first
          | (go_at_call 46; refine (refSizeB_is ba la fr ep pi ge se tx ct rs A4 n4 c4 _ HFIT.out HRD5.out hn4 HSZ.out).mono ?_; rintro e w6 ⟨rfl, hb6⟩; have HB6 := Lib.hid hb6; clear hb6))
        go_roundw
        case rel => exact ⟨k + 1, by rw [HTB.out]; go_num, by go_num, by omega, HALL2.out, (HBL.out.alloc hsz _).trans (HB6.out.mono (by simp; omega))⟩
        case measure => simp [intOf]; omega
    · have hkn : k = n2 := by omega
      subst hkn
      have htk : l.take k = l := List.take_of_length_le (by omega)
      have hcut := ahead_all HALL.out
      rw [htk] at hcut ⊢
      obtain ⟨ht1, ht2⟩ := take_byR (p := l) (rest := []) (by rw [List.append_nil, HL.out])
      have HRES := Lib.hid (show cutS ⟨base, bs⟩ off = ⟨base, bs.take (byR l).length⟩ by unfold cutS batS; rw [← HL.out, hcut, ht1])
      clear hcut ht1 htk
      obtain ⟨G, hG⟩ : ∃ G, G = (byR l).length := ⟨_, rfl⟩
      rw [← hG] at ht2 HRES ⊢
      rw [hlen] at ht2
      clear hG
      have hmc : G ≤ c := by omega
      have HRW := Lib.hid ((HR.out.below (HB2.out.trans (HBL.out.mono HB2.out.size)) (Nat.le_refl _)).more (show w.heap.size ≤ wr.heap.size by omega))
      have HRM := Lib.hid (show Rd wr wr.heap.size A G (bs.take G) from by have h := HRW.out.cut (i := 0) (m := G) (by omega) A (fun _ => by cases A <;> simp [Addr.add]); simpa using h)
      have HA0 := Lib.hid ((HBL.out.cell (p := ⟨w.heap.size, 0, none⟩) (show w.heap.size < w2.heap.size by omega)).trans a0)
      have HA1 := Lib.hid ((HBL.out.cell (p := ⟨w.heap.size, 1, none⟩) (show w.heap.size < w2.heap.size by omega)).trans a1)
      have HE0 := Lib.hid ((HBL.out.cell (p := ⟨w.heap.size + 1, 0, none⟩) (show w.heap.size + 1 < w2.heap.size by omega)).trans e0)
      have HE1 := Lib.hid ((HBL.out.cell (p := ⟨w.heap.size + 1, 1, none⟩) (show w.heap.size + 1 < w2.heap.size by omega)).trans e1)
      have HQ0 := Lib.hid ((HBL.out.frozen (p := ⟨w.heap.size + 1, 0, none⟩) (show w.heap.size + 1 < w2.heap.size by omega)).trans q0)
      have HQ1 := Lib.hid ((HBL.out.frozen (p := ⟨w.heap.size + 1, 1, none⟩) (show w.heap.size + 1 < w2.heap.size by omega)).trans q1)
      clear a0 a1 e0 e1 q0 q1
      go_wp2
      go_region_held3 (fun x : World => x.cell? ⟨w.heap.size, 0, none⟩ = some (.int .i64 base) ∧ x.cell? ⟨w.heap.size, 1, none⟩ = some (.slice A n c)) (first | exact ⟨HA0.out, HA1.out⟩ | exact ⟨P0, P1⟩ | exact ⟨(cell_off (by simp)).trans ((cell_off (by simp)).trans P0), (cell_off (by simp)).trans ((cell_off (by simp)).trans P1)⟩) (first
        | (go_at_call 14; refine (Copy_any A G c (bs.take G) wr.heap.size _ HRM.out.drew (by omega)).mono ?_; rintro e w3 ⟨A3, n3, c3, rfl, ho3, hb3⟩; have P0 := (hb3.cell (p := ⟨w.heap.size, 0, none⟩) (show w.heap.size < wr.heap.size by omega)).trans HA0.out; have P1 := (hb3.cell (p := ⟨w.heap.size, 1, none⟩) (show w.heap.size < wr.heap.size by omega)).trans HA1.out; have e3 := (hb3.cell (p := ⟨w.heap.size + 1, 0, none⟩) (show w.heap.size + 1 < wr.heap.size by omega)).trans HE0.out; have e4 := (hb3.cell (p := ⟨w.heap.size + 1, 1, none⟩) (show w.heap.size + 1 < wr.heap.size by omega)).trans HE1.out; have q3 := (hb3.frozen (p := ⟨w.heap.size + 1, 0, none⟩) (show w.heap.size + 1 < wr.heap.size by omega)).trans HQ0.out; have q4 := (hb3.frozen (p := ⟨w.heap.size + 1, 1, none⟩) (show w.heap.size + 1 < wr.heap.size by omega)).trans HQ1.out; have HB3 := Lib.hid hb3; have HO3 := Lib.hid ho3; clear hb3 ho3))
      go_wp2
      refine bodyPost_ret (v := .agg #[.int .i64 base, .slice A3 n3 c3]) (by simp [results, Tryd.results33, go_sem, e3, e4]) rfl ?_
      rw [HRES.out]
      exact ⟨A3, n3, c3, rfl, OwnB.more (ownsRow_setCell_below (ownsRow_setCell_below HO3.out (show w.heap.size + 1 < wr.heap.size by omega) _) (show w.heap.size + 1 < wr.heap.size by omega) _) (show w.heap.size ≤ wr.heap.size by omega), (((HB2.out.trans (HBL.out.mono HB2.out.size)).drew.trans (HB3.out.mono (show w.heap.size ≤ wr.heap.size by omega))).setCell (by simp) _).setCell (by simp) _⟩
end Go.Proofs.YtgjbfhmfhmihhaaDoor.Seg
