/- The walk of OctetOne. -/
import Derived.Test.YtjjokjgakenhlaaOctSmall
import Derived.Test.YtjjokjgakenhlaaOctShort
import Derived.Deep.RegionHeld3
namespace Go.Proofs.Ytjjokjgakenhlaa.Oct
open Go.RowKit

theorem PutText_nil (s : ByteArray) (w : World) (hs : s.size ≤ 274877906944) :
    Calls Try.prog 25 #[.slice none 0 0, .string s] w (RB 5 w.heap.size w (vb (zz s.size) ++ s.data.toList)) :=
  PutText_any none 0 0 s [] 0 w Rd.nil (Nat.zero_le _) (by omega) hs
theorem gv_bad {l : List UInt8} {p x y z : Int} (h : gv l p = (x, y, z)) (hz : z ≠ 0) : x = 0 ∧ y = 0 := by
  unfold gv at h
  by_cases h0 : p < 0
  · rw [if_pos h0] at h; simp at h; omega
  · rw [if_neg h0] at h
    cases hs : scan (l.drop p.toNat) 0 0 with
    | short => rw [hs] at h; simp at h; omega
    | form => rw [hs] at h; simp at h; omega
    | ok u n => rw [hs] at h; simp at h; omega
theorem gv_good {l : List UInt8} {p x y : Int} (h : gv l p = (x, y, 0)) :
    0 ≤ p ∧ p < y ∧ y ≤ l.length ∧ y ≤ p + 10 ∧ vb (zz x) = (l.drop p.toNat).take (y - p).toNat ∧ -9223372036854775808 ≤ x ∧ x ≤ 9223372036854775807 := by
  unfold gv at h
  by_cases h0 : p < 0
  · rw [if_pos h0] at h; simp at h
  · rw [if_neg h0] at h
    cases hs : scan (l.drop p.toNat) 0 0 with
    | short => rw [hs] at h; simp at h
    | form => rw [hs] at h; simp at h
    | ok u n =>
      rw [hs] at h
      simp only [Prod.mk.injEq, and_true] at h
      obtain ⟨h1, h2⟩ := h
      have hu := scan_lt hs
      obtain ⟨z, r, hl, hz, hk, _, hz2, h10⟩ := scan_ok _ 0 0 u n (by omega) hs
      have hz' : u = z := by simpa using hz
      subst hz'
      have h3 := congrArg List.length hl
      have h4 := vb_pos u
      have hi := uz_in hu
      simp only [List.length_drop, List.length_append] at h3
      refine ⟨by omega, by omega, by omega, by omega, ?_, by omega, by omega⟩
      rw [← h1, zz_uz, hl, List.take_left' (by omega)]
theorem gx_bad {l : List UInt8} {p most y z : Int} {t : ByteArray} (h : gx l p most = (t, y, z)) (hz : z ≠ 0) : t = ByteArray.empty ∧ y = 0 := by
  unfold gx at h
  split at h
  · simp only [Prod.mk.injEq] at h; exact ⟨h.1.symm, h.2.1.symm⟩
  · split at h
    · simp only [Prod.mk.injEq] at h; exact ⟨h.1.symm, h.2.1.symm⟩
    · split at h
      · simp only [Prod.mk.injEq] at h; exact ⟨h.1.symm, h.2.1.symm⟩
      · split at h
        · simp only [Prod.mk.injEq] at h; exact ⟨h.1.symm, h.2.1.symm⟩
        · simp only [Prod.mk.injEq] at h; exact absurd h.2.2.symm hz
theorem gx_good {l : List UInt8} {p most y : Int} {t : ByteArray} (h : gx l p most = (t, y, 0)) :
    0 ≤ p ∧ p < y ∧ y ≤ l.length ∧ (t.size : Int) ≤ most ∧ vb (zz t.size) ++ t.data.toList = (l.drop p.toNat).take (y - p).toNat ∧ t.size ≤ l.length := by
  unfold gx at h
  by_cases h1 : (gv l p).2.2 ≠ 0
  · rw [if_pos h1] at h; simp only [Prod.mk.injEq] at h; exact absurd h.2.2 h1
  · rw [if_neg h1] at h
    have hz : (gv l p).2.2 = 0 := by omega
    by_cases h2 : (gv l p).1 < 0
    · rw [if_pos h2] at h; simp at h
    · rw [if_neg h2] at h
      by_cases h3 : most < (gv l p).1
      · rw [if_pos h3] at h; simp at h
      · rw [if_neg h3] at h
        by_cases h4 : hasB l.length (gv l p).2.1 (gv l p).1 = false
        · rw [if_pos h4] at h; simp at h
        · rw [if_neg h4] at h
          have h4' : hasB l.length (gv l p).2.1 (gv l p).1 = true := by simpa using h4
          obtain ⟨g1, g2, g3, g4, g5, g6, g7⟩ := gv_good (l := l) (p := p) (x := (gv l p).1) (y := (gv l p).2.1) (by rw [← hz])
          have h5 : (gv l p).2.1 + (gv l p).1 ≤ l.length := by simp [hasB] at h4'; omega
          simp only [Prod.mk.injEq, and_true] at h
          obtain ⟨rfl, rfl⟩ := h
          generalize (gv l p).1 = x at *
          generalize (gv l p).2.1 = y at *
          have hsz : (ByteArray.mk (List.take x.toNat (List.drop y.toNat l)).toArray).size = x.toNat := by
            show (List.take x.toNat (List.drop y.toNat l)).toArray.size = _
            simp; omega
          have hsi : ((ByteArray.mk (List.take x.toNat (List.drop y.toNat l)).toArray).size : Int) = x := by rw [hsz]; omega
          refine ⟨by omega, by omega, by omega, by omega, ?_, by omega⟩
          rw [hsi, g5]
          show _ ++ List.take x.toNat (List.drop y.toNat l) = _
          have e1 : (y + x - p).toNat = (y - p).toNat + x.toNat := by omega
          have e2 : y.toNat = p.toNat + (y - p).toNat := by omega
          rw [e1, List.take_add, e2, List.drop_drop]

set_option maxRecDepth 100000 in
set_option maxHeartbeats 2000000 in
theorem octetOne_core (A : Option Addr) (n c : Nat) (l : List UInt8) (p most : Int) (w : World) (hr : Rd w w.heap.size A n l) (hc : n ≤ c) (hf : fewB n = true) (hp : p ≤ 9223372036854775807) (x y z y2 z2 : Int) (t : ByteArray) (hv : gv l p = (x, y, z)) (hx : gx l p most = (t, y2, z2)) :
    Calls Try.prog 7 #[.slice A n c, .int .i64 p, .int .i64 most] w fun e w' => e = .returned (.bool true) ∧ Below w.heap.size w w' := by
  have hn : n ≤ 5000 := fewB_iff.1 hf
  have hl := hr.len
  have HR := Lib.hid hr
  have HV := Lib.hid hv
  have HX := Lib.hid hx
  have HP := Lib.hid hp
  have HF1 : z = 0 ∧ (0 ≤ p ∧ p < y ∧ y ≤ n ∧ y ≤ p + 10 ∧ Hid (vb (zz x) = (l.drop p.toNat).take (y - p).toNat) ∧ Hid (-9223372036854775808 ≤ x ∧ x ≤ 9223372036854775807)) ∨ (z == 0) = false ∧ x = 0 ∧ y = 0 := by
    by_cases hz : z = 0
    · subst hz
      obtain ⟨g1, g2, g3, g4, g5, g6, g7⟩ := gv_good hv
      exact Or.inl ⟨rfl, g1, g2, by omega, g4, g5, g6, g7⟩
    · exact Or.inr ⟨beqF hz, gv_bad hv hz⟩
  have HF2 : z2 = 0 ∧ (0 ≤ p ∧ p < y2 ∧ y2 ≤ n ∧ (t.size : Int) ≤ most ∧ Hid (vb (zz t.size) ++ t.data.toList = (l.drop p.toNat).take (y2 - p).toNat) ∧ t.size ≤ n) ∨ (z2 == 0) = false ∧ (z2 != 0) = true ∧ t = ByteArray.empty ∧ y2 = 0 := by
    by_cases hz : z2 = 0
    · subst hz
      obtain ⟨g1, g2, g3, g4, g5, g6⟩ := gx_good hx
      exact Or.inl ⟨rfl, g1, g2, by omega, g4, g5, by omega⟩
    · exact Or.inr ⟨beqF hz, by simp [hz], gx_bad hx hz⟩
  clear hr hv hx hp hl
  rcases HF1 with ⟨rfl, g1, g2, g3, g4, g5, g6⟩ | ⟨k1, rfl, rfl⟩ <;> rcases HF2 with ⟨rfl, e1, e2, e3, e4, e5, e6⟩ | ⟨j1, j2, rfl, rfl⟩
  · obtain ⟨P, rfl⟩ : ∃ P : Nat, p = (P : Int) := ⟨p.toNat, by omega⟩
    obtain ⟨Y, rfl⟩ : ∃ P : Nat, y = (P : Int) := ⟨y.toNat, by omega⟩
    obtain ⟨Y2, rfl⟩ : ∃ P : Nat, y2 = (P : Int) := ⟨y2.toNat, by omega⟩
    have b1 : P ≤ Y := by omega
    have b2 : Y ≤ c := by omega
    have b9 : P + (Y - P) ≤ n := by omega
    have hss : sameB (vb (zz x)) ((l.drop P).take (Y - P)) = true := by rw [sameB_iff, g5.out, Int.toNat_natCast]; congr 1; omega
    have d1 : decide ((P : Int) < 0) = false := by simp
    have d5 : decide (Y ≤ P) = false := by simp; omega
    have d6 : decide (n < Y) = false := by simp; omega
    have d4 : decide ((P : Int) + 10 < (Y : Int)) = false := by simp; omega
    have d7 : decide (P + 10 < Y) = false := by simp; omega
    have b3 : P ≤ Y2 := by omega
    have b4 : Y2 ≤ c := by omega
    have b8 : P + (Y2 - P) ≤ n := by omega
    have hst : sameB (vb (zz t.size) ++ t.data.toList) ((l.drop P).take (Y2 - P)) = true := by rw [sameB_iff, e5.out, Int.toNat_natCast]; congr 1; omega
    have e9 : decide ((0 : Int) ≤ (P : Int)) = true := by simp
    have e10 : decide (P < Y2) = true := by simp; omega
    have e11 : decide (Y2 ≤ n) = true := by simp; omega
    have e12 : decide ((t.size : Int) ≤ most) = true := by simp; omega
    have hsum : IntKind.i64.wrap ((P : Int) + 10) = (P : Int) + 10 := IntWalk.i64_in _ (by omega)
    go_enter Try.func7, Try.ntmps7
    go_wp2_with (first | (go_at_call 11; refine (live_any _).mono ?_; rintro e w1 ⟨rfl, hb1⟩) | (go_at_call 12; refine (few_any _ _ _ _).mono ?_; rintro e w9 ⟨rfl, rfl⟩) | (go_at_call 19; refine (GetVar_is A n c _ l w.heap.size w1 (HR.out.below hb1 (Nat.le_refl _)) (by omega) HP.out HV.out).mono ?_; rintro e w9 ⟨rfl, rfl⟩))
    go_region_held3 (fun _ => True) (trivial) (first | (go_at_call 21; refine (PutVar_nil x _ g6.out.1 g6.out.2).mono ?_; rintro e w2 ⟨A2, n2, c2, rfl, hown2, hb2⟩) | (go_at_call 17; refine (Same_any _ _ _ _ _ _ (vb (zz x)) ((l.drop P).take (Y - P)) _ _ w2 hown2.rd ((HR.out.below (bel_trans (bel_drew hb1) hb2) (Nat.le_refl _)).cut' (i := P) (m := Y - P) b9 rfl (fun _ => rfl))).mono ?_; rintro e w9 ⟨rfl, rfl⟩))
    have hbx := bel_trans (bel_drew hb1) hb2
    clear hsum
    go_wp2_with (go_at_call 23; refine (GetText_is A n c _ _ l w.heap.size w2 (HR.out.below hbx (Nat.le_refl _)) hc (by omega) HP.out HX.out).mono ?_; rintro e w9 ⟨rfl, rfl⟩)
    go_region_held3 (fun _ => True) (trivial) (first | (go_at_call 25; refine (PutText_nil t _ (by omega)).mono ?_; rintro e w3 ⟨A3, n3, c3, rfl, hown3, hb3⟩) | (go_at_call 17; refine (Same_any _ _ _ _ _ _ (vb (zz t.size) ++ t.data.toList) ((l.drop P).take (Y2 - P)) _ _ w3 hown3.rd ((HR.out.below (bel_trans (bel_drew hbx) hb3) (Nat.le_refl _)).cut' (i := P) (m := Y2 - P) b8 rfl (fun _ => rfl))).mono ?_; rintro e w9 ⟨rfl, rfl⟩))
    go_wp2
    go_ret
    exact ⟨rfl, bel_trans (bel_drew hbx) hb3⟩
  · obtain ⟨P, rfl⟩ : ∃ P : Nat, p = (P : Int) := ⟨p.toNat, by omega⟩
    obtain ⟨Y, rfl⟩ : ∃ P : Nat, y = (P : Int) := ⟨y.toNat, by omega⟩
    have b1 : P ≤ Y := by omega
    have b2 : Y ≤ c := by omega
    have b9 : P + (Y - P) ≤ n := by omega
    have hss : sameB (vb (zz x)) ((l.drop P).take (Y - P)) = true := by rw [sameB_iff, g5.out, Int.toNat_natCast]; congr 1; omega
    have d1 : decide ((P : Int) < 0) = false := by simp
    have d5 : decide (Y ≤ P) = false := by simp; omega
    have d6 : decide (n < Y) = false := by simp; omega
    have d4 : decide ((P : Int) + 10 < (Y : Int)) = false := by simp; omega
    have d7 : decide (P + 10 < Y) = false := by simp; omega
    have hsum : IntKind.i64.wrap ((P : Int) + 10) = (P : Int) + 10 := IntWalk.i64_in _ (by omega)
    go_enter Try.func7, Try.ntmps7
    go_wp2_with (first | (go_at_call 11; refine (live_any _).mono ?_; rintro e w1 ⟨rfl, hb1⟩) | (go_at_call 12; refine (few_any _ _ _ _).mono ?_; rintro e w9 ⟨rfl, rfl⟩) | (go_at_call 19; refine (GetVar_is A n c _ l w.heap.size w1 (HR.out.below hb1 (Nat.le_refl _)) (by omega) HP.out HV.out).mono ?_; rintro e w9 ⟨rfl, rfl⟩))
    go_region_held3 (fun _ => True) (trivial) (first | (go_at_call 21; refine (PutVar_nil x _ g6.out.1 g6.out.2).mono ?_; rintro e w2 ⟨A2, n2, c2, rfl, hown2, hb2⟩) | (go_at_call 17; refine (Same_any _ _ _ _ _ _ (vb (zz x)) ((l.drop P).take (Y - P)) _ _ w2 hown2.rd ((HR.out.below (bel_trans (bel_drew hb1) hb2) (Nat.le_refl _)).cut' (i := P) (m := Y - P) b9 rfl (fun _ => rfl))).mono ?_; rintro e w9 ⟨rfl, rfl⟩))
    have hbx := bel_trans (bel_drew hb1) hb2
    clear hsum
    go_wp2_with (go_at_call 23; refine (GetText_is A n c _ _ l w.heap.size w2 (HR.out.below hbx (Nat.le_refl _)) hc (by omega) HP.out HX.out).mono ?_; rintro e w9 ⟨rfl, rfl⟩)
    go_ret
    exact ⟨rfl, hbx⟩
  · obtain ⟨P, rfl⟩ : ∃ P : Nat, p = (P : Int) := ⟨p.toNat, by omega⟩
    obtain ⟨Y2, rfl⟩ : ∃ P : Nat, y2 = (P : Int) := ⟨y2.toNat, by omega⟩
    have b3 : P ≤ Y2 := by omega
    have b4 : Y2 ≤ c := by omega
    have b8 : P + (Y2 - P) ≤ n := by omega
    have hst : sameB (vb (zz t.size) ++ t.data.toList) ((l.drop P).take (Y2 - P)) = true := by rw [sameB_iff, e5.out, Int.toNat_natCast]; congr 1; omega
    have e9 : decide ((0 : Int) ≤ (P : Int)) = true := by simp
    have e10 : decide (P < Y2) = true := by simp; omega
    have e11 : decide (Y2 ≤ n) = true := by simp; omega
    have e12 : decide ((t.size : Int) ≤ most) = true := by simp; omega
    go_enter Try.func7, Try.ntmps7
    go_wp2_with (first | (go_at_call 11; refine (live_any _).mono ?_; rintro e w1 ⟨rfl, hb1⟩) | (go_at_call 12; refine (few_any _ _ _ _).mono ?_; rintro e w9 ⟨rfl, rfl⟩) | (go_at_call 19; refine (GetVar_is A n c _ l w.heap.size w1 (HR.out.below hb1 (Nat.le_refl _)) (by omega) HP.out HV.out).mono ?_; rintro e w9 ⟨rfl, rfl⟩) | (go_at_call 23; refine (GetText_is A n c _ _ l w.heap.size w1 (HR.out.below hb1 (Nat.le_refl _)) hc (by omega) HP.out HX.out).mono ?_; rintro e w9 ⟨rfl, rfl⟩))
    have hbx := hb1
    go_region_held3 (fun _ => True) (trivial) (first | (go_at_call 25; refine (PutText_nil t _ (by omega)).mono ?_; rintro e w3 ⟨A3, n3, c3, rfl, hown3, hb3⟩) | (go_at_call 17; refine (Same_any _ _ _ _ _ _ (vb (zz t.size) ++ t.data.toList) ((l.drop P).take (Y2 - P)) _ _ w3 hown3.rd ((HR.out.below (bel_trans (bel_drew hbx) hb3) (Nat.le_refl _)).cut' (i := P) (m := Y2 - P) b8 rfl (fun _ => rfl))).mono ?_; rintro e w9 ⟨rfl, rfl⟩))
    go_wp2
    go_ret
    exact ⟨rfl, bel_trans (bel_drew hbx) hb3⟩
  · go_enter Try.func7, Try.ntmps7
    go_wp2_with (first | (go_at_call 11; refine (live_any _).mono ?_; rintro e w1 ⟨rfl, hb1⟩) | (go_at_call 12; refine (few_any _ _ _ _).mono ?_; rintro e w9 ⟨rfl, rfl⟩) | (go_at_call 19; refine (GetVar_is A n c _ l w.heap.size w1 (HR.out.below hb1 (Nat.le_refl _)) (by omega) HP.out HV.out).mono ?_; rintro e w9 ⟨rfl, rfl⟩) | (go_at_call 23; refine (GetText_is A n c _ _ l w.heap.size w1 (HR.out.below hb1 (Nat.le_refl _)) hc (by omega) HP.out HX.out).mono ?_; rintro e w9 ⟨rfl, rfl⟩))
    have hbx := hb1
    go_ret
    exact ⟨rfl, hbx⟩

theorem octetOne_walk (A : Option Addr) (n c : Nat) (l : List UInt8) (p most : Int) (w : World) (hr : Rd w w.heap.size A n l) (hc : n ≤ c) (hp0 : -9223372036854775808 ≤ p) (hp1 : p ≤ 9223372036854775807) (hm0 : -9223372036854775808 ≤ most) (hm1 : most ≤ 9223372036854775807) :
    Calls Try.prog 7 #[.slice A n c, .int .i64 p, .int .i64 most] w fun e w' => e = .returned (.bool true) ∧ Below w.heap.size w w' := by
  by_cases hf : fewB n = true
  · exact octetOne_core A n c l p most w hr hc hf hp1 _ _ _ _ _ _ rfl rfl
  · have hf' : fewB n = false := by simpa using hf
    clear hf hp0 hp1 hm0 hm1 hr
    go_enter Try.func7, Try.ntmps7
    go_wp2_with (first | (go_at_call 11; refine (live_any _).mono ?_; rintro e w1 ⟨rfl, hb1⟩) | (go_at_call 12; refine (few_any _ _ _ _).mono ?_; rintro e w9 ⟨rfl, rfl⟩))
    all_goals go_ret
    all_goals exact ⟨rfl, hb1⟩
end Go.Proofs.Ytjjokjgakenhlaa.Oct
