/- The contract of the document's own Get of layer 3. -/
import Derived.Test.YtfjdalekpmlnaaaRecRefB
import Derived.Test.YtfjdalekpmlnaaaRecRefE
import Derived.Test.YtfjdalekpmlnaaaOctRGetText
import Derived.Deep.RegionHeld3
namespace Go.Proofs.Ytfjdalekpmlnaaa.Rec
open Go.RowKit Go.Proofs.Ytfjdalekpmlnaaa.Oct Go.Proofs.Ytfjdalekpmlnaaa.Crc

def RV (r : Rc) : Value := .agg #[.int .i64 r.off, .string r.key, .string r.val, .bool r.dead, .int .i64 r.stamp]
/-- a record, where it ends, and an error's number -/
def RG (w : World) (x : Rc × Int × Int) (e : Ending) (w' : World) : Prop := e = .returned (.tuple #[RV x.1, .int .i64 x.2.1, .int .i64 x.2.2]) ∧ Below w.heap.size w w'
theorem c9_one (c : UInt8) : ((c.toNat : Int) == 1) = (c == 1) := by
  by_cases h : c = 1
  · subst h; rfl
  · have h1 : c.toNat ≠ 1 := fun hh => h (UInt8.toNat.inj hh)
    rw [beq_false_of_ne h]
    exact beq_false_of_ne (by omega)
end Go.Proofs.Ytfjdalekpmlnaaa.Rec
namespace Go.Proofs.Ytfjdalekpmlnaaa.Oct
open Go.RowKit
theorem Rd.alloc2 {w : World} {A : Option Addr} {n B : Nat} {l : List UInt8} (h : Rd w B A n l) (hB : B ≤ w.heap.size) (o o' : Obj) : Rd ((w.alloc o).alloc o') B A n l :=
  (h.alloc hB o).alloc (Nat.le_trans hB (by simp)) o'
end Go.Proofs.Ytfjdalekpmlnaaa.Oct
namespace Go.Proofs.Ytfjdalekpmlnaaa.Rec
open Go.RowKit Go.Proofs.Ytfjdalekpmlnaaa.Oct Go.Proofs.Ytfjdalekpmlnaaa.Crc


set_option maxRecDepth 100000 in
set_option maxHeartbeats 6000000 in
theorem refGet_any (A : Option Addr) (n c : Nat) (l : List UInt8) (B : Nat) (p b t : Int) (w : World) (hr : Rd w B A n l) (hB : B ≤ w.heap.size) (hc : n ≤ c) (hn : n ≤ 1099511627776) (hp0 : -9223372036854775808 ≤ p) (hp1 : p ≤ 9223372036854775807) :
    Calls Try.prog 21 #[.slice A n c, .int .i64 p, .int .i64 b, .int .i64 t] w (RG w (gr l p b t)) := by
  have hl := hr.len
  rcases h1 : inR b with _ | _
  · have hz := Lib.hid (show gr l p b t = (nil, 0, 1) by unfold gr; rw [h1]; rfl)
    rw [hz.out]
    go_enter Try.func21, Try.ntmps21
    go_wp2_with (first
      | (go_at_call 27; refine (refIn_any _ _ (by first | exact h1 | exact h2)).mono ?_; rintro e w8 ⟨rfl, rfl⟩))
    exact bodyPost_ret (v := .tuple #[RV nil, .int .i64 0, .int .i64 1]) (by simp [results, Try.results21, go_sem]; rfl) rfl ⟨rfl, ((Below.refl _ _).alloc (Nat.le_refl _) _).alloc (by simp) _⟩
  rcases h2 : inR t with _ | _
  · have hz := Lib.hid (show gr l p b t = (nil, 0, 1) by unfold gr; rw [h1, h2]; rfl)
    rw [hz.out]
    go_enter Try.func21, Try.ntmps21
    go_wp2_with (first
      | (go_at_call 27; refine (refIn_any _ _ (by first | exact h1 | exact h2)).mono ?_; rintro e w8 ⟨rfl, rfl⟩))
    exact bodyPost_ret (v := .tuple #[RV nil, .int .i64 0, .int .i64 1]) (by simp [results, Try.results21, go_sem]; rfl) rfl ⟨rfl, ((Below.refl _ _).alloc (Nat.le_refl _) _).alloc (by simp) _⟩
  by_cases h3 : p < 0
  · have hz := Lib.hid (show gr l p b t = (nil, 0, 1) by unfold gr; rw [if_neg]; simp; omega)
    rw [hz.out]
    go_enter Try.func21, Try.ntmps21
    go_wp2_with (first
      | (go_at_call 27; refine (refIn_any _ _ (by first | exact h1 | exact h2)).mono ?_; rintro e w8 ⟨rfl, rfl⟩))
    exact bodyPost_ret (v := .tuple #[RV nil, .int .i64 0, .int .i64 1]) (by simp [results, Try.results21, go_sem]; rfl) rfl ⟨rfl, ((Below.refl _ _).alloc (Nat.le_refl _) _).alloc (by simp) _⟩
  by_cases h4 : (n : Int) < p
  · have hz := Lib.hid (show gr l p b t = (nil, 0, 1) by unfold gr; rw [if_neg]; simp; omega)
    rw [hz.out]
    go_enter Try.func21, Try.ntmps21
    go_wp2_with (first
      | (go_at_call 27; refine (refIn_any _ _ (by first | exact h1 | exact h2)).mono ?_; rintro e w8 ⟨rfl, rfl⟩))
    exact bodyPost_ret (v := .tuple #[RV nil, .int .i64 0, .int .i64 1]) (by simp [results, Try.results21, go_sem]; rfl) rfl ⟨rfl, ((Below.refl _ _).alloc (Nat.le_refl _) _).alloc (by simp) _⟩
  have hg : gr l p b t = _ := gr_on h1 h2 (show 0 ≤ p ∧ p ≤ l.length by omega)
  rcases g1 : gv l p with ⟨d, i, x1⟩
  by_cases e1 : x1 = 0
  rotate_left
  · have hz := Lib.hid (show gr l p b t = (nil, 0, x1) by rw [hg]; simp only [g1]; rw [if_pos e1])
    clear hg
    rw [hz.out]
    go_enter Try.func21, Try.ntmps21
    go_wp2_with (first
      | (go_at_call 27; refine (refIn_any _ _ (by first | exact h1 | exact h2)).mono ?_; rintro e w8 ⟨rfl, rfl⟩)
      | (go_at_call 40; with_reducible refine (refGetVar_is A n c p l B _ (hr.alloc2 hB _ _) hn hp1 g1).mono ?_; rintro e w8 ⟨rfl, rfl⟩))
    exact bodyPost_ret (v := .tuple #[RV nil, .int .i64 0, .int .i64 x1]) (by simp [results, Try.results21, go_sem]; rfl) rfl ⟨rfl, ((Below.refl _ _).alloc (Nat.le_refl _) _).alloc (by simp) _⟩
  subst e1
  obtain ⟨a1, a2, a3, a4, a5, a6, a7⟩ := gv_good g1
  have hi1 : i ≤ 9223372036854775807 := by omega
  rcases g2 : gv l i with ⟨s, j, x2⟩
  by_cases e2 : x2 = 0
  rotate_left
  · have hz := Lib.hid (show gr l p b t = (nil, 0, x2) by rw [hg]; simp only [g1, g2]; rw [if_neg (by simp), if_pos e2])
    clear hg a5
    rw [hz.out]
    go_enter Try.func21, Try.ntmps21
    go_wp2_with (first
      | (go_at_call 27; refine (refIn_any _ _ (by first | exact h1 | exact h2)).mono ?_; rintro e w8 ⟨rfl, rfl⟩)
      | (go_at_call 40; with_reducible refine (refGetVar_is A n c p l B _ (hr.alloc2 hB _ _) hn hp1 g1).mono ?_; rintro e w8 ⟨rfl, rfl⟩)
      | (go_at_call 40; with_reducible refine (refGetVar_is A n c i l B _ (hr.alloc2 hB _ _) hn hi1 g2).mono ?_; rintro e w8 ⟨rfl, rfl⟩))
    exact bodyPost_ret (v := .tuple #[RV nil, .int .i64 0, .int .i64 x2]) (by simp [results, Try.results21, go_sem]; rfl) rfl ⟨rfl, ((Below.refl _ _).alloc (Nat.le_refl _) _).alloc (by simp) _⟩
  subst e2
  obtain ⟨b1, b2, b3, b4, b5, b6, b7⟩ := gv_good g2
  obtain ⟨J, rfl⟩ : ∃ J : Nat, j = (J : Int) := ⟨j.toNat, by omega⟩
  by_cases h5 : n ≤ J
  · have hz := Lib.hid (show gr l p b t = (nil, 0, 10) by rw [hg]; simp only [g1, g2]; rw [if_neg (by simp), if_neg (by simp), Int.toNat_natCast, List.getElem?_eq_none (by omega)])
    clear hg a5 b5
    rw [hz.out]
    go_enter Try.func21, Try.ntmps21
    go_wp2_with (first
      | (go_at_call 27; refine (refIn_any _ _ (by first | exact h1 | exact h2)).mono ?_; rintro e w8 ⟨rfl, rfl⟩)
      | (go_at_call 40; with_reducible refine (refGetVar_is A n c p l B _ (hr.alloc2 hB _ _) hn hp1 g1).mono ?_; rintro e w8 ⟨rfl, rfl⟩)
      | (go_at_call 40; with_reducible refine (refGetVar_is A n c i l B _ (hr.alloc2 hB _ _) hn hi1 g2).mono ?_; rintro e w8 ⟨rfl, rfl⟩))
    exact bodyPost_ret (v := .tuple #[RV nil, .int .i64 0, .int .i64 10]) (by simp [results, Try.results21, go_sem]; rfl) rfl ⟨rfl, ((Below.refl _ _).alloc (Nat.le_refl _) _).alloc (by simp) _⟩
  obtain ⟨b9, o9, c9, hA9, hb9, hc9, hcell⟩ := hr.at (k := J) (by omega)
  have hcell2 : ∀ q q' : Obj, ((w.alloc q).alloc q').cell? ⟨b9, o9 + J, none⟩ = some (.int .u8 (c9.toNat : Int)) := fun q q' => by
    rw [World.cell?_alloc_lt _ _ _ (by simp; omega), World.cell?_alloc_lt _ _ _ (by simp; omega), hcell]
  have q1 : (J : Int) < (n : Int) := by omega
  have q2 : (0 : Int) ≤ (J : Int) := by omega
  subst hA9
  by_cases h6 : 1 < c9.toNat
  · have hz := Lib.hid (show gr l p b t = (nil, 0, 11) by rw [hg]; simp only [g1, g2]; rw [if_neg (by simp), if_neg (by simp), Int.toNat_natCast, hc9]; simp only; rw [if_pos h6])
    have h6' : (1 : Int) < (c9.toNat : Int) := by omega
    clear hg a5 b5
    rw [hz.out]
    go_enter Try.func21, Try.ntmps21
    go_wp2_with (first
      | (go_at_call 27; refine (refIn_any _ _ (by first | exact h1 | exact h2)).mono ?_; rintro e w8 ⟨rfl, rfl⟩)
      | (go_at_call 40; with_reducible refine (refGetVar_is (some ⟨b9, o9, none⟩) n c p l B _ (hr.alloc2 hB _ _) hn hp1 g1).mono ?_; rintro e w8 ⟨rfl, rfl⟩)
      | (go_at_call 40; with_reducible refine (refGetVar_is (some ⟨b9, o9, none⟩) n c i l B _ (hr.alloc2 hB _ _) hn hi1 g2).mono ?_; rintro e w8 ⟨rfl, rfl⟩))
    exact bodyPost_ret (v := .tuple #[RV nil, .int .i64 0, .int .i64 11]) (by simp [results, Try.results21, go_sem]; rfl) rfl ⟨rfl, ((Below.refl _ _).alloc (Nat.le_refl _) _).alloc (by simp) _⟩
  have h6' : ¬ (1 : Int) < (c9.toNat : Int) := by omega
  obtain ⟨P, hP⟩ : ∃ P : Int, P = (J : Int) + 1 := ⟨_, rfl⟩
  have hw : (J : Int) + 1 = P := hP.symm
  have HJ1 := Lib.hid (show P ≤ 9223372036854775807 by omega)
  rcases g4 : gx l P 64 with ⟨k, m, x3⟩
  by_cases e3 : x3 = 0
  rotate_left
  · have hz := Lib.hid (show gr l p b t = (nil, 0, x3) by rw [hg]; simp only [g1, g2]; rw [if_neg (by simp), if_neg (by simp), Int.toNat_natCast, hc9]; simp only [hw, g4]; rw [if_neg h6, if_pos e3])
    have HG4 := Lib.hid g4
    clear hg a5 b5 g4 hP
    rw [hz.out]
    go_enter Try.func21, Try.ntmps21
    go_wp2_with (first
      | (go_at_call 27; refine (refIn_any _ _ (by first | exact h1 | exact h2)).mono ?_; rintro e w8 ⟨rfl, rfl⟩)
      | (go_at_call 40; with_reducible refine (refGetVar_is (some ⟨b9, o9, none⟩) n c p l B _ (hr.alloc2 hB _ _) hn hp1 g1).mono ?_; rintro e w8 ⟨rfl, rfl⟩)
      | (go_at_call 40; with_reducible refine (refGetVar_is (some ⟨b9, o9, none⟩) n c i l B _ (hr.alloc2 hB _ _) hn hi1 g2).mono ?_; rintro e w8 ⟨rfl, rfl⟩)
      | (go_at_call 41; with_reducible refine (refGetText_is (some ⟨b9, o9, none⟩) n c P 64 l B _ (hr.alloc2 hB _ _) hc hn HJ1.out HG4.out).mono ?_; rintro e w8 ⟨rfl, rfl⟩))
    exact bodyPost_ret (v := .tuple #[RV nil, .int .i64 0, .int .i64 x3]) (by simp [results, Try.results21, go_sem]; rfl) rfl ⟨rfl, ((Below.refl _ _).alloc (Nat.le_refl _) _).alloc (by simp) _⟩
  subst e3
  obtain ⟨c1, c2, c3, c4, c5, c6⟩ := gx_good g4
  have hm1 : m ≤ 9223372036854775807 := by omega
  rcases g5 : gx l m 64 with ⟨v, q, x4⟩
  by_cases e4 : x4 = 0
  rotate_left
  · have hz := Lib.hid (show gr l p b t = (nil, 0, x4) by rw [hg]; simp only [g1, g2]; rw [if_neg (by simp), if_neg (by simp), Int.toNat_natCast, hc9]; simp only [hw, g4, g5]; rw [if_neg h6, if_neg (by simp), if_pos e4])
    have HG4 := Lib.hid g4
    clear hg a5 b5 c5 g4 hP
    rw [hz.out]
    go_enter Try.func21, Try.ntmps21
    go_wp2_with (first
      | (go_at_call 27; refine (refIn_any _ _ (by first | exact h1 | exact h2)).mono ?_; rintro e w8 ⟨rfl, rfl⟩)
      | (go_at_call 40; with_reducible refine (refGetVar_is (some ⟨b9, o9, none⟩) n c p l B _ (hr.alloc2 hB _ _) hn hp1 g1).mono ?_; rintro e w8 ⟨rfl, rfl⟩)
      | (go_at_call 40; with_reducible refine (refGetVar_is (some ⟨b9, o9, none⟩) n c i l B _ (hr.alloc2 hB _ _) hn hi1 g2).mono ?_; rintro e w8 ⟨rfl, rfl⟩)
      | (go_at_call 41; with_reducible refine (refGetText_is (some ⟨b9, o9, none⟩) n c m 64 l B _ (hr.alloc2 hB _ _) hc hn hm1 g5).mono ?_; rintro e w8 ⟨rfl, rfl⟩)
      | (go_at_call 41; with_reducible refine (refGetText_is (some ⟨b9, o9, none⟩) n c P 64 l B _ (hr.alloc2 hB _ _) hc hn HJ1.out HG4.out).mono ?_; rintro e w8 ⟨rfl, rfl⟩))
    exact bodyPost_ret (v := .tuple #[RV nil, .int .i64 0, .int .i64 x4]) (by simp [results, Try.results21, go_sem]; rfl) rfl ⟨rfl, ((Below.refl _ _).alloc (Nat.le_refl _) _).alloc (by simp) _⟩
  subst e4
  obtain ⟨d1, d2, d3, d4, d5, d6⟩ := gx_good g5
  have hz0 : gr l p b t = if may ⟨bes b d, k, v, c9 == 1, bes t s⟩ then (⟨bes b d, k, v, c9 == 1, bes t s⟩, q, 0) else (nil, 0, 1) := by
    rw [hg]; simp only [g1, g2]; rw [if_neg (by simp), if_neg (by simp), Int.toNat_natCast, hc9]; simp only [hw, g4, g5]; rw [if_neg h6, if_neg (by simp), if_neg (by simp)]
  have b1r := inR_iff.1 h1
  have b2r := inR_iff.1 h2
  have hk64 : k.size ≤ 1099511627776 := by omega
  have hv64 : v.size ≤ 1099511627776 := by omega
  obtain ⟨X, hX⟩ : ∃ X, bes b d = X := ⟨_, rfl⟩
  obtain ⟨Y, hY⟩ : ∃ Y, bes t s = Y := ⟨_, rfl⟩
  rw [hX, hY] at hz0
  have HX := Lib.hid hX
  have HY := Lib.hid hY
  have HG4 := Lib.hid g4
  have HG5 := Lib.hid g5
  have hcell3 : ∀ q q' q'' : Obj, (((w.alloc q).alloc q').alloc q'').cell? ⟨b9, o9 + J, none⟩ = some (.int .u8 (c9.toNat : Int)) := fun q q' q'' => by
    rw [World.cell?_alloc_lt _ _ _ (by simp; omega), hcell2]
  clear hg a5 b5 c5 d5 g4 g5 hP hX hY
  obtain ⟨D, hD⟩ : ∃ D, (c9 == 1) = D := ⟨_, rfl⟩
  have hDI : ((c9.toNat : Int) == 1) = D := by rw [← hD]; exact c9_one c9
  rw [hD] at hz0
  clear hD
  rcases hm : may ⟨X, k, v, D, Y⟩ with _ | _
  · rw [hm] at hz0
    have hz := Lib.hid (show gr l p b t = (nil, 0, 1) by rw [hz0]; rfl)
    rw [hz.out]
    clear hz0
    go_enter Try.func21, Try.ntmps21
    go_wp2_with (first
      | (go_at_call 27; refine (refIn_any _ _ (by first | exact h1 | exact h2)).mono ?_; rintro e w8 ⟨rfl, rfl⟩)
      | (go_at_call 40; with_reducible refine (refGetVar_is (some ⟨b9, o9, none⟩) n c p l B _ (hr.alloc2 hB _ _) hn hp1 g1).mono ?_; rintro e w8 ⟨rfl, rfl⟩)
      | (go_at_call 40; with_reducible refine (refGetVar_is (some ⟨b9, o9, none⟩) n c i l B _ (hr.alloc2 hB _ _) hn hi1 g2).mono ?_; rintro e w8 ⟨rfl, rfl⟩)
      | (go_at_call 41; with_reducible refine (refGetText_is (some ⟨b9, o9, none⟩) n c m 64 l B _ (hr.alloc2 hB _ _) hc hn hm1 HG5.out).mono ?_; rintro e w8 ⟨rfl, rfl⟩)
      | (go_at_call 41; with_reducible refine (refGetText_is (some ⟨b9, o9, none⟩) n c P 64 l B _ (hr.alloc2 hB _ _) hc hn HJ1.out HG4.out).mono ?_; rintro e w8 ⟨rfl, rfl⟩))
    go_region_held3 (fun x : World => x.cell? ⟨b9, o9 + J, none⟩ = some (.int .u8 (c9.toNat : Int))) (first | exact hcell2 _ _ | exact hcell3 _ _ _ | assumption | trivial) (first
      | (go_at_call 42; with_reducible refine (refBeside_any b d _ b1r.1 b1r.2).mono ?_; rw [HX.out]; rintro e w8 ⟨rfl, rfl⟩)
      | (go_at_call 42; with_reducible refine (refBeside_any t s _ b2r.1 b2r.2).mono ?_; rw [HY.out]; rintro e w8 ⟨rfl, rfl⟩))
    all_goals go_wp2_with (go_at_call 17; with_reducible refine (refCheck_any X Y k v D _ hk64 hv64).mono ?_; rw [hm]; rintro e w9 ⟨rfl, hb99⟩; have k0 := hb99.cell (p := ⟨w.heap.size + 1, 0, none⟩) (by simp); have k1 := hb99.cell (p := ⟨w.heap.size + 1, 1, none⟩) (by simp); have k2 := hb99.cell (p := ⟨w.heap.size + 1, 2, none⟩) (by simp); have k3 := hb99.cell (p := ⟨w.heap.size + 1, 3, none⟩) (by simp); have k4 := hb99.cell (p := ⟨w.heap.size + 1, 4, none⟩) (by simp); have m0 := hb99.cell (p := ⟨w.heap.size, 0, none⟩) (by simp; omega); have f0 := hb99.frozen (p := ⟨w.heap.size, 0, none⟩) (by simp; omega); have m1 := hb99.cell (p := ⟨w.heap.size, 1, none⟩) (by simp; omega); have f1 := hb99.frozen (p := ⟨w.heap.size, 1, none⟩) (by simp; omega); have m2 := hb99.cell (p := ⟨w.heap.size, 2, none⟩) (by simp; omega); have f2 := hb99.frozen (p := ⟨w.heap.size, 2, none⟩) (by simp; omega); have m3 := hb99.cell (p := ⟨w.heap.size, 3, none⟩) (by simp; omega); have f3 := hb99.frozen (p := ⟨w.heap.size, 3, none⟩) (by simp; omega); have m4 := hb99.cell (p := ⟨w.heap.size, 4, none⟩) (by simp; omega); have f4 := hb99.frozen (p := ⟨w.heap.size, 4, none⟩) (by simp; omega))
    all_goals
      have n0 : w9.cell? ⟨w.heap.size, 0, none⟩ = some (.int .i64 0) := m0.trans (by simp [go_sem])
      have n1 : w9.cell? ⟨w.heap.size, 1, none⟩ = some (.string ⟨#[]⟩) := m1.trans (by simp [go_sem])
      have n2 : w9.cell? ⟨w.heap.size, 2, none⟩ = some (.string ⟨#[]⟩) := m2.trans (by simp [go_sem])
      have n3 : w9.cell? ⟨w.heap.size, 3, none⟩ = some (.bool false) := m3.trans (by simp [go_sem])
      have n4 : w9.cell? ⟨w.heap.size, 4, none⟩ = some (.int .i64 0) := m4.trans (by simp [go_sem])
    all_goals exact bodyPost_ret (v := .tuple #[RV nil, .int .i64 0, .int .i64 1]) (by simp [results, Try.results21, go_sem, n0, n1, n2, n3, n4]; rfl) rfl ⟨rfl, (((((((((Below.refl _ _).alloc (Nat.le_refl _) _).alloc (by simp) _).alloc (by simp; omega) _).drew.trans (hb99.mono (by simp; omega))).setCell (by simp) _).setCell (by simp) _).setCell (by simp) _).setCell (by simp) _).setCell (by simp) _⟩
  · rw [hm] at hz0
    have hz := Lib.hid (show gr l p b t = (⟨X, k, v, D, Y⟩, q, 0) by rw [hz0]; rfl)
    rw [hz.out]
    clear hz0
    go_enter Try.func21, Try.ntmps21
    go_wp2_with (first
      | (go_at_call 27; refine (refIn_any _ _ (by first | exact h1 | exact h2)).mono ?_; rintro e w8 ⟨rfl, rfl⟩)
      | (go_at_call 40; with_reducible refine (refGetVar_is (some ⟨b9, o9, none⟩) n c p l B _ (hr.alloc2 hB _ _) hn hp1 g1).mono ?_; rintro e w8 ⟨rfl, rfl⟩)
      | (go_at_call 40; with_reducible refine (refGetVar_is (some ⟨b9, o9, none⟩) n c i l B _ (hr.alloc2 hB _ _) hn hi1 g2).mono ?_; rintro e w8 ⟨rfl, rfl⟩)
      | (go_at_call 41; with_reducible refine (refGetText_is (some ⟨b9, o9, none⟩) n c m 64 l B _ (hr.alloc2 hB _ _) hc hn hm1 HG5.out).mono ?_; rintro e w8 ⟨rfl, rfl⟩)
      | (go_at_call 41; with_reducible refine (refGetText_is (some ⟨b9, o9, none⟩) n c P 64 l B _ (hr.alloc2 hB _ _) hc hn HJ1.out HG4.out).mono ?_; rintro e w8 ⟨rfl, rfl⟩))
    go_region_held3 (fun x : World => x.cell? ⟨b9, o9 + J, none⟩ = some (.int .u8 (c9.toNat : Int))) (first | exact hcell2 _ _ | exact hcell3 _ _ _ | assumption | trivial) (first
      | (go_at_call 42; with_reducible refine (refBeside_any b d _ b1r.1 b1r.2).mono ?_; rw [HX.out]; rintro e w8 ⟨rfl, rfl⟩)
      | (go_at_call 42; with_reducible refine (refBeside_any t s _ b2r.1 b2r.2).mono ?_; rw [HY.out]; rintro e w8 ⟨rfl, rfl⟩))
    all_goals go_wp2_with (go_at_call 17; with_reducible refine (refCheck_any X Y k v D _ hk64 hv64).mono ?_; rw [hm]; rintro e w9 ⟨rfl, hb99⟩; have k0 := hb99.cell (p := ⟨w.heap.size + 1 + 1, 0, none⟩) (by simp); have k1 := hb99.cell (p := ⟨w.heap.size + 1 + 1, 1, none⟩) (by simp); have k2 := hb99.cell (p := ⟨w.heap.size + 1 + 1, 2, none⟩) (by simp); have k3 := hb99.cell (p := ⟨w.heap.size + 1 + 1, 3, none⟩) (by simp); have k4 := hb99.cell (p := ⟨w.heap.size + 1 + 1, 4, none⟩) (by simp); have m0 := hb99.cell (p := ⟨w.heap.size, 0, none⟩) (by simp; omega); have f0 := hb99.frozen (p := ⟨w.heap.size, 0, none⟩) (by simp; omega); have m1 := hb99.cell (p := ⟨w.heap.size, 1, none⟩) (by simp; omega); have f1 := hb99.frozen (p := ⟨w.heap.size, 1, none⟩) (by simp; omega); have m2 := hb99.cell (p := ⟨w.heap.size, 2, none⟩) (by simp; omega); have f2 := hb99.frozen (p := ⟨w.heap.size, 2, none⟩) (by simp; omega); have m3 := hb99.cell (p := ⟨w.heap.size, 3, none⟩) (by simp; omega); have f3 := hb99.frozen (p := ⟨w.heap.size, 3, none⟩) (by simp; omega); have m4 := hb99.cell (p := ⟨w.heap.size, 4, none⟩) (by simp; omega); have f4 := hb99.frozen (p := ⟨w.heap.size, 4, none⟩) (by simp; omega))
    all_goals
      have n0 : w9.cell? ⟨w.heap.size, 0, none⟩ = some (.int .i64 0) := m0.trans (by simp [go_sem])
      have n1 : w9.cell? ⟨w.heap.size, 1, none⟩ = some (.string ⟨#[]⟩) := m1.trans (by simp [go_sem])
      have n2 : w9.cell? ⟨w.heap.size, 2, none⟩ = some (.string ⟨#[]⟩) := m2.trans (by simp [go_sem])
      have n3 : w9.cell? ⟨w.heap.size, 3, none⟩ = some (.bool false) := m3.trans (by simp [go_sem])
      have n4 : w9.cell? ⟨w.heap.size, 4, none⟩ = some (.int .i64 0) := m4.trans (by simp [go_sem])
    all_goals exact bodyPost_ret (v := .tuple #[RV ⟨X, k, v, D, Y⟩, .int .i64 q, .int .i64 0]) (by simp [results, Try.results21, go_sem, n0, n1, n2, n3, n4]; rfl) rfl ⟨rfl, (((((((((Below.refl _ _).alloc (Nat.le_refl _) _).alloc (by simp) _).alloc (by simp; omega) _).drew.trans (hb99.mono (by simp; omega))).setCell (by simp) _).setCell (by simp) _).setCell (by simp) _).setCell (by simp) _).setCell (by simp) _⟩
end Go.Proofs.Ytfjdalekpmlnaaa.Rec
