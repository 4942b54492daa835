/- Joined: IdxF. -/
import Derived.Test.YtbnkfljkojhkoaaGreatDoorIdxEnt
import Derived.Test.YtbnkfljkojhkoaaGreatDoorJOct
import Derived.WalkKit
/- The landed index.Floor and index.When: the last entry that is so, by halving. -/
namespace Go.Proofs.YtbnkfljkojhkoaaGreatDoor.Idx
open Go.RowKit Oct RowF

def soF (k : Int) (x : En) : Bool := decide (x.off ≤ k)
def soW (k : Int) (x : En) : Bool := decide (x.stamp < k)
def lastX (so : En → Bool) : Int → List En → Int
  | p, [] => p
  | p, x :: l => lastX so (if so x then x.pos else p) l
theorem floorX_is (k p : Int) (l : List En) : floorX k p l = lastX (soF k) p l := by
  induction l generalizing p with
  | nil => rfl
  | cons x l ih => show floorX k _ l = lastX (soF k) _ l; rw [ih]; simp only [soF, decide_eq_true_eq]
theorem whenX_is (k p : Int) (l : List En) : whenX k p l = lastX (soW k) p l := by
  induction l generalizing p with
  | nil => rfl
  | cons x l ih => show whenX k _ l = lastX (soW k) _ l; rw [ih]; simp only [soW, decide_eq_true_eq]
theorem lastX_none {so : En → Bool} {p : Int} {l : List En} (h : l.any so = false) : lastX so p l = p := by
  induction l generalizing p with
  | nil => rfl
  | cons x l ih =>
    rw [List.any_cons, Bool.or_eq_false_iff] at h
    show lastX so (if so x then x.pos else p) l = p
    rw [h.1]
    exact ih h.2
theorem lastX_at {so : En → Bool} {p : Int} {l : List En} {k : Nat} {x : En} (hx : l[k]? = some x) (hs : so x = true) (h : (l.drop (k + 1)).any so = false) : lastX so p l = x.pos := by
  induction l generalizing p k with
  | nil => simp at hx
  | cons y l ih =>
    cases k with
    | zero =>
      obtain rfl : y = x := by simpa using hx
      show lastX so (if so y then y.pos else p) l = y.pos
      rw [hs]
      exact lastX_none h
    | succ k => exact ih (by simpa using hx) h
theorem any_snoc {so : En → Bool} {l : List En} {k : Nat} {x : En} (h : (l.take k).any so = false) (hx : l[k]? = some x) (hs : so x = false) : (l.take (k + 1)).any so = false := by
  rw [List.take_add_one, hx, List.any_append, h]
  simp [hs]
theorem any_at {so : En → Bool} {l : List En} {k : Nat} {x : En} (hx : l[k]? = some x) (hs : so x = true) : l.any so = true := List.any_eq_true.2 ⟨x, List.mem_of_getElem? hx, hs⟩
def ixRel (so : En → Bool) (l : List En) (n : Nat) (w : World) (i : Value) (wr : World) : Prop := ∃ k : Nat, i = .int .i64 (k : Int) ∧ k ≤ n ∧ (l.take k).any so = false ∧ Below w.heap.size w wr
def lsRel (so : En → Bool) (l : List En) (n : Nat) (w : World) (vf vt : Value) (wr : World) : Prop :=
  ∃ f t : Nat, vf = .int .i64 (f : Int) ∧ vt = .int .i64 (t : Int) ∧ f ≤ t ∧ t ≤ n ∧ (f = 0 ∨ (l.drop (f - 1)).any so = true) ∧ (l.drop t).any so = false ∧ Below w.heap.size w wr
theorem any_part {so : En → Bool} {l : List En} {h t : Nat} (hl : h ≤ t) (ht : (l.drop t).any so = false) : ((l.drop h).take (t - h)).any so = (l.drop h).any so := by
  have e : l.drop h = (l.drop h).take (t - h) ++ l.drop t := by
    have h1 := (List.take_append_drop (t - h) (l.drop h)).symm
    rw [List.drop_drop, show h + (t - h) = t by omega] at h1
    exact h1
  conv => rhs; rw [e, List.any_append, ht, Bool.or_false]
theorem at_last {so : En → Bool} {l : List En} {f : Nat} (h0 : f ≠ 0) (h1 : (l.drop (f - 1)).any so = true) (h2 : (l.drop f).any so = false) : ∃ x, l[f - 1]? = some x ∧ so x = true := by
  cases hd : l.drop (f - 1) with
  | nil => rw [hd] at h1; cases h1
  | cons x m =>
    have hx : l[f - 1]? = some x := by have := congrArg (·[0]?) hd; rw [List.getElem?_drop] at this; simpa using this
    have hm : m = l.drop f := by
      have := congrArg (List.drop 1) hd
      rw [List.drop_drop, show f - 1 + 1 = f by omega] at this
      exact this.symm
    refine ⟨x, hx, ?_⟩
    rw [hd, List.any_cons, hm, h2, Bool.or_false] at h1
    exact h1
theorem fl1_any (b : Nat) (kk : Int) (x0 x1 x2 : Int) (w : World) (hb : b < w.heap.size) (h : w.cell? ⟨b, 0, none⟩ = some (.int .i64 kk)) :
    Calls Tryz.prog 31 #[.agg #[.int .i64 x0, .int .i64 x1, .int .i64 x2], .pointer (some ⟨b, 0, none⟩)] w fun e w' => e = .returned (.bool (soF kk ⟨x0, x1, x2⟩)) ∧ Below w.heap.size w w' := by
  go_enter Tryz.func31, Tryz.ntmps31
  go_wp2
  go_ret
  exact ⟨rfl, bel_alloc (Below.refl _ _) _⟩
set_option maxRecDepth 100000 in
set_option maxHeartbeats 2000000 in
theorem flIndex_any (A : Option Addr) (n c : Nat) (l : List En) (bc : Nat) (kk : Int) (w : World) (hr : RdE w w.heap.size A n l) (hn : n ≤ 1099511627776) (hbc : bc < w.heap.size) (hcell : w.cell? ⟨bc, 0, none⟩ = some (.int .i64 kk)) :
    Calls Tryz.prog 56 #[.slice A n c, .func (.func 31) #[] #[.pointer (some ⟨bc, 0, none⟩)]] w fun e w' => (∃ i : Int, e = .returned (.int .i64 i) ∧ decide (0 ≤ i) = l.any (soF kk)) ∧ Below w.heap.size w w' := by
  have HR := Lib.hid hr
  have HC := Lib.hid hcell
  clear hr hcell
  go_enter Tryz.func56, Tryz.ntmps56
  go_wp2
  go_loopw [8] (fun i wr => ixRel (soF kk) l n w i wr) (fun i _ => n - (intOf i).toNat)
  case atStart => exact ⟨0, rfl, Nat.zero_le _, rfl, Below.refl _ _⟩
  case round =>
    obtain ⟨k, rfl, hk, hT, hb⟩ := hrel
    have HT := Lib.hid hT
    have HBL := Lib.hid hb
    have HX := Lib.hid ((HR.out.below hb (Nat.le_refl _)).more hb.size)
    have HCR := Lib.hid ((hb.cell (p := ⟨bc, 0, none⟩) hbc).trans HC.out)
    have hbcr : bc < wr.heap.size := Nat.lt_of_lt_of_le hbc hb.size
    clear hT hb
    by_cases hlt : k < n
    · obtain ⟨b, o, ⟨x0, x1, x2⟩, rfl, hbl, hx, k0, k1, k2⟩ := en_at HX.out hlt
      have HL := Lib.hid hx
      clear hx
      rcases hs : soF kk ⟨x0, x1, x2⟩ with _ | _
      · have HSO := Lib.hid hs
        clear hs
        go_wp2_with (go_at_call 31; (with_reducible refine (fl1_any bc kk x0 x1 x2 _ hbcr HCR.out).mono ?_); rw [HSO.out]; rintro e w1 ⟨rfl, hb1⟩)
        go_roundw
        case rel => exact ⟨k + 1, by go_num, by omega, any_snoc HT.out HL.out HSO.out, bel_trans HBL.out hb1⟩
        case measure => simp [intOf]; omega
      · have HSO := Lib.hid hs
        clear hs
        go_wp2_with (go_at_call 31; (with_reducible refine (fl1_any bc kk x0 x1 x2 _ hbcr HCR.out).mono ?_); rw [HSO.out]; rintro e w1 ⟨rfl, hb1⟩)
        go_ret
        exact ⟨⟨_, rfl, by rw [any_at HL.out HSO.out]; exact decide_eq_true (by omega)⟩, bel_trans HBL.out hb1⟩
    · have hkn : k = n := by omega
      subst hkn
      have HA := Lib.hid (show l.any (soF kk) = false by have h := HT.out; rw [List.take_of_length_le (by have := HX.out.len; omega)] at h; exact h)
      go_wp2
      go_ret
      exact ⟨⟨_, rfl, by rw [HA.out]; rfl⟩, HBL.out⟩
theorem flContains_any (A : Option Addr) (n c : Nat) (l : List En) (bc : Nat) (kk : Int) (r : Bool) (w : World) (hr : RdE w w.heap.size A n l) (hn : n ≤ 1099511627776) (hbc : bc < w.heap.size) (hcell : w.cell? ⟨bc, 0, none⟩ = some (.int .i64 kk)) (hres : l.any (soF kk) = r) :
    Calls Tryz.prog 43 #[.slice A n c, .func (.func 31) #[] #[.pointer (some ⟨bc, 0, none⟩)]] w fun e w' => e = .returned (.bool r) ∧ Below w.heap.size w w' := by
  have HR := Lib.hid hr
  have HRES := Lib.hid hres
  clear hr hres
  go_enter Tryz.func43, Tryz.ntmps43
  go_wp2_with (go_at_call 56; (with_reducible refine (flIndex_any A n c l bc kk _ HR.out hn hbc hcell).mono ?_); rw [HRES.out]; rintro e w1 ⟨⟨i, rfl, hi⟩, hb1⟩)
  go_ret
  exact ⟨rfl, hb1⟩
set_option maxRecDepth 100000 in
set_option maxHeartbeats 2000000 in
theorem flLast_any (A : Option Addr) (n c : Nat) (l : List En) (bc : Nat) (kk : Int) (w : World) (hr : RdE w w.heap.size A n l) (hc : n ≤ c) (hn : n ≤ 1099511627776) (hbc : bc < w.heap.size) (hcell : w.cell? ⟨bc, 0, none⟩ = some (.int .i64 kk)) :
    Calls Tryz.prog 30 #[.slice A n c, .func (.func 31) #[] #[.pointer (some ⟨bc, 0, none⟩)]] w fun e w' => e = .returned (.int .i64 (lastX (soF kk) 0 l)) ∧ Below w.heap.size w w' := by
  have HR := Lib.hid hr
  have HC := Lib.hid hcell
  have HLN := Lib.hid hr.len
  clear hr hcell
  go_enter Tryz.func30, Tryz.ntmps30
  go_wp2
  go_loopw [5, 6] (fun vf vt wr => lsRel (soF kk) l n w vf vt wr) (fun vf vt _ => (intOf vt).toNat - (intOf vf).toNat)
  case atStart => exact ⟨0, n, rfl, rfl, Nat.zero_le _, Nat.le_refl _, .inl rfl, by rw [List.drop_of_length_le (by have := HLN.out; omega)]; rfl, Below.refl _ _⟩
  case round =>
    obtain ⟨f, t, rfl, rfl, hft, htn, h1, h2, hb⟩ := hrel
    have H1 := Lib.hid h1
    have H2 := Lib.hid h2
    have HBL := Lib.hid hb
    have HX := Lib.hid ((HR.out.below hb (Nat.le_refl _)).more hb.size)
    have HCR := Lib.hid ((hb.cell (p := ⟨bc, 0, none⟩) hbc).trans HC.out)
    have hbcr : bc < wr.heap.size := Nat.lt_of_lt_of_le hbc hb.size
    clear h1 h2 hb
    by_cases hlt : f < t
    · have hfh : f ≤ (f + t) / 2 := by omega
      have hht : (f + t) / 2 < t := by omega
      obtain ⟨b, o, _, hAA, hbl, _⟩ := en_at HX.out (k := 0) (by omega)
      subst hAA
      have HCUT := Lib.hid (rdE_cut HX.out (i := (f + t) / 2) (m := t - (f + t) / 2) (by omega) (some ⟨b, o + (f + t) / 2 * 3, none⟩) (fun _ => by simp [Addr.add]))
      rcases hs : ((l.drop ((f + t) / 2)).take (t - (f + t) / 2)).any (soF kk) with _ | _
      · have HSO := Lib.hid hs
        clear hs
        go_wp2_with (go_at_call 43; (with_reducible refine (flContains_any _ _ _ _ bc kk _ _ HCUT.out (by omega) hbcr HCR.out HSO.out).mono ?_); rintro e w1 ⟨rfl, hb1⟩)
        go_roundw
        case rel => exact ⟨f, (f + t) / 2, rfl, by go_num, hfh, by omega, H1.out, by rw [← any_part (by omega) H2.out]; exact HSO.out, bel_trans HBL.out hb1⟩
        case measure => simp [intOf]; omega
      · have HSO := Lib.hid hs
        clear hs
        go_wp2_with (go_at_call 43; (with_reducible refine (flContains_any _ _ _ _ bc kk _ _ HCUT.out (by omega) hbcr HCR.out HSO.out).mono ?_); rintro e w1 ⟨rfl, hb1⟩)
        go_roundw
        case rel => exact ⟨(f + t) / 2 + 1, t, by go_num, rfl, by omega, htn, .inr (by rw [Nat.add_sub_cancel, ← any_part (by omega) H2.out]; exact HSO.out), H2.out, bel_trans HBL.out hb1⟩
        case measure => simp [intOf]; omega
    · obtain rfl : f = t := by omega
      by_cases h0 : f = 0
      · have HN := Lib.hid (lastX_none (p := 0) (by have := H2.out; rw [h0, List.drop_zero] at this; exact this))
        have hT : ((f : Int) == 0) = true := by rw [h0]; rfl
        have hF : ¬ (f : Int) < (f : Int) := by omega
        clear h0
        go_wp2
        go_ret
        exact ⟨by rw [HN.out]; rfl, HBL.out⟩
      · obtain ⟨x, hx, hs⟩ := at_last h0 (H1.out.resolve_left h0) H2.out
        have HE := Lib.hid (lastX_at (p := 0) hx hs (by rw [show f - 1 + 1 = f by omega]; exact H2.out))
        obtain ⟨j, hj⟩ : ∃ j, j = f - 1 := ⟨_, rfl⟩
        have hfj : f = j + 1 := by omega
        rw [← hj] at hx
        subst hfj
        obtain ⟨b, o, y, rfl, hbl, hy, k0, k1, k2⟩ := en_at HX.out (k := j) (by omega)
        rw [hx] at hy
        obtain rfl := Option.some.inj hy
        have hF : (((j + 1 : Nat) : Int) == 0) = false := beqF (by omega)
        have hw1 : IntKind.i64.wrap (((j + 1 : Nat) : Int) - 1) = (j : Int) := by rw [IntWalk.i64_in _ (by omega)]; omega
        clear hx hs hj
        go_wp2
        go_ret
        exact ⟨by rw [HE.out]; rfl, HBL.out⟩
theorem Floor_any (A : Option Addr) (n c : Nat) (l : List En) (kk : Int) (w : World) (hr : RdE w w.heap.size A n l) (hc : n ≤ c) (hn : n ≤ 1099511627776) :
    Calls Tryz.prog 18 #[.slice A n c, .int .i64 kk] w fun e w' => e = .returned (.int .i64 (floorX kk 0 l)) ∧ Below w.heap.size w w' := by
  have HR := Lib.hid (((hr.alloc (Nat.le_refl _) (.cells #[.int .i64 kk] 3)).more (show w.heap.size ≤ (w.alloc (.cells #[.int .i64 kk] 3)).heap.size by simp)))
  have HE := Lib.hid (floorX_is kk 0 l)
  have HC := Lib.hid (show (w.alloc (.cells #[.int .i64 kk] 3)).cell? ⟨w.heap.size, 0, none⟩ = some (.int .i64 kk) by simp [go_sem])
  clear hr
  go_enter Tryz.func18, Tryz.ntmps18
  go_wp2_with (go_at_call 30; (with_reducible refine (flLast_any A n c l w.heap.size kk _ HR.out hc hn (by simp) HC.out).mono ?_); rintro e w1 ⟨rfl, hb1⟩)
  go_ret
  exact ⟨by rw [HE.out]; rfl, bel_trans (bel_alloc (Below.refl _ _) _) hb1⟩
theorem wh1_any (b : Nat) (kk : Int) (x0 x1 x2 : Int) (w : World) (hb : b < w.heap.size) (h : w.cell? ⟨b, 0, none⟩ = some (.int .i64 kk)) :
    Calls Tryz.prog 32 #[.agg #[.int .i64 x0, .int .i64 x1, .int .i64 x2], .pointer (some ⟨b, 0, none⟩)] w fun e w' => e = .returned (.bool (soW kk ⟨x0, x1, x2⟩)) ∧ Below w.heap.size w w' := by
  go_enter Tryz.func32, Tryz.ntmps32
  go_wp2
  go_ret
  exact ⟨rfl, bel_alloc (Below.refl _ _) _⟩
set_option maxRecDepth 100000 in
set_option maxHeartbeats 2000000 in
theorem whIndex_any (A : Option Addr) (n c : Nat) (l : List En) (bc : Nat) (kk : Int) (w : World) (hr : RdE w w.heap.size A n l) (hn : n ≤ 1099511627776) (hbc : bc < w.heap.size) (hcell : w.cell? ⟨bc, 0, none⟩ = some (.int .i64 kk)) :
    Calls Tryz.prog 56 #[.slice A n c, .func (.func 32) #[] #[.pointer (some ⟨bc, 0, none⟩)]] w fun e w' => (∃ i : Int, e = .returned (.int .i64 i) ∧ decide (0 ≤ i) = l.any (soW kk)) ∧ Below w.heap.size w w' := by
  have HR := Lib.hid hr
  have HC := Lib.hid hcell
  clear hr hcell
  go_enter Tryz.func56, Tryz.ntmps56
  go_wp2
  go_loopw [8] (fun i wr => ixRel (soW kk) l n w i wr) (fun i _ => n - (intOf i).toNat)
  case atStart => exact ⟨0, rfl, Nat.zero_le _, rfl, Below.refl _ _⟩
  case round =>
    obtain ⟨k, rfl, hk, hT, hb⟩ := hrel
    have HT := Lib.hid hT
    have HBL := Lib.hid hb
    have HX := Lib.hid ((HR.out.below hb (Nat.le_refl _)).more hb.size)
    have HCR := Lib.hid ((hb.cell (p := ⟨bc, 0, none⟩) hbc).trans HC.out)
    have hbcr : bc < wr.heap.size := Nat.lt_of_lt_of_le hbc hb.size
    clear hT hb
    by_cases hlt : k < n
    · obtain ⟨b, o, ⟨x0, x1, x2⟩, rfl, hbl, hx, k0, k1, k2⟩ := en_at HX.out hlt
      have HL := Lib.hid hx
      clear hx
      rcases hs : soW kk ⟨x0, x1, x2⟩ with _ | _
      · have HSO := Lib.hid hs
        clear hs
        go_wp2_with (go_at_call 32; (with_reducible refine (wh1_any bc kk x0 x1 x2 _ hbcr HCR.out).mono ?_); rw [HSO.out]; rintro e w1 ⟨rfl, hb1⟩)
        go_roundw
        case rel => exact ⟨k + 1, by go_num, by omega, any_snoc HT.out HL.out HSO.out, bel_trans HBL.out hb1⟩
        case measure => simp [intOf]; omega
      · have HSO := Lib.hid hs
        clear hs
        go_wp2_with (go_at_call 32; (with_reducible refine (wh1_any bc kk x0 x1 x2 _ hbcr HCR.out).mono ?_); rw [HSO.out]; rintro e w1 ⟨rfl, hb1⟩)
        go_ret
        exact ⟨⟨_, rfl, by rw [any_at HL.out HSO.out]; exact decide_eq_true (by omega)⟩, bel_trans HBL.out hb1⟩
    · have hkn : k = n := by omega
      subst hkn
      have HA := Lib.hid (show l.any (soW kk) = false by have h := HT.out; rw [List.take_of_length_le (by have := HX.out.len; omega)] at h; exact h)
      go_wp2
      go_ret
      exact ⟨⟨_, rfl, by rw [HA.out]; rfl⟩, HBL.out⟩
theorem whContains_any (A : Option Addr) (n c : Nat) (l : List En) (bc : Nat) (kk : Int) (r : Bool) (w : World) (hr : RdE w w.heap.size A n l) (hn : n ≤ 1099511627776) (hbc : bc < w.heap.size) (hcell : w.cell? ⟨bc, 0, none⟩ = some (.int .i64 kk)) (hres : l.any (soW kk) = r) :
    Calls Tryz.prog 43 #[.slice A n c, .func (.func 32) #[] #[.pointer (some ⟨bc, 0, none⟩)]] w fun e w' => e = .returned (.bool r) ∧ Below w.heap.size w w' := by
  have HR := Lib.hid hr
  have HRES := Lib.hid hres
  clear hr hres
  go_enter Tryz.func43, Tryz.ntmps43
  go_wp2_with (go_at_call 56; (with_reducible refine (whIndex_any A n c l bc kk _ HR.out hn hbc hcell).mono ?_); rw [HRES.out]; rintro e w1 ⟨⟨i, rfl, hi⟩, hb1⟩)
  go_ret
  exact ⟨rfl, hb1⟩
set_option maxRecDepth 100000 in
set_option maxHeartbeats 2000000 in
theorem whLast_any (A : Option Addr) (n c : Nat) (l : List En) (bc : Nat) (kk : Int) (w : World) (hr : RdE w w.heap.size A n l) (hc : n ≤ c) (hn : n ≤ 1099511627776) (hbc : bc < w.heap.size) (hcell : w.cell? ⟨bc, 0, none⟩ = some (.int .i64 kk)) :
    Calls Tryz.prog 30 #[.slice A n c, .func (.func 32) #[] #[.pointer (some ⟨bc, 0, none⟩)]] w fun e w' => e = .returned (.int .i64 (lastX (soW kk) 0 l)) ∧ Below w.heap.size w w' := by
  have HR := Lib.hid hr
  have HC := Lib.hid hcell
  have HLN := Lib.hid hr.len
  clear hr hcell
  go_enter Tryz.func30, Tryz.ntmps30
  go_wp2
  go_loopw [5, 6] (fun vf vt wr => lsRel (soW kk) l n w vf vt wr) (fun vf vt _ => (intOf vt).toNat - (intOf vf).toNat)
  case atStart => exact ⟨0, n, rfl, rfl, Nat.zero_le _, Nat.le_refl _, .inl rfl, by rw [List.drop_of_length_le (by have := HLN.out; omega)]; rfl, Below.refl _ _⟩
  case round =>
    obtain ⟨f, t, rfl, rfl, hft, htn, h1, h2, hb⟩ := hrel
    have H1 := Lib.hid h1
    have H2 := Lib.hid h2
    have HBL := Lib.hid hb
    have HX := Lib.hid ((HR.out.below hb (Nat.le_refl _)).more hb.size)
    have HCR := Lib.hid ((hb.cell (p := ⟨bc, 0, none⟩) hbc).trans HC.out)
    have hbcr : bc < wr.heap.size := Nat.lt_of_lt_of_le hbc hb.size
    clear h1 h2 hb
    by_cases hlt : f < t
    · have hfh : f ≤ (f + t) / 2 := by omega
      have hht : (f + t) / 2 < t := by omega
      obtain ⟨b, o, _, hAA, hbl, _⟩ := en_at HX.out (k := 0) (by omega)
      subst hAA
      have HCUT := Lib.hid (rdE_cut HX.out (i := (f + t) / 2) (m := t - (f + t) / 2) (by omega) (some ⟨b, o + (f + t) / 2 * 3, none⟩) (fun _ => by simp [Addr.add]))
      rcases hs : ((l.drop ((f + t) / 2)).take (t - (f + t) / 2)).any (soW kk) with _ | _
      · have HSO := Lib.hid hs
        clear hs
        go_wp2_with (go_at_call 43; (with_reducible refine (whContains_any _ _ _ _ bc kk _ _ HCUT.out (by omega) hbcr HCR.out HSO.out).mono ?_); rintro e w1 ⟨rfl, hb1⟩)
        go_roundw
        case rel => exact ⟨f, (f + t) / 2, rfl, by go_num, hfh, by omega, H1.out, by rw [← any_part (by omega) H2.out]; exact HSO.out, bel_trans HBL.out hb1⟩
        case measure => simp [intOf]; omega
      · have HSO := Lib.hid hs
        clear hs
        go_wp2_with (go_at_call 43; (with_reducible refine (whContains_any _ _ _ _ bc kk _ _ HCUT.out (by omega) hbcr HCR.out HSO.out).mono ?_); rintro e w1 ⟨rfl, hb1⟩)
        go_roundw
        case rel => exact ⟨(f + t) / 2 + 1, t, by go_num, rfl, by omega, htn, .inr (by rw [Nat.add_sub_cancel, ← any_part (by omega) H2.out]; exact HSO.out), H2.out, bel_trans HBL.out hb1⟩
        case measure => simp [intOf]; omega
    · obtain rfl : f = t := by omega
      by_cases h0 : f = 0
      · have HN := Lib.hid (lastX_none (p := 0) (by have := H2.out; rw [h0, List.drop_zero] at this; exact this))
        have hT : ((f : Int) == 0) = true := by rw [h0]; rfl
        have hF : ¬ (f : Int) < (f : Int) := by omega
        clear h0
        go_wp2
        go_ret
        exact ⟨by rw [HN.out]; rfl, HBL.out⟩
      · obtain ⟨x, hx, hs⟩ := at_last h0 (H1.out.resolve_left h0) H2.out
        have HE := Lib.hid (lastX_at (p := 0) hx hs (by rw [show f - 1 + 1 = f by omega]; exact H2.out))
        obtain ⟨j, hj⟩ : ∃ j, j = f - 1 := ⟨_, rfl⟩
        have hfj : f = j + 1 := by omega
        rw [← hj] at hx
        subst hfj
        obtain ⟨b, o, y, rfl, hbl, hy, k0, k1, k2⟩ := en_at HX.out (k := j) (by omega)
        rw [hx] at hy
        obtain rfl := Option.some.inj hy
        have hF : (((j + 1 : Nat) : Int) == 0) = false := beqF (by omega)
        have hw1 : IntKind.i64.wrap (((j + 1 : Nat) : Int) - 1) = (j : Int) := by rw [IntWalk.i64_in _ (by omega)]; omega
        clear hx hs hj
        go_wp2
        go_ret
        exact ⟨by rw [HE.out]; rfl, HBL.out⟩
theorem When_any (A : Option Addr) (n c : Nat) (l : List En) (kk : Int) (w : World) (hr : RdE w w.heap.size A n l) (hc : n ≤ c) (hn : n ≤ 1099511627776) :
    Calls Tryz.prog 19 #[.slice A n c, .int .i64 kk] w fun e w' => e = .returned (.int .i64 (whenX kk 0 l)) ∧ Below w.heap.size w w' := by
  have HR := Lib.hid (((hr.alloc (Nat.le_refl _) (.cells #[.int .i64 kk] 3)).more (show w.heap.size ≤ (w.alloc (.cells #[.int .i64 kk] 3)).heap.size by simp)))
  have HE := Lib.hid (whenX_is kk 0 l)
  have HC := Lib.hid (show (w.alloc (.cells #[.int .i64 kk] 3)).cell? ⟨w.heap.size, 0, none⟩ = some (.int .i64 kk) by simp [go_sem])
  clear hr
  go_enter Tryz.func19, Tryz.ntmps19
  go_wp2_with (go_at_call 30; (with_reducible refine (whLast_any A n c l w.heap.size kk _ HR.out hc hn (by simp) HC.out).mono ?_); rintro e w1 ⟨rfl, hb1⟩)
  go_ret
  exact ⟨by rw [HE.out]; rfl, bel_trans (bel_alloc (Below.refl _ _) _) hb1⟩
end Go.Proofs.YtbnkfljkojhkoaaGreatDoor.Idx
