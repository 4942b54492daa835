/- The contract of the landed rec's Get: the walk. -/
import Derived.Test.YtfjdalekpmlnaaaRecDevM
namespace Go.Proofs.Ytfjdalekpmlnaaa.Rec
open Go.RowKit Go.Proofs.Ytfjdalekpmlnaaa.Oct Go.Proofs.Ytfjdalekpmlnaaa.Crc

set_option maxRecDepth 100000 in
set_option maxHeartbeats 4000000 in
theorem Get_any (A : Option Addr) (n c : Nat) (l : List UInt8) (B : Nat) (p b t : Int) (w : World) (hr : Rd w B A n l) (hB : B ≤ w.heap.size) (hc : n ≤ c) (hn : n ≤ 137438953472) (hp : I64 p) (_hb : I64 b) (_ht : I64 t) :
    Calls Try.prog 20 #[.slice A n c, .int .i64 p, .int .i64 b, .int .i64 t] w (RG w (gr l p b t)) := by
  have hl := hr.len
  obtain ⟨hp0, hp1⟩ := hp
  clear _hb _ht
  rcases h1 : inR b with _ | _
  · have hz := Lib.hid (show gr l p b t = (nil, 0, 1) by unfold gr; rw [h1]; rfl)
    rw [hz.out]
    go_enter Try.func20, Try.ntmps20
    go_wp2_with (go_at_call 22; refine (inRange_any _ _ (by first | exact h1 | exact h2)).mono ?_; rintro e w8 ⟨rfl, rfl⟩)
    exact bodyPost_ret (v := .tuple #[RV nil, .int .i64 0, .int .i64 1]) (by simp [results, Try.results20, go_sem]; rfl) rfl ⟨rfl, ((Below.refl _ _).alloc (Nat.le_refl _) _).alloc (by simp) _⟩
  rcases h2 : inR t with _ | _
  · have hz := Lib.hid (show gr l p b t = (nil, 0, 1) by unfold gr; rw [h1, h2]; rfl)
    rw [hz.out]
    go_enter Try.func20, Try.ntmps20
    go_wp2_with (go_at_call 22; refine (inRange_any _ _ (by first | exact h1 | exact h2)).mono ?_; rintro e w8 ⟨rfl, rfl⟩)
    exact bodyPost_ret (v := .tuple #[RV nil, .int .i64 0, .int .i64 1]) (by simp [results, Try.results20, go_sem]; rfl) rfl ⟨rfl, ((Below.refl _ _).alloc (Nat.le_refl _) _).alloc (by simp) _⟩
  by_cases h3 : p < 0
  · have hz := Lib.hid (show gr l p b t = (nil, 0, 1) by unfold gr; rw [if_neg]; simp; omega)
    rw [hz.out]
    go_enter Try.func20, Try.ntmps20
    go_wp2_with (go_at_call 22; refine (inRange_any _ _ (by first | exact h1 | exact h2)).mono ?_; rintro e w8 ⟨rfl, rfl⟩)
    exact bodyPost_ret (v := .tuple #[RV nil, .int .i64 0, .int .i64 1]) (by simp [results, Try.results20, go_sem]; rfl) rfl ⟨rfl, ((Below.refl _ _).alloc (Nat.le_refl _) _).alloc (by simp) _⟩
  by_cases h4 : (n : Int) < p
  · have hz := Lib.hid (show gr l p b t = (nil, 0, 1) by unfold gr; rw [if_neg]; simp; omega)
    rw [hz.out]
    go_enter Try.func20, Try.ntmps20
    go_wp2_with (go_at_call 22; refine (inRange_any _ _ (by first | exact h1 | exact h2)).mono ?_; rintro e w8 ⟨rfl, rfl⟩)
    exact bodyPost_ret (v := .tuple #[RV nil, .int .i64 0, .int .i64 1]) (by simp [results, Try.results20, go_sem]; rfl) rfl ⟨rfl, ((Below.refl _ _).alloc (Nat.le_refl _) _).alloc (by simp) _⟩
  have hpin : 0 ≤ p ∧ p ≤ (l.length : Int) := by omega
  rcases g1 : st 0 (gv l p) p 0 with ⟨d, i, x1⟩
  rcases g2 : st 0 (gv l i) i x1 with ⟨s, j, x2⟩
  rcases g3 : st false (gf l j) j x2 with ⟨D, q, x3⟩
  rcases g4 : st ByteArray.empty (gx l q 64) q x3 with ⟨k, m, x4⟩
  rcases g5 : st ByteArray.empty (gx l m 64) m x4 with ⟨v, y, x5⟩
  have bi := st_pos hpin gv_p g1
  have bj := st_pos bi gv_p g2
  have bq := st_pos bj gf_p g3
  have bm := st_pos bq gx_p g4
  obtain ⟨hbad, hgood⟩ := gr_st h1 h2 hpin g1 g2 g3 g4 g5
  have i9 : i ≤ 9223372036854775807 := by omega
  have j9 : j ≤ 9223372036854775807 := by omega
  have q9 : q ≤ 9223372036854775807 := by omega
  have m9 : m ≤ 9223372036854775807 := by omega
  have HR := Lib.hid (fun o o' : Obj => hr.alloc2 hB o o')
  have G1 := Lib.hid g1
  have G2 := Lib.hid g2
  have G3 := Lib.hid g3
  have G4 := Lib.hid g4
  have G5 := Lib.hid g5
  have hBs : B ≤ w.heap.size + 1 + 1 := by omega
  clear g1 g2 g3 g4 g5 hr hpin bi bj bq bm hl
  by_cases h5 : x5 = 0
  case neg =>
    have hz := Lib.hid (hbad h5)
    have h5' : (x5 == 0) = false := beqF h5
    have h5'' : (x5 != 0) = true := by simp [h5]
    clear hbad hgood h5
    rw [hz.out]
    go_enter Try.func20, Try.ntmps20
    go_wp2_with (first
      | (go_at_call 22; refine (inRange_any _ _ (by first | exact h1 | exact h2)).mono ?_; rintro e w8 ⟨rfl, rfl⟩)
      | (go_at_call 37; (with_reducible refine (fieldInt_any A n c w.heap.size _ p 0 l B _ (by simp) (by simp [go_sem]) (by simp; omega) (HR.out _ _) (by simpa using hBs) hc hn hp1).mono ?_); rw [G1.out]; rintro e w8 ⟨rfl, rfl⟩)
      | (go_at_call 37; (with_reducible refine (fieldInt_any A n c w.heap.size _ i x1 l B _ (by simp) (by simp [go_sem]) (by simp; omega) (HR.out _ _) (by simpa using hBs) hc hn i9).mono ?_); rw [G2.out]; rintro e w8 ⟨rfl, rfl⟩)
      | (go_at_call 38; (with_reducible refine (fieldBool_any A n c w.heap.size _ j x2 l B _ (by simp) (by simp [go_sem]) (by simp; omega) (HR.out _ _) (by simpa using hBs) hc hn j9).mono ?_); rw [G3.out]; rintro e w8 ⟨rfl, rfl⟩)
      | (go_at_call 39; (with_reducible refine (fieldText_any A n c w.heap.size _ q x3 l B _ (by simp) (by simp [go_sem]) (by simp; omega) (HR.out _ _) (by simpa using hBs) hc hn q9).mono ?_); rw [G4.out]; rintro e w8 ⟨rfl, rfl⟩)
      | (go_at_call 39; (with_reducible refine (fieldText_any A n c w.heap.size _ m x4 l B _ (by simp) (by simp [go_sem]) (by simp; omega) (HR.out _ _) (by simpa using hBs) hc hn m9).mono ?_); rw [G5.out]; rintro e w8 ⟨rfl, rfl⟩))
    go_region
    all_goals go_wp2
    all_goals exact bodyPost_ret (v := .tuple #[RV nil, .int .i64 0, .int .i64 x5]) (by simp [results, Try.results20, go_sem]; rfl) rfl ⟨rfl, ((((Below.refl _ _).alloc (Nat.le_refl _) _).alloc (by simp) _).alloc (by simp; omega) _).drew⟩
  subst h5
  obtain ⟨hz0, hk, hv, hd, hs⟩ := hgood rfl
  have hmw := may_wrap (k := k) (v := v) (D := D) h1 h2 hd hs
  have hk64 : k.size ≤ 1099511627776 := by omega
  have hv64 : v.size ≤ 1099511627776 := by omega
  obtain ⟨X, hX⟩ : ∃ X, IntKind.i64.wrap (b + d) = X := ⟨_, rfl⟩
  obtain ⟨Y, hY⟩ : ∃ Y, IntKind.i64.wrap (t + s) = Y := ⟨_, rfl⟩
  rw [hX, hY] at hmw
  have hX' : wrap64 (b + d) = X := (IntWalk.i64_left _).symm.trans hX
  have hY' : wrap64 (t + s) = Y := (IntWalk.i64_left _).symm.trans hY
  clear hX hY hbad hgood hk hv hd hs
  rcases hm : may ⟨X, k, v, D, Y⟩ with _ | _
  · have hz := Lib.hid (show gr l p b t = (nil, 0, 1) by
      rw [hz0]
      rw [hm] at hmw
      rcases hq : may ⟨bes b d, k, v, D, bes t s⟩ with _ | _
      · rfl
      · rw [hq] at hmw; have h9 := congrArg Prod.snd hmw; exact absurd h9 (by simp))
    have hm0 := chk_f hm
    clear hz0 hmw hm
    rw [hz.out]
    go_enter Try.func20, Try.ntmps20
    go_wp2_with (first
      | (go_at_call 22; refine (inRange_any _ _ (by first | exact h1 | exact h2)).mono ?_; rintro e w8 ⟨rfl, rfl⟩)
      | (go_at_call 37; (with_reducible refine (fieldInt_any A n c w.heap.size _ p 0 l B _ (by simp) (by simp [go_sem]) (by simp; omega) (HR.out _ _) (by simpa using hBs) hc hn hp1).mono ?_); rw [G1.out]; rintro e w8 ⟨rfl, rfl⟩)
      | (go_at_call 37; (with_reducible refine (fieldInt_any A n c w.heap.size _ i x1 l B _ (by simp) (by simp [go_sem]) (by simp; omega) (HR.out _ _) (by simpa using hBs) hc hn i9).mono ?_); rw [G2.out]; rintro e w8 ⟨rfl, rfl⟩)
      | (go_at_call 38; (with_reducible refine (fieldBool_any A n c w.heap.size _ j x2 l B _ (by simp) (by simp [go_sem]) (by simp; omega) (HR.out _ _) (by simpa using hBs) hc hn j9).mono ?_); rw [G3.out]; rintro e w8 ⟨rfl, rfl⟩)
      | (go_at_call 39; (with_reducible refine (fieldText_any A n c w.heap.size _ q x3 l B _ (by simp) (by simp [go_sem]) (by simp; omega) (HR.out _ _) (by simpa using hBs) hc hn q9).mono ?_); rw [G4.out]; rintro e w8 ⟨rfl, rfl⟩)
      | (go_at_call 39; (with_reducible refine (fieldText_any A n c w.heap.size _ m x4 l B _ (by simp) (by simp [go_sem]) (by simp; omega) (HR.out _ _) (by simpa using hBs) hc hn m9).mono ?_); rw [G5.out]; rintro e w8 ⟨rfl, rfl⟩)
      | (go_at_call 16; (with_reducible refine (Check_we X Y k v D _ hk64 hv64).mono ?_); rw [hm0]; rintro e w8 ⟨rfl, rfl⟩))
    go_region
    all_goals go_wp2
    all_goals exact bodyPost_ret (v := .tuple #[RV nil, .int .i64 0, .int .i64 1]) (by simp [results, Try.results20, go_sem]; rfl) rfl ⟨rfl, (((((Below.refl _ _).alloc (Nat.le_refl _) _).alloc (by simp) _).alloc (by simp; omega) _).alloc (by simp; omega) _).drew⟩
  · have hz := Lib.hid (show gr l p b t = (⟨X, k, v, D, Y⟩, y, 0) by
      rw [hz0]
      rw [hm] at hmw
      rcases hq : may ⟨bes b d, k, v, D, bes t s⟩ with _ | _
      · rw [hq] at hmw; have h9 := congrArg Prod.snd hmw; exact absurd h9 (by simp)
      · rw [hq] at hmw; have h9 : (⟨bes b d, k, v, D, bes t s⟩ : Rc) = ⟨X, k, v, D, Y⟩ := congrArg Prod.fst hmw; rw [h9]; rfl)
    have hm0 := chk_t hm
    clear hz0 hmw hm
    rw [hz.out]
    go_enter Try.func20, Try.ntmps20
    go_wp2_with (first
      | (go_at_call 22; refine (inRange_any _ _ (by first | exact h1 | exact h2)).mono ?_; rintro e w8 ⟨rfl, rfl⟩)
      | (go_at_call 37; (with_reducible refine (fieldInt_any A n c w.heap.size _ p 0 l B _ (by simp) (by simp [go_sem]) (by simp; omega) (HR.out _ _) (by simpa using hBs) hc hn hp1).mono ?_); rw [G1.out]; rintro e w8 ⟨rfl, rfl⟩)
      | (go_at_call 37; (with_reducible refine (fieldInt_any A n c w.heap.size _ i x1 l B _ (by simp) (by simp [go_sem]) (by simp; omega) (HR.out _ _) (by simpa using hBs) hc hn i9).mono ?_); rw [G2.out]; rintro e w8 ⟨rfl, rfl⟩)
      | (go_at_call 38; (with_reducible refine (fieldBool_any A n c w.heap.size _ j x2 l B _ (by simp) (by simp [go_sem]) (by simp; omega) (HR.out _ _) (by simpa using hBs) hc hn j9).mono ?_); rw [G3.out]; rintro e w8 ⟨rfl, rfl⟩)
      | (go_at_call 39; (with_reducible refine (fieldText_any A n c w.heap.size _ q x3 l B _ (by simp) (by simp [go_sem]) (by simp; omega) (HR.out _ _) (by simpa using hBs) hc hn q9).mono ?_); rw [G4.out]; rintro e w8 ⟨rfl, rfl⟩)
      | (go_at_call 39; (with_reducible refine (fieldText_any A n c w.heap.size _ m x4 l B _ (by simp) (by simp [go_sem]) (by simp; omega) (HR.out _ _) (by simpa using hBs) hc hn m9).mono ?_); rw [G5.out]; rintro e w8 ⟨rfl, rfl⟩)
      | (go_at_call 16; (with_reducible refine (Check_we X Y k v D _ hk64 hv64).mono ?_); rw [hm0]; rintro e w8 ⟨rfl, rfl⟩))
    go_region
    all_goals go_wp2
    all_goals exact bodyPost_ret (v := .tuple #[RV ⟨X, k, v, D, Y⟩, .int .i64 y, .int .i64 0]) (by simp [results, Try.results20, go_sem]; rfl) rfl ⟨rfl, (((((Below.refl _ _).alloc (Nat.le_refl _) _).alloc (by simp) _).alloc (by simp; omega) _).alloc (by simp; omega) _).drew⟩
end Go.Proofs.Ytfjdalekpmlnaaa.Rec
