/- The walk of CrcBack. -/
import Derived.Test.YtkpemlfblpkjoaaDoorCrcLive
import Derived.Test.YtkpemlfblpkjoaaDoorCrcRef2
import Derived.Test.YtkpemlfblpkjoaaDoorOctFGet
import Derived.Deep.RegionHeld3
import Derived.Deep.QuietTactic
import Derived.BigQuiet
namespace Go.Proofs.YtkpemlfblpkjoaaDoor.Crc
open Go.RowKit Go.Proofs.YtkpemlfblpkjoaaDoor.Oct

theorem beq_wrap (v : Nat) (h : v < 4294967296) : ((v : Int) == IntKind.u64.wrap (v : Int)) = true := by
  rw [IntWalk.u64_in _ (by omega)]
  simp
theorem gt_seal (l : List UInt8) (n : Nat) (hn : l.length = n) : gt (sealB l) (n : Int) 4 = (sum l, 0) := by
  subst hn
  have h := gt_at l [] (sum l) 4 (by omega) (by omega)
  rw [List.append_nil] at h
  have e : sum l % 256 ^ 4 = sum l := Nat.mod_eq_of_lt (sum_lt l)
  rw [e] at h
  exact h

set_option maxRecDepth 100000 in
set_option maxHeartbeats 2000000 in
theorem crcBack_walk (A : Option Addr) (n c : Nat) (l : List UInt8) (w : World) (hr : Rd w w.heap.size A n l) (hc : n ≤ c) (ht : Tab w) :
    Calls Tryd.prog 8 #[.slice A n c] w fun e w' => e = .returned (.bool true) ∧ Below w.heap.size w w' := by
  have HT := Lib.hid ht
  clear ht
  have HR := Lib.hid hr
  have hl := hr.len
  clear hr
  by_cases hg : n ≤ 2000
  · obtain ⟨y, hy⟩ : ∃ y, y = sealB l := ⟨_, rfl⟩
    have HY := Lib.hid hy
    have HYL := Lib.hid (show y.length = n + 4 by rw [hy, sealB_length, hl])
    have HO := Lib.hid (show openB y = (l, 0) by rw [hy, openB_sealB])
    have HG := Lib.hid (show gt y (n : Int) 4 = (sum l, 0) by rw [hy]; exact gt_seal l n hl)
    have HTK := Lib.hid (show y.take n = l by rw [hy, ← hl]; unfold sealB; exact List.take_left)
    have HS := Lib.hid (sum_lt l)
    have hll : (l == l) = true := by simp
    clear hy hl
    go_enter Tryd.func8, Tryd.ntmps8
    go_wp2_with (first
      | (go_at_call 12; refine (live_any _ HT.out).mono ?_; rintro e w1 ⟨rfl, hb1⟩)
      | (go_at_call 17; refine (Seal_any A n c l _ w1 (HR.out.below hb1 (Nat.le_refl _)) hb1.size hc (by omega) (HT.out.bel (by assumption))).mono ?_; rw [← HY.out]; rintro e w2 ⟨A2, n2, c2, rfl, hown2, hb2⟩; have hn2 : n2 = n + 4 := (by have h1 := hown2.len; have h2 := HYL.out; omega); subst hn2; have hb12 := bel_trans hb1 hb2; have hcap := hown2.cap)
      | (go_at_call 15; refine (Open_is A2 (n + 4) c2 y _ _ _ w2 hown2.rd (Nat.le_refl _) hcap (by omega) HO.out (HT.out.bel (by assumption))).mono ?_; rintro e w3 ⟨A3, n3, c3, rfl, hown3, hb3⟩; have hb13 := bel_trans hb12 hb3))
    have hy3 := hown2.rd.below hb3 (Nat.le_refl _)
    have r1 := fun k => str_of (w3.drewN k) _ A2 n c2 l (by have h := (hy3.drewN k).take (m := n) (by omega); rw [HTK.out] at h; exact h)
    have r2 := fun k => str_of (w3.drewN k) _ A n c l ((HR.out.below hb13 (Nat.le_refl _)).drewN k)
    have r3 := fun k => str_of (w3.drewN k) _ A3 n3 c3 l (hown3.rd.drewN k)
    have hsum : IntKind.i64.wrap ((n : Int) + 4) = (n : Int) + 4 := IntWalk.i64_in _ (by omega)
    have q1 : (n : Int) ≤ (c2 : Int) := by omega
    have q2 : n ≤ c2 := by omega
    have q3 : (((n + 4 : Nat) : Int) != (n : Int) + 4) = false := by simp
    have q4 : ((n : Int) + 4 != (n : Int) + 4) = false := by simp
    go_quiet (fail)
    clear r1 r2 r3 hsum q3 q4
    go_wp2_with (first
      | (go_at_call 21; refine (Get_is A2 (n + 4) c2 _ _ y _ _ (hy3.drewN _) hcap (by omega) HG.out).mono ?_; rintro e w9 ⟨rfl, rfl⟩)
      | (go_at_call 13; refine (Sum_any A n c l _ _ ((HR.out.below hb13 (Nat.le_refl _)).drewN _) hb13.size (by omega) (HT.out.bel (bel_drewN hb13 _))).mono ?_; rintro e w5 ⟨rfl, hb5⟩; have hb15 := bel_trans (bel_drewN hb13 _) hb5))
    all_goals go_ret
    all_goals exact ⟨ret_bool (beq_wrap _ HS.out), hb15⟩
  · have hg1 : 2000 < n := by omega
    clear hg hl
    go_enter Tryd.func8, Tryd.ntmps8
    go_wp2_with (go_at_call 12; refine (live_any _ HT.out).mono ?_; rintro e w1 ⟨rfl, hb1⟩)
    go_ret
    exact ⟨rfl, hb1⟩
end Go.Proofs.YtkpemlfblpkjoaaDoor.Crc
