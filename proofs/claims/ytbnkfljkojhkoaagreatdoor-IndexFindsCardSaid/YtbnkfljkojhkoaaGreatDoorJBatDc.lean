/- Joined: BatRefD8, BatRefD9, BatRefD, BatRefG2. -/
import Derived.Test.YtbnkfljkojhkoaaGreatDoorJBatD
import Derived.Test.YtbnkfljkojhkoaaGreatDoorJBatDb
import Derived.Test.YtbnkfljkojhkoaaGreatDoorJCrc
/- The document's body: records. -/
namespace Go.Proofs.YtbnkfljkojhkoaaGreatDoor.Bat
open Go.RowKit Oct Rec Crc Lay RowF

set_option maxRecDepth 100000 in
set_option maxHeartbeats 8000000 in
theorem refBody_9 (A : Option Addr) (n c : Nat) (l : List UInt8) (w : World) (hr : Rd w w.heap.size A n l) (hc : n ≤ c) (hn : n ≤ 1099511627776) (n0 n1 n2 n3 n4 n5 n6 p : Int) (hV : rdV 7 l 0 = some ([n0, n1, n2, n3, n4, n5, n6], p)) (fc : UInt8) (hlp : l[p.toNat]? = some fc) (hf7 : ¬ 7 < fc.toNat) (m : Nat) (p2 : Int) (hg : gv l (p + 1) = ((m : Int), p2, 0)) (hm16 : m ≤ 16) (r3 : ¬ n1 < 0) (r4 : ¬ 16 < n1) (r5 : ¬ n0 < 0) (r6 : ¬ 1099511627776 < n0) (hm0 : 0 < m) (st p3 : Int) (hg3 : gv l p2 = (st, p3, 0)) (x : Rc) (ys : List Rc) (p4 : Int) (hN : rdR m l p3 n0 st = some (x :: ys, p4)) (hpe : p4 = (n : Int)) (hse : x.stamp = st) :
    Calls Tryz.prog 53 #[.slice A n c] w (BDY w l) := by
  have HVs := Lib.hid hV
  have HF := Lib.hid (gt_one_some (rdV_at_least hV).1 hlp)
  have HG := Lib.hid hg
  have hgg0 := gv_good hg
  have hplt := (rdV_at_least hV).2
  have hf8 : ¬ (7 : Int) < (fc.toNat : Int) := by omega
  have hlp' := (List.getElem?_eq_some_iff.1 hlp).1
  have hp20 : 0 ≤ p2 := by omega
  have hp21 : p2 ≤ (l.length : Int) := by omega
  obtain ⟨tx, htx⟩ : ∃ tx, decide ((4 : Int) ≤ (fc.toNat : Int)) = tx := ⟨_, rfl⟩
  obtain ⟨ct, hct⟩ : ∃ ct, (fc.toNat : Int) % 4 = ct := ⟨_, rfl⟩
  obtain ⟨L, hL⟩ : ∃ L, n0 + n1 = L := ⟨_, rfl⟩
  have HRB := Lib.hid (show rdB l = match rdT m l p2 n0 with | none => none | some (xs, q) => some (⟨n0, L, n2, n3, n4, n5, n6, tx, ct, xs⟩, q) by
    unfold rdB
    rw [hV]
    simp only [hlp, hg]
    rw [if_neg hf7, if_neg (by simp), if_neg (by omega), Int.toNat_natCast, hL, ← htx, ← hct]
    have e1 : decide (4 ≤ fc.toNat) = decide ((4 : Int) ≤ (fc.toNat : Int)) := decide_eq_decide.2 ⟨fun h => by omega, fun h => by omega⟩
    rw [e1]
    cases rdT m l p2 n0 with
    | none => rfl
    | some y => simp only [Int.natCast_emod]; rfl)
  have hfc255 : (fc.toNat : Int) ≤ 255 := by have := fc.toNat_lt; omega
  have hr1 : ¬ (m : Int) < 0 := by omega
  have hr2 : ¬ (16 : Int) < (m : Int) := by omega
  have hp19 : p + 1 ≤ 9223372036854775807 := by have := hr.len; omega
  have hmz : ((m : Int) == 0) = false := beqF (by omega)
  have hm1 : (0 : Int) < (m : Int) := by omega
  have HRD2 := Lib.hid (show rdB l = if x.stamp = st then some (⟨n0, L, n2, n3, n4, n5, n6, tx, ct, x :: ys⟩, p4) else none by
    rw [HRB.out]
    have hT : rdT m l p2 n0 = if x.stamp = st then some (x :: ys, p4) else none := by
      unfold rdT
      rw [if_neg (by omega), hg3]
      simp only
      rw [if_neg (by simp), hN]
      simp
    rw [hT]
    by_cases h : x.stamp = st
    · rw [if_pos h, if_pos h]
    · rw [if_neg h, if_neg h])
  have hb1 : (p4 == (n : Int)) = true := beqT hpe
  have HYES := Lib.hid (show rdB l = some (⟨n0, L, n2, n3, n4, n5, n6, tx, ct, x :: ys⟩, (l.length : Int)) by rw [HRD2.out, if_pos hse, hpe, hr.len])
  have hb2 : (x.stamp == st) = true := beqT hse
  clear hpe hse
  have HNN := Lib.hid hN
  have HG33 := Lib.hid hg3
  have hm0' : ((m : Int) == 0) = false := beqF (by omega)
  clear hN hg3
  have HTX := Lib.hid htx
  have HCT := Lib.hid hct
  have HLL := Lib.hid hL
  clear hV hg hgg0 htx hct hL hlp hlp' hf7
  have HW1 := Lib.hid (show Below w.heap.size w (((w.alloc (.cells #[.int .i64 0, .int .i64 0, .int .i64 0, .int .i64 0, .int .i64 0, .int .i64 0, .int .i64 0, .bool false, .int .i64 0, .slice none 0 0] 36)).alloc (.cells #[.int .i64 0, .int .i64 0, .int .i64 0, .int .i64 0, .int .i64 0, .int .i64 0, .int .i64 0, .bool false, .int .i64 0, .slice none 0 0] 36)).alloc (.cells #[.int .i64 0, .int .i64 0, .int .i64 0, .int .i64 0, .int .i64 0, .int .i64 0, .int .i64 0] 113)) from (((Below.refl w.heap.size w).alloc (Nat.le_refl _) _).alloc (by simp) _).alloc (by simp; omega) _)
  have HZ1 := Lib.hid (show ZB (((w.alloc (.cells #[.int .i64 0, .int .i64 0, .int .i64 0, .int .i64 0, .int .i64 0, .int .i64 0, .int .i64 0, .bool false, .int .i64 0, .slice none 0 0] 36)).alloc (.cells #[.int .i64 0, .int .i64 0, .int .i64 0, .int .i64 0, .int .i64 0, .int .i64 0, .int .i64 0, .bool false, .int .i64 0, .slice none 0 0] 36)).alloc (.cells #[.int .i64 0, .int .i64 0, .int .i64 0, .int .i64 0, .int .i64 0, .int .i64 0, .int .i64 0] 113)) w.heap.size from ((ZB.new w).below (bel_alloc (Below.refl _ _) _) (by simp)).below (bel_alloc (Below.refl _ _) _) (by simp; omega))
  have HZ2 := Lib.hid (show ZB (((w.alloc (.cells #[.int .i64 0, .int .i64 0, .int .i64 0, .int .i64 0, .int .i64 0, .int .i64 0, .int .i64 0, .bool false, .int .i64 0, .slice none 0 0] 36)).alloc (.cells #[.int .i64 0, .int .i64 0, .int .i64 0, .int .i64 0, .int .i64 0, .int .i64 0, .int .i64 0, .bool false, .int .i64 0, .slice none 0 0] 36)).alloc (.cells #[.int .i64 0, .int .i64 0, .int .i64 0, .int .i64 0, .int .i64 0, .int .i64 0, .int .i64 0] 113)) (w.heap.size + 1) by
    have h := (ZB.new (w.alloc (.cells #[.int .i64 0, .int .i64 0, .int .i64 0, .int .i64 0, .int .i64 0, .int .i64 0, .int .i64 0, .bool false, .int .i64 0, .slice none 0 0] 36))).below (bel_alloc (Below.refl _ _) (.cells #[.int .i64 0, .int .i64 0, .int .i64 0, .int .i64 0, .int .i64 0, .int .i64 0, .int .i64 0] 113)) (by simp)
    rw [show (w.alloc (.cells #[.int .i64 0, .int .i64 0, .int .i64 0, .int .i64 0, .int .i64 0, .int .i64 0, .int .i64 0, .bool false, .int .i64 0, .slice none 0 0] 36)).heap.size = w.heap.size + 1 by simp] at h
    exact h)
  have HA1 := Lib.hid (show AR (((w.alloc (.cells #[.int .i64 0, .int .i64 0, .int .i64 0, .int .i64 0, .int .i64 0, .int .i64 0, .int .i64 0, .bool false, .int .i64 0, .slice none 0 0] 36)).alloc (.cells #[.int .i64 0, .int .i64 0, .int .i64 0, .int .i64 0, .int .i64 0, .int .i64 0, .int .i64 0, .bool false, .int .i64 0, .slice none 0 0] 36)).alloc (.cells #[.int .i64 0, .int .i64 0, .int .i64 0, .int .i64 0, .int .i64 0, .int .i64 0, .int .i64 0] 113)) (w.heap.size + 2) [0, 0, 0, 0, 0, 0, 0] by
    have h := AR.new ((w.alloc (.cells #[.int .i64 0, .int .i64 0, .int .i64 0, .int .i64 0, .int .i64 0, .int .i64 0, .int .i64 0, .bool false, .int .i64 0, .slice none 0 0] 36)).alloc (.cells #[.int .i64 0, .int .i64 0, .int .i64 0, .int .i64 0, .int .i64 0, .int .i64 0, .int .i64 0, .bool false, .int .i64 0, .slice none 0 0] 36))
    rw [show ((w.alloc (.cells #[.int .i64 0, .int .i64 0, .int .i64 0, .int .i64 0, .int .i64 0, .int .i64 0, .int .i64 0, .bool false, .int .i64 0, .slice none 0 0] 36)).alloc (.cells #[.int .i64 0, .int .i64 0, .int .i64 0, .int .i64 0, .int .i64 0, .int .i64 0, .int .i64 0, .bool false, .int .i64 0, .slice none 0 0] 36)).heap.size = w.heap.size + 2 by simp] at h
    exact h)
  have HR := Lib.hid hr
  have hl := hr.len
  clear hr
  go_enter Tryz.func53, Tryz.ntmps53
  go_wp2
  generalize hw1 : (((w.alloc (.cells #[.int .i64 0, .int .i64 0, .int .i64 0, .int .i64 0, .int .i64 0, .int .i64 0, .int .i64 0, .bool false, .int .i64 0, .slice none 0 0] 36)).alloc (.cells #[.int .i64 0, .int .i64 0, .int .i64 0, .int .i64 0, .int .i64 0, .int .i64 0, .int .i64 0, .bool false, .int .i64 0, .slice none 0 0] 36)).alloc (.cells #[.int .i64 0, .int .i64 0, .int .i64 0, .int .i64 0, .int .i64 0, .int .i64 0, .int .i64 0] 113)) = w1 at *
  clear hw1
  go_loopw [5, 22] (fun a i wr => b1Rel l w.heap.size w1 a i wr) (fun _ i _ => 7 - (intOf i).toNat)
  case atStart => exact ⟨0, _, 0, rfl, rfl, by omega, by omega, by omega, HA1.out, (by intro x hx; simp only [List.mem_cons, List.not_mem_nil, or_false, or_self] at hx; subst hx; unfold W64; omega), (by cases rdV 7 l 0 <;> rfl), HZ1.out, HZ2.out, Below.refl _ _⟩
  case round =>
    obtain ⟨k, arr, pp, rfl, rfl, hk, hp0, hp1, har, hw64, hR, hz1, hz2, hbr⟩ := hrel
    have HAR := Lib.hid har
    have H64 := Lib.hid hw64
    have HRV := Lib.hid hR
    have HBR := Lib.hid hbr
    have HZA := Lib.hid hz1
    have HZB := Lib.hid hz2
    have HRD := Lib.hid (HR.out.below (HW1.out.trans hbr) (Nat.le_refl _))
    have hp9 : pp ≤ 9223372036854775807 := by omega
    clear har hw64 hR hbr
    by_cases hlt : k < 7
    · rcases hg9 : gv l pp with ⟨x, q, z⟩
      have HG9 := Lib.hid hg9
      by_cases hzz : z = 0
      · subst hzz
        have hgg := gv_good hg9
        have HS := Lib.hid (rdV_step hlt HAR.out.len HRV.out hg9)
        obtain ⟨ox, hox⟩ : ∃ ox, arr[k]? = some ox := ⟨_, List.getElem?_eq_getElem (by have := HAR.out.len; omega)⟩
        have hcell := HAR.out.c k ox hox
        have hfro := HAR.out.f k
        have y1 : (0 : Int) ≤ (k : Int) := by omega
        have y2 : (k : Int) < 7 := by omega
        clear hg9 hox hz1 hz2
        go_wp2_with (go_at_call 76; (with_reducible refine (refGetVar_is A n c pp l _ _ HRD.out hn hp9 HG9.out).mono ?_); rintro e w9 ⟨rfl, rfl⟩)
        go_roundw
        case rel =>
          refine ⟨k + 1, arr.set k x, q, by go_num, rfl, by omega, by omega, by omega, HAR.out.set hlt x, fun y hy => ?_, HS.out, HZA.out.set (by omega), HZB.out.set (by omega), HBR.out.setCell (by show w.heap.size ≤ w.heap.size + 2; omega) _⟩
          rcases List.mem_or_eq_of_mem_set hy with h | rfl
          · exact H64.out y h
          · exact ⟨hgg.2.2.2.2.2.1, hgg.2.2.2.2.2.2⟩
        case measure => simp [intOf]; omega
      · have hf : rdV (7 - k) l pp = none := rdV_fail (by omega) (by rw [hg9]; exact hzz)
        have h9 := HRV.out
        rw [hf, HVs.out] at h9
        cases h9
    · have hk7 : k = 7 := by omega
      subst hk7
      have hsr : w.heap.size + 2 < wr.heap.size := HAR.out.lt
      have HWR := Lib.hid (HW1.out.trans HBR.out)
      obtain ⟨rfl, rfl⟩ : arr = [n0, n1, n2, n3, n4, n5, n6] ∧ p = pp := by
        have h9 := HRV.out
        rw [HVs.out] at h9
        have hla := HAR.out.len
        simp [rdV] at h9
        exact ⟨by rw [h9.1, List.take_of_length_le (by omega)], h9.2⟩
      have a0 := HAR.out.c 0 n0 rfl
      have a1 := HAR.out.c 1 n1 rfl
      have a2 := HAR.out.c 2 n2 rfl
      have a3 := HAR.out.c 3 n3 rfl
      have a4 := HAR.out.c 4 n4 rfl
      have a5 := HAR.out.c 5 n5 rfl
      have a6 := HAR.out.c 6 n6 rfl
      obtain ⟨zc0, zc1, zc2, zc3, zc4, zc5, zc6, zc7, zc8, zc9, zf0, zf1, zf2, zf3, zf4, zf5, zf6, zf7, zf8, zf9, zlt⟩ := hz1
      obtain ⟨yc0, yc1, yc2, yc3, yc4, yc5, yc6, yc7, yc8, yc9, yf0, yf1, yf2, yf3, yf4, yf5, yf6, yf7, yf8, yf9, ylt⟩ := hz2
      have htx := HTX.out
      have hct := HCT.out
      have hL := HLL.out
      have HPUT := Lib.hid (show BoxB ((((((((((wr.setCell ⟨w.heap.size + 1, 0, none⟩ (.int .i64 n0)).setCell ⟨w.heap.size + 1, 1, none⟩ (.int .i64 L)).setCell ⟨w.heap.size + 1, 2, none⟩ (.int .i64 n2)).setCell ⟨w.heap.size + 1, 3, none⟩ (.int .i64 n3)).setCell ⟨w.heap.size + 1, 4, none⟩ (.int .i64 n4)).setCell ⟨w.heap.size + 1, 5, none⟩ (.int .i64 n5)).setCell ⟨w.heap.size + 1, 6, none⟩ (.int .i64 n6)).setCell ⟨w.heap.size + 1, 7, none⟩ (.bool tx)).setCell ⟨w.heap.size + 1, 8, none⟩ (.int .i64 ct)).setCell ⟨w.heap.size + 1, 9, none⟩ (.slice none 0 0)) (w.heap.size + 1) ⟨n0, L, n2, n3, n4, n5, n6, tx, ct, []⟩ (.slice none 0 0) ∧ ((((((((((wr.setCell ⟨w.heap.size + 1, 0, none⟩ (.int .i64 n0)).setCell ⟨w.heap.size + 1, 1, none⟩ (.int .i64 L)).setCell ⟨w.heap.size + 1, 2, none⟩ (.int .i64 n2)).setCell ⟨w.heap.size + 1, 3, none⟩ (.int .i64 n3)).setCell ⟨w.heap.size + 1, 4, none⟩ (.int .i64 n4)).setCell ⟨w.heap.size + 1, 5, none⟩ (.int .i64 n5)).setCell ⟨w.heap.size + 1, 6, none⟩ (.int .i64 n6)).setCell ⟨w.heap.size + 1, 7, none⟩ (.bool tx)).setCell ⟨w.heap.size + 1, 8, none⟩ (.int .i64 ct)).setCell ⟨w.heap.size + 1, 9, none⟩ (.slice none 0 0)).heap.size = wr.heap.size ∧ ∀ j, ((((((((((wr.setCell ⟨w.heap.size + 1, 0, none⟩ (.int .i64 n0)).setCell ⟨w.heap.size + 1, 1, none⟩ (.int .i64 L)).setCell ⟨w.heap.size + 1, 2, none⟩ (.int .i64 n2)).setCell ⟨w.heap.size + 1, 3, none⟩ (.int .i64 n3)).setCell ⟨w.heap.size + 1, 4, none⟩ (.int .i64 n4)).setCell ⟨w.heap.size + 1, 5, none⟩ (.int .i64 n5)).setCell ⟨w.heap.size + 1, 6, none⟩ (.int .i64 n6)).setCell ⟨w.heap.size + 1, 7, none⟩ (.bool tx)).setCell ⟨w.heap.size + 1, 8, none⟩ (.int .i64 ct)).setCell ⟨w.heap.size + 1, 9, none⟩ (.slice none 0 0)).frozen? ⟨w.heap.size + 1, j, none⟩ = wr.frozen? ⟨w.heap.size + 1, j, none⟩ from box_put HZB.out ⟨n0, L, n2, n3, n4, n5, n6, tx, ct, []⟩ (.slice none 0 0))
      have HW20 := Lib.hid (show Below w.heap.size w ((((((((((wr.setCell ⟨w.heap.size + 1, 0, none⟩ (.int .i64 n0)).setCell ⟨w.heap.size + 1, 1, none⟩ (.int .i64 L)).setCell ⟨w.heap.size + 1, 2, none⟩ (.int .i64 n2)).setCell ⟨w.heap.size + 1, 3, none⟩ (.int .i64 n3)).setCell ⟨w.heap.size + 1, 4, none⟩ (.int .i64 n4)).setCell ⟨w.heap.size + 1, 5, none⟩ (.int .i64 n5)).setCell ⟨w.heap.size + 1, 6, none⟩ (.int .i64 n6)).setCell ⟨w.heap.size + 1, 7, none⟩ (.bool tx)).setCell ⟨w.heap.size + 1, 8, none⟩ (.int .i64 ct)).setCell ⟨w.heap.size + 1, 9, none⟩ (.slice none 0 0)) from ((((((((((HWR.out.setCell (by first | (simp; done) | (simp; omega)) _).setCell (by first | (simp; done) | (simp; omega)) _).setCell (by first | (simp; done) | (simp; omega)) _).setCell (by first | (simp; done) | (simp; omega)) _).setCell (by first | (simp; done) | (simp; omega)) _).setCell (by first | (simp; done) | (simp; omega)) _).setCell (by first | (simp; done) | (simp; omega)) _).setCell (by first | (simp; done) | (simp; omega)) _).setCell (by first | (simp; done) | (simp; omega)) _).setCell (by first | (simp; done) | (simp; omega)) _))
      have HZ20 := Lib.hid (show ZB ((((((((((wr.setCell ⟨w.heap.size + 1, 0, none⟩ (.int .i64 n0)).setCell ⟨w.heap.size + 1, 1, none⟩ (.int .i64 L)).setCell ⟨w.heap.size + 1, 2, none⟩ (.int .i64 n2)).setCell ⟨w.heap.size + 1, 3, none⟩ (.int .i64 n3)).setCell ⟨w.heap.size + 1, 4, none⟩ (.int .i64 n4)).setCell ⟨w.heap.size + 1, 5, none⟩ (.int .i64 n5)).setCell ⟨w.heap.size + 1, 6, none⟩ (.int .i64 n6)).setCell ⟨w.heap.size + 1, 7, none⟩ (.bool tx)).setCell ⟨w.heap.size + 1, 8, none⟩ (.int .i64 ct)).setCell ⟨w.heap.size + 1, 9, none⟩ (.slice none 0 0)) w.heap.size from ((((((((((HZA.out.set (by omega)).set (by omega)).set (by omega)).set (by omega)).set (by omega)).set (by omega)).set (by omega)).set (by omega)).set (by omega)).set (by omega)))
      have hf20 : Hid (wr.frozen? ⟨w.heap.size + 1, 9, none⟩ = false) := Lib.hid HZB.out.f9
      go_wp2_with (first | (go_at_call 51; (with_reducible refine (Oct.refGet_is A n c p 1 l _ _ HRD.out hn HF.out).mono ?_); rintro e w9 ⟨rfl, rfl⟩) | (go_at_call 76; (with_reducible refine (refGetVar_is A n c (p + 1) l _ _ HRD.out hn hp19 HG.out).mono ?_); rintro e w8 ⟨rfl, rfl⟩))
      have HX20 := Lib.hid HPUT.out.1
      have hs20 : w.heap.size + 2 < ((((((((((wr.setCell ⟨w.heap.size + 1, 0, none⟩ (.int .i64 n0)).setCell ⟨w.heap.size + 1, 1, none⟩ (.int .i64 L)).setCell ⟨w.heap.size + 1, 2, none⟩ (.int .i64 n2)).setCell ⟨w.heap.size + 1, 3, none⟩ (.int .i64 n3)).setCell ⟨w.heap.size + 1, 4, none⟩ (.int .i64 n4)).setCell ⟨w.heap.size + 1, 5, none⟩ (.int .i64 n5)).setCell ⟨w.heap.size + 1, 6, none⟩ (.int .i64 n6)).setCell ⟨w.heap.size + 1, 7, none⟩ (.bool tx)).setCell ⟨w.heap.size + 1, 8, none⟩ (.int .i64 ct)).setCell ⟨w.heap.size + 1, 9, none⟩ (.slice none 0 0)).heap.size := by rw [HPUT.out.2.1]; exact hsr
      have HF20 := Lib.hid ((HPUT.out.2.2 9).trans hf20.out)
      have HRD20 := Lib.hid (HR.out.below HW20.out (Nat.le_refl _))
      clear HPUT htx hct hL a0 a1 a2 a3 a4 a5 a6
      generalize hw20 : ((((((((((wr.setCell ⟨w.heap.size + 1, 0, none⟩ (.int .i64 n0)).setCell ⟨w.heap.size + 1, 1, none⟩ (.int .i64 L)).setCell ⟨w.heap.size + 1, 2, none⟩ (.int .i64 n2)).setCell ⟨w.heap.size + 1, 3, none⟩ (.int .i64 n3)).setCell ⟨w.heap.size + 1, 4, none⟩ (.int .i64 n4)).setCell ⟨w.heap.size + 1, 5, none⟩ (.int .i64 n5)).setCell ⟨w.heap.size + 1, 6, none⟩ (.int .i64 n6)).setCell ⟨w.heap.size + 1, 7, none⟩ (.bool tx)).setCell ⟨w.heap.size + 1, 8, none⟩ (.int .i64 ct)).setCell ⟨w.heap.size + 1, 9, none⟩ (.slice none 0 0)) = w20 at *
      clear hw20
      have hg3 := HG33.out
      have hp29 : p2 ≤ 9223372036854775807 := by omega
      have hgg3 := gv_good hg3
      have HG3 := Lib.hid hg3
      (with_reducible refine (refGetVar_is A n c p2 l _ _ HRD20.out hn hp29 HG3.out).mono ?_)
      rintro e w8 ⟨rfl, rfl⟩
      clear hg3
      go_wp2
      have hs21 : w.heap.size + 1 < w20.heap.size := by omega
      go_loopw [5, 130] (fun a i wr => b2Rel 60 l w.heap.size ⟨n0, L, n2, n3, n4, n5, n6, tx, ct, []⟩ st p3 m w20.heap.size w20 a i wr) (fun _ i _ => m - (intOf i).toNat)
      case atStart => exact ⟨0, [], _, none, 0, rfl, rfl, by omega, by omega, by omega, (by cases rdR m l p3 n0 st <;> rfl), OwnF.nil, HX20.out, HF20.out, HZ20.out, Below.refl _ _, Nat.le_refl _⟩
      case round =>
        obtain ⟨k, xs, pq, A2, c2, rfl, rfl, hk2, hpp0, hpp1, hR2, ho2, hbx2, hf92, hzb2, hbr2, hbs2⟩ := hrel
        have HRV2 := Lib.hid hR2
        have HOr := Lib.hid ho2
        have HXr := Lib.hid hbx2
        have HFr := Lib.hid hf92
        have HZr := Lib.hid hzb2
        have HBr := Lib.hid hbr2
        have HRDr := Lib.hid (HRD20.out.below hbr2 (Nat.le_refl _))
        have hsz2 : w.heap.size ≤ w20.heap.size := by omega
        clear hR2 ho2 hbx2 hf92 hzb2 hbr2
        by_cases hlt2 : k < m
        · rcases hgr : gr l pq n0 st with ⟨⟨ro, rk, rv, rd, rt⟩, q, z⟩
          have HGR := Lib.hid hgr
          by_cases hzz : z = 0
          · subst hzz
            have hgg := gr_good hgr
            obtain ⟨-, -, -, -, hq1, hq2, -⟩ := hgg
            have HS2 := Lib.hid (rdR_step hlt2 HRV2.out hgr)
            have HSRC := Lib.hid (fun w9 : World => show RdF recC 5 ((w9.alloc (.cells #[.int .i64 ro, .string rk, .string rv, .bool rd, .int .i64 rt] 60)).alloc (.cells #[.int .i64 ro, .string rk, .string rv, .bool rd, .int .i64 rt] 60)) (w9.heap.size + 2) (some ⟨w9.heap.size + 1, 0, none⟩) 1 [⟨ro, rk, rv, rd, rt⟩] by
              have h := rdF_new (w9.alloc (.cells #[.int .i64 ro, .string rk, .string rv, .bool rd, .int .i64 rt] 60)) recS 60 ⟨ro, rk, rv, rd, rt⟩
              rw [show (w9.alloc (.cells #[.int .i64 ro, .string rk, .string rv, .bool rd, .int .i64 rt] 60)).heap.size = w9.heap.size + 1 by simp] at h
              exact h)
            clear hgr
            obtain ⟨e0, e1, e2, e3, e4, e5, e6, e7, e8, e9⟩ := HXr.out
            go_wp2_with (first
              | (at_builtin; refine wpList_appF _ recS rfl _ _ 34 rfl 56 w20.heap.size 60 Tryz.underlying34 recInfo _ k xs rfl ((HO9.out.alloc _).alloc _) _ (some ⟨w9.heap.size + 1, 0, none⟩) 1 1 [⟨ro, rk, rv, rd, rt⟩] rfl (HSRC.out w9) (by omega) (by omega) (by simp; omega) ?_; intro A3 c3 w3 hown hbel; have HO3 := Lib.hid hown; clear hown; have HB3 := Lib.hid hbel; have HBX3 := Lib.hid (((HX9.out.below (bel_alloc (Below.refl _ _) (.cells #[.int .i64 ro, .string rk, .string rv, .bool rd, .int .i64 rt] 60)) hx9l).below (bel_alloc (Below.refl _ _) (.cells #[.int .i64 ro, .string rk, .string rv, .bool rd, .int .i64 rt] 60)) (by simp; omega)).below hbel (show w.heap.size + 1 < w20.heap.size by omega)); obtain ⟨v0, v1, v2, v3, v4, v5, v6, v7, v8, v9⟩ := HBX3.out; have hfr3 : w3.frozen? ⟨w.heap.size + 1, 9, none⟩ = false := (hbel.frozen (p := ⟨w.heap.size + 1, 9, none⟩) (show w.heap.size + 1 < w20.heap.size by omega)).trans ((World.frozen?_alloc_past _ _ _ (by simp; omega)).trans ((World.frozen?_alloc_past _ _ _ hx9l).trans ((hb9.frozen (p := ⟨w.heap.size + 1, 9, none⟩) (show w.heap.size + 1 < wr.heap.size by omega)).trans HFr.out))))
              | (go_at_call 77; (with_reducible refine (refGetR_is A n c l w.heap.size pq n0 st _ HRDr.out (by omega) hc hn (by unfold I64; omega) HGR.out).mono ?_); rintro e w9 ⟨rfl, hb9⟩; have hs9 := hb9.size; have HX9 := Lib.hid (HXr.out.below hb9 (show w.heap.size + 1 < wr.heap.size by omega)); obtain ⟨x0, x1, x2, x3, x4, x5, x6, x7, x8, x9⟩ := HX9.out; have hx9l : w.heap.size + 1 < w9.heap.size := (by omega); have hx9m : w.heap.size < w9.heap.size := (by omega); have HO9 := Lib.hid (HOr.out.below hb9)))
            go_roundw
            case rel =>
              refine ⟨k + 1, xs ++ [⟨ro, rk, rv, rd, rt⟩], q, A3, c3, by go_num, rfl, by omega, by omega, by omega, HS2.out, HO3.out.setBelow (a := ⟨w.heap.size + 1, 9, none⟩) hs21 _, HBX3.out.put9, (frozen_set _ _ _ _).trans hfr3, ?_, ?_, ?_⟩
              · exact (((HZr.out.below hb9 (by omega)).below (bel_alloc (bel_alloc (Below.refl _ _) (.cells #[.int .i64 ro, .string rk, .string rv, .bool rd, .int .i64 rt] 60)) (.cells #[.int .i64 ro, .string rk, .string rv, .bool rd, .int .i64 rt] 60)) (by omega)).below HB3.out (by omega)).set (by omega)
              · exact ((HBr.out.trans ((bel_alloc (bel_alloc hb9 (.cells #[.int .i64 ro, .string rk, .string rv, .bool rd, .int .i64 rt] 60)) (.cells #[.int .i64 ro, .string rk, .string rv, .bool rd, .int .i64 rt] 60)).mono (by omega))).trans (HB3.out.mono hsz2)).setCell (by show w.heap.size ≤ w.heap.size + 1; omega) _
              · have h1 := HB3.out.size
                simp [World.setCell] at h1 ⊢
                omega
            case measure => simp [intOf]; omega
          · have hf : rdR (m - k) l pq n0 st = none := rdR_fail (by omega) (by rw [hgr]; exact hzz)
            have h9 := HRV2.out
            rw [hf, HNN.out] at h9
            cases h9
        · have hkm : m = k := by omega
          subst hkm
          have HRX := Lib.hid (show rdR m l p3 n0 st = some (xs, pq) by rw [HRV2.out, Nat.sub_self]; simp [rdR])
          obtain ⟨hxs, hpq⟩ : xs = x :: ys ∧ pq = p4 := by
            have h := HRX.out
            rw [HNN.out] at h
            simp only [Option.some.injEq, Prod.mk.injEq] at h
            exact ⟨h.1.symm, h.2.symm⟩
          subst hxs
          subst hpq
          obtain ⟨g2, hA2, hg2a, hg2b⟩ := HOr.out.form hm0
          subst hA2
          have hst4 := HOr.out.cellAt recS (k := 0) (i := 4) (x := x) rfl rfl
          rw [show 0 * 5 + 4 = 4 from rfl] at hst4
          have hcap2 := HOr.out.cap
          obtain ⟨x0, x1, x2, x3, x4, x5, x6, x7, x8, x9⟩ := HXr.out
          obtain ⟨vc0, vc1, vc2, vc3, vc4, vc5, vc6, vc7, vc8, vc9, vf0, vf1, vf2, vf3, vf4, vf5, vf6, vf7, vf8, vf9, vlt⟩ := HZr.out
          have hx9l : w.heap.size + 1 < wr.heap.size := by omega
          have hx9m : w.heap.size < wr.heap.size := by omega
          obtain ⟨HWF, hHWF⟩ : ∃ _ : Hid (Below w.heap.size w wr), True := ⟨Lib.hid (HW20.out.trans HBr.out), trivial⟩
          go_wp2
          go_region
          all_goals go_wp2
          all_goals exact bodyPost_ret (v := .tuple #[bval ⟨n0, L, n2, n3, n4, n5, n6, tx, ct, (x :: ys)⟩ (.slice (some ⟨g2, 0, none⟩) m c2), .bool true]) (by simp [results, Tryz.results53, go_sem, bval, vc0, vc1, vc2, vc3, vc4, vc5, vc6, vc7, vc8, vc9]) rfl ⟨bel_drew (((((((((((HWF.out.setCell (by first | (simp; done) | (simp; omega)) _).setCell (by first | (simp; done) | (simp; omega)) _).setCell (by first | (simp; done) | (simp; omega)) _).setCell (by first | (simp; done) | (simp; omega)) _).setCell (by first | (simp; done) | (simp; omega)) _).setCell (by first | (simp; done) | (simp; omega)) _).setCell (by first | (simp; done) | (simp; omega)) _).setCell (by first | (simp; done) | (simp; omega)) _).setCell (by first | (simp; done) | (simp; omega)) _).setCell (by first | (simp; done) | (simp; omega)) _)), ⟨n0, L, n2, n3, n4, n5, n6, tx, ct, (x :: ys)⟩, (some ⟨g2, 0, none⟩), m, c2, true, rfl, hcap2, ownR_of (OwnF.drew ((OwnF.more (ownsRow_setCell_below (ownsRow_setCell_below (ownsRow_setCell_below (ownsRow_setCell_below (ownsRow_setCell_below (ownsRow_setCell_below (ownsRow_setCell_below (ownsRow_setCell_below (ownsRow_setCell_below (ownsRow_setCell_below HOr.out (by show w.heap.size < w20.heap.size; omega) _) (by show w.heap.size < w20.heap.size; omega) _) (by show w.heap.size < w20.heap.size; omega) _) (by show w.heap.size < w20.heap.size; omega) _) (by show w.heap.size < w20.heap.size; omega) _) (by show w.heap.size < w20.heap.size; omega) _) (by show w.heap.size < w20.heap.size; omega) _) (by show w.heap.size < w20.heap.size; omega) _) (by show w.heap.size < w20.heap.size; omega) _) (by show w.heap.size < w20.heap.size; omega) _) (by omega)))), fun _ => HYES.out, fun h => (by cases h)⟩

end Go.Proofs.YtbnkfljkojhkoaaGreatDoor.Bat

/- The document's body: no records said. -/
namespace Go.Proofs.YtbnkfljkojhkoaaGreatDoor.Bat
open Go.RowKit Oct Rec Crc Lay RowF

set_option maxRecDepth 100000 in
set_option maxHeartbeats 8000000 in
theorem refBody_5 (A : Option Addr) (n c : Nat) (l : List UInt8) (w : World) (hr : Rd w w.heap.size A n l) (_hc : n ≤ c) (hn : n ≤ 1099511627776) (n0 n1 n2 n3 n4 n5 n6 p : Int) (hV : rdV 7 l 0 = some ([n0, n1, n2, n3, n4, n5, n6], p)) (fc : UInt8) (hlp : l[p.toNat]? = some fc) (hf7 : ¬ 7 < fc.toNat) (p2 : Int) (hg : gv l (p + 1) = (0, p2, 0)) (r3 : ¬ n1 < 0) (r4 : ¬ 16 < n1) (r5 : ¬ n0 < 0) (r6 : ¬ 1099511627776 < n0) (hpe : p2 ≠ (n : Int)) :
    Calls Tryz.prog 53 #[.slice A n c] w (BDY w l) := by
  have HVs := Lib.hid hV
  have HF := Lib.hid (gt_one_some (rdV_at_least hV).1 hlp)
  have HG := Lib.hid hg
  have hgg0 := gv_good hg
  have hplt := (rdV_at_least hV).2
  have hf8 : ¬ (7 : Int) < (fc.toNat : Int) := by omega
  have hlp' := (List.getElem?_eq_some_iff.1 hlp).1
  have hp20 : 0 ≤ p2 := by omega
  have hp21 : p2 ≤ (l.length : Int) := by omega
  obtain ⟨tx, htx⟩ : ∃ tx, decide ((4 : Int) ≤ (fc.toNat : Int)) = tx := ⟨_, rfl⟩
  obtain ⟨ct, hct⟩ : ∃ ct, (fc.toNat : Int) % 4 = ct := ⟨_, rfl⟩
  obtain ⟨L, hL⟩ : ∃ L, n0 + n1 = L := ⟨_, rfl⟩
  have HRB := Lib.hid (show rdB l = match rdT 0 l p2 n0 with | none => none | some (xs, q) => some (⟨n0, L, n2, n3, n4, n5, n6, tx, ct, xs⟩, q) by
    unfold rdB
    rw [hV]
    simp only [hlp, hg]
    rw [if_neg hf7, if_neg (by simp), if_neg (by omega), show (0 : Int).toNat = 0 from rfl, hL, ← htx, ← hct]
    have e1 : decide (4 ≤ fc.toNat) = decide ((4 : Int) ≤ (fc.toNat : Int)) := decide_eq_decide.2 ⟨fun h => by omega, fun h => by omega⟩
    rw [e1]
    cases rdT 0 l p2 n0 with
    | none => rfl
    | some y => simp only [Int.natCast_emod]; rfl)
  have hfc255 : (fc.toNat : Int) ≤ 255 := by have := fc.toNat_lt; omega
  have hp19 : p + 1 ≤ 9223372036854775807 := by have := hr.len; omega
  have hb1 : (p2 == (n : Int)) = false := beqF hpe
  have HNO := Lib.hid (show ¬ ∃ b', rdB l = some (b', (l.length : Int)) by
    rintro ⟨b', hb'⟩
    rw [HRB.out, hr.len] at hb'
    have h9 : some ((⟨n0, L, n2, n3, n4, n5, n6, tx, ct, []⟩ : Bt), p2) = some (b', (n : Int)) := hb'
    simp only [Option.some.injEq, Prod.mk.injEq] at h9
    exact hpe h9.2)
  clear hpe
  have HTX := Lib.hid htx
  have HCT := Lib.hid hct
  have HLL := Lib.hid hL
  clear hV hg hgg0 htx hct hL hlp hlp' hf7
  have HW1 := Lib.hid (show Below w.heap.size w (((w.alloc (.cells #[.int .i64 0, .int .i64 0, .int .i64 0, .int .i64 0, .int .i64 0, .int .i64 0, .int .i64 0, .bool false, .int .i64 0, .slice none 0 0] 36)).alloc (.cells #[.int .i64 0, .int .i64 0, .int .i64 0, .int .i64 0, .int .i64 0, .int .i64 0, .int .i64 0, .bool false, .int .i64 0, .slice none 0 0] 36)).alloc (.cells #[.int .i64 0, .int .i64 0, .int .i64 0, .int .i64 0, .int .i64 0, .int .i64 0, .int .i64 0] 113)) from (((Below.refl w.heap.size w).alloc (Nat.le_refl _) _).alloc (by simp) _).alloc (by simp; omega) _)
  have HZ1 := Lib.hid (show ZB (((w.alloc (.cells #[.int .i64 0, .int .i64 0, .int .i64 0, .int .i64 0, .int .i64 0, .int .i64 0, .int .i64 0, .bool false, .int .i64 0, .slice none 0 0] 36)).alloc (.cells #[.int .i64 0, .int .i64 0, .int .i64 0, .int .i64 0, .int .i64 0, .int .i64 0, .int .i64 0, .bool false, .int .i64 0, .slice none 0 0] 36)).alloc (.cells #[.int .i64 0, .int .i64 0, .int .i64 0, .int .i64 0, .int .i64 0, .int .i64 0, .int .i64 0] 113)) w.heap.size from ((ZB.new w).below (bel_alloc (Below.refl _ _) _) (by simp)).below (bel_alloc (Below.refl _ _) _) (by simp; omega))
  have HZ2 := Lib.hid (show ZB (((w.alloc (.cells #[.int .i64 0, .int .i64 0, .int .i64 0, .int .i64 0, .int .i64 0, .int .i64 0, .int .i64 0, .bool false, .int .i64 0, .slice none 0 0] 36)).alloc (.cells #[.int .i64 0, .int .i64 0, .int .i64 0, .int .i64 0, .int .i64 0, .int .i64 0, .int .i64 0, .bool false, .int .i64 0, .slice none 0 0] 36)).alloc (.cells #[.int .i64 0, .int .i64 0, .int .i64 0, .int .i64 0, .int .i64 0, .int .i64 0, .int .i64 0] 113)) (w.heap.size + 1) by
    have h := (ZB.new (w.alloc (.cells #[.int .i64 0, .int .i64 0, .int .i64 0, .int .i64 0, .int .i64 0, .int .i64 0, .int .i64 0, .bool false, .int .i64 0, .slice none 0 0] 36))).below (bel_alloc (Below.refl _ _) (.cells #[.int .i64 0, .int .i64 0, .int .i64 0, .int .i64 0, .int .i64 0, .int .i64 0, .int .i64 0] 113)) (by simp)
    rw [show (w.alloc (.cells #[.int .i64 0, .int .i64 0, .int .i64 0, .int .i64 0, .int .i64 0, .int .i64 0, .int .i64 0, .bool false, .int .i64 0, .slice none 0 0] 36)).heap.size = w.heap.size + 1 by simp] at h
    exact h)
  have HA1 := Lib.hid (show AR (((w.alloc (.cells #[.int .i64 0, .int .i64 0, .int .i64 0, .int .i64 0, .int .i64 0, .int .i64 0, .int .i64 0, .bool false, .int .i64 0, .slice none 0 0] 36)).alloc (.cells #[.int .i64 0, .int .i64 0, .int .i64 0, .int .i64 0, .int .i64 0, .int .i64 0, .int .i64 0, .bool false, .int .i64 0, .slice none 0 0] 36)).alloc (.cells #[.int .i64 0, .int .i64 0, .int .i64 0, .int .i64 0, .int .i64 0, .int .i64 0, .int .i64 0] 113)) (w.heap.size + 2) [0, 0, 0, 0, 0, 0, 0] by
    have h := AR.new ((w.alloc (.cells #[.int .i64 0, .int .i64 0, .int .i64 0, .int .i64 0, .int .i64 0, .int .i64 0, .int .i64 0, .bool false, .int .i64 0, .slice none 0 0] 36)).alloc (.cells #[.int .i64 0, .int .i64 0, .int .i64 0, .int .i64 0, .int .i64 0, .int .i64 0, .int .i64 0, .bool false, .int .i64 0, .slice none 0 0] 36))
    rw [show ((w.alloc (.cells #[.int .i64 0, .int .i64 0, .int .i64 0, .int .i64 0, .int .i64 0, .int .i64 0, .int .i64 0, .bool false, .int .i64 0, .slice none 0 0] 36)).alloc (.cells #[.int .i64 0, .int .i64 0, .int .i64 0, .int .i64 0, .int .i64 0, .int .i64 0, .int .i64 0, .bool false, .int .i64 0, .slice none 0 0] 36)).heap.size = w.heap.size + 2 by simp] at h
    exact h)
  have HR := Lib.hid hr
  have hl := hr.len
  clear hr
  go_enter Tryz.func53, Tryz.ntmps53
  go_wp2
  generalize hw1 : (((w.alloc (.cells #[.int .i64 0, .int .i64 0, .int .i64 0, .int .i64 0, .int .i64 0, .int .i64 0, .int .i64 0, .bool false, .int .i64 0, .slice none 0 0] 36)).alloc (.cells #[.int .i64 0, .int .i64 0, .int .i64 0, .int .i64 0, .int .i64 0, .int .i64 0, .int .i64 0, .bool false, .int .i64 0, .slice none 0 0] 36)).alloc (.cells #[.int .i64 0, .int .i64 0, .int .i64 0, .int .i64 0, .int .i64 0, .int .i64 0, .int .i64 0] 113)) = w1 at *
  clear hw1
  go_loopw [5, 22] (fun a i wr => b1Rel l w.heap.size w1 a i wr) (fun _ i _ => 7 - (intOf i).toNat)
  case atStart => exact ⟨0, _, 0, rfl, rfl, by omega, by omega, by omega, HA1.out, (by intro x hx; simp only [List.mem_cons, List.not_mem_nil, or_false, or_self] at hx; subst hx; unfold W64; omega), (by cases rdV 7 l 0 <;> rfl), HZ1.out, HZ2.out, Below.refl _ _⟩
  case round =>
    obtain ⟨k, arr, pp, rfl, rfl, hk, hp0, hp1, har, hw64, hR, hz1, hz2, hbr⟩ := hrel
    have HAR := Lib.hid har
    have H64 := Lib.hid hw64
    have HRV := Lib.hid hR
    have HBR := Lib.hid hbr
    have HZA := Lib.hid hz1
    have HZB := Lib.hid hz2
    have HRD := Lib.hid (HR.out.below (HW1.out.trans hbr) (Nat.le_refl _))
    have hp9 : pp ≤ 9223372036854775807 := by omega
    clear har hw64 hR hbr
    by_cases hlt : k < 7
    · rcases hg9 : gv l pp with ⟨x, q, z⟩
      have HG9 := Lib.hid hg9
      by_cases hzz : z = 0
      · subst hzz
        have hgg := gv_good hg9
        have HS := Lib.hid (rdV_step hlt HAR.out.len HRV.out hg9)
        obtain ⟨ox, hox⟩ : ∃ ox, arr[k]? = some ox := ⟨_, List.getElem?_eq_getElem (by have := HAR.out.len; omega)⟩
        have hcell := HAR.out.c k ox hox
        have hfro := HAR.out.f k
        have y1 : (0 : Int) ≤ (k : Int) := by omega
        have y2 : (k : Int) < 7 := by omega
        clear hg9 hox hz1 hz2
        go_wp2_with (go_at_call 76; (with_reducible refine (refGetVar_is A n c pp l _ _ HRD.out hn hp9 HG9.out).mono ?_); rintro e w9 ⟨rfl, rfl⟩)
        go_roundw
        case rel =>
          refine ⟨k + 1, arr.set k x, q, by go_num, rfl, by omega, by omega, by omega, HAR.out.set hlt x, fun y hy => ?_, HS.out, HZA.out.set (by omega), HZB.out.set (by omega), HBR.out.setCell (by show w.heap.size ≤ w.heap.size + 2; omega) _⟩
          rcases List.mem_or_eq_of_mem_set hy with h | rfl
          · exact H64.out y h
          · exact ⟨hgg.2.2.2.2.2.1, hgg.2.2.2.2.2.2⟩
        case measure => simp [intOf]; omega
      · have hf : rdV (7 - k) l pp = none := rdV_fail (by omega) (by rw [hg9]; exact hzz)
        have h9 := HRV.out
        rw [hf, HVs.out] at h9
        cases h9
    · have hk7 : k = 7 := by omega
      subst hk7
      have hsr : w.heap.size + 2 < wr.heap.size := HAR.out.lt
      have HWR := Lib.hid (HW1.out.trans HBR.out)
      obtain ⟨rfl, rfl⟩ : arr = [n0, n1, n2, n3, n4, n5, n6] ∧ p = pp := by
        have h9 := HRV.out
        rw [HVs.out] at h9
        have hla := HAR.out.len
        simp [rdV] at h9
        exact ⟨by rw [h9.1, List.take_of_length_le (by omega)], h9.2⟩
      have a0 := HAR.out.c 0 n0 rfl
      have a1 := HAR.out.c 1 n1 rfl
      have a2 := HAR.out.c 2 n2 rfl
      have a3 := HAR.out.c 3 n3 rfl
      have a4 := HAR.out.c 4 n4 rfl
      have a5 := HAR.out.c 5 n5 rfl
      have a6 := HAR.out.c 6 n6 rfl
      obtain ⟨zc0, zc1, zc2, zc3, zc4, zc5, zc6, zc7, zc8, zc9, zf0, zf1, zf2, zf3, zf4, zf5, zf6, zf7, zf8, zf9, zlt⟩ := hz1
      obtain ⟨yc0, yc1, yc2, yc3, yc4, yc5, yc6, yc7, yc8, yc9, yf0, yf1, yf2, yf3, yf4, yf5, yf6, yf7, yf8, yf9, ylt⟩ := hz2
      have htx := HTX.out
      have hct := HCT.out
      have hL := HLL.out
      have HPUT := Lib.hid (show BoxB ((((((((((wr.setCell ⟨w.heap.size + 1, 0, none⟩ (.int .i64 n0)).setCell ⟨w.heap.size + 1, 1, none⟩ (.int .i64 L)).setCell ⟨w.heap.size + 1, 2, none⟩ (.int .i64 n2)).setCell ⟨w.heap.size + 1, 3, none⟩ (.int .i64 n3)).setCell ⟨w.heap.size + 1, 4, none⟩ (.int .i64 n4)).setCell ⟨w.heap.size + 1, 5, none⟩ (.int .i64 n5)).setCell ⟨w.heap.size + 1, 6, none⟩ (.int .i64 n6)).setCell ⟨w.heap.size + 1, 7, none⟩ (.bool tx)).setCell ⟨w.heap.size + 1, 8, none⟩ (.int .i64 ct)).setCell ⟨w.heap.size + 1, 9, none⟩ (.slice none 0 0)) (w.heap.size + 1) ⟨n0, L, n2, n3, n4, n5, n6, tx, ct, []⟩ (.slice none 0 0) ∧ ((((((((((wr.setCell ⟨w.heap.size + 1, 0, none⟩ (.int .i64 n0)).setCell ⟨w.heap.size + 1, 1, none⟩ (.int .i64 L)).setCell ⟨w.heap.size + 1, 2, none⟩ (.int .i64 n2)).setCell ⟨w.heap.size + 1, 3, none⟩ (.int .i64 n3)).setCell ⟨w.heap.size + 1, 4, none⟩ (.int .i64 n4)).setCell ⟨w.heap.size + 1, 5, none⟩ (.int .i64 n5)).setCell ⟨w.heap.size + 1, 6, none⟩ (.int .i64 n6)).setCell ⟨w.heap.size + 1, 7, none⟩ (.bool tx)).setCell ⟨w.heap.size + 1, 8, none⟩ (.int .i64 ct)).setCell ⟨w.heap.size + 1, 9, none⟩ (.slice none 0 0)).heap.size = wr.heap.size ∧ ∀ j, ((((((((((wr.setCell ⟨w.heap.size + 1, 0, none⟩ (.int .i64 n0)).setCell ⟨w.heap.size + 1, 1, none⟩ (.int .i64 L)).setCell ⟨w.heap.size + 1, 2, none⟩ (.int .i64 n2)).setCell ⟨w.heap.size + 1, 3, none⟩ (.int .i64 n3)).setCell ⟨w.heap.size + 1, 4, none⟩ (.int .i64 n4)).setCell ⟨w.heap.size + 1, 5, none⟩ (.int .i64 n5)).setCell ⟨w.heap.size + 1, 6, none⟩ (.int .i64 n6)).setCell ⟨w.heap.size + 1, 7, none⟩ (.bool tx)).setCell ⟨w.heap.size + 1, 8, none⟩ (.int .i64 ct)).setCell ⟨w.heap.size + 1, 9, none⟩ (.slice none 0 0)).frozen? ⟨w.heap.size + 1, j, none⟩ = wr.frozen? ⟨w.heap.size + 1, j, none⟩ from box_put HZB.out ⟨n0, L, n2, n3, n4, n5, n6, tx, ct, []⟩ (.slice none 0 0))
      have HW20 := Lib.hid (show Below w.heap.size w ((((((((((wr.setCell ⟨w.heap.size + 1, 0, none⟩ (.int .i64 n0)).setCell ⟨w.heap.size + 1, 1, none⟩ (.int .i64 L)).setCell ⟨w.heap.size + 1, 2, none⟩ (.int .i64 n2)).setCell ⟨w.heap.size + 1, 3, none⟩ (.int .i64 n3)).setCell ⟨w.heap.size + 1, 4, none⟩ (.int .i64 n4)).setCell ⟨w.heap.size + 1, 5, none⟩ (.int .i64 n5)).setCell ⟨w.heap.size + 1, 6, none⟩ (.int .i64 n6)).setCell ⟨w.heap.size + 1, 7, none⟩ (.bool tx)).setCell ⟨w.heap.size + 1, 8, none⟩ (.int .i64 ct)).setCell ⟨w.heap.size + 1, 9, none⟩ (.slice none 0 0)) from ((((((((((HWR.out.setCell (by first | (simp; done) | (simp; omega)) _).setCell (by first | (simp; done) | (simp; omega)) _).setCell (by first | (simp; done) | (simp; omega)) _).setCell (by first | (simp; done) | (simp; omega)) _).setCell (by first | (simp; done) | (simp; omega)) _).setCell (by first | (simp; done) | (simp; omega)) _).setCell (by first | (simp; done) | (simp; omega)) _).setCell (by first | (simp; done) | (simp; omega)) _).setCell (by first | (simp; done) | (simp; omega)) _).setCell (by first | (simp; done) | (simp; omega)) _))
      have HZ20 := Lib.hid (show ZB ((((((((((wr.setCell ⟨w.heap.size + 1, 0, none⟩ (.int .i64 n0)).setCell ⟨w.heap.size + 1, 1, none⟩ (.int .i64 L)).setCell ⟨w.heap.size + 1, 2, none⟩ (.int .i64 n2)).setCell ⟨w.heap.size + 1, 3, none⟩ (.int .i64 n3)).setCell ⟨w.heap.size + 1, 4, none⟩ (.int .i64 n4)).setCell ⟨w.heap.size + 1, 5, none⟩ (.int .i64 n5)).setCell ⟨w.heap.size + 1, 6, none⟩ (.int .i64 n6)).setCell ⟨w.heap.size + 1, 7, none⟩ (.bool tx)).setCell ⟨w.heap.size + 1, 8, none⟩ (.int .i64 ct)).setCell ⟨w.heap.size + 1, 9, none⟩ (.slice none 0 0)) w.heap.size from ((((((((((HZA.out.set (by omega)).set (by omega)).set (by omega)).set (by omega)).set (by omega)).set (by omega)).set (by omega)).set (by omega)).set (by omega)).set (by omega)))
      have hf20 : Hid (wr.frozen? ⟨w.heap.size + 1, 9, none⟩ = false) := Lib.hid HZB.out.f9
      go_wp2_with (first | (go_at_call 51; (with_reducible refine (Oct.refGet_is A n c p 1 l _ _ HRD.out hn HF.out).mono ?_); rintro e w9 ⟨rfl, rfl⟩) | (go_at_call 76; (with_reducible refine (refGetVar_is A n c (p + 1) l _ _ HRD.out hn hp19 HG.out).mono ?_); rintro e w8 ⟨rfl, rfl⟩))
      have HX20 := Lib.hid HPUT.out.1
      have hs20 : w.heap.size + 2 < ((((((((((wr.setCell ⟨w.heap.size + 1, 0, none⟩ (.int .i64 n0)).setCell ⟨w.heap.size + 1, 1, none⟩ (.int .i64 L)).setCell ⟨w.heap.size + 1, 2, none⟩ (.int .i64 n2)).setCell ⟨w.heap.size + 1, 3, none⟩ (.int .i64 n3)).setCell ⟨w.heap.size + 1, 4, none⟩ (.int .i64 n4)).setCell ⟨w.heap.size + 1, 5, none⟩ (.int .i64 n5)).setCell ⟨w.heap.size + 1, 6, none⟩ (.int .i64 n6)).setCell ⟨w.heap.size + 1, 7, none⟩ (.bool tx)).setCell ⟨w.heap.size + 1, 8, none⟩ (.int .i64 ct)).setCell ⟨w.heap.size + 1, 9, none⟩ (.slice none 0 0)).heap.size := by rw [HPUT.out.2.1]; exact hsr
      have HF20 := Lib.hid ((HPUT.out.2.2 9).trans hf20.out)
      have HRD20 := Lib.hid (HR.out.below HW20.out (Nat.le_refl _))
      clear HPUT htx hct hL a0 a1 a2 a3 a4 a5 a6
      generalize hw20 : ((((((((((wr.setCell ⟨w.heap.size + 1, 0, none⟩ (.int .i64 n0)).setCell ⟨w.heap.size + 1, 1, none⟩ (.int .i64 L)).setCell ⟨w.heap.size + 1, 2, none⟩ (.int .i64 n2)).setCell ⟨w.heap.size + 1, 3, none⟩ (.int .i64 n3)).setCell ⟨w.heap.size + 1, 4, none⟩ (.int .i64 n4)).setCell ⟨w.heap.size + 1, 5, none⟩ (.int .i64 n5)).setCell ⟨w.heap.size + 1, 6, none⟩ (.int .i64 n6)).setCell ⟨w.heap.size + 1, 7, none⟩ (.bool tx)).setCell ⟨w.heap.size + 1, 8, none⟩ (.int .i64 ct)).setCell ⟨w.heap.size + 1, 9, none⟩ (.slice none 0 0)) = w20 at *
      clear hw20
      have hs21 : w.heap.size + 1 < w20.heap.size := by omega
      go_loopw [5, 130] (fun a i wr => b2Rel 60 l w.heap.size ⟨n0, L, n2, n3, n4, n5, n6, tx, ct, []⟩ 0 p2 0 w20.heap.size w20 a i wr) (fun _ i _ => 0 - (intOf i).toNat)
      case atStart => exact ⟨0, [], _, none, 0, rfl, rfl, by omega, by omega, by omega, (by cases rdR 0 l p2 n0 0 <;> rfl), OwnF.nil, HX20.out, HF20.out, HZ20.out, Below.refl _ _, Nat.le_refl _⟩
      case round =>
        obtain ⟨k, xs, pq, A2, c2, rfl, rfl, hk2, hpp0, hpp1, hR2, ho2, hbx2, hf92, hzb2, hbr2, hbs2⟩ := hrel
        have HRV2 := Lib.hid hR2
        have HOr := Lib.hid ho2
        have HXr := Lib.hid hbx2
        have HFr := Lib.hid hf92
        have HZr := Lib.hid hzb2
        have HBr := Lib.hid hbr2
        have HRDr := Lib.hid (HRD20.out.below hbr2 (Nat.le_refl _))
        have hsz2 : w.heap.size ≤ w20.heap.size := by omega
        clear hR2 ho2 hbx2 hf92 hzb2 hbr2
        by_cases hlt2 : k < 0
        · rcases hgr : gr l pq n0 0 with ⟨⟨ro, rk, rv, rd, rt⟩, q, z⟩
          have HGR := Lib.hid hgr
          by_cases hzz : z = 0
          · exact absurd hlt2 (by omega)
          · exact absurd hlt2 (by omega)
        · have hkm : k = 0 := by omega
          subst hkm
          have HRX := Lib.hid (show rdR 0 l p2 n0 0 = some (xs, pq) by rw [HRV2.out, Nat.sub_self]; simp [rdR])
          obtain ⟨hxs, hpq⟩ : xs = [] ∧ pq = p2 := by
            have h := HRX.out
            simp only [rdR, Option.some.injEq, Prod.mk.injEq] at h
            exact ⟨h.1.symm, h.2.symm⟩
          subst hxs
          subst hpq
          have hcap2 := HOr.out.cap
          obtain ⟨x0, x1, x2, x3, x4, x5, x6, x7, x8, x9⟩ := HXr.out
          obtain ⟨vc0, vc1, vc2, vc3, vc4, vc5, vc6, vc7, vc8, vc9, vf0, vf1, vf2, vf3, vf4, vf5, vf6, vf7, vf8, vf9, vlt⟩ := HZr.out
          have hx9l : w.heap.size + 1 < wr.heap.size := by omega
          have hx9m : w.heap.size < wr.heap.size := by omega
          obtain ⟨HWF, hHWF⟩ : ∃ _ : Hid (Below w.heap.size w wr), True := ⟨Lib.hid (HW20.out.trans HBr.out), trivial⟩
          go_wp2
          go_region
          all_goals go_wp2
          all_goals exact bodyPost_ret (v := .tuple #[bval ⟨n0, L, n2, n3, n4, n5, n6, tx, ct, []⟩ (.slice A2 0 c2), .bool false]) (by simp [results, Tryz.results53, go_sem, bval, vc0, vc1, vc2, vc3, vc4, vc5, vc6, vc7, vc8, vc9]) rfl ⟨bel_drew (((((((((((HWF.out.setCell (by first | (simp; done) | (simp; omega)) _).setCell (by first | (simp; done) | (simp; omega)) _).setCell (by first | (simp; done) | (simp; omega)) _).setCell (by first | (simp; done) | (simp; omega)) _).setCell (by first | (simp; done) | (simp; omega)) _).setCell (by first | (simp; done) | (simp; omega)) _).setCell (by first | (simp; done) | (simp; omega)) _).setCell (by first | (simp; done) | (simp; omega)) _).setCell (by first | (simp; done) | (simp; omega)) _).setCell (by first | (simp; done) | (simp; omega)) _)), ⟨n0, L, n2, n3, n4, n5, n6, tx, ct, []⟩, A2, 0, c2, false, rfl, hcap2, ownR_of (OwnF.drew ((OwnF.more (ownsRow_setCell_below (ownsRow_setCell_below (ownsRow_setCell_below (ownsRow_setCell_below (ownsRow_setCell_below (ownsRow_setCell_below (ownsRow_setCell_below (ownsRow_setCell_below (ownsRow_setCell_below (ownsRow_setCell_below HOr.out (by show w.heap.size < w20.heap.size; omega) _) (by show w.heap.size < w20.heap.size; omega) _) (by show w.heap.size < w20.heap.size; omega) _) (by show w.heap.size < w20.heap.size; omega) _) (by show w.heap.size < w20.heap.size; omega) _) (by show w.heap.size < w20.heap.size; omega) _) (by show w.heap.size < w20.heap.size; omega) _) (by show w.heap.size < w20.heap.size; omega) _) (by show w.heap.size < w20.heap.size; omega) _) (by show w.heap.size < w20.heap.size; omega) _) (by omega)))), fun h => (by cases h), fun _ => HNO.out⟩

end Go.Proofs.YtbnkfljkojhkoaaGreatDoor.Bat

/- The contract of the document's own body, joined. -/
namespace Go.Proofs.YtbnkfljkojhkoaaGreatDoor.Bat
open Go.RowKit Oct Rec Crc Lay RowF

theorem refBody_any (A : Option Addr) (n c : Nat) (l : List UInt8) (w : World) (hr : Rd w w.heap.size A n l) (hc : n ≤ c) (hn : n ≤ 1099511627776) :
    Calls Tryz.prog 53 #[.slice A n c] w (BDY w l) := by
  cases hV : rdV 7 l 0 with
  | none => exact refBody_1 A n c l w hr hc hn hV
  | some y =>
    obtain ⟨xs, p⟩ := y
    have hlen := (rdV_good hV (by omega)).1
    match xs, hlen with
    | [n0, n1, n2, n3, n4, n5, n6], _ =>
      cases hlp : l[p.toNat]? with
      | none => exact refBody_2 A n c l w hr hc hn n0 n1 n2 n3 n4 n5 n6 p hV (.inl hlp)
      | some fc =>
        rcases hg : gv l (p + 1) with ⟨many, p2, z2⟩
        by_cases hE : 7 < fc.toNat ∨ (gv l (p + 1)).2.2 ≠ 0 ∨ (gv l (p + 1)).1 < 0 ∨ 16 < (gv l (p + 1)).1 ∨ n1 < 0 ∨ 16 < n1 ∨ n0 < 0 ∨ 1099511627776 < n0
        · exact refBody_2 A n c l w hr hc hn n0 n1 n2 n3 n4 n5 n6 p hV (.inr ⟨fc, hlp, hE⟩)
        rw [hg] at hE
        simp only at hE
        have hf7 : ¬ 7 < fc.toNat := fun h => hE (.inl h)
        have hz2 : z2 = 0 := Classical.byContradiction fun h => hE (.inr (.inl h))
        subst hz2
        have r1 : ¬ many < 0 := fun h => hE (.inr (.inr (.inl h)))
        have r2 : ¬ 16 < many := fun h => hE (.inr (.inr (.inr (.inl h))))
        have r3 : ¬ n1 < 0 := fun h => hE (.inr (.inr (.inr (.inr (.inl h)))))
        have r4 : ¬ 16 < n1 := fun h => hE (.inr (.inr (.inr (.inr (.inr (.inl h))))))
        have r5 : ¬ n0 < 0 := fun h => hE (.inr (.inr (.inr (.inr (.inr (.inr (.inl h)))))))
        have r6 : ¬ 1099511627776 < n0 := fun h => hE (.inr (.inr (.inr (.inr (.inr (.inr (.inr h)))))))
        obtain ⟨m, rfl⟩ : ∃ m : Nat, many = (m : Int) := ⟨many.toNat, by omega⟩
        by_cases hm0 : m = 0
        · subst hm0
          by_cases hpe : p2 = (n : Int)
          · exact refBody_4 A n c l w hr hc hn n0 n1 n2 n3 n4 n5 n6 p hV fc hlp hf7 p2 hg r3 r4 r5 r6 hpe
          · exact refBody_5 A n c l w hr hc hn n0 n1 n2 n3 n4 n5 n6 p hV fc hlp hf7 p2 hg r3 r4 r5 r6 hpe
        have hm1 : 0 < m := by omega
        have hm16 : m ≤ 16 := by omega
        rcases hg3 : gv l p2 with ⟨st, p3, z3⟩
        by_cases hz3 : z3 = 0
        case neg => exact refBody_3 A n c l w hr hc hn n0 n1 n2 n3 n4 n5 n6 p hV fc hlp hf7 m p2 hg hm16 r3 r4 r5 r6 hm1 st p3 z3 hg3 hz3
        subst hz3
        cases hR : rdR m l p3 n0 st with
        | none => exact refBody_6 A n c l w hr hc hn n0 n1 n2 n3 n4 n5 n6 p hV fc hlp hf7 m p2 hg hm16 r3 r4 r5 r6 hm1 st p3 hg3 hR
        | some y =>
          obtain ⟨xs, p4⟩ := y
          have h3 := gv_good hg3
          have hlx := (rdR_good hR (by omega)).1
          cases xs with
          | nil => simp at hlx; omega
          | cons x ys =>
            by_cases hpe : p4 = (n : Int)
            · by_cases hse : x.stamp = st
              · exact refBody_9 A n c l w hr hc hn n0 n1 n2 n3 n4 n5 n6 p hV fc hlp hf7 m p2 hg hm16 r3 r4 r5 r6 hm1 st p3 hg3 x ys p4 hR hpe hse
              · exact refBody_8 A n c l w hr hc hn n0 n1 n2 n3 n4 n5 n6 p hV fc hlp hf7 m p2 hg hm16 r3 r4 r5 r6 hm1 st p3 hg3 x ys p4 hR hpe hse
            · exact refBody_7 A n c l w hr hc hn n0 n1 n2 n3 n4 n5 n6 p hV fc hlp hf7 m p2 hg hm16 r3 r4 r5 r6 hm1 st p3 hg3 x ys p4 hR hpe
end Go.Proofs.YtbnkfljkojhkoaaGreatDoor.Bat

/- The contract of the document's own Get of a batch. -/
namespace Go.Proofs.YtbnkfljkojhkoaaGreatDoor.Bat
open Go.RowKit Oct Rec Crc Lay RowF

theorem rdB_fits {l : List UInt8} {b : Bt} {q : Int} (h : rdB l = some (b, q)) : Fits b := by
  obtain ⟨-, -, -, hm, -, h0, h1, h2, h3, h4, h5, hw⟩ := rdB_good h
  have e : ∀ x ∈ hd b, I64 x := fun x hx => hw x hx
  refine ⟨?_, ?_, e _ (by simp [hd]), e _ (by simp [hd]), e _ (by simp [hd]), e _ (by simp [hd]), e _ (by simp [hd]), ?_, fun r hr => ?_⟩
  · unfold I64; omega
  · unfold I64; omega
  · unfold I64; omega
  · obtain ⟨m1, m2, m3, m4, _⟩ := may_iff.1 (hm r hr)
    unfold I64
    omega
theorem refOpenB_is (A : Option Addr) (n c : Nat) (l : List UInt8) (B : Nat) (w : World) (hr : Rd w B A n l) (hB : B ≤ w.heap.size) (hc : n ≤ c) (hn : n ≤ 549755813888) {x : List UInt8} {z : Int} (h : openB l = (x, z)) :
    Calls Tryz.prog 52 #[.slice A n c] w (OPr 5 w.heap.size w x z) := by
  have h1 := refOpen_any A n c l B w hr hB hc hn
  rw [h] at h1
  exact h1
set_option maxRecDepth 100000 in
set_option maxHeartbeats 8000000 in
theorem refBGet_any (A : Option Addr) (n c : Nat) (l : List UInt8) (p : Int) (w : World) (hr : Rd w w.heap.size A n l) (hc : n ≤ c) (hn : n ≤ 137438953472) (hp : I64 p) :
    Calls Tryz.prog 38 #[.slice A n c, .int .i64 p] w (RGB w (grB l p)) := by
  have HW1 := Lib.hid (show Below w.heap.size w (w.alloc (.cells #[.int .i64 0, .int .i64 0, .int .i64 0, .int .i64 0, .int .i64 0, .int .i64 0, .int .i64 0, .bool false, .int .i64 0, .slice none 0 0] 36)) from bel_alloc (Below.refl _ _) _)
  have HZ1 := Lib.hid (ZB.new w)
  have HR1 := Lib.hid (hr.below HW1.out (Nat.le_refl _))
  have hl := hr.len
  rcases hg : gt l p 4 with ⟨x, z⟩
  have HG := Lib.hid hg
  by_cases hz0 : z = 0
  case neg =>
    have hz := Lib.hid (show grB l p = (nilB, 0, z) by unfold grB; rw [hg, if_pos hz0])
    have hzF : (z == 0) = false := beqF hz0
    have hzN : (z != 0) = true := by simp [hz0]
    clear hg hz0 hr
    rw [hz.out]
    go_enter Tryz.func38, Tryz.ntmps38
    go_wp2_with (go_at_call 51; (with_reducible refine (Oct.refGet_is A n c _ 4 l _ _ HR1.out (by omega) HG.out).mono ?_); rintro e w9 ⟨rfl, rfl⟩)
    exact bodyPost_ret (v := .tuple #[bval nilB (.slice none 0 0), .int .i64 0, .int .i64 z]) (by simp [results, Tryz.results38, go_sem, bval, nilB]) rfl ⟨none, 0, 0, rfl, Nat.le_refl _, ⟨RdR.nil, fun _ _ _ h => absurd h (by omega)⟩, HW1.out⟩
  subst hz0
  have h4 := gt_four (l := l) (p := p) (by rw [hg])
  rw [hg] at h4
  simp only at h4
  obtain ⟨hp0, hp4, hx⟩ := h4
  have hx32 : x < 4294967296 := by
    rw [hx]
    have h1 := getN_lt ((l.drop p.toNat).take 4)
    have h2 : ((l.drop p.toNat).take 4).length ≤ 4 := List.length_take_le _ _
    have h3 : 256 ^ ((l.drop p.toNat).take 4).length ≤ 256 ^ 4 := Nat.pow_le_pow_right (by omega) h2
    omega
  clear hx
  obtain ⟨P, rfl⟩ : ∃ P : Nat, p = (P : Int) := ⟨p.toNat, by omega⟩
  by_cases hx1 : x < 5
  · have hz := Lib.hid (show grB l (P : Int) = (nilB, 0, 11) by unfold grB; rw [hg, if_neg (by simp), if_pos (.inl hx1)])
    have hx1' : (x : Int) < 5 := by omega
    clear hg hr hx1
    rw [hz.out]
    go_enter Tryz.func38, Tryz.ntmps38
    go_wp2_with (go_at_call 51; (with_reducible refine (Oct.refGet_is A n c _ 4 l _ _ HR1.out (by omega) HG.out).mono ?_); rintro e w9 ⟨rfl, rfl⟩)
    exact bodyPost_ret (v := .tuple #[bval nilB (.slice none 0 0), .int .i64 0, .int .i64 11]) (by simp [results, Tryz.results38, go_sem, bval, nilB]) rfl ⟨none, 0, 0, rfl, Nat.le_refl _, ⟨RdR.nil, fun _ _ _ h => absurd h (by omega)⟩, HW1.out⟩
  by_cases hx2 : 2044 < x
  · have hz := Lib.hid (show grB l (P : Int) = (nilB, 0, 11) by unfold grB; rw [hg, if_neg (by simp), if_pos (.inr hx2)])
    have hx1' : ¬ (x : Int) < 5 := by omega
    have hx2' : (2044 : Int) < (x : Int) := by omega
    clear hg hr hx1 hx2
    rw [hz.out]
    go_enter Tryz.func38, Tryz.ntmps38
    go_wp2_with (go_at_call 51; (with_reducible refine (Oct.refGet_is A n c _ 4 l _ _ HR1.out (by omega) HG.out).mono ?_); rintro e w9 ⟨rfl, rfl⟩)
    exact bodyPost_ret (v := .tuple #[bval nilB (.slice none 0 0), .int .i64 0, .int .i64 11]) (by simp [results, Tryz.results38, go_sem, bval, nilB]) rfl ⟨none, 0, 0, rfl, Nat.le_refl _, ⟨RdR.nil, fun _ _ _ h => absurd h (by omega)⟩, HW1.out⟩
  have hx1' : ¬ (x : Int) < 5 := by omega
  have hx2' : ¬ (2044 : Int) < (x : Int) := by omega
  by_cases hx3 : (n : Int) < (P : Int) + 4 + (x : Int)
  · have hz := Lib.hid (show grB l (P : Int) = (nilB, 0, 10) by unfold grB; rw [hg, if_neg (by simp), if_neg (by omega), if_pos (by rw [hl]; exact hx3)])
    clear hg hr
    rw [hz.out]
    go_enter Tryz.func38, Tryz.ntmps38
    go_wp2_with (go_at_call 51; (with_reducible refine (Oct.refGet_is A n c _ 4 l _ _ HR1.out (by omega) HG.out).mono ?_); rintro e w9 ⟨rfl, rfl⟩)
    exact bodyPost_ret (v := .tuple #[bval nilB (.slice none 0 0), .int .i64 0, .int .i64 10]) (by simp [results, Tryz.results38, go_sem, bval, nilB]) rfl ⟨none, 0, 0, rfl, Nat.le_refl _, ⟨RdR.nil, fun _ _ _ h => absurd h (by omega)⟩, HW1.out⟩
  obtain ⟨l2, hl2⟩ : ∃ l2, l2 = (l.drop (P + 4)).take x := ⟨_, rfl⟩
  have HL2 := Lib.hid hl2
  have hgo : grB l (P : Int) = if (opB l2).2 ≠ 0 then (nilB, 0, (opB l2).2) else ((opB l2).1, (P : Int) + 4 + (x : Int), 0) := by
    unfold grB
    rw [hg, if_neg (by simp), if_neg (by omega), if_neg (by rw [hl]; exact hx3)]
    have e : ((P : Int) + 4).toNat = P + 4 := by omega
    rw [hl2, e]
  rcases ho : openB l2 with ⟨l3, z3⟩
  have HO := Lib.hid ho
  have hxl : l2.length = x := by rw [hl2, List.length_take, List.length_drop]; omega
  have hl3 : l3.length ≤ x := by
    rcases openB_cases l2 with h | h | h
    · rw [ho] at h; have := congrArg Prod.fst h.1; simp only at this; rw [this]; simp
    · rw [ho] at h; have := congrArg Prod.fst h.1; simp only at this; rw [this]; simp
    · rw [ho] at h; have := congrArg Prod.fst h.1; simp only at this; rw [this, List.length_take]; omega
  have g1 : (P : Int) + 4 ≤ (P : Int) + 4 + (x : Int) := by omega
  have g2 : (P : Int) + 4 + (x : Int) ≤ (c : Int) := by omega
  have g3 : (0 : Int) ≤ (P : Int) + 4 := by omega
  have g4 : (x : Int) ≤ 2044 := by omega
  by_cases hz3 : z3 = 0
  case neg =>
    have hz := Lib.hid (show grB l (P : Int) = (nilB, 0, z3) by
      rw [hgo]
      have h9 : (opB l2) = (nilB, z3) := by unfold opB; rw [ho]; simp only; rw [if_pos hz3]
      rw [h9, if_pos hz3])
    have hzF : (z3 == 0) = false := beqF hz3
    have hzN : (z3 != 0) = true := by simp [hz3]
    clear hg hr hgo ho hz3 hl2
    rw [hz.out]
    go_enter Tryz.func38, Tryz.ntmps38
    go_wp2_with (first | (go_at_call 51; (with_reducible refine (Oct.refGet_is A n c _ 4 l _ _ HR1.out (by omega) HG.out).mono ?_); rintro e w9 ⟨rfl, rfl⟩) | (go_at_call 52; refine (refOpenB_is _ _ _ l2 w.heap.size _ (by rw [HL2.out]; exact HR1.out.cut' (i := P + 4) (m := x) (by omega) (by omega) (by intro h0; first | rfl | exact if_neg (by omega) | (exfalso; omega))) HW1.out.size (by omega) (by omega) HO.out).mono ?_; rintro e w2 ⟨A2, n2, c2, rfl, ho2, hb2⟩; have HW2 := Lib.hid (HW1.out.trans (hb2.mono HW1.out.size)); have HZ2 := Lib.hid (HZ1.out.below hb2 HZ1.out.lt); have HO2 := Lib.hid ho2; clear ho2; obtain ⟨zc0, zc1, zc2, zc3, zc4, zc5, zc6, zc7, zc8, zc9, zf0, zf1, zf2, zf3, zf4, zf5, zf6, zf7, zf8, zf9, zlt⟩ := HZ2.out))
    exact bodyPost_ret (v := .tuple #[bval nilB (.slice none 0 0), .int .i64 0, .int .i64 z3]) (by simp [results, Tryz.results38, go_sem, bval, nilB, zc0, zc1, zc2, zc3, zc4, zc5, zc6, zc7, zc8, zc9]) rfl ⟨none, 0, 0, rfl, Nat.le_refl _, ⟨RdR.nil, fun _ _ _ h => absurd h (by omega)⟩, ((((((((((HW2.out.setCell (by first | (simp; done) | (simp; omega)) _).setCell (by first | (simp; done) | (simp; omega)) _).setCell (by first | (simp; done) | (simp; omega)) _).setCell (by first | (simp; done) | (simp; omega)) _).setCell (by first | (simp; done) | (simp; omega)) _).setCell (by first | (simp; done) | (simp; omega)) _).setCell (by first | (simp; done) | (simp; omega)) _).setCell (by first | (simp; done) | (simp; omega)) _).setCell (by first | (simp; done) | (simp; omega)) _).setCell (by first | (simp; done) | (simp; omega)) _)⟩
  subst hz3
  have HGO := Lib.hid hgo
  have HOP := Lib.hid (show opB l2 = (match rdB l3 with | none => (nilB, 11) | some (b, q) => if q = (l3.length : Int) ∧ chB b = 0 then (b, 0) else (nilB, 11)) by unfold opB; rw [ho]; simp only; rw [if_neg (by simp)]; rfl)
  clear hg hr hgo ho hl2
  go_enter Tryz.func38, Tryz.ntmps38
  go_wp2_with (first | (go_at_call 51; (with_reducible refine (Oct.refGet_is A n c _ 4 l _ _ HR1.out (by omega) HG.out).mono ?_); rintro e w9 ⟨rfl, rfl⟩) | (go_at_call 52; refine (refOpenB_is _ _ _ l2 w.heap.size _ (by rw [HL2.out]; exact HR1.out.cut' (i := P + 4) (m := x) (by omega) (by omega) (by intro h0; first | rfl | exact if_neg (by omega) | (exfalso; omega))) HW1.out.size (by omega) (by omega) HO.out).mono ?_; rintro e w2 ⟨A2, n2, c2, rfl, ho2, hb2⟩; have HW2 := Lib.hid (HW1.out.trans (hb2.mono HW1.out.size)); have HZ2 := Lib.hid (HZ1.out.below hb2 HZ1.out.lt); have HO2 := Lib.hid ho2; clear ho2; skip))
  have hcap2 := HO2.out.cap
  have hlen2 := HO2.out.len
  refine (refBody_any A2 n2 c2 l3 w2 HO2.out.rd hcap2 (by omega)).mono ?_
  rintro e w3 ⟨hb3, ⟨ba, la, fr, ep, pi, ge, se, tx, ct, rs⟩, A3, n3, c3, ok, rfl, hc3, ho3, hyes, hno⟩
  have HW3 := Lib.hid (HW2.out.trans (hb3.mono HW2.out.size))
  have HZ3 := Lib.hid (HZ2.out.below hb3 HZ2.out.lt)
  have HX3 := Lib.hid (BR.new (b := ⟨ba, la, fr, ep, pi, ge, se, tx, ct, rs⟩) (c := c3) 36 ho3.1)
  have HO3 := Lib.hid ho3
  have HYES := Lib.hid hyes
  have HNO := Lib.hid hno
  clear hyes hno ho3
  have hx3m : w.heap.size < w3.heap.size := HZ3.out.lt
  have hx2m : w.heap.size < w2.heap.size := HZ2.out.lt
  have hl23 := hb3.size
  simp only [bval]
  cases ok with
  | false =>
    have hz := Lib.hid (show grB l (P : Int) = (nilB, 0, 11) by
      have h9 : opB l2 = (nilB, 11) := by
        rw [HOP.out]
        cases hq : rdB l3 with
        | none => rfl
        | some y =>
          obtain ⟨b', q⟩ := y
          simp only
          rw [if_neg]
          rintro ⟨h1, -⟩
          exact HNO.out rfl ⟨b', by rw [hq, h1]⟩
      rw [HGO.out, h9, if_pos (by simp)])
    obtain ⟨zc0, zc1, zc2, zc3, zc4, zc5, zc6, zc7, zc8, zc9, zf0, zf1, zf2, zf3, zf4, zf5, zf6, zf7, zf8, zf9, zlt⟩ := HZ3.out
    go_wp2
    rw [hz.out]
    exact bodyPost_ret (v := .tuple #[bval nilB (.slice none 0 0), .int .i64 0, .int .i64 11]) (by simp [results, Tryz.results38, go_sem, bval, nilB, zc0, zc1, zc2, zc3, zc4, zc5, zc6, zc7, zc8, zc9, hx3m]) rfl ⟨none, 0, 0, rfl, Nat.le_refl _, ⟨RdR.nil, fun _ _ _ h => absurd h (by omega)⟩, bel_alloc (((((((((((HW3.out.setCell (by first | (simp; done) | (simp; omega)) _).setCell (by first | (simp; done) | (simp; omega)) _).setCell (by first | (simp; done) | (simp; omega)) _).setCell (by first | (simp; done) | (simp; omega)) _).setCell (by first | (simp; done) | (simp; omega)) _).setCell (by first | (simp; done) | (simp; omega)) _).setCell (by first | (simp; done) | (simp; omega)) _).setCell (by first | (simp; done) | (simp; omega)) _).setCell (by first | (simp; done) | (simp; omega)) _).setCell (by first | (simp; done) | (simp; omega)) _)) _⟩
  | true =>
    have hrd := HYES.out rfl
    have HFT := Lib.hid (rdB_fits hrd)
    have hn3 : n3 ≤ 1099511627776 := by have h1 := HO3.out.1.len; have h2 := (rdB_good hrd).2.2.2.2.1; simp only at h1 h2; omega
    obtain ⟨z4, hz4⟩ : ∃ z, chB ⟨ba, la, fr, ep, pi, ge, se, tx, ct, rs⟩ = z := ⟨_, rfl⟩
    have HC4 := Lib.hid hz4
    by_cases hz0 : z4 = 0
    · have hz := Lib.hid (show grB l (P : Int) = (⟨ba, la, fr, ep, pi, ge, se, tx, ct, rs⟩, (P : Int) + 4 + (x : Int), 0) by
        have h9 : opB l2 = (⟨ba, la, fr, ep, pi, ge, se, tx, ct, rs⟩, 0) := by
          rw [HOP.out, hrd]
          simp only
          rw [if_pos ⟨trivial, by rw [hz4]; exact hz0⟩]
        rw [HGO.out, h9, if_neg (by simp)])
      have e1 : (z4 == 0) = true := beqT hz0
      have e2 : (z4 != 0) = false := by simp [hz0]
      clear hrd hz4 hz0
      obtain ⟨x0, x1, x2, x3, x4, x5, x6, x7, x8, x9⟩ := HX3.out.box
      go_wp2_with (go_at_call 45; (with_reducible refine (refCheckB_is ba la fr ep pi ge se tx ct rs A3 n3 c3 _ HFT.out HX3.out.rd hn3 HC4.out).mono ?_); rintro e w4 ⟨rfl, hb4⟩; have HX4 := Lib.hid (HX3.out.below hb4); obtain ⟨u0, u1, u2, u3, u4, u5, u6, u7, u8, u9⟩ := HX4.out.box; have HZ4 := Lib.hid ((HZ3.out.below (bel_alloc (Below.refl _ _) (.cells #[.int .i64 ba, .int .i64 la, .int .i64 fr, .int .i64 ep, .int .i64 pi, .int .i64 ge, .int .i64 se, .bool tx, .int .i64 ct, .slice A3 n3 c3] 36)) HZ3.out.lt).below hb4 (by simp; omega)); obtain ⟨zc0, zc1, zc2, zc3, zc4, zc5, zc6, zc7, zc8, zc9, zf0, zf1, zf2, zf3, zf4, zf5, zf6, zf7, zf8, zf9, zlt⟩ := HZ4.out; have HO4 := Lib.hid ((HO3.out.below (bel_alloc (Below.refl _ _) (.cells #[.int .i64 ba, .int .i64 la, .int .i64 fr, .int .i64 ep, .int .i64 pi, .int .i64 ge, .int .i64 se, .bool tx, .int .i64 ct, .slice A3 n3 c3] 36))).below hb4); have HW4 := Lib.hid ((bel_alloc HW3.out (.cells #[.int .i64 ba, .int .i64 la, .int .i64 fr, .int .i64 ep, .int .i64 pi, .int .i64 ge, .int .i64 se, .bool tx, .int .i64 ct, .slice A3 n3 c3] 36)).trans (hb4.mono (by simp; omega))))
      rw [hz.out]
      exact bodyPost_ret (v := .tuple #[bval ⟨ba, la, fr, ep, pi, ge, se, tx, ct, rs⟩ (.slice A3 n3 c3), .int .i64 ((P : Int) + 4 + (x : Int)), .int .i64 0]) (by simp [results, Tryz.results38, go_sem, bval, zc0, zc1, zc2, zc3, zc4, zc5, zc6, zc7, zc8, zc9]) rfl ⟨A3, n3, c3, rfl, hc3, (OwnR.low (OwnR.set (OwnR.set (OwnR.set (OwnR.set (OwnR.set (OwnR.set (OwnR.set (OwnR.set (OwnR.set (OwnR.set HO4.out hx2m) hx2m) hx2m) hx2m) hx2m) hx2m) hx2m) hx2m) hx2m) hx2m) (by omega)), ((((((((((HW4.out.setCell (by first | (simp; done) | (simp; omega)) _).setCell (by first | (simp; done) | (simp; omega)) _).setCell (by first | (simp; done) | (simp; omega)) _).setCell (by first | (simp; done) | (simp; omega)) _).setCell (by first | (simp; done) | (simp; omega)) _).setCell (by first | (simp; done) | (simp; omega)) _).setCell (by first | (simp; done) | (simp; omega)) _).setCell (by first | (simp; done) | (simp; omega)) _).setCell (by first | (simp; done) | (simp; omega)) _).setCell (by first | (simp; done) | (simp; omega)) _)⟩
    · have hz := Lib.hid (show grB l (P : Int) = (nilB, 0, 11) by
        have h9 : opB l2 = (nilB, 11) := by
          rw [HOP.out, hrd]
          simp only
          rw [if_neg]
          rintro ⟨-, h2⟩
          exact hz0 (hz4.symm.trans h2)
        rw [HGO.out, h9, if_pos (by simp)])
      have e1 : (z4 == 0) = false := beqF hz0
      have e2 : (z4 != 0) = true := by simp [hz0]
      clear hrd hz4 hz0
      obtain ⟨x0, x1, x2, x3, x4, x5, x6, x7, x8, x9⟩ := HX3.out.box
      go_wp2_with (go_at_call 45; (with_reducible refine (refCheckB_is ba la fr ep pi ge se tx ct rs A3 n3 c3 _ HFT.out HX3.out.rd hn3 HC4.out).mono ?_); rintro e w4 ⟨rfl, hb4⟩; have HZ4 := Lib.hid ((HZ3.out.below (bel_alloc (Below.refl _ _) (.cells #[.int .i64 ba, .int .i64 la, .int .i64 fr, .int .i64 ep, .int .i64 pi, .int .i64 ge, .int .i64 se, .bool tx, .int .i64 ct, .slice A3 n3 c3] 36)) HZ3.out.lt).below hb4 (by simp; omega)); obtain ⟨zc0, zc1, zc2, zc3, zc4, zc5, zc6, zc7, zc8, zc9, zf0, zf1, zf2, zf3, zf4, zf5, zf6, zf7, zf8, zf9, zlt⟩ := HZ4.out; have HW4 := Lib.hid ((bel_alloc HW3.out (.cells #[.int .i64 ba, .int .i64 la, .int .i64 fr, .int .i64 ep, .int .i64 pi, .int .i64 ge, .int .i64 se, .bool tx, .int .i64 ct, .slice A3 n3 c3] 36)).trans (hb4.mono (by simp; omega))))
      rw [hz.out]
      exact bodyPost_ret (v := .tuple #[bval nilB (.slice none 0 0), .int .i64 0, .int .i64 11]) (by simp [results, Tryz.results38, go_sem, bval, nilB, zc0, zc1, zc2, zc3, zc4, zc5, zc6, zc7, zc8, zc9]) rfl ⟨none, 0, 0, rfl, Nat.le_refl _, ⟨RdR.nil, fun _ _ _ h => absurd h (by omega)⟩, ((((((((((HW4.out.setCell (by first | (simp; done) | (simp; omega)) _).setCell (by first | (simp; done) | (simp; omega)) _).setCell (by first | (simp; done) | (simp; omega)) _).setCell (by first | (simp; done) | (simp; omega)) _).setCell (by first | (simp; done) | (simp; omega)) _).setCell (by first | (simp; done) | (simp; omega)) _).setCell (by first | (simp; done) | (simp; omega)) _).setCell (by first | (simp; done) | (simp; omega)) _).setCell (by first | (simp; done) | (simp; omega)) _).setCell (by first | (simp; done) | (simp; omega)) _)⟩
end Go.Proofs.YtbnkfljkojhkoaaGreatDoor.Bat
