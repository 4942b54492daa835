/- The contract of the document's Split: watermeet/watermeetref05.Split. -/
import Derived.Test.YtilnlmopdljeeaaFrmF
import Derived.Test.YtilnlmopdljeeaaCrcSpec
import Derived.Deep.RegionHeld
import Derived.Test.YtilnlmopdljeeaaRowL2
namespace Go.Proofs.Ytilnlmopdljeeaa.Frm
open Go.RowKit Go.Proofs.Ytilnlmopdljeeaa.Oct Go.Proofs.Ytilnlmopdljeeaa.RowF Go.Proofs.Ytilnlmopdljeeaa.RowL Go.Proofs.Ytilnlmopdljeeaa.Lay

def rsRel (l : List UInt8) (n : Nat) (w : World) (vl vi : Value) (wr : World) : Prop :=
  ∃ (k : Nat) (A1 : Option Addr) (n1 c1 : Nat) (L : List (List UInt8)), vi = .int .i64 (k : Int) ∧ k ≤ n ∧ vl = .slice A1 n1 c1 ∧ n1 ≤ k ∧ OwnL wr 22 (fun b => w.heap.size ≤ b) w.heap.size vl n1 L ∧
    sp l = (if (sp (l.drop k)).2.2 ≠ 0 then ([], [], 11) else (L ++ (sp (l.drop k)).1, (sp (l.drop k)).2.1, 0)) ∧ Below w.heap.size w wr
theorem rs_start (l : List UInt8) : sp l = (if (sp (l.drop 0)).2.2 ≠ 0 then ([], [], 11) else ([] ++ (sp (l.drop 0)).1, (sp (l.drop 0)).2.1, 0)) := by
  rw [List.drop_zero]
  by_cases h : (sp l).2.2 = 0
  · rw [if_neg (by simpa using h), List.nil_append, ← h]
  · rw [if_pos h]; exact sp_err h
theorem nm_four {l : List UInt8} {k : Nat} {d0 d1 d2 d3 : UInt8} (h0 : l[k]? = some d0) (h1 : l[k + 1]? = some d1) (h2 : l[k + 2]? = some d2) (h3 : l[k + 3]? = some d3) : nm (l.drop k) = d0.toNat * 16777216 + d1.toNat * 65536 + d2.toNat * 256 + d3.toNat := by
  have e : (l.drop k).take 4 = [d0, d1, d2, d3] := by
    apply List.ext_getElem?
    intro i
    rw [List.getElem?_take, List.getElem?_drop]
    match i with
    | 0 => simpa using h0
    | 1 => simpa using h1
    | 2 => simpa using h2
    | 3 => simpa using h3
    | i + 4 => rw [if_neg (by omega)]; simp
  unfold nm
  rw [e]
  simp [getN]
  omega
set_option maxRecDepth 100000 in
set_option maxHeartbeats 4000000 in
theorem refFSplit_any (A : Option Addr) (n c : Nat) (l : List UInt8) (w : World) (hr : Rd w w.heap.size A n l) (hc : n ≤ c) (hn : n ≤ 1099511627776) :
    Calls Try.prog 15 #[.slice A n c] w (RS 22 5 w (sp l)) := by
  have hI := u8row
  have HR := Lib.hid hr
  have HLEN := Lib.hid hr.len
  have hmx : Try.prog.follows .mixedOrders = true := by kernel_rfl
  clear hr
  go_enter Try.func15, Try.ntmps15
  go_wp2
  go_loopw [5, 6] (fun vl vi wr => rsRel l n w vl vi wr) (fun _ vi _ => n - (intOf vi).toNat)
  case atStart => exact ⟨0, none, 0, 0, [], rfl, Nat.zero_le _, rfl, Nat.le_refl _, OwnL.nil, rs_start l, Below.refl _ _⟩
  case round =>
    obtain ⟨k, A1, n1, c1, L, rfl, hk, rfl, hn1, hL, hS, hB⟩ := hrel
    have HL := Lib.hid hL
    have HS := Lib.hid hS
    have HBL := Lib.hid hB
    have HX := Lib.hid (HR.out.below hB (Nat.le_refl _))
    have hsz := hB.size
    have hld : (l.drop k).length = n - k := by rw [List.length_drop, HLEN.out]
    have HLD := Lib.hid hld
    clear hL hS hB hld
    by_cases hlt : k + 4 ≤ n
    · obtain ⟨b, o, d0, rfl, hbl, h0, c0⟩ := HX.out.at (k := k) (by omega)
      obtain ⟨b', o', d1, e1, _, h1, q1⟩ := HX.out.at (k := k + 1) (by omega)
      obtain ⟨rfl, rfl⟩ : b = b' ∧ o = o' := by simpa using e1
      obtain ⟨b', o', d2, e2, _, h2, q2⟩ := HX.out.at (k := k + 2) (by omega)
      obtain ⟨rfl, rfl⟩ : b = b' ∧ o = o' := by simpa using e2
      obtain ⟨b', o', d3, e3, _, h3, q3⟩ := HX.out.at (k := k + 3) (by omega)
      obtain ⟨rfl, rfl⟩ : b = b' ∧ o = o' := by simpa using e3
      clear e1 e2 e3
      have hm := nm_four h0 h1 h2 h3
      obtain ⟨m, hmm⟩ : ∃ m, m = nm (l.drop k) := ⟨_, rfl⟩
      rw [← hmm] at hm
      have HM := Lib.hid (show (d0.toNat : Int) * 16777216 + (d1.toNat : Int) * 65536 + (d2.toNat : Int) * 256 + (d3.toNat : Int) = (m : Int) by omega)
      have HMM := Lib.hid hmm
      have g0 : d0.toNat ≤ 255 := by have := d0.toNat_lt; omega
      have g1 : d1.toNat ≤ 255 := by have := d1.toNat_lt; omega
      have g2 : d2.toNat ≤ 255 := by have := d2.toNat_lt; omega
      have g3 : d3.toNat ≤ 255 := by have := d3.toNat_lt; omega
      have hm32 : m < 4294967296 := by omega
      clear hm hmm h0 h1 h2 h3
      have k0 : wr.drew.cell? ⟨b, o + k, none⟩ = some (.int .u8 (d0.toNat : Int)) := c0
      have k1 : wr.drew.cell? ⟨b, o + (k + 1), none⟩ = some (.int .u8 (d1.toNat : Int)) := q1
      have k2 : wr.drew.cell? ⟨b, o + (k + 2), none⟩ = some (.int .u8 (d2.toNat : Int)) := q2
      have k3 : wr.drew.cell? ⟨b, o + (k + 3), none⟩ = some (.int .u8 (d3.toNat : Int)) := q3
      clear c0 q1 q2 q3
      have hk0 : k < n := by omega
      have hk1 : k + 1 < n := by omega
      have hk2 : k + 2 < n := by omega
      have hk3 : k + 3 < n := by omega
      have hi1 : (k : Int) + 1 < (n : Int) := by omega
      have hi2 : (k : Int) + 2 < (n : Int) := by omega
      have hi3 : (k : Int) + 3 < (n : Int) := by omega
      have ht1 : ((k : Int) + 1).toNat = k + 1 := by omega
      have ht2 : ((k : Int) + 2).toNat = k + 2 := by omega
      have ht3 : ((k : Int) + 3).toNat = k + 3 := by omega
      have hp1 : 0 ≤ (k : Int) + 1 := by omega
      have hp2 : 0 ≤ (k : Int) + 2 := by omega
      have hp3 : 0 ≤ (k : Int) + 3 := by omega
      have v0 : IntKind.i64.wrap (d0.toNat : Int) = (d0.toNat : Int) := IntWalk.i64_in _ (by omega)
      have v1 : IntKind.i64.wrap (d1.toNat : Int) = (d1.toNat : Int) := IntWalk.i64_in _ (by omega)
      have v2 : IntKind.i64.wrap (d2.toNat : Int) = (d2.toNat : Int) := IntWalk.i64_in _ (by omega)
      have v3 : IntKind.i64.wrap (d3.toNat : Int) = (d3.toNat : Int) := IntWalk.i64_in _ (by omega)
      have w1 : IntKind.i64.wrap ((k : Int) + 1) = (k : Int) + 1 := IntWalk.i64_in _ (by omega)
      have w2 : IntKind.i64.wrap ((k : Int) + 2) = (k : Int) + 2 := IntWalk.i64_in _ (by omega)
      have w3 : IntKind.i64.wrap ((k : Int) + 3) = (k : Int) + 3 := IntWalk.i64_in _ (by omega)
      have m0 : IntKind.i64.wrap ((d0.toNat : Int) * 16777216) = (d0.toNat : Int) * 16777216 := IntWalk.i64_in _ (by omega)
      have m1 : IntKind.i64.wrap ((d1.toNat : Int) * 65536) = (d1.toNat : Int) * 65536 := IntWalk.i64_in _ (by omega)
      have m2 : IntKind.i64.wrap ((d2.toNat : Int) * 256) = (d2.toNat : Int) * 256 := IntWalk.i64_in _ (by omega)
      have s1 : IntKind.i64.wrap ((d0.toNat : Int) * 16777216 + (d1.toNat : Int) * 65536) = (d0.toNat : Int) * 16777216 + (d1.toNat : Int) * 65536 := IntWalk.i64_in _ (by omega)
      have s2 : IntKind.i64.wrap ((d0.toNat : Int) * 16777216 + (d1.toNat : Int) * 65536 + (d2.toNat : Int) * 256) = (d0.toNat : Int) * 16777216 + (d1.toNat : Int) * 65536 + (d2.toNat : Int) * 256 := IntWalk.i64_in _ (by omega)
      have s3 : IntKind.i64.wrap ((d0.toNat : Int) * 16777216 + (d1.toNat : Int) * 65536 + (d2.toNat : Int) * 256 + (d3.toNat : Int)) = (m : Int) := (IntWalk.i64_in _ (by omega)).trans HM.out
      go_wp2
      go_region_held (fun w' => w' = wr.drew) (rfl) (fail)
      clear k0 k1 k2 k3 hi1 hi2 hi3 ht1 ht2 ht3 hp1 hp2 hp3 w1 w2 w3 m0 m1 m2 s1 s2 s3 v0 v1 v2 v3 hk1 hk2 hk3 g0 g1 g2 g3 HM
      by_cases hz : 1 ≤ m ∧ m ≤ 4096
      · by_cases hfit : k + 4 + m ≤ n
        · have HPC := Lib.hid (show ((l.drop (k + 4)).take m).length = m by rw [List.length_take, List.length_drop, HLEN.out]; omega)
          have HSN := Lib.hid (show sp l = (if (sp (l.drop (k + 4 + m))).2.2 ≠ 0 then ([], [], 11) else ((L ++ [(l.drop (k + 4)).take m]) ++ (sp (l.drop (k + 4 + m))).1, (sp (l.drop (k + 4 + m))).2.1, 0)) by
            have hd : (l.drop k).drop (4 + nm (l.drop k)) = l.drop (k + 4 + m) := by rw [List.drop_drop, ← HMM.out, Nat.add_assoc]
            have hb : ((l.drop k).drop 4).take (nm (l.drop k)) = (l.drop (k + 4)).take m := by rw [List.drop_drop, ← HMM.out]
            rw [HS.out]
            by_cases h3 : (sp (l.drop (k + 4 + m))).2.2 = 0
            · rw [sp_more (by rw [HLD.out]; omega) (by rw [← HMM.out]; exact hz) (by rw [HLD.out, ← HMM.out]; omega) (by rw [hd]; exact h3), hd, hb]
              simp only
              rw [if_neg (by simp), if_neg (by simpa using h3), List.append_assoc]
              rfl
            · rw [sp_bad (by rw [HLD.out]; omega) (by rw [← HMM.out]; exact hz) (by rw [HLD.out, ← HMM.out]; omega) (by rw [hd]; exact h3), if_pos (by simp), if_pos h3])
          clear HMM
          go_wp2_with (first
            | (at_builtin; refine wpList_appL1 w5 rfl _ _ 28 rfl 24 w.heap.size 22 Try.underlying28 slInfo _ n1 L rfl (HL.out.below HW5.out) _ _ _ ((l.drop (k + 4)).take m) rfl HLD5.out (by omega) (by omega) (by omega) ?_; intro A7 c7 w7 hL7 hg7 hat7 hb7)
            | (at_builtin; refine wpList_app0 _ rfl _ _ 22 rfl wr.heap.size 5 Try.underlying22 hI _ rfl (OwnB.drew (Crc.own_lit wr 5 [] 0 rfl (by omega))) w.heap.size _ _ _ ((l.drop (k + 4)).take m) rfl (Rd.drew (Rd.alloc (HX.out.cut' (i := k + 4) (m := m) (by omega) (by omega) (by intro h0; first | rfl | exact if_neg (by omega) | (simp [Addr.add_lit]; done) | (exfalso; omega))) hsz _)) (by omega) (by simp) ?_; intro A5 c5 w5 hown5 hb5; (try simp only [Nat.add_sub_cancel_left] at hown5); have HO5 := Lib.hid hown5; have HW5 := Lib.hid (show Below wr.heap.size wr w5 from (bel_drew (bel_alloc (Below.refl _ _) _)).trans (hb5.mono (by simp))); have hs5 := HW5.out.size; clear hown5 hb5; have HLD5 := Lib.hid (lead_own (B0 := w.heap.size) (v := .slice A1 n1 c1) HO5.out hsz (fun g hg => (OwnL.lt HL.out g hg).2))))
          go_roundw
          case rel => exact ⟨k + 4 + m, A7, n1 + 1, c7, L ++ [(l.drop (k + 4)).take m], by go_num, by omega, rfl, by omega, hL7, HSN.out, (HBL.out.trans (HW5.out.mono hsz)).trans hb7⟩
          case measure => simp [intOf]; omega
        · have HSN := Lib.hid (show sp l = (L, l.drop k, 0) by
            rw [HS.out, sp_short (by rw [HLD.out]; omega) (by rw [← HMM.out]; exact hz) (by rw [HLD.out, ← HMM.out]; omega), if_neg (by simp), List.append_nil])
          clear HMM
          have HPR := Lib.hid (show ∀ A' : Option Addr, (0 < n - k → A' = (some ⟨b, o, none⟩ : Option Addr).map fun a => a.add k) → Rd wr w.heap.size A' (n - k) (l.drop k) from fun A' hA => by have h := HX.out.cut (i := k) (m := n - k) (by omega) A' hA; rw [List.take_of_length_le (by rw [HLD.out]; omega)] at h; exact h)
          go_wp2_with (at_builtin; refine wpList_app0 _ rfl _ _ 22 rfl wr.heap.size 5 Try.underlying22 hI _ rfl (OwnB.drew (Crc.own_lit wr 5 [] 0 rfl (by omega))) w.heap.size _ _ _ (l.drop k) rfl (Rd.drew (Rd.alloc (HPR.out _ (by intro h0; first | rfl | exact if_neg (by omega) | (simp [Addr.add_lit]; done) | (exfalso; omega))) hsz _)) (by omega) (by simp) ?_; intro A5 c5 w5 hown5 hb5; (try simp only [Nat.add_sub_cancel_left] at hown5); have HO5 := Lib.hid hown5; have HW5 := Lib.hid (show Below wr.heap.size wr w5 from (bel_drew (bel_alloc (Below.refl _ _) _)).trans (hb5.mono (by simp))); have hs5 := HW5.out.size; clear hown5 hb5)
          all_goals go_ret3
          all_goals exact ⟨A1, n1, c1, A5, _, c5, by rw [HSN.out]; rfl, by rw [HSN.out]; exact HL.out.below HW5.out, by rw [HSN.out]; exact HO5.out.more hsz, HBL.out.trans (HW5.out.mono hsz)⟩
      · have HSN := Lib.hid (show sp l = ([], [], 11) by rw [HS.out, sp_wrong (by rw [HLD.out]; omega) (by rw [← HMM.out]; omega)]; simp)
        clear HMM
        go_wp2
        all_goals go_ret3
        all_goals exact ⟨none, 0, 0, none, 0, 0, by rw [HSN.out]; rfl, by rw [HSN.out]; exact OwnL.nil, by rw [HSN.out]; exact OwnB.nil, bel_drew HBL.out⟩
    · have HSN := Lib.hid (show sp l = (L, l.drop k, 0) by
        rw [HS.out, sp_few (by rw [HLD.out]; omega), if_neg (by simp), List.append_nil])
      have HPR := Lib.hid (show ∀ A' : Option Addr, (0 < n - k → A' = A.map fun a => a.add k) → Rd wr w.heap.size A' (n - k) (l.drop k) from fun A' hA => by have h := HX.out.cut (i := k) (m := n - k) (by omega) A' hA; rw [List.take_of_length_le (by rw [HLD.out]; omega)] at h; exact h)
      go_wp2_with (at_builtin; refine wpList_app0 _ rfl _ _ 22 rfl wr.heap.size 5 Try.underlying22 hI _ rfl ((Crc.own_lit wr 5 [] 0 rfl (by omega))) w.heap.size _ _ _ (l.drop k) rfl ((Rd.alloc (HPR.out _ (by intro h0; first | rfl | exact if_neg (by omega) | (simp [Addr.add_lit]; done) | (exfalso; omega))) hsz _)) (by omega) (by simp) ?_; intro A5 c5 w5 hown5 hb5; (try simp only [Nat.add_sub_cancel_left] at hown5); have HO5 := Lib.hid hown5; have HW5 := Lib.hid (show Below wr.heap.size wr w5 from ((bel_alloc (Below.refl _ _) _)).trans (hb5.mono (by simp))); have hs5 := HW5.out.size; clear hown5 hb5)
      all_goals go_ret3
      all_goals exact ⟨A1, n1, c1, A5, _, c5, by rw [HSN.out]; rfl, by rw [HSN.out]; exact HL.out.below HW5.out, by rw [HSN.out]; exact HO5.out.more hsz, HBL.out.trans (HW5.out.mono hsz)⟩
end Go.Proofs.Ytilnlmopdljeeaa.Frm
