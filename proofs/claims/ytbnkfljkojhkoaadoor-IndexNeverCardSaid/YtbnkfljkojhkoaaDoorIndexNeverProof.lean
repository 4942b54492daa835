/- Nothing that is looked for stands ahead of where an index says to begin; no condition.
-/
import Derived.Test.YtbnkfljkojhkoaaDoorIdxW
import Derived.Test.YtbnkfljkojhkoaaDoorIdxV
import Derived.Test.YtbnkfljkojhkoaaDoorJIdxM
import Derived.Test.YtbnkfljkojhkoaaDoorJSegW
import Derived.Test.YtbnkfljkojhkoaaDoorRows
import Derived.WalkKit
import Derived.ProofKit
import Derived.OpenShut
import Derived.ChangeOld
import Derived.Below
import Derived.Carry
import Derived.Test.YtbnkfljkojhkoaaDoorJOct
import Derived.Test.YtbnkfljkojhkoaaDoorSegArg
import Derived.Test.YtbnkfljkojhkoaaDoorJCrc
import Derived.Test.YtbnkfljkojhkoaaDoorTie
import Derived.Test.YtbnkfljkojhkoaaDoorCards
import Derived.SevenTiedAt
/- The walk of IndexNever. -/
namespace Go.Proofs.YtbnkfljkojhkoaaDoor.Idx
open Go.RowKit Go.Proofs.YtbnkfljkojhkoaaDoor.Seg Go.Proofs.YtbnkfljkojhkoaaDoor.RowF Go.Proofs.YtbnkfljkojhkoaaDoor.Oct Go.Proofs.YtbnkfljkojhkoaaDoor.Rec Go.Proofs.YtbnkfljkojhkoaaDoor.Crc Go.Proofs.YtbnkfljkojhkoaaDoor.Bat Go.Proofs.YtbnkfljkojhkoaaDoor.Lay

def nvRel (L : List Bt) (n : Nat) (w : World) (vp vi : Value) (wr : World) : Prop := ∃ j : Nat, vp = .int .i64 ((byR (L.take j)).length : Int) ∧ vi = .int .i64 (j : Int) ∧ j ≤ n ∧ Below w.heap.size w wr
def nvIn (n : Nat) (w : World) (vi : Value) (wr : World) : Prop := ∃ j : Nat, vi = .int .i64 (j : Int) ∧ j ≤ n ∧ Below w.heap.size w wr
theorem byR_take {L : List Bt} {j : Nat} {b : Bt} (h : L[j]? = some b) : byR (L.take (j + 1)) = byR (L.take j) ++ byB b := by rw [List.take_add_one, h, byR_app]; show _ ++ byR [b] = _; rw [byR_cons, byR_nil, List.append_nil]
theorem size_ok {b : Bt} (h : chB b = 0) : szB b = ((byB b).length : Int) := by unfold szB; rw [if_pos h]
set_option maxRecDepth 100000 in
set_option maxHeartbeats 8000000 in
theorem indexNever_walk (sb : Int) (A : Option Addr) (n c : Nat) (l : List UInt8) (every off st : Int) (w : World) (hi : I64 sb) (hc : n ≤ c) (_hk : c ≤ reach) (hR : Rd w w.heap.size A n l) (_hi2 : I64 every) (_hi3 : I64 off) (_hi4 : I64 st) (ht : Tab w) :
    Calls Tryd.prog 4 #[.agg #[.int .i64 sb, .slice A n c], .int .i64 every, .int .i64 off, .int .i64 st] w fun e w' => e = .returned (.bool true) ∧ Below w.heap.size w w' := by
  have HW_0 := Lib.hid (belA w (.cells #[.int .i64 sb, .slice A n c] 28))
  have HS_0 := Lib.hid (At0.new w [.int .i64 sb, .slice A n c] 28)
  have HR_0 := Lib.hid (rdUp hR HW_0.out)
  have HT_0 := Lib.hid (ht.bel HW_0.out)
  by_cases hn : (n : Int) ≤ 3000
  case neg =>
    have HFEW := Lib.hid (show (decide ((n : Int) ≤ 3000) && decide (((0 : Nat) : Int) ≤ 200)) = false by simp [hn])
    clear ht hR hn
    go_enter Tryd.func4, Tryd.ntmps4
    go_wp2_with (first
      | (go_at_call 9; (with_reducible refine (live8_any _ HT_0.out).mono ?_); rintro e w1 ⟨rfl, hb⟩; have HW_1 := Lib.hid (bel_trans HW_0.out hb); have HS_1 := Lib.hid (HS_0.out.below hb); have HR_1 := Lib.hid (rdUp HR_0.out hb); have HT_1 := Lib.hid (HT_0.out.bel hb); have hs1_0 : w1.cell? ⟨w.heap.size, 0, none⟩ = some (.int .i64 sb) := HS_1.out.cell 0; have hs1_1 : w1.cell? ⟨w.heap.size, 1, none⟩ = some (.slice A n c) := HS_1.out.cell 1; clear hb)
      | (go_at_call 14; (with_reducible refine (few_any sb A n c none 0 0 (z := false) HFEW.out _).mono ?_); rintro e w2 ⟨rfl, hb⟩; have HW_2 := Lib.hid (bel_trans HW_1.out hb); have HS_2 := Lib.hid (HS_1.out.below hb); have HR_2 := Lib.hid (rdUp HR_1.out hb); have HT_2 := Lib.hid (HT_1.out.bel hb); have hs2_0 : w2.cell? ⟨w.heap.size, 0, none⟩ = some (.int .i64 sb) := HS_2.out.cell 0; have hs2_1 : w2.cell? ⟨w.heap.size, 1, none⟩ = some (.slice A n c) := HS_2.out.cell 1; clear hb))
    go_ret
    exact ⟨rfl, HW_2.out⟩
  have HFEW := Lib.hid (show (decide ((n : Int) ≤ 3000) && decide (((0 : Nat) : Int) ≤ 200)) = true by simp [hn])
  have HLN := Lib.hid hR.len
  rcases makeX_ways ⟨sb, l⟩ every with hm | ⟨m, hm⟩
  · have HMK := Lib.hid hm
    clear ht hR hm
    go_enter Tryd.func4, Tryd.ntmps4
    go_wp2_with (first
      | (go_at_call 9; (with_reducible refine (live8_any _ HT_0.out).mono ?_); rintro e w1 ⟨rfl, hb⟩; have HW_1 := Lib.hid (bel_trans HW_0.out hb); have HS_1 := Lib.hid (HS_0.out.below hb); have HR_1 := Lib.hid (rdUp HR_0.out hb); have HT_1 := Lib.hid (HT_0.out.bel hb); have hs1_0 : w1.cell? ⟨w.heap.size, 0, none⟩ = some (.int .i64 sb) := HS_1.out.cell 0; have hs1_1 : w1.cell? ⟨w.heap.size, 1, none⟩ = some (.slice A n c) := HS_1.out.cell 1; clear hb)
      | (go_at_call 14; (with_reducible refine (few_any sb A n c none 0 0 (z := true) HFEW.out _).mono ?_); rintro e w2 ⟨rfl, hb⟩; have HW_2 := Lib.hid (bel_trans HW_1.out hb); have HS_2 := Lib.hid (HS_1.out.below hb); have HR_2 := Lib.hid (rdUp HR_1.out hb); have HT_2 := Lib.hid (HT_1.out.bel hb); have hs2_0 : w2.cell? ⟨w.heap.size, 0, none⟩ = some (.int .i64 sb) := HS_2.out.cell 0; have hs2_1 : w2.cell? ⟨w.heap.size, 1, none⟩ = some (.slice A n c) := HS_2.out.cell 1; clear hb)
      | (go_at_call 15; (with_reducible refine (Make_is A n c sb l every HMK.out _ HR_2.out hc hi HT_2.out).mono ?_); rintro e w3 ⟨A3, n3, c3, rfl, ho, hb⟩; have HW_3 := Lib.hid (bel_trans HW_2.out hb); have HS_3 := Lib.hid (HS_2.out.below hb); have HR_3 := Lib.hid (rdUp HR_2.out hb); have HT_3 := Lib.hid (HT_2.out.bel hb); obtain rfl : 0 = n3 := ho.len enS; have hs3_0 : w3.cell? ⟨w.heap.size, 0, none⟩ = some (.int .i64 sb) := HS_3.out.cell 0; have hs3_1 : w3.cell? ⟨w.heap.size, 1, none⟩ = some (.slice A n c) := HS_3.out.cell 1; clear hb ho))
    go_ret
    exact ⟨rfl, HW_3.out⟩
  · have HMK := Lib.hid hm
    have hmg := makeX_good hm
    obtain ⟨hris, hbs, hlen⟩ := allE_right hmg.1
    obtain ⟨L, hL⟩ : ∃ L, L = batS ⟨sb, l⟩ := ⟨_, rfl⟩
    rw [← hL] at hris hbs
    simp only at hris hbs hlen
    have HSC := Lib.hid (show sc sb l = (L, n) from (by have h := sc_whole hris; rw [← hbs] at h; rw [h, HLN.out]))
    have HCH := Lib.hid (ris_all hris)
    have HBL := Lib.hid (show (byR L).length = n by rw [← hbs, HLN.out])
    have HNO := Lib.hid (fun (k : Nat) (b : Bt) (hb : L[k]? = some b) (hp : endP 0 (L.take k) < floorX off 0 m) => never_off hm off (by rw [← hL]; exact hb) (by rw [← hL]; exact hp))
    have HNS := Lib.hid (fun (k : Nat) (b : Bt) (hb : L[k]? = some b) (hp : endP 0 (L.take k) < whenX st 0 m) => never_stamp hm st (by rw [← hL]; exact hb) (by rw [← hL]; exact hp))
    have hfi := floor_in hm off
    have hwi := when_in hm st
    simp only [HLN.out] at hfi hwi
    obtain ⟨f, hf⟩ : ∃ f, floorX off 0 m = f := ⟨_, rfl⟩
    obtain ⟨g, hg⟩ : ∃ g, whenX st 0 m = g := ⟨_, rfl⟩
    rw [hf] at HNO hfi
    rw [hg] at HNS hwi
    have HF := Lib.hid hf
    have HG := Lib.hid hg
    have hml : m.length ≤ 4097 := by rw [hmg.2.2]; have h3 := pick_len every (allE ⟨sb, l⟩); have h4 : (allE ⟨sb, l⟩).length = L.length := (ents_len _ _ _).trans (by rw [hL]); have h5 := byR_ge L; rw [← hbs] at h5; omega
    have hLl : L.length ≤ 4096 := by have h5 := byR_ge L; rw [← hbs] at h5; omega
    have f1 : decide ((0 : Int) ≤ f) = true := decide_eq_true (by omega)
    have f2 : decide (f ≤ (n : Int)) = true := decide_eq_true (by omega)
    have f3 : decide ((0 : Int) ≤ g) = true := decide_eq_true (by omega)
    have f4 : decide (g ≤ (n : Int)) = true := decide_eq_true (by omega)
    clear ht hR hm hmg hris hbs hlen hL hf hg
    go_enter Tryd.func4, Tryd.ntmps4
    go_wp2_with (first
      | (go_at_call 9; (with_reducible refine (live8_any _ HT_0.out).mono ?_); rintro e w1 ⟨rfl, hb⟩; have HW_1 := Lib.hid (bel_trans HW_0.out hb); have HS_1 := Lib.hid (HS_0.out.below hb); have HR_1 := Lib.hid (rdUp HR_0.out hb); have HT_1 := Lib.hid (HT_0.out.bel hb); have hs1_0 : w1.cell? ⟨w.heap.size, 0, none⟩ = some (.int .i64 sb) := HS_1.out.cell 0; have hs1_1 : w1.cell? ⟨w.heap.size, 1, none⟩ = some (.slice A n c) := HS_1.out.cell 1; clear hb)
      | (go_at_call 14; (with_reducible refine (few_any sb A n c none 0 0 (z := true) HFEW.out _).mono ?_); rintro e w2 ⟨rfl, hb⟩; have HW_2 := Lib.hid (bel_trans HW_1.out hb); have HS_2 := Lib.hid (HS_1.out.below hb); have HR_2 := Lib.hid (rdUp HR_1.out hb); have HT_2 := Lib.hid (HT_1.out.bel hb); have hs2_0 : w2.cell? ⟨w.heap.size, 0, none⟩ = some (.int .i64 sb) := HS_2.out.cell 0; have hs2_1 : w2.cell? ⟨w.heap.size, 1, none⟩ = some (.slice A n c) := HS_2.out.cell 1; clear hb)
      | (go_at_call 15; (with_reducible refine (Make_is A n c sb l every HMK.out _ HR_2.out hc hi HT_2.out).mono ?_); rintro e w3 ⟨A3, n3, c3, rfl, ho, hb⟩; have HW_3 := Lib.hid (bel_trans HW_2.out hb); have HS_3 := Lib.hid (HS_2.out.below hb); have HR_3 := Lib.hid (rdUp HR_2.out hb); have HT_3 := Lib.hid (HT_2.out.bel hb); have hml3 : n3 ≤ 4097 := (by have h := ho.len enS; omega); have hcap3 := ho.cap; have HE_3 := Lib.hid (OwnF.rd enS ho); have hs3_0 : w3.cell? ⟨w.heap.size, 0, none⟩ = some (.int .i64 sb) := HS_3.out.cell 0; have hs3_1 : w3.cell? ⟨w.heap.size, 1, none⟩ = some (.slice A n c) := HS_3.out.cell 1; clear hb ho)
      | (go_at_call 16; (with_reducible refine (Scan_is HSC.out HR_3.out hc (by omega) hi HT_3.out).mono ?_); rintro e w4 ⟨A4, n4, c4, rfl, ho, hb⟩; have HW_4 := Lib.hid (bel_trans HW_3.out hb); have HS_4 := Lib.hid (HS_3.out.below hb); have HR_4 := Lib.hid (rdUp HR_3.out hb); have HT_4 := Lib.hid (HT_3.out.bel hb); have HE_4 := Lib.hid (rdeUp HE_3.out hb); have HB_4 := Lib.hid (ho.rd); have hn4 : n4 ≤ 1099511627776 := (by have h9 := ho.len; omega); have hcap4 := ho.cap; have hs4_0 : w4.cell? ⟨w.heap.size, 0, none⟩ = some (.int .i64 sb) := HS_4.out.cell 0; have hs4_1 : w4.cell? ⟨w.heap.size, 1, none⟩ = some (.slice A n c) := HS_4.out.cell 1; have HBN := Lib.hid ho.len; clear hb ho)
      | (go_at_call 10; (with_reducible refine (Floor_is A3 n3 c3 m off HF.out _ HE_4.out hcap3 (by omega)).mono ?_); rintro e w5 ⟨rfl, hb⟩; have HW_5 := Lib.hid (bel_trans HW_4.out hb); have HS_5 := Lib.hid (HS_4.out.below hb); have HR_5 := Lib.hid (rdUp HR_4.out hb); have HT_5 := Lib.hid (HT_4.out.bel hb); have HE_5 := Lib.hid (rdeUp HE_4.out hb); have HB_5 := Lib.hid (rdtUp HB_4.out hb); have hs5_0 : w5.cell? ⟨w.heap.size, 0, none⟩ = some (.int .i64 sb) := HS_5.out.cell 0; have hs5_1 : w5.cell? ⟨w.heap.size, 1, none⟩ = some (.slice A n c) := HS_5.out.cell 1; clear hb)
      | (go_at_call 12; (with_reducible refine (When_is A3 n3 c3 m st HG.out _ HE_5.out hcap3 (by omega)).mono ?_); rintro e w6 ⟨rfl, hb⟩; have HW_6 := Lib.hid (bel_trans HW_5.out hb); have HS_6 := Lib.hid (HS_5.out.below hb); have HR_6 := Lib.hid (rdUp HR_5.out hb); have HT_6 := Lib.hid (HT_5.out.bel hb); have HE_6 := Lib.hid (rdeUp HE_5.out hb); have HB_6 := Lib.hid (rdtUp HB_5.out hb); have hs6_0 : w6.cell? ⟨w.heap.size, 0, none⟩ = some (.int .i64 sb) := HS_6.out.cell 0; have hs6_1 : w6.cell? ⟨w.heap.size, 1, none⟩ = some (.slice A n c) := HS_6.out.cell 1; clear hb))
    go_loopw [16, 17] (fun vp vi wr => nvRel L n4 w6 vp vi wr) (fun _ vi _ => n4 - (intOf vi).toNat)
    case atStart => exact ⟨0, by rw [List.take_zero, byR_nil]; rfl, rfl, Nat.zero_le _, Below.refl _ _⟩
    case round =>
      obtain ⟨j, rfl, rfl, hj, hb⟩ := hrel
      have HBR := Lib.hid hb
      by_cases hlt : j < n4
      · obtain ⟨b, o, x, A9, n9, c9, rfl, hbl, hxk, hc9, hn9, hrd, hft, hcell⟩ := (rdtUp HB_6.out hb).at (k := j) hlt
        have hx2 := hxk
        obtain ⟨ba, la, fr, ep, pi, ge, se, tx, ct, rs⟩ := x
        have HFT := Lib.hid hft
        have HRD := Lib.hid hrd
        have HA0 := Lib.hid (show wr.cell? ⟨b, o + j * 10, none⟩ = some (.int .i64 ba) from hcell 0 _ rfl)
        have HA1 := Lib.hid (show wr.cell? ⟨b, o + j * 10 + 1, none⟩ = some (.int .i64 la) from hcell 1 _ rfl)
        have HA2 := Lib.hid (show wr.cell? ⟨b, o + j * 10 + 2, none⟩ = some (.int .i64 fr) from hcell 2 _ rfl)
        have HA3 := Lib.hid (show wr.cell? ⟨b, o + j * 10 + 3, none⟩ = some (.int .i64 ep) from hcell 3 _ rfl)
        have HA4 := Lib.hid (show wr.cell? ⟨b, o + j * 10 + 4, none⟩ = some (.int .i64 pi) from hcell 4 _ rfl)
        have HA5 := Lib.hid (show wr.cell? ⟨b, o + j * 10 + 5, none⟩ = some (.int .i64 ge) from hcell 5 _ rfl)
        have HA6 := Lib.hid (show wr.cell? ⟨b, o + j * 10 + 6, none⟩ = some (.int .i64 se) from hcell 6 _ rfl)
        have HA7 := Lib.hid (show wr.cell? ⟨b, o + j * 10 + 7, none⟩ = some (.bool tx) from hcell 7 _ rfl)
        have HA8 := Lib.hid (show wr.cell? ⟨b, o + j * 10 + 8, none⟩ = some (.int .i64 ct) from hcell 8 _ rfl)
        have HA9 := Lib.hid (show wr.cell? ⟨b, o + j * 10 + 9, none⟩ = some (.slice A9 n9 c9) from hcell 9 _ rfl)
        have a1 := HA1.out
        have a9 := HA9.out
        have hend : endP 0 (L.take j) = ((byR (L.take j)).length : Int) := by rw [endP_is, Int.zero_add]
        have hchb := HCH.out _ (List.mem_of_getElem? hxk)
        have HSZ := Lib.hid (size_ok hchb)
        have HNX := Lib.hid (show ((byR (L.take (j + 1))).length : Int) = ((byR (L.take j)).length : Int) + ((byB ⟨ba, la, fr, ep, pi, ge, se, tx, ct, rs⟩).length : Int) by rw [byR_take hxk, List.length_append, Int.natCast_add])
        have hple : (byR (L.take (j + 1))).length ≤ n := by have e := congrArg (fun x => (byR x).length) (List.take_append_drop (j + 1) L); simp only [byR_app, List.length_append] at e; rw [← HBL.out]; omega
        obtain ⟨P, hP⟩ : ∃ P, P = (byR (L.take j)).length := ⟨_, rfl⟩
        obtain ⟨Y, hY⟩ : ∃ Y, Y = (byB ⟨ba, la, fr, ep, pi, ge, se, tx, ct, rs⟩).length := ⟨_, rfl⟩
        rw [← hY] at HSZ HNX
        rw [← hP] at HNX hend ⊢
        have hPY : P + Y ≤ n := by have h := HNX.out; omega
        have HN1 := Lib.hid (show (P : Int) < f → la < off from fun h => HNO.out j _ hxk (by rw [hend]; exact h))
        have HN2 := Lib.hid (show (P : Int) < g → ∀ r ∈ rs, r.stamp < st from fun h => HNS.out j _ hxk (by rw [hend]; exact h))
        have hwp : IntKind.i64.wrap ((P : Int) + (Y : Int)) = (P : Int) + (Y : Int) := IntWalk.i64_in _ (by omega)
        have HBW := Lib.hid (bel_trans HW_6.out hb)
        have HTR := Lib.hid (HT_6.out.bel hb)
        have v1 : (decide ((P : Int) < f) && decide (off ≤ la)) = false := by
          by_cases h : (P : Int) < f
          · rw [decide_eq_false (show ¬ off ≤ la by have := HN1.out h; omega), Bool.and_false]
          · rw [decide_eq_false h, Bool.false_and]
        clear hxk hx2 hchb hend hP hY hple hcell hrd hft hb
        have hbl6 := hbl
        by_cases hpf : (P : Int) < f
        · have hol : ¬ off ≤ la := by have := HN1.out hpf; omega
          go_wp2
          obtain ⟨wa, rfl⟩ : ∃ wa, wa = wr := ⟨_, rfl⟩
          go_loopw [18] (fun vi wr => nvIn n9 wa vi wr) (fun vi _ => n9 - (intOf vi).toNat)
          case atStart => exact ⟨0, rfl, Nat.zero_le _, Below.refl _ _⟩
          case round =>
            obtain ⟨k, rfl, hk, hb⟩ := hrel
            have HB2 := Lib.hid hb
            have hsa := hb.size
            have hba : b < wa.heap.size := by have := HBR.out.size; omega
            have a9 := (hb.cell (p := ⟨b, o + j * 10 + 9, none⟩) hba).trans HA9.out
            by_cases hk2 : k < n9
            · obtain ⟨b2, o2, r, rfl, hbl2, hrk, c0, c1', c2, c3, c4'⟩ := HRD.out.at hk2
              have c4 := (hb.cell (p := ⟨b2, o2 + k * 5 + 4, none⟩) (by simp only; omega)).trans c4'
              have HRK := Lib.hid hrk
              obtain ⟨r0, rk, rv, rd, r4⟩ := r
              simp only at c4
              clear c0 c1' c2 c3 c4' hrk hb
              by_cases hpg : (P : Int) < g
              · have hst : ¬ st ≤ r4 := by have := HN2.out hpg _ (List.mem_of_getElem? HRK.out); simp only at this; omega
                go_wp2
                go_roundw
                case rel => exact ⟨k + 1, by go_num, by omega, HB2.out⟩
                case measure => simp [intOf]; omega
              · go_wp2
                go_roundw
                case rel => exact ⟨k + 1, by go_num, by omega, HB2.out⟩
                case measure => simp [intOf]; omega
            · obtain rfl : k = n9 := by omega
              have b0 := (hb.cell (p := ⟨b, o + j * 10, none⟩) hba).trans HA0.out
              have b1 := (hb.cell (p := ⟨b, o + j * 10 + 1, none⟩) hba).trans HA1.out
              have b2 := (hb.cell (p := ⟨b, o + j * 10 + 2, none⟩) hba).trans HA2.out
              have b3 := (hb.cell (p := ⟨b, o + j * 10 + 3, none⟩) hba).trans HA3.out
              have b4 := (hb.cell (p := ⟨b, o + j * 10 + 4, none⟩) hba).trans HA4.out
              have b5 := (hb.cell (p := ⟨b, o + j * 10 + 5, none⟩) hba).trans HA5.out
              have b6 := (hb.cell (p := ⟨b, o + j * 10 + 6, none⟩) hba).trans HA6.out
              have b7 := (hb.cell (p := ⟨b, o + j * 10 + 7, none⟩) hba).trans HA7.out
              have b8 := (hb.cell (p := ⟨b, o + j * 10 + 8, none⟩) hba).trans HA8.out
              have b9 := (hb.cell (p := ⟨b, o + j * 10 + 9, none⟩) hba).trans HA9.out
              have HRD2 := Lib.hid ((HRD.out.more (show wa.heap.size ≤ wa.heap.size from Nat.le_refl _)).below hb (Nat.le_refl _) |>.more hb.size)
              have HT2 := Lib.hid (HTR.out.bel hb)
              clear hb a9
              go_wp2_with (go_at_call 17; (with_reducible refine (BSize_is ba la fr ep pi ge se tx ct rs A9 _ c9 _ HFT.out HRD2.out hn9 HT2.out HSZ.out).mono ?_); rintro e w9 ⟨rfl, hb9⟩; have HB9 := Lib.hid (bel_trans (bel_trans HBR.out HB2.out) hb9); clear hb9)
              go_roundw
              case rel => exact ⟨j + 1, by rw [HNX.out], by go_num, by omega, HB9.out⟩
              case measure => simp [intOf]; omega
        · go_wp2
          obtain ⟨wa, rfl⟩ : ∃ wa, wa = wr := ⟨_, rfl⟩
          go_loopw [18] (fun vi wr => nvIn n9 wa vi wr) (fun vi _ => n9 - (intOf vi).toNat)
          case atStart => exact ⟨0, rfl, Nat.zero_le _, Below.refl _ _⟩
          case round =>
            obtain ⟨k, rfl, hk, hb⟩ := hrel
            have HB2 := Lib.hid hb
            have hsa := hb.size
            have hba : b < wa.heap.size := by have := HBR.out.size; omega
            have a9 := (hb.cell (p := ⟨b, o + j * 10 + 9, none⟩) hba).trans HA9.out
            by_cases hk2 : k < n9
            · obtain ⟨b2, o2, r, rfl, hbl2, hrk, c0, c1', c2, c3, c4'⟩ := HRD.out.at hk2
              have c4 := (hb.cell (p := ⟨b2, o2 + k * 5 + 4, none⟩) (by simp only; omega)).trans c4'
              have HRK := Lib.hid hrk
              obtain ⟨r0, rk, rv, rd, r4⟩ := r
              simp only at c4
              clear c0 c1' c2 c3 c4' hrk hb
              by_cases hpg : (P : Int) < g
              · have hst : ¬ st ≤ r4 := by have := HN2.out hpg _ (List.mem_of_getElem? HRK.out); simp only at this; omega
                go_wp2
                go_roundw
                case rel => exact ⟨k + 1, by go_num, by omega, HB2.out⟩
                case measure => simp [intOf]; omega
              · go_wp2
                go_roundw
                case rel => exact ⟨k + 1, by go_num, by omega, HB2.out⟩
                case measure => simp [intOf]; omega
            · obtain rfl : k = n9 := by omega
              have b0 := (hb.cell (p := ⟨b, o + j * 10, none⟩) hba).trans HA0.out
              have b1 := (hb.cell (p := ⟨b, o + j * 10 + 1, none⟩) hba).trans HA1.out
              have b2 := (hb.cell (p := ⟨b, o + j * 10 + 2, none⟩) hba).trans HA2.out
              have b3 := (hb.cell (p := ⟨b, o + j * 10 + 3, none⟩) hba).trans HA3.out
              have b4 := (hb.cell (p := ⟨b, o + j * 10 + 4, none⟩) hba).trans HA4.out
              have b5 := (hb.cell (p := ⟨b, o + j * 10 + 5, none⟩) hba).trans HA5.out
              have b6 := (hb.cell (p := ⟨b, o + j * 10 + 6, none⟩) hba).trans HA6.out
              have b7 := (hb.cell (p := ⟨b, o + j * 10 + 7, none⟩) hba).trans HA7.out
              have b8 := (hb.cell (p := ⟨b, o + j * 10 + 8, none⟩) hba).trans HA8.out
              have b9 := (hb.cell (p := ⟨b, o + j * 10 + 9, none⟩) hba).trans HA9.out
              have HRD2 := Lib.hid ((HRD.out.more (show wa.heap.size ≤ wa.heap.size from Nat.le_refl _)).below hb (Nat.le_refl _) |>.more hb.size)
              have HT2 := Lib.hid (HTR.out.bel hb)
              clear hb a9
              go_wp2_with (go_at_call 17; (with_reducible refine (BSize_is ba la fr ep pi ge se tx ct rs A9 _ c9 _ HFT.out HRD2.out hn9 HT2.out HSZ.out).mono ?_); rintro e w9 ⟨rfl, hb9⟩; have HB9 := Lib.hid (bel_trans (bel_trans HBR.out HB2.out) hb9); clear hb9)
              go_roundw
              case rel => exact ⟨j + 1, by rw [HNX.out], by go_num, by omega, HB9.out⟩
              case measure => simp [intOf]; omega
      · obtain rfl : j = n4 := by omega
        have hall : (byR (L.take j)).length = n := by rw [List.take_of_length_le (by have := HBN.out; omega)]; exact HBL.out
        rw [hall]
        have HBW := Lib.hid (bel_trans HW_6.out hb)
        clear hb hall
        go_wp2
        go_ret
        exact ⟨rfl, HBW.out⟩
end Go.Proofs.YtbnkfljkojhkoaaDoor.Idx

namespace Go.Proofs.YtbnkfljkojhkoaaDoor.indexNever
open Go.ChangeShapes Go.WideShapes Go.ChangeAt Go.RowKit

theorem own : ownKnob Tryd.prog.godebug = none := by kernel_rfl
theorem laidOut : laidOutB Tryd.prog = true := by kernel_rfl

set_option maxRecDepth 100000 in
theorem lifted (os : Os) (started : os.Started) (H : Type) (enc : TypeId × Value → H) :
    ReturnsInHanded {} Tryd.checked os 4 .any (fun w args => (Rows.indexNeverSpec.pre enc Tryd.prog Tryd.f4 [] false w args ∧ laidMetH Tryd.prog Crc.listed w) ∧ sizedMet enc Tryd.prog Tryd.f4 (OpenSpec.ofChange Rows.indexNeverSpec) false w args)
      (Rows.indexNeverSpec.post enc Tryd.prog Tryd.f4 false true false false) := by
  refine returnsInHanded_of_change_and (C := Tryd.checked) (X := fun w _ => laidMetH Tryd.prog Crc.listed w) (fun _ _ _ hh h => h.of_heap hh) own started (by kernel_rfl) Tryd.func4
    (ChangeSpec.witness_shaped (enc := enc) (C := Tryd.checked) (os := os) (X := fun w _ => laidMetH Tryd.prog Crc.listed w) false (World.doorLaid Tryd.prog 400 os) #[.agg #[.int .i64 0, .slice none 0 0], .int .i64 0, .int .i64 0, .int .i64 0] 8 rfl (World.shaped_of_RefB (by kernel_rfl) (by kernel_rfl)) (by kernel_rfl) (by kernel_rfl) (by kernel_rfl) (Crc.door_met os _)) ?_
  intro W base args ds gs before hval0 hW _ hwt hL _
  have hval : ∀ (j : Nat) t v, Tryd.f4.params[j]? = some t → args[j]? = some v → Value.okWide Tryd.prog W .any base t v := hval0
  have hW' := hW
  obtain ⟨p, q, hA0, hV, rfl, hfz, hnd⟩ := hW
  have hA : DataW.TrodAll enc Tryd.prog W 0 (fun _ => true) true Tryd.f4.params.toList args.toList ds p := hA0
  rw [Tryd.params4] at hA hval
  obtain ⟨v0, vs0, d0, ds0, p0, q0, hargs, rfl, rfl, h0, r0⟩ := trodAll_cons hA
  obtain ⟨v1, vs1, d1, ds1, p1, q1, rfl, rfl, rfl, h1, r1⟩ := trodAll_cons r0
  obtain ⟨v2, vs2, d2, ds2, p2, q2, rfl, rfl, rfl, h2, r2⟩ := trodAll_cons r1
  obtain ⟨v3, vs3, d3, ds3, p3, q3, rfl, rfl, rfl, h3, r3⟩ := trodAll_cons r2
  obtain ⟨rfl, rfl, rfl⟩ := trodAll_nil r3
  obtain rfl : args = #[v0, v1, v2, v3] := by cases args; simp_all
  obtain ⟨rfl, rfl⟩ := trodVars_none hV
  have k0 := h0
  have lt0 : ∀ x ∈ p0, x.block < W.heap.size := by obtain ⟨m, hm⟩ := k0; exact DataW.trod_lt m _ _ _ hm
  obtain ⟨sb_0, A_0, n_0, c_0, l_0, rfl, hi_0, hc_0, hk_0, hR_0⟩ := Seg.open_seg (hval 0 28 v0 rfl rfl) h0 (Bat.weights_arg (j := 0) hwt (by kernel_rfl) rfl)
  have k1 := h1
  have lt1 : ∀ x ∈ p1, x.block < W.heap.size := by obtain ⟨m, hm⟩ := k1; exact DataW.trod_lt m _ _ _ hm
  obtain ⟨a1, rfl, hi1⟩ := Oct.open_i64 Tryd.underlying3 (hval 1 3 v1 rfl rfl) h1
  have k2 := h2
  have lt2 : ∀ x ∈ p2, x.block < W.heap.size := by obtain ⟨m, hm⟩ := k2; exact DataW.trod_lt m _ _ _ hm
  obtain ⟨a2, rfl, hi2⟩ := Oct.open_i64 Tryd.underlying3 (hval 2 3 v2 rfl rfl) h2
  have k3 := h3
  have lt3 : ∀ x ∈ p3, x.block < W.heap.size := by obtain ⟨m, hm⟩ := k3; exact DataW.trod_lt m _ _ _ hm
  obtain ⟨a3, rfl, hi3⟩ := Oct.open_i64 Tryd.underlying3 (hval 3 3 v3 rfl rfl) h3
  clear hA0 hval0
  refine (Idx.indexNever_walk sb_0 A_0 n_0 c_0 l_0 a1 a2 a3 W hi_0 hc_0 hk_0 hR_0 hi1 hi2 hi3 (Crc.tab_of_laid hL)).mono fun e W' ⟨he, bel⟩ => ?_
  subst he
  exact ⟨_, rfl, _, _, _, [], _, [], hW', trodAll_mk1 (shut_bool Tryd.underlying4 _), (trodAll_cons_mk (Below.trod laidOut (by kernel_rfl) (of_decide_eq_true (by kernel_rfl)) k0 bel lt0) (trodAll_cons_mk (Below.trod laidOut (by kernel_rfl) (of_decide_eq_true (by kernel_rfl)) k1 bel lt1) (trodAll_cons_mk (Below.trod laidOut (by kernel_rfl) (of_decide_eq_true (by kernel_rfl)) k2 bel lt2) (trodAll_cons_mk (Below.trod laidOut (by kernel_rfl) (of_decide_eq_true (by kernel_rfl)) k3 bel lt3) trodAll_mk0)))), rfl, bel.frame _, fun h => by cases h⟩

theorem over : Rows.indexNeverRow.holds Tryd.pinned (OpenSpec.ofChange Rows.indexNeverSpec) :=
  OpenClaim.holds_of_wide 4 Tryd.f4 rfl rfl rfl rfl rfl rfl rfl ⟨rfl, rfl, rfl, rfl, rfl⟩ rfl rfl rfl rfl rfl (by kernel_rfl) Tryd.func4 (by kernel_rfl)
    (of_decide_eq_true (by kernel_rfl)) (by unfold Func.isWrapper; first | (rw [if_pos (by decide +kernel)]; kernel_rfl) | (rw [if_neg (by decide +kernel)]; exact ⟨rfl, rfl⟩))
    (fun os started H enc _ => lifted os started H enc)

theorem proved : Rows.IndexNeverCardSaid :=
  Claim7.holds_tied_plain_at .later [] [.data] true (true, "41be7e607d66cfdd6008461b4b7c97f5871f9791b8cb61aa2317aa8070baa326") false
    over (fun _ h => by cases h) (by kernel_rfl) (fun _ h => by cases h) indexNever_row_tie rfl ⟨rfl, rfl⟩ (by kernel_rfl) rfl
    (fun f fn hf hfn => by
      obtain rfl : f = 4 := Option.some.inj ((show Tryd.prog.funcNamed "watermeet/watermeetlaw08.IndexNever" = some 4 by kernel_rfl).symm.trans hf) |>.symm
      obtain rfl : fn = Tryd.f4 := (Option.some.inj (Tryd.func4.symm.trans hfn)).symm
      exact ⟨by kernel_rfl, fun j t ht => by
        rw [Tryd.params4] at ht
        have hm : t ∈ [28, 3, 3, 3] := by simpa using Array.mem_of_getElem? ht
        have hall : ([28, 3, 3, 3].all fun u => !Tryd.prog.wantsStandIn u) = true := by kernel_rfl
        exact (show Tryd.prog.wantsStandIn t = false by simpa using List.all_eq_true.1 hall t hm)⟩)
    (by kernel_rfl)
#print axioms proved
end Go.Proofs.YtbnkfljkojhkoaaDoor.indexNever
