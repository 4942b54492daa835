/- For any beginning, batches and more batches (at most 15 each, few enough records) and limit: a segment of all of them is that of the first ones to which the others are appended, or the same error is told (the law answers true, and changes nothing that was there). Conditions: none.
-/
import Derived.Test.YtgjbfhmfhmihhaaDoorSegW
import Derived.Test.YtgjbfhmfhmihhaaDoorSegWO
import Derived.Test.YtgjbfhmfhmihhaaDoorInT
import Derived.Test.YtgjbfhmfhmihhaaDoorSegX
import Derived.Test.YtgjbfhmfhmihhaaDoorRows
import Derived.WalkKit
import Derived.ProofKit
import Derived.OpenShut
import Derived.ChangeOld
import Derived.Below
import Derived.Carry
import Derived.Test.YtgjbfhmfhmihhaaDoorJOct
import Derived.Test.YtgjbfhmfhmihhaaDoorJBatA
import Derived.Test.YtgjbfhmfhmihhaaDoorJCrc
import Derived.Test.YtgjbfhmfhmihhaaDoorTie
import Derived.Test.YtgjbfhmfhmihhaaDoorCards
import Derived.SevenTiedAt
/- The walk of SegParts. -/
namespace Go.Proofs.YtgjbfhmfhmihhaaDoor.Seg
open Go.RowKit Go.Proofs.YtgjbfhmfhmihhaaDoor.Oct Go.Proofs.YtgjbfhmfhmihhaaDoor.Rec Go.Proofs.YtgjbfhmfhmihhaaDoor.Crc Go.Proofs.YtgjbfhmfhmihhaaDoor.Bat Go.Proofs.YtgjbfhmfhmihhaaDoor.Lay Go.Proofs.YtgjbfhmfhmihhaaDoor.InR Go.Proofs.YtgjbfhmfhmihhaaDoor.RowF

def paRel (e8 : TypeId) (base limit : Int) (M : List Bt) (n NB : Nat) (w : World) (X Y : Nat) (xall : Sg × Int) (A7 : Option Addr) (n7 c7 : Nat) (i : Value) (wr : World) : Prop :=
  ∃ (k : Nat) (s : Sg) (A1 : Option Addr) (n1 c1 : Nat), i = .int .i64 (k : Int) ∧ k ≤ n ∧ s.base = base ∧ s.bytes.length ≤ 4096 ∧ xall = allS limit s (M.drop k) ∧
    At2 wr X [.int .i64 base, .slice A1 n1 c1] ∧ OwnB wr e8 w.heap.size (.slice A1 n1 c1) n1 s.bytes ∧ (∀ g, (Value.slice A1 n1 c1).ownBlock = some g → g ≠ X) ∧ At2 wr Y [.int .i64 xall.1.base, .slice A7 n7 c7] ∧ OwnB wr e8 NB (.slice A7 n7 c7) n7 xall.1.bytes ∧ Below w.heap.size w wr
set_option maxRecDepth 100000 in
set_option maxHeartbeats 8000000 in
theorem segParts_walk (base : Int) (A : Option Addr) (n c : Nat) (L : List Bt) (A' : Option Addr) (n' c' : Nat) (M : List Bt) (limit : Int) (w : World) (hib : I64 base) (hnc : n ≤ c) (hcap : c ≤ reach) (hR : RdL w w.heap.size A n L) (hnc' : n' ≤ c') (hcap' : c' ≤ reach) (hR' : RdL w w.heap.size A' n' M) (_hil : I64 limit) (ht : Tab w) :
    Calls Tryd.prog 11 #[.int .i64 base, .slice A n c, .slice A' n' c', .int .i64 limit] w fun e w' => e = .returned (.bool true) ∧ Below w.heap.size w w' := by
  have HW_0 := Lib.hid (Below.refl w.heap.size w)
  have HT_0 := Lib.hid (ht)
  have HL_0 := Lib.hid (hR)
  have HM_0 := Lib.hid (hR')
  have hcr := Nat.le_trans hnc hcap
  have hcr' := Nat.le_trans hnc' hcap'
  have hL := hR.len
  have hM := hR'.len
  rcases hza : (L.all fewT && decide ((L.length : Int) ≤ 15)) with _ | _
  · have HZA := Lib.hid hza
    clear hza hR hR' ht
    go_enter Tryd.func11, Tryd.ntmps11
    go_wp2_with (first
      | (go_at_call 12; (with_reducible refine (live_any _ HT_0.out).mono ?_); rintro e w1 ⟨rfl, hb⟩; have HW_1 := Lib.hid (bel_trans HW_0.out hb); have HT_1 := Lib.hid (HT_0.out.bel hb); have HL_1 := Lib.hid (rdlUp HL_0.out hb); have HM_1 := Lib.hid (rdlUp HM_0.out hb); clear hb)
      | (go_at_call 27; (with_reducible refine (refFewAll_is L A n c 15 _ HL_1.out hcr HZA.out).mono ?_); rintro e w2 ⟨rfl, hb⟩; have HW_2 := Lib.hid (bel_trans HW_1.out hb); have HT_2 := Lib.hid (HT_1.out.bel hb); have HL_2 := Lib.hid (rdlUp HL_1.out hb); have HM_2 := Lib.hid (rdlUp HM_1.out hb); clear hb))
    go_ret
    exact ⟨rfl, HW_2.out⟩
  have HZA := Lib.hid hza
  rcases hzb : (M.all fewT && decide ((M.length : Int) ≤ 15)) with _ | _
  · have HZB := Lib.hid hzb
    clear hza hzb hR hR' ht
    go_enter Tryd.func11, Tryd.ntmps11
    go_wp2_with (first
      | (go_at_call 12; (with_reducible refine (live_any _ HT_0.out).mono ?_); rintro e w1 ⟨rfl, hb⟩; have HW_1 := Lib.hid (bel_trans HW_0.out hb); have HT_1 := Lib.hid (HT_0.out.bel hb); have HL_1 := Lib.hid (rdlUp HL_0.out hb); have HM_1 := Lib.hid (rdlUp HM_0.out hb); clear hb)
      | (go_at_call 27; (with_reducible refine (refFewAll_is L A n c 15 _ HL_1.out hcr HZA.out).mono ?_); rintro e w2 ⟨rfl, hb⟩; have HW_2 := Lib.hid (bel_trans HW_1.out hb); have HT_2 := Lib.hid (HT_1.out.bel hb); have HL_2 := Lib.hid (rdlUp HL_1.out hb); have HM_2 := Lib.hid (rdlUp HM_1.out hb); clear hb)
      | (go_at_call 27; (with_reducible refine (refFewAll_is M A' n' c' 15 _ HM_2.out hcr' HZB.out).mono ?_); rintro e w3 ⟨rfl, hb⟩; have HW_3 := Lib.hid (bel_trans HW_2.out hb); have HT_3 := Lib.hid (HT_2.out.bel hb); have HL_3 := Lib.hid (rdlUp HL_2.out hb); have HM_3 := Lib.hid (rdlUp HM_2.out hb); clear hb))
    go_ret
    exact ⟨rfl, HW_3.out⟩
  have HZB := Lib.hid hzb
  rw [Bool.and_eq_true] at hza hzb
  have hn15 : n ≤ 15 := by have := of_decide_eq_true hza.2; omega
  have hm15 : n' ≤ 15 := by have := of_decide_eq_true hzb.2; omega
  have HD := Lib.hid (rdT_of hR hza.1)
  have HE := Lib.hid (rdT_of hR' hzb.1)
  have HIB := Lib.hid hib
  clear hza hzb hR hR' ht
  obtain ⟨hs, hf1, hf2, hf3⟩ := rdF_of_rdT HD.out
  obtain ⟨ms, hg1, hg2, hg3⟩ := rdF_of_rdT HE.out
  have HF1 := Lib.hid hf1
  have HF3 := Lib.hid hf3
  have HG1 := Lib.hid hg1
  have HG3 := Lib.hid hg3
  have hsl : hs.length = n := hf1.1
  have hml : ms.length = n' := hg1.1
  have HLM := Lib.hid (show (hs ++ ms).map (·.1) = L ++ M by rw [List.map_append, hf2, hg2])
  clear hf1 hf2 hf3 hg1 hg2 hg3
  rcases hof : ofS base L limit with ⟨⟨xb, xs⟩, xe⟩
  have hxl : xs.length ≤ 4096 := of_len hof
  have HOF := Lib.hid hof
  rcases hoa : ofS base (L ++ M) limit with ⟨⟨yb, ys⟩, ye⟩
  have hyl : ys.length ≤ 4096 := of_len hoa
  have HOA := Lib.hid hoa
  clear hof hoa
  go_enter Tryd.func11, Tryd.ntmps11
  go_upto_if 45 with (first
    | (go_at_call 12; (with_reducible refine (live_any _ HT_0.out).mono ?_); rintro e w1 ⟨rfl, hb⟩; have HW_1 := Lib.hid (bel_trans HW_0.out hb); have HT_1 := Lib.hid (HT_0.out.bel hb); have HL_1 := Lib.hid (rdlUp HL_0.out hb); have HM_1 := Lib.hid (rdlUp HM_0.out hb); clear hb)
    | (go_at_call 27; (with_reducible refine (refFewAll_is L A n c 15 _ HL_1.out hcr HZA.out).mono ?_); rintro e w2 ⟨rfl, hb⟩; have HW_2 := Lib.hid (bel_trans HW_1.out hb); have HT_2 := Lib.hid (HT_1.out.bel hb); have HL_2 := Lib.hid (rdlUp HL_1.out hb); have HM_2 := Lib.hid (rdlUp HM_1.out hb); clear hb)
    | (go_at_call 27; (with_reducible refine (refFewAll_is M A' n' c' 15 _ HM_2.out hcr' HZB.out).mono ?_); rintro e w3 ⟨rfl, hb⟩; have HW_3 := Lib.hid (bel_trans HW_2.out hb); have HT_3 := Lib.hid (HT_2.out.bel hb); have HL_3 := Lib.hid (rdlUp HL_2.out hb); have HM_3 := Lib.hid (rdlUp HM_2.out hb); have HD3 := Lib.hid (HD.out.below HW_3.out (Nat.le_refl _) |>.more (HW_3.out).size); clear hb)
    | (go_at_call 28; (with_reducible refine (Of_is HOF.out HD3.out (by omega) HIB.out HT_3.out).mono ?_); rintro e w4 ⟨A4, n4, c4, rfl, ho, hb⟩; have HW_4 := Lib.hid (bel_trans HW_3.out hb); have HT_4 := Lib.hid (HT_3.out.bel hb); have hcap4 := ho.cap; have hl4 := ho.len; have hn4 : n4 ≤ 137438953472 := (by omega); have HXR_4 := Lib.hid (ho.rd); have HXO_4 := Lib.hid (ho); have hne4 : ∀ g, (Value.slice A4 n4 c4).ownBlock = some g → g ≠ w4.heap.size := (fun g hg h9 => absurd (World.ownsRow.lt ho g hg).2 (by omega)); have hba := belA w4 (.cells #[.int .i64 xb, .slice A4 n4 c4] 24); have HW_4a := Lib.hid (bel_trans HW_4.out hba); have HT_4a := Lib.hid (HT_4.out.bel hba); have HXR_4a := Lib.hid (rdUp HXR_4.out hba); have HXO_4a := Lib.hid (HXO_4.out.below hba); have HX_4a := Lib.hid (At0.new w4 [.int .i64 xb, .slice A4 n4 c4] 24); have hx4a_0 : (w4.alloc (.cells #[.int .i64 xb, .slice A4 n4 c4] 24)).cell? ⟨w4.heap.size, 0, none⟩ = some (.int .i64 xb) := HX_4a.out.cell 0; have hx4a_1 : (w4.alloc (.cells #[.int .i64 xb, .slice A4 n4 c4] 24)).cell? ⟨w4.heap.size, 1, none⟩ = some (.slice A4 n4 c4) := HX_4a.out.cell 1; have hw30 : w.heap.size ≤ w3.heap.size := HW_3.out.size; have hw40 : w.heap.size ≤ w4.heap.size := HW_4.out.size; clear hb hba ho)
    | (at_builtin; refine wpList_appFG (w4.alloc (.cells #[.int .i64 xb, .slice A4 n4 c4] 24)) Bat.batS rfl _ _ 28 rfl 96 (w4.heap.size + 1) 39 Tryd.underlying28 batInfo (.slice none 0 0) 0 [] (by rfl) OwnF.nil w.heap.size A n c hs (by rfl) (HF1.out.below HW_4a.out (Nat.le_refl _)) (by omega) (by omega) (by simp) ?_; intro A5 c5 w5 ho hg ht5; have HB45 := Lib.hid (show Below (w4.heap.size + 1) (w4.alloc (.cells #[.int .i64 xb, .slice A4 n4 c4] 24)) w5 from (grownNil hg).mono (by simp)); simp only [Nat.zero_add, List.nil_append] at ho; have HO5 := Lib.hid ho; clear ho hg ht5)
    | (at_builtin; refine wpList_appFG w5 Bat.batS rfl _ _ 28 rfl 96 (w4.heap.size + 1) 39 Tryd.underlying28 batInfo (.slice A5 n c5) n hs (by rfl) HO5.out w.heap.size A' n' c' ms (by rfl) (HG1.out.below (HW_4a.out.trans (HB45.out.mono (by omega))) (Nat.le_refl _)) (by omega) (by omega) (by have h9 := HB45.out.size; simp at h9; omega) ?_; intro A6 c6 w6 ho hg ht6; have hb6 : Below ((w4.alloc (.cells #[.int .i64 xb, .slice A4 n4 c4] 24))).heap.size (w4.alloc (.cells #[.int .i64 xb, .slice A4 n4 c4] 24)) w6 := (show Below (w4.heap.size + 1) _ _ from HB45.out.trans (below_of_grown w5 HO5.out hg (by have h9 := HB45.out.size; simp at h9; omega))).mono (by simp); have HW_6 := Lib.hid (bel_trans HW_4a.out hb6); have HT_6 := Lib.hid (HT_4a.out.bel hb6); have HXR_6 := Lib.hid (rdUp HXR_4a.out hb6); have HXO_6 := Lib.hid (HXO_4a.out.below hb6); have HX_6 := Lib.hid (HX_4a.out.below hb6); have HDA := Lib.hid (show RdT w6 w6.heap.size A6 (n + n') (L ++ M) from by rw [← HLM.out]; exact rdT_of_rdF (ho.rd Bat.batS) (fun x hx => by rcases List.mem_append.1 hx with h | h; exact (let ⟨g1, g2, g3, g4⟩ := HF3.out x h; ⟨g1, g2, (g3.below HW_6.out (Nat.le_refl _)).more HW_6.out.size, g4⟩); exact (let ⟨g1, g2, g3, g4⟩ := HG3.out x h; ⟨g1, g2, (g3.below HW_6.out (Nat.le_refl _)).more HW_6.out.size, g4⟩))); have hw46 : w4.heap.size < w6.heap.size := (by have h9 := hb6.size; simp at h9; omega); clear ho hg ht6 hb6)
    | (go_at_call 28; (with_reducible refine (Of_is HOA.out HDA.out (by omega) HIB.out HT_6.out).mono ?_); rintro e w7 ⟨A7, n7, c7, rfl, ho, hb⟩; have HW_7 := Lib.hid (bel_trans HW_6.out hb); have HT_7 := Lib.hid (HT_6.out.bel hb); have HXR_7 := Lib.hid (rdUp HXR_6.out hb); have HXO_7 := Lib.hid (HXO_6.out.below hb); have HX_7 := Lib.hid (HX_6.out.below hb); have hcap7 := ho.cap; have hl7 := ho.len; have hn7 : n7 ≤ 137438953472 := (by omega); have HYR_7 := Lib.hid (ho.rd); have HYO_7 := Lib.hid (ho); have hne7 : ∀ g, (Value.slice A7 n7 c7).ownBlock = some g → g ≠ w7.heap.size := (fun g hg h9 => absurd (World.ownsRow.lt ho g hg).2 (by omega)); have hba := belA w7 (.cells #[.int .i64 yb, .slice A7 n7 c7] 24); have HW_7a := Lib.hid (bel_trans HW_7.out hba); have HT_7a := Lib.hid (HT_7.out.bel hba); have HXR_7a := Lib.hid (rdUp HXR_7.out hba); have HXO_7a := Lib.hid (HXO_7.out.below hba); have HX_7a := Lib.hid (HX_7.out.below hba); have HYR_7a := Lib.hid (rdUp HYR_7.out hba); have HYO_7a := Lib.hid (HYO_7.out.below hba); have HY_7a := Lib.hid (At0.new w7 [.int .i64 yb, .slice A7 n7 c7] 24); have hx7a_0 : (w7.alloc (.cells #[.int .i64 yb, .slice A7 n7 c7] 24)).cell? ⟨w4.heap.size, 0, none⟩ = some (.int .i64 xb) := HX_7a.out.cell 0; have hx7a_1 : (w7.alloc (.cells #[.int .i64 yb, .slice A7 n7 c7] 24)).cell? ⟨w4.heap.size, 1, none⟩ = some (.slice A4 n4 c4) := HX_7a.out.cell 1; have hy7a_0 : (w7.alloc (.cells #[.int .i64 yb, .slice A7 n7 c7] 24)).cell? ⟨w7.heap.size, 0, none⟩ = some (.int .i64 yb) := HY_7a.out.cell 0; have hy7a_1 : (w7.alloc (.cells #[.int .i64 yb, .slice A7 n7 c7] 24)).cell? ⟨w7.heap.size, 1, none⟩ = some (.slice A7 n7 c7) := HY_7a.out.cell 1; have hw67 : w6.heap.size ≤ w7.heap.size := hb.size; clear hb hba ho))
  by_cases hxe : xe = 0
  case neg =>
    have h := of_parts_bad (m := M) HOF.out hxe
    rw [HOA.out] at h
    obtain rfl : ye = xe := congrArg Prod.snd h
    obtain rfl : ys = [] := congrArg (fun x : Sg × Int => x.1.bytes) h
    obtain rfl : 0 = n7 := hl7
    have hzF : (ye != 0) = true := by simp [hxe]
    clear h
    go_wp2
    go_ret
    exact ⟨rfl, HW_7a.out⟩
  have hzF : (xe != 0) = false := by simp [hxe]
  rw [hzF]
  clear hzF
  subst hxe
  obtain ⟨g1, g2, g3, g4⟩ := of_good HOF.out
  obtain rfl : xb = base := (all_len g4 (by simp)).2
  have HPA := Lib.hid ((of_parts (m := M) HOF.out).symm.trans HOA.out).symm
  have hne4b := hne4
  clear g3 g4
  go_wp2
  go_loopw [57] (fun i wr => paRel 5 xb limit M n' w6.heap.size w w4.heap.size w7.heap.size (⟨yb, ys⟩, ye) A7 n7 c7 i wr) (fun i _ => n' - (intOf i).toNat)
  case atStart => exact ⟨0, ⟨xb, xs⟩, A4, n4, c4, rfl, Nat.zero_le _, rfl, hxl, HPA.out, At2.of HX_7a.out, OwnB.more HXO_7a.out hw30, hne4b, At2.of HY_7a.out, HYO_7a.out, HW_7a.out⟩
  case round =>
    obtain ⟨k, ⟨sb, ss⟩, A1, n1, c1, rfl, hk, hsb, hsl, hall, hbx, hob, hox, hby, hoy, hbl⟩ := hrel
    obtain rfl : sb = xb := hsb
    simp only at hsl hbx hob hby hoy
    have HALL := Lib.hid hall
    have HBX := Lib.hid hbx
    have HOB := Lib.hid hob
    have HOX := Lib.hid hox
    have HBY := Lib.hid hby
    have HOY := Lib.hid hoy
    have HBL := Lib.hid hbl
    have hn1 := hob.len
    have hc1 := hob.cap
    have hX := hbx.1
    have hY := hby.1
    have hwr := hbl.size
    have HTR := Lib.hid (HT_0.out.bel hbl)
    clear hall hbx hob hox hby hoy hbl
    by_cases hlt : k < n'
    · skip
      obtain ⟨b, o, x, A9, n9, c9, rfl, hbl, hxk, hc9, hn9, hrd, hft, hcell⟩ := (HE.out.below HBL.out (Nat.le_refl _)).at (k := k) hlt
      obtain ⟨ba, la, fr, ep, pi, ge, se, tx, ct, rs⟩ := x
      have HFT := Lib.hid hft
      have HRD := Lib.hid hrd
      have a0 : wr.cell? ⟨b, o + k * 10, none⟩ = some (.int .i64 ba) := hcell 0 _ rfl
      have a1 : wr.cell? ⟨b, o + k * 10 + 1, none⟩ = some (.int .i64 la) := hcell 1 _ rfl
      have a2 : wr.cell? ⟨b, o + k * 10 + 2, none⟩ = some (.int .i64 fr) := hcell 2 _ rfl
      have a3 : wr.cell? ⟨b, o + k * 10 + 3, none⟩ = some (.int .i64 ep) := hcell 3 _ rfl
      have a4 : wr.cell? ⟨b, o + k * 10 + 4, none⟩ = some (.int .i64 pi) := hcell 4 _ rfl
      have a5 : wr.cell? ⟨b, o + k * 10 + 5, none⟩ = some (.int .i64 ge) := hcell 5 _ rfl
      have a6 : wr.cell? ⟨b, o + k * 10 + 6, none⟩ = some (.int .i64 se) := hcell 6 _ rfl
      have a7 : wr.cell? ⟨b, o + k * 10 + 7, none⟩ = some (.bool tx) := hcell 7 _ rfl
      have a8 : wr.cell? ⟨b, o + k * 10 + 8, none⟩ = some (.int .i64 ct) := hcell 8 _ rfl
      have a9 : wr.cell? ⟨b, o + k * 10 + 9, none⟩ = some (.slice A9 n9 c9) := hcell 9 _ rfl
      clear hcell hft hrd
      have HB4 := Lib.hid (belA wr (.cells #[.int .i64 ba, .int .i64 la, .int .i64 fr, .int .i64 ep, .int .i64 pi, .int .i64 ge, .int .i64 se, .bool tx, .int .i64 ct, .slice A9 n9 c9] 39))
      have HT4 := Lib.hid (HTR.out.bel HB4.out)
      have HRS := Lib.hid (rdUp HOB.out.rd HB4.out)
      have HRC := Lib.hid ((HRD.out.below HB4.out hwr).more (Nat.le_trans hwr HB4.out.size))
      have HX4 := Lib.hid (HBX.out.below HB4.out)
      have HY4 := Lib.hid (HBY.out.below HB4.out)
      have HBB := Lib.hid (At0.new wr [.int .i64 ba, .int .i64 la, .int .i64 fr, .int .i64 ep, .int .i64 pi, .int .i64 ge, .int .i64 se, .bool tx, .int .i64 ct, .slice A9 n9 c9] 39)
      have x0 : (wr.alloc (.cells #[.int .i64 ba, .int .i64 la, .int .i64 fr, .int .i64 ep, .int .i64 pi, .int .i64 ge, .int .i64 se, .bool tx, .int .i64 ct, .slice A9 n9 c9] 39)).cell? ⟨w4.heap.size, 0, none⟩ = some (.int .i64 sb) := (HX4.out.2 0 _ rfl).1
      have x1 : (wr.alloc (.cells #[.int .i64 ba, .int .i64 la, .int .i64 fr, .int .i64 ep, .int .i64 pi, .int .i64 ge, .int .i64 se, .bool tx, .int .i64 ct, .slice A9 n9 c9] 39)).cell? ⟨w4.heap.size, 1, none⟩ = some (.slice A1 n1 c1) := (HX4.out.2 1 _ rfl).1
      have b0 : (wr.alloc (.cells #[.int .i64 ba, .int .i64 la, .int .i64 fr, .int .i64 ep, .int .i64 pi, .int .i64 ge, .int .i64 se, .bool tx, .int .i64 ct, .slice A9 n9 c9] 39)).cell? ⟨wr.heap.size, 0, none⟩ = some (.int .i64 ba) := HBB.out.cell 0
      have b1 : (wr.alloc (.cells #[.int .i64 ba, .int .i64 la, .int .i64 fr, .int .i64 ep, .int .i64 pi, .int .i64 ge, .int .i64 se, .bool tx, .int .i64 ct, .slice A9 n9 c9] 39)).cell? ⟨wr.heap.size, 1, none⟩ = some (.int .i64 la) := HBB.out.cell 1
      have b2 : (wr.alloc (.cells #[.int .i64 ba, .int .i64 la, .int .i64 fr, .int .i64 ep, .int .i64 pi, .int .i64 ge, .int .i64 se, .bool tx, .int .i64 ct, .slice A9 n9 c9] 39)).cell? ⟨wr.heap.size, 2, none⟩ = some (.int .i64 fr) := HBB.out.cell 2
      have b3 : (wr.alloc (.cells #[.int .i64 ba, .int .i64 la, .int .i64 fr, .int .i64 ep, .int .i64 pi, .int .i64 ge, .int .i64 se, .bool tx, .int .i64 ct, .slice A9 n9 c9] 39)).cell? ⟨wr.heap.size, 3, none⟩ = some (.int .i64 ep) := HBB.out.cell 3
      have b4 : (wr.alloc (.cells #[.int .i64 ba, .int .i64 la, .int .i64 fr, .int .i64 ep, .int .i64 pi, .int .i64 ge, .int .i64 se, .bool tx, .int .i64 ct, .slice A9 n9 c9] 39)).cell? ⟨wr.heap.size, 4, none⟩ = some (.int .i64 pi) := HBB.out.cell 4
      have b5 : (wr.alloc (.cells #[.int .i64 ba, .int .i64 la, .int .i64 fr, .int .i64 ep, .int .i64 pi, .int .i64 ge, .int .i64 se, .bool tx, .int .i64 ct, .slice A9 n9 c9] 39)).cell? ⟨wr.heap.size, 5, none⟩ = some (.int .i64 ge) := HBB.out.cell 5
      have b6 : (wr.alloc (.cells #[.int .i64 ba, .int .i64 la, .int .i64 fr, .int .i64 ep, .int .i64 pi, .int .i64 ge, .int .i64 se, .bool tx, .int .i64 ct, .slice A9 n9 c9] 39)).cell? ⟨wr.heap.size, 6, none⟩ = some (.int .i64 se) := HBB.out.cell 6
      have b7 : (wr.alloc (.cells #[.int .i64 ba, .int .i64 la, .int .i64 fr, .int .i64 ep, .int .i64 pi, .int .i64 ge, .int .i64 se, .bool tx, .int .i64 ct, .slice A9 n9 c9] 39)).cell? ⟨wr.heap.size, 7, none⟩ = some (.bool tx) := HBB.out.cell 7
      have b8 : (wr.alloc (.cells #[.int .i64 ba, .int .i64 la, .int .i64 fr, .int .i64 ep, .int .i64 pi, .int .i64 ge, .int .i64 se, .bool tx, .int .i64 ct, .slice A9 n9 c9] 39)).cell? ⟨wr.heap.size, 8, none⟩ = some (.int .i64 ct) := HBB.out.cell 8
      have b9 : (wr.alloc (.cells #[.int .i64 ba, .int .i64 la, .int .i64 fr, .int .i64 ep, .int .i64 pi, .int .i64 ge, .int .i64 se, .bool tx, .int .i64 ct, .slice A9 n9 c9] 39)).cell? ⟨wr.heap.size, 9, none⟩ = some (.slice A9 n9 c9) := HBB.out.cell 9
      rcases hx : apS ⟨sb, ss⟩ ⟨ba, la, fr, ep, pi, ge, se, tx, ct, rs⟩ limit with ⟨⟨xb, xs⟩, xe⟩
      have HAP := Lib.hid hx
      have HDR := Lib.hid (drop_at hxk)
      clear hbl hxk
      by_cases hxe : xe = 0
      · subst hxe
        have hlx := ap_len hx
        obtain ⟨_, _, _, _, _, hx6, _, _⟩ := apS_good hx
        obtain rfl : sb = xb := (congrArg Sg.base hx6).symm
        have HLX := Lib.hid hlx
        have HAL2 := Lib.hid (show ((⟨yb, ys⟩, ye) : Sg × Int) = allS limit ⟨sb, xs⟩ (M.drop (k + 1)) by rw [HALL.out, HDR.out, allS_cons, HAP.out]; rfl)
        clear hx hx6 hlx
        go_wp2_with (first
          | (go_at_call 25; (with_reducible refine (Append_is HAP.out HRS.out hc1 (by omega) HIB.out HFT.out HRC.out hn9 HT4.out).mono ?_); rintro e w5 ⟨A5, n5, c5, rfl, ho, hb⟩; have hb5 := bel_trans hb (belA w5 (.cells #[.int .i64 sb, .slice A5 n5 c5] 24)); have HB5 := Lib.hid (bel_trans HB4.out hb5); have hs45 : wr.heap.size < w5.heap.size := (by have h9 := hb.size; simp at h9; omega); have HX5 := Lib.hid (HX4.out.below hb5); have HY5 := Lib.hid (HY4.out.below hb5); have HO5 := Lib.hid (World.ownsRow.alloc ho (.cells #[.int .i64 sb, .slice A5 n5 c5] 24)); have HZ5 := Lib.hid (At0.new w5 [.int .i64 sb, .slice A5 n5 c5] 24); have z0 : (w5.alloc (.cells #[.int .i64 sb, .slice A5 n5 c5] 24)).cell? ⟨w5.heap.size, 0, none⟩ = some (.int .i64 sb) := HZ5.out.cell 0; have z1 : (w5.alloc (.cells #[.int .i64 sb, .slice A5 n5 c5] 24)).cell? ⟨w5.heap.size, 1, none⟩ = some (.slice A5 n5 c5) := HZ5.out.cell 1; have y0 : (w5.alloc (.cells #[.int .i64 sb, .slice A5 n5 c5] 24)).cell? ⟨w4.heap.size, 0, none⟩ = some (.int .i64 sb) := (HX5.out.2 0 _ rfl).1; have y1 : (w5.alloc (.cells #[.int .i64 sb, .slice A5 n5 c5] 24)).cell? ⟨w4.heap.size, 1, none⟩ = some (.slice A1 n1 c1) := (HX5.out.2 1 _ rfl).1; have f0 : (w5.alloc (.cells #[.int .i64 sb, .slice A5 n5 c5] 24)).frozen? ⟨w4.heap.size, 0, none⟩ = false := (HX5.out.2 0 _ rfl).2; have f1 : (w5.alloc (.cells #[.int .i64 sb, .slice A5 n5 c5] 24)).frozen? ⟨w4.heap.size, 1, none⟩ = false := (HX5.out.2 1 _ rfl).2; clear ho hb hb5))
        go_roundw
        case rel =>
          refine ⟨k + 1, ⟨sb, xs⟩, A5, n5, c5, by go_num, by omega, rfl, HLX.out, HAL2.out, HX5.out.put2, OwnB.more (ownsRow_setCell_below (ownsRow_setCell_below HO5.out (by simp; omega) _) (by simp; omega) _) (by simp; omega), fun g hg => ?_, (HY5.out.off (p := ⟨w4.heap.size, 0, none⟩) (by simp only; omega) _).off (p := ⟨w4.heap.size, 1, none⟩) (by simp only; omega) _, ownsRow_setCell_below (ownsRow_setCell_below (HOY.out.below HB5.out) hw46 _) hw46 _, ((HBL.out.trans (HB5.out.mono hwr)).setCell (by simp only; omega) _).setCell (by simp only; omega) _⟩
          have h9 := (World.ownsRow.lt HO5.out g hg).1; simp at h9; omega
        case measure => simp [intOf]; omega
      · have hzF : (xe != 0) = true := by simp [hxe]
        have HBAD := Lib.hid (show ((⟨yb, ys⟩, ye) : Sg × Int) = (nilS, xe) by rw [HALL.out, HDR.out, allS_cons, HAP.out]; simp only; rw [if_pos hxe])
        obtain rfl : ye = xe := congrArg Prod.snd HBAD.out
        obtain rfl : ys = [] := congrArg (fun x : Sg × Int => x.1.bytes) HBAD.out
        obtain rfl : yb = 0 := congrArg (fun x : Sg × Int => x.1.base) HBAD.out
        obtain rfl : 0 = n7 := hl7
        clear hx
        go_wp2_with (first
          | (go_at_call 25; (with_reducible refine (Append_is HAP.out HRS.out hc1 (by omega) HIB.out HFT.out HRC.out hn9 HT4.out).mono ?_); rintro e w5 ⟨A5, n5, c5, rfl, ho, hb⟩; have hb5 := bel_trans hb (belA w5 (.cells #[.int .i64 xb, .slice A5 n5 c5] 24)); have HB5 := Lib.hid (bel_trans HB4.out hb5); have HY5 := Lib.hid (HY4.out.below hb5); have y0 : (w5.alloc (.cells #[.int .i64 xb, .slice A5 n5 c5] 24)).cell? ⟨w7.heap.size, 0, none⟩ = some (.int .i64 0) := (HY5.out.2 0 _ rfl).1; have y1 : (w5.alloc (.cells #[.int .i64 xb, .slice A5 n5 c5] 24)).cell? ⟨w7.heap.size, 1, none⟩ = some (.slice A7 0 c7) := (HY5.out.2 1 _ rfl).1; clear ho hb hb5))
        go_ret
        exact ⟨rfl, bel_trans HBL.out HB5.out⟩
    · obtain rfl : k = n' := by omega
      have HEND := Lib.hid (show ((⟨yb, ys⟩, ye) : Sg × Int) = (⟨sb, ss⟩, 0) by rw [HALL.out, List.drop_of_length_le (by omega)]; rfl)
      obtain rfl : ye = 0 := congrArg Prod.snd HEND.out
      obtain rfl : ys = ss := congrArg (fun x : Sg × Int => x.1.bytes) HEND.out
      obtain rfl : yb = sb := congrArg (fun x : Sg × Int => x.1.base) HEND.out
      have x0 : wr.cell? ⟨w4.heap.size, 0, none⟩ = some (.int .i64 yb) := (HBX.out.2 0 _ rfl).1
      have x1 : wr.cell? ⟨w4.heap.size, 1, none⟩ = some (.slice A1 n1 c1) := (HBX.out.2 1 _ rfl).1
      have y0 : wr.cell? ⟨w7.heap.size, 0, none⟩ = some (.int .i64 yb) := (HBY.out.2 0 _ rfl).1
      have y1 : wr.cell? ⟨w7.heap.size, 1, none⟩ = some (.slice A7 n7 c7) := (HBY.out.2 1 _ rfl).1
      go_wp2_with (go_at_call 22; (with_reducible refine (refSameS_is yb A1 n1 c1 yb A7 n7 c7 ys ys _ HOB.out.rd HOY.out.rd (same_self yb ys)).mono ?_); rintro e w9 ⟨rfl, hb9⟩)
      go_ret
      exact ⟨rfl, bel_trans HBL.out hb9⟩
end Go.Proofs.YtgjbfhmfhmihhaaDoor.Seg

namespace Go.Proofs.YtgjbfhmfhmihhaaDoor.segParts
open Go.ChangeShapes Go.WideShapes Go.ChangeAt Go.RowKit

theorem own : ownKnob Tryd.prog.godebug = none := by kernel_rfl
theorem laidOut : laidOutB Tryd.prog = true := by kernel_rfl

set_option maxRecDepth 100000 in
theorem lifted (os : Os) (started : os.Started) (H : Type) (enc : TypeId × Value → H) :
    ReturnsInHanded {} Tryd.checked os 11 .any (fun w args => (Rows.segPartsSpec.pre enc Tryd.prog Tryd.f11 [] false w args ∧ laidMetH Tryd.prog Crc.listed w) ∧ sizedMet enc Tryd.prog Tryd.f11 (OpenSpec.ofChange Rows.segPartsSpec) false w args)
      (Rows.segPartsSpec.post enc Tryd.prog Tryd.f11 false true false false) := by
  refine returnsInHanded_of_change_and (C := Tryd.checked) (X := fun w _ => laidMetH Tryd.prog Crc.listed w) (fun _ _ _ hh h => h.of_heap hh) own started (by kernel_rfl) Tryd.func11
    (ChangeSpec.witness_shaped (enc := enc) (C := Tryd.checked) (os := os) (X := fun w _ => laidMetH Tryd.prog Crc.listed w) false (World.doorLaid Tryd.prog 400 os) #[.int .i64 0, .slice none 0 0, .slice none 0 0, .int .i64 0] 8 rfl (World.shaped_of_RefB (by kernel_rfl) (by kernel_rfl)) (by kernel_rfl) (by kernel_rfl) (by kernel_rfl) (Crc.door_met os _)) ?_
  intro W base args ds gs before hval0 hW _ hwt hL _
  have hval : ∀ (j : Nat) t v, Tryd.f11.params[j]? = some t → args[j]? = some v → Value.okWide Tryd.prog W .any base t v := hval0
  have hW' := hW
  obtain ⟨p, q, hA0, hV, rfl, hfz, hnd⟩ := hW
  have hA : DataW.TrodAll enc Tryd.prog W 0 (fun _ => true) true Tryd.f11.params.toList args.toList ds p := hA0
  rw [Tryd.params11] at hA hval
  obtain ⟨v0, vs0, d0, ds0, p0, q0, hargs, rfl, rfl, h0, r0⟩ := trodAll_cons hA
  obtain ⟨v1, vs1, d1, ds1, p1, q1, rfl, rfl, rfl, h1, r1⟩ := trodAll_cons r0
  obtain ⟨v2, vs2, d2, ds2, p2, q2, rfl, rfl, rfl, h2, r2⟩ := trodAll_cons r1
  obtain ⟨v3, vs3, d3, ds3, p3, q3, rfl, rfl, rfl, h3, r3⟩ := trodAll_cons r2
  obtain ⟨rfl, rfl, rfl⟩ := trodAll_nil r3
  obtain rfl : args = #[v0, v1, v2, v3] := by cases args; simp_all
  obtain ⟨rfl, rfl⟩ := trodVars_none hV
  have k0 := h0
  have lt0 : ∀ x ∈ p0, x.block < W.heap.size := by obtain ⟨m, hm⟩ := k0; exact DataW.trod_lt m _ _ _ hm
  obtain ⟨a0, rfl, hi0⟩ := Oct.open_i64 Tryd.underlying3 (hval 0 3 v0 rfl rfl) h0
  have k1 := h1
  have lt1 : ∀ x ∈ p1, x.block < W.heap.size := by obtain ⟨m, hm⟩ := k1; exact DataW.trod_lt m _ _ _ hm
  obtain ⟨A_1, n_1, c_1, l_1, rfl, hc_1, hk_1, hR_1⟩ := Bat.open_batches (hval 1 28 v1 rfl rfl) h1 (Bat.weights_arg (j := 1) hwt (by kernel_rfl) rfl)
  have k2 := h2
  have lt2 : ∀ x ∈ p2, x.block < W.heap.size := by obtain ⟨m, hm⟩ := k2; exact DataW.trod_lt m _ _ _ hm
  obtain ⟨A_2, n_2, c_2, l_2, rfl, hc_2, hk_2, hR_2⟩ := Bat.open_batches (hval 2 28 v2 rfl rfl) h2 (Bat.weights_arg (j := 2) hwt (by kernel_rfl) rfl)
  have k3 := h3
  have lt3 : ∀ x ∈ p3, x.block < W.heap.size := by obtain ⟨m, hm⟩ := k3; exact DataW.trod_lt m _ _ _ hm
  obtain ⟨a3, rfl, hi3⟩ := Oct.open_i64 Tryd.underlying3 (hval 3 3 v3 rfl rfl) h3
  clear hA0 hval0
  refine (Seg.segParts_walk a0 A_1 n_1 c_1 l_1 A_2 n_2 c_2 l_2 a3 W hi0 hc_1 hk_1 hR_1 hc_2 hk_2 hR_2 hi3 (Crc.tab_of_laid hL)).mono fun e W' ⟨he, bel⟩ => ?_
  subst he
  exact ⟨_, rfl, _, _, _, [], _, [], hW', trodAll_mk1 (shut_bool Tryd.underlying4 _), (trodAll_cons_mk (Below.trod laidOut (by kernel_rfl) (of_decide_eq_true (by kernel_rfl)) k0 bel lt0) (trodAll_cons_mk (Below.trod laidOut (by kernel_rfl) (of_decide_eq_true (by kernel_rfl)) k1 bel lt1) (trodAll_cons_mk (Below.trod laidOut (by kernel_rfl) (of_decide_eq_true (by kernel_rfl)) k2 bel lt2) (trodAll_cons_mk (Below.trod laidOut (by kernel_rfl) (of_decide_eq_true (by kernel_rfl)) k3 bel lt3) trodAll_mk0)))), rfl, bel.frame _, fun h => by cases h⟩

theorem over : Rows.segPartsRow.holds Tryd.pinned (OpenSpec.ofChange Rows.segPartsSpec) :=
  OpenClaim.holds_of_wide 11 Tryd.f11 rfl rfl rfl rfl rfl rfl rfl ⟨rfl, rfl, rfl, rfl, rfl⟩ rfl rfl rfl rfl rfl (by kernel_rfl) Tryd.func11 (by kernel_rfl)
    (of_decide_eq_true (by kernel_rfl)) (by unfold Func.isWrapper; first | (rw [if_pos (by decide +kernel)]; kernel_rfl) | (rw [if_neg (by decide +kernel)]; exact ⟨rfl, rfl⟩))
    (fun os started H enc _ => lifted os started H enc)

theorem proved : Rows.SegPartsCardSaid :=
  Claim7.holds_tied_plain_at .later [] [.data] true (true, "8756dca365c3738ae7f7dad078bfa0200519ee75ee06b885abe2d0f8db900c1d") false
    over (fun _ h => by cases h) (by kernel_rfl) (fun _ h => by cases h) segParts_row_tie rfl ⟨rfl, rfl⟩ (by kernel_rfl) rfl
    (fun f fn hf hfn => by
      obtain rfl : f = 11 := Option.some.inj ((show Tryd.prog.funcNamed "watermeet/watermeetlaw07.SegParts" = some 11 by kernel_rfl).symm.trans hf) |>.symm
      obtain rfl : fn = Tryd.f11 := (Option.some.inj (Tryd.func11.symm.trans hfn)).symm
      exact ⟨by kernel_rfl, fun j t ht => by
        rw [Tryd.params11] at ht
        have hm : t ∈ [3, 28, 28, 3] := by simpa using Array.mem_of_getElem? ht
        have hall : ([3, 28, 28, 3].all fun u => !Tryd.prog.wantsStandIn u) = true := by kernel_rfl
        exact (show Tryd.prog.wantsStandIn t = false by simpa using List.all_eq_true.1 hall t hm)⟩)
    (by kernel_rfl)
#print axioms proved
end Go.Proofs.YtgjbfhmfhmihhaaDoor.segParts
