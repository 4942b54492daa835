/- For any batches (at most 12, each short): those that may be, put one behind the other, are got one by one (the law answers true, and changes nothing that was there). Conditions: none but the table of crc's steps, tied to the program's text.
-/
import Derived.Test.YtodklilnmianeaaDoorJBatQ
import Derived.Test.YtodklilnmianeaaDoorJBatG
import Derived.Test.YtodklilnmianeaaDoorRows
import Derived.WalkKit
import Derived.ProofKit
import Derived.OpenShut
import Derived.ChangeOld
import Derived.Below
import Derived.Carry
import Derived.Test.YtodklilnmianeaaDoorJOct
import Derived.Test.YtodklilnmianeaaDoorJBatA
import Derived.Test.YtodklilnmianeaaDoorJCrc
import Derived.Test.YtodklilnmianeaaDoorTie
import Derived.Test.YtodklilnmianeaaDoorCards
import Derived.SevenTiedAt
/- The walk of BatchRow. -/
namespace Go.Proofs.YtodklilnmianeaaDoor.Bat
open Go.RowKit Go.Proofs.YtodklilnmianeaaDoor.Oct Go.Proofs.YtodklilnmianeaaDoor.Rec Go.Proofs.YtodklilnmianeaaDoor.Crc Go.Proofs.YtodklilnmianeaaDoor.Lay Go.Proofs.YtodklilnmianeaaDoor.RowF

/-- the second loop's bound words -/
def rgRel (ms : List Bt) (m : Nat) (w : World) (p i : Value) (wq : World) : Prop :=
  ∃ j : Nat, p = .int .i64 ((byR (ms.take j)).length : Int) ∧ i = .int .i64 (j : Int) ∧ j ≤ m ∧ Below w.heap.size w wq
set_option maxRecDepth 100000 in
set_option maxHeartbeats 2000000 in
theorem batchRow_walk (A : Option Addr) (n c : Nat) (bs : List Bt) (w : World) (hnc : n ≤ c) (hcap : c ≤ reach) (hR : RdL w w.heap.size A n bs) (ht : Tab w) :
    Calls Tryd.prog 10 #[.slice A n c] w fun e w' => e = .returned (.bool true) ∧ Below w.heap.size w w' := by
  have HR := Lib.hid hR
  have HT1 := Lib.hid ht
  have hnr := Nat.le_trans hnc hcap
  rcases hz : (bs.all fewT && decide ((bs.length : Int) ≤ 12)) with _ | _
  · have HZ := Lib.hid hz
    clear hz hR ht
    go_enter Tryd.func10, Tryd.ntmps10
    go_wp2_with (first
      | (go_at_call 12; (with_reducible refine (live_any _ HT1.out).mono ?_); rintro e w2 ⟨rfl, hb2⟩)
      | (go_at_call 29; (with_reducible refine (refFewAll_is bs A n c 12 _ ((HR.out.below hb2 (Nat.le_refl _)).more hb2.size) hnr HZ.out).mono ?_); rintro e w3 ⟨rfl, hb3⟩))
    go_ret
    exact ⟨rfl, bel_trans hb2 hb3⟩
  have HZ := Lib.hid hz
  rw [Bool.and_eq_true] at hz
  have HF := Lib.hid hz.1
  have hn12 : n ≤ 12 := by have := of_decide_eq_true hz.2; have := hR.len; omega
  clear hz hR ht
  go_enter Tryd.func10, Tryd.ntmps10
  go_wp2_with (first
    | (go_at_call 12; (with_reducible refine (live_any _ HT1.out).mono ?_); rintro e w2 ⟨rfl, hb2⟩)
    | (go_at_call 29; (with_reducible refine (refFewAll_is bs A n c 12 _ ((HR.out.below hb2 (Nat.le_refl _)).more hb2.size) hnr HZ.out).mono ?_); rintro e w3 ⟨rfl, hb3⟩; have HW3 := Lib.hid (bel_trans hb2 hb3); have HT3 := Lib.hid (HT1.out.bel HW3.out); have HR3 := Lib.hid ((HR.out.below HW3.out (Nat.le_refl _)).more HW3.out.size)))
  go_loopw [3, 4, 25] (fun va vw i wr => rwRel 5 24 bs n w3 va vw i wr) (fun _ _ i _ => n - (intOf i).toNat)
  case atStart => exact rwRel_start _ _ _ _ _
  case round =>
    obtain ⟨k, A1, n1, c1, A2, c2, l, rfl, hk, rfl, rfl, hl, hlk, hn1, ho, hf, ha, hx, hb⟩ := hrel
    have HL := Lib.hid hl
    have HO := Lib.hid ho
    have HFR := Lib.hid hf
    have HA := Lib.hid ha
    have HX := Lib.hid hx
    have HBL := Lib.hid hb
    have HBR := Lib.hid (HR3.out.below hb (Nat.le_refl _))
    have HTR := Lib.hid (HT3.out.bel hb)
    clear hl ho hf ha hx hb
    by_cases hlt : k < n
    · obtain ⟨b, o, x, cs, hA, hbl, hxk, his, hcell⟩ := HBR.out.at hlt
      have HK := Lib.hid hxk
      have hfew : fewT x = true := List.all_eq_true.1 HF.out x (List.mem_of_getElem? hxk)
      obtain ⟨ba, la, fr, ep, pi, ge, se, tx, ct, rs⟩ := x
      obtain ⟨A4, n4, c4, rfl, hfit, hn4, hc4, hrl⟩ := his
      have a0 : wr.cell? ⟨b, o + k * 10, none⟩ = some (.int .i64 ba) := hcell 0 _ rfl
      have a1 : wr.cell? ⟨b, o + k * 10 + 1, none⟩ = some (.int .i64 la) := hcell 1 _ rfl
      have a2 : wr.cell? ⟨b, o + k * 10 + 2, none⟩ = some (.int .i64 fr) := hcell 2 _ rfl
      have a3 : wr.cell? ⟨b, o + k * 10 + 3, none⟩ = some (.int .i64 ep) := hcell 3 _ rfl
      have a4 : wr.cell? ⟨b, o + k * 10 + 4, none⟩ = some (.int .i64 pi) := hcell 4 _ rfl
      have a5 : wr.cell? ⟨b, o + k * 10 + 5, none⟩ = some (.int .i64 ge) := hcell 5 _ rfl
      have a6 : wr.cell? ⟨b, o + k * 10 + 6, none⟩ = some (.int .i64 se) := hcell 6 _ rfl
      have a7 : wr.cell? ⟨b, o + k * 10 + 7, none⟩ = some (.bool tx) := hcell 7 _ rfl
      have a8 : wr.cell? ⟨b, o + k * 10 + 8, none⟩ = some (.int .i64 ct) := hcell 8 _ rfl
      have a9 : wr.cell? ⟨b, o + k * 10 + 9, none⟩ = some (.slice A4 n4 c4) := hcell 9 _ rfl
      simp only at hrl
      have HFITS := Lib.hid (fits_of hfit (RdL_fit hrl) hfew)
      have hfw := fewT_iff hfew
      simp only at hfw
      have HB4 := Lib.hid (BR.new (b := ⟨ba, la, fr, ep, pi, ge, se, tx, ct, rs⟩) (c := c4) 24 ((RdL_recs hrl).more HBL.out.size))
      obtain ⟨x0, x1, x2, x3, x4, x5, x6, x7, x8, x9⟩ := HB4.out.box
      have hn40 : n4 ≤ 1099511627776 := by have := hrl.len; omega
      have HT4 := Lib.hid (HTR.out.alloc (.cells #[.int .i64 ba, .int .i64 la, .int .i64 fr, .int .i64 ep, .int .i64 pi, .int .i64 ge, .int .i64 se, .bool tx, .int .i64 ct, .slice A4 n4 c4] 24))
      have HW4 := Lib.hid (bel_alloc (Below.refl wr.heap.size wr) (.cells #[.int .i64 ba, .int .i64 la, .int .i64 fr, .int .i64 ep, .int .i64 pi, .int .i64 ge, .int .i64 se, .bool tx, .int .i64 ct, .slice A4 n4 c4] 24))
      subst hA
      clear hcell hxk
      by_cases hm : chB ⟨ba, la, fr, ep, pi, ge, se, tx, ct, rs⟩ = 0
      · have HP := Lib.hid (show ptB ⟨ba, la, fr, ep, pi, ge, se, tx, ct, rs⟩ = (byB ⟨ba, la, fr, ep, pi, ge, se, tx, ct, rs⟩, 0) by unfold ptB; rw [if_pos hm])
        have HM := Lib.hid hm
        have hby := (chB_form hm).2
        have HOK := Lib.hid (show OKX w3 (⟨ba, la, fr, ep, pi, ge, se, tx, ct, rs⟩, A4, n4, c4) from ⟨hn4, hc4, hrl.keep fun p hp => (HBL.out.cell hp).symm, HFITS.out, hfw.1, hm⟩)
        have hI := u8row
        have HG1 := Lib.hid (fun g h => (World.ownsRow.lt HO.out g h).2)
        obtain ⟨yy, hyy⟩ : ∃ yy, yy = byB ⟨ba, la, fr, ep, pi, ge, se, tx, ct, rs⟩ := ⟨_, rfl⟩
        rw [← hyy] at HP hby
        have hw3 := HBL.out.size
        clear hm hfit hrl hfew
        go_wp2_with (first
          | (go_at_call 18; (with_reducible refine (BPut_is ba la fr ep pi ge se tx ct rs A4 n4 c4 _ HFITS.out HB4.out.rd hn40 HT4.out HP.out).mono ?_); rintro e w5 ⟨A5, n5, c5, rfl, ho5, hb5⟩; have HO5 := Lib.hid ho5; have hn5 : n5 ≤ 2048 := (by have := ho5.len; omega); have H5 := Lib.hid (bel_trans HW4.out hb5); have HB5 := Lib.hid (HB4.out.below hb5); have hw5 := H5.out.size; clear ho5)
          | (at_builtin; refine wpList_appBG w5 rfl _ _ 30 rfl w3.heap.size 5 Tryd.underlying30 hI _ n1 _ rfl (HO.out.below H5.out) _ A5 n5 c5 yy rfl HO5.out.rd (by omega) (by omega) ?_; intro A6 c6 w6 hown6 hgr6 hat6; have HO6 := Lib.hid hown6; have HF6 := Lib.hid (own_far (HFR.out.below H5.out) HA.out hgr6); have HA6 := Lib.hid (apart_after (HFR.out.below H5.out) HA.out hat6); have H6 := Lib.hid ((bel_trans HBL.out H5.out).trans (below_of_grown w5 (HO.out.below H5.out) hgr6 (by omega))); have hne : some wr.heap.size ≠ (Value.slice A1 n1 c1).ownBlock := (fun h => absurd (HG1.out _ h.symm) (Nat.lt_irrefl _)); obtain ⟨q0, q1, q2, q3, q4, q5, q6, q7, q8, q9⟩ := HB5.out.box; have z0 := hgr6.cell q0 hne; have z1 := hgr6.cell q1 hne; have z2 := hgr6.cell q2 hne; have z3 := hgr6.cell q3 hne; have z4 := hgr6.cell q4 hne; have z5 := hgr6.cell q5 hne; have z6 := hgr6.cell q6 hne; have z7 := hgr6.cell q7 hne; have z8 := hgr6.cell q8 hne; have z9 := hgr6.cell q9 hne; have hw6 := H6.out.size; clear hown6 hgr6 hat6 hne)
          | (at_builtin; refine wpList_appFG (w6.alloc (.cells #[.int .i64 ba, .int .i64 la, .int .i64 fr, .int .i64 ep, .int .i64 pi, .int .i64 ge, .int .i64 se, .bool tx, .int .i64 ct, .slice A4 n4 c4] 24)) batS rfl _ _ 47 rfl 96 w3.heap.size 24 Tryd.underlying47 batInfo _ l.length l rfl (OwnF.alloc HF6.out _) _ (some ⟨w6.heap.size, 0, none⟩) 1 1 [(⟨ba, la, fr, ep, pi, ge, se, tx, ct, rs⟩, A4, n4, c4)] rfl (show RdF batC 10 (w6.alloc (.cells #[.int .i64 ba, .int .i64 la, .int .i64 fr, .int .i64 ep, .int .i64 pi, .int .i64 ge, .int .i64 se, .bool tx, .int .i64 ct, .slice A4 n4 c4] 24)) (w6.heap.size + 1) (some ⟨w6.heap.size, 0, none⟩) 1 [(⟨ba, la, fr, ep, pi, ge, se, tx, ct, rs⟩, A4, n4, c4)] from rdF_new w6 batS _ _) (by omega) (by omega) (by simp; omega) ?_; intro A8 c8 w8 hown8 hgr8 hat8; have HF8 := Lib.hid hown8; have HO8 := Lib.hid (own_far (HO6.out.alloc (.cells #[.int .i64 ba, .int .i64 la, .int .i64 fr, .int .i64 ep, .int .i64 pi, .int .i64 ge, .int .i64 se, .bool tx, .int .i64 ct, .slice A4 n4 c4] 24)) HA6.out.symm hgr8); have HA8 := Lib.hid (apart_after (HO6.out.alloc (.cells #[.int .i64 ba, .int .i64 la, .int .i64 fr, .int .i64 ep, .int .i64 pi, .int .i64 ge, .int .i64 se, .bool tx, .int .i64 ct, .slice A4 n4 c4] 24)) HA6.out.symm hat8).symm; have H8 := Lib.hid ((H6.out.alloc hw6 (.cells #[.int .i64 ba, .int .i64 la, .int .i64 fr, .int .i64 ep, .int .i64 pi, .int .i64 ge, .int .i64 se, .bool tx, .int .i64 ct, .slice A4 n4 c4] 24)).trans (below_of_grown (w6.alloc (.cells #[.int .i64 ba, .int .i64 la, .int .i64 fr, .int .i64 ep, .int .i64 pi, .int .i64 ge, .int .i64 se, .bool tx, .int .i64 ct, .slice A4 n4 c4] 24)) (OwnF.alloc HF6.out (.cells #[.int .i64 ba, .int .i64 la, .int .i64 fr, .int .i64 ep, .int .i64 pi, .int .i64 ge, .int .i64 se, .bool tx, .int .i64 ct, .slice A4 n4 c4] 24)) hgr8 (by simp; omega))); clear hown8 hgr8 hat8))
        go_roundw
        case rel => exact rwRel_more HK.out hlt HM.out rfl HOK.out HL.out hlk hn1 hn5 (hyy ▸ HO8.out) HF8.out HA8.out HX.out H8.out (by go_num)
        case measure => simp [intOf]; omega
      · have HP := Lib.hid (show ptB ⟨ba, la, fr, ep, pi, ge, se, tx, ct, rs⟩ = ([], chB ⟨ba, la, fr, ep, pi, ge, se, tx, ct, rs⟩) by unfold ptB; rw [if_neg hm])
        obtain ⟨zz, hzz⟩ : ∃ zz, zz = chB ⟨ba, la, fr, ep, pi, ge, se, tx, ct, rs⟩ := ⟨_, rfl⟩
        rw [← hzz] at HP
        have hzF : (zz == 0) = false := beqF (by rw [hzz]; exact hm)
        have HM := Lib.hid hm
        clear hm hzz hfit hrl hfew
        go_wp2_with (go_at_call 18; (with_reducible refine (BPut_is ba la fr ep pi ge se tx ct rs A4 n4 c4 _ HFITS.out HB4.out.rd hn40 HT4.out HP.out).mono ?_); rintro e w5 ⟨A5, n5, c5, rfl, ho5, hb5⟩)
        go_roundw
        case rel => exact rwRel_skip HK.out hlt HM.out HL.out hlk hn1 HO.out HFR.out HA.out HX.out HBL.out (bel_trans HW4.out hb5) (by go_num)
        case measure => simp [intOf]; omega
    · have hkn : k = n := by omega
      subst hkn
      obtain ⟨wa, hwa⟩ : ∃ wa, wa = wr := ⟨_, rfl⟩
      subst hwa
      have htk : bs.take k = bs := List.take_of_length_le (by have := HBR.out.len; omega)
      rw [htk] at HL HO
      obtain ⟨ms, hms⟩ : ∃ ms, ms = mayR bs := ⟨_, rfl⟩
      have HOKS := Lib.hid (fun b hb => mayR_ok (bs := bs) b hb)
      rw [← hms] at HL HO HOKS
      have hll : ms.length = l.length := by rw [← HL.out, List.length_map]
      have hnl := HO.out.len
      have hcp := HO.out.cap
      clear hms htk
      go_wp2
      go_loopw [9, 46] (fun p i wr => rgRel ms l.length wa p i wr) (fun _ i _ => l.length - (intOf i).toNat)
      case atStart => exact ⟨0, rfl, rfl, Nat.zero_le _, Below.refl _ _⟩
      case round =>
        obtain ⟨j, rfl, rfl, hj, hq⟩ := hrel
        have HQ := Lib.hid hq
        have HTQ := Lib.hid (HTR.out.bel hq)
        clear hq
        by_cases hjl : j < l.length
        · obtain ⟨b, o, x, hA, hbl, hxk, hcell⟩ := ((HFR.out.rd batS).below HQ.out (Nat.le_refl _)).at hjl
          have hmj : ms[j]? = some x.1 := by rw [← HL.out, List.getElem?_map, hxk]; rfl
          obtain ⟨hok1, hok2, hok3, hok4, hok5, hok6⟩ := HX.out x (List.mem_of_getElem? hxk)
          obtain ⟨⟨ba, la, fr, ep, pi, ge, se, tx, ct, rs⟩, A4, n4, c4⟩ := x
          simp only at hok1 hok2 hok3 hok4 hok5 hok6 hmj
          have a0 : wr.cell? ⟨b, o + j * 10, none⟩ = some (.int .i64 ba) := hcell 0 _ rfl
          have a1 : wr.cell? ⟨b, o + j * 10 + 1, none⟩ = some (.int .i64 la) := hcell 1 _ rfl
          have a2 : wr.cell? ⟨b, o + j * 10 + 2, none⟩ = some (.int .i64 fr) := hcell 2 _ rfl
          have a3 : wr.cell? ⟨b, o + j * 10 + 3, none⟩ = some (.int .i64 ep) := hcell 3 _ rfl
          have a4 : wr.cell? ⟨b, o + j * 10 + 4, none⟩ = some (.int .i64 pi) := hcell 4 _ rfl
          have a5 : wr.cell? ⟨b, o + j * 10 + 5, none⟩ = some (.int .i64 ge) := hcell 5 _ rfl
          have a6 : wr.cell? ⟨b, o + j * 10 + 6, none⟩ = some (.int .i64 se) := hcell 6 _ rfl
          have a7 : wr.cell? ⟨b, o + j * 10 + 7, none⟩ = some (.bool tx) := hcell 7 _ rfl
          have a8 : wr.cell? ⟨b, o + j * 10 + 8, none⟩ = some (.int .i64 ct) := hcell 8 _ rfl
          have a9 : wr.cell? ⟨b, o + j * 10 + 9, none⟩ = some (.slice A4 n4 c4) := hcell 9 _ rfl
          obtain ⟨hg, hlt2⟩ := row_at HOKS.out hmj
          obtain ⟨P, hP⟩ : ∃ P, P = (byR (ms.take j)).length := ⟨_, rfl⟩
          obtain ⟨Q, hQ⟩ : ∃ Q, Q = (byR (ms.take (j + 1))).length := ⟨_, rfl⟩
          rw [← hP, ← hQ] at hg hlt2
          rw [← hP]
          have HG := Lib.hid hg
          have HQQ := Lib.hid hQ
          have hPs : (byR (ms.take j)).length ≤ ms.length * 2048 := Nat.le_trans (byR_len fun y hy => HOKS.out y (List.mem_of_mem_take hy)) (Nat.mul_le_mul_right _ (by rw [List.length_take]; omega))
          have hP2 : P ≤ 24576 := by omega
          have hno : ¬ (Q : Int) ≤ (P : Int) := by omega
          have hn40 : n4 ≤ 1099511627776 := by have := hok3.len; omega
          have HB4 := Lib.hid (BR.new (b := ⟨ba, la, fr, ep, pi, ge, se, tx, ct, rs⟩) (c := c4) 24 (((RdL_recs hok3).keep fun p hp => (bel_trans HBL.out HQ.out).cell hp).more (bel_trans HBL.out HQ.out).size))
          obtain ⟨x0, x1, x2, x3, x4, x5, x6, x7, x8, x9⟩ := HB4.out.box
          have HT4 := Lib.hid (HTQ.out.alloc (.cells #[.int .i64 ba, .int .i64 la, .int .i64 fr, .int .i64 ep, .int .i64 pi, .int .i64 ge, .int .i64 se, .bool tx, .int .i64 ct, .slice A4 n4 c4] 24))
          have HW4 := Lib.hid (bel_alloc HQ.out (.cells #[.int .i64 ba, .int .i64 la, .int .i64 fr, .int .i64 ep, .int .i64 pi, .int .i64 ge, .int .i64 se, .bool tx, .int .i64 ct, .slice A4 n4 c4] 24))
          subst hA
          clear hcell hxk hmj hg hok1 hok2 hok3 hok4 hok5 hok6 hPs hP hQ
          go_wp2_with (first
            | (go_at_call 22; (with_reducible refine (BGet_is A1 n1 c1 _ wa.heap.size _ _ ((HO.out.rd).below HW4.out (Nat.le_refl _)) HW4.out.size hcp (by omega) (by unfold I64; omega) HT4.out HG.out).mono ?_); rintro e w5 ⟨A5, n5, c5, rfl, hc5, ho5, hb5⟩; have HB6 := Lib.hid ((HB4.out.below hb5).alloc (.cells #[.int .i64 ba, .int .i64 la, .int .i64 fr, .int .i64 ep, .int .i64 pi, .int .i64 ge, .int .i64 se, .bool tx, .int .i64 ct, .slice A5 n5 c5] 24)); obtain ⟨y0, y1, y2, y3, y4, y5, y6, y7, y8, y9⟩ := HB6.out.box; have HX6 := Lib.hid (BR.new (b := ⟨ba, la, fr, ep, pi, ge, se, tx, ct, rs⟩) (c := c5) 24 ho5.rd); obtain ⟨z0, z1, z2, z3, z4, z5, z6, z7, z8, z9⟩ := HX6.out.box; have HT6 := Lib.hid ((HT4.out.bel hb5).alloc (.cells #[.int .i64 ba, .int .i64 la, .int .i64 fr, .int .i64 ep, .int .i64 pi, .int .i64 ge, .int .i64 se, .bool tx, .int .i64 ct, .slice A5 n5 c5] 24)); have HW6 := Lib.hid (bel_alloc (bel_trans HW4.out hb5) (.cells #[.int .i64 ba, .int .i64 la, .int .i64 fr, .int .i64 ep, .int .i64 pi, .int .i64 ge, .int .i64 se, .bool tx, .int .i64 ct, .slice A5 n5 c5] 24)); have hn5 : n5 ≤ 1099511627776 := (by have h1 := ho5.rd.len; have h2 := HB4.out.rd.len; simp only at h2; omega))
            | (go_at_call 28; (with_reducible refine (BSame_is ba la fr ep pi ge se tx ct rs A5 n5 c5 ba la fr ep pi ge se tx ct rs A4 n4 c4 _ HX6.out.rd HB6.out.rd hn5 hn40 (eqB_self _)).mono ?_); rintro e w7 ⟨rfl, hb7⟩))
          go_roundw
          case rel => exact ⟨j + 1, by rw [← HQQ.out], by go_num, hjl, bel_trans HW6.out hb7⟩
          case measure => simp [intOf]; omega
        · have hjl2 : j = l.length := by omega
          have hmt : ms.take j = ms := List.take_of_length_le (by omega)
          rw [hmt, hnl]
          have HG := Lib.hid (show grB (byR ms) (n1 : Int) = (⟨0, 0, 0, 0, 0, 0, 0, false, 0, []⟩, 0, 10) by have h := row_end ms; rw [hnl] at h; exact h)
          clear hmt
          go_wp2_with (go_at_call 22; (with_reducible refine (BGet_is A1 n1 c1 _ wa.heap.size _ _ ((HO.out.rd).below HQ.out (Nat.le_refl _)) HQ.out.size hcp (by omega) (by unfold I64; omega) HTQ.out HG.out).mono ?_); rintro e w5 ⟨A5, n5, c5, rfl, hc5, ho5, hb5⟩)
          go_ret
          exact ⟨ret_bool (by first | rfl | (simp; done) | (simp; omega)), bel_trans HW3.out (bel_trans HBL.out (bel_alloc (bel_trans HQ.out hb5) (.cells #[.int .i64 0, .int .i64 0, .int .i64 0, .int .i64 0, .int .i64 0, .int .i64 0, .int .i64 0, .bool false, .int .i64 0, .slice A5 n5 c5] 24)))⟩
end Go.Proofs.YtodklilnmianeaaDoor.Bat

namespace Go.Proofs.YtodklilnmianeaaDoor.batchRow
open Go.ChangeShapes Go.WideShapes Go.ChangeAt Go.RowKit

theorem own : ownKnob Tryd.prog.godebug = none := by kernel_rfl
theorem laidOut : laidOutB Tryd.prog = true := by kernel_rfl

set_option maxRecDepth 100000 in
theorem lifted (os : Os) (started : os.Started) (H : Type) (enc : TypeId × Value → H) :
    ReturnsInHanded {} Tryd.checked os 10 .any (fun w args => (Rows.batchRowSpec.pre enc Tryd.prog Tryd.f10 [] false w args ∧ laidMetH Tryd.prog Crc.listed w) ∧ sizedMet enc Tryd.prog Tryd.f10 (OpenSpec.ofChange Rows.batchRowSpec) false w args)
      (Rows.batchRowSpec.post enc Tryd.prog Tryd.f10 false true false false) := by
  refine returnsInHanded_of_change_and (C := Tryd.checked) (X := fun w _ => laidMetH Tryd.prog Crc.listed w) (fun _ _ _ hh h => h.of_heap hh) own started (by kernel_rfl) Tryd.func10
    (ChangeSpec.witness_shaped (enc := enc) (C := Tryd.checked) (os := os) (X := fun w _ => laidMetH Tryd.prog Crc.listed w) false (World.doorLaid Tryd.prog 400 os) #[.slice none 0 0] 8 rfl (World.shaped_of_RefB (by kernel_rfl) (by kernel_rfl)) (by kernel_rfl) (by kernel_rfl) (by kernel_rfl) (Crc.door_met os _)) ?_
  intro W base args ds gs before hval0 hW _ hwt hL _
  have hval : ∀ (j : Nat) t v, Tryd.f10.params[j]? = some t → args[j]? = some v → Value.okWide Tryd.prog W .any base t v := hval0
  have hW' := hW
  obtain ⟨p, q, hA0, hV, rfl, hfz, hnd⟩ := hW
  have hA : DataW.TrodAll enc Tryd.prog W 0 (fun _ => true) true Tryd.f10.params.toList args.toList ds p := hA0
  rw [Tryd.params10] at hA hval
  obtain ⟨v0, vs0, d0, ds0, p0, q0, hargs, rfl, rfl, h0, r0⟩ := trodAll_cons hA
  obtain ⟨rfl, rfl, rfl⟩ := trodAll_nil r0
  obtain rfl : args = #[v0] := by cases args; simp_all
  obtain ⟨rfl, rfl⟩ := trodVars_none hV
  have k0 := h0
  have lt0 : ∀ x ∈ p0, x.block < W.heap.size := by obtain ⟨m, hm⟩ := k0; exact DataW.trod_lt m _ _ _ hm
  obtain ⟨A_0, n_0, c_0, l_0, rfl, hc_0, hk_0, hR_0⟩ := Bat.open_batches (hval 0 47 v0 rfl rfl) h0 (Bat.weights_arg (j := 0) hwt (by kernel_rfl) rfl)
  clear hA0 hval0
  refine (Bat.batchRow_walk A_0 n_0 c_0 l_0 W hc_0 hk_0 hR_0 (Crc.tab_of_laid hL)).mono fun e W' ⟨he, bel⟩ => ?_
  subst he
  exact ⟨_, rfl, _, _, _, [], _, [], hW', trodAll_mk1 (shut_bool Tryd.underlying4 _), (trodAll_cons_mk (Below.trod laidOut (by kernel_rfl) (of_decide_eq_true (by kernel_rfl)) k0 bel lt0) trodAll_mk0), rfl, bel.frame _, fun h => by cases h⟩

theorem over : Rows.batchRowRow.holds Tryd.pinned (OpenSpec.ofChange Rows.batchRowSpec) :=
  OpenClaim.holds_of_wide 10 Tryd.f10 rfl rfl rfl rfl rfl rfl rfl ⟨rfl, rfl, rfl, rfl, rfl⟩ rfl rfl rfl rfl rfl (by kernel_rfl) Tryd.func10 (by kernel_rfl)
    (of_decide_eq_true (by kernel_rfl)) (by unfold Func.isWrapper; first | (rw [if_pos (by decide +kernel)]; kernel_rfl) | (rw [if_neg (by decide +kernel)]; exact ⟨rfl, rfl⟩))
    (fun os started H enc _ => lifted os started H enc)

theorem proved : Rows.BatchRowCardSaid :=
  Claim7.holds_tied_plain_at .later [] [.data] true (true, "b2bb5b872d99db4528b8f9f391f1dc5ae62899eedab3193a28525a8a26d7af1c") false
    over (fun _ h => by cases h) (by kernel_rfl) (fun _ h => by cases h) batchRow_row_tie rfl ⟨rfl, rfl⟩ (by kernel_rfl) rfl
    (fun f fn hf hfn => by
      obtain rfl : f = 10 := Option.some.inj ((show Tryd.prog.funcNamed "watermeet/watermeetlaw04.BatchRow" = some 10 by kernel_rfl).symm.trans hf) |>.symm
      obtain rfl : fn = Tryd.f10 := (Option.some.inj (Tryd.func10.symm.trans hfn)).symm
      exact ⟨by kernel_rfl, fun j t ht => by
        rw [Tryd.params10] at ht
        have hm : t ∈ [47] := by simpa using Array.mem_of_getElem? ht
        have hall : ([47].all fun u => !Tryd.prog.wantsStandIn u) = true := by kernel_rfl
        exact (show Tryd.prog.wantsStandIn t = false by simpa using List.all_eq_true.1 hall t hm)⟩)
    (by kernel_rfl)
#print axioms proved
end Go.Proofs.YtodklilnmianeaaDoor.batchRow
