/- Joined: SqsLv, SqsR7, SqsV1. -/
import Derived.Test.YtllebgadhhgckaaDoorJ47
import Derived.Test.YtllebgadhhgckaaDoorJ33
import Derived.Test.YtllebgadhhgckaaDoorJ32
import Derived.Test.YtllebgadhhgckaaDoorJ29
/- The laws' live of layer 11. -/
namespace Go.Proofs.YtllebgadhhgckaaDoor.Sqs
open Go.RowKit Oct Rec Crc RowF RowK RowO Lay Bat InR
open Epo (At0 AtO belA)

set_option maxRecDepth 100000 in
set_option maxHeartbeats 8000000 in
theorem liveS_any (w : World) (ht : Tab w) : Calls Tryd.prog 12 #[] w fun e w' => e = .returned (.bool true) ∧ Below w.heap.size w w' := by
  have HT := Lib.hid ht
  have HB0 := Lib.hid (Below.refl w.heap.size w)
  clear ht
  go_enter Tryd.func12, Tryd.ntmps12
  go_upto_region 2 with (first
    | (go_at_call 32; (with_reducible refine (sent_is 0 0 7 _ (b1 := 8) (by decide)).mono ?_); rintro e w1 ⟨AR1, rfl, hr, hb⟩; have HRR1 := Lib.hid hr; clear hr; have HB1 := Lib.hid (Epo.bel_trans HB0.out hb); clear hb)
    | (go_at_call 14; have HLK := Lib.hid (dLook_is none 0 0 [] 7 8 7 0 3 0 0 false 0 (sentR 7 8) AR1 2 2 w1 RdK.nil (by decide) s1_fits HRR1.out (by decide) (HT.out.bel HB1.out) look1); (with_reducible refine HLK.out.mono ?_); clear HLK; rintro e w2 ⟨rfl, hb⟩; have HB2 := Lib.hid (Epo.bel_trans HB1.out hb); clear hb))
  go_upto_region 3 with (first
    | (go_at_call 32; (with_reducible refine (sent_is 0 0 7 _ (b1 := 8) (by decide)).mono ?_); rintro e w3 ⟨AR3, rfl, hr, hb⟩; have HRR3 := Lib.hid hr; clear hr; have HB3 := Lib.hid (Epo.bel_trans HB2.out hb); clear hb)
    | (go_at_call 18; have HLK := Lib.hid (dPut_is none 0 0 [] 7 8 7 0 3 0 0 false 0 (sentR 7 8) AR3 2 2 w3 RdK.nil (by decide) s1_fits HRR3.out (by decide) (HT.out.bel HB3.out) put1); (with_reducible refine HLK.out.mono ?_); clear HLK; rintro e w4 ⟨A4, n4, c4, hs4, rfl, ho, hm, hb⟩; have HP_4 := Lib.hid (show RdP w4 w4.heap.size A4 n4 l1 from by have h9 := OwnO.rd ho; rw [hm] at h9; exact h9); have HN4 := Lib.hid (show n4 = 1 from (RdK.len HP_4.out).symm); clear ho hm hs4; have HB4 := Lib.hid (Epo.bel_trans HB3.out hb); clear hb))
  go_upto_region 4 with (first
    | (go_at_call 32; (with_reducible refine (sent_is 0 0 9 _ (b1 := 10) (by decide)).mono ?_); rintro e w5 ⟨AR5, rfl, hr, hb⟩; have HRR5 := Lib.hid hr; clear hr; have HB5 := Lib.hid (Epo.bel_trans HB4.out hb); have HP_5 := Lib.hid (rdkUp HP_4.out hb); clear hb)
    | (go_at_call 14; have HLK := Lib.hid (dLook_is A4 n4 c4 l1 9 10 9 0 3 0 0 false 0 (sentR 9 10) AR5 2 2 w5 HP_5.out (by rw [HN4.out]; decide) s2_fits HRR5.out (by decide) (HT.out.bel HB5.out) look2); (with_reducible refine HLK.out.mono ?_); clear HLK; rintro e w6 ⟨rfl, hb⟩; have HB6 := Lib.hid (Epo.bel_trans HB5.out hb); have HP_6 := Lib.hid (rdkUp HP_5.out hb); clear hb))
  go_upto_region 5 with (first
    | (go_at_call 32; (with_reducible refine (sent_is 0 2 9 _ (b1 := 10) (by decide)).mono ?_); rintro e w7 ⟨AR7, rfl, hr, hb⟩; have HRR7 := Lib.hid hr; clear hr; have HB7 := Lib.hid (Epo.bel_trans HB6.out hb); have HP_7 := Lib.hid (rdkUp HP_6.out hb); clear hb)
    | (go_at_call 14; have HLK := Lib.hid (dLook_is A4 n4 c4 l1 9 10 9 0 3 0 2 false 0 (sentR 9 10) AR7 2 2 w7 HP_7.out (by rw [HN4.out]; decide) s3_fits HRR7.out (by decide) (HT.out.bel HB7.out) look3); (with_reducible refine HLK.out.mono ?_); clear HLK; rintro e w8 ⟨rfl, hb⟩; have HB8 := Lib.hid (Epo.bel_trans HB7.out hb); have HP_8 := Lib.hid (rdkUp HP_7.out hb); clear hb))
  go_upto_region 6 with (first
    | (go_at_call 32; (with_reducible refine (sent_is 0 3 9 _ (b1 := 10) (by decide)).mono ?_); rintro e w9 ⟨AR9, rfl, hr, hb⟩; have HRR9 := Lib.hid hr; clear hr; have HB9 := Lib.hid (Epo.bel_trans HB8.out hb); have HP_9 := Lib.hid (rdkUp HP_8.out hb); clear hb)
    | (go_at_call 14; have HLK := Lib.hid (dLook_is A4 n4 c4 l1 9 10 9 0 3 0 3 false 0 (sentR 9 10) AR9 2 2 w9 HP_9.out (by rw [HN4.out]; decide) s4_fits HRR9.out (by decide) (HT.out.bel HB9.out) look4); (with_reducible refine HLK.out.mono ?_); clear HLK; rintro e w10 ⟨rfl, hb⟩; have HB10 := Lib.hid (Epo.bel_trans HB9.out hb); have HP_10 := Lib.hid (rdkUp HP_9.out hb); clear hb))
  go_upto_region 7 with (first
    | (go_at_call 32; (with_reducible refine (sent_is 1 0 9 _ (b1 := 10) (by decide)).mono ?_); rintro e w11 ⟨AR11, rfl, hr, hb⟩; have HRR11 := Lib.hid hr; clear hr; have HB11 := Lib.hid (Epo.bel_trans HB10.out hb); have HP_11 := Lib.hid (rdkUp HP_10.out hb); clear hb)
    | (go_at_call 18; have HLK := Lib.hid (dPut_is A4 n4 c4 l1 9 10 9 0 3 1 0 false 0 (sentR 9 10) AR11 2 2 w11 HP_11.out (by rw [HN4.out]; decide) s5_fits HRR11.out (by decide) (HT.out.bel HB11.out) put2); (with_reducible refine HLK.out.mono ?_); clear HLK; rintro e w12 ⟨A12, n12, c12, hs12, rfl, ho, hm, hb⟩; have HM_12 := Lib.hid (show RdP w12 w12.heap.size A12 n12 l2 from by have h9 := OwnO.rd ho; rw [hm] at h9; exact h9); have HN12 := Lib.hid (show n12 = 1 from (RdK.len HM_12.out).symm); clear ho hm hs12; have HB12 := Lib.hid (Epo.bel_trans HB11.out hb); have HP_12 := Lib.hid (rdkUp HP_11.out hb); clear hb))
  go_upto_region 8 with (first
    | (go_at_call 32; (with_reducible refine (sent_is 0 2 9 _ (b1 := 10) (by decide)).mono ?_); rintro e w13 ⟨AR13, rfl, hr, hb⟩; have HRR13 := Lib.hid hr; clear hr; have HB13 := Lib.hid (Epo.bel_trans HB12.out hb); have HP_13 := Lib.hid (rdkUp HP_12.out hb); have HM_13 := Lib.hid (rdkUp HM_12.out hb); clear hb)
    | (go_at_call 14; have HLK := Lib.hid (dLook_is A12 n12 c12 l2 9 10 9 0 3 0 2 false 0 (sentR 9 10) AR13 2 2 w13 HM_13.out (by rw [HN12.out]; decide) s3_fits HRR13.out (by decide) (HT.out.bel HB13.out) look5); (with_reducible refine HLK.out.mono ?_); clear HLK; rintro e w14 ⟨rfl, hb⟩; have HB14 := Lib.hid (Epo.bel_trans HB13.out hb); have HP_14 := Lib.hid (rdkUp HP_13.out hb); have HM_14 := Lib.hid (rdkUp HM_13.out hb); clear hb))
  go_upto_region 9 with fail
  have HB15 := Lib.hid (want_bel HB14.out (.cells #[.int .i64 0, .int .i64 1, .int .i64 7] 58) (.cells #[.int .i64 3, .int .i64 0, .slice (some ⟨w14.heap.size, 0, none⟩) 1 1] 55))
  have HP_15 := Lib.hid (rdkUp (rdkUp HP_14.out (belA _ (.cells #[.int .i64 0, .int .i64 1, .int .i64 7] 58))) (belA _ (.cells #[.int .i64 3, .int .i64 0, .slice (some ⟨w14.heap.size, 0, none⟩) 1 1] 55)))
  have HW_15 := Lib.hid (want_rd w14)
  generalize ((w14.alloc (.cells #[.int .i64 0, .int .i64 1, .int .i64 7] 58)).alloc (.cells #[.int .i64 3, .int .i64 0, .slice (some ⟨w14.heap.size, 0, none⟩) 1 1] 55)) = w15 at *
  obtain ⟨gW, hgW⟩ : ∃ gW, w14.heap.size + 1 = gW := ⟨_, rfl⟩
  rw [hgW] at HW_15
  simp only [hgW]
  clear hgW
  go_upto_region 10 with (first
    | (go_at_call 20; have HLK := Lib.hid (rSameP_yes A4 (some ⟨gW, 0, none⟩) n4 c4 1 1 l1 w15 HP_15.out HW_15.out (by rw [HN4.out]; decide)); (with_reducible refine HLK.out.mono ?_); clear HLK; rintro e w16 ⟨rfl, hb⟩; have HB16 := Lib.hid (Epo.bel_trans HB15.out hb); have HP_16 := Lib.hid (rdkUp HP_15.out hb); have HW_16 := Lib.hid (rdkUp HW_15.out hb); clear hb))
  go_upto_region 11 with (first
    | (go_at_call 25; have HLK := Lib.hid (dSave_is A4 n4 c4 l1 w16 HP_16.out (by rw [HN4.out]; decide) (HT.out.bel HB16.out) save1); (with_reducible refine HLK.out.mono ?_); clear HLK; rintro e w17 ⟨AX, nX, cX, rfl, ho, hb⟩; have HX_17 := Lib.hid ho; have HNX := Lib.hid (show nX ≤ 1000 from by have h9 := ho.len; rw [← h9]; exact save1_len); clear ho; have HB17 := Lib.hid (Epo.bel_trans HB16.out hb); have HP_17 := Lib.hid (rdkUp HP_16.out hb); have HW_17 := Lib.hid (rdkUp HW_16.out hb); clear hb))
  go_upto_region 12 with (first
    | (go_at_call 27; have HLK := Lib.hid (load_ok AX nX cX l1 _ w17.heap.size w17 HX_17.out.rd (Nat.le_refl _) HX_17.out.cap (by have := HNX.out; omega) (HT.out.bel HB17.out) ck_l1 rfl); (with_reducible refine HLK.out.mono ?_); clear HLK; rintro e w18 ⟨AL, nL, cL, hsL, rfl, ho, hm, hb⟩; have HL_18 := Lib.hid (show RdP w18 w18.heap.size AL nL l1 from by have h9 := OwnO.rd ho; rw [hm] at h9; exact h9); have HNL := Lib.hid (show nL = 1 from (RdK.len HL_18.out).symm); clear ho hm hsL; have HB18 := Lib.hid (Epo.bel_trans HB17.out hb); have HP_18 := Lib.hid (rdkUp HP_17.out hb); have HW_18 := Lib.hid (rdkUp HW_17.out hb); clear hb))
  go_upto_region 13 with (first
    | (go_at_call 20; have HLK := Lib.hid (rSameP_yes AL (some ⟨gW, 0, none⟩) nL cL 1 1 l1 w18 HL_18.out HW_18.out (by rw [HNL.out]; decide)); (with_reducible refine HLK.out.mono ?_); clear HLK; rintro e w19 ⟨rfl, hb⟩; have HB19 := Lib.hid (Epo.bel_trans HB18.out hb); have HP_19 := Lib.hid (rdkUp HP_18.out hb); have HW_19 := Lib.hid (rdkUp HW_18.out hb); have HL_19 := Lib.hid (rdkUp HL_18.out hb); clear hb))
  go_wp2_with (first
    | (go_at_call 16; have HLK := Lib.hid (dCheckP_is (some ⟨gW, 0, none⟩) 1 1 l1 w19 HW_19.out (by decide) ck_l1); (with_reducible refine HLK.out.mono ?_); clear HLK; rintro e w20 ⟨rfl, hb⟩; have HB20 := Lib.hid (Epo.bel_trans HB19.out hb); have HP_20 := Lib.hid (rdkUp HP_19.out hb); have HW_20 := Lib.hid (rdkUp HW_19.out hb); have HL_20 := Lib.hid (rdkUp HL_19.out hb); clear hb)
    | (go_at_call 32; (with_reducible refine (sent_is 0 0 7 _ (b1 := 8) (by decide)).mono ?_); rintro e w21 ⟨AR21, rfl, hr, hb⟩; have HRR21 := Lib.hid hr; clear hr; have HB21 := Lib.hid (Epo.bel_trans HB20.out hb); have HP_21 := Lib.hid (rdkUp HP_20.out hb); have HW_21 := Lib.hid (rdkUp HW_20.out hb); have HL_21 := Lib.hid (rdkUp HL_20.out hb); clear hb)
    | (go_at_call 22; have HLK := Lib.hid (dOf_is _ 1 1 [sB 0 0 7 8] _ (sent_rd w21 AR21 HRR21.out) (by decide) (by intro b hb; obtain rfl := List.mem_singleton.1 hb; exact s1_fits) (by intro b hb; obtain rfl := List.mem_singleton.1 hb; decide) (HT.out.bel (Epo.bel_trans HB21.out (belA w21 _))) of1); (with_reducible refine HLK.out.mono ?_); clear HLK; rintro e wz ⟨AZ, nZ, cZ, hsZ, rfl, ho, hm, hb⟩; have HNZ := Lib.hid (show nZ = 1 from by have h9 := ho.len; have h8 := congrArg List.length hm; rw [List.length_map] at h8; rw [← h9, h8]; rfl); have HBZ := Lib.hid (Epo.bel_trans (Epo.bel_trans HB21.out (belA w21 _)) hb); clear ho hm hb; obtain rfl := HNZ.out))
  go_ret
  exact ⟨rfl, HBZ.out⟩
end Go.Proofs.YtllebgadhhgckaaDoor.Sqs

/- The document's Few of producers, and full. -/
namespace Go.Proofs.YtllebgadhhgckaaDoor.Sqs
open Go.RowKit Oct Rec RowF RowK Lay Bat InR
open Epo (At0 AtO belA)

def smallP (p : Pd) : Bool := decide (p.did.length ≤ 20)
def fewP (l : List Pd) : Bool := decide (¬ (100 < l.length ∧ l.length ≤ 1024)) && (l.take 100).all smallP
def fewRelP (l : List Pd) (n : Nat) (w : World) (iv : Value) (wr : World) : Prop := ∃ k : Nat, iv = .int .i64 (k : Int) ∧ k ≤ n ∧ k ≤ 100 ∧ (l.take k).all smallP = true ∧ w = wr
theorem all_more {l : List Pd} {k : Nat} {x : Pd} (hx : l[k]? = some x) : (l.take (k + 1)).all smallP = ((l.take k).all smallP && smallP x) := by
  rw [List.take_add_one, hx, List.all_append]; simp
theorem all_bad {l : List Pd} {k m : Nat} {x : Pd} (hx : l[k]? = some x) (hm : k < m) (h : smallP x = false) : (l.take m).all smallP = false := by
  rw [List.all_eq_false]
  exact ⟨x, List.mem_of_getElem? (by rw [List.getElem?_take, if_pos hm]; exact hx : (l.take m)[k]? = some x), by rw [h]; exact Bool.false_ne_true⟩
set_option maxRecDepth 100000 in
set_option maxHeartbeats 8000000 in
theorem rFewP_a (A : Option Addr) (n c : Nat) (l : List Pd) (w : World) (hr : RdP w w.heap.size A n l) (hn : n ≤ reach) (h1 : ¬ (100 : Int) < (n : Int)) {z : Bool} (hz : (l.take 100).all smallP = z) :
    Calls Tryd.prog 24 #[.slice A n c] w fun e w' => e = .returned (.bool z) ∧ w = w' := by
  have hn9 : n ≤ 140737488351232 := hn
  have HZ := Lib.hid hz
  have HR := Lib.hid hr
  have HLEN := Lib.hid hr.len
  clear hr hz
  go_enter Tryd.func24, Tryd.ntmps24
  go_wp2
  clear h1
  go_loopw [3] (fun iv wr => fewRelP l n w iv wr) (fun iv _ => n - (intOf iv).toNat)
  case atStart => exact ⟨0, rfl, Nat.zero_le _, Nat.zero_le _, rfl, rfl⟩
  case round =>
    obtain ⟨k, rfl, hk, hk1, ha, rfl⟩ := hrel
    have HA := Lib.hid ha
    clear ha
    by_cases hlt : k < n ∧ k < 100
    · obtain ⟨b, o, ⟨x0, x1, xd⟩, A', n', c', rfl, hbl, hxk, _, hn', hrd, _, _, d2⟩ := pr_at HR.out hlt.1
      have hdl : xd.length = n' := hrd.len
      have HX := Lib.hid hxk
      have hw1 : IntKind.i64.wrap ((k : Int) + 1) = (k : Int) + 1 := IntWalk.i64_in _ (by omega)
      have hkl : (k : Int) < (n : Int) := by omega
      have hkh : (k : Int) < 100 := by omega
      have hk0 : (0 : Int) ≤ (k : Int) := by omega
      clear hxk hrd
      by_cases h20 : n' ≤ 20
      · have h21 : ¬ (20 : Int) < (n' : Int) := by omega
        have HS := Lib.hid (show (l.take (k + 1)).all smallP = true by rw [all_more HX.out, HA.out]; exact decide_eq_true (by simp only; omega))
        clear hdl h20
        go_wp2
        go_roundw
        case rel => exact ⟨k + 1, by go_num, by omega, by omega, HS.out, rfl⟩
        case measure => simp [intOf]; omega
      · have h21 : (20 : Int) < (n' : Int) := by omega
        have HF := Lib.hid (show false = z by rw [← HZ.out]; exact (all_bad HX.out (by omega) (decide_eq_false (by simp only; omega))).symm)
        clear hdl h20
        go_wp2
        go_ret
        exact ⟨by rw [HF.out]; rfl, rfl⟩
    · have HF := Lib.hid (show true = z by
        rw [← HZ.out, ← HA.out]
        by_cases h : k < 100
        · have h9 := HLEN.out
          rw [List.take_of_length_le (by omega), List.take_of_length_le (by omega)]
        · obtain rfl : k = 100 := by omega
          rfl)
      by_cases hkn : k < n
      · have hkl : (k : Int) < (n : Int) := by omega
        have hkh : ¬ (k : Int) < 100 := by omega
        clear hlt
        go_wp2
        go_ret
        exact ⟨by rw [HF.out]; rfl, rfl⟩
      · have hkl : ¬ (k : Int) < (n : Int) := by omega
        clear hlt
        go_wp2
        go_ret
        exact ⟨by rw [HF.out]; rfl, rfl⟩
set_option maxRecDepth 100000 in
set_option maxHeartbeats 8000000 in
theorem rFewP_b (A : Option Addr) (n c : Nat) (l : List Pd) (w : World) (hr : RdP w w.heap.size A n l) (hn : n ≤ reach) (h1 : (100 : Int) < (n : Int)) (h2 : ¬ (n : Int) ≤ 1024) {z : Bool} (hz : (l.take 100).all smallP = z) :
    Calls Tryd.prog 24 #[.slice A n c] w fun e w' => e = .returned (.bool z) ∧ w = w' := by
  have hn9 : n ≤ 140737488351232 := hn
  have HZ := Lib.hid hz
  have HR := Lib.hid hr
  have HLEN := Lib.hid hr.len
  clear hr hz
  go_enter Tryd.func24, Tryd.ntmps24
  go_wp2
  clear h1 h2
  go_loopw [3] (fun iv wr => fewRelP l n w iv wr) (fun iv _ => n - (intOf iv).toNat)
  case atStart => exact ⟨0, rfl, Nat.zero_le _, Nat.zero_le _, rfl, rfl⟩
  case round =>
    obtain ⟨k, rfl, hk, hk1, ha, rfl⟩ := hrel
    have HA := Lib.hid ha
    clear ha
    by_cases hlt : k < n ∧ k < 100
    · obtain ⟨b, o, ⟨x0, x1, xd⟩, A', n', c', rfl, hbl, hxk, _, hn', hrd, _, _, d2⟩ := pr_at HR.out hlt.1
      have hdl : xd.length = n' := hrd.len
      have HX := Lib.hid hxk
      have hw1 : IntKind.i64.wrap ((k : Int) + 1) = (k : Int) + 1 := IntWalk.i64_in _ (by omega)
      have hkl : (k : Int) < (n : Int) := by omega
      have hkh : (k : Int) < 100 := by omega
      have hk0 : (0 : Int) ≤ (k : Int) := by omega
      clear hxk hrd
      by_cases h20 : n' ≤ 20
      · have h21 : ¬ (20 : Int) < (n' : Int) := by omega
        have HS := Lib.hid (show (l.take (k + 1)).all smallP = true by rw [all_more HX.out, HA.out]; exact decide_eq_true (by simp only; omega))
        clear hdl h20
        go_wp2
        go_roundw
        case rel => exact ⟨k + 1, by go_num, by omega, by omega, HS.out, rfl⟩
        case measure => simp [intOf]; omega
      · have h21 : (20 : Int) < (n' : Int) := by omega
        have HF := Lib.hid (show false = z by rw [← HZ.out]; exact (all_bad HX.out (by omega) (decide_eq_false (by simp only; omega))).symm)
        clear hdl h20
        go_wp2
        go_ret
        exact ⟨by rw [HF.out]; rfl, rfl⟩
    · have HF := Lib.hid (show true = z by
        rw [← HZ.out, ← HA.out]
        by_cases h : k < 100
        · have h9 := HLEN.out
          rw [List.take_of_length_le (by omega), List.take_of_length_le (by omega)]
        · obtain rfl : k = 100 := by omega
          rfl)
      by_cases hkn : k < n
      · have hkl : (k : Int) < (n : Int) := by omega
        have hkh : ¬ (k : Int) < 100 := by omega
        clear hlt
        go_wp2
        go_ret
        exact ⟨by rw [HF.out]; rfl, rfl⟩
      · have hkl : ¬ (k : Int) < (n : Int) := by omega
        clear hlt
        go_wp2
        go_ret
        exact ⟨by rw [HF.out]; rfl, rfl⟩
set_option maxRecDepth 100000 in
set_option maxHeartbeats 8000000 in
theorem rFewP_is (A : Option Addr) (n c : Nat) (l : List Pd) (w : World) (hr : RdP w w.heap.size A n l) (hn : n ≤ reach) {z : Bool} (hz : fewP l = z) :
    Calls Tryd.prog 24 #[.slice A n c] w fun e w' => e = .returned (.bool z) ∧ w = w' := by
  have hlen := hr.len
  have hn9 : n ≤ 140737488351232 := hn
  by_cases hb : 100 < n ∧ n ≤ 1024
  · have h1 : (100 : Int) < (n : Int) := by omega
    have h2 : (n : Int) ≤ 1024 := by omega
    obtain rfl : false = z := by rw [← hz]; unfold fewP; rw [hlen, decide_eq_false (fun h => h hb)]; rfl
    clear hr hz hb hlen
    go_enter Tryd.func24, Tryd.ntmps24
    go_wp2
    go_ret
    exact ⟨rfl, rfl⟩
  have HZ := Lib.hid (show (l.take 100).all smallP = z by rw [← hz]; unfold fewP; rw [hlen, decide_eq_true hb, Bool.true_and])
  by_cases h : (100 : Int) < (n : Int)
  · exact rFewP_b A n c l w hr hn h (by omega) HZ.out
  · exact rFewP_a A n c l w hr hn h HZ.out
end Go.Proofs.YtllebgadhhgckaaDoor.Sqs

/- The laws' few of layer 11. -/
namespace Go.Proofs.YtllebgadhhgckaaDoor.Sqs
open Go.RowKit Oct Rec RowF RowK Lay Bat InR
open Epo (At0 AtO belA)

set_option maxRecDepth 100000 in
set_option maxHeartbeats 8000000 in
theorem few11_is (A : Option Addr) (n c : Nat) (l : List Pd) (ba la fr ep pi ge se : Int) (tx : Bool) (ct : Int) (rs : List Rc) (AR : Option Addr) (nR cR : Nat) (w : World) (hr : RdP w w.heap.size A n l) (hn : n ≤ reach) (hrr : RdR w w.heap.size AR nR rs) (hf : ∀ r ∈ rs, Fit r) (hnR : nR ≤ reach) {z1 z2 : Bool} (h1 : fewP l = z1) (h2 : fewT ⟨ba, la, fr, ep, pi, ge, se, tx, ct, rs⟩ = z2) :
    Calls Tryd.prog 13 #[.slice A n c, .agg #[.int .i64 ba, .int .i64 la, .int .i64 fr, .int .i64 ep, .int .i64 pi, .int .i64 ge, .int .i64 se, .bool tx, .int .i64 ct, .slice AR nR cR]] w fun e w' => e = .returned (.bool (z1 && z2)) ∧ Below w.heap.size w w' := by
  have hba := bel_drew (belA w (.cells #[.int .i64 ba, .int .i64 la, .int .i64 fr, .int .i64 ep, .int .i64 pi, .int .i64 ge, .int .i64 se, .bool tx, .int .i64 ct, .slice AR nR cR] 25))
  have HB1 := Lib.hid hba
  have HR1 := Lib.hid (rdkUp hr hba)
  have HRR1 := Lib.hid (rdrUp9 hrr hba)
  have hat := At0.new w [.int .i64 ba, .int .i64 la, .int .i64 fr, .int .i64 ep, .int .i64 pi, .int .i64 ge, .int .i64 se, .bool tx, .int .i64 ct, .slice AR nR cR] 25
  have HF := Lib.hid hf
  have H1 := Lib.hid h1
  have H2 := Lib.hid h2
  obtain ⟨q0, q1, q2, q3, q4, q5, q6, q7, q8, q9⟩ := cel10 hat
  clear hba hr hrr hat hf h1 h2
  go_enter Tryd.func13, Tryd.ntmps13
  go_upto_region 1 with fail
  generalize (w.alloc (.cells #[.int .i64 ba, .int .i64 la, .int .i64 fr, .int .i64 ep, .int .i64 pi, .int .i64 ge, .int .i64 se, .bool tx, .int .i64 ct, .slice AR nR cR] 25)) = W at *
  go_region_with (first
    | (go_at_call 24; (with_reducible refine (rFewP_is A n c l W.drew HR1.out hn H1.out).mono ?_); rintro e w9 ⟨rfl, rfl⟩)
    | (go_at_call 33; (with_reducible refine (refFew_is ba la fr ep pi ge se tx ct rs AR nR cR W.drew HRR1.out HF.out hnR H2.out).mono ?_); rintro e w3 ⟨rfl, hb⟩; have HB3 := Lib.hid (Epo.bel_trans HB1.out hb); clear hb))
  all_goals cases z1
  all_goals go_wp2
  all_goals go_ret
  all_goals exact ⟨rfl, HB3.out⟩
end Go.Proofs.YtllebgadhhgckaaDoor.Sqs
