/- What is found is what all batches, gone through in order, tell; no condition.
-/
import Derived.Test.YtbnkfljkojhkoaaDoorIdxW
import Derived.Test.YtbnkfljkojhkoaaDoorIdxV
import Derived.Test.YtbnkfljkojhkoaaDoorJIdxM
import Derived.Test.YtbnkfljkojhkoaaDoorJSegW
import Derived.Test.YtbnkfljkojhkoaaDoorIdxP
import Derived.Test.YtbnkfljkojhkoaaDoorJBatK
import Derived.Test.YtbnkfljkojhkoaaDoorRows
import Derived.WalkKit
import Derived.ProofKit
import Derived.OpenShut
import Derived.ChangeOld
import Derived.Below
import Derived.Carry
import Derived.Test.YtbnkfljkojhkoaaDoorJOct
import Derived.Test.YtbnkfljkojhkoaaDoorSegArg
import Derived.Test.YtbnkfljkojhkoaaDoorJCrc
import Derived.Test.YtbnkfljkojhkoaaDoorTie
import Derived.Test.YtbnkfljkojhkoaaDoorCards
import Derived.SevenTiedAt
/- The walk of IndexWhole. -/
namespace Go.Proofs.YtbnkfljkojhkoaaDoor.Idx
open Go.RowKit Go.Proofs.YtbnkfljkojhkoaaDoor.Seg Go.Proofs.YtbnkfljkojhkoaaDoor.RowF Go.Proofs.YtbnkfljkojhkoaaDoor.Oct Go.Proofs.YtbnkfljkojhkoaaDoor.Rec Go.Proofs.YtbnkfljkojhkoaaDoor.Crc Go.Proofs.YtbnkfljkojhkoaaDoor.Bat Go.Proofs.YtbnkfljkojhkoaaDoor.Lay

def toldS (rs : List Rc) (st : Int) (vt va : Value) : Prop := (vt = .bool false ∧ va = .int .i64 0 ∧ rs.find? (fun r => decide (st ≤ r.stamp)) = none) ∨ ∃ r0, vt = .bool true ∧ va = .int .i64 r0.off ∧ rs.find? (fun r => decide (st ≤ r.stamp)) = some r0
def foundS (L : List Bt) (off : Int) (N : Nat) (vf : Value) (wr : World) : Prop := (vf = .bool false ∧ L.find? (fun b => decide (off ≤ b.last)) = none ∧ At0 wr N [.int .i64 0, .int .i64 0, .int .i64 0, .int .i64 0, .int .i64 0, .int .i64 0, .int .i64 0, .bool false, .int .i64 0, .slice none 0 0] 38) ∨
  ∃ b0 A0 n0 c0, vf = .bool true ∧ L.find? (fun b => decide (off ≤ b.last)) = some b0 ∧ At0 wr N [.int .i64 b0.base, .int .i64 b0.last, .int .i64 b0.frm, .int .i64 b0.epoch, .int .i64 b0.pid, .int .i64 b0.gen, .int .i64 b0.seq, .bool b0.txn, .int .i64 b0.ctl, .slice A0 n0 c0] 38 ∧ n0 ≤ 1099511627776 ∧ RdR wr N A0 n0 b0.recs
def whRel (L : List Bt) (off st : Int) (N n : Nat) (w : World) (vf vt va vi : Value) (wr : World) : Prop :=
  ∃ j : Nat, vi = .int .i64 (j : Int) ∧ j ≤ n ∧ foundS (L.take j) off N vf wr ∧ toldS ((L.take j).flatMap fun b => b.recs) st vt va ∧ Below N w wr
def whIn (pre rs : List Rc) (st : Int) (n : Nat) (wa : World) (vt va vk : Value) (wr : World) : Prop :=
  ∃ k : Nat, vk = .int .i64 (k : Int) ∧ k ≤ n ∧ toldS (pre ++ rs.take k) st vt va ∧ wa = wr
theorem findX_of {s : Sg} {l : List En} {off : Int} {L : List Bt} (h : ckX s l = 0) (hL : L = batS s) : (∀ b, L.find? (fun b => decide (off ≤ b.last)) = some b → findX s l off = (b, 0)) ∧ (L.find? (fun b => decide (off ≤ b.last)) = none → findX s l off = (⟨0, 0, 0, 0, 0, 0, 0, false, 0, []⟩, 90)) := by
  subst hL
  unfold findX
  rw [h, if_neg (by simp)]
  exact ⟨fun b hb => by rw [hb], fun hb => by rw [hb]; rfl⟩
theorem sinceX_of {s : Sg} {l : List En} {st : Int} {L : List Bt} (h : ckX s l = 0) (hL : L = batS s) : (∀ r, (L.flatMap fun b => b.recs).find? (fun r => decide (st ≤ r.stamp)) = some r → sinceX s l st = (r.off, 0)) ∧ ((L.flatMap fun b => b.recs).find? (fun r => decide (st ≤ r.stamp)) = none → sinceX s l st = (0, 90)) := by
  subst hL
  unfold sinceX
  rw [h, if_neg (by simp)]
  exact ⟨fun b hb => by rw [hb], fun hb => by rw [hb]⟩
theorem find_snoc {α : Type} {p : α → Bool} {l : List α} {x : α} : (l ++ [x]).find? p = (l.find? p).or (if p x then some x else none) := by
  rw [List.find?_append]
  cases h : p x <;> simp [h]
theorem told_step {pre rs : List Rc} {st : Int} {k : Nat} {r : Rc} (hr : rs[k]? = some r) (h : (pre ++ rs.take k).find? (fun r => decide (st ≤ r.stamp)) = none) : (pre ++ rs.take (k + 1)).find? (fun r => decide (st ≤ r.stamp)) = if st ≤ r.stamp then some r else none := by
  rw [List.take_add_one, hr, ← List.append_assoc]
  show ((pre ++ rs.take k) ++ [r]).find? _ = _
  rw [find_snoc, h]
  by_cases hs : st ≤ r.stamp <;> simp [hs]
theorem told_keep {pre rs : List Rc} {st : Int} {k : Nat} {r0 : Rc} (h : (pre ++ rs.take k).find? (fun r => decide (st ≤ r.stamp)) = some r0) : (pre ++ rs.take (k + 1)).find? (fun r => decide (st ≤ r.stamp)) = some r0 := by
  rw [List.take_add_one, ← List.append_assoc, List.find?_append, h]
  rfl
theorem found_step {L : List Bt} {off : Int} {j : Nat} {b : Bt} (hb : L[j]? = some b) (h : (L.take j).find? (fun b => decide (off ≤ b.last)) = none) : (L.take (j + 1)).find? (fun b => decide (off ≤ b.last)) = if off ≤ b.last then some b else none := by
  rw [List.take_add_one, hb]
  show ((L.take j) ++ [b]).find? _ = _
  rw [find_snoc, h]
  by_cases hs : off ≤ b.last <;> simp [hs]
theorem found_keep {L : List Bt} {off : Int} {j : Nat} {b0 : Bt} (h : (L.take j).find? (fun b => decide (off ≤ b.last)) = some b0) : (L.take (j + 1)).find? (fun b => decide (off ≤ b.last)) = some b0 := by
  rw [List.take_add_one, List.find?_append, h]
  rfl
theorem flat_step {L : List Bt} {j : Nat} {b : Bt} (hb : L[j]? = some b) : (L.take (j + 1)).flatMap (fun b => b.recs) = (L.take j).flatMap (fun b => b.recs) ++ b.recs := by
  rw [List.take_add_one, hb, List.flatMap_append]
  show _ ++ [b].flatMap _ = _
  simp
set_option maxRecDepth 100000 in
set_option maxHeartbeats 16000000 in
theorem indexWhole_walk (sb : Int) (A : Option Addr) (n c : Nat) (l : List UInt8) (every off st : Int) (w : World) (hi : I64 sb) (hc : n ≤ c) (_hk : c ≤ reach) (hR : Rd w w.heap.size A n l) (_hi2 : I64 every) (_hi3 : I64 off) (_hi4 : I64 st) (ht : Tab w) :
    Calls Tryd.prog 6 #[.agg #[.int .i64 sb, .slice A n c], .int .i64 every, .int .i64 off, .int .i64 st] w fun e w' => e = .returned (.bool true) ∧ Below w.heap.size w w' := by
  have HW_0 := Lib.hid (belA w (.cells #[.int .i64 sb, .slice A n c] 28))
  have HS_0 := Lib.hid (At0.new w [.int .i64 sb, .slice A n c] 28)
  have HR_0 := Lib.hid (rdUp hR HW_0.out)
  have HT_0 := Lib.hid (ht.bel HW_0.out)
  by_cases hn : (n : Int) ≤ 3000
  case neg =>
    have HFEW := Lib.hid (show (decide ((n : Int) ≤ 3000) && decide (((0 : Nat) : Int) ≤ 200)) = false by simp [hn])
    clear ht hR hn
    go_enter Tryd.func6, Tryd.ntmps6
    go_wp2_with (first
      | (go_at_call 9; (with_reducible refine (live8_any _ HT_0.out).mono ?_); rintro e w1 ⟨rfl, hb⟩; have HW_1 := Lib.hid (bel_trans HW_0.out hb); have HS_1 := Lib.hid (HS_0.out.below hb); have HR_1 := Lib.hid (rdUp HR_0.out hb); have HT_1 := Lib.hid (HT_0.out.bel hb); have hs1_0 : w1.cell? ⟨w.heap.size, 0, none⟩ = some (.int .i64 sb) := HS_1.out.cell 0; have hs1_1 : w1.cell? ⟨w.heap.size, 1, none⟩ = some (.slice A n c) := HS_1.out.cell 1; clear hb)
      | (go_at_call 14; (with_reducible refine (few_any sb A n c none 0 0 (z := false) HFEW.out _).mono ?_); rintro e w2 ⟨rfl, hb⟩; have HW_2 := Lib.hid (bel_trans HW_1.out hb); have HS_2 := Lib.hid (HS_1.out.below hb); have HR_2 := Lib.hid (rdUp HR_1.out hb); have HT_2 := Lib.hid (HT_1.out.bel hb); have hs2_0 : w2.cell? ⟨w.heap.size, 0, none⟩ = some (.int .i64 sb) := HS_2.out.cell 0; have hs2_1 : w2.cell? ⟨w.heap.size, 1, none⟩ = some (.slice A n c) := HS_2.out.cell 1; clear hb))
    go_ret
    exact ⟨rfl, HW_2.out⟩
  have HFEW := Lib.hid (show (decide ((n : Int) ≤ 3000) && decide (((0 : Nat) : Int) ≤ 200)) = true by simp [hn])
  have HLN := Lib.hid hR.len
  rcases makeX_ways ⟨sb, l⟩ every with hm | ⟨m, hm⟩
  · have HMK := Lib.hid hm
    clear ht hR hm
    go_enter Tryd.func6, Tryd.ntmps6
    go_wp2_with (first
      | (go_at_call 9; (with_reducible refine (live8_any _ HT_0.out).mono ?_); rintro e w1 ⟨rfl, hb⟩; have HW_1 := Lib.hid (bel_trans HW_0.out hb); have HS_1 := Lib.hid (HS_0.out.below hb); have HR_1 := Lib.hid (rdUp HR_0.out hb); have HT_1 := Lib.hid (HT_0.out.bel hb); have hs1_0 : w1.cell? ⟨w.heap.size, 0, none⟩ = some (.int .i64 sb) := HS_1.out.cell 0; have hs1_1 : w1.cell? ⟨w.heap.size, 1, none⟩ = some (.slice A n c) := HS_1.out.cell 1; clear hb)
      | (go_at_call 14; (with_reducible refine (few_any sb A n c none 0 0 (z := true) HFEW.out _).mono ?_); rintro e w2 ⟨rfl, hb⟩; have HW_2 := Lib.hid (bel_trans HW_1.out hb); have HS_2 := Lib.hid (HS_1.out.below hb); have HR_2 := Lib.hid (rdUp HR_1.out hb); have HT_2 := Lib.hid (HT_1.out.bel hb); have hs2_0 : w2.cell? ⟨w.heap.size, 0, none⟩ = some (.int .i64 sb) := HS_2.out.cell 0; have hs2_1 : w2.cell? ⟨w.heap.size, 1, none⟩ = some (.slice A n c) := HS_2.out.cell 1; clear hb)
      | (go_at_call 15; (with_reducible refine (Make_is A n c sb l every HMK.out _ HR_2.out hc hi HT_2.out).mono ?_); rintro e w3 ⟨A3, n3, c3, rfl, ho, hb⟩; have HW_3 := Lib.hid (bel_trans HW_2.out hb); have HS_3 := Lib.hid (HS_2.out.below hb); have HR_3 := Lib.hid (rdUp HR_2.out hb); have HT_3 := Lib.hid (HT_2.out.bel hb); have hs3_0 : w3.cell? ⟨w.heap.size, 0, none⟩ = some (.int .i64 sb) := HS_3.out.cell 0; have hs3_1 : w3.cell? ⟨w.heap.size, 1, none⟩ = some (.slice A n c) := HS_3.out.cell 1; clear hb ho))
    go_ret
    exact ⟨rfl, HW_3.out⟩
  · have HMK := Lib.hid hm
    have hmg := makeX_good hm
    have HCK := Lib.hid (ckX_make hm)
    obtain ⟨hris, hbs, hlen⟩ := allE_right hmg.1
    obtain ⟨L, hL⟩ : ∃ L, L = batS ⟨sb, l⟩ := ⟨_, rfl⟩
    have HL := Lib.hid hL
    rw [← hL] at hris hbs
    simp only at hris hbs hlen
    have HSC := Lib.hid (show sc sb l = (L, n) from (by have h := sc_whole hris; rw [← hbs] at h; rw [h, HLN.out]))
    have hml : m.length ≤ 4097 := by rw [hmg.2.2]; have h3 := pick_len every (allE ⟨sb, l⟩); have h4 : (allE ⟨sb, l⟩).length = L.length := (ents_len _ _ _).trans (by rw [hL]); have h5 := byR_ge L; rw [← hbs] at h5; omega
    have hLl : L.length ≤ 4096 := by have h5 := byR_ge L; rw [← hbs] at h5; omega
    clear ht hR hm hmg hris hbs hlen hL
    go_enter Tryd.func6, Tryd.ntmps6
    go_wp2_with (first
      | (go_at_call 9; (with_reducible refine (live8_any _ HT_0.out).mono ?_); rintro e w1 ⟨rfl, hb⟩; have HW_1 := Lib.hid (bel_trans HW_0.out hb); have HS_1 := Lib.hid (HS_0.out.below hb); have HR_1 := Lib.hid (rdUp HR_0.out hb); have HT_1 := Lib.hid (HT_0.out.bel hb); have hs1_0 : w1.cell? ⟨w.heap.size, 0, none⟩ = some (.int .i64 sb) := HS_1.out.cell 0; have hs1_1 : w1.cell? ⟨w.heap.size, 1, none⟩ = some (.slice A n c) := HS_1.out.cell 1; clear hb)
      | (go_at_call 14; (with_reducible refine (few_any sb A n c none 0 0 (z := true) HFEW.out _).mono ?_); rintro e w2 ⟨rfl, hb⟩; have HW_2 := Lib.hid (bel_trans HW_1.out hb); have HS_2 := Lib.hid (HS_1.out.below hb); have HR_2 := Lib.hid (rdUp HR_1.out hb); have HT_2 := Lib.hid (HT_1.out.bel hb); have hs2_0 : w2.cell? ⟨w.heap.size, 0, none⟩ = some (.int .i64 sb) := HS_2.out.cell 0; have hs2_1 : w2.cell? ⟨w.heap.size, 1, none⟩ = some (.slice A n c) := HS_2.out.cell 1; clear hb)
      | (go_at_call 15; (with_reducible refine (Make_is A n c sb l every HMK.out _ HR_2.out hc hi HT_2.out).mono ?_); rintro e w3 ⟨A3, n3, c3, rfl, ho, hb⟩; have HW_3 := Lib.hid (bel_trans HW_2.out hb); have HS_3 := Lib.hid (HS_2.out.below hb); have HR_3 := Lib.hid (rdUp HR_2.out hb); have HT_3 := Lib.hid (HT_2.out.bel hb); have hml3 : n3 ≤ 4097 := (by have h := ho.len enS; omega); have hcap3 := ho.cap; have HE_3 := Lib.hid (OwnF.rd enS ho); have hs3_0 : w3.cell? ⟨w.heap.size, 0, none⟩ = some (.int .i64 sb) := HS_3.out.cell 0; have hs3_1 : w3.cell? ⟨w.heap.size, 1, none⟩ = some (.slice A n c) := HS_3.out.cell 1; clear hb ho)
      | (go_at_call 16; (with_reducible refine (Scan_is HSC.out HR_3.out hc (by omega) hi HT_3.out).mono ?_); rintro e w4 ⟨A4, n4, c4, rfl, ho, hb⟩; have HW_4 := Lib.hid (bel_trans HW_3.out hb); have HS_4 := Lib.hid (HS_3.out.below hb); have HR_4 := Lib.hid (rdUp HR_3.out hb); have HT_4 := Lib.hid (HT_3.out.bel hb); have HE_4 := Lib.hid (rdeUp HE_3.out hb); have HB_4 := Lib.hid (ho.rd); have hn4 : n4 ≤ 1099511627776 := (by have h9 := ho.len; omega); have hcap4 := ho.cap; have hs4_0 : w4.cell? ⟨w.heap.size, 0, none⟩ = some (.int .i64 sb) := HS_4.out.cell 0; have hs4_1 : w4.cell? ⟨w.heap.size, 1, none⟩ = some (.slice A n c) := HS_4.out.cell 1; have HBN := Lib.hid ho.len; clear hb ho))
    have hba := belA w4 (.cells #[.int .i64 0, .int .i64 0, .int .i64 0, .int .i64 0, .int .i64 0, .int .i64 0, .int .i64 0, .bool false, .int .i64 0, .slice none 0 0] 38)
    have HZ0 := Lib.hid (At0.new w4 [.int .i64 0, .int .i64 0, .int .i64 0, .int .i64 0, .int .i64 0, .int .i64 0, .int .i64 0, .bool false, .int .i64 0, .slice none 0 0] 38)
    go_loopw [14, 15, 17, 18] (fun vf vt va vi wr => whRel L off st w4.heap.size n4 w4 vf vt va vi wr) (fun _ _ _ vi _ => n4 - (intOf vi).toNat)
    case atStart => exact ⟨0, rfl, Nat.zero_le _, .inl ⟨rfl, by rw [List.take_zero]; rfl, HZ0.out⟩, .inl ⟨rfl, rfl, by rw [List.take_zero]; rfl⟩, hba⟩
    case round =>
      obtain ⟨j, rfl, hj, hfs, hts, hb⟩ := hrel
      have HBR := Lib.hid hb
      have HTS := Lib.hid hts
      have hsz := hb.size
      clear hts
      by_cases hlt : j < n4
      · obtain ⟨b, o, x, A9, n9, c9, rfl, hbl, hxk, hc9, hn9, hrd, hft, hcell⟩ := ((HB_4.out).below hb (Nat.le_refl _)).at (k := j) hlt
        obtain ⟨ba, la, fr, ep, pi, ge, se, tx, ct, rs⟩ := x
        have HRD := Lib.hid hrd
        have HXK := Lib.hid hxk
        have a0 : wr.cell? ⟨b, o + j * 10, none⟩ = some (.int .i64 ba) := hcell 0 _ rfl
        have a1 : wr.cell? ⟨b, o + j * 10 + 1, none⟩ = some (.int .i64 la) := hcell 1 _ rfl
        have a2 : wr.cell? ⟨b, o + j * 10 + 2, none⟩ = some (.int .i64 fr) := hcell 2 _ rfl
        have a3 : wr.cell? ⟨b, o + j * 10 + 3, none⟩ = some (.int .i64 ep) := hcell 3 _ rfl
        have a4 : wr.cell? ⟨b, o + j * 10 + 4, none⟩ = some (.int .i64 pi) := hcell 4 _ rfl
        have a5 : wr.cell? ⟨b, o + j * 10 + 5, none⟩ = some (.int .i64 ge) := hcell 5 _ rfl
        have a6 : wr.cell? ⟨b, o + j * 10 + 6, none⟩ = some (.int .i64 se) := hcell 6 _ rfl
        have a7 : wr.cell? ⟨b, o + j * 10 + 7, none⟩ = some (.bool tx) := hcell 7 _ rfl
        have a8 : wr.cell? ⟨b, o + j * 10 + 8, none⟩ = some (.int .i64 ct) := hcell 8 _ rfl
        have a9 : wr.cell? ⟨b, o + j * 10 + 9, none⟩ = some (.slice A9 n9 c9) := hcell 9 _ rfl
        have HA9 := Lib.hid a9
        have hblr : b < wr.heap.size := by omega
        clear hxk hcell hrd hft hb
        rcases hfs with ⟨rfl, hfn, hat⟩ | ⟨b0, A0, n0, c0, rfl, hfn, hat, hn0, hr0⟩
        · have HFN := Lib.hid (found_step HXK.out hfn)
          have HAT := Lib.hid hat
          clear hfn
          have z0 : wr.cell? ⟨w4.heap.size, 0, none⟩ = some (.int .i64 0) := hat.cell 0
          have z1 : wr.cell? ⟨w4.heap.size, 1, none⟩ = some (.int .i64 0) := hat.cell 1
          have z2 : wr.cell? ⟨w4.heap.size, 2, none⟩ = some (.int .i64 0) := hat.cell 2
          have z3 : wr.cell? ⟨w4.heap.size, 3, none⟩ = some (.int .i64 0) := hat.cell 3
          have z4 : wr.cell? ⟨w4.heap.size, 4, none⟩ = some (.int .i64 0) := hat.cell 4
          have z5 : wr.cell? ⟨w4.heap.size, 5, none⟩ = some (.int .i64 0) := hat.cell 5
          have z6 : wr.cell? ⟨w4.heap.size, 6, none⟩ = some (.int .i64 0) := hat.cell 6
          have z7 : wr.cell? ⟨w4.heap.size, 7, none⟩ = some (.bool false) := hat.cell 7
          have z8 : wr.cell? ⟨w4.heap.size, 8, none⟩ = some (.int .i64 0) := hat.cell 8
          have z9 : wr.cell? ⟨w4.heap.size, 9, none⟩ = some (.slice none 0 0) := hat.cell 9
          have f0 : wr.frozen? ⟨w4.heap.size, 0, none⟩ = false := hat.frozen 0
          have f1 : wr.frozen? ⟨w4.heap.size, 1, none⟩ = false := hat.frozen 1
          have f2 : wr.frozen? ⟨w4.heap.size, 2, none⟩ = false := hat.frozen 2
          have f3 : wr.frozen? ⟨w4.heap.size, 3, none⟩ = false := hat.frozen 3
          have f4 : wr.frozen? ⟨w4.heap.size, 4, none⟩ = false := hat.frozen 4
          have f5 : wr.frozen? ⟨w4.heap.size, 5, none⟩ = false := hat.frozen 5
          have f6 : wr.frozen? ⟨w4.heap.size, 6, none⟩ = false := hat.frozen 6
          have f7 : wr.frozen? ⟨w4.heap.size, 7, none⟩ = false := hat.frozen 7
          have f8 : wr.frozen? ⟨w4.heap.size, 8, none⟩ = false := hat.frozen 8
          have f9 : wr.frozen? ⟨w4.heap.size, 9, none⟩ = false := hat.frozen 9
          clear hat
          by_cases hof : off ≤ la
          · have HF2 := Lib.hid (HFN.out.trans (if_pos hof))
            have hbne : ¬ b = w4.heap.size := by omega
            go_wp2
            generalize hwa : (((((((((wr.setCell ⟨w4.heap.size, 0, none⟩ (.int .i64 ba)).setCell ⟨w4.heap.size, 1, none⟩ (.int .i64 la)).setCell ⟨w4.heap.size, 2, none⟩ (.int .i64 fr)).setCell ⟨w4.heap.size, 3, none⟩ (.int .i64 ep)).setCell ⟨w4.heap.size, 4, none⟩ (.int .i64 pi)).setCell ⟨w4.heap.size, 5, none⟩ (.int .i64 ge)).setCell ⟨w4.heap.size, 6, none⟩ (.int .i64 se)).setCell ⟨w4.heap.size, 7, none⟩ (.bool tx)).setCell ⟨w4.heap.size, 8, none⟩ (.int .i64 ct)).setCell ⟨w4.heap.size, 9, none⟩ (.slice A9 n9 c9) = wa
            have HBW2 := Lib.hid (show Below w4.heap.size wr wa by rw [← hwa]; exact put10_bel (Below.refl _ _) (Nat.le_refl _))
            have HAT2 := Lib.hid (show At0 wa w4.heap.size [.int .i64 ba, .int .i64 la, .int .i64 fr, .int .i64 ep, .int .i64 pi, .int .i64 ge, .int .i64 se, .bool tx, .int .i64 ct, .slice A9 n9 c9] 38 by rw [← hwa]; exact at0_put10 HAT.out)
            have HRD2 := Lib.hid (HRD.out.below HBW2.out (Nat.le_refl _))
            have HBR2 := Lib.hid (HBR.out.trans HBW2.out)
            have a9' : wa.cell? ⟨b, o + j * 10 + 9, none⟩ = some (.slice A9 n9 c9) := (HBW2.out.cell (p := ⟨b, o + j * 10 + 9, none⟩) hbl).trans HA9.out
            have hblr2 : b < wa.heap.size := by have := HBW2.out.size; omega
            have hsz2 : w4.heap.size ≤ wa.heap.size := HBR2.out.size
            clear hwa z0 z1 z2 z3 z4 z5 z6 z7 z8 z9 f0 f1 f2 f3 f4 f5 f6 f7 f8 f9 a0 a1 a2 a3 a4 a5 a6 a7 a8 a9
            obtain ⟨wq, rfl⟩ : ∃ wq, wq = wr := ⟨_, rfl⟩
            go_loopw [15, 17, 19] (fun vt va vk wr9 => whIn ((L.take j).flatMap fun b => b.recs) rs st n9 wa vt va vk wr9) (fun _ _ vk _ => n9 - (intOf vk).toNat)
            case atStart => exact ⟨0, rfl, Nat.zero_le _, by rw [List.take_zero, List.append_nil]; exact HTS.out, rfl⟩
            case round =>
              obtain ⟨k, rfl, hk, htk, rfl⟩ := hrel
              by_cases hk2 : k < n9
              · obtain ⟨b2, o2, r, hAA9, hbl2, hrk, c0, c1', c2, c3, c4⟩ := HRD2.out.at hk2
                subst hAA9
                have HRK := Lib.hid hrk
                obtain ⟨r0, rk, rv, rd, r4⟩ := r
                simp only at c0 c4
                clear c1' c2 c3 hrk
                rcases htk with ⟨rfl, rfl, hfn⟩ | ⟨rr, rfl, rfl, hfn⟩
                · have HFN := Lib.hid (told_step HRK.out hfn)
                  clear hfn
                  by_cases hst : st ≤ r4
                  · have HF2 := Lib.hid (HFN.out.trans (if_pos hst))
                    go_wp2
                    go_roundw
                    case rel => exact ⟨k + 1, by go_num, by omega, .inr ⟨_, rfl, rfl, HF2.out⟩, rfl⟩
                    case measure => simp [intOf]; omega
                  · have HF2 := Lib.hid (HFN.out.trans (if_neg hst))
                    go_wp2
                    go_roundw
                    case rel => exact ⟨k + 1, by go_num, by omega, .inl ⟨rfl, rfl, HF2.out⟩, rfl⟩
                    case measure => simp [intOf]; omega
                · have HFN := Lib.hid (told_keep hfn)
                  clear hfn
                  go_wp2
                  go_roundw
                  case rel => exact ⟨k + 1, by go_num, by omega, .inr ⟨_, rfl, rfl, HFN.out⟩, rfl⟩
                  case measure => simp [intOf]; omega
              · have hkn : k = n9 := by omega
                have HTE := Lib.hid (show toldS ((L.take (j + 1)).flatMap fun b => b.recs) st _ _ from by rw [flat_step HXK.out]; have h := htk; have h2 : rs.length = n9 := HRD2.out.1; have e : rs.take k = rs := List.take_of_length_le (by omega); rw [e] at h; exact h)
                subst hkn
                clear htk
                go_wp2
                go_roundw
                case rel => exact ⟨j + 1, by go_num, by omega, .inr ⟨_, _, _, _, rfl, HF2.out, HAT2.out, hn9, HRD2.out⟩, HTE.out, HBR2.out⟩
                case measure => simp [intOf]; omega
          · have HF2 := Lib.hid (HFN.out.trans (if_neg hof))
            clear z0 z1 z2 z3 z4 z5 z6 z7 z8 z9 f0 f1 f2 f3 f4 f5 f6 f7 f8 f9
            go_wp2
            obtain ⟨wa, rfl⟩ : ∃ wa, wa = wr := ⟨_, rfl⟩
            have HRD2 := HRD
            have HBR2 := HBR
            go_loopw [15, 17, 19] (fun vt va vk wr9 => whIn ((L.take j).flatMap fun b => b.recs) rs st n9 wa vt va vk wr9) (fun _ _ vk _ => n9 - (intOf vk).toNat)
            case atStart => exact ⟨0, rfl, Nat.zero_le _, by rw [List.take_zero, List.append_nil]; exact HTS.out, rfl⟩
            case round =>
              obtain ⟨k, rfl, hk, htk, rfl⟩ := hrel
              by_cases hk2 : k < n9
              · obtain ⟨b2, o2, r, hAA9, hbl2, hrk, c0, c1', c2, c3, c4⟩ := HRD2.out.at hk2
                subst hAA9
                have HRK := Lib.hid hrk
                obtain ⟨r0, rk, rv, rd, r4⟩ := r
                simp only at c0 c4
                clear c1' c2 c3 hrk
                rcases htk with ⟨rfl, rfl, hfn⟩ | ⟨rr, rfl, rfl, hfn⟩
                · have HFN := Lib.hid (told_step HRK.out hfn)
                  clear hfn
                  by_cases hst : st ≤ r4
                  · have HF2 := Lib.hid (HFN.out.trans (if_pos hst))
                    go_wp2
                    go_roundw
                    case rel => exact ⟨k + 1, by go_num, by omega, .inr ⟨_, rfl, rfl, HF2.out⟩, rfl⟩
                    case measure => simp [intOf]; omega
                  · have HF2 := Lib.hid (HFN.out.trans (if_neg hst))
                    go_wp2
                    go_roundw
                    case rel => exact ⟨k + 1, by go_num, by omega, .inl ⟨rfl, rfl, HF2.out⟩, rfl⟩
                    case measure => simp [intOf]; omega
                · have HFN := Lib.hid (told_keep hfn)
                  clear hfn
                  go_wp2
                  go_roundw
                  case rel => exact ⟨k + 1, by go_num, by omega, .inr ⟨_, rfl, rfl, HFN.out⟩, rfl⟩
                  case measure => simp [intOf]; omega
              · have hkn : k = n9 := by omega
                have HTE := Lib.hid (show toldS ((L.take (j + 1)).flatMap fun b => b.recs) st _ _ from by rw [flat_step HXK.out]; have h := htk; have h2 : rs.length = n9 := HRD2.out.1; have e : rs.take k = rs := List.take_of_length_le (by omega); rw [e] at h; exact h)
                subst hkn
                clear htk
                go_wp2
                go_roundw
                case rel => exact ⟨j + 1, by go_num, by omega, .inl ⟨rfl, HF2.out, HAT.out⟩, HTE.out, HBR2.out⟩
                case measure => simp [intOf]; omega
        · have HF2 := Lib.hid (found_keep hfn)
          have HAT := Lib.hid hat
          have HR0 := Lib.hid hr0
          clear hfn hat hr0
          go_wp2
          obtain ⟨wa, rfl⟩ : ∃ wa, wa = wr := ⟨_, rfl⟩
          have HRD2 := HRD
          have HBR2 := HBR
          go_loopw [15, 17, 19] (fun vt va vk wr9 => whIn ((L.take j).flatMap fun b => b.recs) rs st n9 wa vt va vk wr9) (fun _ _ vk _ => n9 - (intOf vk).toNat)
          case atStart => exact ⟨0, rfl, Nat.zero_le _, by rw [List.take_zero, List.append_nil]; exact HTS.out, rfl⟩
          case round =>
            obtain ⟨k, rfl, hk, htk, rfl⟩ := hrel
            by_cases hk2 : k < n9
            · obtain ⟨b2, o2, r, hAA9, hbl2, hrk, c0, c1', c2, c3, c4⟩ := HRD2.out.at hk2
              subst hAA9
              have HRK := Lib.hid hrk
              obtain ⟨r0, rk, rv, rd, r4⟩ := r
              simp only at c0 c4
              clear c1' c2 c3 hrk
              rcases htk with ⟨rfl, rfl, hfn⟩ | ⟨rr, rfl, rfl, hfn⟩
              · have HFN := Lib.hid (told_step HRK.out hfn)
                clear hfn
                by_cases hst : st ≤ r4
                · have HF2 := Lib.hid (HFN.out.trans (if_pos hst))
                  go_wp2
                  go_roundw
                  case rel => exact ⟨k + 1, by go_num, by omega, .inr ⟨_, rfl, rfl, HF2.out⟩, rfl⟩
                  case measure => simp [intOf]; omega
                · have HF2 := Lib.hid (HFN.out.trans (if_neg hst))
                  go_wp2
                  go_roundw
                  case rel => exact ⟨k + 1, by go_num, by omega, .inl ⟨rfl, rfl, HF2.out⟩, rfl⟩
                  case measure => simp [intOf]; omega
              · have HFN := Lib.hid (told_keep hfn)
                clear hfn
                go_wp2
                go_roundw
                case rel => exact ⟨k + 1, by go_num, by omega, .inr ⟨_, rfl, rfl, HFN.out⟩, rfl⟩
                case measure => simp [intOf]; omega
            · have hkn : k = n9 := by omega
              have HTE := Lib.hid (show toldS ((L.take (j + 1)).flatMap fun b => b.recs) st _ _ from by rw [flat_step HXK.out]; have h := htk; have h2 : rs.length = n9 := HRD2.out.1; have e : rs.take k = rs := List.take_of_length_le (by omega); rw [e] at h; exact h)
              subst hkn
              clear htk
              go_wp2
              go_roundw
              case rel => exact ⟨j + 1, by go_num, by omega, .inr ⟨_, _, _, _, rfl, HF2.out, HAT.out, hn0, HR0.out⟩, HTE.out, HBR2.out⟩
              case measure => simp [intOf]; omega
      · obtain rfl : j = n4 := by omega
        have htake : L.take j = L := List.take_of_length_le (by have := HBN.out; omega)
        have hts := HTS.out
        rw [htake] at hfs hts
        have HW_r := Lib.hid (bel_trans HW_4.out hb)
        have HS_r := Lib.hid (HS_4.out.below hb)
        have HR_r := Lib.hid (rdUp HR_4.out hb)
        have HT_r := Lib.hid (HT_4.out.bel hb)
        have HE_r := Lib.hid (rdeUp HE_4.out hb)
        have HB_r := Lib.hid (rdtUp HB_4.out hb)
        obtain ⟨fx1, fx2⟩ := findX_of (off := off) HCK.out HL.out
        obtain ⟨sx1, sx2⟩ := sinceX_of (st := st) HCK.out HL.out
        clear htake HTS
        rcases hfs with ⟨rfl, hfn, hat⟩ | ⟨⟨ba, la, fr, ep, pi, ge, se, tx, ct, rs⟩, A0, n0, c0, rfl, hfn, hat, hn0, hr0⟩
        · have HFD := Lib.hid (fx2 hfn)
          clear hat hfn fx1 fx2 hb
          rcases hts with ⟨rfl, rfl, htn⟩ | ⟨⟨r0, rk, rv, rd, r4⟩, rfl, rfl, htn⟩
          · have HSI := Lib.hid (sx2 htn)
            clear htn sx1 sx2
            have hsr_0 : wr.cell? ⟨w.heap.size, 0, none⟩ = some (.int .i64 sb) := HS_r.out.cell 0
            have hsr_1 : wr.cell? ⟨w.heap.size, 1, none⟩ = some (.slice A n c) := HS_r.out.cell 1
            go_wp2_with (first
              | (go_at_call 18; (with_reducible refine (Find_is A n c sb l A3 n3 c3 m off HFD.out _ HR_r.out hc HE_r.out hcap3 (by omega) hi HT_r.out).mono ?_); rintro e w5 ⟨A5, n5, c5, rfl, hcap5, hn5, hr5, hb⟩; have HW_5 := Lib.hid (bel_trans HW_r.out hb); have HS_5 := Lib.hid (HS_r.out.below hb); have HR_5 := Lib.hid (rdUp HR_r.out hb); have HT_5 := Lib.hid (HT_r.out.bel hb); have HE_5 := Lib.hid (rdeUp HE_r.out hb); have HB_5 := Lib.hid (rdtUp HB_r.out hb); have hba := belA w5 (.cells #[.int .i64 0, .int .i64 0, .int .i64 0, .int .i64 0, .int .i64 0, .int .i64 0, .int .i64 0, .bool false, .int .i64 0, .slice A5 n5 c5] 38); have HW_5a := Lib.hid (bel_trans HW_5.out hba); have HS_5a := Lib.hid (HS_5.out.below hba); have HR_5a := Lib.hid (rdUp HR_5.out hba); have HT_5a := Lib.hid (HT_5.out.bel hba); have HE_5a := Lib.hid (rdeUp HE_5.out hba); have HB_5a := Lib.hid (rdtUp HB_5.out hba); have HY_5a := Lib.hid (At0.new w5 [.int .i64 0, .int .i64 0, .int .i64 0, .int .i64 0, .int .i64 0, .int .i64 0, .int .i64 0, .bool false, .int .i64 0, .slice A5 n5 c5] 38); have hs5a_0 : (w5.alloc (.cells #[.int .i64 0, .int .i64 0, .int .i64 0, .int .i64 0, .int .i64 0, .int .i64 0, .int .i64 0, .bool false, .int .i64 0, .slice A5 n5 c5] 38)).cell? ⟨w.heap.size, 0, none⟩ = some (.int .i64 sb) := HS_5a.out.cell 0; have hs5a_1 : (w5.alloc (.cells #[.int .i64 0, .int .i64 0, .int .i64 0, .int .i64 0, .int .i64 0, .int .i64 0, .int .i64 0, .bool false, .int .i64 0, .slice A5 n5 c5] 38)).cell? ⟨w.heap.size, 1, none⟩ = some (.slice A n c) := HS_5a.out.cell 1; clear hb hba hr5)
              | (go_at_call 19; (with_reducible refine (Since_is A n c sb l A3 n3 c3 m st HSI.out _ HR_5a.out hc HE_5a.out hcap3 (by omega) hi HT_5a.out).mono ?_); rintro e w6 ⟨rfl, hb⟩; have HW_6 := Lib.hid (bel_trans HW_5a.out hb); have HS_6 := Lib.hid (HS_5a.out.below hb); have HR_6 := Lib.hid (rdUp HR_5a.out hb); have HT_6 := Lib.hid (HT_5a.out.bel hb); have HE_6 := Lib.hid (rdeUp HE_5a.out hb); have HB_6 := Lib.hid (rdtUp HB_5a.out hb); have HY_6 := Lib.hid (HY_5a.out.below hb); have hs6_0 : w6.cell? ⟨w.heap.size, 0, none⟩ = some (.int .i64 sb) := HS_6.out.cell 0; have hs6_1 : w6.cell? ⟨w.heap.size, 1, none⟩ = some (.slice A n c) := HS_6.out.cell 1; clear hb))
            go_ret
            exact ⟨rfl, HW_6.out⟩
          · have HSI := Lib.hid (sx1 _ htn)
            clear htn sx1 sx2
            have hsr_0 : wr.cell? ⟨w.heap.size, 0, none⟩ = some (.int .i64 sb) := HS_r.out.cell 0
            have hsr_1 : wr.cell? ⟨w.heap.size, 1, none⟩ = some (.slice A n c) := HS_r.out.cell 1
            go_wp2_with (first
              | (go_at_call 18; (with_reducible refine (Find_is A n c sb l A3 n3 c3 m off HFD.out _ HR_r.out hc HE_r.out hcap3 (by omega) hi HT_r.out).mono ?_); rintro e w5 ⟨A5, n5, c5, rfl, hcap5, hn5, hr5, hb⟩; have HW_5 := Lib.hid (bel_trans HW_r.out hb); have HS_5 := Lib.hid (HS_r.out.below hb); have HR_5 := Lib.hid (rdUp HR_r.out hb); have HT_5 := Lib.hid (HT_r.out.bel hb); have HE_5 := Lib.hid (rdeUp HE_r.out hb); have HB_5 := Lib.hid (rdtUp HB_r.out hb); have hba := belA w5 (.cells #[.int .i64 0, .int .i64 0, .int .i64 0, .int .i64 0, .int .i64 0, .int .i64 0, .int .i64 0, .bool false, .int .i64 0, .slice A5 n5 c5] 38); have HW_5a := Lib.hid (bel_trans HW_5.out hba); have HS_5a := Lib.hid (HS_5.out.below hba); have HR_5a := Lib.hid (rdUp HR_5.out hba); have HT_5a := Lib.hid (HT_5.out.bel hba); have HE_5a := Lib.hid (rdeUp HE_5.out hba); have HB_5a := Lib.hid (rdtUp HB_5.out hba); have HY_5a := Lib.hid (At0.new w5 [.int .i64 0, .int .i64 0, .int .i64 0, .int .i64 0, .int .i64 0, .int .i64 0, .int .i64 0, .bool false, .int .i64 0, .slice A5 n5 c5] 38); have hs5a_0 : (w5.alloc (.cells #[.int .i64 0, .int .i64 0, .int .i64 0, .int .i64 0, .int .i64 0, .int .i64 0, .int .i64 0, .bool false, .int .i64 0, .slice A5 n5 c5] 38)).cell? ⟨w.heap.size, 0, none⟩ = some (.int .i64 sb) := HS_5a.out.cell 0; have hs5a_1 : (w5.alloc (.cells #[.int .i64 0, .int .i64 0, .int .i64 0, .int .i64 0, .int .i64 0, .int .i64 0, .int .i64 0, .bool false, .int .i64 0, .slice A5 n5 c5] 38)).cell? ⟨w.heap.size, 1, none⟩ = some (.slice A n c) := HS_5a.out.cell 1; clear hb hba hr5)
              | (go_at_call 19; (with_reducible refine (Since_is A n c sb l A3 n3 c3 m st HSI.out _ HR_5a.out hc HE_5a.out hcap3 (by omega) hi HT_5a.out).mono ?_); rintro e w6 ⟨rfl, hb⟩; have HW_6 := Lib.hid (bel_trans HW_5a.out hb); have HS_6 := Lib.hid (HS_5a.out.below hb); have HR_6 := Lib.hid (rdUp HR_5a.out hb); have HT_6 := Lib.hid (HT_5a.out.bel hb); have HE_6 := Lib.hid (rdeUp HE_5a.out hb); have HB_6 := Lib.hid (rdtUp HB_5a.out hb); have HY_6 := Lib.hid (HY_5a.out.below hb); have hs6_0 : w6.cell? ⟨w.heap.size, 0, none⟩ = some (.int .i64 sb) := HS_6.out.cell 0; have hs6_1 : w6.cell? ⟨w.heap.size, 1, none⟩ = some (.slice A n c) := HS_6.out.cell 1; clear hb))
            go_ret
            exact ⟨rfl, HW_6.out⟩
        · have HFD := Lib.hid (fx1 _ hfn)
          have HX_r := Lib.hid (hat)
          have HP_r := Lib.hid ((hr0 : RdR wr w4.heap.size A0 n0 rs).more hb.size)
          clear hat hfn fx1 fx2 hr0 hb
          rcases hts with ⟨rfl, rfl, htn⟩ | ⟨⟨r0, rk, rv, rd, r4⟩, rfl, rfl, htn⟩
          · have HSI := Lib.hid (sx2 htn)
            clear htn sx1 sx2
            have hsr_0 : wr.cell? ⟨w.heap.size, 0, none⟩ = some (.int .i64 sb) := HS_r.out.cell 0
            have hsr_1 : wr.cell? ⟨w.heap.size, 1, none⟩ = some (.slice A n c) := HS_r.out.cell 1
            go_wp2_with (first
              | (go_at_call 18; (with_reducible refine (Find_is A n c sb l A3 n3 c3 m off HFD.out _ HR_r.out hc HE_r.out hcap3 (by omega) hi HT_r.out).mono ?_); rintro e w5 ⟨A5, n5, c5, rfl, hcap5, hn5, hr5, hb⟩; have HW_5 := Lib.hid (bel_trans HW_r.out hb); have HS_5 := Lib.hid (HS_r.out.below hb); have HR_5 := Lib.hid (rdUp HR_r.out hb); have HT_5 := Lib.hid (HT_r.out.bel hb); have HE_5 := Lib.hid (rdeUp HE_r.out hb); have HB_5 := Lib.hid (rdtUp HB_r.out hb); have HX_5 := Lib.hid (HX_r.out.below hb); have HP_5 := Lib.hid (rdrUp HP_r.out hb); have hba := belA w5 (.cells #[.int .i64 ba, .int .i64 la, .int .i64 fr, .int .i64 ep, .int .i64 pi, .int .i64 ge, .int .i64 se, .bool tx, .int .i64 ct, .slice A5 n5 c5] 38); have HW_5a := Lib.hid (bel_trans HW_5.out hba); have HS_5a := Lib.hid (HS_5.out.below hba); have HR_5a := Lib.hid (rdUp HR_5.out hba); have HT_5a := Lib.hid (HT_5.out.bel hba); have HE_5a := Lib.hid (rdeUp HE_5.out hba); have HB_5a := Lib.hid (rdtUp HB_5.out hba); have HX_5a := Lib.hid (HX_5.out.below hba); have HP_5a := Lib.hid (rdrUp HP_5.out hba); have HY_5a := Lib.hid (At0.new w5 [.int .i64 ba, .int .i64 la, .int .i64 fr, .int .i64 ep, .int .i64 pi, .int .i64 ge, .int .i64 se, .bool tx, .int .i64 ct, .slice A5 n5 c5] 38); have HQ_5a := Lib.hid (rdrUp hr5 hba); have hs5a_0 : (w5.alloc (.cells #[.int .i64 ba, .int .i64 la, .int .i64 fr, .int .i64 ep, .int .i64 pi, .int .i64 ge, .int .i64 se, .bool tx, .int .i64 ct, .slice A5 n5 c5] 38)).cell? ⟨w.heap.size, 0, none⟩ = some (.int .i64 sb) := HS_5a.out.cell 0; have hs5a_1 : (w5.alloc (.cells #[.int .i64 ba, .int .i64 la, .int .i64 fr, .int .i64 ep, .int .i64 pi, .int .i64 ge, .int .i64 se, .bool tx, .int .i64 ct, .slice A5 n5 c5] 38)).cell? ⟨w.heap.size, 1, none⟩ = some (.slice A n c) := HS_5a.out.cell 1; have hx5a_0 : (w5.alloc (.cells #[.int .i64 ba, .int .i64 la, .int .i64 fr, .int .i64 ep, .int .i64 pi, .int .i64 ge, .int .i64 se, .bool tx, .int .i64 ct, .slice A5 n5 c5] 38)).cell? ⟨w4.heap.size, 0, none⟩ = some (.int .i64 ba) := HX_5a.out.cell 0; have hx5a_1 : (w5.alloc (.cells #[.int .i64 ba, .int .i64 la, .int .i64 fr, .int .i64 ep, .int .i64 pi, .int .i64 ge, .int .i64 se, .bool tx, .int .i64 ct, .slice A5 n5 c5] 38)).cell? ⟨w4.heap.size, 1, none⟩ = some (.int .i64 la) := HX_5a.out.cell 1; have hx5a_2 : (w5.alloc (.cells #[.int .i64 ba, .int .i64 la, .int .i64 fr, .int .i64 ep, .int .i64 pi, .int .i64 ge, .int .i64 se, .bool tx, .int .i64 ct, .slice A5 n5 c5] 38)).cell? ⟨w4.heap.size, 2, none⟩ = some (.int .i64 fr) := HX_5a.out.cell 2; have hx5a_3 : (w5.alloc (.cells #[.int .i64 ba, .int .i64 la, .int .i64 fr, .int .i64 ep, .int .i64 pi, .int .i64 ge, .int .i64 se, .bool tx, .int .i64 ct, .slice A5 n5 c5] 38)).cell? ⟨w4.heap.size, 3, none⟩ = some (.int .i64 ep) := HX_5a.out.cell 3; have hx5a_4 : (w5.alloc (.cells #[.int .i64 ba, .int .i64 la, .int .i64 fr, .int .i64 ep, .int .i64 pi, .int .i64 ge, .int .i64 se, .bool tx, .int .i64 ct, .slice A5 n5 c5] 38)).cell? ⟨w4.heap.size, 4, none⟩ = some (.int .i64 pi) := HX_5a.out.cell 4; have hx5a_5 : (w5.alloc (.cells #[.int .i64 ba, .int .i64 la, .int .i64 fr, .int .i64 ep, .int .i64 pi, .int .i64 ge, .int .i64 se, .bool tx, .int .i64 ct, .slice A5 n5 c5] 38)).cell? ⟨w4.heap.size, 5, none⟩ = some (.int .i64 ge) := HX_5a.out.cell 5; have hx5a_6 : (w5.alloc (.cells #[.int .i64 ba, .int .i64 la, .int .i64 fr, .int .i64 ep, .int .i64 pi, .int .i64 ge, .int .i64 se, .bool tx, .int .i64 ct, .slice A5 n5 c5] 38)).cell? ⟨w4.heap.size, 6, none⟩ = some (.int .i64 se) := HX_5a.out.cell 6; have hx5a_7 : (w5.alloc (.cells #[.int .i64 ba, .int .i64 la, .int .i64 fr, .int .i64 ep, .int .i64 pi, .int .i64 ge, .int .i64 se, .bool tx, .int .i64 ct, .slice A5 n5 c5] 38)).cell? ⟨w4.heap.size, 7, none⟩ = some (.bool tx) := HX_5a.out.cell 7; have hx5a_8 : (w5.alloc (.cells #[.int .i64 ba, .int .i64 la, .int .i64 fr, .int .i64 ep, .int .i64 pi, .int .i64 ge, .int .i64 se, .bool tx, .int .i64 ct, .slice A5 n5 c5] 38)).cell? ⟨w4.heap.size, 8, none⟩ = some (.int .i64 ct) := HX_5a.out.cell 8; have hx5a_9 : (w5.alloc (.cells #[.int .i64 ba, .int .i64 la, .int .i64 fr, .int .i64 ep, .int .i64 pi, .int .i64 ge, .int .i64 se, .bool tx, .int .i64 ct, .slice A5 n5 c5] 38)).cell? ⟨w4.heap.size, 9, none⟩ = some (.slice A0 n0 c0) := HX_5a.out.cell 9; clear hb hba hr5)
              | (go_at_call 19; (with_reducible refine (Since_is A n c sb l A3 n3 c3 m st HSI.out _ HR_5a.out hc HE_5a.out hcap3 (by omega) hi HT_5a.out).mono ?_); rintro e w6 ⟨rfl, hb⟩; have HW_6 := Lib.hid (bel_trans HW_5a.out hb); have HS_6 := Lib.hid (HS_5a.out.below hb); have HR_6 := Lib.hid (rdUp HR_5a.out hb); have HT_6 := Lib.hid (HT_5a.out.bel hb); have HE_6 := Lib.hid (rdeUp HE_5a.out hb); have HB_6 := Lib.hid (rdtUp HB_5a.out hb); have HX_6 := Lib.hid (HX_5a.out.below hb); have HP_6 := Lib.hid (rdrUp HP_5a.out hb); have HY_6 := Lib.hid (HY_5a.out.below hb); have HQ_6 := Lib.hid (rdrUp HQ_5a.out hb); have hs6_0 : w6.cell? ⟨w.heap.size, 0, none⟩ = some (.int .i64 sb) := HS_6.out.cell 0; have hs6_1 : w6.cell? ⟨w.heap.size, 1, none⟩ = some (.slice A n c) := HS_6.out.cell 1; have hx6_0 : w6.cell? ⟨w4.heap.size, 0, none⟩ = some (.int .i64 ba) := HX_6.out.cell 0; have hx6_1 : w6.cell? ⟨w4.heap.size, 1, none⟩ = some (.int .i64 la) := HX_6.out.cell 1; have hx6_2 : w6.cell? ⟨w4.heap.size, 2, none⟩ = some (.int .i64 fr) := HX_6.out.cell 2; have hx6_3 : w6.cell? ⟨w4.heap.size, 3, none⟩ = some (.int .i64 ep) := HX_6.out.cell 3; have hx6_4 : w6.cell? ⟨w4.heap.size, 4, none⟩ = some (.int .i64 pi) := HX_6.out.cell 4; have hx6_5 : w6.cell? ⟨w4.heap.size, 5, none⟩ = some (.int .i64 ge) := HX_6.out.cell 5; have hx6_6 : w6.cell? ⟨w4.heap.size, 6, none⟩ = some (.int .i64 se) := HX_6.out.cell 6; have hx6_7 : w6.cell? ⟨w4.heap.size, 7, none⟩ = some (.bool tx) := HX_6.out.cell 7; have hx6_8 : w6.cell? ⟨w4.heap.size, 8, none⟩ = some (.int .i64 ct) := HX_6.out.cell 8; have hx6_9 : w6.cell? ⟨w4.heap.size, 9, none⟩ = some (.slice A0 n0 c0) := HX_6.out.cell 9; have hy6_0 : w6.cell? ⟨w5.heap.size, 0, none⟩ = some (.int .i64 ba) := HY_6.out.cell 0; have hy6_1 : w6.cell? ⟨w5.heap.size, 1, none⟩ = some (.int .i64 la) := HY_6.out.cell 1; have hy6_2 : w6.cell? ⟨w5.heap.size, 2, none⟩ = some (.int .i64 fr) := HY_6.out.cell 2; have hy6_3 : w6.cell? ⟨w5.heap.size, 3, none⟩ = some (.int .i64 ep) := HY_6.out.cell 3; have hy6_4 : w6.cell? ⟨w5.heap.size, 4, none⟩ = some (.int .i64 pi) := HY_6.out.cell 4; have hy6_5 : w6.cell? ⟨w5.heap.size, 5, none⟩ = some (.int .i64 ge) := HY_6.out.cell 5; have hy6_6 : w6.cell? ⟨w5.heap.size, 6, none⟩ = some (.int .i64 se) := HY_6.out.cell 6; have hy6_7 : w6.cell? ⟨w5.heap.size, 7, none⟩ = some (.bool tx) := HY_6.out.cell 7; have hy6_8 : w6.cell? ⟨w5.heap.size, 8, none⟩ = some (.int .i64 ct) := HY_6.out.cell 8; have hy6_9 : w6.cell? ⟨w5.heap.size, 9, none⟩ = some (.slice A5 n5 c5) := HY_6.out.cell 9; clear hb)
              | (go_at_call 20; (with_reducible refine (BSame_is ba la fr ep pi ge se tx ct rs A0 n0 c0 ba la fr ep pi ge se tx ct rs A5 n5 c5 _ HP_6.out HQ_6.out hn0 hn5 (eqB_self _)).mono ?_); rintro e w7 ⟨rfl, hb⟩; have HW_7 := Lib.hid (bel_trans HW_6.out hb); have HS_7 := Lib.hid (HS_6.out.below hb); have HR_7 := Lib.hid (rdUp HR_6.out hb); have HT_7 := Lib.hid (HT_6.out.bel hb); have HE_7 := Lib.hid (rdeUp HE_6.out hb); have HB_7 := Lib.hid (rdtUp HB_6.out hb); have HX_7 := Lib.hid (HX_6.out.below hb); have HP_7 := Lib.hid (rdrUp HP_6.out hb); have HY_7 := Lib.hid (HY_6.out.below hb); have HQ_7 := Lib.hid (rdrUp HQ_6.out hb); clear hb))
            go_ret
            exact ⟨rfl, HW_7.out⟩
          · have HSI := Lib.hid (sx1 _ htn)
            clear htn sx1 sx2
            have hsr_0 : wr.cell? ⟨w.heap.size, 0, none⟩ = some (.int .i64 sb) := HS_r.out.cell 0
            have hsr_1 : wr.cell? ⟨w.heap.size, 1, none⟩ = some (.slice A n c) := HS_r.out.cell 1
            go_wp2_with (first
              | (go_at_call 18; (with_reducible refine (Find_is A n c sb l A3 n3 c3 m off HFD.out _ HR_r.out hc HE_r.out hcap3 (by omega) hi HT_r.out).mono ?_); rintro e w5 ⟨A5, n5, c5, rfl, hcap5, hn5, hr5, hb⟩; have HW_5 := Lib.hid (bel_trans HW_r.out hb); have HS_5 := Lib.hid (HS_r.out.below hb); have HR_5 := Lib.hid (rdUp HR_r.out hb); have HT_5 := Lib.hid (HT_r.out.bel hb); have HE_5 := Lib.hid (rdeUp HE_r.out hb); have HB_5 := Lib.hid (rdtUp HB_r.out hb); have HX_5 := Lib.hid (HX_r.out.below hb); have HP_5 := Lib.hid (rdrUp HP_r.out hb); have hba := belA w5 (.cells #[.int .i64 ba, .int .i64 la, .int .i64 fr, .int .i64 ep, .int .i64 pi, .int .i64 ge, .int .i64 se, .bool tx, .int .i64 ct, .slice A5 n5 c5] 38); have HW_5a := Lib.hid (bel_trans HW_5.out hba); have HS_5a := Lib.hid (HS_5.out.below hba); have HR_5a := Lib.hid (rdUp HR_5.out hba); have HT_5a := Lib.hid (HT_5.out.bel hba); have HE_5a := Lib.hid (rdeUp HE_5.out hba); have HB_5a := Lib.hid (rdtUp HB_5.out hba); have HX_5a := Lib.hid (HX_5.out.below hba); have HP_5a := Lib.hid (rdrUp HP_5.out hba); have HY_5a := Lib.hid (At0.new w5 [.int .i64 ba, .int .i64 la, .int .i64 fr, .int .i64 ep, .int .i64 pi, .int .i64 ge, .int .i64 se, .bool tx, .int .i64 ct, .slice A5 n5 c5] 38); have HQ_5a := Lib.hid (rdrUp hr5 hba); have hs5a_0 : (w5.alloc (.cells #[.int .i64 ba, .int .i64 la, .int .i64 fr, .int .i64 ep, .int .i64 pi, .int .i64 ge, .int .i64 se, .bool tx, .int .i64 ct, .slice A5 n5 c5] 38)).cell? ⟨w.heap.size, 0, none⟩ = some (.int .i64 sb) := HS_5a.out.cell 0; have hs5a_1 : (w5.alloc (.cells #[.int .i64 ba, .int .i64 la, .int .i64 fr, .int .i64 ep, .int .i64 pi, .int .i64 ge, .int .i64 se, .bool tx, .int .i64 ct, .slice A5 n5 c5] 38)).cell? ⟨w.heap.size, 1, none⟩ = some (.slice A n c) := HS_5a.out.cell 1; have hx5a_0 : (w5.alloc (.cells #[.int .i64 ba, .int .i64 la, .int .i64 fr, .int .i64 ep, .int .i64 pi, .int .i64 ge, .int .i64 se, .bool tx, .int .i64 ct, .slice A5 n5 c5] 38)).cell? ⟨w4.heap.size, 0, none⟩ = some (.int .i64 ba) := HX_5a.out.cell 0; have hx5a_1 : (w5.alloc (.cells #[.int .i64 ba, .int .i64 la, .int .i64 fr, .int .i64 ep, .int .i64 pi, .int .i64 ge, .int .i64 se, .bool tx, .int .i64 ct, .slice A5 n5 c5] 38)).cell? ⟨w4.heap.size, 1, none⟩ = some (.int .i64 la) := HX_5a.out.cell 1; have hx5a_2 : (w5.alloc (.cells #[.int .i64 ba, .int .i64 la, .int .i64 fr, .int .i64 ep, .int .i64 pi, .int .i64 ge, .int .i64 se, .bool tx, .int .i64 ct, .slice A5 n5 c5] 38)).cell? ⟨w4.heap.size, 2, none⟩ = some (.int .i64 fr) := HX_5a.out.cell 2; have hx5a_3 : (w5.alloc (.cells #[.int .i64 ba, .int .i64 la, .int .i64 fr, .int .i64 ep, .int .i64 pi, .int .i64 ge, .int .i64 se, .bool tx, .int .i64 ct, .slice A5 n5 c5] 38)).cell? ⟨w4.heap.size, 3, none⟩ = some (.int .i64 ep) := HX_5a.out.cell 3; have hx5a_4 : (w5.alloc (.cells #[.int .i64 ba, .int .i64 la, .int .i64 fr, .int .i64 ep, .int .i64 pi, .int .i64 ge, .int .i64 se, .bool tx, .int .i64 ct, .slice A5 n5 c5] 38)).cell? ⟨w4.heap.size, 4, none⟩ = some (.int .i64 pi) := HX_5a.out.cell 4; have hx5a_5 : (w5.alloc (.cells #[.int .i64 ba, .int .i64 la, .int .i64 fr, .int .i64 ep, .int .i64 pi, .int .i64 ge, .int .i64 se, .bool tx, .int .i64 ct, .slice A5 n5 c5] 38)).cell? ⟨w4.heap.size, 5, none⟩ = some (.int .i64 ge) := HX_5a.out.cell 5; have hx5a_6 : (w5.alloc (.cells #[.int .i64 ba, .int .i64 la, .int .i64 fr, .int .i64 ep, .int .i64 pi, .int .i64 ge, .int .i64 se, .bool tx, .int .i64 ct, .slice A5 n5 c5] 38)).cell? ⟨w4.heap.size, 6, none⟩ = some (.int .i64 se) := HX_5a.out.cell 6; have hx5a_7 : (w5.alloc (.cells #[.int .i64 ba, .int .i64 la, .int .i64 fr, .int .i64 ep, .int .i64 pi, .int .i64 ge, .int .i64 se, .bool tx, .int .i64 ct, .slice A5 n5 c5] 38)).cell? ⟨w4.heap.size, 7, none⟩ = some (.bool tx) := HX_5a.out.cell 7; have hx5a_8 : (w5.alloc (.cells #[.int .i64 ba, .int .i64 la, .int .i64 fr, .int .i64 ep, .int .i64 pi, .int .i64 ge, .int .i64 se, .bool tx, .int .i64 ct, .slice A5 n5 c5] 38)).cell? ⟨w4.heap.size, 8, none⟩ = some (.int .i64 ct) := HX_5a.out.cell 8; have hx5a_9 : (w5.alloc (.cells #[.int .i64 ba, .int .i64 la, .int .i64 fr, .int .i64 ep, .int .i64 pi, .int .i64 ge, .int .i64 se, .bool tx, .int .i64 ct, .slice A5 n5 c5] 38)).cell? ⟨w4.heap.size, 9, none⟩ = some (.slice A0 n0 c0) := HX_5a.out.cell 9; clear hb hba hr5)
              | (go_at_call 19; (with_reducible refine (Since_is A n c sb l A3 n3 c3 m st HSI.out _ HR_5a.out hc HE_5a.out hcap3 (by omega) hi HT_5a.out).mono ?_); rintro e w6 ⟨rfl, hb⟩; have HW_6 := Lib.hid (bel_trans HW_5a.out hb); have HS_6 := Lib.hid (HS_5a.out.below hb); have HR_6 := Lib.hid (rdUp HR_5a.out hb); have HT_6 := Lib.hid (HT_5a.out.bel hb); have HE_6 := Lib.hid (rdeUp HE_5a.out hb); have HB_6 := Lib.hid (rdtUp HB_5a.out hb); have HX_6 := Lib.hid (HX_5a.out.below hb); have HP_6 := Lib.hid (rdrUp HP_5a.out hb); have HY_6 := Lib.hid (HY_5a.out.below hb); have HQ_6 := Lib.hid (rdrUp HQ_5a.out hb); have hs6_0 : w6.cell? ⟨w.heap.size, 0, none⟩ = some (.int .i64 sb) := HS_6.out.cell 0; have hs6_1 : w6.cell? ⟨w.heap.size, 1, none⟩ = some (.slice A n c) := HS_6.out.cell 1; have hx6_0 : w6.cell? ⟨w4.heap.size, 0, none⟩ = some (.int .i64 ba) := HX_6.out.cell 0; have hx6_1 : w6.cell? ⟨w4.heap.size, 1, none⟩ = some (.int .i64 la) := HX_6.out.cell 1; have hx6_2 : w6.cell? ⟨w4.heap.size, 2, none⟩ = some (.int .i64 fr) := HX_6.out.cell 2; have hx6_3 : w6.cell? ⟨w4.heap.size, 3, none⟩ = some (.int .i64 ep) := HX_6.out.cell 3; have hx6_4 : w6.cell? ⟨w4.heap.size, 4, none⟩ = some (.int .i64 pi) := HX_6.out.cell 4; have hx6_5 : w6.cell? ⟨w4.heap.size, 5, none⟩ = some (.int .i64 ge) := HX_6.out.cell 5; have hx6_6 : w6.cell? ⟨w4.heap.size, 6, none⟩ = some (.int .i64 se) := HX_6.out.cell 6; have hx6_7 : w6.cell? ⟨w4.heap.size, 7, none⟩ = some (.bool tx) := HX_6.out.cell 7; have hx6_8 : w6.cell? ⟨w4.heap.size, 8, none⟩ = some (.int .i64 ct) := HX_6.out.cell 8; have hx6_9 : w6.cell? ⟨w4.heap.size, 9, none⟩ = some (.slice A0 n0 c0) := HX_6.out.cell 9; have hy6_0 : w6.cell? ⟨w5.heap.size, 0, none⟩ = some (.int .i64 ba) := HY_6.out.cell 0; have hy6_1 : w6.cell? ⟨w5.heap.size, 1, none⟩ = some (.int .i64 la) := HY_6.out.cell 1; have hy6_2 : w6.cell? ⟨w5.heap.size, 2, none⟩ = some (.int .i64 fr) := HY_6.out.cell 2; have hy6_3 : w6.cell? ⟨w5.heap.size, 3, none⟩ = some (.int .i64 ep) := HY_6.out.cell 3; have hy6_4 : w6.cell? ⟨w5.heap.size, 4, none⟩ = some (.int .i64 pi) := HY_6.out.cell 4; have hy6_5 : w6.cell? ⟨w5.heap.size, 5, none⟩ = some (.int .i64 ge) := HY_6.out.cell 5; have hy6_6 : w6.cell? ⟨w5.heap.size, 6, none⟩ = some (.int .i64 se) := HY_6.out.cell 6; have hy6_7 : w6.cell? ⟨w5.heap.size, 7, none⟩ = some (.bool tx) := HY_6.out.cell 7; have hy6_8 : w6.cell? ⟨w5.heap.size, 8, none⟩ = some (.int .i64 ct) := HY_6.out.cell 8; have hy6_9 : w6.cell? ⟨w5.heap.size, 9, none⟩ = some (.slice A5 n5 c5) := HY_6.out.cell 9; clear hb)
              | (go_at_call 20; (with_reducible refine (BSame_is ba la fr ep pi ge se tx ct rs A0 n0 c0 ba la fr ep pi ge se tx ct rs A5 n5 c5 _ HP_6.out HQ_6.out hn0 hn5 (eqB_self _)).mono ?_); rintro e w7 ⟨rfl, hb⟩; have HW_7 := Lib.hid (bel_trans HW_6.out hb); have HS_7 := Lib.hid (HS_6.out.below hb); have HR_7 := Lib.hid (rdUp HR_6.out hb); have HT_7 := Lib.hid (HT_6.out.bel hb); have HE_7 := Lib.hid (rdeUp HE_6.out hb); have HB_7 := Lib.hid (rdtUp HB_6.out hb); have HX_7 := Lib.hid (HX_6.out.below hb); have HP_7 := Lib.hid (rdrUp HP_6.out hb); have HY_7 := Lib.hid (HY_6.out.below hb); have HQ_7 := Lib.hid (rdrUp HQ_6.out hb); clear hb))
            go_ret
            exact ⟨rfl, HW_7.out⟩
end Go.Proofs.YtbnkfljkojhkoaaDoor.Idx

namespace Go.Proofs.YtbnkfljkojhkoaaDoor.indexWhole
open Go.ChangeShapes Go.WideShapes Go.ChangeAt Go.RowKit

theorem own : ownKnob Tryd.prog.godebug = none := by kernel_rfl
theorem laidOut : laidOutB Tryd.prog = true := by kernel_rfl

set_option maxRecDepth 100000 in
theorem lifted (os : Os) (started : os.Started) (H : Type) (enc : TypeId × Value → H) :
    ReturnsInHanded {} Tryd.checked os 6 .any (fun w args => (Rows.indexWholeSpec.pre enc Tryd.prog Tryd.f6 [] false w args ∧ laidMetH Tryd.prog Crc.listed w) ∧ sizedMet enc Tryd.prog Tryd.f6 (OpenSpec.ofChange Rows.indexWholeSpec) false w args)
      (Rows.indexWholeSpec.post enc Tryd.prog Tryd.f6 false true false false) := by
  refine returnsInHanded_of_change_and (C := Tryd.checked) (X := fun w _ => laidMetH Tryd.prog Crc.listed w) (fun _ _ _ hh h => h.of_heap hh) own started (by kernel_rfl) Tryd.func6
    (ChangeSpec.witness_shaped (enc := enc) (C := Tryd.checked) (os := os) (X := fun w _ => laidMetH Tryd.prog Crc.listed w) false (World.doorLaid Tryd.prog 400 os) #[.agg #[.int .i64 0, .slice none 0 0], .int .i64 0, .int .i64 0, .int .i64 0] 8 rfl (World.shaped_of_RefB (by kernel_rfl) (by kernel_rfl)) (by kernel_rfl) (by kernel_rfl) (by kernel_rfl) (Crc.door_met os _)) ?_
  intro W base args ds gs before hval0 hW _ hwt hL _
  have hval : ∀ (j : Nat) t v, Tryd.f6.params[j]? = some t → args[j]? = some v → Value.okWide Tryd.prog W .any base t v := hval0
  have hW' := hW
  obtain ⟨p, q, hA0, hV, rfl, hfz, hnd⟩ := hW
  have hA : DataW.TrodAll enc Tryd.prog W 0 (fun _ => true) true Tryd.f6.params.toList args.toList ds p := hA0
  rw [Tryd.params6] at hA hval
  obtain ⟨v0, vs0, d0, ds0, p0, q0, hargs, rfl, rfl, h0, r0⟩ := trodAll_cons hA
  obtain ⟨v1, vs1, d1, ds1, p1, q1, rfl, rfl, rfl, h1, r1⟩ := trodAll_cons r0
  obtain ⟨v2, vs2, d2, ds2, p2, q2, rfl, rfl, rfl, h2, r2⟩ := trodAll_cons r1
  obtain ⟨v3, vs3, d3, ds3, p3, q3, rfl, rfl, rfl, h3, r3⟩ := trodAll_cons r2
  obtain ⟨rfl, rfl, rfl⟩ := trodAll_nil r3
  obtain rfl : args = #[v0, v1, v2, v3] := by cases args; simp_all
  obtain ⟨rfl, rfl⟩ := trodVars_none hV
  have k0 := h0
  have lt0 : ∀ x ∈ p0, x.block < W.heap.size := by obtain ⟨m, hm⟩ := k0; exact DataW.trod_lt m _ _ _ hm
  obtain ⟨sb_0, A_0, n_0, c_0, l_0, rfl, hi_0, hc_0, hk_0, hR_0⟩ := Seg.open_seg (hval 0 28 v0 rfl rfl) h0 (Bat.weights_arg (j := 0) hwt (by kernel_rfl) rfl)
  have k1 := h1
  have lt1 : ∀ x ∈ p1, x.block < W.heap.size := by obtain ⟨m, hm⟩ := k1; exact DataW.trod_lt m _ _ _ hm
  obtain ⟨a1, rfl, hi1⟩ := Oct.open_i64 Tryd.underlying3 (hval 1 3 v1 rfl rfl) h1
  have k2 := h2
  have lt2 : ∀ x ∈ p2, x.block < W.heap.size := by obtain ⟨m, hm⟩ := k2; exact DataW.trod_lt m _ _ _ hm
  obtain ⟨a2, rfl, hi2⟩ := Oct.open_i64 Tryd.underlying3 (hval 2 3 v2 rfl rfl) h2
  have k3 := h3
  have lt3 : ∀ x ∈ p3, x.block < W.heap.size := by obtain ⟨m, hm⟩ := k3; exact DataW.trod_lt m _ _ _ hm
  obtain ⟨a3, rfl, hi3⟩ := Oct.open_i64 Tryd.underlying3 (hval 3 3 v3 rfl rfl) h3
  clear hA0 hval0
  refine (Idx.indexWhole_walk sb_0 A_0 n_0 c_0 l_0 a1 a2 a3 W hi_0 hc_0 hk_0 hR_0 hi1 hi2 hi3 (Crc.tab_of_laid hL)).mono fun e W' ⟨he, bel⟩ => ?_
  subst he
  exact ⟨_, rfl, _, _, _, [], _, [], hW', trodAll_mk1 (shut_bool Tryd.underlying4 _), (trodAll_cons_mk (Below.trod laidOut (by kernel_rfl) (of_decide_eq_true (by kernel_rfl)) k0 bel lt0) (trodAll_cons_mk (Below.trod laidOut (by kernel_rfl) (of_decide_eq_true (by kernel_rfl)) k1 bel lt1) (trodAll_cons_mk (Below.trod laidOut (by kernel_rfl) (of_decide_eq_true (by kernel_rfl)) k2 bel lt2) (trodAll_cons_mk (Below.trod laidOut (by kernel_rfl) (of_decide_eq_true (by kernel_rfl)) k3 bel lt3) trodAll_mk0)))), rfl, bel.frame _, fun h => by cases h⟩

theorem over : Rows.indexWholeRow.holds Tryd.pinned (OpenSpec.ofChange Rows.indexWholeSpec) :=
  OpenClaim.holds_of_wide 6 Tryd.f6 rfl rfl rfl rfl rfl rfl rfl ⟨rfl, rfl, rfl, rfl, rfl⟩ rfl rfl rfl rfl rfl (by kernel_rfl) Tryd.func6 (by kernel_rfl)
    (of_decide_eq_true (by kernel_rfl)) (by unfold Func.isWrapper; first | (rw [if_pos (by decide +kernel)]; kernel_rfl) | (rw [if_neg (by decide +kernel)]; exact ⟨rfl, rfl⟩))
    (fun os started H enc _ => lifted os started H enc)

theorem proved : Rows.IndexWholeCardSaid :=
  Claim7.holds_tied_plain_at .later [] [.data] true (true, "41be7e607d66cfdd6008461b4b7c97f5871f9791b8cb61aa2317aa8070baa326") false
    over (fun _ h => by cases h) (by kernel_rfl) (fun _ h => by cases h) indexWhole_row_tie rfl ⟨rfl, rfl⟩ (by kernel_rfl) rfl
    (fun f fn hf hfn => by
      obtain rfl : f = 6 := Option.some.inj ((show Tryd.prog.funcNamed "watermeet/watermeetlaw08.IndexWhole" = some 6 by kernel_rfl).symm.trans hf) |>.symm
      obtain rfl : fn = Tryd.f6 := (Option.some.inj (Tryd.func6.symm.trans hfn)).symm
      exact ⟨by kernel_rfl, fun j t ht => by
        rw [Tryd.params6] at ht
        have hm : t ∈ [28, 3, 3, 3] := by simpa using Array.mem_of_getElem? ht
        have hall : ([28, 3, 3, 3].all fun u => !Tryd.prog.wantsStandIn u) = true := by kernel_rfl
        exact (show Tryd.prog.wantsStandIn t = false by simpa using List.all_eq_true.1 hall t hm)⟩)
    (by kernel_rfl)
#print axioms proved
end Go.Proofs.YtbnkfljkojhkoaaDoor.indexWhole
