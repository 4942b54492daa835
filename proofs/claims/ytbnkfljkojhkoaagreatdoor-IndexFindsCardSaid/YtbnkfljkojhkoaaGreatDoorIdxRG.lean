/- Joined: IdxRG. -/
import Derived.Test.YtbnkfljkojhkoaaGreatDoorIdxC
import Derived.Test.YtbnkfljkojhkoaaGreatDoorSegR1
import Derived.Test.YtbnkfljkojhkoaaGreatDoorJBatK
import Derived.Test.YtbnkfljkojhkoaaGreatDoorJSegM
/- The document's Right and entries. -/
namespace Go.Proofs.YtbnkfljkojhkoaaGreatDoor.Idx
open Go.RowKit Oct Rec Crc Bat Seg RowF RowL

theorem refScan8 {A : Option Addr} {n c : Nat} {base : Int} {bs : List UInt8} {L : List Bt} {g : Nat} (h : sc base bs = (L, g)) {w : World} (hr : Rd w w.heap.size A n bs) (hc : n ≤ c) (hn : n ≤ 137438953472) (hI : I64 base) :
    Calls Tryz.prog 26 #[.agg #[.int .i64 base, .slice A n c]] w (RSc w L g) := by
  have h1 := refScan_any A n c base bs w hr hc hn hI
  rw [h] at h1
  exact h1
set_option maxRecDepth 100000 in
set_option maxHeartbeats 2000000 in
theorem refRight_any (A : Option Addr) (n c : Nat) (base : Int) (bs : List UInt8) (w : World) (hr : Rd w w.heap.size A n bs) (hc : n ≤ c) (hI : I64 base) :
    Calls Tryz.prog 22 #[.agg #[.int .i64 base, .slice A n c]] w fun e w' => e = .returned (.bool (rightX ⟨base, bs⟩)) ∧ Below w.heap.size w w' := by
  have HR := Lib.hid (rdUp hr (belA w (.cells #[.int .i64 base, .slice A n c] 24)))
  have HLN := Lib.hid hr.len
  have HB := Lib.hid (belA w (.cells #[.int .i64 base, .slice A n c] 24))
  clear hr
  by_cases h1 : base < 0
  · have HE := Lib.hid (show rightX ⟨base, bs⟩ = false by simp [rightX, wholeS]; omega)
    go_enter Tryz.func22, Tryz.ntmps22
    go_wp2
    go_ret
    exact ⟨by rw [HE.out]; rfl, HB.out⟩
  by_cases h2 : 1099511627776 < base
  · have HE := Lib.hid (show rightX ⟨base, bs⟩ = false by simp [rightX, wholeS]; omega)
    go_enter Tryz.func22, Tryz.ntmps22
    go_wp2
    go_ret
    exact ⟨by rw [HE.out]; rfl, HB.out⟩
  by_cases h3 : 4096 < n
  · have HE := Lib.hid (show rightX ⟨base, bs⟩ = false by have := HLN.out; simp [rightX]; omega)
    have h3' : (4096 : Int) < (n : Int) := by omega
    go_enter Tryz.func22, Tryz.ntmps22
    go_wp2
    go_ret
    exact ⟨by rw [HE.out]; rfl, HB.out⟩
  have h3' : ¬ (4096 : Int) < (n : Int) := by omega
  rcases hs : sc base bs with ⟨L, g⟩
  have HS := Lib.hid hs
  have HE := Lib.hid (show rightX ⟨base, bs⟩ = ((g : Int) == (n : Int)) by
    have h5 : goodS ⟨base, bs⟩ = g := by unfold goodS; simp only; rw [hs]
    rw [← HLN.out]
    by_cases hg : g = bs.length
    · subst hg
      rw [show rightX ⟨base, bs⟩ = true by have := HLN.out; simp [rightX, wholeS, h5]; omega]
      simp
    · rw [show rightX ⟨base, bs⟩ = false by simp [rightX, wholeS, h5]; omega]
      exact (beqF (by omega)).symm)
  clear hs h3
  go_enter Tryz.func22, Tryz.ntmps22
  go_wp2_with (first
    | (go_at_call 26; (with_reducible refine (refScan8 HS.out HR.out hc (by omega) hI).mono ?_); rintro e w2 ⟨A2, n2, c2, rfl, ho2, hb2⟩; have q1 := (hb2.cell (p := ⟨w.heap.size, 1, none⟩) (by simp)).trans (show _ = some (.slice A n c) by simp [go_sem]); have HB2 := Lib.hid (bel_trans HB.out hb2); clear ho2 hb2))
  go_ret
  exact ⟨by rw [HE.out]; rfl, HB2.out⟩
theorem max_if (a b : Int) : max a b = if a < b then b else a := by by_cases h : a < b <;> simp only [h, if_true, if_false] <;> omega
theorem mx_step {m : Int} {rs : List Rc} {k : Nat} {r : Rc} (h : rs[k]? = some r) : mx m (rs.take (k + 1)) = max (mx m (rs.take k)) r.stamp := by
  rw [List.take_add_one, h]
  exact mx_snoc _ _ _
theorem endP_step {p : Int} {L : List Bt} {j : Nat} {b : Bt} (h : L[j]? = some b) : endP p (L.take (j + 1)) = endP p (L.take j) + (byB b).length := by
  rw [endP_is, endP_is, byR_take_succ h]
  omega
theorem endM_app {m : Int} {bs cs : List Bt} : endM m (bs ++ cs) = endM (endM m bs) cs := by
  induction bs generalizing m with
  | nil => rfl
  | cons b bs ih => exact ih
theorem endM_step {m : Int} {L : List Bt} {j : Nat} {b : Bt} (h : L[j]? = some b) : endM m (L.take (j + 1)) = mx (endM m (L.take j)) b.recs := by
  rw [List.take_add_one, h, endM_app]
  rfl
theorem ents_step {L : List Bt} {j : Nat} {b : Bt} (h : L[j]? = some b) : ents 0 (-1) (L.take (j + 1)) = ents 0 (-1) (L.take j) ++ [⟨b.base, endP 0 (L.take j), mx (endM (-1) (L.take j)) b.recs⟩] := by
  rw [List.take_add_one, h, ents_app]
  rfl
def reEnt (L : List Bt) (n N : Nat) (w : World) (vp vm vo vi : Value) (wr : World) : Prop :=
  ∃ (j : Nat) (A8 : Option Addr) (n8 c8 : Nat), vp = .int .i64 (endP 0 (L.take j)) ∧ vm = .int .i64 (endM (-1) (L.take j)) ∧ vo = .slice A8 n8 c8 ∧ vi = .int .i64 (j : Int) ∧ j ≤ n ∧ OwnE wr N (.slice A8 n8 c8) n8 (ents 0 (-1) (L.take j)) ∧ Below N w wr
def reMax (m : Int) (rs : List Rc) (n : Nat) (wa : World) (vm vk : Value) (wr : World) : Prop :=
  ∃ k : Nat, vk = .int .i64 (k : Int) ∧ k ≤ n ∧ vm = .int .i64 (mx m (rs.take k)) ∧ wa = wr
set_option maxRecDepth 100000 in
set_option maxHeartbeats 4000000 in
theorem refEntries_any (A : Option Addr) (n c : Nat) (base : Int) (bs : List UInt8) (hrx : rightX ⟨base, bs⟩ = true) (w : World) (hr : Rd w w.heap.size A n bs) (hc : n ≤ c) (hI : I64 base) :
    Calls Tryz.prog 23 #[.agg #[.int .i64 base, .slice A n c]] w fun e w' => ∃ A1 n1 c1, e = .returned (.slice A1 n1 c1) ∧ OwnE w' w.heap.size (.slice A1 n1 c1) n1 (allE ⟨base, bs⟩) ∧ Below w.heap.size w w' := by
  have HR := Lib.hid (rdUp hr (belA w (.cells #[.int .i64 base, .slice A n c] 24)))
  have HB := Lib.hid (belA w (.cells #[.int .i64 base, .slice A n c] 24))
  have HLN := Lib.hid hr.len
  obtain ⟨hris, hbs, hlen⟩ := allE_right hrx
  obtain ⟨L, hL⟩ : ∃ L, L = batS ⟨base, bs⟩ := ⟨_, rfl⟩
  have HALL := Lib.hid (show allE ⟨base, bs⟩ = ents 0 (-1) L by rw [hL]; rfl)
  rw [← hL] at hris hbs
  simp only at hris hbs hlen
  have HSC := Lib.hid (show sc base bs = (L, n) from (by have h := sc_whole hris; rw [← hbs] at h; rw [h, HLN.out]))
  have HCH := Lib.hid (ris_all hris)
  have HBL := Lib.hid (show (byR L).length = n by rw [← hbs]; exact HLN.out)
  have hn : n ≤ 4096 := by have := HLN.out; omega
  have hLl : L.length ≤ 4096 := by have h5 := byR_ge L; rw [← hbs] at h5; omega
  clear hr hris hbs hlen hL hrx
  go_enter Tryz.func23, Tryz.ntmps23
  go_wp2_with (first
    | (go_at_call 26; (with_reducible refine (refScan8 HSC.out HR.out hc (by omega) hI).mono ?_); rintro e w2 ⟨A2, n2, c2, rfl, ho2, hb2⟩; have HB2 := Lib.hid (bel_trans HB.out hb2); have HT2 := Lib.hid ho2.rd; have HBN := Lib.hid (show L.length = n2 from ho2.len); have hn2 : n2 ≤ 4096 := (by have := HBN.out; omega); have hcap2 := ho2.cap; clear ho2 hb2))
  go_loopw [5, 6, 7, 8] (fun vp vm vo vi wr => reEnt L n2 w2.heap.size w2 vp vm vo vi wr) (fun _ _ _ vi _ => n2 - (intOf vi).toNat)
  case atStart => exact ⟨0, none, 0, 0, by rw [List.take_zero]; rfl, by rw [List.take_zero]; rfl, rfl, rfl, Nat.zero_le _, by rw [List.take_zero]; exact OwnF.nil, Below.refl _ _⟩
  case round =>
    obtain ⟨j, A8, n8, c8, rfl, rfl, rfl, rfl, hj, ho8, hb⟩ := hrel
    have hsz := hb.size
    have HO8 := Lib.hid ho8
    have HBR := Lib.hid hb
    have hn8 : n8 = j := by have h1 := ho8.len enS; have h2 := ents_len 0 (-1) (L.take j); rw [List.length_take] at h2; have := HBN.out; omega
    subst hn8
    clear ho8
    by_cases hlt : n8 < n2
    · obtain ⟨b, o, x, A9, n9, c9, rfl, hbl, hxk, hc9, hn9, hrd, hft, hcell⟩ := (HT2.out.below hb (Nat.le_refl _)).at (k := n8) hlt
      have hchb := HCH.out _ (List.mem_of_getElem? hxk)
      have HSZ := Lib.hid (szB_ok hchb)
      have HEP := Lib.hid (endP_step (p := 0) hxk)
      have HEM := Lib.hid (endM_step (m := -1) hxk)
      have HES := Lib.hid (ents_step hxk)
      have hple : (byR (L.take (n8 + 1))).length ≤ n := by have e := congrArg (fun x => (byR x).length) (List.take_append_drop (n8 + 1) L); simp only [byR_app, List.length_append] at e; rw [← HBL.out]; omega
      have hpp : endP 0 (L.take n8) = ((byR (L.take n8)).length : Int) := by rw [endP_is, Int.zero_add]
      have hpq : endP 0 (L.take (n8 + 1)) = ((byR (L.take (n8 + 1))).length : Int) := by rw [endP_is, Int.zero_add]
      obtain ⟨ba, la, fr, ep, pi, ge, se, tx, ct, rs⟩ := x
      obtain ⟨Y, hY⟩ : ∃ Y, Y = (byB ⟨ba, la, fr, ep, pi, ge, se, tx, ct, rs⟩).length := ⟨_, rfl⟩
      obtain ⟨P, hP⟩ : ∃ P, P = endP 0 (L.take n8) := ⟨_, rfl⟩
      obtain ⟨M, hM⟩ : ∃ M, M = endM (-1) (L.take n8) := ⟨_, rfl⟩
      rw [← hY] at HSZ HEP
      rw [← hP] at HEP HES hpp ⊢
      rw [← hM] at HEM HES ⊢
      have hPY : 0 ≤ P ∧ P + Y ≤ 4096 := by have h := HEP.out; omega
      have hwp : IntKind.i64.wrap (P + (Y : Int)) = P + (Y : Int) := IntWalk.i64_in _ (by omega)
      have HFT := Lib.hid hft
      have HRD := Lib.hid hrd
      have HCE := Lib.hid hcell
      have a9 : wr.cell? ⟨b, o + n8 * 10 + 9, none⟩ = some (.slice A9 n9 c9) := hcell 9 _ rfl
      clear hb hxk hchb hple hpp hpq hY hP hM hcell hrd hft
      go_wp2
      obtain ⟨wa, rfl⟩ : ∃ wa, wa = wr := ⟨_, rfl⟩
      go_loopw [6, 9] (fun vm vk wr => reMax M rs n9 wa vm vk wr) (fun _ vk _ => n9 - (intOf vk).toNat)
      case atStart => exact ⟨0, rfl, Nat.zero_le _, by rw [List.take_zero]; rfl, rfl⟩
      case round =>
        obtain ⟨k, rfl, hk, rfl, rfl⟩ := hrel
        by_cases hk2 : k < n9
        · obtain ⟨b2, o2, r, rfl, hbl2, hrk, c0, c1', c2', c3, c4⟩ := HRD.out.at hk2
          have HST := Lib.hid (mx_step (m := M) hrk)
          obtain ⟨Q, hQ⟩ : ∃ Q, Q = mx M (rs.take k) := ⟨_, rfl⟩
          rw [← hQ] at HST ⊢
          obtain ⟨r0, rk, rv, rd, r4⟩ := r
          simp only at c4
          clear c0 c1' c2' c3 hrk hQ
          go_wp2
          go_roundw
          case rel => exact ⟨k + 1, by go_num, by omega, by rw [HST.out, max_if], rfl⟩
          case measure => simp [intOf]; omega
        · obtain rfl : k = n9 := by omega
          have hall : rs.take k = rs := List.take_of_length_le (by have := HRD.out.1; omega)
          rw [hall]
          obtain ⟨Q, hQ⟩ : ∃ Q, Q = mx M rs := ⟨_, rfl⟩
          rw [← hQ] at HEM HES ⊢
          have a0 : wa.cell? ⟨b, o + n8 * 10, none⟩ = some (.int .i64 ba) := HCE.out 0 _ rfl
          obtain ⟨A7, c7, w7, hrun, ho7, hg7, hbel7⟩ := run_appE w2.heap.size HO8.out ⟨ba, P, Q⟩ (by omega) (by omega)
          dsimp only [enC] at hrun hg7
          have HO7 := Lib.hid ho7
          have HB7 := Lib.hid (HBR.out.trans hbel7)
          have b0 : w7.cell? ⟨b, o + n8 * 10, none⟩ = some (.int .i64 ba) := (hbel7.cell (p := ⟨b, o + n8 * 10, none⟩) hbl).trans (HCE.out 0 _ rfl)
          have b1 : w7.cell? ⟨b, o + n8 * 10 + 1, none⟩ = some (.int .i64 la) := (hbel7.cell (p := ⟨b, o + n8 * 10 + 1, none⟩) hbl).trans (HCE.out 1 _ rfl)
          have b2 : w7.cell? ⟨b, o + n8 * 10 + 2, none⟩ = some (.int .i64 fr) := (hbel7.cell (p := ⟨b, o + n8 * 10 + 2, none⟩) hbl).trans (HCE.out 2 _ rfl)
          have b3 : w7.cell? ⟨b, o + n8 * 10 + 3, none⟩ = some (.int .i64 ep) := (hbel7.cell (p := ⟨b, o + n8 * 10 + 3, none⟩) hbl).trans (HCE.out 3 _ rfl)
          have b4 : w7.cell? ⟨b, o + n8 * 10 + 4, none⟩ = some (.int .i64 pi) := (hbel7.cell (p := ⟨b, o + n8 * 10 + 4, none⟩) hbl).trans (HCE.out 4 _ rfl)
          have b5 : w7.cell? ⟨b, o + n8 * 10 + 5, none⟩ = some (.int .i64 ge) := (hbel7.cell (p := ⟨b, o + n8 * 10 + 5, none⟩) hbl).trans (HCE.out 5 _ rfl)
          have b6 : w7.cell? ⟨b, o + n8 * 10 + 6, none⟩ = some (.int .i64 se) := (hbel7.cell (p := ⟨b, o + n8 * 10 + 6, none⟩) hbl).trans (HCE.out 6 _ rfl)
          have b7 : w7.cell? ⟨b, o + n8 * 10 + 7, none⟩ = some (.bool tx) := (hbel7.cell (p := ⟨b, o + n8 * 10 + 7, none⟩) hbl).trans (HCE.out 7 _ rfl)
          have b8 : w7.cell? ⟨b, o + n8 * 10 + 8, none⟩ = some (.int .i64 ct) := (hbel7.cell (p := ⟨b, o + n8 * 10 + 8, none⟩) hbl).trans (HCE.out 8 _ rfl)
          have b9 : w7.cell? ⟨b, o + n8 * 10 + 9, none⟩ = some (.slice A9 k c9) := (hbel7.cell (p := ⟨b, o + n8 * 10 + 9, none⟩) hbl).trans (HCE.out 9 _ rfl)
          have HRD7 := Lib.hid ((HRD.out.below hbel7 (Nat.le_refl _)).more (show w2.heap.size ≤ w7.heap.size by have := hbel7.size; omega))
          clear ho7 hg7 hbel7 hQ
          go_wp2_with (first
            | (at_builtin; refine wpList_app_run rfl _ _ 25 rfl rfl rfl hrun ?_)
            | (go_at_call 35; (with_reducible refine (refSizeB_is ba la fr ep pi ge se tx ct rs A9 _ c9 _ HFT.out HRD7.out hn9 HSZ.out).mono ?_); rintro e w8 ⟨rfl, hb8⟩; have HB8 := Lib.hid (HB7.out.trans (hb8.mono (by have := HB7.out.size; omega))); have HO8' := Lib.hid (OwnF.below HO7.out (hb8.mono (by have := HB7.out.size; omega))); clear hb8))
          go_roundw
          case rel => exact ⟨n8 + 1, A7, n8 + 1, c7, by rw [HEP.out], by rw [HEM.out], rfl, by go_num, by omega, by rw [HES.out]; exact HO8'.out, HB8.out⟩
          case measure => simp [intOf]; omega
    · obtain rfl : n8 = n2 := by omega
      have hall : L.take n8 = L := List.take_of_length_le (by have := HBN.out; omega)
      rw [hall] at HO8 ⊢
      clear hb hall
      go_wp2
      go_ret
      exact ⟨A8, n8, c8, rfl, by rw [HALL.out]; exact OwnF.more HO8.out (by have := HB2.out.size; omega), HB2.out.trans (HBR.out.mono (by have := HB2.out.size; omega))⟩
end Go.Proofs.YtbnkfljkojhkoaaGreatDoor.Idx
