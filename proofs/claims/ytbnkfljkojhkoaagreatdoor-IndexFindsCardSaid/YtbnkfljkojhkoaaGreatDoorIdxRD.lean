/- Joined: IdxRD. -/
import Derived.Test.YtbnkfljkojhkoaaGreatDoorIdxRM
import Derived.Test.YtbnkfljkojhkoaaGreatDoorIdxD
/- The document's Find and Since. -/
namespace Go.Proofs.YtbnkfljkojhkoaaGreatDoor.Idx
open Go.RowKit Oct Rec Crc Bat Seg RowF RowL InR

theorem ownT_at {w : World} {e : TypeId} {P : Nat → Prop} {B : Nat} {A : Option Addr} {n c k : Nat} {L : List Bt} (h : OwnT w e P B (.slice A n c) n L) (hk : k < n) :
    ∃ b o x A' n' c', A = some ⟨b, o, none⟩ ∧ b < w.heap.size ∧ L[k]? = some x ∧ (∃ row, LeadT w P row (x, A', n', c')) ∧ ∀ i u, (batC (x, A', n', c'))[i]? = some u → w.cell? ⟨b, o + k * 10 + i, none⟩ = some u := by
  obtain ⟨hs, h1, rfl, h3⟩ := h
  obtain ⟨b, o, ⟨x, A', n', c'⟩, rfl, hb, hx, hc⟩ := (h1.rd Bat.batS).at hk
  exact ⟨b, o, x, A', n', c', rfl, hb, by rw [List.getElem?_map, hx]; rfl, ⟨_, h3 _ (List.mem_of_getElem? hx)⟩, hc⟩
theorem take_bt {L : List Bt} {i : Nat} {x : Bt} (h : L[i]? = some x) : (∃ rest, L = L.take i ++ x :: rest) ∧ L.take (i + 1) = L.take i ++ [x] := by
  refine ⟨⟨L.drop (i + 1), ?_⟩, by rw [List.take_add_one, h]; rfl⟩
  have hk := (List.getElem?_eq_some_iff.1 h).1
  have e := List.drop_eq_getElem_cons hk
  rw [(List.getElem?_eq_some_iff.1 h).2] at e
  rw [← e, List.take_append_drop]
def rfRel (L : List Bt) (off : Int) (n : Nat) (w : World) (vi : Value) (wr : World) : Prop :=
  ∃ i : Nat, vi = .int .i64 (i : Int) ∧ i ≤ n ∧ (∀ b ∈ L.take i, b.last < off) ∧ Below w.heap.size w wr
set_option maxRecDepth 100000 in
set_option maxHeartbeats 4000000 in
theorem refFind_any (A : Option Addr) (n c : Nat) (base : Int) (bs : List UInt8) (A2 : Option Addr) (n2 c2 : Nat) (l : List En) (off : Int) (w : World) (hr : Rd w w.heap.size A n bs) (hc : n ≤ c) (hr2 : RdE w w.heap.size A2 n2 l) (hn2 : n2 ≤ 1099511627776) (hI : I64 base) :
    Calls Tryz.prog 13 #[.agg #[.int .i64 base, .slice A n c], .slice A2 n2 c2, .int .i64 off] w (FB w (findX ⟨base, bs⟩ l off).1 (findX ⟨base, bs⟩ l off).2) := by
  have HB := Lib.hid (bel_alloc (belA w (.cells #[.int .i64 base, .slice A n c] 24)) (.cells #[.int .i64 0, .int .i64 0, .int .i64 0, .int .i64 0, .int .i64 0, .int .i64 0, .int .i64 0, .bool false, .int .i64 0, .slice none 0 0] 36))
  have HBX := Lib.hid (At0.new (w.alloc (.cells #[.int .i64 base, .slice A n c] 24)) [.int .i64 0, .int .i64 0, .int .i64 0, .int .i64 0, .int .i64 0, .int .i64 0, .int .i64 0, .bool false, .int .i64 0, .slice none 0 0] 36)
  simp only [World.size_alloc] at HBX
  have HRR := Lib.hid (rdUp hr HB.out)
  have HEE := Lib.hid (rdeUp hr2 HB.out)
  have HLN := Lib.hid hr.len
  clear hr hr2
  by_cases hz : ckX ⟨base, bs⟩ l = 0
  case neg =>
    rw [findX_bad rfl hz]
    obtain ⟨z, hzz⟩ : ∃ z, ckX ⟨base, bs⟩ l = z := ⟨_, rfl⟩
    rw [hzz] at hz ⊢
    have HCK := Lib.hid hzz
    have hzF : (z == 0) = false := beqF hz
    clear hzz
    go_enter Tryz.func13, Tryz.ntmps13
    go_wp2_with (go_at_call 11; (with_reducible refine (refCheck_any A n c base bs A2 n2 c2 l _ HRR.out hc HEE.out hn2 hI).mono ?_); rw [HCK.out]; rintro e w1 ⟨rfl, hb1⟩; have HB1 := Lib.hid (bel_trans HB.out hb1); have HBX1 := Lib.hid (HBX.out.below hb1); have hw1 : w.heap.size + 2 ≤ w1.heap.size := (by have h := hb1.size; simpa using h); have hl2 : w.heap.size + 1 < w1.heap.size := (by omega); have z0 : w1.cell? ⟨w.heap.size + 1, 0, none⟩ = some (.int .i64 0) := HBX1.out.cell 0; have z1 : w1.cell? ⟨w.heap.size + 1, 1, none⟩ = some (.int .i64 0) := HBX1.out.cell 1; have z2 : w1.cell? ⟨w.heap.size + 1, 2, none⟩ = some (.int .i64 0) := HBX1.out.cell 2; have z3 : w1.cell? ⟨w.heap.size + 1, 3, none⟩ = some (.int .i64 0) := HBX1.out.cell 3; have z4 : w1.cell? ⟨w.heap.size + 1, 4, none⟩ = some (.int .i64 0) := HBX1.out.cell 4; have z5 : w1.cell? ⟨w.heap.size + 1, 5, none⟩ = some (.int .i64 0) := HBX1.out.cell 5; have z6 : w1.cell? ⟨w.heap.size + 1, 6, none⟩ = some (.int .i64 0) := HBX1.out.cell 6; have z7 : w1.cell? ⟨w.heap.size + 1, 7, none⟩ = some (.bool false) := HBX1.out.cell 7; have z8 : w1.cell? ⟨w.heap.size + 1, 8, none⟩ = some (.int .i64 0) := HBX1.out.cell 8; have z9 : w1.cell? ⟨w.heap.size + 1, 9, none⟩ = some (.slice none 0 0) := HBX1.out.cell 9; have f0 : w1.frozen? ⟨w.heap.size + 1, 0, none⟩ = false := HBX1.out.frozen 0; have f1 : w1.frozen? ⟨w.heap.size + 1, 1, none⟩ = false := HBX1.out.frozen 1; have f2 : w1.frozen? ⟨w.heap.size + 1, 2, none⟩ = false := HBX1.out.frozen 2; have f3 : w1.frozen? ⟨w.heap.size + 1, 3, none⟩ = false := HBX1.out.frozen 3; have f4 : w1.frozen? ⟨w.heap.size + 1, 4, none⟩ = false := HBX1.out.frozen 4; have f5 : w1.frozen? ⟨w.heap.size + 1, 5, none⟩ = false := HBX1.out.frozen 5; have f6 : w1.frozen? ⟨w.heap.size + 1, 6, none⟩ = false := HBX1.out.frozen 6; have f7 : w1.frozen? ⟨w.heap.size + 1, 7, none⟩ = false := HBX1.out.frozen 7; have f8 : w1.frozen? ⟨w.heap.size + 1, 8, none⟩ = false := HBX1.out.frozen 8; have f9 : w1.frozen? ⟨w.heap.size + 1, 9, none⟩ = false := HBX1.out.frozen 9; clear hb1)
    have hat := Lib.hid (at0_put10 (v0 := .int .i64 0) (v1 := .int .i64 0) (v2 := .int .i64 0) (v3 := .int .i64 0) (v4 := .int .i64 0) (v5 := .int .i64 0) (v6 := .int .i64 0) (v7 := .bool false) (v8 := .int .i64 0) (v9 := .slice none 0 0) HBX1.out)
    have r0 := hat.out.cell 0
    have r1 := hat.out.cell 1
    have r2 := hat.out.cell 2
    have r3 := hat.out.cell 3
    have r4 := hat.out.cell 4
    have r5 := hat.out.cell 5
    have r6 := hat.out.cell 6
    have r7 := hat.out.cell 7
    have r8 := hat.out.cell 8
    have r9 := hat.out.cell 9
    simp only [List.getElem?_cons_zero, List.getElem?_cons_succ] at r0 r1 r2 r3 r4 r5 r6 r7 r8 r9
    refine bodyPost_ret (v := .tuple #[.agg #[.int .i64 0, .int .i64 0, .int .i64 0, .int .i64 0, .int .i64 0, .int .i64 0, .int .i64 0, .bool false, .int .i64 0, .slice none 0 0], .int .i64 z]) (by simp [results, Tryz.results13, go_sem, r0, r1, r2, r3, r4, r5, r6, r7, r8, r9]) rfl ?_
    exact ⟨none, 0, 0, rfl, Nat.le_refl _, Nat.zero_le _, rdr_nil _ _, put10_bel HB1.out (by omega)⟩
  have HCK := Lib.hid hz
  obtain ⟨hris, hbs, hlen⟩ := allE_right (ck_sub hz).1
  obtain ⟨L, hL⟩ : ∃ L, L = batS ⟨base, bs⟩ := ⟨_, rfl⟩
  have HFS := Lib.hid (show (∀ L1 b rest, L = L1 ++ b :: rest → (∀ b ∈ L1, b.last < off) → off ≤ b.last → findX ⟨base, bs⟩ l off = (b, 0)) ∧ ((∀ b ∈ L, b.last < off) → findX ⟨base, bs⟩ l off = (nilB, 90)) by
    rw [hL]
    exact ⟨fun L1 b rest h1 h2 h3 => findX_some hz h1 h2 h3, fun h => findX_none hz h⟩)
  rw [← hL] at hris hbs
  simp only at hris hbs hlen
  have HSC := Lib.hid (show sc base bs = (L, n) from (by have h := sc_whole hris; rw [← hbs] at h; rw [h, HLN.out]))
  have hn : n ≤ 4096 := by have := HLN.out; omega
  have hLl : L.length ≤ 4096 := by have h5 := byR_ge L; rw [← hbs] at h5; omega
  clear hris hbs hlen hL hz
  go_enter Tryz.func13, Tryz.ntmps13
  go_wp2_with (first
    | (go_at_call 11; (with_reducible refine (refCheck_any A n c base bs A2 n2 c2 l _ HRR.out hc HEE.out hn2 hI).mono ?_); rw [HCK.out]; rintro e w1 ⟨rfl, hb1⟩; have HB1 := Lib.hid (bel_trans HB.out hb1); have HR1 := Lib.hid (rdUp HRR.out hb1); have HBX1 := Lib.hid (HBX.out.below hb1); have hw1 : w.heap.size + 2 ≤ w1.heap.size := (by have h := hb1.size; simpa using h); have q0 := (hb1.cell (p := ⟨w.heap.size, 0, none⟩) (by simp; omega)).trans (show _ = some (.int .i64 base) by simp [go_sem]); have q1 := (hb1.cell (p := ⟨w.heap.size, 1, none⟩) (by simp; omega)).trans (show _ = some (.slice A n c) by simp [go_sem]); clear hb1)
    | (go_at_call 26; (with_reducible refine (refScan8 HSC.out HR1.out hc (by omega) hI).mono ?_); rintro e w4 ⟨A4, n4, c4, rfl, ho4, hb4⟩; have HB4 := Lib.hid (bel_trans HB1.out hb4); have HBX4 := Lib.hid (HBX1.out.below hb4); have HO4 := Lib.hid ho4; have HBN := Lib.hid (show L.length = n4 from ho4.len); have hn4 : n4 ≤ 4096 := (by have := HBN.out; omega); have hcap4 := ho4.cap; have hw4 := hb4.size; clear ho4 hb4))
  go_loopw [11] (fun vi wr => rfRel L off n4 w4 vi wr) (fun vi _ => n4 - (intOf vi).toNat)
  case atStart => exact ⟨0, rfl, Nat.zero_le _, by rw [List.take_zero]; simp, Below.refl _ _⟩
  case round =>
    obtain ⟨i, rfl, hi, hno, hb⟩ := hrel
    have HNO := Lib.hid hno
    have HBR := Lib.hid hb
    have HBW := Lib.hid (bel_trans HB4.out hb)
    have hsz := hb.size
    have HBXR := Lib.hid (HBX4.out.below hb)
    by_cases hlt : i < n4
    · obtain ⟨b, o, x, A9, n9, c9, rfl, hbl, hxk, ⟨row, hld⟩, hcell⟩ := ownT_at (HO4.out.below hb) hlt
      obtain ⟨ba, la, fr, ep, pi, ge, se, tx, ct, rs⟩ := x
      have HTK := Lib.hid (take_bt hxk)
      have HLD := Lib.hid hld
      have a0 : wr.cell? ⟨b, o + i * 10, none⟩ = some (.int .i64 ba) := hcell 0 _ rfl
      have a1 : wr.cell? ⟨b, o + i * 10 + 1, none⟩ = some (.int .i64 la) := hcell 1 _ rfl
      have a2 : wr.cell? ⟨b, o + i * 10 + 2, none⟩ = some (.int .i64 fr) := hcell 2 _ rfl
      have a3 : wr.cell? ⟨b, o + i * 10 + 3, none⟩ = some (.int .i64 ep) := hcell 3 _ rfl
      have a4 : wr.cell? ⟨b, o + i * 10 + 4, none⟩ = some (.int .i64 pi) := hcell 4 _ rfl
      have a5 : wr.cell? ⟨b, o + i * 10 + 5, none⟩ = some (.int .i64 ge) := hcell 5 _ rfl
      have a6 : wr.cell? ⟨b, o + i * 10 + 6, none⟩ = some (.int .i64 se) := hcell 6 _ rfl
      have a7 : wr.cell? ⟨b, o + i * 10 + 7, none⟩ = some (.bool tx) := hcell 7 _ rfl
      have a8 : wr.cell? ⟨b, o + i * 10 + 8, none⟩ = some (.int .i64 ct) := hcell 8 _ rfl
      have a9 : wr.cell? ⟨b, o + i * 10 + 9, none⟩ = some (.slice A9 n9 c9) := hcell 9 _ rfl
      clear hno hb hxk hld hcell
      by_cases hla : off ≤ la
      · have HF := Lib.hid (by obtain ⟨rest, h⟩ := HTK.out.1; exact HFS.out.1 _ _ _ h HNO.out hla)
        have hl2 : w.heap.size + 1 < wr.heap.size := (by omega)
        have z0 : wr.cell? ⟨w.heap.size + 1, 0, none⟩ = some (.int .i64 0) := HBXR.out.cell 0
        have z1 : wr.cell? ⟨w.heap.size + 1, 1, none⟩ = some (.int .i64 0) := HBXR.out.cell 1
        have z2 : wr.cell? ⟨w.heap.size + 1, 2, none⟩ = some (.int .i64 0) := HBXR.out.cell 2
        have z3 : wr.cell? ⟨w.heap.size + 1, 3, none⟩ = some (.int .i64 0) := HBXR.out.cell 3
        have z4 : wr.cell? ⟨w.heap.size + 1, 4, none⟩ = some (.int .i64 0) := HBXR.out.cell 4
        have z5 : wr.cell? ⟨w.heap.size + 1, 5, none⟩ = some (.int .i64 0) := HBXR.out.cell 5
        have z6 : wr.cell? ⟨w.heap.size + 1, 6, none⟩ = some (.int .i64 0) := HBXR.out.cell 6
        have z7 : wr.cell? ⟨w.heap.size + 1, 7, none⟩ = some (.bool false) := HBXR.out.cell 7
        have z8 : wr.cell? ⟨w.heap.size + 1, 8, none⟩ = some (.int .i64 0) := HBXR.out.cell 8
        have z9 : wr.cell? ⟨w.heap.size + 1, 9, none⟩ = some (.slice none 0 0) := HBXR.out.cell 9
        have f0 : wr.frozen? ⟨w.heap.size + 1, 0, none⟩ = false := HBXR.out.frozen 0
        have f1 : wr.frozen? ⟨w.heap.size + 1, 1, none⟩ = false := HBXR.out.frozen 1
        have f2 : wr.frozen? ⟨w.heap.size + 1, 2, none⟩ = false := HBXR.out.frozen 2
        have f3 : wr.frozen? ⟨w.heap.size + 1, 3, none⟩ = false := HBXR.out.frozen 3
        have f4 : wr.frozen? ⟨w.heap.size + 1, 4, none⟩ = false := HBXR.out.frozen 4
        have f5 : wr.frozen? ⟨w.heap.size + 1, 5, none⟩ = false := HBXR.out.frozen 5
        have f6 : wr.frozen? ⟨w.heap.size + 1, 6, none⟩ = false := HBXR.out.frozen 6
        have f7 : wr.frozen? ⟨w.heap.size + 1, 7, none⟩ = false := HBXR.out.frozen 7
        have f8 : wr.frozen? ⟨w.heap.size + 1, 8, none⟩ = false := HBXR.out.frozen 8
        have f9 : wr.frozen? ⟨w.heap.size + 1, 9, none⟩ = false := HBXR.out.frozen 9
        go_wp2
        have hat := Lib.hid (at0_put10 (v0 := .int .i64 ba) (v1 := .int .i64 la) (v2 := .int .i64 fr) (v3 := .int .i64 ep) (v4 := .int .i64 pi) (v5 := .int .i64 ge) (v6 := .int .i64 se) (v7 := .bool tx) (v8 := .int .i64 ct) (v9 := .slice A9 n9 c9) HBXR.out)
        have r0 := hat.out.cell 0
        have r1 := hat.out.cell 1
        have r2 := hat.out.cell 2
        have r3 := hat.out.cell 3
        have r4 := hat.out.cell 4
        have r5 := hat.out.cell 5
        have r6 := hat.out.cell 6
        have r7 := hat.out.cell 7
        have r8 := hat.out.cell 8
        have r9 := hat.out.cell 9
        simp only [List.getElem?_cons_zero, List.getElem?_cons_succ] at r0 r1 r2 r3 r4 r5 r6 r7 r8 r9
        refine bodyPost_ret (v := .tuple #[.agg #[.int .i64 ba, .int .i64 la, .int .i64 fr, .int .i64 ep, .int .i64 pi, .int .i64 ge, .int .i64 se, .bool tx, .int .i64 ct, .slice A9 n9 c9], .int .i64 0]) (by simp [results, Tryz.results13, go_sem, r0, r1, r2, r3, r4, r5, r6, r7, r8, r9]) rfl ?_
        have hk := LeadT.keep HLD.out (w' := put10 wr (w.heap.size + 1) (.int .i64 ba) (.int .i64 la) (.int .i64 fr) (.int .i64 ep) (.int .i64 pi) (.int .i64 ge) (.int .i64 se) (.bool tx) (.int .i64 ct) (.slice A9 n9 c9)) (by simp) (fun b' o' hb' hP _ => World.cell?_of_block (put10_gb.block b' hb' (fun e => by injection e with e; omega)))
        exact ⟨A9, n9, c9, by rw [HF.out], hk.2.1, hk.2.2.1, by rw [HF.out]; exact hk.1, put10_bel HBW.out (by omega)⟩
      · have HNX := Lib.hid (show ∀ b ∈ L.take (i + 1), b.last < off from fun b hb => by
          rw [HTK.out.2] at hb
          rcases List.mem_append.1 hb with hb | hb
          · exact HNO.out b hb
          · obtain rfl := List.mem_singleton.1 hb; simp only; omega)
        go_wp2
        go_roundw
        case rel => exact ⟨i + 1, by go_num, by omega, HNX.out, HBR.out⟩
        case measure => simp [intOf]; omega
    · obtain rfl : i = n4 := by omega
      have hal : L.take i = L := List.take_of_length_le (by have := HBN.out; omega)
      rw [hal] at hno
      have HF := Lib.hid (HFS.out.2 hno)
      clear hno hb hal
      have hl2 : w.heap.size + 1 < wr.heap.size := (by omega)
      have z0 : wr.cell? ⟨w.heap.size + 1, 0, none⟩ = some (.int .i64 0) := HBXR.out.cell 0
      have z1 : wr.cell? ⟨w.heap.size + 1, 1, none⟩ = some (.int .i64 0) := HBXR.out.cell 1
      have z2 : wr.cell? ⟨w.heap.size + 1, 2, none⟩ = some (.int .i64 0) := HBXR.out.cell 2
      have z3 : wr.cell? ⟨w.heap.size + 1, 3, none⟩ = some (.int .i64 0) := HBXR.out.cell 3
      have z4 : wr.cell? ⟨w.heap.size + 1, 4, none⟩ = some (.int .i64 0) := HBXR.out.cell 4
      have z5 : wr.cell? ⟨w.heap.size + 1, 5, none⟩ = some (.int .i64 0) := HBXR.out.cell 5
      have z6 : wr.cell? ⟨w.heap.size + 1, 6, none⟩ = some (.int .i64 0) := HBXR.out.cell 6
      have z7 : wr.cell? ⟨w.heap.size + 1, 7, none⟩ = some (.bool false) := HBXR.out.cell 7
      have z8 : wr.cell? ⟨w.heap.size + 1, 8, none⟩ = some (.int .i64 0) := HBXR.out.cell 8
      have z9 : wr.cell? ⟨w.heap.size + 1, 9, none⟩ = some (.slice none 0 0) := HBXR.out.cell 9
      have f0 : wr.frozen? ⟨w.heap.size + 1, 0, none⟩ = false := HBXR.out.frozen 0
      have f1 : wr.frozen? ⟨w.heap.size + 1, 1, none⟩ = false := HBXR.out.frozen 1
      have f2 : wr.frozen? ⟨w.heap.size + 1, 2, none⟩ = false := HBXR.out.frozen 2
      have f3 : wr.frozen? ⟨w.heap.size + 1, 3, none⟩ = false := HBXR.out.frozen 3
      have f4 : wr.frozen? ⟨w.heap.size + 1, 4, none⟩ = false := HBXR.out.frozen 4
      have f5 : wr.frozen? ⟨w.heap.size + 1, 5, none⟩ = false := HBXR.out.frozen 5
      have f6 : wr.frozen? ⟨w.heap.size + 1, 6, none⟩ = false := HBXR.out.frozen 6
      have f7 : wr.frozen? ⟨w.heap.size + 1, 7, none⟩ = false := HBXR.out.frozen 7
      have f8 : wr.frozen? ⟨w.heap.size + 1, 8, none⟩ = false := HBXR.out.frozen 8
      have f9 : wr.frozen? ⟨w.heap.size + 1, 9, none⟩ = false := HBXR.out.frozen 9
      go_wp2
      have hat := Lib.hid (at0_put10 (v0 := .int .i64 0) (v1 := .int .i64 0) (v2 := .int .i64 0) (v3 := .int .i64 0) (v4 := .int .i64 0) (v5 := .int .i64 0) (v6 := .int .i64 0) (v7 := .bool false) (v8 := .int .i64 0) (v9 := .slice none 0 0) HBXR.out)
      have r0 := hat.out.cell 0
      have r1 := hat.out.cell 1
      have r2 := hat.out.cell 2
      have r3 := hat.out.cell 3
      have r4 := hat.out.cell 4
      have r5 := hat.out.cell 5
      have r6 := hat.out.cell 6
      have r7 := hat.out.cell 7
      have r8 := hat.out.cell 8
      have r9 := hat.out.cell 9
      simp only [List.getElem?_cons_zero, List.getElem?_cons_succ] at r0 r1 r2 r3 r4 r5 r6 r7 r8 r9
      refine bodyPost_ret (v := .tuple #[.agg #[.int .i64 0, .int .i64 0, .int .i64 0, .int .i64 0, .int .i64 0, .int .i64 0, .int .i64 0, .bool false, .int .i64 0, .slice none 0 0], .int .i64 90]) (by simp [results, Tryz.results13, go_sem, r0, r1, r2, r3, r4, r5, r6, r7, r8, r9]) rfl ?_
      exact ⟨none, 0, 0, by rw [HF.out]; rfl, Nat.le_refl _, Nat.zero_le _, by rw [HF.out]; exact rdr_nil _ _, put10_bel HBW.out (by omega)⟩
def rsRelO (L : List Bt) (st : Int) (n : Nat) (w : World) (vi : Value) (wr : World) : Prop :=
  ∃ i : Nat, vi = .int .i64 (i : Int) ∧ i ≤ n ∧ (∀ b ∈ L.take i, ∀ r ∈ b.recs, r.stamp < st) ∧ Below w.heap.size w wr
def rsRelI (rs : List Rc) (st : Int) (n : Nat) (wa : World) (vk : Value) (wr : World) : Prop :=
  ∃ k : Nat, vk = .int .i64 (k : Int) ∧ k ≤ n ∧ (∀ r ∈ rs.take k, r.stamp < st) ∧ wa = wr
set_option maxRecDepth 100000 in
set_option maxHeartbeats 4000000 in
theorem refSince_any (A : Option Addr) (n c : Nat) (base : Int) (bs : List UInt8) (A2 : Option Addr) (n2 c2 : Nat) (l : List En) (st : Int) (w : World) (hr : Rd w w.heap.size A n bs) (hc : n ≤ c) (hr2 : RdE w w.heap.size A2 n2 l) (hn2 : n2 ≤ 1099511627776) (hI : I64 base) :
    Calls Tryz.prog 15 #[.agg #[.int .i64 base, .slice A n c], .slice A2 n2 c2, .int .i64 st] w fun e w' => e = .returned (.tuple #[.int .i64 (sinceX ⟨base, bs⟩ l st).1, .int .i64 (sinceX ⟨base, bs⟩ l st).2]) ∧ Below w.heap.size w w' := by
  have HB := Lib.hid (belA w (.cells #[.int .i64 base, .slice A n c] 24))
  have HRR := Lib.hid (rdUp hr HB.out)
  have HEE := Lib.hid (rdeUp hr2 HB.out)
  have HLN := Lib.hid hr.len
  clear hr hr2
  by_cases hz : ckX ⟨base, bs⟩ l = 0
  case neg =>
    rw [sinceX_bad rfl hz]
    obtain ⟨z, hzz⟩ : ∃ z, ckX ⟨base, bs⟩ l = z := ⟨_, rfl⟩
    rw [hzz] at hz ⊢
    have HCK := Lib.hid hzz
    have hzF : (z == 0) = false := beqF hz
    clear hzz
    go_enter Tryz.func15, Tryz.ntmps15
    go_wp2_with (go_at_call 11; (with_reducible refine (refCheck_any A n c base bs A2 n2 c2 l _ HRR.out hc HEE.out hn2 hI).mono ?_); rw [HCK.out]; rintro e w1 ⟨rfl, hb1⟩; have HB1 := Lib.hid (bel_trans HB.out hb1); clear hb1)
    refine bodyPost_ret (v := .tuple #[.int .i64 0, .int .i64 z]) (by simp [results, Tryz.results15, go_sem]) rfl ?_
    exact ⟨rfl, HB1.out⟩
  have HCK := Lib.hid hz
  obtain ⟨hris, hbs, hlen⟩ := allE_right (ck_sub hz).1
  obtain ⟨L, hL⟩ : ∃ L, L = batS ⟨base, bs⟩ := ⟨_, rfl⟩
  have HFS := Lib.hid (show (∀ L1 (b : Bt) rest k r, L = L1 ++ b :: rest → (∀ b ∈ L1, ∀ r ∈ b.recs, r.stamp < st) → (∀ r ∈ b.recs.take k, r.stamp < st) → b.recs[k]? = some r → st ≤ r.stamp → sinceX ⟨base, bs⟩ l st = (r.off, 0)) ∧ ((∀ b ∈ L, ∀ r ∈ b.recs, r.stamp < st) → sinceX ⟨base, bs⟩ l st = (0, 90)) by
    rw [hL]
    exact ⟨fun L1 b rest k r h1 h2 h3 h4 h5 => sinceX_some hz h1 h2 h3 h4 h5, fun h => sinceX_none hz h⟩)
  rw [← hL] at hris hbs
  simp only at hris hbs hlen
  have HSC := Lib.hid (show sc base bs = (L, n) from (by have h := sc_whole hris; rw [← hbs] at h; rw [h, HLN.out]))
  have hn : n ≤ 4096 := by have := HLN.out; omega
  have hLl : L.length ≤ 4096 := by have h5 := byR_ge L; rw [← hbs] at h5; omega
  clear hris hbs hlen hL hz
  go_enter Tryz.func15, Tryz.ntmps15
  go_wp2_with (first
    | (go_at_call 11; (with_reducible refine (refCheck_any A n c base bs A2 n2 c2 l _ HRR.out hc HEE.out hn2 hI).mono ?_); rw [HCK.out]; rintro e w1 ⟨rfl, hb1⟩; have HB1 := Lib.hid (bel_trans HB.out hb1); have HR1 := Lib.hid (rdUp HRR.out hb1); have q0 := (hb1.cell (p := ⟨w.heap.size, 0, none⟩) (by simp)).trans (show _ = some (.int .i64 base) by simp [go_sem]); have q1 := (hb1.cell (p := ⟨w.heap.size, 1, none⟩) (by simp)).trans (show _ = some (.slice A n c) by simp [go_sem]); clear hb1)
    | (go_at_call 26; (with_reducible refine (refScan8 HSC.out HR1.out hc (by omega) hI).mono ?_); rintro e w4 ⟨A4, n4, c4, rfl, ho4, hb4⟩; have HB4 := Lib.hid (bel_trans HB1.out hb4); have HT4 := Lib.hid ho4.rd; have HBN := Lib.hid (show L.length = n4 from ho4.len); have hn4 : n4 ≤ 4096 := (by have := HBN.out; omega); have hcap4 := ho4.cap; clear ho4 hb4))
  go_loopw [11] (fun vi wr => rsRelO L st n4 w4 vi wr) (fun vi _ => n4 - (intOf vi).toNat)
  case atStart => exact ⟨0, rfl, Nat.zero_le _, by rw [List.take_zero]; simp, Below.refl _ _⟩
  case round =>
    obtain ⟨i, rfl, hi, hno, hb⟩ := hrel
    have HNO := Lib.hid hno
    have HBR := Lib.hid hb
    have HBW := Lib.hid (bel_trans HB4.out hb)
    by_cases hlt : i < n4
    · obtain ⟨b, o, x, A9, n9, c9, rfl, hbl, hxk, hc9, hn9, hrd, hft, hcell⟩ := (HT4.out.below hb (Nat.le_refl _)).at (k := i) hlt
      obtain ⟨ba, la, fr, ep, pi, ge, se, tx, ct, rs⟩ := x
      have HTK := Lib.hid (take_bt hxk)
      have HRD := Lib.hid hrd
      have a9 : wr.cell? ⟨b, o + i * 10 + 9, none⟩ = some (.slice A9 n9 c9) := hcell 9 _ rfl
      clear hno hb hxk hrd hft hcell
      go_wp2
      obtain ⟨wa, rfl⟩ : ∃ wa, wa = wr := ⟨_, rfl⟩
      go_loopw [12] (fun vk wr => rsRelI rs st n9 wa vk wr) (fun vk _ => n9 - (intOf vk).toNat)
      case atStart => exact ⟨0, rfl, Nat.zero_le _, by rw [List.take_zero]; simp, rfl⟩
      case round =>
        obtain ⟨k, rfl, hk, hnk, rfl⟩ := hrel
        have HNK := Lib.hid hnk
        by_cases hk2 : k < n9
        · obtain ⟨b2, o2, r, rfl, hbl2, hrk, c0, c1', c2', c3, c4'⟩ := HRD.out.at hk2
          have HRK := Lib.hid hrk
          obtain ⟨r0, rk, rv, rd, r4⟩ := r
          simp only at c0 c4'
          clear c1' c2' c3 hrk hnk
          by_cases hst : st ≤ r4
          · have HF := Lib.hid (by obtain ⟨rest, h⟩ := HTK.out.1; exact HFS.out.1 _ _ _ _ _ h HNO.out HNK.out HRK.out hst)
            go_wp2
            refine bodyPost_ret (v := .tuple #[.int .i64 r0, .int .i64 0]) (by simp [results, Tryz.results15, go_sem]) rfl ?_
            exact ⟨by rw [HF.out], HBW.out⟩
          · have HNX := Lib.hid (show ∀ r ∈ rs.take (k + 1), r.stamp < st from fun r hr => by
              rw [List.take_add_one, HRK.out] at hr
              rcases List.mem_append.1 hr with hr | hr
              · exact HNK.out r hr
              · obtain rfl := List.mem_singleton.1 hr; simp only; omega)
            go_wp2
            go_roundw
            case rel => exact ⟨k + 1, by go_num, by omega, HNX.out, rfl⟩
            case measure => simp [intOf]; omega
        · obtain rfl : k = n9 := by omega
          have hal : rs.take k = rs := List.take_of_length_le (by have := HRD.out.1; omega)
          have HNX := Lib.hid (show ∀ b ∈ L.take (i + 1), ∀ r ∈ b.recs, r.stamp < st from fun b hb => by
            rw [HTK.out.2] at hb
            rcases List.mem_append.1 hb with hb | hb
            · exact HNO.out b hb
            · obtain rfl := List.mem_singleton.1 hb; rw [hal] at hnk; exact hnk)
          clear hnk hal
          go_wp2
          go_roundw
          case rel => exact ⟨i + 1, by go_num, by omega, HNX.out, HBR.out⟩
          case measure => simp [intOf]; omega
    · obtain rfl : i = n4 := by omega
      have hal : L.take i = L := List.take_of_length_le (by have := HBN.out; omega)
      rw [hal] at hno
      have HF := Lib.hid (HFS.out.2 hno)
      clear hno hb hal
      go_wp2
      refine bodyPost_ret (v := .tuple #[.int .i64 0, .int .i64 90]) (by simp [results, Tryz.results15, go_sem]) rfl ?_
      exact ⟨by rw [HF.out], HBW.out⟩
end Go.Proofs.YtbnkfljkojhkoaaGreatDoor.Idx
