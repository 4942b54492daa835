/- The contracts of the document's own answers of layer 2: four, Seal, Open. -/
import Derived.Test.YtkpemlfblpkjoaaDoorCrcRef
import Derived.Laws.OwnMore
import Derived.Deep.QuietTactic
import Derived.BigQuiet
namespace Go.Proofs.YtkpemlfblpkjoaaDoor.Crc
open Go.RowKit Go.Proofs.YtkpemlfblpkjoaaDoor.Oct

theorem beN_four (v : Nat) : beN v 4 4 = [UInt8.ofNat (v / 16777216), UInt8.ofNat (v / 65536), UInt8.ofNat (v / 256), UInt8.ofNat v] := by
  simp [beN, List.range_succ]

theorem four_cells (v : Nat) (h : v < 4294967296) :
    (#[Value.int .u8 ((v : Int) / 16777216), Value.int .u8 ((v : Int) / 65536 % 256), Value.int .u8 ((v : Int) / 256 % 256), Value.int .u8 ((v : Int) % 256)] : Array Value) = ((beN v 4 4).map bv).toArray := by
  rw [beN_four]
  simp only [List.map_cons, List.map_nil, bv, UInt8.toNat_ofNat']
  have e1 : (v : Int) / 16777216 = ((v / 16777216 % 2 ^ 8 : Nat) : Int) := by omega
  have e2 : (v : Int) / 65536 % 256 = ((v / 65536 % 2 ^ 8 : Nat) : Int) := by omega
  have e3 : (v : Int) / 256 % 256 = ((v / 256 % 2 ^ 8 : Nat) : Int) := by omega
  have e4 : (v : Int) % 256 = ((v % 2 ^ 8 : Nat) : Int) := by omega
  rw [e1, e2, e3, e4]

theorem refFour_any (v : Nat) (w : World) (h : v < 4294967296) :
    Calls Tryd.prog 25 #[.int .u32 (v : Int)] w (RB 5 w.heap.size w (beN v 4 4)) := by
  have HC := Lib.hid (four_cells v h)
  have hb : (v : Int) ≤ 4294967295 := by omega
  clear h
  go_enter Tryd.func25, Tryd.ntmps25
  go_wp2
  go_ret
  rw [HC.out]
  exact ⟨_, 4, 4, rfl, own_lit w 5 (beN v 4 4) 4 (beN_length _ _ _) (by omega), (Below.refl _ _).alloc (Nat.le_refl _) _⟩

theorem refSeal_any (A : Option Addr) (n c : Nat) (l : List UInt8) (B : Nat) (w : World) (hr : Rd w B A n l) (hB : B ≤ w.heap.size) (hn : n ≤ 549755813888) :
    Calls Tryd.prog 18 #[.slice A n c] w (RB 5 w.heap.size w (sealB l)) := by
  have hI := u8row
  have HS := Lib.hid (sum_lt l)
  go_enter Tryd.func18, Tryd.ntmps18
  go_wp2_with (first
    | (at_builtin; refine wpList_app0 (w.alloc (.cells #[] 5)) rfl (.tmp 3) (.tmp 4) 22 rfl w.heap.size 5 Tryd.underlying22 hI _ rfl (own_lit w 5 [] 0 rfl (by omega)) B A n c l rfl (hr.alloc hB _) (by omega) (by simp) ?_; intro A1 c1 w1 hown1 hb1; have hb01 := ((Below.refl w.heap.size w).alloc (Nat.le_refl _) (.cells #[] 5)).trans hb1)
    | (go_at_call 14; refine (refSum_any A n c l B _ (hr.below hb01 hB) (by omega)).mono ?_; rintro e w9 ⟨rfl, rfl⟩)
    | (go_at_call 25; refine (refFour_any (sum l) _ HS.out).mono ?_; rintro e w2 ⟨A2, n2, c2, rfl, hown2, hb2⟩; have hn2 : n2 = 4 := (by have := hown2.len; rw [beN_length] at this; omega); subst hn2; have hb02 := bel_trans hb01 hb2)
    | (at_builtin; refine wpList_appB w2 rfl (.tmp 5) (.tmp 8) 22 rfl w.heap.size 5 Tryd.underlying22 hI _ n _ rfl (hown1.below hb2) _ A2 4 c2 (beN (sum l) 4 4) rfl hown2.rd (by omega) hb02.size ?_; intro A3 c3 w3 hown3 hb3))
  go_ret
  exact ⟨A3, _, c3, rfl, by simpa [sealB] using hown3, hb02.trans hb3⟩

def ropRel (l f : List UInt8) (N : Nat) (w2 : World) (i : Value) (wr : World) : Prop :=
  ∃ j, i = .int .i64 ((j : Nat) : Int) ∧ j ≤ 4 ∧ (l.drop N).take j = f.take j ∧ Below w2.heap.size w2 wr
theorem take_eq_step {a b : List UInt8} {j : Nat} {d e : UInt8} (h : a.take j = b.take j) (ha : a[j]? = some d) (hb : b[j]? = some e) (hde : d = e) : a.take (j + 1) = b.take (j + 1) := by
  rw [List.take_add_one, List.take_add_one, h, ha, hb, hde]
theorem openB_bad {l : List UInt8} {j : Nat} {d e : UInt8} (h4 : 4 ≤ l.length) (hd : (l.drop (l.length - 4))[j]? = some d) (he : (beN (sum (l.take (l.length - 4))) 4 4)[j]? = some e) (hne : d ≠ e) : openB l = ([], 20) := by
  unfold openB
  rw [if_neg (by omega), if_neg]
  intro h
  rw [h, he] at hd
  exact hne (by injection hd with h; exact h.symm)
theorem openB_good {l : List UInt8} (h4 : 4 ≤ l.length) (h : (l.drop (l.length - 4)).take 4 = (beN (sum (l.take (l.length - 4))) 4 4).take 4) : openB l = (l.take (l.length - 4), 0) := by
  unfold openB
  rw [if_neg (by omega), if_pos]
  rw [List.take_of_length_le (by rw [List.length_drop]; omega), List.take_of_length_le (by rw [beN_length]; omega)] at h
  exact h

set_option maxRecDepth 100000 in
set_option maxHeartbeats 1000000 in
theorem refOpen_any (A : Option Addr) (n c : Nat) (l : List UInt8) (B : Nat) (w : World) (hr : Rd w B A n l) (hB : B ≤ w.heap.size) (hc : n ≤ c) (hn : n ≤ 549755813888) :
    Calls Tryd.prog 16 #[.slice A n c] w (OPr 5 w.heap.size w (openB l).1 (openB l).2) := by
  have hI := u8row
  have hl := hr.len
  by_cases h4 : n < 4
  · have HO := Lib.hid (show openB l = ([], 10) by unfold openB; rw [if_pos (by omega)])
    rw [HO.out]
    clear hr hl hB hc
    go_enter Tryd.func16, Tryd.ntmps16
    go_wp2
    go_ret2
    exact ⟨none, 0, 0, rfl, OwnB.nil, Below.refl _ _⟩
  · obtain ⟨N, rfl⟩ : ∃ N, n = N + 4 := ⟨n - 4, by omega⟩
    have hN : l.length - 4 = N := by omega
    have h4l : 4 ≤ l.length := by omega
    obtain ⟨f, hf⟩ : ∃ f, f = beN (sum (l.take N)) 4 4 := ⟨_, rfl⟩
    have HF := Lib.hid hf
    have HR := Lib.hid hr
    have HS := Lib.hid (sum_lt (l.take N))
    have HBAD := Lib.hid (fun (j : Nat) (d e : UInt8) (hd : (l.drop N)[j]? = some d) (he : f[j]? = some e) (hne : d ≠ e) => openB_bad (j := j) h4l (by rw [hN]; exact hd) (by rw [hN, ← hf]; exact he) hne)
    have HGOOD := Lib.hid (fun h => openB_good h4l (show (l.drop (l.length - 4)).take 4 = _ by rw [hN, ← hf]; exact h))
    have HNN := Lib.hid hN
    have HL := Lib.hid hl
    have hsub : ((N + 4 : Nat) : Int) - 4 = (N : Int) := by omega
    clear hf hr h4l hN hl h4
    go_enter Tryd.func16, Tryd.ntmps16
    go_wp2_with (first
      | (go_at_call 14; refine (refSum_any A N c (l.take N) B _ (HR.out.take (by omega)) (by omega)).mono ?_; rintro e w9 ⟨rfl, rfl⟩)
      | (go_at_call 25; refine (refFour_any _ _ HS.out).mono ?_; rw [← HF.out]; rintro e w2 ⟨A2, n2, c2, rfl, hown2, hb2⟩; have hn2 : n2 = 4 := (by have := hown2.len; rw [HF.out, beN_length] at this; omega); subst hn2))
    have HOWN := Lib.hid hown2
    have hbs := hb2.size
    clear hsub hown2
    go_loopw [6] (fun i wr => ropRel l f N w2 i wr) (fun i _ => 4 - (intOf i).toNat)
    case atStart => exact ⟨0, rfl, by omega, by simp, Below.refl _ _⟩
    case round =>
      obtain ⟨j, rfl, hj, hjt, hb⟩ := hrel
      have HJT := Lib.hid hjt
      have hb0 := bel_trans hb2 hb
      have hbs0 := hb0.size
      clear hjt
      by_cases hlt : j < 4
      · obtain ⟨b1, o1, d1, rfl, _, hd1, hc1⟩ := (HR.out.below hb0 hB).at (k := N + j) (by omega)
        obtain ⟨b2, o2, d2, rfl, _, hd2, hc2⟩ := (HOWN.out.rd.below hb (Nat.le_refl _)).at (k := j) hlt
        have HD1 := Lib.hid (show (l.drop N)[j]? = some d1 by rw [List.getElem?_drop]; exact hd1)
        have HD2 := Lib.hid hd2
        have hsum : IntKind.i64.wrap ((N : Int) + (j : Int)) = (N : Int) + (j : Int) := IntWalk.i64_in _ (by omega)
        have q1 : (0 : Int) ≤ (N : Int) + (j : Int) := by omega
        have q2 : (N : Int) + (j : Int) < ((N + 4 : Nat) : Int) := by omega
        have q3 : (N : Int) + (j : Int) < (N : Int) + 4 := by omega
        have q4 : (j : Int) < 4 := by omega
        have q5 : ((N : Int) + (j : Int)).toNat = N + j := by omega
        clear hd1 hd2
        by_cases hde : d1 = d2
        · have hde2 : ((d1.toNat : Int) != (d2.toNat : Int)) = false := by simp [hde]
          have HST := Lib.hid (take_eq_step HJT.out HD1.out HD2.out hde)
          clear hde
          go_wp2
          go_quiet (fail)
          go_wp2
          go_roundw
          case rel => exact ⟨j + 1, by go_num, by omega, HST.out, bel_drewN hb _⟩
          case measure => simp [intOf]; omega
        · have hde2 : ((d1.toNat : Int) != (d2.toNat : Int)) = true := by
            have : d1.toNat ≠ d2.toNat := fun h => hde (UInt8.toNat_inj.1 h)
            simp; omega
          have HST := Lib.hid (HBAD.out j d1 d2 HD1.out HD2.out hde)
          clear hde
          go_wp2
          go_quiet (fail)
          go_wp2
          go_ret2
          rw [HST.out]
          exact ⟨none, 0, 0, rfl, OwnB.nil, bel_drewN hb0 _⟩
      · have hj4 : j = 4 := by omega
        have HG := Lib.hid (HGOOD.out (by have := HJT.out; rw [hj4] at this; exact this))
        clear hj4
        go_wp2_with (at_builtin; refine wpList_app0 (wr.alloc (.cells #[] 5)) rfl _ _ 22 rfl wr.heap.size 5 Tryd.underlying22 hI _ rfl (own_lit wr 5 [] 0 rfl (by omega)) B A N c (l.take N) rfl (((HR.out.take (by omega)).below hb0 hB).alloc (by omega) _) (by omega) (by simp) ?_; intro A3 c3 w3 hown3 hb3; have hb4 := ((Below.refl wr.heap.size wr).alloc (Nat.le_refl _) (.cells #[] 5)).trans hb3)
        go_ret2
        rw [HG.out, HNN.out]
        exact ⟨A3, N, c3, rfl, hown3.more hbs0, bel_trans hb0 hb4⟩
end Go.Proofs.YtkpemlfblpkjoaaDoor.Crc
