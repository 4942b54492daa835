/- Joined: OctFUnfold, OctFGetVar, SqsDI. -/
import Derived.Test.YtllebgadhhgckaaDoorJ08
import Derived.Test.YtllebgadhhgckaaDoorJ28
import Derived.Test.YtllebgadhhgckaaDoorJ44
/- The contract of octet.Unfold. -/
namespace Go.Proofs.YtllebgadhhgckaaDoor.Oct
open Go.RowKit

theorem unfold_any (u : Nat) (w : World) (h : u < 18446744073709551616) :
    Calls Tryd.prog 113 #[.int .u64 (u : Int)] w fun e w' => e = .returned (.int .i64 (uz u)) ∧ w = w' := by
  have H := Lib.hid (unfold_num u h)
  have hb : (u : Int) / 2 ≤ 9223372036854775807 := by omega
  clear h
  go_enter Tryd.func113, Tryd.ntmps113
  go_wp2
  go_ret
  exact ⟨ret_int H.out, rfl⟩

theorem unfold_at (y : Int) (u : Nat) (hy : y = (u : Int)) (w : World) (h : u < 18446744073709551616) :
    Calls Tryd.prog 113 #[.int .u64 y] w fun e w' => e = .returned (.int .i64 (uz u)) ∧ w = w' := by subst hy; exact unfold_any u w h

end Go.Proofs.YtllebgadhhgckaaDoor.Oct

/- The contract of octet.GetVar. -/
namespace Go.Proofs.YtllebgadhhgckaaDoor.Oct
open Go.RowKit

set_option maxRecDepth 100000 in
set_option maxHeartbeats 800000 in
theorem GetVar_at (A : Option Addr) (n c : Nat) (m : Nat) (l : List UInt8) (B : Nat) (w : World) (hr : Rd w B A n l) (hn : n ≤ 1099511627776) (hm : m ≤ 9223372036854775807) :
    Calls Tryd.prog 101 #[.slice A n c, .int .i64 (m : Int)] w fun e w' => GV l (m : Int) e ∧ w = w' := by
  have HL := Lib.hid hr.len
  have HM := Lib.hid hm
  have HN := Lib.hid hn
  clear hm hn
  go_enter Tryd.func101, Tryd.ntmps101
  go_wp2
  go_loop [7, 12] (fun v i => gvRel l m v i) (fun _ i => 10 - (intOf i).toNat)
  case atStart => exact ⟨0, 0, rfl, rfl, by omega, by simp, rfl⟩
  case round =>
    obtain ⟨U, j, rfl, rfl, hj, hU, hs⟩ := hrel
    have HS := Lib.hid hs
    have HU := Lib.hid hU
    clear hs hU
    by_cases hk : m + j < n
    · obtain ⟨b, o, d, rfl, _, hd, hcell⟩ := hr.at hk
      have hh : hasB n (m : Int) ((j : Int) + 1) = true := by simp [hasB]; omega
      have hd255 : d.toNat ≤ 255 := by have := d.toNat_lt; omega
      have hmn : m ≤ 1099511627776 := by have := HN.out; omega
      have HD := Lib.hid hd
      clear hd hr
      have hstep : scan (l.drop m) 0 0 = if VR.bad j d then .form else if d.toNat < 128 then .ok (U + d.toNat * 128 ^ j) (j + 1) else scan (l.drop (m + j + 1)) (j + 1) (U + (d.toNat - 128) * 128 ^ j) := by
        rw [HS.out, drop_at HD.out, scan]
      by_cases hbad : VR.bad j d
      · rw [if_pos hbad] at hstep
        have HF := Lib.hid hstep
        have hb2 : j = 9 ∧ 1 < d.toNat ∨ 0 < j ∧ d.toNat = 0 := hbad
        clear hstep hbad
        rcases hb2 with ⟨h9, h1⟩ | ⟨h0, h1⟩
        · have h9' : ((j : Int) == 9) = true := by simp; omega
          clear h9
          go_wp2_with (go_at_call 84; refine (has_any _ _ _ _ _ _ (by have := HN.out; omega) (by omega)).mono ?_; rintro e w1 ⟨rfl, rfl⟩)
          all_goals go_ret3
          all_goals exact ⟨GV.form HF.out, rfl⟩
        · have h1' : ((d.toNat : Int) == 0) = true := by simp; omega
          have h1'' : ¬ (1 : Int) < (d.toNat : Int) := by omega
          clear h1
          go_wp2_with (go_at_call 84; refine (has_any _ _ _ _ _ _ (by have := HN.out; omega) (by omega)).mono ?_; rintro e w1 ⟨rfl, rfl⟩)
          all_goals go_ret3
          all_goals exact ⟨GV.form HF.out, rfl⟩
      · rw [if_neg hbad] at hstep
        have hb2 : (j = 9 → d.toNat ≤ 1) ∧ (0 < j → 1 ≤ d.toNat) := by unfold VR.bad at hbad; omega
        clear hbad
        have HOR := Lib.hid (orVar U j d HU.out hj hb2.1)
        by_cases hs : d.toNat < 128
        · rw [if_pos hs] at hstep
          have HF := Lib.hid hstep
          have HOR2 := Lib.hid (HOR.out.trans (congrArg Nat.cast (congrArg (fun z => U + z * 128 ^ j) (Nat.mod_eq_of_lt hs))))
          have HU2 := Lib.hid (scan_lt HF.out)
          clear hstep HOR
          by_cases h9 : j = 9
          · have h9' : ((j : Int) == 9) = true := by simp; omega
            have h1 : ¬ (1 : Int) < (d.toNat : Int) := by have := hb2.1 h9; omega
            have h2 : ((d.toNat : Int) == 0) = false := by have := hb2.2 (by omega); simp; omega
            clear hb2 h9
            go_wp2_with (first | (go_at_call 84; refine (has_any _ _ _ _ _ _ (by have := HN.out; omega) (by omega)).mono ?_; rintro e w1 ⟨rfl, rfl⟩) | (go_at_call 113; (with_reducible refine (unfold_at _ _ HOR2.out _ HU2.out).mono ?_); rintro e w1 ⟨rfl, rfl⟩))
            all_goals go_ret3
            all_goals exact ⟨GV.ok HF.out rfl (by omega), rfl⟩
          · have h9' : ((j : Int) == 9) = false := by simp; omega
            by_cases h0 : j = 0
            · have h0' : ¬ (0 : Int) < (j : Int) := by omega
              clear hb2 h9 h0
              go_wp2_with (first | (go_at_call 84; refine (has_any _ _ _ _ _ _ (by have := HN.out; omega) (by omega)).mono ?_; rintro e w1 ⟨rfl, rfl⟩) | (go_at_call 113; (with_reducible refine (unfold_at _ _ HOR2.out _ HU2.out).mono ?_); rintro e w1 ⟨rfl, rfl⟩))
              all_goals go_ret3
              all_goals exact ⟨GV.ok HF.out rfl (by omega), rfl⟩
            · have h2 : ((d.toNat : Int) == 0) = false := by have := hb2.2 (by omega); simp; omega
              clear hb2 h9 h0
              go_wp2_with (first | (go_at_call 84; refine (has_any _ _ _ _ _ _ (by have := HN.out; omega) (by omega)).mono ?_; rintro e w1 ⟨rfl, rfl⟩) | (go_at_call 113; (with_reducible refine (unfold_at _ _ HOR2.out _ HU2.out).mono ?_); rintro e w1 ⟨rfl, rfl⟩))
              all_goals go_ret3
              all_goals exact ⟨GV.ok HF.out rfl (by omega), rfl⟩
        · rw [if_neg hs] at hstep
          have HF := Lib.hid hstep
          have HOR2 := Lib.hid (HOR.out.trans (congrArg Nat.cast (congrArg (fun z => U + z * 128 ^ j) (show d.toNat % 128 = d.toNat - 128 by omega))))
          have h9' : ((j : Int) == 9) = false := by have := hb2.1; simp; omega
          have h2 : ((d.toNat : Int) == 0) = false := by simp; omega
          have hj9 : j + 1 ≤ 9 := by have := hb2.1; omega
          clear hstep HOR hb2
          go_wp2_with (go_at_call 84; refine (has_any _ _ _ _ _ _ (by have := HN.out; omega) (by omega)).mono ?_; rintro e w1 ⟨rfl, rfl⟩)
          all_goals go_round
          all_goals first | exact ⟨_, j + 1, congrArg (Value.int .u64) HOR2.out, by go_num, hj9, step_lt HU.out (by omega), by rw [HF.out, Nat.add_assoc]⟩ | (simp [intOf]; omega)
    · have hh : hasB n (m : Int) ((j : Int) + 1) = false := by simp [hasB]; omega
      have hsh : scan (l.drop m) 0 0 = .short := by
        rw [HS.out, drop_end (by have := HL.out; omega)]; rfl
      have HSH := Lib.hid hsh
      clear hsh hk hr
      go_wp2_with (go_at_call 84; refine (has_any _ _ _ _ _ _ (by have := HN.out; omega) (by omega)).mono ?_; rintro e w1 ⟨rfl, rfl⟩)
      go_ret3
      exact ⟨GV.short HSH.out, rfl⟩

theorem GetVar_any (A : Option Addr) (n c : Nat) (k : Int) (l : List UInt8) (B : Nat) (w : World) (hr : Rd w B A n l) (hn : n ≤ 1099511627776) (hk : k ≤ 9223372036854775807) :
    Calls Tryd.prog 101 #[.slice A n c, .int .i64 k] w fun e w' => GV l k e ∧ w = w' := by
  by_cases h0 : 0 ≤ k
  · obtain ⟨m, rfl⟩ : ∃ m : Nat, k = (m : Int) := ⟨k.toNat, by omega⟩
    exact GetVar_at A n c m l B w hr hn (by omega)
  · have h0' : k < 0 := by omega
    have H := Lib.hid (GV.neg (l := l) h0')
    clear h0 hk hn hr
    go_enter Tryd.func101, Tryd.ntmps101
    go_wp2
    go_ret3
    exact ⟨H.out, rfl⟩

theorem GetVar_is (A : Option Addr) (n c : Nat) (k : Int) (l : List UInt8) (B : Nat) (w : World) (hr : Rd w B A n l) (hn : n ≤ 1099511627776) (hk : k ≤ 9223372036854775807) {x y z : Int} (h : gv l k = (x, y, z)) :
    Calls Tryd.prog 101 #[.slice A n c, .int .i64 k] w fun e w' => e = .returned (.tuple #[.int .i64 x, .int .i64 y, .int .i64 z]) ∧ w = w' := by
  have h1 := GetVar_any A n c k l B w hr hn hk
  unfold GV at h1
  rw [h] at h1
  exact h1

end Go.Proofs.YtllebgadhhgckaaDoor.Oct

/- The landed seqs: number, howMany, did, of numbers that are there. -/
namespace Go.Proofs.YtllebgadhhgckaaDoor.Sqs
open Go.RowKit Oct Rec Crc RowF RowK RowO Lay Bat InR
open Epo (At0 AtO belA)

def posN (ns : List Int) (j : Nat) : Nat := (nb (ns.take j)).length
theorem gv_num {ns : List Int} {j : Nat} {v : Int} (hv : ns[j]? = some v) (hw : ∀ x ∈ ns, W63 x) : gv (nb ns) (posN ns j : Int) = (v, (posN ns (j + 1) : Int), 0) := by
  have h1 := gv_at (nb (ns.take j)) (nb (ns.drop (j + 1))) v (hw v (List.mem_of_getElem? hv))
  have h2 : nb (ns.take j) ++ vb (zz v) ++ nb (ns.drop (j + 1)) = nb ns := by
    rw [← nb_snoc hv, ← nb_app, List.take_append_drop]
  rw [h2] at h1
  unfold posN
  rw [nb_snoc hv, List.length_append, h1]
  simp
theorem pos_le (ns : List Int) (j : Nat) : posN ns j ≤ (nb ns).length := by
  unfold posN
  have h : nb ns = nb (ns.take j) ++ nb (ns.drop j) := by rw [← nb_app, List.take_append_drop]
  rw [h, List.length_append]
  omega
structure RdrN (w : World) (rb : Nat) (A : Option Addr) (n c : Nat) (ns : List Int) (j : Nat) : Prop where
  box : At0 w rb [.slice A n c, .int .i64 (posN ns j : Int)] 101
  rd : Rd w rb A n (nb ns)
theorem RdrN.below {w w' : World} {rb : Nat} {A : Option Addr} {n c : Nat} {ns : List Int} {j : Nat} (h : RdrN w rb A n c ns j) (hb : Below w.heap.size w w') : RdrN w' rb A n c ns j := ⟨h.box.below hb, h.rd.below hb (Nat.le_of_lt h.box.lt)⟩
theorem RdrN.grown {w w' : World} {rb : Nat} {A : Option Addr} {n c : Nat} {ns : List Int} {j : Nat} {r : Option Nat} (h : RdrN w rb A n c ns j) (hg : w.grownBy w' r) (hr : ∀ g, r = some g → rb < g) : RdrN w' rb A n c ns j :=
  ⟨at0_grown h.box hg (fun e => by have := hr rb e.symm; omega), h.rd.keep fun p hp => World.cell?_of_block (hg.block p.block (Nat.lt_trans hp h.box.lt) (fun e => by have := hr p.block e.symm; omega))⟩
def NumberO (w : World) (rb : Nat) (A : Option Addr) (n c : Nat) (ns : List Int) (j : Nat) (v : Int) (e : Ending) (w' : World) : Prop :=
  e = .returned (.int .i64 v) ∧ RdrN w' rb A n c ns j ∧ w.grownBy w' (some rb)
set_option maxRecDepth 100000 in
set_option maxHeartbeats 8000000 in
theorem number_ok (rb : Nat) (A : Option Addr) (n c : Nat) (ns : List Int) (j : Nat) (v : Int) (w : World) (h : RdrN w rb A n c ns j) (hv : ns[j]? = some v) (hw : ∀ x ∈ ns, W63 x) (hn : n ≤ 1099511627776) :
    Calls Tryd.prog 79 #[.pointer (some ⟨rb, 0, none⟩)] w (NumberO w rb A n c ns (j + 1) v) := by
  have HG := Lib.hid (gv_num hv hw)
  have hp := pos_le ns j
  have hl := h.rd.len
  have HB := Lib.hid h.box
  have HR := Lib.hid h.rd
  have HGV := Lib.hid (GetVar_is A n c (posN ns j : Int) (nb ns) rb w.drew h.rd hn (by omega) HG.out)
  have h0 : w.cell? ⟨rb, 0, none⟩ = some (.slice A n c) := h.box.cell 0
  have h1 : w.cell? ⟨rb, 1, none⟩ = some (.int .i64 (posN ns j : Int)) := h.box.cell 1
  have f1 : w.frozen? ⟨rb, 1, none⟩ = false := h.box.frozen 1
  clear h hv hw hp hl
  go_enter Tryd.func79, Tryd.ntmps79
  go_upto_region 1 with fail
  go_region_with (go_at_call 101; (with_reducible refine HGV.out.mono ?_); rintro e w2 ⟨rfl, rfl⟩)
  all_goals go_wp2
  all_goals go_ret
  all_goals exact ⟨rfl, ⟨at0_set9 (show At0 w.drew rb _ _ from HB.out) 1 _, HR.out.keep fun p hp => World.cell?_setCell_other _ _ _ _ (by intro e; rw [← e] at hp; simp only at hp; omega)⟩, grown_then (grown_bel (bel_drew (Below.refl _ _))) (grown_set9 (a := ⟨rb, 1, none⟩) _) (.inl rfl)⟩
abbrev numF (rb : Nat) : Value := .func (.func 79) #[.pointer (some ⟨rb, 0, none⟩)] #[]
set_option maxRecDepth 100000 in
set_option maxHeartbeats 8000000 in
theorem howMany_ok (rb : Nat) (A : Option Addr) (n c : Nat) (ns : List Int) (j : Nat) (v most : Int) (w : World) (h : RdrN w rb A n c ns j) (hv : ns[j]? = some v) (hw : ∀ x ∈ ns, W63 x) (hn : n ≤ 1099511627776) (hm : 0 ≤ v ∧ v ≤ most) :
    Calls Tryd.prog 99 #[numF rb, .int .i64 most] w (NumberO w rb A n c ns (j + 1) v) := by
  have HNU := Lib.hid (number_ok rb A n c ns j v w h hv hw hn)
  have HM := Lib.hid (decide_eq_true hm)
  clear h hv hw hm
  go_enter Tryd.func99, Tryd.ntmps99
  go_wp2_with (first
    | (go_at_call 79; (with_reducible refine HNU.out.mono ?_); rintro e w2 ⟨rfl, hr2, hg2⟩; have HR2 := Lib.hid hr2; have HG2 := Lib.hid hg2; clear hr2 hg2)
    | (go_at_call 40; (with_reducible refine (within_at v 0 most _ HM.out).mono ?_); rintro e w3 ⟨rfl, rfl⟩))
  go_ret
  exact ⟨rfl, HR2.out, HG2.out⟩
set_option maxRecDepth 100000 in
set_option maxHeartbeats 8000000 in
theorem wdid_is (x0 x1 x2 : Int) (w : World) : Calls Tryd.prog 100 #[.agg #[.int .i64 x0, .int .i64 x1, .int .i64 x2]] w fun e w' => e = .returned (.agg #[.int .i64 x0, .int .i64 x1, .int .i64 x2]) ∧ Below w.heap.size w w' := by
  go_enter Tryd.func100, Tryd.ntmps100
  go_wp2
  refine bodyPost_ret (v := .agg #[.int .i64 x0, .int .i64 x1, .int .i64 x2]) (by simp [results, Tryd.results100, go_sem]) rfl ?_
  exact ⟨rfl, bel_trans (belA _ _) (belA _ _)⟩
end Go.Proofs.YtllebgadhhgckaaDoor.Sqs
