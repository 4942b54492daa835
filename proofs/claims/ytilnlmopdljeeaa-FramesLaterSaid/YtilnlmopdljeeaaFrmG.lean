/- The laws' own framed: bodies as a stream. -/
import Derived.Test.YtilnlmopdljeeaaFrmP
import Derived.Test.YtilnlmopdljeeaaRowL2
namespace Go.Proofs.Ytilnlmopdljeeaa.Frm
open Go.RowKit Go.Proofs.Ytilnlmopdljeeaa.Oct Go.Proofs.Ytilnlmopdljeeaa.RowF Go.Proofs.Ytilnlmopdljeeaa.RowL Go.Proofs.Ytilnlmopdljeeaa.Lay

/-- those that can be framed, and their frames: in two blocks of the call's own; the bodies lie where they lay -/
def RG (eL e8 : TypeId) (w : World) (L : List (List UInt8)) (en : Ending) (w' : World) : Prop :=
  ∃ A n c A2 n2 c2, en = .returned (.tuple #[.slice A n c, .slice A2 n2 c2]) ∧ OwnL w' eL (fun b => b < w.heap.size) w.heap.size (.slice A n c) n (gd L) ∧ OwnB w' e8 w.heap.size (.slice A2 n2 c2) n2 (frs (gd L)) ∧ n2 ≤ 12300000 ∧ Below w.heap.size w w'
theorem FPut_is {x : List UInt8} {z : Int} (A : Option Addr) (n c : Nat) (l : List UInt8) (B : Nat) (w : World) (hr : Rd w B A n l) (hB : B ≤ w.heap.size) (hc : n ≤ c) (h : ptF l = (x, z)) :
    Calls Try.prog 12 #[.slice A n c] w (fun e w' => ∃ A n c, e = .returned (.tuple #[.slice A n c, .int .i64 z]) ∧ OwnB w' 5 w.heap.size (.slice A n c) n x ∧ Below w.heap.size w w') := by
  have h1 := FPut_any A n c l B w hr hB hc
  rw [h] at h1
  exact h1
set_option maxRecDepth 100000 in
set_option maxHeartbeats 2000000 in
theorem framed_any (A : Option Addr) (n c : Nat) (L : List (List UInt8)) (w : World) (hr : RdN w w.heap.size A n L) (hn : n ≤ 3000) :
    Calls Try.prog 20 #[.slice A n c] w (RG 22 5 w L) := by
  have hI := u8row
  have HR := Lib.hid hr
  clear hr
  go_enter Try.func20, Try.ntmps20
  go_wp2
  go_loopw [4, 5, 6] (fun vg vb i wr => frRel 5 22 L n w vg vb i wr) (fun _ _ i _ => n - (intOf i).toNat)
  case atStart => exact frRel_start _ _ _ _ _
  case round =>
    obtain ⟨k, A1, n1, c1, A2, n2, c2, rfl, hk, rfl, rfl, h1, h2, hg, ho, ha, hb⟩ := hrel
    have HG := Lib.hid hg
    have HO := Lib.hid ho
    have HA := Lib.hid ha
    have HBL := Lib.hid hb
    have HX := Lib.hid (HR.out.below hb (Nat.le_refl _))
    have hsz := hb.size
    clear hg ho ha hb
    by_cases hlt : k < n
    · obtain ⟨b, o, a, m, c3, l, rfl, hbl, hl, hcell, hm, hrd⟩ := HX.out.at hlt
      have HL := Lib.hid hl
      have HRD := Lib.hid hrd
      clear hl hrd
      rcases hok : okF l with _ | _
      · have HOK := Lib.hid hok
        have HP := Lib.hid (show ptF l = ([], 11) by unfold ptF; rw [hok]; rfl)
        clear hok
        go_wp2_with (go_at_call 12; (with_reducible refine (FPut_is a m c3 l w.heap.size _ HRD.out hsz hm HP.out).mono ?_); rintro e w5 ⟨A5, n5, c5, rfl, ho5, hb5⟩)
        go_roundw
        case rel => exact frRel_skip HL.out hlt HOK.out h1 h2 HG.out HO.out HA.out HBL.out hb5 (by go_num)
        case measure => simp [intOf]; omega
      · have HOK := Lib.hid hok
        have hok2 : 1 ≤ l.length ∧ l.length ≤ 4096 := by simpa [okF] using hok
        have HP := Lib.hid (show ptF l = (fr l, 0) by unfold ptF; rw [hok]; rfl)
        have HFL := Lib.hid (fr_length l)
        have HGL := Lib.hid (fun g h => (OwnL.lt HG.out g h))
        have HOL := Lib.hid (fun g h => (World.ownsRow.lt HO.out g h))
        obtain ⟨f, hf⟩ : ∃ f, f = fr l := ⟨_, rfl⟩
        rw [← hf] at HP HFL
        have HF := Lib.hid hf
        clear hok hf
        go_wp2_with (first
          | (go_at_call 12; (with_reducible refine (FPut_is a m c3 l w.heap.size _ HRD.out hsz hm HP.out).mono ?_); rintro e w5 ⟨A5, n5, c5, rfl, ho5, hb5⟩; have HO5 := Lib.hid ho5; have HW5 := Lib.hid hb5; have hs5 := hb5.size; have hn5 : n5 ≤ 4100 := (by have := ho5.len; have := HFL.out; omega); have hc5 := hb5.cell (p := ⟨b, o + k, none⟩) (by simp only; omega); have HLA := Lib.hid (show Lead w5 (fun b => b < w.heap.size) (Value.slice A1 n1 c1).ownBlock (a, m, c3) l from lead_arg (w := w) (HRD.out.below HW5.out hsz) hm (Nat.le_refl _) (by omega) (fun g h => (HGL.out g h).1)); clear ho5 hb5)
          | (at_builtin; (refine wpList_appL1 w5 rfl _ _ 28 rfl 24 w.heap.size 22 Try.underlying28 slInfo (.slice A1 n1 c1) n1 _ rfl (HG.out.below HW5.out) a m c3 l rfl HLA.out (by omega) (by omega) (by omega) ?_); intro A6 c6 w6 hL6 hg6 hat6 hb6; have HL6 := Lib.hid hL6; have HG6 := Lib.hid hg6; have HT6 := Lib.hid hat6; have HB6 := Lib.hid hb6; have hs6 := hb6.size; clear hL6 hg6 hat6 hb6; have HO6 := Lib.hid (own_far ((HO.out.below HW5.out).alloc (.cells #[.slice a m c3] 22)) HA.out HG6.out); have HA6 := Lib.hid (apart_after ((HO.out.below HW5.out).alloc (.cells #[.slice a m c3] 22)) HA.out HT6.out); have HX6 := Lib.hid (own_far (HO5.out.alloc (.cells #[.slice a m c3] 22)) (fun g h1 h2 => absurd (World.ownsRow.lt HO5.out g h2).1 (by have := (HGL.out g h1).2; omega)) HG6.out))
          | (at_builtin; (refine wpList_appBG w6 rfl _ _ 22 rfl w.heap.size 5 Try.underlying22 hI (.slice A2 n2 c2) n2 _ rfl HO6.out w6.heap.size A5 n5 c5 f rfl (OwnB.rd HX6.out) (by omega) (by omega) ?_); intro A7 c7 w7 hown7 hgr7 hat7; have HO7 := Lib.hid hown7; have HG7 := Lib.hid hgr7; have HT7 := Lib.hid hat7; clear hown7 hgr7 hat7))
        go_roundw
        case rel =>
          obtain ⟨hs6, hq6, _⟩ := HL6.out
          have e5 : n5 = (fr l).length := by rw [← HF.out]; exact HO5.out.len.symm
          have h7 := HO7.out
          rw [HF.out] at h7
          exact frRel_more HL.out hlt HOK.out h1 h2 e5 (OwnL.far HL6.out HA6.out.symm (fun g h hlow => by have := (HOL.out g h).1; omega) HG7.out) h7 (apart_after hq6 HA6.out.symm HT7.out).symm (((HBL.out.trans (HW5.out.mono hsz)).trans HB6.out).trans (below_of_grown w6 HO6.out HG7.out (by omega))) (by go_num)
        case measure => simp [intOf]; omega
    · have hkn : k = n := by omega
      subst hkn
      have ht : L.take k = L := List.take_of_length_le (by have := HX.out.len; omega)
      rw [ht] at HG HO
      go_wp2
      go_ret2
      exact ⟨A1, n1, c1, A2, n2, c2, rfl, HG.out, HO.out, by omega, HBL.out⟩
end Go.Proofs.Ytilnlmopdljeeaa.Frm
