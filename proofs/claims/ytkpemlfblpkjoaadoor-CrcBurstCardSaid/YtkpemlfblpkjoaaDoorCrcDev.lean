/- The contracts of crc's Seal and Open, and of bytes.Clone in it. -/
import Derived.Test.YtkpemlfblpkjoaaDoorCrcSum
import Derived.Test.YtkpemlfblpkjoaaDoorCrcTimes
import Derived.Test.YtkpemlfblpkjoaaDoorOctFPut
import Derived.Test.YtkpemlfblpkjoaaDoorOctFGet
import Derived.Lib.LazyBuf
namespace Go.Proofs.YtkpemlfblpkjoaaDoor.Crc
open Go.RowKit Go.Proofs.YtkpemlfblpkjoaaDoor.Oct

theorem Clone_any (A : Option Addr) (n c : Nat) (l : List UInt8) (B : Nat) (w : World) (hr : Rd w B A n l) (hB : B ≤ w.heap.size) (hn : n ≤ 549755813888) :
    Calls Tryd.prog 24 #[.slice A n c] w (RB 5 w.heap.size w l) := by
  have hI := u8row
  have hq := Go.run_eql_slice_nil (P := Tryd.prog) w 22 5 A n c Tryd.underlying22
  cases A with
  | none =>
    have hl : n = 0 ∧ l = [] := hr.isNil
    obtain ⟨rfl, rfl⟩ := hl
    go_enter Tryd.func24, Tryd.ntmps24
    go_wp2
    go_ret
    exact ⟨none, 0, 0, rfl, OwnB.nil, Below.refl _ _⟩
  | some a =>
    go_enter Tryd.func24, Tryd.ntmps24
    go_wp2_with (at_builtin; refine wpList_app0 (w.alloc (.cells #[] 5)) rfl _ _ 22 rfl w.heap.size 5 Tryd.underlying22 hI _ rfl (own_lit w 5 [] 0 rfl (by omega)) B (some a) n c l rfl (hr.alloc hB _) (by omega) (by simp) ?_; intro A1 c1 w1 hown1 hb1)
    go_ret
    exact ⟨A1, n, c1, rfl, hown1, ((Below.refl w.heap.size w).alloc (Nat.le_refl _) (.cells #[] 5)).trans hb1⟩

theorem Seal_any (A : Option Addr) (n c : Nat) (l : List UInt8) (B : Nat) (w : World) (hr : Rd w B A n l) (hB : B ≤ w.heap.size) (hc : n ≤ c) (hn : n ≤ 137438953472) (ht : Tab w) :
    Calls Tryd.prog 17 #[.slice A n c] w (RB 5 w.heap.size w (sealB l)) := by
  have HS := Lib.hid (sum_lt l)
  have HT := Lib.hid ht
  have HR := Lib.hid hr
  obtain ⟨s, hs⟩ : ∃ s, s = sum l := ⟨_, rfl⟩
  have HSE := Lib.hid hs
  have hs1 : (s : Int) ≤ 4294967295 := by have := HS.out; omega
  have HW := Lib.hid (show (l ++ if isW 4 = true then beN s (4 : Int).toNat (4 : Int).toNat else []) = sealB l by rw [if_pos (by decide), hs]; rfl)
  clear ht hr hs
  go_enter Tryd.func17, Tryd.ntmps17
  go_wp2_with (first
    | (go_at_call 13; refine (Sum_any A n c l B _ HR.out hB (by omega) HT.out).mono ?_; rw [← HSE.out]; rintro e w1 ⟨rfl, hb1⟩)
    | (go_at_call 26; refine (Put_any A n c s 4 l w.heap.size w1 ((HR.out.more hB).below hb1 (Nat.le_refl _)) hb1.size (by omega)).mono ?_; rw [HW.out]; rintro e w2 ⟨A2, n2, c2, rfl, hown2, hb2⟩))
  go_ret
  exact ⟨A2, n2, c2, rfl, hown2.more hb1.size, bel_trans hb1 hb2⟩

theorem openB_is {l : List UInt8} {N : Nat} (h : l.length = N + 4) : openB l = if getN ((l.drop N).take 4) = sum (l.take N) then (l.take N, 0) else ([], 20) := by
  have hd : (l.drop N).length = 4 := by rw [List.length_drop]; omega
  have e4 : l.length - 4 = N := by omega
  unfold openB
  rw [if_neg (by omega), e4, List.take_of_length_le (Nat.le_of_eq hd)]
  have hbe : getN (beN (sum (l.take N)) 4 4) = sum (l.take N) := by rw [getN_be, Nat.mod_eq_of_lt (sum_lt _)]
  by_cases he : l.drop N = beN (sum (l.take N)) 4 4
  · rw [if_pos he, if_pos (by rw [he]; exact hbe)]
  · rw [if_neg he, if_neg]
    intro e
    exact he (getN_inj _ _ (by rw [hd, beN_length]) (e.trans hbe.symm))
set_option maxRecDepth 100000 in
theorem Open_any (A : Option Addr) (n c : Nat) (l : List UInt8) (B : Nat) (w : World) (hr : Rd w B A n l) (hB : B ≤ w.heap.size) (hc : n ≤ c) (hn : n ≤ 137438953472) (ht : Tab w) :
    Calls Tryd.prog 15 #[.slice A n c] w (OPr 5 w.heap.size w (openB l).1 (openB l).2) := by
  have hl := hr.len
  by_cases h4 : n < 4
  · have HO := Lib.hid (show openB l = ([], 10) by unfold openB; rw [if_pos (by omega)])
    rw [HO.out]
    clear hr hl hB hc ht
    go_enter Tryd.func15, Tryd.ntmps15
    go_wp2
    go_ret2
    exact ⟨none, 0, 0, rfl, OwnB.nil, Below.refl _ _⟩
  · obtain ⟨N, rfl⟩ : ∃ N, n = N + 4 := ⟨n - 4, by omega⟩
    have HR := Lib.hid hr
    have HT := Lib.hid ht
    have HO := Lib.hid (openB_is hl)
    have hsub : ((N + 4 : Nat) : Int) - 4 = (N : Int) := by omega
    have HH := Lib.hid (show hasB (N + 4) (N : Int) ((4 : Nat) : Int) = true by simp [hasB]; omega)
    obtain ⟨U, hU⟩ : ∃ U, U = getN ((l.drop N).take 4) := ⟨_, rfl⟩
    obtain ⟨s, hs⟩ : ∃ s, s = sum (l.take N) := ⟨_, rfl⟩
    have HU := Lib.hid hU
    have HS := Lib.hid hs
    have hs1 : (s : Int) ≤ 4294967295 := by have := sum_lt (l.take N); omega
    rw [HO.out, ← hU, ← hs]
    clear hr ht hl h4 hU hs
    by_cases he : U = s
    · have hne : ((U : Int) != (s : Int)) = false := by rw [he]; simp
      rw [if_pos he]
      clear he
      go_enter Tryd.func15, Tryd.ntmps15
      go_wp2_with (first
        | (go_at_call 21; refine (Get_yes A (N + 4) c N 4 l B _ HR.out hc (by omega) (by decide) HH.out).mono ?_; rw [← HU.out]; rintro e w9 ⟨rfl, rfl⟩)
        | (go_at_call 13; refine (Sum_any A N c (l.take N) B _ (HR.out.take (by omega)) hB (by omega) HT.out).mono ?_; rw [← HS.out]; rintro e w1 ⟨rfl, hb1⟩)
        | (go_at_call 24; refine (Clone_any A N c (l.take N) w.heap.size w1 (((HR.out.take (by omega)).more hB).below hb1 (Nat.le_refl _)) hb1.size (by omega)).mono ?_; rintro e w2 ⟨A2, n2, c2, rfl, hown2, hb2⟩))
      go_ret2
      exact ⟨A2, n2, c2, rfl, hown2.more hb1.size, bel_trans hb1 hb2⟩
    · have hne : ((U : Int) != (s : Int)) = true := by simp; omega
      rw [if_neg he]
      clear he
      go_enter Tryd.func15, Tryd.ntmps15
      go_wp2_with (first
        | (go_at_call 21; refine (Get_yes A (N + 4) c N 4 l B _ HR.out hc (by omega) (by decide) HH.out).mono ?_; rw [← HU.out]; rintro e w9 ⟨rfl, rfl⟩)
        | (go_at_call 13; refine (Sum_any A N c (l.take N) B _ (HR.out.take (by omega)) hB (by omega) HT.out).mono ?_; rw [← HS.out]; rintro e w1 ⟨rfl, hb1⟩))
      go_ret2
      exact ⟨none, 0, 0, rfl, OwnB.nil, hb1⟩
end Go.Proofs.YtkpemlfblpkjoaaDoor.Crc
