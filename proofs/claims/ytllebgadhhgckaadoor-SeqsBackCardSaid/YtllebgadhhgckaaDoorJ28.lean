/- Joined: CrcSum, OctFHas, OctFGet, CrcDev, BatDevK. -/
import Derived.Test.YtllebgadhhgckaaDoorJ10
import Derived.RegionTactic
import Derived.Test.YtllebgadhhgckaaDoorJ08
import Derived.Test.YtllebgadhhgckaaDoorJ21
import Derived.Lib.LazyBuf
import Derived.Test.YtllebgadhhgckaaDoorJ23
import Derived.Test.YtllebgadhhgckaaDoorJ27
/- The contracts of crc's Sum and of the closure in it. -/
namespace Go.Proofs.YtllebgadhhgckaaDoor.Crc
open Go.RowKit Oct

def goOnRel (b v : Nat) (w : World) (i : Value) (wr : World) : Prop := ∃ k : Nat, i = .int .i64 (k : Int) ∧ k ≤ 2 ∧ wr.heap[b]? = some (.cells #[.int .u32 (steps (4 * k) v : Int)] 84 (0, 0)) ∧ Below b w wr
theorem and_15 (v : Nat) (h : v < 4294967296) : bits .and .u32 (v : Int) 15 = ((v % 16 : Nat) : Int) := by
  have e := u32_and_nat v 15 h (by omega)
  rw [Nat.and_two_pow_sub_one_eq_mod v 4] at e
  exact e
theorem tab_lt (i : Nat) : tab.getD i 0 < 4294967296 := by
  by_cases h : i < 16
  · rw [tab_at h]
    exact steps_lt (by omega)
  · rw [List.getD_eq_getElem?_getD, List.getElem?_eq_none (by show 16 ≤ i; omega)]
    show 0 < _
    omega
set_option maxRecDepth 100000 in
theorem goOn_any (c : UInt8) (v b : Nat) (w : World) (hv : v < 4294967296) (hc : w.heap[b]? = some (.cells #[.int .u32 (v : Int)] 84 (0, 0))) (ht : Tab w) (hb : 0 < b) :
    Calls Tryd.prog 85 #[.int .u8 (c.toNat : Int), .pointer (some ⟨b, 0, none⟩)] w fun e w' => e = .returned (.tuple #[]) ∧ w'.heap[b]? = some (.cells #[.int .u32 (steps 8 (v ^^^ c.toNat) : Int)] 84 (0, 0)) ∧ Below b w w' := by
  have hcell := cell_of_one hc
  have hfree := free_of_one hc
  have hc255 : c.toNat ≤ 255 := by have := c.toNat_lt; omega
  have hxor := u32_xor_nat v c.toNat hv (by omega)
  obtain ⟨y, hy⟩ : ∃ y, y = v ^^^ c.toNat := ⟨_, rfl⟩
  have HY := Lib.hid (show y < 4294967296 by rw [hy]; exact xor32 hv (u8_32 c))
  rw [← hy] at hxor
  rw [← hy]
  have HC := Lib.hid hc
  have HT := Lib.hid ht
  have HV := Lib.hid hv
  clear hc ht hv hy
  go_enter Tryd.func85, Tryd.ntmps85
  go_wp2
  go_loopw [7] (fun i wr => goOnRel b y (w.setCell ⟨b, 0, none⟩ (.int .u32 (y : Int))) i wr) (fun i _ => 2 - (intOf i).toNat)
  case atStart => exact ⟨0, rfl, by omega, one_setCell HC.out, Below.refl _ _⟩
  case round =>
    obtain ⟨k, rfl, hk, hcr, hbr⟩ := hrel
    obtain ⟨x, hx⟩ : ∃ x, x = steps (4 * k) y := ⟨_, rfl⟩
    rw [← hx] at hcr
    have hx32 : x < 4294967296 := by rw [hx]; exact steps_lt HY.out
    by_cases hlt : k < 2
    · have hrc := cell_of_one hcr
      have hrf := free_of_one hcr
      have htc := ((HT.out.below (((Below.refl b w).setCell (Nat.le_refl b) (.int .u32 (y : Int))).trans hbr) hb) (x % 16) (Nat.mod_lt _ (by omega)))
      obtain ⟨m, hm⟩ : ∃ m, m = x % 16 := ⟨_, rfl⟩
      have hand := and_15 x hx32
      rw [← hm] at hand htc
      have hm16 : (m : Int) < 16 := by omega
      obtain ⟨t, hte⟩ : ∃ t, t = tab.getD m 0 := ⟨_, rfl⟩
      rw [← hte] at htc
      have hxr := u32_xor_nat (x / 16) t (by omega) (by rw [hte]; exact tab_lt m)
      obtain ⟨z, hz⟩ : ∃ z, z = x / 16 ^^^ t := ⟨_, rfl⟩
      rw [← hz] at hxr
      have HZ := Lib.hid (show z = steps (4 * (k + 1)) y by rw [hz, hte, hm, steps_four, ← hx, four_steps])
      have hq : ((x / 16 : Nat) : Int) = (x : Int) / 16 := by omega
      rw [hq] at hxr
      have hx1 : (x : Int) ≤ 4294967295 := by omega
      have HCR := Lib.hid hcr
      have HBR := Lib.hid hbr
      clear hcr hbr hz hte hq hx hx32 hm hxor hcell hfree
      go_wp2
      go_region
      go_wp2
      go_roundw
      case rel => exact ⟨k + 1, by go_num, by omega, HZ.out ▸ one_setCell HCR.out, (HBR.out.setCell (Nat.le_refl b) _).drew⟩
      case measure => simp [intOf]; omega
    · have hk2 : k = 2 := by omega
      have HE := Lib.hid (show x = steps 8 y by rw [hx, hk2])
      have HCR := Lib.hid hcr
      have HBR := Lib.hid (((Below.refl b w).setCell (Nat.le_refl b) (.int .u32 (y : Int))).trans hbr)
      subst hk2
      clear hcr hbr hx hx32 hxor hcell hfree
      go_wp2
      go_end0
      exact ⟨rfl, HE.out ▸ HCR.out, HBR.out⟩

theorem crc_take1 {v j : Nat} {l : List UInt8} {d : UInt8} (h : l[j]? = some d) : crc v (l.take (j + 1)) = steps 8 (crc v (l.take j) ^^^ d.toNat) := by
  rw [List.take_add_one, h]
  exact crc_snoc _ _ _
def sumRel (l : List UInt8) (n b : Nat) (w : World) (i : Value) (wr : World) : Prop := ∃ j : Nat, i = .int .i64 (j : Int) ∧ j ≤ n ∧ wr.heap[b]? = some (.cells #[.int .u32 (crc 4294967295 (l.take j) : Int)] 84 (0, 0)) ∧ Below b w wr
set_option maxRecDepth 100000 in
theorem Sum_any (A : Option Addr) (n c : Nat) (l : List UInt8) (B : Nat) (w : World) (hr : Rd w B A n l) (hB : B ≤ w.heap.size) (hn : n ≤ 549755813888) (ht : Tab w) :
    Calls Tryd.prog 60 #[.slice A n c] w (N32 w (sum l)) := by
  have HL := Lib.hid hr.len
  have HN := Lib.hid hn
  have HT := Lib.hid ht
  have HR := Lib.hid hr
  have H0 := Lib.hid (show (w.alloc (.cells #[.int .u32 4294967295] 84)).heap[w.heap.size]? = some (.cells #[.int .u32 4294967295] 84 (0, 0)) from heap_alloc_new w _)
  clear hn ht hr
  go_enter Tryd.func60, Tryd.ntmps60
  go_wp2
  go_loopw [10] (fun i wr => sumRel l n w.heap.size w i wr) (fun i _ => n - (intOf i).toNat)
  case atStart => exact ⟨0, rfl, Nat.zero_le _, H0.out, (Below.refl _ _).alloc (Nat.le_refl _) _⟩
  case round =>
    obtain ⟨j, rfl, hj, hcr, hbr⟩ := hrel
    obtain ⟨x, hx⟩ : ∃ x, x = crc 4294967295 (l.take j) := ⟨_, rfl⟩
    rw [← hx] at hcr
    have HX := Lib.hid hx
    have HX2 := Lib.hid (show x < 4294967296 by rw [hx]; exact crc_lt (by omega))
    have HCR := Lib.hid hcr
    have HBR := Lib.hid hbr
    clear hx hcr hbr
    have hnn := HN.out
    by_cases hlt : j < n
    · obtain ⟨b, o, d, rfl, _, hd, hcell⟩ := (HR.out.below HBR.out hB).at hlt
      have HD := Lib.hid hd
      clear hd
      go_wp2_with (go_at_call 85; refine (goOn_any d x w.heap.size wr HX2.out HCR.out (HT.out.bel HBR.out) HT.out.pos).mono ?_; rintro e w1 ⟨rfl, hc1, hb1⟩)
      go_roundw
      case rel => exact ⟨j + 1, by go_num, by omega, by rw [crc_take1 HD.out, ← HX.out]; exact hc1, HBR.out.trans hb1⟩
      case measure => simp [intOf]; omega
    · have hjn : j = n := by omega
      have hcell := cell_of_one HCR.out
      have HE := Lib.hid (show x ^^^ 4294967295 = sum l by rw [HX.out, List.take_of_length_le (by have := HL.out; omega)]; rfl)
      clear hjn
      go_wp2
      go_ret
      exact ⟨ret_int ((u32_xor_nat 4294967295 x (by omega) HX2.out).trans (congrArg Nat.cast ((Nat.xor_comm _ _).trans HE.out))), HBR.out⟩
end Go.Proofs.YtllebgadhhgckaaDoor.Crc

/- The contract of octet.Has. -/
namespace Go.Proofs.YtllebgadhhgckaaDoor.Oct
open Go.RowKit

theorem has_any (A : Option Addr) (n c : Nat) (k m : Int) (w : World) (hn : n ≤ 9223372036854775807) (hk0 : 0 ≤ k) :
    Calls Tryd.prog 84 #[.slice A n c, .int .i64 k, .int .i64 m] w fun e w' => e = .returned (.bool (hasB n k m)) ∧ w = w' := by
  go_enter Tryd.func84, Tryd.ntmps84
  go_wp2
  all_goals go_ret
  all_goals refine ⟨?_, rfl⟩
  · rename_i h; exact ret_bool (by simp [hasB, h])
  · rename_i h; exact ret_bool (by simp [hasB]; omega)

end Go.Proofs.YtllebgadhhgckaaDoor.Oct

/- The contract of octet.Get. -/
namespace Go.Proofs.YtllebgadhhgckaaDoor.Oct
open Go.RowKit

set_option maxRecDepth 100000 in
set_option maxHeartbeats 800000 in
theorem Get_yes (A : Option Addr) (n c : Nat) (m k : Nat) (l : List UInt8) (B : Nat) (w : World) (hr : Rd w B A n l) (hc : n ≤ c) (hn : n ≤ 1099511627776) (hw : isW (k : Int) = true) (hh : hasB n (m : Int) (k : Int) = true) :
    Calls Tryd.prog 59 #[.slice A n c, .int .i64 (m : Int), .int .i64 (k : Int)] w fun e w' => e = .returned (.tuple #[.int .u64 (getN ((l.drop m).take k) : Int), .int .i64 0]) ∧ w = w' := by
  have h1 : 1 ≤ k ∧ k ≤ 8 := by simp [isW] at hw; omega
  have h2 : m + k ≤ n := by simp [hasB] at hh; omega
  obtain ⟨b, o, d0, rfl, _, _, _⟩ := hr.at (k := m) (by omega)
  have hcut := hr.cut (i := m) (m := k) h2 _ (fun _ => rfl)
  have HLEN := Lib.hid hcut.len
  go_enter Tryd.func59, Tryd.ntmps59
  go_wp2_with (first | (go_at_call 83; refine (isWidth_any _ _).mono ?_; rintro e w1 ⟨rfl, rfl⟩) | (go_at_call 84; refine (has_any _ _ _ _ _ _ (by omega) (by omega)).mono ?_; rintro e w1 ⟨rfl, rfl⟩))
  go_loop [8, 30] (fun v i => gtRel ((l.drop m).take k) k v i) (fun _ i => k - (intOf i).toNat)
  case atStart => exact ⟨0, 0, rfl, rfl, Nat.zero_le _, rfl⟩
  case round =>
    obtain ⟨j, U, rfl, rfl, hj, hU⟩ := hrel
    have HU := Lib.hid hU
    clear hU
    by_cases hlt : j < k
    · obtain ⟨b', o', d, he, _, hd, hcell⟩ := hcut.at hlt
      simp only [Option.map_some, Addr.add_lit, Option.some.injEq, Addr.mk.injEq] at he
      obtain ⟨rfl, rfl, _⟩ := he
      have HD := Lib.hid hd
      have hd255 : d.toNat ≤ 255 := by have := d.toNat_lt; omega
      have HOR := Lib.hid (or8 U d (by rw [HU.out]; exact getN_small (by rw [List.length_take]; omega)))
      clear hd hcut hr
      go_wp2
      go_round
      case rel => exact ⟨j + 1, _, congrArg (Value.int .u64) HOR.out, by go_num, by omega, by rw [getN_take _ _ _ HD.out, HU.out]⟩
      case measure => simp [intOf]; omega
    · have hjk : j = k := by omega
      subst hjk
      have HT := Lib.hid (show U = getN ((l.drop m).take j) by rw [HU.out, List.take_of_length_le (by have := HLEN.out; omega)])
      clear hcut hr
      go_wp2
      go_ret2
      exact ⟨congrArg (fun z : Nat => Ending.returned (.tuple #[.int .u64 (z : Int), .int .i64 0])) HT.out, rfl⟩

end Go.Proofs.YtllebgadhhgckaaDoor.Oct

/- The contracts of crc's Seal and Open, and of bytes.Clone in it. -/
namespace Go.Proofs.YtllebgadhhgckaaDoor.Crc
open Go.RowKit Oct

theorem Clone_any (A : Option Addr) (n c : Nat) (l : List UInt8) (B : Nat) (w : World) (hr : Rd w B A n l) (hB : B ≤ w.heap.size) (hn : n ≤ 549755813888) :
    Calls Tryd.prog 61 #[.slice A n c] w (RB 5 w.heap.size w l) := by
  have hI := u8row
  have hq := Go.run_eql_slice_nil (P := Tryd.prog) w 39 5 A n c Tryd.underlying39
  cases A with
  | none =>
    have hl : n = 0 ∧ l = [] := hr.isNil
    obtain ⟨rfl, rfl⟩ := hl
    go_enter Tryd.func61, Tryd.ntmps61
    go_wp2
    go_ret
    exact ⟨none, 0, 0, rfl, OwnB.nil, Below.refl _ _⟩
  | some a =>
    go_enter Tryd.func61, Tryd.ntmps61
    go_wp2_with (at_builtin; refine wpList_app0 (w.alloc (.cells #[] 5)) rfl _ _ 39 rfl w.heap.size 5 Tryd.underlying39 hI _ rfl (own_lit w 5 [] 0 rfl (by omega)) B (some a) n c l rfl (hr.alloc hB _) (by omega) (by simp) ?_; intro A1 c1 w1 hown1 hb1)
    go_ret
    exact ⟨A1, n, c1, rfl, hown1, ((Below.refl w.heap.size w).alloc (Nat.le_refl _) (.cells #[] 5)).trans hb1⟩

theorem Seal_any (A : Option Addr) (n c : Nat) (l : List UInt8) (B : Nat) (w : World) (hr : Rd w B A n l) (hB : B ≤ w.heap.size) (_hc : n ≤ c) (hn : n ≤ 137438953472) (ht : Tab w) :
    Calls Tryd.prog 54 #[.slice A n c] w (RB 5 w.heap.size w (sealB l)) := by
  have HS := Lib.hid (sum_lt l)
  have HT := Lib.hid ht
  have HR := Lib.hid hr
  obtain ⟨s, hs⟩ : ∃ s, s = sum l := ⟨_, rfl⟩
  have HSE := Lib.hid hs
  have hs1 : (s : Int) ≤ 4294967295 := by have := HS.out; omega
  have HW := Lib.hid (show (l ++ if isW 4 = true then beN s (4 : Int).toNat (4 : Int).toNat else []) = sealB l by rw [if_pos (by decide), hs]; rfl)
  clear ht hr hs
  go_enter Tryd.func54, Tryd.ntmps54
  go_wp2_with (first
    | (go_at_call 60; refine (Sum_any A n c l B _ HR.out hB (by omega) HT.out).mono ?_; rw [← HSE.out]; rintro e w1 ⟨rfl, hb1⟩)
    | (go_at_call 74; refine (Put_any A n c s 4 l w.heap.size w1 ((HR.out.more hB).below hb1 (Nat.le_refl _)) hb1.size (by omega)).mono ?_; rw [HW.out]; rintro e w2 ⟨A2, n2, c2, rfl, hown2, hb2⟩))
  go_ret
  exact ⟨A2, n2, c2, rfl, hown2.more hb1.size, bel_trans hb1 hb2⟩

theorem openB_is {l : List UInt8} {N : Nat} (h : l.length = N + 4) : openB l = if getN ((l.drop N).take 4) = sum (l.take N) then (l.take N, 0) else ([], 20) := by
  have hd : (l.drop N).length = 4 := by rw [List.length_drop]; omega
  have e4 : l.length - 4 = N := by omega
  unfold openB
  rw [if_neg (by omega), e4, List.take_of_length_le (Nat.le_of_eq hd)]
  have hbe : getN (beN (sum (l.take N)) 4 4) = sum (l.take N) := by rw [getN_be, Nat.mod_eq_of_lt (sum_lt _)]
  by_cases he : l.drop N = beN (sum (l.take N)) 4 4
  · rw [if_pos he, if_pos (by rw [he]; exact hbe)]
  · rw [if_neg he, if_neg]
    intro e
    exact he (getN_inj _ _ (by rw [hd, beN_length]) (e.trans hbe.symm))
set_option maxRecDepth 100000 in
theorem Open_any (A : Option Addr) (n c : Nat) (l : List UInt8) (B : Nat) (w : World) (hr : Rd w B A n l) (hB : B ≤ w.heap.size) (hc : n ≤ c) (hn : n ≤ 137438953472) (ht : Tab w) :
    Calls Tryd.prog 29 #[.slice A n c] w (OPr 5 w.heap.size w (openB l).1 (openB l).2) := by
  have hl := hr.len
  by_cases h4 : n < 4
  · have HO := Lib.hid (show openB l = ([], 10) by unfold openB; rw [if_pos (by omega)])
    rw [HO.out]
    clear hr hl hB hc ht
    go_enter Tryd.func29, Tryd.ntmps29
    go_wp2
    go_ret2
    exact ⟨none, 0, 0, rfl, OwnB.nil, Below.refl _ _⟩
  · obtain ⟨N, rfl⟩ : ∃ N, n = N + 4 := ⟨n - 4, by omega⟩
    have HR := Lib.hid hr
    have HT := Lib.hid ht
    have HO := Lib.hid (openB_is hl)
    have hsub : ((N + 4 : Nat) : Int) - 4 = (N : Int) := by omega
    have HH := Lib.hid (show hasB (N + 4) (N : Int) ((4 : Nat) : Int) = true by simp [hasB]; omega)
    obtain ⟨U, hU⟩ : ∃ U, U = getN ((l.drop N).take 4) := ⟨_, rfl⟩
    obtain ⟨s, hs⟩ : ∃ s, s = sum (l.take N) := ⟨_, rfl⟩
    have HU := Lib.hid hU
    have HS := Lib.hid hs
    have hs1 : (s : Int) ≤ 4294967295 := by have := sum_lt (l.take N); omega
    rw [HO.out, ← hU, ← hs]
    clear hr ht hl h4 hU hs
    by_cases he : U = s
    · have hne : ((U : Int) != (s : Int)) = false := by rw [he]; simp
      rw [if_pos he]
      clear he
      go_enter Tryd.func29, Tryd.ntmps29
      go_wp2_with (first
        | (go_at_call 59; refine (Get_yes A (N + 4) c N 4 l B _ HR.out hc (by omega) (by decide) HH.out).mono ?_; rw [← HU.out]; rintro e w9 ⟨rfl, rfl⟩)
        | (go_at_call 60; refine (Sum_any A N c (l.take N) B _ (HR.out.take (by omega)) hB (by omega) HT.out).mono ?_; rw [← HS.out]; rintro e w1 ⟨rfl, hb1⟩)
        | (go_at_call 61; refine (Clone_any A N c (l.take N) w.heap.size w1 (((HR.out.take (by omega)).more hB).below hb1 (Nat.le_refl _)) hb1.size (by omega)).mono ?_; rintro e w2 ⟨A2, n2, c2, rfl, hown2, hb2⟩))
      go_ret2
      exact ⟨A2, n2, c2, rfl, hown2.more hb1.size, bel_trans hb1 hb2⟩
    · have hne : ((U : Int) != (s : Int)) = true := by simp; omega
      rw [if_neg he]
      clear he
      go_enter Tryd.func29, Tryd.ntmps29
      go_wp2_with (first
        | (go_at_call 59; refine (Get_yes A (N + 4) c N 4 l B _ HR.out hc (by omega) (by decide) HH.out).mono ?_; rw [← HU.out]; rintro e w9 ⟨rfl, rfl⟩)
        | (go_at_call 60; refine (Sum_any A N c (l.take N) B _ (HR.out.take (by omega)) hB (by omega) HT.out).mono ?_; rw [← HS.out]; rintro e w1 ⟨rfl, hb1⟩))
      go_ret2
      exact ⟨none, 0, 0, rfl, OwnB.nil, hb1⟩
end Go.Proofs.YtllebgadhhgckaaDoor.Crc

/- The contracts of the landed bodyOf, Check, Size and Put. -/
namespace Go.Proofs.YtllebgadhhgckaaDoor.Bat
open Go.RowKit Oct Rec Crc

theorem body_few {b : Bt} (hF : Form b) : (body b).length ≤ 1000000 := by
  have h1 := vs_ten hF.heads
  have h2 := hF.few
  have h3 := vb_ten (zz_lt (n := (b.recs.length : Int)) (by omega))
  have h4 : (tl b.base b.recs).length ≤ 10 + 145 * b.recs.length := by
    cases hr : b.recs with
    | nil => simp [tl]
    | cons x l =>
      have hm := hF.mays
      rw [hr] at hm
      have hx := may_iff.1 (hm x (by simp))
      have h5 := rs_145 (st := x.stamp) hm (inR_iff.2 ⟨hF.base0, hF.base1⟩) (inR_iff.2 hx.2.1)
      have h6 := vb_ten (zz_lt (n := x.stamp) (by omega))
      rw [tl, List.length_append]
      omega
  unfold body
  simp only [List.length_append, List.length_singleton]
  simp only [hd, List.length_cons, List.length_nil] at h1 ⊢
  omega
def boB (b : Bt) : List UInt8 := if chB b = 0 then body b else []
set_option maxRecDepth 100000 in
set_option maxHeartbeats 4000000 in
theorem bodyOf_any (ba la fr ep pi ge se : Int) (tx : Bool) (ct : Int) (rs : List Rc) (A : Option Addr) (n c : Nat) (w : World) (hF : Fits ⟨ba, la, fr, ep, pi, ge, se, tx, ct, rs⟩) (hr : RdR w w.heap.size A n rs) (hn : n ≤ 1099511627776) :
    Calls Tryd.prog 63 #[.agg #[.int .i64 ba, .int .i64 la, .int .i64 fr, .int .i64 ep, .int .i64 pi, .int .i64 ge, .int .i64 se, .bool tx, .int .i64 ct, .slice A n c]] w (OPr 5 w.heap.size w (boB ⟨ba, la, fr, ep, pi, ge, se, tx, ct, rs⟩) (chB ⟨ba, la, fr, ep, pi, ge, se, tx, ct, rs⟩)) := by
  have hb0 := bel_alloc (Below.refl w.heap.size w) (.cells #[.int .i64 ba, .int .i64 la, .int .i64 fr, .int .i64 ep, .int .i64 pi, .int .i64 ge, .int .i64 se, .bool tx, .int .i64 ct, .slice A n c] 25)
  have hrA : ∀ w', Below w.heap.size w w' → RdR w' w'.heap.size A n rs := fun w' hb => (hr.below hb (Nat.le_refl _)).more hb.size
  have HB0 := Lib.hid hb0
  have HRA := Lib.hid hrA
  have HFT := Lib.hid hF
  have HBX := Lib.hid (boxB_new w 25 ⟨ba, la, fr, ep, pi, ge, se, tx, ct, rs⟩ (.slice A n c))
  have hsz : w.heap.size < (w.alloc (.cells #[.int .i64 ba, .int .i64 la, .int .i64 fr, .int .i64 ep, .int .i64 pi, .int .i64 ge, .int .i64 se, .bool tx, .int .i64 ct, .slice A n c] 25)).heap.size := by simp
  clear hr hF hb0 hrA
  rcases hf : form ⟨ba, la, fr, ep, pi, ge, se, tx, ct, rs⟩ with _ | _
  · have hc : chB ⟨ba, la, fr, ep, pi, ge, se, tx, ct, rs⟩ = 1 := by unfold chB; rw [hf]; rfl
    rw [show boB ⟨ba, la, fr, ep, pi, ge, se, tx, ct, rs⟩ = [] by unfold boB; rw [hc]; rfl, hc]
    clear hc
    go_enter Tryd.func63, Tryd.ntmps63
    go_wp2_with (go_at_call 86; (with_reducible refine (hasForm_any ba la fr ep pi ge se tx ct rs A n c _ HFT.out (HRA.out _ HB0.out) hn hf).mono ?_); rintro e w2 ⟨rfl, hb2⟩; have HB2 := Lib.hid (bel_trans HB0.out hb2); obtain ⟨y0, y1, y2, y3, y4, y5, y6, y7, y8, y9⟩ := HBX.out.below hb2 hsz; simp only at y0 y1 y2 y3 y4 y5 y6 y7 y8 y9; clear hb2)
    go_ret2
    exact ⟨none, 0, 0, rfl, OwnB.nil, HB2.out⟩
  · have HFM := Lib.hid ((form_iff _).1 hf)
    have hbl := byB_length ⟨ba, la, fr, ep, pi, ge, se, tx, ct, rs⟩
    by_cases hlen : 2048 < (byB ⟨ba, la, fr, ep, pi, ge, se, tx, ct, rs⟩).length
    · have hc : chB ⟨ba, la, fr, ep, pi, ge, se, tx, ct, rs⟩ = 2 := by unfold chB; rw [hf, if_pos hlen]; rfl
      rw [show boB ⟨ba, la, fr, ep, pi, ge, se, tx, ct, rs⟩ = [] by unfold boB; rw [hc]; rfl, hc]
      have HL := Lib.hid (show 2040 < (body ⟨ba, la, fr, ep, pi, ge, se, tx, ct, rs⟩).length by omega)
      have HU := Lib.hid (body_few HFM.out)
      clear hc hlen hbl
      go_enter Tryd.func63, Tryd.ntmps63
      go_wp2_with (first | (go_at_call 86; (with_reducible refine (hasForm_any ba la fr ep pi ge se tx ct rs A n c _ HFT.out (HRA.out _ HB0.out) hn hf).mono ?_); rintro e w2 ⟨rfl, hb2⟩; have HB2 := Lib.hid (bel_trans HB0.out hb2); obtain ⟨y0, y1, y2, y3, y4, y5, y6, y7, y8, y9⟩ := HBX.out.below hb2 hsz; simp only at y0 y1 y2 y3 y4 y5 y6 y7 y8 y9; clear hb2) | (go_at_call 87; (with_reducible refine (write_any ba la fr ep pi ge se tx ct rs A n c _ HFM.out (HRA.out _ HB2.out)).mono ?_); rintro e w3 ⟨A3, n3, c3, rfl, hown3, hb3⟩; have hl3 := hown3.len; have HO3 := Lib.hid hown3; have HB3 := Lib.hid (bel_trans HB2.out hb3); have hs23 := HB2.out.size; clear hown3 hb3; have q3 : (2040 : Int) < (n3 : Int) := (by have := HL.out; omega); have q4 : n3 ≤ 1000000 := (by have := HU.out; omega); clear hl3))
      go_ret2
      exact ⟨none, 0, 0, rfl, OwnB.nil, HB3.out⟩
    · have hc : chB ⟨ba, la, fr, ep, pi, ge, se, tx, ct, rs⟩ = 0 := by unfold chB; rw [hf, if_neg hlen]; rfl
      rw [show boB ⟨ba, la, fr, ep, pi, ge, se, tx, ct, rs⟩ = body ⟨ba, la, fr, ep, pi, ge, se, tx, ct, rs⟩ by unfold boB; rw [if_pos hc], hc]
      have HL := Lib.hid (show (body ⟨ba, la, fr, ep, pi, ge, se, tx, ct, rs⟩).length ≤ 2040 by omega)
      clear hc hlen hbl
      go_enter Tryd.func63, Tryd.ntmps63
      go_wp2_with (first | (go_at_call 86; (with_reducible refine (hasForm_any ba la fr ep pi ge se tx ct rs A n c _ HFT.out (HRA.out _ HB0.out) hn hf).mono ?_); rintro e w2 ⟨rfl, hb2⟩; have HB2 := Lib.hid (bel_trans HB0.out hb2); obtain ⟨y0, y1, y2, y3, y4, y5, y6, y7, y8, y9⟩ := HBX.out.below hb2 hsz; simp only at y0 y1 y2 y3 y4 y5 y6 y7 y8 y9; clear hb2) | (go_at_call 87; (with_reducible refine (write_any ba la fr ep pi ge se tx ct rs A n c _ HFM.out (HRA.out _ HB2.out)).mono ?_); rintro e w3 ⟨A3, n3, c3, rfl, hown3, hb3⟩; have hl3 := hown3.len; have HO3 := Lib.hid hown3; have HB3 := Lib.hid (bel_trans HB2.out hb3); have hs23 := HB2.out.size; clear hown3 hb3; have q3 : (n3 : Int) ≤ (2040 : Int) := (by have := HL.out; omega); clear hl3))
      go_ret2
      exact ⟨A3, n3, c3, rfl, HO3.out.more hs23, HB3.out⟩
set_option maxRecDepth 100000 in
set_option maxHeartbeats 4000000 in
theorem BCheck_any (ba la fr ep pi ge se : Int) (tx : Bool) (ct : Int) (rs : List Rc) (A : Option Addr) (n c : Nat) (w : World) (hF : Fits ⟨ba, la, fr, ep, pi, ge, se, tx, ct, rs⟩) (hr : RdR w w.heap.size A n rs) (hn : n ≤ 1099511627776) (ht : Tab w) :
    Calls Tryd.prog 31 #[.agg #[.int .i64 ba, .int .i64 la, .int .i64 fr, .int .i64 ep, .int .i64 pi, .int .i64 ge, .int .i64 se, .bool tx, .int .i64 ct, .slice A n c]] w fun e w' => e = .returned (.int .i64 (chB ⟨ba, la, fr, ep, pi, ge, se, tx, ct, rs⟩)) ∧ Below w.heap.size w w' := by
  have hb0 := bel_alloc (Below.refl w.heap.size w) (.cells #[.int .i64 ba, .int .i64 la, .int .i64 fr, .int .i64 ep, .int .i64 pi, .int .i64 ge, .int .i64 se, .bool tx, .int .i64 ct, .slice A n c] 25)
  have hrA : ∀ w', Below w.heap.size w w' → RdR w' w'.heap.size A n rs := fun w' hb => (hr.below hb (Nat.le_refl _)).more hb.size
  have HB0 := Lib.hid hb0
  have HRA := Lib.hid hrA
  have HFT := Lib.hid hF
  have HBX := Lib.hid (boxB_new w 25 ⟨ba, la, fr, ep, pi, ge, se, tx, ct, rs⟩ (.slice A n c))
  have hsz : w.heap.size < (w.alloc (.cells #[.int .i64 ba, .int .i64 la, .int .i64 fr, .int .i64 ep, .int .i64 pi, .int .i64 ge, .int .i64 se, .bool tx, .int .i64 ct, .slice A n c] 25)).heap.size := by simp
  obtain ⟨z, hz⟩ : ∃ z, chB ⟨ba, la, fr, ep, pi, ge, se, tx, ct, rs⟩ = z := ⟨_, rfl⟩
  obtain ⟨l, hl⟩ : ∃ l, boB ⟨ba, la, fr, ep, pi, ge, se, tx, ct, rs⟩ = l := ⟨_, rfl⟩
  have HC := Lib.hid hz
  have HBO := Lib.hid hl
  have HT := Lib.hid ht
  rw [hz]
  clear hr hF hb0 hrA hz hl ht
  go_enter Tryd.func31, Tryd.ntmps31
  go_wp2_with (go_at_call 63; (with_reducible refine (bodyOf_any ba la fr ep pi ge se tx ct rs A n c _ HFT.out (HRA.out _ HB0.out) hn).mono ?_); rw [HC.out, HBO.out]; rintro e w2 ⟨A2, n2, c2, rfl, hown2, hb2⟩; have HO2 := Lib.hid hown2; have HB2 := Lib.hid (bel_trans HB0.out hb2); have hs2 := hb2.size; have hs0 := HB0.out.size; clear hown2 hb2)
  go_ret
  exact ⟨rfl, HB2.out⟩
end Go.Proofs.YtllebgadhhgckaaDoor.Bat
