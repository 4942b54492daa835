/- The contracts of crc's Sum and of the closure in it. -/
import Derived.Test.YtkpemlfblpkjoaaDoorCrcTab
import Derived.RegionTactic
namespace Go.Proofs.YtkpemlfblpkjoaaDoor.Crc
open Go.RowKit Go.Proofs.YtkpemlfblpkjoaaDoor.Oct

def goOnRel (b v : Nat) (w : World) (i : Value) (wr : World) : Prop := ∃ k : Nat, i = .int .i64 (k : Int) ∧ k ≤ 2 ∧ wr.heap[b]? = some (.cells #[.int .u32 (steps (4 * k) v : Int)] 24 (0, 0)) ∧ Below b w wr
theorem and_15 (v : Nat) (h : v < 4294967296) : bits .and .u32 (v : Int) 15 = ((v % 16 : Nat) : Int) := by
  have e := u32_and_nat v 15 h (by omega)
  rw [Nat.and_two_pow_sub_one_eq_mod v 4] at e
  exact e
theorem tab_lt (i : Nat) : tab.getD i 0 < 4294967296 := by
  by_cases h : i < 16
  · rw [tab_at h]
    exact steps_lt (by omega)
  · rw [List.getD_eq_getElem?_getD, List.getElem?_eq_none (by show 16 ≤ i; omega)]
    show 0 < _
    omega
set_option maxRecDepth 100000 in
theorem goOn_any (c : UInt8) (v b : Nat) (w : World) (hv : v < 4294967296) (hc : w.heap[b]? = some (.cells #[.int .u32 (v : Int)] 24 (0, 0))) (ht : Tab w) (hb : 0 < b) :
    Calls Tryd.prog 22 #[.int .u8 (c.toNat : Int), .pointer (some ⟨b, 0, none⟩)] w fun e w' => e = .returned (.tuple #[]) ∧ w'.heap[b]? = some (.cells #[.int .u32 (steps 8 (v ^^^ c.toNat) : Int)] 24 (0, 0)) ∧ Below b w w' := by
  have hcell := cell_of_one hc
  have hfree := free_of_one hc
  have hc255 : c.toNat ≤ 255 := by have := c.toNat_lt; omega
  have hxor := u32_xor_nat v c.toNat hv (by omega)
  obtain ⟨y, hy⟩ : ∃ y, y = v ^^^ c.toNat := ⟨_, rfl⟩
  have HY := Lib.hid (show y < 4294967296 by rw [hy]; exact xor32 hv (u8_32 c))
  rw [← hy] at hxor
  rw [← hy]
  have HC := Lib.hid hc
  have HT := Lib.hid ht
  have HV := Lib.hid hv
  clear hc ht hv hy
  go_enter Tryd.func22, Tryd.ntmps22
  go_wp2
  go_loopw [7] (fun i wr => goOnRel b y (w.setCell ⟨b, 0, none⟩ (.int .u32 (y : Int))) i wr) (fun i _ => 2 - (intOf i).toNat)
  case atStart => exact ⟨0, rfl, by omega, one_setCell HC.out, Below.refl _ _⟩
  case round =>
    obtain ⟨k, rfl, hk, hcr, hbr⟩ := hrel
    obtain ⟨x, hx⟩ : ∃ x, x = steps (4 * k) y := ⟨_, rfl⟩
    rw [← hx] at hcr
    have hx32 : x < 4294967296 := by rw [hx]; exact steps_lt HY.out
    by_cases hlt : k < 2
    · have hrc := cell_of_one hcr
      have hrf := free_of_one hcr
      have htc := ((HT.out.below (((Below.refl b w).setCell (Nat.le_refl b) (.int .u32 (y : Int))).trans hbr) hb) (x % 16) (Nat.mod_lt _ (by omega)))
      obtain ⟨m, hm⟩ : ∃ m, m = x % 16 := ⟨_, rfl⟩
      have hand := and_15 x hx32
      rw [← hm] at hand htc
      have hm16 : (m : Int) < 16 := by omega
      obtain ⟨t, hte⟩ : ∃ t, t = tab.getD m 0 := ⟨_, rfl⟩
      rw [← hte] at htc
      have hxr := u32_xor_nat (x / 16) t (by omega) (by rw [hte]; exact tab_lt m)
      obtain ⟨z, hz⟩ : ∃ z, z = x / 16 ^^^ t := ⟨_, rfl⟩
      rw [← hz] at hxr
      have HZ := Lib.hid (show z = steps (4 * (k + 1)) y by rw [hz, hte, hm, steps_four, ← hx, four_steps])
      have hq : ((x / 16 : Nat) : Int) = (x : Int) / 16 := by omega
      rw [hq] at hxr
      have hx1 : (x : Int) ≤ 4294967295 := by omega
      have HCR := Lib.hid hcr
      have HBR := Lib.hid hbr
      clear hcr hbr hz hte hq hx hx32 hm hxor hcell hfree
      go_wp2
      go_region
      go_wp2
      go_roundw
      case rel => exact ⟨k + 1, by go_num, by omega, HZ.out ▸ one_setCell HCR.out, (HBR.out.setCell (Nat.le_refl b) _).drew⟩
      case measure => simp [intOf]; omega
    · have hk2 : k = 2 := by omega
      have HE := Lib.hid (show x = steps 8 y by rw [hx, hk2])
      have HCR := Lib.hid hcr
      have HBR := Lib.hid (((Below.refl b w).setCell (Nat.le_refl b) (.int .u32 (y : Int))).trans hbr)
      subst hk2
      clear hcr hbr hx hx32 hxor hcell hfree
      go_wp2
      go_end0
      exact ⟨rfl, HE.out ▸ HCR.out, HBR.out⟩

theorem crc_take1 {v j : Nat} {l : List UInt8} {d : UInt8} (h : l[j]? = some d) : crc v (l.take (j + 1)) = steps 8 (crc v (l.take j) ^^^ d.toNat) := by
  rw [List.take_add_one, h]
  exact crc_snoc _ _ _
def sumRel (l : List UInt8) (n b : Nat) (w : World) (i : Value) (wr : World) : Prop := ∃ j : Nat, i = .int .i64 (j : Int) ∧ j ≤ n ∧ wr.heap[b]? = some (.cells #[.int .u32 (crc 4294967295 (l.take j) : Int)] 24 (0, 0)) ∧ Below b w wr
set_option maxRecDepth 100000 in
theorem Sum_any (A : Option Addr) (n c : Nat) (l : List UInt8) (B : Nat) (w : World) (hr : Rd w B A n l) (hB : B ≤ w.heap.size) (hn : n ≤ 549755813888) (ht : Tab w) :
    Calls Tryd.prog 13 #[.slice A n c] w (N32 w (sum l)) := by
  have HL := Lib.hid hr.len
  have HN := Lib.hid hn
  have HT := Lib.hid ht
  have HR := Lib.hid hr
  have H0 := Lib.hid (show (w.alloc (.cells #[.int .u32 4294967295] 24)).heap[w.heap.size]? = some (.cells #[.int .u32 4294967295] 24 (0, 0)) from heap_alloc_new w _)
  clear hn ht hr
  go_enter Tryd.func13, Tryd.ntmps13
  go_wp2
  go_loopw [10] (fun i wr => sumRel l n w.heap.size w i wr) (fun i _ => n - (intOf i).toNat)
  case atStart => exact ⟨0, rfl, Nat.zero_le _, H0.out, (Below.refl _ _).alloc (Nat.le_refl _) _⟩
  case round =>
    obtain ⟨j, rfl, hj, hcr, hbr⟩ := hrel
    obtain ⟨x, hx⟩ : ∃ x, x = crc 4294967295 (l.take j) := ⟨_, rfl⟩
    rw [← hx] at hcr
    have HX := Lib.hid hx
    have HX2 := Lib.hid (show x < 4294967296 by rw [hx]; exact crc_lt (by omega))
    have HCR := Lib.hid hcr
    have HBR := Lib.hid hbr
    clear hx hcr hbr
    have hnn := HN.out
    by_cases hlt : j < n
    · obtain ⟨b, o, d, rfl, _, hd, hcell⟩ := (HR.out.below HBR.out hB).at hlt
      have HD := Lib.hid hd
      clear hd
      go_wp2_with (go_at_call 22; refine (goOn_any d x w.heap.size wr HX2.out HCR.out (HT.out.bel HBR.out) HT.out.pos).mono ?_; rintro e w1 ⟨rfl, hc1, hb1⟩)
      go_roundw
      case rel => exact ⟨j + 1, by go_num, by omega, by rw [crc_take1 HD.out, ← HX.out]; exact hc1, HBR.out.trans hb1⟩
      case measure => simp [intOf]; omega
    · have hjn : j = n := by omega
      have hcell := cell_of_one HCR.out
      have HE := Lib.hid (show x ^^^ 4294967295 = sum l by rw [HX.out, List.take_of_length_le (by have := HL.out; omega)]; rfl)
      clear hjn
      go_wp2
      go_ret
      exact ⟨ret_int ((u32_xor_nat 4294967295 x (by omega) HX2.out).trans (congrArg Nat.cast ((Nat.xor_comm _ _).trans HE.out))), HBR.out⟩
end Go.Proofs.YtkpemlfblpkjoaaDoor.Crc
