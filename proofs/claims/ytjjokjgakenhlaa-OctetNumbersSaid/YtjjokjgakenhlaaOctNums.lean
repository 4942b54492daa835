/- The walks of OctetNumbers, OctetVars and OctetTexts. -/
import Derived.Test.YtjjokjgakenhlaaOctRefGet
import Derived.Laws.OwnMore
namespace Go.Proofs.Ytjjokjgakenhlaa.Oct
open Go.RowKit

theorem own_form {w : World} {e : TypeId} {base : Nat} {A : Option Addr} {n c : Nat} {l : List UInt8} (h : OwnB w e base (.slice A n c) n l) (hn : 0 < n) : ∃ g, A = some ⟨g, 0, none⟩ ∧ base ≤ g := by
  obtain ⟨g, cap, hv, hb, _⟩ := World.ownsRow.form h hn
  injection hv with h1
  exact ⟨g, h1, hb⟩
theorem own_set {w : World} {e : TypeId} {base g n c j : Nat} {l : List UInt8} (h : OwnB w e base (.slice (some ⟨g, 0, none⟩) n c) n l) (hg : base ≤ g) (z : Int) :
    (∃ l', OwnB (w.setCell ⟨g, j, none⟩ (.int .u8 (z % 256))) e base (.slice (some ⟨g, 0, none⟩) n c) n l') ∧ Below base w (w.setCell ⟨g, j, none⟩ (.int .u8 (z % 256))) := by
  refine ⟨⟨l.set j (UInt8.ofNat (z % 256).toNat), ?_⟩, (Below.refl base w).setCell hg _⟩
  have h1 := (World.ownsRow.stored h j (.int .u8 (z % 256))).1
  unfold OwnB
  rw [List.map_set]
  have e1 : bv (UInt8.ofNat (z % 256).toNat) = .int .u8 (z % 256) := by
    unfold bv
    rw [ofNat_toNat' (by omega)]
    congr 1
    omega
  rw [e1]
  exact h1
theorem own_cell {w : World} {e : TypeId} {base g n c j : Nat} {l : List UInt8} (h : OwnB w e base (.slice (some ⟨g, 0, none⟩) n c) n l) (hj : j < n) :
    ∃ d : UInt8, w.cell? ⟨g, j, none⟩ = some (.int .u8 (d.toNat : Int)) ∧ w.frozen? ⟨g, j, none⟩ = false := by
  have hl := h.len
  refine ⟨l[j]'(by omega), ?_, World.ownsRow.frozenAt h j⟩
  rw [World.ownsRow.cellAt h j (by omega), List.getElem?_map, List.getElem?_eq_getElem (by omega)]
  rfl
def incRel (e : TypeId) (base : Nat) (A : Option Addr) (n c : Nat) (w0 : World) (i : Value) (wr : World) : Prop :=
  ∃ j, i = .int .i64 ((j : Nat) : Int) ∧ j ≤ n ∧ (∃ l, OwnB wr e base (.slice A n c) n l) ∧ Below base w0 wr

set_option maxRecDepth 100000 in
set_option maxHeartbeats 2000000 in
theorem octetNumbers_core (A : Option Addr) (n c : Nat) (l : List UInt8) (x : Nat) (p k : Int) (w : World) (hr : Rd w w.heap.size A n l) (hc : n ≤ c) (hf : fewB n = true) (hx : x < 18446744073709551616) (X : Nat) (Z : Int) (hg : gt l p k = (X, Z)) :
    Calls Try.prog 3 #[.slice A n c, .int .u64 (x : Int), .int .i64 p, .int .i64 k] w fun e w' => e = .returned (.bool true) ∧ Below w.heap.size w w' := by
  have hn : n ≤ 5000 := fewB_iff.1 hf
  have HR := Lib.hid hr
  have HG := Lib.hid hg
  have HX := Lib.hid hx
  obtain ⟨L, hL⟩ : ∃ L, L = l ++ if isW k then beN x k.toNat k.toNat else [] := ⟨_, rfl⟩
  have HL := Lib.hid hL
  have hs1 := sameB_self L
  have hs2 := sameB_self l
  clear hr hg hx hL
  go_enter Try.func3, Try.ntmps3
  go_wp2_with (first
    | (go_at_call 11; refine (live_any _).mono ?_; rintro e w1 ⟨rfl, hb1⟩)
    | (go_at_call 12; refine (few_any _ _ _ _).mono ?_; rintro e w9 ⟨rfl, rfl⟩)
    | (go_at_call 13; refine (Copy_any A n c l w.heap.size w1 (HR.out.below hb1 (Nat.le_refl _)) (by omega)).mono ?_; rintro e w2 ⟨A2, n2, c2, rfl, hown2, hb2⟩; have hb12 := bel_trans hb1 hb2)
    | (go_at_call 14; refine (Get_is A n c _ _ l w.heap.size w2 (HR.out.below hb12 (Nat.le_refl _)) hc (by omega) HG.out).mono ?_; rintro e w9 ⟨rfl, rfl⟩)
    | (go_at_call 15; refine (refGet_is A n c _ _ l w.heap.size w2 (HR.out.below hb12 (Nat.le_refl _)) (by omega) HG.out).mono ?_; rintro e w9 ⟨rfl, rfl⟩)
    | (go_at_call 16; refine (Put_any A n c x k l w.heap.size w2 (HR.out.below hb12 (Nat.le_refl _)) hb12.size (by omega)).mono ?_; rw [← HL.out]; rintro e w3 ⟨A3, n3, c3, rfl, hown3, hb3⟩; have hb13 := bel_trans hb12 hb3)
    | (go_at_call 18; refine (refPut_any A n c x k l w.heap.size w3 (HR.out.below hb13 (Nat.le_refl _)) (by omega) HX.out).mono ?_; rw [← HL.out]; rintro e w4 ⟨A4, n4, c4, rfl, hown4, hb4⟩; have hb14 := bel_trans hb13 hb4)
    | (go_at_call 17; refine (Same_any _ _ _ _ _ _ L L _ _ w4 (hown3.rd.below hb4 (Nat.le_refl _)) hown4.rd).mono ?_; rintro e w9 ⟨rfl, rfl⟩))
  have hn3 : n3 ≤ 6000 := by
    have a1 := hown3.len
    have a2 := HR.out.len
    rw [HL.out, List.length_append] at a1
    have a3 : (if isW k then beN x k.toNat k.toNat else []).length ≤ 8 := by
      by_cases h : isW k = true
      · rw [if_pos h, beN_length]
        simp [isW] at h
        omega
      · rw [if_neg h]; simp
    omega
  have hs12 := hb12.size
  have hb24 := hb3.trans (hb4.mono hb3.size)
  have HOWN2 := Lib.hid hown2
  have hown3' := hown3.below hb4
  clear hown4 hown2 hb3 hb4 hown3
  go_loopw [60] (fun i wr => incRel 5 w2.heap.size A3 n3 c3 w4 i wr) (fun i _ => n3 - (intOf i).toNat)
  case atStart => exact ⟨0, rfl, Nat.zero_le _, ⟨_, hown3'⟩, Below.refl _ _⟩
  case round =>
    obtain ⟨j, rfl, hj, ⟨l', hown⟩, hb⟩ := hrel
    by_cases hlt : j < n3
    · obtain ⟨g, rfl, hg⟩ := own_form hown (by omega)
      obtain ⟨d, hcell, hfz⟩ := own_cell hown hlt
      have hd255 : d.toNat ≤ 255 := by have := d.toNat_lt; omega
      obtain ⟨hset, hbel⟩ := own_set (j := j) hown hg ((d.toNat : Int) + 1)
      have HSET := Lib.hid hset
      have HBEL := Lib.hid (hb.trans hbel)
      clear hset hbel
      go_wp2
      go_roundw
      case rel => exact ⟨j + 1, by go_num, by omega, HSET.out, HBEL.out⟩
      case measure => simp [intOf]; omega
    · go_wp2_with (go_at_call 17; refine (Same_any _ _ _ _ _ _ l l _ _ wr (HR.out.below (hb14.trans (hb.mono hs12)) (Nat.le_refl _)) (HOWN2.out.rd.below (hb24.trans hb) (Nat.le_refl _))).mono ?_; rintro e w9 ⟨rfl, rfl⟩)
      go_ret
      exact ⟨rfl, hb14.trans (hb.mono hs12)⟩

theorem octetNumbers_walk (A : Option Addr) (n c : Nat) (l : List UInt8) (x p k : Int) (w : World) (hr : Rd w w.heap.size A n l) (hc : n ≤ c) (hx0 : 0 ≤ x) (hx1 : x ≤ 18446744073709551615) (hp0 : -9223372036854775808 ≤ p) (hp1 : p ≤ 9223372036854775807) (hk0 : -9223372036854775808 ≤ k) (hk1 : k ≤ 9223372036854775807) :
    Calls Try.prog 3 #[.slice A n c, .int .u64 x, .int .i64 p, .int .i64 k] w fun e w' => e = .returned (.bool true) ∧ Below w.heap.size w w' := by
  obtain ⟨X, rfl⟩ : ∃ X : Nat, x = (X : Int) := ⟨x.toNat, by omega⟩
  by_cases hf : fewB n = true
  · exact octetNumbers_core A n c l X p k w hr hc hf (by omega) _ _ rfl
  · have hf' : fewB n = false := by simpa using hf
    clear hf hx1 hp0 hp1 hk0 hk1 hr
    go_enter Try.func3, Try.ntmps3
    go_wp2_with (first | (go_at_call 11; refine (live_any _).mono ?_; rintro e w1 ⟨rfl, hb1⟩) | (go_at_call 12; refine (few_any _ _ _ _).mono ?_; rintro e w9 ⟨rfl, rfl⟩))
    all_goals go_ret
    all_goals exact ⟨rfl, hb1⟩
end Go.Proofs.Ytjjokjgakenhlaa.Oct
