/- The contract of frames.Put. -/
import Derived.Test.YtilnlmopdljeeaaFrmF
namespace Go.Proofs.Ytilnlmopdljeeaa.Frm
open Go.RowKit Go.Proofs.Ytilnlmopdljeeaa.Oct Go.Proofs.Ytilnlmopdljeeaa.RowF Go.Proofs.Ytilnlmopdljeeaa.RowL Go.Proofs.Ytilnlmopdljeeaa.Lay

/-- slices laid side by side in a new block -/
theorem rdn_lit {w : World} {B : Nat} (e : TypeId) (s : Nat × Nat) (hs : List (Option Addr × Nat × Nat)) (L : List (List UInt8)) (hB : B ≤ w.heap.size) (hlen : hs.length = L.length)
    (h : ∀ (i : Nat) (x : Option Addr × Nat × Nat) (l : List UInt8), hs[i]? = some x → L[i]? = some l → Rd w B x.1 x.2.1 l ∧ x.2.1 ≤ x.2.2) :
    RdN (w.alloc (.cells (hs.map fun x => Value.slice x.1 x.2.1 x.2.2).toArray e s)) (w.heap.size + 1) (some ⟨w.heap.size, 0, none⟩) L.length L := by
  refine ⟨rfl, fun k l hl => ?_⟩
  have hk : k < hs.length := by rw [hlen]; exact (List.getElem?_eq_some_iff.1 hl).1
  have hx : hs[k]? = some hs[k] := List.getElem?_eq_getElem hk
  obtain ⟨h1, h2⟩ := h k _ l hx hl
  refine ⟨w.heap.size, 0, hs[k].1, hs[k].2.1, hs[k].2.2, rfl, by omega, ?_, h2, (h1.alloc hB _).more (by omega)⟩
  rw [cell_of_row _ _ _ _ e s (heap_alloc_new w _)]
  simp [hk]
theorem rdn_two {w : World} {B : Nat} (e : TypeId) (s : Nat × Nat) (A1 A2 : Option Addr) (n1 c1 n2 c2 : Nat) (l1 l2 : List UInt8) (hB : B ≤ w.heap.size) (h1 : Rd w B A1 n1 l1) (k1 : n1 ≤ c1) (h2 : Rd w B A2 n2 l2) (k2 : n2 ≤ c2) :
    RdN (w.alloc (.cells #[.slice A1 n1 c1, .slice A2 n2 c2] e s)) (w.heap.size + 1) (some ⟨w.heap.size, 0, none⟩) 2 [l1, l2] := by
  refine rdn_lit e s [(A1, n1, c1), (A2, n2, c2)] [l1, l2] hB rfl fun i x l hx hl => ?_
  match i, hx, hl with
  | 0, hx, hl =>
    obtain rfl : (A1, n1, c1) = x := by simpa using hx
    obtain rfl : l1 = l := by simpa using hl
    exact ⟨h1, k1⟩
  | 1, hx, hl =>
    obtain rfl : (A2, n2, c2) = x := by simpa using hx
    obtain rfl : l2 = l := by simpa using hl
    exact ⟨h2, k2⟩
theorem rdn_one {w : World} {B : Nat} (e : TypeId) (s : Nat × Nat) (A1 : Option Addr) (n1 c1 : Nat) (l1 : List UInt8) (hB : B ≤ w.heap.size) (h1 : Rd w B A1 n1 l1) (k1 : n1 ≤ c1) :
    RdN (w.alloc (.cells #[.slice A1 n1 c1] e s)) (w.heap.size + 1) (some ⟨w.heap.size, 0, none⟩) 1 [l1] := by
  refine rdn_lit e s [(A1, n1, c1)] [l1] hB rfl fun i x l hx hl => ?_
  match i, hx, hl with
  | 0, hx, hl =>
    obtain rfl : (A1, n1, c1) = x := by simpa using hx
    obtain rfl : l1 = l := by simpa using hl
    exact ⟨h1, k1⟩
set_option maxRecDepth 100000 in
set_option maxHeartbeats 1000000 in
theorem FPut_any (A : Option Addr) (n c : Nat) (l : List UInt8) (B : Nat) (w : World) (hr : Rd w B A n l) (hB : B ≤ w.heap.size) (hc : n ≤ c) :
    Calls Try.prog 12 #[.slice A n c] w (RP 5 w (ptF l)) := by
  have hlen := hr.len
  rcases hz : isS (n : Int) with _ | _
  · have hp := Lib.hid (show ptF l = ([], 11) by
      unfold ptF okF
      rw [hlen, if_neg]
      simp [isS] at hz ⊢
      omega)
    have HZ := Lib.hid hz
    rw [hp.out]
    clear hz hr hlen
    go_enter Try.func12, Try.ntmps12
    go_wp2_with (go_at_call 23; (with_reducible refine (isSize_any (n : Int) _).mono ?_); rw [HZ.out]; rintro e w1 ⟨rfl, rfl⟩)
    go_ret2
    exact ⟨none, 0, 0, rfl, OwnB.nil, Below.refl _ _⟩
  · have hz2 : 1 ≤ n ∧ n ≤ 4096 := by simp [isS] at hz; omega
    have hp := Lib.hid (show ptF l = (fr l, 0) by
      unfold ptF okF
      rw [hlen, if_pos]
      simp; omega)
    have hf := Lib.hid (show [beN n 4 4, l].flatten = fr l by rw [fr, hlen]; simp)
    have hfl := Lib.hid (show [beN n 4 4, l].flatten.length ≤ 1099511627776 by rw [hf.out, fr_length]; omega)
    have HZ := Lib.hid hz
    have HR := Lib.hid hr
    rw [hp.out]
    clear hz hr hlen
    go_enter Try.func12, Try.ntmps12
    go_wp2_with (first
      | (go_at_call 23; (with_reducible refine (isSize_any (n : Int) _).mono ?_); rw [HZ.out]; rintro e w1 ⟨rfl, rfl⟩)
      | (go_at_call 22; (with_reducible refine (Put4 n _).mono ?_); rintro e w2 ⟨A2, n2, c2, rfl, ho2, hb2⟩; have HO2 := Lib.hid ho2; have hb2s := hb2.size; have HB2 := Lib.hid hb2; clear hb2 ho2)
      | (go_at_call 24; refine (joined_any _ 2 2 [beN n 4 4, l] _ _ (rdn_two 22 _ A2 A n2 c2 n c (beN n 4 4) l (Nat.le_refl _) HO2.out.rd HO2.out.cap ((HR.out.below HB2.out hB).more (Nat.le_trans hB hb2s)) hc) (by simp) (by omega) hfl.out).mono ?_; rw [hf.out]; rintro e w3 ⟨A3, n3, c3, rfl, ho3, hb3⟩))
    go_ret2
    have hb4 := bel_trans (bel_alloc HB2.out (.cells #[.slice A2 n2 c2, .slice A n c] 22 (0, 0))) hb3
    exact ⟨A3, n3, c3, rfl, ho3.more (by simp; omega), hb4⟩
end Go.Proofs.Ytilnlmopdljeeaa.Frm
