/- Joined: ProP1. -/
import Derived.Test.YthhdhdjdhekgpaaDoorProS
import Derived.Test.YthhdhdjdhekgpaaDoorProR1
import Derived.Test.YthhdhdjdhekgpaaDoorProVers
import Derived.Test.YthhdhdjdhekgpaaDoorJOct
/- The landed putHead, putNumbers, putTexts. -/
namespace Go.Proofs.YthhdhdjdhekgpaaDoor.Pro
open Go.RowKit Go.Proofs.YthhdhdjdhekgpaaDoor.Oct Go.Proofs.YthhdhdjdhekgpaaDoor.Rec Go.Proofs.YthhdhdjdhekgpaaDoor.Cod Go.Proofs.YthhdhdjdhekgpaaDoor.Lay Go.Proofs.YthhdhdjdhekgpaaDoor.RowF

/-- bytes that can be read -/
def RD (w : World) (l : List UInt8) (en : Ending) (w' : World) : Prop :=
  ∃ A n c, en = .returned (.slice A n c) ∧ Rd w' w'.heap.size A n l ∧ n ≤ c ∧ Below w.heap.size w w'
theorem RD.of {e : TypeId} {w : World} {l : List UInt8} {en : Ending} {w' : World} (h : RB e w.heap.size w l en w') : RD w l en w' := by
  obtain ⟨A, n, c, h1, h2, h3⟩ := h
  exact ⟨A, n, c, h1, h2.rd, h2.cap, h3⟩
theorem beN_one (x : Nat) : beN x 1 1 = [UInt8.ofNat x] := by simp [beN]
set_option maxRecDepth 100000 in
theorem putHead_any (k v : Nat) (hk : k ≤ 255) (hv : v ≤ 255) (w : World) : Calls Tryd.prog 36 #[.int .i64 (k : Int), .int .i64 (v : Int)] w (RB 5 w.heap.size w [UInt8.ofNat k, UInt8.ofNat v]) := by
  have wk : IntKind.u64.wrap (k : Int) = (k : Int) := IntWalk.u64_in _ (by omega)
  have wv : IntKind.u64.wrap (v : Int) = (v : Int) := IntWalk.u64_in _ (by omega)
  have HW : isW 1 = true := by decide
  go_enter Tryd.func36, Tryd.ntmps36
  go_wp2_with (first
    | (go_at_call 79; (with_reducible refine (Put_any A1 n1 c1 v 1 [UInt8.ofNat k] _ w1 hown1.rd (Nat.le_refl _) (by omega)).mono ?_); rintro e w2 ⟨A2, n2, c2, rfl, hown2, hb2⟩)
    | (go_at_call 79; (with_reducible refine (Put_any none 0 0 k 1 [] 0 _ Rd.nil (Nat.zero_le _) (by omega)).mono ?_); rintro e w1 ⟨A1, n1, c1, rfl, hown1, hb1⟩; rw [if_pos HW, show ((1 : Int).toNat) = 1 from rfl, beN_one, List.nil_append] at hown1; have hn1 : n1 ≤ 1 := (by have h := hown1.len; simp at h; omega)))
  rw [if_pos HW, show ((1 : Int).toNat) = 1 from rfl, beN_one] at hown2
  go_ret
  exact ⟨A2, n2, c2, rfl, hown2.more hb1.size, bel_trans hb1 hb2⟩
/-- bytes behind which so many are put -/
def ptRel {α : Type} (a : Codec α) (l : List UInt8) (L : List α) (n : Nat) (m : Nat) (w : World) (v i : Value) (wr : World) : Prop :=
  ∃ (j : Nat) (A : Option Addr) (k c : Nat), i = .int .i64 (j : Int) ∧ j ≤ n ∧ v = .slice A k c ∧ Rd wr wr.heap.size A k (l ++ putMany a (L.take j)) ∧ k ≤ c ∧ k ≤ l.length + m * j ∧ Below w.heap.size w wr
theorem putMany_take {α : Type} {a : Codec α} {L : List α} {j : Nat} {x : α} (h : L[j]? = some x) : putMany a (L.take (j + 1)) = putMany a (L.take j) ++ a.put x := by
  rw [List.take_add_one, h]
  simp [putMany]
set_option maxRecDepth 100000 in
set_option maxHeartbeats 1000000 in
theorem putNumbers_any (A : Option Addr) (n c : Nat) (l : List UInt8) (A2 : Option Addr) (n2 c2 : Nat) (L : List Int) (w : World) (hr : Rd w w.heap.size A n l) (hc : n ≤ c) (hL : RdL w w.heap.size A2 n2 L) (hb : n + 10 * n2 ≤ 274877906944) :
    Calls Tryd.prog 38 #[.slice A n c, .slice A2 n2 c2] w (RD w (l ++ putMany cvar L)) := by
  have HR := Lib.hid hr
  have HL := Lib.hid hL
  have hln := hr.len
  clear hr hL
  go_enter Tryd.func38, Tryd.ntmps38
  go_wp2
  go_loopw [0, 9] (fun v i wr => ptRel cvar l L n2 10 w v i wr) (fun _ i _ => n2 - (intOf i).toNat)
  case atStart => exact ⟨0, A, n, c, rfl, Nat.zero_le _, rfl, by simpa [putMany] using HR.out, hc, by omega, Below.refl _ _⟩
  case round =>
    obtain ⟨j, A1, n1, c1, rfl, hj, rfl, hR1, hc1, hn1, hB1⟩ := hrel
    have HR1 := Lib.hid hR1
    have HB1 := Lib.hid hB1
    have HX := Lib.hid (HL.out.below hB1 (Nat.le_refl _))
    clear hR1 hB1
    by_cases hlt : j < n2
    · obtain ⟨b, o, x, rfl, hbl, hx, hxi, hcell⟩ := num_at HX.out hlt
      have HXX := Lib.hid hx
      have hx1 : -9223372036854775808 ≤ x := hxi.1
      have hx2 : x ≤ 9223372036854775807 := hxi.2
      clear hx hxi
      go_wp2_with (go_at_call 35; (with_reducible refine (PutVar_any A1 n1 c1 x _ _ wr HR1.out (Nat.le_refl _) (by omega) hx1 hx2).mono ?_); rintro e w9 ⟨A9, n9, c9, rfl, hown9, hb9⟩)
      go_roundw
      case rel =>
        have h10 := vb_ten (zz_lt (n := x) ⟨hx1, hx2⟩)
        refine ⟨j + 1, A9, n9, c9, by go_num, by omega, rfl, ?_, hown9.cap, ?_, HB1.out.trans (hb9.mono HB1.out.size)⟩
        · rw [putMany_take HXX.out, ← List.append_assoc]; exact hown9.rd
        · have h1 := hown9.len
          have h2 := HR1.out.len
          rw [List.length_append, h2] at h1
          omega
      case measure => simp [intOf]; omega
    · have HJ := Lib.hid (show putMany cvar (L.take j) = putMany cvar L by rw [List.take_of_length_le (by have := HL.out.len; omega)])
      go_wp2
      go_ret
      exact ⟨A1, n1, c1, rfl, by rw [← HJ.out]; exact HR1.out, hc1, HB1.out⟩
set_option maxRecDepth 100000 in
set_option maxHeartbeats 1000000 in
theorem putTexts_any (A : Option Addr) (n c : Nat) (l : List UInt8) (A2 : Option Addr) (n2 c2 : Nat) (L : List ByteArray) (w : World) (hr : Rd w w.heap.size A n l) (hc : n ≤ c) (hL : RdL w w.heap.size A2 n2 L) (h64 : ∀ x ∈ L, x.size ≤ 64) (hb : n + 74 * n2 ≤ 137438953472) :
    Calls Tryd.prog 39 #[.slice A n c, .slice A2 n2 c2] w (RD w (l ++ putMany txt64 L)) := by
  have HR := Lib.hid hr
  have HL := Lib.hid hL
  have H64 := Lib.hid h64
  have hln := hr.len
  clear hr hL h64
  go_enter Tryd.func39, Tryd.ntmps39
  go_wp2
  go_loopw [0, 9] (fun v i wr => ptRel txt64 l L n2 74 w v i wr) (fun _ i _ => n2 - (intOf i).toNat)
  case atStart => exact ⟨0, A, n, c, rfl, Nat.zero_le _, rfl, by simpa [putMany] using HR.out, hc, by omega, Below.refl _ _⟩
  case round =>
    obtain ⟨j, A1, n1, c1, rfl, hj, rfl, hR1, hc1, hn1, hB1⟩ := hrel
    have HR1 := Lib.hid hR1
    have HB1 := Lib.hid hB1
    have HX := Lib.hid (HL.out.below hB1 (Nat.le_refl _))
    clear hR1 hB1
    by_cases hlt : j < n2
    · obtain ⟨b, o, x, rfl, hbl, hx, hxi, hcell⟩ := txt_at HX.out hlt
      have HXX := Lib.hid hx
      have hx1 : x.size ≤ 64 := H64.out x (List.mem_of_getElem? hx)
      clear hx hxi
      go_wp2_with (go_at_call 37; (with_reducible refine (PutText_any A1 n1 c1 x _ _ wr HR1.out (Nat.le_refl _) (by omega) (by omega)).mono ?_); rintro e w9 ⟨A9, n9, c9, rfl, hown9, hb9⟩)
      go_roundw
      case rel =>
        have h10 := vb_ten (zz_lt (n := (x.size : Int)) (by omega))
        refine ⟨j + 1, A9, n9, c9, by go_num, by omega, rfl, ?_, hown9.cap, ?_, HB1.out.trans (hb9.mono HB1.out.size)⟩
        · rw [putMany_take HXX.out, show txt64.put x = vb (zz x.size) ++ x.data.toList from rfl, ← List.append_assoc, ← List.append_assoc]; exact hown9.rd
        · have h1 := hown9.len
          have h2 := HR1.out.len
          have h3 : x.data.toList.length = x.size := by rw [Array.length_toList]; rfl
          rw [List.length_append, List.length_append, h2, h3] at h1
          omega
      case measure => simp [intOf]; omega
    · have HJ := Lib.hid (show putMany txt64 (L.take j) = putMany txt64 L by rw [List.take_of_length_le (by have := HL.out.len; omega)])
      go_wp2
      go_ret
      exact ⟨A1, n1, c1, rfl, by rw [← HJ.out]; exact HR1.out, hc1, HB1.out⟩
end Go.Proofs.YthhdhdjdhekgpaaDoor.Pro
