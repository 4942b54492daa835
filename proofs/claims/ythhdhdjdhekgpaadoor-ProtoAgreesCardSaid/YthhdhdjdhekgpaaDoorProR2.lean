/- Joined: ProR2. -/
import Derived.Test.YthhdhdjdhekgpaaDoorProR1
import Derived.Test.YthhdhdjdhekgpaaDoorRowA
import Derived.Test.YthhdhdjdhekgpaaDoorProAgr
import Derived.Deep.RegionHeld
/- The document's comparisons of layer 6: Ints, Texts, SameSpans; little. -/
namespace Go.Proofs.YthhdhdjdhekgpaaDoor.Pro
open Go.RowKit Go.Proofs.YthhdhdjdhekgpaaDoor.Oct Go.Proofs.YthhdhdjdhekgpaaDoor.Lay

def eqRel {α : Type} (L M : List α) (n : Nat) (w : World) (i : Value) (wr : World) : Prop := ∃ k : Nat, i = .int .i64 (k : Int) ∧ k ≤ n ∧ L.take k = M.take k ∧ Below w.heap.size w wr
/-- are two the same? -/
noncomputable def eqq {α : Type} (a b : α) : Bool := @decide (a = b) (Classical.propDecidable _)
theorem eqq_yes {α : Type} {a b : α} (h : a = b) : eqq a b = true := by exact @decide_eq_true _ (Classical.propDecidable _) h
theorem eqq_no {α : Type} {a b : α} (h : a ≠ b) : eqq a b = false := by exact @decide_eq_false _ (Classical.propDecidable _) h
theorem take_both {α : Type} {L M : List α} {k : Nat} {x : α} (h : L.take k = M.take k) (h1 : L[k]? = some x) (h2 : M[k]? = some x) : L.take (k + 1) = M.take (k + 1) := by
  rw [List.take_add_one, List.take_add_one, h, h1, h2]
theorem all_both {α : Type} {L M : List α} {n : Nat} (h : L.take n = M.take n) (h1 : L.length = n) (h2 : M.length = n) : L = M := by
  rw [List.take_of_length_le (by omega), List.take_of_length_le (by omega)] at h; exact h
theorem not_both {α : Type} {L M : List α} {k : Nat} {x y : α} (h1 : L[k]? = some x) (h2 : M[k]? = some y) (hne : x ≠ y) : L ≠ M := by
  rintro rfl
  rw [h1] at h2
  exact hne (Option.some.inj h2)
set_option maxRecDepth 100000 in
set_option maxHeartbeats 2000000 in
theorem refInts_any (A1 : Option Addr) (n1 c1 : Nat) (L : List Int) (A2 : Option Addr) (n2 c2 : Nat) (M : List Int) (w : World) (hr : RdL w w.heap.size A1 n1 L) (hr2 : RdL w w.heap.size A2 n2 M) (hn : n1 ≤ 1099511627776) :
    Calls Tryd.prog 68 #[.slice A1 n1 c1, .slice A2 n2 c2] w fun e w' => e = .returned (.bool (eqq L M)) ∧ Below w.heap.size w w' := by
  have HR := Lib.hid hr
  have HR2 := Lib.hid hr2
  have hmx : Tryd.prog.follows .mixedOrders = true := by kernel_rfl
  clear hr hr2
  by_cases hnn : n1 = n2
  · subst hnn
    go_enter Tryd.func68, Tryd.ntmps68
    go_wp2
    go_loopw [5] (fun i wr => eqRel L M n1 w i wr) (fun i _ => n1 - (intOf i).toNat)
    case atStart => exact ⟨0, rfl, Nat.zero_le _, rfl, Below.refl _ _⟩
    case round =>
      obtain ⟨k, rfl, hk, hT, hb⟩ := hrel
      have HT := Lib.hid hT
      have HBL := Lib.hid hb
      have HX := Lib.hid (HR.out.below hb (Nat.le_refl _))
      have HY := Lib.hid (HR2.out.below hb (Nat.le_refl _))
      clear hT hb
      by_cases hlt : k < n1
      · obtain ⟨b, o, x, rfl, hbl, hx, _, hcell⟩ := num_at HX.out hlt
        obtain ⟨b2, o2, y, rfl, hbl2, hy, _, hcell2⟩ := num_at HY.out hlt
        have k1 : wr.drew.cell? ⟨b, o + k, none⟩ = some (.int .i64 x) := hcell
        have k2 : wr.drew.cell? ⟨b2, o2 + k, none⟩ = some (.int .i64 y) := hcell2
        have HL := Lib.hid hx
        have HL2 := Lib.hid hy
        clear hx hy hcell hcell2
        go_wp2
        go_region_held (fun w' => w' = wr.drew) (rfl) (fail)
        by_cases hxy : x = y
        · subst hxy
          go_wp2
          go_roundw
          case rel => exact ⟨k + 1, by go_num, by omega, take_both HT.out HL.out HL2.out, bel_drew HBL.out⟩
          case measure => simp [intOf]; omega
        · have hb0 : (x == y) = false := beqF hxy
          have HNO := Lib.hid (eqq_no (not_both HL.out HL2.out hxy))
          go_wp2
          go_ret
          exact ⟨by rw [HNO.out]; rfl, bel_drew HBL.out⟩
      · have hkn : k = n1 := by omega
        subst hkn
        have HYES := Lib.hid (eqq_yes (all_both HT.out HX.out.len HY.out.len))
        clear HT
        go_wp2
        go_ret
        exact ⟨by rw [HYES.out]; rfl, HBL.out⟩
  · have HNO := Lib.hid (eqq_no (a := L) (b := M) (fun h => hnn (by rw [← HR.out.len, h, HR2.out.len])))
    have hnb : ((n1 : Int) == (n2 : Int)) = false := beqF (by omega)
    go_enter Tryd.func68, Tryd.ntmps68
    go_wp2
    go_ret
    exact ⟨by rw [HNO.out]; rfl, Below.refl _ _⟩
set_option maxRecDepth 100000 in
set_option maxHeartbeats 2000000 in
theorem refTexts_any (A1 : Option Addr) (n1 c1 : Nat) (L : List ByteArray) (A2 : Option Addr) (n2 c2 : Nat) (M : List ByteArray) (w : World) (hr : RdL w w.heap.size A1 n1 L) (hr2 : RdL w w.heap.size A2 n2 M) (hn : n1 ≤ 1099511627776) :
    Calls Tryd.prog 69 #[.slice A1 n1 c1, .slice A2 n2 c2] w fun e w' => e = .returned (.bool (eqq L M)) ∧ Below w.heap.size w w' := by
  have HR := Lib.hid hr
  have HR2 := Lib.hid hr2
  have hmx : Tryd.prog.follows .mixedOrders = true := by kernel_rfl
  clear hr hr2
  by_cases hnn : n1 = n2
  · subst hnn
    go_enter Tryd.func69, Tryd.ntmps69
    go_wp2
    go_loopw [5] (fun i wr => eqRel L M n1 w i wr) (fun i _ => n1 - (intOf i).toNat)
    case atStart => exact ⟨0, rfl, Nat.zero_le _, rfl, Below.refl _ _⟩
    case round =>
      obtain ⟨k, rfl, hk, hT, hb⟩ := hrel
      have HT := Lib.hid hT
      have HBL := Lib.hid hb
      have HX := Lib.hid (HR.out.below hb (Nat.le_refl _))
      have HY := Lib.hid (HR2.out.below hb (Nat.le_refl _))
      clear hT hb
      by_cases hlt : k < n1
      · obtain ⟨b, o, x, rfl, hbl, hx, _, hcell⟩ := txt_at HX.out hlt
        obtain ⟨b2, o2, y, rfl, hbl2, hy, _, hcell2⟩ := txt_at HY.out hlt
        have k1 : wr.drew.cell? ⟨b, o + k, none⟩ = some (.string x) := hcell
        have k2 : wr.drew.cell? ⟨b2, o2 + k, none⟩ = some (.string y) := hcell2
        have HL := Lib.hid hx
        have HL2 := Lib.hid hy
        clear hx hy hcell hcell2
        go_wp2
        go_region_held (fun w' => w' = wr.drew) (rfl) (fail)
        by_cases hxy : x = y
        · subst hxy
          go_wp2
          · exact absurd (show (!x.toList == x.toList) = true by assumption) (by simp)
          · go_roundw
            case rel => exact ⟨k + 1, by go_num, by omega, take_both HT.out HL.out HL2.out, bel_drew HBL.out⟩
            case measure => simp [intOf]; omega
        · have hxl : ¬ x.toList = y.toList := fun h => hxy (by
            have h1 := h
            rw [Go.ByteArray.toList_eq, Go.ByteArray.toList_eq] at h1
            exact ByteArray.ext (Array.toList_inj.1 h1))
          have HNO := Lib.hid (eqq_no (not_both HL.out HL2.out hxy))
          go_wp2
          · go_ret
            exact ⟨by rw [HNO.out]; rfl, bel_drew HBL.out⟩
          · exact absurd (show (!x.toList == y.toList) = false by assumption) (by simpa using hxl)
      · have hkn : k = n1 := by omega
        subst hkn
        have HYES := Lib.hid (eqq_yes (all_both HT.out HX.out.len HY.out.len))
        clear HT
        go_wp2
        go_ret
        exact ⟨by rw [HYES.out]; rfl, HBL.out⟩
  · have HNO := Lib.hid (eqq_no (a := L) (b := M) (fun h => hnn (by rw [← HR.out.len, h, HR2.out.len])))
    have hnb : ((n1 : Int) == (n2 : Int)) = false := beqF (by omega)
    go_enter Tryd.func69, Tryd.ntmps69
    go_wp2
    go_ret
    exact ⟨by rw [HNO.out]; rfl, Below.refl _ _⟩
set_option maxRecDepth 100000 in
set_option maxHeartbeats 1000000 in
theorem reflittle_any (A : Option Addr) (n c : Nat) (l : List ByteArray) (B : Nat) (w : World) (hr : RdL w B A n l) (hn : n ≤ 140737488351232) :
    Calls Tryd.prog 34 #[.slice A n c] w fun e w' => e = .returned (.bool (allShort 300 l && decide (l.length ≤ 40))) ∧ w = w' := by
  have HR := Lib.hid hr
  have HLEN := Lib.hid hr.len
  clear hr
  go_enter Tryd.func34, Tryd.ntmps34
  go_wp2
  go_loop [3] (fun i => allRel (fun t : ByteArray => decide (t.size ≤ 300)) l n i) (fun i => n - (intOf i).toNat)
  case atStart => exact ⟨0, rfl, Nat.zero_le _, rfl⟩
  case round =>
    obtain ⟨k, rfl, hk, hD⟩ := hrel
    have HD := Lib.hid hD
    clear hD
    by_cases hlt : k < n
    · obtain ⟨b, o, x, rfl, hb, hx, hxm, hcell⟩ := txt_at HR.out hlt
      have HS := Lib.hid (all_step (f := fun t : ByteArray => decide (t.size ≤ 300)) hx)
      clear hx
      by_cases h1 : 300 < x.size
      · have HF := Lib.hid (show (allShort 300 l && decide (l.length ≤ 40)) = false by unfold allShort; rw [HD.out, HS.out, decide_eq_false (by omega)]; rfl)
        go_wp2
        go_ret
        exact ⟨by rw [HF.out]; rfl, rfl⟩
      · have HN := Lib.hid (show l.all (fun t : ByteArray => decide (t.size ≤ 300)) = (l.drop (k + 1)).all (fun t : ByteArray => decide (t.size ≤ 300)) by rw [HD.out, HS.out, decide_eq_true (by omega)]; rfl)
        go_wp2
        go_round
        case rel => exact ⟨k + 1, by go_num, by omega, HN.out⟩
        case measure => simp [intOf]; omega
    · have HT := Lib.hid (show (allShort 300 l && decide (l.length ≤ 40)) = decide ((n : Int) ≤ 40) by
        unfold allShort
        rw [HD.out, List.drop_of_length_le (by have := HLEN.out; omega), HLEN.out]
        show (true && decide (n ≤ 40)) = _
        rw [Bool.true_and]
        exact decide_eq_decide.2 (by omega))
      go_wp2
      go_ret
      exact ⟨by rw [HT.out]; rfl, rfl⟩
end Go.Proofs.YthhdhdjdhekgpaaDoor.Pro
