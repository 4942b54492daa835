/- Joined: EpoRS. -/
import Derived.Test.YtmjnleohchmadaaEpoRow
import Derived.Test.YtmjnleohchmadaaEpoW
import Derived.Test.YtmjnleohchmadaaJIn
import Derived.Deep.RegionHeld
/- The document's Same, of epochs. -/
namespace Go.Proofs.Ytmjnleohchmadaa.Epo
open Go.RowKit Go.Proofs.Ytmjnleohchmadaa.Oct Go.Proofs.Ytmjnleohchmadaa.RowF

def reRel (L M : List Ep) (n : Nat) (w : World) (i : Value) (wr : World) : Prop := ∃ k : Nat, i = .int .i64 (k : Int) ∧ k ≤ n ∧ L.take k = M.take k ∧ Below w.heap.size w wr
theorem take_same {α : Type} {L M : List α} {k : Nat} {x : α} (h : L.take k = M.take k) (h1 : L[k]? = some x) (h2 : M[k]? = some x) : L.take (k + 1) = M.take (k + 1) := by
  rw [List.take_add_one, List.take_add_one, h, h1, h2]
set_option maxRecDepth 100000 in
set_option maxHeartbeats 2000000 in
theorem rSame_any (A1 : Option Addr) (n1 c1 : Nat) (L : List Ep) (A2 : Option Addr) (n2 c2 : Nat) (M : List Ep) (w : World) (hr : RdE w w.heap.size A1 n1 L) (hr2 : RdE w w.heap.size A2 n2 M) (hn : n1 ≤ 1099511627776) :
    Calls Try.prog 16 #[.slice A1 n1 c1, .slice A2 n2 c2] w fun e w' => e = .returned (.bool (decide (L = M))) ∧ Below w.heap.size w w' := by
  have HR := Lib.hid hr
  have HR2 := Lib.hid hr2
  have hmx : Try.prog.follows .mixedOrders = true := by kernel_rfl
  clear hr hr2
  by_cases hnn : n1 = n2
  · subst hnn
    go_enter Try.func16, Try.ntmps16
    go_wp2
    go_loopw [13] (fun i wr => reRel L M n1 w i wr) (fun i _ => n1 - (intOf i).toNat)
    case atStart => exact ⟨0, rfl, Nat.zero_le _, rfl, Below.refl _ _⟩
    case round =>
      obtain ⟨k, rfl, hk, hT, hb⟩ := hrel
      have HT := Lib.hid hT
      have HBL := Lib.hid hb
      have HX := Lib.hid (HR.out.below hb (Nat.le_refl _))
      have HY := Lib.hid (HR2.out.below hb (Nat.le_refl _))
      clear hT hb
      by_cases hlt : k < n1
      · obtain ⟨b, o, ⟨x0, x1⟩, rfl, hbl, hx, k0', k1'⟩ := ep_at HX.out hlt
        obtain ⟨b2, o2, ⟨y0, y1⟩, rfl, hbl2, hy, m0', m1'⟩ := ep_at HY.out hlt
        have k0 : wr.drew.cell? ⟨b, o + k * 2, none⟩ = some (.int .i64 x0) := k0'
        have k1 : wr.drew.cell? ⟨b, o + k * 2 + 1, none⟩ = some (.int .i64 x1) := k1'
        have m0 : wr.drew.cell? ⟨b2, o2 + k * 2, none⟩ = some (.int .i64 y0) := m0'
        have m1 : wr.drew.cell? ⟨b2, o2 + k * 2 + 1, none⟩ = some (.int .i64 y1) := m1'
        have HL := Lib.hid hx
        have HL2 := Lib.hid hy
        clear hx hy k0' k1' m0' m1'
        by_cases hxy : (⟨x0, x1⟩ : Ep) = ⟨y0, y1⟩
        · injection hxy with u0 u1
          subst u0 u1
          go_wp2
          go_region_held (fun w' => w' = wr.drew) (rfl) (fail)
          go_wp2
          go_roundw
          case rel => exact ⟨k + 1, by go_num, by omega, take_same HT.out HL.out HL2.out, bel_drew HBL.out⟩
          case measure => simp [intOf]; omega
        · have hq3 : ∀ p q : Result Next, (if x0 = y0 then (if x1 = y1 then p else q) else q) = q := fun p q => by
            by_cases u0 : x0 = y0
            · by_cases u1 : x1 = y1
              · exact absurd (by rw [u0, u1]) hxy
              · rw [if_pos u0, if_neg u1]
            · rw [if_neg u0]
          have hq4 : ∀ p q : Result Next, (if x0 = y0 then (if x1 = y1 then q else p) else p) = p := fun p q => by
            by_cases u0 : x0 = y0
            · by_cases u1 : x1 = y1
              · exact absurd (by rw [u0, u1]) hxy
              · rw [if_pos u0, if_neg u1]
            · rw [if_neg u0]
          have HNO := Lib.hid (show decide (L = M) = false from decide_eq_false fun h => hxy (by
            have h2 := HL2.out
            rw [← h, HL.out] at h2
            exact Option.some.inj h2))
          clear hxy
          go_wp2
          go_region_held (fun w' => w' = wr.drew) (rfl) (fail)
          go_wp2
          go_ret
          exact ⟨by rw [HNO.out]; rfl, bel_drew HBL.out⟩
      · obtain rfl : k = n1 := by omega
        have HYES := Lib.hid (show decide (L = M) = true from decide_eq_true (by
          have h := HT.out
          rw [List.take_of_length_le (by have := HX.out.len; omega), List.take_of_length_le (by have := HY.out.len; omega)] at h
          exact h))
        clear HT
        go_wp2
        go_ret
        exact ⟨by rw [HYES.out]; rfl, HBL.out⟩
  · have HNO := Lib.hid (show decide (L = M) = false from decide_eq_false fun h => hnn (by rw [← HR.out.len, h, HR2.out.len]))
    have hnb : ((n1 : Int) == (n2 : Int)) = false := beqF (by omega)
    go_enter Try.func16, Try.ntmps16
    go_wp2
    go_ret
    exact ⟨by rw [HNO.out]; rfl, Below.refl _ _⟩
theorem rSame_yes (A1 : Option Addr) (n1 c1 : Nat) (L : List Ep) (A2 : Option Addr) (n2 c2 : Nat) (w : World) (hr : RdE w w.heap.size A1 n1 L) (hr2 : RdE w w.heap.size A2 n2 L) (hn : n1 ≤ 1099511627776) :
    Calls Try.prog 16 #[.slice A1 n1 c1, .slice A2 n2 c2] w fun e w' => e = .returned (.bool true) ∧ Below w.heap.size w w' := by
  have h := rSame_any A1 n1 c1 L A2 n2 c2 L w hr hr2 hn
  rw [decide_eq_true rfl] at h
  exact h
end Go.Proofs.Ytmjnleohchmadaa.Epo
