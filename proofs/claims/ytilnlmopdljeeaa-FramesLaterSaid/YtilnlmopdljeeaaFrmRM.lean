/- The contracts of the document's Same and Few: watermeet/watermeetref05. -/
import Derived.Test.YtilnlmopdljeeaaFrmW
import Derived.Test.YtilnlmopdljeeaaOctU8
import Derived.Deep.RegionHeld
namespace Go.Proofs.Ytilnlmopdljeeaa.Frm
open Go.RowKit Go.Proofs.Ytilnlmopdljeeaa.Oct Go.Proofs.Ytilnlmopdljeeaa.RowF Go.Proofs.Ytilnlmopdljeeaa.RowL Go.Proofs.Ytilnlmopdljeeaa.Lay

def sameRel (L M : List (List UInt8)) (n : Nat) (w : World) (i : Value) (wr : World) : Prop := ∃ k : Nat, i = .int .i64 (k : Int) ∧ k ≤ n ∧ L.take k = M.take k ∧ Below w.heap.size w wr
set_option maxRecDepth 100000 in
set_option maxHeartbeats 2000000 in
theorem refFSame_any (A1 : Option Addr) (n1 c1 : Nat) (L : List (List UInt8)) (A2 : Option Addr) (n2 c2 : Nat) (M : List (List UInt8)) (w : World) (hr : RdN w w.heap.size A1 n1 L) (hr2 : RdN w w.heap.size A2 n2 M) (hn : n1 ≤ 1099511627776) :
    Calls Try.prog 16 #[.slice A1 n1 c1, .slice A2 n2 c2] w fun e w' => e = .returned (.bool (sameL L M)) ∧ Below w.heap.size w w' := by
  have HR := Lib.hid hr
  have HR2 := Lib.hid hr2
  have hmx : Try.prog.follows .mixedOrders = true := by kernel_rfl
  clear hr hr2
  by_cases hnn : n1 = n2
  · subst hnn
    go_enter Try.func16, Try.ntmps16
    go_wp2
    go_loopw [5] (fun i wr => sameRel L M n1 w i wr) (fun i _ => n1 - (intOf i).toNat)
    case atStart => exact ⟨0, rfl, Nat.zero_le _, rfl, Below.refl _ _⟩
    case round =>
      obtain ⟨k, rfl, hk, hT, hb⟩ := hrel
      have HT := Lib.hid hT
      have HBL := Lib.hid hb
      have HX := Lib.hid (HR.out.below hb (Nat.le_refl _))
      have HY := Lib.hid (HR2.out.below hb (Nat.le_refl _))
      clear hT hb
      by_cases hlt : k < n1
      · obtain ⟨b, o, a, m, c, l, rfl, hbl, hl, hcell, hm, hrd⟩ := HX.out.at hlt
        obtain ⟨b2, o2, a2, m2, c2', l2, rfl, hbl2, hl2, hcell2, hm2, hrd2⟩ := HY.out.at hlt
        have r1 := str_of wr.drew _ a m c l hrd.drew
        have r2 := str_of wr.drew _ a2 m2 c2' l2 hrd2.drew
        have k1 : wr.drew.cell? ⟨b, o + k, none⟩ = some (.slice a m c) := hcell
        have k2 : wr.drew.cell? ⟨b2, o2 + k, none⟩ = some (.slice a2 m2 c2') := hcell2
        have HL := Lib.hid hl
        have HL2 := Lib.hid hl2
        clear hl hl2 hrd hrd2 hcell hcell2
        go_wp2
        go_region_held (fun w' => w' = wr.drew) (rfl) (fail)
        by_cases hll : l = l2
        · subst hll
          go_wp2
          · exact absurd (show (!l == l) = true by assumption) (by simp)
          · go_roundw
            case rel => exact ⟨k + 1, by go_num, by omega, take_both HT.out HL.out HL2.out, bel_drew HBL.out⟩
            case measure => simp [intOf]; omega
        · have hbb : (l == l2) = false := by simpa using hll
          have HNO := Lib.hid (sameL_no (not_both HL.out HL2.out hll))
          go_wp2
          · go_ret
            exact ⟨by rw [HNO.out]; rfl, bel_drew HBL.out⟩
          · exact absurd (show (!l == l2) = false by assumption) (by simpa using hll)
      · have hkn : k = n1 := by omega
        subst hkn
        have HYES := Lib.hid (sameL_yes (all_both HT.out HX.out.len HY.out.len))
        clear HT
        go_wp2
        go_ret
        exact ⟨by rw [HYES.out]; rfl, HBL.out⟩
  · have HNO := Lib.hid (sameL_no (L := L) (M := M) (fun h => hnn (by rw [← HR.out.len, h, HR2.out.len])))
    have hnb : ((n1 : Int) == (n2 : Int)) = false := beqF (by omega)
    go_enter Try.func16, Try.ntmps16
    go_wp2
    go_ret
    exact ⟨by rw [HNO.out]; rfl, Below.refl _ _⟩

set_option maxRecDepth 100000 in
set_option maxHeartbeats 1000000 in
theorem refFFew_is (L : List (List UInt8)) (A : Option Addr) (n c : Nat) (w : World) (hr : RdN w w.heap.size A n L) (hn : n ≤ 140737488351232) (hs : ∀ l ∈ L, l.length ≤ 140737488351232) {z : Bool} (hz : fewL L 0 = z) :
    Calls Try.prog 19 #[.slice A n c] w fun e w' => e = .returned (.bool z) ∧ w = w' := by
  have HZ := Lib.hid hz
  have HR := Lib.hid hr
  have HS := Lib.hid hs
  clear hz hr hs
  go_enter Try.func19, Try.ntmps19
  go_wp2
  go_loop [3, 4] (fun v i => fwRelL L n v i) (fun _ i => n - (intOf i).toNat)
  case atStart => exact ⟨0, 0, rfl, rfl, Nat.zero_le _, Nat.zero_le _, rfl⟩
  case round =>
    obtain ⟨k, m, rfl, rfl, hk, hm, hD⟩ := hrel
    have HD := Lib.hid hD
    clear hD
    by_cases hlt : k < n
    · obtain ⟨b, o, a, x, c1, l, rfl, hbl, hl, hcell, hx, hrd⟩ := HR.out.at hlt
      have HST := Lib.hid (fewL_step (m := m) hl)
      have hlen := hrd.len
      have hxs : x ≤ 140737488351232 := by rw [← hlen]; exact HS.out l (List.mem_of_getElem? hl)
      by_cases hbig : 3000 < m + 1 + x
      · have HZF := Lib.hid (show z = false by rw [← HZ.out, HD.out, HST.out, hlen, if_pos hbig])
        clear hl hrd hlen
        go_wp2
        go_ret
        exact ⟨by rw [HZF.out]; rfl, rfl⟩
      · have HN := Lib.hid (show fewL L 0 = fewL (L.drop (k + 1)) (m + 1 + x) by rw [HD.out, HST.out, hlen, if_neg hbig])
        clear hl hrd hlen
        go_wp2
        go_round
        case rel => exact ⟨k + 1, m + 1 + x, by go_num, by go_num, by omega, by omega, HN.out⟩
        case measure => simp [intOf]; omega
    · have hkn : k = n := by omega
      subst hkn
      have HZF := Lib.hid (show z = true by
        rw [← HZ.out, HD.out, List.drop_of_length_le (by have := HR.out.len; omega)]
        rfl)
      go_wp2
      go_ret
      exact ⟨by rw [HZF.out]; rfl, rfl⟩
end Go.Proofs.Ytilnlmopdljeeaa.Frm
