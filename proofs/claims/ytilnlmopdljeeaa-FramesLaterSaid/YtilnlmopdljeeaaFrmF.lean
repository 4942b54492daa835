/- Layer 5's landed helpers: isSize, joined; and the contract of frames.Put. -/
import Derived.Test.YtilnlmopdljeeaaFrmW
import Derived.Test.YtilnlmopdljeeaaOctFPut
namespace Go.Proofs.Ytilnlmopdljeeaa.Frm
open Go.RowKit Go.Proofs.Ytilnlmopdljeeaa.Oct Go.Proofs.Ytilnlmopdljeeaa.RowF Go.Proofs.Ytilnlmopdljeeaa.RowL Go.Proofs.Ytilnlmopdljeeaa.Lay

/-- may a body have so many bytes? -/
def isS (n : Int) : Bool := decide (1 ≤ n ∧ n ≤ 4096)
theorem isSize_any (n : Int) (w : World) : Calls Try.prog 23 #[.int .i64 n] w fun e w' => e = .returned (.bool (isS n)) ∧ w = w' := by
  go_enter Try.func23, Try.ntmps23
  go_wp2
  all_goals go_ret
  all_goals refine ⟨?_, rfl⟩
  · rename_i h; exact ret_bool (by simp [isS, h])
  · rename_i h; exact ret_bool (by simp [isS]; omega)
theorem slInfo : Info Try.prog 22 1 24 := by
  have h : (Try.prog.info? 22).map (fun i => (i.zero, i.size, i.bytes)) = some (some (.slice none 0 0), 1, 24) := by kernel_rfl
  obtain ⟨i, hi, hz, hs, hb⟩ := info_parts h
  exact ⟨i, _, hi, hz, hs, hb, rfl⟩

/-- what is joined already -/
def joRel (e8 : TypeId) (L : List (List UInt8)) (n : Nat) (w : World) (vb i : Value) (wr : World) : Prop :=
  ∃ (k : Nat) (A : Option Addr) (m c : Nat), i = .int .i64 (k : Int) ∧ k ≤ n ∧ vb = .slice A m c ∧ OwnB wr e8 w.heap.size vb m (L.take k).flatten ∧ Below w.heap.size w wr
theorem flat_step {L : List (List UInt8)} {k : Nat} {l : List UInt8} (h : L[k]? = some l) : (L.take (k + 1)).flatten = (L.take k).flatten ++ l := by
  rw [List.take_add_one, h, List.flatten_append]
  simp
theorem flat_le (L : List (List UInt8)) (k : Nat) : (L.take k).flatten.length ≤ L.flatten.length := by
  have h : L.flatten = (L.take k).flatten ++ (L.drop k).flatten := by rw [← List.flatten_append, List.take_append_drop]
  rw [h, List.length_append]
  omega
set_option maxRecDepth 100000 in
set_option maxHeartbeats 1000000 in
theorem joined_any (A : Option Addr) (n c : Nat) (L : List (List UInt8)) (B : Nat) (w : World) (hr : RdN w B A n L) (hB : B ≤ w.heap.size) (hn : n ≤ 1099511627776) (hs : L.flatten.length ≤ 1099511627776) :
    Calls Try.prog 24 #[.slice A n c] w (RB 5 w.heap.size w L.flatten) := by
  have hI := u8row
  have HR := Lib.hid hr
  have HS := Lib.hid hs
  clear hr hs
  go_enter Try.func24, Try.ntmps24
  go_wp2
  go_loopw [3, 8] (fun vb i wr => joRel 5 L n w vb i wr) (fun _ i _ => n - (intOf i).toNat)
  case atStart => exact ⟨0, none, 0, 0, rfl, Nat.zero_le _, rfl, OwnB.nil, Below.refl _ _⟩
  case round =>
    obtain ⟨k, A1, m1, c1, rfl, hk, rfl, ho, hb⟩ := hrel
    have HO := Lib.hid ho
    have HBL := Lib.hid hb
    have HRR := Lib.hid (HR.out.below hb hB)
    have hsz := hb.size
    clear ho hb
    by_cases hlt : k < n
    · obtain ⟨b, o, a, m, c2, l, rfl, hbl, hl, hcell, hm, hrd⟩ := HRR.out.at hlt
      have HL := Lib.hid hl
      have HRD := Lib.hid hrd
      have hlen : m1 + m ≤ 1099511627776 := by
        have h1 := flat_le L (k + 1)
        rw [flat_step hl, List.length_append, HO.out.len, hrd.len] at h1
        have := HS.out
        omega
      clear hl hrd hm
      go_wp2_with (at_builtin; refine wpList_appB _ rfl _ _ 22 rfl w.heap.size 5 Try.underlying22 hI _ m1 _ rfl HO.out B a m c2 l rfl HRD.out hlen hsz ?_; intro A3 c3 w3 hown3 hb3)
      go_roundw
      case rel => exact ⟨k + 1, A3, m1 + m, c3, by go_num, by omega, rfl, by rw [flat_step HL.out]; exact hown3, HBL.out.trans hb3⟩
      case measure => simp [intOf]; omega
    · have hkn : k = n := by omega
      subst hkn
      have ht : L.take k = L := List.take_of_length_le (by have := HRR.out.len; omega)
      rw [ht] at HO
      clear ht
      go_wp2
      go_ret
      exact ⟨A1, m1, c1, rfl, HO.out, HBL.out⟩
theorem Put4 (x : Nat) (w : World) : Calls Try.prog 22 #[.slice none 0 0, .int .u64 (x : Int), .int .i64 4] w (RB 5 w.heap.size w (beN x 4 4)) :=
  Put_yes none 0 0 x 4 [] 0 w Rd.nil (Nat.zero_le _) (by omega) (by omega) (by omega)
end Go.Proofs.Ytilnlmopdljeeaa.Frm
