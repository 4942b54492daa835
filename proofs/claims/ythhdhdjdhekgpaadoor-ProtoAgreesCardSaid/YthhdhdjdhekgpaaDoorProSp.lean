/- Joined: ProSp. -/
import Derived.Test.YthhdhdjdhekgpaaDoorProSpW
import Derived.Test.YthhdhdjdhekgpaaDoorProA
import Derived.Test.YthhdhdjdhekgpaaDoorProR2
import Derived.Deep.RegionHeld
/- The landed Spans and areSpans, and the search for a span; the document's Spans and SameSpans. -/
namespace Go.Proofs.YthhdhdjdhekgpaaDoor.Pro
open Go.RowKit Go.Proofs.YthhdhdjdhekgpaaDoor.Oct Go.Proofs.YthhdhdjdhekgpaaDoor.Lay Go.Proofs.YthhdhdjdhekgpaaDoor.RowF

/-- the versions that there are -/
def ones (k : Nat) : List Sp := (List.range k).map fun i : Nat => ⟨(i : Int) + 1, 0, 2⟩
def all12 : List Sp := ones 12
theorem ones_succ (k : Nat) : ones (k + 1) = ones k ++ [⟨(k : Int) + 1, 0, 2⟩] := by unfold ones; rw [List.range_succ, List.map_append]; rfl
theorem ones_fit {k : Nat} (hk : k ≤ 1000) : ∀ x ∈ ones k, FitS x := by
  intro x hx
  unfold ones at hx
  obtain ⟨i, hi, rfl⟩ := List.mem_map.1 hx
  rw [List.mem_range] at hi
  exact ⟨⟨by simp only; omega, by simp only; omega⟩, ⟨by simp only; omega, by simp only; omega⟩, ⟨by simp only; omega, by simp only; omega⟩⟩
def spsRel (w : World) (vl vi : Value) (off : Int) (wr : World) : Prop :=
  ∃ (j : Nat) (A : Option Addr) (c : Nat), vi = .int .i64 ((j : Int) + off) ∧ j ≤ 12 ∧ vl = .slice A j c ∧ OwnF spc 3 wr 54 w.heap.size vl j (ones j) ∧ Below w.heap.size w wr
/-- what Spans answers -/
def SPR (w : World) (e : Ending) (w' : World) : Prop := ∃ A n c, e = .returned (.slice A n c) ∧ n = 12 ∧ OwnF spc 3 w' 54 w.heap.size (.slice A n c) n all12 ∧ Below w.heap.size w w'
set_option maxRecDepth 100000 in
set_option maxHeartbeats 1000000 in
theorem Spans_any (w : World) : Calls Tryd.prog 30 #[] w (SPR w) := by
  go_enter Tryd.func30, Tryd.ntmps30
  go_wp2
  go_loopw [1, 3] (fun vl vi wr => spsRel w vl vi 0 wr) (fun _ vi _ => 12 - (intOf vi).toNat)
  case atStart => exact ⟨0, none, 0, rfl, by omega, rfl, OwnF.nil, Below.refl _ _⟩
  case round =>
    obtain ⟨j, A1, c1, rfl, hj, rfl, hO, hB⟩ := hrel
    have HO := Lib.hid hO
    have HB := Lib.hid hB
    have hsz := hB.size
    clear hO hB
    by_cases hlt : j < 12
    · have hw1 : IntKind.i64.wrap ((j : Int) + 1) = (j : Int) + 1 := IntWalk.i64_in _ (by omega)
      rw [Int.add_zero]
      go_wp2_with (at_builtin; refine wpList_appF _ spS rfl _ _ 45 rfl 24 w.heap.size 54 Tryd.underlying45 spRow _ j (ones j) rfl (HO.out.alloc _) _ _ 1 1 [⟨(j : Int) + 1, 0, 2⟩] rfl (rdF_new wr spS 54 ⟨(j : Int) + 1, 0, 2⟩) (by omega) (by omega) (by simp; omega) ?_; intro A7 c7 w7 hO7 hb7)
      go_roundw
      case rel => exact ⟨j + 1, A7, c7, by go_num, by omega, rfl, by rw [ones_succ]; exact hO7, (HB.out.alloc hsz _).trans hb7⟩
      case measure => simp [intOf]; omega
    · have HJ := Lib.hid (show j = 12 by omega)
      rw [Int.add_zero]
      go_wp2
      go_ret
      exact ⟨A1, j, c1, rfl, HJ.out, by unfold all12; rw [← HJ.out]; exact HO.out, HB.out⟩
set_option maxRecDepth 100000 in
set_option maxHeartbeats 1000000 in
theorem refSpans_any (w : World) : Calls Tryd.prog 31 #[] w (SPR w) := by
  go_enter Tryd.func31, Tryd.ntmps31
  go_wp2
  go_loopw [1, 2] (fun vl vi wr => spsRel w vl vi 1 wr) (fun _ vi _ => 13 - (intOf vi).toNat)
  case atStart => exact ⟨0, none, 0, rfl, by omega, rfl, OwnF.nil, Below.refl _ _⟩
  case round =>
    obtain ⟨j, A1, c1, rfl, hj, rfl, hO, hB⟩ := hrel
    have HO := Lib.hid hO
    have HB := Lib.hid hB
    have hsz := hB.size
    clear hO hB
    by_cases hlt : j < 12
    · have hw1 : IntKind.i64.wrap ((j : Int) + 1 + 1) = (j : Int) + 1 + 1 := IntWalk.i64_in _ (by omega)
      go_wp2_with (at_builtin; refine wpList_appF _ spS rfl _ _ 45 rfl 24 w.heap.size 54 Tryd.underlying45 spRow _ j (ones j) rfl (HO.out.alloc _) _ _ 1 1 [⟨(j : Int) + 1, 0, 2⟩] rfl (rdF_new wr spS 54 ⟨(j : Int) + 1, 0, 2⟩) (by omega) (by omega) (by simp; omega) ?_; intro A7 c7 w7 hO7 hb7)
      go_roundw
      case rel => exact ⟨j + 1, A7, c7, by go_num, by omega, rfl, by rw [ones_succ]; exact hO7, (HB.out.alloc hsz _).trans hb7⟩
      case measure => simp [intOf]; omega
    · have HJ := Lib.hid (show j = 12 by omega)
      go_wp2
      go_ret
      exact ⟨A1, j, c1, rfl, HJ.out, by unfold all12; rw [← HJ.out]; exact HO.out, HB.out⟩
/-- what is still to be looked at, the last kind being below p -/
def rtRel (l : List Sp) (n : Nat) (w : World) (vp vi : Value) (wr : World) : Prop :=
  ∃ (k : Nat) (p : Int), vi = .int .i64 (k : Int) ∧ k ≤ n ∧ vp = .int .i64 p ∧ 0 ≤ p ∧ p ≤ 256 ∧ right l = rt (p - 1) (l.drop k) ∧ Below w.heap.size w wr
theorem dropC {α : Type} {l : List α} {k : Nat} {x : α} (h : l[k]? = some x) : l.drop k = x :: l.drop (k + 1) := by
  obtain ⟨hlt, hr⟩ := List.getElem?_eq_some_iff.1 h
  rw [List.drop_eq_getElem_cons hlt, hr]
theorem rt_at {l : List Sp} {k : Nat} {x : Sp} {p : Int} (h : l[k]? = some x) : rt p (l.drop k) = (decide (p < x.kind ∧ x.kind ≤ 255 ∧ 0 ≤ x.lo ∧ x.lo ≤ x.hi ∧ x.hi ≤ 255) && rt x.kind (l.drop (k + 1))) := by
  rw [dropC h]; rfl
set_option maxRecDepth 100000 in
set_option maxHeartbeats 2000000 in
theorem areSpans_any (A : Option Addr) (n c : Nat) (l : List Sp) (w : World) (hr : RdL w w.heap.size A n l) (hn : n ≤ 140737488351232) :
    Calls Tryd.prog 73 #[.slice A n c] w fun e w' => e = .returned (.bool (right l)) ∧ Below w.heap.size w w' := by
  have HR := Lib.hid hr
  clear hr
  go_enter Tryd.func73, Tryd.ntmps73
  go_wp2
  go_loopw [3, 8] (fun vp vi wr => rtRel l n w vp vi wr) (fun _ vi _ => n - (intOf vi).toNat)
  case atStart => exact ⟨0, 0, rfl, Nat.zero_le _, rfl, by omega, by omega, rfl, Below.refl _ _⟩
  case round =>
    obtain ⟨k, p, rfl, hk, rfl, hp0, hp1, hD, hB⟩ := hrel
    have HD := Lib.hid hD
    have HB := Lib.hid hB
    have HX := Lib.hid (HR.out.below hB (Nat.le_refl _))
    have hsz := hB.size
    clear hD hB
    by_cases hlt : k < n
    · obtain ⟨b, o, x, rfl, hb, hx, hf, q0, q1, q2⟩ := sp_at HX.out hlt
      have HS := Lib.hid (rt_at (p := p - 1) hx)
      clear hx
      rcases h1 : wi x.kind p 255 with _ | _
      · have HF := Lib.hid (show right l = false by rw [HD.out, HS.out, decide_eq_false (by have := of_decide_eq_false h1; omega)]; rfl)
        go_wp2_with (go_at_call 61; (with_reducible refine (isWithin_any _ _ _ _).mono ?_); rw [h1]; rintro e w9 ⟨rfl, rfl⟩)
        go_ret
        exact ⟨by rw [HF.out]; rfl, HB.out.alloc hsz _⟩
      rcases h2 : wi x.lo 0 x.hi with _ | _
      · have HF := Lib.hid (show right l = false by rw [HD.out, HS.out, decide_eq_false (by have := of_decide_eq_false h2; omega)]; rfl)
        go_wp2_with (go_at_call 61; (with_reducible refine (isWithin_any _ _ _ _).mono ?_); (first | rw [h1] | rw [h2]); rintro e w9 ⟨rfl, rfl⟩)
        go_ret
        exact ⟨by rw [HF.out]; rfl, HB.out.alloc hsz _⟩
      by_cases h3 : 255 < x.hi
      · have HF := Lib.hid (show right l = false by rw [HD.out, HS.out, decide_eq_false (by omega)]; rfl)
        go_wp2_with (go_at_call 61; (with_reducible refine (isWithin_any _ _ _ _).mono ?_); (first | rw [h1] | rw [h2]); rintro e w9 ⟨rfl, rfl⟩)
        go_ret
        exact ⟨by rw [HF.out]; rfl, HB.out.alloc hsz _⟩
      · have hk1 := of_decide_eq_true h1
        have HN := Lib.hid (show right l = rt (x.kind + 1 - 1) (l.drop (k + 1)) by rw [HD.out, HS.out, decide_eq_true (by have := of_decide_eq_true h2; omega), Bool.true_and, show x.kind + 1 - 1 = x.kind by omega])
        have hw1 : IntKind.i64.wrap (x.kind + 1) = x.kind + 1 := IntWalk.i64_in _ (by omega)
        go_wp2_with (go_at_call 61; (with_reducible refine (isWithin_any _ _ _ _).mono ?_); (first | rw [h1] | rw [h2]); rintro e w9 ⟨rfl, rfl⟩)
        go_roundw
        case rel => exact ⟨k + 1, x.kind + 1, by go_num, by omega, rfl, by omega, by omega, HN.out, HB.out.alloc hsz _⟩
        case measure => simp [intOf]; omega
    · have HT := Lib.hid (show right l = true by rw [HD.out, List.drop_of_length_le (by have := HR.out.len; omega)]; rfl)
      go_wp2
      go_ret
      exact ⟨by rw [HT.out]; rfl, HB.out⟩
theorem agree1_any (x y : Sp) (X : Nat) (w : World) (hX : w.cell? ⟨X, 0, none⟩ = some (.int .i64 x.kind)) :
    Calls Tryd.prog 75 #[.agg #[.int .i64 y.kind, .int .i64 y.lo, .int .i64 y.hi], .pointer (some ⟨X, 0, none⟩)] w fun e w' => e = .returned (.bool (y.kind == x.kind)) ∧ Below w.heap.size w w' := by
  have hXl := World.block_lt_of_cell? w _ hX
  simp only at hXl
  go_enter Tryd.func75, Tryd.ntmps75
  go_wp2
  go_ret
  exact ⟨rfl, bel_alloc (Below.refl _ _) _⟩
def ixRel (t : List Sp) (x : Sp) (n : Nat) (w : World) (i : Value) (wr : World) : Prop := ∃ k : Nat, i = .int .i64 (k : Int) ∧ k ≤ n ∧ (∀ y ∈ t.take k, y.kind ≠ x.kind) ∧ Below w.heap.size w wr
set_option maxRecDepth 100000 in
set_option maxHeartbeats 1000000 in
theorem indexSpans_any (A : Option Addr) (n c : Nat) (t : List Sp) (x : Sp) (X : Nat) (w : World) (hr : RdL w w.heap.size A n t) (hn : n ≤ 140737488351232) (hX : w.cell? ⟨X, 0, none⟩ = some (.int .i64 x.kind)) :
    Calls Tryd.prog 74 #[.slice A n c, .func (.func 75) #[] #[.pointer (some ⟨X, 0, none⟩)]] w fun e w' => (∃ i : Int, e = .returned (.int .i64 i) ∧ ((i = -1 ∧ ∀ y ∈ t, y.kind ≠ x.kind) ∨ ∃ (j : Nat) (y : Sp), i = (j : Int) ∧ t[j]? = some y ∧ y.kind = x.kind)) ∧ Below w.heap.size w w' := by
  have HR := Lib.hid hr
  have hXl := World.block_lt_of_cell? w _ hX
  simp only at hXl
  have HX := Lib.hid hX
  clear hr hX
  go_enter Tryd.func74, Tryd.ntmps74
  go_wp2
  go_loopw [8] (fun i wr => ixRel t x n w i wr) (fun i _ => n - (intOf i).toNat)
  case atStart => exact ⟨0, rfl, Nat.zero_le _, by simp, Below.refl _ _⟩
  case round =>
    obtain ⟨k, rfl, hk, hD, hB⟩ := hrel
    have HD := Lib.hid hD
    have HB := Lib.hid hB
    have HRR := Lib.hid (HR.out.below hB (Nat.le_refl _))
    have HXX := Lib.hid ((hB.cell (p := ⟨X, 0, none⟩) hXl).trans HX.out)
    clear hD hB
    by_cases hlt : k < n
    · obtain ⟨b, o, y, rfl, hb, hy, hf, q0, q1, q2⟩ := sp_at HRR.out hlt
      have HY := Lib.hid hy
      clear hy
      rcases h1 : (y.kind == x.kind) with _ | _
      · have HN := Lib.hid (show ∀ z ∈ t.take (k + 1), z.kind ≠ x.kind by
          intro z hz
          rw [List.take_add_one, HY.out, List.mem_append] at hz
          rcases hz with hz | hz
          · exact HD.out z hz
          · simp only [Option.toList_some, List.mem_singleton] at hz
            subst hz
            simpa using h1)
        go_wp2_with (go_at_call 75; (with_reducible refine (agree1_any x y X _ HXX.out).mono ?_); rw [h1]; rintro e w9 ⟨rfl, hb9⟩; have HB9 := Lib.hid (HB.out.trans (hb9.mono HB.out.size)); clear hb9)
        go_roundw
        case rel => exact ⟨k + 1, by go_num, by omega, HN.out, HB9.out⟩
        case measure => simp [intOf]; omega
      · have HE := Lib.hid (show y.kind = x.kind by simpa using h1)
        go_wp2_with (go_at_call 75; (with_reducible refine (agree1_any x y X _ HXX.out).mono ?_); rw [h1]; rintro e w9 ⟨rfl, hb9⟩; have HB9 := Lib.hid (HB.out.trans (hb9.mono HB.out.size)); clear hb9)
        go_ret
        exact ⟨⟨(k : Int), rfl, .inr ⟨k, y, rfl, HY.out, HE.out⟩⟩, HB9.out⟩
    · have HT := Lib.hid (show ∀ y ∈ t, y.kind ≠ x.kind by have h := HD.out; rw [List.take_of_length_le (by have := HR.out.len; omega)] at h; exact h)
      go_wp2
      go_ret
      exact ⟨⟨_, rfl, .inl ⟨rfl, HT.out⟩⟩, HB.out⟩
set_option maxRecDepth 100000 in
set_option maxHeartbeats 2000000 in
theorem refsameSpans_any (A1 : Option Addr) (n1 c1 : Nat) (L : List Sp) (A2 : Option Addr) (n2 c2 : Nat) (M : List Sp) (w : World) (hr : RdL w w.heap.size A1 n1 L) (hr2 : RdL w w.heap.size A2 n2 M) (hn : n1 ≤ 1099511627776) :
    Calls Tryd.prog 29 #[.slice A1 n1 c1, .slice A2 n2 c2] w fun e w' => e = .returned (.bool (eqq L M)) ∧ Below w.heap.size w w' := by
  have HR := Lib.hid hr
  have HR2 := Lib.hid hr2
  have hmx : Tryd.prog.follows .mixedOrders = true := by kernel_rfl
  clear hr hr2
  by_cases hnn : n1 = n2
  · subst hnn
    go_enter Tryd.func29, Tryd.ntmps29
    go_wp2
    go_loopw [5] (fun i wr => eqRel L M n1 w i wr) (fun i _ => n1 - (intOf i).toNat)
    case atStart => exact ⟨0, rfl, Nat.zero_le _, rfl, Below.refl _ _⟩
    case round =>
      obtain ⟨k, rfl, hk, hT, hb⟩ := hrel
      have HT := Lib.hid hT
      have HBL := Lib.hid hb
      have HX := Lib.hid (HR.out.below hb (Nat.le_refl _))
      have HY := Lib.hid (HR2.out.below hb (Nat.le_refl _))
      clear hT hb
      by_cases hlt : k < n1
      · obtain ⟨b, o, x, rfl, hbl, hx, _, x0, x1, x2⟩ := sp_at HX.out hlt
        obtain ⟨b2, o2, y, rfl, hbl2, hy, _, y0, y1, y2⟩ := sp_at HY.out hlt
        have k0 : wr.drew.cell? ⟨b, o + k * 3, none⟩ = some (.int .i64 x.kind) := x0
        have k1 : wr.drew.cell? ⟨b, o + k * 3 + 1, none⟩ = some (.int .i64 x.lo) := x1
        have k2 : wr.drew.cell? ⟨b, o + k * 3 + 2, none⟩ = some (.int .i64 x.hi) := x2
        have m0 : wr.drew.cell? ⟨b2, o2 + k * 3, none⟩ = some (.int .i64 y.kind) := y0
        have m1 : wr.drew.cell? ⟨b2, o2 + k * 3 + 1, none⟩ = some (.int .i64 y.lo) := y1
        have m2 : wr.drew.cell? ⟨b2, o2 + k * 3 + 2, none⟩ = some (.int .i64 y.hi) := y2
        have HL := Lib.hid hx
        have HL2 := Lib.hid hy
        clear hx hy x0 x1 x2 y0 y1 y2
        by_cases e0 : x.kind = y.kind
        case neg =>
          have d0 : (x.kind == y.kind) = false := beqF e0
          have HNO := Lib.hid (eqq_no (not_both HL.out HL2.out (fun h => e0 (by rw [h]))))
          go_wp2
          go_region_held (fun w' => w' = wr.drew) (rfl) (fail)
          go_wp2
          go_ret
          exact ⟨by rw [HNO.out]; rfl, bel_drew HBL.out⟩
        have d0 : (x.kind == y.kind) = true := beqT e0
        by_cases e1 : x.lo = y.lo
        case neg =>
          have d1 : (x.lo == y.lo) = false := beqF e1
          have E0 := Lib.hid e0
          clear e0
          have HNO := Lib.hid (eqq_no (not_both HL.out HL2.out (fun h => e1 (by rw [h]))))
          go_wp2
          go_region_held (fun w' => w' = wr.drew) (rfl) (fail)
          go_wp2
          go_ret
          exact ⟨by rw [HNO.out]; rfl, bel_drew HBL.out⟩
        have d1 : (x.lo == y.lo) = true := beqT e1
        by_cases e2 : x.hi = y.hi
        case neg =>
          have d2 : (x.hi == y.hi) = false := beqF e2
          clear e0 e1
          have HNO := Lib.hid (eqq_no (not_both HL.out HL2.out (fun h => e2 (by rw [h]))))
          go_wp2
          go_region_held (fun w' => w' = wr.drew) (rfl) (fail)
          go_wp2
          go_ret
          exact ⟨by rw [HNO.out]; rfl, bel_drew HBL.out⟩
        have d2 : (x.hi == y.hi) = true := beqT e2
        have HXY := Lib.hid (show x = y by cases x; cases y; simp only at e0 e1 e2; rw [e0, e1, e2])
        clear e0 e1 e2
        go_wp2
        go_region_held (fun w' => w' = wr.drew) (rfl) (fail)
        go_wp2
        go_roundw
        case rel => exact ⟨k + 1, by go_num, by omega, take_both HT.out HL.out (HXY.out ▸ HL2.out), bel_drew HBL.out⟩
        case measure => simp [intOf]; omega
      · have hkn : k = n1 := by omega
        subst hkn
        have HYES := Lib.hid (eqq_yes (all_both HT.out HX.out.len HY.out.len))
        clear HT
        go_wp2
        go_ret
        exact ⟨by rw [HYES.out]; rfl, HBL.out⟩
  · have HNO := Lib.hid (eqq_no (a := L) (b := M) (fun h => hnn (by rw [← HR.out.len, h, HR2.out.len])))
    have hnb : ((n1 : Int) == (n2 : Int)) = false := beqF (by omega)
    go_enter Tryd.func29, Tryd.ntmps29
    go_wp2
    go_ret
    exact ⟨by rw [HNO.out]; rfl, Below.refl _ _⟩
end Go.Proofs.YthhdhdjdhekgpaaDoor.Pro
