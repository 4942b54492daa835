/- Joined: TxnLw, TxnR1, BatRowM, SegMath, BatRefR, BatRefN. -/
import Derived.Test.YtlfbagkonckffaaGreatJ47
import Derived.Test.YtlfbagkonckffaaGreatJ37
import Derived.Test.YtlfbagkonckffaaGreatJ40
import Derived.Test.YtlfbagkonckffaaGreatJ15
import Derived.Test.YtlfbagkonckffaaGreatJ09
import Derived.Test.YtlfbagkonckffaaGreatJ12
import Derived.Test.YtlfbagkonckffaaGreatJ14
import Derived.Test.YtlfbagkonckffaaGreatJ11
import Derived.Deep.RegionHeld
import Derived.Test.YtlfbagkonckffaaGreatJ03
import Derived.Test.YtlfbagkonckffaaGreatJ08
import Derived.Test.YtlfbagkonckffaaGreatJ21
import Derived.Deep.QuietTactic
import Derived.BigQuiet
/- Words for the laws of layer 12. -/
namespace Go.Proofs.YtlfbagkonckffaaGreat.Txn
open Go.RowKit Oct Rec RowF Lay InR Bat
open Epo (At0 AtO belA cel2)
open Sqs (at0_set9)

theorem rdlUp9 {w w' : World} {A : Option Addr} {n : Nat} {l : List Bt} (h : RdL w w.heap.size A n l) (hb : Below w.heap.size w w') : RdL w' w'.heap.size A n l := (h.below hb (Nat.le_refl _)).more hb.size
theorem rd_take9 {w : World} {B n m : Nat} {A : Option Addr} {l : List Gon} (h : RdGn w B A n l) (hm : m ≤ n) : RdGn w B A m (l.take m) := ⟨by rw [List.length_take, h.1]; omega, fun k x hx => h.2 k x (by rw [List.getElem?_take] at hx; split at hx; exact hx; cases hx)⟩
theorem ofR_is (A : Option Addr) (n c : Nat) (l : List Bt) (w : World) (hr : Bat.RdT w w.heap.size A n l) (hn : n ≤ 1000) {X : Tx} (hX : ofT l = X) :
    Calls Tryz.prog 31 #[.slice A n c] w fun e w' => ∃ A1 n1 c1 A2 n2 c2 A3 n3 c3, e = .returned (.agg #[.slice A1 n1 c1, .slice A2 n2 c2, .slice A3 n3 c3]) ∧ OwnTx w' w.heap.size A1 n1 c1 A2 n2 c2 A3 n3 c3 X ∧ Below w.heap.size w w' := by
  obtain ⟨hs, h1, h2, h3⟩ := rdF_of_rdT hr
  have h := of_is A n c hs w h1 hn h3
  rw [h2, hX] at h
  exact h
theorem rdt_at9 {n k : Nat} {w : World} {A : Option Addr} {l : List Bt} {x : Bt} (h : Bat.RdT w w.heap.size A n l) (hx : l[k]? = some x) : ∃ b o A' n' c', A = some ⟨b, o, none⟩ ∧ n' ≤ 1099511627776 ∧ RdR w w.heap.size A' n' x.recs ∧ Fits x ∧ AtO w b (o + k * 10) (batC (x, A', n', c')) := by
  obtain ⟨b, o, A', n', c', hA, hb, _, h1, h2, h3, hc⟩ := h.2 k x hx
  exact ⟨b, o, A', n', c', hA, h1, h2, h3, hb, hc⟩
theorem rd_last9 {n k : Nat} {w : World} {A : Option Addr} {l : List Bt} {x : Bt} (h : Bat.RdT w w.heap.size A n l) (hx : l[k]? = some x) : ∃ b o, A = some ⟨b, o, none⟩ ∧ AtO w b (o + k * 10 + 1) [.int .i64 x.last] := by
  obtain ⟨b, o, A', n', c', hA, hb, _, _, _, _, hc⟩ := h.2 k x hx
  refine ⟨b, o, hA, hb, fun j v hv => ?_⟩
  cases j with
  | zero => simp only [List.getElem?_cons_zero, Option.some.injEq] at hv; subst hv; exact hc 1 _ rfl
  | succ j => simp at hv
theorem last_take9 {l : List Bt} {q : Nat} {x : Bt} (h : l[q]? = some x) : (l.take (q + 1)).getLast? = some x := by
  rw [List.getLast?_eq_getElem?, List.length_take, Nat.min_eq_left (by have := (List.getElem?_eq_some_iff.1 h).1; omega), List.getElem?_take_of_lt (by omega)]
  exact h
theorem cut_at9 {l : List Bt} {j : Nat} {x : Bt} (h : l[j]? = some x) : l = l.take j ++ x :: l.drop (j + 1) := by
  have h2 := List.take_append_drop j l
  rw [List.drop_eq_getElem_cons (List.getElem?_eq_some_iff.1 h).1, (List.getElem?_eq_some_iff.1 h).2] at h2
  exact h2.symm
theorem lead_rd9 {w : World} {B : Nat} {b : Bt} {A : Option Addr} {n c : Nat} {row : Option Nat} (hr : RdR w B A n b.recs) (hB : B ≤ w.heap.size) (hc : n ≤ c) (hn : n ≤ 1099511627776) (hf : Fits b) (hrow : ∀ g, row = some g → B ≤ g) : LeadT w anyP row (b, A, n, c) := by
  refine ⟨hr.more hB, hc, hn, hf, fun a ha hn0 => ?_⟩
  obtain ⟨g, o, r, hA, hg, _⟩ := hr.at (k := 0) hn0
  rw [hA] at ha
  obtain rfl := Option.some.inj ha
  refine ⟨trivial, fun he => ?_⟩
  have h9 := hrow g he.symm
  omega
theorem filt_yes9 {l : List Bt} {j : Nat} {x : Bt} {p : Bt → Bool} (h : l[j]? = some x) (hp : p x = true) : (l.take (j + 1)).filter p = (l.take j).filter p ++ [x] := by
  rw [List.take_add_one, h, Option.toList_some, List.filter_append, List.filter_cons, if_pos hp]
  rfl
theorem filt_no9 {l : List Bt} {j : Nat} {x : Bt} {p : Bt → Bool} (h : l[j]? = some x) (hp : p x = false) : (l.take (j + 1)).filter p = (l.take j).filter p := by
  rw [List.take_add_one, h, Option.toList_some, List.filter_append, List.filter_cons, if_neg (by rw [hp]; simp)]
  simp
def gaRel (n : Nat) (bs : List Bt) (p : Bt → Bool) (wL : World) (cv iv : Value) (wr : World) : Prop := ∃ (j : Nat) (A4 : Option Addr) (n4 c4 : Nat), iv = .int .i64 (j : Int) ∧ j ≤ n ∧ cv = .slice A4 n4 c4 ∧ OwnT wr 28 anyP wL.heap.size (.slice A4 n4 c4) n4 ((bs.take j).filter p) ∧ Below wL.heap.size wL wr
end Go.Proofs.YtlfbagkonckffaaGreat.Txn

/- The document's SameGone and Same, of what is the same, and Few. -/
namespace Go.Proofs.YtlfbagkonckffaaGreat.Txn
open Go.RowKit Oct Rec RowF Lay InR Bat
open Epo (At0 AtO belA cel2)

def sgRel (n : Nat) (w : World) (i : Value) (wr : World) : Prop := ∃ k : Nat, i = .int .i64 (k : Int) ∧ k ≤ n ∧ Below w.heap.size w wr
set_option maxRecDepth 100000 in
set_option maxHeartbeats 2000000 in
theorem rSameG_is (A1 : Option Addr) (n c1 : Nat) (L : List Gon) (A2 : Option Addr) (c2 : Nat) (w : World) (hr : RdGn w w.heap.size A1 n L) (hr2 : RdGn w w.heap.size A2 n L) (hn : n ≤ 1099511627776) :
    Calls Tryz.prog 21 #[.slice A1 n c1, .slice A2 n c2] w fun e w' => e = .returned (.bool true) ∧ Below w.heap.size w w' := by
  have HR := Lib.hid hr
  have HR2 := Lib.hid hr2
  have hmx : Tryz.prog.follows .mixedOrders = true := by kernel_rfl
  clear hr hr2
  go_enter Tryz.func21, Tryz.ntmps21
  go_wp2
  go_loopw [5] (fun i wr => sgRel n w i wr) (fun i _ => n - (intOf i).toNat)
  case atStart => exact ⟨0, rfl, Nat.zero_le _, Below.refl _ _⟩
  case round =>
    obtain ⟨k, rfl, hk, hb⟩ := hrel
    have HBL := Lib.hid hb
    have HX := Lib.hid (RdF.below HR.out hb (Nat.le_refl _))
    have HY := Lib.hid (RdF.below HR2.out hb (Nat.le_refl _))
    clear hb
    by_cases hlt : k < n
    · obtain ⟨b, o, ⟨x0, x1, x2, x3⟩, rfl, hbl, hx, k0', k1', k2', k3'⟩ := go_at HX.out hlt
      obtain ⟨b2, o2, y, rfl, hbl2, hy, m0', m1', m2', m3'⟩ := go_at HY.out hlt
      obtain rfl : y = ⟨x0, x1, x2, x3⟩ := by rw [hx] at hy; exact (Option.some.inj hy).symm
      have k0 : wr.drew.cell? ⟨b, o + k * 4, none⟩ = some (.int .i64 x0) := k0'
      have k1 : wr.drew.cell? ⟨b, o + k * 4 + 1, none⟩ = some (.int .i64 x1) := k1'
      have k2 : wr.drew.cell? ⟨b, o + k * 4 + 2, none⟩ = some (.int .i64 x2) := k2'
      have k3 : wr.drew.cell? ⟨b, o + k * 4 + 3, none⟩ = some (.int .i64 x3) := k3'
      have m0 : wr.drew.cell? ⟨b2, o2 + k * 4, none⟩ = some (.int .i64 x0) := m0'
      have m1 : wr.drew.cell? ⟨b2, o2 + k * 4 + 1, none⟩ = some (.int .i64 x1) := m1'
      have m2 : wr.drew.cell? ⟨b2, o2 + k * 4 + 2, none⟩ = some (.int .i64 x2) := m2'
      have m3 : wr.drew.cell? ⟨b2, o2 + k * 4 + 3, none⟩ = some (.int .i64 x3) := m3'
      clear hx hy k0' k1' k2' k3' m0' m1' m2' m3'
      go_wp2
      go_region_held (fun w' => w' = wr.drew) (rfl) (fail)
      go_wp2
      go_roundw
      case rel => exact ⟨k + 1, by go_num, by omega, bel_drew HBL.out⟩
      case measure => simp [intOf]; omega
    · obtain rfl : k = n := by omega
      go_wp2
      go_ret
      exact ⟨rfl, HBL.out⟩
def stRel (n : Nat) (_w W : World) (i : Value) (wr : World) : Prop := ∃ k : Nat, i = .int .i64 (k : Int) ∧ k ≤ n ∧ Below W.heap.size W wr
set_option maxRecDepth 100000 in
set_option maxHeartbeats 4000000 in
theorem rSameT_is (A1 : Option Addr) (n c1 : Nat) (B1 : Option Addr) (n2 c2 : Nat) (D1 : Option Addr) (n3 c3 : Nat) (A2 : Option Addr) (c4 : Nat) (B2 : Option Addr) (c5 : Nat) (D2 : Option Addr) (c6 : Nat) (t : Tx) (w : World) (hr : RdT w A1 n B1 n2 D1 n3 t) (hr2 : RdT w A2 n B2 n2 D2 n3 t) (hn : n ≤ 1099511627776) (hn2 : n2 ≤ 1099511627776) (hn3 : n3 ≤ 1099511627776) :
    Calls Tryz.prog 19 #[.agg #[.slice A1 n c1, .slice B1 n2 c2, .slice D1 n3 c3], .agg #[.slice A2 n c4, .slice B2 n2 c5, .slice D2 n3 c6]] w fun e w' => e = .returned (.bool true) ∧ Below w.heap.size w w' := by
  have hmx : Tryz.prog.follows .mixedOrders = true := by kernel_rfl
  have hq : ((n : Int) == (n : Int)) = true := beq_self_eq_true _
  go_enter Tryz.func19, Tryz.ntmps19
  go_upto_region 1 with fail
  generalize hW : World.alloc (World.alloc w _) _ = W
  have hb1 := belA w (.cells #[.slice A1 n c1, .slice B1 n2 c2, .slice D1 n3 c3] 25)
  have hb2 := belA (w.alloc (.cells #[.slice A1 n c1, .slice B1 n2 c2, .slice D1 n3 c3] 25)) (.cells #[.slice A2 n c4, .slice B2 n2 c5, .slice D2 n3 c6] 25)
  have hB := bel_trans hb1 hb2
  have h1 : At0 W w.heap.size [.slice A1 n c1, .slice B1 n2 c2, .slice D1 n3 c3] 25 := by
    rw [← hW]
    exact (At0.new w [.slice A1 n c1, .slice B1 n2 c2, .slice D1 n3 c3] 25).below hb2
  have h2 : At0 W (w.heap.size + 1) [.slice A2 n c4, .slice B2 n2 c5, .slice D2 n3 c6] 25 := by
    rw [← hW]
    have h := At0.new (w.alloc (.cells #[.slice A1 n c1, .slice B1 n2 c2, .slice D1 n3 c3] 25)) [.slice A2 n c4, .slice B2 n2 c5, .slice D2 n3 c6] 25
    simp only [World.size_alloc] at h
    exact h
  rw [hW] at hB
  have HB := Lib.hid hB
  have HR1 := Lib.hid (hr.below hB)
  have HR2 := Lib.hid (hr2.below hB)
  have H1 := Lib.hid h1
  have H2 := Lib.hid h2
  obtain ⟨a0, a1, a2⟩ := cel3 h1
  obtain ⟨b0, b1, b2⟩ := cel3 h2
  clear hW hr hr2 hb1 hb2 hB h1 h2
  have HG := Lib.hid (rSameG_is B1 n2 c2 t.gone B2 c5 W HR1.out.gone HR2.out.gone hn2)
  go_wp2_with (first
    | (go_at_call 21; (with_reducible refine HD.out.mono ?_); rintro e w9 ⟨rfl, hb⟩; have HB9 := Lib.hid (bel_trans HB8.out hb); have HC1 := Lib.hid (HA1.out.below hb); have HC2 := Lib.hid (HA2.out.below hb); clear hb)
    | (go_at_call 21; (with_reducible refine HG.out.mono ?_); rintro e w8 ⟨rfl, hb⟩; have HB8 := Lib.hid hb; have HA1 := Lib.hid (H1.out.below hb); have HA2 := Lib.hid (H2.out.below hb); have HD := Lib.hid (rSameG_is D1 n3 c3 t.done D2 c6 w8 ((RdF.below HR1.out.done hb (Nat.le_refl _)).more hb.size) ((RdF.below HR2.out.done hb (Nat.le_refl _)).more hb.size) hn3); clear hb a0 a1 a2 b0 b1 b2; obtain ⟨a0, a1, a2⟩ := cel3 HA1.out; obtain ⟨b0, b1, b2⟩ := cel3 HA2.out))
  have HBW := Lib.hid (bel_trans HB.out HB9.out)
  go_loopw [5] (fun i wr => stRel n w w9 i wr) (fun i _ => n - (intOf i).toNat)
  case atStart => exact ⟨0, rfl, Nat.zero_le _, Below.refl _ _⟩
  case round =>
    obtain ⟨k, rfl, hk, hb⟩ := hrel
    have HBL := Lib.hid hb
    have hb9 := bel_trans HB9.out hb
    have HX := Lib.hid (RdF.below HR1.out.op hb9 (Nat.le_refl _))
    have HY := Lib.hid (RdF.below HR2.out.op hb9 (Nat.le_refl _))
    have HE1 := Lib.hid (HC1.out.below hb)
    have HE2 := Lib.hid (HC2.out.below hb)
    clear hb hb9 a0 a1 a2 b0 b1 b2
    obtain ⟨a0', a1', a2'⟩ := cel3 HE1.out
    obtain ⟨b0', b1', b2'⟩ := cel3 HE2.out
    by_cases hlt : k < n
    · obtain ⟨b, o, ⟨x0, x1⟩, rfl, hbl, hx, k0', k1'⟩ := op_at HX.out hlt
      obtain ⟨b3, o2, y, rfl, hbl2, hy, m0', m1'⟩ := op_at HY.out hlt
      obtain rfl : y = ⟨x0, x1⟩ := by rw [hx] at hy; exact (Option.some.inj hy).symm
      have hlk : (k : Int) < (n : Int) := by omega
      go_upto_region 6 with fail
      have k0 : wr.drew.cell? ⟨b, o + k * 2, none⟩ = some (.int .i64 x0) := k0'
      have k1 : wr.drew.cell? ⟨b, o + k * 2 + 1, none⟩ = some (.int .i64 x1) := k1'
      have m0 : wr.drew.cell? ⟨b3, o2 + k * 2, none⟩ = some (.int .i64 x0) := m0'
      have m1 : wr.drew.cell? ⟨b3, o2 + k * 2 + 1, none⟩ = some (.int .i64 x1) := m1'
      have a0 : wr.drew.cell? ⟨w.heap.size, 0, none⟩ = some (.slice (some ⟨b, o, none⟩) n c1) := a0'
      have b0 : wr.drew.cell? ⟨w.heap.size + 1, 0, none⟩ = some (.slice (some ⟨b3, o2, none⟩) n c4) := b0'
      clear hx hy k0' k1' m0' m1' a0' a1' a2' b0' b1' b2'
      go_region_held (fun w' => w' = wr.drew) (rfl) (fail)
      go_wp2
      go_roundw
      case rel => exact ⟨k + 1, by go_num, by omega, bel_drew HBL.out⟩
      case measure => simp [intOf]; omega
    · obtain rfl : k = n := by omega
      go_wp2
      go_ret
      exact ⟨rfl, bel_trans HBW.out HBL.out⟩
theorem rFewT_is (A : Option Addr) (n c : Nat) (A2 : Option Addr) (n2 c2 : Nat) (A3 : Option Addr) (n3 c3 : Nat) (w : World) {z : Bool} (h : decide (n ≤ 60 ∧ n2 ≤ 60 ∧ n3 ≤ 60) = z) :
    Calls Tryz.prog 13 #[.agg #[.slice A n c, .slice A2 n2 c2, .slice A3 n3 c3]] w fun e w' => e = .returned (.bool z) ∧ Below w.heap.size w w' := by
  have hB := belA w (.cells #[.slice A n c, .slice A2 n2 c2, .slice A3 n3 c3] 25)
  obtain ⟨a0, a1, a2⟩ := cel3 (At0.new w [.slice A n c, .slice A2 n2 c2, .slice A3 n3 c3] 25)
  have HB := Lib.hid hB
  have HZ := Lib.hid h
  clear hB h
  by_cases h1 : n ≤ 60
  · have e1 : (n : Int) ≤ 60 := by omega
    by_cases h2 : n2 ≤ 60
    · have e2 : (n2 : Int) ≤ 60 := by omega
      by_cases h3 : n3 ≤ 60
      · have e3 : (n3 : Int) ≤ 60 := by omega
        have HF := Lib.hid (show z = true by rw [← HZ.out]; exact decide_eq_true ⟨h1, h2, h3⟩)
        clear h1 h2 h3
        go_enter Tryz.func13, Tryz.ntmps13
        go_wp2
        go_ret
        exact ⟨by rw [HF.out]; rfl, HB.out⟩
      · have e3 : ¬ (n3 : Int) ≤ 60 := by omega
        have HF := Lib.hid (show z = false by rw [← HZ.out]; exact decide_eq_false fun h => h3 h.2.2)
        clear h1 h2 h3
        go_enter Tryz.func13, Tryz.ntmps13
        go_wp2
        go_ret
        exact ⟨by rw [HF.out]; rfl, HB.out⟩
    · have e2 : ¬ (n2 : Int) ≤ 60 := by omega
      have HF := Lib.hid (show z = false by rw [← HZ.out]; exact decide_eq_false fun h => h2 h.2.1)
      clear h1 h2
      go_enter Tryz.func13, Tryz.ntmps13
      go_wp2
      go_ret
      exact ⟨by rw [HF.out]; rfl, HB.out⟩
  · have e1 : ¬ (n : Int) ≤ 60 := by omega
    have HF := Lib.hid (show z = false by rw [← HZ.out]; exact decide_eq_false fun h => h1 h.1)
    clear h1
    go_enter Tryz.func13, Tryz.ntmps13
    go_wp2
    go_ret
    exact ⟨by rw [HF.out]; rfl, HB.out⟩
end Go.Proofs.YtlfbagkonckffaaGreat.Txn

/- Batches put one after another: the mathematics. -/
namespace Go.Proofs.YtlfbagkonckffaaGreat.Bat
open Go.RowKit Oct Rec Crc Lay

def mayR (bs : List Bt) : List Bt := bs.filter fun b => decide (chB b = 0)
def byR (bs : List Bt) : List UInt8 := bs.flatMap byB
end Go.Proofs.YtlfbagkonckffaaGreat.Bat

/- The plain mathematics of layer 7: a segment's batches. Nothing of the program. -/
namespace Go.Proofs.YtlfbagkonckffaaGreat.Seg
open Oct Rec Crc Bat

theorem sc_dec {l : List UInt8} (h : (grB l 0).2.2 = 0) : (l.drop (grB l 0).2.1.toNat).length < l.length := by
  rcases hg : grB l 0 with ⟨b, n, z⟩
  rw [hg] at h
  obtain rfl : z = 0 := h
  have := grB_good hg
  rw [List.length_drop]
  simp only
  omega
def sc (lo : Int) (l : List UInt8) : List Bt × Nat :=
  if _h : (grB l 0).2.2 = 0 ∧ lo ≤ (grB l 0).1.base then
    ((grB l 0).1 :: (sc ((grB l 0).1.last + 1) (l.drop (grB l 0).2.1.toNat)).1, (grB l 0).2.1.toNat + (sc ((grB l 0).1.last + 1) (l.drop (grB l 0).2.1.toNat)).2)
  else ([], 0)
termination_by l.length
decreasing_by all_goals exact sc_dec _h.1
def ris : Int → List Bt → Bool
  | _, [] => true
  | lo, b :: bs => decide (chB b = 0 ∧ lo ≤ b.base) && ris (b.last + 1) bs
def endR : Int → List Bt → Int
  | lo, [] => lo
  | _, b :: bs => endR (b.last + 1) bs
theorem ris_cons {lo : Int} {b : Bt} {bs : List Bt} : ris lo (b :: bs) = true ↔ (chB b = 0 ∧ lo ≤ b.base) ∧ ris (b.last + 1) bs = true := by
  unfold ris
  rw [Bool.and_eq_true, decide_eq_true_eq]
  cases bs <;> rfl
theorem ris_app {lo : Int} {bs cs : List Bt} : ris lo (bs ++ cs) = true ↔ ris lo bs = true ∧ ris (endR lo bs) cs = true := by
  induction bs generalizing lo with
  | nil => simp [ris, endR]
  | cons x bs ih =>
    rw [List.cons_append, ris_cons, ris_cons, ih]
    show _ ↔ _ ∧ ris (endR (x.last + 1) bs) cs = true
    constructor
    · rintro ⟨h1, h2, h3⟩; exact ⟨⟨h1, h2⟩, h3⟩
    · rintro ⟨⟨h1, h2⟩, h3⟩; exact ⟨h1, h2, h3⟩
/-! ### segments -/
structure Sg where
  base : Int
  bytes : List UInt8
def nilS : Sg := ⟨0, []⟩
def batS (s : Sg) : List Bt := (sc s.base s.bytes).1
def goodS (s : Sg) : Nat := (sc s.base s.bytes).2
def endS (s : Sg) : Int := endR s.base (batS s)
def wholeS (s : Sg) : Bool := decide (0 ≤ s.base ∧ s.base ≤ 1099511627776 ∧ goodS s = s.bytes.length)
def newS (base : Int) : Sg × Int := if base < 0 ∨ 1099511627776 < base then (nilS, 1) else (⟨base, []⟩, 0)
def apS (s : Sg) (b : Bt) (limit : Int) : Sg × Int :=
  if wholeS s = false ∨ limit < 1 ∨ 4096 < limit then (nilS, 1)
  else if chB b ≠ 0 then (nilS, chB b)
  else if b.base < endS s then (nilS, 71)
  else if limit < (s.bytes.length : Int) + (byB b).length then (nilS, 70)
  else (⟨s.base, s.bytes ++ byB b⟩, 0)
def allS (limit : Int) : Sg → List Bt → Sg × Int
  | s, [] => (s, 0)
  | s, b :: bs => if (apS s b limit).2 ≠ 0 then (nilS, (apS s b limit).2) else allS limit (apS s b limit).1 bs
def ofS (base : Int) (bs : List Bt) (limit : Int) : Sg × Int :=
  if (newS base).2 ≠ 0 ∨ limit < 1 ∨ 4096 < limit then (nilS, 1) else allS limit (newS base).1 bs
def ahead (off : Int) : List Bt → List Bt
  | [] => []
  | b :: bs => if off ≤ b.last then [] else b :: ahead off bs
def cutS (s : Sg) (off : Int) : Sg := ⟨s.base, byR (ahead off (batS s))⟩
def fixS (s : Sg) : Sg × Int := (⟨s.base, s.bytes.take (goodS s)⟩, (s.bytes.length : Int) - goodS s)
theorem drop_at {l : List Bt} {k : Nat} {b : Bt} (h : l[k]? = some b) : l.drop k = b :: l.drop (k + 1) := by
  obtain ⟨hlt, hr⟩ := List.getElem?_eq_some_iff.1 h
  rw [List.drop_eq_getElem_cons hlt, hr]
end Go.Proofs.YtlfbagkonckffaaGreat.Seg

/- The contract of the document's own SameRecs. -/
namespace Go.Proofs.YtlfbagkonckffaaGreat.Bat
open Go.RowKit Oct Rec Crc

def smRel (l m : List Rc) (n : Nat) (w : World) (i : Value) (wr : World) : Prop := ∃ k : Nat, i = .int .i64 (k : Int) ∧ k ≤ n ∧ l.take k = m.take k ∧ ∃ q, wr = w.drewN q
theorem rtake_step {l m : List Rc} {k : Nat} {r s : Rc} (h : l.take k = m.take k) (hl : l[k]? = some r) (hm : m[k]? = some s) (hrs : r = s) : l.take (k + 1) = m.take (k + 1) := by
  rw [List.take_add_one, List.take_add_one, h, hl, hm, hrs]
set_option maxRecDepth 100000 in
set_option maxHeartbeats 1000000 in
theorem refSameRecs_yes (A A' : Option Addr) (n c c' : Nat) (l : List Rc) (B B' : Nat) (w : World) (hr : RdR w B A n l) (hr' : RdR w B' A' n l) (hn : n ≤ 1099511627776) :
    Calls Tryz.prog 80 #[.slice A n c, .slice A' n c'] w fun e w' => e = .returned (.bool true) ∧ Below w.heap.size w w' := by
  go_enter Tryz.func80, Tryz.ntmps80
  go_wp2
  go_loopw [13] (fun i wr => smRel l l n w i wr) (fun i _ => n - (intOf i).toNat)
  case atStart => exact ⟨0, rfl, Nat.zero_le _, rfl, 0, rfl⟩
  case round =>
    obtain ⟨k, rfl, hk, ht, q, rfl⟩ := hrel
    by_cases hlt : k < n
    · obtain ⟨b, o, r, rfl, _, hrk, hat⟩ := hr.at hlt
      obtain ⟨b', o', r', rfl, _, hrk', hat'⟩ := hr'.at hlt
      have hrr : r' = r := by rw [hrk] at hrk'; exact (Option.some.inj hrk').symm
      subst hrr
      obtain ⟨ro, rk, rv, rd, rt⟩ := r'
      have hat2 : ∀ z : Nat, At (w.drewN z) b (o + k * 5) ⟨ro, rk, rv, rd, rt⟩ := fun z => hat
      have hat3 : ∀ z : Nat, At (w.drewN z) b' (o' + k * 5) ⟨ro, rk, rv, rd, rt⟩ := fun z => hat'
      obtain ⟨a0, a1, a2, a3, a4⟩ := hat
      obtain ⟨b0, b1, b2, b3, b4⟩ := hat'
      simp only at a0 a1 a2 a3 a4 b0 b1 b2 b3 b4
      have q1 : (0 : Int) ≤ (k : Int) := by omega
      have q2 : (k : Int) < (n : Int) := by omega
      clear hr hr' hrk hrk' hat2 hat3
      go_wp2
      go_quiet (fail)
      go_wp2
      go_roundw
      case rel => exact ⟨k + 1, by go_num, by omega, rfl, _, rfl⟩
      case measure => simp [intOf]; omega
    · have hkn : k = n := by omega
      clear hkn
      go_wp2
      go_ret
      exact ⟨rfl, bel_drewN (Below.refl _ _) _⟩
end Go.Proofs.YtlfbagkonckffaaGreat.Bat

/- The contract of the document's own SameRecs, of lists that differ. -/
namespace Go.Proofs.YtlfbagkonckffaaGreat.Bat
open Go.RowKit Oct Rec Crc

theorem bytes_ne {a b : ByteArray} (h : a ≠ b) : (a.toList == b.toList) = false := by
  rw [← Go.beq_toListBytes]
  cases a with | mk x => cases b with | mk y => exact beq_false_of_ne (a := x) (b := y) (fun h2 => h (by rw [h2]))

set_option maxRecDepth 100000 in
set_option maxHeartbeats 1000000 in
theorem refSameRecs_no (A A' : Option Addr) (n n' c c' : Nat) (l m : List Rc) (B B' : Nat) (w : World) (hr : RdR w B A n l) (hr' : RdR w B' A' n' m) (hn : n ≤ 1099511627776) (hn' : n' ≤ 1099511627776) (hne : l ≠ m) :
    Calls Tryz.prog 80 #[.slice A n c, .slice A' n' c'] w fun e w' => e = .returned (.bool false) ∧ Below w.heap.size w w' := by
  by_cases hnn : n = n'
  rotate_left
  · have h1 : ((n : Int) != (n' : Int)) = true := by simp; omega
    clear hne
    go_enter Tryz.func80, Tryz.ntmps80
    go_wp2
    go_ret
    exact ⟨rfl, Below.refl _ _⟩
  subst hnn
  have HNE := Lib.hid hne
  have HL := Lib.hid hr.len
  have HM := Lib.hid hr'.len
  clear hne
  go_enter Tryz.func80, Tryz.ntmps80
  go_wp2
  go_loopw [13] (fun i wr => smRel l m n w i wr) (fun i _ => n - (intOf i).toNat)
  case atStart => exact ⟨0, rfl, Nat.zero_le _, rfl, 0, rfl⟩
  case round =>
    obtain ⟨k, rfl, hk, ht, q, rfl⟩ := hrel
    have HT := Lib.hid ht
    clear ht
    by_cases hlt : k < n
    · obtain ⟨b, o, r, rfl, _, hrk, hat⟩ := hr.at hlt
      obtain ⟨b', o', s, rfl, _, hrk', hat'⟩ := hr'.at hlt
      have q1 : (0 : Int) ≤ (k : Int) := by omega
      have q2 : (k : Int) < (n : Int) := by omega
      obtain ⟨ro, rk, rv, rd, rt⟩ := r
      obtain ⟨so, sk, sv, sd, st⟩ := s
      obtain ⟨a0, a1, a2, a3, a4⟩ := hat
      obtain ⟨b0, b1, b2, b3, b4⟩ := hat'
      simp only at a0 a1 a2 a3 a4 b0 b1 b2 b3 b4
      have HS := Lib.hid (fun hrs => rtake_step HT.out hrk hrk' hrs)
      clear hr hr' hrk hrk'
      by_cases e0 : ro = so
      rotate_left
      · have f0 : (ro == so) = false := beq_false_of_ne e0
        clear HS e0
        go_wp2
        go_quiet (fail)
        go_wp2
        go_ret
        exact ⟨rfl, bel_drewN (bel_drewN (Below.refl _ _) _) _⟩
      subst e0
      by_cases e1 : rk = sk
      rotate_left
      · have f0 : (rk.toList == sk.toList) = false := bytes_ne e1
        clear HS
        go_wp2
        go_quiet (fail)
        go_wp2
        go_ret
        exact ⟨rfl, bel_drewN (bel_drewN (Below.refl _ _) _) _⟩
      subst e1
      by_cases e2 : rv = sv
      rotate_left
      · have f0 : (rv.toList == sv.toList) = false := bytes_ne e2
        clear HS
        go_wp2
        go_quiet (fail)
        go_wp2
        go_ret
        exact ⟨rfl, bel_drewN (bel_drewN (Below.refl _ _) _) _⟩
      subst e2
      by_cases e3 : rd = sd
      rotate_left
      · have f0 : (rd == sd) = false := beq_false_of_ne e3
        clear HS e3
        go_wp2
        go_quiet (fail)
        go_wp2
        go_ret
        exact ⟨rfl, bel_drewN (bel_drewN (Below.refl _ _) _) _⟩
      subst e3
      by_cases e4 : rt = st
      rotate_left
      · have f0 : (rt == st) = false := beq_false_of_ne e4
        clear HS e4
        go_wp2
        go_quiet (fail)
        go_wp2
        go_ret
        exact ⟨rfl, bel_drewN (bel_drewN (Below.refl _ _) _) _⟩
      subst e4
      have HT2 := Lib.hid (HS.out rfl)
      clear HS
      go_wp2
      go_quiet (fail)
      go_wp2
      go_roundw
      case rel => exact ⟨k + 1, by go_num, by omega, HT2.out, _, rfl⟩
      case measure => simp [intOf]; omega
    · have hkn : k = n := by omega
      exfalso
      have h1 := HT.out
      rw [hkn, List.take_of_length_le (by have := HL.out; omega), List.take_of_length_le (by have := HM.out; omega)] at h1
      exact HNE.out h1
end Go.Proofs.YtlfbagkonckffaaGreat.Bat
