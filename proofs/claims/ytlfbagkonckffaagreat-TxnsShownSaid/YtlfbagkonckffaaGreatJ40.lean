/- Joined: TxnDJ, BatDevCl, TxnDK, TxnDL. -/
import Derived.Test.YtlfbagkonckffaaGreatJ39
import Derived.Test.YtlfbagkonckffaaGreatJ16
import Derived.Test.YtlfbagkonckffaaGreatJ27
import Derived.Laws.EntriesVeiled
/- The landed txns: ofOneOf: what has ended, put in order, the greatest Last up to each. -/
namespace Go.Proofs.YtlfbagkonckffaaGreat.Txn
open Go.RowKit Go.Shelf Go.Sort Oct Rec RowF Lay InR RngQ Bat RowL
open Epo (At0 AtO belA cel2)
open Sqs (at0_grown at0_set9 grown_set9 grown_bel grown_then)

attribute [local go_sem] Oper.semAt_some

theorem pm_end {y0 y : List Gon} {i : Nat} (h : Pm y0 i y) (hi : y0.length ≤ i) : Pm y0 y0.length y := ⟨h.len, h.key, fun j hj => by rw [List.getElem?_eq_none (by rw [h.len]; exact hj), List.getElem?_eq_none hj], fun j b hj hb => h.mx j b (by omega) hb⟩
set_option maxRecDepth 100000 in
theorem sortA_is {w : World} {B n c : Nat} {A : Option Addr} {l : List Gon} (h : OwnGn w B (.slice A n c) n l) (hn2 : n ≤ 1000000) :
    Calls Tryz.prog 81 #[.slice A n c, .func (.func 82) #[] #[]] w fun e w' => e = .returned (.tuple #[]) ∧ ∃ y row, y.Perm l ∧ Srt y ∧ OwnGn w' B (.slice A n c) n y ∧ w.grownBy w' row ∧ ∀ k, row = some k → A = some ⟨k, 0, none⟩ ∧ 0 < n := by
  by_cases hn : 0 < n
  · obtain ⟨g, rfl, _, _⟩ := h.form hn
    refine (sortG_is h hn hn2).mono ?_
    rintro e w' ⟨he, y, p1, p2, p3, p4⟩
    exact ⟨he, y, some g, p1, p2, p3, p4, fun k hk => by injection hk with hk; subst hk; exact ⟨rfl, hn⟩⟩
  · obtain rfl : n = 0 := by omega
    have hS := AnyF.slices_SortFunc_none (P := Tryz.prog) { Lays.sortf with } A c (.func (.func 82) #[] #[]) w
    change Calls Tryz.prog 81 _ _ _ at hS
    refine hS.mono ?_
    rintro e w' ⟨he, rfl⟩
    have hl := h.len goS
    obtain rfl : l = [] := List.eq_nil_of_length_eq_zero hl
    exact ⟨he, [], none, List.Perm.refl _, List.Pairwise.nil, h, ⟨rfl, rfl, rfl, Nat.le_refl _, fun _ _ _ => rfl⟩, fun k hk => by cases hk⟩
def OneRet (n : Nat) (l : List Gon) (w : World) (e : Ending) (w' : World) : Prop := ∃ bx A' c' y, e = .returned (.func (.func 85) #[] #[.pointer (some ⟨bx, 0, none⟩)]) ∧ Below w.heap.size w w' ∧ w'.cell? ⟨bx, 0, none⟩ = some (.slice A' n c') ∧ RdGn w' w'.heap.size A' n y ∧ Srt y ∧
      ∀ p f, tellK y p f = l.any fun g => decide (p = g.pid ∧ g.fst ≤ f ∧ f < g.lst)
def oneRel (y0 : List Gon) (A : Option Addr) (n c bx : Nat) (w : World) (iv : Value) (wr : World) : Prop := ∃ (i j : Nat) (y : List Gon), iv = .int .i64 (i : Int) ∧ i = j + 1 ∧ (i ≤ n ∨ i = 1) ∧ Pm y0 i y ∧ OwnGn wr w.heap.size (.slice A n c) n y ∧ At0 wr bx [.slice A n c] 23 ∧ Below w.heap.size w wr ∧ bx < wr.heap.size
set_option maxRecDepth 100000 in
set_option maxHeartbeats 16000000 in
theorem ofOne_is (A : Option Addr) (n c : Nat) (l : List Gon) (w : World) (hr : RdGn w w.heap.size A n l) (hn : n ≤ 1000000) :
    Calls Tryz.prog 57 #[.slice A n c] w fun e w' => OneRet n l w e w' := by
  have HC := Lib.hid (cloneG_is A n c l w hr hn)
  clear hr
  go_enter Tryz.func57, Tryz.ntmps57
  go_upto_region 2 with (go_at_call 71; (with_reducible refine HC.out.mono ?_); rintro e w1 ⟨A1, c1, rfl, ho, hb⟩)
  have HO := Lib.hid (ho.alloc (.cells #[.slice A1 n c1] 23))
  have HB := Lib.hid (bel_trans hb (belA w1 (.cells #[.slice A1 n c1] 23)) |>.mono (Nat.le_refl _))
  have HA := Lib.hid (At0.new w1 [.slice A1 n c1] 23)
  have hsz : (w1.alloc (.cells #[.slice A1 n c1] 23)).heap.size = w1.heap.size + 1 := by simp
  have hfar : ∀ k, A1 = some ⟨k, 0, none⟩ → 0 < n → w.heap.size ≤ k ∧ k < w1.heap.size := fun k hk h0 => by
    obtain ⟨g, hg, g1, g2⟩ := ho.form h0
    rw [hk] at hg
    injection hg with hg
    injection hg with hg
    subst hg
    exact ⟨g1, g2⟩
  have HFAR := Lib.hid hfar
  have hw1 := hb.size
  clear ho hb hfar
  generalize w1.alloc (.cells #[.slice A1 n c1] 23) = W at *
  have c0 : W.cell? ⟨w1.heap.size, 0, none⟩ = some (.slice A1 n c1) := HA.out.cell 0
  generalize w1.heap.size = bx at *
  go_upto_region 4 with (go_at_call 81; (with_reducible refine (sortA_is HO.out hn).mono ?_); rintro e w2 ⟨rfl, y0, row, hp, hs, ho2, hg2, hrow⟩)
  have HP := Lib.hid hp
  have HSR := Lib.hid hs
  have hl0 := ho2.len goS
  have HREL := Lib.hid (show oneRel y0 A1 n c1 bx w (.int .i64 1) w2 from ⟨1, 0, y0, rfl, rfl, .inr rfl, pm_start y0, ho2, at0_grown HA.out hg2 (by intro e; obtain ⟨h1, h2⟩ := hrow bx e.symm; have := (HFAR.out bx h1 h2).2; omega), HB.out.trans ⟨hg2.os, hg2.tape, hg2.output, hg2.size, fun i hi => hg2.block i (by omega) (by intro e; obtain ⟨h1, h2⟩ := hrow i e.symm; have := (HFAR.out i h1 h2).1; omega)⟩, by have := hg2.size; omega⟩)
  clear hp hs ho2 hg2 hrow c0
  go_loopw [4] (fun iv wr => oneRel y0 A1 n c1 bx w iv wr) (fun iv _ => n + 1 - (intOf iv).toNat)
  case atStart => exact HREL.out
  case round =>
    obtain ⟨i, j, y, rfl, hij, hin, hpm, ho, ha, hb, hbx⟩ := hrel
    have HPM := Lib.hid hpm
    have HOW := Lib.hid ho
    have HAT := Lib.hid ha
    have HBL := Lib.hid hb
    have hyl := ho.len goS
    have ca : wr.cell? ⟨bx, 0, none⟩ = some (.slice A1 n c1) := ha.cell 0
    have HIN := Lib.hid hin
    clear hpm ho ha hb hin
    by_cases hlt : i < n
    · have hi2 : (i : Int) < (n : Int) := by omega
      have hi1 : (0 : Int) ≤ (i : Int) := by omega
      have hj1 : (0 : Int) ≤ (j : Int) := by omega
      have hj2 : (j : Int) < (n : Int) := by omega
      have hij2 : (i : Int) - 1 = (j : Int) := by omega
      have hi3 : (i : Int) < 1000001 := by omega
      obtain ⟨g, rfl, hg1, hg2⟩ := HOW.out.form (by omega)
      obtain ⟨⟨b0, b1, b2, b3⟩, hb9⟩ : ∃ b, y[i]? = some b := ⟨_, List.getElem?_eq_getElem (by omega)⟩
      obtain ⟨⟨q0, q1, q2, q3⟩, hq9⟩ : ∃ b, y[j]? = some b := ⟨_, List.getElem?_eq_getElem (by omega)⟩
      have bc0 := OwnF.cellAt goS HOW.out hb9 (i := 0) rfl
      have bc3 := OwnF.cellAt goS HOW.out hb9 (i := 3) rfl
      have qc0 := OwnF.cellAt goS HOW.out hq9 (i := 0) rfl
      have qc3 := OwnF.cellAt goS HOW.out hq9 (i := 3) rfl
      have bf3 := HOW.out.frozen (i * 4 + 3)
      simp only [Nat.add_zero] at bc0 qc0
      have HST := Lib.hid (pm_step HSR.out (by rw [hij] at HPM; exact HPM.out) (by rw [← hij]; exact hb9) hq9)
      have HB9 := Lib.hid hb9
      have hgb : g ≠ bx := by have := (HFAR.out g rfl (by omega)).2; omega
      have HIJ := Lib.hid hij
      have HGB := Lib.hid hgb
      clear hb9 hq9 hij hlt hgb
      by_cases hp : b0 = q0
      · subst hp
        go_upto_region 6 with fail
        go_big_region
        go_upto_region 7 with fail
        go_region
        all_goals go_wp2
        all_goals go_roundw
        case rel =>
          have h9 := HST.out
          rw [if_pos rfl, show j + 2 = i + 1 by have := HIJ.out; omega, show j + 1 = i from HIJ.out.symm] at h9
          exact ⟨i + 1, i, _, by go_num, rfl, by omega, h9, ((OwnF.set goS HOW.out hg1 HB9.out (i := 3) (y := ⟨b0, b1, b2, max b3 q3⟩) (u := .int .i64 (max b3 q3)) (by decide) rfl).1.drew).drew, (at_set HAT.out HGB.out (i * 4 + 3) (.int .i64 (max b3 q3))).below ((Below.refl _ _).drew.drew), (HBL.out.setCell (p := ⟨g, i * 4 + 3, none⟩) hg1 _).drew.drew, by simpa using hbx⟩
        case measure => simp [intOf]; omega
      · have e1 : (b0 == q0) = false := beq_eq_false_iff_ne.2 hp
        have HQ := Lib.hid hp
        go_upto_region 6 with fail
        go_big_region
        all_goals go_wp2
        all_goals go_roundw
        case rel => exact ⟨i + 1, i, y, by go_num, rfl, by omega, by have h9 := HST.out; rw [if_neg HQ.out, show j + 2 = i + 1 by have := HIJ.out; omega] at h9; exact h9, HOW.out.drew, HAT.out.below (Below.refl _ wr).drew, HBL.out.drew, hbx⟩
        case measure => simp [intOf]; omega
    · have hi2 : ¬ (i : Int) < (n : Int) := by omega
      have HFIN := Lib.hid (pm_end HPM.out (by have := HIN.out; omega))
      clear hij hlt
      go_wp2
      go_ret
      exact ⟨bx, A1, c1, y, rfl, HBL.out, HAT.out.cell 0, HOW.out.rd goS, srt_key HFIN.out.len HFIN.out.key HSR.out, fun p f => tellK_is HP.out HSR.out HFIN.out p f⟩
end Go.Proofs.YtlfbagkonckffaaGreat.Txn

/- The contract of slices.Clone over records. -/
namespace Go.Proofs.YtlfbagkonckffaaGreat.Bat
open Go.RowKit Oct Rec Crc Lay RowF

def RecsO (e : TypeId) (w : World) (n : Nat) (rs : List Rc) (en : Ending) (w' : World) : Prop :=
  ∃ A' c', en = .returned (.slice A' n c') ∧ OwnF recC 5 w' e w.heap.size (.slice A' n c') n rs ∧ Below w.heap.size w w'
set_option maxRecDepth 100000 in
theorem cloneR_any (A : Option Addr) (n c : Nat) (rs : List Rc) (w : World) (hr : RdR w w.heap.size A n rs) (hn : n ≤ 1099511627776) :
    Calls Tryz.prog 60 #[.slice A n c] w (RecsO 61 w n rs) := by
  have hq := Go.run_eql_slice_nil (P := Tryz.prog) w 26 61 A n c Tryz.underlying26
  have HR := Lib.hid (rdF_of hr)
  cases A with
  | none =>
    obtain ⟨hn0, hl0⟩ := HR.out.isNil
    subst hn0
    subst hl0
    clear hr
    go_enter Tryz.func60, Tryz.ntmps60
    go_wp2
    go_ret
    exact ⟨none, 0, rfl, OwnF.nil, Below.refl _ _⟩
  | some a =>
    clear hr
    go_enter Tryz.func60, Tryz.ntmps60
    go_wp2_with (at_builtin; refine wpList_appF _ recS rfl _ _ 26 rfl 56 w.heap.size 61 Tryz.underlying26 recInfo _ 0 [] rfl (ownF_empty recC 5 w 61) w.heap.size (some a) n c rs rfl (HR.out.alloc (Nat.le_refl _) _) (by omega) (by omega) (by simp) ?_; intro A1 c1 w1 hown1 hb1; simp only [Nat.zero_add, List.nil_append] at hown1 ⊢; have HO := Lib.hid hown1; have HB := Lib.hid hb1; clear hown1 hb1)
    go_ret
    exact ⟨A1, c1, rfl, HO.out, ((Below.refl w.heap.size w).alloc (Nat.le_refl _) (.cells #[] 61)).trans HB.out⟩
end Go.Proofs.YtlfbagkonckffaaGreat.Bat

/- The landed txns: Show. -/
namespace Go.Proofs.YtlfbagkonckffaaGreat.Txn
open Go.RowKit Go.Shelf Go.Sort Oct Rec RowF Lay InR RngQ Bat RowL
open Epo (At0 AtO belA cel2)
open Sqs (at0_grown at0_set9 grown_set9 grown_bel grown_then)

attribute [local go_sem] Oper.semAt_some

theorem rdF_of_rdT {w : World} {B n : Nat} {A : Option Addr} {l : List Bt} (h : Bat.RdT w B A n l) : ∃ hs : List BX, RdF batC 10 w B A n hs ∧ hs.map (·.1) = l ∧ ∀ x ∈ hs, x.2.2.1 ≤ x.2.2.2 ∧ x.2.2.1 ≤ 1099511627776 ∧ RdR w B x.2.1 x.2.2.1 x.1.recs ∧ Fits x.1 := by
  have hx : ∀ k : Fin l.length, ∃ y : BX, y.1 = l[k] ∧ (∃ b o, A = some ⟨b, o, none⟩ ∧ b < B ∧ ∀ i u, (batC y)[i]? = some u → w.cell? ⟨b, o + k.1 * 10 + i, none⟩ = some u) ∧ y.2.2.1 ≤ y.2.2.2 ∧ y.2.2.1 ≤ 1099511627776 ∧ RdR w B y.2.1 y.2.2.1 y.1.recs ∧ Fits y.1 := by
    intro k
    obtain ⟨b, o, A', n', c', h1, h2, h3, h4, h5, h6, h7⟩ := h.2 k.1 l[k] (List.getElem?_eq_getElem k.2)
    exact ⟨(l[k], A', n', c'), rfl, ⟨b, o, h1, h2, h7⟩, h3, h4, h5, h6⟩
  refine ⟨List.ofFn fun k => Classical.choose (hx k), ⟨by rw [List.length_ofFn]; exact h.1, fun k x hk => ?_⟩, ?_, fun x hm => ?_⟩
  · rw [List.getElem?_ofFn] at hk
    split at hk
    · rename_i hlt
      obtain rfl := Option.some.inj hk
      obtain ⟨_, ⟨b, o, h1, h2, h3⟩, _⟩ := Classical.choose_spec (hx ⟨k, hlt⟩)
      exact ⟨b, o, h1, h2, h3⟩
    · cases hk
  · refine List.ext_getElem? fun k => ?_
    rw [List.getElem?_map, List.getElem?_ofFn]
    split
    · rename_i hlt
      rw [Option.map_some, (Classical.choose_spec (hx ⟨k, hlt⟩)).1]
      exact (List.getElem?_eq_getElem hlt).symm
    · rename_i hlt
      rw [List.getElem?_eq_none (by omega)]
      rfl
  · obtain ⟨k, hk⟩ := List.mem_ofFn.1 hm
    rw [← hk]
    exact (Classical.choose_spec (hx k)).2.2
set_option maxRecDepth 100000 in
set_option maxHeartbeats 8000000 in
theorem show1_zero (ba la fr ep pi ge se : Int) (tx : Bool) (rs : List Rc) (AR : Option Addr) (nR cR : Nat) (l y : List Gon) (n c bx bt bf : Nat) (A : Option Addr) (tt : Int) (W : World) (h1 : W.cell? ⟨bt, 0, none⟩ = some (.int .i64 tt)) (h2 : W.cell? ⟨bf, 0, none⟩ = some (.func (.func 85) #[] #[.pointer (some ⟨bx, 0, none⟩)])) (h3 : W.cell? ⟨bx, 0, none⟩ = some (.slice A n c)) (hr : RdGn W W.heap.size A n y) (hn : n ≤ 1000000) (hs : Srt y)
    (ht : ∀ p f, tellK y p f = l.any fun g => decide (p = g.pid ∧ g.fst ≤ f ∧ f < g.lst)) {z : Bool} (hz : isSh l tt ⟨ba, la, fr, ep, pi, ge, se, tx, 0, rs⟩ = z) :
    Calls Tryz.prog 59 #[.agg #[.int .i64 ba, .int .i64 la, .int .i64 fr, .int .i64 ep, .int .i64 pi, .int .i64 ge, .int .i64 se, .bool tx, .int .i64 0, .slice AR nR cR], .pointer (some ⟨bt, 0, none⟩), .pointer (some ⟨bf, 0, none⟩)] W fun e W2 => e = .returned (.bool z) ∧ Below W.heap.size W W2 := by
  have l1 : bt < W.heap.size := World.block_lt_of_cell? _ _ h1
  have l2 : bf < W.heap.size := World.block_lt_of_cell? _ _ h2
  by_cases hlt : la < tt
  · have hzz : z = !(tx && tellK y pi ba) := by
      rw [← hz, ht]
      have h9 := hid_any (b := ⟨ba, la, fr, ep, pi, ge, se, tx, 0, rs⟩) rfl l
      simp only at h9
      rw [h9]
      unfold isSh
      rw [show decide ((0 : Int) = 0 ∧ la < tt) = true from decide_eq_true ⟨rfl, hlt⟩, Bool.true_and]
    obtain ⟨t, ht9⟩ : ∃ t, (tx && tellK y pi ba) = t := ⟨_, rfl⟩
    rw [ht9] at hzz
    subst hzz
    have hb := belA W (.cells #[.int .i64 ba, .int .i64 la, .int .i64 fr, .int .i64 ep, .int .i64 pi, .int .i64 ge, .int .i64 se, .bool tx, .int .i64 0, .slice AR nR cR] 28)
    have HT := Lib.hid (tell_is bx n c A y pi ba la fr ep ge se 0 tx (.slice AR nR cR) (W.alloc (.cells #[.int .i64 ba, .int .i64 la, .int .i64 fr, .int .i64 ep, .int .i64 pi, .int .i64 ge, .int .i64 se, .bool tx, .int .i64 0, .slice AR nR cR] 28)) (rfUp hr hb) hn hs ((hb.cell (World.block_lt_of_cell? _ _ h3)).trans h3) ht9)
    have HB := Lib.hid hb
    clear hz ht ht9 hr hs hb h3
    go_enter Tryz.func59, Tryz.ntmps59
    go_wp2_with (go_at_call 85; (with_reducible refine HT.out.mono ?_); rintro e w2 ⟨rfl, hb2⟩; have HB2 := Lib.hid (bel_trans HB.out hb2); clear hb2)
    go_ret
    exact ⟨rfl, HB2.out⟩
  · have hzz : z = false := by
      rw [← hz]
      unfold isSh
      rw [show decide ((0 : Int) = 0 ∧ la < tt) = false from decide_eq_false (fun h => hlt h.2), Bool.false_and]
    subst hzz
    have e2 : decide (la < tt) = false := decide_eq_false hlt
    clear hz ht hr hs h3
    go_enter Tryz.func59, Tryz.ntmps59
    go_wp2
    go_ret
    exact ⟨rfl, belA _ _⟩
set_option maxRecDepth 100000 in
set_option maxHeartbeats 8000000 in
theorem show1_other (ba la fr ep pi ge se ct : Int) (tx : Bool) (rs : List Rc) (AR : Option Addr) (nR cR : Nat) (l y : List Gon) (n c bx bt bf : Nat) (A : Option Addr) (tt : Int) (W : World) (hct : ¬ ct = 0) (h1 : W.cell? ⟨bt, 0, none⟩ = some (.int .i64 tt)) (h2 : W.cell? ⟨bf, 0, none⟩ = some (.func (.func 85) #[] #[.pointer (some ⟨bx, 0, none⟩)])) (_h3 : W.cell? ⟨bx, 0, none⟩ = some (.slice A n c)) (_hr : RdGn W W.heap.size A n y) (_hn : n ≤ 1000000) (_hs : Srt y)
    (_ht : ∀ p f, tellK y p f = l.any fun g => decide (p = g.pid ∧ g.fst ≤ f ∧ f < g.lst)) {z : Bool} (hz : isSh l tt ⟨ba, la, fr, ep, pi, ge, se, tx, ct, rs⟩ = z) :
    Calls Tryz.prog 59 #[.agg #[.int .i64 ba, .int .i64 la, .int .i64 fr, .int .i64 ep, .int .i64 pi, .int .i64 ge, .int .i64 se, .bool tx, .int .i64 ct, .slice AR nR cR], .pointer (some ⟨bt, 0, none⟩), .pointer (some ⟨bf, 0, none⟩)] W fun e W2 => e = .returned (.bool z) ∧ Below W.heap.size W W2 := by
  have l1 : bt < W.heap.size := World.block_lt_of_cell? _ _ h1
  have l2 : bf < W.heap.size := World.block_lt_of_cell? _ _ h2
  have hzz : z = false := by
    rw [← hz]
    unfold isSh
    rw [show decide (ct = 0 ∧ la < tt) = false from decide_eq_false (fun h => hct h.1), Bool.false_and]
  subst hzz
  have e1 : (ct == 0) = false := beq_eq_false_iff_ne.2 hct
  clear hz _ht _hr _hs _h3
  go_enter Tryz.func59, Tryz.ntmps59
  go_wp2
  go_ret
  exact ⟨rfl, belA _ _⟩
end Go.Proofs.YtlfbagkonckffaaGreat.Txn

/- The landed txns: Show, whole. -/
namespace Go.Proofs.YtlfbagkonckffaaGreat.Txn
open Go.RowKit Go.Shelf Go.Sort Oct Rec RowF Lay InR RngQ Bat RowL
open Epo (At0 AtO belA cel2)
open Sqs (at0_grown at0_set9 grown_set9 grown_bel grown_then)

attribute [local go_sem] Oper.semAt_some

abbrev anyP : Nat → Prop := fun _ => True
theorem ownT_put {W w' : World} {e e2 : TypeId} {B g n c k n4 c4 : Nat} {A4 : Option Addr} {L : List Bt} {b : Bt} (h : OwnT W e anyP B (.slice (some ⟨g, 0, none⟩) n c) n L) (hg : g < W.heap.size) (hB : B ≤ g) (hk : L[k]? = some b) (hb : Below W.heap.size W w')
    (ho : OwnF recC 5 w' e2 W.heap.size (.slice A4 n4 c4) n4 b.recs) (hn4 : n4 ≤ 1099511627776) : OwnT (w'.setCell ⟨g, k * 10 + 9, none⟩ (.slice A4 n4 c4)) e anyP B (.slice (some ⟨g, 0, none⟩) n c) n L := by
  obtain ⟨hs, h1, h2, h3⟩ := h
  rw [← h2, List.getElem?_map] at hk
  obtain ⟨x, hx, rfl⟩ := Option.map_eq_some_iff.1 hk
  have h1' := h1.below hb
  have hset := OwnF.set batS h1' hB hx (i := 9) (y := ((x.1, A4, n4, c4) : BX)) (u := .slice A4 n4 c4) (by decide) rfl
  have hgr : w'.grownBy (w'.setCell ⟨g, k * 10 + 9, none⟩ (.slice A4 n4 c4)) (some g) := (World.ownsRow.stored h1' (k * 10 + 9) (.slice A4 n4 c4)).2
  refine ⟨hs.set k (x.1, A4, n4, c4), hset.1, ?_, fun q hq => ?_⟩
  · rw [← h2, List.map_set]
    refine List.ext_getElem? fun j => ?_
    rw [List.getElem?_set]
    by_cases hj : k = j
    · subst hj
      rw [if_pos rfl, List.length_map, if_pos (List.getElem?_eq_some_iff.1 hx).1, List.getElem?_map, hx]
      rfl
    · rw [if_neg hj]
  · rcases List.mem_or_eq_of_mem_set hq with hq | rfl
    · exact ((h3 q hq).below hb).grown hgr
    · obtain ⟨_, _, _, k4, _⟩ := h3 x (List.mem_of_getElem? hx)
      refine LeadT.grown (lead_of (x := ((x.1, A4, n4, c4) : BX)) (rdR_of (ho.rd recS)) (Nat.le_refl _) rfl ho.cap hn4 k4 fun a ha h0 => ⟨trivial, ?_⟩) hgr
      obtain ⟨g4, hA, g5, _⟩ := ho.form h0
      rw [ha] at hA
      injection hA with hA
      subst hA
      intro he
      injection he with he
      simp only at he
      omega
def shRel (A : Option Addr) (n c : Nat) (L : List Bt) (w : World) (iv : Value) (wr : World) : Prop := ∃ k : Nat, iv = .int .i64 (k : Int) ∧ k ≤ n ∧ OwnT wr 28 anyP w.heap.size (.slice A n c) n L ∧ Below w.heap.size w wr
theorem shown_own {w w' : World} {B n' c' : Nat} {A' : Option Addr} {e : TypeId} {hs : List BX} {p : BX → Bool} (hx : ∀ x ∈ hs, x.2.2.1 ≤ x.2.2.2 ∧ x.2.2.1 ≤ 1099511627776 ∧ RdR w w.heap.size x.2.1 x.2.2.1 x.1.recs ∧ Fits x.1) (hb : Below w.heap.size w w') (hB : w.heap.size ≤ B)
    (ho : OwnF batC 10 w' e B (.slice A' n' c') n' (hs.filter p)) : OwnT w' e anyP w.heap.size (.slice A' n' c') n' ((hs.filter p).map (·.1)) := by
  refine ⟨hs.filter p, ho.more hB, rfl, fun x hq => ?_⟩
  obtain ⟨g1, g2, g3, g4⟩ := hx x (List.mem_filter.1 hq).1
  refine lead_of (x := x) (g3.below hb (Nat.le_refl _)) hb.size rfl g1 g2 g4 fun a ha h0 => ⟨trivial, ?_⟩
  obtain ⟨b, o, hA, hlt, _⟩ := g3.2 0 (x.1.recs[0]'(by have := g3.1; omega)) (List.getElem?_eq_getElem (by have := g3.1; omega))
  rw [ha] at hA
  injection hA with hA
  subst hA
  intro he
  have := World.ownsRow.lt (ho.more hB) b he.symm
  omega
set_option maxRecDepth 100000 in
set_option maxHeartbeats 16000000 in
theorem show_is (A : Option Addr) (n c : Nat) (bs : List Bt) (A2 : Option Addr) (n2 c2 : Nat) (l : List Gon) (tt : Int) (w : World) (hr : Bat.RdT w w.heap.size A n bs) (hn : n ≤ 1000000) (hr2 : RdGn w w.heap.size A2 n2 l) (hn2 : n2 ≤ 1000000) {Z : List Bt} (hz : shwB bs l tt = Z) :
    Calls Tryz.prog 25 #[.slice A n c, .slice A2 n2 c2, .int .i64 tt] w fun e w' => ∃ A' n' c', e = .returned (.slice A' n' c') ∧ n' ≤ c' ∧ OwnT w' 28 anyP w.heap.size (.slice A' n' c') n' Z ∧ Below w.heap.size w w' := by
  obtain ⟨hs, hf1, hf2, hf3⟩ := rdF_of_rdT hr
  have hb0 := belA w (.cells #[.int .i64 tt] 3)
  have HC := Lib.hid (ofOne_is A2 n2 c2 l (w.alloc (.cells #[.int .i64 tt] 3)) (rfUp hr2 hb0) hn2)
  have HT0 := At0.new w [.int .i64 tt] 3
  have HB0 := Lib.hid hb0
  have HF1 := Lib.hid hf1
  have HF3 := Lib.hid hf3
  have HZ := Lib.hid (show (hs.filter fun x => isSh l tt x.1).map (·.1) = Z by rw [← hz, ← hf2]; unfold shwB; rw [List.filter_map]; rfl)
  have hsz0 : (w.alloc (.cells #[.int .i64 tt] 3)).heap.size = w.heap.size + 1 := by simp
  have HT := Lib.hid HT0
  clear hr hr2 hb0 hz hf1 hf2 hf3 HT0
  go_enter Tryz.func25, Tryz.ntmps25
  go_upto_region 2 with (go_at_call 57; (with_reducible refine HC.out.mono ?_); rintro e w1 ⟨bx, A1, c1, y, rfl, hb, hcb, hry, hsy, hty⟩)
  have hb1 := belA w1 (.cells #[.func (.func 85) #[] #[.pointer (some ⟨bx, 0, none⟩)]] 31)
  have h1 := (HT.out.below hb).below hb1
  have h2 := At0.new w1 [.func (.func 85) #[] #[.pointer (some ⟨bx, 0, none⟩)]] 31
  have h3 := (hb1.cell (World.block_lt_of_cell? _ _ hcb)).trans hcb
  have h4 := rfUp hry hb1
  have hbW := bel_trans HB0.out (bel_trans hb hb1)
  have hszW : w.heap.size < w1.heap.size := by have := hb.size; omega
  have hszV : (w1.alloc (.cells #[.func (.func 85) #[] #[.pointer (some ⟨bx, 0, none⟩)]] 31)).heap.size = w1.heap.size + 1 := by simp
  clear hb hcb hry hb1
  generalize w1.alloc (.cells #[.func (.func 85) #[] #[.pointer (some ⟨bx, 0, none⟩)]] 31) = W at *
  generalize w1.heap.size = bf at *
  have HTH := Lib.hid (thoseB_is 59 #[.pointer (some ⟨w.heap.size, 0, none⟩), .pointer (some ⟨bf, 0, none⟩)] (enters_of Tryz.func59 (by kernel_rfl) rfl) (fun x => isSh l tt x.1) A n c hs W (rfUp HF1.out hbW) hn
    (fun x _ X hX => by
      obtain ⟨⟨ba, la, fr, ep, pi, ge, se, tx, ct, rs⟩, AR, nR, cR⟩ := x
      have q1 := (hX.cell (p := ⟨w.heap.size, 0, none⟩) h1.lt).trans (h1.cell 0)
      have q2 := (hX.cell (p := ⟨bf, 0, none⟩) h2.lt).trans (h2.cell 0)
      have q3 := (hX.cell (World.block_lt_of_cell? _ _ h3)).trans h3
      by_cases hct : ct = 0
      · subst hct
        exact show1_zero ba la fr ep pi ge se tx rs AR nR cR l y n2 c1 bx _ _ A1 tt X q1 q2 q3 (rfUp h4 hX) hn2 hsy hty rfl
      · exact show1_other ba la fr ep pi ge se ct tx rs AR nR cR l y n2 c1 bx _ _ A1 tt X hct q1 q2 q3 (rfUp h4 hX) hn2 hsy hty rfl))
  have HW := Lib.hid hbW
  have c9 := h2.cell 0
  clear h1 h2 h3 h4 hbW hsy hty
  go_upto_region 4 with (go_at_call 58; (with_reducible refine HTH.out.mono ?_); rintro e w2 ⟨A5, n5, c5, rfl, ho, hb⟩)
  have hbw := bel_trans HW.out hb
  have ho2 := shown_own HF3.out hbw HW.out.size ho
  rw [HZ.out] at ho2
  have hzl := ho2.len
  have hn5 : n5 ≤ 1000000 := by
    rw [← hzl, ← HZ.out, List.length_map]
    have := List.length_filter_le (fun x : BX => isSh l tt x.1) hs
    have := HF1.out.len
    omega
  have HREL := Lib.hid (show shRel A5 n5 c5 Z w (.int .i64 0) w2 from ⟨0, rfl, Nat.zero_le _, ho2, hbw⟩)
  clear ho hb hbw ho2 c9
  go_loopw [17] (fun iv wr => shRel A5 n5 c5 Z w iv wr) (fun iv _ => n5 + 1 - (intOf iv).toNat)
  case atStart => exact HREL.out
  case round =>
    obtain ⟨k, rfl, hkn, ho, hb⟩ := hrel
    have HO := Lib.hid ho
    have HB := Lib.hid hb
    clear ho hb
    by_cases hlt : k < n5
    · have hk1 : (0 : Int) ≤ (k : Int) := by omega
      have hk2 : (k : Int) < (n5 : Int) := by omega
      have hk3 : (k : Int) < 1000001 := by omega
      obtain ⟨⟨ba, la, fr, ep, pi, ge, se, tx, ct, rs⟩, hb9⟩ : ∃ b, Z[k]? = some b := ⟨_, List.getElem?_eq_getElem (by omega)⟩
      obtain ⟨g, rfl, hg1, hg2⟩ : ∃ g, A5 = some ⟨g, 0, none⟩ ∧ w.heap.size ≤ g ∧ g < wr.heap.size := by
        obtain ⟨hs5, f1, _⟩ := HO.out
        exact f1.form (by omega)
      have hcell : ∃ A' n' c', wr.cell? ⟨g, k * 10 + 9, none⟩ = some (.slice A' n' c') ∧ RdR wr wr.heap.size A' n' rs ∧ n' ≤ 1099511627776 := by
        obtain ⟨b, o, x, A', n', c', e1, _, e3, _, e5, e6, _, e8⟩ := Bat.RdT.at HO.out.rd hlt
        injection e1 with e1
        injection e1 with e1 e1'
        subst e1; subst e1'
        rw [hb9] at e3
        injection e3 with e3
        subst e3
        have e9 := e8 9 _ rfl
        rw [Nat.zero_add] at e9
        exact ⟨A', n', c', e9, e6, e5⟩
      obtain ⟨A6, n6, c6, hc6, hr6, hn6⟩ := hcell
      have hfz : wr.frozen? ⟨g, k * 10 + 9, none⟩ = false := by
        obtain ⟨hs5, f1, _⟩ := HO.out
        exact f1.frozen _
      have HCL := Lib.hid (cloneR_any A6 n6 c6 rs wr hr6 hn6)
      have HB9 := Lib.hid hb9
      clear hr6 hb9
      go_wp2_with (go_at_call 60; (with_reducible refine HCL.out.mono ?_); rintro e w4 ⟨A7, c7, rfl, ho7, hb7⟩; have HPUT := Lib.hid (ownT_put HO.out hg2 hg1 HB9.out hb7 ho7 hn6); have HB7 := Lib.hid (HB.out.trans (hb7.mono HB.out.size)); have hf7 := (World.frozen?_of_block (a := ⟨g, k * 10 + 9, none⟩) (hb7.block g hg2)).trans hfz; have hc7 := (hb7.cell (p := ⟨g, k * 10 + 9, none⟩) hg2).trans hc6; clear ho7 hb7)
      go_roundw
      case rel => exact ⟨k + 1, by go_num, by omega, HPUT.out, HB7.out.setCell (p := ⟨g, k * 10 + 9, none⟩) hg1 _⟩
      case measure => simp [intOf]; omega
    · have hk2 : ¬ (k : Int) < (n5 : Int) := by omega
      go_wp2
      go_ret
      exact ⟨A5, n5, c5, rfl, HO.out.cap, HO.out, HB.out⟩
end Go.Proofs.YtlfbagkonckffaaGreat.Txn
