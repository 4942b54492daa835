/- Joined: TxnD5. -/
import Derived.Test.YtlfbagkonckffaaGreatJ14
import Derived.Test.YtlfbagkonckffaaGreatJ15
import Derived.Lib.LazyBuf
/- The landed txns: begins, ends, slices.Clone, copies, ended. -/
namespace Go.Proofs.YtlfbagkonckffaaGreat.Txn
open Go.RowKit Go.Shelf Oct Rec RowF Lay InR RngQ Bat RowL
open Epo (At0 AtO belA)
open Sqs (at0_grown at0_set9 grown_set9 grown_bel grown_then)

attribute [local go_sem] Oper.semAt_some

theorem ends_is (ba la fr ep pi ge se : Int) (tx : Bool) (ct : Int) (AR : Option Addr) (nR cR : Nat) (w : World) {z : Bool} (hz : (!decide (ct = 0)) = z) :
    Calls Tryz.prog 41 #[.agg #[.int .i64 ba, .int .i64 la, .int .i64 fr, .int .i64 ep, .int .i64 pi, .int .i64 ge, .int .i64 se, .bool tx, .int .i64 ct, .slice AR nR cR]] w fun e w' => e = .returned (.bool z) ∧ Below w.heap.size w w' := by
  subst hz
  go_enter Tryz.func41, Tryz.ntmps41
  go_wp2
  go_ret
  exact ⟨by by_cases h : ct = 0 <;> simp [h], belA _ _⟩
theorem begins_is (ba la fr ep pi ge se : Int) (tx : Bool) (ct : Int) (AR : Option Addr) (nR cR : Nat) (w : World) {z : Bool} (hz : decide (ct = 0 ∧ tx = true) = z) :
    Calls Tryz.prog 44 #[.agg #[.int .i64 ba, .int .i64 la, .int .i64 fr, .int .i64 ep, .int .i64 pi, .int .i64 ge, .int .i64 se, .bool tx, .int .i64 ct, .slice AR nR cR]] w fun e w' => e = .returned (.bool z) ∧ Below w.heap.size w w' := by
  subst hz
  by_cases h : ct = 0
  · subst h
    cases tx <;>
    · go_enter Tryz.func44, Tryz.ntmps44
      go_wp2
      go_ret
      exact ⟨by simp, belA _ _⟩
  · have h1 : (ct == 0) = false := beq_eq_false_iff_ne.2 h
    rw [decide_eq_false (fun h9 => h h9.1)]
    clear h
    go_enter Tryz.func44, Tryz.ntmps44
    go_wp2
    go_ret
    exact ⟨rfl, belA _ _⟩
theorem ownE_empty9 {α : Type} (f : α → List Value) (size : Nat) (w : World) (e : TypeId) : OwnF f size (w.alloc (.cells #[] e)) e w.heap.size (.slice (some ⟨w.heap.size, 0, none⟩) 0 0) 0 ([] : List α) := by
  have h1 := World.ownsRow_made (base := w.heap.size) (e := e) (size := size) w #[] 0 (Nat.le_refl _) (by unfold maxLen; omega) (by simp)
  exact h1
set_option maxRecDepth 100000 in
set_option maxHeartbeats 8000000 in
theorem cloneO_is (A : Option Addr) (n c : Nat) (l : List Opn) (w : World) (hr : RdOp w w.heap.size A n l) (hn : n ≤ 1000000) :
    Calls Tryz.prog 64 #[.slice A n c] w fun e w' => ∃ A' c', e = .returned (.slice A' n c') ∧ OwnOp w' w.heap.size (.slice A' n c') n l ∧ Below w.heap.size w w' := by
  have hq := Go.run_eql_slice_nil (P := Tryz.prog) w 22 51 A n c Tryz.underlying22
  have HR := Lib.hid hr
  cases A with
  | none =>
    obtain ⟨hn0, hl0⟩ := HR.out.isNil
    subst hn0
    subst hl0
    clear hr
    go_enter Tryz.func64, Tryz.ntmps64
    go_wp2
    go_ret
    exact ⟨none, 0, rfl, OwnF.nil, Below.refl _ _⟩
  | some a =>
    clear hr
    go_enter Tryz.func64, Tryz.ntmps64
    go_wp2_with (at_builtin; refine wpList_appF _ opS rfl _ _ 22 rfl 16 w.heap.size 51 Tryz.underlying22 opInfo _ 0 [] rfl (ownE_empty9 opC 2 w 51) w.heap.size (some a) n c l rfl (HR.out.alloc (Nat.le_refl _) _) (by omega) (by omega) (by simp) ?_; intro A1 c1 w1 hown1 hb1; simp only [Nat.zero_add, List.nil_append] at hown1 ⊢; have HO := Lib.hid hown1; have HB := Lib.hid hb1; clear hown1 hb1)
    go_ret
    exact ⟨A1, c1, rfl, HO.out, ((Below.refl w.heap.size w).alloc (Nat.le_refl _) (.cells #[] 51)).trans HB.out⟩
set_option maxRecDepth 100000 in
set_option maxHeartbeats 8000000 in
theorem cloneG_is (A : Option Addr) (n c : Nat) (l : List Gon) (w : World) (hr : RdGn w w.heap.size A n l) (hn : n ≤ 1000000) :
    Calls Tryz.prog 71 #[.slice A n c] w fun e w' => ∃ A' c', e = .returned (.slice A' n c') ∧ OwnGn w' w.heap.size (.slice A' n c') n l ∧ Below w.heap.size w w' := by
  have hq := Go.run_eql_slice_nil (P := Tryz.prog) w 23 54 A n c Tryz.underlying23
  have HR := Lib.hid hr
  cases A with
  | none =>
    obtain ⟨hn0, hl0⟩ := HR.out.isNil
    subst hn0
    subst hl0
    clear hr
    go_enter Tryz.func71, Tryz.ntmps71
    go_wp2
    go_ret
    exact ⟨none, 0, rfl, OwnF.nil, Below.refl _ _⟩
  | some a =>
    clear hr
    go_enter Tryz.func71, Tryz.ntmps71
    go_wp2_with (at_builtin; refine wpList_appF _ goS rfl _ _ 23 rfl 32 w.heap.size 54 Tryz.underlying23 goInfo _ 0 [] rfl (ownE_empty9 goC 4 w 54) w.heap.size (some a) n c l rfl (HR.out.alloc (Nat.le_refl _) _) (by omega) (by omega) (by simp) ?_; intro A1 c1 w1 hown1 hb1; simp only [Nat.zero_add, List.nil_append] at hown1 ⊢; have HO := Lib.hid hown1; have HB := Lib.hid hb1; clear hown1 hb1)
    go_ret
    exact ⟨A1, c1, rfl, HO.out, ((Below.refl w.heap.size w).alloc (Nat.le_refl _) (.cells #[] 54)).trans HB.out⟩
theorem apart_types {α β : Type} {f : α → List Value} {f' : β → List Value} {k k' : Nat} {w : World} {e e' : TypeId} {B B' n m : Nat} {v u : Value} {l : List α} {l' : List β} (he : e ≠ e') (h : OwnF f k w e B v n l) (h' : OwnF f' k' w e' B' u m l') : Apart v u := fun g h1 h2 => by
  rcases h.2 with ⟨e1, _⟩ | ⟨g1, _, cur, e1, _, a1, _⟩
  · rw [e1] at h1; simp [Value.ownBlock] at h1
  rcases h'.2 with ⟨e2, _⟩ | ⟨g2, _, cur2, e2, _, a2, _⟩
  · rw [e2] at h2; simp [Value.ownBlock] at h2
  rw [e1] at h1; rw [e2] at h2
  simp only [Value.ownBlock, Option.some.injEq] at h1 h2
  subst h1; subst h2
  rw [a1] at a2
  injection a2 with a2
  injection a2 with _ a2 _
  exact he a2
structure OwnTx (w : World) (B : Nat) (A : Option Addr) (n c : Nat) (A2 : Option Addr) (n2 c2 : Nat) (A3 : Option Addr) (n3 c3 : Nat) (t : Tx) : Prop where
  op : OwnOp w B (.slice A n c) n t.op
  gone : OwnGn w B (.slice A2 n2 c2) n2 t.gone
  done : OwnGn w B (.slice A3 n3 c3) n3 t.done
  apart : Apart (.slice A2 n2 c2) (.slice A3 n3 c3)
section
variable {w w' : World} {B B' : Nat} {A : Option Addr} {n c : Nat} {A2 : Option Addr} {n2 c2 : Nat} {A3 : Option Addr} {n3 c3 : Nat} {t : Tx}
theorem OwnTx.below (h : OwnTx w B A n c A2 n2 c2 A3 n3 c3 t) (hb : Below w.heap.size w w') : OwnTx w' B A n c A2 n2 c2 A3 n3 c3 t := ⟨h.op.below hb, h.gone.below hb, h.done.below hb, h.apart⟩
theorem OwnTx.more (h : OwnTx w B A n c A2 n2 c2 A3 n3 c3 t) (hb : B' ≤ B) : OwnTx w B' A n c A2 n2 c2 A3 n3 c3 t := ⟨h.op.more hb, h.gone.more hb, h.done.more hb, h.apart⟩
theorem OwnTx.rd (h : OwnTx w B A n c A2 n2 c2 A3 n3 c3 t) : RdT w A n A2 n2 A3 n3 t := ⟨OwnF.rd opS h.op, OwnF.rd goS h.gone, OwnF.rd goS h.done⟩
theorem OwnTx.len (h : OwnTx w B A n c A2 n2 c2 A3 n3 c3 t) : t.op.length = n ∧ t.gone.length = n2 ∧ t.done.length = n3 := ⟨h.op.len opS, h.gone.len goS, h.done.len goS⟩
def OwnTx.off (g : Nat) (A A2 A3 : Option Addr) (n c n2 c2 n3 c3 : Nat) : Prop := (Value.slice A n c).ownBlock ≠ some g ∧ (Value.slice A2 n2 c2).ownBlock ≠ some g ∧ (Value.slice A3 n3 c3).ownBlock ≠ some g
theorem own_set {α : Type} {f : α → List Value} {k m g : Nat} {e : TypeId} {v : Value} {l : List α} (h : OwnF f k w e B v m l) (hg : v.ownBlock ≠ some g) (j : Nat) (u : Value) : OwnF f k (w.setCell ⟨g, j, none⟩ u) e B v m l := World.ownsRow.kept h (grown_set9 (a := ⟨g, j, none⟩) u) (.inr hg)
theorem OwnTx.set {g : Nat} (h : OwnTx w B A n c A2 n2 c2 A3 n3 c3 t) (hg : OwnTx.off g A A2 A3 n c n2 c2 n3 c3) (j : Nat) (u : Value) : OwnTx (w.setCell ⟨g, j, none⟩ u) B A n c A2 n2 c2 A3 n3 c3 t := ⟨own_set h.op hg.1 j u, own_set h.gone hg.2.1 j u, own_set h.done hg.2.2 j u, h.apart⟩
theorem OwnTx.offBelow {g : Nat} (h : OwnTx w B A n c A2 n2 c2 A3 n3 c3 t) (hg : g < B) : OwnTx.off g A A2 A3 n c n2 c2 n3 c3 := by
  have hx : ∀ {α : Type} {f : α → List Value} {k m : Nat} {e : TypeId} {v : Value} {l : List α}, OwnF f k w e B v m l → v.ownBlock ≠ some g := fun h e => by have := (World.ownsRow.lt h g e).1; omega
  exact ⟨hx h.op, hx h.gone, hx h.done⟩
end
theorem nilTx (w : World) (B : Nat) : OwnTx w B none 0 0 none 0 0 none 0 0 nilT := ⟨OwnF.nil, OwnF.nil, OwnF.nil, Apart.nil _ _⟩
theorem ended_row {w w1 w2 : World} {B n n' c : Nat} {A : Option Addr} {A' : Option Addr} {c' : Nat} {l : List Gon} (_ho : OwnGn w B (.slice A n c) n l) (hg : w1.grownBy w2 (Value.slice A n c).ownBlock) (h1 : Below w.heap.size w w1) (hv : (Value.slice A' n' c').ownBlock = (Value.slice A n c).ownBlock ∨ (Value.slice A' n' c').ownBlock = some w1.heap.size) {α : Type} {f : α → List Value} {k m : Nat} {e : TypeId} {u : Value} {x : List α} (hu : OwnF f k w e B u m x) (ha : Apart (.slice A n c) u) : OwnF f k w2 e B u m x ∧ Apart (.slice A' n' c') u :=
  ⟨own_far (hu.below h1) ha hg, apart_after (hu.below h1) ha hv⟩
theorem own_off {α : Type} {f : α → List Value} {k m g B : Nat} {e : TypeId} {w : World} {v : Value} {l : List α} (h : OwnF f k w e B v m l) (hg : w.heap.size ≤ g) : v.ownBlock ≠ some g := fun e => by have := (World.ownsRow.lt h g e).2; omega
theorem off_new {α : Type} {f : α → List Value} {k m g B N : Nat} {e : TypeId} {w : World} {v v' : Value} {l : List α} (h : OwnF f k w e B v m l) (hv : v'.ownBlock = v.ownBlock ∨ v'.ownBlock = some N) (hg : w.heap.size ≤ g) (hn : g < N) : v'.ownBlock ≠ some g := fun e => by
  rcases hv with hv | hv
  · exact own_off h hg (hv ▸ e)
  · rw [hv] at e; injection e with e; omega
theorem grown_put9 {w w2 : World} {r : Option Nat} (h : w.grownBy w2 r) {p : Addr} (hp : w.heap.size ≤ p.block) (u : Value) : w.grownBy (w2.setCell p u) r := grown_then h (grown_set9 u) (.inr ⟨_, rfl, hp⟩)
set_option maxRecDepth 100000 in
set_option maxHeartbeats 8000000 in
theorem ended_gr (A : Option Addr) (n c : Nat) (A2 : Option Addr) (n2 c2 : Nat) (A3 : Option Addr) (n3 c3 : Nat) (t : Tx) (ba la fr ep pi ge se : Int) (tx : Bool) (ct : Int) (AR : Option Addr) (nR cR : Nat) (rs : List Rc) (f : Int) (B : Nat) (w : World) (ho : OwnTx w B A n c A2 n2 c2 A3 n3 c3 t) (hB : B ≤ w.heap.size) (hn2 : n2 ≤ 1000000) (hn3 : n3 ≤ 1000000) :
    Calls Tryz.prog 42 #[.agg #[.slice A n c, .slice A2 n2 c2, .slice A3 n3 c3], .agg #[.int .i64 ba, .int .i64 la, .int .i64 fr, .int .i64 ep, .int .i64 pi, .int .i64 ge, .int .i64 se, .bool tx, .int .i64 ct, .slice AR nR cR], .int .i64 f] w fun e w' => ∃ A2' n2' c2' A3' n3' c3', e = .returned (.agg #[.slice A n c, .slice A2' n2' c2', .slice A3' n3' c3']) ∧ OwnTx w' B A n c A2' n2' c2' A3' n3' c3' (endT t ⟨ba, la, fr, ep, pi, ge, se, tx, ct, rs⟩ f) ∧ ∃ row, w.grownBy w' row ∧ ∀ k, row = some k → (Value.slice A2 n2 c2).ownBlock = some k ∨ (Value.slice A3 n3 c3).ownBlock = some k := by
  have HTX := Lib.hid ho
  have HBB := Lib.hid hB
  clear ho hB
  by_cases hc : ct = 1
  · subst hc
    go_enter Tryz.func42, Tryz.ntmps42
    go_upto_region 3 with fail
    generalize hW : (World.alloc (World.alloc (World.alloc (World.alloc w _) _) _) _) = W
    have hW9 : Below w.heap.size w W ∧ At0 W w.heap.size [.slice A n c, .slice A2 n2 c2, .slice A3 n3 c3] 25 ∧ At0 W (w.heap.size + 1 + 1) [.slice none 0 0, .slice none 0 0, .slice none 0 0] 25 ∧ At0 W (w.heap.size + 1 + 1 + 1) [.int .i64 pi, .int .i64 se, .int .i64 f, .int .i64 ba] 54 ∧ w.heap.size + 4 = W.heap.size := by
      rw [← hW]
      have h2 := At0.new ((w.alloc (.cells #[.slice A n c, .slice A2 n2 c2, .slice A3 n3 c3] 25)).alloc (.cells #[.int .i64 ba, .int .i64 la, .int .i64 fr, .int .i64 ep, .int .i64 pi, .int .i64 ge, .int .i64 se, .bool tx, .int .i64 1, .slice AR nR cR] 28)) [.slice none 0 0, .slice none 0 0, .slice none 0 0] 25
      have h3 := At0.new (((w.alloc (.cells #[.slice A n c, .slice A2 n2 c2, .slice A3 n3 c3] 25)).alloc (.cells #[.int .i64 ba, .int .i64 la, .int .i64 fr, .int .i64 ep, .int .i64 pi, .int .i64 ge, .int .i64 se, .bool tx, .int .i64 1, .slice AR nR cR] 28)).alloc (.cells #[.slice none 0 0, .slice none 0 0, .slice none 0 0] 25)) [.int .i64 pi, .int .i64 se, .int .i64 f, .int .i64 ba] 54
      simp only [World.size_alloc] at h2 h3
      exact ⟨bel_alloc (bel_alloc (bel_alloc (bel_alloc (Below.refl _ _) _) _) _) _, (((At0.new w [.slice A n c, .slice A2 n2 c2, .slice A3 n3 c3] 25).below (belA _ _)).below (belA _ _)).below (belA _ _), h2.below (belA _ _), h3, by simp⟩
    obtain ⟨hbW, hT, hZ, hG, hs⟩ := hW9
    have HW := Lib.hid hbW
    have HT := Lib.hid hT
    have HZ := Lib.hid hZ
    have HS := Lib.hid hs
    have HB1 := Lib.hid (Below.trans hbW ((belA W (.cells #[.int .i64 pi, .int .i64 se, .int .i64 f, .int .i64 ba] 54)).mono hbW.size))
    obtain ⟨q0, q1, q2⟩ := cel3 hT
    have g0 : W.cell? ⟨w.heap.size + 1 + 1 + 1, 0, none⟩ = some (.int .i64 pi) := hG.cell 0
    have g1 : W.cell? ⟨w.heap.size + 1 + 1 + 1, 1, none⟩ = some (.int .i64 se) := hG.cell 1
    have g2 : W.cell? ⟨w.heap.size + 1 + 1 + 1, 2, none⟩ = some (.int .i64 f) := hG.cell 2
    have g3 : W.cell? ⟨w.heap.size + 1 + 1 + 1, 3, none⟩ = some (.int .i64 ba) := hG.cell 3
    clear hW hbW hT hZ hG hs
    go_wp2_with (at_builtin; refine wpList_appFG (W.alloc (.cells #[.int .i64 pi, .int .i64 se, .int .i64 f, .int .i64 ba] 54)) goS rfl _ _ 23 rfl 32 B 54 Tryz.underlying23 goInfo (.slice A3 n3 c3) n3 t.done rfl (OwnF.below HTX.out.done HB1.out) (W.heap.size + 1) (some ⟨W.heap.size, 0, none⟩) 1 1 [⟨pi, se, f, ba⟩] rfl (rdF_new _ goS 54 (⟨pi, se, f, ba⟩ : Gon)) (by omega) (by omega) (Nat.le_trans HBB.out HB1.out.size) ?_; intro A5 c5 w5 ho hg hv; have HO5 := Lib.hid ho; have HG5 := Lib.hid hg; have HV5 := Lib.hid hv; have hneT : some w.heap.size ≠ (Value.slice A3 n3 c3).ownBlock := (fun e => Nat.lt_irrefl _ (World.ownsRow.lt HTX.out.done _ e.symm).2); have HT5 := Lib.hid (at0_grown (HT.out.below (belA W (.cells #[.int .i64 pi, .int .i64 se, .int .i64 f, .int .i64 ba] 54))) hg hneT); have HZ5 := Lib.hid (at0_grown (HZ.out.below (belA W (.cells #[.int .i64 pi, .int .i64 se, .int .i64 f, .int .i64 ba] 54))) hg (fun e => by have := (World.ownsRow.lt HTX.out.done _ e.symm).2; omega)); obtain ⟨r0, r1, r2⟩ := cel3 HT5.out; obtain ⟨u0, u1, u2⟩ := frz3 HT5.out; obtain ⟨z0, z1, z2⟩ := cel3 HZ5.out; obtain ⟨v0, v1, v2⟩ := frz3 HZ5.out; clear q0 q1 q2 g0 g1 g2 g3 ho hg hv hneT)
    have HTX5 : OwnTx w5 B A n c A2 n2 c2 A5 (n3 + 1) c5 (endT t ⟨ba, la, fr, ep, pi, ge, se, tx, 1, rs⟩ f) := by
      unfold endT endG
      rw [if_pos rfl]
      exact ⟨(ended_row HTX.out.done HG5.out HB1.out HV5.out HTX.out.op (apart_types (by decide) HTX.out.op HTX.out.done).symm).1, (ended_row HTX.out.done HG5.out HB1.out HV5.out HTX.out.gone HTX.out.apart.symm).1, HO5.out, (ended_row HTX.out.done HG5.out HB1.out HV5.out HTX.out.gone HTX.out.apart.symm).2.symm⟩
    have hs5 : w.heap.size + 5 ≤ w5.heap.size := by have h1 := HG5.out.size; have h2 := HS.out; rw [World.size_alloc] at h1; omega
    have hF := at0_set9 (at0_set9 (at0_set9 (at_set HZ5.out (b := w.heap.size) (by omega) 2 (.slice A5 (n3 + 1) c5)) 0 (.slice A n c)) 1 (.slice A2 n2 c2)) 2 (.slice A5 (n3 + 1) c5)
    obtain ⟨k0, k1, k2⟩ := cel3 (show At0 _ _ [.slice A n c, .slice A2 n2 c2, .slice A5 (n3 + 1) c5] _ from hF)
    refine bodyPost_ret (v := .agg #[.slice A n c, .slice A2 n2 c2, .slice A5 (n3 + 1) c5]) (by simp [results, Tryz.results42, go_sem, k0, k1, k2]) rfl ?_
    have hoff : ∀ g, w.heap.size ≤ g → g < w.heap.size + 4 → OwnTx.off g A A2 A5 n c n2 c2 (n3 + 1) c5 := fun g h1 h2 => ⟨own_off HTX.out.op h1, own_off HTX.out.gone h1, off_new HTX.out.done HV5.out h1 (by have h3 := HS.out; rw [World.size_alloc]; omega)⟩
    exact ⟨A2, n2, c2, A5, n3 + 1, c5, rfl, (((HTX5.set (hoff _ (Nat.le_refl _) (by omega)) _ _).set (hoff _ (by omega) (by omega)) _ _).set (hoff _ (by omega) (by omega)) _ _).set (hoff _ (by omega) (by omega)) _ _, (let hg5 := grown_then (grown_bel (r := (Value.slice A3 n3 c3).ownBlock) HB1.out) HG5.out (.inl rfl); ⟨_, grown_put9 (grown_put9 (grown_put9 (grown_put9 hg5 (by simp only; omega) _) (by simp only; omega) _) (by simp only; omega) _) (by simp only; omega) _, fun k hk => .inr hk⟩)⟩

  · have HC := Lib.hid hc
    have hc1 : (ct == 1) = false := beq_eq_false_iff_ne.2 hc
    clear hc
    go_enter Tryz.func42, Tryz.ntmps42
    go_upto_region 4 with fail
    generalize hW : (World.alloc (World.alloc (World.alloc (World.alloc w _) _) _) _) = W
    have hW9 : Below w.heap.size w W ∧ At0 W w.heap.size [.slice A n c, .slice A2 n2 c2, .slice A3 n3 c3] 25 ∧ At0 W (w.heap.size + 1 + 1) [.slice none 0 0, .slice none 0 0, .slice none 0 0] 25 ∧ At0 W (w.heap.size + 1 + 1 + 1) [.int .i64 pi, .int .i64 se, .int .i64 f, .int .i64 ba] 54 ∧ w.heap.size + 4 = W.heap.size := by
      rw [← hW]
      have h2 := At0.new ((w.alloc (.cells #[.slice A n c, .slice A2 n2 c2, .slice A3 n3 c3] 25)).alloc (.cells #[.int .i64 ba, .int .i64 la, .int .i64 fr, .int .i64 ep, .int .i64 pi, .int .i64 ge, .int .i64 se, .bool tx, .int .i64 ct, .slice AR nR cR] 28)) [.slice none 0 0, .slice none 0 0, .slice none 0 0] 25
      have h3 := At0.new (((w.alloc (.cells #[.slice A n c, .slice A2 n2 c2, .slice A3 n3 c3] 25)).alloc (.cells #[.int .i64 ba, .int .i64 la, .int .i64 fr, .int .i64 ep, .int .i64 pi, .int .i64 ge, .int .i64 se, .bool tx, .int .i64 ct, .slice AR nR cR] 28)).alloc (.cells #[.slice none 0 0, .slice none 0 0, .slice none 0 0] 25)) [.int .i64 pi, .int .i64 se, .int .i64 f, .int .i64 ba] 54
      simp only [World.size_alloc] at h2 h3
      exact ⟨bel_alloc (bel_alloc (bel_alloc (bel_alloc (Below.refl _ _) _) _) _) _, (((At0.new w [.slice A n c, .slice A2 n2 c2, .slice A3 n3 c3] 25).below (belA _ _)).below (belA _ _)).below (belA _ _), h2.below (belA _ _), h3, by simp⟩
    obtain ⟨hbW, hT, hZ, hG, hs⟩ := hW9
    have HW := Lib.hid hbW
    have HT := Lib.hid hT
    have HZ := Lib.hid hZ
    have HS := Lib.hid hs
    have HB1 := Lib.hid (Below.trans hbW ((belA W (.cells #[.int .i64 pi, .int .i64 se, .int .i64 f, .int .i64 ba] 54)).mono hbW.size))
    obtain ⟨q0, q1, q2⟩ := cel3 hT
    have g0 : W.cell? ⟨w.heap.size + 1 + 1 + 1, 0, none⟩ = some (.int .i64 pi) := hG.cell 0
    have g1 : W.cell? ⟨w.heap.size + 1 + 1 + 1, 1, none⟩ = some (.int .i64 se) := hG.cell 1
    have g2 : W.cell? ⟨w.heap.size + 1 + 1 + 1, 2, none⟩ = some (.int .i64 f) := hG.cell 2
    have g3 : W.cell? ⟨w.heap.size + 1 + 1 + 1, 3, none⟩ = some (.int .i64 ba) := hG.cell 3
    clear hW hbW hT hZ hG hs
    go_wp2_with (at_builtin; refine wpList_appFG (W.alloc (.cells #[.int .i64 pi, .int .i64 se, .int .i64 f, .int .i64 ba] 54)) goS rfl _ _ 23 rfl 32 B 54 Tryz.underlying23 goInfo (.slice A2 n2 c2) n2 t.gone rfl (OwnF.below HTX.out.gone HB1.out) (W.heap.size + 1) (some ⟨W.heap.size, 0, none⟩) 1 1 [⟨pi, se, f, ba⟩] rfl (rdF_new _ goS 54 (⟨pi, se, f, ba⟩ : Gon)) (by omega) (by omega) (Nat.le_trans HBB.out HB1.out.size) ?_; intro A5 c5 w5 ho hg hv; have HO5 := Lib.hid ho; have HG5 := Lib.hid hg; have HV5 := Lib.hid hv; have hneT : some w.heap.size ≠ (Value.slice A2 n2 c2).ownBlock := (fun e => Nat.lt_irrefl _ (World.ownsRow.lt HTX.out.gone _ e.symm).2); have HT5 := Lib.hid (at0_grown (HT.out.below (belA W (.cells #[.int .i64 pi, .int .i64 se, .int .i64 f, .int .i64 ba] 54))) hg hneT); have HZ5 := Lib.hid (at0_grown (HZ.out.below (belA W (.cells #[.int .i64 pi, .int .i64 se, .int .i64 f, .int .i64 ba] 54))) hg (fun e => by have := (World.ownsRow.lt HTX.out.gone _ e.symm).2; omega)); obtain ⟨r0, r1, r2⟩ := cel3 HT5.out; obtain ⟨u0, u1, u2⟩ := frz3 HT5.out; obtain ⟨z0, z1, z2⟩ := cel3 HZ5.out; obtain ⟨v0, v1, v2⟩ := frz3 HZ5.out; clear q0 q1 q2 g0 g1 g2 g3 ho hg hv hneT)
    have HTX5 : OwnTx w5 B A n c A5 (n2 + 1) c5 A3 n3 c3 (endT t ⟨ba, la, fr, ep, pi, ge, se, tx, ct, rs⟩ f) := by
      unfold endT endG
      rw [if_neg HC.out]
      exact ⟨(ended_row HTX.out.gone HG5.out HB1.out HV5.out HTX.out.op (apart_types (by decide) HTX.out.op HTX.out.gone).symm).1, HO5.out, (ended_row HTX.out.gone HG5.out HB1.out HV5.out HTX.out.done HTX.out.apart).1, (ended_row HTX.out.gone HG5.out HB1.out HV5.out HTX.out.done HTX.out.apart).2⟩
    have hs5 : w.heap.size + 5 ≤ w5.heap.size := by have h1 := HG5.out.size; have h2 := HS.out; rw [World.size_alloc] at h1; omega
    have hF := at0_set9 (at0_set9 (at0_set9 (at_set HZ5.out (b := w.heap.size) (by omega) 1 (.slice A5 (n2 + 1) c5)) 0 (.slice A n c)) 1 (.slice A5 (n2 + 1) c5)) 2 (.slice A3 n3 c3)
    obtain ⟨k0, k1, k2⟩ := cel3 (show At0 _ _ [.slice A n c, .slice A5 (n2 + 1) c5, .slice A3 n3 c3] _ from hF)
    refine bodyPost_ret (v := .agg #[.slice A n c, .slice A5 (n2 + 1) c5, .slice A3 n3 c3]) (by simp [results, Tryz.results42, go_sem, k0, k1, k2]) rfl ?_
    have hoff : ∀ g, w.heap.size ≤ g → g < w.heap.size + 4 → OwnTx.off g A A5 A3 n c (n2 + 1) c5 n3 c3 := fun g h1 h2 => ⟨own_off HTX.out.op h1, off_new HTX.out.gone HV5.out h1 (by have h3 := HS.out; rw [World.size_alloc]; omega), own_off HTX.out.done h1⟩
    exact ⟨A5, n2 + 1, c5, A3, n3, c3, rfl, (((HTX5.set (hoff _ (Nat.le_refl _) (by omega)) _ _).set (hoff _ (by omega) (by omega)) _ _).set (hoff _ (by omega) (by omega)) _ _).set (hoff _ (by omega) (by omega)) _ _, (let hg5 := grown_then (grown_bel (r := (Value.slice A2 n2 c2).ownBlock) HB1.out) HG5.out (.inl rfl); ⟨_, grown_put9 (grown_put9 (grown_put9 (grown_put9 hg5 (by simp only; omega) _) (by simp only; omega) _) (by simp only; omega) _) (by simp only; omega) _, fun k hk => .inl hk⟩)⟩
theorem ended_is (A : Option Addr) (n c : Nat) (A2 : Option Addr) (n2 c2 : Nat) (A3 : Option Addr) (n3 c3 : Nat) (t : Tx) (ba la fr ep pi ge se : Int) (tx : Bool) (ct : Int) (AR : Option Addr) (nR cR : Nat) (rs : List Rc) (f : Int) (B : Nat) (w : World) (ho : OwnTx w B A n c A2 n2 c2 A3 n3 c3 t) (hB : B ≤ w.heap.size) (hn2 : n2 ≤ 1000000) (hn3 : n3 ≤ 1000000) :
    Calls Tryz.prog 42 #[.agg #[.slice A n c, .slice A2 n2 c2, .slice A3 n3 c3], .agg #[.int .i64 ba, .int .i64 la, .int .i64 fr, .int .i64 ep, .int .i64 pi, .int .i64 ge, .int .i64 se, .bool tx, .int .i64 ct, .slice AR nR cR], .int .i64 f] w fun e w' => ∃ A2' n2' c2' A3' n3' c3', e = .returned (.agg #[.slice A n c, .slice A2' n2' c2', .slice A3' n3' c3']) ∧ OwnTx w' B A n c A2' n2' c2' A3' n3' c3' (endT t ⟨ba, la, fr, ep, pi, ge, se, tx, ct, rs⟩ f) ∧ Below B w w' := by
  refine (ended_gr A n c A2 n2 c2 A3 n3 c3 t ba la fr ep pi ge se tx ct AR nR cR rs f B w ho hB hn2 hn3).mono ?_
  rintro e w' ⟨A4, n4, c4, A5, n5, c5, he, h1, row, hg, hr⟩
  refine ⟨A4, n4, c4, A5, n5, c5, he, h1, hg.os, hg.tape, hg.output, hg.size, fun i hi => hg.block i (by omega) (fun e => ?_)⟩
  rcases hr i e.symm with h | h
  · have := (World.ownsRow.lt ho.gone i h).1; omega
  · have := (World.ownsRow.lt ho.done i h).1; omega
end Go.Proofs.YtlfbagkonckffaaGreat.Txn
