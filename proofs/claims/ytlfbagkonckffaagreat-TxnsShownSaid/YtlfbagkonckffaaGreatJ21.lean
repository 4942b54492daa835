/- Joined: BatDevW, BatMem, BatDevHe, BatRefA. -/
import Derived.Test.YtlfbagkonckffaaGreatJ14
import Derived.Test.YtlfbagkonckffaaGreatJ15
import Derived.Test.YtlfbagkonckffaaGreatJ20
import Derived.Test.YtlfbagkonckffaaGreatJ08
/- The contract of the landed hasForm's own function: is a number from one to another? -/
namespace Go.Proofs.YtlfbagkonckffaaGreat.Bat
open Go.RowKit Oct Rec Crc
def inL (v lo hi : Int) : Bool := decide (lo ≤ v ∧ v ≤ hi)
theorem within_any (a : Addr) (v lo hi : Int) (w : World) (hv : w.cell? a = some (.int .i64 v)) {b : Bool} (hb : inL v lo hi = b) :
    Calls Tryz.prog 108 #[.pointer (some a), .int .i64 lo, .int .i64 hi] w fun e w' => e = .returned (.bool b) ∧ w = w' := by
  subst hb
  go_enter Tryz.func108, Tryz.ntmps108
  go_wp2
  all_goals go_ret
  all_goals refine ⟨?_, rfl⟩
  · rename_i h; exact ret_bool (by simp [inL]; omega)
  · rename_i h; exact ret_bool (by simp [inL]; omega)
end Go.Proofs.YtlfbagkonckffaaGreat.Bat

/- Boxes of batches in memory, stores into them; what so many numbers and records are, step by step. -/
namespace Go.Proofs.YtlfbagkonckffaaGreat.Bat
open Go.RowKit Oct Rec Crc Lay RowF

theorem frozen_set (w : World) (a p : Addr) (u : Value) : (w.setCell a u).frozen? p = w.frozen? p := by simp [go_sem]
theorem cell_set_off {w : World} {g o o' : Nat} {u : Value} (h : o ≠ o') : (w.setCell ⟨g, o, none⟩ u).cell? ⟨g, o', none⟩ = w.cell? ⟨g, o', none⟩ := by
  have := h
  simp [go_sem, *]
structure ZB (w : World) (g : Nat) : Prop where
  c0 : w.cell? ⟨g, 0, none⟩ = some (.int .i64 0)
  c1 : w.cell? ⟨g, 1, none⟩ = some (.int .i64 0)
  c2 : w.cell? ⟨g, 2, none⟩ = some (.int .i64 0)
  c3 : w.cell? ⟨g, 3, none⟩ = some (.int .i64 0)
  c4 : w.cell? ⟨g, 4, none⟩ = some (.int .i64 0)
  c5 : w.cell? ⟨g, 5, none⟩ = some (.int .i64 0)
  c6 : w.cell? ⟨g, 6, none⟩ = some (.int .i64 0)
  c7 : w.cell? ⟨g, 7, none⟩ = some (.bool false)
  c8 : w.cell? ⟨g, 8, none⟩ = some (.int .i64 0)
  c9 : w.cell? ⟨g, 9, none⟩ = some (.slice none 0 0)
  f0 : w.frozen? ⟨g, 0, none⟩ = false
  f1 : w.frozen? ⟨g, 1, none⟩ = false
  f2 : w.frozen? ⟨g, 2, none⟩ = false
  f3 : w.frozen? ⟨g, 3, none⟩ = false
  f4 : w.frozen? ⟨g, 4, none⟩ = false
  f5 : w.frozen? ⟨g, 5, none⟩ = false
  f6 : w.frozen? ⟨g, 6, none⟩ = false
  f7 : w.frozen? ⟨g, 7, none⟩ = false
  f8 : w.frozen? ⟨g, 8, none⟩ = false
  f9 : w.frozen? ⟨g, 9, none⟩ = false
  lt : g < w.heap.size
theorem ZB.below {w w' : World} {g B : Nat} (h : ZB w g) (hb : Below B w w') (hg : g < B) : ZB w' g :=
  ⟨(hb.cell (p := ⟨g, 0, none⟩) hg).trans h.c0, (hb.cell (p := ⟨g, 1, none⟩) hg).trans h.c1, (hb.cell (p := ⟨g, 2, none⟩) hg).trans h.c2, (hb.cell (p := ⟨g, 3, none⟩) hg).trans h.c3, (hb.cell (p := ⟨g, 4, none⟩) hg).trans h.c4, (hb.cell (p := ⟨g, 5, none⟩) hg).trans h.c5, (hb.cell (p := ⟨g, 6, none⟩) hg).trans h.c6, (hb.cell (p := ⟨g, 7, none⟩) hg).trans h.c7, (hb.cell (p := ⟨g, 8, none⟩) hg).trans h.c8, (hb.cell (p := ⟨g, 9, none⟩) hg).trans h.c9, (hb.frozen (p := ⟨g, 0, none⟩) hg).trans h.f0, (hb.frozen (p := ⟨g, 1, none⟩) hg).trans h.f1, (hb.frozen (p := ⟨g, 2, none⟩) hg).trans h.f2, (hb.frozen (p := ⟨g, 3, none⟩) hg).trans h.f3, (hb.frozen (p := ⟨g, 4, none⟩) hg).trans h.f4, (hb.frozen (p := ⟨g, 5, none⟩) hg).trans h.f5, (hb.frozen (p := ⟨g, 6, none⟩) hg).trans h.f6, (hb.frozen (p := ⟨g, 7, none⟩) hg).trans h.f7, (hb.frozen (p := ⟨g, 8, none⟩) hg).trans h.f8, (hb.frozen (p := ⟨g, 9, none⟩) hg).trans h.f9, Nat.lt_of_lt_of_le h.lt hb.size⟩
theorem ZB.new (w : World) : ZB (w.alloc (.cells #[.int .i64 0, .int .i64 0, .int .i64 0, .int .i64 0, .int .i64 0, .int .i64 0, .int .i64 0, .bool false, .int .i64 0, .slice none 0 0] 28)) w.heap.size := by
  refine ⟨?_, ?_, ?_, ?_, ?_, ?_, ?_, ?_, ?_, ?_, ?_, ?_, ?_, ?_, ?_, ?_, ?_, ?_, ?_, ?_, ?_⟩
  case refine_21 => simp
  all_goals simp [go_sem]
theorem BoxB.set {w : World} {X g j : Nat} {b : Bt} {v u : Value} (h : BoxB w X b v) (hg : g ≠ X) : BoxB (w.setCell ⟨g, j, none⟩ u) X b v := by
  obtain ⟨h0, h1, h2, h3, h4, h5, h6, h7, h8, h9⟩ := h
  have e : ∀ k, (w.setCell ⟨g, j, none⟩ u).cell? ⟨X, k, none⟩ = w.cell? ⟨X, k, none⟩ := fun k => by unfold World.cell?; rw [Below.heap_setCell _ _ _ _ (by simp; omega)]
  exact ⟨(e _).trans h0, (e _).trans h1, (e _).trans h2, (e _).trans h3, (e _).trans h4, (e _).trans h5, (e _).trans h6, (e _).trans h7, (e _).trans h8, (e _).trans h9⟩
theorem ZB.set {w : World} {g X j : Nat} {u : Value} (h : ZB w X) (hg : g ≠ X) : ZB (w.setCell ⟨g, j, none⟩ u) X := by
  have e : ∀ k, (w.setCell ⟨g, j, none⟩ u).cell? ⟨X, k, none⟩ = w.cell? ⟨X, k, none⟩ := fun k => by unfold World.cell?; rw [Below.heap_setCell _ _ _ _ (by simp; omega)]
  exact ⟨(e _).trans h.c0, (e _).trans h.c1, (e _).trans h.c2, (e _).trans h.c3, (e _).trans h.c4, (e _).trans h.c5, (e _).trans h.c6, (e _).trans h.c7, (e _).trans h.c8, (e _).trans h.c9, (frozen_set _ _ _ _).trans h.f0, (frozen_set _ _ _ _).trans h.f1, (frozen_set _ _ _ _).trans h.f2, (frozen_set _ _ _ _).trans h.f3, (frozen_set _ _ _ _).trans h.f4, (frozen_set _ _ _ _).trans h.f5, (frozen_set _ _ _ _).trans h.f6, (frozen_set _ _ _ _).trans h.f7, (frozen_set _ _ _ _).trans h.f8, (frozen_set _ _ _ _).trans h.f9, by simpa [World.setCell] using h.lt⟩
theorem gt_one_none {l : List UInt8} {p : Int} (hp : 0 ≤ p) (h : l[p.toNat]? = none) : gt l p 1 = (0, 10) := by
  have h1 : l.length ≤ p.toNat := by simpa using h
  unfold gt
  rw [if_neg (by simp [isW]; omega), if_pos (by simp [hasB]; omega)]
theorem gt_one_some {l : List UInt8} {p : Int} {c : UInt8} (hp : 0 ≤ p) (h : l[p.toNat]? = some c) : gt l p 1 = (c.toNat, 0) := by
  have h1 : p.toNat < l.length := (List.getElem?_eq_some_iff.1 h).1
  unfold gt
  rw [if_neg (by simp [isW]; omega), if_neg (by simp [hasB]; omega), drop_at h]
  show (getN [c], 0) = _
  rw [getN_cons, getN_nil]; simp
theorem BoxB.recs {w : World} {g : Nat} {a b : Bt} {v : Value} (h : BoxB w g a v) (hb : b = { a with recs := b.recs }) : BoxB w g b v := by
  rw [hb]; exact h
theorem cell_off {w : World} {a p : Addr} {u : Value} (h : p.block ≠ a.block) : (w.setCell a u).cell? p = w.cell? p := by
  unfold World.cell?; rw [Below.heap_setCell _ _ _ _ (by omega)]
theorem BoxB.put1 {w : World} {g : Nat} {b : Bt} {v : Value} (h : BoxB w g b v) : BoxB (w.setCell ⟨g, 1, none⟩ (.int .i64 b.last)) g b v := by
  obtain ⟨h0, h1, h2, h3, h4, h5, h6, h7, h8, h9⟩ := h
  exact ⟨(cell_set_off (by omega)).trans h0, World.cell?_setCell_same _ _ _ h1, (cell_set_off (by omega)).trans h2, (cell_set_off (by omega)).trans h3, (cell_set_off (by omega)).trans h4, (cell_set_off (by omega)).trans h5, (cell_set_off (by omega)).trans h6, (cell_set_off (by omega)).trans h7, (cell_set_off (by omega)).trans h8, (cell_set_off (by omega)).trans h9⟩
theorem BoxB.drew {w : World} {g : Nat} {b : Bt} {v : Value} (h : BoxB w g b v) : BoxB w.drew g b v := h

theorem OwnR.lt {w : World} {B : Nat} {A : Option Addr} {n : Nat} {l : List Rc} (h : OwnR w B A n l) {g o : Nat} (hA : A = some ⟨g, o, none⟩) (hn : 0 < n) : g < w.heap.size := by
  obtain ⟨b, o', _, hA', hlt, _⟩ := h.1.at hn
  rw [hA] at hA'
  simp only [Option.some.injEq, Addr.mk.injEq, and_true] at hA'
  rw [hA'.1]; exact hlt
theorem OwnR.below {w w' : World} {B : Nat} {A : Option Addr} {n : Nat} {l : List Rc} (h : OwnR w B A n l) (hb : Below w.heap.size w w') : OwnR w' B A n l :=
  ⟨(h.1.below hb (Nat.le_refl _)).more hb.size, fun g o hA hn => ⟨(h.2 g o hA hn).1, fun i hi => (hb.frozen (p := ⟨g, o + i, none⟩) (h.lt hA hn)).trans ((h.2 g o hA hn).2 i hi)⟩⟩
theorem OwnR.set {w : World} {B X j : Nat} {A : Option Addr} {n : Nat} {l : List Rc} {u : Value} (h : OwnR w B A n l) (hX : X < B) : OwnR (w.setCell ⟨X, j, none⟩ u) B A n l := by
  refine ⟨⟨h.1.1, fun k r hr => ?_⟩, fun g o hA hn => ⟨(h.2 g o hA hn).1, fun i hi => (frozen_set _ _ _ _).trans ((h.2 g o hA hn).2 i hi)⟩⟩
  obtain ⟨b, o, hA, hlt, hat⟩ := h.1.2 k r hr
  have hn : 0 < n := by have := (List.getElem?_eq_some_iff.1 hr).1; have := h.1.1; omega
  have hg := (h.2 b o hA hn).1
  refine ⟨b, o, hA, by rw [World.size_setCell]; exact hlt, hat.keep fun p hp => ?_⟩
  unfold World.cell?
  rw [Below.heap_setCell _ _ _ _ (by show p.block ≠ X; omega)]
theorem OwnR.rd {w : World} {B : Nat} {A : Option Addr} {n : Nat} {l : List Rc} (h : OwnR w B A n l) : RdR w w.heap.size A n l := h.1
section
variable {u0 u1 u2 u3 u4 u5 u6 u7 u8 u9 : Value}
end
end Go.Proofs.YtlfbagkonckffaaGreat.Bat

/- The contract of the landed hasForm: its numbers. -/
namespace Go.Proofs.YtlfbagkonckffaaGreat.Bat
open Go.RowKit Oct Rec Crc

theorem inL_iff {v lo hi : Int} : inL v lo hi = true ↔ lo ≤ v ∧ v ≤ hi := by simp [inL]
def hdOk (b : Bt) : Bool :=
  decide ((0 ≤ b.base ∧ b.base ≤ 1099511627776) ∧ (0 ≤ wrap64 (b.last - b.base) ∧ wrap64 (b.last - b.base) ≤ 15 ∧ wrap64 (b.last - b.base) ≤ 1099511627776 - b.base) ∧ (0 ≤ b.frm ∧ b.frm ≤ 1099511627776 - wrap64 (b.last - b.base)) ∧
    (0 ≤ b.epoch ∧ b.epoch ≤ 1048576) ∧ (-1 ≤ b.pid ∧ b.pid ≤ 1099511627776) ∧ (0 ≤ b.gen ∧ b.gen ≤ 1048576) ∧ (0 ≤ b.seq ∧ b.seq ≤ 1048576 - wrap64 (b.last - b.base)))
theorem hdOk_iff {b : Bt} (hl : I64 b.last) (hb : I64 b.base) : hdOk b = true ↔ 0 ≤ b.base ∧ b.base ≤ 1099511627776 ∧ b.base ≤ b.last ∧ b.last ≤ 1099511627776 ∧ b.last - b.base < 16 ∧ 0 ≤ b.frm ∧ b.frm + (b.last - b.base) ≤ 1099511627776 ∧
    0 ≤ b.epoch ∧ b.epoch ≤ 1048576 ∧ -1 ≤ b.pid ∧ b.pid ≤ 1099511627776 ∧ 0 ≤ b.gen ∧ b.gen ≤ 1048576 ∧ 0 ≤ b.seq ∧ b.seq + (b.last - b.base) ≤ 1048576 := by
  unfold I64 at hl hb
  unfold hdOk wrap64
  rw [decide_eq_true_eq]
  constructor
  · rintro ⟨h0, h1, h2, h3, h4, h5, h6⟩; omega
  · intro h; refine ⟨?_, ?_, ?_, ?_, ?_, ?_, ?_⟩ <;> omega
theorem least_is {ba v : Int} (h : 0 ≤ ba ∧ ba ≤ 1099511627776) : ∀ h' : Int, (if IntKind.i64.wrap (1099511627776 - ba) < 15 then IntKind.i64.wrap (1099511627776 - ba) else 15) = h' → inL v 0 h' = decide (0 ≤ v ∧ v ≤ 15 ∧ v ≤ 1099511627776 - ba) := by
  rintro h' rfl
  rw [IntWalk.i64_in _ (by omega)]
  unfold inL
  split <;> (apply decide_eq_decide.2; omega)
def hdT (b : Bt) (sp : Int) : Nat → Prop
  | 0 => 0 ≤ b.base ∧ b.base ≤ 1099511627776
  | 1 => 0 ≤ sp ∧ sp ≤ 15 ∧ sp ≤ 1099511627776 - b.base
  | 2 => 0 ≤ b.frm ∧ b.frm ≤ 1099511627776 - sp
  | 3 => 0 ≤ b.epoch ∧ b.epoch ≤ 1048576
  | 4 => -1 ≤ b.pid ∧ b.pid ≤ 1099511627776
  | 5 => 0 ≤ b.gen ∧ b.gen ≤ 1048576
  | _ => 0 ≤ b.seq ∧ b.seq ≤ 1048576 - sp
set_option maxHeartbeats 1000000 in
theorem hfEach (w : World) (g : Nat) (b : Bt) (v : Value) (hbox : BoxB w g b v) (hfz : w.frozen? ⟨g, 1, none⟩ = false) (hg : g < w.heap.size) (hF : Fits b) {y : Bool} (hy : hdOk b = y) :
    Calls Tryz.prog 109 #[.pointer (some ⟨g, 0, none⟩), .func (.func 108) #[] #[]] w fun e w' => e = .returned (.bool y) ∧ BoxB w' g b v ∧ Below g w w' := by
  subst hy
  obtain ⟨c0, c1, c2, c3, c4, c5, c6, c7, c8, c9⟩ := id hbox
  obtain ⟨sp, hsp⟩ : ∃ sp, wrap64 (b.last - b.base) = sp := ⟨_, rfl⟩
  have hsp' : IntKind.i64.wrap (b.last - b.base) = sp := (IntWalk.i64_left _).trans hsp
  have hlast := hF.last
  have hbase := hF.base
  unfold I64 at hlast hbase
  have hback : wrap64 (b.base + sp) = b.last := by rw [← hsp]; unfold wrap64; omega
  obtain ⟨W, hW⟩ : ∃ W, (w.alloc (.cells #[.int .i64 sp] 3)).drew.drew = W := ⟨_, rfl⟩
  have hbl : Below w.heap.size w W := by rw [← hW]; exact ((Below.refl _ _).alloc (Nat.le_refl _) _).drew.drew
  have hb0 : BoxB W g b v := hbox.below hbl hg
  have hz1 : W.frozen? ⟨g, 1, none⟩ = false := (hbl.frozen (p := ⟨g, 1, none⟩) hg).trans hfz
  have hS : W.cell? ⟨w.heap.size, 0, none⟩ = some (.int .i64 sp) := by rw [← hW]; simp [go_sem]
  have see : SeeE g w.heap.size W b.base sp := ⟨hb0.1, hS, ⟨_, hb0.2.1⟩, hz1⟩
  have same : ∀ {x y : Int}, SeeE g w.heap.size W x y → b.base = x ∧ sp = y := fun h => by
    have e0 := see.1.symm.trans h.1
    have e1 := see.2.1.symm.trans h.2.1
    injection e0 with e0; injection e0 with _ e0
    injection e1 with e1; injection e1 with _ e1
    exact ⟨e0, e1⟩
  have hall : hdOk b = true ↔ ∀ j, j < 7 → hdT b sp j := by
    unfold hdOk
    rw [hsp, decide_eq_true_eq]
    constructor
    · rintro ⟨h0, h1, h2, h3, h4, h5, h6⟩ j hj
      match j, hj with
      | 0, _ => exact h0
      | 1, _ => exact h1
      | 2, _ => exact h2
      | 3, _ => exact h3
      | 4, _ => exact h4
      | 5, _ => exact h5
      | 6, _ => exact h6
    · intro h
      exact ⟨h 0 (by omega), h 1 (by omega), h 2 (by omega), h 3 (by omega), h 4 (by omega), h 5 (by omega), h 6 (by omega)⟩
  refine (each_any 108 #[] (fun _ _ => by go_simp) g b.base b.last sp w hg c0 c1 hsp' (fun k w1 => W = w1 ∧ ∀ j, j < k → hdT b sp j) (fun k w1 => W = w1 ∧ ¬ hdT b sp k) ⟨hW.symm, fun j h => by omega⟩ (fun k w1 h => h.1 ▸ ⟨_, _, see⟩) (fun k w1 h => h.1 ▸ ⟨_, _, see⟩) (fun k w1 x y hk hh hs => ?_)).mono ?_
  · obtain ⟨rfl, ho⟩ := hh
    obtain ⟨rfl, rfl⟩ := same hs
    rw [app0]
    have st : ∀ u, W.cell? (adE g w.heap.size k) = some (.int .i64 u) → (inL u (loE k) (hiE b.base sp k) = true ↔ hdT b sp k) → Calls Tryz.prog 108 #[.pointer (some (adE g w.heap.size k)), .int .i64 (loE k), .int .i64 (hiE b.base sp k)] W fun e w2 => ∃ y, e = .returned (.bool y) ∧ if y then (W = w2 ∧ ∀ j, j < k + 1 → hdT b sp j) else (W = w2 ∧ ¬ hdT b sp k) := fun u hu hi => (within_any _ u _ _ _ hu rfl).mono fun e w2 h => by
      refine ⟨_, h.1, ?_⟩
      cases hy : inL u (loE k) (hiE b.base sp k)
      · exact ⟨h.2, fun h => by rw [hi.2 h] at hy; cases hy⟩
      · exact ⟨h.2, fun j hj => if hjk : j < k then ho j hjk else by rw [show j = k by omega]; exact hi.1 hy⟩
    match k, hk with
    | 0, _ => exact st _ hb0.1 inL_iff
    | 1, _ => exact st _ hS (by rw [show inL sp (loE 1) (hiE b.base sp 1) = _ from least_is (ho 0 (by omega)) _ rfl, decide_eq_true_eq]; rfl)
    | 2, _ =>
      have h1 : 0 ≤ sp ∧ sp ≤ 15 ∧ sp ≤ 1099511627776 - b.base := ho 1 (by omega)
      exact st _ hb0.2.2.1 (by rw [show hiE b.base sp 2 = 1099511627776 - sp from IntWalk.i64_in _ (by omega)]; exact inL_iff)
    | 3, _ => exact st _ hb0.2.2.2.1 inL_iff
    | 4, _ => exact st _ hb0.2.2.2.2.1 inL_iff
    | 5, _ => exact st _ hb0.2.2.2.2.2.1 inL_iff
    | 6, _ =>
      have h1 : 0 ≤ sp ∧ sp ≤ 15 ∧ sp ≤ 1099511627776 - b.base := ho 1 (by omega)
      exact st _ hb0.2.2.2.2.2.2.1 (by rw [show hiE b.base sp 6 = 1048576 - sp from IntWalk.i64_in _ (by omega)]; exact inL_iff)
  rintro e w' ⟨y, rfl, w1, x0, y0, hs, hj, rfl⟩
  have END : W = w1 → BoxB (w1.setCell ⟨g, 1, none⟩ (.int .i64 (wrap64 (x0 + y0)))).drew g b v ∧ Below g w (w1.setCell ⟨g, 1, none⟩ (.int .i64 (wrap64 (x0 + y0)))).drew := by
    rintro rfl
    obtain ⟨rfl, rfl⟩ := same hs
    rw [hback]
    exact ⟨(hb0.put1 : BoxB (W.setCell _ _) g b v), ((hbl.mono (by omega)).setCell (by show g ≤ g; omega) _).drew⟩
  cases y
  · obtain ⟨k, hk, h1, h2⟩ := hj
    refine ⟨?_, END h1⟩
    cases hh : hdOk b with
    | false => rfl
    | true => exact (h2 (hall.1 hh k hk)).elim
  · rw [hall.2 hj.2]
    exact ⟨rfl, END hj.1⟩
end Go.Proofs.YtlfbagkonckffaaGreat.Bat

/- The contracts of the document's own in and form. -/
namespace Go.Proofs.YtlfbagkonckffaaGreat.Bat
open Go.RowKit Oct Rec Crc

theorem refin_any (n most : Int) (w : World) {b : Bool} (hb : inM n most = b) : Calls Tryz.prog 97 #[.int .i64 n, .int .i64 most] w fun e w' => e = .returned (.bool b) ∧ w = w' := by
  subst hb
  go_enter Tryz.func97, Tryz.ntmps97
  go_wp2
  all_goals go_ret
  all_goals refine ⟨?_, rfl⟩
  · rename_i h; exact ret_bool (by simp [inM, h])
  · rename_i h; exact ret_bool (by simp [inM]; omega)

end Go.Proofs.YtlfbagkonckffaaGreat.Bat
