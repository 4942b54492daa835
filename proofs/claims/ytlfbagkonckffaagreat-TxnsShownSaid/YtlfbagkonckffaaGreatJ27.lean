/- Joined: BatDevWe, BatDevM, BatDevC. -/
import Derived.Test.YtlfbagkonckffaaGreatJ20
import Derived.Test.YtlfbagkonckffaaGreatJ24
import Derived.Test.YtlfbagkonckffaaGreatJ26
import Derived.Test.YtlfbagkonckffaaGreatJ21
import Derived.Test.YtlfbagkonckffaaGreatJ08
import Derived.Test.YtlfbagkonckffaaGreatJ15
import Derived.Lib.LazyBuf
/- The contract of the landed eachNumber, handed write's own function: the numbers' bytes. -/
namespace Go.Proofs.YtlfbagkonckffaaGreat.Bat
open Go.RowKit Oct Rec Crc

theorem vs_ten {l : List Int} (h : ∀ x ∈ l, W64 x) : (vs l).length ≤ 10 * l.length := by
  induction l with
  | nil => simp [vs]
  | cons x l ih =>
    have h1 := ih fun y hy => h y (List.mem_cons_of_mem _ hy)
    have h2 := h x (by simp)
    unfold W64 at h2
    have h3 := vb_ten (zz_lt (n := x) h2)
    rw [vs, List.length_append, List.length_cons]
    omega
theorem rs_145 {l : List Rc} {ba st : Int} (hm : ∀ r ∈ l, may r = true) (hb : inR ba = true) (hs : inR st = true) : (rs ba st l).length ≤ 145 * l.length := by
  induction l with
  | nil => simp [rs]
  | cons x l ih =>
    have h1 := ih fun y hy => hm y (List.mem_cons_of_mem _ hy)
    have h3 := (rb_size (hm x (by simp)) hb hs).2.1
    rw [rs, List.length_append, List.length_cons]
    omega
structure WJ (e : TypeId) (w2 : World) (g X : Nat) (b : Bt) (v : Value) (sp : Int) (k : Nat) (w' : World) : Prop where
  own : ∃ A n c, OwnB w' e (w2.heap.size + 1) (.slice A n c) n (vs ((hd b).take k)) ∧ w'.cell? ⟨X, 0, none⟩ = some (.slice A n c)
  fx : w'.frozen? ⟨X, 0, none⟩ = false
  box : BoxB w' g b v
  fg : w'.frozen? ⟨g, 1, none⟩ = false
  span : w'.cell? ⟨w2.heap.size, 0, none⟩ = some (.int .i64 sp)
  lt : w2.heap.size < w'.heap.size
  bel : Below g w2 w'
theorem WJ.step {w2 w' : World} {g X : Nat} {b : Bt} {v : Value} {sp lo hi x : Int} {k : Nat} {a : Addr} (h : WJ 5 w2 g X b v sp k w') (hgX : g < X) (hXl : X < w2.heap.size) (hW : ∀ x ∈ hd b, W64 x) (hx : (hd b)[k]? = some x) (ha : w'.cell? a = some (.int .i64 x)) (hal : a.block < w'.heap.size) :
    Calls Tryz.prog 111 #[.pointer (some a), .int .i64 lo, .int .i64 hi, .pointer (some ⟨X, 0, none⟩)] w' fun e w3 => e = .returned (.bool true) ∧ WJ 5 w2 g X b v sp (k + 1) w3 := by
  obtain ⟨⟨A, n, c, hown, hX⟩, fx, box, fg, span, lt, bel⟩ := h
  have hl := hown.len
  have h10 := vs_ten (l := (hd b).take k) fun y hy => hW y (List.mem_of_mem_take hy)
  have hk7 : ((hd b).take k).length ≤ 7 := by rw [List.length_take]; simp [hd]; omega
  have hxw := hW x (List.mem_of_getElem? hx)
  refine (wr1_any a x lo hi X A n c _ _ w' ha hal hxw hX fx (by omega) hown.rd (Nat.le_refl _) (by omega)).mono ?_
  rintro e w3 ⟨rfl, A1, n1, c1, w1, hown1, hb1, rfl⟩
  refine ⟨rfl, ?_⟩
  rw [← vs_take hx] at hown1
  have hs1 := hb1.size
  refine ⟨⟨A1, n1, c1, ?_, World.cell?_setCell_same _ _ _ ((hb1.cell (p := ⟨X, 0, none⟩) (by show X < _; omega)).trans hX)⟩, (frozen_set _ _ _ _).trans ((hb1.frozen (p := ⟨X, 0, none⟩) (by show X < _; omega)).trans fx), (box.below hb1 (by omega)).set (by omega), (frozen_set _ _ _ _).trans ((hb1.frozen (p := ⟨g, 1, none⟩) (by show g < _; omega)).trans fg), ?_, ?_, ?_⟩
  · exact OwnB.more (ownsRow_setCell_below hown1 (by show X < _; omega) _) (by omega)
  · exact (cell_off (by simp; omega)).trans ((hb1.cell (p := ⟨w2.heap.size, 0, none⟩) (by show _ < _; omega)).trans span)
  · simp [World.setCell]; omega
  · exact (bel.trans (hb1.mono (by omega))).setCell (by show g ≤ X; omega) _
def WRE (e : TypeId) (g X : Nat) (w2 : World) (b : Bt) (v : Value) (w' : World) : Prop :=
  ∃ A n c, OwnB w' e w2.heap.size (.slice A n c) n (vs (hd b)) ∧ w'.cell? ⟨X, 0, none⟩ = some (.slice A n c) ∧ w'.frozen? ⟨X, 0, none⟩ = false ∧ BoxB w' g b v ∧ Below g w2 w' ∧ w2.heap.size < w'.heap.size
theorem wrEach (w2 : World) (g X : Nat) (b : Bt) (v : Value) (hbox : BoxB w2 g b v) (hfz : w2.frozen? ⟨g, 1, none⟩ = false) (hX : w2.cell? ⟨X, 0, none⟩ = some (.slice none 0 0)) (hXf : w2.frozen? ⟨X, 0, none⟩ = false) (hgX : g < X) (hXl : X < w2.heap.size) (hF : Form b) :
    Calls Tryz.prog 109 #[.pointer (some ⟨g, 0, none⟩), .func (.func 111) #[] #[.pointer (some ⟨X, 0, none⟩)]] w2 fun e w' => e = .returned (.bool true) ∧ WRE 5 g X w2 b v w' := by
  have hW := hF.heads
  have h1 := hF.base0
  have h2 := hF.base1
  have h3 := hF.le
  have h4 := hF.near
  have hsp : IntKind.i64.wrap (b.last - b.base) = b.last - b.base := IntWalk.i64_in _ (by omega)
  have hla : wrap64 (b.base + (b.last - b.base)) = b.last := by unfold wrap64; omega
  have hbx := hbox
  obtain ⟨c0, c1, c2, c3, c4, c5, c6, c7, c8, c9⟩ := hbx
  have hj0 : WJ 5 w2 g X b v (b.last - b.base) 0 (w2.alloc (.cells #[.int .i64 (b.last - b.base)] 3)).drew.drew := by
    have hbl : Below w2.heap.size w2 (w2.alloc (.cells #[.int .i64 (b.last - b.base)] 3)) := (Below.refl _ _).alloc (Nat.le_refl _) _
    refine ⟨⟨none, 0, 0, OwnB.nil, (hbl.cell (p := ⟨X, 0, none⟩) hXl).trans hX⟩, (hbl.frozen (p := ⟨X, 0, none⟩) hXl).trans hXf, (hbox.below hbl (by omega) : BoxB (w2.alloc _) g b v), (hbl.frozen (p := ⟨g, 1, none⟩) (by show g < _; omega)).trans hfz, ?_, ?_, (hbl.mono (by omega)).drew.drew⟩
    · show (w2.alloc _).cell? _ = _
      simp [go_sem]
    · show _ < (w2.alloc _).heap.size
      simp
  refine (each_any 111 #[.pointer (some ⟨X, 0, none⟩)] (fun _ _ => by go_simp) g b.base b.last (b.last - b.base) w2 (by omega) c0 c1 hsp (fun k => WJ 5 w2 g X b v (b.last - b.base) k) (fun _ _ => False) hj0 (fun k w1 h => ⟨_, _, h.box.1, h.span, ⟨_, h.box.2.1⟩, h.fg⟩) (fun _ _ h => h.elim) (fun k w1 x y hk h _ => ?_)).mono ?_
  · have hl := h.lt
    rw [app1]
    have st : ∀ {e : Ending} {w3 : World}, e = .returned (.bool true) ∧ WJ 5 w2 g X b v (b.last - b.base) (k + 1) w3 → ∃ y, e = .returned (.bool y) ∧ if y then WJ 5 w2 g X b v (b.last - b.base) (k + 1) w3 else False := fun h => ⟨true, h.1, h.2⟩
    match k, hk with
    | 0, _ => exact (h.step hgX hXl hW rfl h.box.1 (by show g < _; omega)).mono fun _ _ => st
    | 1, _ => exact (h.step hgX hXl hW rfl h.span hl).mono fun _ _ => st
    | 2, _ => exact (h.step hgX hXl hW rfl h.box.2.2.1 (by show g < _; omega)).mono fun _ _ => st
    | 3, _ => exact (h.step hgX hXl hW rfl h.box.2.2.2.1 (by show g < _; omega)).mono fun _ _ => st
    | 4, _ => exact (h.step hgX hXl hW rfl h.box.2.2.2.2.1 (by show g < _; omega)).mono fun _ _ => st
    | 5, _ => exact (h.step hgX hXl hW rfl h.box.2.2.2.2.2.1 (by show g < _; omega)).mono fun _ _ => st
    | 6, _ => exact (h.step hgX hXl hW rfl h.box.2.2.2.2.2.2.1 (by show g < _; omega)).mono fun _ _ => st
  rintro e w' ⟨y, rfl, w1, x0, y0, hs, hj, rfl⟩
  cases y
  · obtain ⟨_, _, h⟩ := hj
    exact h.elim
  obtain ⟨⟨A, n, c, hown, hXc⟩, fx, box, fg, span, lt, bel⟩ := hj
  obtain ⟨s0, s1, -, -⟩ := hs
  have e0 : b.base = x0 := by have h := box.1.symm.trans s0; injection h with h; injection h
  have e1 : b.last - b.base = y0 := by have h := span.symm.trans s1; injection h with h; injection h
  rw [← e1, ← e0, hla]
  refine ⟨rfl, A, n, c, ?_, ?_, (frozen_set _ _ _ _).trans fx, box.put1.drew, (bel.setCell (by show g ≤ g; omega) _).drew, ?_⟩
  · exact OwnB.more (ownsRow_setCell_below hown (by show g < _; omega) _) (by omega)
  · exact (cell_off (p := ⟨X, 0, none⟩) (by simp; omega)).trans hXc
  · show _ < (w1.setCell _ _).heap.size
    simpa [World.setCell] using lt
end Go.Proofs.YtlfbagkonckffaaGreat.Bat

/- The plain mathematics of the landed batch: what its read tells of a body, and that with the test of the own body it is the document's answer. -/
namespace Go.Proofs.YtlfbagkonckffaaGreat.Bat
open Go.RowKit Oct Rec Crc

def ctM (c : Nat) : Int := ((c - c / 4 % 2 * 4 : Nat) : Int)
def txM (c : Nat) : Bool := c / 4 % 2 != 0
def ldT (l : List UInt8) (p base : Int) : Option (List Rc) :=
  if (gv l p).2.2 ≠ 0 then none else if 0 < (gv l p).1 then
    (if (gv l (gv l p).2.1).2.2 ≠ 0 then none else (rdR (gv l p).1.toNat l (gv l (gv l p).2.1).2.1 base (gv l (gv l p).2.1).1).map (·.1))
  else some []
def ldB (l : List UInt8) : Option Bt :=
  match rdV 7 l 0 with
  | some ([n0, n1, n2, n3, n4, n5, n6], p) => match l[p.toNat]? with
    | none => none
    | some c => (ldT l (p + 1) n0).map fun xs => ⟨n0, wrap64 (n0 + n1), n2, n3, n4, n5, n6, txM c.toNat, ctM c.toNat, xs⟩
  | _ => none
def opL (l : List UInt8) : Bt × Int :=
  if (openB l).2 ≠ 0 then (nilB, (openB l).2) else match ldB (openB l).1 with
    | none => (nilB, 11)
    | some b => if chB b = 0 ∧ body b = (openB l).1 then (b, 0) else (nilB, 11)
end Go.Proofs.YtlfbagkonckffaaGreat.Bat

/- The contracts of bytes.Equal, and the landed mark. -/
namespace Go.Proofs.YtlfbagkonckffaaGreat.Bat
open Go.RowKit Oct Rec Crc Lay RowF

theorem ownF_empty {α : Type} (f : α → List Value) (size : Nat) (w : World) (e : TypeId) : OwnF f size (w.alloc (.cells #[] e)) e w.heap.size (.slice (some ⟨w.heap.size, 0, none⟩) 0 0) 0 ([] : List α) := by
  have h1 := World.ownsRow_lit (base := w.heap.size) (e := e) (size := size) w #[] 0 (by simp) (by unfold maxLen; omega) (by simp)
  simpa [OwnF] using h1
set_option maxRecDepth 100000 in
theorem mark_any (ba la fr ep pi ge se : Int) (tx : Bool) (ct : Int) (rs : List Rc) (A : Option Addr) (n c : Nat) (w : World) (h0 : 0 ≤ ct) (h1 : ct ≤ 2) :
    Calls Tryz.prog 113 #[.agg #[.int .i64 ba, .int .i64 la, .int .i64 fr, .int .i64 ep, .int .i64 pi, .int .i64 ge, .int .i64 se, .bool tx, .int .i64 ct, .slice A n c]] w fun e w' => e = .returned (.int .u8 ((mark ⟨ba, la, fr, ep, pi, ge, se, tx, ct, rs⟩).toNat : Int)) ∧ Below w.heap.size w w' := by
  have hm := mark_num (b := ⟨ba, la, fr, ep, pi, ge, se, tx, ct, rs⟩) h0 (by simp only; omega)
  simp only at hm
  rw [hm]
  rcases tx with _ | _
  · have hv : ((ct.toNat + if false = true then 4 else 0 : Nat) : Int) = ct := by simp; omega
    rw [hv]
    clear hm hv
    go_enter Tryz.func113, Tryz.ntmps113
    go_wp2
    go_ret
    exact ⟨rfl, (Below.refl _ _).alloc (Nat.le_refl _) _⟩
  · have hv : ((ct.toNat + if true = true then 4 else 0 : Nat) : Int) = ct + 4 := by simp; omega
    rw [hv]
    clear hm hv
    go_enter Tryz.func113, Tryz.ntmps113
    go_wp2
    go_ret
    exact ⟨rfl, (Below.refl _ _).alloc (Nat.le_refl _) _⟩
end Go.Proofs.YtlfbagkonckffaaGreat.Bat
