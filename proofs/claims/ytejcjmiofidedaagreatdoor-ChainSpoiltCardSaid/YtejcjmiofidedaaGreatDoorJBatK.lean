/- Joined: BatDevWr1, BatDevWe, BatDevC, BatDevWr, BatDevK, BatBox, BatFew, BatFewAll. -/
import Derived.Test.YtejcjmiofidedaaGreatDoorJBatA
import Derived.Test.YtejcjmiofidedaaGreatDoorJOct
import Derived.Deep.RegionWith
import Derived.Test.YtejcjmiofidedaaGreatDoorJBatE
import Derived.Test.YtejcjmiofidedaaGreatDoorJBatR
import Derived.Lib.LazyBuf
import Derived.Test.YtejcjmiofidedaaGreatDoorJRec
import Derived.Deep.RegionLaw
import Derived.Deep.DeepCutAuto
import Derived.Test.YtejcjmiofidedaaGreatDoorJBatH
import Derived.Test.YtejcjmiofidedaaGreatDoorJCrc
import Derived.LoopTactic
/- The contract of the landed write's own function: a number is put behind the body. -/
namespace Go.Proofs.YtejcjmiofidedaaGreatDoor.Bat
open Go.RowKit Oct Rec Crc

theorem below_undrew {B : Nat} {w w' : World} (h : Below B w.drew w') : Below B w w' := ((Below.refl B w).drew).trans h
def WR1 (e : TypeId) (X : Nat) (w : World) (l : List UInt8) (w' : World) : Prop :=
  ∃ A n c w1, OwnB w1 e w.heap.size (.slice A n c) n l ∧ Below w.heap.size w w1 ∧ w1.setCell ⟨X, 0, none⟩ (.slice A n c) = w'
set_option maxRecDepth 100000 in
theorem wr1_any (a : Addr) (v lo hi : Int) (X : Nat) (A : Option Addr) (n c : Nat) (l : List UInt8) (B : Nat) (w : World) (ha : w.cell? a = some (.int .i64 v)) (hal : a.block < w.heap.size) (hI : I64 v) (hX : w.cell? ⟨X, 0, none⟩ = some (.slice A n c)) (hf : w.frozen? ⟨X, 0, none⟩ = false) (hXl : X < w.heap.size) (hr : Rd w B A n l) (hB : B ≤ w.heap.size) (hn : n ≤ 549755813888) :
    Calls Tryz.prog 121 #[.pointer (some a), .int .i64 lo, .int .i64 hi, .pointer (some ⟨X, 0, none⟩)] w fun e w' => e = .returned (.bool true) ∧ WR1 5 X w (l ++ vb (zz v)) w' := by
  have HR := Lib.hid hr
  obtain ⟨h1, h2⟩ := hI
  have hBd : B ≤ w.drew.heap.size := hB
  clear hr
  go_enter Tryz.func121, Tryz.ntmps121
  go_wp2
  go_region_with (go_at_call 122; (with_reducible refine (PutVar_any A n c v l B _ HR.out.drew hBd hn h1 h2).mono ?_); rintro e w1 ⟨A1, n1, c1, rfl, hown1, hb1⟩; have hX1 := (hb1.cell (p := ⟨X, 0, none⟩) hXl).trans hX; have hf1 := (hb1.frozen (p := ⟨X, 0, none⟩) hXl).trans hf; have ha1 := (hb1.cell (p := a) hal).trans ha; have HO := Lib.hid hown1; have HB := Lib.hid hb1; clear hown1 hb1)
  all_goals go_wp2
  all_goals go_ret
  all_goals exact ⟨rfl, A1, n1, c1, w1, HO.out, below_undrew HB.out, rfl⟩
end Go.Proofs.YtejcjmiofidedaaGreatDoor.Bat

/- The contract of the landed eachNumber, handed write's own function: the numbers' bytes. -/
namespace Go.Proofs.YtejcjmiofidedaaGreatDoor.Bat
open Go.RowKit Oct Rec Crc

theorem vs_ten {l : List Int} (h : ∀ x ∈ l, W64 x) : (vs l).length ≤ 10 * l.length := by
  induction l with
  | nil => simp [vs]
  | cons x l ih =>
    have h1 := ih fun y hy => h y (List.mem_cons_of_mem _ hy)
    have h2 := h x (by simp)
    unfold W64 at h2
    have h3 := vb_ten (zz_lt (n := x) h2)
    rw [vs, List.length_append, List.length_cons]
    omega
theorem rs_145 {l : List Rc} {ba st : Int} (hm : ∀ r ∈ l, may r = true) (hb : inR ba = true) (hs : inR st = true) : (rs ba st l).length ≤ 145 * l.length := by
  induction l with
  | nil => simp [rs]
  | cons x l ih =>
    have h1 := ih fun y hy => hm y (List.mem_cons_of_mem _ hy)
    have h3 := (rb_size (hm x (by simp)) hb hs).2.1
    rw [rs, List.length_append, List.length_cons]
    omega
structure WJ (e : TypeId) (w2 : World) (g X : Nat) (b : Bt) (v : Value) (sp : Int) (k : Nat) (w' : World) : Prop where
  own : ∃ A n c, OwnB w' e (w2.heap.size + 1) (.slice A n c) n (vs ((hd b).take k)) ∧ w'.cell? ⟨X, 0, none⟩ = some (.slice A n c)
  fx : w'.frozen? ⟨X, 0, none⟩ = false
  box : BoxB w' g b v
  fg : w'.frozen? ⟨g, 1, none⟩ = false
  span : w'.cell? ⟨w2.heap.size, 0, none⟩ = some (.int .i64 sp)
  lt : w2.heap.size < w'.heap.size
  bel : Below g w2 w'
theorem WJ.step {w2 w' : World} {g X : Nat} {b : Bt} {v : Value} {sp lo hi x : Int} {k : Nat} {a : Addr} (h : WJ 5 w2 g X b v sp k w') (hgX : g < X) (hXl : X < w2.heap.size) (hW : ∀ x ∈ hd b, W64 x) (hx : (hd b)[k]? = some x) (ha : w'.cell? a = some (.int .i64 x)) (hal : a.block < w'.heap.size) :
    Calls Tryz.prog 121 #[.pointer (some a), .int .i64 lo, .int .i64 hi, .pointer (some ⟨X, 0, none⟩)] w' fun e w3 => e = .returned (.bool true) ∧ WJ 5 w2 g X b v sp (k + 1) w3 := by
  obtain ⟨⟨A, n, c, hown, hX⟩, fx, box, fg, span, lt, bel⟩ := h
  have hl := hown.len
  have h10 := vs_ten (l := (hd b).take k) fun y hy => hW y (List.mem_of_mem_take hy)
  have hk7 : ((hd b).take k).length ≤ 7 := by rw [List.length_take]; simp [hd]; omega
  have hxw := hW x (List.mem_of_getElem? hx)
  refine (wr1_any a x lo hi X A n c _ _ w' ha hal hxw hX fx (by omega) hown.rd (Nat.le_refl _) (by omega)).mono ?_
  rintro e w3 ⟨rfl, A1, n1, c1, w1, hown1, hb1, rfl⟩
  refine ⟨rfl, ?_⟩
  rw [← vs_take hx] at hown1
  have hs1 := hb1.size
  refine ⟨⟨A1, n1, c1, ?_, World.cell?_setCell_same _ _ _ ((hb1.cell (p := ⟨X, 0, none⟩) (by show X < _; omega)).trans hX)⟩, (frozen_set _ _ _ _).trans ((hb1.frozen (p := ⟨X, 0, none⟩) (by show X < _; omega)).trans fx), (box.below hb1 (by omega)).set (by omega), (frozen_set _ _ _ _).trans ((hb1.frozen (p := ⟨g, 1, none⟩) (by show g < _; omega)).trans fg), ?_, ?_, ?_⟩
  · exact OwnB.more (ownsRow_setCell_below hown1 (by show X < _; omega) _) (by omega)
  · exact (cell_off (by simp; omega)).trans ((hb1.cell (p := ⟨w2.heap.size, 0, none⟩) (by show _ < _; omega)).trans span)
  · simp [World.setCell]; omega
  · exact (bel.trans (hb1.mono (by omega))).setCell (by show g ≤ X; omega) _
def WRE (e : TypeId) (g X : Nat) (w2 : World) (b : Bt) (v : Value) (w' : World) : Prop :=
  ∃ A n c, OwnB w' e w2.heap.size (.slice A n c) n (vs (hd b)) ∧ w'.cell? ⟨X, 0, none⟩ = some (.slice A n c) ∧ w'.frozen? ⟨X, 0, none⟩ = false ∧ BoxB w' g b v ∧ Below g w2 w' ∧ w2.heap.size < w'.heap.size
theorem wrEach (w2 : World) (g X : Nat) (b : Bt) (v : Value) (hbox : BoxB w2 g b v) (hfz : w2.frozen? ⟨g, 1, none⟩ = false) (hX : w2.cell? ⟨X, 0, none⟩ = some (.slice none 0 0)) (hXf : w2.frozen? ⟨X, 0, none⟩ = false) (hgX : g < X) (hXl : X < w2.heap.size) (hF : Form b) :
    Calls Tryz.prog 119 #[.pointer (some ⟨g, 0, none⟩), .func (.func 121) #[] #[.pointer (some ⟨X, 0, none⟩)]] w2 fun e w' => e = .returned (.bool true) ∧ WRE 5 g X w2 b v w' := by
  have hW := hF.heads
  have h1 := hF.base0
  have h2 := hF.base1
  have h3 := hF.le
  have h4 := hF.near
  have hsp : IntKind.i64.wrap (b.last - b.base) = b.last - b.base := IntWalk.i64_in _ (by omega)
  have hla : wrap64 (b.base + (b.last - b.base)) = b.last := by unfold wrap64; omega
  have hbx := hbox
  obtain ⟨c0, c1, c2, c3, c4, c5, c6, c7, c8, c9⟩ := hbx
  have hj0 : WJ 5 w2 g X b v (b.last - b.base) 0 (w2.alloc (.cells #[.int .i64 (b.last - b.base)] 3)).drew.drew := by
    have hbl : Below w2.heap.size w2 (w2.alloc (.cells #[.int .i64 (b.last - b.base)] 3)) := (Below.refl _ _).alloc (Nat.le_refl _) _
    refine ⟨⟨none, 0, 0, OwnB.nil, (hbl.cell (p := ⟨X, 0, none⟩) hXl).trans hX⟩, (hbl.frozen (p := ⟨X, 0, none⟩) hXl).trans hXf, (hbox.below hbl (by omega) : BoxB (w2.alloc _) g b v), (hbl.frozen (p := ⟨g, 1, none⟩) (by show g < _; omega)).trans hfz, ?_, ?_, (hbl.mono (by omega)).drew.drew⟩
    · show (w2.alloc _).cell? _ = _
      simp [go_sem]
    · show _ < (w2.alloc _).heap.size
      simp
  refine (each_any 121 #[.pointer (some ⟨X, 0, none⟩)] (fun _ _ => by go_simp) g b.base b.last (b.last - b.base) w2 (by omega) c0 c1 hsp (fun k => WJ 5 w2 g X b v (b.last - b.base) k) (fun _ _ => False) hj0 (fun k w1 h => ⟨_, _, h.box.1, h.span, ⟨_, h.box.2.1⟩, h.fg⟩) (fun _ _ h => h.elim) (fun k w1 x y hk h _ => ?_)).mono ?_
  · have hl := h.lt
    rw [app1]
    have st : ∀ {e : Ending} {w3 : World}, e = .returned (.bool true) ∧ WJ 5 w2 g X b v (b.last - b.base) (k + 1) w3 → ∃ y, e = .returned (.bool y) ∧ if y then WJ 5 w2 g X b v (b.last - b.base) (k + 1) w3 else False := fun h => ⟨true, h.1, h.2⟩
    match k, hk with
    | 0, _ => exact (h.step hgX hXl hW rfl h.box.1 (by show g < _; omega)).mono fun _ _ => st
    | 1, _ => exact (h.step hgX hXl hW rfl h.span hl).mono fun _ _ => st
    | 2, _ => exact (h.step hgX hXl hW rfl h.box.2.2.1 (by show g < _; omega)).mono fun _ _ => st
    | 3, _ => exact (h.step hgX hXl hW rfl h.box.2.2.2.1 (by show g < _; omega)).mono fun _ _ => st
    | 4, _ => exact (h.step hgX hXl hW rfl h.box.2.2.2.2.1 (by show g < _; omega)).mono fun _ _ => st
    | 5, _ => exact (h.step hgX hXl hW rfl h.box.2.2.2.2.2.1 (by show g < _; omega)).mono fun _ _ => st
    | 6, _ => exact (h.step hgX hXl hW rfl h.box.2.2.2.2.2.2.1 (by show g < _; omega)).mono fun _ _ => st
  rintro e w' ⟨y, rfl, w1, x0, y0, hs, hj, rfl⟩
  cases y
  · obtain ⟨_, _, h⟩ := hj
    exact h.elim
  obtain ⟨⟨A, n, c, hown, hXc⟩, fx, box, fg, span, lt, bel⟩ := hj
  obtain ⟨s0, s1, -, -⟩ := hs
  have e0 : b.base = x0 := by have h := box.1.symm.trans s0; injection h with h; injection h
  have e1 : b.last - b.base = y0 := by have h := span.symm.trans s1; injection h with h; injection h
  rw [← e1, ← e0, hla]
  refine ⟨rfl, A, n, c, ?_, ?_, (frozen_set _ _ _ _).trans fx, box.put1.drew, (bel.setCell (by show g ≤ g; omega) _).drew, ?_⟩
  · exact OwnB.more (ownsRow_setCell_below hown (by show g < _; omega) _) (by omega)
  · exact (cell_off (p := ⟨X, 0, none⟩) (by simp; omega)).trans hXc
  · show _ < (w1.setCell _ _).heap.size
    simpa [World.setCell] using lt
end Go.Proofs.YtejcjmiofidedaaGreatDoor.Bat

/- The contracts of bytes.Equal, and the landed mark. -/
namespace Go.Proofs.YtejcjmiofidedaaGreatDoor.Bat
open Go.RowKit Oct Rec Crc Lay RowF

theorem eqlB_any (A1 A2 : Option Addr) (n1 c1 n2 c2 : Nat) (l1 l2 : List UInt8) (B1 B2 : Nat) (w : World) (h1 : Rd w B1 A1 n1 l1) (h2 : Rd w B2 A2 n2 l2) :
    Calls Tryz.prog 152 #[.slice A1 n1 c1, .slice A2 n2 c2] w fun e w' => e = .returned (.bool (sameB l1 l2)) ∧ w = w' := by
  have r1 := run_toString (P := Tryz.prog) w 57 9 5 Tryz.underlying57 Tryz.underlying5 Tryz.underlying9 B1 A1 n1 c1 l1 h1
  have r2 := run_toString (P := Tryz.prog) w 57 9 5 Tryz.underlying57 Tryz.underlying5 Tryz.underlying9 B2 A2 n2 c2 l2 h2
  clear h1 h2
  go_enter Tryz.func152, Tryz.ntmps152
  go_wp2
  go_ret
  exact ⟨rfl, rfl⟩
set_option maxRecDepth 100000 in
theorem mark_any (ba la fr ep pi ge se : Int) (tx : Bool) (ct : Int) (rs : List Rc) (A : Option Addr) (n c : Nat) (w : World) (h0 : 0 ≤ ct) (h1 : ct ≤ 2) :
    Calls Tryz.prog 123 #[.agg #[.int .i64 ba, .int .i64 la, .int .i64 fr, .int .i64 ep, .int .i64 pi, .int .i64 ge, .int .i64 se, .bool tx, .int .i64 ct, .slice A n c]] w fun e w' => e = .returned (.int .u8 ((mark ⟨ba, la, fr, ep, pi, ge, se, tx, ct, rs⟩).toNat : Int)) ∧ Below w.heap.size w w' := by
  have hm := mark_num (b := ⟨ba, la, fr, ep, pi, ge, se, tx, ct, rs⟩) h0 (by simp only; omega)
  simp only at hm
  rw [hm]
  rcases tx with _ | _
  · have hv : ((ct.toNat + if false = true then 4 else 0 : Nat) : Int) = ct := by simp; omega
    rw [hv]
    clear hm hv
    go_enter Tryz.func123, Tryz.ntmps123
    go_wp2
    go_ret
    exact ⟨rfl, (Below.refl _ _).alloc (Nat.le_refl _) _⟩
  · have hv : ((ct.toNat + if true = true then 4 else 0 : Nat) : Int) = ct + 4 := by simp; omega
    rw [hv]
    clear hm hv
    go_enter Tryz.func123, Tryz.ntmps123
    go_wp2
    go_ret
    exact ⟨rfl, (Below.refl _ _).alloc (Nat.le_refl _) _⟩
end Go.Proofs.YtejcjmiofidedaaGreatDoor.Bat

/- The contract of the landed write: a batch's body. -/
namespace Go.Proofs.YtejcjmiofidedaaGreatDoor.Bat
open Go.RowKit Oct Rec Crc Lay RowF

def wrRel (e : TypeId) (g X B : Nat) (b : Bt) (v : Value) (pre : List UInt8) (st : Int) (n : Nat) (w : World) (i : Value) (wr : World) : Prop :=
  ∃ (k m : Nat) (A : Option Addr) (c : Nat), i = .int .i64 (k : Int) ∧ k ≤ n ∧ OwnB wr e B (.slice A m c) m (pre ++ rs b.base st (b.recs.take k)) ∧ wr.cell? ⟨X, 0, none⟩ = some (.slice A m c) ∧ wr.frozen? ⟨X, 0, none⟩ = false ∧ BoxB wr g b v ∧ Below g w wr ∧ B ≤ wr.heap.size
set_option maxRecDepth 100000 in
set_option maxHeartbeats 8000000 in
theorem write_any (ba la fr ep pi ge se : Int) (tx : Bool) (ct : Int) (rs0 : List Rc) (A : Option Addr) (n c : Nat) (w : World) (hF : Form ⟨ba, la, fr, ep, pi, ge, se, tx, ct, rs0⟩) (hr : RdR w w.heap.size A n rs0) :
    Calls Tryz.prog 104 #[.agg #[.int .i64 ba, .int .i64 la, .int .i64 fr, .int .i64 ep, .int .i64 pi, .int .i64 ge, .int .i64 se, .bool tx, .int .i64 ct, .slice A n c]] w (RB 5 w.heap.size w (body ⟨ba, la, fr, ep, pi, ge, se, tx, ct, rs0⟩)) := by
  have hI := u8row
  obtain ⟨BD, hBD⟩ : ∃ l, body ⟨ba, la, fr, ep, pi, ge, se, tx, ct, rs0⟩ = l := ⟨_, rfl⟩
  rw [hBD]
  have HBD := Lib.hid hBD
  clear hBD
  have hbox := boxB_new w 39 ⟨ba, la, fr, ep, pi, ge, se, tx, ct, rs0⟩ (.slice A n c)
  have hfz : (w.alloc (.cells #[.int .i64 ba, .int .i64 la, .int .i64 fr, .int .i64 ep, .int .i64 pi, .int .i64 ge, .int .i64 se, .bool tx, .int .i64 ct, .slice A n c] 39)).frozen? ⟨w.heap.size, 1, none⟩ = false := by simp [go_sem]
  have hb1 := bel_alloc (Below.refl w.heap.size w) (.cells #[.int .i64 ba, .int .i64 la, .int .i64 fr, .int .i64 ep, .int .i64 pi, .int .i64 ge, .int .i64 se, .bool tx, .int .i64 ct, .slice A n c] 39)
  have hs1 : (w.alloc (.cells #[.int .i64 ba, .int .i64 la, .int .i64 fr, .int .i64 ep, .int .i64 pi, .int .i64 ge, .int .i64 se, .bool tx, .int .i64 ct, .slice A n c] 39)).heap.size = w.heap.size + 1 := by simp
  have HE := Lib.hid (fun (w1 : World) (hb : BoxB w1 w.heap.size ⟨ba, la, fr, ep, pi, ge, se, tx, ct, rs0⟩ (.slice A n c)) (hz : w1.frozen? ⟨w.heap.size, 1, none⟩ = false) (hs : w1.heap.size = w.heap.size + 1) =>
    wrEach (w1.alloc (.cells #[.slice none 0 0] 57)) w.heap.size (w.heap.size + 1) ⟨ba, la, fr, ep, pi, ge, se, tx, ct, rs0⟩ (.slice A n c) (hb.below (bel_alloc (Below.refl _ _) _) (by omega)) ((World.frozen?_alloc_past _ _ _ (by show w.heap.size < w1.heap.size; omega)).trans hz) (by rw [← hs]; simp [go_sem]) (by rw [← hs]; simp [go_sem]) (by omega) (by simp; omega) hF)
  have HF := Lib.hid hF
  have HR := Lib.hid hr
  have HBX := Lib.hid hbox
  have HFZ := Lib.hid hfz
  have HB1 := Lib.hid hb1
  have hn16 := hF.few
  have hlen := hr.len
  have hn : n ≤ 16 := by simp only at hn16; omega
  have hct0 := hF.ctl0
  have hct2 := hF.ctl1
  simp only at hct0 hct2
  clear hF hr hbox hfz hb1 hn16
  go_enter Tryz.func104, Tryz.ntmps104
  generalize hw1 : w.alloc (.cells #[.int .i64 ba, .int .i64 la, .int .i64 fr, .int .i64 ep, .int .i64 pi, .int .i64 ge, .int .i64 se, .bool tx, .int .i64 ct, .slice A n c] 39) = w1 at HBX HFZ HB1 hs1
  have hg3 : w.heap.size < w.heap.size + 1 := by omega
  go_upto_region 3 with (first | (go_at_call 119; (with_reducible refine (HE.out w1 HBX.out HFZ.out hs1).mono ?_); rintro e w3 ⟨rfl, A3, n3, c3, hown3, hX3, fX3, hbox3, hb3, hs3⟩; have HO3 := Lib.hid hown3; have HBX3 := Lib.hid hbox3; have HB3 := Lib.hid hb3; have HS3 := Lib.hid hs3; obtain ⟨y3_0, y3_1, y3_2, y3_3, y3_4, y3_5, y3_6, y3_7, y3_8, y3_9⟩ := HBX3.out; simp only at y3_0 y3_1 y3_2 y3_3 y3_4 y3_5 y3_6 y3_7 y3_8 y3_9; have hl3 := hown3.len; clear hown3 hbox3 hb3 hs3))
  have hw2 : (w1.alloc (.cells #[.slice none 0 0] 57)).heap.size = w.heap.size + 2 := by simp; omega
  rw [hw2] at HO3 HS3
  have hs3 := HS3.out
  have hn3 : n3 ≤ 70 := by
    have h := vs_ten HF.out.heads
    rw [hl3] at h
    simpa [hd] using h
  clear hl3
  obtain ⟨mk, hmk⟩ : ∃ mk, mark ⟨ba, la, fr, ep, pi, ge, se, tx, ct, rs0⟩ = mk := ⟨_, rfl⟩
  have HM := Lib.hid (fun w' : World => (hmk ▸ mark_any ba la fr ep pi ge se tx ct rs0 A n c w' hct0 hct2 : Calls Tryz.prog 123 #[.agg #[.int .i64 ba, .int .i64 la, .int .i64 fr, .int .i64 ep, .int .i64 pi, .int .i64 ge, .int .i64 se, .bool tx, .int .i64 ct, .slice A n c]] w' fun e w'' => e = .returned (.int .u8 (mk.toNat : Int)) ∧ Below w'.heap.size w' w''))
  have HMK := Lib.hid hmk
  clear hmk
  go_cut [] (fun wx => ∃ A5 c5, OwnB wx 5 (w.heap.size + 2) (.slice A5 (n3 + 1) c5) (n3 + 1) (vs (hd ⟨ba, la, fr, ep, pi, ge, se, tx, ct, rs0⟩) ++ [mk]) ∧ wx.cell? ⟨w.heap.size + 1, 0, none⟩ = some (.slice A5 (n3 + 1) c5) ∧ wx.frozen? ⟨w.heap.size + 1, 0, none⟩ = false ∧ BoxB wx w.heap.size ⟨ba, la, fr, ep, pi, ge, se, tx, ct, rs0⟩ (.slice A n c) ∧ Below w.heap.size w3 wx)
  case first =>
    go_region_law (first
      | (refine step_appB _ rfl _ _ 57 rfl (w.heap.size + 2) 5 Tryz.underlying57 hI _ n3 _ rfl (HO4.out.alloc _) _ (some ⟨w4.heap.size, 0, none⟩) 1 1 [mk] rfl (new1 w4 5 mk) (by omega) (by simp; omega) ?_; intro A5 c5 w5 hown5 hb5; have hX5 := (hb5.cell (p := ⟨w.heap.size + 1, 0, none⟩) (show w.heap.size + 1 < w.heap.size + 2 by omega)).trans ((World.cell?_alloc_past _ _ _ (show w.heap.size + 1 < w4.heap.size by omega)).trans hX4); have fX5 := (hb5.frozen (p := ⟨w.heap.size + 1, 0, none⟩) (show w.heap.size + 1 < w.heap.size + 2 by omega)).trans ((World.frozen?_alloc_past _ _ _ (show w.heap.size + 1 < w4.heap.size by omega)).trans fX4); have HO5 := Lib.hid hown5; have HB5 := Lib.hid hb5; clear hown5 hb5)
      | (go_simp; go_at_call 123; (with_reducible refine (HM.out _).mono ?_); rintro e w4 ⟨rfl, hb4⟩; have hb34 := below_undrew hb4; have hs4 : w3.heap.size ≤ w4.heap.size := hb34.size; have hlt4 : w.heap.size + 1 < w4.heap.size := (by omega); have hX4 := (hb34.cell (p := ⟨w.heap.size + 1, 0, none⟩) (show w.heap.size + 1 < w3.heap.size by omega)).trans hX3; have fX4 := (hb34.frozen (p := ⟨w.heap.size + 1, 0, none⟩) (show w.heap.size + 1 < w3.heap.size by omega)).trans fX3; have HB4 := Lib.hid (show Below w3.heap.size w3 w4 from hb34); have HO4 := Lib.hid (HO3.out.below hb34); clear hb4 hb34))
    all_goals (go_wp2_with fail; go_meet)
    all_goals exact ⟨A5, c5, ownsRow_setCell_below HO5.out (show w.heap.size + 1 < w.heap.size + 2 by omega) _, World.cell?_setCell_same _ _ _ hX5, (frozen_set _ _ _ _).trans fX5, ((((HBX3.out.below HB4.out (by omega)).below (bel_alloc (Below.refl _ _) _) (by omega)).below HB5.out (by omega)).set (by omega)), (((HB4.out.mono (by omega)).alloc (by omega) _).trans (HB5.out.mono (by omega))).setCell (show w.heap.size ≤ w.heap.size + 1 by omega) _⟩
  case rest =>
    obtain ⟨A5, c5, hown5, hX5, fX5, hbox5, hb5⟩ := hcut
    have HO5 := Lib.hid hown5
    have HBX5 := Lib.hid hbox5
    have HB5 := Lib.hid ((HB1.out.trans ((bel_alloc (Below.refl _ _) _).mono (by omega))).trans (HB3.out.trans hb5))
    have hs5 : w.heap.size + 2 < wc.heap.size := by
      obtain ⟨g5, cap5, _, hg5, hl5⟩ := World.ownsRow.form hown5 (by omega)
      omega
    clear y3_0 y3_1 y3_2 y3_3 y3_4 y3_5 y3_6 y3_7 y3_8 y3_9
    obtain ⟨y5_0, y5_1, y5_2, y5_3, y5_4, y5_5, y5_6, y5_7, y5_8, y5_9⟩ := hbox5
    simp only at y5_0 y5_1 y5_2 y5_3 y5_4 y5_5 y5_6 y5_7 y5_8 y5_9
    clear hown5 hb5 hX3 fX3
    by_cases hn0 : n = 0
    · have hrs : rs0 = [] := List.eq_nil_of_length_eq_zero (hlen.trans hn0)
      have HB0 := Lib.hid (show vs (hd ⟨ba, la, fr, ep, pi, ge, se, tx, ct, rs0⟩) ++ [mk] ++ vb (zz 0) = BD by
        rw [← HBD.out, ← HMK.out]
        subst hrs
        simp [body, tl])
      subst hn0
      clear hrs
      go_wp2_with (first | (go_at_call 122; (with_reducible refine (PutVar_any A5 (n3 + 1) c5 0 _ _ wc HO5.out.rd (Nat.le_refl _) (by omega) (by omega) (by omega)).mono ?_); rintro e w6 ⟨A6, n6, c6, rfl, hown6, hb6⟩; have HO6 := Lib.hid hown6; have HB6 := Lib.hid hb6; have hs6 := hb6.size; have hX6 := (hb6.cell (p := ⟨w.heap.size + 1, 0, none⟩) (show w.heap.size + 1 < wc.heap.size by omega)).trans hX5; have fX6 := (hb6.frozen (p := ⟨w.heap.size + 1, 0, none⟩) (show w.heap.size + 1 < wc.heap.size by omega)).trans fX5; have y6_9 := (hb6.cell (p := ⟨w.heap.size, 9, none⟩) (show w.heap.size < wc.heap.size by omega)).trans y5_9; have HBX6 := Lib.hid (HBX5.out.below hb6 (by omega)); clear hown6 hb6))
      go_ret
      refine ⟨A6, n6, c6, rfl, ?_, (HB5.out.trans (HB6.out.mono (by omega))).setCell (show w.heap.size ≤ w.heap.size + 1 by omega) _⟩
      rw [← HB0.out]
      exact OwnB.more (ownsRow_setCell_below HO6.out (show w.heap.size + 1 < wc.heap.size by omega) _) (by omega)
    · have hn0' : ((n : Int) == 0) = false := beqF (by omega)
      have hRC := HR.out.below HB5.out (Nat.le_refl _)
      obtain ⟨b0, o0, r0, hA0, hbb0, hr0, hat0⟩ := hRC.at (show 0 < n by omega)
      obtain ⟨st, hst⟩ : ∃ st, r0.stamp = st := ⟨_, rfl⟩
      have g5 := hat0.2.2.2.2
      rw [hst, Nat.zero_mul, Nat.add_zero] at g5
      have hm0 := may_iff.1 (HF.out.mays _ (List.mem_of_getElem? hr0))
      rw [hst] at hm0
      obtain ⟨-, ⟨hst0, hst1⟩, -, -, -⟩ := hm0
      have HBE := Lib.hid (show vs (hd ⟨ba, la, fr, ep, pi, ge, se, tx, ct, rs0⟩) ++ [mk] ++ vb (zz (n : Int)) ++ vb (zz st) ++ rs ba st rs0 = BD by
        rw [← HBD.out, ← HMK.out]
        cases rs0 with
        | nil => simp at hr0
        | cons x l =>
          have hx : x = r0 := by simpa using hr0
          subst hx
          rw [← hst]
          simp only [body, tl]
          rw [show (((x :: l).length : Nat) : Int) = (n : Int) by rw [hlen]]
          simp [List.append_assoc])
      subst hA0
      have hne0 : ¬ b0 = w.heap.size + 1 := by omega
      have hne1 : ¬ w.heap.size + 1 = b0 := by omega
      clear hat0 hr0 hst hRC
      obtain ⟨pre, hpre⟩ : ∃ l, vs (hd ⟨ba, la, fr, ep, pi, ge, se, tx, ct, rs0⟩) ++ [mk] ++ vb (zz (n : Int)) ++ vb (zz st) = l := ⟨_, rfl⟩
      have HPRE := Lib.hid hpre
      have hpl : pre.length ≤ 200 := by
        rw [← hpre]
        have h1 := vs_ten HF.out.heads
        have h2 := vb_ten (zz_lt (n := (n : Int)) (by omega))
        have h3 := vb_ten (zz_lt (n := st) (by omega))
        simp only [List.length_append, List.length_singleton]
        simp only [hd, List.length_cons, List.length_nil] at h1 ⊢
        omega
      clear hpre
      go_wp2_with (first
        | (go_at_call 122; (with_reducible refine (PutVar_any A6 n6 c6 st _ _ _ HO6s.out.rd (Nat.le_refl _) (by omega) (by omega) (by omega)).mono ?_); rintro e w7 ⟨A7, n7, c7, rfl, hown7, hb7⟩; have HO7 := Lib.hid hown7; have HB7 := Lib.hid hb7; have hs7 := hb7.size; have hX7 := (hb7.cell (p := ⟨w.heap.size + 1, 0, none⟩) (show w.heap.size + 1 < _ by omega)).trans (World.cell?_setCell_same _ _ _ hX6); have fX7 := (hb7.frozen (p := ⟨w.heap.size + 1, 0, none⟩) (show w.heap.size + 1 < _ by omega)).trans ((frozen_set _ _ _ _).trans fX6); have HBX7 := Lib.hid (HBX6s.out.below hb7 (by omega)); have hl7 := hown7.len; have hn7 : n7 ≤ 110 := (by rw [List.length_append, HO6s.out.len] at hl7; have := vb_ten (zz_lt (n := st) (by omega)); omega); have y7_9 := (hb7.cell (p := ⟨w.heap.size, 9, none⟩) (show w.heap.size < _ by omega)).trans HBX6s.out.2.2.2.2.2.2.2.2.2; clear hown7 hb7 hl7)
        | (go_at_call 122; (with_reducible refine (PutVar_any A5 (n3 + 1) c5 (n : Int) _ _ wc HO5.out.rd (Nat.le_refl _) (by omega) (by omega) (by omega)).mono ?_); rintro e w6 ⟨A6, n6, c6, rfl, hown6, hb6⟩; have HO6 := Lib.hid hown6; have HB6 := Lib.hid hb6; have hs6 := hb6.size; have hX6 := (hb6.cell (p := ⟨w.heap.size + 1, 0, none⟩) (show w.heap.size + 1 < wc.heap.size by omega)).trans hX5; have fX6 := (hb6.frozen (p := ⟨w.heap.size + 1, 0, none⟩) (show w.heap.size + 1 < wc.heap.size by omega)).trans fX5; have y6_9 := (hb6.cell (p := ⟨w.heap.size, 9, none⟩) (show w.heap.size < wc.heap.size by omega)).trans y5_9; have HBX6 := Lib.hid (HBX5.out.below hb6 (by omega)); have g6 := (hb6.cell (p := ⟨b0, o0 + 4, none⟩) (show b0 < wc.heap.size by omega)).trans g5; have hl6 := hown6.len; have hn6 : n6 ≤ 90 := (by rw [List.length_append, HO5.out.len] at hl6; have := vb_ten (zz_lt (n := (n : Int)) (by omega)); omega); have HO6s := Lib.hid (show OwnB (w6.setCell ⟨w.heap.size + 1, 0, none⟩ (.slice A6 n6 c6)) 5 wc.heap.size (.slice A6 n6 c6) n6 _ from ownsRow_setCell_below hown6 (show w.heap.size + 1 < wc.heap.size by omega) _); have hsz6 : (w6.setCell ⟨w.heap.size + 1, 0, none⟩ (.slice A6 n6 c6)).heap.size = w6.heap.size := (by simp [World.setCell]); have HBX6s := Lib.hid (show BoxB (w6.setCell ⟨w.heap.size + 1, 0, none⟩ (.slice A6 n6 c6)) w.heap.size ⟨ba, la, fr, ep, pi, ge, se, tx, ct, rs0⟩ (.slice (some ⟨b0, o0, none⟩) n c) from HBX6.out.set (by omega)); have HB6s := Lib.hid (show Below w.heap.size w (w6.setCell ⟨w.heap.size + 1, 0, none⟩ (.slice A6 n6 c6)) from (HB5.out.trans (hb6.mono (by omega))).setCell (show w.heap.size ≤ w.heap.size + 1 by omega) _); clear hown6 hb6 hl6))
      have hbr : inR ba = true := inR_iff.2 ⟨HF.out.base0, HF.out.base1⟩
      have hsr : inR st = true := inR_iff.2 ⟨hst0, hst1⟩
      have hb64 := inR_iff.1 hbr
      have HO8 := Lib.hid (show OwnB (w7.setCell ⟨w.heap.size + 1, 0, none⟩ (.slice A7 n7 c7)) 5 wc.heap.size (.slice A7 n7 c7) n7 (pre ++ rs ba st (rs0.take 0)) by
        rw [List.take_zero, rs, List.append_nil, ← HPRE.out]
        exact OwnB.more (ownsRow_setCell_below HO7.out (show w.heap.size + 1 < _ by omega) _) (by omega))
      have HB8 := Lib.hid (show Below w.heap.size w (w7.setCell ⟨w.heap.size + 1, 0, none⟩ (.slice A7 n7 c7)) from (HB6s.out.trans (HB7.out.mono (by omega))).setCell (show w.heap.size ≤ w.heap.size + 1 by omega) _)
      have HBX8 := Lib.hid (show BoxB (w7.setCell ⟨w.heap.size + 1, 0, none⟩ (.slice A7 n7 c7)) w.heap.size ⟨ba, la, fr, ep, pi, ge, se, tx, ct, rs0⟩ (.slice (some ⟨b0, o0, none⟩) n c) from HBX7.out.set (by omega))
      have hX8 : (w7.setCell ⟨w.heap.size + 1, 0, none⟩ (.slice A7 n7 c7)).cell? ⟨w.heap.size + 1, 0, none⟩ = some (.slice A7 n7 c7) := World.cell?_setCell_same _ _ _ hX7
      have fX8 : (w7.setCell ⟨w.heap.size + 1, 0, none⟩ (.slice A7 n7 c7)).frozen? ⟨w.heap.size + 1, 0, none⟩ = false := (frozen_set _ _ _ _).trans fX7
      have hs8 : (w7.setCell ⟨w.heap.size + 1, 0, none⟩ (.slice A7 n7 c7)).heap.size = w7.heap.size := by simp [World.setCell]
      generalize hw8 : w7.setCell ⟨w.heap.size + 1, 0, none⟩ (.slice A7 n7 c7) = w8 at HO8 HB8 HBX8 hX8 fX8 hs8 ⊢
      clear hw8
      clear hX7 fX7 y7_9 hX6 fX6 y6_9 g6 g5
      clear y5_0 y5_1 y5_2 y5_3 y5_4 y5_5 y5_6 y5_7 y5_8 y5_9 hX5 fX5
      have hwc8 : wc.heap.size ≤ w8.heap.size := by omega
      clear hsz6 hs6 hs7 hs8
      go_loopw [37] (fun i wr => wrRel 5 w.heap.size (w.heap.size + 1) wc.heap.size ⟨ba, la, fr, ep, pi, ge, se, tx, ct, rs0⟩ (.slice (some ⟨b0, o0, none⟩) n c) pre st n w i wr) (fun i _ => n - (intOf i).toNat)
      case atStart => exact ⟨0, n7, A7, c7, rfl, Nat.zero_le _, HO8.out, hX8, fX8, HBX8.out, HB8.out, hwc8⟩
      case round =>
        obtain ⟨k, m, A9, c9, rfl, hk, hown9, hX9, fX9, hbox9, hb9, hs9⟩ := hrel
        simp only at hown9
        have hl9 := hown9.len
        have hm9 : m ≤ 2600 := by
          have h1 := rs_145 (l := rs0.take k) (fun r hr => HF.out.mays r (List.mem_of_mem_take hr)) hbr hsr
          rw [List.length_append] at hl9
          rw [List.length_take] at h1
          omega
        have HO9 := Lib.hid hown9
        have HB9 := Lib.hid hb9
        have HBX9 := Lib.hid hbox9
        have hws : w.heap.size + 2 < wr.heap.size := by omega
        clear hl9
        by_cases hlt : k < n
        · obtain ⟨b, o, r, hA, hbb, hrk, hat⟩ := (HR.out.below HB9.out (Nat.le_refl _)).at hlt
          obtain ⟨rfl, rfl⟩ : b0 = b ∧ o0 = o := by simpa using hA
          obtain ⟨ro, rk, rv, rd, rt⟩ := r
          obtain ⟨a0, a1, a2, a3, a4⟩ := hat
          simp only at a0 a1 a2 a3 a4
          have hmay := HF.out.mays _ (List.mem_of_getElem? hrk)
          obtain ⟨mo, mt, mk1, mv1, -⟩ := may_iff.1 hmay
          simp only at mo mt mk1 mv1
          have HP := Lib.hid (fun w' : World => (show Calls Tryz.prog 124 #[.agg #[.int .i64 ro, .string rk, .string rv, .bool rd, .int .i64 rt], .int .i64 ba, .int .i64 st] w' (OPr 5 w'.heap.size w' (rb ⟨ro, rk, rv, rd, rt⟩ ba st) 0) by
            have h := Put_any' ro rt rk rv rd ba st w' (by omega) (by omega) (by omega) (by omega) (by omega) (by omega)
            rw [pt_yes hmay hbr hsr] at h
            exact h))
          have hlb := (rb_size hmay hbr hsr).2.1
          have HST := Lib.hid (rs_take (ba := ba) (st := st) hrk)
          have hb10 := bel_alloc (Below.refl wr.heap.size wr) (.cells #[.int .i64 ro, .string rk, .string rv, .bool rd, .int .i64 rt] 79)
          have hs10 : (wr.alloc (.cells #[.int .i64 ro, .string rk, .string rv, .bool rd, .int .i64 rt] 79)).heap.size = wr.heap.size + 1 := by simp
          have HBX10 := Lib.hid (hbox9.below hb10 (by omega))
          have HO10 := Lib.hid (HO9.out.alloc (.cells #[.int .i64 ro, .string rk, .string rv, .bool rd, .int .i64 rt] 79))
          have hX10 := (hb10.cell (p := ⟨w.heap.size + 1, 0, none⟩) (show w.heap.size + 1 < wr.heap.size by omega)).trans hX9
          have fX10 := (hb10.frozen (p := ⟨w.heap.size + 1, 0, none⟩) (show w.heap.size + 1 < wr.heap.size by omega)).trans fX9
          have HB10 := Lib.hid (HB9.out.trans (hb10.mono (by omega)))
          have HX := Lib.hid (box_new wr 79 ⟨ro, rk, rv, rd, rt⟩)
          obtain ⟨x0, x1, x2, x3, x4⟩ := box_new wr 79 ⟨ro, rk, rv, rd, rt⟩
          obtain ⟨z0, z1, z2, z3, z4, z5, z6, z7, z8, z9⟩ := hbox9
          have u0 := HBX10.out.1
          simp only at z0 z1 z2 z3 z4 z5 z6 z7 z8 z9 u0
          clear hrk hmay hA hbb hown9 hb9 hb10 mo mt mk1 mv1
          go_wp2_with (first
            | (go_at_call 124; (with_reducible refine (HP.out _).mono ?_); rintro e w11 ⟨A11, n11, c11, rfl, hown11, hb11⟩; have HO11 := Lib.hid hown11; have HB11 := Lib.hid hb11; have hs11 := hb11.size; have hX11 := (hb11.cell (p := ⟨w.heap.size + 1, 0, none⟩) (show w.heap.size + 1 < _ by omega)).trans hX10; have fX11 := (hb11.frozen (p := ⟨w.heap.size + 1, 0, none⟩) (show w.heap.size + 1 < _ by omega)).trans fX10; have hl11 := hown11.len; have hn11 : n11 ≤ 145 := (by omega); clear hown11 hb11 hl11)
            | (at_builtin; refine wpList_appB _ rfl _ _ 57 rfl wc.heap.size 5 Tryz.underlying57 hI _ m _ rfl (HO10.out.below HB11.out) _ A11 n11 c11 _ rfl HO11.out.rd (by omega) (by omega) ?_; intro A12 c12 w12 hown12 hb12; have HO12 := Lib.hid hown12; have HB12 := Lib.hid hb12; have hs12 := hb12.size; have hX12 := (hb12.cell (p := ⟨w.heap.size + 1, 0, none⟩) (show w.heap.size + 1 < wc.heap.size by omega)).trans hX11; have fX12 := (hb12.frozen (p := ⟨w.heap.size + 1, 0, none⟩) (show w.heap.size + 1 < wc.heap.size by omega)).trans fX11; clear hown12 hb12))
          go_roundw
          case rel =>
            refine ⟨k + 1, m + n11, A12, c12, by go_num, by omega, ?_, World.cell?_setCell_same _ _ _ hX12, (frozen_set _ _ _ _).trans fX12, (((HBX10.out.below HB11.out (by omega)).below HB12.out (by omega)).set (by omega)), ?_, ?_⟩
            · simp only
              rw [HST.out, ← List.append_assoc]
              exact ownsRow_setCell_below HO12.out (show w.heap.size + 1 < wc.heap.size by omega) _
            · exact ((HB10.out.trans (HB11.out.mono (by omega))).trans (HB12.out.mono (by omega))).setCell (show w.heap.size ≤ w.heap.size + 1 by omega) _
            · simp [World.setCell]; omega
          case measure => simp [intOf]; omega
        · have hkn : k = n := by omega
          clear hown9 hb9 hbox9
          go_wp2
          go_ret
          refine ⟨A9, m, c9, rfl, ?_, HB9.out⟩
          have h := HO9.out
          rw [hkn, List.take_of_length_le (by omega), ← HPRE.out, HBE.out] at h
          exact h.more (by omega)
end Go.Proofs.YtejcjmiofidedaaGreatDoor.Bat

/- The contracts of the landed bodyOf, Check, Size and Put. -/
namespace Go.Proofs.YtejcjmiofidedaaGreatDoor.Bat
open Go.RowKit Oct Rec Crc

theorem Put4 (x : Nat) (w : World) : Calls Tryz.prog 133 #[.slice none 0 0, .int .u64 (x : Int), .int .i64 4] w (RB 5 w.heap.size w (beN x 4 4)) := by
  have h := Put_yes none 0 0 x 4 [] 0 w Rd.nil (Nat.zero_le _) (by omega) (by omega) (by omega)
  exact h
theorem body_few {b : Bt} (hF : Form b) : (body b).length ≤ 1000000 := by
  have h1 := vs_ten hF.heads
  have h2 := hF.few
  have h3 := vb_ten (zz_lt (n := (b.recs.length : Int)) (by omega))
  have h4 : (tl b.base b.recs).length ≤ 10 + 145 * b.recs.length := by
    cases hr : b.recs with
    | nil => simp [tl]
    | cons x l =>
      have hm := hF.mays
      rw [hr] at hm
      have hx := may_iff.1 (hm x (by simp))
      have h5 := rs_145 (st := x.stamp) hm (inR_iff.2 ⟨hF.base0, hF.base1⟩) (inR_iff.2 hx.2.1)
      have h6 := vb_ten (zz_lt (n := x.stamp) (by omega))
      rw [tl, List.length_append]
      omega
  unfold body
  simp only [List.length_append, List.length_singleton]
  simp only [hd, List.length_cons, List.length_nil] at h1 ⊢
  omega
def boB (b : Bt) : List UInt8 := if chB b = 0 then body b else []
set_option maxRecDepth 100000 in
set_option maxHeartbeats 4000000 in
theorem bodyOf_any (ba la fr ep pi ge se : Int) (tx : Bool) (ct : Int) (rs : List Rc) (A : Option Addr) (n c : Nat) (w : World) (hF : Fits ⟨ba, la, fr, ep, pi, ge, se, tx, ct, rs⟩) (hr : RdR w w.heap.size A n rs) (hn : n ≤ 1099511627776) :
    Calls Tryz.prog 78 #[.agg #[.int .i64 ba, .int .i64 la, .int .i64 fr, .int .i64 ep, .int .i64 pi, .int .i64 ge, .int .i64 se, .bool tx, .int .i64 ct, .slice A n c]] w (OPr 5 w.heap.size w (boB ⟨ba, la, fr, ep, pi, ge, se, tx, ct, rs⟩) (chB ⟨ba, la, fr, ep, pi, ge, se, tx, ct, rs⟩)) := by
  have hb0 := bel_alloc (Below.refl w.heap.size w) (.cells #[.int .i64 ba, .int .i64 la, .int .i64 fr, .int .i64 ep, .int .i64 pi, .int .i64 ge, .int .i64 se, .bool tx, .int .i64 ct, .slice A n c] 39)
  have hrA : ∀ w', Below w.heap.size w w' → RdR w' w'.heap.size A n rs := fun w' hb => (hr.below hb (Nat.le_refl _)).more hb.size
  have HB0 := Lib.hid hb0
  have HRA := Lib.hid hrA
  have HFT := Lib.hid hF
  have HBX := Lib.hid (boxB_new w 39 ⟨ba, la, fr, ep, pi, ge, se, tx, ct, rs⟩ (.slice A n c))
  have hsz : w.heap.size < (w.alloc (.cells #[.int .i64 ba, .int .i64 la, .int .i64 fr, .int .i64 ep, .int .i64 pi, .int .i64 ge, .int .i64 se, .bool tx, .int .i64 ct, .slice A n c] 39)).heap.size := by simp
  clear hr hF hb0 hrA
  rcases hf : form ⟨ba, la, fr, ep, pi, ge, se, tx, ct, rs⟩ with _ | _
  · have hc : chB ⟨ba, la, fr, ep, pi, ge, se, tx, ct, rs⟩ = 1 := by unfold chB; rw [hf]; rfl
    rw [show boB ⟨ba, la, fr, ep, pi, ge, se, tx, ct, rs⟩ = [] by unfold boB; rw [hc]; rfl, hc]
    clear hc
    go_enter Tryz.func78, Tryz.ntmps78
    go_wp2_with (go_at_call 103; (with_reducible refine (hasForm_any ba la fr ep pi ge se tx ct rs A n c _ HFT.out (HRA.out _ HB0.out) hn hf).mono ?_); rintro e w2 ⟨rfl, hb2⟩; have HB2 := Lib.hid (bel_trans HB0.out hb2); obtain ⟨y0, y1, y2, y3, y4, y5, y6, y7, y8, y9⟩ := HBX.out.below hb2 hsz; simp only at y0 y1 y2 y3 y4 y5 y6 y7 y8 y9; clear hb2)
    go_ret2
    exact ⟨none, 0, 0, rfl, OwnB.nil, HB2.out⟩
  · have HFM := Lib.hid ((form_iff _).1 hf)
    have hbl := byB_length ⟨ba, la, fr, ep, pi, ge, se, tx, ct, rs⟩
    by_cases hlen : 2048 < (byB ⟨ba, la, fr, ep, pi, ge, se, tx, ct, rs⟩).length
    · have hc : chB ⟨ba, la, fr, ep, pi, ge, se, tx, ct, rs⟩ = 2 := by unfold chB; rw [hf, if_pos hlen]; rfl
      rw [show boB ⟨ba, la, fr, ep, pi, ge, se, tx, ct, rs⟩ = [] by unfold boB; rw [hc]; rfl, hc]
      have HL := Lib.hid (show 2040 < (body ⟨ba, la, fr, ep, pi, ge, se, tx, ct, rs⟩).length by omega)
      have HU := Lib.hid (body_few HFM.out)
      clear hc hlen hbl
      go_enter Tryz.func78, Tryz.ntmps78
      go_wp2_with (first | (go_at_call 103; (with_reducible refine (hasForm_any ba la fr ep pi ge se tx ct rs A n c _ HFT.out (HRA.out _ HB0.out) hn hf).mono ?_); rintro e w2 ⟨rfl, hb2⟩; have HB2 := Lib.hid (bel_trans HB0.out hb2); obtain ⟨y0, y1, y2, y3, y4, y5, y6, y7, y8, y9⟩ := HBX.out.below hb2 hsz; simp only at y0 y1 y2 y3 y4 y5 y6 y7 y8 y9; clear hb2) | (go_at_call 104; (with_reducible refine (write_any ba la fr ep pi ge se tx ct rs A n c _ HFM.out (HRA.out _ HB2.out)).mono ?_); rintro e w3 ⟨A3, n3, c3, rfl, hown3, hb3⟩; have hl3 := hown3.len; have HO3 := Lib.hid hown3; have HB3 := Lib.hid (bel_trans HB2.out hb3); have hs23 := HB2.out.size; clear hown3 hb3; have q3 : (2040 : Int) < (n3 : Int) := (by have := HL.out; omega); have q4 : n3 ≤ 1000000 := (by have := HU.out; omega); clear hl3))
      go_ret2
      exact ⟨none, 0, 0, rfl, OwnB.nil, HB3.out⟩
    · have hc : chB ⟨ba, la, fr, ep, pi, ge, se, tx, ct, rs⟩ = 0 := by unfold chB; rw [hf, if_neg hlen]; rfl
      rw [show boB ⟨ba, la, fr, ep, pi, ge, se, tx, ct, rs⟩ = body ⟨ba, la, fr, ep, pi, ge, se, tx, ct, rs⟩ by unfold boB; rw [if_pos hc], hc]
      have HL := Lib.hid (show (body ⟨ba, la, fr, ep, pi, ge, se, tx, ct, rs⟩).length ≤ 2040 by omega)
      clear hc hlen hbl
      go_enter Tryz.func78, Tryz.ntmps78
      go_wp2_with (first | (go_at_call 103; (with_reducible refine (hasForm_any ba la fr ep pi ge se tx ct rs A n c _ HFT.out (HRA.out _ HB0.out) hn hf).mono ?_); rintro e w2 ⟨rfl, hb2⟩; have HB2 := Lib.hid (bel_trans HB0.out hb2); obtain ⟨y0, y1, y2, y3, y4, y5, y6, y7, y8, y9⟩ := HBX.out.below hb2 hsz; simp only at y0 y1 y2 y3 y4 y5 y6 y7 y8 y9; clear hb2) | (go_at_call 104; (with_reducible refine (write_any ba la fr ep pi ge se tx ct rs A n c _ HFM.out (HRA.out _ HB2.out)).mono ?_); rintro e w3 ⟨A3, n3, c3, rfl, hown3, hb3⟩; have hl3 := hown3.len; have HO3 := Lib.hid hown3; have HB3 := Lib.hid (bel_trans HB2.out hb3); have hs23 := HB2.out.size; clear hown3 hb3; have q3 : (n3 : Int) ≤ (2040 : Int) := (by have := HL.out; omega); clear hl3))
      go_ret2
      exact ⟨A3, n3, c3, rfl, HO3.out.more hs23, HB3.out⟩
set_option maxRecDepth 100000 in
set_option maxHeartbeats 4000000 in
theorem BCheck_any (ba la fr ep pi ge se : Int) (tx : Bool) (ct : Int) (rs : List Rc) (A : Option Addr) (n c : Nat) (w : World) (hF : Fits ⟨ba, la, fr, ep, pi, ge, se, tx, ct, rs⟩) (hr : RdR w w.heap.size A n rs) (hn : n ≤ 1099511627776) (ht : Tab w) :
    Calls Tryz.prog 40 #[.agg #[.int .i64 ba, .int .i64 la, .int .i64 fr, .int .i64 ep, .int .i64 pi, .int .i64 ge, .int .i64 se, .bool tx, .int .i64 ct, .slice A n c]] w fun e w' => e = .returned (.int .i64 (chB ⟨ba, la, fr, ep, pi, ge, se, tx, ct, rs⟩)) ∧ Below w.heap.size w w' := by
  have hb0 := bel_alloc (Below.refl w.heap.size w) (.cells #[.int .i64 ba, .int .i64 la, .int .i64 fr, .int .i64 ep, .int .i64 pi, .int .i64 ge, .int .i64 se, .bool tx, .int .i64 ct, .slice A n c] 39)
  have hrA : ∀ w', Below w.heap.size w w' → RdR w' w'.heap.size A n rs := fun w' hb => (hr.below hb (Nat.le_refl _)).more hb.size
  have HB0 := Lib.hid hb0
  have HRA := Lib.hid hrA
  have HFT := Lib.hid hF
  have HBX := Lib.hid (boxB_new w 39 ⟨ba, la, fr, ep, pi, ge, se, tx, ct, rs⟩ (.slice A n c))
  have hsz : w.heap.size < (w.alloc (.cells #[.int .i64 ba, .int .i64 la, .int .i64 fr, .int .i64 ep, .int .i64 pi, .int .i64 ge, .int .i64 se, .bool tx, .int .i64 ct, .slice A n c] 39)).heap.size := by simp
  obtain ⟨z, hz⟩ : ∃ z, chB ⟨ba, la, fr, ep, pi, ge, se, tx, ct, rs⟩ = z := ⟨_, rfl⟩
  obtain ⟨l, hl⟩ : ∃ l, boB ⟨ba, la, fr, ep, pi, ge, se, tx, ct, rs⟩ = l := ⟨_, rfl⟩
  have HC := Lib.hid hz
  have HBO := Lib.hid hl
  have HT := Lib.hid ht
  rw [hz]
  clear hr hF hb0 hrA hz hl ht
  go_enter Tryz.func40, Tryz.ntmps40
  go_wp2_with (go_at_call 78; (with_reducible refine (bodyOf_any ba la fr ep pi ge se tx ct rs A n c _ HFT.out (HRA.out _ HB0.out) hn).mono ?_); rw [HC.out, HBO.out]; rintro e w2 ⟨A2, n2, c2, rfl, hown2, hb2⟩; have HO2 := Lib.hid hown2; have HB2 := Lib.hid (bel_trans HB0.out hb2); have hs2 := hb2.size; have hs0 := HB0.out.size; clear hown2 hb2)
  go_ret
  exact ⟨rfl, HB2.out⟩
set_option maxRecDepth 100000 in
set_option maxHeartbeats 4000000 in
theorem BSize_any (ba la fr ep pi ge se : Int) (tx : Bool) (ct : Int) (rs : List Rc) (A : Option Addr) (n c : Nat) (w : World) (hF : Fits ⟨ba, la, fr, ep, pi, ge, se, tx, ct, rs⟩) (hr : RdR w w.heap.size A n rs) (hn : n ≤ 1099511627776) (ht : Tab w) :
    Calls Tryz.prog 41 #[.agg #[.int .i64 ba, .int .i64 la, .int .i64 fr, .int .i64 ep, .int .i64 pi, .int .i64 ge, .int .i64 se, .bool tx, .int .i64 ct, .slice A n c]] w fun e w' => e = .returned (.int .i64 (szB ⟨ba, la, fr, ep, pi, ge, se, tx, ct, rs⟩)) ∧ Below w.heap.size w w' := by
  have hb0 := bel_alloc (Below.refl w.heap.size w) (.cells #[.int .i64 ba, .int .i64 la, .int .i64 fr, .int .i64 ep, .int .i64 pi, .int .i64 ge, .int .i64 se, .bool tx, .int .i64 ct, .slice A n c] 39)
  have hrA : ∀ w', Below w.heap.size w w' → RdR w' w'.heap.size A n rs := fun w' hb => (hr.below hb (Nat.le_refl _)).more hb.size
  have HB0 := Lib.hid hb0
  have HRA := Lib.hid hrA
  have HFT := Lib.hid hF
  have HBX := Lib.hid (boxB_new w 39 ⟨ba, la, fr, ep, pi, ge, se, tx, ct, rs⟩ (.slice A n c))
  have hsz : w.heap.size < (w.alloc (.cells #[.int .i64 ba, .int .i64 la, .int .i64 fr, .int .i64 ep, .int .i64 pi, .int .i64 ge, .int .i64 se, .bool tx, .int .i64 ct, .slice A n c] 39)).heap.size := by simp
  obtain ⟨z, hz⟩ : ∃ z, chB ⟨ba, la, fr, ep, pi, ge, se, tx, ct, rs⟩ = z := ⟨_, rfl⟩
  obtain ⟨l, hl⟩ : ∃ l, boB ⟨ba, la, fr, ep, pi, ge, se, tx, ct, rs⟩ = l := ⟨_, rfl⟩
  have HC := Lib.hid hz
  have HBO := Lib.hid hl
  have HT := Lib.hid ht
  by_cases h0 : z = 0
  · have hb := byB_length ⟨ba, la, fr, ep, pi, ge, se, tx, ct, rs⟩
    have hll : l = body ⟨ba, la, fr, ep, pi, ge, se, tx, ct, rs⟩ := by rw [← hl]; unfold boB; rw [if_pos (hz.trans h0)]
    have hbig := (chB_form (hz.trans h0)).2
    rw [show szB ⟨ba, la, fr, ep, pi, ge, se, tx, ct, rs⟩ = ((l.length : Nat) : Int) + 8 by unfold szB; rw [if_pos (hz.trans h0), hb, hll]; omega]
    have hl2 : l.length ≤ 2040 := by rw [hll]; omega
    subst h0
    clear hr hF hb0 hrA hz hl ht hb hll hbig
    go_enter Tryz.func41, Tryz.ntmps41
    go_wp2_with (go_at_call 78; (with_reducible refine (bodyOf_any ba la fr ep pi ge se tx ct rs A n c _ HFT.out (HRA.out _ HB0.out) hn).mono ?_); rw [HC.out, HBO.out]; rintro e w2 ⟨A2, n2, c2, rfl, hown2, hb2⟩; have HO2 := Lib.hid hown2; have HB2 := Lib.hid (bel_trans HB0.out hb2); have hs2 := hb2.size; have hs0 := HB0.out.size; clear hown2 hb2; have hl3 := HO2.out.len; have hn2 : n2 ≤ 2040 := (by omega))
    go_ret
    exact ⟨ret_int (by omega), HB2.out⟩
  · rw [show szB ⟨ba, la, fr, ep, pi, ge, se, tx, ct, rs⟩ = 0 by unfold szB; rw [if_neg (by rw [hz]; exact h0)]]
    have e1 : (z != 0) = true := by simp [h0]
    have e2 : (z == 0) = false := beqF h0
    clear hr hF hb0 hrA hz hl ht h0
    go_enter Tryz.func41, Tryz.ntmps41
    go_wp2_with (go_at_call 78; (with_reducible refine (bodyOf_any ba la fr ep pi ge se tx ct rs A n c _ HFT.out (HRA.out _ HB0.out) hn).mono ?_); rw [HC.out, HBO.out]; rintro e w2 ⟨A2, n2, c2, rfl, hown2, hb2⟩; have HO2 := Lib.hid hown2; have HB2 := Lib.hid (bel_trans HB0.out hb2); have hs2 := hb2.size; have hs0 := HB0.out.size; clear hown2 hb2)
    go_ret
    exact ⟨rfl, HB2.out⟩
set_option maxRecDepth 100000 in
set_option maxHeartbeats 4000000 in
theorem BPut_any (ba la fr ep pi ge se : Int) (tx : Bool) (ct : Int) (rs : List Rc) (A : Option Addr) (n c : Nat) (w : World) (hF : Fits ⟨ba, la, fr, ep, pi, ge, se, tx, ct, rs⟩) (hr : RdR w w.heap.size A n rs) (hn : n ≤ 1099511627776) (ht : Tab w) :
    Calls Tryz.prog 109 #[.agg #[.int .i64 ba, .int .i64 la, .int .i64 fr, .int .i64 ep, .int .i64 pi, .int .i64 ge, .int .i64 se, .bool tx, .int .i64 ct, .slice A n c]] w (OPr 5 w.heap.size w (ptB ⟨ba, la, fr, ep, pi, ge, se, tx, ct, rs⟩).1 (ptB ⟨ba, la, fr, ep, pi, ge, se, tx, ct, rs⟩).2) := by
  have hb0 := bel_alloc (Below.refl w.heap.size w) (.cells #[.int .i64 ba, .int .i64 la, .int .i64 fr, .int .i64 ep, .int .i64 pi, .int .i64 ge, .int .i64 se, .bool tx, .int .i64 ct, .slice A n c] 39)
  have hrA : ∀ w', Below w.heap.size w w' → RdR w' w'.heap.size A n rs := fun w' hb => (hr.below hb (Nat.le_refl _)).more hb.size
  have HB0 := Lib.hid hb0
  have HRA := Lib.hid hrA
  have HFT := Lib.hid hF
  have HBX := Lib.hid (boxB_new w 39 ⟨ba, la, fr, ep, pi, ge, se, tx, ct, rs⟩ (.slice A n c))
  have hsz : w.heap.size < (w.alloc (.cells #[.int .i64 ba, .int .i64 la, .int .i64 fr, .int .i64 ep, .int .i64 pi, .int .i64 ge, .int .i64 se, .bool tx, .int .i64 ct, .slice A n c] 39)).heap.size := by simp
  obtain ⟨z, hz⟩ : ∃ z, chB ⟨ba, la, fr, ep, pi, ge, se, tx, ct, rs⟩ = z := ⟨_, rfl⟩
  obtain ⟨l, hl⟩ : ∃ l, boB ⟨ba, la, fr, ep, pi, ge, se, tx, ct, rs⟩ = l := ⟨_, rfl⟩
  have HC := Lib.hid hz
  have HBO := Lib.hid hl
  have HT := Lib.hid ht
  have hI := u8row
  by_cases h0 : z = 0
  · have hll : l = body ⟨ba, la, fr, ep, pi, ge, se, tx, ct, rs⟩ := by rw [← hl]; unfold boB; rw [if_pos (hz.trans h0)]
    have hb := byB_length ⟨ba, la, fr, ep, pi, ge, se, tx, ct, rs⟩
    have hbig := (chB_form (hz.trans h0)).2
    have hl2 : l.length ≤ 2040 := by rw [hll]; omega
    have HP := Lib.hid (show ptB ⟨ba, la, fr, ep, pi, ge, se, tx, ct, rs⟩ = (beN (sealB l).length 4 4 ++ sealB l, 0) by unfold ptB; rw [if_pos (hz.trans h0), byB, hll])
    rw [HP.out]
    simp only
    subst h0
    clear hr hF hb0 hrA hz hl ht hb hll hbig
    go_enter Tryz.func109, Tryz.ntmps109
    go_wp2_with (first
      | (go_at_call 78; (with_reducible refine (bodyOf_any ba la fr ep pi ge se tx ct rs A n c _ HFT.out (HRA.out _ HB0.out) hn).mono ?_); rw [HC.out, HBO.out]; rintro e w2 ⟨A2, n2, c2, rfl, hown2, hb2⟩; have HO2 := Lib.hid hown2; have HB2 := Lib.hid (bel_trans HB0.out hb2); have hs2 := hb2.size; have hs0 := HB0.out.size; clear hown2 hb2; have hl3 := HO2.out.len; have hn2 : n2 ≤ 2040 := (by omega); have HT2 := Lib.hid (HT.out.bel HB2.out))
      | (go_at_call 132; (with_reducible refine (Seal_any A2 n2 c2 _ _ _ HO2.out.rd (Nat.le_refl _) HO2.out.cap (by omega) HT2.out).mono ?_); rintro e w3 ⟨A3, n3, c3, rfl, hown3, hb3⟩; have HL3 := Lib.hid hown3.len; have hn3 : n3 ≤ 2100 := (by have h := HL3.out; rw [sealB_length] at h; omega); have HO3 := Lib.hid hown3; have HB3 := Lib.hid (bel_trans HB2.out hb3); have hs3 := hb3.size; have hwn : IntKind.u64.wrap (n3 : Int) = (n3 : Int) := IntWalk.u64_in _ (by omega); clear hown3 hb3)
      | (go_at_call 133; (with_reducible refine (Put4 n3 _).mono ?_); rintro e w4 ⟨A4, n4, c4, rfl, hown4, hb4⟩; have hn4 : n4 = 4 := (by have h := hown4.len; rw [beN_length] at h; exact h.symm); have HN4 := Lib.hid hn4; have HO4 := Lib.hid hown4; have HB4 := Lib.hid (bel_trans HB3.out hb4); have HO34 := Lib.hid (HO3.out.below hb4); have hs4 := hb4.size; clear hn4 hown4 hb4)
      | (at_builtin; refine wpList_appB _ rfl _ _ 57 rfl w3.heap.size 5 Tryz.underlying57 hI _ n4 _ rfl HO4.out _ A3 n3 c3 _ rfl HO34.out.rd (by have := HN4.out; omega) (by omega) ?_; intro A5 c5 w5 hown5 hb5; have HO5 := Lib.hid hown5; have HB5 := Lib.hid hb5; clear hown5 hb5))
    go_ret2
    refine ⟨A5, _, c5, rfl, ?_, HB4.out.trans (HB5.out.mono (by omega))⟩
    have h := HO5.out
    rw [HL3.out]
    exact h.more (by omega)
  · have HP := Lib.hid (show ptB ⟨ba, la, fr, ep, pi, ge, se, tx, ct, rs⟩ = ([], z) by unfold ptB; rw [if_neg (by rw [hz]; exact h0), hz])
    rw [HP.out]
    simp only
    have e1 : (z != 0) = true := by simp [h0]
    have e2 : (z == 0) = false := beqF h0
    clear hr hF hb0 hrA hz hl ht h0
    go_enter Tryz.func109, Tryz.ntmps109
    go_wp2_with (go_at_call 78; (with_reducible refine (bodyOf_any ba la fr ep pi ge se tx ct rs A n c _ HFT.out (HRA.out _ HB0.out) hn).mono ?_); rw [HC.out, HBO.out]; rintro e w2 ⟨A2, n2, c2, rfl, hown2, hb2⟩; have HO2 := Lib.hid hown2; have HB2 := Lib.hid (bel_trans HB0.out hb2); have hs2 := hb2.size; have hs0 := HB0.out.size; clear hown2 hb2)
    go_ret2
    exact ⟨none, 0, 0, rfl, OwnB.nil, HB2.out⟩
end Go.Proofs.YtejcjmiofidedaaGreatDoor.Bat

/- The contracts of the landed Check, Size and Put, their values written out; a batch in a box. -/
namespace Go.Proofs.YtejcjmiofidedaaGreatDoor.Bat
open Go.RowKit Oct Rec Crc Lay

section
variable (ba la fr ep pi ge se : Int) (tx : Bool) (ct : Int) (rs : List Rc) (A : Option Addr) (n c : Nat) (w : World)
theorem BCheck_is (hf : Fits ⟨ba, la, fr, ep, pi, ge, se, tx, ct, rs⟩) (hr : RdR w w.heap.size A n rs) (hn : n ≤ 1099511627776) (ht : Tab w) {z : Int} (h : chB ⟨ba, la, fr, ep, pi, ge, se, tx, ct, rs⟩ = z) :
    Calls Tryz.prog 40 #[.agg #[.int .i64 ba, .int .i64 la, .int .i64 fr, .int .i64 ep, .int .i64 pi, .int .i64 ge, .int .i64 se, .bool tx, .int .i64 ct, .slice A n c]] w fun e w' => e = .returned (.int .i64 z) ∧ Below w.heap.size w w' := by
  subst h; exact BCheck_any ba la fr ep pi ge se tx ct rs A n c w hf hr hn ht
theorem BSize_is (hf : Fits ⟨ba, la, fr, ep, pi, ge, se, tx, ct, rs⟩) (hr : RdR w w.heap.size A n rs) (hn : n ≤ 1099511627776) (ht : Tab w) {z : Int} (h : szB ⟨ba, la, fr, ep, pi, ge, se, tx, ct, rs⟩ = z) :
    Calls Tryz.prog 41 #[.agg #[.int .i64 ba, .int .i64 la, .int .i64 fr, .int .i64 ep, .int .i64 pi, .int .i64 ge, .int .i64 se, .bool tx, .int .i64 ct, .slice A n c]] w fun e w' => e = .returned (.int .i64 z) ∧ Below w.heap.size w w' := by
  subst h; exact BSize_any ba la fr ep pi ge se tx ct rs A n c w hf hr hn ht
theorem BPut_is (hf : Fits ⟨ba, la, fr, ep, pi, ge, se, tx, ct, rs⟩) (hr : RdR w w.heap.size A n rs) (hn : n ≤ 1099511627776) (ht : Tab w) {l : List UInt8} {z : Int} (h : ptB ⟨ba, la, fr, ep, pi, ge, se, tx, ct, rs⟩ = (l, z)) :
    Calls Tryz.prog 109 #[.agg #[.int .i64 ba, .int .i64 la, .int .i64 fr, .int .i64 ep, .int .i64 pi, .int .i64 ge, .int .i64 se, .bool tx, .int .i64 ct, .slice A n c]] w (OPr 5 w.heap.size w l z) := by
  have h1 := BPut_any ba la fr ep pi ge se tx ct rs A n c w hf hr hn ht
  rw [h] at h1
  exact h1
end

theorem RdR.alloc {w : World} {B : Nat} {A : Option Addr} {n : Nat} {l : List Rc} (h : RdR w B A n l) (hB : B ≤ w.heap.size) (o : Obj) : RdR (w.alloc o) B A n l := h.keep fun p hp => World.cell?_alloc_lt w o p (by omega)
structure BR (w : World) (g : Nat) (b : Bt) (A : Option Addr) (n c : Nat) : Prop where
  box : BoxB w g b (.slice A n c)
  lt : g < w.heap.size
  rd : RdR w w.heap.size A n b.recs
theorem BR.below {w w' : World} {g : Nat} {b : Bt} {A : Option Addr} {n c : Nat} (h : BR w g b A n c) (hb : Below w.heap.size w w') : BR w' g b A n c :=
  ⟨h.box.below hb h.lt, Nat.lt_of_lt_of_le h.lt hb.size, (h.rd.below hb (Nat.le_refl _)).more hb.size⟩
theorem BR.drew {w : World} {g : Nat} {b : Bt} {A : Option Addr} {n c : Nat} (h : BR w g b A n c) : BR w.drew g b A n c := ⟨h.box, h.lt, h.rd⟩
theorem BR.alloc {w : World} {g : Nat} {b : Bt} {A : Option Addr} {n c : Nat} (h : BR w g b A n c) (o : Obj) : BR (w.alloc o) g b A n c := h.below (bel_alloc (Below.refl _ _) o)
theorem BR.new {w : World} {b : Bt} {A : Option Addr} {n c : Nat} (e : TypeId) (h : RdR w w.heap.size A n b.recs) :
    BR (w.alloc (.cells #[.int .i64 b.base, .int .i64 b.last, .int .i64 b.frm, .int .i64 b.epoch, .int .i64 b.pid, .int .i64 b.gen, .int .i64 b.seq, .bool b.txn, .int .i64 b.ctl, .slice A n c] e)) w.heap.size b A n c :=
  ⟨boxB_new w e b _, by simp, (h.alloc (Nat.le_refl _) _).more (by simp)⟩

end Go.Proofs.YtejcjmiofidedaaGreatDoor.Bat

/- The document's Few, of one batch. -/
namespace Go.Proofs.YtejcjmiofidedaaGreatDoor.Bat
open Go.RowKit Oct Rec Crc Lay

def fwRel (rs : List Rc) (n : Nat) (w : World) (v i : Value) (wr : World) : Prop :=
  ∃ k m : Nat, v = .int .i64 (m : Int) ∧ i = .int .i64 (k : Int) ∧ k ≤ n ∧ m ≤ 20000 ∧ fewR rs 0 = fewR (rs.drop k) m ∧ Below w.heap.size w wr
theorem fewR_step {rs : List Rc} {k m : Nat} {r : Rc} (h : rs[k]? = some r) : fewR (rs.drop k) m = if 20000 < m + (r.key.size + r.val.size) then false else fewR (rs.drop (k + 1)) (m + (r.key.size + r.val.size)) := by
  have e : rs.drop k = r :: rs.drop (k + 1) := by
    obtain ⟨hlt, hr⟩ := List.getElem?_eq_some_iff.1 h
    rw [List.drop_eq_getElem_cons hlt, hr]
  rw [e]
  rfl
set_option maxRecDepth 100000 in
set_option maxHeartbeats 1000000 in
theorem refFew_is (ba la fr ep pi ge se : Int) (tx : Bool) (ct : Int) (rs : List Rc) (A : Option Addr) (n c : Nat) (w : World) (hr : RdR w w.heap.size A n rs) (hf : ∀ r ∈ rs, Fit r) (hn : n ≤ reach) {z : Bool} (hz : fewT ⟨ba, la, fr, ep, pi, ge, se, tx, ct, rs⟩ = z) :
    Calls Tryz.prog 24 #[.agg #[.int .i64 ba, .int .i64 la, .int .i64 fr, .int .i64 ep, .int .i64 pi, .int .i64 ge, .int .i64 se, .bool tx, .int .i64 ct, .slice A n c]] w fun e w' => e = .returned (.bool z) ∧ Below w.heap.size w w' := by
  have HZ := Lib.hid hz
  have HW1 := Lib.hid (bel_alloc (Below.refl w.heap.size w) (.cells #[.int .i64 ba, .int .i64 la, .int .i64 fr, .int .i64 ep, .int .i64 pi, .int .i64 ge, .int .i64 se, .bool tx, .int .i64 ct, .slice A n c] 39))
  have HB := Lib.hid (BR.new (b := ⟨ba, la, fr, ep, pi, ge, se, tx, ct, rs⟩) (c := c) 39 hr)
  have HF := Lib.hid hf
  have hn2 : n ≤ 140737488351232 := hn
  clear hz hr hf hn
  go_enter Tryz.func24, Tryz.ntmps24
  go_wp2
  generalize hw1 : w.alloc (.cells #[.int .i64 ba, .int .i64 la, .int .i64 fr, .int .i64 ep, .int .i64 pi, .int .i64 ge, .int .i64 se, .bool tx, .int .i64 ct, .slice A n c] 39) = w1 at *
  clear hw1
  go_loopw [3, 9] (fun v i wr => fwRel rs n w1 v i wr) (fun _ i _ => n - (intOf i).toNat)
  case atStart => exact ⟨0, 0, rfl, rfl, Nat.zero_le _, Nat.zero_le _, rfl, Below.refl _ _⟩
  case round =>
    obtain ⟨k, m, rfl, rfl, hk, hm, hR, hb⟩ := hrel
    have HR := Lib.hid hR
    have HBL := Lib.hid hb
    have HBR := Lib.hid (HB.out.below hb)
    clear hR hb
    by_cases hlt : k < n
    · obtain ⟨b, o, r, hA, _, hrk, hat⟩ := HBR.out.rd.at hlt
      have hfit := HF.out r (List.mem_of_getElem? hrk)
      have q1 : r.key.size ≤ 140737488351232 := hfit.2.2.1
      have q2 : r.val.size ≤ 140737488351232 := hfit.2.2.2
      have HS := Lib.hid (fewR_step (m := m) hrk)
      have HA := Lib.hid hA
      obtain ⟨a0, a1, a2, a3, a4⟩ := hat
      obtain ⟨ro, rk, rv, rd, rt⟩ := r
      simp only at a0 a1 a2 a3 a4 q1 q2
      subst hA
      clear hfit hrk HA
      by_cases hbig : 20000 < m + (rk.size + rv.size)
      · have HZF := Lib.hid (show z = false by
          rw [← HZ.out]
          unfold fewT
          simp only
          rw [HR.out, HS.out]
          simp only
          rw [if_pos hbig]
          rfl)
        have hbig2 : (20000 : Int) < (m : Int) + ((rk.size : Int) + (rv.size : Int)) := by omega
        clear hbig
        go_wp2
        go_ret
        exact ⟨by rw [HZF.out]; rfl, HW1.out.trans ((HBL.out.alloc HBL.out.size _).mono HW1.out.size)⟩
      · have HN := Lib.hid (show fewR rs 0 = fewR (rs.drop (k + 1)) (m + (rk.size + rv.size)) by
          rw [HR.out, HS.out]
          simp only
          rw [if_neg hbig])
        have hbig2 : ¬ (20000 : Int) < (m : Int) + ((rk.size : Int) + (rv.size : Int)) := by omega
        have hm2 : m + (rk.size + rv.size) ≤ 20000 := by omega
        clear hbig
        go_wp2
        go_roundw
        case rel => exact ⟨k + 1, m + (rk.size + rv.size), by go_num, by go_num, by omega, hm2, HN.out, HBL.out.alloc HBL.out.size _⟩
        case measure => simp [intOf]; omega
    · have hkn : k = n := by omega
      subst hkn
      obtain ⟨x0, x1, x2, x3, x4, x5, x6, x7, x8, x9⟩ := HBR.out.box
      have HZF := Lib.hid (show z = decide ((k : Int) ≤ 100) by
        rw [← HZ.out]
        have hl := HBR.out.rd.len
        unfold fewT
        simp only at hl ⊢
        rw [HR.out, hl, List.drop_of_length_le (by omega)]
        show (true && _) = _
        rw [Bool.true_and]
        exact decide_eq_decide.2 ⟨fun h => by omega, fun h => by omega⟩)
      go_wp2
      go_ret
      exact ⟨by rw [HZF.out]; rfl, HW1.out.trans (HBL.out.mono HW1.out.size)⟩
end Go.Proofs.YtejcjmiofidedaaGreatDoor.Bat

/- The document's FewAll. -/
namespace Go.Proofs.YtejcjmiofidedaaGreatDoor.Bat
open Go.RowKit Oct Rec Crc Lay

def faRel (bs : List Bt) (n : Nat) (w : World) (i : Value) (wr : World) : Prop :=
  ∃ k : Nat, i = .int .i64 (k : Int) ∧ k ≤ n ∧ bs.all fewT = (bs.drop k).all fewT ∧ Below w.heap.size w wr
theorem fewAll_step {bs : List Bt} {k : Nat} {b : Bt} (h : bs[k]? = some b) : (bs.drop k).all fewT = (fewT b && (bs.drop (k + 1)).all fewT) := by
  have e : bs.drop k = b :: bs.drop (k + 1) := by
    obtain ⟨hlt, hr⟩ := List.getElem?_eq_some_iff.1 h
    rw [List.drop_eq_getElem_cons hlt, hr]
  rw [e]
  rfl
set_option maxRecDepth 100000 in
set_option maxHeartbeats 1000000 in
theorem refFewAll_is (bs : List Bt) (A : Option Addr) (n c : Nat) (most : Int) (w : World) (hr : RdL w w.heap.size A n bs) (hn : n ≤ reach) {z : Bool} (hz : (bs.all fewT && decide ((bs.length : Int) ≤ most)) = z) :
    Calls Tryz.prog 37 #[.slice A n c, .int .i64 most] w fun e w' => e = .returned (.bool z) ∧ Below w.heap.size w w' := by
  have HZ := Lib.hid hz
  have HR := Lib.hid hr
  have hn2 : n ≤ 140737488351232 := hn
  clear hz hr hn
  go_enter Tryz.func37, Tryz.ntmps37
  go_wp2
  go_loopw [9] (fun i wr => faRel bs n w i wr) (fun i _ => n - (intOf i).toNat)
  case atStart => exact ⟨0, rfl, Nat.zero_le _, rfl, Below.refl _ _⟩
  case round =>
    obtain ⟨k, rfl, hk, hD, hb⟩ := hrel
    have HD := Lib.hid hD
    have HBL := Lib.hid hb
    have HBR := Lib.hid (HR.out.below hb (Nat.le_refl _))
    clear hD hb
    by_cases hlt : k < n
    · obtain ⟨b, o, x, cs, hA, hbl, hxk, his, hcell⟩ := HBR.out.at hlt
      have HS := Lib.hid (fewAll_step hxk)
      obtain ⟨ba, la, fr, ep, pi, ge, se, tx, ct, rs⟩ := x
      obtain ⟨A1, n1, c1, rfl, hfit, hn1, hc1, hrl⟩ := his
      have a0 : wr.cell? ⟨b, o + k * 10, none⟩ = some (.int .i64 ba) := hcell 0 _ rfl
      have a1 : wr.cell? ⟨b, o + k * 10 + 1, none⟩ = some (.int .i64 la) := hcell 1 _ rfl
      have a2 : wr.cell? ⟨b, o + k * 10 + 2, none⟩ = some (.int .i64 fr) := hcell 2 _ rfl
      have a3 : wr.cell? ⟨b, o + k * 10 + 3, none⟩ = some (.int .i64 ep) := hcell 3 _ rfl
      have a4 : wr.cell? ⟨b, o + k * 10 + 4, none⟩ = some (.int .i64 pi) := hcell 4 _ rfl
      have a5 : wr.cell? ⟨b, o + k * 10 + 5, none⟩ = some (.int .i64 ge) := hcell 5 _ rfl
      have a6 : wr.cell? ⟨b, o + k * 10 + 6, none⟩ = some (.int .i64 se) := hcell 6 _ rfl
      have a7 : wr.cell? ⟨b, o + k * 10 + 7, none⟩ = some (.bool tx) := hcell 7 _ rfl
      have a8 : wr.cell? ⟨b, o + k * 10 + 8, none⟩ = some (.int .i64 ct) := hcell 8 _ rfl
      have a9 : wr.cell? ⟨b, o + k * 10 + 9, none⟩ = some (.slice A1 n1 c1) := hcell 9 _ rfl
      simp only at hrl
      have HFIT := Lib.hid (RdL_fit hrl)
      have HX := Lib.hid (BR.new (b := ⟨ba, la, fr, ep, pi, ge, se, tx, ct, rs⟩) (c := c1) 39 ((RdL_recs hrl).more HBL.out.size))
      obtain ⟨x0, x1, x2, x3, x4, x5, x6, x7, x8, x9⟩ := HX.out.box
      have hn1r := Nat.le_trans hn1 hc1
      subst hA
      clear hcell hxk hfit hrl
      rcases hf : fewT ⟨ba, la, fr, ep, pi, ge, se, tx, ct, rs⟩ with _ | _
      · have HF := Lib.hid hf
        have HZF := Lib.hid (show z = false by rw [← HZ.out, HD.out, HS.out, HF.out]; rfl)
        clear hf
        go_wp2_with (go_at_call 24; (with_reducible refine (refFew_is ba la fr ep pi ge se tx ct rs A1 n1 c1 _ HX.out.rd HFIT.out hn1r HF.out).mono ?_); rintro e w4 ⟨rfl, hb4⟩)
        go_ret
        exact ⟨by rw [HZF.out]; rfl, bel_trans (bel_alloc HBL.out _) hb4⟩
      · have HF := Lib.hid hf
        have HN := Lib.hid (show bs.all fewT = (bs.drop (k + 1)).all fewT by rw [HD.out, HS.out, HF.out]; rfl)
        clear hf
        go_wp2_with (go_at_call 24; (with_reducible refine (refFew_is ba la fr ep pi ge se tx ct rs A1 n1 c1 _ HX.out.rd HFIT.out hn1r HF.out).mono ?_); rintro e w4 ⟨rfl, hb4⟩)
        go_roundw
        case rel => exact ⟨k + 1, by go_num, by omega, HN.out, bel_trans (bel_alloc HBL.out _) hb4⟩
        case measure => simp [intOf]; omega
    · have hkn : k = n := by omega
      subst hkn
      have HZF := Lib.hid (show z = decide ((k : Int) ≤ most) by
        rw [← HZ.out, HD.out]
        have hl := HBR.out.len
        rw [hl, List.drop_of_length_le (by omega)]
        rfl)
      go_wp2
      go_ret
      exact ⟨by rw [HZF.out]; rfl, HBL.out⟩
end Go.Proofs.YtejcjmiofidedaaGreatDoor.Bat
