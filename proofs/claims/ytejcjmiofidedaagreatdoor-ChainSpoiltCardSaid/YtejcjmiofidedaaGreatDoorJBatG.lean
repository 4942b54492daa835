/- Joined: BatDevRn, BatDevRe, BatDevRw, BatDevRd0, BatDevRd1, BatDevRd2, BatDevRa, BatDevG, BatGetIs. -/
import Derived.Test.YtejcjmiofidedaaGreatDoorJBatA
import Derived.Test.YtejcjmiofidedaaGreatDoorJOct
import Derived.Test.YtejcjmiofidedaaGreatDoorJBatE
import Derived.Test.YtejcjmiofidedaaGreatDoorJRec
import Derived.Laws.EntriesVeiled
import Derived.Deep.DeepCutAuto
import Derived.Test.YtejcjmiofidedaaGreatDoorJBatK
import Derived.BigRegion
/- The contracts of the landed read's own functions: the next number of a body. -/
namespace Go.Proofs.YtejcjmiofidedaaGreatDoor.Bat
open Go.RowKit Oct Rec Crc

def NW (a : Addr) (P : Nat) (g : Int × Int × Int) (w w' : World) : Prop := (w.setCell a (.int .i64 g.1)).setCell ⟨P, 0, none⟩ (.int .i64 g.2.1) = w'
set_option maxRecDepth 100000 in
theorem numB_any (a : Addr) (X P : Nat) (old p : Int) (A : Option Addr) (n c : Nat) (l : List UInt8) (B : Nat) (w : World) (ha : w.cell? a = some (.int .i64 old)) (hfa : w.frozen? a = false) (hX : w.cell? ⟨X, 0, none⟩ = some (.slice A n c)) (hP : w.cell? ⟨P, 0, none⟩ = some (.int .i64 p)) (hfP : w.frozen? ⟨P, 0, none⟩ = false) (hne : a.block ≠ P) (hr : Rd w B A n l) (hn : n ≤ 1099511627776) (hp : p ≤ 9223372036854775807) {y : Bool} (hy : decide ((gv l p).2.2 = 0) = y) :
    Calls Tryz.prog 148 #[.pointer (some a), .pointer (some ⟨X, 0, none⟩), .pointer (some ⟨P, 0, none⟩)] w fun e w' => e = .returned (.bool y) ∧ NW a P (gv l p) w w' := by
  subst hy
  rcases hg : gv l p with ⟨x, q, z⟩
  have HG := Lib.hid hg
  have HR := Lib.hid hr
  have hne' : ¬ P = a.block := fun h => hne h.symm
  have hP2 : (w.setCell a (.int .i64 x)).cell? ⟨P, 0, none⟩ = some (.int .i64 p) := by
    rw [show (w.setCell a (.int .i64 x)).cell? ⟨P, 0, none⟩ = w.cell? ⟨P, 0, none⟩ by unfold World.cell?; rw [Below.heap_setCell _ _ _ _ (by simp; omega)]]
    exact hP
  have hf2 : (w.setCell a (.int .i64 x)).frozen? ⟨P, 0, none⟩ = false := by
    rw [show (w.setCell a (.int .i64 x)).frozen? ⟨P, 0, none⟩ = w.frozen? ⟨P, 0, none⟩ by simp [go_sem]]
    exact hfP
  clear hg hr hne
  go_enter Tryz.func148, Tryz.ntmps148
  go_wp2_with (go_at_call 149; (with_reducible refine (GetVar_is A n c p l B _ HR.out hn hp HG.out).mono ?_); rintro e w8 ⟨rfl, rfl⟩)
  go_ret
  exact ⟨rfl, rfl⟩
set_option maxRecDepth 100000 in
theorem numB2_any (a : Addr) (X P F : Nat) (old p lo hi : Int) (A : Option Addr) (n c : Nat) (l : List UInt8) (B : Nat) (w : World) (hF : w.cell? ⟨F, 0, none⟩ = some (.func (.func 148) #[] #[.pointer (some ⟨X, 0, none⟩), .pointer (some ⟨P, 0, none⟩)])) (ha : w.cell? a = some (.int .i64 old)) (hfa : w.frozen? a = false) (hX : w.cell? ⟨X, 0, none⟩ = some (.slice A n c)) (hP : w.cell? ⟨P, 0, none⟩ = some (.int .i64 p)) (hfP : w.frozen? ⟨P, 0, none⟩ = false) (hne : a.block ≠ P) (hr : Rd w B A n l) (hn : n ≤ 1099511627776) (hp : p ≤ 9223372036854775807) {y : Bool} (hy : decide ((gv l p).2.2 = 0) = y) :
    Calls Tryz.prog 150 #[.pointer (some a), .int .i64 lo, .int .i64 hi, .pointer (some ⟨F, 0, none⟩)] w fun e w' => e = .returned (.bool y) ∧ NW a P (gv l p) w w' := by
  have HC := Lib.hid (numB_any a X P old p A n c l B w ha hfa hX hP hfP hne hr hn hp hy)
  clear ha hfa hX hP hfP hne hr hy
  go_enter Tryz.func150, Tryz.ntmps150
  go_wp2_with (go_at_call 148; (with_reducible refine (HC.out).mono ?_); rintro e w8 ⟨rfl, hw⟩; have HW := Lib.hid hw; clear hw)
  go_ret
  exact ⟨rfl, HW.out⟩
end Go.Proofs.YtejcjmiofidedaaGreatDoor.Bat

/- The contract of the landed eachNumber, handed read's own function: seven numbers of a body. -/
namespace Go.Proofs.YtejcjmiofidedaaGreatDoor.Bat
open Go.RowKit Oct Rec Crc

def pk (l : List UInt8) : Nat → Int
  | 0 => 0
  | k + 1 => (gv l (pk l k)).2.1
def nk (l : List UInt8) (k : Nat) : Int := (gv l (pk l k)).1
def ek (l : List UInt8) (k : Nat) : Int := (gv l (pk l k)).2.2
theorem gv_place (l : List UInt8) (p : Int) : 0 ≤ (gv l p).2.1 ∧ (gv l p).2.1 ≤ l.length := by
  rcases h : gv l p with ⟨x, q, z⟩
  by_cases hz : z = 0
  · subst hz; have := gv_good h; simp only; omega
  · have := gv_bad h hz; simp only; omega
theorem pk_place (l : List UInt8) (k : Nat) : 0 ≤ pk l k ∧ pk l k ≤ l.length := by
  cases k with
  | zero => simp [pk]
  | succ k => exact gv_place _ _
theorem rdV_from {l : List UInt8} {m k : Nat} (h : ∀ j, j < m → ek l (k + j) = 0) : rdV m l (pk l k) = some ((List.range m).map (fun j => nk l (k + j)), pk l (k + m)) := by
  induction m generalizing k with
  | zero => simp [rdV]
  | succ m ih =>
    have h0 : (gv l (pk l k)).2.2 = 0 := h 0 (by omega)
    have h1 := ih (k := k + 1) (fun j hj => by rw [show k + 1 + j = k + (j + 1) by omega]; exact h (j + 1) (by omega))
    have e1 : (gv l (pk l k)).2.1 = pk l (k + 1) := rfl
    rw [rdV, if_neg (by rw [h0]; simp), e1, h1]
    simp only [Option.some.injEq, Prod.mk.injEq]
    refine ⟨?_, by rw [show k + 1 + m = k + (m + 1) by omega]⟩
    rw [List.range_succ_eq_map, List.map_cons, List.map_map]
    congr 1
    apply List.map_congr_left
    intro j _
    simp only [Function.comp]
    rw [show k + 1 + j = k + (j + 1) by omega]
theorem rdV_none {l : List UInt8} {m k j : Nat} (hj : j < m) (h : ek l (k + j) ≠ 0) : rdV m l (pk l k) = none := by
  induction m generalizing k j with
  | zero => omega
  | succ m ih =>
    rw [rdV]
    by_cases h0 : (gv l (pk l k)).2.2 ≠ 0
    · rw [if_pos h0]
    · rw [if_neg h0]
      cases j with
      | zero => exact (h0 h).elim
      | succ j =>
        have h1 := ih (k := k + 1) (j := j) (by omega) (by rw [show k + 1 + j = k + (j + 1) by omega]; exact h)
        have e1 : (gv l (pk l k)).2.1 = pk l (k + 1) := rfl
        rw [e1, h1]
def bk (l : List UInt8) (k : Nat) : Bt := ⟨if 1 ≤ k then nk l 0 else 0, 0, if 3 ≤ k then nk l 2 else 0, if 4 ≤ k then nk l 3 else 0, if 5 ≤ k then nk l 4 else 0, if 6 ≤ k then nk l 5 else 0, if 7 ≤ k then nk l 6 else 0, false, 0, []⟩
def sk (l : List UInt8) (k : Nat) : Int := if 2 ≤ k then nk l 1 else 0
structure RJ (l : List UInt8) (A : Option Addr) (n c X P F g R : Nat) (w2 : World) (k : Nat) (w' : World) : Prop where
  rd : Rd w' R A n l
  bx : w'.cell? ⟨X, 0, none⟩ = some (.slice A n c)
  bp : w'.cell? ⟨P, 0, none⟩ = some (.int .i64 (pk l k))
  fp : w'.frozen? ⟨P, 0, none⟩ = false
  bf : w'.cell? ⟨F, 0, none⟩ = some (.func (.func 148) #[] #[.pointer (some ⟨X, 0, none⟩), .pointer (some ⟨P, 0, none⟩)])
  box : BoxB w' g (bk l k) (.slice none 0 0)
  fz : ∀ j, j < 10 → w'.frozen? ⟨g, j, none⟩ = false
  span : w'.cell? ⟨w2.heap.size, 0, none⟩ = some (.int .i64 (sk l k))
  fs : w'.frozen? ⟨w2.heap.size, 0, none⟩ = false
  lt : w2.heap.size < w'.heap.size
  bel : Below R w2 w'
structure RA (X P F g R H : Nat) : Prop where
  ax : R ≤ X
  ap : R ≤ P
  af : R ≤ F
  ag : R ≤ g
  xh : X < H
  ph : P < H
  fh : F < H
  gh : g < H
  xp : X ≠ P
  xg : X ≠ g
  pg : P ≠ g
  fg : F ≠ g
  pf : P ≠ F
section
variable {l : List UInt8} {A : Option Addr} {n c X P F g R : Nat} {w2 w' : World} {k : Nat}
theorem RJ.next (h : RJ l A n c X P F g R w2 k w') (ha : RA X P F g R w2.heap.size) (hn : n ≤ 137438953472) (a : Addr) (old lo hi : Int) (hag : (∃ o, o < 10 ∧ a = ⟨g, o, none⟩) ∨ a = ⟨w2.heap.size, 0, none⟩) (hold : w'.cell? a = some (.int .i64 old))
    (hbox : BoxB (w'.setCell a (.int .i64 (nk l k))) g (bk l (k + 1)) (.slice none 0 0)) (hspan : (w'.setCell a (.int .i64 (nk l k))).cell? ⟨w2.heap.size, 0, none⟩ = some (.int .i64 (sk l (k + 1)))) {y : Bool} (hy : decide (ek l k = 0) = y) :
    Calls Tryz.prog 150 #[.pointer (some a), .int .i64 lo, .int .i64 hi, .pointer (some ⟨F, 0, none⟩)] w' fun e w3 => e = .returned (.bool y) ∧ RJ l A n c X P F g R w2 (k + 1) w3 := by
  obtain ⟨rd, bx, bp, fp, bf, box, fz, span, fs, lt, bel⟩ := h
  obtain ⟨ax, ap, af, ag, xh, ph, fh, gh, xp, xg, pg, fg, pf⟩ := ha
  have hlen := rd.len
  have hpl := pk_place l k
  have hfa : w'.frozen? a = false := by
    rcases hag with ⟨o, ho, rfl⟩ | rfl
    · exact fz o ho
    · exact fs
  have hag : a.block = g ∨ a.block = w2.heap.size := by
    rcases hag with ⟨o, ho, rfl⟩ | rfl
    · exact .inl rfl
    · exact .inr rfl
  have hRa : R ≤ a.block := by rcases hag with h1 | h1 <;> omega
  refine (numB2_any a X P F old (pk l k) lo hi A n c l R w' bf hold hfa bx bp fp (by rcases hag with h1 | h1 <;> omega) rd (by omega) (by omega) hy).mono ?_
  rintro e w3 ⟨rfl, rfl⟩
  refine ⟨rfl, ?_⟩
  have e1 : ∀ q : Addr, q.block ≠ a.block → q.block ≠ P → ((w'.setCell a (.int .i64 (gv l (pk l k)).1)).setCell ⟨P, 0, none⟩ (.int .i64 (gv l (pk l k)).2.1)).cell? q = w'.cell? q := fun q h1 h2 => (cell_off (by simpa using h2)).trans (cell_off h1)
  have e2 : ∀ q : Addr, ((w'.setCell a (.int .i64 (gv l (pk l k)).1)).setCell ⟨P, 0, none⟩ (.int .i64 (gv l (pk l k)).2.1)).frozen? q = w'.frozen? q := fun q => (frozen_set _ _ _ _).trans (frozen_set _ _ _ _)
  have hxa : X ≠ a.block := by rcases hag with h1 | h1 <;> omega
  have hpa : P ≠ a.block := by rcases hag with h1 | h1 <;> omega
  have hfa' : F ≠ a.block := by rcases hag with h1 | h1 <;> omega
  refine ⟨rd.keep fun q hq => e1 q (by omega) (by omega), (e1 _ (by simpa using hxa) (by simpa using xp)).trans bx, World.cell?_setCell_same _ _ _ ((cell_off (p := ⟨P, 0, none⟩) (by simpa using hpa)).trans bp), (e2 _).trans fp, (e1 _ (by simpa using hfa') (by simpa using pf.symm)).trans bf, hbox.set (by omega), fun j hj => (e2 _).trans (fz j hj), (cell_off (by simp; omega)).trans hspan, (e2 _).trans fs, by simpa [World.setCell] using lt, (bel.setCell hRa _).setCell (by show R ≤ P; exact ap) _⟩
theorem RJ.s0 (h : RJ l A n c X P F g R w2 0 w') (ha : RA X P F g R w2.heap.size) (hn : n ≤ 137438953472) (lo hi : Int) {y : Bool} (hy : decide (ek l 0 = 0) = y) :
    Calls Tryz.prog 150 #[.pointer (some ⟨g, 0, none⟩), .int .i64 lo, .int .i64 hi, .pointer (some ⟨F, 0, none⟩)] w' fun e w3 => e = .returned (.bool y) ∧ RJ l A n c X P F g R w2 1 w3 :=
  h.next ha hn _ _ lo hi (.inl ⟨0, by omega, rfl⟩) h.box.1 (by
    obtain ⟨h0, h1, h2, h3, h4, h5, h6, h7, h8, h9⟩ := h.box
    exact ⟨World.cell?_setCell_same _ _ _ h0, (cell_set_off (by omega)).trans h1, (cell_set_off (by omega)).trans h2, (cell_set_off (by omega)).trans h3, (cell_set_off (by omega)).trans h4, (cell_set_off (by omega)).trans h5, (cell_set_off (by omega)).trans h6, (cell_set_off (by omega)).trans h7, (cell_set_off (by omega)).trans h8, (cell_set_off (by omega)).trans h9⟩) ((cell_off (by show w2.heap.size ≠ g; have := ha.gh; omega)).trans h.span) hy
theorem RJ.s1 (h : RJ l A n c X P F g R w2 1 w') (ha : RA X P F g R w2.heap.size) (hn : n ≤ 137438953472) (lo hi : Int) {y : Bool} (hy : decide (ek l 1 = 0) = y) :
    Calls Tryz.prog 150 #[.pointer (some ⟨w2.heap.size, 0, none⟩), .int .i64 lo, .int .i64 hi, .pointer (some ⟨F, 0, none⟩)] w' fun e w3 => e = .returned (.bool y) ∧ RJ l A n c X P F g R w2 2 w3 :=
  h.next ha hn _ _ lo hi (.inr rfl) h.span (h.box.set (by have := ha.gh; omega)) (World.cell?_setCell_same _ _ _ h.span) hy
theorem RJ.s2 (h : RJ l A n c X P F g R w2 2 w') (ha : RA X P F g R w2.heap.size) (hn : n ≤ 137438953472) (lo hi : Int) {y : Bool} (hy : decide (ek l 2 = 0) = y) :
    Calls Tryz.prog 150 #[.pointer (some ⟨g, 2, none⟩), .int .i64 lo, .int .i64 hi, .pointer (some ⟨F, 0, none⟩)] w' fun e w3 => e = .returned (.bool y) ∧ RJ l A n c X P F g R w2 3 w3 :=
  h.next ha hn _ _ lo hi (.inl ⟨2, by omega, rfl⟩) h.box.2.2.1 (by
    obtain ⟨h0, h1, h2, h3, h4, h5, h6, h7, h8, h9⟩ := h.box
    exact ⟨(cell_set_off (by omega)).trans h0, (cell_set_off (by omega)).trans h1, World.cell?_setCell_same _ _ _ h2, (cell_set_off (by omega)).trans h3, (cell_set_off (by omega)).trans h4, (cell_set_off (by omega)).trans h5, (cell_set_off (by omega)).trans h6, (cell_set_off (by omega)).trans h7, (cell_set_off (by omega)).trans h8, (cell_set_off (by omega)).trans h9⟩) ((cell_off (by show w2.heap.size ≠ g; have := ha.gh; omega)).trans h.span) hy
theorem RJ.s3 (h : RJ l A n c X P F g R w2 3 w') (ha : RA X P F g R w2.heap.size) (hn : n ≤ 137438953472) (lo hi : Int) {y : Bool} (hy : decide (ek l 3 = 0) = y) :
    Calls Tryz.prog 150 #[.pointer (some ⟨g, 3, none⟩), .int .i64 lo, .int .i64 hi, .pointer (some ⟨F, 0, none⟩)] w' fun e w3 => e = .returned (.bool y) ∧ RJ l A n c X P F g R w2 4 w3 :=
  h.next ha hn _ _ lo hi (.inl ⟨3, by omega, rfl⟩) h.box.2.2.2.1 (by
    obtain ⟨h0, h1, h2, h3, h4, h5, h6, h7, h8, h9⟩ := h.box
    exact ⟨(cell_set_off (by omega)).trans h0, (cell_set_off (by omega)).trans h1, (cell_set_off (by omega)).trans h2, World.cell?_setCell_same _ _ _ h3, (cell_set_off (by omega)).trans h4, (cell_set_off (by omega)).trans h5, (cell_set_off (by omega)).trans h6, (cell_set_off (by omega)).trans h7, (cell_set_off (by omega)).trans h8, (cell_set_off (by omega)).trans h9⟩) ((cell_off (by show w2.heap.size ≠ g; have := ha.gh; omega)).trans h.span) hy
theorem RJ.s4 (h : RJ l A n c X P F g R w2 4 w') (ha : RA X P F g R w2.heap.size) (hn : n ≤ 137438953472) (lo hi : Int) {y : Bool} (hy : decide (ek l 4 = 0) = y) :
    Calls Tryz.prog 150 #[.pointer (some ⟨g, 4, none⟩), .int .i64 lo, .int .i64 hi, .pointer (some ⟨F, 0, none⟩)] w' fun e w3 => e = .returned (.bool y) ∧ RJ l A n c X P F g R w2 5 w3 :=
  h.next ha hn _ _ lo hi (.inl ⟨4, by omega, rfl⟩) h.box.2.2.2.2.1 (by
    obtain ⟨h0, h1, h2, h3, h4, h5, h6, h7, h8, h9⟩ := h.box
    exact ⟨(cell_set_off (by omega)).trans h0, (cell_set_off (by omega)).trans h1, (cell_set_off (by omega)).trans h2, (cell_set_off (by omega)).trans h3, World.cell?_setCell_same _ _ _ h4, (cell_set_off (by omega)).trans h5, (cell_set_off (by omega)).trans h6, (cell_set_off (by omega)).trans h7, (cell_set_off (by omega)).trans h8, (cell_set_off (by omega)).trans h9⟩) ((cell_off (by show w2.heap.size ≠ g; have := ha.gh; omega)).trans h.span) hy
theorem RJ.s5 (h : RJ l A n c X P F g R w2 5 w') (ha : RA X P F g R w2.heap.size) (hn : n ≤ 137438953472) (lo hi : Int) {y : Bool} (hy : decide (ek l 5 = 0) = y) :
    Calls Tryz.prog 150 #[.pointer (some ⟨g, 5, none⟩), .int .i64 lo, .int .i64 hi, .pointer (some ⟨F, 0, none⟩)] w' fun e w3 => e = .returned (.bool y) ∧ RJ l A n c X P F g R w2 6 w3 :=
  h.next ha hn _ _ lo hi (.inl ⟨5, by omega, rfl⟩) h.box.2.2.2.2.2.1 (by
    obtain ⟨h0, h1, h2, h3, h4, h5, h6, h7, h8, h9⟩ := h.box
    exact ⟨(cell_set_off (by omega)).trans h0, (cell_set_off (by omega)).trans h1, (cell_set_off (by omega)).trans h2, (cell_set_off (by omega)).trans h3, (cell_set_off (by omega)).trans h4, World.cell?_setCell_same _ _ _ h5, (cell_set_off (by omega)).trans h6, (cell_set_off (by omega)).trans h7, (cell_set_off (by omega)).trans h8, (cell_set_off (by omega)).trans h9⟩) ((cell_off (by show w2.heap.size ≠ g; have := ha.gh; omega)).trans h.span) hy
theorem RJ.s6 (h : RJ l A n c X P F g R w2 6 w') (ha : RA X P F g R w2.heap.size) (hn : n ≤ 137438953472) (lo hi : Int) {y : Bool} (hy : decide (ek l 6 = 0) = y) :
    Calls Tryz.prog 150 #[.pointer (some ⟨g, 6, none⟩), .int .i64 lo, .int .i64 hi, .pointer (some ⟨F, 0, none⟩)] w' fun e w3 => e = .returned (.bool y) ∧ RJ l A n c X P F g R w2 7 w3 :=
  h.next ha hn _ _ lo hi (.inl ⟨6, by omega, rfl⟩) h.box.2.2.2.2.2.2.1 (by
    obtain ⟨h0, h1, h2, h3, h4, h5, h6, h7, h8, h9⟩ := h.box
    exact ⟨(cell_set_off (by omega)).trans h0, (cell_set_off (by omega)).trans h1, (cell_set_off (by omega)).trans h2, (cell_set_off (by omega)).trans h3, (cell_set_off (by omega)).trans h4, (cell_set_off (by omega)).trans h5, World.cell?_setCell_same _ _ _ h6, (cell_set_off (by omega)).trans h7, (cell_set_off (by omega)).trans h8, (cell_set_off (by omega)).trans h9⟩) ((cell_off (by show w2.heap.size ≠ g; have := ha.gh; omega)).trans h.span) hy
structure RE (l : List UInt8) (A : Option Addr) (n c X P F g R : Nat) (w2 : World) (b : Bt) (p : Int) (w' : World) : Prop where
  rd : Rd w' R A n l
  bx : w'.cell? ⟨X, 0, none⟩ = some (.slice A n c)
  bp : w'.cell? ⟨P, 0, none⟩ = some (.int .i64 p)
  fp : w'.frozen? ⟨P, 0, none⟩ = false
  bf : w'.cell? ⟨F, 0, none⟩ = some (.func (.func 148) #[] #[.pointer (some ⟨X, 0, none⟩), .pointer (some ⟨P, 0, none⟩)])
  box : BoxB w' g b (.slice none 0 0)
  fz : ∀ j, j < 10 → w'.frozen? ⟨g, j, none⟩ = false
  lt : w2.heap.size < w'.heap.size
  bel : Below R w2 w'
theorem RJ.fin (h : RJ l A n c X P F g R w2 k w') (ha : RA X P F g R w2.heap.size) (x : Int) : RE l A n c X P F g R w2 { bk l k with last := x } (pk l k) (w'.setCell ⟨g, 1, none⟩ (.int .i64 x)).drew := by
  obtain ⟨rd, bx, bp, fp, bf, box, fz, span, fs, lt, bel⟩ := h
  obtain ⟨ax, ap, af, ag, xh, ph, fh, gh, xp, xg, pg, fg, pf⟩ := ha
  have e1 : ∀ q : Addr, q.block ≠ g → (w'.setCell ⟨g, 1, none⟩ (.int .i64 x)).cell? q = w'.cell? q := fun q h1 => cell_off (by simpa using h1)
  have hb : BoxB (w'.setCell ⟨g, 1, none⟩ (.int .i64 x)) g { bk l k with last := x } (.slice none 0 0) := by
    obtain ⟨h0, h1, h2, h3, h4, h5, h6, h7, h8, h9⟩ := box
    exact ⟨(cell_set_off (by omega)).trans h0, World.cell?_setCell_same _ _ _ h1, (cell_set_off (by omega)).trans h2, (cell_set_off (by omega)).trans h3, (cell_set_off (by omega)).trans h4, (cell_set_off (by omega)).trans h5, (cell_set_off (by omega)).trans h6, (cell_set_off (by omega)).trans h7, (cell_set_off (by omega)).trans h8, (cell_set_off (by omega)).trans h9⟩
  exact ⟨rd.keep fun q hq => e1 q (by omega), (e1 _ (by simpa using xg)).trans bx, (e1 _ (by simpa using pg)).trans bp, (frozen_set _ _ _ _).trans fp, (e1 _ (by simpa using fg)).trans bf, hb, fun j hj => (frozen_set _ _ _ _).trans (fz j hj), (by show _ < (w'.setCell _ _).heap.size; simpa [World.setCell] using lt), (bel.setCell (by show R ≤ g; exact ag) _).drew⟩
theorem RJ.see (h : RJ l A n c X P F g R w2 k w') : w'.cell? ⟨g, 0, none⟩ = some (.int .i64 (bk l k).base) ∧ w'.cell? ⟨w2.heap.size, 0, none⟩ = some (.int .i64 (sk l k)) ∧ (∃ z, w'.cell? ⟨g, 1, none⟩ = some (.int .i64 z)) ∧ w'.frozen? ⟨g, 1, none⟩ = false :=
  ⟨h.box.1, h.span, ⟨_, h.box.2.1⟩, h.fz 1 (by omega)⟩
theorem RJ.start (hr : Rd w2 R A n l) (hbx : w2.cell? ⟨X, 0, none⟩ = some (.slice A n c)) (hbp : w2.cell? ⟨P, 0, none⟩ = some (.int .i64 0)) (hfp : w2.frozen? ⟨P, 0, none⟩ = false)
    (hbf : w2.cell? ⟨F, 0, none⟩ = some (.func (.func 148) #[] #[.pointer (some ⟨X, 0, none⟩), .pointer (some ⟨P, 0, none⟩)])) (hz : ZB w2 g) (ha : RA X P F g R w2.heap.size) :
    RJ l A n c X P F g R w2 0 (w2.alloc (.cells #[.int .i64 0] 3)).drew.drew := by
  have hbl : Below w2.heap.size w2 (w2.alloc (.cells #[.int .i64 0] 3)) := (Below.refl _ _).alloc (Nat.le_refl _) _
  obtain ⟨ax, ap, af, ag, xh, ph, fh, gh, xp, xg, pg, fg, pf⟩ := ha
  have hb : BoxB w2 g (bk l 0) (.slice none 0 0) := ⟨hz.c0, hz.c1, hz.c2, hz.c3, hz.c4, hz.c5, hz.c6, hz.c7, hz.c8, hz.c9⟩
  refine ⟨(hr.below hbl (by omega) : Rd (w2.alloc _) R A n l), (hbl.cell (p := ⟨X, 0, none⟩) xh).trans hbx, (hbl.cell (p := ⟨P, 0, none⟩) ph).trans hbp, (hbl.frozen (p := ⟨P, 0, none⟩) ph).trans hfp, (hbl.cell (p := ⟨F, 0, none⟩) fh).trans hbf, (hb.below hbl gh : BoxB (w2.alloc _) g _ _), fun j hj => ?_, ?_, ?_, ?_, (hbl.mono (by omega)).drew.drew⟩
  · have hfz : w2.frozen? ⟨g, j, none⟩ = false := by
      match j, hj with
      | 0, _ => exact hz.f0
      | 1, _ => exact hz.f1
      | 2, _ => exact hz.f2
      | 3, _ => exact hz.f3
      | 4, _ => exact hz.f4
      | 5, _ => exact hz.f5
      | 6, _ => exact hz.f6
      | 7, _ => exact hz.f7
      | 8, _ => exact hz.f8
      | 9, _ => exact hz.f9
      | j + 10, hj => omega
    exact (hbl.frozen (p := ⟨g, j, none⟩) gh).trans hfz
  · show (w2.alloc _).cell? _ = _
    simp [go_sem, sk]
  · show (w2.alloc _).frozen? _ = _
    simp [go_sem]
  · show _ < (w2.alloc _).heap.size
    simp
end
set_option maxHeartbeats 1000000 in
theorem rdEach (l : List UInt8) (A : Option Addr) (n c X P F g R : Nat) (w2 : World) (hr : Rd w2 R A n l) (hbx : w2.cell? ⟨X, 0, none⟩ = some (.slice A n c)) (hbp : w2.cell? ⟨P, 0, none⟩ = some (.int .i64 0)) (hfp : w2.frozen? ⟨P, 0, none⟩ = false)
    (hbf : w2.cell? ⟨F, 0, none⟩ = some (.func (.func 148) #[] #[.pointer (some ⟨X, 0, none⟩), .pointer (some ⟨P, 0, none⟩)])) (hz : ZB w2 g) (ha : RA X P F g R w2.heap.size) (hn : n ≤ 137438953472) :
    Calls Tryz.prog 119 #[.pointer (some ⟨g, 0, none⟩), .func (.func 150) #[] #[.pointer (some ⟨F, 0, none⟩)]] w2 fun e w' =>
      (rdV 7 l 0 = none ∧ e = .returned (.bool false) ∧ ∃ b p, RE l A n c X P F g R w2 b p w') ∨
      (∃ n0 n1 n2 n3 n4 n5 n6 p, rdV 7 l 0 = some ([n0, n1, n2, n3, n4, n5, n6], p) ∧ e = .returned (.bool true) ∧ RE l A n c X P F g R w2 ⟨n0, wrap64 (n0 + n1), n2, n3, n4, n5, n6, false, 0, []⟩ p w') := by
  have hj := RJ.start hr hbx hbp hfp hbf hz ha
  refine (each_any 150 #[.pointer (some ⟨F, 0, none⟩)] (fun _ _ => by go_simp) g 0 0 0 w2 ha.gh hz.c0 hz.c1 (by decide) (fun k w' => RJ l A n c X P F g R w2 k w' ∧ ∀ j, j < k → ek l j = 0) (fun k w' => RJ l A n c X P F g R w2 (k + 1) w' ∧ ¬ ek l k = 0) ⟨hj, fun j h => by omega⟩ (fun k w1 h => ⟨_, _, h.1.see⟩) (fun k w1 h => ⟨_, _, h.1.see⟩) (fun k w1 x y hk hh _ => ?_)).mono ?_
  · obtain ⟨h, ho⟩ := hh
    rw [app1]
    have st : ∀ {e : Ending} {w3 : World}, e = .returned (.bool (decide (ek l k = 0))) ∧ RJ l A n c X P F g R w2 (k + 1) w3 → ∃ y, e = .returned (.bool y) ∧ if y then (RJ l A n c X P F g R w2 (k + 1) w3 ∧ ∀ j, j < k + 1 → ek l j = 0) else (RJ l A n c X P F g R w2 (k + 1) w3 ∧ ¬ ek l k = 0) := fun {e w3} h => by
      refine ⟨_, h.1, ?_⟩
      by_cases hy : ek l k = 0
      · rw [if_pos (by simpa using hy)]
        exact ⟨h.2, fun j hj => if hjk : j < k then ho j hjk else by rw [show j = k by omega]; exact hy⟩
      · rw [if_neg (by simpa using hy)]
        exact ⟨h.2, hy⟩
    match k, hk with
    | 0, _ => exact (h.s0 ha hn _ _ rfl).mono fun _ _ => st
    | 1, _ => exact (h.s1 ha hn _ _ rfl).mono fun _ _ => st
    | 2, _ => exact (h.s2 ha hn _ _ rfl).mono fun _ _ => st
    | 3, _ => exact (h.s3 ha hn _ _ rfl).mono fun _ _ => st
    | 4, _ => exact (h.s4 ha hn _ _ rfl).mono fun _ _ => st
    | 5, _ => exact (h.s5 ha hn _ _ rfl).mono fun _ _ => st
    | 6, _ => exact (h.s6 ha hn _ _ rfl).mono fun _ _ => st
  rintro e w' ⟨y, rfl, w1, x0, y0, hs, hj, rfl⟩
  cases y
  · obtain ⟨k, hk, h, ho⟩ := hj
    exact .inl ⟨rdV_none (k := 0) (j := k) hk (by rw [Nat.zero_add]; exact ho), rfl, _, _, h.fin ha _⟩
  obtain ⟨h, ho⟩ := hj
  obtain ⟨s0, s1, -, -⟩ := hs
  have e0 := h.see.1.symm.trans s0
  have e1 := h.see.2.1.symm.trans s1
  injection e0 with e0; injection e0 with _ e0
  injection e1 with e1; injection e1 with _ e1
  have hV := rdV_from (l := l) (m := 7) (k := 0) (fun j hj => by rw [Nat.zero_add]; exact ho j hj)
  rw [← e0, ← e1]
  exact .inr ⟨nk l 0, nk l 1, nk l 2, nk l 3, nk l 4, nk l 5, nk l 6, pk l 7, hV, rfl, h.fin ha _⟩
end Go.Proofs.YtejcjmiofidedaaGreatDoor.Bat

/- The contract of the landed read: the words. -/
namespace Go.Proofs.YtejcjmiofidedaaGreatDoor.Bat
open Go.RowKit Oct Rec Crc Lay RowF

def RDB (w : World) (l : List UInt8) (en : Ending) (w' : World) : Prop :=
  Below w.heap.size w w' ∧ ∃ b A n c ok, en = .returned (.tuple #[bval b (.slice A n c), .bool ok]) ∧ n ≤ c ∧ OwnR w' w.heap.size A n b.recs ∧ (ok = true → ldB l = some b) ∧ (ok = false → ldB l = none)
theorem rdEach_no (l : List UInt8) (A : Option Addr) (n c X P F g R : Nat) (w2 : World) (hr : Rd w2 R A n l) (hbx : w2.cell? ⟨X, 0, none⟩ = some (.slice A n c)) (hbp : w2.cell? ⟨P, 0, none⟩ = some (.int .i64 0)) (hfp : w2.frozen? ⟨P, 0, none⟩ = false)
    (hbf : w2.cell? ⟨F, 0, none⟩ = some (.func (.func 148) #[] #[.pointer (some ⟨X, 0, none⟩), .pointer (some ⟨P, 0, none⟩)])) (hz : ZB w2 g) (ha : RA X P F g R w2.heap.size) (hn : n ≤ 137438953472) (h : rdV 7 l 0 = none) :
    Calls Tryz.prog 119 #[.pointer (some ⟨g, 0, none⟩), .func (.func 150) #[] #[.pointer (some ⟨F, 0, none⟩)]] w2 fun e w' => e = .returned (.bool false) ∧ ∃ b p, RE l A n c X P F g R w2 b p w' :=
  (rdEach l A n c X P F g R w2 hr hbx hbp hfp hbf hz ha hn).mono fun e w' hh => by
    rcases hh with ⟨_, h1, h2⟩ | ⟨n0, n1, n2, n3, n4, n5, n6, p, h1, _⟩
    · exact ⟨h1, h2⟩
    · rw [h] at h1; cases h1
theorem rdEach_yes (l : List UInt8) (A : Option Addr) (n c X P F g R : Nat) (w2 : World) (hr : Rd w2 R A n l) (hbx : w2.cell? ⟨X, 0, none⟩ = some (.slice A n c)) (hbp : w2.cell? ⟨P, 0, none⟩ = some (.int .i64 0)) (hfp : w2.frozen? ⟨P, 0, none⟩ = false)
    (hbf : w2.cell? ⟨F, 0, none⟩ = some (.func (.func 148) #[] #[.pointer (some ⟨X, 0, none⟩), .pointer (some ⟨P, 0, none⟩)])) (hz : ZB w2 g) (ha : RA X P F g R w2.heap.size) (hn : n ≤ 137438953472) {n0 n1 n2 n3 n4 n5 n6 p : Int} (h : rdV 7 l 0 = some ([n0, n1, n2, n3, n4, n5, n6], p)) :
    Calls Tryz.prog 119 #[.pointer (some ⟨g, 0, none⟩), .func (.func 150) #[] #[.pointer (some ⟨F, 0, none⟩)]] w2 fun e w' => e = .returned (.bool true) ∧ RE l A n c X P F g R w2 ⟨n0, wrap64 (n0 + n1), n2, n3, n4, n5, n6, false, 0, []⟩ p w' :=
  (rdEach l A n c X P F g R w2 hr hbx hbp hfp hbf hz ha hn).mono fun e w' hh => by
    rcases hh with ⟨h1, _⟩ | ⟨m0, m1, m2, m3, m4, m5, m6, q, h1, h2, h3⟩
    · rw [h] at h1; cases h1
    · rw [h] at h1
      simp only [Option.some.injEq, Prod.mk.injEq, List.cons.injEq, and_true] at h1
      obtain ⟨⟨rfl, rfl, rfl, rfl, rfl, rfl, rfl⟩, rfl⟩ := h1
      exact ⟨h2, h3⟩
structure RM (l : List UInt8) (A : Option Addr) (n c X P F g R : Nat) (w0 : World) (b : Bt) (v : Value) (p : Int) (w' : World) : Prop where
  rd : Rd w' R A n l
  bx : w'.cell? ⟨X, 0, none⟩ = some (.slice A n c)
  bp : w'.cell? ⟨P, 0, none⟩ = some (.int .i64 p)
  fp : w'.frozen? ⟨P, 0, none⟩ = false
  bf : w'.cell? ⟨F, 0, none⟩ = some (.func (.func 148) #[] #[.pointer (some ⟨X, 0, none⟩), .pointer (some ⟨P, 0, none⟩)])
  box : BoxB w' g b v
  fz : ∀ j, j < 10 → w'.frozen? ⟨g, j, none⟩ = false
  lt : R + 3 < w'.heap.size
  bel : Below R w0 w'
section
variable {l : List UInt8} {A : Option Addr} {n c R H : Nat} {w0 w1 w2 : World} {b : Bt} {v : Value} {p : Int}
theorem RE.rm (h : RE l A n c R (R + 2) (R + 3) (R + 1) R w1 b p w2) (hl : R + 3 < w1.heap.size) (hb : Below R w0 w1) : RM l A n c R (R + 2) (R + 3) (R + 1) R w0 b (.slice none 0 0) p w2 := by
  obtain ⟨rd, bx, bp, fp, bf, box, fz, lt, bel⟩ := h
  exact ⟨rd, bx, bp, fp, bf, box, fz, by omega, hb.trans bel⟩
theorem RM.below (h : RM l A n c R (R + 2) (R + 3) (R + 1) R w0 b v p w1) (hb : Below H w1 w2) (hH : R + 3 < H) : RM l A n c R (R + 2) (R + 3) (R + 1) R w0 b v p w2 := by
  obtain ⟨rd, bx, bp, fp, bf, box, fz, lt, bel⟩ := h
  exact ⟨rd.below hb (by omega), (hb.cell (p := ⟨R, 0, none⟩) (by show R < H; omega)).trans bx, (hb.cell (p := ⟨R + 2, 0, none⟩) (by show R + 2 < H; omega)).trans bp, (hb.frozen (p := ⟨R + 2, 0, none⟩) (by show R + 2 < H; omega)).trans fp, (hb.cell (p := ⟨R + 3, 0, none⟩) hH).trans bf, box.below hb (by omega), fun j hj => (hb.frozen (p := ⟨R + 1, j, none⟩) (by show R + 1 < H; omega)).trans (fz j hj), by have := hb.size; omega, bel.trans (hb.mono (by omega))⟩
theorem RM.alloc (h : RM l A n c R (R + 2) (R + 3) (R + 1) R w0 b v p w1) (o : Obj) : RM l A n c R (R + 2) (R + 3) (R + 1) R w0 b v p (w1.alloc o) := h.below (bel_alloc (Below.refl _ _) o) h.lt
theorem RM.place (h : RM l A n c R (R + 2) (R + 3) (R + 1) R w0 b v p w1) (q : Int) : RM l A n c R (R + 2) (R + 3) (R + 1) R w0 b v q (w1.setCell ⟨R + 2, 0, none⟩ (.int .i64 q)) := by
  obtain ⟨rd, bx, bp, fp, bf, box, fz, lt, bel⟩ := h
  have e1 : ∀ a : Addr, a.block ≠ R + 2 → (w1.setCell ⟨R + 2, 0, none⟩ (.int .i64 q)).cell? a = w1.cell? a := fun a ha => cell_off ha
  exact ⟨rd.keep fun a ha => e1 a (by omega), (e1 _ (by show R ≠ R + 2; omega)).trans bx, World.cell?_setCell_same _ _ _ bp, (frozen_set _ _ _ _).trans fp, (e1 _ (by show R + 3 ≠ R + 2; omega)).trans bf, box.set (by omega), fun j hj => (frozen_set _ _ _ _).trans (fz j hj), by simpa [World.setCell] using lt, bel.setCell (by show R ≤ R + 2; omega) _⟩
theorem RM.other (h : RM l A n c R (R + 2) (R + 3) (R + 1) R w0 b v p w1) (a : Addr) (u : Value) (ha : R + 3 < a.block) : RM l A n c R (R + 2) (R + 3) (R + 1) R w0 b v p (w1.setCell a u) := by
  have hb : Below (R + 4) w1 (w1.setCell a u) := (Below.refl _ _).setCell (by omega) _
  exact h.below hb (by omega)
theorem RM.put9 (h : RM l A n c R (R + 2) (R + 3) (R + 1) R w0 b v p w1) (b' : Bt) (hb' : b' = { b with recs := b'.recs }) (u : Value) : RM l A n c R (R + 2) (R + 3) (R + 1) R w0 b' u p (w1.setCell ⟨R + 1, 9, none⟩ u) := by
  obtain ⟨rd, bx, bp, fp, bf, box, fz, lt, bel⟩ := h
  have e1 : ∀ a : Addr, a.block ≠ R + 1 → (w1.setCell ⟨R + 1, 9, none⟩ u).cell? a = w1.cell? a := fun a ha => cell_off ha
  refine ⟨rd.keep fun a ha => e1 a (by omega), (e1 _ (by show R ≠ R + 1; omega)).trans bx, (e1 _ (by show R + 2 ≠ R + 1; omega)).trans bp, (frozen_set _ _ _ _).trans fp, (e1 _ (by show R + 3 ≠ R + 1; omega)).trans bf, BoxB.recs box.put9 hb', fun j hj => (frozen_set _ _ _ _).trans (fz j hj), by simpa [World.setCell] using lt, bel.setCell (by show R ≤ R + 1; omega) _⟩
theorem RM.marks (h : RM l A n c R (R + 2) (R + 3) (R + 1) R w0 b v p w1) (t : Bool) (x : Int) : RM l A n c R (R + 2) (R + 3) (R + 1) R w0 { b with txn := t, ctl := x } v p ((w1.setCell ⟨R + 1, 8, none⟩ (.int .i64 x)).setCell ⟨R + 1, 7, none⟩ (.bool t)) := by
  obtain ⟨rd, bx, bp, fp, bf, box, fz, lt, bel⟩ := h
  have e1 : ∀ a : Addr, a.block ≠ R + 1 → ((w1.setCell ⟨R + 1, 8, none⟩ (.int .i64 x)).setCell ⟨R + 1, 7, none⟩ (.bool t)).cell? a = w1.cell? a := fun a ha => (cell_off ha).trans (cell_off ha)
  have hb : BoxB ((w1.setCell ⟨R + 1, 8, none⟩ (.int .i64 x)).setCell ⟨R + 1, 7, none⟩ (.bool t)) (R + 1) { b with txn := t, ctl := x } v := by
    obtain ⟨h0, h1, h2, h3, h4, h5, h6, h7, h8, h9⟩ := box
    have o : ∀ j, j ≠ 7 → j ≠ 8 → ((w1.setCell ⟨R + 1, 8, none⟩ (.int .i64 x)).setCell ⟨R + 1, 7, none⟩ (.bool t)).cell? ⟨R + 1, j, none⟩ = w1.cell? ⟨R + 1, j, none⟩ := fun j j1 j2 => (cell_set_off (Ne.symm j1)).trans (cell_set_off (Ne.symm j2))
    exact ⟨(o 0 (by omega) (by omega)).trans h0, (o 1 (by omega) (by omega)).trans h1, (o 2 (by omega) (by omega)).trans h2, (o 3 (by omega) (by omega)).trans h3, (o 4 (by omega) (by omega)).trans h4, (o 5 (by omega) (by omega)).trans h5, (o 6 (by omega) (by omega)).trans h6, World.cell?_setCell_same _ _ _ ((cell_set_off (by omega)).trans h7), (cell_set_off (by omega)).trans (World.cell?_setCell_same _ _ _ h8), (o 9 (by omega) (by omega)).trans h9⟩
  refine ⟨rd.keep fun a ha => e1 a (by omega), (e1 _ (by show R ≠ R + 1; omega)).trans bx, (e1 _ (by show R + 2 ≠ R + 1; omega)).trans bp, (frozen_set _ _ _ _).trans ((frozen_set _ _ _ _).trans fp), (e1 _ (by show R + 3 ≠ R + 1; omega)).trans bf, hb, fun j hj => (frozen_set _ _ _ _).trans ((frozen_set _ _ _ _).trans (fz j hj)), by simpa [World.setCell] using lt, (bel.setCell (by show R ≤ R + 1; omega) _).setCell (by show R ≤ R + 1; omega) _⟩
theorem RM.num (h : RM l A n c R (R + 2) (R + 3) (R + 1) R w0 b v p w1) (M : Nat) (old : Int) (hM : R + 3 < M) (hold : w1.cell? ⟨M, 0, none⟩ = some (.int .i64 old)) (hf : w1.frozen? ⟨M, 0, none⟩ = false) (hn : n ≤ 137438953472) (hp : p ≤ l.length) {x q z : Int} (hg : gv l p = (x, q, z)) {y : Bool} (hy : decide (z = 0) = y) :
    Calls Tryz.prog 148 #[.pointer (some ⟨M, 0, none⟩), .pointer (some ⟨R, 0, none⟩), .pointer (some ⟨R + 2, 0, none⟩)] w1 fun e w' => e = .returned (.bool y) ∧ RM l A n c R (R + 2) (R + 3) (R + 1) R w0 b v q w' ∧ w'.cell? ⟨M, 0, none⟩ = some (.int .i64 x) ∧ w'.heap.size = w1.heap.size ∧ ∀ a : Addr, a.block ≠ M → a.block ≠ R + 2 → w'.cell? a = w1.cell? a ∧ w'.frozen? a = w1.frozen? a := by
  have hl := h.rd.len
  refine (numB_any ⟨M, 0, none⟩ R (R + 2) old p A n c l R w1 hold hf h.bx h.bp h.fp (by show M ≠ R + 2; omega) h.rd (by omega) (by omega) (y := y) (by rw [hg]; exact hy)).mono ?_
  rintro e w' ⟨rfl, hw⟩
  unfold NW at hw
  rw [hg] at hw
  subst hw
  refine ⟨rfl, (h.other _ _ hM).place q, (cell_off (by show M ≠ R + 2; omega)).trans (World.cell?_setCell_same _ _ _ hold), by simp [World.setCell], fun a h1 h2 => ⟨(cell_off h2).trans (cell_off h1), (frozen_set _ _ _ _).trans (frozen_set _ _ _ _)⟩⟩
end
theorem rmStart (A : Option Addr) (n c : Nat) (l : List UInt8) (w : World) (hr : Rd w w.heap.size A n l) : ∃ w4, ((((w.alloc (.cells #[.slice A n c] 57)).alloc (.cells #[.int .i64 0, .int .i64 0, .int .i64 0, .int .i64 0, .int .i64 0, .int .i64 0, .int .i64 0, .bool false, .int .i64 0, .slice none 0 0] 39)).alloc (.cells #[.int .i64 0] 3)).alloc (.cells #[.func (.func 148) #[] #[.pointer (some ⟨w.heap.size, 0, none⟩), .pointer (some ⟨w.heap.size + 2, 0, none⟩)]] 144)) = w4 ∧ w4.heap.size = w.heap.size + 4 ∧ Rd w4 w.heap.size A n l ∧ w4.cell? ⟨w.heap.size, 0, none⟩ = some (.slice A n c) ∧ w4.cell? ⟨w.heap.size + 2, 0, none⟩ = some (.int .i64 0) ∧ w4.frozen? ⟨w.heap.size + 2, 0, none⟩ = false ∧ w4.cell? ⟨w.heap.size + 3, 0, none⟩ = some (.func (.func 148) #[] #[.pointer (some ⟨w.heap.size, 0, none⟩), .pointer (some ⟨w.heap.size + 2, 0, none⟩)]) ∧ ZB w4 (w.heap.size + 1) ∧ Below w.heap.size w w4 := by
  have hb1 : Below w.heap.size w (w.alloc (.cells #[.slice A n c] 57)) := bel_alloc (Below.refl _ _) _
  have hb2 : Below (w.alloc (.cells #[.slice A n c] 57)).heap.size (w.alloc (.cells #[.slice A n c] 57)) ((w.alloc (.cells #[.slice A n c] 57)).alloc (.cells #[.int .i64 0, .int .i64 0, .int .i64 0, .int .i64 0, .int .i64 0, .int .i64 0, .int .i64 0, .bool false, .int .i64 0, .slice none 0 0] 39)) := bel_alloc (Below.refl _ _) _
  have hb3 : Below ((w.alloc (.cells #[.slice A n c] 57)).alloc (.cells #[.int .i64 0, .int .i64 0, .int .i64 0, .int .i64 0, .int .i64 0, .int .i64 0, .int .i64 0, .bool false, .int .i64 0, .slice none 0 0] 39)).heap.size ((w.alloc (.cells #[.slice A n c] 57)).alloc (.cells #[.int .i64 0, .int .i64 0, .int .i64 0, .int .i64 0, .int .i64 0, .int .i64 0, .int .i64 0, .bool false, .int .i64 0, .slice none 0 0] 39)) (((w.alloc (.cells #[.slice A n c] 57)).alloc (.cells #[.int .i64 0, .int .i64 0, .int .i64 0, .int .i64 0, .int .i64 0, .int .i64 0, .int .i64 0, .bool false, .int .i64 0, .slice none 0 0] 39)).alloc (.cells #[.int .i64 0] 3)) := bel_alloc (Below.refl _ _) _
  have hb4 : Below (((w.alloc (.cells #[.slice A n c] 57)).alloc (.cells #[.int .i64 0, .int .i64 0, .int .i64 0, .int .i64 0, .int .i64 0, .int .i64 0, .int .i64 0, .bool false, .int .i64 0, .slice none 0 0] 39)).alloc (.cells #[.int .i64 0] 3)).heap.size (((w.alloc (.cells #[.slice A n c] 57)).alloc (.cells #[.int .i64 0, .int .i64 0, .int .i64 0, .int .i64 0, .int .i64 0, .int .i64 0, .int .i64 0, .bool false, .int .i64 0, .slice none 0 0] 39)).alloc (.cells #[.int .i64 0] 3)) ((((w.alloc (.cells #[.slice A n c] 57)).alloc (.cells #[.int .i64 0, .int .i64 0, .int .i64 0, .int .i64 0, .int .i64 0, .int .i64 0, .int .i64 0, .bool false, .int .i64 0, .slice none 0 0] 39)).alloc (.cells #[.int .i64 0] 3)).alloc (.cells #[.func (.func 148) #[] #[.pointer (some ⟨w.heap.size, 0, none⟩), .pointer (some ⟨w.heap.size + 2, 0, none⟩)]] 144)) := bel_alloc (Below.refl _ _) _
  have s1 : (w.alloc (.cells #[.slice A n c] 57)).heap.size = w.heap.size + 1 := by simp
  have s2 : ((w.alloc (.cells #[.slice A n c] 57)).alloc (.cells #[.int .i64 0, .int .i64 0, .int .i64 0, .int .i64 0, .int .i64 0, .int .i64 0, .int .i64 0, .bool false, .int .i64 0, .slice none 0 0] 39)).heap.size = w.heap.size + 2 := by simp
  have s3 : (((w.alloc (.cells #[.slice A n c] 57)).alloc (.cells #[.int .i64 0, .int .i64 0, .int .i64 0, .int .i64 0, .int .i64 0, .int .i64 0, .int .i64 0, .bool false, .int .i64 0, .slice none 0 0] 39)).alloc (.cells #[.int .i64 0] 3)).heap.size = w.heap.size + 3 := by simp
  have s4 : ((((w.alloc (.cells #[.slice A n c] 57)).alloc (.cells #[.int .i64 0, .int .i64 0, .int .i64 0, .int .i64 0, .int .i64 0, .int .i64 0, .int .i64 0, .bool false, .int .i64 0, .slice none 0 0] 39)).alloc (.cells #[.int .i64 0] 3)).alloc (.cells #[.func (.func 148) #[] #[.pointer (some ⟨w.heap.size, 0, none⟩), .pointer (some ⟨w.heap.size + 2, 0, none⟩)]] 144)).heap.size = w.heap.size + 4 := by simp
  have hb : Below w.heap.size w ((((w.alloc (.cells #[.slice A n c] 57)).alloc (.cells #[.int .i64 0, .int .i64 0, .int .i64 0, .int .i64 0, .int .i64 0, .int .i64 0, .int .i64 0, .bool false, .int .i64 0, .slice none 0 0] 39)).alloc (.cells #[.int .i64 0] 3)).alloc (.cells #[.func (.func 148) #[] #[.pointer (some ⟨w.heap.size, 0, none⟩), .pointer (some ⟨w.heap.size + 2, 0, none⟩)]] 144)) := ((hb1.trans (hb2.mono (by omega))).trans (hb3.mono (by omega))).trans (hb4.mono (by omega))
  have hz : ZB ((w.alloc (.cells #[.slice A n c] 57)).alloc (.cells #[.int .i64 0, .int .i64 0, .int .i64 0, .int .i64 0, .int .i64 0, .int .i64 0, .int .i64 0, .bool false, .int .i64 0, .slice none 0 0] 39)) (w.heap.size + 1) := by
    have h := ZB.new (w.alloc (.cells #[.slice A n c] 57))
    rw [s1] at h
    exact h
  refine ⟨_, rfl, s4, hr.below hb (Nat.le_refl _), ?_, ?_, ?_, ?_, (hz.below hb3 (by omega)).below hb4 (by omega), hb⟩
  · simp [go_sem]
  · simp [go_sem]
  · simp [go_sem]
  · simp [go_sem]
theorem getR_is (A : Option Addr) (n c : Nat) (l : List UInt8) (B : Nat) (p b t : Int) (w : World) (hr : Rd w B A n l) (hB : B ≤ w.heap.size) (hc : n ≤ c) (hn : n ≤ 137438953472) (hp : I64 p) (hb : I64 b) (ht : I64 t) {o s : Int} {k v : ByteArray} {d : Bool} {q z : Int} (h : gr l p b t = (⟨o, k, v, d, s⟩, q, z)) :
    Calls Tryz.prog 151 #[.slice A n c, .int .i64 p, .int .i64 b, .int .i64 t] w fun e w' => e = .returned (.tuple #[.agg #[.int .i64 o, .string k, .string v, .bool d, .int .i64 s], .int .i64 q, .int .i64 z]) ∧ Below w.heap.size w w' := by
  have h1 := Rec.Get_any A n c l B p b t w hr hB hc hn hp hb ht
  rw [h] at h1
  exact h1
def lpRel (e : TypeId) (l : List UInt8) (A : Option Addr) (n c R : Nat) (w0 : World) (b : Bt) (st q3 : Int) (m Bs S : Nat) (i : Value) (wr : World) : Prop :=
  ∃ (k : Nat) (xs : List Rc) (q : Int) (A2 : Option Addr) (c2 : Nat), i = .int .i64 (k : Int) ∧ k ≤ m ∧ (k : Int) ≤ q ∧ 0 ≤ q ∧ q ≤ (l.length : Int) ∧ rdR m l q3 b.base st = (rdR (m - k) l q b.base st).map (fun y => (xs ++ y.1, y.2)) ∧
    OwnF recC 5 wr e Bs (.slice A2 k c2) k xs ∧ RM l A n c R (R + 2) (R + 3) (R + 1) R w0 { b with recs := xs } (.slice A2 k c2) q wr ∧ wr.cell? ⟨S, 0, none⟩ = some (.int .i64 st) ∧ Bs ≤ wr.heap.size
theorem raAt {R H : Nat} (h : R + 4 ≤ H) : RA R (R + 2) (R + 3) (R + 1) R H := ⟨by omega, by omega, by omega, by omega, by omega, by omega, by omega, by omega, by omega, by omega, by omega, by omega, by omega⟩
end Go.Proofs.YtejcjmiofidedaaGreatDoor.Bat

/- The contract of the landed read: way 0. -/
namespace Go.Proofs.YtejcjmiofidedaaGreatDoor.Bat
open Go.RowKit Oct Rec Crc Lay RowF

set_option maxRecDepth 100000 in
set_option maxHeartbeats 8000000 in
theorem read_0 (A : Option Addr) (n c : Nat) (l : List UInt8) (w : World) (hr : Rd w w.heap.size A n l) (_hc : n ≤ c) (hn : n ≤ 137438953472) (hV : rdV 7 l 0 = none) :
    Calls Tryz.prog 127 #[.slice A n c] w (RDB w l) := by
  have hl := hr.len
  obtain ⟨w4, hw4, hs4, hr4, hx4, hp4, hf4, hF4, hz4, hb4⟩ := rmStart A n c l w hr
  have HW4 := Lib.hid hw4
  have HR4 := Lib.hid hr4
  have HZ4 := Lib.hid hz4
  have HB4 := Lib.hid hb4
  have hs34 : w.heap.size + 3 < w4.heap.size := by omega
  clear hr hw4 hr4 hz4 hb4
  have HV := Lib.hid hV
  have HNO := Lib.hid (show ldB l = none by unfold ldB; rw [hV])
  clear hV
  go_enter Tryz.func127, Tryz.ntmps127
  go_wp2_with (go_at_call 119; rw [HW4.out]; (with_reducible refine (rdEach_no l A n c w.heap.size (w.heap.size + 2) (w.heap.size + 3) (w.heap.size + 1) w.heap.size w4 HR4.out hx4 hp4 hf4 hF4 HZ4.out (raAt (by omega)) hn HV.out).mono ?_); rintro e w5 ⟨rfl, b5, p5, hE⟩; have HM5 := Lib.hid (hE.rm hs34 HB4.out); obtain ⟨y0, y1, y2, y3, y4, y5, y6, y7, y8, y9⟩ := HM5.out.box; have f0 := HM5.out.fz 0 (by omega); have f1 := HM5.out.fz 1 (by omega); have f2 := HM5.out.fz 2 (by omega); have f3 := HM5.out.fz 3 (by omega); have f4 := HM5.out.fz 4 (by omega); have f5 := HM5.out.fz 5 (by omega); have f6 := HM5.out.fz 6 (by omega); have f7 := HM5.out.fz 7 (by omega); have f8 := HM5.out.fz 8 (by omega); have f9 := HM5.out.fz 9 (by omega); clear hE)
  refine bodyPost_ret (v := .tuple #[bval nilB (.slice none 0 0), .bool false]) (by simp [results, Tryz.results127, go_sem, bval, nilB, y0, y1, y2, y3, y4, y5, y6, y7, y8, y9]) rfl ?_
  exact ⟨((((((((((HM5.out.bel.setCell (by show w.heap.size ≤ w.heap.size + 1; omega) _).setCell (by show w.heap.size ≤ w.heap.size + 1; omega) _).setCell (by show w.heap.size ≤ w.heap.size + 1; omega) _).setCell (by show w.heap.size ≤ w.heap.size + 1; omega) _).setCell (by show w.heap.size ≤ w.heap.size + 1; omega) _).setCell (by show w.heap.size ≤ w.heap.size + 1; omega) _).setCell (by show w.heap.size ≤ w.heap.size + 1; omega) _).setCell (by show w.heap.size ≤ w.heap.size + 1; omega) _).setCell (by show w.heap.size ≤ w.heap.size + 1; omega) _).setCell (by show w.heap.size ≤ w.heap.size + 1; omega) _), nilB, none, 0, 0, false, rfl, Nat.le_refl _, ⟨RdR.nil, fun _ _ _ h => absurd h (by omega)⟩, fun h => (by cases h), fun _ => HNO.out⟩
end Go.Proofs.YtejcjmiofidedaaGreatDoor.Bat

/- The contract of the landed read: way 1. -/
namespace Go.Proofs.YtejcjmiofidedaaGreatDoor.Bat
open Go.RowKit Oct Rec Crc Lay RowF

set_option maxRecDepth 100000 in
set_option maxHeartbeats 8000000 in
theorem read_1 (A : Option Addr) (n c : Nat) (l : List UInt8) (w : World) (hr : Rd w w.heap.size A n l) (hc : n ≤ c) (hn : n ≤ 137438953472) (n0 n1 n2 n3 n4 n5 n6 p : Int) (hV : rdV 7 l 0 = some ([n0, n1, n2, n3, n4, n5, n6], p)) (hlp : l[p.toNat]? = none) :
    Calls Tryz.prog 127 #[.slice A n c] w (RDB w l) := by
  have hl := hr.len
  obtain ⟨w4, hw4, hs4, hr4, hx4, hp4, hf4, hF4, hz4, hb4⟩ := rmStart A n c l w hr
  have HW4 := Lib.hid hw4
  have HR4 := Lib.hid hr4
  have HZ4 := Lib.hid hz4
  have HB4 := Lib.hid hb4
  have hs34 : w.heap.size + 3 < w4.heap.size := by omega
  clear hr hw4 hr4 hz4 hb4
  have HV := Lib.hid hV
  have HNO := Lib.hid (show ldB l = none by unfold ldB; rw [hV]; simp only [hlp])
  have HG1 := Lib.hid (gt_one_none (rdV_at_least hV).1 hlp)
  clear hV hlp
  go_enter Tryz.func127, Tryz.ntmps127
  go_wp2_with (first | (go_at_call 119; rw [HW4.out]; (with_reducible refine (rdEach_yes l A n c w.heap.size (w.heap.size + 2) (w.heap.size + 3) (w.heap.size + 1) w.heap.size w4 HR4.out hx4 hp4 hf4 hF4 HZ4.out (raAt (by omega)) hn HV.out).mono ?_); rintro e w5 ⟨rfl, hE⟩; have HM5 := Lib.hid (hE.rm hs34 HB4.out); have hX5 := HM5.out.bx; have hP5 := HM5.out.bp; have hfP5 := HM5.out.fp; obtain ⟨y0, y1, y2, y3, y4, y5, y6, y7, y8, y9⟩ := HM5.out.box; have f0 := HM5.out.fz 0 (by omega); have f1 := HM5.out.fz 1 (by omega); have f2 := HM5.out.fz 2 (by omega); have f3 := HM5.out.fz 3 (by omega); have f4 := HM5.out.fz 4 (by omega); have f5 := HM5.out.fz 5 (by omega); have f6 := HM5.out.fz 6 (by omega); have f7 := HM5.out.fz 7 (by omega); have f8 := HM5.out.fz 8 (by omega); have f9 := HM5.out.fz 9 (by omega); clear hE) | (go_at_call 125; (with_reducible refine (Get_is A n c p 1 l _ _ HM5.out.rd hc (by omega) HG1.out).mono ?_); rintro e w8 ⟨rfl, rfl⟩))
  refine bodyPost_ret (v := .tuple #[bval nilB (.slice none 0 0), .bool false]) (by simp [results, Tryz.results127, go_sem, bval, nilB, y0, y1, y2, y3, y4, y5, y6, y7, y8, y9]) rfl ?_
  exact ⟨((((((((((HM5.out.bel.setCell (by show w.heap.size ≤ w.heap.size + 1; omega) _).setCell (by show w.heap.size ≤ w.heap.size + 1; omega) _).setCell (by show w.heap.size ≤ w.heap.size + 1; omega) _).setCell (by show w.heap.size ≤ w.heap.size + 1; omega) _).setCell (by show w.heap.size ≤ w.heap.size + 1; omega) _).setCell (by show w.heap.size ≤ w.heap.size + 1; omega) _).setCell (by show w.heap.size ≤ w.heap.size + 1; omega) _).setCell (by show w.heap.size ≤ w.heap.size + 1; omega) _).setCell (by show w.heap.size ≤ w.heap.size + 1; omega) _).setCell (by show w.heap.size ≤ w.heap.size + 1; omega) _), nilB, none, 0, 0, false, rfl, Nat.le_refl _, ⟨RdR.nil, fun _ _ _ h => absurd h (by omega)⟩, fun h => (by cases h), fun _ => HNO.out⟩
end Go.Proofs.YtejcjmiofidedaaGreatDoor.Bat

/- The contract of the landed read: what stands behind a mark. -/
namespace Go.Proofs.YtejcjmiofidedaaGreatDoor.Bat
open Go.RowKit Oct Rec Crc Lay RowF

set_option maxRecDepth 100000 in
set_option maxHeartbeats 40000000 in
theorem read_good (A : Option Addr) (n c : Nat) (l : List UInt8) (w : World) (hr : Rd w w.heap.size A n l) (hc : n ≤ c) (hn : n ≤ 137438953472) (n0 n1 n2 n3 n4 n5 n6 p : Int) (hV : rdV 7 l 0 = some ([n0, n1, n2, n3, n4, n5, n6], p)) (fc : UInt8) (hlp : l[p.toNat]? = some fc) (x2 q2 e2 : Int) (hg : gv l (p + 1) = (x2, q2, e2)) :
    Calls Tryz.prog 127 #[.slice A n c] w (RDB w l) := by
  have hl := hr.len
  obtain ⟨w4, hw4, hs4, hr4, hx4, hp4, hf4, hF4, hz4, hb4⟩ := rmStart A n c l w hr
  have HW4 := Lib.hid hw4
  have HR4 := Lib.hid hr4
  have HZ4 := Lib.hid hz4
  have HB4 := Lib.hid hb4
  have hs34 : w.heap.size + 3 < w4.heap.size := by omega
  clear hr hw4 hr4 hz4 hb4
  have HV := Lib.hid hV
  have HG1 := Lib.hid (gt_one_some (rdV_at_least hV).1 hlp)
  obtain ⟨hp0, hp1⟩ := rdV_at_least hV
  have hp2 := (List.getElem?_eq_some_iff.1 hlp).1
  have hfc : fc.toNat < 256 := fc.toNat_lt
  obtain ⟨CT, hCT⟩ : ∃ x, ctM fc.toNat = x := ⟨_, rfl⟩
  obtain ⟨TX, hTX⟩ : ∃ x, txM fc.toNat = x := ⟨_, rfl⟩
  obtain ⟨L, hL⟩ : ∃ x, wrap64 (n0 + n1) = x := ⟨_, rfl⟩
  have hb1 : bits .andNot .u64 (fc.toNat : Int) 4 = CT := (bits_ct _ hfc).trans hCT
  have hb2 : (bits .and .u64 (fc.toNat : Int) 4 != 0) = TX := (bits_tx _ hfc).trans hTX
  have hc0 : 0 ≤ CT := by rw [← hCT]; unfold ctM; omega
  have hc1 : CT ≤ 255 := by rw [← hCT]; unfold ctM; omega
  have HLD := Lib.hid (show ldB l = (ldT l (p + 1) n0).map fun xs => ⟨n0, L, n2, n3, n4, n5, n6, TX, CT, xs⟩ by
    unfold ldB; rw [hV]; simp only [hlp]; rw [hL, hCT, hTX])
  have HL := Lib.hid hL
  have hn0 := (rdV_good hV (by omega)).2.2.2.2
  have hw0 : W64 n0 := hn0 _ (by simp)
  clear hV hCT hTX hL hn0
  have HG := Lib.hid hg
  clear hg
  go_enter Tryz.func127, Tryz.ntmps127
  go_upto_region 11 with (first | (go_at_call 119; rw [HW4.out]; (with_reducible refine (rdEach_yes l A n c w.heap.size (w.heap.size + 2) (w.heap.size + 3) (w.heap.size + 1) w.heap.size w4 HR4.out hx4 hp4 hf4 hF4 HZ4.out (raAt (by omega)) hn HV.out).mono ?_); rintro e w5 ⟨rfl, hE⟩; have HM5 := Lib.hid (hE.rm hs34 HB4.out); have hX5 := HM5.out.bx; have hP5 := HM5.out.bp; have hfP5 := HM5.out.fp; obtain ⟨y0, y1, y2, y3, y4, y5, y6, y7, y8, y9⟩ := HM5.out.box; have f0 := HM5.out.fz 0 (by omega); have f1 := HM5.out.fz 1 (by omega); have f2 := HM5.out.fz 2 (by omega); have f3 := HM5.out.fz 3 (by omega); have f4 := HM5.out.fz 4 (by omega); have f5 := HM5.out.fz 5 (by omega); have f6 := HM5.out.fz 6 (by omega); have f7 := HM5.out.fz 7 (by omega); have f8 := HM5.out.fz 8 (by omega); have f9 := HM5.out.fz 9 (by omega); clear hE) | (go_at_call 125; (with_reducible refine (Get_is A n c p 1 l _ _ HM5.out.rd hc (by omega) HG1.out).mono ?_); rintro e w8 ⟨rfl, rfl⟩))
  have hs5 := HM5.out.lt
  have HM6 := Lib.hid (show RM l A n c w.heap.size (w.heap.size + 2) (w.heap.size + 3) (w.heap.size + 1) w.heap.size w ⟨n0, L, n2, n3, n4, n5, n6, TX, CT, []⟩ (.slice none 0 0) (p + 1) ((((w5.setCell ⟨w.heap.size + 2, 0, none⟩ (.int .i64 (p + 1))).setCell ⟨w.heap.size + 1, 8, none⟩ (.int .i64 CT)).setCell ⟨w.heap.size + 1, 7, none⟩ (.bool TX))) by
    have h := (HM5.out.place (p + 1)).marks TX CT
    rw [HL.out] at h
    exact h)
  have hs6 : ((((w5.setCell ⟨w.heap.size + 2, 0, none⟩ (.int .i64 (p + 1))).setCell ⟨w.heap.size + 1, 8, none⟩ (.int .i64 CT)).setCell ⟨w.heap.size + 1, 7, none⟩ (.bool TX))).heap.size = w5.heap.size := by simp [World.setCell]
  have HM7 := Lib.hid (show RM l A n c w.heap.size (w.heap.size + 2) (w.heap.size + 3) (w.heap.size + 1) w.heap.size w ⟨n0, L, n2, n3, n4, n5, n6, TX, CT, []⟩ (.slice none 0 0) (p + 1) ((((((w5.setCell ⟨w.heap.size + 2, 0, none⟩ (.int .i64 (p + 1))).setCell ⟨w.heap.size + 1, 8, none⟩ (.int .i64 CT)).setCell ⟨w.heap.size + 1, 7, none⟩ (.bool TX))).alloc (.cells #[.int .i64 0] 3)).alloc (.cells #[.int .i64 0] 3)) from (HM6.out.alloc _).alloc _)
  generalize ((((w5.setCell ⟨w.heap.size + 2, 0, none⟩ (.int .i64 (p + 1))).setCell ⟨w.heap.size + 1, 8, none⟩ (.int .i64 CT)).setCell ⟨w.heap.size + 1, 7, none⟩ (.bool TX))) = w6 at hs6 HM6 HM7 ⊢
  have hm7 : ((w6.alloc (.cells #[.int .i64 0] 3)).alloc (.cells #[.int .i64 0] 3)).cell? ⟨w5.heap.size, 0, none⟩ = some (.int .i64 0) := by rw [← hs6]; simp [go_sem]
  have hm7f : ((w6.alloc (.cells #[.int .i64 0] 3)).alloc (.cells #[.int .i64 0] 3)).frozen? ⟨w5.heap.size, 0, none⟩ = false := by rw [← hs6]; simp [go_sem]
  have hs7 : ((w6.alloc (.cells #[.int .i64 0] 3)).alloc (.cells #[.int .i64 0] 3)).cell? ⟨w5.heap.size + 1, 0, none⟩ = some (.int .i64 0) := by rw [← hs6]; simp [go_sem]
  have hs7f : ((w6.alloc (.cells #[.int .i64 0] 3)).alloc (.cells #[.int .i64 0] 3)).frozen? ⟨w5.heap.size + 1, 0, none⟩ = false := by rw [← hs6]; simp [go_sem]
  have hz7 : ((w6.alloc (.cells #[.int .i64 0] 3)).alloc (.cells #[.int .i64 0] 3)).heap.size = w5.heap.size + 2 := by simp; omega
  generalize ((w6.alloc (.cells #[.int .i64 0] 3)).alloc (.cells #[.int .i64 0] 3)) = w7 at HM7 hm7 hm7f hs7 hs7f hz7 ⊢
  have hF7 := HM7.out.bf
  clear HM5 HM6 hX5 hP5 hfP5 y0 y1 y2 y3 y4 y5 y6 y7 y8 y9 f0 f1 f2 f3 f4 f5 f6 f7 f8 f9 hb1 hb2 hs6 hx4 hp4 hf4 hF4
  have hg := HG.out
  by_cases he : e2 = 0
  case neg =>
    have HNO := Lib.hid (show ldB l = none by rw [HLD.out]; unfold ldT; rw [hg, if_pos he]; rfl)
    have HG2 := Lib.hid hg
    have HD2 := Lib.hid (decide_eq_false he)
    clear hg he
    go_wp2_with (go_at_call 148; (with_reducible refine (HM7.out.num w5.heap.size 0 (by omega) hm7 hm7f hn (by omega) HG2.out (y := false) HD2.out).mono ?_); rintro e w8 ⟨rfl, hM8, hm8, hz8, hk8⟩; have HM8 := Lib.hid hM8; obtain ⟨y0, y1, y2, y3, y4, y5, y6, y7, y8, y9⟩ := HM8.out.box; have f0 := HM8.out.fz 0 (by omega); have f1 := HM8.out.fz 1 (by omega); have f2 := HM8.out.fz 2 (by omega); have f3 := HM8.out.fz 3 (by omega); have f4 := HM8.out.fz 4 (by omega); have f5 := HM8.out.fz 5 (by omega); have f6 := HM8.out.fz 6 (by omega); have f7 := HM8.out.fz 7 (by omega); have f8 := HM8.out.fz 8 (by omega); have f9 := HM8.out.fz 9 (by omega); clear hM8)
    refine bodyPost_ret (v := .tuple #[bval nilB (.slice none 0 0), .bool false]) (by simp [results, Tryz.results127, go_sem, bval, nilB, y0, y1, y2, y3, y4, y5, y6, y7, y8, y9]) rfl ?_
    exact ⟨bel10 HM8.out.bel (by omega), nilB, none, 0, 0, false, rfl, Nat.le_refl _, ⟨RdR.nil, fun _ _ _ h => absurd h (by omega)⟩, fun h => (by cases h), fun _ => HNO.out⟩
  subst he
  by_cases hx : 0 < x2
  case neg =>
    have HYES := Lib.hid (show ldB l = some ⟨n0, L, n2, n3, n4, n5, n6, TX, CT, []⟩ by rw [HLD.out]; unfold ldT; rw [hg, if_neg (by simp), if_neg hx]; rfl)
    have HG2 := Lib.hid hg
    have HD2 := Lib.hid (show decide ((0 : Int) = 0) = true from rfl)
    have hgg := gv_good hg
    have hx1 : -9223372036854775808 ≤ x2 := by omega
    clear hg hgg
    go_wp2_with (go_at_call 148; (with_reducible refine (HM7.out.num w5.heap.size 0 (by omega) hm7 hm7f hn (by omega) HG2.out (y := true) (decide_eq_true rfl)).mono ?_); rintro e w8 ⟨rfl, hM8, hm8, hz8, hk8⟩; have HM8 := Lib.hid hM8; obtain ⟨y0, y1, y2, y3, y4, y5, y6, y7, y8, y9⟩ := HM8.out.box; have f0 := HM8.out.fz 0 (by omega); have f1 := HM8.out.fz 1 (by omega); have f2 := HM8.out.fz 2 (by omega); have f3 := HM8.out.fz 3 (by omega); have f4 := HM8.out.fz 4 (by omega); have f5 := HM8.out.fz 5 (by omega); have f6 := HM8.out.fz 6 (by omega); have f7 := HM8.out.fz 7 (by omega); have f8 := HM8.out.fz 8 (by omega); have f9 := HM8.out.fz 9 (by omega); clear hM8)
    go_loopw [51] (fun i wr => i = .int .i64 0 ∧ w8 = wr) (fun _ _ => 0)
    case atStart => exact ⟨rfl, rfl⟩
    case round =>
      obtain ⟨rfl, rfl⟩ := hrel
      go_wp2
      refine bodyPost_ret (v := .tuple #[bval ⟨n0, L, n2, n3, n4, n5, n6, TX, CT, []⟩ (.slice none 0 0), .bool true]) (by simp [results, Tryz.results127, go_sem, bval, y0, y1, y2, y3, y4, y5, y6, y7, y8, y9]) rfl ?_
      exact ⟨bel10 HM8.out.bel (by omega), ⟨n0, L, n2, n3, n4, n5, n6, TX, CT, []⟩, _, _, _, true, rfl, Nat.le_refl _, ⟨RdR.nil, fun _ _ _ h => absurd h (by omega)⟩, fun _ => HYES.out, fun h => (by cases h)⟩
  rcases hg3 : gv l q2 with ⟨x3, q3, e3⟩
  by_cases he : e3 = 0
  case neg =>
    have HNO := Lib.hid (show ldB l = none by rw [HLD.out]; unfold ldT; rw [hg, if_neg (by simp), if_pos hx]; simp only [hg3]; rw [if_pos he]; rfl)
    have HG2 := Lib.hid hg
    have HG3 := Lib.hid hg3
    have HD2 := Lib.hid (show decide ((0 : Int) = 0) = true from rfl)
    have HD3 := Lib.hid (decide_eq_false he)
    have hgg := gv_good hg
    have hq2 : q2 ≤ (l.length : Int) := by omega
    clear hg hgg hg3 he
    go_wp2_with (first | (go_at_call 148; (with_reducible refine (HM8.out.num (w5.heap.size + 1) 0 (by omega) hs8 hs8f hn (by omega) HG3.out (y := false) HD3.out).mono ?_); rintro e w9 ⟨rfl, hM9, hm9, hz9, hk9⟩; have HM9 := Lib.hid hM9; obtain ⟨y0, y1, y2, y3, y4, y5, y6, y7, y8, y9⟩ := HM9.out.box; have f0 := HM9.out.fz 0 (by omega); have f1 := HM9.out.fz 1 (by omega); have f2 := HM9.out.fz 2 (by omega); have f3 := HM9.out.fz 3 (by omega); have f4 := HM9.out.fz 4 (by omega); have f5 := HM9.out.fz 5 (by omega); have f6 := HM9.out.fz 6 (by omega); have f7 := HM9.out.fz 7 (by omega); have f8 := HM9.out.fz 8 (by omega); have f9 := HM9.out.fz 9 (by omega); clear hM9) | (go_at_call 148; (with_reducible refine (HM7.out.num w5.heap.size 0 (by omega) hm7 hm7f hn (by omega) HG2.out (y := true) (decide_eq_true rfl)).mono ?_); rintro e w8 ⟨rfl, hM8, hm8, hz8, hk8⟩; have HM8 := Lib.hid hM8; have hs8 : w8.cell? ⟨w5.heap.size + 1, 0, none⟩ = some (.int .i64 0) := (hk8 ⟨w5.heap.size + 1, 0, none⟩ (by show w5.heap.size + 1 ≠ w5.heap.size; omega) (by show w5.heap.size + 1 ≠ w.heap.size + 2; omega)).1.trans hs7; have hs8f : w8.frozen? ⟨w5.heap.size + 1, 0, none⟩ = false := (hk8 ⟨w5.heap.size + 1, 0, none⟩ (by show w5.heap.size + 1 ≠ w5.heap.size; omega) (by show w5.heap.size + 1 ≠ w.heap.size + 2; omega)).2.trans hs7f; have hF8 := HM8.out.bf; clear hM8))
    refine bodyPost_ret (v := .tuple #[bval nilB (.slice none 0 0), .bool false]) (by simp [results, Tryz.results127, go_sem, bval, nilB, y0, y1, y2, y3, y4, y5, y6, y7, y8, y9]) rfl ?_
    exact ⟨bel10 HM9.out.bel (by omega), nilB, none, 0, 0, false, rfl, Nat.le_refl _, ⟨RdR.nil, fun _ _ _ h => absurd h (by omega)⟩, fun h => (by cases h), fun _ => HNO.out⟩
  subst he
  obtain ⟨m, rfl⟩ : ∃ m : Nat, x2 = (m : Int) := ⟨x2.toNat, by omega⟩
  have HLR := Lib.hid (show ldB l = (rdR m l q3 n0 x3).map fun y => ⟨n0, L, n2, n3, n4, n5, n6, TX, CT, y.1⟩ by rw [HLD.out]; unfold ldT; rw [hg, if_neg (by simp), if_pos hx]; simp only [hg3]; rw [if_neg (by simp), Int.toNat_natCast]; cases rdR m l q3 n0 x3 <;> rfl)
  have HG2 := Lib.hid hg
  have HG3 := Lib.hid hg3
  have hgg := gv_good hg
  have hq2 : q2 ≤ (l.length : Int) := by omega
  have hgg3 := gv_good hg3
  have hq30 : 0 ≤ q3 := by omega
  have hq31 : q3 ≤ (l.length : Int) := by omega
  have hst0 : -9223372036854775808 ≤ x3 := by omega
  have hst1 : x3 ≤ 9223372036854775807 := by omega
  have hmm9 : (m : Int) ≤ 9223372036854775807 := by omega
  have HW0 := Lib.hid (show I64 n0 from hw0)
  have HST := Lib.hid (show I64 x3 from ⟨hst0, hst1⟩)
  clear hg hgg hg3 hgg3
  go_wp2_with (first | (go_at_call 148; (with_reducible refine (HM8.out.num (w5.heap.size + 1) 0 (by omega) hs8 hs8f hn (by omega) HG3.out (y := true) (decide_eq_true rfl)).mono ?_); rintro e w9 ⟨rfl, hM9, hm9, hz9, hk9⟩; have HM9 := Lib.hid hM9; have hs9 : w9.cell? ⟨w5.heap.size, 0, none⟩ = some (.int .i64 (m : Int)) := (hk9 ⟨w5.heap.size, 0, none⟩ (by show w5.heap.size ≠ w5.heap.size + 1; omega) (by show w5.heap.size ≠ w.heap.size + 2; omega)).1.trans hm8; clear hM9) | (go_at_call 148; (with_reducible refine (HM7.out.num w5.heap.size 0 (by omega) hm7 hm7f hn (by omega) HG2.out (y := true) (decide_eq_true rfl)).mono ?_); rintro e w8 ⟨rfl, hM8, hm8, hz8, hk8⟩; have HM8 := Lib.hid hM8; have hs8 : w8.cell? ⟨w5.heap.size + 1, 0, none⟩ = some (.int .i64 0) := (hk8 ⟨w5.heap.size + 1, 0, none⟩ (by show w5.heap.size + 1 ≠ w5.heap.size; omega) (by show w5.heap.size + 1 ≠ w.heap.size + 2; omega)).1.trans hs7; have hs8f : w8.frozen? ⟨w5.heap.size + 1, 0, none⟩ = false := (hk8 ⟨w5.heap.size + 1, 0, none⟩ (by show w5.heap.size + 1 ≠ w5.heap.size; omega) (by show w5.heap.size + 1 ≠ w.heap.size + 2; omega)).2.trans hs7f; have hF8 := HM8.out.bf; clear hM8))
  have hl9 : w5.heap.size + 1 < w9.heap.size := by omega
  clear hk8 hk9 hs8 hs8f hm8 hm7 hm7f hs7 hs7f hF7 hF8
  go_loopw [51] (fun i wr => lpRel 79 l A n c w.heap.size w ⟨n0, L, n2, n3, n4, n5, n6, TX, CT, []⟩ x3 q3 m w9.heap.size (w5.heap.size + 1) i wr) (fun i _ => m - (intOf i).toNat)
  case atStart => exact ⟨0, [], q3, none, 0, rfl, Nat.zero_le _, by omega, hq30, hq31, (by cases rdR m l q3 n0 x3 <;> rfl), OwnF.nil, HM9.out, hm9, Nat.le_refl _⟩
  case round =>
    obtain ⟨k, xs, q, A2, c2, rfl, hk, hkq, hq0, hq1, hR, hown, hrm, hS, hBs⟩ := hrel
    simp only at hR
    have HRR := Lib.hid hR
    have HOr := Lib.hid hown
    have HMr := Lib.hid hrm
    have hXr := hrm.bx
    have hPr := hrm.bp
    have hfPr := hrm.fp
    have hcap := hown.cap
    obtain ⟨r0, r1, r2, r3, r4, r5, r6, r7, r8, r9⟩ := hrm.box
    simp only at r0 r1 r2 r3 r4 r5 r6 r7 r8 r9
    have hSw : w5.heap.size + 1 < wr.heap.size := by omega
    clear hR hown hrm
    by_cases hlt : k < m
    · rcases hgr : gr l q n0 x3 with ⟨⟨ro, rk, rv, rd, rt⟩, q', z⟩
      have HGR := Lib.hid hgr
      by_cases hz : z = 0
      · subst hz
        obtain ⟨-, -, -, -, hqa, hqb, -⟩ := gr_good hgr
        have HS := Lib.hid (rdR_step hlt HRR.out hgr)
        have HSRC := Lib.hid (fun w10 : World => show RdF recC 5 ((w10.alloc (.cells #[.int .i64 ro, .string rk, .string rv, .bool rd, .int .i64 rt] 79)).alloc (.cells #[.int .i64 ro, .string rk, .string rv, .bool rd, .int .i64 rt] 79)) (w10.heap.size + 2) (some ⟨w10.heap.size + 1, 0, none⟩) 1 [⟨ro, rk, rv, rd, rt⟩] by
          have h := rdF_new (w10.alloc (.cells #[.int .i64 ro, .string rk, .string rv, .bool rd, .int .i64 rt] 79)) recS 79 ⟨ro, rk, rv, rd, rt⟩
          rw [show (w10.alloc (.cells #[.int .i64 ro, .string rk, .string rv, .bool rd, .int .i64 rt] 79)).heap.size = w10.heap.size + 1 by simp] at h
          exact h)
        clear hgr
        go_wp2_with (first
          | (at_builtin; refine wpList_appF _ recS rfl _ _ 37 rfl 56 w9.heap.size 79 Tryz.underlying37 recInfo _ k xs rfl (HO10.out.alloc _) _ (some ⟨w10.heap.size + 1, 0, none⟩) 1 1 [⟨ro, rk, rv, rd, rt⟩] rfl (HSRC.out w10) (by omega) (by omega) (by simp; omega) ?_; intro A3 c3 w12 hown12 hb12; have HO12 := Lib.hid hown12; have HB12 := Lib.hid hb12; have HM12 := Lib.hid ((HM10.out.alloc (.cells #[.int .i64 ro, .string rk, .string rv, .bool rd, .int .i64 rt] 79)).below hb12 (by omega)); obtain ⟨v0, v1, v2, v3, v4, v5, v6, v7, v8, v9⟩ := HM12.out.box; have v9f := HM12.out.fz 9 (by omega); have vP := HM12.out.bp; have vfP := HM12.out.fp; have hs12 := hb12.size; have hS12 := (hb12.cell (p := ⟨w5.heap.size + 1, 0, none⟩) (show w5.heap.size + 1 < w9.heap.size by omega)).trans ((World.cell?_alloc_past _ _ _ (show w5.heap.size + 1 < (w10.alloc (.cells #[.int .i64 ro, .string rk, .string rv, .bool rd, .int .i64 rt] 79)).heap.size by rw [hs10a]; omega)).trans hS10); clear hown12 hb12)
          | (go_at_call 151; (with_reducible refine (getR_is A n c l w.heap.size q n0 x3 _ HMr.out.rd (by have := HMr.out.lt; omega) hc hn (by unfold I64; omega) HW0.out HST.out HGR.out).mono ?_); rintro e w10 ⟨rfl, hb10⟩; have hs10 := hb10.size; have HB10 := Lib.hid (show Below wr.heap.size wr (w10.alloc (.cells #[.int .i64 ro, .string rk, .string rv, .bool rd, .int .i64 rt] 79)) from (bel_alloc hb10 _)); have hs10a : (w10.alloc (.cells #[.int .i64 ro, .string rk, .string rv, .bool rd, .int .i64 rt] 79)).heap.size = w10.heap.size + 1 := (by simp); have HM10 := Lib.hid (HMr.out.below HB10.out HMr.out.lt); have HO10 := Lib.hid (HOr.out.below HB10.out); have hS10 := (HB10.out.cell (p := ⟨w5.heap.size + 1, 0, none⟩) hSw).trans hS; have hlg : w.heap.size + 1 < w10.heap.size := (by have := HMr.out.lt; omega); obtain ⟨u0, u1, u2, u3, u4, u5, u6, u7, u8, u9⟩ := HM10.out.box; have u9' := (hb10.cell (p := ⟨w.heap.size + 1, 9, none⟩) (show w.heap.size + 1 < wr.heap.size by have := HMr.out.lt; omega)).trans r9; clear hb10))
        go_roundw
        case rel =>
          refine ⟨k + 1, xs ++ [⟨ro, rk, rv, rd, rt⟩], q', A3, c3, by go_num, by omega, by omega, by omega, hqb, HS.out, ?_, ?_, ?_, ?_⟩
          · exact ownsRow_setCell_below (ownsRow_setCell_below HO12.out (show w.heap.size + 1 < w9.heap.size by omega) _) (show w.heap.size + 2 < w9.heap.size by omega) _
          · exact (HM12.out.put9 ⟨n0, L, n2, n3, n4, n5, n6, TX, CT, xs ++ [⟨ro, rk, rv, rd, rt⟩]⟩ rfl _).place q'
          · exact (cell_off (by show w5.heap.size + 1 ≠ w.heap.size + 2; omega)).trans ((cell_off (by show w5.heap.size + 1 ≠ w.heap.size + 1; omega)).trans hS12)
          · simp [World.setCell]; simp at hs12; omega
        case measure => simp [intOf]; omega
      · have HNO := Lib.hid (show ldB l = none by rw [HLR.out, HRR.out, rdR_fail (by omega) (by rw [hgr]; exact hz)]; rfl)
        have e1 : (z == 0) = false := beqF hz
        have e2 : (z != 0) = true := by simp [hz]
        clear hgr hz
        go_wp2_with (go_at_call 151; (with_reducible refine (getR_is A n c l w.heap.size q n0 x3 _ HMr.out.rd (by have := HMr.out.lt; omega) hc hn (by unfold I64; omega) HW0.out HST.out HGR.out).mono ?_); rintro e w10 ⟨rfl, hb10⟩; have hs10 := hb10.size; have HB10 := Lib.hid (show Below wr.heap.size wr (w10.alloc (.cells #[.int .i64 ro, .string rk, .string rv, .bool rd, .int .i64 rt] 79)) from (bel_alloc hb10 _)); have HM10 := Lib.hid (HMr.out.below HB10.out HMr.out.lt); obtain ⟨y0, y1, y2, y3, y4, y5, y6, y7, y8, y9⟩ := HM10.out.box; have f0 := HM10.out.fz 0 (by omega); have f1 := HM10.out.fz 1 (by omega); have f2 := HM10.out.fz 2 (by omega); have f3 := HM10.out.fz 3 (by omega); have f4 := HM10.out.fz 4 (by omega); have f5 := HM10.out.fz 5 (by omega); have f6 := HM10.out.fz 6 (by omega); have f7 := HM10.out.fz 7 (by omega); have f8 := HM10.out.fz 8 (by omega); have f9 := HM10.out.fz 9 (by omega); clear hb10)
        refine bodyPost_ret (v := .tuple #[bval nilB (.slice none 0 0), .bool false]) (by simp [results, Tryz.results127, go_sem, bval, nilB, y0, y1, y2, y3, y4, y5, y6, y7, y8, y9]) rfl ?_
        exact ⟨bel10 HM10.out.bel (by omega), nilB, none, 0, 0, false, rfl, Nat.le_refl _, ⟨RdR.nil, fun _ _ _ h => absurd h (by omega)⟩, fun h => (by cases h), fun _ => HNO.out⟩
    · have hkm : m = k := by omega
      subst hkm
      have HYES := Lib.hid (show ldB l = some ⟨n0, L, n2, n3, n4, n5, n6, TX, CT, xs⟩ by rw [HLR.out, HRR.out, Nat.sub_self]; simp [rdR])
      obtain ⟨y0, y1, y2, y3, y4, y5, y6, y7, y8, y9⟩ := HMr.out.box
      have f0 := HMr.out.fz 0 (by omega)
      have f1 := HMr.out.fz 1 (by omega)
      have f2 := HMr.out.fz 2 (by omega)
      have f3 := HMr.out.fz 3 (by omega)
      have f4 := HMr.out.fz 4 (by omega)
      have f5 := HMr.out.fz 5 (by omega)
      have f6 := HMr.out.fz 6 (by omega)
      have f7 := HMr.out.fz 7 (by omega)
      have f8 := HMr.out.fz 8 (by omega)
      have f9 := HMr.out.fz 9 (by omega)
      clear r0 r1 r2 r3 r4 r5 r6 r7 r8 r9
      go_wp2
      refine bodyPost_ret (v := .tuple #[bval ⟨n0, L, n2, n3, n4, n5, n6, TX, CT, xs⟩ (.slice A2 m c2), .bool true]) (by simp [results, Tryz.results127, go_sem, bval, y0, y1, y2, y3, y4, y5, y6, y7, y8, y9]) rfl ?_
      exact ⟨bel10 HMr.out.bel (by omega), ⟨n0, L, n2, n3, n4, n5, n6, TX, CT, xs⟩, _, _, _, true, rfl, hcap, ownR_of (OwnF.more ((own10 HOr.out (by omega))) (by omega)), fun _ => HYES.out, fun h => (by cases h)⟩
end Go.Proofs.YtejcjmiofidedaaGreatDoor.Bat

/- The contracts of the landed read and isBodyOf. -/
namespace Go.Proofs.YtejcjmiofidedaaGreatDoor.Bat
open Go.RowKit Oct Rec Crc Lay RowF

theorem read_any (A : Option Addr) (n c : Nat) (l : List UInt8) (w : World) (hr : Rd w w.heap.size A n l) (hc : n ≤ c) (hn : n ≤ 137438953472) :
    Calls Tryz.prog 127 #[.slice A n c] w (RDB w l) := by
  rcases hV : rdV 7 l 0 with _ | ⟨xs, p⟩
  · exact read_0 A n c l w hr hc hn hV
  have h7 := (rdV_good hV (by omega)).1
  match xs, h7 with
  | [n0, n1, n2, n3, n4, n5, n6], _ =>
    rcases hlp : l[p.toNat]? with _ | fc
    · exact read_1 A n c l w hr hc hn n0 n1 n2 n3 n4 n5 n6 p hV hlp
    rcases hg : gv l (p + 1) with ⟨x2, q2, e2⟩
    exact read_good A n c l w hr hc hn n0 n1 n2 n3 n4 n5 n6 p hV fc hlp x2 q2 e2 hg
theorem read_no (A : Option Addr) (n c : Nat) (l : List UInt8) (w : World) (hr : Rd w w.heap.size A n l) (hc : n ≤ c) (hn : n ≤ 137438953472) (h : ldB l = none) :
    Calls Tryz.prog 127 #[.slice A n c] w fun e w' => ∃ b A2 n2 c2, e = .returned (.tuple #[bval b (.slice A2 n2 c2), .bool false]) ∧ Below w.heap.size w w' :=
  (read_any A n c l w hr hc hn).mono fun e w' hh => by
    obtain ⟨hb, b, A2, n2, c2, ok, he, hc2, ho, h1, h2⟩ := hh
    cases ok with
    | false => exact ⟨b, A2, n2, c2, he, hb⟩
    | true => have := h1 rfl; rw [h] at this; cases this
theorem read_yes (A : Option Addr) (n c : Nat) (l : List UInt8) (w : World) (hr : Rd w w.heap.size A n l) (hc : n ≤ c) (hn : n ≤ 137438953472) {b : Bt} (h : ldB l = some b) :
    Calls Tryz.prog 127 #[.slice A n c] w fun e w' => ∃ A2 n2 c2, e = .returned (.tuple #[bval b (.slice A2 n2 c2), .bool true]) ∧ n2 ≤ c2 ∧ OwnR w' w.heap.size A2 n2 b.recs ∧ Below w.heap.size w w' :=
  (read_any A n c l w hr hc hn).mono fun e w' hh => by
    obtain ⟨hb, b', A2, n2, c2, ok, he, hc2, ho, h1, h2⟩ := hh
    cases ok with
    | false => have := h2 rfl; rw [h] at this; cases this
    | true =>
      have h3 := h1 rfl
      rw [h] at h3
      obtain rfl := Option.some.inj h3
      exact ⟨A2, n2, c2, he, hc2, ho, hb⟩
set_option maxRecDepth 100000 in
set_option maxHeartbeats 8000000 in
theorem isBody_any (ba la fr ep pi ge se : Int) (tx : Bool) (ct : Int) (rs : List Rc) (A : Option Addr) (n c : Nat) (w : World) (A1 : Option Addr) (k1 c1 : Nat) (l : List UInt8) (B : Nat) (h1 : Rd w B A1 k1 l) (hB : B ≤ w.heap.size) (hF : Fits ⟨ba, la, fr, ep, pi, ge, se, tx, ct, rs⟩) (hr : RdR w w.heap.size A n rs) (hn : n ≤ 1099511627776) {y : Bool} (hy : (decide (chB ⟨ba, la, fr, ep, pi, ge, se, tx, ct, rs⟩ = 0) && sameB (boB ⟨ba, la, fr, ep, pi, ge, se, tx, ct, rs⟩) l) = y) :
    Calls Tryz.prog 128 #[.slice A1 k1 c1, .agg #[.int .i64 ba, .int .i64 la, .int .i64 fr, .int .i64 ep, .int .i64 pi, .int .i64 ge, .int .i64 se, .bool tx, .int .i64 ct, .slice A n c]] w fun e w' => e = .returned (.bool y) ∧ Below w.heap.size w w' := by
  subst hy
  have hb0 := bel_alloc (Below.refl w.heap.size w) (.cells #[.int .i64 ba, .int .i64 la, .int .i64 fr, .int .i64 ep, .int .i64 pi, .int .i64 ge, .int .i64 se, .bool tx, .int .i64 ct, .slice A n c] 39)
  have HB0 := Lib.hid hb0
  have HRA := Lib.hid (fun w' (hb : Below w.heap.size w w') => (hr.below hb (Nat.le_refl _)).more hb.size)
  have HL := Lib.hid h1
  have HFT := Lib.hid hF
  obtain ⟨z, hz⟩ : ∃ z, chB ⟨ba, la, fr, ep, pi, ge, se, tx, ct, rs⟩ = z := ⟨_, rfl⟩
  obtain ⟨o, ho⟩ : ∃ o, boB ⟨ba, la, fr, ep, pi, ge, se, tx, ct, rs⟩ = o := ⟨_, rfl⟩
  have HC := Lib.hid hz
  have HO := Lib.hid ho
  rw [hz, ho]
  clear hb0 hr h1 hF hz ho
  by_cases h0 : z = 0
  · subst h0
    rw [show (decide ((0 : Int) = 0) && sameB o l) = sameB o l from Bool.true_and _]
    go_enter Tryz.func128, Tryz.ntmps128
    go_wp2_with (first
      | (go_at_call 78; (with_reducible refine (bodyOf_any ba la fr ep pi ge se tx ct rs A n c _ HFT.out (HRA.out _ HB0.out) hn).mono ?_); rw [HC.out, HO.out]; rintro e w2 ⟨A2, n2, c2, rfl, hown2, hb2⟩; have HO2 := Lib.hid hown2; have HB2 := Lib.hid (bel_trans HB0.out hb2); clear hown2 hb2)
      | (go_at_call 152; (with_reducible refine (eqlB_any A2 A1 n2 c2 k1 c1 o l _ _ _ HO2.out.rd (HL.out.below HB2.out hB)).mono ?_); rintro e w3 ⟨rfl, rfl⟩))
    go_ret
    exact ⟨rfl, HB2.out⟩
  · rw [show (decide (z = 0) && sameB o l) = false by rw [decide_eq_false h0]; rfl]
    have e1 : (z == 0) = false := beqF h0
    clear h0
    go_enter Tryz.func128, Tryz.ntmps128
    go_wp2_with (go_at_call 78; (with_reducible refine (bodyOf_any ba la fr ep pi ge se tx ct rs A n c _ HFT.out (HRA.out _ HB0.out) hn).mono ?_); rw [HC.out, HO.out]; rintro e w2 ⟨A2, n2, c2, rfl, hown2, hb2⟩; have HB2 := Lib.hid (bel_trans HB0.out hb2); clear hown2 hb2)
    go_ret
    exact ⟨rfl, HB2.out⟩
end Go.Proofs.YtejcjmiofidedaaGreatDoor.Bat

/- The contract of the landed Get. -/
namespace Go.Proofs.YtejcjmiofidedaaGreatDoor.Bat
open Go.RowKit Oct Rec Crc Lay RowF

end Go.Proofs.YtejcjmiofidedaaGreatDoor.Bat
namespace Go.Proofs.YtejcjmiofidedaaGreatDoor.Oct
open Go.RowKit Bat
theorem Rd.off {w : World} {B g j n : Nat} {A : Option Addr} {l : List UInt8} {u : Value} (h : Rd w B A n l) (hA : ∀ b o, A = some ⟨b, o, none⟩ → 0 < n → b ≠ g) : Rd (w.setCell ⟨g, j, none⟩ u) B A n l :=
  ⟨h.1, fun k c hk => by
    obtain ⟨b, o, hb, hlt, hc⟩ := h.2 k c hk
    have hn : 0 < n := by have := (List.getElem?_eq_some_iff.1 hk).1; have := h.1; omega
    exact ⟨b, o, hb, hlt, (cell_off (hA b o hb hn)).trans hc⟩⟩
end Go.Proofs.YtejcjmiofidedaaGreatDoor.Oct
namespace Go.Proofs.YtejcjmiofidedaaGreatDoor.Bat
open Go.RowKit Oct Rec Crc Lay RowF
theorem rd_ten {w w' : World} {e : TypeId} {B g n c : Nat} {A : Option Addr} {l : List UInt8} (h : OwnB w e B (.slice A n c) n l) (hb : Below w.heap.size w w') (hg : g < B) (v0 v1 v2 v3 v4 v5 v6 v7 v8 v9 : Value) : Rd ((((((((((w'.setCell ⟨g, 0, none⟩ v0).setCell ⟨g, 1, none⟩ v1).setCell ⟨g, 2, none⟩ v2).setCell ⟨g, 3, none⟩ v3).setCell ⟨g, 4, none⟩ v4).setCell ⟨g, 5, none⟩ v5).setCell ⟨g, 6, none⟩ v6).setCell ⟨g, 7, none⟩ v7).setCell ⟨g, 8, none⟩ v8).setCell ⟨g, 9, none⟩ v9) w.heap.size A n l := by
  have h1 := h.rd.below hb (Nat.le_refl _)
  have hA : ∀ b o, A = some ⟨b, o, none⟩ → 0 < n → b ≠ g := by
    intro b o hAe hn
    obtain ⟨g', cap, hv, hbg, hl⟩ := World.ownsRow.form h hn
    injection hv with h2
    rw [hAe] at h2
    simp only [Option.some.injEq, Addr.mk.injEq, and_true] at h2
    omega
  exact (((((((((h1.off hA).off hA).off hA).off hA).off hA).off hA).off hA).off hA).off hA).off hA
theorem rdR_len {k : Nat} {l : List UInt8} {p q base st : Int} {xs : List Rc} (h : rdR k l p base st = some (xs, q)) (hp : 0 ≤ p ∧ p ≤ l.length) : (xs.length : Int) ≤ l.length - p := by
  induction k generalizing p q xs with
  | zero =>
    simp only [rdR, Option.some.injEq, Prod.mk.injEq] at h
    rw [← h.1]; simp; omega
  | succ k ih =>
    rw [rdR] at h
    by_cases hz : (gr l p base st).2.2 ≠ 0
    · rw [if_pos hz] at h; cases h
    rw [if_neg hz] at h
    rcases hg : gr l p base st with ⟨r, n, z⟩
    rw [hg] at h hz
    simp only at h hz
    have hz0 : z = 0 := by omega
    subst hz0
    obtain ⟨-, -, -, h1, h2, h3, -⟩ := gr_good hg
    cases hr : rdR k l n base st with
    | none => rw [hr] at h; cases h
    | some y =>
      obtain ⟨ys, q'⟩ := y
      rw [hr] at h
      simp only [Option.some.injEq, Prod.mk.injEq] at h
      have h4 := ih hr (by omega)
      rw [← h.1, List.length_cons]
      omega
theorem ldB_len {l : List UInt8} {b : Bt} (h : ldB l = some b) : b.recs.length ≤ l.length := by
  unfold ldB at h
  split at h
  · rename_i n0 n1 n2 n3 n4 n5 n6 p hv
    split at h
    · cases h
    · rename_i c hc
      cases ht : ldT l (p + 1) n0 with
      | none => rw [ht] at h; cases h
      | some xs =>
        rw [ht] at h
        simp only [Option.map_some, Option.some.injEq] at h
        rw [← h]
        simp only
        unfold ldT at ht
        split at ht
        · cases ht
        rename_i e1
        split at ht
        · split at ht
          · cases ht
          · rename_i e2
            rw [Option.map_eq_some_iff] at ht
            obtain ⟨⟨ys, q⟩, h1, h2⟩ := ht
            simp only at h2
            subst h2
            have h3 := rdR_len h1 (gv_place _ _)
            have h4 := gv_place l (gv l (p + 1)).2.1
            omega
        · simp only [Option.some.injEq] at ht
          rw [← ht]; simp
  · cases h
theorem openD_is (A : Option Addr) (n c : Nat) (l : List UInt8) (B : Nat) (w : World) (hr : Rd w B A n l) (hB : B ≤ w.heap.size) (hc : n ≤ c) (hn : n ≤ 137438953472) (ht : Tab w) {x : List UInt8} {z : Int} (h : openB l = (x, z)) :
    Calls Tryz.prog 126 #[.slice A n c] w (OPr 5 w.heap.size w x z) := by
  have h1 := Open_any A n c l B w hr hB hc hn ht
  rw [h] at h1
  exact h1
set_option maxRecDepth 100000 in
set_option maxHeartbeats 8000000 in
theorem BGet_any (A : Option Addr) (n c : Nat) (l : List UInt8) (B : Nat) (p : Int) (w : World) (hr : Rd w B A n l) (hB : B ≤ w.heap.size) (hc : n ≤ c) (hn : n ≤ 137438953472) (hp : I64 p) (ht : Tab w) :
    Calls Tryz.prog 106 #[.slice A n c, .int .i64 p] w (RGB w (grB l p)) := by
  have HW1 := Lib.hid (show Below w.heap.size w (w.alloc (.cells #[.int .i64 0, .int .i64 0, .int .i64 0, .int .i64 0, .int .i64 0, .int .i64 0, .int .i64 0, .bool false, .int .i64 0, .slice none 0 0] 39)) from bel_alloc (Below.refl _ _) _)
  have HZ1 := Lib.hid (ZB.new w)
  have HR1 := Lib.hid ((hr.more hB).below HW1.out (Nat.le_refl _))
  have HT := Lib.hid ht
  have hl := hr.len
  clear hr hB ht
  rcases hg : gt l p 4 with ⟨x, z⟩
  have HG := Lib.hid hg
  by_cases hz0 : z = 0
  case neg =>
    have hz := Lib.hid (show grB l p = (nilB, 0, z) by unfold grB; rw [hg, if_pos hz0])
    have hzF : (z == 0) = false := beqF hz0
    have hzN : (z != 0) = true := by simp [hz0]
    clear hg hz0
    rw [hz.out]
    go_enter Tryz.func106, Tryz.ntmps106
    go_wp2_with (go_at_call 125; (with_reducible refine (Get_is A n c _ 4 l _ _ HR1.out hc (by omega) HG.out).mono ?_); rintro e w9 ⟨rfl, rfl⟩)
    exact bodyPost_ret (v := .tuple #[bval nilB (.slice none 0 0), .int .i64 0, .int .i64 z]) (by simp [results, Tryz.results106, go_sem, bval, nilB]) rfl ⟨none, 0, 0, rfl, Nat.le_refl _, ⟨RdR.nil, fun _ _ _ h => absurd h (by omega)⟩, HW1.out⟩
  subst hz0
  have h4 := gt_four (l := l) (p := p) (by rw [hg])
  rw [hg] at h4
  simp only at h4
  obtain ⟨hp0, hp4, hx⟩ := h4
  have hx32 : x < 4294967296 := by
    rw [hx]
    have h1 := getN_lt ((l.drop p.toNat).take 4)
    have h2 : ((l.drop p.toNat).take 4).length ≤ 4 := List.length_take_le _ _
    have h3 : 256 ^ ((l.drop p.toNat).take 4).length ≤ 256 ^ 4 := Nat.pow_le_pow_right (by omega) h2
    omega
  clear hx
  obtain ⟨P, rfl⟩ : ∃ P : Nat, p = (P : Int) := ⟨p.toNat, by omega⟩
  by_cases hx1 : x < 5
  · have hz := Lib.hid (show grB l (P : Int) = (nilB, 0, 11) by unfold grB; rw [hg, if_neg (by simp), if_pos (.inl hx1)])
    have hx1' : (x : Int) < 5 := by omega
    clear hg hx1
    rw [hz.out]
    go_enter Tryz.func106, Tryz.ntmps106
    go_wp2_with (go_at_call 125; (with_reducible refine (Get_is A n c _ 4 l _ _ HR1.out hc (by omega) HG.out).mono ?_); rintro e w9 ⟨rfl, rfl⟩)
    exact bodyPost_ret (v := .tuple #[bval nilB (.slice none 0 0), .int .i64 0, .int .i64 11]) (by simp [results, Tryz.results106, go_sem, bval, nilB]) rfl ⟨none, 0, 0, rfl, Nat.le_refl _, ⟨RdR.nil, fun _ _ _ h => absurd h (by omega)⟩, HW1.out⟩
  by_cases hx2 : 2044 < x
  · have hz := Lib.hid (show grB l (P : Int) = (nilB, 0, 11) by unfold grB; rw [hg, if_neg (by simp), if_pos (.inr hx2)])
    have hx1' : ¬ (x : Int) < 5 := by omega
    have hx2' : (2044 : Int) < (x : Int) := by omega
    clear hg hx1 hx2
    rw [hz.out]
    go_enter Tryz.func106, Tryz.ntmps106
    go_wp2_with (go_at_call 125; (with_reducible refine (Get_is A n c _ 4 l _ _ HR1.out hc (by omega) HG.out).mono ?_); rintro e w9 ⟨rfl, rfl⟩)
    exact bodyPost_ret (v := .tuple #[bval nilB (.slice none 0 0), .int .i64 0, .int .i64 11]) (by simp [results, Tryz.results106, go_sem, bval, nilB]) rfl ⟨none, 0, 0, rfl, Nat.le_refl _, ⟨RdR.nil, fun _ _ _ h => absurd h (by omega)⟩, HW1.out⟩
  have hx1' : ¬ (x : Int) < 5 := by omega
  have hx2' : ¬ (2044 : Int) < (x : Int) := by omega
  by_cases hx3 : (n : Int) < (P : Int) + 4 + (x : Int)
  · have hz := Lib.hid (show grB l (P : Int) = (nilB, 0, 10) by unfold grB; rw [hg, if_neg (by simp), if_neg (by omega), if_pos (by rw [hl]; exact hx3)])
    clear hg
    rw [hz.out]
    go_enter Tryz.func106, Tryz.ntmps106
    go_wp2_with (go_at_call 125; (with_reducible refine (Get_is A n c _ 4 l _ _ HR1.out hc (by omega) HG.out).mono ?_); rintro e w9 ⟨rfl, rfl⟩)
    exact bodyPost_ret (v := .tuple #[bval nilB (.slice none 0 0), .int .i64 0, .int .i64 10]) (by simp [results, Tryz.results106, go_sem, bval, nilB]) rfl ⟨none, 0, 0, rfl, Nat.le_refl _, ⟨RdR.nil, fun _ _ _ h => absurd h (by omega)⟩, HW1.out⟩
  obtain ⟨l2, hl2⟩ : ∃ l2, l2 = (l.drop (P + 4)).take x := ⟨_, rfl⟩
  have HL2 := Lib.hid hl2
  have hgo : grB l (P : Int) = if (opB l2).2 ≠ 0 then (nilB, 0, (opB l2).2) else ((opB l2).1, (P : Int) + 4 + (x : Int), 0) := by
    unfold grB
    rw [hg, if_neg (by simp), if_neg (by omega), if_neg (by rw [hl]; exact hx3)]
    have e : ((P : Int) + 4).toNat = P + 4 := by omega
    rw [hl2, e]
  rcases ho : openB l2 with ⟨l3, z3⟩
  have HO := Lib.hid ho
  have hxl : l2.length = x := by rw [hl2, List.length_take, List.length_drop]; omega
  have hl3 : l3.length ≤ x := by
    rcases openB_cases l2 with h | h | h
    · rw [ho] at h; have := congrArg Prod.fst h.1; simp only at this; rw [this]; simp
    · rw [ho] at h; have := congrArg Prod.fst h.1; simp only at this; rw [this]; simp
    · rw [ho] at h; have := congrArg Prod.fst h.1; simp only at this; rw [this, List.length_take]; omega
  have g1 : (P : Int) + 4 ≤ (P : Int) + 4 + (x : Int) := by omega
  have g2 : (P : Int) + 4 + (x : Int) ≤ (c : Int) := by omega
  have g3 : (0 : Int) ≤ (P : Int) + 4 := by omega
  have g4 : (x : Int) ≤ 2044 := by omega
  by_cases hz3 : z3 = 0
  case neg =>
    have hz := Lib.hid (show grB l (P : Int) = (nilB, 0, z3) by
      rw [hgo]
      have h9 : (opB l2) = (nilB, z3) := by unfold opB; rw [ho]; simp only; rw [if_pos hz3]
      rw [h9, if_pos hz3])
    have hzF : (z3 == 0) = false := beqF hz3
    have hzN : (z3 != 0) = true := by simp [hz3]
    clear hg hgo ho hz3 hl2
    rw [hz.out]
    go_enter Tryz.func106, Tryz.ntmps106
    go_wp2_with (first | (go_at_call 125; (with_reducible refine (Get_is A n c _ 4 l _ _ HR1.out hc (by omega) HG.out).mono ?_); rintro e w9 ⟨rfl, rfl⟩) | (go_at_call 126; refine (openD_is _ _ _ l2 w.heap.size _ (by rw [HL2.out]; exact HR1.out.cut' (i := P + 4) (m := x) (by omega) (by omega) (by intro h0; first | rfl | exact if_neg (by omega) | (exfalso; omega))) HW1.out.size (by omega) (by omega) (HT.out.bel HW1.out) HO.out).mono ?_; rintro e w2 ⟨A2, n2, c2, rfl, ho2, hb2⟩; have HW2 := Lib.hid (HW1.out.trans (hb2.mono HW1.out.size)); have HZ2 := Lib.hid (HZ1.out.below hb2 HZ1.out.lt); have HO2 := Lib.hid ho2; clear ho2 hb2; obtain ⟨zc0, zc1, zc2, zc3, zc4, zc5, zc6, zc7, zc8, zc9, zf0, zf1, zf2, zf3, zf4, zf5, zf6, zf7, zf8, zf9, zlt⟩ := HZ2.out))
    exact bodyPost_ret (v := .tuple #[bval nilB (.slice none 0 0), .int .i64 0, .int .i64 z3]) (by simp [results, Tryz.results106, go_sem, bval, nilB, zc0, zc1, zc2, zc3, zc4, zc5, zc6, zc7, zc8, zc9]) rfl ⟨none, 0, 0, rfl, Nat.le_refl _, ⟨RdR.nil, fun _ _ _ h => absurd h (by omega)⟩, ((((((((((HW2.out.setCell (by show w.heap.size ≤ w.heap.size; omega) _).setCell (by show w.heap.size ≤ w.heap.size; omega) _).setCell (by show w.heap.size ≤ w.heap.size; omega) _).setCell (by show w.heap.size ≤ w.heap.size; omega) _).setCell (by show w.heap.size ≤ w.heap.size; omega) _).setCell (by show w.heap.size ≤ w.heap.size; omega) _).setCell (by show w.heap.size ≤ w.heap.size; omega) _).setCell (by show w.heap.size ≤ w.heap.size; omega) _).setCell (by show w.heap.size ≤ w.heap.size; omega) _).setCell (by show w.heap.size ≤ w.heap.size; omega) _)⟩
  subst hz3
  have HGO := Lib.hid hgo
  have HOP := Lib.hid (show opB l2 = (match ldB l3 with | none => (nilB, 11) | some b => if chB b = 0 ∧ body b = l3 then (b, 0) else (nilB, 11)) by rw [← opL_is]; unfold opL; rw [ho]; simp only; rw [if_neg (by simp)]; rfl)
  clear hg hgo ho hl2
  rcases hld : ldB l3 with _ | b
  · have hz := Lib.hid (show grB l (P : Int) = (nilB, 0, 11) by
      have h9 : opB l2 = (nilB, 11) := by rw [HOP.out, hld]
      rw [HGO.out, h9, if_pos (by simp)])
    have HLD := Lib.hid hld
    clear hld
    rw [hz.out]
    go_enter Tryz.func106, Tryz.ntmps106
    go_upto_region 14 with (first | (go_at_call 125; (with_reducible refine (Get_is A n c _ 4 l _ _ HR1.out hc (by omega) HG.out).mono ?_); rintro e w9 ⟨rfl, rfl⟩) | (go_at_call 126; refine (openD_is _ _ _ l2 w.heap.size _ (by rw [HL2.out]; exact HR1.out.cut' (i := P + 4) (m := x) (by omega) (by omega) (by intro h0; first | rfl | exact if_neg (by omega) | (exfalso; omega))) HW1.out.size (by omega) (by omega) (HT.out.bel HW1.out) HO.out).mono ?_; rintro e w2 ⟨A2, n2, c2, rfl, ho2, hb2⟩; have HW2 := Lib.hid (HW1.out.trans (hb2.mono HW1.out.size)); have HZ2 := Lib.hid (HZ1.out.below hb2 HZ1.out.lt); have HO2 := Lib.hid ho2; clear ho2 hb2; have hcap2 := HO2.out.cap; have hlen2 := HO2.out.len; have hn2 : n2 ≤ 137438953472 := (by omega); clear hlen2) | (go_at_call 127; (with_reducible refine (read_no A2 n2 c2 l3 _ HO2.out.rd hcap2 hn2 HLD.out).mono ?_); rintro e w3 ⟨⟨ba, la, fr, ep, pi, ge, se, tx, ct, rs⟩, A3, n3, c3, rfl, hb3⟩; simp only [bval]; have HW3 := Lib.hid (HW2.out.trans (hb3.mono HW2.out.size)); have HZ3 := Lib.hid (HZ2.out.below hb3 HZ2.out.lt); clear hb3; obtain ⟨zc0, zc1, zc2, zc3, zc4, zc5, zc6, zc7, zc8, zc9, zf0, zf1, zf2, zf3, zf4, zf5, zf6, zf7, zf8, zf9, zlt⟩ := HZ3.out))
    have HPUT := Lib.hid (box_put HZ3.out ⟨ba, la, fr, ep, pi, ge, se, tx, ct, rs⟩ (.slice A3 n3 c3))
    have HWP := Lib.hid (show Below w.heap.size w ((((((((((w3.setCell ⟨w.heap.size, 0, none⟩ (.int .i64 ba)).setCell ⟨w.heap.size, 1, none⟩ (.int .i64 la)).setCell ⟨w.heap.size, 2, none⟩ (.int .i64 fr)).setCell ⟨w.heap.size, 3, none⟩ (.int .i64 ep)).setCell ⟨w.heap.size, 4, none⟩ (.int .i64 pi)).setCell ⟨w.heap.size, 5, none⟩ (.int .i64 ge)).setCell ⟨w.heap.size, 6, none⟩ (.int .i64 se)).setCell ⟨w.heap.size, 7, none⟩ (.bool tx)).setCell ⟨w.heap.size, 8, none⟩ (.int .i64 ct)).setCell ⟨w.heap.size, 9, none⟩ (.slice A3 n3 c3)) from ((((((((((HW3.out.setCell (by show w.heap.size ≤ w.heap.size; omega) _).setCell (by show w.heap.size ≤ w.heap.size; omega) _).setCell (by show w.heap.size ≤ w.heap.size; omega) _).setCell (by show w.heap.size ≤ w.heap.size; omega) _).setCell (by show w.heap.size ≤ w.heap.size; omega) _).setCell (by show w.heap.size ≤ w.heap.size; omega) _).setCell (by show w.heap.size ≤ w.heap.size; omega) _).setCell (by show w.heap.size ≤ w.heap.size; omega) _).setCell (by show w.heap.size ≤ w.heap.size; omega) _).setCell (by show w.heap.size ≤ w.heap.size; omega) _))
    generalize hw5 : ((((((((((w3.setCell ⟨w.heap.size, 0, none⟩ (.int .i64 ba)).setCell ⟨w.heap.size, 1, none⟩ (.int .i64 la)).setCell ⟨w.heap.size, 2, none⟩ (.int .i64 fr)).setCell ⟨w.heap.size, 3, none⟩ (.int .i64 ep)).setCell ⟨w.heap.size, 4, none⟩ (.int .i64 pi)).setCell ⟨w.heap.size, 5, none⟩ (.int .i64 ge)).setCell ⟨w.heap.size, 6, none⟩ (.int .i64 se)).setCell ⟨w.heap.size, 7, none⟩ (.bool tx)).setCell ⟨w.heap.size, 8, none⟩ (.int .i64 ct)).setCell ⟨w.heap.size, 9, none⟩ (.slice A3 n3 c3)) = w5 at HPUT HWP ⊢
    clear hw5
    obtain ⟨u0, u1, u2, u3, u4, u5, u6, u7, u8, u9⟩ := HPUT.out.1
    simp only at u0 u1 u2 u3 u4 u5 u6 u7 u8 u9
    have s0 := (HPUT.out.2.2 0).trans zf0
    have s1 := (HPUT.out.2.2 1).trans zf1
    have s2 := (HPUT.out.2.2 2).trans zf2
    have s3 := (HPUT.out.2.2 3).trans zf3
    have s4 := (HPUT.out.2.2 4).trans zf4
    have s5 := (HPUT.out.2.2 5).trans zf5
    have s6 := (HPUT.out.2.2 6).trans zf6
    have s7 := (HPUT.out.2.2 7).trans zf7
    have s8 := (HPUT.out.2.2 8).trans zf8
    have s9 := (HPUT.out.2.2 9).trans zf9
    clear zc0 zc1 zc2 zc3 zc4 zc5 zc6 zc7 zc8 zc9 zf0 zf1 zf2 zf3 zf4 zf5 zf6 zf7 zf8 zf9
    go_wp2
    exact bodyPost_ret (v := .tuple #[bval nilB (.slice none 0 0), .int .i64 0, .int .i64 11]) (by simp [results, Tryz.results106, go_sem, bval, nilB, u0, u1, u2, u3, u4, u5, u6, u7, u8, u9]) rfl ⟨none, 0, 0, rfl, Nat.le_refl _, ⟨RdR.nil, fun _ _ _ h => absurd h (by omega)⟩, ((((((((((HWP.out.setCell (by show w.heap.size ≤ w.heap.size; omega) _).setCell (by show w.heap.size ≤ w.heap.size; omega) _).setCell (by show w.heap.size ≤ w.heap.size; omega) _).setCell (by show w.heap.size ≤ w.heap.size; omega) _).setCell (by show w.heap.size ≤ w.heap.size; omega) _).setCell (by show w.heap.size ≤ w.heap.size; omega) _).setCell (by show w.heap.size ≤ w.heap.size; omega) _).setCell (by show w.heap.size ≤ w.heap.size; omega) _).setCell (by show w.heap.size ≤ w.heap.size; omega) _).setCell (by show w.heap.size ≤ w.heap.size; omega) _)⟩
  · have HFT := Lib.hid (ldB_fits hld)
    have HLD := Lib.hid hld
    obtain ⟨ba, la, fr, ep, pi, ge, se, tx, ct, rs⟩ := b
    obtain ⟨y, hy⟩ : ∃ y, (decide (chB ⟨ba, la, fr, ep, pi, ge, se, tx, ct, rs⟩ = 0) && sameB (boB ⟨ba, la, fr, ep, pi, ge, se, tx, ct, rs⟩) l3) = y := ⟨_, rfl⟩
    have HY := Lib.hid hy
    have hrl : rs.length ≤ 2100 := by
      have h := ldB_len hld
      simp only at h
      omega
    have hyes : y = true → grB l (P : Int) = (⟨ba, la, fr, ep, pi, ge, se, tx, ct, rs⟩, (P : Int) + 4 + (x : Int), 0) := by
      intro h
      rw [h, Bool.and_eq_true, decide_eq_true_eq, sameB_iff] at hy
      have hbo : body ⟨ba, la, fr, ep, pi, ge, se, tx, ct, rs⟩ = l3 := by have h2 := hy.2; unfold boB at h2; rw [if_pos hy.1] at h2; exact h2
      have h9 : opB l2 = (⟨ba, la, fr, ep, pi, ge, se, tx, ct, rs⟩, 0) := by rw [HOP.out, hld]; simp only; rw [if_pos ⟨hy.1, hbo⟩]
      rw [HGO.out, h9, if_neg (by simp)]
    have hno : y = false → grB l (P : Int) = (nilB, 0, 11) := by
      intro h
      have h9 : opB l2 = (nilB, 11) := by
        rw [HOP.out, hld]
        simp only
        rw [if_neg]
        rintro ⟨h1, h2⟩
        rw [h, decide_eq_true h1, Bool.true_and] at hy
        have h3 : sameB (boB ⟨ba, la, fr, ep, pi, ge, se, tx, ct, rs⟩) l3 = true := sameB_iff.2 (by unfold boB; rw [if_pos h1]; exact h2)
        rw [hy] at h3
        cases h3
      rw [HGO.out, h9, if_pos (by simp)]
    have HYES := Lib.hid hyes
    have HNO := Lib.hid hno
    clear hld hy hyes hno
    go_enter Tryz.func106, Tryz.ntmps106
    go_upto_region 14 with (first | (go_at_call 125; (with_reducible refine (Get_is A n c _ 4 l _ _ HR1.out hc (by omega) HG.out).mono ?_); rintro e w9 ⟨rfl, rfl⟩) | (go_at_call 126; refine (openD_is _ _ _ l2 w.heap.size _ (by rw [HL2.out]; exact HR1.out.cut' (i := P + 4) (m := x) (by omega) (by omega) (by intro h0; first | rfl | exact if_neg (by omega) | (exfalso; omega))) HW1.out.size (by omega) (by omega) (HT.out.bel HW1.out) HO.out).mono ?_; rintro e w2 ⟨A2, n2, c2, rfl, ho2, hb2⟩; have HW2 := Lib.hid (HW1.out.trans (hb2.mono HW1.out.size)); have HZ2 := Lib.hid (HZ1.out.below hb2 HZ1.out.lt); have HO2 := Lib.hid ho2; clear ho2 hb2; have hcap2 := HO2.out.cap; have hlen2 := HO2.out.len; have hn2 : n2 ≤ 137438953472 := (by omega); clear hlen2) | (go_at_call 127; (with_reducible refine (read_yes A2 n2 c2 l3 _ HO2.out.rd hcap2 hn2 HLD.out).mono ?_); rintro e w3 ⟨A3, n3, c3, rfl, hc3, ho3, hb3⟩; simp only [bval]; have HW3 := Lib.hid (HW2.out.trans (hb3.mono HW2.out.size)); have HZ3 := Lib.hid (HZ2.out.below hb3 HZ2.out.lt); have HO3 := Lib.hid ho3; have HB3 := Lib.hid hb3; have hl23 := hb3.size; clear hb3 ho3; obtain ⟨zc0, zc1, zc2, zc3, zc4, zc5, zc6, zc7, zc8, zc9, zf0, zf1, zf2, zf3, zf4, zf5, zf6, zf7, zf8, zf9, zlt⟩ := HZ3.out))
    have hx2m : w.heap.size < w2.heap.size := HZ2.out.lt
    have HPUT := Lib.hid (box_put HZ3.out ⟨ba, la, fr, ep, pi, ge, se, tx, ct, rs⟩ (.slice A3 n3 c3))
    have HWP := Lib.hid (show Below w.heap.size w ((((((((((w3.setCell ⟨w.heap.size, 0, none⟩ (.int .i64 ba)).setCell ⟨w.heap.size, 1, none⟩ (.int .i64 la)).setCell ⟨w.heap.size, 2, none⟩ (.int .i64 fr)).setCell ⟨w.heap.size, 3, none⟩ (.int .i64 ep)).setCell ⟨w.heap.size, 4, none⟩ (.int .i64 pi)).setCell ⟨w.heap.size, 5, none⟩ (.int .i64 ge)).setCell ⟨w.heap.size, 6, none⟩ (.int .i64 se)).setCell ⟨w.heap.size, 7, none⟩ (.bool tx)).setCell ⟨w.heap.size, 8, none⟩ (.int .i64 ct)).setCell ⟨w.heap.size, 9, none⟩ (.slice A3 n3 c3)) from ((((((((((HW3.out.setCell (by show w.heap.size ≤ w.heap.size; omega) _).setCell (by show w.heap.size ≤ w.heap.size; omega) _).setCell (by show w.heap.size ≤ w.heap.size; omega) _).setCell (by show w.heap.size ≤ w.heap.size; omega) _).setCell (by show w.heap.size ≤ w.heap.size; omega) _).setCell (by show w.heap.size ≤ w.heap.size; omega) _).setCell (by show w.heap.size ≤ w.heap.size; omega) _).setCell (by show w.heap.size ≤ w.heap.size; omega) _).setCell (by show w.heap.size ≤ w.heap.size; omega) _).setCell (by show w.heap.size ≤ w.heap.size; omega) _))
    have HOP5 := Lib.hid (show OwnR ((((((((((w3.setCell ⟨w.heap.size, 0, none⟩ (.int .i64 ba)).setCell ⟨w.heap.size, 1, none⟩ (.int .i64 la)).setCell ⟨w.heap.size, 2, none⟩ (.int .i64 fr)).setCell ⟨w.heap.size, 3, none⟩ (.int .i64 ep)).setCell ⟨w.heap.size, 4, none⟩ (.int .i64 pi)).setCell ⟨w.heap.size, 5, none⟩ (.int .i64 ge)).setCell ⟨w.heap.size, 6, none⟩ (.int .i64 se)).setCell ⟨w.heap.size, 7, none⟩ (.bool tx)).setCell ⟨w.heap.size, 8, none⟩ (.int .i64 ct)).setCell ⟨w.heap.size, 9, none⟩ (.slice A3 n3 c3)) w2.heap.size A3 n3 rs from (OwnR.set (OwnR.set (OwnR.set (OwnR.set (OwnR.set (OwnR.set (OwnR.set (OwnR.set (OwnR.set (OwnR.set HO3.out hx2m) hx2m) hx2m) hx2m) hx2m) hx2m) hx2m) hx2m) hx2m) hx2m))
    have HRB5 := Lib.hid (show Rd ((((((((((w3.setCell ⟨w.heap.size, 0, none⟩ (.int .i64 ba)).setCell ⟨w.heap.size, 1, none⟩ (.int .i64 la)).setCell ⟨w.heap.size, 2, none⟩ (.int .i64 fr)).setCell ⟨w.heap.size, 3, none⟩ (.int .i64 ep)).setCell ⟨w.heap.size, 4, none⟩ (.int .i64 pi)).setCell ⟨w.heap.size, 5, none⟩ (.int .i64 ge)).setCell ⟨w.heap.size, 6, none⟩ (.int .i64 se)).setCell ⟨w.heap.size, 7, none⟩ (.bool tx)).setCell ⟨w.heap.size, 8, none⟩ (.int .i64 ct)).setCell ⟨w.heap.size, 9, none⟩ (.slice A3 n3 c3)) w2.heap.size A2 n2 l3 from rd_ten (HO2.out) HB3.out (by simp) _ _ _ _ _ _ _ _ _ _)
    generalize hw5 : ((((((((((w3.setCell ⟨w.heap.size, 0, none⟩ (.int .i64 ba)).setCell ⟨w.heap.size, 1, none⟩ (.int .i64 la)).setCell ⟨w.heap.size, 2, none⟩ (.int .i64 fr)).setCell ⟨w.heap.size, 3, none⟩ (.int .i64 ep)).setCell ⟨w.heap.size, 4, none⟩ (.int .i64 pi)).setCell ⟨w.heap.size, 5, none⟩ (.int .i64 ge)).setCell ⟨w.heap.size, 6, none⟩ (.int .i64 se)).setCell ⟨w.heap.size, 7, none⟩ (.bool tx)).setCell ⟨w.heap.size, 8, none⟩ (.int .i64 ct)).setCell ⟨w.heap.size, 9, none⟩ (.slice A3 n3 c3)) = w5 at HPUT HWP HOP5 HRB5 ⊢
    clear hw5
    have HOP3 := Lib.hid (show OwnR w5 w2.heap.size A3 n3 rs from HOP5.out)
    have HRB := Lib.hid (show Rd w5 w2.heap.size A2 n2 l3 from HRB5.out)
    obtain ⟨u0, u1, u2, u3, u4, u5, u6, u7, u8, u9⟩ := HPUT.out.1
    simp only at u0 u1 u2 u3 u4 u5 u6 u7 u8 u9
    have s0 := (HPUT.out.2.2 0).trans zf0
    have s1 := (HPUT.out.2.2 1).trans zf1
    have s2 := (HPUT.out.2.2 2).trans zf2
    have s3 := (HPUT.out.2.2 3).trans zf3
    have s4 := (HPUT.out.2.2 4).trans zf4
    have s5 := (HPUT.out.2.2 5).trans zf5
    have s6 := (HPUT.out.2.2 6).trans zf6
    have s7 := (HPUT.out.2.2 7).trans zf7
    have s8 := (HPUT.out.2.2 8).trans zf8
    have s9 := (HPUT.out.2.2 9).trans zf9
    have HBX5 := Lib.hid HPUT.out.1
    clear zc0 zc1 zc2 zc3 zc4 zc5 zc6 zc7 zc8 zc9 zf0 zf1 zf2 zf3 zf4 zf5 zf6 zf7 zf8 zf9
    have hn3 : n3 ≤ 1099511627776 := by have h := HOP3.out.1.len; omega
    have HRR5 := Lib.hid (show RdR w5 w5.heap.size A3 n3 rs from HOP3.out.1)
    have hsz5 : w3.heap.size = w5.heap.size := HPUT.out.2.1.symm
    have hFRZ := Lib.hid HPUT.out.2.2
    rcases y with _ | _
    · go_wp2_with (go_at_call 128; (with_reducible refine (isBody_any ba la fr ep pi ge se tx ct rs A3 n3 c3 _ A2 n2 c2 l3 w2.heap.size HRB.out (by omega) HFT.out HRR5.out hn3 HY.out).mono ?_); rintro e w6 ⟨rfl, hb6⟩; have hlt6 : w.heap.size < w5.heap.size := (by omega); obtain ⟨v0, v1, v2, v3, v4, v5, v6, v7, v8, v9⟩ := HBX5.out.below hb6 hlt6; simp only at v0 v1 v2 v3 v4 v5 v6 v7 v8 v9; have t0 := (hb6.frozen (p := ⟨w.heap.size, 0, none⟩) hlt6).trans s0; have t1 := (hb6.frozen (p := ⟨w.heap.size, 1, none⟩) hlt6).trans s1; have t2 := (hb6.frozen (p := ⟨w.heap.size, 2, none⟩) hlt6).trans s2; have t3 := (hb6.frozen (p := ⟨w.heap.size, 3, none⟩) hlt6).trans s3; have t4 := (hb6.frozen (p := ⟨w.heap.size, 4, none⟩) hlt6).trans s4; have t5 := (hb6.frozen (p := ⟨w.heap.size, 5, none⟩) hlt6).trans s5; have t6 := (hb6.frozen (p := ⟨w.heap.size, 6, none⟩) hlt6).trans s6; have t7 := (hb6.frozen (p := ⟨w.heap.size, 7, none⟩) hlt6).trans s7; have t8 := (hb6.frozen (p := ⟨w.heap.size, 8, none⟩) hlt6).trans s8; have t9 := (hb6.frozen (p := ⟨w.heap.size, 9, none⟩) hlt6).trans s9; have HW6 := Lib.hid (HWP.out.trans (hb6.mono (by omega))); clear hb6)
      refine bodyPost_ret (v := .tuple #[bval nilB (.slice none 0 0), .int .i64 0, .int .i64 11]) (by simp [results, Tryz.results106, go_sem, bval, nilB, v0, v1, v2, v3, v4, v5, v6, v7, v8, v9]) rfl ?_
      rw [HNO.out trivial]
      exact ⟨none, 0, 0, rfl, Nat.le_refl _, ⟨RdR.nil, fun _ _ _ h => absurd h (by omega)⟩, ((((((((((HW6.out.setCell (by show w.heap.size ≤ w.heap.size; omega) _).setCell (by show w.heap.size ≤ w.heap.size; omega) _).setCell (by show w.heap.size ≤ w.heap.size; omega) _).setCell (by show w.heap.size ≤ w.heap.size; omega) _).setCell (by show w.heap.size ≤ w.heap.size; omega) _).setCell (by show w.heap.size ≤ w.heap.size; omega) _).setCell (by show w.heap.size ≤ w.heap.size; omega) _).setCell (by show w.heap.size ≤ w.heap.size; omega) _).setCell (by show w.heap.size ≤ w.heap.size; omega) _).setCell (by show w.heap.size ≤ w.heap.size; omega) _)⟩
    · go_wp2_with (go_at_call 128; (with_reducible refine (isBody_any ba la fr ep pi ge se tx ct rs A3 n3 c3 _ A2 n2 c2 l3 w2.heap.size HRB.out (by omega) HFT.out HRR5.out hn3 HY.out).mono ?_); rintro e w6 ⟨rfl, hb6⟩; have hlt6 : w.heap.size < w5.heap.size := (by omega); obtain ⟨v0, v1, v2, v3, v4, v5, v6, v7, v8, v9⟩ := HBX5.out.below hb6 hlt6; simp only at v0 v1 v2 v3 v4 v5 v6 v7 v8 v9; have t0 := (hb6.frozen (p := ⟨w.heap.size, 0, none⟩) hlt6).trans s0; have t1 := (hb6.frozen (p := ⟨w.heap.size, 1, none⟩) hlt6).trans s1; have t2 := (hb6.frozen (p := ⟨w.heap.size, 2, none⟩) hlt6).trans s2; have t3 := (hb6.frozen (p := ⟨w.heap.size, 3, none⟩) hlt6).trans s3; have t4 := (hb6.frozen (p := ⟨w.heap.size, 4, none⟩) hlt6).trans s4; have t5 := (hb6.frozen (p := ⟨w.heap.size, 5, none⟩) hlt6).trans s5; have t6 := (hb6.frozen (p := ⟨w.heap.size, 6, none⟩) hlt6).trans s6; have t7 := (hb6.frozen (p := ⟨w.heap.size, 7, none⟩) hlt6).trans s7; have t8 := (hb6.frozen (p := ⟨w.heap.size, 8, none⟩) hlt6).trans s8; have t9 := (hb6.frozen (p := ⟨w.heap.size, 9, none⟩) hlt6).trans s9; have HW6 := Lib.hid (HWP.out.trans (hb6.mono (by omega))); have HO6 := Lib.hid (HOP3.out.below hb6); clear hb6)
      refine bodyPost_ret (v := .tuple #[bval ⟨ba, la, fr, ep, pi, ge, se, tx, ct, rs⟩ (.slice A3 n3 c3), .int .i64 ((P : Int) + 4 + (x : Int)), .int .i64 0]) (by simp [results, Tryz.results106, go_sem, bval, v0, v1, v2, v3, v4, v5, v6, v7, v8, v9]) rfl ?_
      rw [HYES.out trivial]
      exact ⟨A3, n3, c3, rfl, hc3, (OwnR.low (OwnR.set (OwnR.set (OwnR.set (OwnR.set (OwnR.set (OwnR.set (OwnR.set (OwnR.set (OwnR.set (OwnR.set HO6.out hx2m) hx2m) hx2m) hx2m) hx2m) hx2m) hx2m) hx2m) hx2m) hx2m) (by omega)), ((((((((((HW6.out.setCell (by show w.heap.size ≤ w.heap.size; omega) _).setCell (by show w.heap.size ≤ w.heap.size; omega) _).setCell (by show w.heap.size ≤ w.heap.size; omega) _).setCell (by show w.heap.size ≤ w.heap.size; omega) _).setCell (by show w.heap.size ≤ w.heap.size; omega) _).setCell (by show w.heap.size ≤ w.heap.size; omega) _).setCell (by show w.heap.size ≤ w.heap.size; omega) _).setCell (by show w.heap.size ≤ w.heap.size; omega) _).setCell (by show w.heap.size ≤ w.heap.size; omega) _).setCell (by show w.heap.size ≤ w.heap.size; omega) _)⟩
end Go.Proofs.YtejcjmiofidedaaGreatDoor.Bat

/- The contract of Get, fields written out. -/
namespace Go.Proofs.YtejcjmiofidedaaGreatDoor.Bat
open Go.RowKit Oct Rec Crc Lay

theorem BGet_is (A : Option Addr) (n c : Nat) (l : List UInt8) (B : Nat) (p : Int) (w : World) (hr : Rd w B A n l) (hB : B ≤ w.heap.size) (hc : n ≤ c) (hn : n ≤ 137438953472) (hp : I64 p) (ht : Tab w) {ba la fr ep pi ge se : Int} {tx : Bool} {ct : Int} {rs : List Rc} {q z : Int} (h : grB l p = (⟨ba, la, fr, ep, pi, ge, se, tx, ct, rs⟩, q, z)) :
    Calls Tryz.prog 106 #[.slice A n c, .int .i64 p] w fun e w' => ∃ A' n' c', e = .returned (.tuple #[.agg #[.int .i64 ba, .int .i64 la, .int .i64 fr, .int .i64 ep, .int .i64 pi, .int .i64 ge, .int .i64 se, .bool tx, .int .i64 ct, .slice A' n' c'], .int .i64 q, .int .i64 z]) ∧ n' ≤ c' ∧ OwnR w' w.heap.size A' n' rs ∧ Below w.heap.size w w' := by
  have h1 := BGet_any A n c l B p w hr hB hc hn hp ht
  rw [h] at h1
  exact h1
end Go.Proofs.YtejcjmiofidedaaGreatDoor.Bat
