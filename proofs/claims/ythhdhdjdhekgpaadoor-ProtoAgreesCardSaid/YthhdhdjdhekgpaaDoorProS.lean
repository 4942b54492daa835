/- Joined: ProS. -/
import Derived.Test.YthhdhdjdhekgpaaDoorProMath
import Derived.Test.YthhdhdjdhekgpaaDoorLay
import Derived.Test.YthhdhdjdhekgpaaDoorJOct
import Derived.RangeFuncBox
/- A reader that goes from field to field: its block, and what each step does, in one relation for the program's and the document's. Nothing of the program. -/
namespace Go.Proofs.YthhdhdjdhekgpaaDoor.Pro
open Go.RowKit Go.Proofs.YthhdhdjdhekgpaaDoor.Oct Go.Proofs.YthhdhdjdhekgpaaDoor.Rec Go.Proofs.YthhdhdjdhekgpaaDoor.Cod Go.Proofs.YthhdhdjdhekgpaaDoor.Lay Go.Proofs.YthhdhdjdhekgpaaDoor.RowF

/-- a reader's block -/
def Rdr (T : TypeId) (W : World) (g : Nat) (sl : Value) (p e : Int) : Prop := W.heap[g]? = some (.cells #[sl, .int .i64 p, .int .i64 e] T (0, 0))
section
variable {T : TypeId} {W W' : World} {g : Nat} {sl : Value} {p e : Int}
theorem Rdr.lt (h : Rdr T W g sl p e) : g < W.heap.size := (Array.getElem?_eq_some_iff.1 h).1
theorem Rdr.c0 (h : Rdr T W g sl p e) : W.cell? ⟨g, 0, none⟩ = some sl := by simp [World.cell?, show W.heap[g]? = _ from h]
theorem Rdr.c1 (h : Rdr T W g sl p e) : W.cell? ⟨g, 1, none⟩ = some (.int .i64 p) := by simp [World.cell?, show W.heap[g]? = _ from h]
theorem Rdr.c2 (h : Rdr T W g sl p e) : W.cell? ⟨g, 2, none⟩ = some (.int .i64 e) := by simp [World.cell?, show W.heap[g]? = _ from h]
theorem Rdr.f (h : Rdr T W g sl p e) (i : Nat) : W.frozen? ⟨g, i, none⟩ = false := by simp [World.frozen?, show W.heap[g]? = _ from h]
theorem Rdr.drew (h : Rdr T W g sl p e) : Rdr T W.drew g sl p e := h
theorem heap_set {cs : Array Value} {fr : Nat × Nat} (h : W.heap[g]? = some (.cells cs T fr)) (i : Nat) (v : Value) : (W.setCell ⟨g, i, none⟩ v).heap[g]? = some (.cells (cs.setIfInBounds i v) T fr) := by
  obtain ⟨hlt, hk⟩ := Array.getElem?_eq_some_iff.1 h
  show (W.heap.modify g _)[g]? = _
  rw [Array.getElem?_eq_getElem (by rw [Array.size_modify]; exact hlt), Array.getElem_modify_self, hk]
  rfl
theorem Rdr.set1 (h : Rdr T W g sl p e) (q : Int) : Rdr T (W.setCell ⟨g, 1, none⟩ (.int .i64 q)) g sl q e := heap_set h 1 _
theorem Rdr.set2 (h : Rdr T W g sl p e) (q : Int) : Rdr T (W.setCell ⟨g, 2, none⟩ (.int .i64 q)) g sl p q := heap_set h 2 _
theorem Rdr.grown (h : Rdr T W g sl p e) {row : Option Nat} (hg : W.grownBy W' row) (hne : some g ≠ row) : Rdr T W' g sl p e := (hg.block g h.lt hne).trans h
theorem Rdr.below {B : Nat} (h : Rdr T W g sl p e) (hb : Below B W W') (hg : g < B) : Rdr T W' g sl p e := (hb.block g hg).trans h
end
theorem gb_drew (w : World) (row : Option Nat) : w.grownBy w.drew row := ⟨rfl, rfl, rfl, Nat.le_refl _, fun _ _ _ => rfl⟩
theorem gb_set (w : World) (g i : Nat) (v : Value) : w.grownBy (w.setCell ⟨g, i, none⟩ v) (some g) :=
  ⟨rfl, rfl, rfl, (KeepsWalks.setCell w _ v).size, fun k _ hk => Below.heap_setCell _ _ _ k (fun e => hk (by rw [e]))⟩
theorem gb_trans {a b c : World} {row : Option Nat} (h : a.grownBy b row) (k : b.grownBy c row) : a.grownBy c row :=
  ⟨k.os.trans h.os, k.tape.trans h.tape, k.output.trans h.output, Nat.le_trans h.size k.size, fun i hi hn => (k.block i (Nat.lt_of_lt_of_le hi h.size) hn).trans (h.block i hi hn)⟩
theorem gb_below {a b c : World} {row : Option Nat} (h : a.grownBy b row) (k : Below a.heap.size b c) : a.grownBy c row :=
  ⟨k.os.trans h.os, k.tape.trans h.tape, k.output.trans h.output, Nat.le_trans h.size k.size, fun i hi hn => (k.block i hi).trans (h.block i hi hn)⟩
theorem gb_of_below {a b : World} (row : Option Nat) (k : Below a.heap.size a b) : a.grownBy b row := gb_below (grown_refl a row) k
theorem below_gb {B g : Nat} {a b c : World} (h : Below B a b) (hg : b.grownBy c (some g)) (hB : B ≤ b.heap.size) (hBg : B ≤ g) : Below B a c := h.grown hg hB fun k hk => by injection hk with hk; omega

/-! ### steps -/
/-- from place p, with the first error e, one field on: what it is, where the next one stands, the first error -/
def Steps {α : Type} (a : Codec α) (l : List UInt8) (p e : Int) (x : α) (q z : Int) : Prop :=
  (e ≠ 0 ∧ z = e) ∨ (e = 0 ∧ z ≠ 0 ∧ a.get l p = .error z) ∨ (e = 0 ∧ z = 0 ∧ a.get l p = .ok (x, q))
/-- where a reader may stand -/
def At (n : Nat) (p e : Int) : Prop := 0 ≤ p ∧ p ≤ 1099511627776 ∧ (e = 0 → p ≤ n)
section
variable {α β : Type} {a : Codec α} {l : List UInt8} {p e q z q2 z2 : Int} {x : α} {y : β}
theorem Steps.keep (h : Steps a l p e x q z) (he : e ≠ 0) : z = e := by
  rcases h with h | h | h
  · exact h.2
  · exact absurd h.1 he
  · exact absurd h.1 he
theorem Steps.err (he : e ≠ 0) : Steps a l p e x q e := .inl ⟨he, rfl⟩
theorem Steps.was (h : Steps a l p e x q 0) : e = 0 := by
  rcases h with h | h | h
  · exact absurd h.2.symm h.1
  · exact h.1
  · exact h.1
theorem Steps.good (h : Steps a l p e x q 0) : a.get l p = .ok (x, q) := by
  rcases h with h | h | h
  · exact absurd h.2.symm h.1
  · exact absurd rfl h.2.1
  · exact h.2.2
theorem Steps.bad (h : Steps a l p 0 x q z) (hz : z ≠ 0) : a.get l p = .error z := by
  rcases h with h | h | h
  · exact absurd rfl h.1
  · exact h.2.2
  · exact absurd h.2.1 hz
theorem Steps.other (h : Steps a l p e x q z) (hz : z ≠ 0) {x' : α} {q' : Int} : Steps a l p e x' q' z := by
  rcases h with h | h | h
  · exact .inl h
  · exact .inr (.inl h)
  · exact absurd h.2.1 hz
theorem Steps.none : Steps (cnone x) l p e x p e := by
  by_cases he : e = 0
  · exact .inr (.inr ⟨he, he, rfl⟩)
  · exact .err he
theorem Steps.seq {b : α → Codec β} (h : Steps a l p e x q z) (h2 : z = 0 → Steps (b x) l q 0 y q2 z2) (h3 : z ≠ 0 → z2 = z) : Steps (cseq a b) l p e (x, y) q2 z2 := by
  by_cases he : e = 0
  · subst he
    by_cases hz : z = 0
    · subst hz
      have g1 := h.good
      have g2 := h2 rfl
      by_cases hz2 : z2 = 0
      · subst hz2
        exact .inr (.inr ⟨rfl, rfl, by rw [cseq_get, g1]; simp only; rw [g2.good]⟩)
      · exact .inr (.inl ⟨rfl, hz2, by rw [cseq_get, g1]; simp only; rw [g2.bad hz2]⟩)
    · have g1 := h.bad hz
      have g2 := h3 hz
      subst g2
      exact .inr (.inl ⟨rfl, hz, by rw [cseq_get, g1]⟩)
  · have g1 := h.keep he
    subst g1
    have g2 := h3 he
    subst g2
    exact .err he
theorem Steps.map {f : α → β} {g : β → α} {h1 : ∀ x, a.may x → g (f x) = x} {h2 : ∀ y, a.may (g y) → f (g y) = y} (h : Steps a l p e x q z) : Steps (cmap a f g h1 h2) l p e (f x) q z := by
  rcases h with h | h | h
  · exact .inl h
  · exact .inr (.inl ⟨h.1, h.2.1, by rw [cmap_get, h.2.2]⟩)
  · exact .inr (.inr ⟨h.1, h.2.1, by rw [cmap_get, h.2.2]⟩)
theorem Steps.that {chk : α → Int} (h : Steps a l p e x q z) (hz : z ≠ 0 → z2 = z) (h0 : z = 0 → chk x = z2) : Steps (cthat a chk) l p e x q z2 := by
  by_cases he : e = 0
  · subst he
    by_cases h1 : z = 0
    · subst h1
      have g := h.good
      have h2 := h0 rfl
      by_cases h3 : z2 = 0
      · subst h3
        exact .inr (.inr ⟨rfl, rfl, by show (match a.get l p with | .error e => Except.error e | .ok x => if chk x.1 = 0 then .ok x else .error (chk x.1)) = _; rw [g]; simp only; rw [if_pos h2]⟩)
      · exact .inr (.inl ⟨rfl, h3, by show (match a.get l p with | .error e => Except.error e | .ok x => if chk x.1 = 0 then .ok x else .error (chk x.1)) = _; rw [g]; simp only; rw [if_neg (by omega), h2]⟩)
    · have g := h.bad h1
      have h2 := hz h1
      subst h2
      exact .inr (.inl ⟨rfl, h1, by show (match a.get l p with | .error e => Except.error e | .ok x => if chk x.1 = 0 then .ok x else .error (chk x.1)) = _; rw [g]⟩)
  · have g1 := h.keep he
    subst g1
    have g2 := hz he
    subst g2
    exact .err he
theorem getMany_snoc (a : Codec α) (l : List UInt8) : ∀ (k : Nat) (p : Int), getMany a (k + 1) l p = match getMany a k l p with
    | .error e => .error e
    | .ok y => match a.get l y.2 with
      | .error e => .error e
      | .ok x => .ok (y.1 ++ [x.1], x.2)
  | 0, p => by
    simp only [getMany]
    cases a.get l p <;> rfl
  | k + 1, p => by
    have ih := getMany_snoc a l k
    have e1 : ∀ (k : Nat) (p : Int), getMany a (k + 1) l p = match a.get l p with | .error e => .error e | .ok x => match getMany a k l x.2 with | .error e => .error e | .ok y => .ok (x.1 :: y.1, y.2) := fun _ _ => rfl
    rw [e1 (k + 1) p, e1 k p]
    cases a.get l p with
    | error e => rfl
    | ok x =>
      simp only
      rw [ih x.2]
      cases getMany a k l x.2 with
      | error e => rfl
      | ok y =>
        simp only
        cases a.get l y.2 <;> rfl
theorem Steps.many0 : Steps (cmany a 0) l p e [] p e := by
  by_cases he : e = 0
  · exact .inr (.inr ⟨he, he, rfl⟩)
  · exact .err he
theorem Steps.snoc {k : Nat} {L : List α} (h : Steps (cmany a k) l p e L q z) (h2 : Steps a l q z x q2 z2) : Steps (cmany a (k + 1)) l p e (L ++ [x]) q2 z2 := by
  by_cases he : e = 0
  · subst he
    by_cases hz : z = 0
    · subst hz
      have g1 : getMany a k l p = .ok (L, q) := h.good
      by_cases hz2 : z2 = 0
      · subst hz2
        exact .inr (.inr ⟨rfl, rfl, by show getMany a (k + 1) l p = _; rw [getMany_snoc, g1]; simp only; rw [h2.good]⟩)
      · exact .inr (.inl ⟨rfl, hz2, by show getMany a (k + 1) l p = _; rw [getMany_snoc, g1]; simp only; rw [h2.bad hz2]⟩)
    · have g1 : getMany a k l p = .error z := h.bad hz
      have g2 := h2.keep hz
      subst g2
      exact .inr (.inl ⟨rfl, hz, by show getMany a (k + 1) l p = _; rw [getMany_snoc, g1]⟩)
  · have g1 := h.keep he
    subst g1
    have g2 := h2.keep he
    subst g2
    exact .err he
/-- an error that was there, or that comes, ahead of more -/
theorem Steps.more {k m : Nat} {L M : List α} (h : Steps (cmany a k) l p e L q z) (hz : z ≠ 0) (hm : k ≤ m) : Steps (cmany a m) l p e M q2 z := by
  by_cases he : e = 0
  · subst he
    have g := h.bad hz
    refine .inr (.inl ⟨rfl, hz, ?_⟩)
    show getMany a m l p = _
    obtain ⟨d, rfl⟩ : ∃ d, m = k + d := ⟨m - k, by omega⟩
    clear hm
    induction d with
    | zero => exact g
    | succ d ih => rw [← Nat.add_assoc, getMany_snoc, ih]
  · have g1 := h.keep he
    subst g1
    exact .err he
theorem Steps.count {chk : Int → Int} {hchk : ∀ n, chk n = 0 → 0 ≤ n} {m : Int} {xs : List α} (h : Steps (cthat cvar chk) l p e m q z) (h2 : z = 0 → Steps (cmany a m.toNat) l q 0 xs q2 z2) (h3 : z ≠ 0 → z2 = z) : Steps (ccount a chk hchk) l p e xs q2 z2 :=
  Steps.map (f := fun w : Int × List α => w.2) (Steps.seq (y := xs) (b := fun n : Int => cmany a n.toNat) h h2 h3)
/-! what octet's calls do -/
theorem gv_at' {n : Nat} (hl : l.length = n) (hn : n ≤ 1099511627776) : At n (gv l p).2.1 (gv l p).2.2 ∧ I64 (gv l p).1 := by
  rcases h : gv l p with ⟨x, q, z⟩
  by_cases hz : z = 0
  · subst hz
    obtain ⟨a1, a2, a3, a4, a5, a6, a7⟩ := gv_good h
    exact ⟨⟨by simp only; omega, by simp only; omega, fun _ => by simp only; omega⟩, a6, a7⟩
  · have h2 := gv_bad h hz
    refine ⟨⟨by simp only; omega, by simp only; omega, fun h => absurd h hz⟩, ?_, ?_⟩ <;> simp only <;> omega
theorem steps_var : Steps cvar l p 0 (gv l p).1 (gv l p).2.1 (gv l p).2.2 := by
  by_cases h : (gv l p).2.2 = 0
  · exact .inr (.inr ⟨rfl, h, by show (if (gv l p).2.2 = 0 then _ else _) = _; rw [if_pos h]⟩)
  · exact .inr (.inl ⟨rfl, h, by show (if (gv l p).2.2 = 0 then _ else _) = _; rw [if_neg h]⟩)
theorem steps_text {m : Nat} {hm : m ≤ 1099511627776} : Steps (ctext m hm) l p 0 (gx l p m).1 (gx l p m).2.1 (gx l p m).2.2 := by
  by_cases h : (gx l p m).2.2 = 0
  · exact .inr (.inr ⟨rfl, h, by show (if (gx l p m).2.2 = 0 then _ else _) = _; rw [if_pos h]⟩)
  · exact .inr (.inl ⟨rfl, h, by show (if (gx l p m).2.2 = 0 then _ else _) = _; rw [if_neg h]⟩)
theorem gx_at' {n : Nat} {m : Nat} (hl : l.length = n) (hn : n ≤ 1099511627776) : At n (gx l p m).2.1 (gx l p m).2.2 ∧ (gx l p m).1.size ≤ m := by
  rcases h : gx l p m with ⟨x, q, z⟩
  by_cases hz : z = 0
  · subst hz
    obtain ⟨a1, a2, a3, a4, a5, a6⟩ := gx_good h
    exact ⟨⟨by simp only; omega, by simp only; omega, fun _ => by simp only; omega⟩, by simp only; omega⟩
  · have h2 := gx_bad h hz
    refine ⟨⟨by simp only; omega, by simp only; omega, fun h => absurd h hz⟩, ?_⟩
    simp only
    rw [h2.1]
    exact Nat.zero_le _
theorem steps_raw {n : Nat} (h : p + n ≤ (l.length : Int)) : Steps (craw n) l p 0 ((l.drop p.toNat).take n) (p + n) 0 :=
  .inr (.inr ⟨rfl, rfl, by show (if (l.length : Int) < p + n then _ else _) = _; rw [if_neg (by omega)]⟩)
theorem steps_rawX {n : Nat} {x : List UInt8} (h : ¬ p + n ≤ (l.length : Int)) : Steps (craw n) l p 0 x q 10 :=
  .inr (.inl ⟨rfl, by decide, by show (if (l.length : Int) < p + n then _ else _) = _; rw [if_pos (by omega)]⟩)
/-- how many bytes, and these -/
theorem steps_bl {chk : Int → Int} {hchk : ∀ n, chk n = 0 → 0 ≤ n} {m : Int} {xs : List UInt8} (h : Steps (cthat cvar chk) l p e m q z) (h2 : z = 0 → Steps (craw m.toNat) l q 0 xs q2 z2) (h3 : z ≠ 0 → z2 = z) : Steps (cblob chk hchk) l p e xs q2 z2 :=
  Steps.map (f := fun w : Int × List UInt8 => w.2) (Steps.seq (y := xs) (b := fun n : Int => craw n.toNat) h h2 h3)
/-- bytes, as octet's text -/
theorem steps_blob {m : Nat} : Steps (cblob (ckM m) (ckM_pos m)) l p 0 (gx l p m).1.data.toList (gx l p m).2.1 (gx l p m).2.2 := by
  have hv : Steps cvar l p 0 (gv l p).1 (gv l p).2.1 (gv l p).2.2 := steps_var
  unfold gx
  by_cases h1 : (gv l p).2.2 ≠ 0
  · rw [if_pos h1]
    exact steps_bl (hv.that (z2 := (gv l p).2.2) (fun _ => rfl) (fun h => absurd h h1)) (fun h => absurd h h1) fun _ => rfl
  have h10 : (gv l p).2.2 = 0 := by omega
  rw [if_neg h1]
  rw [h10] at hv
  by_cases h2 : (gv l p).1 < 0
  · rw [if_pos h2]
    have hc : ckM m (gv l p).1 = 11 := by unfold ckM; rw [if_pos h2]
    exact steps_bl (hv.that (z2 := 11) (fun h => absurd rfl h) (fun _ => hc)) (fun h => absurd h (by decide)) fun _ => rfl
  rw [if_neg h2]
  by_cases h3 : (m : Int) < (gv l p).1
  · rw [if_pos h3]
    have hc : ckM m (gv l p).1 = 2 := by unfold ckM; rw [if_neg h2, if_pos h3]
    exact steps_bl (hv.that (z2 := 2) (fun h => absurd rfl h) (fun _ => hc)) (fun h => absurd h (by decide)) fun _ => rfl
  rw [if_neg h3]
  have hc : ckM m (gv l p).1 = 0 := ckM_ok (by omega) (by omega)
  have hnx := gv_next h10
  by_cases h4 : hasB l.length (gv l p).2.1 (gv l p).1 = false
  · rw [if_pos h4]
    have h5 := of_decide_eq_false h4
    exact steps_bl (hv.that (z2 := 0) (fun h => absurd rfl h) (fun _ => hc)) (fun _ => steps_rawX (by omega)) fun h => absurd rfl h
  · rw [if_neg h4]
    have h5 := of_decide_eq_true (show hasB l.length (gv l p).2.1 (gv l p).1 = true by simpa using h4)
    refine steps_bl (q2 := (gv l p).2.1 + (gv l p).1) (hv.that (z2 := 0) (fun h => absurd rfl h) (fun _ => hc)) (fun _ => ?_) fun h => absurd rfl h
    have h6 := steps_raw (l := l) (p := (gv l p).2.1) (n := (gv l p).1.toNat) (by omega)
    rw [show (gv l p).2.1 + (((gv l p).1.toNat : Nat) : Int) = (gv l p).2.1 + (gv l p).1 by omega] at h6
    exact h6
end
/-- the end: nothing is left -/
theorem whole_err {α : Type} {a : Codec α} {chk : α → Int} {l : List UInt8} {x : α} {q z : Int} (h : Steps a l 0 0 x q z) (hz : z ≠ 0) : whole a chk l = .error z := by
  unfold whole; rw [h.bad hz]
theorem whole_left {α : Type} {a : Codec α} {chk : α → Int} {l : List UInt8} {x : α} {q : Int} (h : Steps a l 0 0 x q 0) (hq : q ≠ (l.length : Int)) : whole a chk l = .error 11 := by
  unfold whole; rw [h.good]; simp only; rw [if_pos hq]
theorem whole_not {α : Type} {a : Codec α} {chk : α → Int} {l : List UInt8} {x : α} {q : Int} (h : Steps a l 0 0 x q 0) (hq : q = (l.length : Int)) (hc : chk x ≠ 0) : whole a chk l = .error 1 := by
  unfold whole; rw [h.good]; simp only; rw [if_neg (by omega), if_pos hc]
theorem whole_ok {α : Type} {a : Codec α} {chk : α → Int} {l : List UInt8} {x : α} {q : Int} (h : Steps a l 0 0 x q 0) (hq : q = (l.length : Int)) (hc : chk x = 0) : whole a chk l = .ok x := by
  unfold whole; rw [h.good]; simp only; rw [if_neg (by omega), if_neg (by omega)]

/-! ### rows of numbers and of texts -/
def numc (x : Int) : List Value := [.int .i64 x]
def strc (x : ByteArray) : List Value := [.string x]
theorem nS : Shape numc 1 := ⟨fun _ => rfl, fun x u hu => by simp only [numc, List.mem_singleton] at hu; subst hu; rfl, by decide⟩
theorem sS : Shape strc 1 := ⟨fun _ => rfl, fun x u hu => by simp only [strc, List.mem_singleton] at hu; subst hu; rfl, by decide⟩
theorem rdL_nums {w : World} {B n : Nat} {A : Option Addr} {L : List Int} (h : RdF numc 1 w B A n L) (hi : ∀ x ∈ L, I64 x) : RdL w B A n L :=
  ⟨h.1, fun k x hx => by
    obtain ⟨b, o, hA, hb, hc⟩ := h.2 k x hx
    exact ⟨b, o, numc x, hA, hb, ⟨_, rfl, rfl, hi x (List.mem_of_getElem? hx)⟩, fun i v hv => hc i v hv⟩⟩
theorem rdL_strs {w : World} {B n : Nat} {A : Option Addr} {L : List ByteArray} (h : RdF strc 1 w B A n L) (hi : ∀ x ∈ L, x.size ≤ reach) : RdL w B A n L :=
  ⟨h.1, fun k x hx => by
    obtain ⟨b, o, hA, hb, hc⟩ := h.2 k x hx
    exact ⟨b, o, strc x, hA, hb, ⟨_, rfl, rfl, hi x (List.mem_of_getElem? hx)⟩, fun i v hv => hc i v hv⟩⟩
theorem gt_one_none {l : List UInt8} {p : Int} (hp : 0 ≤ p) (h : l[p.toNat]? = none) : gt l p 1 = (0, 10) := by
  have h1 : l.length ≤ p.toNat := by simpa using h
  unfold gt
  rw [if_neg (by simp [isW]; omega), if_pos (by simp [hasB]; omega)]
theorem gt_one_some {l : List UInt8} {p : Int} {c : UInt8} (hp : 0 ≤ p) (h : l[p.toNat]? = some c) : gt l p 1 = (c.toNat, 0) := by
  have h1 : p.toNat < l.length := (List.getElem?_eq_some_iff.1 h).1
  unfold gt
  rw [if_neg (by simp [isW]; omega), if_neg (by simp [hasB]; omega), drop_at h]
  show (getN [c], 0) = _
  rw [getN_cons, getN_nil]; simp
/-- a number at a reader's place -/
def stN (l : List UInt8) (p e : Int) : Int × Int × Int := if e ≠ 0 then (0, p, e) else gv l p
theorem stN_err {l : List UInt8} {p e : Int} (h : e ≠ 0) : stN l p e = (0, p, e) := by unfold stN; rw [if_pos h]
theorem stN_ok {l : List UInt8} {p : Int} : stN l p 0 = gv l p := by unfold stN; rw [if_neg (by simp)]
theorem stN_steps {l : List UInt8} {p e x q z : Int} {n : Nat} (hl : l.length = n) (hn : n ≤ 1099511627776) (ha : At n p e) (h : stN l p e = (x, q, z)) : I64 x ∧ Steps cvar l p e x q z ∧ At n q z := by
  by_cases he : e = 0
  · subst he
    rw [stN_ok] at h
    have h1 := steps_var (l := l) (p := p)
    have h2 := gv_at' (l := l) (p := p) hl hn
    rw [h] at h1 h2
    exact ⟨h2.2, h1, h2.1⟩
  · rw [stN_err he] at h
    simp only [Prod.mk.injEq] at h
    obtain ⟨rfl, rfl, rfl⟩ := h
    exact ⟨⟨by omega, by omega⟩, .err he, ha⟩
/-- what a step of a reader answers -/
def NumR {α : Type} (a : Codec α) (mk : α → Value) (ok : α → Prop) (T : TypeId) (g : Nat) (sl : Value) (l : List UInt8) (n : Nat) (p e : Int) (w : World) (en : Ending) (w' : World) : Prop :=
  ∃ x q z, en = .returned (mk x) ∧ ok x ∧ Steps a l p e x q z ∧ At n q z ∧ Rdr T w' g sl q z ∧ w.grownBy w' (some g)
def mkI (x : Int) : Value := .int .i64 x
def mkS (x : ByteArray) : Value := .string x
/-- what many steps answer: a row of the call's own -/
def RowR {α : Type} (f : α → List Value) (ok : α → Prop) (a : Codec α) (many : Nat) (t T : TypeId) (g : Nat) (sl : Value) (l : List UInt8) (n : Nat) (p e : Int) (w : World) (en : Ending) (w' : World) : Prop :=
  ∃ A m c L q z, en = .returned (.slice A m c) ∧ m ≤ many ∧ OwnF f 1 w' t w.heap.size (.slice A m c) m L ∧ (∀ x ∈ L, ok x) ∧ Steps (cmany a many) l p e L q z ∧ At n q z ∧ Rdr T w' g sl q z ∧ w.grownBy w' (some g)
/-- a row that is begun at the reader's place -/
def rowRel {α : Type} (f : α → List Value) (ok : α → Prop) (a : Codec α) (many : Nat) (t T : TypeId) (g : Nat) (sl : Value) (l : List UInt8) (n : Nat) (p e : Int) (w : World) (vl vi : Value) (wr : World) : Prop :=
  ∃ (j : Nat) (A : Option Addr) (c : Nat) (L : List α) (q z : Int), vi = .int .i64 (j : Int) ∧ j ≤ many ∧ vl = .slice A j c ∧ OwnF f 1 wr t w.heap.size vl j L ∧ (∀ x ∈ L, ok x) ∧ Steps (cmany a j) l p e L q z ∧ At n q z ∧ Rdr T wr g sl q z ∧ w.grownBy wr (some g)
theorem own_row {α : Type} {f : α → List Value} {w w' : World} {t : TypeId} {B g n : Nat} {v : Value} {L : List α} (h : OwnF f 1 w t B v n L) (hg : w.grownBy w' (some g)) (hgB : g < B) : OwnF f 1 w' t B v n L := by
  refine World.ownsRow.kept h hg ?_
  rcases h.2 with ⟨rfl, _⟩ | ⟨g', cap, cur, rfl, hb, _⟩
  · exact .inl rfl
  · refine .inr fun e' => ?_
    have : g' = g := by simpa [Value.ownBlock] using e'
    omega
theorem gb_rd {w w' : World} {B n g : Nat} {A : Option Addr} {l : List UInt8} (h : Rd w B A n l) (hB : B ≤ g) (hs : B ≤ w.heap.size) (hg : w.grownBy w' (some g)) : Rd w' B A n l :=
  h.keep fun q hq => World.cell?_of_block (w := w) (hg.block q.block (by omega) (by intro he; injection he with he; omega))
end Go.Proofs.YthhdhdjdhekgpaaDoor.Pro
