/- Joined: ProMath, ProR1, RowA, ProAgr, ProR2, ProA, ProTab, ProC, ProCP, ProS, ProVers, ProP1, ProW. -/
import Derived.Test.YtlfbagkonckffaaGreatJ44
import Derived.Test.YtlfbagkonckffaaGreatJ06
import Derived.Test.YtlfbagkonckffaaGreatJ07
import Derived.Test.YtlfbagkonckffaaGreatJ10
import Derived.Test.YtlfbagkonckffaaGreatJ02
import Derived.Deep.RegionHeld
import Derived.RangeFuncBox
import Derived.Test.YtlfbagkonckffaaGreatJ22
import Derived.Test.YtlfbagkonckffaaGreatJ23
import Derived.Test.YtlfbagkonckffaaGreatJ11
/- The plain mathematics of layer 6: requests and answers, and their bytes. Nothing of the program. -/
namespace Go.Proofs.YtlfbagkonckffaaGreat.Pro
open Oct Rec Cod

structure Rq where
  kind : Int
  ver : Int
  id : Int
  who : ByteArray
  ints : List Int
  texts : List ByteArray
  blob : List UInt8
structure Rp where
  kind : Int
  ver : Int
  id : Int
  e : Int
  wait : Int
  ints : List Int
  texts : List ByteArray
  blob : List UInt8
def nilQ : Rq := ⟨0, 0, 0, ByteArray.empty, [], [], []⟩
def nilP : Rp := ⟨0, 0, 0, 0, 0, [], [], []⟩
def known (k v : Int) : Int := if k < 1 ∨ 12 < k then 60 else if v < 0 ∨ 2 < v then 61 else 0
theorem known_iff {k v : Int} : known k v = 0 ↔ (1 ≤ k ∧ k ≤ 12) ∧ 0 ≤ v ∧ v ≤ 2 := by
  unfold known
  by_cases h : k < 1 ∨ 12 < k
  · rw [if_pos h]; constructor
    · intro h; cases h
    · omega
  · rw [if_neg h]
    by_cases h2 : v < 0 ∨ 2 < v
    · rw [if_pos h2]; constructor
      · intro h; cases h
      · omega
    · rw [if_neg h2]; constructor
      · omega
      · intro _; rfl
def nI (k : Int) : Int := [0, 0, 2, 4, 5, 3, 5, 0, 1, 1, 0, 4, 2].getD k.toNat 0
def nT (k : Int) : Int := [0, 1, 1, 2, 3, 1, 1, 3, 2, 2, 2, 3, 2].getD k.toNat 0
def mT (k : Int) : Int := if k = 7 then 12 else 0
def mB (k : Int) : Int := if k = 2 then 2048 else 0
def OkQ (r : Rq) : Prop := (0 ≤ r.id ∧ r.id ≤ 1099511627776) ∧ r.who.size ≤ 64 ∧ (r.ver < 2 → r.who.size = 0) ∧ (r.ints.length : Int) = nI r.kind ∧ (∀ x ∈ r.ints, -1 ≤ x ∧ x ≤ 1099511627776) ∧
  (nT r.kind ≤ (r.texts.length : Int) ∧ (r.texts.length : Int) ≤ nT r.kind + mT r.kind) ∧ (∀ t ∈ r.texts, t.size ≤ 64) ∧ (r.blob.length : Int) ≤ mB r.kind
instance (r : Rq) : Decidable (OkQ r) := by unfold OkQ; infer_instance
def OkP (r : Rp) : Prop := (0 ≤ r.id ∧ r.id ≤ 1099511627776) ∧ (0 ≤ r.wait ∧ r.wait ≤ 1099511627776) ∧ (r.ver = 0 → r.wait = 0) ∧ (0 ≤ r.e ∧ r.e ≤ 999) ∧ r.ints.length ≤ 64 ∧ (∀ x ∈ r.ints, -1099511627776 ≤ x ∧ x ≤ 1099511627776) ∧
  r.texts.length ≤ 16 ∧ (∀ t ∈ r.texts, t.size ≤ 64) ∧ r.blob.length ≤ 4096
instance (r : Rp) : Decidable (OkP r) := by unfold OkP; infer_instance
def ckQ (r : Rq) : Int := if known r.kind r.ver ≠ 0 then known r.kind r.ver else if OkQ r then 0 else 1
def ckP (r : Rp) : Int := if known r.kind r.ver ≠ 0 then known r.kind r.ver else if OkP r then 0 else 1
def kv (l : List UInt8) (p : Int) : Int × Int := (((l[p.toNat]?.getD 0).toNat : Int), ((l[p.toNat + 1]?.getD 0).toNat : Int))
def chead : Codec (Int × Int) where
  get l p := if (l.length : Int) < p + 2 then .error 10 else if known (kv l p).1 (kv l p).2 ≠ 0 then .error (known (kv l p).1 (kv l p).2) else .ok (kv l p, p + 2)
  put z := [UInt8.ofNat z.1.toNat, UInt8.ofNat z.2.toNat]
  may z := known z.1 z.2 = 0
  back h z t hz := by
    obtain ⟨k, v⟩ := z
    have hk := known_iff.1 hz
    simp only at hk
    have e : kv (h ++ ([UInt8.ofNat k.toNat, UInt8.ofNat v.toNat] ++ t)) (h.length : Int) = (k, v) := by
      unfold kv
      rw [Int.toNat_natCast, List.getElem?_append_right (Nat.le_refl _), List.getElem?_append_right (Nat.le_add_right _ 1), Nat.sub_self, show h.length + 1 - h.length = 1 by omega]
      simp only [List.cons_append, List.getElem?_cons_zero, List.getElem?_cons_succ, Option.getD_some]
      rw [ofNat_toNat' (by omega), ofNat_toNat' (by omega)]
      congr 1 <;> omega
    rw [e, if_neg (by simp only [List.length_append, List.length_cons]; omega), if_neg (by simpa using hz)]
    rfl
  sole l p z q hp hl h := by
    by_cases h0 : (l.length : Int) < p + 2
    · rw [if_pos h0] at h; cases h
    · rw [if_neg h0] at h
      by_cases h1 : known (kv l p).1 (kv l p).2 ≠ 0
      · rw [if_pos h1] at h; cases h
      · rw [if_neg h1] at h
        injection h with h
        obtain rfl : kv l p = z := congrArg Prod.fst h
        obtain rfl : p + 2 = q := congrArg Prod.snd h
        refine ⟨by omega, by omega, by omega, ?_⟩
        have e1 : l[p.toNat]? = some (l[p.toNat]'(by omega)) := List.getElem?_eq_getElem (by omega)
        have e2 : l[p.toNat + 1]? = some (l[p.toNat + 1]'(by omega)) := List.getElem?_eq_getElem (by omega)
        unfold kv
        rw [e1, e2]
        simp only [Option.getD_some, Int.toNat_natCast]
        rw [UInt8.ofNat_toNat, UInt8.ofNat_toNat, show (p + 2 - p).toNat = 2 by omega, drop_at e1, drop_at e2]
        rfl
  short h z k hz hk := by
    have hk2 : k < 2 := hk
    rw [if_pos (by rw [List.length_append, List.length_take]; simp only [List.length_cons, List.length_nil]; omega)]

def txt64 : Codec ByteArray := ctext 64 (by omega)
def whoC (v : Int) : Codec ByteArray := if v = 2 then txt64 else cnone ByteArray.empty
def intsC (k : Int) : Codec (List Int) := cmany cvar (nI k).toNat
def ck15 (n : Int) : Int := if n < 3 ∨ 15 < n then 11 else 0
theorem ck15_pos (n : Int) (h : ck15 n = 0) : 0 ≤ n := by
  unfold ck15 at h
  by_cases h2 : n < 3 ∨ 15 < n
  · rw [if_pos h2] at h; cases h
  · omega
def ckM (m n : Int) : Int := if n < 0 then 11 else if m < n then 2 else 0
theorem ckM_pos (m n : Int) (h : ckM m n = 0) : 0 ≤ n := by
  unfold ckM at h
  by_cases h2 : n < 0
  · rw [if_pos h2] at h; cases h
  · omega
def textsC (k : Int) : Codec (List ByteArray) := if k = 7 then ccount txt64 ck15 ck15_pos else cmany txt64 (nT k).toNat
def blobC (k : Int) : Codec (List UInt8) := if k = 2 then cblob (ckM 2048) (ckM_pos 2048) else cnone []
def waitC (v : Int) : Codec Int := if 1 ≤ v then cvar else cnone 0
def reqC : Codec Rq :=
  cmap (cseq chead fun z => cseq cvar fun _ => cseq (whoC z.2) fun _ => cseq (intsC z.1) fun _ => cseq (textsC z.1) fun _ => blobC z.1)
    (fun x => ⟨x.1.1, x.1.2, x.2.1, x.2.2.1, x.2.2.2.1, x.2.2.2.2.1, x.2.2.2.2.2⟩)
    (fun r => ((r.kind, r.ver), r.id, r.who, r.ints, r.texts, r.blob)) (fun _ _ => rfl) (fun _ _ => rfl)
def respC : Codec Rp :=
  cmap (cseq chead fun z => cseq cvar fun _ => cseq cvar fun _ => cseq (waitC z.2) fun _ => cseq (ccount cvar (ckM 64) (ckM_pos 64)) fun _ => cseq (ccount txt64 (ckM 16) (ckM_pos 16)) fun _ => cblob (ckM 4096) (ckM_pos 4096))
    (fun x => ⟨x.1.1, x.1.2, x.2.1, x.2.2.1, x.2.2.2.1, x.2.2.2.2.1, x.2.2.2.2.2.1, x.2.2.2.2.2.2⟩)
    (fun r => ((r.kind, r.ver), r.id, r.e, r.wait, r.ints, r.texts, r.blob)) (fun _ _ => rfl) (fun _ _ => rfl)
def ptQ (r : Rq) : List UInt8 × Int := if ckQ r = 0 then (reqC.put r, 0) else ([], ckQ r)
def ptP (r : Rp) : List UInt8 × Int := if ckP r = 0 then (respC.put r, 0) else ([], ckP r)
def gtQ (l : List UInt8) : Rq × Int := match whole reqC ckQ l with
  | .error e => (nilQ, e)
  | .ok r => (r, 0)
def gtP (l : List UInt8) : Rp × Int := match whole respC ckP l with
  | .error e => (nilP, e)
  | .ok r => (r, 0)

/-! ### which errors there are -/
def Low (e : Int) : Prop := e ≠ 0 ∧ e ≠ 60 ∧ e ≠ 61
def Errs {α : Type} (a : Codec α) : Prop := ∀ (l : List UInt8) (p e : Int), a.get l p = .error e → Low e
def Tells (l : List UInt8) (e : Int) : Prop :=
  ((l.length : Int) < 2 → e = 10) ∧ (2 ≤ (l.length : Int) → known (kv l 0).1 (kv l 0).2 ≠ 0 → e = known (kv l 0).1 (kv l 0).2) ∧ (2 ≤ (l.length : Int) → known (kv l 0).1 (kv l 0).2 = 0 → e ≠ 60 ∧ e ≠ 61)
end Go.Proofs.YtlfbagkonckffaaGreat.Pro

/- The document's small functions of layer 6: known, ints, texts, in, short, little. -/
namespace Go.Proofs.YtlfbagkonckffaaGreat.Pro
open Go.RowKit Oct Lay

def allIn (l : List Int) (lo hi : Int) : Bool := l.all fun x => decide (lo ≤ x ∧ x ≤ hi)
def allShort (m : Nat) (l : List ByteArray) : Bool := l.all fun t => decide (t.size ≤ m)
def allRel {α : Type} (f : α → Bool) (l : List α) (n : Nat) (i : Value) : Prop := ∃ k : Nat, i = .int .i64 (k : Int) ∧ k ≤ n ∧ l.all f = (l.drop k).all f
end Go.Proofs.YtlfbagkonckffaaGreat.Pro

/- Slices of slices of bytes, and slices of numbers, as a law is handed them. Nothing of the program: P and the types' numbers are letters. -/
namespace Go.Proofs.YtlfbagkonckffaaGreat.RowL
open Go.RowKit Go.ChangeShapes Go.WideShapes Go.Deep Oct RowF Lay

section
variable {P : Program} {H : Type} {enc : TypeId × Value → H} {W : World} {base : Nat} {v : Value} {d : DataW H} {p : List MemPlace} {t e u : TypeId}
theorem weights_arg {ts : List TypeId} {ds : List (DataW H)} (h : (DataW.weightsEach P ts ds).all (· ≤ reachBytes) = true) {j : Nat} {t : TypeId} (ht : ts[j]? = some t) (hd : ds[j]? = some d) : ∀ z ∈ DataW.weights P t d, z ≤ reachBytes := by
  intro z hz
  simpa using List.all_eq_true.1 h z (DataW.weights_mem_each ht hd z hz)
end
end Go.Proofs.YtlfbagkonckffaaGreat.RowL

/- The plain mathematics of layer 6: spans, and what two sides agree on. Nothing of the program. -/
namespace Go.Proofs.YtlfbagkonckffaaGreat.Pro

structure Sp where
  kind : Int
  lo : Int
  hi : Int
deriving DecidableEq
def okS (p : Int) (s : Sp) : Bool := decide (p < s.kind ∧ s.kind ≤ 255 ∧ 0 ≤ s.lo ∧ s.lo ≤ s.hi ∧ s.hi ≤ 255)
def rt : Int → List Sp → Bool
  | _, [] => true
  | p, s :: l => okS p s && rt s.kind l
def right (l : List Sp) : Bool := rt (-1) l
def meet (x y : Sp) : Sp := ⟨x.kind, max x.lo y.lo, min x.hi y.hi⟩
def pairs (m t : List Sp) : List Sp := m.flatMap fun x => (t.filter fun y => decide (x.kind = y.kind)).map (meet x)
def wrongS (s : Sp) : Bool := decide (s.hi < s.lo)
def agr (m t : List Sp) : List Sp × Int :=
  if (right m && right t) = false then ([], 1) else if (pairs m t).any wrongS then ([], 61) else (pairs m t, 0)
end Go.Proofs.YtlfbagkonckffaaGreat.Pro

/- The document's comparisons of layer 6: Ints, Texts, SameSpans; little. -/
namespace Go.Proofs.YtlfbagkonckffaaGreat.Pro
open Go.RowKit Oct Lay

def eqRel {α : Type} (L M : List α) (n : Nat) (w : World) (i : Value) (wr : World) : Prop := ∃ k : Nat, i = .int .i64 (k : Int) ∧ k ≤ n ∧ L.take k = M.take k ∧ Below w.heap.size w wr
noncomputable def eqq {α : Type} (a b : α) : Bool := @decide (a = b) (Classical.propDecidable _)
end Go.Proofs.YtlfbagkonckffaaGreat.Pro

/- The landed proto's small functions: isWithin, isText, checkHead, areWithin, areTexts. -/
namespace Go.Proofs.YtlfbagkonckffaaGreat.Pro
open Go.RowKit Oct Lay

def wi (n a b : Int) : Bool := decide (a ≤ n ∧ n ≤ b)
def ixNot {α : Type} (f : α → Bool) (l : List α) : Int := match l.findIdx? (fun x => !f x) with | some i => (i : Int) | none => -1
end Go.Proofs.YtlfbagkonckffaaGreat.Pro

/- The package's table: what the walks ask of it. -/
namespace Go.Proofs.YtlfbagkonckffaaGreat.Pro
open Go.RowKit Oct

def shRow (i : Nat) : List Int := [nI i, nT i, mT i, mB i]
end Go.Proofs.YtlfbagkonckffaaGreat.Pro

/- The contract of the landed CheckReq. -/
namespace Go.Proofs.YtlfbagkonckffaaGreat.Pro
open Go.RowKit Oct Lay

theorem isEmpty_iff {s : ByteArray} : s.toList.isEmpty = true ↔ s.size = 0 := by
  rw [List.isEmpty_iff, Go.ByteArray.toList_eq]
  constructor
  · intro h
    have := congrArg List.length h
    rw [Array.length_toList] at this
    exact this
  · intro h
    exact List.eq_nil_of_length_eq_zero (by rw [Array.length_toList]; exact h)
end Go.Proofs.YtlfbagkonckffaaGreat.Pro

/- The contract of the landed checkResp. -/
namespace Go.Proofs.YtlfbagkonckffaaGreat.Pro
open Go.RowKit Oct Lay

end Go.Proofs.YtlfbagkonckffaaGreat.Pro

/- A reader that goes from field to field: its block, and what each step does, in one relation for the program's and the document's. Nothing of the program. -/
namespace Go.Proofs.YtlfbagkonckffaaGreat.Pro
open Go.RowKit Oct Rec Cod Lay RowF

def Rdr (T : TypeId) (W : World) (g : Nat) (sl : Value) (p e : Int) : Prop := W.heap[g]? = some (.cells #[sl, .int .i64 p, .int .i64 e] T (0, 0))
section
variable {T : TypeId} {W W' : World} {g : Nat} {sl : Value} {p e : Int}
theorem Rdr.lt (h : Rdr T W g sl p e) : g < W.heap.size := (Array.getElem?_eq_some_iff.1 h).1
theorem Rdr.c0 (h : Rdr T W g sl p e) : W.cell? ⟨g, 0, none⟩ = some sl := by simp [World.cell?, show W.heap[g]? = _ from h]
theorem Rdr.c1 (h : Rdr T W g sl p e) : W.cell? ⟨g, 1, none⟩ = some (.int .i64 p) := by simp [World.cell?, show W.heap[g]? = _ from h]
theorem Rdr.c2 (h : Rdr T W g sl p e) : W.cell? ⟨g, 2, none⟩ = some (.int .i64 e) := by simp [World.cell?, show W.heap[g]? = _ from h]
theorem Rdr.f (h : Rdr T W g sl p e) (i : Nat) : W.frozen? ⟨g, i, none⟩ = false := by simp [World.frozen?, show W.heap[g]? = _ from h]
theorem Rdr.drew (h : Rdr T W g sl p e) : Rdr T W.drew g sl p e := h
theorem heap_set {cs : Array Value} {fr : Nat × Nat} (h : W.heap[g]? = some (.cells cs T fr)) (i : Nat) (v : Value) : (W.setCell ⟨g, i, none⟩ v).heap[g]? = some (.cells (cs.setIfInBounds i v) T fr) := by
  obtain ⟨hlt, hk⟩ := Array.getElem?_eq_some_iff.1 h
  show (W.heap.modify g _)[g]? = _
  rw [Array.getElem?_eq_getElem (by rw [Array.size_modify]; exact hlt), Array.getElem_modify_self, hk]
  rfl
theorem Rdr.grown (h : Rdr T W g sl p e) {row : Option Nat} (hg : W.grownBy W' row) (hne : some g ≠ row) : Rdr T W' g sl p e := (hg.block g h.lt hne).trans h
theorem Rdr.below {B : Nat} (h : Rdr T W g sl p e) (hb : Below B W W') (hg : g < B) : Rdr T W' g sl p e := (hb.block g hg).trans h
end
theorem below_gb {B g : Nat} {a b c : World} (h : Below B a b) (hg : b.grownBy c (some g)) (hB : B ≤ b.heap.size) (hBg : B ≤ g) : Below B a c := h.grown hg hB fun k hk => by injection hk with hk; omega

/-! ### steps -/
def Steps {α : Type} (a : Codec α) (l : List UInt8) (p e : Int) (x : α) (q z : Int) : Prop :=
  (e ≠ 0 ∧ z = e) ∨ (e = 0 ∧ z ≠ 0 ∧ a.get l p = .error z) ∨ (e = 0 ∧ z = 0 ∧ a.get l p = .ok (x, q))
def At (n : Nat) (p e : Int) : Prop := 0 ≤ p ∧ p ≤ 1099511627776 ∧ (e = 0 → p ≤ n)
section
variable {α β : Type} {a : Codec α} {l : List UInt8} {p e q z q2 z2 : Int} {x : α} {y : β}
theorem Steps.keep (h : Steps a l p e x q z) (he : e ≠ 0) : z = e := by
  rcases h with h | h | h
  · exact h.2
  · exact absurd h.1 he
  · exact absurd h.1 he
theorem Steps.err (he : e ≠ 0) : Steps a l p e x q e := .inl ⟨he, rfl⟩
theorem Steps.was (h : Steps a l p e x q 0) : e = 0 := by
  rcases h with h | h | h
  · exact absurd h.2.symm h.1
  · exact h.1
  · exact h.1
theorem Steps.good (h : Steps a l p e x q 0) : a.get l p = .ok (x, q) := by
  rcases h with h | h | h
  · exact absurd h.2.symm h.1
  · exact absurd rfl h.2.1
  · exact h.2.2
theorem Steps.bad (h : Steps a l p 0 x q z) (hz : z ≠ 0) : a.get l p = .error z := by
  rcases h with h | h | h
  · exact absurd rfl h.1
  · exact h.2.2
  · exact absurd h.2.1 hz
theorem Steps.other (h : Steps a l p e x q z) (hz : z ≠ 0) {x' : α} {q' : Int} : Steps a l p e x' q' z := by
  rcases h with h | h | h
  · exact .inl h
  · exact .inr (.inl h)
  · exact absurd h.2.1 hz
theorem Steps.none : Steps (cnone x) l p e x p e := by
  by_cases he : e = 0
  · exact .inr (.inr ⟨he, he, rfl⟩)
  · exact .err he
theorem Steps.seq {b : α → Codec β} (h : Steps a l p e x q z) (h2 : z = 0 → Steps (b x) l q 0 y q2 z2) (h3 : z ≠ 0 → z2 = z) : Steps (cseq a b) l p e (x, y) q2 z2 := by
  by_cases he : e = 0
  · subst he
    by_cases hz : z = 0
    · subst hz
      have g1 := h.good
      have g2 := h2 rfl
      by_cases hz2 : z2 = 0
      · subst hz2
        exact .inr (.inr ⟨rfl, rfl, by rw [cseq_get, g1]; simp only; rw [g2.good]⟩)
      · exact .inr (.inl ⟨rfl, hz2, by rw [cseq_get, g1]; simp only; rw [g2.bad hz2]⟩)
    · have g1 := h.bad hz
      have g2 := h3 hz
      subst g2
      exact .inr (.inl ⟨rfl, hz, by rw [cseq_get, g1]⟩)
  · have g1 := h.keep he
    subst g1
    have g2 := h3 he
    subst g2
    exact .err he
theorem Steps.map {f : α → β} {g : β → α} {h1 : ∀ x, a.may x → g (f x) = x} {h2 : ∀ y, a.may (g y) → f (g y) = y} (h : Steps a l p e x q z) : Steps (cmap a f g h1 h2) l p e (f x) q z := by
  rcases h with h | h | h
  · exact .inl h
  · exact .inr (.inl ⟨h.1, h.2.1, by rw [cmap_get, h.2.2]⟩)
  · exact .inr (.inr ⟨h.1, h.2.1, by rw [cmap_get, h.2.2]⟩)
theorem Steps.that {chk : α → Int} (h : Steps a l p e x q z) (hz : z ≠ 0 → z2 = z) (h0 : z = 0 → chk x = z2) : Steps (cthat a chk) l p e x q z2 := by
  by_cases he : e = 0
  · subst he
    by_cases h1 : z = 0
    · subst h1
      have g := h.good
      have h2 := h0 rfl
      by_cases h3 : z2 = 0
      · subst h3
        exact .inr (.inr ⟨rfl, rfl, by show (match a.get l p with | .error e => Except.error e | .ok x => if chk x.1 = 0 then .ok x else .error (chk x.1)) = _; rw [g]; simp only; rw [if_pos h2]⟩)
      · exact .inr (.inl ⟨rfl, h3, by show (match a.get l p with | .error e => Except.error e | .ok x => if chk x.1 = 0 then .ok x else .error (chk x.1)) = _; rw [g]; simp only; rw [if_neg (by omega), h2]⟩)
    · have g := h.bad h1
      have h2 := hz h1
      subst h2
      exact .inr (.inl ⟨rfl, h1, by show (match a.get l p with | .error e => Except.error e | .ok x => if chk x.1 = 0 then .ok x else .error (chk x.1)) = _; rw [g]⟩)
  · have g1 := h.keep he
    subst g1
    have g2 := hz he
    subst g2
    exact .err he
theorem getMany_snoc (a : Codec α) (l : List UInt8) : ∀ (k : Nat) (p : Int), getMany a (k + 1) l p = match getMany a k l p with
    | .error e => .error e
    | .ok y => match a.get l y.2 with
      | .error e => .error e
      | .ok x => .ok (y.1 ++ [x.1], x.2)
  | 0, p => by
    simp only [getMany]
    cases a.get l p <;> rfl
  | k + 1, p => by
    have ih := getMany_snoc a l k
    have e1 : ∀ (k : Nat) (p : Int), getMany a (k + 1) l p = match a.get l p with | .error e => .error e | .ok x => match getMany a k l x.2 with | .error e => .error e | .ok y => .ok (x.1 :: y.1, y.2) := fun _ _ => rfl
    rw [e1 (k + 1) p, e1 k p]
    cases a.get l p with
    | error e => rfl
    | ok x =>
      simp only
      rw [ih x.2]
      cases getMany a k l x.2 with
      | error e => rfl
      | ok y =>
        simp only
        cases a.get l y.2 <;> rfl
theorem Steps.more {k m : Nat} {L M : List α} (h : Steps (cmany a k) l p e L q z) (hz : z ≠ 0) (hm : k ≤ m) : Steps (cmany a m) l p e M q2 z := by
  by_cases he : e = 0
  · subst he
    have g := h.bad hz
    refine .inr (.inl ⟨rfl, hz, ?_⟩)
    show getMany a m l p = _
    obtain ⟨d, rfl⟩ : ∃ d, m = k + d := ⟨m - k, by omega⟩
    clear hm
    induction d with
    | zero => exact g
    | succ d ih => rw [← Nat.add_assoc, getMany_snoc, ih]
  · have g1 := h.keep he
    subst g1
    exact .err he
theorem Steps.count {chk : Int → Int} {hchk : ∀ n, chk n = 0 → 0 ≤ n} {m : Int} {xs : List α} (h : Steps (cthat cvar chk) l p e m q z) (h2 : z = 0 → Steps (cmany a m.toNat) l q 0 xs q2 z2) (h3 : z ≠ 0 → z2 = z) : Steps (ccount a chk hchk) l p e xs q2 z2 :=
  Steps.map (f := fun w : Int × List α => w.2) (Steps.seq (y := xs) (b := fun n : Int => cmany a n.toNat) h h2 h3)
/-! what octet's calls do -/
end
/-! ### rows of numbers and of texts -/
def numc (x : Int) : List Value := [.int .i64 x]
def strc (x : ByteArray) : List Value := [.string x]
theorem nS : Shape numc 1 := ⟨fun _ => rfl, fun x u hu => by simp only [numc, List.mem_singleton] at hu; subst hu; rfl, by decide⟩
theorem gt_one_none {l : List UInt8} {p : Int} (hp : 0 ≤ p) (h : l[p.toNat]? = none) : gt l p 1 = (0, 10) := by
  have h1 : l.length ≤ p.toNat := by simpa using h
  unfold gt
  rw [if_neg (by simp [isW]; omega), if_pos (by simp [hasB]; omega)]
theorem gt_one_some {l : List UInt8} {p : Int} {c : UInt8} (hp : 0 ≤ p) (h : l[p.toNat]? = some c) : gt l p 1 = (c.toNat, 0) := by
  have h1 : p.toNat < l.length := (List.getElem?_eq_some_iff.1 h).1
  unfold gt
  rw [if_neg (by simp [isW]; omega), if_neg (by simp [hasB]; omega), drop_at h]
  show (getN [c], 0) = _
  rw [getN_cons, getN_nil]; simp
def stN (l : List UInt8) (p e : Int) : Int × Int × Int := if e ≠ 0 then (0, p, e) else gv l p
def NumR {α : Type} (a : Codec α) (mk : α → Value) (ok : α → Prop) (T : TypeId) (g : Nat) (sl : Value) (l : List UInt8) (n : Nat) (p e : Int) (w : World) (en : Ending) (w' : World) : Prop :=
  ∃ x q z, en = .returned (mk x) ∧ ok x ∧ Steps a l p e x q z ∧ At n q z ∧ Rdr T w' g sl q z ∧ w.grownBy w' (some g)
def mkI (x : Int) : Value := .int .i64 x
def mkS (x : ByteArray) : Value := .string x
def RowR {α : Type} (f : α → List Value) (ok : α → Prop) (a : Codec α) (many : Nat) (t T : TypeId) (g : Nat) (sl : Value) (l : List UInt8) (n : Nat) (p e : Int) (w : World) (en : Ending) (w' : World) : Prop :=
  ∃ A m c L q z, en = .returned (.slice A m c) ∧ m ≤ many ∧ OwnF f 1 w' t w.heap.size (.slice A m c) m L ∧ (∀ x ∈ L, ok x) ∧ Steps (cmany a many) l p e L q z ∧ At n q z ∧ Rdr T w' g sl q z ∧ w.grownBy w' (some g)
def rowRel {α : Type} (f : α → List Value) (ok : α → Prop) (a : Codec α) (many : Nat) (t T : TypeId) (g : Nat) (sl : Value) (l : List UInt8) (n : Nat) (p e : Int) (w : World) (vl vi : Value) (wr : World) : Prop :=
  ∃ (j : Nat) (A : Option Addr) (c : Nat) (L : List α) (q z : Int), vi = .int .i64 (j : Int) ∧ j ≤ many ∧ vl = .slice A j c ∧ OwnF f 1 wr t w.heap.size vl j L ∧ (∀ x ∈ L, ok x) ∧ Steps (cmany a j) l p e L q z ∧ At n q z ∧ Rdr T wr g sl q z ∧ w.grownBy wr (some g)
end Go.Proofs.YtlfbagkonckffaaGreat.Pro

/- The plain mathematics of layer 6: what another version changes of the bytes. Nothing of the program. -/
namespace Go.Proofs.YtlfbagkonckffaaGreat.Pro
open Oct Rec Cod

def tailQ (r : Rq) : List UInt8 := (intsC r.kind).put r.ints ++ ((textsC r.kind).put r.texts ++ (blobC r.kind).put r.blob)
def tailP (r : Rp) : List UInt8 := (ccount cvar (ckM 64) (ckM_pos 64)).put r.ints ++ ((ccount txt64 (ckM 16) (ckM_pos 16)).put r.texts ++ (cblob (ckM 4096) (ckM_pos 4096)).put r.blob)
theorem reqC_put (r : Rq) : reqC.put r = UInt8.ofNat r.kind.toNat :: UInt8.ofNat r.ver.toNat :: (vb (zz r.id) ++ ((whoC r.ver).put r.who ++ tailQ r)) := rfl
def atQ (r : Rq) (v : Int) : Rq := { r with who := ByteArray.empty, ver := v }
def atP (r : Rp) (v : Int) : Rp := { r with ver := v }
end Go.Proofs.YtlfbagkonckffaaGreat.Pro

/- The landed putHead, putNumbers, putTexts. -/
namespace Go.Proofs.YtlfbagkonckffaaGreat.Pro
open Go.RowKit Oct Rec Cod Lay RowF

def RD (w : World) (l : List UInt8) (en : Ending) (w' : World) : Prop :=
  ∃ A n c, en = .returned (.slice A n c) ∧ Rd w' w'.heap.size A n l ∧ n ≤ c ∧ Below w.heap.size w w'
theorem RD.of {e : TypeId} {w : World} {l : List UInt8} {en : Ending} {w' : World} (h : RB e w.heap.size w l en w') : RD w l en w' := by
  obtain ⟨A, n, c, h1, h2, h3⟩ := h
  exact ⟨A, n, c, h1, h2.rd, h2.cap, h3⟩
def ptRel {α : Type} (a : Codec α) (l : List UInt8) (L : List α) (n : Nat) (m : Nat) (w : World) (v i : Value) (wr : World) : Prop :=
  ∃ (j : Nat) (A : Option Addr) (k c : Nat), i = .int .i64 (j : Int) ∧ j ≤ n ∧ v = .slice A k c ∧ Rd wr wr.heap.size A k (l ++ putMany a (L.take j)) ∧ k ≤ c ∧ k ≤ l.length + m * j ∧ Below w.heap.size w wr
end Go.Proofs.YtlfbagkonckffaaGreat.Pro

/- The words for layer 6's walks: a request in its box. Nothing of the program. -/
namespace Go.Proofs.YtlfbagkonckffaaGreat.Pro
open Go.RowKit Oct Lay

def BoxQ (W : World) (g : Nat) (k v i : Int) (s : ByteArray) (a b c : Value) : Prop :=
  W.cell? ⟨g, 0, none⟩ = some (.int .i64 k) ∧ W.cell? ⟨g, 1, none⟩ = some (.int .i64 v) ∧ W.cell? ⟨g, 2, none⟩ = some (.int .i64 i) ∧ W.cell? ⟨g, 3, none⟩ = some (.string s) ∧ W.cell? ⟨g, 4, none⟩ = some a ∧ W.cell? ⟨g, 5, none⟩ = some b ∧ W.cell? ⟨g, 6, none⟩ = some c
theorem BoxQ_below {W W' : World} {g : Nat} {k v i : Int} {s : ByteArray} {a b c : Value} (h : BoxQ W g k v i s a b c) (hb : Below W.heap.size W W') (hg : g < W.heap.size) : BoxQ W' g k v i s a b c :=
  ⟨(hb.cell (p := ⟨g, 0, none⟩) hg).trans h.1, (hb.cell (p := ⟨g, 1, none⟩) hg).trans h.2.1, (hb.cell (p := ⟨g, 2, none⟩) hg).trans h.2.2.1, (hb.cell (p := ⟨g, 3, none⟩) hg).trans h.2.2.2.1, (hb.cell (p := ⟨g, 4, none⟩) hg).trans h.2.2.2.2.1, (hb.cell (p := ⟨g, 5, none⟩) hg).trans h.2.2.2.2.2.1, (hb.cell (p := ⟨g, 6, none⟩) hg).trans h.2.2.2.2.2.2⟩
theorem BoxQ.drew {W : World} {g : Nat} {k v i : Int} {s : ByteArray} {a b c : Value} (h : BoxQ W g k v i s a b c) : BoxQ W.drew g k v i s a b c := h
end Go.Proofs.YtlfbagkonckffaaGreat.Pro
