/- Joined: SqsMath, SqsRow. -/
import Derived.Test.YtllebgadhhgckaaDoorJ11
import Derived.Test.YtllebgadhhgckaaDoorProg
import Derived.Test.YtllebgadhhgckaaDoorJ02
import Derived.Test.YtllebgadhhgckaaDoorJ05
/- The plain mathematics of layer 11: producers. Nothing of the program. -/
namespace Go.Proofs.YtllebgadhhgckaaDoor.Sqs
open Oct Rec Crc Bat Seg

structure Dd where
  sq : Int
  la : Int
  ba : Int
deriving DecidableEq
structure Pd where
  pid : Int
  gen : Int
  did : List Dd
deriving DecidableEq
def ddOk (d : Dd) : Bool := decide ((0 ≤ d.sq ∧ d.sq ≤ d.la) ∧ d.la ≤ 1048576 ∧ 0 ≤ d.ba ∧ d.ba ≤ 1099511627776)
def nextD : Option Int → Dd → Bool
  | none, _ => true
  | some v, d => decide (d.sq = v + 1)
def chD : Option Int → List Dd → Bool
  | _, [] => true
  | o, d :: l => (ddOk d && nextD o d) && chD (some d.la) l
def didOk (l : List Dd) : Bool := chD none l && decide (l.length ≤ 5)
def prOk (v : Int) (p : Pd) : Bool := decide ((0 ≤ p.pid ∧ p.pid ≤ 1099511627776) ∧ (0 ≤ p.gen ∧ p.gen ≤ 1048576) ∧ v < p.pid) && didOk p.did
def chP : Int → List Pd → Bool
  | _, [] => true
  | v, p :: l => prOk v p && chP p.pid l
def ckP (l : List Pd) : Int := if 1024 < l.length then 2 else if chP (-1) l then 0 else 1
def findP (l : List Pd) (pid : Int) : Option Pd := l.find? fun p => decide (p.pid = pid)
def lastN (b : Bt) : Int := b.seq + b.last - b.base
def didB (b : Bt) : Dd := ⟨b.seq, lastN b, b.base⟩
def freshP (l : List Pd) (b : Bt) : Bool := match findP l b.pid with
  | none => true
  | some p => decide (p.gen < b.gen) || p.did.isEmpty
def seqP (d : List Dd) (b : Bt) : Int × Bool × Int := match d.find? fun x => decide (x.sq = b.seq ∧ x.la = lastN b) with
  | some x => (x.ba, true, 0)
  | none => match d.getLast? with
    | none => (0, false, 111)
    | some y => if b.seq = y.la + 1 then (0, false, 0) else (0, false, 111)
def lookP (l : List Pd) (b : Bt) : Int × Bool × Int :=
  if ckP l ≠ 0 then (0, false, ckP l) else if chB b ≠ 0 then (0, false, chB b) else if b.pid = -1 then (0, false, 0)
  else match findP l b.pid with
    | none => if b.ctl ≠ 0 then (0, false, 0) else if b.seq = 0 then (0, false, 0) else (0, false, 111)
    | some p => if b.gen < p.gen then (0, false, 110) else if b.ctl ≠ 0 then (0, false, 0) else if p.gen < b.gen ∨ p.did = [] then (if b.seq = 0 then (0, false, 0) else (0, false, 111)) else seqP p.did b
def withP : List Pd → Pd → List Pd
  | [], p => [p]
  | x :: l, p => if p.pid < x.pid then p :: x :: l else if x.pid = p.pid then p :: l else x :: withP l p
def five (l : List Dd) : List Dd := if 5 < l.length then l.drop 1 else l
def writtenP (l : List Pd) (b : Bt) : Pd :=
  ⟨b.pid, b.gen, five ((if freshP l b then [] else match findP l b.pid with | none => [] | some p => p.did) ++ if b.ctl = 0 then [didB b] else [])⟩
def fullP (l : List Pd) (b : Bt) : Bool := decide (b.pid ≠ -1 ∧ findP l b.pid = none ∧ 1024 ≤ l.length)
def putP (l : List Pd) (b : Bt) : List Pd × Int :=
  if (lookP l b).2.2 ≠ 0 then ([], (lookP l b).2.2) else if fullP l b then ([], 2) else if (lookP l b).2.1 = true ∨ b.pid = -1 then (l, 0) else (withP l (writtenP l b), 0)
def aboveP (l : List Pd) (b : Bt) : Bool := freshP l b || match findP l b.pid with
  | none => true
  | some p => match p.did.getLast? with
    | none => true
    | some y => decide (y.la < b.seq)
def ofP : List Pd → List Bt → List Pd
  | l, [] => l
  | l, b :: bs => ofP (if (putP l b).2 = 0 then (putP l b).1 else if (putP l b).2 = 111 ∧ aboveP l b = true ∧ fullP l b = false then withP l ⟨b.pid, b.gen, [didB b]⟩ else l) bs

theorem chP_cons {v : Int} {p : Pd} {l : List Pd} : chP v (p :: l) = true ↔ (((0 ≤ p.pid ∧ p.pid ≤ 1099511627776) ∧ (0 ≤ p.gen ∧ p.gen ≤ 1048576) ∧ v < p.pid) ∧ didOk p.did = true) ∧ chP p.pid l = true := by
  show (prOk v p && chP p.pid l) = true ↔ _
  unfold prOk
  rw [Bool.and_eq_true, Bool.and_eq_true, decide_eq_true_iff]
theorem chP_mem {v : Int} {l : List Pd} (h : chP v l = true) : ∀ p ∈ l, v < p.pid ∧ (0 ≤ p.pid ∧ p.pid ≤ 1099511627776) ∧ (0 ≤ p.gen ∧ p.gen ≤ 1048576) ∧ didOk p.did = true := by
  induction l generalizing v with
  | nil => simp
  | cons x l ih =>
    obtain ⟨⟨⟨h1, h2, h3⟩, h4⟩, h5⟩ := chP_cons.1 h
    intro p hp
    rcases List.mem_cons.1 hp with rfl | hp
    · exact ⟨h3, h1, h2, h4⟩
    · have h6 := ih h5 p hp
      exact ⟨by omega, h6.2⟩
theorem ckP_iff {l : List Pd} : ckP l = 0 ↔ l.length ≤ 1024 ∧ chP (-1) l = true := by
  unfold ckP
  by_cases h : 1024 < l.length
  · rw [if_pos h]
    constructor
    · intro h9; cases h9
    · intro h9; omega
  · rw [if_neg h]
    by_cases h2 : chP (-1) l = true
    · rw [if_pos h2]; exact ⟨fun _ => ⟨by omega, h2⟩, fun _ => rfl⟩
    · rw [if_neg h2]
      constructor
      · intro h9; cases h9
      · intro h9; exact absurd h9.2 h2
theorem findP_cons (x : Pd) (l : List Pd) (v : Int) : findP (x :: l) v = if x.pid = v then some x else findP l v := by
  unfold findP
  rw [List.find?_cons]
  by_cases h : x.pid = v
  · rw [decide_eq_true h, if_pos h]
  · rw [decide_eq_false h, if_neg h]
theorem findP_low {v : Int} {l : List Pd} (h : chP v l = true) {u : Int} (hu : u ≤ v) : findP l u = none := by
  unfold findP
  rw [List.find?_eq_none]
  intro p hp
  have := (chP_mem h p hp).1
  simp
  omega
theorem findP_some {l : List Pd} {v : Int} {p : Pd} (h : findP l v = some p) : p ∈ l ∧ p.pid = v := by
  unfold findP at h
  exact ⟨List.mem_of_find?_eq_some h, by simpa using List.find?_some h⟩
theorem with_ch {v : Int} {l : List Pd} {p : Pd} (h : chP v l = true) (hp : chP v [p] = true) : chP v (withP l p) = true := by
  induction l generalizing v with
  | nil => exact hp
  | cons x l ih =>
    obtain ⟨⟨⟨h1, h2, h3⟩, h4⟩, h5⟩ := chP_cons.1 h
    obtain ⟨⟨⟨p1, p2, p3⟩, p4⟩, _⟩ := chP_cons.1 hp
    unfold withP
    by_cases h6 : p.pid < x.pid
    · rw [if_pos h6]
      exact chP_cons.2 ⟨⟨⟨p1, p2, p3⟩, p4⟩, chP_cons.2 ⟨⟨⟨h1, h2, h6⟩, h4⟩, h5⟩⟩
    · rw [if_neg h6]
      by_cases h7 : x.pid = p.pid
      · rw [if_pos h7]
        exact chP_cons.2 ⟨⟨⟨p1, p2, p3⟩, p4⟩, by rw [← h7]; exact h5⟩
      · rw [if_neg h7]
        exact chP_cons.2 ⟨⟨⟨h1, h2, h3⟩, h4⟩, ih h5 (chP_cons.2 ⟨⟨⟨p1, p2, by omega⟩, p4⟩, rfl⟩)⟩
theorem with_find {v : Int} {l : List Pd} {p : Pd} (h : chP v l = true) : findP (withP l p) p.pid = some p := by
  induction l generalizing v with
  | nil => show findP [p] p.pid = _; rw [findP_cons, if_pos rfl]
  | cons x l ih =>
    obtain ⟨⟨⟨h1, h2, h3⟩, h4⟩, h5⟩ := chP_cons.1 h
    unfold withP
    by_cases h6 : p.pid < x.pid
    · rw [if_pos h6, findP_cons, if_pos rfl]
    · rw [if_neg h6]
      by_cases h7 : x.pid = p.pid
      · rw [if_pos h7, findP_cons, if_pos rfl]
      · rw [if_neg h7, findP_cons, if_neg h7, ih h5]
theorem with_others (l : List Pd) (p : Pd) : (withP l p).filter (fun x => decide (x.pid ≠ p.pid)) = l.filter (fun x => decide (x.pid ≠ p.pid)) := by
  induction l with
  | nil => show [p].filter _ = []; simp
  | cons x l ih =>
    unfold withP
    by_cases h6 : p.pid < x.pid
    · rw [if_pos h6, List.filter_cons_of_neg (by simp)]
    · rw [if_neg h6]
      by_cases h7 : x.pid = p.pid
      · rw [if_pos h7, List.filter_cons_of_neg (by simp), List.filter_cons_of_neg (by simp [h7])]
      · rw [if_neg h7, List.filter_cons_of_pos (by simp [h7]), List.filter_cons_of_pos (by simp [h7]), ih]
theorem with_len (l : List Pd) (p : Pd) : (withP l p).length ≤ l.length + 1 := by
  induction l with
  | nil => exact Nat.le_refl _
  | cons x l ih =>
    unfold withP
    split
    · simp
    · split
      · simp
      · simp only [List.length_cons]; omega
theorem with_len2 {v : Int} {l : List Pd} {p q : Pd} (h : chP v l = true) (hf : findP l p.pid = some q) : (withP l p).length = l.length := by
  induction l generalizing v with
  | nil => cases hf
  | cons x l ih =>
    obtain ⟨⟨⟨h1, h2, h3⟩, h4⟩, h5⟩ := chP_cons.1 h
    unfold withP
    rw [findP_cons] at hf
    by_cases h7 : x.pid = p.pid
    · rw [if_neg (by omega), if_pos h7]; rfl
    · rw [if_neg h7] at hf
      have h8 := (chP_mem h5 q (findP_some hf).1).1
      have h9 := (findP_some hf).2
      rw [if_neg (by omega), if_neg h7, List.length_cons, ih h5 hf, List.length_cons]
theorem chD_snoc {o : Option Int} {l : List Dd} {d : Dd} : chD o (l ++ [d]) = true ↔ chD o l = true ∧ ddOk d = true ∧ nextD (match l.getLast? with | none => o | some y => some y.la) d = true := by
  induction l generalizing o with
  | nil =>
    show ((ddOk d && nextD o d) && true) = true ↔ _
    rw [Bool.and_true, Bool.and_eq_true]
    simp [chD]
  | cons x l ih =>
    show ((ddOk x && nextD o x) && chD (some x.la) (l ++ [d])) = true ↔ ((ddOk x && nextD o x) && chD (some x.la) l) = true ∧ _
    rw [Bool.and_eq_true, ih, Bool.and_eq_true, and_assoc]
    cases l with
    | nil =>
      show _ ↔ ((ddOk x && nextD o x) && chD (some x.la) []) = true ∧ ddOk d = true ∧ nextD (some x.la) d = true
      rw [Bool.and_eq_true, Bool.and_eq_true, and_assoc, and_assoc]
      rfl
    | cons y l => rw [List.getLast?_cons_cons]; cases h : (y :: l).getLast? with
      | none => exact absurd (List.getLast?_eq_none_iff.1 h) (by simp)
      | some z => simp only [Bool.and_eq_true, and_assoc]
theorem chD_tail {o : Option Int} {d : Dd} {l : List Dd} (h : chD o (d :: l) = true) : chD none l = true := by
  have h1 : chD (some d.la) l = true := by
    have h2 : ((ddOk d && nextD o d) && chD (some d.la) l) = true := h
    exact (Bool.and_eq_true _ _ ▸ h2 : _ ∧ _).2
  cases l with
  | nil => rfl
  | cons x l =>
    have h2 : ((ddOk x && nextD (some d.la) x) && chD (some x.la) l) = true := h1
    show ((ddOk x && true) && chD (some x.la) l) = true
    rw [Bool.and_eq_true, Bool.and_eq_true] at h2
    rw [h2.1.1, h2.2]
    rfl
end Go.Proofs.YtllebgadhhgckaaDoor.Sqs

/- Producers in memory, and as a law is handed them. -/
namespace Go.Proofs.YtllebgadhhgckaaDoor.Sqs
open Go.RowKit Go.ChangeShapes Go.WideShapes Go.Deep Oct Lay RowF RowK

def didC (x : Dd) : List Value := [.int .i64 x.sq, .int .i64 x.la, .int .i64 x.ba]
theorem didS : Shape didC 3 := ⟨fun _ => rfl, fun x u hu => by simp only [didC, List.mem_cons, List.not_mem_nil, or_false] at hu; rcases hu with rfl | rfl | rfl <;> rfl, by decide⟩
abbrev RdD (w : World) (B : Nat) (A : Option Addr) (n : Nat) (l : List Dd) : Prop := RdF didC 3 w B A n l
abbrev OwnD (w : World) (B : Nat) (v : Value) (n : Nat) (l : List Dd) : Prop := OwnF didC 3 w 58 B v n l
def prC (x : Pd × Option Addr × Nat × Nat) : List Value := [.int .i64 x.1.pid, .int .i64 x.1.gen, .slice x.2.1 x.2.2.1 x.2.2.2]
theorem prS : Shape prC 3 := ⟨fun _ => rfl, fun x u hu => by simp only [prC, List.mem_cons, List.not_mem_nil, or_false] at hu; rcases hu with rfl | rfl | rfl <;> rfl, by decide⟩
def prT : Two Pd Dd := ⟨Pd.did, prC, 3, didC, 3, reach, prS, didS⟩
abbrev RdP (w : World) (B : Nat) (A : Option Addr) (n : Nat) (l : List Pd) : Prop := RdK prT w B A n l
abbrev OwnP (w : World) (R : Nat → Prop) (B : Nat) (v : Value) (n : Nat) (l : List Pd) : Prop := OwnK prT w 55 R B v n l
theorem didInfo : Info Tryd.prog 58 3 24 := by
  have h : (Tryd.prog.info? 58).map (fun i => (i.zero, i.size, i.bytes)) = some (some (.agg #[.int .i64 0, .int .i64 0, .int .i64 0]), 3, 24) := by kernel_rfl
  obtain ⟨i, hi, hz, hs, hb⟩ := info_parts h
  exact ⟨i, _, hi, hz, hs, hb, rfl⟩
theorem prInfo : Info Tryd.prog 55 3 40 := by
  have h : (Tryd.prog.info? 55).map (fun i => (i.zero, i.size, i.bytes)) = some (some (.agg #[.int .i64 0, .int .i64 0, .slice none 0 0]), 3, 40) := by kernel_rfl
  obtain ⟨i, hi, hz, hs, hb⟩ := info_parts h
  exact ⟨i, _, hi, hz, hs, hb, rfl⟩
theorem did_at {w : World} {B n k : Nat} {A : Option Addr} {l : List Dd} (h : RdD w B A n l) (hk : k < n) : ∃ b o x, A = some ⟨b, o, none⟩ ∧ b < B ∧ l[k]? = some x ∧ w.cell? ⟨b, o + k * 3, none⟩ = some (.int .i64 x.sq) ∧ w.cell? ⟨b, o + k * 3 + 1, none⟩ = some (.int .i64 x.la) ∧ w.cell? ⟨b, o + k * 3 + 2, none⟩ = some (.int .i64 x.ba) := by
  obtain ⟨b, o, x, hA, hb, hx, hc⟩ := h.at hk
  exact ⟨b, o, x, hA, hb, hx, hc 0 _ rfl, hc 1 _ rfl, hc 2 _ rfl⟩
theorem pr_at {w : World} {B n k : Nat} {A : Option Addr} {l : List Pd} (h : RdP w B A n l) (hk : k < n) : ∃ b o x A' n' c', A = some ⟨b, o, none⟩ ∧ b < B ∧ l[k]? = some x ∧ n' ≤ c' ∧ n' ≤ reach ∧ RdD w B A' n' x.did ∧ w.cell? ⟨b, o + k * 3, none⟩ = some (.int .i64 x.pid) ∧ w.cell? ⟨b, o + k * 3 + 1, none⟩ = some (.int .i64 x.gen) ∧ w.cell? ⟨b, o + k * 3 + 2, none⟩ = some (.slice A' n' c') := by
  obtain ⟨b, o, x, A', n', c', hA, hb, hx, h1, h2, h3, hc⟩ := h.at hk
  exact ⟨b, o, x, A', n', c', hA, hb, hx, h1, h2, h3, hc 0 _ rfl, hc 1 _ rfl, hc 2 _ rfl⟩
instance : Lay Dd where
  sz := 3
  pos := by decide
  is _ _ cs d := cs = didC d
  len h := by rw [h]; rfl
  keep h _ := h
  more h _ := h
instance : Lay Pd where
  sz := 3
  pos := by decide
  is w B cs p := ∃ A n c, cs = [.int .i64 p.pid, .int .i64 p.gen, .slice A n c] ∧ n ≤ c ∧ c ≤ reach ∧ RdL w B A n p.did
  len h := by obtain ⟨A, n, c, h, _⟩ := h; rw [h]; rfl
  keep h hk := by obtain ⟨A, n, c, h, hc, hr, hl⟩ := h; exact ⟨A, n, c, h, hc, hr, hl.keep hk⟩
  more h hB := by obtain ⟨A, n, c, h, hc, hr, hl⟩ := h; exact ⟨A, n, c, h, hc, hr, hl.more hB⟩
theorem rdD_of {w : World} {B n : Nat} {A : Option Addr} {l : List Dd} (h : RdL w B A n l) : RdD w B A n l :=
  ⟨h.1, fun k x hx => by
    obtain ⟨b, o, cs, hA, hb, his, hc⟩ := h.2 k x hx
    obtain rfl : cs = didC x := his
    exact ⟨b, o, hA, hb, fun i v hv => hc i v hv⟩⟩
theorem rdP_of {w : World} {B n : Nat} {A : Option Addr} {l : List Pd} (h : RdL w B A n l) : RdP w B A n l :=
  ⟨h.1, fun k x hx => by
    obtain ⟨b, o, cs, hA, hb, his, hc⟩ := h.2 k x hx
    obtain ⟨A', n', c', rfl, h1, h2, h3⟩ := his
    exact ⟨b, o, A', n', c', hA, hb, h1, Nat.le_trans h1 h2, rdD_of h3, fun i v hv => hc i v hv⟩⟩
theorem opens_did : Opens Tryd.prog 58 Dd := by
  intro H enc w fuel cs d pl h hl hz
  obtain ⟨n, hat⟩ := opens_fields Tryd.underlying58 (by kernel_rfl) h hz hl
  obtain ⟨u0, d0, p0, c0, t0, z0⟩ := hat 0 _ rfl
  obtain ⟨u1, d1, p1, c1, t1, z1⟩ := hat 1 _ rfl
  obtain ⟨u2, d2, p2, c2, t2, z2⟩ := hat 2 _ rfl
  obtain ⟨x0, rfl, _⟩ := opens_int Tryd.underlying3 H enc w n u0 d0 p0 t0 z0
  obtain ⟨x1, rfl, _⟩ := opens_int Tryd.underlying3 H enc w n u1 d1 p1 t1 z1
  obtain ⟨x2, rfl, _⟩ := opens_int Tryd.underlying3 H enc w n u2 d2 p2 t2 z2
  match cs, hl with
  | [_, _, _], _ =>
    simp only [List.getElem?_cons_zero, List.getElem?_cons_succ, Option.some.injEq] at c0 c1 c2
    exact ⟨⟨x0, x1, x2⟩, by rw [c0, c1, c2]; rfl⟩
theorem opens_dids : Opens1 Tryd.prog 53 (List Dd) := opens_slice Tryd.underlying53 (by kernel_rfl) (of_decide_eq_true (by kernel_rfl)) opens_did
theorem opens_prod : Opens Tryd.prog 55 Pd := by
  intro H enc w fuel cs d pl h hl hz
  obtain ⟨n, hat⟩ := opens_fields Tryd.underlying55 (by kernel_rfl) h hz hl
  obtain ⟨u0, d0, p0, c0, t0, z0⟩ := hat 0 _ rfl
  obtain ⟨u1, d1, p1, c1, t1, z1⟩ := hat 1 _ rfl
  obtain ⟨u2, d2, p2, c2, t2, z2⟩ := hat 2 _ rfl
  obtain ⟨x0, rfl, _⟩ := opens_int Tryd.underlying3 H enc w n u0 d0 p0 t0 z0
  obtain ⟨x1, rfl, _⟩ := opens_int Tryd.underlying3 H enc w n u1 d1 p1 t1 z1
  obtain ⟨x2, A, m, c, rfl, hc, hr, hR⟩ := opens_dids H enc w n u2 d2 p2 t2 z2
  match cs, hl with
  | [_, _, _], _ =>
    simp only [List.getElem?_cons_zero, List.getElem?_cons_succ, Option.some.injEq] at c0 c1 c2
    exact ⟨⟨x0, x1, x2⟩, A, m, c, by rw [c0, c1, c2], hc, hr, hR⟩
section
variable {H : Type} {enc : TypeId × Value → H} {W : World} {base : Nat} {v : Value} {d : DataW H} {p : List MemPlace}
set_option maxRecDepth 100000 in
theorem open_prods (hv : Value.okWide Tryd.prog W .any base 22 v) (h : DataW.Trod enc Tryd.prog W 0 (fun _ => true) true 22 v d p) (hz : ∀ z ∈ DataW.weights Tryd.prog 22 d, z ≤ reachBytes) :
    ∃ (A : Option Addr) (n c : Nat) (l : List Pd), v = .slice A n c ∧ n ≤ c ∧ c ≤ reach ∧ RdP W W.heap.size A n l := by
  obtain ⟨A, n, c, rfl⟩ := okWide_slice Tryd.underlying22 hv
  obtain ⟨fuel, hf⟩ := h
  obtain ⟨l, A', n', c', e, hc, hr, hR⟩ := opens_slice (α := Pd) Tryd.underlying22 (by kernel_rfl) (of_decide_eq_true (by kernel_rfl)) opens_prod H enc W fuel _ d p hf hz
  exact ⟨A', n', c', l, e, hc, hr, rdP_of hR⟩
end
end Go.Proofs.YtllebgadhhgckaaDoor.Sqs
