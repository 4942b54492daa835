/- Joined: SqsRow, EpoMath, EpoRow. -/
import Derived.Test.YtllebgadhhgckaaDoorProg
import Derived.Test.YtllebgadhhgckaaDoorJ02
import Derived.Test.YtllebgadhhgckaaDoorJ04
import Derived.Test.YtllebgadhhgckaaDoorJ10
import Derived.Test.YtllebgadhhgckaaDoorJ05
import Derived.Test.YtllebgadhhgckaaDoorJ03
/- Producers in memory, and as a law is handed them. -/
namespace Go.Proofs.YtllebgadhhgckaaDoor.Sqs
open Go.RowKit Go.ChangeShapes Go.WideShapes Go.Deep Oct Lay RowF RowK

def didC (x : Dd) : List Value := [.int .i64 x.sq, .int .i64 x.la, .int .i64 x.ba]
theorem didS : Shape didC 3 := ⟨fun _ => rfl, fun x u hu => by simp only [didC, List.mem_cons, List.not_mem_nil, or_false] at hu; rcases hu with rfl | rfl | rfl <;> rfl, by decide⟩
abbrev RdD (w : World) (B : Nat) (A : Option Addr) (n : Nat) (l : List Dd) : Prop := RdF didC 3 w B A n l
abbrev OwnD (w : World) (B : Nat) (v : Value) (n : Nat) (l : List Dd) : Prop := OwnF didC 3 w 58 B v n l
def prC (x : Pd × Option Addr × Nat × Nat) : List Value := [.int .i64 x.1.pid, .int .i64 x.1.gen, .slice x.2.1 x.2.2.1 x.2.2.2]
theorem prS : Shape prC 3 := ⟨fun _ => rfl, fun x u hu => by simp only [prC, List.mem_cons, List.not_mem_nil, or_false] at hu; rcases hu with rfl | rfl | rfl <;> rfl, by decide⟩
def prT : Two Pd Dd := ⟨Pd.did, prC, 3, didC, 3, reach, prS, didS⟩
abbrev RdP (w : World) (B : Nat) (A : Option Addr) (n : Nat) (l : List Pd) : Prop := RdK prT w B A n l
abbrev OwnP (w : World) (R : Nat → Prop) (B : Nat) (v : Value) (n : Nat) (l : List Pd) : Prop := OwnK prT w 55 R B v n l
theorem didInfo : Info Tryd.prog 58 3 24 := by
  have h : (Tryd.prog.info? 58).map (fun i => (i.zero, i.size, i.bytes)) = some (some (.agg #[.int .i64 0, .int .i64 0, .int .i64 0]), 3, 24) := by kernel_rfl
  obtain ⟨i, hi, hz, hs, hb⟩ := info_parts h
  exact ⟨i, _, hi, hz, hs, hb, rfl⟩
theorem prInfo : Info Tryd.prog 55 3 40 := by
  have h : (Tryd.prog.info? 55).map (fun i => (i.zero, i.size, i.bytes)) = some (some (.agg #[.int .i64 0, .int .i64 0, .slice none 0 0]), 3, 40) := by kernel_rfl
  obtain ⟨i, hi, hz, hs, hb⟩ := info_parts h
  exact ⟨i, _, hi, hz, hs, hb, rfl⟩
theorem did_at {w : World} {B n k : Nat} {A : Option Addr} {l : List Dd} (h : RdD w B A n l) (hk : k < n) : ∃ b o x, A = some ⟨b, o, none⟩ ∧ b < B ∧ l[k]? = some x ∧ w.cell? ⟨b, o + k * 3, none⟩ = some (.int .i64 x.sq) ∧ w.cell? ⟨b, o + k * 3 + 1, none⟩ = some (.int .i64 x.la) ∧ w.cell? ⟨b, o + k * 3 + 2, none⟩ = some (.int .i64 x.ba) := by
  obtain ⟨b, o, x, hA, hb, hx, hc⟩ := h.at hk
  exact ⟨b, o, x, hA, hb, hx, hc 0 _ rfl, hc 1 _ rfl, hc 2 _ rfl⟩
theorem pr_at {w : World} {B n k : Nat} {A : Option Addr} {l : List Pd} (h : RdP w B A n l) (hk : k < n) : ∃ b o x A' n' c', A = some ⟨b, o, none⟩ ∧ b < B ∧ l[k]? = some x ∧ n' ≤ c' ∧ n' ≤ reach ∧ RdD w B A' n' x.did ∧ w.cell? ⟨b, o + k * 3, none⟩ = some (.int .i64 x.pid) ∧ w.cell? ⟨b, o + k * 3 + 1, none⟩ = some (.int .i64 x.gen) ∧ w.cell? ⟨b, o + k * 3 + 2, none⟩ = some (.slice A' n' c') := by
  obtain ⟨b, o, x, A', n', c', hA, hb, hx, h1, h2, h3, hc⟩ := h.at hk
  exact ⟨b, o, x, A', n', c', hA, hb, hx, h1, h2, h3, hc 0 _ rfl, hc 1 _ rfl, hc 2 _ rfl⟩
instance : Lay Dd where
  sz := 3
  pos := by decide
  is _ _ cs d := cs = didC d
  len h := by rw [h]; rfl
  keep h _ := h
  more h _ := h
instance : Lay Pd where
  sz := 3
  pos := by decide
  is w B cs p := ∃ A n c, cs = [.int .i64 p.pid, .int .i64 p.gen, .slice A n c] ∧ n ≤ c ∧ c ≤ reach ∧ RdL w B A n p.did
  len h := by obtain ⟨A, n, c, h, _⟩ := h; rw [h]; rfl
  keep h hk := by obtain ⟨A, n, c, h, hc, hr, hl⟩ := h; exact ⟨A, n, c, h, hc, hr, hl.keep hk⟩
  more h hB := by obtain ⟨A, n, c, h, hc, hr, hl⟩ := h; exact ⟨A, n, c, h, hc, hr, hl.more hB⟩
theorem rdD_of {w : World} {B n : Nat} {A : Option Addr} {l : List Dd} (h : RdL w B A n l) : RdD w B A n l :=
  ⟨h.1, fun k x hx => by
    obtain ⟨b, o, cs, hA, hb, his, hc⟩ := h.2 k x hx
    obtain rfl : cs = didC x := his
    exact ⟨b, o, hA, hb, fun i v hv => hc i v hv⟩⟩
theorem rdP_of {w : World} {B n : Nat} {A : Option Addr} {l : List Pd} (h : RdL w B A n l) : RdP w B A n l :=
  ⟨h.1, fun k x hx => by
    obtain ⟨b, o, cs, hA, hb, his, hc⟩ := h.2 k x hx
    obtain ⟨A', n', c', rfl, h1, h2, h3⟩ := his
    exact ⟨b, o, A', n', c', hA, hb, h1, Nat.le_trans h1 h2, rdD_of h3, fun i v hv => hc i v hv⟩⟩
theorem opens_did : Opens Tryd.prog 58 Dd := by
  intro H enc w fuel cs d pl h hl hz
  obtain ⟨n, hat⟩ := opens_fields Tryd.underlying58 (by kernel_rfl) h hz hl
  obtain ⟨u0, d0, p0, c0, t0, z0⟩ := hat 0 _ rfl
  obtain ⟨u1, d1, p1, c1, t1, z1⟩ := hat 1 _ rfl
  obtain ⟨u2, d2, p2, c2, t2, z2⟩ := hat 2 _ rfl
  obtain ⟨x0, rfl, _⟩ := opens_int Tryd.underlying3 H enc w n u0 d0 p0 t0 z0
  obtain ⟨x1, rfl, _⟩ := opens_int Tryd.underlying3 H enc w n u1 d1 p1 t1 z1
  obtain ⟨x2, rfl, _⟩ := opens_int Tryd.underlying3 H enc w n u2 d2 p2 t2 z2
  match cs, hl with
  | [_, _, _], _ =>
    simp only [List.getElem?_cons_zero, List.getElem?_cons_succ, Option.some.injEq] at c0 c1 c2
    exact ⟨⟨x0, x1, x2⟩, by rw [c0, c1, c2]; rfl⟩
theorem opens_dids : Opens1 Tryd.prog 53 (List Dd) := opens_slice Tryd.underlying53 (by kernel_rfl) (of_decide_eq_true (by kernel_rfl)) opens_did
theorem opens_prod : Opens Tryd.prog 55 Pd := by
  intro H enc w fuel cs d pl h hl hz
  obtain ⟨n, hat⟩ := opens_fields Tryd.underlying55 (by kernel_rfl) h hz hl
  obtain ⟨u0, d0, p0, c0, t0, z0⟩ := hat 0 _ rfl
  obtain ⟨u1, d1, p1, c1, t1, z1⟩ := hat 1 _ rfl
  obtain ⟨u2, d2, p2, c2, t2, z2⟩ := hat 2 _ rfl
  obtain ⟨x0, rfl, _⟩ := opens_int Tryd.underlying3 H enc w n u0 d0 p0 t0 z0
  obtain ⟨x1, rfl, _⟩ := opens_int Tryd.underlying3 H enc w n u1 d1 p1 t1 z1
  obtain ⟨x2, A, m, c, rfl, hc, hr, hR⟩ := opens_dids H enc w n u2 d2 p2 t2 z2
  match cs, hl with
  | [_, _, _], _ =>
    simp only [List.getElem?_cons_zero, List.getElem?_cons_succ, Option.some.injEq] at c0 c1 c2
    exact ⟨⟨x0, x1, x2⟩, A, m, c, by rw [c0, c1, c2], hc, hr, hR⟩
section
variable {H : Type} {enc : TypeId × Value → H} {W : World} {base : Nat} {v : Value} {d : DataW H} {p : List MemPlace}
set_option maxRecDepth 100000 in
theorem open_prods (hv : Value.okWide Tryd.prog W .any base 22 v) (h : DataW.Trod enc Tryd.prog W 0 (fun _ => true) true 22 v d p) (hz : ∀ z ∈ DataW.weights Tryd.prog 22 d, z ≤ reachBytes) :
    ∃ (A : Option Addr) (n c : Nat) (l : List Pd), v = .slice A n c ∧ n ≤ c ∧ c ≤ reach ∧ RdP W W.heap.size A n l := by
  obtain ⟨A, n, c, rfl⟩ := okWide_slice Tryd.underlying22 hv
  obtain ⟨fuel, hf⟩ := h
  obtain ⟨l, A', n', c', e, hc, hr, hR⟩ := opens_slice (α := Pd) Tryd.underlying22 (by kernel_rfl) (of_decide_eq_true (by kernel_rfl)) opens_prod H enc W fuel _ d p hf hz
  exact ⟨A', n', c', l, e, hc, hr, rdP_of hR⟩
end
end Go.Proofs.YtllebgadhhgckaaDoor.Sqs

/- The plain mathematics of layer 10: epochs. Nothing of the program. -/
namespace Go.Proofs.YtllebgadhhgckaaDoor.Epo

structure Ep where
  ep : Int
  st : Int
deriving DecidableEq
def upE : Int → Int → List Ep → Bool
  | _, _, [] => true
  | e, s, x :: l => decide (e < x.ep ∧ x.ep ≤ 1048576 ∧ s < x.st ∧ x.st ≤ 1099511627776) && upE x.ep x.st l
def okE (l : List Ep) : Bool := upE (-1) (-1) l
def ckE (l : List Ep) : Int := if okE l then 0 else 1
theorem upE_cons {e s : Int} {x : Ep} {l : List Ep} : upE e s (x :: l) = true ↔ (e < x.ep ∧ x.ep ≤ 1048576 ∧ s < x.st ∧ x.st ≤ 1099511627776) ∧ upE x.ep x.st l = true := by
  unfold upE
  rw [Bool.and_eq_true, decide_eq_true_eq]
  cases l <;> rfl
theorem upE_mem {e s : Int} {l : List Ep} (h : upE e s l = true) : ∀ x ∈ l, e < x.ep ∧ x.ep ≤ 1048576 ∧ s < x.st ∧ x.st ≤ 1099511627776 := by
  induction l generalizing e s with
  | nil => simp
  | cons y l ih =>
    obtain ⟨h1, h2⟩ := upE_cons.1 h
    intro x hx
    rcases List.mem_cons.1 hx with rfl | hx
    · exact h1
    · have := ih h2 x hx; omega
theorem upE_at {e s : Int} {l : List Ep} (h : upE e s l = true) {i j : Nat} {x y : Ep} (hij : i < j) (hx : l[i]? = some x) (hy : l[j]? = some y) : x.ep < y.ep ∧ x.st < y.st := by
  induction l generalizing e s i j with
  | nil => simp at hx
  | cons z l ih =>
    obtain ⟨h1, h2⟩ := upE_cons.1 h
    cases j with
    | zero => omega
    | succ j =>
      have hy' : l[j]? = some y := by simpa using hy
      cases i with
      | zero =>
        obtain rfl : z = x := by simpa using hx
        have := upE_mem h2 y (List.mem_of_getElem? hy')
        omega
      | succ i => exact ih h2 (i := i) (j := j) (by omega) (by simpa using hx) hy'
theorem upE_one {e s : Int} {l : List Ep} (h : upE e s l = true) {i j : Nat} {x y : Ep} (hx : l[i]? = some x) (hy : l[j]? = some y) (he : x.ep = y.ep) : i = j := by
  rcases Nat.lt_trichotomy i j with hh | hh | hh
  · have := (upE_at h hh hx hy).1; omega
  · exact hh
  · have := (upE_at h hh hy hx).1; omega
def putE (l : List Ep) (n s : Int) : List Ep × Int :=
  if okE l = false ∨ (n < 0 ∨ 1048576 < n) ∨ (s < 0 ∨ 1099511627776 < s) then ([], 1)
  else match l.getLast? with
    | none => ([⟨n, s⟩], 0)
    | some x => if n < x.ep then ([], 100) else if n = x.ep then (l, 0) else if s < x.st then ([], 71) else if s = x.st then (l.dropLast ++ [⟨n, s⟩], 0) else (l ++ [⟨n, s⟩], 0)
def nx (l : List Ep) (last : Int) : Int := match l with
  | [] => last
  | x :: _ => x.st
def endO (n last : Int) : List Ep → Int × Int → Int × Int
  | [], a => a
  | x :: l, a => endO n last l (if x.ep ≤ n then (x.ep, nx l last) else a)
def endOf (l : List Ep) (n last : Int) : Int × Int := if okE l then endO n last l (-1, 0) else (-1, 0)
def cutE (l : List Ep) (off : Int) : List Ep := if okE l then l.filter fun x => decide (x.st < off) else []
def trimF (s : Int) : List Ep → List Ep
  | [] => []
  | x :: l => if l = [] ∨ s < nx l 0 then ⟨x.ep, max x.st s⟩ :: trimF s l else trimF s l
def trimE (l : List Ep) (s : Int) : List Ep := if okE l = true ∧ 0 ≤ s ∧ s ≤ 1099511627776 then trimF s l else []
def meetG (n ea bEnd : Int) : List Ep → Int → Int
  | [], m => m
  | y :: b, m => meetG n ea bEnd b (if n = y.ep then min ea (nx b bEnd) else m)
def meetF (aEnd : Int) (b : List Ep) (bEnd : Int) : List Ep → Int → Int
  | [], m => m
  | x :: a, m => meetF aEnd b bEnd a (meetG x.ep (nx a aEnd) bEnd b m)
def meetE (a : List Ep) (aEnd : Int) (b : List Ep) (bEnd : Int) : Int := if okE a = true ∧ okE b = true then meetF aEnd b bEnd a 0 else 0
def ofE : List Ep → List (Int × Int) → List Ep
  | l, [] => l
  | l, p :: ps => ofE (if (putE l p.1 p.2).2 = 0 then (putE l p.1 p.2).1 else l) ps

theorem trimF_mem {e s0 s : Int} {l : List Ep} (h : upE e s0 l = true) : ∀ x ∈ trimF s l, s ≤ x.st ∧ s0 < x.st ∧ e < x.ep := by
  induction l generalizing e s0 with
  | nil => simp [trimF]
  | cons y l ih =>
    obtain ⟨h1, h2⟩ := upE_cons.1 h
    intro x hx
    unfold trimF at hx
    by_cases hc : l = [] ∨ s < nx l 0
    · rw [if_pos hc] at hx
      rcases List.mem_cons.1 hx with rfl | hx
      · exact ⟨by simp only; omega, by simp only; omega, h1.1⟩
      · have := ih h2 x hx; omega
    · rw [if_neg hc] at hx
      have := ih h2 x hx; omega
theorem gone {e s0 s off : Int} {l : List Ep} (h : upE e s0 l = true) (ho : s < off) : (trimF s l).filter (fun x => decide (x.st < off)) = trimF s (l.filter fun x => decide (x.st < off)) := by
  induction l generalizing e s0 with
  | nil => rfl
  | cons x l ih =>
    obtain ⟨h1, h2⟩ := upE_cons.1 h
    have i := ih h2
    have hnone : off ≤ x.st → ∀ m : List Ep, (∀ y ∈ m, x.st ≤ y.st) → m.filter (fun x => decide (x.st < off)) = [] := by
      intro hx m hm
      rw [List.filter_eq_nil_iff]
      intro y hy hd
      have := hm y hy
      have := of_decide_eq_true hd
      omega
    by_cases hx : x.st < off
    case neg =>
      rw [hnone (by omega) (x :: l) (fun y hy => by
        rcases List.mem_cons.1 hy with rfl | hy
        · exact Int.le_refl _
        · have := upE_mem h2 y hy; omega)]
      rw [hnone (by omega) _ (fun y hy => by
        have := trimF_mem (e := e) (s0 := x.st - 1) (s := s) (l := x :: l) (upE_cons.2 ⟨by omega, h2⟩) y hy
        omega)]
      rfl
    rw [List.filter_cons_of_pos (l := l) (by simpa using hx)]
    cases l with
    | nil =>
      show List.filter (fun x => decide (x.st < off)) [(⟨x.ep, max x.st s⟩ : Ep)] = [(⟨x.ep, max x.st s⟩ : Ep)]
      rw [List.filter_cons_of_pos (by simp only [decide_eq_true_eq]; omega)]
      rfl
    | cons y l =>
      obtain ⟨g1, g2⟩ := upE_cons.1 h2
      by_cases hy : y.st < off
      · rw [List.filter_cons_of_pos (by simpa using hy)] at i ⊢
        have e1 : trimF s (x :: y :: l) = if s < y.st then ⟨x.ep, max x.st s⟩ :: trimF s (y :: l) else trimF s (y :: l) := by
          conv => lhs; unfold trimF
          by_cases hc : s < y.st
          · rw [if_pos (.inr hc), if_pos hc]
          · rw [if_neg (by rintro (hh | hh); cases hh; exact hc hh), if_neg hc]
        have e2 : trimF s (x :: y :: l.filter fun x => decide (x.st < off)) = if s < y.st then ⟨x.ep, max x.st s⟩ :: trimF s (y :: l.filter fun x => decide (x.st < off)) else trimF s (y :: l.filter fun x => decide (x.st < off)) := by
          conv => lhs; unfold trimF
          by_cases hc : s < y.st
          · rw [if_pos (.inr hc), if_pos hc]
          · rw [if_neg (by rintro (hh | hh); cases hh; exact hc hh), if_neg hc]
        rw [e1, e2]
        by_cases hc : s < y.st
        · rw [if_pos hc, if_pos hc, List.filter_cons_of_pos (by simp only [decide_eq_true_eq]; omega), i]
        · rw [if_neg hc, if_neg hc, i]
      · have e3 : (y :: l).filter (fun x => decide (x.st < off)) = [] := by
          rw [List.filter_eq_nil_iff]
          intro z hz hd
          have := of_decide_eq_true hd
          rcases List.mem_cons.1 hz with rfl | hz
          · omega
          · have := upE_mem g2 z hz; omega
        have e1 : trimF s (x :: y :: l) = ⟨x.ep, max x.st s⟩ :: trimF s (y :: l) := by
          conv => lhs; unfold trimF
          rw [if_pos (.inr (by show s < y.st; omega))]
        rw [e3] at i ⊢
        rw [e1, List.filter_cons_of_pos (by simp only [decide_eq_true_eq]; omega), i]
        rfl
/-! ### where an epoch ends -/
/-! ### where two logs meet -/
def Meets (a : List Ep) (aEnd : Int) (b : List Ep) (bEnd m : Int) : Prop :=
  ((∀ x ∈ a, ∀ y ∈ b, x.ep ≠ y.ep) ∧ m = 0) ∨
  ∃ (i j : Nat) (x y : Ep), a[i]? = some x ∧ b[j]? = some y ∧ x.ep = y.ep ∧ (∀ z ∈ a, ∀ u ∈ b, z.ep = u.ep → z.ep ≤ x.ep) ∧ m = min (nx (a.drop (i + 1)) aEnd) (nx (b.drop (j + 1)) bEnd)
theorem Meets.symm {a b : List Ep} {aEnd bEnd m : Int} (h : Meets a aEnd b bEnd m) : Meets b bEnd a aEnd m := by
  rcases h with ⟨h1, h2⟩ | ⟨i, j, x, y, h1, h2, h3, h4, h5⟩
  · exact .inl ⟨fun x hx y hy he => h1 y hy x hx he.symm, h2⟩
  · exact .inr ⟨j, i, y, x, h2, h1, h3.symm, fun z hz u hu he => by have := h4 u hu z hz he.symm; omega, by omega⟩
theorem Meets.one {a b : List Ep} {aEnd bEnd m m' e s e' s' : Int} (ha : upE e s a = true) (hb : upE e' s' b = true) (h : Meets a aEnd b bEnd m) (h' : Meets a aEnd b bEnd m') : m = m' := by
  rcases h with ⟨h1, h2⟩ | ⟨i, j, x, y, h1, h2, h3, h4, h5⟩
  · rcases h' with ⟨_, g2⟩ | ⟨i, j, x, y, g1, g2, g3, _⟩
    · rw [h2, g2]
    · exact absurd g3 (h1 x (List.mem_of_getElem? g1) y (List.mem_of_getElem? g2))
  · rcases h' with ⟨g1, _⟩ | ⟨i', j', x', y', g1, g2, g3, g4, g5⟩
    · exact absurd h3 (g1 x (List.mem_of_getElem? h1) y (List.mem_of_getElem? h2))
    · have k1 := h4 x' (List.mem_of_getElem? g1) y' (List.mem_of_getElem? g2) g3
      have k2 := g4 x (List.mem_of_getElem? h1) y (List.mem_of_getElem? h2) h3
      obtain rfl := upE_one ha h1 g1 (by omega)
      obtain rfl := upE_one hb h2 g2 (by omega)
      rw [h5, g5]
end Go.Proofs.YtllebgadhhgckaaDoor.Epo

/- Epochs in memory, and as a law is handed them. -/
namespace Go.Proofs.YtllebgadhhgckaaDoor.Epo
open Go.RowKit Go.ChangeShapes Go.WideShapes Go.Deep Oct Lay RowF

def epC (x : Ep) : List Value := [.int .i64 x.ep, .int .i64 x.st]
abbrev RdE (w : World) (B : Nat) (A : Option Addr) (n : Nat) (l : List Ep) : Prop := RdF epC 2 w B A n l
instance : Lay Ep where
  sz := 2
  pos := by decide
  is _ _ cs s := cs = epC s
  len h := by rw [h]; rfl
  keep h _ := h
  more h _ := h
section
variable {H : Type} {enc : TypeId × Value → H} {W : World} {base : Nat} {v : Value} {d : DataW H} {p : List MemPlace}
end
end Go.Proofs.YtllebgadhhgckaaDoor.Epo
