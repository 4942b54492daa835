/- Joined: EpoMath, EpoRow, InR. -/
import Derived.Test.YtllebgadhhgckaaDoorJ06
import Derived.Test.YtllebgadhhgckaaDoorProg
import Derived.Test.YtllebgadhhgckaaDoorJ02
import Derived.Test.YtllebgadhhgckaaDoorJ03
import Derived.OrdersHeld
import Derived.OrdersIn
import Derived.RangeFuncCalls
import Derived.Deep.RegionHeld3
/- The plain mathematics of layer 10: epochs. Nothing of the program. -/
namespace Go.Proofs.YtllebgadhhgckaaDoor.Epo

structure Ep where
  ep : Int
  st : Int
deriving DecidableEq
def upE : Int → Int → List Ep → Bool
  | _, _, [] => true
  | e, s, x :: l => decide (e < x.ep ∧ x.ep ≤ 1048576 ∧ s < x.st ∧ x.st ≤ 1099511627776) && upE x.ep x.st l
def okE (l : List Ep) : Bool := upE (-1) (-1) l
def ckE (l : List Ep) : Int := if okE l then 0 else 1
theorem upE_cons {e s : Int} {x : Ep} {l : List Ep} : upE e s (x :: l) = true ↔ (e < x.ep ∧ x.ep ≤ 1048576 ∧ s < x.st ∧ x.st ≤ 1099511627776) ∧ upE x.ep x.st l = true := by
  unfold upE
  rw [Bool.and_eq_true, decide_eq_true_eq]
  cases l <;> rfl
theorem upE_mem {e s : Int} {l : List Ep} (h : upE e s l = true) : ∀ x ∈ l, e < x.ep ∧ x.ep ≤ 1048576 ∧ s < x.st ∧ x.st ≤ 1099511627776 := by
  induction l generalizing e s with
  | nil => simp
  | cons y l ih =>
    obtain ⟨h1, h2⟩ := upE_cons.1 h
    intro x hx
    rcases List.mem_cons.1 hx with rfl | hx
    · exact h1
    · have := ih h2 x hx; omega
theorem upE_at {e s : Int} {l : List Ep} (h : upE e s l = true) {i j : Nat} {x y : Ep} (hij : i < j) (hx : l[i]? = some x) (hy : l[j]? = some y) : x.ep < y.ep ∧ x.st < y.st := by
  induction l generalizing e s i j with
  | nil => simp at hx
  | cons z l ih =>
    obtain ⟨h1, h2⟩ := upE_cons.1 h
    cases j with
    | zero => omega
    | succ j =>
      have hy' : l[j]? = some y := by simpa using hy
      cases i with
      | zero =>
        obtain rfl : z = x := by simpa using hx
        have := upE_mem h2 y (List.mem_of_getElem? hy')
        omega
      | succ i => exact ih h2 (i := i) (j := j) (by omega) (by simpa using hx) hy'
theorem upE_one {e s : Int} {l : List Ep} (h : upE e s l = true) {i j : Nat} {x y : Ep} (hx : l[i]? = some x) (hy : l[j]? = some y) (he : x.ep = y.ep) : i = j := by
  rcases Nat.lt_trichotomy i j with hh | hh | hh
  · have := (upE_at h hh hx hy).1; omega
  · exact hh
  · have := (upE_at h hh hy hx).1; omega
def putE (l : List Ep) (n s : Int) : List Ep × Int :=
  if okE l = false ∨ (n < 0 ∨ 1048576 < n) ∨ (s < 0 ∨ 1099511627776 < s) then ([], 1)
  else match l.getLast? with
    | none => ([⟨n, s⟩], 0)
    | some x => if n < x.ep then ([], 100) else if n = x.ep then (l, 0) else if s < x.st then ([], 71) else if s = x.st then (l.dropLast ++ [⟨n, s⟩], 0) else (l ++ [⟨n, s⟩], 0)
def nx (l : List Ep) (last : Int) : Int := match l with
  | [] => last
  | x :: _ => x.st
def endO (n last : Int) : List Ep → Int × Int → Int × Int
  | [], a => a
  | x :: l, a => endO n last l (if x.ep ≤ n then (x.ep, nx l last) else a)
def endOf (l : List Ep) (n last : Int) : Int × Int := if okE l then endO n last l (-1, 0) else (-1, 0)
def cutE (l : List Ep) (off : Int) : List Ep := if okE l then l.filter fun x => decide (x.st < off) else []
def trimF (s : Int) : List Ep → List Ep
  | [] => []
  | x :: l => if l = [] ∨ s < nx l 0 then ⟨x.ep, max x.st s⟩ :: trimF s l else trimF s l
def trimE (l : List Ep) (s : Int) : List Ep := if okE l = true ∧ 0 ≤ s ∧ s ≤ 1099511627776 then trimF s l else []
def meetG (n ea bEnd : Int) : List Ep → Int → Int
  | [], m => m
  | y :: b, m => meetG n ea bEnd b (if n = y.ep then min ea (nx b bEnd) else m)
def meetF (aEnd : Int) (b : List Ep) (bEnd : Int) : List Ep → Int → Int
  | [], m => m
  | x :: a, m => meetF aEnd b bEnd a (meetG x.ep (nx a aEnd) bEnd b m)
def meetE (a : List Ep) (aEnd : Int) (b : List Ep) (bEnd : Int) : Int := if okE a = true ∧ okE b = true then meetF aEnd b bEnd a 0 else 0
def ofE : List Ep → List (Int × Int) → List Ep
  | l, [] => l
  | l, p :: ps => ofE (if (putE l p.1 p.2).2 = 0 then (putE l p.1 p.2).1 else l) ps

theorem trimF_mem {e s0 s : Int} {l : List Ep} (h : upE e s0 l = true) : ∀ x ∈ trimF s l, s ≤ x.st ∧ s0 < x.st ∧ e < x.ep := by
  induction l generalizing e s0 with
  | nil => simp [trimF]
  | cons y l ih =>
    obtain ⟨h1, h2⟩ := upE_cons.1 h
    intro x hx
    unfold trimF at hx
    by_cases hc : l = [] ∨ s < nx l 0
    · rw [if_pos hc] at hx
      rcases List.mem_cons.1 hx with rfl | hx
      · exact ⟨by simp only; omega, by simp only; omega, h1.1⟩
      · have := ih h2 x hx; omega
    · rw [if_neg hc] at hx
      have := ih h2 x hx; omega
theorem gone {e s0 s off : Int} {l : List Ep} (h : upE e s0 l = true) (ho : s < off) : (trimF s l).filter (fun x => decide (x.st < off)) = trimF s (l.filter fun x => decide (x.st < off)) := by
  induction l generalizing e s0 with
  | nil => rfl
  | cons x l ih =>
    obtain ⟨h1, h2⟩ := upE_cons.1 h
    have i := ih h2
    have hnone : off ≤ x.st → ∀ m : List Ep, (∀ y ∈ m, x.st ≤ y.st) → m.filter (fun x => decide (x.st < off)) = [] := by
      intro hx m hm
      rw [List.filter_eq_nil_iff]
      intro y hy hd
      have := hm y hy
      have := of_decide_eq_true hd
      omega
    by_cases hx : x.st < off
    case neg =>
      rw [hnone (by omega) (x :: l) (fun y hy => by
        rcases List.mem_cons.1 hy with rfl | hy
        · exact Int.le_refl _
        · have := upE_mem h2 y hy; omega)]
      rw [hnone (by omega) _ (fun y hy => by
        have := trimF_mem (e := e) (s0 := x.st - 1) (s := s) (l := x :: l) (upE_cons.2 ⟨by omega, h2⟩) y hy
        omega)]
      rfl
    rw [List.filter_cons_of_pos (l := l) (by simpa using hx)]
    cases l with
    | nil =>
      show List.filter (fun x => decide (x.st < off)) [(⟨x.ep, max x.st s⟩ : Ep)] = [(⟨x.ep, max x.st s⟩ : Ep)]
      rw [List.filter_cons_of_pos (by simp only [decide_eq_true_eq]; omega)]
      rfl
    | cons y l =>
      obtain ⟨g1, g2⟩ := upE_cons.1 h2
      by_cases hy : y.st < off
      · rw [List.filter_cons_of_pos (by simpa using hy)] at i ⊢
        have e1 : trimF s (x :: y :: l) = if s < y.st then ⟨x.ep, max x.st s⟩ :: trimF s (y :: l) else trimF s (y :: l) := by
          conv => lhs; unfold trimF
          by_cases hc : s < y.st
          · rw [if_pos (.inr hc), if_pos hc]
          · rw [if_neg (by rintro (hh | hh); cases hh; exact hc hh), if_neg hc]
        have e2 : trimF s (x :: y :: l.filter fun x => decide (x.st < off)) = if s < y.st then ⟨x.ep, max x.st s⟩ :: trimF s (y :: l.filter fun x => decide (x.st < off)) else trimF s (y :: l.filter fun x => decide (x.st < off)) := by
          conv => lhs; unfold trimF
          by_cases hc : s < y.st
          · rw [if_pos (.inr hc), if_pos hc]
          · rw [if_neg (by rintro (hh | hh); cases hh; exact hc hh), if_neg hc]
        rw [e1, e2]
        by_cases hc : s < y.st
        · rw [if_pos hc, if_pos hc, List.filter_cons_of_pos (by simp only [decide_eq_true_eq]; omega), i]
        · rw [if_neg hc, if_neg hc, i]
      · have e3 : (y :: l).filter (fun x => decide (x.st < off)) = [] := by
          rw [List.filter_eq_nil_iff]
          intro z hz hd
          have := of_decide_eq_true hd
          rcases List.mem_cons.1 hz with rfl | hz
          · omega
          · have := upE_mem g2 z hz; omega
        have e1 : trimF s (x :: y :: l) = ⟨x.ep, max x.st s⟩ :: trimF s (y :: l) := by
          conv => lhs; unfold trimF
          rw [if_pos (.inr (by show s < y.st; omega))]
        rw [e3] at i ⊢
        rw [e1, List.filter_cons_of_pos (by simp only [decide_eq_true_eq]; omega), i]
        rfl
/-! ### where an epoch ends -/
/-! ### where two logs meet -/
def Meets (a : List Ep) (aEnd : Int) (b : List Ep) (bEnd m : Int) : Prop :=
  ((∀ x ∈ a, ∀ y ∈ b, x.ep ≠ y.ep) ∧ m = 0) ∨
  ∃ (i j : Nat) (x y : Ep), a[i]? = some x ∧ b[j]? = some y ∧ x.ep = y.ep ∧ (∀ z ∈ a, ∀ u ∈ b, z.ep = u.ep → z.ep ≤ x.ep) ∧ m = min (nx (a.drop (i + 1)) aEnd) (nx (b.drop (j + 1)) bEnd)
theorem Meets.symm {a b : List Ep} {aEnd bEnd m : Int} (h : Meets a aEnd b bEnd m) : Meets b bEnd a aEnd m := by
  rcases h with ⟨h1, h2⟩ | ⟨i, j, x, y, h1, h2, h3, h4, h5⟩
  · exact .inl ⟨fun x hx y hy he => h1 y hy x hx he.symm, h2⟩
  · exact .inr ⟨j, i, y, x, h2, h1, h3.symm, fun z hz u hu he => by have := h4 u hu z hz he.symm; omega, by omega⟩
theorem Meets.one {a b : List Ep} {aEnd bEnd m m' e s e' s' : Int} (ha : upE e s a = true) (hb : upE e' s' b = true) (h : Meets a aEnd b bEnd m) (h' : Meets a aEnd b bEnd m') : m = m' := by
  rcases h with ⟨h1, h2⟩ | ⟨i, j, x, y, h1, h2, h3, h4, h5⟩
  · rcases h' with ⟨_, g2⟩ | ⟨i, j, x, y, g1, g2, g3, _⟩
    · rw [h2, g2]
    · exact absurd g3 (h1 x (List.mem_of_getElem? g1) y (List.mem_of_getElem? g2))
  · rcases h' with ⟨g1, _⟩ | ⟨i', j', x', y', g1, g2, g3, g4, g5⟩
    · exact absurd h3 (g1 x (List.mem_of_getElem? h1) y (List.mem_of_getElem? h2))
    · have k1 := h4 x' (List.mem_of_getElem? g1) y' (List.mem_of_getElem? g2) g3
      have k2 := g4 x (List.mem_of_getElem? h1) y (List.mem_of_getElem? h2) h3
      obtain rfl := upE_one ha h1 g1 (by omega)
      obtain rfl := upE_one hb h2 g2 (by omega)
      rw [h5, g5]
end Go.Proofs.YtllebgadhhgckaaDoor.Epo

/- Epochs in memory, and as a law is handed them. -/
namespace Go.Proofs.YtllebgadhhgckaaDoor.Epo
open Go.RowKit Go.ChangeShapes Go.WideShapes Go.Deep Oct Lay RowF

def epC (x : Ep) : List Value := [.int .i64 x.ep, .int .i64 x.st]
abbrev RdE (w : World) (B : Nat) (A : Option Addr) (n : Nat) (l : List Ep) : Prop := RdF epC 2 w B A n l
instance : Lay Ep where
  sz := 2
  pos := by decide
  is _ _ cs s := cs = epC s
  len h := by rw [h]; rfl
  keep h _ := h
  more h _ := h
section
variable {H : Type} {enc : TypeId × Value → H} {W : World} {base : Nat} {v : Value} {d : DataW H} {p : List MemPlace}
end
end Go.Proofs.YtllebgadhhgckaaDoor.Epo

/- A region that draws its order, inside a round of a loop over a function: its loads are taken first where nobody but its last store writes their cells; what is left comes up one by one. Nothing of the program: P, the operations and the worlds are letters. -/
namespace Go.Proofs.YtllebgadhhgckaaDoor.InR
open Go.RowKit

def Nrm (Q : Exit → Act → World → Prop) : Exit → Act → World → Prop
  | .normal, a, w => Q .normal a w
  | _, _, _ => False
section
variable {P : Program} {ops : Array Oper} {Q : Exit → Act → World → Prop} {md : Region.Mode} {S : World → Prop} {k n l : Nat}
def anyK (P : Program) (md : Region.Mode) (ops : Array Oper) (Q : Exit → Act → World → Prop) (S : World → Prop) (k : Nat) : Nat → Array Bool → Act → World → Prop
  | 0, listed, a, w => Region.ready md ops listed = [] ∧ Q .normal a w
  | fuel + 1, listed, a, w => (Region.ready md ops listed = [] → Q .normal a w) ∧
      ∀ i ∈ Region.ready md ops listed, wpOp P ops (Nrm Q) i (fun a' w' => (i ≠ k → S w') ∧ anyK P md ops Q S k fuel (listed.setIfInBounds i true) a' w') a w
def waits (md : Region.Mode) (ops : Array Oper) (k i : Nat) : Bool :=
  match ops[k]? with
  | none => true
  | some o => o.after.any fun e => Region.binds md e && e.on == i
theorem waits_spec {i : Nat} (h : waits md ops k i = true) {o : Oper} (ho : ops[k]? = some o) : ∃ e ∈ o.after, Region.binds md e = true ∧ e.on = i := by
  unfold waits at h
  rw [ho] at h
  obtain ⟨e, he, h2⟩ := Array.any_eq_true'.1 h
  rw [Bool.and_eq_true] at h2
  exact ⟨e, he, h2.1, by simpa using h2.2⟩
theorem listed_of {listed : Array Bool} {i : Nat} (h0 : listed.getD i true = false) (h1 : listed.getD i false = true) : False := by
  rcases Nat.lt_or_ge i listed.size with h' | h'
  · simp [h'] at h0 h1; rw [h0] at h1; cases h1
  · simp [Array.getElem?_eq_none h'] at h1
theorem anyK_first {i : Nat} {oi : Oper} {v : Value} (hi : ops[i]? = some oi) (hsel : ∀ (j : Nat) (o : Oper) cs b, ops[j]? = some o → o.op ≠ .select cs b) (hk : waits md ops k i = true) :
    ∀ (fuel : Nat) (listed : Array Bool) (a : Act) (w : World),
      (∀ j oj, ops[j]? = some oj → j ≠ i → listed.getD j true = false → (∀ e ∈ oj.after, Region.binds md e = true → e.on ≠ i) → oi.apart ops oj = true) →
      i ∈ Region.ready md ops listed → YieldsIf P ops S oi v a → S w →
      anyK P md ops Q S k fuel (listed.setIfInBounds i true) (a.put oi.dst v) w → anyK P md ops Q S k (fuel + 1) listed a w := by
  intro fuel
  induction fuel with
  | zero =>
    intro listed a w _ hr hy hS H
    refine ⟨fun h => (by rw [h] at hr; cases hr), fun j hj => ?_⟩
    by_cases hji : j = i
    · subst hji
      exact hy.wpOp hi hS ⟨fun _ => hS, H⟩
    · have h2 := ready_mono hj hji
      rw [H.1] at h2
      cases h2
  | succ fuel ih =>
    intro listed a w hfree hr hy hS H
    refine ⟨fun h => (by rw [h] at hr; cases hr), fun j hj => ?_⟩
    by_cases hji : j = i
    · subst hji
      exact hy.wpOp hi hS ⟨fun _ => hS, H⟩
    · obtain ⟨hjun, oj, hoj, hall⟩ := mem_ready.1 hj
      have h0 := (mem_ready.1 hr).1
      have hnot : ∀ e ∈ oj.after, Region.binds md e = true → e.on ≠ i := fun e he hb heq => by
        have h1 := hall e he hb
        rw [heq] at h1
        exact listed_of h0 h1
      have hjk : j ≠ k := by
        rintro rfl
        obtain ⟨e, he, hb, heq⟩ := waits_spec hk hoj
        exact hnot e he hb heq
      have h2 := wpOp_putIf hoj (hfree j oj hoj hji hjun hnot) (fun cs b => hsel i oi cs b hi) (fun cs b => hsel j oj cs b hoj) (fun _ _ _ h => h) hy (H.2 j (ready_mono hj hji))
      have hfree' : ∀ m om, ops[m]? = some om → m ≠ i → (listed.setIfInBounds j true).getD m true = false → (∀ e ∈ om.after, Region.binds md e = true → e.on ≠ i) → oi.apart ops om = true := fun m om hm hmi hun hno => by
        refine hfree m om hm hmi ?_ hno
        by_cases hjm : j = m
        · subst hjm; exact hjun
        · rw [getD_set_ne true hjm] at hun; exact hun
      refine wpOp_mono (fun a' w' h3 => ⟨h3.2.1, ih (listed.setIfInBounds j true) a' w' hfree' (ready_mono hr (Ne.symm hji)) h3.1 (h3.2.1 hjk) ?_⟩) h2
      rw [Array.setIfInBounds_comm _ _ hji]
      exact h3.2.2
theorem takeK (i : Nat) (oi : Oper) (v : Value) {fuel : Nat} {listed : Array Bool} {a : Act} {w : World} (hi : ops[i]? = some oi) (hs : Region.noSelect ops = true) (hf : Region.free md ops listed i = true) (hr : (Region.ready md ops listed).contains i = true) (hk : waits md ops k i = true)
    (hw : Region.wanted oi (yielded ops a.tmps) = true) (hy : ∀ w, S w → (execOp a.eval oi).run P w = .ok (.value v) w) (hS : S w) (h : anyK P md ops Q S k fuel (listed.setIfInBounds i true) (a.put oi.dst v) w) : anyK P md ops Q S k (fuel + 1) listed a w :=
  anyK_first hi (Region.noSelect_spec hs) hk fuel listed a w (Region.free_spec hi hf) (by simpa using hr) (.inl ⟨hw, hy⟩) hS h
theorem takeKU (i : Nat) (oi : Oper) {fuel : Nat} {listed : Array Bool} {a : Act} {w : World} (hi : ops[i]? = some oi) (hs : Region.noSelect ops = true) (hf : Region.free md ops listed i = true) (hr : (Region.ready md ops listed).contains i = true) (hk : waits md ops k i = true)
    (hw : Region.wanted oi (yielded ops a.tmps) = false) (hS : S w) (h : anyK P md ops Q S k fuel (listed.setIfInBounds i true) (a.put oi.dst undef) w) : anyK P md ops Q S k (fuel + 1) listed a w :=
  anyK_first hi (Region.noSelect_spec hs) hk fuel listed a w (Region.free_spec hi hf) (by simpa using hr) (.inr ⟨hw, rfl⟩) hS h
theorem doneK {listed : Array Bool} {a : Act} {w : World} (hr : Region.ready md ops listed = []) (h : Q .normal a w) : ∀ fuel, anyK P md ops Q S k fuel listed a w
  | 0 => ⟨hr, h⟩
  | _ + 1 => ⟨fun _ => h, by rw [hr]; simp⟩
def noDefer (ops : Array Oper) : Bool := ops.all fun o => match o.op with | .defer _ => false | _ => true
theorem nrm_imp : ∀ (e : Exit) (a : Act) (w : World), Nrm Q e a w → Q e a w := fun e a w h => by cases e <;> first | exact h | exact (h : False).elim
theorem any_plain : ∀ (fuel : Nat) (listed : Array Bool) (a : Act) (w : World), anyK P md ops Q S k fuel listed a w → wpAny P md ops (Nrm Q) fuel listed a w
  | 0, _, _, _, h => h
  | fuel + 1, _, _, _, h => ⟨h.1, fun i hi => wpOp_mono (fun a' w' h4 => any_plain fuel _ a' w' h4.2) (h.2 i hi)⟩
theorem region_plain {id : Nat} {a : Act} {w : World} (S : World → Prop) (k : Nat) (hm : P.follows .mixedOrders = true) (h : anyK P .any ops Q S k ops.size (Array.replicate ops.size false) a w.drew) : (Code.region id ops true).wp P Q a w :=
  wp_mono (wp_region_any hm (any_plain _ _ _ _ h)) nrm_imp
theorem step_append {o : Oper} {a : Act} {w w' : World} {K : Act → World → Prop} {Q : Exit → Act → World → Prop} {E : Prop} {vs vx v : Value} (hgd : o.guard = none) (s x : Operand) (t : TypeId)
    (ho : o.op = .call { callee := .builtin .append, args := #[s, x], argTypes := #[t, t] }) (hs : a.eval s = vs) (hx : a.eval x = vx) (hrun : (Builtin.append_ #[t, t] o.type #[vs, vx]).run P w = .ok v w') (h : K (a.put o.dst v) w') :
    if Region.wanted o (yielded ops a.tmps) = true then Oper.wp P o a w K Q else E := by
  have hw : Region.wanted o (yielded ops a.tmps) = true := by simp [Region.wanted, hgd]
  rw [if_pos hw]
  unfold Oper.wp execOp
  simp only [ho, resolve, invoke, builtin, Sem.run_bind, Sem.run_pure, Result.andThen_ok, List.map_toArray, List.map_cons, List.map_nil, hs, hx, hrun]
  exact h
end
end Go.Proofs.YtllebgadhhgckaaDoor.InR
