/- Joined: TxnMath. -/
import Derived.Test.YtlfbagkonckffaaGreatJ03
/- The plain mathematics of layer 12: transactions that are open, that have ended; a batch put behind them; what is shown. Nothing of the program. -/
namespace Go.Proofs.YtlfbagkonckffaaGreat.Txn
open Oct Rec Bat

structure Opn where
  pid : Int
  fst : Int
structure Gon where
  pid : Int
  no : Int
  fst : Int
  lst : Int
structure Tx where
  op : List Opn
  gone : List Gon
  done : List Gon
def nilT : Tx := ⟨[], [], []⟩

def chO : Int → List Opn → Bool
  | _, [] => true
  | v, o :: l => decide (v ≤ o.pid ∧ o.pid ≤ 1099511627776 ∧ 0 ≤ o.fst ∧ o.fst ≤ 1099511627776) && chO (o.pid + 1) l
def chG : Int → List Gon → Bool
  | _, [] => true
  | v, g :: l => decide (v ≤ g.lst ∧ g.lst ≤ 1099511627776 ∧ 0 ≤ g.fst ∧ g.fst < g.lst ∧ 0 ≤ g.pid ∧ g.pid ≤ 1099511627776 ∧ 0 ≤ g.no ∧ g.no ≤ 1048576) && chG (g.lst + 1) l
def ckT (t : Tx) : Bool := chO 0 t.op && chG 0 t.gone && chG 0 t.done
def mxO (m : Int) (l : List Opn) : Int := l.foldl (fun m o => max m o.fst) m
def mxG (m : Int) (l : List Gon) : Int := l.foldl (fun m g => max m g.lst) m
def topT (t : Tx) : Int := mxG (mxG (mxO (-1) t.op) t.gone) t.done
def atO : List Opn → Int → Nat
  | [], _ => 0
  | o :: l, p => if o.pid < p then atO l p + 1 else 0
def hasO (l : List Opn) (p : Int) : Bool := l.any fun o => decide (o.pid = p)
def fstO : List Opn → Int → Int
  | [], _ => 0
  | o :: l, p => if o.pid = p then o.fst else fstO l p
def delO (l : List Opn) (p : Int) : List Opn := l.filter fun o => !decide (o.pid = p)
def insO : List Opn → Int → Int → List Opn
  | [], p, b => [⟨p, b⟩]
  | o :: l, p, b => if o.pid < p then o :: insO l p b else ⟨p, b⟩ :: o :: l
def endG (b : Bt) (f : Int) : Gon := ⟨b.pid, b.seq, f, b.base⟩
def endT (t : Tx) (b : Bt) (f : Int) : Tx := if b.ctl = 1 then ⟨t.op, t.gone, t.done ++ [endG b f]⟩ else ⟨t.op, t.gone ++ [endG b f], t.done⟩
def stepT (t : Tx) (b : Bt) : Tx :=
  if hasO t.op b.pid = true then (if b.ctl = 0 then t else ⟨delO t.op b.pid, (endT t b (fstO t.op b.pid)).gone, (endT t b (fstO t.op b.pid)).done⟩)
  else if b.ctl = 0 ∧ b.txn = true then ⟨insO t.op b.pid b.base, t.gone, t.done⟩ else t
def putT (t : Tx) (b : Bt) : Tx × Int :=
  if ckT t = false then (nilT, 1) else if chB b ≠ 0 then (nilT, chB b) else if b.base ≤ topT t then (nilT, 71) else (stepT t b, 0)
def onT (t : Tx) (b : Bt) : Tx := if (putT t b).2 = 0 then (putT t b).1 else t
def ofT (bs : List Bt) : Tx := bs.foldl onT nilT
def stbT (l : List Opn) (high : Int) : Int := l.foldl (fun m o => min m o.fst) high
def frmG (l : List Gon) (s : Int) : List Gon := l.filter fun g => decide (s ≤ g.lst)
def trmT (t : Tx) (s : Int) : Tx := ⟨t.op, frmG t.gone s, frmG t.done s⟩
def hidG (l : List Gon) (fr to : Int) : List Gon := l.filter fun g => decide (fr ≤ g.lst ∧ g.fst < to)
def isIn (b : Bt) (g : Gon) : Bool := decide (b.ctl = 0) && (b.txn && decide (b.pid = g.pid ∧ g.fst ≤ b.base ∧ b.base < g.lst))
def hidB (b : Bt) (l : List Gon) : Bool := l.any (isIn b)
def isSh (l : List Gon) (to : Int) (b : Bt) : Bool := decide (b.ctl = 0 ∧ b.last < to) && !hidB b l
def shwB (bs : List Bt) (l : List Gon) (to : Int) : List Bt := bs.filter (isSh l to)
def risB : Int → List Bt → Bool
  | _, [] => true
  | v, b :: l => decide (chB b = 0 ∧ v < b.base) && risB b.last l
def nxtB : List Bt → Int → Int
  | [], _ => 0
  | b :: l, p => if b.pid = p ∧ b.ctl ≠ 0 then b.ctl else nxtB l p

/-! ### sorted lists -/
theorem chO_mem {v : Int} : ∀ {l : List Opn}, chO v l = true → ∀ o ∈ l, v ≤ o.pid ∧ o.pid ≤ 1099511627776 ∧ 0 ≤ o.fst ∧ o.fst ≤ 1099511627776 := by
  intro l
  induction l generalizing v with
  | nil => intro _ o ho; simp at ho
  | cons x l ih =>
    intro h o ho
    simp only [chO, Bool.and_eq_true, decide_eq_true_eq] at h
    rcases List.mem_cons.1 ho with rfl | ho
    · exact h.1
    · have := ih h.2 o ho
      omega
theorem chO_up {v u : Int} {l : List Opn} (h : chO v l = true) (hu : u ≤ v) : chO u l = true := by
  cases l with
  | nil => rfl
  | cons x l => simp only [chO, Bool.and_eq_true, decide_eq_true_eq] at h ⊢; exact ⟨by omega, h.2⟩
theorem atO_le (p : Int) : ∀ l : List Opn, atO l p ≤ l.length
  | [] => Nat.le_refl _
  | o :: l => by
    unfold atO
    split
    · exact Nat.succ_le_succ (atO_le p l)
    · exact Nat.zero_le _
theorem insO_at (p b : Int) : ∀ l : List Opn, insO l p b = l.take (atO l p) ++ ⟨p, b⟩ :: l.drop (atO l p)
  | [] => rfl
  | o :: l => by
    unfold insO atO
    split
    · rw [insO_at p b l]; rfl
    · rfl
theorem hasO_no {p v : Int} {l : List Opn} (h : chO v l = true) (hp : p < v) : hasO l p = false := by
  unfold hasO
  rw [List.any_eq_false]
  intro o ho
  have := chO_mem h o ho
  simp only [decide_eq_true_eq]
  omega
theorem at_cases {p v : Int} : ∀ {l : List Opn}, chO v l = true → (∃ o, l[atO l p]? = some o ∧ o.pid = p ∧ hasO l p = true ∧ fstO l p = o.fst ∧ delO l p = l.take (atO l p) ++ l.drop (atO l p + 1)) ∨ ((∀ o, l[atO l p]? = some o → p < o.pid) ∧ hasO l p = false) := by
  intro l
  induction l generalizing v with
  | nil => intro _; exact .inr ⟨fun o h => by simp at h, rfl⟩
  | cons x l ih =>
    intro h
    simp only [chO, Bool.and_eq_true, decide_eq_true_eq] at h
    by_cases h1 : x.pid < p
    · have e1 : atO (x :: l) p = atO l p + 1 := by rw [atO, if_pos h1]
      have e2 : hasO (x :: l) p = hasO l p := by
        unfold hasO; rw [List.any_cons, show decide (x.pid = p) = false from decide_eq_false (by omega), Bool.false_or]
      rcases ih h.2 with ⟨o, a1, a2, a3, a4, a5⟩ | ⟨a1, a2⟩
      · refine .inl ⟨o, by rw [e1, List.getElem?_cons_succ]; exact a1, a2, by rw [e2]; exact a3, ?_, ?_⟩
        · rw [show fstO (x :: l) p = fstO l p by rw [fstO, if_neg (by omega)]]; exact a4
        · rw [e1, List.take_succ_cons, List.drop_succ_cons, List.cons_append, ← a5]
          unfold delO
          rw [List.filter_cons_of_pos (by simp only [Bool.not_eq_true', decide_eq_false_iff_not]; omega)]
      · exact .inr ⟨fun o ho => a1 o (by rw [e1, List.getElem?_cons_succ] at ho; exact ho), by rw [e2]; exact a2⟩
    · have e1 : atO (x :: l) p = 0 := by rw [atO, if_neg h1]
      by_cases h2 : x.pid = p
      · refine .inl ⟨x, by rw [e1]; rfl, h2, ?_, ?_, ?_⟩
        · unfold hasO; rw [List.any_cons, show decide (x.pid = p) = true from decide_eq_true h2, Bool.true_or]
        · rw [fstO, if_pos h2]
        · rw [e1]
          unfold delO
          rw [List.filter_cons_of_neg (by simp [h2])]
          have hn := hasO_no (p := p) h.2 (by omega)
          unfold hasO at hn
          rw [List.any_eq_false] at hn
          rw [List.filter_eq_self.2 (fun o ho => by have := hn o ho; simpa using this)]
          rfl
      · refine .inr ⟨fun o ho => ?_, ?_⟩
        · rw [e1] at ho
          simp only [List.length_cons, Nat.zero_lt_succ, List.getElem?_eq_getElem, List.getElem_cons_zero, Option.some.injEq] at ho
          subst ho
          omega
        · unfold hasO
          rw [List.any_cons, show decide (x.pid = p) = false from decide_eq_false h2, Bool.false_or]
          exact hasO_no h.2 (by omega)
theorem ins_ch {v p b : Int} (hv : v ≤ p) (hp : p ≤ 1099511627776) (hb : 0 ≤ b ∧ b ≤ 1099511627776) : ∀ {l : List Opn}, chO v l = true → hasO l p = false → chO v (insO l p b) = true := by
  intro l
  induction l generalizing v with
  | nil => intro _ _; simp only [insO, chO, Bool.and_eq_true, decide_eq_true_eq, and_true]; omega
  | cons x l ih =>
    intro h hn
    simp only [chO, Bool.and_eq_true, decide_eq_true_eq] at h
    unfold hasO at hn
    rw [List.any_cons, Bool.or_eq_false_iff, decide_eq_false_iff_not] at hn
    unfold insO
    split
    · rename_i h1
      simp only [chO, Bool.and_eq_true, decide_eq_true_eq]
      exact ⟨h.1, ih (by omega) h.2 hn.2⟩
    · rename_i h1
      simp only [chO, Bool.and_eq_true, decide_eq_true_eq]
      exact ⟨by omega, by omega, h.2⟩
theorem del_ch {p : Int} : ∀ {v : Int} {l : List Opn}, chO v l = true → chO v (delO l p) = true := by
  intro v l
  induction l generalizing v with
  | nil => intro _; rfl
  | cons x l ih =>
    intro h
    simp only [chO, Bool.and_eq_true, decide_eq_true_eq] at h
    by_cases h1 : x.pid = p
    · unfold delO
      rw [List.filter_cons_of_neg (by simp [h1])]
      exact chO_up (ih h.2) (by omega)
    · unfold delO
      rw [List.filter_cons_of_pos (by simp [h1])]
      simp only [chO, Bool.and_eq_true, decide_eq_true_eq]
      exact ⟨h.1, ih h.2⟩
theorem chG_snoc {g : Gon} : ∀ {v : Int} {l : List Gon}, chG v l = true → (v ≤ g.lst ∧ ∀ x ∈ l, x.lst < g.lst) → (g.lst ≤ 1099511627776 ∧ 0 ≤ g.fst ∧ g.fst < g.lst ∧ 0 ≤ g.pid ∧ g.pid ≤ 1099511627776 ∧ 0 ≤ g.no ∧ g.no ≤ 1048576) → chG v (l ++ [g]) = true := by
  intro v l
  induction l generalizing v with
  | nil => intro _ h1 h2; simp only [List.nil_append, chG, Bool.and_eq_true, decide_eq_true_eq, and_true]; exact ⟨h1.1, h2⟩
  | cons x l ih =>
    intro h h1 h2
    simp only [List.cons_append, chG, Bool.and_eq_true, decide_eq_true_eq] at h ⊢
    exact ⟨h.1, ih h.2 ⟨by have := h1.2 x (by simp); omega, fun y hy => h1.2 y (by simp [hy])⟩ h2⟩
theorem mxO_ge : ∀ (l : List Opn) (m : Int), m ≤ mxO m l ∧ ∀ o ∈ l, o.fst ≤ mxO m l
  | [], m => ⟨Int.le_refl _, fun o h => by simp at h⟩
  | x :: l, m => by
    have h := mxO_ge l (max m x.fst)
    refine ⟨Int.le_trans (Int.le_max_left _ _) h.1, fun o ho => ?_⟩
    rcases List.mem_cons.1 ho with rfl | ho
    · exact Int.le_trans (Int.le_max_right _ _) h.1
    · exact h.2 o ho
theorem mxG_ge : ∀ (l : List Gon) (m : Int), m ≤ mxG m l ∧ ∀ o ∈ l, o.lst ≤ mxG m l
  | [], m => ⟨Int.le_refl _, fun o h => by simp at h⟩
  | x :: l, m => by
    have h := mxG_ge l (max m x.lst)
    refine ⟨Int.le_trans (Int.le_max_left _ _) h.1, fun o ho => ?_⟩
    rcases List.mem_cons.1 ho with rfl | ho
    · exact Int.le_trans (Int.le_max_right _ _) h.1
    · exact h.2 o ho
theorem mxO_le {n : Int} : ∀ {l : List Opn} {m : Int}, m ≤ n → (∀ o ∈ l, o.fst ≤ n) → mxO m l ≤ n
  | [], _, h, _ => h
  | x :: l, m, h, h2 => mxO_le (l := l) (Int.max_le.2 ⟨h, h2 x (by simp)⟩) fun o ho => h2 o (by simp [ho])
theorem mxG_le {n : Int} : ∀ {l : List Gon} {m : Int}, m ≤ n → (∀ o ∈ l, o.lst ≤ n) → mxG m l ≤ n
  | [], _, h, _ => h
  | x :: l, m, h, h2 => mxG_le (l := l) (Int.max_le.2 ⟨h, h2 x (by simp)⟩) fun o ho => h2 o (by simp [ho])
theorem mxG_app (m : Int) (a b : List Gon) : mxG m (a ++ b) = mxG (mxG m a) b := by unfold mxG; rw [List.foldl_append]
theorem topT_ge (t : Tx) : -1 ≤ topT t ∧ (∀ o ∈ t.op, o.fst ≤ topT t) ∧ (∀ g ∈ t.gone, g.lst ≤ topT t) ∧ ∀ g ∈ t.done, g.lst ≤ topT t := by
  have h1 := mxO_ge t.op (-1)
  have h2 := mxG_ge t.gone (mxO (-1) t.op)
  have h3 := mxG_ge t.done (mxG (mxO (-1) t.op) t.gone)
  unfold topT
  exact ⟨by omega, fun o ho => by have := h1.2 o ho; omega, fun o ho => by have := h2.2 o ho; omega, h3.2⟩
theorem topT_le {t : Tx} {n : Int} (h0 : -1 ≤ n) (h1 : ∀ o ∈ t.op, o.fst ≤ n) (h2 : ∀ g ∈ t.gone, g.lst ≤ n) (h3 : ∀ g ∈ t.done, g.lst ≤ n) : topT t ≤ n := mxG_le (mxG_le (mxO_le h0 h1) h2) h3
theorem mem_ins {p b : Int} {o : Opn} : ∀ {l : List Opn}, o ∈ insO l p b ↔ o = ⟨p, b⟩ ∨ o ∈ l
  | [] => by simp [insO]
  | x :: l => by
    unfold insO
    split
    · rw [List.mem_cons, mem_ins (l := l), List.mem_cons]
      constructor
      · rintro (h | h | h)
        · exact .inr (.inl h)
        · exact .inl h
        · exact .inr (.inr h)
      · rintro (h | h | h)
        · exact .inr (.inl h)
        · exact .inl h
        · exact .inr (.inr h)
    · rw [List.mem_cons]
theorem mem_del {p : Int} {o : Opn} {l : List Opn} : o ∈ delO l p ↔ o ∈ l ∧ o.pid ≠ p := by
  unfold delO
  rw [List.mem_filter]
  simp
theorem len_ins (p b : Int) : ∀ l : List Opn, (insO l p b).length = l.length + 1
  | [] => rfl
  | x :: l => by
    unfold insO
    split
    · rw [List.length_cons, len_ins p b l, List.length_cons]
    · rfl
theorem hasO_mem {l : List Opn} {p : Int} : hasO l p = true ↔ ∃ o ∈ l, o.pid = p := by
  unfold hasO
  rw [List.any_eq_true]
  simp
theorem fstO_mem {p : Int} : ∀ {l : List Opn}, hasO l p = true → ⟨p, fstO l p⟩ ∈ l
  | [], h => by simp [hasO] at h
  | x :: l, h => by
    unfold fstO
    split
    · rename_i h1; subst h1; exact List.mem_cons_self
    · rename_i h1
      unfold hasO at h
      rw [List.any_cons, show decide (x.pid = p) = false from decide_eq_false h1, Bool.false_or] at h
      exact List.mem_cons_of_mem _ (fstO_mem h)
theorem fstO_one {v : Int} : ∀ {l : List Opn}, chO v l = true → ∀ o ∈ l, fstO l o.pid = o.fst := by
  intro l
  induction l generalizing v with
  | nil => intro _ o ho; simp at ho
  | cons x l ih =>
    intro h o ho
    simp only [chO, Bool.and_eq_true, decide_eq_true_eq] at h
    rcases List.mem_cons.1 ho with rfl | ho
    · rw [fstO, if_pos rfl]
    · have h1 := chO_mem h.2 o ho
      rw [fstO, if_neg (by omega)]
      exact ih h.2 o ho
theorem len_del {v p : Int} {l : List Opn} (h : chO v l = true) (hp : hasO l p = true) : (delO l p).length + 1 = l.length := by
  rcases at_cases (p := p) h with ⟨o, a1, a2, a3, a4, a5⟩ | ⟨_, a2⟩
  · have := (List.getElem?_eq_some_iff.1 a1).1
    rw [a5, List.length_append, List.length_take, List.length_drop]
    omega
  · rw [hp] at a2; cases a2
end Go.Proofs.YtlfbagkonckffaaGreat.Txn
