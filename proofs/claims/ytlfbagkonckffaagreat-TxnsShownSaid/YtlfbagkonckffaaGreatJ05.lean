/- Joined: TxnMath2. -/
import Derived.Test.YtlfbagkonckffaaGreatJ04
/- The mathematics of layer 12's laws: one batch one step, what is open is ended once, all of a row, what is stable stays so, what is shown is whole. Nothing of the program. -/
namespace Go.Proofs.YtlfbagkonckffaaGreat.Txn
open Oct Rec Bat

theorem form_of {b : Bt} (h : chB b = 0) : (0 ≤ b.base ∧ b.base ≤ 1099511627776 ∧ b.base ≤ b.last ∧ b.last ≤ 1099511627776 ∧ 0 ≤ b.seq ∧ b.seq ≤ 1048576) ∧ (b.txn = true → 0 ≤ b.pid ∧ b.pid ≤ 1099511627776) ∧ (b.ctl ≠ 0 → b.txn = true ∧ (b.ctl = 1 ∨ b.ctl = 2)) := by
  have h1 : form b = true := by
    unfold chB at h
    split at h
    · assumption
    · omega
  unfold form at h1
  rw [Bool.and_eq_true, decide_eq_true_eq] at h1
  obtain ⟨⟨h2, h3, h4, h5, h6, h7, h8, h9, h10, h11, h12, h13, h14, h15, h16, h17, h18⟩, h19⟩ := h1
  refine ⟨⟨h2, h3, h8, h5, h15, h16⟩, fun ht => ?_, fun hc => ?_⟩
  · rcases h18 with ⟨_, _, _, h20, _⟩ | ⟨_, h20, h21⟩
    · rw [ht] at h20; cases h20
    · exact ⟨h20, h21⟩
  · rw [if_neg hc, decide_eq_true_eq] at h19
    exact ⟨h19.2.2.2.1, h19.1⟩
theorem ckT_iff {t : Tx} : ckT t = true ↔ chO 0 t.op = true ∧ chG 0 t.gone = true ∧ chG 0 t.done = true := by
  unfold ckT
  rw [Bool.and_eq_true, Bool.and_eq_true, and_assoc]
theorem step_gone (t : Tx) (b : Bt) : (stepT t b).gone = if hasO t.op b.pid = true ∧ b.ctl ≠ 0 ∧ b.ctl ≠ 1 then t.gone ++ [endG b (fstO t.op b.pid)] else t.gone := by
  unfold stepT endT
  by_cases h1 : hasO t.op b.pid = true <;> by_cases h2 : b.ctl = 0 <;> by_cases h3 : b.ctl = 1 <;> by_cases h4 : b.txn = true <;> first | omega | simp [h1, h2, h3, h4]
theorem step_done (t : Tx) (b : Bt) : (stepT t b).done = if hasO t.op b.pid = true ∧ b.ctl = 1 then t.done ++ [endG b (fstO t.op b.pid)] else t.done := by
  unfold stepT endT
  by_cases h1 : hasO t.op b.pid = true <;> by_cases h2 : b.ctl = 0 <;> by_cases h3 : b.ctl = 1 <;> by_cases h4 : b.txn = true <;> first | omega | simp [h1, h2, h3, h4]
theorem step_op (t : Tx) (b : Bt) : (stepT t b).op = if hasO t.op b.pid = true then (if b.ctl = 0 then t.op else delO t.op b.pid) else if b.ctl = 0 ∧ b.txn = true then insO t.op b.pid b.base else t.op := by
  unfold stepT
  split
  · split <;> rfl
  · split <;> rfl
theorem step_ck {t : Tx} {b : Bt} (ht : ckT t = true) (hb : chB b = 0) (htop : topT t < b.base) : ckT (stepT t b) = true := by
  obtain ⟨h1, h2, h3⟩ := ckT_iff.1 ht
  obtain ⟨⟨f1, f2, f3, f4, f5, f6⟩, f7, f8⟩ := form_of hb
  obtain ⟨t0, t1, t2, t3⟩ := topT_ge t
  have hnew : hasO t.op b.pid = true → b.ctl ≠ 0 → (b.base ≤ 1099511627776 ∧ 0 ≤ fstO t.op b.pid ∧ fstO t.op b.pid < b.base ∧ 0 ≤ b.pid ∧ b.pid ≤ 1099511627776 ∧ 0 ≤ b.seq ∧ b.seq ≤ 1048576) := fun h h0 => by
    have hm := fstO_mem h
    have h4 := chO_mem h1 _ hm
    have h5 := t1 _ hm
    have h6 := f7 (f8 h0).1
    simp only at h4 h5
    omega
  refine ckT_iff.2 ⟨?_, ?_, ?_⟩
  · rw [step_op]
    split
    · split
      · exact h1
      · exact del_ch h1
    · split
      · rename_i h5 h6
        have h7 := f7 h6.2
        exact ins_ch h7.1 h7.2 ⟨f1, f2⟩ h1 (by simpa using h5)
      · exact h1
  · rw [step_gone]
    split
    · rename_i h5
      exact chG_snoc h2 ⟨f1, fun x hx => by show x.lst < b.base; have := t2 x hx; omega⟩ (hnew h5.1 h5.2.1)
    · exact h2
  · rw [step_done]
    split
    · rename_i h5
      exact chG_snoc h3 ⟨f1, fun x hx => by show x.lst < b.base; have := t3 x hx; omega⟩ (hnew h5.1 (by omega))
    · exact h3
theorem put_ok {t x : Tx} {b : Bt} (h : putT t b = (x, 0)) : ckT t = true ∧ chB b = 0 ∧ topT t < b.base ∧ x = stepT t b := by
  unfold putT at h
  by_cases h1 : ckT t = false
  · rw [if_pos h1] at h; simp at h
  rw [if_neg h1] at h
  by_cases h2 : chB b = 0
  · rw [if_neg (fun h9 => h9 h2)] at h
    by_cases h3 : b.base ≤ topT t
    · rw [if_pos h3] at h; simp at h
    · rw [if_neg h3] at h
      injection h with h4
      exact ⟨by simpa using h1, h2, by omega, h4.symm⟩
  · rw [if_pos h2] at h
    injection h with _ h4
    exact absurd h4 h2
theorem put_is {t : Tx} {b : Bt} (h1 : ckT t = true) (h2 : chB b = 0) (h3 : topT t < b.base) : putT t b = (stepT t b, 0) := by
  unfold putT
  rw [if_neg (by rw [h1]; simp), if_neg (fun h => h h2), if_neg (by omega)]
theorem put_err {t x : Tx} {b : Bt} {e : Int} (h : putT t b = (x, e)) (he : e ≠ 0) : x = nilT := by
  unfold putT at h
  split at h
  · injection h with h _; exact h.symm
  split at h
  · injection h with h _; exact h.symm
  split at h
  · injection h with h _; exact h.symm
  · injection h with _ h; exact absurd h.symm he
theorem put_ck {t x : Tx} {b : Bt} (h : putT t b = (x, 0)) : ckT x = true := by
  obtain ⟨h1, h2, h3, rfl⟩ := put_ok h
  exact step_ck h1 h2 h3
theorem one_step {t x : Tx} {b : Bt} (h : putT t b = (x, 0)) : t.gone.length ≤ x.gone.length ∧ t.done.length ≤ x.done.length ∧ x.gone.take t.gone.length = t.gone ∧ x.done.take t.done.length = t.done ∧
    (x.op.length + x.gone.length + x.done.length = t.op.length + t.gone.length + t.done.length ∨ x.op.length + x.gone.length + x.done.length = t.op.length + t.gone.length + t.done.length + 1 ∧ b.ctl = 0 ∧ b.txn = true ∧ x.op.length = t.op.length + 1) ∧ (b.txn = false → x = t) := by
  obtain ⟨h1, h2, h3, rfl⟩ := put_ok h
  obtain ⟨_, _, f8⟩ := form_of h2
  have g := step_gone t b
  have d := step_done t b
  have o := step_op t b
  refine ⟨?_, ?_, ?_, ?_, ?_, ?_⟩
  · rw [g]; split
    · rw [List.length_append]; omega
    · exact Nat.le_refl _
  · rw [d]; split
    · rw [List.length_append]; omega
    · exact Nat.le_refl _
  · rw [g]; split
    · exact List.take_left
    · exact List.take_length
  · rw [d]; split
    · exact List.take_left
    · exact List.take_length
  · rw [g, d, o]
    by_cases h5 : hasO t.op b.pid = true
    · rw [if_pos h5]
      by_cases h6 : b.ctl = 0
      · rw [if_pos h6, if_neg (fun h9 => h9.2.1 h6), if_neg (fun h9 => by have := h9.2; omega)]
        exact .inl rfl
      · have hl := len_del (ckT_iff.1 h1).1 h5
        rw [if_neg h6]
        rcases (f8 h6).2 with h7 | h7
        · rw [if_neg (fun h9 => h9.2.2 h7), if_pos ⟨h5, h7⟩, List.length_append, List.length_singleton]
          exact .inl (by omega)
        · rw [if_pos ⟨h5, h6, by omega⟩, if_neg (fun h9 => by have := h9.2; omega), List.length_append, List.length_singleton]
          exact .inl (by omega)
    · rw [if_neg h5, if_neg (c := hasO t.op b.pid = true ∧ b.ctl ≠ 0 ∧ b.ctl ≠ 1) (fun h9 => h5 h9.1), if_neg (c := hasO t.op b.pid = true ∧ b.ctl = 1) (fun h9 => h5 h9.1)]
      by_cases h6 : b.ctl = 0 ∧ b.txn = true
      · rw [if_pos h6, len_ins]
        exact .inr ⟨by omega, h6.1, h6.2, rfl⟩
      · rw [if_neg h6]
        exact .inl rfl
  · intro ht
    have hc : b.ctl = 0 := Decidable.byContradiction fun h9 => by rw [(f8 h9).1] at ht; cases ht
    unfold stepT
    rw [if_pos hc, if_neg (c := b.ctl = 0 ∧ b.txn = true) (fun h9 => by rw [ht] at h9; cases h9.2)]
    split <;> rfl
theorem end_once {t x : Tx} {b a : Bt} {o : Opn} (h : putT t b = (x, 0)) (ho : o ∈ t.op) (hp : b.pid = o.pid) (hc : b.ctl ≠ 0) (ha : chB a = 0) (hab : a.base = b.base + 1) (hap : a.pid = b.pid) (hac : a.ctl ≠ 0) :
    putT x a = (x, 0) ∧ x.op.length + 1 = t.op.length ∧ (b.ctl = 1 → x.done = t.done ++ [⟨o.pid, b.seq, o.fst, b.base⟩]) ∧ (b.ctl ≠ 1 → x.gone = t.gone ++ [⟨o.pid, b.seq, o.fst, b.base⟩]) := by
  have hck := put_ck h
  obtain ⟨h1, h2, h3, rfl⟩ := put_ok h
  have hO := (ckT_iff.1 h1).1
  have hh : hasO t.op b.pid = true := hasO_mem.2 ⟨o, ho, hp.symm⟩
  have hf : fstO t.op b.pid = o.fst := by rw [hp]; exact fstO_one hO o ho
  obtain ⟨t0, t1, t2, t3⟩ := topT_ge t
  have hop : (stepT t b).op = delO t.op b.pid := by rw [step_op, if_pos hh, if_neg hc]
  have hno : hasO (delO t.op b.pid) b.pid = false := by
    rw [Bool.eq_false_iff]
    intro h9
    obtain ⟨y, hy, he⟩ := hasO_mem.1 h9
    exact (mem_del.1 hy).2 he
  have hend : endG b (fstO t.op b.pid) = ⟨o.pid, b.seq, o.fst, b.base⟩ := by unfold endG; rw [hf, hp]
  refine ⟨?_, ?_, fun h9 => ?_, fun h9 => ?_⟩
  · rw [put_is hck ha]
    · rw [stepT, if_neg (by rw [hop, hap, hno]; simp), if_neg (fun h9 => hac h9.1)]
    · rw [hab]
      refine Int.lt_add_one_of_le (topT_le (by omega) (fun y hy => ?_) (fun y hy => ?_) (fun y hy => ?_))
      · rw [hop] at hy
        have := t1 y (mem_del.1 hy).1
        omega
      · rw [step_gone] at hy
        split at hy
        · rcases List.mem_append.1 hy with hy | hy
          · have := t2 y hy; omega
          · rw [List.mem_singleton] at hy; subst hy; exact Int.le_refl _
        · have := t2 y hy; omega
      · rw [step_done] at hy
        split at hy
        · rcases List.mem_append.1 hy with hy | hy
          · have := t3 y hy; omega
          · rw [List.mem_singleton] at hy; subst hy; exact Int.le_refl _
        · have := t3 y hy; omega
  · rw [hop]; exact len_del hO hh
  · rw [step_done, if_pos ⟨hh, h9⟩, hend]
  · rw [step_gone, if_pos ⟨hh, hc, h9⟩, hend]

/-! ### all of a row -/
theorem of_snoc (bs : List Bt) (b : Bt) : ofT (bs ++ [b]) = onT (ofT bs) b := by unfold ofT; rw [List.foldl_append]; rfl
theorem on_ck {t : Tx} (b : Bt) (h : ckT t = true) : ckT (onT t b) = true := by
  unfold onT
  split
  · rename_i h1
    exact put_ck (Prod.ext rfl h1)
  · exact h
theorem fold_ck : ∀ (bs : List Bt) {t : Tx}, ckT t = true → ckT (bs.foldl onT t) = true
  | [], _, h => h
  | b :: bs, _, h => fold_ck bs (on_ck b h)
theorem of_ck (bs : List Bt) : ckT (ofT bs) = true := fold_ck bs rfl
theorem on_is {t : Tx} {b : Bt} (h1 : ckT t = true) (h2 : chB b = 0) (h3 : topT t < b.base) : onT t b = stepT t b := by unfold onT; rw [put_is h1 h2 h3]; rfl
theorem step_top {t : Tx} {b : Bt} (h : topT t < b.base) : topT (stepT t b) ≤ b.base := by
  obtain ⟨t0, t1, t2, t3⟩ := topT_ge t
  refine topT_le (by omega) (fun y hy => ?_) (fun y hy => ?_) (fun y hy => ?_)
  · rw [step_op] at hy
    split at hy
    · split at hy
      · have := t1 y hy; omega
      · have := t1 y (mem_del.1 hy).1; omega
    · split at hy
      · rcases mem_ins.1 hy with rfl | hy
        · exact Int.le_refl _
        · have := t1 y hy; omega
      · have := t1 y hy; omega
  · rw [step_gone] at hy
    split at hy
    · rcases List.mem_append.1 hy with hy | hy
      · have := t2 y hy; omega
      · rw [List.mem_singleton] at hy; subst hy; exact Int.le_refl _
    · have := t2 y hy; omega
  · rw [step_done] at hy
    split at hy
    · rcases List.mem_append.1 hy with hy | hy
      · have := t3 y hy; omega
      · rw [List.mem_singleton] at hy; subst hy; exact Int.le_refl _
    · have := t3 y hy; omega
theorem ris_app : ∀ {v : Int} {a b : List Bt}, risB v (a ++ b) = true → risB v a = true ∧ ∀ x ∈ b, v < x.base ∧ chB x = 0 ∧ ∀ y ∈ a, y.last < x.base := by
  intro v a
  induction a generalizing v with
  | nil =>
    intro b h
    refine ⟨rfl, ?_⟩
    rw [List.nil_append] at h
    induction b generalizing v with
    | nil => intro x hx; simp at hx
    | cons y b ih =>
      simp only [risB, Bool.and_eq_true, decide_eq_true_eq] at h
      intro x hx
      rcases List.mem_cons.1 hx with rfl | hx
      · exact ⟨h.1.2, h.1.1, fun z hz => by simp at hz⟩
      · have h5 := ih h.2 x hx
        have h6 := (form_of h.1.1).1
        exact ⟨by omega, h5.2.1, fun z hz => by simp at hz⟩
  | cons y a ih =>
    intro b h
    simp only [List.cons_append, risB, Bool.and_eq_true, decide_eq_true_eq] at h ⊢
    have h6 := (form_of h.1.1).1
    have h5 := ih h.2
    refine ⟨⟨h.1, h5.1⟩, fun x hx => ?_⟩
    have h7 := h5.2 x hx
    refine ⟨by omega, h7.2.1, fun z hz => ?_⟩
    rcases List.mem_cons.1 hz with rfl | hz
    · exact h7.1
    · exact h7.2.2 z hz
theorem ris_mem {v : Int} {a : List Bt} (h : risB v a = true) : ∀ x ∈ a, chB x = 0 ∧ v < x.base := fun x hx => by
  have := (ris_app (a := []) (b := a) h).2 x hx
  exact ⟨this.2.1, this.1⟩
theorem nxt_snoc (b : Bt) (p : Int) : ∀ l : List Bt, nxtB (l ++ [b]) p = if nxtB l p ≠ 0 then nxtB l p else if b.pid = p ∧ b.ctl ≠ 0 then b.ctl else 0
  | [] => by simp [nxtB]
  | x :: l => by
    rw [List.cons_append, nxtB, nxtB]
    by_cases h : x.pid = p ∧ x.ctl ≠ 0
    · rw [if_pos h, if_pos h, if_pos h.2]
    · rw [if_neg h, if_neg h]
      exact nxt_snoc b p l
def Known (t : Tx) (b : Bt) (rest : List Bt) : Prop :=
  (nxtB rest b.pid = 0 ∧ hasO t.op b.pid = true ∧ fstO t.op b.pid ≤ b.base ∧ hidB b t.gone = false) ∨
  (nxtB rest b.pid = 1 ∧ hidB b t.gone = false ∧ (hasO t.op b.pid = true → b.base < fstO t.op b.pid)) ∨
  (nxtB rest b.pid = 2 ∧ hidB b t.gone = true ∧ (hasO t.op b.pid = true → b.base < fstO t.op b.pid))
structure Inv (pre : List Bt) (t : Tx) : Prop where
  ck : ckT t = true
  top : ∀ b : Bt, (∀ y ∈ pre, y.last < b.base) → 0 ≤ b.base → topT t < b.base
  known : ∀ l1 b l2, pre = l1 ++ b :: l2 → b.ctl = 0 → b.txn = true → Known t b l2
theorem fst_del {l : List Opn} {p q : Int} (h : q ≠ p) : hasO (delO l p) q = hasO l q ∧ fstO (delO l p) q = fstO l q := by
  induction l with
  | nil => exact ⟨rfl, rfl⟩
  | cons x l ih =>
    by_cases h1 : x.pid = p
    · have e : delO (x :: l) p = delO l p := by unfold delO; rw [List.filter_cons_of_neg (by simp [h1])]
      have h2 : ¬ x.pid = q := by omega
      rw [e, ih.1, ih.2]
      refine ⟨?_, by rw [fstO, if_neg h2]⟩
      unfold hasO; rw [List.any_cons, show decide (x.pid = q) = false from decide_eq_false h2, Bool.false_or]
    · have e : delO (x :: l) p = x :: delO l p := by unfold delO; rw [List.filter_cons_of_pos (by simp [h1])]
      rw [e]
      refine ⟨?_, by rw [fstO, fstO, ih.2]⟩
      have := ih.1
      unfold hasO at this ⊢
      rw [List.any_cons, List.any_cons, this]
theorem no_del {l : List Opn} {p : Int} : hasO (delO l p) p = false := by
  rw [Bool.eq_false_iff]
  intro h9
  obtain ⟨y, hy, he⟩ := hasO_mem.1 h9
  exact (mem_del.1 hy).2 he
theorem fst_ins {p b : Int} : ∀ {l : List Opn} {q : Int}, hasO l p = false → hasO (insO l p b) q = (hasO l q || decide (p = q)) ∧ fstO (insO l p b) q = if q = p then b else fstO l q
  | [], q, _ => by
    by_cases h : p = q
    · subst h; simp [insO, hasO, fstO]
    · have h2 : ¬ q = p := fun e => h e.symm
      simp [insO, hasO, fstO, h, h2]
  | x :: l, q, hn => by
    have hx : ¬ x.pid = p ∧ hasO l p = false := by
      unfold hasO at hn
      rw [List.any_cons, Bool.or_eq_false_iff, decide_eq_false_iff_not] at hn
      exact hn
    unfold insO
    split
    · obtain ⟨i1, i2⟩ := fst_ins (b := b) (q := q) hx.2
      refine ⟨?_, ?_⟩
      · unfold hasO at i1 ⊢
        rw [List.any_cons, List.any_cons, i1, Bool.or_assoc]
      · rw [fstO, fstO, i2]
        by_cases h : q = p
        · subst h; rw [if_neg hx.1, if_pos rfl, if_pos rfl]
        · rw [if_neg h, if_neg h]
    · refine ⟨?_, ?_⟩
      · unfold hasO
        rw [List.any_cons]
        simp only
        rw [Bool.or_comm]
      · rw [fstO]
        simp only
        by_cases h : q = p
        · subst h; rw [if_pos rfl]
        · rw [if_neg (fun e => h e.symm), if_neg h]
theorem hid_app (b : Bt) (l : List Gon) (g : Gon) : hidB b (l ++ [g]) = (hidB b l || isIn b g) := by
  unfold hidB; rw [List.any_append]; simp
theorem isIn_iff {b : Bt} {g : Gon} : isIn b g = true ↔ b.ctl = 0 ∧ b.txn = true ∧ b.pid = g.pid ∧ g.fst ≤ b.base ∧ b.base < g.lst := by
  unfold isIn
  rw [Bool.and_eq_true, Bool.and_eq_true, decide_eq_true_eq, decide_eq_true_eq]
theorem known_on {t : Tx} {b c : Bt} {l2 : List Bt} (_hck : ckT t = true) (hc : chB c = 0) (hbc : b.base < c.base) (h0 : b.ctl = 0) (htx : b.txn = true) (h : Known t b l2) : Known (stepT t c) b (l2 ++ [c]) := by
  obtain ⟨_, _, f8⟩ := form_of hc
  have hfst : hasO (stepT t c).op b.pid = true → (hasO t.op b.pid = true ∧ fstO (stepT t c).op b.pid = fstO t.op b.pid) ∨ fstO (stepT t c).op b.pid = c.base := by
    rw [step_op]
    split
    · split
      · exact fun h9 => .inl ⟨h9, rfl⟩
      · by_cases hp : b.pid = c.pid
        · rw [hp, no_del]; intro h9; cases h9
        · rw [(fst_del hp).1, (fst_del hp).2]
          exact fun h9 => .inl ⟨h9, rfl⟩
    · split
      · rename_i h1 h2
        have h3 : hasO t.op c.pid = false := by simpa using h1
        rw [(fst_ins h3).1, (fst_ins h3).2]
        by_cases hp : b.pid = c.pid
        · rw [if_pos hp]; exact fun _ => .inr rfl
        · rw [if_neg hp, decide_eq_false (fun e => hp e.symm), Bool.or_false]
          exact fun h9 => .inl ⟨h9, rfl⟩
      · exact fun h9 => .inl ⟨h9, rfl⟩
  have hlate : (hasO t.op b.pid = true → b.base < fstO t.op b.pid) → hasO (stepT t c).op b.pid = true → b.base < fstO (stepT t c).op b.pid := fun h1 h2 => by
    rcases hfst h2 with ⟨h3, h4⟩ | h4
    · rw [h4]; exact h1 h3
    · rw [h4]; exact hbc
  have hnew : hidB b t.gone = false → (hasO t.op b.pid = true → b.base < fstO t.op b.pid) → hidB b (stepT t c).gone = false := fun h1 h2 => by
    rw [step_gone]
    split
    · rename_i h3
      rw [hid_app, h1, Bool.false_or, Bool.eq_false_iff]
      intro h4
      obtain ⟨_, _, h5, h6, _⟩ := isIn_iff.1 h4
      have h5' : b.pid = c.pid := h5
      have h6' : fstO t.op c.pid ≤ b.base := h6
      have := h2 (by rw [h5']; exact h3.1)
      rw [h5'] at this
      omega
    · exact h1
  unfold Known
  rw [nxt_snoc]
  rcases h with ⟨a1, a2, a3, a4⟩ | ⟨a1, a2, a3⟩ | ⟨a1, a2, a3⟩
  · rw [if_neg (fun h9 => h9 a1)]
    by_cases hend : c.pid = b.pid ∧ c.ctl ≠ 0
    · obtain ⟨e1, e2⟩ := hend
      have hh : hasO t.op c.pid = true := by rw [e1]; exact a2
      have hno : hasO (stepT t c).op b.pid = false := by rw [step_op, if_pos hh, if_neg e2, e1]; exact no_del
      rw [if_pos ⟨e1, e2⟩]
      rcases (f8 e2).2 with h1 | h2
      · refine .inr (.inl ⟨h1, ?_, fun h9 => by rw [hno] at h9; cases h9⟩)
        rw [step_gone, if_neg (fun h9 => h9.2.2 h1)]; exact a4
      · refine .inr (.inr ⟨h2, ?_, fun h9 => by rw [hno] at h9; cases h9⟩)
        rw [step_gone, if_pos ⟨hh, e2, by omega⟩, hid_app, Bool.or_eq_true]
        exact .inr (isIn_iff.2 ⟨h0, htx, e1.symm, by rw [e1]; exact a3, hbc⟩)
    · rw [if_neg hend]
      have h1 : hasO (stepT t c).op b.pid = true ∧ fstO (stepT t c).op b.pid = fstO t.op b.pid := by
        rw [step_op]
        split
        · split
          · exact ⟨a2, rfl⟩
          · rename_i h1 h2
            have hp : b.pid ≠ c.pid := fun e => hend ⟨e.symm, h2⟩
            rw [(fst_del hp).1, (fst_del hp).2]; exact ⟨a2, rfl⟩
        · split
          · rename_i h1 h2
            have h3 : hasO t.op c.pid = false := by simpa using h1
            have hp : b.pid ≠ c.pid := fun e => by rw [← e, a2] at h3; cases h3
            rw [(fst_ins h3).1, (fst_ins h3).2, if_neg hp, a2]; exact ⟨rfl, rfl⟩
          · exact ⟨a2, rfl⟩
      refine .inl ⟨rfl, h1.1, by rw [h1.2]; exact a3, ?_⟩
      rw [step_gone]
      split
      · rename_i h3
        rw [hid_app, a4, Bool.false_or, Bool.eq_false_iff]
        intro h4
        obtain ⟨_, _, h5, _⟩ := isIn_iff.1 h4
        exact hend ⟨h5.symm, h3.2.1⟩
      · exact a4
  · rw [if_pos (by omega)]
    exact .inr (.inl ⟨a1, hnew a2 a3, hlate a3⟩)
  · rw [if_pos (by omega)]
    refine .inr (.inr ⟨a1, ?_, hlate a3⟩)
    rw [step_gone]
    split
    · rw [hid_app, a2, Bool.true_or]
    · exact a2
theorem known_new {t : Tx} {c : Bt} (_hck : ckT t = true) (htop : topT t < c.base) (h0 : c.ctl = 0) (htx : c.txn = true) : Known (stepT t c) c [] := by
  obtain ⟨t0, t1, t2, t3⟩ := topT_ge t
  have hg : (stepT t c).gone = t.gone := by rw [step_gone, if_neg (fun h9 => h9.2.1 h0)]
  have hh : hidB c t.gone = false := by
    unfold hidB
    rw [List.any_eq_false]
    intro g hg9 h9
    have h1 := (isIn_iff.1 h9).2.2.2.2
    have := t2 g hg9
    omega
  rw [Known, hg, step_op]
  by_cases h1 : hasO t.op c.pid = true
  · rw [if_pos h1, if_pos h0]
    have h2 := t1 _ (fstO_mem h1)
    simp only at h2
    exact .inl ⟨rfl, h1, by omega, hh⟩
  · rw [if_neg h1, if_pos ⟨h0, htx⟩, (fst_ins (by simpa using h1)).1, (fst_ins (by simpa using h1)).2, if_pos rfl]
    exact .inl ⟨rfl, by simp, Int.le_refl _, hh⟩
theorem split_snoc {α : Type} {pre l1 l2 : List α} {c b : α} (h : pre ++ [c] = l1 ++ b :: l2) : (l2 = [] ∧ b = c ∧ l1 = pre) ∨ ∃ l3, l2 = l3 ++ [c] ∧ pre = l1 ++ b :: l3 := by
  rcases l2.eq_nil_or_concat with rfl | ⟨l3, d, rfl⟩
  · have := List.append_inj' h rfl
    simp only [List.cons.injEq, and_true] at this
    exact .inl ⟨rfl, this.2.symm, this.1.symm⟩
  · rw [List.concat_eq_append] at h ⊢
    have h2 : pre ++ [c] = (l1 ++ b :: l3) ++ [d] := by rw [h]; simp
    have := List.append_inj' h2 rfl
    simp only [List.cons.injEq, and_true] at this
    exact .inr ⟨l3, by rw [this.2], this.1⟩
theorem inv_on {pre : List Bt} {t : Tx} {c : Bt} (h : Inv pre t) (hc : chB c = 0) (hb : ∀ y ∈ pre, y.last < c.base) (hp : ∀ y ∈ pre, chB y = 0) : Inv (pre ++ [c]) (onT t c) := by
  have hf := (form_of hc).1
  have htop := h.top c hb hf.1
  rw [on_is h.ck hc htop]
  refine ⟨step_ck h.ck hc htop, fun b hb9 _ => ?_, fun l1 b l2 he h0 htx => ?_⟩
  · have h1 := step_top htop
    have h2 := hb9 c (by simp)
    omega
  · rcases split_snoc he with ⟨rfl, rfl, rfl⟩ | ⟨l3, rfl, rfl⟩
    · exact known_new h.ck htop h0 htx
    · have h1 := hb b (by simp)
      have h2 := (form_of (hp b (by simp))).1
      exact known_on h.ck hc (by omega) h0 htx (h.known l1 b l3 rfl h0 htx)
theorem inv_of : ∀ (bs pre : List Bt) {v : Int} {t : Tx}, risB v (pre ++ bs) = true → Inv pre t → Inv (pre ++ bs) (bs.foldl onT t)
  | [], pre, _, _, _, h => by rw [List.append_nil]; exact h
  | c :: bs, pre, v, t, hr, h => by
    have e : pre ++ c :: bs = (pre ++ [c]) ++ bs := by simp
    have h1 := (ris_app hr).2 c (by simp)
    rw [e] at hr ⊢
    exact inv_of bs (pre ++ [c]) hr (inv_on h h1.2.1 h1.2.2 fun y hy => (ris_mem (ris_app (ris_app hr).1).1 y hy).1)
theorem inv_nil : Inv [] nilT := ⟨rfl, fun b _ h => by show (-1 : Int) < _; omega, fun l1 b l2 h => by simp at h⟩
theorem inv {bs : List Bt} (h : risB (-1) bs = true) : Inv bs (ofT bs) := inv_of bs [] h inv_nil
theorem stb_le : ∀ (l : List Opn) (high : Int), stbT l high ≤ high ∧ ∀ o ∈ l, stbT l high ≤ o.fst
  | [], h => ⟨Int.le_refl _, fun o ho => by simp at ho⟩
  | x :: l, h => by
    have h1 := stb_le l (min h x.fst)
    refine ⟨Int.le_trans h1.1 (Int.min_le_left _ _), fun o ho => ?_⟩
    rcases List.mem_cons.1 ho with rfl | ho
    · exact Int.le_trans h1.1 (Int.min_le_right _ _)
    · exact h1.2 o ho
theorem le_stb {n : Int} : ∀ {l : List Opn} {high : Int}, n ≤ high → (∀ o ∈ l, n ≤ o.fst) → n ≤ stbT l high
  | [], _, h, _ => h
  | x :: l, high, h, h2 => le_stb (l := l) (Int.le_min.2 ⟨h, h2 x (by simp)⟩) fun o ho => h2 o (by simp [ho])
theorem stable_known {bs l1 l2 : List Bt} {b : Bt} {high : Int} (h : risB (-1) bs = true) (he : bs = l1 ++ b :: l2) (h0 : b.ctl = 0) (htx : b.txn = true) (hb : b.base < stbT (ofT bs).op high) : (nxtB l2 b.pid = 1 ∧ hidB b (ofT bs).gone = false) ∨ (nxtB l2 b.pid = 2 ∧ hidB b (ofT bs).gone = true) := by
  rcases (inv h).known l1 b l2 he h0 htx with ⟨a1, a2, a3, a4⟩ | ⟨a1, a2, _⟩ | ⟨a1, a2, _⟩
  · have := (stb_le (ofT bs).op high).2 _ (fstO_mem a2)
    simp only at this
    omega
  · exact .inl ⟨a1, a2⟩
  · exact .inr ⟨a1, a2⟩
theorem whole_shown {bs l1 l2 : List Bt} {b : Bt} {high : Int} (h : risB (-1) bs = true) (he : bs = l1 ++ b :: l2) :
    isSh (ofT bs).gone (stbT (ofT bs).op high) b = (decide (b.ctl = 0 ∧ b.last < stbT (ofT bs).op high) && (!b.txn || decide (nxtB l2 b.pid = 1))) := by
  unfold isSh
  by_cases h1 : b.ctl = 0 ∧ b.last < stbT (ofT bs).op high
  · rw [decide_eq_true h1, Bool.true_and, Bool.true_and]
    cases htx : b.txn with
    | false =>
      have : hidB b (ofT bs).gone = false := by
        unfold hidB
        rw [List.any_eq_false]
        intro g _ h9
        have := (isIn_iff.1 h9).2.1
        rw [htx] at this
        cases this
      rw [this]; rfl
    | true =>
      have h2 := (form_of (ris_mem h b (by rw [he]; simp)).1).1
      rcases stable_known (high := high) h he h1.1 htx (by omega) with ⟨a1, a2⟩ | ⟨a1, a2⟩
      · rw [a1, a2]; rfl
      · rw [a1, a2]; rfl
  · rw [decide_eq_false h1, Bool.false_and, Bool.false_and]
theorem open_later : ∀ (bs : List Bt) {t : Tx} {n : Int}, (∀ b ∈ bs, n ≤ b.base) → ∀ o ∈ (bs.foldl onT t).op, o ∈ t.op ∨ n ≤ o.fst
  | [], _, _, _, o, ho => .inl ho
  | c :: bs, t, n, h, o, ho => by
    rcases open_later bs (n := n) (fun b hb => h b (by simp [hb])) o ho with h1 | h1
    · unfold onT at h1
      split at h1
      · rename_i h2
        obtain ⟨_, _, _, h3⟩ := put_ok (x := (putT t c).1) (Prod.ext rfl h2)
        rw [h3, step_op] at h1
        split at h1
        · split at h1
          · exact .inl h1
          · exact .inl (mem_del.1 h1).1
        · split at h1
          · rcases mem_ins.1 h1 with rfl | h1
            · exact .inr (h c (by simp))
            · exact .inl h1
          · exact .inl h1
      · exact .inl h1
    · exact .inr h1
theorem stable_stays {a b : List Bt} {x y : Bt} (h : risB (-1) (a ++ b) = true) (hx : a.getLast? = some x) (hy : (a ++ b).getLast? = some y) :
    stbT (ofT a).op (x.last + 1) ≤ stbT (ofT (a ++ b)).op (y.last + 1) ∧ stbT (ofT a).op (x.last + 1) ≤ x.last + 1 ∧ 0 ≤ stbT (ofT a).op (x.last + 1) := by
  have hr := ris_app h
  have hxa : x ∈ a := List.mem_of_getLast? hx
  have h1 := stb_le (ofT a).op (x.last + 1)
  have hxf := (form_of (ris_mem hr.1 x hxa).1).1
  refine ⟨?_, h1.1, ?_⟩
  · refine le_stb ?_ (fun o ho => ?_)
    · refine Int.le_trans h1.1 ?_
      rcases b.eq_nil_or_concat with rfl | ⟨b', z, rfl⟩
      · rw [List.append_nil, hx] at hy
        injection hy with hy
        subst hy
        exact Int.le_refl _
      · rw [List.concat_eq_append, ← List.append_assoc, List.getLast?_concat] at hy
        injection hy with hy
        subst hy
        have h2 := hr.2 z (by simp)
        have h3 := h2.2.2 x hxa
        have h4 := (form_of h2.2.1).1
        omega
    · have e : ofT (a ++ b) = b.foldl onT (ofT a) := by unfold ofT; rw [List.foldl_append]
      rw [e] at ho
      rcases open_later b (n := x.last + 1) (fun z hz => by have := (hr.2 z hz).2.2 x hxa; omega) o ho with h2 | h2
      · exact h1.2 o h2
      · exact Int.le_trans h1.1 h2
  · refine le_stb (by omega) fun o ho => ?_
    exact (chO_mem (ckT_iff.1 (of_ck a)).1 o ho).2.2.1
theorem hidden_enough {b : Bt} {l : List Gon} {fr to : Int} (h1 : b.base ≤ b.last) (h2 : fr ≤ b.base) : isSh (hidG l fr to) to b = isSh l to b ∧ isSh (frmG l fr) to b = isSh l to b := by
  unfold isSh
  by_cases h : b.ctl = 0 ∧ b.last < to
  · rw [decide_eq_true h, Bool.true_and, Bool.true_and, Bool.true_and]
    have h3 : ∀ f : Gon → Bool, (∀ g, isIn b g = true → f g = true) → hidB b (l.filter f) = hidB b l := fun f hf => by
      rw [Bool.eq_iff_iff]
      unfold hidB
      rw [List.any_eq_true, List.any_eq_true]
      constructor
      · rintro ⟨g, hg, hi⟩; exact ⟨g, (List.mem_filter.1 hg).1, hi⟩
      · rintro ⟨g, hg, hi⟩; exact ⟨g, List.mem_filter.2 ⟨hg, hf g hi⟩, hi⟩
    refine ⟨congrArg _ (h3 _ fun g hg => ?_), congrArg _ (h3 _ fun g hg => ?_)⟩
    · obtain ⟨_, _, _, a, c⟩ := isIn_iff.1 hg
      simp only [decide_eq_true_eq]; omega
    · obtain ⟨_, _, _, a, c⟩ := isIn_iff.1 hg
      simp only [decide_eq_true_eq]; omega
  · rw [decide_eq_false h, Bool.false_and, Bool.false_and, Bool.false_and]; exact ⟨rfl, rfl⟩
theorem shown_same {bs : List Bt} {l k : List Gon} {to : Int} (h : ∀ b ∈ bs, isSh l to b = isSh k to b) : shwB bs l to = shwB bs k to := List.filter_congr h
theorem shown_again (bs : List Bt) (l : List Gon) (to : Int) : shwB (shwB bs l to) l to = shwB bs l to := by
  unfold shwB
  rw [List.filter_filter]
  simp
theorem filter_len {α : Type} {f g : α → Bool} : ∀ (l : List α), (∀ x ∈ l, f x = true → g x = true) → (l.filter f).length ≤ (l.filter g).length
  | [], _ => Nat.le_refl _
  | x :: l, h => by
    have ih := filter_len l fun y hy => h y (by simp [hy])
    by_cases h1 : f x = true
    · rw [List.filter_cons_of_pos h1, List.filter_cons_of_pos (h x (by simp) h1)]
      exact Nat.succ_le_succ ih
    · rw [List.filter_cons_of_neg h1]
      by_cases h2 : g x = true
      · rw [List.filter_cons_of_pos h2]; exact Nat.le_succ_of_le ih
      · rw [List.filter_cons_of_neg h2]; exact ih
theorem shown_more (bs : List Bt) (l : List Gon) (k : Nat) (to : Int) : (shwB bs l to).length ≤ (shwB bs (l.take k) to).length ∧ (shwB bs (l.take k) to).length ≤ (shwB bs [] to).length ∧ (shwB bs [] to).length = (bs.filter fun b => decide (b.ctl = 0 ∧ b.last < to)).length := by
  refine ⟨filter_len bs fun b _ h => ?_, filter_len bs fun b _ h => ?_, ?_⟩
  · unfold isSh at h ⊢
    rw [Bool.and_eq_true, Bool.not_eq_true'] at h ⊢
    refine ⟨h.1, ?_⟩
    have h2 := h.2
    unfold hidB at h2 ⊢
    rw [List.any_eq_false] at h2 ⊢
    exact fun g hg => h2 g (List.mem_of_mem_take hg)
  · unfold isSh at h ⊢
    rw [Bool.and_eq_true] at h ⊢
    exact ⟨h.1, rfl⟩
  · unfold shwB
    congr 1
    refine List.filter_congr fun b _ => ?_
    unfold isSh hidB
    rw [List.any_nil, Bool.not_false, Bool.and_true]
end Go.Proofs.YtlfbagkonckffaaGreat.Txn
