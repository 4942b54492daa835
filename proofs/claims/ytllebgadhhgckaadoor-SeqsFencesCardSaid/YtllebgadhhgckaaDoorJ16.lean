/- Joined: SqsM3, SqsM5. -/
import Derived.Test.YtllebgadhhgckaaDoorJ12
import Derived.Test.YtllebgadhhgckaaDoorJ09
/- What Put tells may be. Nothing of the program. -/
namespace Go.Proofs.YtllebgadhhgckaaDoor.Sqs
open Oct Rec Crc Bat Seg

theorem ddOk_b {b : Bt} (h : chB b = 0) : ddOk (didB b) = true := by
  have hf := (chB_form h).1
  have h1 := hf.seq0; have h2 := hf.seq2; have h3 := hf.base0; have h4 := hf.base1; have h5 := hf.le
  unfold ddOk
  exact decide_eq_true (by simp only [didB, lastN]; omega)
theorem five_ok {l : List Dd} (h : chD none l = true) (hl : l.length ≤ 6) : didOk (five l) = true := by
  unfold five
  split
  · cases l with
    | nil => rfl
    | cons d l =>
      show didOk l = true
      unfold didOk
      rw [chD_tail h, decide_eq_true (by rw [List.length_cons] at hl; omega)]
      rfl
  · unfold didOk
    rw [h, decide_eq_true (by omega)]
    rfl
theorem find_ok {l : List Pd} {v : Int} {p : Pd} (hC : ckP l = 0) (h : findP l v = some p) : didOk p.did = true ∧ (0 ≤ p.pid ∧ p.pid ≤ 1099511627776) ∧ (0 ≤ p.gen ∧ p.gen ≤ 1048576) := by
  have h1 := chP_mem (ckP_iff.1 hC).2 p (findP_some h).1
  exact ⟨h1.2.2.2, h1.2.1, h1.2.2.1⟩
theorem look_ok {l : List Pd} {b : Bt} {x : Int} {t : Bool} (h : lookP l b = (x, t, 0)) : ckP l = 0 ∧ chB b = 0 := by
  unfold lookP at h
  by_cases h1 : ckP l = 0
  · rw [if_neg (fun h9 => h9 h1)] at h
    by_cases h2 : chB b = 0
    · exact ⟨h1, h2⟩
    · rw [if_pos h2] at h
      exact absurd (by simpa using congrArg (·.2.2) h) h2
  · rw [if_pos h1] at h
    exact absurd (by simpa using congrArg (·.2.2) h) h1
theorem written_ok {l : List Pd} {b : Bt} {x : Int} (h : lookP l b = (x, false, 0)) (hp : b.pid ≠ -1) : didOk (writtenP l b).did = true := by
  obtain ⟨hC, hB⟩ := look_ok h
  have hd := ddOk_b hB
  show didOk (five _) = true
  cases hf : findP l b.pid with
  | none =>
    have hfr : freshP l b = true := by unfold freshP; rw [hf]
    rw [hfr]
    by_cases hc : b.ctl = 0
    · rw [if_pos rfl, if_pos hc]
      exact five_ok (by show (ddOk (didB b) && nextD none (didB b)) && chD (some (lastN b)) [] = true; rw [hd]; rfl) (by simp)
    · rw [if_pos rfl, if_neg hc]; rfl
  | some p =>
    obtain ⟨hok, _, _⟩ := find_ok hC hf
    have hok2 := hok
    unfold didOk at hok2
    rw [Bool.and_eq_true, decide_eq_true_eq] at hok2
    by_cases hfr : freshP l b = true
    · rw [hfr]
      by_cases hc : b.ctl = 0
      · rw [if_pos rfl, if_pos hc]
        exact five_ok (by show (ddOk (didB b) && nextD none (didB b)) && chD (some (lastN b)) [] = true; rw [hd]; rfl) (by simp)
      · rw [if_pos rfl, if_neg hc]; rfl
    · rw [if_neg hfr]
      by_cases hc : b.ctl = 0
      · rw [if_pos hc]
        refine five_ok (chD_snoc.2 ⟨hok2.1, hd, ?_⟩) (by rw [List.length_append]; simp only [List.length_singleton]; omega)
        unfold lookP at h
        rw [if_neg (fun h9 => h9 hC), if_neg (fun h9 => h9 hB), if_neg hp, hf] at h
        simp only at h
        have hnf : ¬ (p.gen < b.gen ∨ p.did = []) := fun h9 => hfr (by
          unfold freshP; rw [hf]; simp only
          rcases h9 with h9 | h9
          · rw [decide_eq_true h9]; rfl
          · rw [h9]; simp)
        have hng : ¬ b.gen < p.gen := fun h9 => by
          rw [if_pos h9] at h
          exact absurd (congrArg (·.2.2) h) (by simp)
        rw [if_neg hng, if_neg (fun h9 => h9 hc), if_neg hnf] at h
        unfold seqP at h
        cases hfd : p.did.find? fun x => decide (x.sq = b.seq ∧ x.la = lastN b) with
        | some y => rw [hfd] at h; exact absurd (congrArg (·.2.1) h) (by simp)
        | none =>
          rw [hfd] at h
          simp only at h
          cases hg : p.did.getLast? with
          | none => exact absurd (List.getLast?_eq_none_iff.1 hg) (fun h9 => hnf (.inr h9))
          | some y =>
            rw [hg] at h
            simp only at h
            by_cases hs : b.seq = y.la + 1
            · exact decide_eq_true hs
            · rw [if_neg hs] at h
              exact absurd (congrArg (·.2.2) h) (by simp)
      · rw [if_neg hc, List.append_nil]
        exact five_ok hok2.1 (by show p.did.length ≤ 6; omega)
theorem put_ok {l m : List Pd} {b : Bt} (h : putP l b = (m, 0)) : ckP m = 0 := by
  unfold putP at h
  rcases hL : lookP l b with ⟨x, t, e⟩
  rw [hL] at h
  simp only at h
  by_cases he : e = 0
  case neg =>
    rw [if_pos he] at h
    exact absurd (congrArg (·.2) h) he
  subst he
  rw [if_neg (fun h9 => h9 rfl)] at h
  obtain ⟨hC, hB⟩ := look_ok hL
  by_cases hf : fullP l b = true
  · rw [if_pos hf] at h
    exact absurd (congrArg (·.2) h) (by simp)
  rw [if_neg hf] at h
  by_cases ht : t = true ∨ b.pid = -1
  · rw [if_pos ht] at h
    obtain rfl : l = m := congrArg (·.1) h
    exact hC
  rw [if_neg ht] at h
  obtain rfl : withP l (writtenP l b) = m := congrArg (·.1) h
  have hp : b.pid ≠ -1 := fun h9 => ht (.inr h9)
  have htf : t = false := by cases t with | true => exact absurd (.inl rfl) ht | false => rfl
  subst htf
  have hw := written_ok hL hp
  have hc := ckP_iff.1 hC
  have hfm := (chB_form hB).1
  have h1 := hfm.pid0; have h2 := hfm.pid1; have h3 := hfm.gen0; have h4 := hfm.gen1
  rw [ckP_iff]
  refine ⟨?_, with_ch hc.2 ?_⟩
  · cases hfd : findP l b.pid with
    | some q => rw [with_len2 (p := writtenP l b) hc.2 hfd]; exact hc.1
    | none =>
      have h5 := with_len l (writtenP l b)
      have h6 : ¬ 1024 ≤ l.length := fun h9 => hf (by unfold fullP; exact decide_eq_true ⟨hp, hfd, h9⟩)
      omega
  · rw [chP_cons]
    exact ⟨⟨⟨⟨by show 0 ≤ b.pid; omega, h2⟩, ⟨h3, h4⟩, by show -1 < b.pid; omega⟩, hw⟩, rfl⟩
end Go.Proofs.YtllebgadhhgckaaDoor.Sqs

/- A batch's producer as the batch meets it, and what is put: the landed words, in the document's. Nothing of the program. -/
namespace Go.Proofs.YtllebgadhhgckaaDoor.Sqs
open Oct Rec Crc Bat Seg

def atP : List Pd → Int → Nat
  | [], _ => 0
  | x :: l, v => if x.pid < v then atP l v + 1 else 0
theorem atP_le (l : List Pd) (v : Int) : atP l v ≤ l.length := by
  induction l with
  | nil => exact Nat.le_refl _
  | cons x l ih => unfold atP; split <;> simp only [List.length_cons] <;> omega
theorem atP_eq {l : List Pd} {v : Int} {i : Nat} (hi : i ≤ l.length) (h1 : ∀ k x, k < i → l[k]? = some x → x.pid < v) (h2 : ∀ x, l[i]? = some x → v ≤ x.pid) : atP l v = i := by
  induction l generalizing i with
  | nil => simp only [List.length_nil] at hi; unfold atP; omega
  | cons x l ih =>
    cases i with
    | zero =>
      have := h2 x rfl
      unfold atP
      rw [if_neg (by omega)]
    | succ i =>
      have := h1 0 x (by omega) rfl
      unfold atP
      rw [if_pos this, ih (by simpa using hi) (fun k y hk hy => h1 (k + 1) y (by omega) (by simpa using hy)) (fun y hy => h2 y (by simpa using hy))]
theorem chP_lt {v : Int} {l : List Pd} (h : chP v l = true) {i j : Nat} {x y : Pd} (hij : i < j) (hx : l[i]? = some x) (hy : l[j]? = some y) : x.pid < y.pid := by
  induction l generalizing v i j with
  | nil => simp at hx
  | cons z l ih =>
    obtain ⟨_, h5⟩ := chP_cons.1 h
    cases j with
    | zero => omega
    | succ j =>
      cases i with
      | zero =>
        obtain rfl : z = x := by simpa using hx
        exact (chP_mem h5 y (List.mem_of_getElem? (by simpa using hy))).1
      | succ i => exact ih h5 (i := i) (j := j) (by omega) (by simpa using hx) (by simpa using hy)
theorem findP_at {v : Int} {l : List Pd} (h : chP v l = true) (u : Int) : findP l u = match l[atP l u]? with
    | some x => if x.pid = u then some x else none
    | none => none := by
  induction l generalizing v with
  | nil => rfl
  | cons z l ih =>
    obtain ⟨⟨⟨h1, h2, h3⟩, h4⟩, h5⟩ := chP_cons.1 h
    rw [findP_cons]
    unfold atP
    by_cases hz : z.pid < u
    · rw [if_pos hz, if_neg (by omega), ih h5]
      rfl
    · rw [if_neg hz]
      show _ = if z.pid = u then some z else none
      by_cases he : z.pid = u
      · rw [if_pos he, if_pos he]
      · rw [if_neg he, if_neg he]
        exact findP_low h5 (by omega)
theorem with_at (l : List Pd) (p : Pd) : withP l p = l.take (atP l p.pid) ++ p :: l.drop (match l[atP l p.pid]? with
    | some x => if x.pid = p.pid then atP l p.pid + 1 else atP l p.pid
    | none => atP l p.pid) := by
  induction l with
  | nil => rfl
  | cons z l ih =>
    unfold withP atP
    by_cases h1 : z.pid < p.pid
    · rw [if_neg (by omega), if_neg (by omega), if_pos h1, ih]
      show z :: (_ ++ _) = _
      rw [List.take_succ_cons, List.cons_append, List.getElem?_cons_succ]
      cases hg : l[atP l p.pid]? with
      | none => rfl
      | some x =>
        simp only
        split <;> rfl
    · by_cases h2 : z.pid = p.pid
      · rw [if_neg (by omega), if_pos h2, if_neg h1]
        simp [h2]
      · rw [if_pos (by omega), if_neg h1]
        simp [h2]
theorem with_set {l : List Pd} {p x : Pd} (hx : l[atP l p.pid]? = some x) (he : x.pid = p.pid) : withP l p = l.set (atP l p.pid) p := by
  rw [with_at, hx]
  simp only
  rw [if_pos he, List.set_eq_take_append_cons_drop, if_pos (List.getElem?_eq_some_iff.1 hx).1]
theorem with_ins {l : List Pd} {p : Pd} (h : ∀ x, l[atP l p.pid]? = some x → x.pid ≠ p.pid) : withP l p = l.take (atP l p.pid) ++ p :: l.drop (atP l p.pid) := by
  rw [with_at]
  cases hg : l[atP l p.pid]? with
  | none => rfl
  | some x => simp only; rw [if_neg (h x hg)]
def metP (l : List Pd) (b : Bt) : Pd := match findP l b.pid with
  | some p => if b.gen ≤ p.gen then p else ⟨b.pid, b.gen, []⟩
  | none => ⟨b.pid, b.gen, []⟩
def nextQ (l : List Dd) : Int := match l.getLast? with
  | none => 0
  | some y => y.la + 1
def hasD (l : List Dd) (b : Bt) : Option Dd := l.find? fun x => decide (x.sq = b.seq ∧ x.la = lastN b)
def lookM (p : Pd) (b : Bt) : Int × Bool × Int :=
  if b.gen < p.gen then (0, false, 110) else if b.pid < 0 ∨ b.ctl ≠ 0 then (0, false, 0)
  else match hasD p.did b with
    | some x => (x.ba, true, 0)
    | none => if b.seq ≠ nextQ p.did then (0, false, 111) else (0, false, 0)
theorem seq_is {d : List Dd} {b : Bt} (h : d ≠ []) : seqP d b = match hasD d b with
    | some x => (x.ba, true, 0)
    | none => if b.seq ≠ nextQ d then (0, false, 111) else (0, false, 0) := by
  unfold seqP hasD nextQ
  cases d.find? fun x => decide (x.sq = b.seq ∧ x.la = lastN b) with
  | some x => rfl
  | none =>
    simp only
    cases hg : d.getLast? with
    | none => exact absurd (List.getLast?_eq_none_iff.1 hg) h
    | some y =>
      simp only
      by_cases hs : b.seq = y.la + 1
      · rw [if_pos hs, if_neg (fun h9 => h9 hs)]
      · rw [if_neg hs, if_pos hs]
theorem met_pid (l : List Pd) (b : Bt) : (metP l b).pid = b.pid := by
  unfold metP
  cases h : findP l b.pid with
  | none => rfl
  | some p => simp only; split
              · exact (findP_some h).2
              · rfl
theorem met_gen (l : List Pd) (b : Bt) : b.gen ≤ (metP l b).gen := by
  unfold metP
  cases h : findP l b.pid with
  | none => exact Int.le_refl _
  | some p => simp only; split
              · assumption
              · exact Int.le_refl _
theorem met_ok {l : List Pd} {b : Bt} (hC : ckP l = 0) : chD none (metP l b).did = true ∧ (metP l b).did.length ≤ 5 := by
  unfold metP
  cases h : findP l b.pid with
  | none => exact ⟨rfl, by simp⟩
  | some p =>
    have h1 := (find_ok hC h).1
    unfold didOk at h1
    rw [Bool.and_eq_true, decide_eq_true_eq] at h1
    simp only
    split
    · exact h1
    · exact ⟨rfl, by simp⟩
theorem met_none {l : List Pd} {b : Bt} (h : findP l b.pid = none) : metP l b = ⟨b.pid, b.gen, []⟩ := by unfold metP; rw [h]
theorem met_some {l : List Pd} {b : Bt} {p : Pd} (h : findP l b.pid = some p) (hg : b.gen ≤ p.gen) : metP l b = p := by unfold metP; rw [h]; exact if_pos hg
theorem met_old {l : List Pd} {b : Bt} {p : Pd} (h : findP l b.pid = some p) (hg : p.gen < b.gen) : metP l b = ⟨b.pid, b.gen, []⟩ := by unfold metP; rw [h]; exact if_neg (by omega)
theorem lookM_new {b : Bt} (hp : ¬ b.pid < 0) (hc : b.ctl = 0) : lookM ⟨b.pid, b.gen, []⟩ b = if b.seq = 0 then (0, false, 0) else (0, false, 111) := by
  unfold lookM
  rw [if_neg (show ¬ b.gen < (⟨b.pid, b.gen, []⟩ : Pd).gen from Int.lt_irrefl _), if_neg (show ¬ (b.pid < 0 ∨ b.ctl ≠ 0) from fun h9 => h9.elim hp fun h8 => h8 hc)]
  show (if b.seq ≠ 0 then ((0 : Int), false, (111 : Int)) else (0, false, 0)) = _
  by_cases hs : b.seq = 0
  · rw [if_pos hs, if_neg (fun h9 => h9 hs)]
  · rw [if_neg hs, if_pos hs]
theorem lookM_gen {p : Pd} {b : Bt} (h : b.gen < p.gen) : lookM p b = (0, false, 110) := if_pos h
theorem lookM_ctl {p : Pd} {b : Bt} (h : ¬ b.gen < p.gen) (hc : b.pid < 0 ∨ b.ctl ≠ 0) : lookM p b = (0, false, 0) := by unfold lookM; rw [if_neg h, if_pos hc]
theorem look_met {l : List Pd} {b : Bt} (hC : ckP l = 0) (hB : chB b = 0) : lookP l b = lookM (metP l b) b := by
  have hfm := (chB_form hB).1
  have h1 := hfm.pid0
  unfold lookP
  rw [if_neg (fun h9 => h9 hC), if_neg (fun h9 => h9 hB)]
  by_cases hp : b.pid = -1
  · rw [if_pos hp, met_none (findP_low (ckP_iff.1 hC).2 (by omega)), lookM_ctl (Int.lt_irrefl _) (.inl (by omega))]
  rw [if_neg hp]
  have hp0 : ¬ b.pid < 0 := by omega
  cases hf : findP l b.pid with
  | none =>
    simp only
    rw [met_none hf]
    by_cases hc : b.ctl = 0
    · rw [if_neg (show ¬ b.ctl ≠ 0 from fun h9 => h9 hc), lookM_new hp0 hc]
    · rw [if_pos (show b.ctl ≠ 0 from hc), lookM_ctl (Int.lt_irrefl _) (.inr hc)]
  | some p =>
    simp only
    by_cases hg : b.gen < p.gen
    · rw [if_pos hg, met_some hf (by omega), lookM_gen hg]
    rw [if_neg hg]
    by_cases hlt : p.gen < b.gen
    · rw [met_old hf hlt]
      by_cases hc : b.ctl = 0
      · rw [if_neg (show ¬ b.ctl ≠ 0 from fun h9 => h9 hc), if_pos (show p.gen < b.gen ∨ p.did = [] from .inl hlt), lookM_new hp0 hc]
      · rw [if_pos (show b.ctl ≠ 0 from hc), lookM_ctl (Int.lt_irrefl _) (.inr hc)]
    rw [met_some hf (by omega)]
    by_cases hc : b.ctl = 0
    case neg => rw [if_pos (show b.ctl ≠ 0 from hc), lookM_ctl hg (.inr hc)]
    rw [if_neg (show ¬ b.ctl ≠ 0 from fun h9 => h9 hc)]
    unfold lookM
    rw [if_neg hg, if_neg (show ¬ (b.pid < 0 ∨ b.ctl ≠ 0) from fun h9 => h9.elim hp0 fun h8 => h8 hc)]
    by_cases hd : p.did = []
    · rw [if_pos (show p.gen < b.gen ∨ p.did = [] from .inr hd), hd]
      show _ = if b.seq ≠ 0 then ((0 : Int), false, (111 : Int)) else (0, false, 0)
      by_cases hs : b.seq = 0
      · rw [if_pos hs, if_neg (fun h9 => h9 hs)]
      · rw [if_neg hs, if_pos hs]
    · rw [if_neg (show ¬ (p.gen < b.gen ∨ p.did = []) from fun h9 => h9.elim hlt hd), seq_is hd]
def bhP (p : Pd) (b : Bt) : Pd := if b.ctl = 0 then ⟨p.pid, p.gen, five (p.did ++ [didB b])⟩ else p
theorem pd_eq {p q : Pd} (h1 : p.pid = q.pid) (h2 : p.gen = q.gen) (h3 : p.did = q.did) : p = q := by
  cases p; cases q; simp only at h1 h2 h3; rw [h1, h2, h3]
theorem five_same {l : List Dd} (h : l.length ≤ 5) : five l = l := if_neg (by omega)
theorem written_is {l : List Pd} {b : Bt} (hC : ckP l = 0) (hg : ¬ b.gen < (metP l b).gen) : writtenP l b = bhP (metP l b) b := by
  have h1 := met_gen l b
  have h3 := (met_ok (b := b) hC).2
  have h4 := met_pid l b
  have key : ∀ d : List Dd, d = (metP l b).did → (⟨b.pid, b.gen, five (d ++ if b.ctl = 0 then [didB b] else [])⟩ : Pd) = bhP (metP l b) b := by
    rintro d rfl
    unfold bhP
    by_cases hc : b.ctl = 0
    · rw [if_pos hc, if_pos hc, h4, show (metP l b).gen = b.gen by omega]
    · rw [if_neg hc, if_neg hc, List.append_nil, five_same h3]
      exact pd_eq h4.symm (by show b.gen = _; omega) rfl
  unfold writtenP
  refine key _ ?_
  unfold freshP
  cases hf : findP l b.pid with
  | none => rw [met_none hf]; rfl
  | some p =>
    simp only
    by_cases hlt : p.gen < b.gen
    · rw [decide_eq_true hlt, met_old hf hlt]; rfl
    · rw [met_some hf (by omega), decide_eq_false hlt]
      cases hd : p.did with
      | nil => rfl
      | cons d m => rfl
theorem there_has {l : List Pd} {b : Bt} {x : Int} (hC : ckP l = 0) (hB : chB b = 0) (h : lookP l b = (x, true, 0)) : findP l b.pid ≠ none := by
  intro hf
  unfold lookP at h
  rw [if_neg (fun h9 => h9 hC), if_neg (fun h9 => h9 hB)] at h
  by_cases hp : b.pid = -1
  · rw [if_pos hp] at h
    exact absurd (congrArg (·.2.1) h) (by simp)
  rw [if_neg hp, hf] at h
  simp only at h
  split at h
  · exact absurd (congrArg (·.2.1) h) (by simp)
  · split at h <;> exact absurd (congrArg (·.2.1) h) (by simp)
theorem put_is {l : List Pd} {b : Bt} (hC : ckP l = 0) (hB : chB b = 0) {x : Int} {t : Bool} {e : Int} (hL : lookM (metP l b) b = (x, t, e)) :
    putP l b = if e ≠ 0 then ([], e) else if t = true ∨ b.pid < 0 then (l, 0) else if findP l b.pid = none ∧ l.length = 1024 then ([], 2) else (withP l (bhP (metP l b) b), 0) := by
  have hfm := (chB_form hB).1
  have h1 := hfm.pid0
  have hlen := (ckP_iff.1 hC).1
  have hLP : lookP l b = (x, t, e) := (look_met hC hB).trans hL
  have hfl : fullP l b = decide (b.pid ≠ -1 ∧ findP l b.pid = none ∧ 1024 ≤ l.length) := rfl
  unfold putP
  rw [hLP]
  simp only
  by_cases he : e = 0
  case neg => rw [if_pos (show e ≠ 0 from he), if_pos (show e ≠ 0 from he)]
  rw [if_neg (show ¬ e ≠ 0 from fun h9 => h9 he), if_neg (show ¬ e ≠ 0 from fun h9 => h9 he)]
  have hg : ¬ b.gen < (metP l b).gen := fun h9 => by
    rw [lookM_gen h9] at hL
    have h8 : (110 : Int) = e := congrArg (·.2.2) hL
    omega
  by_cases hp : b.pid = -1
  · have hf : fullP l b = false := by rw [hfl]; exact decide_eq_false (fun h9 => h9.1 hp)
    rw [hf, if_neg Bool.false_ne_true, if_pos (show t = true ∨ b.pid = -1 from .inr hp), if_pos (show t = true ∨ b.pid < 0 from .inr (by omega))]
  have hp0 : ¬ b.pid < 0 := by omega
  by_cases ht : t = true
  · have hf : fullP l b = false := by
      rw [hfl]
      refine decide_eq_false (fun h9 => ?_)
      subst ht; subst he
      exact there_has hC hB hLP h9.2.1
    rw [hf, if_neg Bool.false_ne_true, if_pos (show t = true ∨ b.pid = -1 from .inl ht), if_pos (show t = true ∨ b.pid < 0 from .inl ht)]
  · rw [if_neg (show ¬ (t = true ∨ b.pid = -1) from fun h9 => h9.elim ht hp), if_neg (show ¬ (t = true ∨ b.pid < 0) from fun h9 => h9.elim ht hp0), written_is hC hg]
    by_cases hf : findP l b.pid = none ∧ l.length = 1024
    · have h2 : fullP l b = true := by rw [hfl]; exact decide_eq_true ⟨hp, hf.1, by omega⟩
      rw [if_pos hf, if_pos h2]
    · have h2 : fullP l b = false := by rw [hfl]; exact decide_eq_false (fun h9 => hf ⟨h9.2.1, by omega⟩)
      rw [if_neg hf, h2, if_neg Bool.false_ne_true]
end Go.Proofs.YtllebgadhhgckaaDoor.Sqs
