/- Joined: SqsM5, SqsD4. -/
import Derived.Test.YtllebgadhhgckaaDoorJ15
/- A batch's producer as the batch meets it, and what is put: the landed words, in the document's. Nothing of the program. -/
namespace Go.Proofs.YtllebgadhhgckaaDoor.Sqs
open Oct Rec Crc Bat Seg

def atP : List Pd → Int → Nat
  | [], _ => 0
  | x :: l, v => if x.pid < v then atP l v + 1 else 0
theorem atP_le (l : List Pd) (v : Int) : atP l v ≤ l.length := by
  induction l with
  | nil => exact Nat.le_refl _
  | cons x l ih => unfold atP; split <;> simp only [List.length_cons] <;> omega
theorem atP_eq {l : List Pd} {v : Int} {i : Nat} (hi : i ≤ l.length) (h1 : ∀ k x, k < i → l[k]? = some x → x.pid < v) (h2 : ∀ x, l[i]? = some x → v ≤ x.pid) : atP l v = i := by
  induction l generalizing i with
  | nil => simp only [List.length_nil] at hi; unfold atP; omega
  | cons x l ih =>
    cases i with
    | zero =>
      have := h2 x rfl
      unfold atP
      rw [if_neg (by omega)]
    | succ i =>
      have := h1 0 x (by omega) rfl
      unfold atP
      rw [if_pos this, ih (by simpa using hi) (fun k y hk hy => h1 (k + 1) y (by omega) (by simpa using hy)) (fun y hy => h2 y (by simpa using hy))]
theorem chP_lt {v : Int} {l : List Pd} (h : chP v l = true) {i j : Nat} {x y : Pd} (hij : i < j) (hx : l[i]? = some x) (hy : l[j]? = some y) : x.pid < y.pid := by
  induction l generalizing v i j with
  | nil => simp at hx
  | cons z l ih =>
    obtain ⟨_, h5⟩ := chP_cons.1 h
    cases j with
    | zero => omega
    | succ j =>
      cases i with
      | zero =>
        obtain rfl : z = x := by simpa using hx
        exact (chP_mem h5 y (List.mem_of_getElem? (by simpa using hy))).1
      | succ i => exact ih h5 (i := i) (j := j) (by omega) (by simpa using hx) (by simpa using hy)
theorem findP_at {v : Int} {l : List Pd} (h : chP v l = true) (u : Int) : findP l u = match l[atP l u]? with
    | some x => if x.pid = u then some x else none
    | none => none := by
  induction l generalizing v with
  | nil => rfl
  | cons z l ih =>
    obtain ⟨⟨⟨h1, h2, h3⟩, h4⟩, h5⟩ := chP_cons.1 h
    rw [findP_cons]
    unfold atP
    by_cases hz : z.pid < u
    · rw [if_pos hz, if_neg (by omega), ih h5]
      rfl
    · rw [if_neg hz]
      show _ = if z.pid = u then some z else none
      by_cases he : z.pid = u
      · rw [if_pos he, if_pos he]
      · rw [if_neg he, if_neg he]
        exact findP_low h5 (by omega)
theorem with_at (l : List Pd) (p : Pd) : withP l p = l.take (atP l p.pid) ++ p :: l.drop (match l[atP l p.pid]? with
    | some x => if x.pid = p.pid then atP l p.pid + 1 else atP l p.pid
    | none => atP l p.pid) := by
  induction l with
  | nil => rfl
  | cons z l ih =>
    unfold withP atP
    by_cases h1 : z.pid < p.pid
    · rw [if_neg (by omega), if_neg (by omega), if_pos h1, ih]
      show z :: (_ ++ _) = _
      rw [List.take_succ_cons, List.cons_append, List.getElem?_cons_succ]
      cases hg : l[atP l p.pid]? with
      | none => rfl
      | some x =>
        simp only
        split <;> rfl
    · by_cases h2 : z.pid = p.pid
      · rw [if_neg (by omega), if_pos h2, if_neg h1]
        simp [h2]
      · rw [if_pos (by omega), if_neg h1]
        simp [h2]
theorem with_set {l : List Pd} {p x : Pd} (hx : l[atP l p.pid]? = some x) (he : x.pid = p.pid) : withP l p = l.set (atP l p.pid) p := by
  rw [with_at, hx]
  simp only
  rw [if_pos he, List.set_eq_take_append_cons_drop, if_pos (List.getElem?_eq_some_iff.1 hx).1]
theorem with_ins {l : List Pd} {p : Pd} (h : ∀ x, l[atP l p.pid]? = some x → x.pid ≠ p.pid) : withP l p = l.take (atP l p.pid) ++ p :: l.drop (atP l p.pid) := by
  rw [with_at]
  cases hg : l[atP l p.pid]? with
  | none => rfl
  | some x => simp only; rw [if_neg (h x hg)]
def metP (l : List Pd) (b : Bt) : Pd := match findP l b.pid with
  | some p => if b.gen ≤ p.gen then p else ⟨b.pid, b.gen, []⟩
  | none => ⟨b.pid, b.gen, []⟩
def nextQ (l : List Dd) : Int := match l.getLast? with
  | none => 0
  | some y => y.la + 1
def hasD (l : List Dd) (b : Bt) : Option Dd := l.find? fun x => decide (x.sq = b.seq ∧ x.la = lastN b)
def lookM (p : Pd) (b : Bt) : Int × Bool × Int :=
  if b.gen < p.gen then (0, false, 110) else if b.pid < 0 ∨ b.ctl ≠ 0 then (0, false, 0)
  else match hasD p.did b with
    | some x => (x.ba, true, 0)
    | none => if b.seq ≠ nextQ p.did then (0, false, 111) else (0, false, 0)
theorem seq_is {d : List Dd} {b : Bt} (h : d ≠ []) : seqP d b = match hasD d b with
    | some x => (x.ba, true, 0)
    | none => if b.seq ≠ nextQ d then (0, false, 111) else (0, false, 0) := by
  unfold seqP hasD nextQ
  cases d.find? fun x => decide (x.sq = b.seq ∧ x.la = lastN b) with
  | some x => rfl
  | none =>
    simp only
    cases hg : d.getLast? with
    | none => exact absurd (List.getLast?_eq_none_iff.1 hg) h
    | some y =>
      simp only
      by_cases hs : b.seq = y.la + 1
      · rw [if_pos hs, if_neg (fun h9 => h9 hs)]
      · rw [if_neg hs, if_pos hs]
theorem met_pid (l : List Pd) (b : Bt) : (metP l b).pid = b.pid := by
  unfold metP
  cases h : findP l b.pid with
  | none => rfl
  | some p => simp only; split
              · exact (findP_some h).2
              · rfl
theorem met_gen (l : List Pd) (b : Bt) : b.gen ≤ (metP l b).gen := by
  unfold metP
  cases h : findP l b.pid with
  | none => exact Int.le_refl _
  | some p => simp only; split
              · assumption
              · exact Int.le_refl _
theorem met_ok {l : List Pd} {b : Bt} (hC : ckP l = 0) : chD none (metP l b).did = true ∧ (metP l b).did.length ≤ 5 := by
  unfold metP
  cases h : findP l b.pid with
  | none => exact ⟨rfl, by simp⟩
  | some p =>
    have h1 := (find_ok hC h).1
    unfold didOk at h1
    rw [Bool.and_eq_true, decide_eq_true_eq] at h1
    simp only
    split
    · exact h1
    · exact ⟨rfl, by simp⟩
theorem met_none {l : List Pd} {b : Bt} (h : findP l b.pid = none) : metP l b = ⟨b.pid, b.gen, []⟩ := by unfold metP; rw [h]
theorem met_some {l : List Pd} {b : Bt} {p : Pd} (h : findP l b.pid = some p) (hg : b.gen ≤ p.gen) : metP l b = p := by unfold metP; rw [h]; exact if_pos hg
theorem met_old {l : List Pd} {b : Bt} {p : Pd} (h : findP l b.pid = some p) (hg : p.gen < b.gen) : metP l b = ⟨b.pid, b.gen, []⟩ := by unfold metP; rw [h]; exact if_neg (by omega)
theorem lookM_new {b : Bt} (hp : ¬ b.pid < 0) (hc : b.ctl = 0) : lookM ⟨b.pid, b.gen, []⟩ b = if b.seq = 0 then (0, false, 0) else (0, false, 111) := by
  unfold lookM
  rw [if_neg (show ¬ b.gen < (⟨b.pid, b.gen, []⟩ : Pd).gen from Int.lt_irrefl _), if_neg (show ¬ (b.pid < 0 ∨ b.ctl ≠ 0) from fun h9 => h9.elim hp fun h8 => h8 hc)]
  show (if b.seq ≠ 0 then ((0 : Int), false, (111 : Int)) else (0, false, 0)) = _
  by_cases hs : b.seq = 0
  · rw [if_pos hs, if_neg (fun h9 => h9 hs)]
  · rw [if_neg hs, if_pos hs]
theorem lookM_gen {p : Pd} {b : Bt} (h : b.gen < p.gen) : lookM p b = (0, false, 110) := if_pos h
theorem lookM_ctl {p : Pd} {b : Bt} (h : ¬ b.gen < p.gen) (hc : b.pid < 0 ∨ b.ctl ≠ 0) : lookM p b = (0, false, 0) := by unfold lookM; rw [if_neg h, if_pos hc]
theorem look_met {l : List Pd} {b : Bt} (hC : ckP l = 0) (hB : chB b = 0) : lookP l b = lookM (metP l b) b := by
  have hfm := (chB_form hB).1
  have h1 := hfm.pid0
  unfold lookP
  rw [if_neg (fun h9 => h9 hC), if_neg (fun h9 => h9 hB)]
  by_cases hp : b.pid = -1
  · rw [if_pos hp, met_none (findP_low (ckP_iff.1 hC).2 (by omega)), lookM_ctl (Int.lt_irrefl _) (.inl (by omega))]
  rw [if_neg hp]
  have hp0 : ¬ b.pid < 0 := by omega
  cases hf : findP l b.pid with
  | none =>
    simp only
    rw [met_none hf]
    by_cases hc : b.ctl = 0
    · rw [if_neg (show ¬ b.ctl ≠ 0 from fun h9 => h9 hc), lookM_new hp0 hc]
    · rw [if_pos (show b.ctl ≠ 0 from hc), lookM_ctl (Int.lt_irrefl _) (.inr hc)]
  | some p =>
    simp only
    by_cases hg : b.gen < p.gen
    · rw [if_pos hg, met_some hf (by omega), lookM_gen hg]
    rw [if_neg hg]
    by_cases hlt : p.gen < b.gen
    · rw [met_old hf hlt]
      by_cases hc : b.ctl = 0
      · rw [if_neg (show ¬ b.ctl ≠ 0 from fun h9 => h9 hc), if_pos (show p.gen < b.gen ∨ p.did = [] from .inl hlt), lookM_new hp0 hc]
      · rw [if_pos (show b.ctl ≠ 0 from hc), lookM_ctl (Int.lt_irrefl _) (.inr hc)]
    rw [met_some hf (by omega)]
    by_cases hc : b.ctl = 0
    case neg => rw [if_pos (show b.ctl ≠ 0 from hc), lookM_ctl hg (.inr hc)]
    rw [if_neg (show ¬ b.ctl ≠ 0 from fun h9 => h9 hc)]
    unfold lookM
    rw [if_neg hg, if_neg (show ¬ (b.pid < 0 ∨ b.ctl ≠ 0) from fun h9 => h9.elim hp0 fun h8 => h8 hc)]
    by_cases hd : p.did = []
    · rw [if_pos (show p.gen < b.gen ∨ p.did = [] from .inr hd), hd]
      show _ = if b.seq ≠ 0 then ((0 : Int), false, (111 : Int)) else (0, false, 0)
      by_cases hs : b.seq = 0
      · rw [if_pos hs, if_neg (fun h9 => h9 hs)]
      · rw [if_neg hs, if_pos hs]
    · rw [if_neg (show ¬ (p.gen < b.gen ∨ p.did = []) from fun h9 => h9.elim hlt hd), seq_is hd]
def bhP (p : Pd) (b : Bt) : Pd := if b.ctl = 0 then ⟨p.pid, p.gen, five (p.did ++ [didB b])⟩ else p
theorem pd_eq {p q : Pd} (h1 : p.pid = q.pid) (h2 : p.gen = q.gen) (h3 : p.did = q.did) : p = q := by
  cases p; cases q; simp only at h1 h2 h3; rw [h1, h2, h3]
theorem five_same {l : List Dd} (h : l.length ≤ 5) : five l = l := if_neg (by omega)
theorem written_is {l : List Pd} {b : Bt} (hC : ckP l = 0) (hg : ¬ b.gen < (metP l b).gen) : writtenP l b = bhP (metP l b) b := by
  have h1 := met_gen l b
  have h3 := (met_ok (b := b) hC).2
  have h4 := met_pid l b
  have key : ∀ d : List Dd, d = (metP l b).did → (⟨b.pid, b.gen, five (d ++ if b.ctl = 0 then [didB b] else [])⟩ : Pd) = bhP (metP l b) b := by
    rintro d rfl
    unfold bhP
    by_cases hc : b.ctl = 0
    · rw [if_pos hc, if_pos hc, h4, show (metP l b).gen = b.gen by omega]
    · rw [if_neg hc, if_neg hc, List.append_nil, five_same h3]
      exact pd_eq h4.symm (by show b.gen = _; omega) rfl
  unfold writtenP
  refine key _ ?_
  unfold freshP
  cases hf : findP l b.pid with
  | none => rw [met_none hf]; rfl
  | some p =>
    simp only
    by_cases hlt : p.gen < b.gen
    · rw [decide_eq_true hlt, met_old hf hlt]; rfl
    · rw [met_some hf (by omega), decide_eq_false hlt]
      cases hd : p.did with
      | nil => rfl
      | cons d m => rfl
theorem there_has {l : List Pd} {b : Bt} {x : Int} (hC : ckP l = 0) (hB : chB b = 0) (h : lookP l b = (x, true, 0)) : findP l b.pid ≠ none := by
  intro hf
  unfold lookP at h
  rw [if_neg (fun h9 => h9 hC), if_neg (fun h9 => h9 hB)] at h
  by_cases hp : b.pid = -1
  · rw [if_pos hp] at h
    exact absurd (congrArg (·.2.1) h) (by simp)
  rw [if_neg hp, hf] at h
  simp only at h
  split at h
  · exact absurd (congrArg (·.2.1) h) (by simp)
  · split at h <;> exact absurd (congrArg (·.2.1) h) (by simp)
theorem put_is {l : List Pd} {b : Bt} (hC : ckP l = 0) (hB : chB b = 0) {x : Int} {t : Bool} {e : Int} (hL : lookM (metP l b) b = (x, t, e)) :
    putP l b = if e ≠ 0 then ([], e) else if t = true ∨ b.pid < 0 then (l, 0) else if findP l b.pid = none ∧ l.length = 1024 then ([], 2) else (withP l (bhP (metP l b) b), 0) := by
  have hfm := (chB_form hB).1
  have h1 := hfm.pid0
  have hlen := (ckP_iff.1 hC).1
  have hLP : lookP l b = (x, t, e) := (look_met hC hB).trans hL
  have hfl : fullP l b = decide (b.pid ≠ -1 ∧ findP l b.pid = none ∧ 1024 ≤ l.length) := rfl
  unfold putP
  rw [hLP]
  simp only
  by_cases he : e = 0
  case neg => rw [if_pos (show e ≠ 0 from he), if_pos (show e ≠ 0 from he)]
  rw [if_neg (show ¬ e ≠ 0 from fun h9 => h9 he), if_neg (show ¬ e ≠ 0 from fun h9 => h9 he)]
  have hg : ¬ b.gen < (metP l b).gen := fun h9 => by
    rw [lookM_gen h9] at hL
    have h8 : (110 : Int) = e := congrArg (·.2.2) hL
    omega
  by_cases hp : b.pid = -1
  · have hf : fullP l b = false := by rw [hfl]; exact decide_eq_false (fun h9 => h9.1 hp)
    rw [hf, if_neg Bool.false_ne_true, if_pos (show t = true ∨ b.pid = -1 from .inr hp), if_pos (show t = true ∨ b.pid < 0 from .inr (by omega))]
  have hp0 : ¬ b.pid < 0 := by omega
  by_cases ht : t = true
  · have hf : fullP l b = false := by
      rw [hfl]
      refine decide_eq_false (fun h9 => ?_)
      subst ht; subst he
      exact there_has hC hB hLP h9.2.1
    rw [hf, if_neg Bool.false_ne_true, if_pos (show t = true ∨ b.pid = -1 from .inl ht), if_pos (show t = true ∨ b.pid < 0 from .inl ht)]
  · rw [if_neg (show ¬ (t = true ∨ b.pid = -1) from fun h9 => h9.elim ht hp), if_neg (show ¬ (t = true ∨ b.pid < 0) from fun h9 => h9.elim ht hp0), written_is hC hg]
    by_cases hf : findP l b.pid = none ∧ l.length = 1024
    · have h2 : fullP l b = true := by rw [hfl]; exact decide_eq_true ⟨hp, hf.1, by omega⟩
      rw [if_pos hf, if_pos h2]
    · have h2 : fullP l b = false := by rw [hfl]; exact decide_eq_false (fun h9 => hf ⟨h9.2.1, by omega⟩)
      rw [if_neg hf, h2, if_neg Bool.false_ne_true]
end Go.Proofs.YtllebgadhhgckaaDoor.Sqs

/- The landed seqs: sort.Search over find's closure, find. -/
namespace Go.Proofs.YtllebgadhhgckaaDoor.Sqs
open Go.RowKit Oct RowF RowK Lay Bat InR
open Epo (At0 belA)

abbrev RdH (w : World) (B : Nat) (A : Option Addr) (n : Nat) (hs : List (KX Pd)) : Prop := RdF prC 3 w B A n hs
theorem rdhUp {w w' : World} {A : Option Addr} {n : Nat} {hs : List (KX Pd)} (h : RdH w w.heap.size A n hs) (hb : Below w.heap.size w w') : RdH w' w'.heap.size A n hs := (RdF.below h hb (Nat.le_refl _)).more hb.size
theorem row_at {w : World} {B n k : Nat} {A : Option Addr} {hs : List (KX Pd)} {l : List Pd} (h : RdH w B A n hs) (hl : hs.map (·.1) = l) (hk : k < n) : ∃ b o x A' n' c', A = some ⟨b, o, none⟩ ∧ b < B ∧ l[k]? = some x ∧ hs[k]? = some (x, A', n', c') ∧ w.cell? ⟨b, o + k * 3, none⟩ = some (.int .i64 x.pid) ∧ w.cell? ⟨b, o + k * 3 + 1, none⟩ = some (.int .i64 x.gen) ∧ w.cell? ⟨b, o + k * 3 + 2, none⟩ = some (.slice A' n' c') := by
  obtain ⟨b, o, ⟨x, A', n', c'⟩, hA, hb, hx, hc⟩ := h.at hk
  exact ⟨b, o, x, A', n', c', hA, hb, by rw [← hl, List.getElem?_map, hx]; rfl, hx, hc 0 _ rfl, hc 1 _ rfl, hc 2 _ rfl⟩
theorem row_len {w : World} {B n : Nat} {A : Option Addr} {hs : List (KX Pd)} {l : List Pd} (h : RdH w B A n hs) (hl : hs.map (·.1) = l) : l.length = n := by rw [← hl, List.length_map]; exact h.len
theorem fd1_is (A : Option Addr) (n c : Nat) (hs : List (KX Pd)) (l : List Pd) (hls : hs.map (·.1) = l) (g1 g2 : Nat) (v : Int) (w : World) (hr : RdH w w.heap.size A n hs) (h1 : w.cell? ⟨g1, 0, none⟩ = some (.slice A n c)) (h2 : w.cell? ⟨g2, 0, none⟩ = some (.int .i64 v)) {k : Nat} {x : Pd} (hx : l[k]? = some x) {z : Bool} (hz : decide (v ≤ x.pid) = z) :
    Calls Tryd.prog 89 #[.int .i64 (k : Int), .pointer (some ⟨g1, 0, none⟩), .pointer (some ⟨g2, 0, none⟩)] w fun e w' => e = .returned (.bool z) ∧ Below w.heap.size w w' := by
  have hl := row_len hr hls
  have hkn : k < n := by have := (List.getElem?_eq_some_iff.1 hx).1; omega
  obtain ⟨b, o, y, A', n', c', rfl, hb, hy, _, d0, _, _⟩ := row_at hr hls hkn
  obtain rfl : y = x := Option.some.inj (hy.symm.trans hx)
  have hkl : (k : Int) < (n : Int) := by omega
  subst hz
  clear hr hx hy hl hb hkn hls
  go_enter Tryd.func89, Tryd.ntmps89
  go_wp2
  go_big_region
  go_wp2
  go_ret
  exact ⟨by simp, bel_drew (Below.refl _ _)⟩
def fdRel (l : List Pd) (v : Int) (n : Nat) (w : World) (lv hv : Value) (wr : World) : Prop :=
  ∃ i j : Nat, lv = .int .i64 (i : Int) ∧ hv = .int .i64 (j : Int) ∧ i ≤ j ∧ j ≤ n ∧ (∀ k x, k < i → l[k]? = some x → x.pid < v) ∧ (∀ k x, j ≤ k → l[k]? = some x → v ≤ x.pid) ∧ Below w.heap.size w wr
set_option maxRecDepth 100000 in
set_option maxHeartbeats 8000000 in
theorem search_is (A : Option Addr) (n c : Nat) (hs : List (KX Pd)) (l : List Pd) (hls : hs.map (·.1) = l) (g1 g2 : Nat) (v v0 : Int) (w : World) (hr : RdH w w.heap.size A n hs) (hn : n ≤ 1099511627776) (hc : chP v0 l = true) (h1 : w.cell? ⟨g1, 0, none⟩ = some (.slice A n c)) (h2 : w.cell? ⟨g2, 0, none⟩ = some (.int .i64 v)) (hg1 : g1 < w.heap.size) (hg2 : g2 < w.heap.size) :
    Calls Tryd.prog 88 #[.int .i64 (n : Int), .func (.func 89) #[] #[.pointer (some ⟨g1, 0, none⟩), .pointer (some ⟨g2, 0, none⟩)]] w fun e w' => e = .returned (.int .i64 (atP l v : Int)) ∧ Below w.heap.size w w' := by
  have HR := Lib.hid hr
  have HLEN := Lib.hid (row_len hr hls)
  have HLS := Lib.hid hls
  have HC := Lib.hid hc
  have H1 := Lib.hid h1
  have H2 := Lib.hid h2
  clear hr hc h1 h2 hls
  go_enter Tryd.func88, Tryd.ntmps88
  go_wp2
  go_loopw [5, 6] (fun lv hv wr => fdRel l v n w lv hv wr) (fun lv hv _ => (intOf hv).toNat - (intOf lv).toNat)
  case atStart => exact ⟨0, n, rfl, rfl, Nat.zero_le _, Nat.le_refl _, fun k x h => absurd h (Nat.not_lt_zero _), fun k x h hx => by have := (List.getElem?_eq_some_iff.1 hx).1; have := HLEN.out; omega, Below.refl _ _⟩
  case round =>
    obtain ⟨i, j, rfl, rfl, hij, hjn, hlo, hhi, hb⟩ := hrel
    have HLO := Lib.hid hlo
    have HHI := Lib.hid hhi
    have HB := Lib.hid hb
    have HRR := Lib.hid (rdhUp HR.out hb)
    have k1 := (hb.cell (p := ⟨g1, 0, none⟩) hg1).trans H1.out
    have k2 := (hb.cell (p := ⟨g2, 0, none⟩) hg2).trans H2.out
    clear hlo hhi hb
    by_cases hlt : i < j
    · obtain ⟨m, hm⟩ : ∃ m, (i + j) / 2 = m := ⟨_, rfl⟩
      have hm1 : i ≤ m := by omega
      have hm2 : m < j := by omega
      have e1 : IntKind.i64.wrap ((i : Int) + (j : Int)) = (i : Int) + (j : Int) := IntWalk.i64_in _ (by omega)
      have e2 : IntKind.u64.wrap ((i : Int) + (j : Int)) = (i : Int) + (j : Int) := IntWalk.u64_in _ (by omega)
      have e3 : ((i : Int) + (j : Int)) / 2 = (m : Int) := by omega
      have e4 : IntKind.i64.wrap (m : Int) = (m : Int) := IntWalk.i64_in _ (by omega)
      have e5 : IntKind.i64.wrap ((m : Int) + 1) = (m : Int) + 1 := IntWalk.i64_in _ (by omega)
      have hij2 : (i : Int) < (j : Int) := by omega
      obtain ⟨x, hx⟩ : ∃ x, l[m]? = some x := ⟨l[m]'(by have := HLEN.out; omega), List.getElem?_eq_getElem _⟩
      have HX := Lib.hid hx
      clear hx
      rcases hz : decide (v ≤ x.pid) with _ | _
      · have HZ := Lib.hid hz
        clear hz hm
        go_wp2_with (go_at_call 89; (with_reducible refine (fd1_is A n c hs l HLS.out g1 g2 v _ HRR.out k1 k2 HX.out HZ.out).mono ?_); rintro e w2 ⟨rfl, hb⟩; have HB2 := Lib.hid (Epo.bel_trans HB.out hb); clear hb)
        go_roundw
        case rel => exact ⟨m + 1, j, by go_num, rfl, by omega, by omega, fun k y hk hy => by
            have h5 := of_decide_eq_false HZ.out
            by_cases hkm : k = m
            · subst hkm; obtain rfl := Option.some.inj (hy.symm.trans HX.out); omega
            · have := chP_lt HC.out (i := k) (j := m) (by omega) hy HX.out; omega, HHI.out, HB2.out⟩
        case measure => simp [intOf]; omega
      · have HZ := Lib.hid hz
        clear hz hm
        go_wp2_with (go_at_call 89; (with_reducible refine (fd1_is A n c hs l HLS.out g1 g2 v _ HRR.out k1 k2 HX.out HZ.out).mono ?_); rintro e w2 ⟨rfl, hb⟩; have HB2 := Lib.hid (Epo.bel_trans HB.out hb); clear hb)
        go_roundw
        case rel => exact ⟨i, m, rfl, rfl, hm1, by omega, HLO.out, fun k y hk hy => by
            have h5 := of_decide_eq_true HZ.out
            by_cases hkm : k = m
            · subst hkm; obtain rfl := Option.some.inj (hy.symm.trans HX.out); omega
            · have := chP_lt HC.out (i := m) (j := k) (by omega) HX.out hy; omega, HB2.out⟩
        case measure => simp [intOf]; omega
    · obtain rfl : i = j := by omega
      have HE := Lib.hid (atP_eq (l := l) (v := v) (i := i) (by have := HLEN.out; omega) HLO.out (fun x hx => HHI.out i x (Nat.le_refl _) hx))
      go_wp2
      go_ret
      exact ⟨by rw [HE.out]; rfl, HB.out⟩
set_option maxRecDepth 100000 in
set_option maxHeartbeats 8000000 in
theorem find_is (A : Option Addr) (n c : Nat) (hs : List (KX Pd)) (l : List Pd) (hls : hs.map (·.1) = l) (v v0 : Int) (w : World) (hr : RdH w w.heap.size A n hs) (hn : n ≤ 1099511627776) (hc : chP v0 l = true) {k : Nat} {z : Bool} (hk : atP l v = k) (hz : (match l[k]? with | some x => decide (x.pid = v) | none => false) = z) :
    Calls Tryd.prog 65 #[.slice A n c, .int .i64 v] w fun e w' => e = .returned (.tuple #[.int .i64 (k : Int), .bool z]) ∧ Below w.heap.size w w' := by
  have hmf : ∀ (fn : Fn) (first cap : Array Value) (w : World), (Instr.makeFunc fn first cap).run Tryd.prog w = .ok (.func fn first cap) w := fun _ _ _ _ => rfl
  have b1 := belA w (.cells #[.slice A n c] 22)
  have b2 := belA (w.alloc (.cells #[.slice A n c] 22)) (.cells #[.int .i64 v] 3)
  have h1 := (At0.new w [.slice A n c] 22).below b2
  have h2 := At0.new (w.alloc (.cells #[.slice A n c] 22)) [.int .i64 v] 3
  simp only [World.size_alloc] at h2
  have HB := Lib.hid (Epo.bel_trans b1 b2)
  have HR := Lib.hid (rdhUp hr HB.out)
  have HLEN := Lib.hid (row_len hr hls)
  have HLS := Lib.hid hls
  have H1 := Lib.hid h1
  have H2 := Lib.hid h2
  have HC := Lib.hid hc
  have HK := Lib.hid hk
  have HZ := Lib.hid hz
  have hle := atP_le l v
  rw [hk, row_len hr hls] at hle
  have hlt1 : w.heap.size < ((w.alloc (.cells #[.slice A n c] 22)).alloc (.cells #[.int .i64 v] 3)).heap.size := h1.lt
  have hlt2 : w.heap.size + 1 < ((w.alloc (.cells #[.slice A n c] 22)).alloc (.cells #[.int .i64 v] 3)).heap.size := h2.lt
  clear hr b1 b2 h1 h2 hc hk hz hls
  go_enter Tryd.func65, Tryd.ntmps65
  go_upto_region 1 with fail
  generalize ((w.alloc (.cells #[.slice A n c] 22)).alloc (.cells #[.int .i64 v] 3)) = W at *
  have c1 := H1.out.cell 0
  have c2 := H2.out.cell 0
  simp only [List.getElem?_cons_zero] at c1 c2
  go_upto_region 2 with (go_at_call 88; (with_reducible refine (search_is A n c hs l HLS.out w.heap.size (w.heap.size + 1) v v0 _ HR.out hn HC.out c1 c2 hlt1 hlt2).mono ?_); rw [HK.out]; rintro e w2 ⟨rfl, hb⟩; have HB2 := Lib.hid (Epo.bel_trans HB.out hb); have HR2 := Lib.hid (rdhUp HR.out hb); have HH1 := Lib.hid (H1.out.below hb); have HH2 := Lib.hid (H2.out.below hb); clear hb)
  have e1 := HH1.out.cell 0
  have e2 := HH2.out.cell 0
  simp only [List.getElem?_cons_zero] at e1 e2
  clear c1 c2
  by_cases hkn : k < n
  · obtain ⟨b, o, x, A', n', c', rfl, hb, hx, _, d0, _, _⟩ := row_at HR2.out HLS.out hkn
    have hkl : (k : Int) < (n : Int) := by omega
    have hk0 : (0 : Int) ≤ (k : Int) := by omega
    have HX := Lib.hid hx
    clear hx hb
    by_cases he : x.pid = v
    · have HT := Lib.hid (show z = true from by rw [← HZ.out, HX.out]; exact decide_eq_true he)
      have he2 : (x.pid == v) = true := beq_iff_eq.2 he
      clear he
      go_big_region
      go_wp2
      go_ret2
      exact ⟨by rw [HT.out]; rfl, bel_drew HB2.out⟩
    · have HT := Lib.hid (show z = false from by rw [← HZ.out, HX.out]; exact decide_eq_false he)
      have he2 : (x.pid == v) = false := beq_eq_false_iff_ne.2 he
      clear he
      go_big_region
      go_wp2
      go_ret2
      exact ⟨by rw [HT.out]; rfl, bel_drew HB2.out⟩
  · have HT := Lib.hid (show z = false from by rw [← HZ.out, List.getElem?_eq_none (by have := HLEN.out; omega)])
    have hkl : ¬ (k : Int) < (n : Int) := by omega
    go_big_region
    go_wp2
    go_ret2
    exact ⟨by rw [HT.out]; rfl, bel_drew HB2.out⟩
end Go.Proofs.YtllebgadhhgckaaDoor.Sqs
