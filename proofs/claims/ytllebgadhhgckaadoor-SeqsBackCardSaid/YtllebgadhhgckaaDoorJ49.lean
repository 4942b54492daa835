/- Joined: SqsM4, EpoR1, SqsR8, SqsR10, SqsM8. -/
import Derived.Test.YtllebgadhhgckaaDoorJ15
import Derived.Test.YtllebgadhhgckaaDoorJ11
import Derived.Test.YtllebgadhhgckaaDoorJ13
import Derived.Test.YtllebgadhhgckaaDoorJ18
import Derived.Test.YtllebgadhhgckaaDoorJ34
/- Behind Put its producer is there with the batch's generation; the elder generation is kept out. Nothing of the program. -/
namespace Go.Proofs.YtllebgadhhgckaaDoor.Sqs
open Oct Rec Crc Bat Seg

theorem put_ways {l m : List Pd} {b : Bt} (h : putP l b = (m, 0)) (hp : b.pid ≠ -1) :
    (ckP l = 0 ∧ chB b = 0) ∧ ((∃ x, lookP l b = (x, true, 0) ∧ m = l) ∨ (∃ x, lookP l b = (x, false, 0) ∧ fullP l b = false ∧ m = withP l (writtenP l b))) := by
  unfold putP at h
  rcases hL : lookP l b with ⟨x, t, e⟩
  rw [hL] at h
  simp only at h
  by_cases he : e = 0
  case neg =>
    rw [if_pos he] at h
    exact absurd (congrArg (·.2) h) he
  subst he
  rw [if_neg (fun h9 => h9 rfl)] at h
  refine ⟨look_ok hL, ?_⟩
  by_cases hf : fullP l b = true
  · rw [if_pos hf] at h
    exact absurd (congrArg (·.2) h) (by simp)
  rw [if_neg hf] at h
  by_cases ht : t = true
  · rw [if_pos (.inl ht)] at h
    subst ht
    exact .inl ⟨x, rfl, (congrArg (·.1) h).symm⟩
  · rw [if_neg (fun h9 => h9.elim ht hp)] at h
    have htf : t = false := by cases t with | true => exact absurd rfl ht | false => rfl
    subst htf
    exact .inr ⟨x, rfl, by simpa using hf, (congrArg (·.1) h).symm⟩
theorem there_find {l : List Pd} {b : Bt} {x : Int} (h : lookP l b = (x, true, 0)) : b.pid ≠ -1 ∧ ∃ p, findP l b.pid = some p ∧ p.gen = b.gen ∧ b.ctl = 0 ∧ ∃ d ∈ p.did, d.sq = b.seq ∧ d.la = lastN b ∧ d.ba = x := by
  obtain ⟨hC, hB⟩ := look_ok h
  unfold lookP at h
  rw [if_neg (fun h9 => h9 hC), if_neg (fun h9 => h9 hB)] at h
  by_cases hp : b.pid = -1
  · rw [if_pos hp] at h
    exact absurd (congrArg (·.2.1) h) (by simp)
  rw [if_neg hp] at h
  refine ⟨hp, ?_⟩
  cases hf : findP l b.pid with
  | none =>
    rw [hf] at h
    simp only at h
    split at h
    · exact absurd (congrArg (·.2.1) h) (by simp)
    · split at h <;> exact absurd (congrArg (·.2.1) h) (by simp)
  | some p =>
    rw [hf] at h
    simp only at h
    by_cases h1 : b.gen < p.gen
    · rw [if_pos h1] at h
      exact absurd (congrArg (·.2.1) h) (by simp)
    rw [if_neg h1] at h
    by_cases h2 : b.ctl = 0
    case neg =>
      rw [if_pos h2] at h
      exact absurd (congrArg (·.2.1) h) (by simp)
    rw [if_neg (fun h9 => h9 h2)] at h
    by_cases h3 : p.gen < b.gen ∨ p.did = []
    · rw [if_pos h3] at h
      split at h <;> exact absurd (congrArg (·.2.1) h) (by simp)
    rw [if_neg h3] at h
    unfold seqP at h
    cases hfd : p.did.find? fun x => decide (x.sq = b.seq ∧ x.la = lastN b) with
    | some y =>
      rw [hfd] at h
      have hy0 := List.find?_some hfd
      simp only [decide_eq_true_eq] at hy0
      have hy := hy0
      exact ⟨p, rfl, by omega, h2, y, List.mem_of_find?_eq_some hfd, hy.1, hy.2, congrArg (·.1) h⟩
    | none =>
      rw [hfd] at h
      simp only at h
      split at h
      · exact absurd (congrArg (·.2.1) h) (by simp)
      · split at h <;> exact absurd (congrArg (·.2.1) h) (by simp)
theorem put_find {l m : List Pd} {b : Bt} (h : putP l b = (m, 0)) (hp : b.pid ≠ -1) : ∃ p, findP m b.pid = some p ∧ p.gen = b.gen := by
  obtain ⟨⟨hC, _⟩, ⟨x, hL, rfl⟩ | ⟨x, _, _, rfl⟩⟩ := put_ways h hp
  · obtain ⟨_, p, h1, h2, _⟩ := there_find hL
    exact ⟨p, h1, h2⟩
  · exact ⟨writtenP l b, with_find (p := writtenP l b) (ckP_iff.1 hC).2, rfl⟩
theorem fences {l m : List Pd} {b old : Bt} (h : putP l b = (m, 0)) (hp : b.pid ≠ -1) (ho : chB old = 0) (he : old.pid = b.pid) (hg : old.gen < b.gen) : lookP m old = (0, false, 110) ∧ putP m old = ([], 110) := by
  obtain ⟨p, h1, h2⟩ := put_find h hp
  have hL : lookP m old = (0, false, 110) := by
    unfold lookP
    rw [if_neg (fun h9 => h9 (put_ok h)), if_neg (fun h9 => h9 ho), if_neg (by rw [he]; exact hp), he, h1]
    simp only
    rw [if_pos (by omega)]
  refine ⟨hL, ?_⟩
  unfold putP
  rw [hL, if_pos (by simp)]
theorem others {l m : List Pd} {b : Bt} (h : putP l b = (m, 0)) : m.filter (fun x => decide (x.pid ≠ b.pid)) = l.filter (fun x => decide (x.pid ≠ b.pid)) := by
  by_cases hp : b.pid = -1
  · unfold putP at h
    split at h
    · rename_i h1
      exact absurd (congrArg (·.2) h) h1
    · split at h
      · exact absurd (congrArg (·.2) h) (by simp)
      · rw [if_pos (.inr hp)] at h
        rw [show m = l from (congrArg (·.1) h).symm]
  · obtain ⟨_, ⟨x, _, rfl⟩ | ⟨x, _, _, rfl⟩⟩ := put_ways h hp
    · rfl
    · exact with_others l (writtenP l b)
end Go.Proofs.YtllebgadhhgckaaDoor.Sqs

/- The document's Check, Copy, end and Put. -/
namespace Go.Proofs.YtllebgadhhgckaaDoor.Epo
open Go.RowKit Oct RowF Lay InR

def tb_Check4 : List (Nat × Nat) := [(0, 17592186044415), (1, 17592186044414), (2, 17592186044413), (4, 17592186044411), (8, 17592186044407), (24, 17592186044391), (40, 17592186044375), (72, 17592186044343), (136, 17592186044287), (256, 17592186044159), (768, 17592186043647), (1280, 17592186043135), (2304, 17592186042111), (4352, 17592186040319), (8192, 17592186036223), (24576, 17592186019839), (40960, 17592186003455), (73728, 17592185970687), (139264, 17592185913343), (262144, 17592185782271), (786432, 17592185257983), (1310720, 17592184733695), (2097152, 17592183947263), (6291456, 17592179752959), (2097152, 17592183947263), (2097152, 17592183947263), (35651584, 17592150392831), (85983232, 17592100061183), (136314880, 17592049729535), (270532608, 17591915511807), (547356672, 17591638687743), (1075838976, 17591110205439), (2147483648, 17590038560767), (6442450944, 17585743593471), (2147483648, 17590038560767), (2147483648, 17590038560767), (36507222016, 17555678822399), (88046829568, 17504139214847), (139586437120, 17452599607295), (277025390592, 17315160653823), (560493232128, 17031692812287), (1101661208576, 16490524835839), (2199025614848, 15393160429567), (4398046773248, 13194139271167)]
section
variable {P : Program} {ops : Array Oper} {rest : List Oper} {o : Oper} {a : Act} {Q : Exit → Act → World → Prop} {w w' : World} {vs vx v : Value}
theorem wpList_app_run9 (hgd : o.guard = none) (s x : Operand) (t : TypeId) (ho : o.op = .call { callee := .builtin .append, args := #[s, x], argTypes := #[t, t] }) (hs : a.eval s = vs) (hx : a.eval x = vx)
    (hrun : (Builtin.append_ #[t, t] o.type #[vs, vx]).run P w = .ok v w') (h : wpList P ops Q rest (a.put o.dst v) w') : wpList P ops Q (o :: rest) a w := by
  refine wpList_plain hgd fun K hK => ?_
  unfold Oper.wp execOp
  simp only [ho, resolve, invoke, builtin, Sem.run_bind, Sem.run_pure, Result.andThen_ok, List.map_toArray, List.map_cons, List.map_nil, hs, hx, hrun]
  exact hK _ _ h
end
def prvE (l : List Ep) : Nat → Int × Int
  | 0 => (-1, -1)
  | k + 1 => match l[k]? with | some y => (y.ep, y.st) | none => (-1, -1)
def ckRelE (l : List Ep) (n : Nat) (w : World) (iv : Value) (wr : World) : Prop :=
  ∃ k : Nat, iv = .int .i64 (k : Int) ∧ k ≤ n ∧ okE l = upE (prvE l k).1 (prvE l k).2 (l.drop k) ∧ (-1 ≤ (prvE l k).1 ∧ -1 ≤ (prvE l k).2) ∧ Below w.heap.size w wr
end Go.Proofs.YtllebgadhhgckaaDoor.Epo

/- The document's with: a producer in its place. -/
namespace Go.Proofs.YtllebgadhhgckaaDoor.Sqs
open Go.RowKit Oct Rec RowF RowK Lay Bat InR
open Epo (At0 AtO belA wpList_app_run9)

def withG (p : Pd) : Bool → List Pd → List Pd
  | true, [] => []
  | false, [] => [p]
  | d, x :: l => ((if d = false ∧ p.pid ≤ x.pid then [p] else []) ++ (if x.pid = p.pid then [] else [x])) ++ withG p (d || decide (p.pid ≤ x.pid)) l
theorem run_app1P {w : World} (N B : Nat) (hNB : N ≤ B) {v : Value} {n : Nat} {L : List Pd} (hown : OwnP w (fun b => b < N) B v n L) (x : KX Pd) (hr : RdD w N x.2.1 x.2.2.1 x.1.did) (hc : x.2.2.1 ≤ x.2.2.2) (hm : x.2.2.1 ≤ reach) (hn : n ≤ 1000000) (hN : B ≤ w.heap.size) :
    ∃ A' m c' w', n + 1 = m ∧ (Builtin.append_ #[22, 22] 22 #[v, .slice (some ⟨w.heap.size, 0, none⟩) 1 1]).run Tryd.prog (w.alloc (.cells (prC x).toArray 55)) = .ok (.slice A' m c') w' ∧ OwnP w' (fun b => b < N) B (.slice A' m c') m (L ++ [x.1]) ∧ Below B w w' := by
  have hb := belA w (.cells (prC x).toArray 55)
  have ho := OwnK.below hown hb
  obtain ⟨A', c', w', k1, k2, _, _, k5⟩ := run_appK (T := prT) (Q := Tryd.prog) (w := w.alloc (.cells (prC x).toArray 55)) (R := fun b => b < N) B 40 22 22 55 Tryd.underlying22 prInfo ho (A := some ⟨w.heap.size, 0, none⟩) (c := 1) (m := 1) (hs := [x]) (rdF_new w prS _ x)
    (fun y hy => by
      obtain rfl : y = x := by simpa using hy
      refine leadK_of (B' := N) (hr.below (hb.mono (Nat.le_trans hNB hN)) (Nat.le_refl _)) (Nat.le_trans (Nat.le_trans hNB hN) hb.size) rfl hc hm fun a ha hp => ?_
      obtain ⟨b, o, _, hA, hbl, _⟩ := hr.at hp
      rw [ha] at hA
      obtain rfl := Option.some.inj hA
      exact ⟨hbl, fun he => by have := (OwnK.lt hown _ he.symm).1; simp only at this hbl; omega⟩) (by omega) (by omega) (Nat.le_trans hN hb.size)
  exact ⟨A', n + 1, c', w', rfl, k1, k2, ((Below.refl B w).alloc hN _).trans k5⟩
def wiRel (p : Pd) (X : List Pd) (l : List Pd) (n : Nat) (AD : Option Addr) (nD cD : Nat) (w : World) (vo vd vi : Value) (wr : World) : Prop :=
  ∃ (k m : Nat) (A : Option Addr) (c : Nat) (d : Bool) (out : List Pd), vi = .int .i64 (k : Int) ∧ vd = .bool d ∧ vo = .slice A m c ∧ k ≤ n ∧ m ≤ 2 * k ∧ out ++ withG p d (l.drop k) = X ∧ OwnP wr (fun b => b < w.heap.size) (w.heap.size + 1) (.slice A m c) m out ∧ Below w.heap.size w wr ∧ At0 wr w.heap.size [.int .i64 p.pid, .int .i64 p.gen, .slice AD nD cD] 55
end Go.Proofs.YtllebgadhhgckaaDoor.Sqs

/- The document's Look, whole. -/
namespace Go.Proofs.YtllebgadhhgckaaDoor.Sqs
open Go.RowKit Oct Rec RowF RowK Lay Bat InR

theorem rLook_is (A : Option Addr) (n c : Nat) (l : List Pd) (ba la fr ep pi ge se : Int) (tx : Bool) (ct : Int) (rs : List Rc) (AR : Option Addr) (nR cR : Nat) (w : World) (hr : RdP w w.heap.size A n l) (hn : n ≤ reach) (hf : Fits ⟨ba, la, fr, ep, pi, ge, se, tx, ct, rs⟩) (hrr : RdR w w.heap.size AR nR rs) (hnR : nR ≤ 1099511627776) {X0 E0 : Int} {T0 : Bool} (h : lookP l ⟨ba, la, fr, ep, pi, ge, se, tx, ct, rs⟩ = (X0, T0, E0)) :
    Calls Tryd.prog 15 #[.slice A n c, .agg #[.int .i64 ba, .int .i64 la, .int .i64 fr, .int .i64 ep, .int .i64 pi, .int .i64 ge, .int .i64 se, .bool tx, .int .i64 ct, .slice AR nR cR]] w fun e w' => e = .returned (.tuple #[.int .i64 X0, .bool T0, .int .i64 E0]) ∧ Below w.heap.size w w' := by
  unfold lookP at h
  by_cases h1 : ckP l = 0
  case neg =>
    rw [if_pos h1] at h
    obtain ⟨rfl, rfl, rfl⟩ : 0 = X0 ∧ false = T0 ∧ ckP l = E0 := by simpa using h
    exact look_1 A n c l ba la fr ep pi ge se tx ct rs AR nR cR w hr hn hf hrr hnR rfl h1
  rw [if_neg (fun h9 => h9 h1)] at h
  by_cases h2 : chB ⟨ba, la, fr, ep, pi, ge, se, tx, ct, rs⟩ = 0
  case neg =>
    rw [if_pos h2] at h
    obtain ⟨rfl, rfl, rfl⟩ : 0 = X0 ∧ false = T0 ∧ chB ⟨ba, la, fr, ep, pi, ge, se, tx, ct, rs⟩ = E0 := by simpa using h
    exact look_2 A n c l ba la fr ep pi ge se tx ct rs AR nR cR w hr hn hf hrr hnR h1 rfl h2
  rw [if_neg (fun h9 => h9 h2)] at h
  simp only at h
  by_cases h3 : pi = -1
  · rw [if_pos h3] at h
    obtain ⟨rfl, rfl, rfl⟩ : 0 = X0 ∧ false = T0 ∧ 0 = E0 := by simpa using h
    subst h3
    exact look_3 A n c l ba la fr ep ge se tx ct rs AR nR cR w hr hn hf hrr hnR h1 h2
  rw [if_neg h3] at h
  cases hP : plP l pi with
  | none =>
    rw [find_none hP] at h
    simp only at h
    by_cases h4 : ct = 0
    case neg =>
      rw [if_pos h4] at h
      obtain ⟨rfl, rfl, rfl⟩ : 0 = X0 ∧ false = T0 ∧ 0 = E0 := by simpa using h
      exact look_4 A n c l ba la fr ep pi ge se tx ct rs AR nR cR w hr hn hf hrr hnR h1 h2 h3 hP h4
    rw [if_neg (fun h9 => h9 h4)] at h
    subst h4
    have hfr : ∀ q, freshP l ⟨ba, la, fr, ep, pi, ge, q, tx, 0, rs⟩ = true := fun q => by unfold freshP; simp only; rw [find_none hP]
    by_cases h5 : se = 0
    · rw [if_pos h5] at h
      obtain ⟨rfl, rfl, rfl⟩ : 0 = X0 ∧ false = T0 ∧ 0 = E0 := by simpa using h
      subst h5
      exact look_7z A n c l ba la fr ep pi ge tx rs AR nR cR w hr hn hf hrr hnR h1 h2 h3 hP (hfr 0)
    · rw [if_neg h5] at h
      obtain ⟨rfl, rfl, rfl⟩ : 0 = X0 ∧ false = T0 ∧ 111 = E0 := by simpa using h
      exact look_7n A n c l ba la fr ep pi ge se tx rs AR nR cR w hr hn hf hrr hnR h1 h2 h3 hP (hfr se) h5
  | some k =>
    obtain ⟨x, hx, hfx, _⟩ := find_at hP
    rw [hfx] at h
    simp only at h
    by_cases hg : ge < x.gen
    · rw [if_pos hg] at h
      obtain ⟨rfl, rfl, rfl⟩ : 0 = X0 ∧ false = T0 ∧ 110 = E0 := by simpa using h
      exact look_5 A n c l ba la fr ep pi ge se tx ct rs AR nR cR w hr hn hf hrr hnR h1 h2 h3 hP hx hg
    rw [if_neg hg] at h
    by_cases h4 : ct = 0
    case neg =>
      rw [if_pos h4] at h
      obtain ⟨rfl, rfl, rfl⟩ : 0 = X0 ∧ false = T0 ∧ 0 = E0 := by simpa using h
      exact look_6 A n c l ba la fr ep pi ge se tx ct rs AR nR cR w hr hn hf hrr hnR h1 h2 h3 hP hx hg h4
    rw [if_neg (fun h9 => h9 h4)] at h
    subst h4
    have hfv : ∀ q, freshP l ⟨ba, la, fr, ep, pi, ge, q, tx, 0, rs⟩ = (decide (x.gen < ge) || x.did.isEmpty) := fun q => by unfold freshP; simp only; rw [hfx]
    by_cases h6 : x.gen < ge ∨ x.did = []
    · rw [if_pos h6] at h
      have hft : (decide (x.gen < ge) || x.did.isEmpty) = true := by
        rcases h6 with h6 | h6
        · rw [decide_eq_true h6]; rfl
        · rw [h6]; simp
      by_cases h5 : se = 0
      · rw [if_pos h5] at h
        obtain ⟨rfl, rfl, rfl⟩ : 0 = X0 ∧ false = T0 ∧ 0 = E0 := by simpa using h
        subst h5
        exact look_8z A n c l ba la fr ep pi ge tx rs AR nR cR w hr hn hf hrr hnR h1 h2 h3 hP hx hg ((hfv 0).trans hft)
      · rw [if_neg h5] at h
        obtain ⟨rfl, rfl, rfl⟩ : 0 = X0 ∧ false = T0 ∧ 111 = E0 := by simpa using h
        exact look_8n A n c l ba la fr ep pi ge se tx rs AR nR cR w hr hn hf hrr hnR h1 h2 h3 hP hx hg ((hfv se).trans hft) h5
    · rw [if_neg h6] at h
      have hff : (decide (x.gen < ge) || x.did.isEmpty) = false := by
        rw [decide_eq_false (fun h9 => h6 (.inl h9)), Bool.false_or]
        cases hd : x.did with
        | nil => exact absurd (.inr hd) h6
        | cons y m => rfl
      exact look_9 A n c l ba la fr ep pi ge se tx rs AR nR cR w hr hn hf hrr hnR h1 h2 h3 hP hx hg ((hfv se).trans hff) h
end Go.Proofs.YtllebgadhhgckaaDoor.Sqs

/- What was written is there, and written again it changes nothing. Nothing of the program. -/
namespace Go.Proofs.YtllebgadhhgckaaDoor.Sqs
open Oct Rec Crc Bat Seg

theorem chD_gt {v : Int} {l : List Dd} (h : chD (some v) l = true) : ∀ d ∈ l, v < d.sq := by
  induction l generalizing v with
  | nil => simp
  | cons x l ih =>
    have h1 : ((ddOk x && nextD (some v) x) && chD (some x.la) l) = true := h
    rw [Bool.and_eq_true, Bool.and_eq_true] at h1
    have h2 : (0 ≤ x.sq ∧ x.sq ≤ x.la) ∧ x.la ≤ 1048576 ∧ 0 ≤ x.ba ∧ x.ba ≤ 1099511627776 := of_decide_eq_true h1.1.1
    have h3 : x.sq = v + 1 := of_decide_eq_true h1.1.2
    intro d hd
    rcases List.mem_cons.1 hd with rfl | hd
    · omega
    · have := ih h1.2 d hd
      omega
theorem chD_one {o : Option Int} {l : List Dd} (h : chD o l = true) {x y : Dd} (hx : x ∈ l) (hy : y ∈ l) (he : x.sq = y.sq) : x = y := by
  induction l generalizing o with
  | nil => simp at hx
  | cons z l ih =>
    have h1 : ((ddOk z && nextD o z) && chD (some z.la) l) = true := h
    rw [Bool.and_eq_true, Bool.and_eq_true] at h1
    have h2 : (0 ≤ z.sq ∧ z.sq ≤ z.la) ∧ z.la ≤ 1048576 ∧ 0 ≤ z.ba ∧ z.ba ≤ 1099511627776 := of_decide_eq_true h1.1.1
    rcases List.mem_cons.1 hx with hx1 | hx1 <;> rcases List.mem_cons.1 hy with hy1 | hy1
    · rw [hx1, hy1]
    · have := chD_gt h1.2 y hy1; subst hx1; omega
    · have := chD_gt h1.2 x hx1; subst hy1; omega
    · exact ih h1.2 hx1 hy1
theorem five_last (l : List Dd) (d : Dd) : d ∈ five (l ++ [d]) := by
  unfold five
  split
  · cases l with
    | nil => rename_i h; simp at h
    | cons a l => simp
  · simp
theorem with_self {v : Int} {m : List Pd} {p : Pd} (h : chP v m = true) (hf : findP m p.pid = some p) : withP m p = m := by
  induction m generalizing v with
  | nil => cases hf
  | cons x m ih =>
    have h2 := chP_cons.1 h
    unfold findP at hf
    by_cases hx : x.pid = p.pid
    · rw [List.find?_cons_of_pos (by simp [hx])] at hf
      obtain rfl := Option.some.inj hf
      unfold withP
      rw [if_neg (by omega), if_pos rfl]
    · rw [List.find?_cons_of_neg (by simp [hx])] at hf
      have h3 := (chP_mem h2.2 p (List.mem_of_find?_eq_some hf)).1
      unfold withP
      rw [if_neg (by omega), if_neg hx, ih h2.2 hf]
theorem put_err {l m : List Pd} {b : Bt} {e : Int} (h : putP l b = (m, e)) (he : e ≠ 0) : m = [] := by
  unfold putP at h
  split at h
  · exact (congrArg (·.1) h).symm
  · split at h
    · exact (congrArg (·.1) h).symm
    · split at h <;> exact absurd (congrArg (·.2) h).symm he
theorem pid_neg {b : Bt} (h : chB b = 0) : b.pid = -1 ∨ 0 ≤ b.pid := by
  have h1 := h
  unfold chB at h1
  by_cases hf : form b = true
  · unfold form at hf
    rw [Bool.and_eq_true, decide_eq_true_eq] at hf
    omega
  · rw [if_neg hf] at h1; cases h1
theorem twice {l m : List Pd} {b : Bt} (h : putP l b = (m, 0)) : ∃ x was base there, lookP l b = (x, was, 0) ∧ lookP m b = (base, there, 0) ∧ putP m b = (m, 0) ∧ ((b.pid < 0 ∨ b.ctl ≠ 0) → there = false) ∧ (¬ (b.pid < 0 ∨ b.ctl ≠ 0) → there = true ∧ (was = true ∨ base = b.base)) := by
  by_cases hp : b.pid = -1
  · have h1 := h
    unfold putP at h1
    rcases hL : lookP l b with ⟨x, t, e⟩
    rw [hL] at h1
    simp only at h1
    by_cases he : e = 0
    case neg => rw [if_pos he] at h1; exact absurd (congrArg (·.2) h1) he
    subst he
    rw [if_neg (fun h9 => h9 rfl)] at h1
    split at h1
    · exact absurd (congrArg (·.2) h1) (by simp)
    rw [if_pos (.inr hp)] at h1
    obtain rfl : l = m := congrArg (·.1) h1
    obtain ⟨hC, hB⟩ := look_ok hL
    have hL2 := hL
    unfold lookP at hL2
    rw [if_neg (fun h9 => h9 hC), if_neg (fun h9 => h9 hB), if_pos hp] at hL2
    have ht : t = false := (congrArg (·.2.1) hL2).symm
    exact ⟨x, t, x, t, rfl, hL, h, fun _ => ht, fun h9 => absurd (.inl (by omega)) h9⟩
  obtain ⟨⟨hC, hB⟩, hw⟩ := put_ways h hp
  have hpn : ¬ b.pid < 0 := by have := pid_neg hB; omega
  rcases hw with ⟨x, hL, rfl⟩ | ⟨x, hL, _, rfl⟩
  · obtain ⟨_, p, _, _, hc, _⟩ := there_find hL
    exact ⟨x, true, x, true, hL, hL, h, fun h9 => h9.elim (fun h8 => absurd h8 hpn) (fun h8 => absurd hc h8), fun _ => ⟨rfl, .inl rfl⟩⟩
  have hCm := put_ok h
  have hf : findP (withP l (writtenP l b)) b.pid = some (writtenP l b) := with_find (p := writtenP l b) (ckP_iff.1 hC).2
  have hfl : fullP (withP l (writtenP l b)) b = false := by
    unfold fullP
    rw [hf]
    simp
  have hok := written_ok hL hp
  unfold didOk at hok
  rw [Bool.and_eq_true, decide_eq_true_eq] at hok
  by_cases hc : b.ctl = 0
  · have hmem : didB b ∈ (writtenP l b).did := by
      show didB b ∈ five _
      rw [if_pos hc]
      exact five_last _ _
    have hne : (writtenP l b).did ≠ [] := List.ne_nil_of_mem hmem
    have hlk : ∃ base, lookP (withP l (writtenP l b)) b = (base, true, 0) ∧ base = b.base := by
      unfold lookP
      rw [if_neg (fun h9 => h9 hCm), if_neg (fun h9 => h9 hB), if_neg hp, hf]
      simp only
      rw [if_neg (show ¬ b.gen < (writtenP l b).gen from Int.lt_irrefl _), if_neg (fun h9 => h9 hc), if_neg (fun h9 => h9.elim (show ¬ (writtenP l b).gen < b.gen from Int.lt_irrefl _) hne)]
      unfold seqP
      cases hfd : (writtenP l b).did.find? fun x => decide (x.sq = b.seq ∧ x.la = lastN b) with
      | none => exact absurd (List.find?_eq_none.1 hfd _ hmem) (by simp [didB])
      | some y =>
        have h1 := List.find?_some hfd
        rw [decide_eq_true_eq] at h1
        have h2 := chD_one hok.1 (List.mem_of_find?_eq_some hfd) hmem h1.1
        exact ⟨y.ba, rfl, by rw [h2]; rfl⟩
    obtain ⟨base, hl2, hbs⟩ := hlk
    refine ⟨x, false, base, true, hL, hl2, ?_, fun h9 => h9.elim (fun h8 => absurd h8 hpn) (fun h8 => absurd hc h8), fun _ => ⟨rfl, .inr hbs⟩⟩
    unfold putP
    rw [hl2, if_neg (fun h9 => h9 rfl), hfl, if_neg (by simp), if_pos (.inl rfl)]
  · have hl2 : lookP (withP l (writtenP l b)) b = (0, false, 0) := by
      unfold lookP
      rw [if_neg (fun h9 => h9 hCm), if_neg (fun h9 => h9 hB), if_neg hp, hf]
      simp only
      rw [if_neg (show ¬ b.gen < (writtenP l b).gen from Int.lt_irrefl _), if_pos hc]
    refine ⟨x, false, 0, false, hL, hl2, ?_, fun _ => rfl, fun h9 => absurd (.inr hc) h9⟩
    have hwr : writtenP (withP l (writtenP l b)) b = writtenP l b := by
      have hd : (writtenP (withP l (writtenP l b)) b).did = (writtenP l b).did := by
        show five ((if freshP (withP l (writtenP l b)) b then [] else match findP (withP l (writtenP l b)) b.pid with | none => [] | some p => p.did) ++ if b.ctl = 0 then [didB b] else []) = _
        rw [if_neg hc, List.append_nil, hf]
        unfold freshP
        rw [hf]
        simp only
        rw [decide_eq_false (show ¬ (writtenP l b).gen < b.gen from Int.lt_irrefl _), Bool.false_or]
        have h5 : five (writtenP l b).did = (writtenP l b).did := if_neg (by omega)
        cases hdd : (writtenP l b).did with
        | nil => rfl
        | cons a r =>
          rw [hdd] at h5
          exact h5
      show (⟨b.pid, b.gen, (writtenP (withP l (writtenP l b)) b).did⟩ : Pd) = ⟨b.pid, b.gen, (writtenP l b).did⟩
      rw [hd]
    unfold putP
    rw [hl2, if_neg (fun h9 => h9 rfl), hfl, if_neg (by simp), if_neg (fun h9 => h9.elim (by simp) hp), hwr, with_self (ckP_iff.1 hCm).2 hf]
end Go.Proofs.YtllebgadhhgckaaDoor.Sqs
