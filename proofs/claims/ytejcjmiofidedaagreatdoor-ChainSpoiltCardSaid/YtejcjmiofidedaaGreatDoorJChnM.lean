/- Joined: ChnMath, ChnMath3, ChnEx, ChnMath2. -/
import Derived.Test.YtejcjmiofidedaaGreatDoorJSegM
import Derived.Test.YtejcjmiofidedaaGreatDoorSegMathT
/- The plain mathematics of layer 9: a log of segments. Nothing of the program. -/
namespace Go.Proofs.YtejcjmiofidedaaGreatDoor.Chn
open Oct Rec Crc Bat Seg

structure Lg where
  limit : Int
  start : Int
  segs : List Sg
def nilL : Lg := ⟨0, 0, []⟩
def folS (a b : Sg) : Bool := decide (a.base < b.base ∧ endS a ≤ b.base)
def folO : Option Sg → Sg → Bool
  | none, _ => true
  | some a, b => folS a b
def chS (limit : Int) : Option Sg → List Sg → Bool
  | _, [] => true
  | o, s :: l => (wholeS s && decide ((s.bytes.length : Int) ≤ limit) && folO o s) && chS limit (some s) l
def headL (l : Lg) : Bool := decide ((256 ≤ l.limit ∧ l.limit ≤ 4096) ∧ (0 ≤ l.start ∧ l.start ≤ 1099511627776) ∧ l.segs ≠ [])
def ckL (l : Lg) : Int := if headL l = false ∨ chS l.limit none l.segs = false then 1 else if 256 < l.segs.length then 2 else 0
def newL (limit start : Int) : Lg × Int := if (limit < 256 ∨ 4096 < limit) ∨ start < 0 ∨ 1099511627776 < start then (nilL, 1) else (⟨limit, start, [⟨start, []⟩]⟩, 0)
def endF (n : Int) (l : List Sg) : Int := l.foldl (fun n s => max n (endS s)) n
def endL (l : Lg) : Int := endF l.start l.segs
def batL (l : Lg) : List Bt := l.segs.flatMap batS
def allL (l : Lg) : List Bt := (batL l).filter fun b => decide (l.start ≤ b.last)
def endT (l : Lg) : Int := if ckL l = 0 then endL l else 0
def allT (l : Lg) : List Bt := if ckL l = 0 then allL l else []
def apL (l : Lg) (b : Bt) : Lg × Int :=
  if ckL l ≠ 0 then (nilL, ckL l) else if chB b ≠ 0 then (nilL, chB b) else if b.base < endL l then (nilL, 71) else if l.limit < ((byB b).length : Int) then (nilL, 70)
  else match l.segs.getLast? with
    | none => (nilL, 1)
    | some s => if (apS s b l.limit).2 = 0 then (⟨l.limit, l.start, l.segs.dropLast ++ [(apS s b l.limit).1]⟩, 0)
      else if l.segs.length = 256 then (nilL, 2) else (⟨l.limit, l.start, l.segs ++ [⟨b.base, byB b⟩]⟩, 0)
def goB (long : Int) : Int → List Bt → List Bt
  | _, [] => []
  | n, b :: bs => if long < n + (byB b).length then [] else b :: goB long (n + (byB b).length) bs
def takeB (long : Int) : List Bt → List Bt
  | [] => []
  | b :: bs => b :: goB long (byB b).length bs
def readL (l : Lg) (off long : Int) : List Bt × Int :=
  if ckL l ≠ 0 then ([], ckL l) else if long < 0 then ([], 1) else if off < l.start ∨ endL l < off then ([], 90) else (takeB long ((allL l).filter fun b => decide (off ≤ b.last)), 0)
def truncL (l : Lg) (off : Int) : Lg × Int :=
  if ckL l ≠ 0 then (nilL, ckL l) else if off < l.start ∨ endL l < off then (nilL, 90)
  else (⟨l.limit, l.start, if (l.segs.filter fun s => decide (s.base < off)) = [] then [⟨off, []⟩] else (l.segs.filter fun s => decide (s.base < off)).map fun s => cutS s off⟩, 0)
def dropS (off : Int) : List Sg → List Sg
  | [] => []
  | [s] => [s]
  | s :: t :: l => if endS s ≤ off then dropS off (t :: l) else s :: t :: l
def trimL (l : Lg) (off : Int) : Lg × Int :=
  if ckL l ≠ 0 then (nilL, ckL l) else if (off < l.start ∨ endL l < off) ∨ off < 0 ∨ 1099511627776 < off then (nilL, 90) else (⟨l.limit, off, dropS off l.segs⟩, 0)
def replL (l : Lg) (n : Int) (bs : List Bt) : Lg × Int :=
  if ckL l ≠ 0 then (nilL, ckL l) else if n < 0 ∨ (l.segs.length : Int) - 1 ≤ n then (nilL, 90)
  else match l.segs[n.toNat]?, l.segs[n.toNat + 1]? with
    | some s, some t => if (ofS s.base bs l.limit).2 ≠ 0 then (nilL, (ofS s.base bs l.limit).2) else if t.base < endS (ofS s.base bs l.limit).1 then (nilL, 71) else (⟨l.limit, l.start, l.segs.set n.toNat (ofS s.base bs l.limit).1⟩, 0)
    | _, _ => (nilL, 90)
def recS : Bool → Option Sg → List Sg → List Sg × Int
  | _, _, [] => ([], 0)
  | good, o, s :: l => if good && folO o s then ((fixS s).1 :: (recS (wholeS s) (some s) l).1, (fixS s).2 + (recS (wholeS s) (some s) l).2)
      else ((recS false (some s) l).1, (s.bytes.length : Int) + (recS false (some s) l).2)
def inO (n : Int) : Bool := decide (0 ≤ n ∧ n ≤ 1099511627776)
def recL (l : Lg) : Lg × Int :=
  match l.segs with
  | [] => (nilL, 0)
  | s :: _ => if ((256 ≤ l.limit ∧ l.limit ≤ 4096) ∧ (0 ≤ l.start ∧ l.start ≤ 1099511627776) ∧ inO s.base = true) then (⟨l.limit, l.start, (recS true none l.segs).1⟩, (recS true none l.segs).2) else (nilL, 0)

theorem endR_ge {lo : Int} {bs : List Bt} (h : ris lo bs = true) : lo ≤ endR lo bs ∧ (∀ b ∈ bs, b.last < endR lo bs) ∧ (bs ≠ [] → lo < endR lo bs) := by
  induction bs generalizing lo with
  | nil => exact ⟨Int.le_refl _, by simp, fun h => absurd rfl h⟩
  | cons b bs ih =>
    obtain ⟨⟨h1, h2⟩, h3⟩ := ris_cons.1 h
    obtain ⟨i1, i2, i3⟩ := ih h3
    have := chB_last h1
    have e : endR lo (b :: bs) = endR (b.last + 1) bs := rfl
    refine ⟨by omega, fun c hc => ?_, fun _ => by omega⟩
    rcases List.mem_cons.1 hc with rfl | hc
    · omega
    · have := i2 c hc; omega
theorem endS_ge (s : Sg) : s.base ≤ endS s ∧ (∀ b ∈ batS s, b.last < endS s) ∧ (batS s ≠ [] → s.base < endS s) := endR_ge (sc_good s.base s.bytes).1
theorem ris_ge {lo : Int} {bs : List Bt} (h : ris lo bs = true) : ∀ b ∈ bs, lo ≤ b.base ∧ chB b = 0 := by
  induction bs generalizing lo with
  | nil => simp
  | cons b bs ih =>
    obtain ⟨⟨h1, h2⟩, h3⟩ := ris_cons.1 h
    intro c hc
    rcases List.mem_cons.1 hc with rfl | hc
    · exact ⟨h2, h1⟩
    · have := (ih h3 c hc).1
      have := chB_last h1
      exact ⟨by omega, (ih h3 c hc).2⟩
theorem chS_cons {limit : Int} {o : Option Sg} {s : Sg} {l : List Sg} : chS limit o (s :: l) = true ↔ wholeS s = true ∧ (s.bytes.length : Int) ≤ limit ∧ folO o s = true ∧ chS limit (some s) l = true := by
  show ((wholeS s && decide _ && folO o s) && chS limit (some s) l) = true ↔ _
  simp only [Bool.and_eq_true, decide_eq_true_eq]
  constructor
  · rintro ⟨⟨⟨h1, h2⟩, h3⟩, h4⟩; exact ⟨h1, h2, h3, h4⟩
  · rintro ⟨h1, h2, h3, h4⟩; exact ⟨⟨⟨h1, h2⟩, h3⟩, h4⟩
theorem folS_iff {a b : Sg} : folS a b = true ↔ a.base < b.base ∧ endS a ≤ b.base := by unfold folS; exact decide_eq_true_iff
def lastO (o : Option Sg) (l : List Sg) : Option Sg := match l.getLast? with | none => o | some s => some s
theorem lastO_cons (o : Option Sg) (s : Sg) (l : List Sg) : lastO o (s :: l) = lastO (some s) l := by
  unfold lastO
  cases l with
  | nil => rfl
  | cons t l => rw [List.getLast?_cons_cons]; cases h : (t :: l).getLast? with
    | none => exact absurd (List.getLast?_eq_none_iff.1 h) (by simp)
    | some u => rfl
theorem chS_app {limit : Int} {o : Option Sg} {l m : List Sg} : chS limit o (l ++ m) = true ↔ chS limit o l = true ∧ chS limit (lastO o l) m = true := by
  induction l generalizing o with
  | nil => simp [chS, lastO]
  | cons s l ih =>
    rw [List.cons_append, chS_cons, chS_cons, ih, lastO_cons]
    constructor
    · rintro ⟨h1, h2, h3, h4, h5⟩; exact ⟨⟨h1, h2, h3, h4⟩, h5⟩
    · rintro ⟨⟨h1, h2, h3, h4⟩, h5⟩; exact ⟨h1, h2, h3, h4, h5⟩
theorem endF_max (n : Int) (l : List Sg) : n ≤ endF n l ∧ (∀ s ∈ l, endS s ≤ endF n l) := by
  induction l generalizing n with
  | nil => exact ⟨Int.le_refl _, by simp⟩
  | cons s l ih =>
    obtain ⟨i1, i2⟩ := ih (max n (endS s))
    have e : endF n (s :: l) = endF (max n (endS s)) l := rfl
    refine ⟨by omega, fun t ht => ?_⟩
    rcases List.mem_cons.1 ht with rfl | ht
    · omega
    · rw [e]; exact i2 t ht
theorem chS_ends {limit : Int} {o : Option Sg} {l : List Sg} (h : chS limit o l = true) {t : Sg} (ht : l.getLast? = some t) : ∀ s ∈ l, endS s ≤ endS t ∧ s.base ≤ t.base := by
  induction l generalizing o with
  | nil => simp
  | cons s l ih =>
    obtain ⟨h1, h2, h3, h4⟩ := chS_cons.1 h
    cases l with
    | nil =>
      obtain rfl : s = t := by simpa using ht
      intro u hu
      obtain rfl : u = s := by simpa using hu
      exact ⟨Int.le_refl _, Int.le_refl _⟩
    | cons u l =>
      rw [List.getLast?_cons_cons] at ht
      have i := ih h4 ht
      obtain ⟨g1, g2, g3, g4⟩ := chS_cons.1 h4
      have g5 := folS_iff.1 g3
      have := (endS_ge u).1
      intro v hv
      rcases List.mem_cons.1 hv with rfl | hv
      · have := i u (by simp)
        exact ⟨by omega, by omega⟩
      · exact i v hv
theorem endF_last {limit n : Int} {o : Option Sg} {l : List Sg} (h : chS limit o l = true) {t : Sg} (ht : l.getLast? = some t) : endF n l = max n (endS t) := by
  have h1 := endF_max n l
  have ht2 : t ∈ l := List.mem_of_getLast? ht
  have h2 := h1.2 t ht2
  have hle : ∀ (l : List Sg) (n m : Int), n ≤ m → (∀ s ∈ l, endS s ≤ m) → endF n l ≤ m := by
    intro l
    induction l with
    | nil => intro n m hn _; exact hn
    | cons s l ih => intro n m hn hs; exact ih (max n (endS s)) m (by have := hs s (by simp); omega) fun u hu => hs u (by simp [hu])
  have h3 := hle l n (max n (endS t)) (by omega) fun s hs => by have := (chS_ends h ht s hs).1; omega
  omega
theorem ckL_iff {l : Lg} : ckL l = 0 ↔ ((256 ≤ l.limit ∧ l.limit ≤ 4096) ∧ (0 ≤ l.start ∧ l.start ≤ 1099511627776) ∧ l.segs ≠ []) ∧ chS l.limit none l.segs = true ∧ l.segs.length ≤ 256 := by
  unfold ckL
  by_cases h : headL l = false ∨ chS l.limit none l.segs = false
  · rw [if_pos h]
    constructor
    · intro h; cases h
    · rintro ⟨h1, h2, h3⟩
      rcases h with h | h
      · unfold headL at h; exact absurd h1 (of_decide_eq_false h)
      · rw [h2] at h; cases h
  · rw [if_neg h]
    have h1 : headL l = true := by cases hh : headL l <;> simp_all
    have h2 : chS l.limit none l.segs = true := by cases hh : chS l.limit none l.segs <;> simp_all
    unfold headL at h1
    by_cases h3 : 256 < l.segs.length
    · rw [if_pos h3]; constructor
      · intro h; cases h
      · rintro ⟨_, _, h4⟩; omega
    · rw [if_neg h3]; exact ⟨fun _ => ⟨of_decide_eq_true h1, h2, by omega⟩, fun _ => rfl⟩
theorem last_is {l : List Sg} (h : l ≠ []) : ∃ t, l.getLast? = some t ∧ l = l.dropLast ++ [t] := by
  cases hl : l.getLast? with
  | none => exact absurd (List.getLast?_eq_none_iff.1 hl) h
  | some t =>
    obtain ⟨m, rfl⟩ := List.getLast?_eq_some_iff.1 hl
    exact ⟨t, rfl, by rw [List.dropLast_concat]⟩
theorem one_seg {b : Bt} (h : chB b = 0) : wholeS ⟨b.base, byB b⟩ = true ∧ batS ⟨b.base, byB b⟩ = [b] ∧ endS ⟨b.base, byB b⟩ = b.last + 1 := by
  have hr : ris b.base [b] = true := ris_cons.2 ⟨⟨h, Int.le_refl _⟩, rfl⟩
  obtain ⟨h1, h2, h3⟩ := batS_put hr
  rw [byR_cons, byR_nil, List.append_nil] at h1 h2 h3
  have := chB_last h
  exact ⟨wholeS_iff.2 ⟨by simp only; omega, by rw [h1, byR_cons, byR_nil, List.append_nil]⟩, h1, h3⟩
theorem apL_good {l x : Lg} {b : Bt} (h : apL l b = (x, 0)) : ckL l = 0 ∧ chB b = 0 ∧ endL l ≤ b.base ∧ ((byB b).length : Int) ≤ l.limit ∧ ckL x = 0 ∧ endL x = b.last + 1 ∧ allL x = allL l ++ [b] ∧ x.limit = l.limit ∧ x.start = l.start ∧ (x.segs.length = l.segs.length ∨ x.segs.length = l.segs.length + 1) := by
  unfold apL at h
  by_cases h1 : ckL l ≠ 0
  · rw [if_pos h1] at h; exact absurd (congrArg Prod.snd h) h1
  rw [if_neg h1] at h
  by_cases h2 : chB b ≠ 0
  · rw [if_pos h2] at h; exact absurd (congrArg Prod.snd h) h2
  rw [if_neg h2] at h
  by_cases h3 : b.base < endL l
  · rw [if_pos h3] at h; injection h with _ h; cases h
  rw [if_neg h3] at h
  by_cases h4 : l.limit < ((byB b).length : Int)
  · rw [if_pos h4] at h; injection h with _ h; cases h
  rw [if_neg h4] at h
  have hck : ckL l = 0 := by omega
  have hb : chB b = 0 := by omega
  obtain ⟨⟨c1, c2, c3⟩, c4, c5⟩ := ckL_iff.1 hck
  obtain ⟨t, ht, hs⟩ := last_is c3
  rw [ht] at h
  simp only at h
  have hend : endL l = max l.start (endS t) := endF_last c4 ht
  have hbl := chB_last hb
  refine ⟨hck, hb, by omega, by omega, ?_⟩
  have c4' := c4
  rw [hs, chS_app] at c4'
  obtain ⟨d1, d2⟩ := c4'
  obtain ⟨d3, d4, d5, _⟩ := chS_cons.1 d2
  have hfilt : ∀ m : List Bt, (m ++ [b]).filter (fun b => decide (l.start ≤ b.last)) = m.filter (fun b => decide (l.start ≤ b.last)) ++ [b] := by
    intro m
    rw [List.filter_append, List.filter_cons_of_pos (by simp only [decide_eq_true_eq]; omega)]
    rfl
  by_cases h5 : (apS t b l.limit).2 = 0
  · rw [if_pos h5] at h
    obtain rfl : _ = x := congrArg Prod.fst h
    rcases hap : apS t b l.limit with ⟨y, z⟩
    rw [hap] at h5
    obtain rfl : z = 0 := h5
    obtain ⟨a1, a2, a3, a4, a5, a6, a7, a8⟩ := apS_good hap
    have hyb : y.base = t.base := by rw [a6]
    have hyl : (y.bytes.length : Int) ≤ l.limit := by rw [a6]; simp only [List.length_append, Int.natCast_add]; exact a5
    have hye : endS y = b.last + 1 := by unfold endS; rw [a8, endR_snoc]
    have hch : chS l.limit none (l.segs.dropLast ++ [y]) = true := by
      refine chS_app.2 ⟨d1, chS_cons.2 ⟨a7, hyl, ?_, rfl⟩⟩
      cases hlo : lastO none l.segs.dropLast with
      | none => rfl
      | some u =>
        rw [hlo] at d5
        have := folS_iff.1 d5
        exact folS_iff.2 (by rw [hyb]; exact this)
    have hlen : (l.segs.dropLast ++ [y]).length = l.segs.length := by
      conv => rhs; rw [hs]
      simp
    refine ⟨ckL_iff.2 ⟨⟨c1, c2, by simp⟩, hch, by simp only; omega⟩, ?_, ?_, rfl, rfl, .inl (by simp only; omega)⟩
    · have := endF_last (n := l.start) hch (t := y) List.getLast?_concat
      show endF l.start (l.segs.dropLast ++ [y]) = _
      omega
    · unfold allL batL
      simp only
      rw [List.flatMap_append, List.flatMap_cons, List.flatMap_nil, List.append_nil, a8, ← List.append_assoc, hfilt]
      congr 2
      conv => rhs; rw [hs]
      rw [List.flatMap_append, List.flatMap_cons, List.flatMap_nil, List.append_nil]
  · rw [if_neg h5] at h
    by_cases h6 : l.segs.length = 256
    · rw [if_pos h6] at h; injection h with _ h; cases h
    rw [if_neg h6] at h
    obtain rfl : _ = x := congrArg Prod.fst h
    obtain ⟨o1, o2, o3⟩ := one_seg hb
    have hbt : t.base < b.base := by
      have g := endS_ge t
      by_cases hne : batS t = []
      · exfalso
        apply h5
        have hw := (wholeS_iff.1 d3).2
        rw [hne, byR_nil] at hw
        unfold apS
        rw [if_neg (by rw [d3]; simp only [Bool.true_eq_false, false_or]; omega), if_neg (by omega), if_neg (by omega), if_neg (by rw [hw]; simp only [List.length_nil]; omega)]
      · have := g.2.2 hne; omega
    have hch : chS l.limit none (l.segs ++ [⟨b.base, byB b⟩]) = true := by
      refine chS_app.2 ⟨c4, chS_cons.2 ⟨o1, by simp only; omega, ?_, rfl⟩⟩
      unfold lastO
      rw [ht]
      exact folS_iff.2 ⟨hbt, by simp only; omega⟩
    refine ⟨ckL_iff.2 ⟨⟨c1, c2, by simp⟩, hch, by simp only [List.length_append, List.length_singleton]; omega⟩, ?_, ?_, rfl, rfl, .inr (by simp)⟩
    · have := endF_last (n := l.start) hch (t := ⟨b.base, byB b⟩) List.getLast?_concat
      show endF l.start (l.segs ++ [⟨b.base, byB b⟩]) = _
      omega
    · unfold allL batL
      simp only
      rw [List.flatMap_append, List.flatMap_cons, List.flatMap_nil, List.append_nil, o2, hfilt]
theorem apL_bad {l x : Lg} {b : Bt} {e : Int} (h : apL l b = (x, e)) (he : e ≠ 0) (hc : ckL l = 0) : x = nilL ∧ (chB b = e ∨ e = 71 ∧ b.base < endL l ∨ e = 70 ∨ e = 2) := by
  obtain ⟨⟨c1, c2, c3⟩, c4, c5⟩ := ckL_iff.1 hc
  obtain ⟨t, ht, hs⟩ := last_is c3
  unfold apL at h
  rw [if_neg (by simpa using hc), ht] at h
  simp only at h
  by_cases h2 : chB b ≠ 0
  · rw [if_pos h2] at h; exact ⟨(congrArg Prod.fst h).symm, .inl (congrArg Prod.snd h)⟩
  rw [if_neg h2] at h
  by_cases h3 : b.base < endL l
  · rw [if_pos h3] at h; exact ⟨(congrArg Prod.fst h).symm, .inr (.inl ⟨(congrArg Prod.snd h).symm, h3⟩)⟩
  rw [if_neg h3] at h
  by_cases h4 : l.limit < ((byB b).length : Int)
  · rw [if_pos h4] at h; exact ⟨(congrArg Prod.fst h).symm, .inr (.inr (.inl (congrArg Prod.snd h).symm))⟩
  rw [if_neg h4] at h
  by_cases h5 : (apS t b l.limit).2 = 0
  · rw [if_pos h5] at h; exact absurd (congrArg Prod.snd h).symm he
  rw [if_neg h5] at h
  by_cases h6 : l.segs.length = 256
  · rw [if_pos h6] at h; exact ⟨(congrArg Prod.fst h).symm, .inr (.inr (.inr (congrArg Prod.snd h).symm))⟩
  · rw [if_neg h6] at h; exact absurd (congrArg Prod.snd h).symm he
theorem newL_ok {limit start : Int} (h : (newL limit start).2 = 0) : (newL limit start).1 = ⟨limit, start, [⟨start, []⟩]⟩ ∧ ckL (newL limit start).1 = 0 ∧ endL (newL limit start).1 = start ∧ allL (newL limit start).1 = [] := by
  unfold newL at h ⊢
  by_cases h1 : (limit < 256 ∨ 4096 < limit) ∨ start < 0 ∨ 1099511627776 < start
  · rw [if_pos h1] at h; cases h
  rw [if_neg h1]
  have hr : ris start [] = true := rfl
  obtain ⟨b1, b2, b3⟩ := batS_put hr
  rw [byR_nil] at b1 b2 b3
  have hw : wholeS ⟨start, []⟩ = true := wholeS_iff.2 ⟨by simp only; omega, by rw [b1, byR_nil]⟩
  have hch : chS limit none [⟨start, []⟩] = true := chS_cons.2 ⟨hw, by simp only [List.length_nil]; omega, rfl, rfl⟩
  refine ⟨rfl, ckL_iff.2 ⟨⟨by simp only; omega, by simp only; omega, by simp⟩, hch, by simp⟩, ?_, ?_⟩
  · show max start (endS ⟨start, []⟩) = start
    rw [b3]
    show max start start = start
    omega
  · unfold allL batL
    simp only [List.flatMap_cons, List.flatMap_nil, b1]
    rfl
def behindL : Lg → List Bt → Lg × List Bt
  | l, [] => (l, [])
  | l, b :: bs => if (apL l b).2 = 0 then ((behindL (apL l b).1 bs).1, b :: (behindL (apL l b).1 bs).2) else behindL l bs
theorem behindL_ok {l : Lg} (hc : ckL l = 0) (bs : List Bt) : ckL (behindL l bs).1 = 0 ∧ allL (behindL l bs).1 = allL l ++ (behindL l bs).2 ∧ endL (behindL l bs).1 = (match (behindL l bs).2.getLast? with | none => endL l | some b => b.last + 1) ∧ (behindL l bs).1.start = l.start ∧ ris (endL l) (behindL l bs).2 = true := by
  induction bs generalizing l with
  | nil => exact ⟨hc, (List.append_nil _).symm, rfl, rfl, rfl⟩
  | cons b bs ih =>
    by_cases h : (apL l b).2 = 0
    · have e : behindL l (b :: bs) = ((behindL (apL l b).1 bs).1, b :: (behindL (apL l b).1 bs).2) := by conv => lhs; unfold behindL; rw [if_pos h]
      obtain ⟨a1, a2, a3, a4, a5, a6, a7, a8, a9, a10⟩ := apL_good (x := (apL l b).1) (by rw [← h])
      obtain ⟨i1, i2, i3, i4, i5⟩ := ih a5
      rw [e]
      refine ⟨i1, by simp only; rw [i2, a7]; simp, ?_, by simp only; rw [i4, a9], ris_cons.2 ⟨⟨a2, a3⟩, by rw [a6] at i5; exact i5⟩⟩
      simp only
      rw [i3]
      cases hl : (behindL (apL l b).1 bs).2 with
      | nil => simp only [List.getLast?_nil, List.getLast?_singleton]; exact a6
      | cons c cs =>
        rw [List.getLast?_cons_cons]
        cases hh : (c :: cs).getLast? with
        | none => exact absurd (List.getLast?_eq_none_iff.1 hh) (by simp)
        | some d => rfl
    · have e : behindL l (b :: bs) = behindL l bs := by conv => lhs; unfold behindL; rw [if_neg h]
      rw [e]
      exact ih hc
/-! ### what is read -/
def sizeB (bs : List Bt) : Int := ((byR bs).length : Int)
theorem goB_pre (long n : Int) (bs : List Bt) : ∃ k, k ≤ bs.length ∧ goB long n bs = bs.take k ∧ (n ≤ long → n + sizeB (bs.take k) ≤ long) ∧ (long < n → k = 0) ∧ (∀ b, bs[k]? = some b → long < n + sizeB (bs.take k) + (byB b).length) := by
  induction bs generalizing n with
  | nil => exact ⟨0, Nat.le_refl _, rfl, fun h => by unfold sizeB; simp [byR_nil]; exact h, fun _ => rfl, by simp⟩
  | cons b bs ih =>
    by_cases h : long < n + (byB b).length
    · have e : goB long n (b :: bs) = [] := by unfold goB; rw [if_pos h]
      rw [e]
      refine ⟨0, Nat.zero_le _, rfl, fun h => by unfold sizeB; simp [byR_nil]; exact h, fun _ => rfl, fun c hc => ?_⟩
      obtain rfl : b = c := by simpa using hc
      unfold sizeB
      simp [byR_nil]
      exact h
    · have e : goB long n (b :: bs) = b :: goB long (n + (byB b).length) bs := by conv => lhs; unfold goB; rw [if_neg h]
      obtain ⟨k, k1, k2, k3, k4, k5⟩ := ih (n + (byB b).length)
      rw [e]
      refine ⟨k + 1, by simpa using k1, by rw [List.take_succ_cons, k2], fun _ => ?_, fun h9 => by omega, fun c hc => ?_⟩
      · have := k3 (by omega)
        unfold sizeB at *
        rw [List.take_succ_cons, byR_cons, List.length_append]
        omega
      · have := k5 c (by simpa using hc)
        unfold sizeB at *
        rw [List.take_succ_cons, byR_cons, List.length_append]
        omega
theorem takeB_pre (long : Int) (bs : List Bt) : ∃ k, k ≤ bs.length ∧ takeB long bs = bs.take k ∧ (bs ≠ [] → 0 < k) ∧ (1 < k → sizeB (bs.take k) ≤ long) ∧ (∀ b, bs[k]? = some b → long < sizeB (bs.take k) + (byB b).length) := by
  cases bs with
  | nil => exact ⟨0, Nat.le_refl _, rfl, fun h => absurd rfl h, fun h => by omega, by simp⟩
  | cons b bs =>
    obtain ⟨k, k1, k2, k3, k4, k5⟩ := goB_pre long (byB b).length bs
    refine ⟨k + 1, by simpa using k1, by rw [List.take_succ_cons, ← k2]; rfl, fun _ => by omega, fun h => ?_, fun c hc => ?_⟩
    · have : ((byB b).length : Int) ≤ long := by
        by_cases hh : long < ((byB b).length : Int)
        · have := k4 hh; omega
        · omega
      have := k3 this
      unfold sizeB at *
      rw [List.take_succ_cons, byR_cons, List.length_append]
      omega
    · have := k5 c (by simpa using hc)
      unfold sizeB at *
      rw [List.take_succ_cons, byR_cons, List.length_append]
      omega
theorem takeB_all {long : Int} {bs : List Bt} (h : sizeB bs ≤ long) : takeB long bs = bs := by
  obtain ⟨k, k1, k2, k3, k4, k5⟩ := takeB_pre long bs
  rw [k2]
  by_cases hk : k < bs.length
  · exfalso
    have := k5 _ (List.getElem?_eq_getElem hk)
    have e : sizeB bs = sizeB (bs.take k) + (byB bs[k]).length + sizeB (bs.drop (k + 1)) := by
      unfold sizeB
      conv => lhs; rw [← List.take_append_drop k bs, List.drop_eq_getElem_cons hk]
      rw [byR_app, byR_cons, List.length_append, List.length_append]
      omega
    have : 0 ≤ sizeB (bs.drop (k + 1)) := by unfold sizeB; omega
    omega
  · exact List.take_of_length_le (by omega)
/-! ### behind a crash -/
theorem fix_whole {s : Sg} (h : wholeS s = true) : fixS s = (s, 0) := by
  unfold wholeS at h
  have := of_decide_eq_true h
  unfold fixS
  rw [this.2.2, List.take_length]
  cases s
  simp
theorem fix_good {s : Sg} (h : 0 ≤ s.base ∧ s.base ≤ 1099511627776) : wholeS (fixS s).1 = true ∧ (fixS s).1.base = s.base ∧ ((fixS s).1.bytes.length : Int) = s.bytes.length - (fixS s).2 ∧ 0 ≤ (fixS s).2 ∧ (wholeS s = false → 0 < (fixS s).2) := by
  obtain ⟨f1, f2, f3, f4⟩ := batS_fix s
  have g := (sc_good s.base s.bytes).2.2.2.1
  have hg : goodS s ≤ s.bytes.length := g
  refine ⟨wholeS_iff.2 ⟨h, by rw [f3, f1]⟩, rfl, ?_, ?_, fun hw => ?_⟩
  · unfold fixS; simp only [List.length_take]; omega
  · unfold fixS; simp only; omega
  · unfold wholeS at hw
    have := of_decide_eq_false hw
    unfold fixS; simp only
    omega
theorem rec_off (o : Option Sg) (l : List Sg) : (recS false o l).1 = [] := by
  induction l generalizing o with
  | nil => rfl
  | cons s l ih => exact ih _
def bytesL (l : List Sg) : Int := ((l.map fun s => s.bytes.length).sum : Nat)
theorem rec_lost (g : Bool) (o : Option Sg) (l : List Sg) : (recS g o l).2 = bytesL l - bytesL (recS g o l).1 := by
  induction l generalizing g o with
  | nil => rfl
  | cons s l ih =>
    have hg : goodS s ≤ s.bytes.length := (sc_good s.base s.bytes).2.2.2.1
    unfold recS
    by_cases h : (g && folO o s) = true
    · rw [if_pos h]
      have := ih (wholeS s) (some s)
      unfold bytesL at *
      simp only [List.map_cons, List.sum_cons]
      unfold fixS
      simp only [List.length_take]
      omega
    · rw [if_neg h]
      have := ih false (some s)
      unfold bytesL at *
      simp only [List.map_cons, List.sum_cons]
      omega
theorem rec_chain {limit : Int} {o : Option Sg} {l : List Sg} (h : chS limit o l = true) : recS true o l = (l, 0) := by
  induction l generalizing o with
  | nil => rfl
  | cons s l ih =>
    obtain ⟨h1, h2, h3, h4⟩ := chS_cons.1 h
    unfold recS
    rw [h3, h1, ih h4, fix_whole h1]
    rfl
theorem rec_split {limit : Int} {o : Option Sg} {l m : List Sg} (h : chS limit o l = true) : recS true o (l ++ m) = (l ++ (recS true (lastO o l) m).1, (recS true (lastO o l) m).2) := by
  induction l generalizing o with
  | nil => simp [lastO]
  | cons s l ih =>
    obtain ⟨h1, h2, h3, h4⟩ := chS_cons.1 h
    rw [List.cons_append, lastO_cons]
    conv => lhs; unfold recS
    rw [h3, h1, ih h4, fix_whole h1]
    simp
theorem rec_torn {limit : Int} {o : Option Sg} {l : List Sg} {t : Sg} (h : chS limit o l = true) (hf : folO (lastO o l) t = true) (r : List Sg) (hw : wholeS t = false) : recS true o (l ++ t :: r) = (l ++ [(fixS t).1], (fixS t).2 + bytesL r) := by
  rw [rec_split h]
  unfold recS
  rw [hf, hw]
  have e1 := rec_off (some t) r
  have e2 := rec_lost false (some t) r
  rw [e1] at e2
  have e3 : bytesL [] = 0 := rfl
  rw [e3, Int.sub_zero] at e2
  simp [e1, e2]
end Go.Proofs.YtejcjmiofidedaaGreatDoor.Chn

/- What the landed chain reckons, and that it is what the document says: how many segments hang together; the last segment that is so. Nothing of the program. -/
namespace Go.Proofs.YtejcjmiofidedaaGreatDoor.Chn
open Oct Rec Crc Bat Seg

def wholeO : Option Sg → Bool
  | none => true
  | some a => wholeS a
def man : Option Sg → List Sg → Nat
  | _, [] => 0
  | o, s :: l => if wholeO o && folO o s then man (some s) l + 1 else 0
theorem man_le (o : Option Sg) (l : List Sg) : man o l ≤ l.length := by
  induction l generalizing o with
  | nil => exact Nat.le_refl _
  | cons s l ih =>
    unfold man
    split
    · have := ih (some s); simp only [List.length_cons]; omega
    · exact Nat.zero_le _
theorem man_cons {o : Option Sg} {s : Sg} {l : List Sg} (h : (wholeO o && folO o s) = true) : man o (s :: l) = man (some s) l + 1 := by conv => lhs; unfold man; rw [if_pos h]
theorem man_stop {o : Option Sg} {s : Sg} {l : List Sg} (h : (wholeO o && folO o s) = false) : man o (s :: l) = 0 := by show (if (wholeO o && folO o s) = true then man (some s) l + 1 else 0) = 0; rw [h]; exact if_neg (by simp)
theorem rec_man (o : Option Sg) (l : List Sg) : (recS (wholeO o) o l).1 = (l.take (man o l)).map fun s => (fixS s).1 := by
  induction l generalizing o with
  | nil => rfl
  | cons s l ih =>
    by_cases h : (wholeO o && folO o s) = true
    · rw [man_cons h, List.take_succ_cons, List.map_cons]
      conv => lhs; unfold recS
      rw [if_pos h]
      exact congrArg _ (ih (some s))
    · rw [man_stop (by simpa using h), List.take_zero, List.map_nil]
      conv => lhs; unfold recS
      rw [if_neg h]
      exact rec_off _ _
theorem chS_man {limit : Int} {o : Option Sg} {l : List Sg} (ho : wholeO o = true) : chS limit o l = true ↔ (∀ s ∈ l, (s.bytes.length : Int) ≤ limit) ∧ man o l = l.length ∧ wholeO (lastO o l) = true := by
  induction l generalizing o with
  | nil => simp [chS, man, lastO, ho]
  | cons s l ih =>
    rw [chS_cons, lastO_cons]
    by_cases hf : folO o s = true
    · rw [man_cons (by rw [ho, hf]; rfl), List.length_cons]
      by_cases hw : wholeS s = true
      · rw [ih (o := some s) hw]
        constructor
        · rintro ⟨_, h2, _, h3, h4, h5⟩
          exact ⟨fun t ht => by rcases List.mem_cons.1 ht with rfl | ht; exact h2; exact h3 t ht, by omega, h5⟩
        · rintro ⟨h1, h2, h3⟩
          exact ⟨hw, h1 s (by simp), hf, fun t ht => h1 t (by simp [ht]), by omega, h3⟩
      · constructor
        · rintro ⟨h1, _⟩; exact absurd h1 hw
        · rintro ⟨_, h2, h3⟩
          exfalso
          cases l with
          | nil => exact hw h3
          | cons t l =>
            rw [man_stop (by simp only [wholeO]; rw [Bool.not_eq_true _ |>.mp hw]; rfl)] at h2
            simp at h2
    · rw [man_stop (by rw [Bool.not_eq_true _ |>.mp hf]; simp)]
      constructor
      · rintro ⟨_, _, h, _⟩; exact absurd h hf
      · rintro ⟨_, h, _⟩; simp at h
def lkE (o : Option Sg) : Int := match o with | none => 0 | some s => endS s
def reachL (l : Lg) : Int × Int :=
  if headL l = false ∨ (l.segs.any fun s => decide (l.limit < (s.bytes.length : Int))) = true then (0, 1)
  else if man none l.segs < l.segs.length ∨ wholeO (lastO none l.segs) = false then (0, 1) else if 256 < l.segs.length then (0, 2) else (max l.start (lkE (lastO none l.segs)), 0)
theorem reach_is (l : Lg) : reachL l = (endT l, ckL l) := by
  unfold reachL endT
  by_cases h1 : headL l = false
  · rw [if_pos (.inl h1)]
    have : ckL l = 1 := by unfold ckL; rw [if_pos (.inl h1)]
    rw [this]; rfl
  have h1t : headL l = true := by simpa using h1
  by_cases h2 : (l.segs.any fun s => decide (l.limit < (s.bytes.length : Int))) = true
  · rw [if_pos (.inr h2)]
    have : chS l.limit none l.segs = false := by
      rw [Bool.eq_false_iff]
      intro h
      obtain ⟨s, hs, hl⟩ := List.any_eq_true.1 h2
      have := ((chS_man (o := none) rfl).1 h).1 s hs
      have := of_decide_eq_true hl
      omega
    have : ckL l = 1 := by unfold ckL; rw [if_pos (.inr this)]
    rw [this]; rfl
  have h2f : (l.segs.any fun s => decide (l.limit < (s.bytes.length : Int))) = false := by simpa using h2
  have hlen : ∀ s ∈ l.segs, (s.bytes.length : Int) ≤ l.limit := fun s hs => by
    have := List.any_eq_false.1 h2f s hs
    simp only [decide_eq_true_eq] at this
    omega
  rw [if_neg (by rw [h1t, h2f]; simp)]
  have hle := man_le none l.segs
  by_cases h3 : man none l.segs < l.segs.length ∨ wholeO (lastO none l.segs) = false
  · rw [if_pos h3]
    have : chS l.limit none l.segs = false := by
      rw [Bool.eq_false_iff]
      intro h
      obtain ⟨_, g2, g3⟩ := (chS_man (o := none) rfl).1 h
      rcases h3 with h3 | h3
      · omega
      · rw [h3] at g3; cases g3
    have : ckL l = 1 := by unfold ckL; rw [if_pos (.inr this)]
    rw [this]; rfl
  · rw [if_neg h3]
    have hch : chS l.limit none l.segs = true := (chS_man (o := none) rfl).2 ⟨hlen, by omega, by cases h : wholeO (lastO none l.segs) <;> simp_all⟩
    by_cases h4 : 256 < l.segs.length
    · rw [if_pos h4]
      have : ckL l = 2 := by unfold ckL; rw [if_neg (by rw [h1t, hch]; simp), if_pos h4]
      rw [this]; rfl
    · rw [if_neg h4]
      have hck : ckL l = 0 := by unfold ckL; rw [if_neg (by rw [h1t, hch]; simp), if_neg h4]
      rw [hck, if_pos rfl]
      have hne := (ckL_iff.1 hck).1.2.2
      obtain ⟨t, ht, hs⟩ := last_is hne
      have hl : lastO none l.segs = some t := by unfold lastO; rw [ht]
      rw [hl]
      have := endF_last (n := l.start) hch ht
      show (max l.start (endS t), (0 : Int)) = (endF l.start l.segs, 0)
      rw [this]
/-! ### the last segment that is so -/
def las (p : Sg → Bool) : List Sg → Nat
  | [] => 0
  | s :: l => if las p l = 0 then (if p s then 1 else 0) else las p l + 1
theorem las_cons (p : Sg → Bool) (s : Sg) (l : List Sg) : las p (s :: l) = if las p l = 0 then (if p s then 1 else 0) else las p l + 1 := rfl
theorem las_le (p : Sg → Bool) (l : List Sg) : las p l ≤ l.length := by
  induction l with
  | nil => exact Nat.le_refl _
  | cons s l ih => unfold las; simp only [List.length_cons]; split; split; all_goals omega
theorem las_hit {p : Sg → Bool} {l : List Sg} {k : Nat} {s : Sg} (hk : l[k]? = some s) (hp : p s = true) (hr : ∀ j t, k < j → l[j]? = some t → p t = false) : las p l = k + 1 := by
  have hl := (List.getElem?_eq_some_iff.1 hk).1
  have e : l = l.take k ++ s :: l.drop (k + 1) := by
    conv => lhs; rw [← List.take_append_drop k l]
    rw [List.drop_eq_getElem_cons hl, (List.getElem?_eq_some_iff.1 hk).2]
  have hz : las p (l.drop (k + 1)) = 0 := by
    have : ∀ m : List Sg, (∀ t ∈ m, p t = false) → las p m = 0 := by
      intro m
      induction m with
      | nil => intro _; rfl
      | cons t m ih => intro h; show (if las p m = 0 then (if p t then 1 else 0) else _) = 0; rw [if_pos (ih fun u hu => h u (by simp [hu])), h t (by simp)]; rfl
    refine this _ fun t ht => ?_
    obtain ⟨j, hj⟩ := List.mem_iff_getElem?.1 ht
    rw [List.getElem?_drop] at hj
    exact hr _ _ (by omega) hj
  have happ : ∀ (a b : List Sg), 0 < las p b → las p (a ++ b) = a.length + las p b := by
    intro a b hb
    induction a with
    | nil => simp
    | cons t a ih => rw [List.cons_append, las_cons, ih, if_neg (by omega), List.length_cons]; omega
  have h1 : las p (s :: l.drop (k + 1)) = 1 := by show (if las p (l.drop (k + 1)) = 0 then (if p s then 1 else 0) else _) = 1; rw [if_pos hz, if_pos hp]
  rw [e, happ _ _ (by omega), h1, List.length_take]
  omega
theorem las_none {p : Sg → Bool} {l : List Sg} (hr : ∀ s ∈ l, p s = false) : las p l = 0 := by
  induction l with
  | nil => rfl
  | cons t m ih => show (if las p m = 0 then (if p t then 1 else 0) else _) = 0; rw [if_pos (ih fun u hu => hr u (by simp [hu])), hr t (by simp)]; rfl
theorem las_at {p : Sg → Bool} {l : List Sg} {k : Nat} (h : las p l = k + 1) : ∃ s, l[k]? = some s ∧ p s = true ∧ ∀ t ∈ l.drop (k + 1), p t = false := by
  induction l generalizing k with
  | nil => cases h
  | cons s l ih =>
    by_cases h0 : las p l = 0
    · have e : las p (s :: l) = if p s then 1 else 0 := by conv => lhs; unfold las; rw [if_pos h0]
      rw [e] at h
      split at h
      · rename_i hp
        obtain rfl : k = 0 := by omega
        refine ⟨s, rfl, hp, fun t ht => ?_⟩
        have hz : ∀ m : List Sg, las p m = 0 → ∀ t ∈ m, p t = false := by
          intro m
          induction m with
          | nil => intro _ t ht; cases ht
          | cons u m ih2 =>
            intro hm t ht
            unfold las at hm
            split at hm
            · rename_i h9
              rcases List.mem_cons.1 ht with rfl | ht
              · cases hq : p t
                · rfl
                · rw [hq] at hm; cases hm
              · exact ih2 h9 t ht
            · omega
        exact hz l h0 t ht
      · cases h
    · have e : las p (s :: l) = las p l + 1 := by conv => lhs; unfold las; rw [if_neg h0]
      rw [e] at h
      obtain ⟨j, hj⟩ : ∃ j, las p l = j + 1 := ⟨las p l - 1, by omega⟩
      obtain ⟨t, h1, h2, h3⟩ := ih hj
      obtain rfl : k = j + 1 := by omega
      exact ⟨t, by rw [List.getElem?_cons_succ]; exact h1, h2, by rw [List.drop_succ_cons]; exact h3⟩
theorem las_zero {p : Sg → Bool} {l : List Sg} (h : las p l = 0) : ∀ t ∈ l, p t = false := by
  intro t ht
  obtain ⟨k, hk⟩ := List.mem_iff_getElem?.1 ht
  induction l generalizing k with
  | nil => cases ht
  | cons u m ih =>
    unfold las at h
    split at h
    · rename_i h9
      rcases List.mem_cons.1 ht with rfl | ht
      · cases hq : p t
        · rfl
        · rw [hq] at h; cases h
      · obtain ⟨j, hj⟩ := List.mem_iff_getElem?.1 ht
        exact ih h9 ht j hj
    · omega
/-! ### of a chain -/
theorem chS_ahead {limit : Int} {o : Option Sg} {a b : List Sg} {t : Sg} (h : chS limit o (a ++ t :: b) = true) : ∀ s ∈ a, wholeS s = true ∧ endS s ≤ t.base ∧ s.base < t.base := by
  induction a generalizing o with
  | nil => intro s hs; cases hs
  | cons u a ih =>
    rw [List.cons_append] at h
    obtain ⟨h1, h2, h3, h4⟩ := chS_cons.1 h
    have i := ih h4
    intro s hs
    rcases List.mem_cons.1 hs with rfl | hs
    · cases a with
      | nil =>
        obtain ⟨_, _, g3, _⟩ := chS_cons.1 h4
        have := folS_iff.1 g3
        exact ⟨h1, this.2, this.1⟩
      | cons v a =>
        rw [List.cons_append] at h4
        obtain ⟨_, _, g3, _⟩ := chS_cons.1 h4
        have := folS_iff.1 g3
        have h9 := i v (by simp)
        exact ⟨h1, by omega, by omega⟩
    · exact i s hs
theorem ahead_all2 {off : Int} {p : List Bt} (hp : ∀ b ∈ p, b.last < off) : Seg.ahead off p = p := by
  induction p with
  | nil => rfl
  | cons b p ih =>
    have h1 := hp b (by simp)
    show (if off ≤ b.last then [] else b :: Seg.ahead off p) = b :: p
    rw [if_neg (by omega), ih fun c hc => hp c (by simp [hc])]
theorem cut_whole {s : Sg} {off : Int} (hw : wholeS s = true) (h : endS s ≤ off) : cutS s off = s := by
  have h1 := (endS_ge s).2.1
  unfold cutS
  rw [ahead_all2 fun b hb => by have := h1 b hb; omega, ← (wholeS_iff.1 hw).2]
theorem split_at {l : List Sg} {k : Nat} {t : Sg} (h : l[k]? = some t) : l = l.take k ++ t :: l.drop (k + 1) := by
  have hl := (List.getElem?_eq_some_iff.1 h).1
  conv => lhs; rw [← List.take_append_drop k l]
  rw [List.drop_eq_getElem_cons hl, (List.getElem?_eq_some_iff.1 h).2]
def truS (to : Int) (l : List Sg) : List Sg := match las (fun s => decide (s.base < to)) l with
  | 0 => [⟨to, []⟩]
  | k + 1 => l.take k ++ [cutS (l[k]?.getD nilS) to]
theorem trunc_is {l : Lg} (hc : ckL l = 0) (to : Int) : truS to l.segs = if (l.segs.filter fun s => decide (s.base < to)) = [] then [⟨to, []⟩] else (l.segs.filter fun s => decide (s.base < to)).map fun s => cutS s to := by
  obtain ⟨_, c4, _⟩ := ckL_iff.1 hc
  unfold truS
  cases hl : las (fun s => decide (s.base < to)) l.segs with
  | zero =>
    have hz := las_zero hl
    rw [if_pos (List.filter_eq_nil_iff.2 fun s hs => by rw [hz s hs]; simp)]
  | succ k =>
    obtain ⟨t, h1, h2, h3⟩ := las_at hl
    have hs := split_at h1
    show l.segs.take k ++ [cutS (l.segs[k]?.getD nilS) to] = _
    rw [h1, Option.getD_some]
    have hc' := c4
    rw [hs] at hc'
    have ha := chS_ahead hc'
    have htb := of_decide_eq_true h2
    have e : (l.segs.filter fun s => decide (s.base < to)) = l.segs.take k ++ [t] := by
      conv => lhs; rw [hs]
      have e1 : (l.segs.drop (k + 1)).filter (fun s => decide (s.base < to)) = [] := List.filter_eq_nil_iff.2 fun s hs => by rw [h3 s hs]; simp
      have e2 : (l.segs.take k).filter (fun s => decide (s.base < to)) = l.segs.take k := List.filter_eq_self.2 fun s hs => decide_eq_true (by have := (ha s hs).2.2; omega)
      rw [List.filter_append, List.filter_cons_of_pos (p := fun s : Sg => decide (s.base < to)) h2, e1, e2]
    rw [e, if_neg (by simp), List.map_append]
    congr 1
    symm
    conv => rhs; rw [← List.map_id (l.segs.take k)]
    refine List.map_congr_left fun s hs => ?_
    have := ha s hs
    exact cut_whole this.1 (by omega)
def trimN (off : Int) (l : List Sg) : Nat := las (fun s => decide (endS s ≤ off)) (l.take (l.length - 1))
theorem trim_is {limit : Int} {o : Option Sg} {l : List Sg} (h : chS limit o l = true) (off : Int) : dropS off l = l.drop (trimN off l) := by
  induction l generalizing o with
  | nil => rfl
  | cons s l ih =>
    obtain ⟨h1, h2, h3, h4⟩ := chS_cons.1 h
    cases l with
    | nil => rfl
    | cons t l =>
      have i := ih h4
      have e1 : (s :: t :: l).take ((s :: t :: l).length - 1) = s :: (t :: l).take ((t :: l).length - 1) := by simp
      unfold trimN at i ⊢
      rw [e1]
      show (if endS s ≤ off then dropS off (t :: l) else s :: t :: l) = _
      obtain ⟨M, hM⟩ : ∃ M, M = (t :: l).take ((t :: l).length - 1) := ⟨_, rfl⟩
      rw [← hM] at i ⊢
      by_cases hle : endS s ≤ off
      · rw [if_pos hle, i]
        show _ = List.drop (if las _ M = 0 then (if decide (endS s ≤ off) = true then 1 else 0) else las _ M + 1) (s :: t :: l)
        by_cases h0 : las (fun s => decide (endS s ≤ off)) M = 0
        · rw [if_pos h0, h0, if_pos (decide_eq_true hle)]; rfl
        · rw [if_neg h0, List.drop_succ_cons]
      · rw [if_neg hle]
        have h0 : las (fun s => decide (endS s ≤ off)) M = 0 := by
          refine las_none fun u hu => decide_eq_false ?_
          rw [hM] at hu
          obtain ⟨a, b, hab⟩ := List.append_of_mem (List.mem_of_mem_take hu)
          have hc := h
          rw [hab, ← List.cons_append] at hc
          have := (chS_ahead hc s (by simp)).2.1
          have := (endS_ge u).1
          omega
        show _ = List.drop (if las _ M = 0 then (if decide (endS s ≤ off) = true then 1 else 0) else las _ M + 1) (s :: t :: l)
        rw [if_pos h0, decide_eq_false hle]; rfl
def itN (from_ : Int) (l : List Sg) : Nat := las (fun s => decide (s.base ≤ from_)) l - 1
def itB (from_ : Int) (l : List Sg) : List Bt := ((l.drop (itN from_ l)).flatMap batS).filter fun b => decide (from_ ≤ b.last)
theorem it_is {limit : Int} {o : Option Sg} {l : List Sg} (h : chS limit o l = true) (from_ : Int) : itB from_ l = (l.flatMap batS).filter fun b => decide (from_ ≤ b.last) := by
  unfold itB itN
  cases hl : las (fun s => decide (s.base ≤ from_)) l with
  | zero => rfl
  | succ k =>
    obtain ⟨t, h1, h2, h3⟩ := las_at hl
    have hs := split_at h1
    have ht := of_decide_eq_true h2
    have hc := h
    rw [hs] at hc
    have ha := chS_ahead hc
    rw [Nat.add_sub_cancel]
    have e : l.flatMap batS = (l.take k).flatMap batS ++ (l.drop k).flatMap batS := by rw [← List.flatMap_append, List.take_append_drop]
    have e2 : ((l.take k).flatMap batS).filter (fun b => decide (from_ ≤ b.last)) = [] := by
      refine List.filter_eq_nil_iff.2 fun b hb => ?_
      obtain ⟨s, hs', hb'⟩ := List.mem_flatMap.1 hb
      have h5 := (endS_ge s).2.1 b hb'
      have h6 := (ha s hs').2.1
      simp only [decide_eq_true_eq]
      omega
    rw [e, List.filter_append, e2, List.nil_append]
theorem it_all {l : Lg} (hc : ckL l = 0) : itB l.start l.segs = allL l := it_is (ckL_iff.1 hc).2.1 l.start
theorem it_from {l : Lg} (hc : ckL l = 0) {off : Int} (h : l.start ≤ off) : itB off l.segs = (allL l).filter fun b => decide (off ≤ b.last) := by
  rw [it_is (ckL_iff.1 hc).2.1 off]
  unfold allL batL
  rw [List.filter_filter]
  refine List.filter_congr fun b _ => ?_
  by_cases h1 : off ≤ b.last
  · rw [decide_eq_true h1, decide_eq_true (by omega)]; rfl
  · rw [decide_eq_false h1]; rfl
theorem of_one {b : Bt} (h : chB b = 0) {limit : Int} (hl : 1 ≤ limit ∧ limit ≤ 4096) : ofS b.base [b] limit = if limit < ((byB b).length : Int) then (nilS, 70) else (⟨b.base, byB b⟩, 0) := by
  have hb := chB_last h
  have e : newS b.base = (⟨b.base, []⟩, 0) := by unfold newS; rw [if_neg (by omega)]
  have hr : ris b.base [] = true := rfl
  obtain ⟨p1, p2, p3⟩ := batS_put hr
  rw [byR_nil] at p1 p2 p3
  have hw : wholeS ⟨b.base, []⟩ = true := wholeS_iff.2 ⟨by simp only; omega, by rw [p1, byR_nil]⟩
  have p4 : endS ⟨b.base, []⟩ = b.base := p3
  unfold ofS
  rw [e, if_neg (by simp only [ne_eq, not_true_eq_false, false_or]; omega), allS_cons]
  by_cases h1 : limit < ((byB b).length : Int)
  · have : apS ⟨b.base, []⟩ b limit = (nilS, 70) := by
      unfold apS
      rw [if_neg (by rw [hw]; simp only [Bool.true_eq_false, false_or]; omega), if_neg (by omega), if_neg (by omega), if_pos (by simp only [List.length_nil]; omega)]
    rw [this, if_pos h1]; rfl
  · have : apS ⟨b.base, []⟩ b limit = (⟨b.base, byB b⟩, 0) := by
      unfold apS
      rw [if_neg (by rw [hw]; simp only [Bool.true_eq_false, false_or]; omega), if_neg (by omega), if_neg (by omega), if_neg (by simp only [List.length_nil]; omega)]
      rfl
    rw [this, if_neg h1, if_neg (by simp)]; rfl
end Go.Proofs.YtejcjmiofidedaaGreatDoor.Chn

/- The document's example: a log of one batch. Nothing of the program. -/
namespace Go.Proofs.YtejcjmiofidedaaGreatDoor.Chn
open Oct Rec Crc Bat Seg

def exC : Bt := ⟨10, 12, 10, 0, -1, 0, 0, false, 0, [⟨10, { data := #[] }, { data := #[118] }, false, 0⟩, ⟨12, { data := #[] }, { data := #[119] }, false, 0⟩]⟩
def exD : Bt := ⟨12, 14, 12, 0, -1, 0, 0, false, 0, [⟨12, { data := #[] }, { data := #[118] }, false, 0⟩, ⟨14, { data := #[] }, { data := #[119] }, false, 0⟩]⟩
theorem exC_form : Bat.form exC = true := by decide +kernel
theorem exD_form : Bat.form exD = true := by decide +kernel
theorem exC_body : (body exC).length ≤ 100 := by
  unfold body exC hd tl
  simp only [vs]
  repeat rw [vb_small (by decide)]
  decide +kernel
theorem exD_body : (body exD).length ≤ 100 := by
  unfold body exD hd tl
  simp only [vs]
  repeat rw [vb_small (by decide)]
  decide +kernel
theorem exC_len : (byB exC).length ≤ 120 := by have h := byB_length exC; have h2 := exC_body; omega
theorem exC_ch : chB exC = 0 := by
  have h := byB_length exC
  have h2 := exC_body
  unfold chB
  rw [if_pos exC_form, if_neg (by omega)]
theorem exD_ch : chB exD = 0 := by
  have h := byB_length exD
  have h2 := exD_body
  unfold chB
  rw [if_pos exD_form, if_neg (by omega)]
def lgA : Lg := ⟨256, 10, [⟨10, []⟩]⟩
def lgB : Lg := ⟨256, 10, [⟨10, byB exC⟩]⟩
def lgD : Lg := ⟨256, 13, [⟨10, byB exC⟩]⟩
theorem ex_new : newL 256 10 = (lgA, 0) := by unfold newL; rw [if_neg (by decide)]; rfl
theorem ex_seg : batS ⟨10, byB exC⟩ = [exC] ∧ endS ⟨10, byB exC⟩ = 13 ∧ wholeS ⟨10, byB exC⟩ = true := by
  obtain ⟨h1, h2, h3⟩ := one_seg (b := exC) exC_ch
  exact ⟨h2, h3, h1⟩
theorem ex_seg0 : batS ⟨10, []⟩ = [] ∧ endS ⟨10, []⟩ = 10 ∧ wholeS ⟨10, []⟩ = true := by
  have h := newL_ok (limit := 256) (start := 10) (by rw [ex_new])
  refine ⟨by unfold batS; rw [sc_nil], by unfold endS batS; rw [sc_nil]; rfl, by simp [wholeS, goodS, sc_nil]⟩
theorem ex_ckA : ckL lgA = 0 := ckL_iff.2 ⟨by decide, chS_cons.2 ⟨ex_seg0.2.2, by decide, rfl, rfl⟩, by decide⟩
theorem ex_ckB : ckL lgB = 0 := ckL_iff.2 ⟨⟨by decide, by decide, by simp [lgB]⟩, chS_cons.2 ⟨ex_seg.2.2, by have := exC_len; simp only [lgB]; omega, rfl, rfl⟩, by simp [lgB]⟩
theorem ex_ckD : ckL lgD = 0 := ckL_iff.2 ⟨⟨by decide, by decide, by simp [lgD]⟩, chS_cons.2 ⟨ex_seg.2.2, by have := exC_len; simp only [lgD]; omega, rfl, rfl⟩, by simp [lgD]⟩
theorem ex_endA : endL lgA = 10 := by show max (10 : Int) (endS ⟨10, []⟩) = 10; rw [ex_seg0.2.1]; rfl
theorem ex_endB : endL lgB = 13 := by show max (10 : Int) (endS ⟨10, byB exC⟩) = 13; rw [ex_seg.2.1]; rfl
theorem ex_ap : apL lgA exC = (lgB, 0) := by
  have h := exC_len
  have h1 : ¬ (lgA.limit < ((byB exC).length : Int)) := by simp only [lgA]; omega
  have h2 : apS ⟨10, []⟩ exC 256 = (⟨10, byB exC⟩, 0) := by
    unfold apS
    rw [ex_seg0.2.2, ex_seg0.2.1, if_neg (by simp), if_neg (by rw [exC_ch]; simp), if_neg (by decide), if_neg (by simp; omega)]
    rfl
  unfold apL
  rw [ex_ckA, if_neg (by simp), exC_ch, if_neg (by simp), ex_endA, if_neg (by decide), if_neg h1]
  show (if (apS ⟨10, []⟩ exC 256).2 = 0 then _ else _) = _
  rw [h2, if_pos rfl]
  show ((⟨256, 10, [] ++ [(apS ⟨10, []⟩ exC 256).1]⟩ : Lg), (0 : Int)) = _
  rw [h2]
  rfl
theorem ex_ap2 : apL lgB exD = (nilL, 71) := by
  unfold apL
  rw [ex_ckB, if_neg (by simp), exD_ch, if_neg (by simp), ex_endB, if_pos (by decide)]
theorem ex_endTA : endT lgA = 10 := by unfold endT; rw [if_pos ex_ckA, ex_endA]
theorem ex_endTB : endT lgB = 13 := by unfold endT; rw [if_pos ex_ckB, ex_endB]
theorem ex_allA : allT lgA = [] := by unfold allT allL batL; rw [if_pos ex_ckA]; show (batS ⟨10, []⟩ ++ []).filter _ = []; rw [ex_seg0.1]; rfl
theorem ex_allLB : allL lgB = [exC] := by unfold allL batL; show (batS ⟨10, byB exC⟩ ++ []).filter _ = _; rw [ex_seg.1]; rfl
theorem ex_allB : allT lgB = [exC] := by unfold allT; rw [if_pos ex_ckB, ex_allLB]
theorem ex_allD : allT lgD = [] := by unfold allT allL batL; rw [if_pos ex_ckD]; show (batS ⟨10, byB exC⟩ ++ []).filter _ = _; rw [ex_seg.1]; rfl
theorem ex_trunc : truncL lgB 12 = (lgA, 0) := by
  unfold truncL
  rw [ex_ckB, ex_endB, if_neg (by simp), if_neg (by decide)]
  have h : (lgB.segs.filter fun s => decide (s.base < 12)) = [⟨10, byB exC⟩] := rfl
  rw [h, if_neg (by simp)]
  have h2 : cutS ⟨10, byB exC⟩ 12 = ⟨10, []⟩ := by
    unfold cutS
    rw [ex_seg.1]
    have h3 : Seg.ahead 12 [exC] = [] := by unfold Seg.ahead; rw [if_pos (by decide)]
    rw [h3, byR_nil]
  show ((⟨256, 10, [cutS ⟨10, byB exC⟩ 12]⟩ : Lg), (0 : Int)) = _
  rw [h2]
  rfl
theorem ex_read : readL lgB 11 0 = ([exC], 0) := by
  unfold readL
  rw [ex_ckB, ex_endB, ex_allLB, if_neg (by simp), if_neg (by decide), if_neg (by decide)]
  rfl
theorem ex_read2 : readL lgB 14 0 = ([], 90) := by
  unfold readL
  rw [ex_ckB, ex_endB, if_neg (by simp), if_neg (by decide), if_pos (by decide)]
theorem ex_trim : trimL lgB 13 = (lgD, 0) := by
  unfold trimL
  rw [ex_ckB, ex_endB, if_neg (by simp), if_neg (by decide)]
  rfl
theorem ex_rec : recL lgB = (lgB, 0) := by
  have h : recS true none lgB.segs = (lgB.segs, 0) := rec_chain (limit := 256) (ckL_iff.1 ex_ckB).2.1
  show (if ((256 ≤ lgB.limit ∧ lgB.limit ≤ 4096) ∧ (0 ≤ lgB.start ∧ lgB.start ≤ 1099511627776) ∧ inO 10 = true) then (⟨lgB.limit, lgB.start, (recS true none lgB.segs).1⟩, (recS true none lgB.segs).2) else (nilL, 0)) = _
  rw [if_pos (by decide), h]
theorem ex_repl : replL lgB 0 [] = (nilL, 90) := by
  unfold replL
  rw [ex_ckB, if_neg (by simp), if_pos (by decide)]
theorem ex_nil : ckL nilL = 1 := by unfold ckL; rw [if_pos (.inl (by decide))]
end Go.Proofs.YtejcjmiofidedaaGreatDoor.Chn

/- More plain mathematics of layer 9: what is left behind a crash; a closed segment for another one. Nothing of the program. -/
namespace Go.Proofs.YtejcjmiofidedaaGreatDoor.Chn
open Oct Rec Crc Bat Seg

theorem filter_pre {p : Bt → Bool} {a b : List Bt} {j : Nat} (h : b = a.take j) : ∃ i, b.filter p = (a.filter p).take i := by
  subst h
  refine ⟨((a.take j).filter p).length, ?_⟩
  have e : a.filter p = (a.take j).filter p ++ (a.drop j).filter p := by rw [← List.filter_append, List.take_append_drop]
  rw [e, List.take_left]
theorem bytesL_one (l : List Sg) (s : Sg) : bytesL (l ++ [s]) = bytesL l + s.bytes.length := by
  unfold bytesL
  rw [List.map_append, List.sum_append]
  simp
theorem begins_ok {l : Lg} (hc : ckL l = 0) {pre post : List Sg} {t t' : Sg} (hs : l.segs = pre ++ t :: post) (hb : t'.base = t.base) (hl : (t'.bytes.length : Int) ≤ l.limit) {k : Nat} (hk : batS t' = (batS t).take k) (hw : wholeS t' = false ∨ post = []) :
    recS true none (pre ++ t' :: post) = (pre ++ [(fixS t').1], (fixS t').2 + bytesL post) ∧ ckL ⟨l.limit, l.start, pre ++ [(fixS t').1]⟩ = 0 ∧ (∃ j, allL ⟨l.limit, l.start, pre ++ [(fixS t').1]⟩ = (allL l).take j) ∧ recS true none (pre ++ [(fixS t').1]) = (pre ++ [(fixS t').1], 0) := by
  obtain ⟨⟨c1, c2, c3⟩, c4, c5⟩ := ckL_iff.1 hc
  rw [hs, chS_app] at c4
  obtain ⟨d1, d2⟩ := c4
  obtain ⟨d3, d4, d5, d6⟩ := chS_cons.1 d2
  have hbase := (wholeS_iff.1 d3).1
  obtain ⟨f1, f2, f3, f4, f5⟩ := fix_good (s := t') (by rw [hb]; exact hbase)
  have hfol : ∀ u : Sg, u.base = t.base → folO (lastO none pre) u = true := by
    intro u hu
    cases ho : lastO none pre with
    | none => rfl
    | some v =>
      rw [ho] at d5
      have := folS_iff.1 d5
      exact folS_iff.2 (by rw [hu]; exact this)
  have hch : chS l.limit none (pre ++ [(fixS t').1]) = true := chS_app.2 ⟨d1, chS_cons.2 ⟨f1, by omega, hfol _ (f2.trans hb), rfl⟩⟩
  have hlen : pre.length + 1 ≤ l.segs.length := by rw [hs, List.length_append, List.length_cons]; omega
  refine ⟨?_, ckL_iff.2 ⟨⟨c1, c2, by simp⟩, hch, by simp only [List.length_append, List.length_singleton]; omega⟩, ?_, rec_chain hch⟩
  · rcases hw with hw | hw
    · exact rec_torn d1 (hfol _ hb) post hw
    · subst hw
      rw [rec_split d1]
      unfold recS
      rw [hfol _ hb]
      have e : bytesL [] = 0 := rfl
      simp [recS, e]
  · have e1 : batL ⟨l.limit, l.start, pre ++ [(fixS t').1]⟩ = pre.flatMap batS ++ (batS t).take k := by
      unfold batL
      simp only
      rw [List.flatMap_append, List.flatMap_cons, List.flatMap_nil, List.append_nil, (batS_fix t').1, hk]
    have e2 : batL l = pre.flatMap batS ++ (batS t ++ post.flatMap batS) := by
      unfold batL
      rw [hs, List.flatMap_append, List.flatMap_cons]
    have e3 : pre.flatMap batS ++ (batS t).take k = (batL l).take ((pre.flatMap batS).length + min k (batS t).length) := by
      obtain ⟨X, hX⟩ : ∃ X, X = pre.flatMap batS := ⟨_, rfl⟩
      obtain ⟨Y, hY⟩ : ∃ Y, Y = batS t := ⟨_, rfl⟩
      rw [e2, ← hX, ← hY, List.take_append, List.take_of_length_le (l := X) (by omega), Nat.add_sub_cancel_left, List.take_append_of_le_length (Nat.min_le_right _ _)]
      congr 1
      by_cases h : k ≤ Y.length
      · rw [Nat.min_eq_left h]
      · rw [Nat.min_eq_right (by omega), List.take_of_length_le (by omega), List.take_length]
    unfold allL
    rw [e1]
    exact filter_pre e3
theorem torn_bat (t : Sg) (n : Nat) : ∃ k, batS ⟨t.base, t.bytes.take n⟩ = (batS t).take k := by
  by_cases h : n ≤ t.bytes.length
  · obtain ⟨k, _, h2, _⟩ := sc_torn t.base t.bytes n h
    exact ⟨k, h2⟩
  · refine ⟨(batS t).length, ?_⟩
    rw [List.take_of_length_le (l := t.bytes) (by omega), List.take_length]
theorem spoilt_bat {t : Sg} (hw : wholeS t = true) {i : Nat} {d e : UInt8} (hd : t.bytes[i]? = some d) (hne : d ≠ e) : (∃ k, batS ⟨t.base, t.bytes.set i e⟩ = (batS t).take k) ∧ wholeS ⟨t.base, t.bytes.set i e⟩ = false := by
  have hb := (wholeS_iff.1 hw).2
  have hil := (List.getElem?_eq_some_iff.1 hd).1
  have hr := (sc_good t.base t.bytes).1
  obtain ⟨k, b, j, h1, h2, h3⟩ := byR_find (bs := batS t) (i := i) (by rw [← hb]; exact hil)
  have hdj : (byB b)[j]? = some d := by
    have hs := (byR_split h1).1
    rw [hb, hs, h2, List.append_assoc, List.getElem?_append_right (by omega), Nat.add_sub_cancel_left, List.getElem?_append_left h3] at hd
    exact hd
  have hsp : sc t.base ((byR (batS t)).set ((byR ((batS t).take k)).length + j) e) = ((batS t).take k, (byR ((batS t).take k)).length) := by
    have := sc_spoilt hr [] h1 hdj hne
    rw [List.append_nil] at this
    exact this
  rw [← h2] at hsp
  have e1 : sc t.base (t.bytes.set i e) = ((batS t).take k, (byR ((batS t).take k)).length) := by
    have e2 : t.bytes.set i e = (byR (batS t)).set i e := by rw [← hb]
    rw [e2]
    exact hsp
  refine ⟨⟨k, by unfold batS at e1 ⊢; simp only; rw [e1]⟩, ?_⟩
  unfold wholeS goodS
  simp only
  rw [e1]
  refine decide_eq_false ?_
  simp only [List.length_set]
  omega
/-! ### a closed segment for another one -/
theorem sub_ris {lo : Int} {a b : List Bt} (h : a.Sublist b) (hb : ris lo b = true) : ris lo a = true := by
  induction h generalizing lo with
  | slnil => rfl
  | cons x _ ih =>
    obtain ⟨⟨h1, h2⟩, h3⟩ := ris_cons.1 hb
    have := chB_last h1
    have hm : ∀ (lo lo' : Int) (l : List Bt), lo' ≤ lo → ris lo l = true → ris lo' l = true := by
      intro lo lo' l hl hr
      cases l with
      | nil => rfl
      | cons y l =>
        obtain ⟨⟨g1, g2⟩, g3⟩ := ris_cons.1 hr
        exact ris_cons.2 ⟨⟨g1, by omega⟩, g3⟩
    exact hm _ _ _ (by omega) (ih h3)
  | cons_cons x _ ih =>
    obtain ⟨h1, h3⟩ := ris_cons.1 hb
    exact ris_cons.2 ⟨h1, ih h3⟩
theorem sub_bytes {a b : List Bt} (h : a.Sublist b) : (byR a).length ≤ (byR b).length := by
  induction h with
  | slnil => exact Nat.le_refl _
  | cons x _ ih => rw [byR_cons, List.length_append]; omega
  | cons_cons x _ ih => rw [byR_cons, byR_cons, List.length_append, List.length_append]; omega
theorem sub_end {lo : Int} {a b : List Bt} (h : a.Sublist b) (hb : ris lo b = true) : endR lo a ≤ endR lo b := by
  induction h generalizing lo with
  | slnil => exact Int.le_refl _
  | cons x hs ih =>
    obtain ⟨⟨h1, h2⟩, h3⟩ := ris_cons.1 hb
    have hl := chB_last h1
    have i := ih h3
    have g := (endR_ge (sub_ris hs h3)).1
    have hm : ∀ (l : List Bt) (lo lo' : Int), lo' ≤ lo → endR lo' l ≤ endR lo l := by
      intro l lo lo' hle
      cases l with
      | nil => exact hle
      | cons y l => exact Int.le_refl _
    exact Int.le_trans (hm _ (x.last + 1) lo (by omega)) i
  | cons_cons x _ ih => exact ih (ris_cons.1 hb).2
theorem allS_ris {limit : Int} (hlim : 1 ≤ limit ∧ limit ≤ 4096) {base : Int} (hbase : 0 ≤ base ∧ base ≤ 1099511627776) {cs bs : List Bt} (h : ris base (cs ++ bs) = true) (hl : ((byR (cs ++ bs)).length : Int) ≤ limit) : allS limit ⟨base, byR cs⟩ bs = (⟨base, byR (cs ++ bs)⟩, 0) := by
  induction bs generalizing cs with
  | nil => rw [List.append_nil]; rfl
  | cons b bs ih =>
    have h' := h
    rw [show cs ++ b :: bs = (cs ++ [b]) ++ bs by simp] at h'
    obtain ⟨r1, r2⟩ := ris_app.1 h'
    obtain ⟨r3, r4, r5⟩ := ris_snoc.1 r1
    obtain ⟨p1, p2, p3⟩ := batS_put r3
    have hw : wholeS ⟨base, byR cs⟩ = true := wholeS_iff.2 ⟨hbase, by rw [p1]⟩
    have hlen : ((byR cs).length : Int) + (byB b).length ≤ limit := by
      rw [byR_app, byR_cons, List.length_append, List.length_append] at hl
      omega
    have e : apS ⟨base, byR cs⟩ b limit = (⟨base, byR (cs ++ [b])⟩, 0) := by
      unfold apS
      rw [if_neg (by rw [hw]; simp only [Bool.true_eq_false, false_or]; omega), if_neg (by omega), if_neg (by rw [p3]; omega), if_neg (by simp only; omega), byR_app, byR_cons, byR_nil, List.append_nil]
    rw [allS_cons, e, if_neg (by simp)]
    have := ih (cs := cs ++ [b]) h' (by rw [show (cs ++ [b]) ++ bs = cs ++ b :: bs by simp]; exact hl)
    rw [this]
    simp
theorem ofS_ris {limit : Int} (hlim : 1 ≤ limit ∧ limit ≤ 4096) {base : Int} (hbase : 0 ≤ base ∧ base ≤ 1099511627776) {bs : List Bt} (h : ris base bs = true) (hl : ((byR bs).length : Int) ≤ limit) : ofS base bs limit = (⟨base, byR bs⟩, 0) := by
  have e : newS base = (⟨base, []⟩, 0) := by unfold newS; rw [if_neg (by omega)]
  unfold ofS
  rw [e, if_neg (by simp only [ne_eq, not_true_eq_false, false_or]; omega)]
  have := allS_ris hlim hbase (cs := []) h hl
  rw [byR_nil] at this
  exact this
theorem repl_some {l : Lg} (hc : ckL l = 0) {pre post : List Sg} {s t : Sg} (hs : l.segs = pre ++ s :: t :: post) {bs : List Bt} (hb : bs.Sublist (batS s)) :
    replL l (pre.length : Int) bs = (⟨l.limit, l.start, pre ++ ⟨s.base, byR bs⟩ :: t :: post⟩, 0) ∧ ckL ⟨l.limit, l.start, pre ++ ⟨s.base, byR bs⟩ :: t :: post⟩ = 0 ∧ endL ⟨l.limit, l.start, pre ++ ⟨s.base, byR bs⟩ :: t :: post⟩ = endL l ∧
    batL ⟨l.limit, l.start, pre ++ ⟨s.base, byR bs⟩ :: t :: post⟩ = pre.flatMap batS ++ (bs ++ (t :: post).flatMap batS) := by
  obtain ⟨⟨c1, c2, c3⟩, c4, c5⟩ := ckL_iff.1 hc
  have c4' := c4
  rw [hs, chS_app] at c4
  obtain ⟨d1, d2⟩ := c4
  obtain ⟨d3, d4, d5, d6⟩ := chS_cons.1 d2
  obtain ⟨e3, e4, e5, e6⟩ := chS_cons.1 d6
  have hbase := (wholeS_iff.1 d3).1
  have hby := (wholeS_iff.1 d3).2
  have hr := sub_ris hb (sc_good s.base s.bytes).1
  have hlen : ((byR bs).length : Int) ≤ l.limit := by
    have := sub_bytes hb
    rw [← hby] at this
    omega
  have hof := ofS_ris (limit := l.limit) (by omega) hbase hr hlen
  obtain ⟨p1, p2, p3⟩ := batS_put hr
  have hend : endS ⟨s.base, byR bs⟩ ≤ t.base := by
    rw [p3]
    have h1 := sub_end hb (sc_good s.base s.bytes).1
    have h2 := (folS_iff.1 e5).2
    unfold endS at h2
    exact Int.le_trans h1 h2
  have hw : wholeS ⟨s.base, byR bs⟩ = true := wholeS_iff.2 ⟨hbase, by rw [p1]⟩
  have hf : folO (lastO none pre) ⟨s.base, byR bs⟩ = true := by
    cases ho : lastO none pre with
    | none => rfl
    | some v =>
      rw [ho] at d5
      exact folS_iff.2 (folS_iff.1 d5)
  have hch : chS l.limit none (pre ++ ⟨s.base, byR bs⟩ :: t :: post) = true := by
    refine chS_app.2 ⟨d1, chS_cons.2 ⟨hw, hlen, hf, chS_cons.2 ⟨e3, e4, folS_iff.2 ⟨(folS_iff.1 e5).1, hend⟩, e6⟩⟩⟩
  have hll : l.segs.length = pre.length + 2 + post.length := by rw [hs]; simp; omega
  refine ⟨?_, ckL_iff.2 ⟨⟨c1, c2, by simp⟩, hch, by simp only [List.length_append, List.length_cons]; omega⟩, ?_, ?_⟩
  · have g1 : l.segs[pre.length]? = some s := by rw [hs, List.getElem?_append_right (Nat.le_refl _), Nat.sub_self]; rfl
    have g2 : l.segs[pre.length + 1]? = some t := by rw [hs, List.getElem?_append_right (by omega), Nat.add_sub_cancel_left]; rfl
    unfold replL
    rw [if_neg (by omega), if_neg (by omega), Int.toNat_natCast, g1, g2]
    simp only
    rw [hof, if_neg (by simp), if_neg (by simp only; omega), hs, List.set_append_right _ _ (Nat.le_refl _), Nat.sub_self]
    rfl
  · obtain ⟨u, hu⟩ : ∃ u, (t :: post).getLast? = some u := by
      cases hh : (t :: post).getLast? with
      | none => exact absurd (List.getLast?_eq_none_iff.1 hh) (by simp)
      | some u => exact ⟨u, rfl⟩
    have hlast : ∀ x : Sg, (pre ++ x :: t :: post).getLast? = some u := by
      intro x
      rw [List.getLast?_append, List.getLast?_cons_cons, hu]
      rfl
    have h1 := endF_last (n := l.start) hch (hlast _)
    have h2 := endF_last (n := l.start) c4' (t := u) (by rw [hs]; exact hlast _)
    show endF l.start (pre ++ ⟨s.base, byR bs⟩ :: t :: post) = endF l.start l.segs
    rw [h1, h2]
  · unfold batL
    simp only
    rw [List.flatMap_append, List.flatMap_cons, p1]
end Go.Proofs.YtejcjmiofidedaaGreatDoor.Chn
