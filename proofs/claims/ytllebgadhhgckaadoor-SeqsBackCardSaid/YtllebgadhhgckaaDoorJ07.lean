/- Joined: BatMath, BatMath2. -/
import Derived.Test.YtllebgadhhgckaaDoorJ06
/- The plain mathematics of layer 4: a batch, its bytes, what bytes tell. Nothing of the program. -/
namespace Go.Proofs.YtllebgadhhgckaaDoor.Bat
open Oct Rec Crc

structure Bt where
  base : Int
  last : Int
  frm : Int
  epoch : Int
  pid : Int
  gen : Int
  seq : Int
  txn : Bool
  ctl : Int
  recs : List Rc

def W64 (x : Int) : Prop := -9223372036854775808 ≤ x ∧ x ≤ 9223372036854775807
def inG (n : Int) : Bool := decide (0 ≤ n ∧ n ≤ 1048576)
def rise (lo hi : Int) : List Rc → Bool
  | [] => true
  | r :: l => may r && decide (lo < r.off ∧ r.off ≤ hi) && rise r.off hi l
def form (b : Bt) : Bool :=
  decide (0 ≤ b.base ∧ b.base ≤ 1099511627776 ∧ 0 ≤ b.last ∧ b.last ≤ 1099511627776 ∧ 0 ≤ b.frm ∧ b.frm ≤ 1099511627776 ∧ b.base ≤ b.last ∧ b.last - b.base < 16 ∧
    b.frm + (b.last - b.base) ≤ 1099511627776 ∧ 0 ≤ b.epoch ∧ b.epoch ≤ 1048576 ∧ 0 ≤ b.gen ∧ b.gen ≤ 1048576 ∧ 0 ≤ b.seq ∧ b.seq ≤ 1048576 ∧ b.seq + (b.last - b.base) ≤ 1048576 ∧
    (b.pid = -1 ∧ b.gen = 0 ∧ b.seq = 0 ∧ b.txn = false ∧ b.ctl = 0 ∨ b.pid ≠ -1 ∧ 0 ≤ b.pid ∧ b.pid ≤ 1099511627776)) &&
  (if b.ctl = 0 then rise (b.base - 1) b.last b.recs else decide ((b.ctl = 1 ∨ b.ctl = 2) ∧ b.last = b.base ∧ b.recs = [] ∧ b.txn = true ∧ 0 ≤ b.pid))

def vs : List Int → List UInt8
  | [] => []
  | x :: l => vb (zz x) ++ vs l
def rs (base st : Int) : List Rc → List UInt8
  | [] => []
  | r :: l => rb r base st ++ rs base st l
def mark (b : Bt) : UInt8 := UInt8.ofNat (b.ctl.toNat + if b.txn then 4 else 0)
def hd (b : Bt) : List Int := [b.base, b.last - b.base, b.frm, b.epoch, b.pid, b.gen, b.seq]
def tl (base : Int) : List Rc → List UInt8
  | [] => []
  | r :: l => vb (zz r.stamp) ++ rs base r.stamp (r :: l)
def body (b : Bt) : List UInt8 := vs (hd b) ++ ([mark b] ++ (vb (zz b.recs.length) ++ tl b.base b.recs))
def byB (b : Bt) : List UInt8 := beN (sealB (body b)).length 4 4 ++ sealB (body b)
def chB (b : Bt) : Int := if form b then (if 2048 < (byB b).length then 2 else 0) else 1
def ptB (b : Bt) : List UInt8 × Int := if chB b = 0 then (byB b, 0) else ([], chB b)
def szB (b : Bt) : Int := if chB b = 0 then (byB b).length else 0

def rdV : Nat → List UInt8 → Int → Option (List Int × Int)
  | 0, _, p => some ([], p)
  | k + 1, l, p => if (gv l p).2.2 ≠ 0 then none else match rdV k l (gv l p).2.1 with
    | none => none
    | some (xs, q) => some ((gv l p).1 :: xs, q)
def rdR : Nat → List UInt8 → Int → Int → Int → Option (List Rc × Int)
  | 0, _, p, _, _ => some ([], p)
  | k + 1, l, p, base, st => if (gr l p base st).2.2 ≠ 0 then none else match rdR k l (gr l p base st).2.1 base st with
    | none => none
    | some (xs, q) => some ((gr l p base st).1 :: xs, q)
def rdT (k : Nat) (l : List UInt8) (p base : Int) : Option (List Rc × Int) :=
  if k = 0 then some ([], p) else if (gv l p).2.2 ≠ 0 then none else match rdR k l (gv l p).2.1 base (gv l p).1 with
    | none => none
    | some (xs, q) => if (xs.head?.map (·.stamp)) = some (gv l p).1 then some (xs, q) else none
def rdB (l : List UInt8) : Option (Bt × Int) :=
  match rdV 7 l 0 with
  | some ([n0, n1, n2, n3, n4, n5, n6], p) => match l[p.toNat]? with
    | none => none
    | some c => if 7 < c.toNat then none else if (gv l (p + 1)).2.2 ≠ 0 then none else
      if (gv l (p + 1)).1 < 0 ∨ 16 < (gv l (p + 1)).1 ∨ n1 < 0 ∨ 16 < n1 ∨ n0 < 0 ∨ 1099511627776 < n0 then none else
      match rdT (gv l (p + 1)).1.toNat l (gv l (p + 1)).2.1 n0 with
      | none => none
      | some (xs, q) => some (⟨n0, n0 + n1, n2, n3, n4, n5, n6, decide (4 ≤ c.toNat), ((c.toNat % 4 : Nat) : Int), xs⟩, q)
  | _ => none

/-! ### what is written is read -/
theorem rdV_at (xs : List Int) (h t : List UInt8) (hx : ∀ x ∈ xs, W64 x) : rdV xs.length (h ++ (vs xs ++ t)) (h.length : Int) = some (xs, ((h ++ vs xs).length : Int)) := by
  induction xs generalizing h with
  | nil => simp [rdV, vs]
  | cons x xs ih =>
    have g := gv_at h (vs xs ++ t) x (hx x (by simp))
    have e : h ++ (vs (x :: xs) ++ t) = h ++ vb (zz x) ++ (vs xs ++ t) := by simp [vs, List.append_assoc]
    have i := ih (h ++ vb (zz x)) (fun y hy => hx y (by simp [hy]))
    rw [List.length_cons, rdV, e, g]
    simp only
    rw [if_neg (by simp)]
    rw [List.length_append, Int.natCast_add] at i
    rw [i]
    simp [vs, List.append_assoc]
theorem rdR_at (xs : List Rc) (base st : Int) (h t : List UInt8) (hx : ∀ r ∈ xs, may r = true) (hb : inR base = true) (hs : inR st = true) :
    rdR xs.length (h ++ (rs base st xs ++ t)) (h.length : Int) base st = some (xs, ((h ++ rs base st xs).length : Int)) := by
  induction xs generalizing h with
  | nil => simp [rdR, rs]
  | cons x xs ih =>
    have g := gr_rb (hx x (by simp)) hb hs h (rs base st xs ++ t)
    have e : h ++ (rs base st (x :: xs) ++ t) = h ++ rb x base st ++ (rs base st xs ++ t) := by simp [rs, List.append_assoc]
    have i := ih (h ++ rb x base st) (fun y hy => hx y (by simp [hy]))
    rw [List.length_cons, rdR, e, g]
    simp only
    rw [if_neg (by simp)]
    rw [List.length_append, Int.natCast_add] at i
    rw [i]
    simp [rs, List.append_assoc]
theorem rdT_at (xs : List Rc) (base : Int) (h t : List UInt8) (hx : ∀ r ∈ xs, may r = true) (hb : inR base = true) :
    rdT xs.length (h ++ (tl base xs ++ t)) (h.length : Int) base = some (xs, ((h ++ tl base xs).length : Int)) := by
  cases xs with
  | nil => simp [rdT, tl]
  | cons x xs =>
    have hm := may_iff.1 (hx x (by simp))
    have hst : inR x.stamp = true := inR_iff.2 hm.2.1
    have g := gv_at h (rs base x.stamp (x :: xs) ++ t) x.stamp (by omega)
    have e : h ++ (tl base (x :: xs) ++ t) = h ++ vb (zz x.stamp) ++ (rs base x.stamp (x :: xs) ++ t) := by simp [tl, List.append_assoc]
    have i := rdR_at (x :: xs) base x.stamp (h ++ vb (zz x.stamp)) t hx hb hst
    rw [rdT, if_neg (by simp), e, g]
    simp only
    rw [if_neg (by simp)]
    rw [List.length_append, Int.natCast_add] at i
    rw [i]
    simp [tl, List.append_assoc]
end Go.Proofs.YtllebgadhhgckaaDoor.Bat

/- More plain mathematics of layer 4: what is written is read, what is read was written, no body begins another one. Nothing of the program. -/
namespace Go.Proofs.YtllebgadhhgckaaDoor.Bat
open Oct Rec Crc

theorem rise_may {lo hi : Int} {l : List Rc} (h : rise lo hi l = true) : ∀ r ∈ l, may r = true := by
  induction l generalizing lo with
  | nil => simp
  | cons x l ih =>
    simp only [rise, Bool.and_eq_true] at h
    intro r hr
    rcases List.mem_cons.1 hr with rfl | hr
    · exact h.1.1
    · exact ih h.2 r hr
theorem rise_len {lo hi : Int} {l : List Rc} (h : rise lo hi l = true) : l = [] ∨ (l.length : Int) ≤ hi - lo := by
  induction l generalizing lo with
  | nil => exact .inl rfl
  | cons x l ih =>
    simp only [rise, Bool.and_eq_true, decide_eq_true_eq] at h
    right
    rcases ih h.2 with e | e
    · subst e; simp; omega
    · simp only [List.length_cons]; omega

structure Form (b : Bt) : Prop where
  base0 : 0 ≤ b.base
  base1 : b.base ≤ 1099511627776
  last0 : 0 ≤ b.last
  last1 : b.last ≤ 1099511627776
  frm0 : 0 ≤ b.frm
  frm1 : b.frm ≤ 1099511627776
  le : b.base ≤ b.last
  near : b.last - b.base < 16
  frm2 : b.frm + (b.last - b.base) ≤ 1099511627776
  ep0 : 0 ≤ b.epoch
  ep1 : b.epoch ≤ 1048576
  gen0 : 0 ≤ b.gen
  gen1 : b.gen ≤ 1048576
  seq0 : 0 ≤ b.seq
  seq1 : b.seq ≤ 1048576
  seq2 : b.seq + (b.last - b.base) ≤ 1048576
  pid0 : -1 ≤ b.pid
  pid1 : b.pid ≤ 1099511627776
  none : b.pid = -1 → b.gen = 0 ∧ b.seq = 0 ∧ b.txn = false ∧ b.ctl = 0
  ctl0 : 0 ≤ b.ctl
  ctl1 : b.ctl ≤ 2
  data : b.ctl = 0 → rise (b.base - 1) b.last b.recs = true
  ends : b.ctl ≠ 0 → b.last = b.base ∧ b.recs = [] ∧ b.txn = true ∧ 0 ≤ b.pid
theorem form_iff (b : Bt) : form b = true ↔ Form b := by
  unfold form
  constructor
  · intro h
    simp only [Bool.and_eq_true, decide_eq_true_eq] at h
    obtain ⟨⟨h1, h2, h3, h4, h5, h6, h7, h8, h9, h10, h11, h12, h13, h14, h15, h16, h17⟩, hc⟩ := h
    by_cases h0 : b.ctl = 0
    · rw [if_pos h0] at hc
      exact ⟨h1, h2, h3, h4, h5, h6, h7, h8, h9, h10, h11, h12, h13, h14, h15, h16, by omega, by omega, fun hp => by rcases h17 with h | h; exact h.2; exact absurd hp h.1, by omega, by omega, fun _ => hc, fun hh => absurd h0 hh⟩
    · rw [if_neg h0] at hc
      simp only [decide_eq_true_eq] at hc
      exact ⟨h1, h2, h3, h4, h5, h6, h7, h8, h9, h10, h11, h12, h13, h14, h15, h16, by omega, by omega, fun hp => by rcases h17 with h | h; exact h.2; exact absurd hp h.1, by omega, by omega, fun hh => absurd hh h0, fun _ => hc.2⟩
  · intro h
    simp only [Bool.and_eq_true, decide_eq_true_eq]
    refine ⟨⟨h.base0, h.base1, h.last0, h.last1, h.frm0, h.frm1, h.le, h.near, h.frm2, h.ep0, h.ep1, h.gen0, h.gen1, h.seq0, h.seq1, h.seq2, ?_⟩, ?_⟩
    · by_cases hp : b.pid = -1
      · exact .inl ⟨hp, h.none hp⟩
      · have := h.pid0; exact .inr ⟨hp, by omega, h.pid1⟩
    · by_cases h0 : b.ctl = 0
      · rw [if_pos h0]; exact h.data h0
      · rw [if_neg h0]
        have := h.ctl0
        have := h.ctl1
        simp only [decide_eq_true_eq]
        exact ⟨by omega, h.ends h0⟩
theorem Form.mays {b : Bt} (h : Form b) : ∀ r ∈ b.recs, may r = true := by
  by_cases h0 : b.ctl = 0
  · exact rise_may (h.data h0)
  · rw [(h.ends h0).2.1]; simp
theorem Form.few {b : Bt} (h : Form b) : b.recs.length ≤ 16 := by
  by_cases h0 : b.ctl = 0
  · have := h.near
    rcases rise_len (h.data h0) with e | e
    · rw [e]; simp
    · omega
  · rw [(h.ends h0).2.1]; simp
theorem Form.heads {b : Bt} (h : Form b) : ∀ x ∈ hd b, W64 x := by
  obtain ⟨h1, h2, h3, h4, h5, h6, h7, h8, h9, h10, h11, h12, h13, h14, h15, h16, h17, h18, -, -, -, -, -⟩ := h
  intro x hx
  simp only [hd, List.mem_cons, List.not_mem_nil, or_false] at hx
  unfold W64
  rcases hx with rfl | rfl | rfl | rfl | rfl | rfl | rfl <;> omega
theorem mark_num {b : Bt} (h0 : 0 ≤ b.ctl) (h1 : b.ctl ≤ 3) : (mark b).toNat = b.ctl.toNat + if b.txn then 4 else 0 := by
  unfold mark
  apply ofNat_toNat'
  split <;> omega

theorem rdB_at {b : Bt} (hf : Form b) (t : List UInt8) : rdB (body b ++ t) = some (b, ((body b).length : Int)) := by
  have g1 := rdV_at (hd b) [] ([mark b] ++ (vb (zz b.recs.length) ++ tl b.base b.recs) ++ t) hf.heads
  have e1 : [] ++ (vs (hd b) ++ ([mark b] ++ (vb (zz b.recs.length) ++ tl b.base b.recs) ++ t)) = body b ++ t := by simp [body, List.append_assoc]
  rw [e1] at g1
  have g2 := gv_at (vs (hd b) ++ [mark b]) (tl b.base b.recs ++ t) (b.recs.length : Int) (by have := hf.few; omega)
  have e2 : vs (hd b) ++ [mark b] ++ vb (zz (b.recs.length : Int)) ++ (tl b.base b.recs ++ t) = body b ++ t := by simp [body, List.append_assoc]
  rw [e2] at g2
  have g3 := rdT_at b.recs b.base (vs (hd b) ++ [mark b] ++ vb (zz b.recs.length)) t hf.mays (inR_iff.2 ⟨hf.base0, hf.base1⟩)
  have e3 : vs (hd b) ++ [mark b] ++ vb (zz (b.recs.length : Int)) ++ (tl b.base b.recs ++ t) = body b ++ t := by simp [body, List.append_assoc]
  rw [e3] at g3
  have e4 : ((vs (hd b) ++ [mark b] ++ vb (zz (b.recs.length : Int)) ++ tl b.base b.recs).length : Int) = ((body b).length : Int) := by congr 2; simp [body, List.append_assoc]
  rw [e4] at g3
  have g4 : (body b ++ t)[((vs (hd b)).length : Int).toNat]? = some (mark b) := by
    have e : body b ++ t = vs (hd b) ++ (mark b :: ((vb (zz b.recs.length) ++ tl b.base b.recs) ++ t)) := by simp [body, List.append_assoc]
    rw [e, Int.toNat_natCast, List.getElem?_append_right (Nat.le_refl _), Nat.sub_self]; rfl
  have hm := mark_num (b := b) hf.ctl0 (by have := hf.ctl1; omega)
  have hc0 := hf.ctl0
  have hc1 := hf.ctl1
  have hfew := hf.few
  have hle := hf.le
  have hnear := hf.near
  have hb0 := hf.base0
  have hb1 := hf.base1
  have g1' : rdV 7 (body b ++ t) 0 = some ([b.base, b.last - b.base, b.frm, b.epoch, b.pid, b.gen, b.seq], ((vs (hd b)).length : Int)) := g1
  have g2' : gv (body b ++ t) (((vs (hd b)).length : Int) + 1) = ((b.recs.length : Int), ((vs (hd b) ++ [mark b] ++ vb (zz (b.recs.length : Int))).length : Int), 0) := by
    rw [@List.length_append _ (vs (hd b) ++ [mark b]) _, Int.natCast_add, ← g2]
    congr 1
    simp
  unfold rdB
  rw [g1']
  simp only [g4, g2']
  rw [if_neg (by rw [hm]; split <;> omega), if_neg (by simp), if_neg (by omega), Int.toNat_natCast, g3]
  simp only [Option.some.injEq, Prod.mk.injEq, and_true]
  have c1 : b.base + (b.last - b.base) = b.last := by omega
  have c2 : decide (4 ≤ (mark b).toNat) = b.txn := by
    rw [hm]
    cases b.txn
    · simp; omega
    · simp
  have c3 : (((mark b).toNat % 4 : Nat) : Int) = b.ctl := by
    rw [hm]
    cases b.txn <;> simp <;> omega
  rw [c1, c2, c3]

/-! ### what is read was written -/
theorem rdV_good {k : Nat} {l : List UInt8} {p q : Int} {xs : List Int} (h : rdV k l p = some (xs, q)) (hp : 0 ≤ p ∧ p ≤ l.length) :
    xs.length = k ∧ p ≤ q ∧ q ≤ l.length ∧ vs xs = (l.drop p.toNat).take (q - p).toNat ∧ ∀ x ∈ xs, W64 x := by
  induction k generalizing p q xs with
  | zero =>
    simp only [rdV, Option.some.injEq, Prod.mk.injEq] at h
    obtain ⟨rfl, rfl⟩ := h
    refine ⟨rfl, by omega, by omega, ?_, by simp⟩
    rw [Int.sub_self]; rfl
  | succ k ih =>
    rw [rdV] at h
    by_cases h0 : (gv l p).2.2 = 0
    case neg => rw [if_pos h0] at h; cases h
    rw [if_neg (by simpa using h0)] at h
    rcases g1 : gv l p with ⟨x, i, e⟩
    rw [g1] at h h0
    simp only at h h0
    subst h0
    obtain ⟨a1, a2, a3, a4, a5, a6, a7⟩ := gv_good g1
    cases hr : rdV k l i with
    | none => rw [hr] at h; cases h
    | some y =>
      obtain ⟨ys, q'⟩ := y
      rw [hr] at h
      simp only [Option.some.injEq, Prod.mk.injEq] at h
      obtain ⟨rfl, rfl⟩ := h
      obtain ⟨b1, b2, b3, b4, b5⟩ := ih hr (by omega)
      refine ⟨by simp [b1], by omega, b3, ?_, ?_⟩
      · rw [vs, a5, b4, seg_join l (by omega) (by omega) (by omega)]
      · intro y hy
        rcases List.mem_cons.1 hy with rfl | hy
        · exact ⟨a6, a7⟩
        · exact b5 y hy
theorem rdR_good {k : Nat} {l : List UInt8} {p q base st : Int} {xs : List Rc} (h : rdR k l p base st = some (xs, q)) (hp : 0 ≤ p ∧ p ≤ l.length) :
    xs.length = k ∧ p ≤ q ∧ q ≤ l.length ∧ rs base st xs = (l.drop p.toNat).take (q - p).toNat ∧ ∀ r ∈ xs, may r = true := by
  induction k generalizing p q xs with
  | zero =>
    simp only [rdR, Option.some.injEq, Prod.mk.injEq] at h
    obtain ⟨rfl, rfl⟩ := h
    refine ⟨rfl, by omega, by omega, ?_, by simp⟩
    rw [Int.sub_self]; rfl
  | succ k ih =>
    rw [rdR] at h
    by_cases h0 : (gr l p base st).2.2 = 0
    case neg => rw [if_pos h0] at h; cases h
    rw [if_neg (by simpa using h0)] at h
    rcases g1 : gr l p base st with ⟨x, i, e⟩
    rw [g1] at h h0
    simp only at h h0
    subst h0
    obtain ⟨_, _, a3, a4, a5, a6, a7⟩ := gr_good g1
    cases hr : rdR k l i base st with
    | none => rw [hr] at h; cases h
    | some y =>
      obtain ⟨ys, q'⟩ := y
      rw [hr] at h
      simp only [Option.some.injEq, Prod.mk.injEq] at h
      obtain ⟨rfl, rfl⟩ := h
      obtain ⟨b1, b2, b3, b4, b5⟩ := ih hr (by omega)
      refine ⟨by simp [b1], by omega, b3, ?_, ?_⟩
      · rw [rs, a7, b4, seg_join l (by omega) (by omega) (by omega)]
      · intro y hy
        rcases List.mem_cons.1 hy with rfl | hy
        · exact a3
        · exact b5 y hy
theorem rdT_good {k : Nat} {l : List UInt8} {p q base : Int} {xs : List Rc} (h : rdT k l p base = some (xs, q)) (hp : 0 ≤ p ∧ p ≤ l.length) :
    xs.length = k ∧ p ≤ q ∧ q ≤ l.length ∧ tl base xs = (l.drop p.toNat).take (q - p).toNat ∧ ∀ r ∈ xs, may r = true := by
  unfold rdT at h
  by_cases hk : k = 0
  · rw [if_pos hk] at h
    simp only [Option.some.injEq, Prod.mk.injEq] at h
    obtain ⟨rfl, rfl⟩ := h
    subst hk
    refine ⟨rfl, by omega, by omega, ?_, by simp⟩
    rw [Int.sub_self]; rfl
  · rw [if_neg hk] at h
    by_cases h0 : (gv l p).2.2 = 0
    case neg => rw [if_pos h0] at h; cases h
    rw [if_neg (by simpa using h0)] at h
    rcases g1 : gv l p with ⟨x, i, e⟩
    rw [g1] at h h0
    simp only at h h0
    subst h0
    obtain ⟨a1, a2, a3, a4, a5, a6, a7⟩ := gv_good g1
    cases hr : rdR k l i base x with
    | none => rw [hr] at h; cases h
    | some y =>
      obtain ⟨ys, q'⟩ := y
      rw [hr] at h
      simp only at h
      by_cases hh : (ys.head?.map (·.stamp)) = some x
      case neg => rw [if_neg hh] at h; cases h
      rw [if_pos hh] at h
      simp only [Option.some.injEq, Prod.mk.injEq] at h
      obtain ⟨rfl, rfl⟩ := h
      obtain ⟨b1, b2, b3, b4, b5⟩ := rdR_good hr (by omega)
      refine ⟨b1, by omega, b3, ?_, b5⟩
      cases ys with
      | nil => simp at hh
      | cons y ys =>
        simp only [List.head?_cons, Option.map_some, Option.some.injEq] at hh
        rw [tl, hh, a5, b4, seg_join l (by omega) (by omega) (by omega)]
theorem rdB_good {l : List UInt8} {b : Bt} {q : Int} (h : rdB l = some (b, q)) : 0 ≤ q ∧ q ≤ l.length ∧ body b = l.take q.toNat ∧ (∀ r ∈ b.recs, may r = true) ∧ b.recs.length ≤ 16 ∧ 0 ≤ b.base ∧ b.base ≤ 1099511627776 ∧ 0 ≤ b.last - b.base ∧ b.last - b.base ≤ 16 ∧ 0 ≤ b.ctl ∧ b.ctl ≤ 3 ∧ ∀ x ∈ hd b, W64 x := by
  unfold rdB at h
  split at h
  case h_2 => cases h
  rename_i n0 n1 n2 n3 n4 n5 n6 p hv
  obtain ⟨_, v2, v3, v4, v5⟩ := rdV_good hv (by omega)
  split at h
  case h_1 => cases h
  rename_i c hc
  split at h
  · cases h
  rename_i hc7
  split at h
  · cases h
  rename_i he
  have he0 : (gv l (p + 1)).2.2 = 0 := by simpa using he
  rcases g1 : gv l (p + 1) with ⟨m, i, e⟩
  simp only [g1] at h he0
  subst he0
  obtain ⟨a1, a2, a3, a4, a5, a6, a7⟩ := gv_good g1
  split at h
  · cases h
  rename_i hbd
  split at h
  case h_1 => cases h
  rename_i xs q' ht
  simp only [Option.some.injEq, Prod.mk.injEq] at h
  obtain ⟨rfl, rfl⟩ := h
  obtain ⟨t1, t2, t3, t4, t5⟩ := rdT_good ht (by omega)
  have hb1 : n0 + n1 - n0 = n1 := by omega
  refine ⟨by omega, t3, ?_, t5, by simp only; omega, by simp only; omega, by simp only; omega, by simp only; omega, by simp only; omega, by simp only; omega, by simp only; omega, by simp only [hd, hb1]; exact v5⟩
  have hmk : mark ⟨n0, n0 + n1, n2, n3, n4, n5, n6, decide (4 ≤ c.toNat), ((c.toNat % 4 : Nat) : Int), xs⟩ = c := by
    unfold mark
    simp only [Int.toNat_natCast, decide_eq_true_eq]
    apply UInt8.toNat.inj
    rw [ofNat_toNat' (by split <;> omega)]
    split <;> omega
  have hx : (zz ((xs.length : Nat) : Int)) = zz m := by congr 1; omega
  have e3 : [c] = (l.drop p.toNat).take (p + 1 - p).toNat := by
    have : (p + 1 - p).toNat = 1 := by omega
    rw [this, drop_at hc]; rfl
  unfold body
  rw [hmk]
  simp only [hd, hb1]
  rw [hx, v4, e3, a5, t4, seg_join l (by omega) (by omega) (by omega), seg_join l (by omega) (by omega) (by omega), seg_join l (by omega) (by omega) (by omega)]
  have e0 : (0 : Int).toNat = 0 := rfl
  rw [e0, List.drop_zero, Int.sub_zero]
end Go.Proofs.YtllebgadhhgckaaDoor.Bat
