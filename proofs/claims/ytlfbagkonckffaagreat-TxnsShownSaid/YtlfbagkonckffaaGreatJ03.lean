/- Joined: BatMath, BatMath2, BatMath3. -/
import Derived.Test.YtlfbagkonckffaaGreatJ02
/- The plain mathematics of layer 4: a batch, its bytes, what bytes tell. Nothing of the program. -/
namespace Go.Proofs.YtlfbagkonckffaaGreat.Bat
open Oct Rec Crc

structure Bt where
  base : Int
  last : Int
  frm : Int
  epoch : Int
  pid : Int
  gen : Int
  seq : Int
  txn : Bool
  ctl : Int
  recs : List Rc

def W64 (x : Int) : Prop := -9223372036854775808 ≤ x ∧ x ≤ 9223372036854775807
def inG (n : Int) : Bool := decide (0 ≤ n ∧ n ≤ 1048576)
def rise (lo hi : Int) : List Rc → Bool
  | [] => true
  | r :: l => may r && decide (lo < r.off ∧ r.off ≤ hi) && rise r.off hi l
def form (b : Bt) : Bool :=
  decide (0 ≤ b.base ∧ b.base ≤ 1099511627776 ∧ 0 ≤ b.last ∧ b.last ≤ 1099511627776 ∧ 0 ≤ b.frm ∧ b.frm ≤ 1099511627776 ∧ b.base ≤ b.last ∧ b.last - b.base < 16 ∧
    b.frm + (b.last - b.base) ≤ 1099511627776 ∧ 0 ≤ b.epoch ∧ b.epoch ≤ 1048576 ∧ 0 ≤ b.gen ∧ b.gen ≤ 1048576 ∧ 0 ≤ b.seq ∧ b.seq ≤ 1048576 ∧ b.seq + (b.last - b.base) ≤ 1048576 ∧
    (b.pid = -1 ∧ b.gen = 0 ∧ b.seq = 0 ∧ b.txn = false ∧ b.ctl = 0 ∨ b.pid ≠ -1 ∧ 0 ≤ b.pid ∧ b.pid ≤ 1099511627776)) &&
  (if b.ctl = 0 then rise (b.base - 1) b.last b.recs else decide ((b.ctl = 1 ∨ b.ctl = 2) ∧ b.last = b.base ∧ b.recs = [] ∧ b.txn = true ∧ 0 ≤ b.pid))

def vs : List Int → List UInt8
  | [] => []
  | x :: l => vb (zz x) ++ vs l
def rs (base st : Int) : List Rc → List UInt8
  | [] => []
  | r :: l => rb r base st ++ rs base st l
def mark (b : Bt) : UInt8 := UInt8.ofNat (b.ctl.toNat + if b.txn then 4 else 0)
def hd (b : Bt) : List Int := [b.base, b.last - b.base, b.frm, b.epoch, b.pid, b.gen, b.seq]
def tl (base : Int) : List Rc → List UInt8
  | [] => []
  | r :: l => vb (zz r.stamp) ++ rs base r.stamp (r :: l)
def body (b : Bt) : List UInt8 := vs (hd b) ++ ([mark b] ++ (vb (zz b.recs.length) ++ tl b.base b.recs))
def byB (b : Bt) : List UInt8 := beN (sealB (body b)).length 4 4 ++ sealB (body b)
def chB (b : Bt) : Int := if form b then (if 2048 < (byB b).length then 2 else 0) else 1
def ptB (b : Bt) : List UInt8 × Int := if chB b = 0 then (byB b, 0) else ([], chB b)
def szB (b : Bt) : Int := if chB b = 0 then (byB b).length else 0

def rdV : Nat → List UInt8 → Int → Option (List Int × Int)
  | 0, _, p => some ([], p)
  | k + 1, l, p => if (gv l p).2.2 ≠ 0 then none else match rdV k l (gv l p).2.1 with
    | none => none
    | some (xs, q) => some ((gv l p).1 :: xs, q)
def rdR : Nat → List UInt8 → Int → Int → Int → Option (List Rc × Int)
  | 0, _, p, _, _ => some ([], p)
  | k + 1, l, p, base, st => if (gr l p base st).2.2 ≠ 0 then none else match rdR k l (gr l p base st).2.1 base st with
    | none => none
    | some (xs, q) => some ((gr l p base st).1 :: xs, q)
def rdT (k : Nat) (l : List UInt8) (p base : Int) : Option (List Rc × Int) :=
  if k = 0 then some ([], p) else if (gv l p).2.2 ≠ 0 then none else match rdR k l (gv l p).2.1 base (gv l p).1 with
    | none => none
    | some (xs, q) => if (xs.head?.map (·.stamp)) = some (gv l p).1 then some (xs, q) else none
def rdB (l : List UInt8) : Option (Bt × Int) :=
  match rdV 7 l 0 with
  | some ([n0, n1, n2, n3, n4, n5, n6], p) => match l[p.toNat]? with
    | none => none
    | some c => if 7 < c.toNat then none else if (gv l (p + 1)).2.2 ≠ 0 then none else
      if (gv l (p + 1)).1 < 0 ∨ 16 < (gv l (p + 1)).1 ∨ n1 < 0 ∨ 16 < n1 ∨ n0 < 0 ∨ 1099511627776 < n0 then none else
      match rdT (gv l (p + 1)).1.toNat l (gv l (p + 1)).2.1 n0 with
      | none => none
      | some (xs, q) => some (⟨n0, n0 + n1, n2, n3, n4, n5, n6, decide (4 ≤ c.toNat), ((c.toNat % 4 : Nat) : Int), xs⟩, q)
  | _ => none

/-! ### what is written is read -/
end Go.Proofs.YtlfbagkonckffaaGreat.Bat

/- More plain mathematics of layer 4: what is written is read, what is read was written, no body begins another one. Nothing of the program. -/
namespace Go.Proofs.YtlfbagkonckffaaGreat.Bat
open Oct Rec Crc

theorem rise_may {lo hi : Int} {l : List Rc} (h : rise lo hi l = true) : ∀ r ∈ l, may r = true := by
  induction l generalizing lo with
  | nil => simp
  | cons x l ih =>
    simp only [rise, Bool.and_eq_true] at h
    intro r hr
    rcases List.mem_cons.1 hr with rfl | hr
    · exact h.1.1
    · exact ih h.2 r hr
theorem rise_len {lo hi : Int} {l : List Rc} (h : rise lo hi l = true) : l = [] ∨ (l.length : Int) ≤ hi - lo := by
  induction l generalizing lo with
  | nil => exact .inl rfl
  | cons x l ih =>
    simp only [rise, Bool.and_eq_true, decide_eq_true_eq] at h
    right
    rcases ih h.2 with e | e
    · subst e; simp; omega
    · simp only [List.length_cons]; omega

structure Form (b : Bt) : Prop where
  base0 : 0 ≤ b.base
  base1 : b.base ≤ 1099511627776
  last0 : 0 ≤ b.last
  last1 : b.last ≤ 1099511627776
  frm0 : 0 ≤ b.frm
  frm1 : b.frm ≤ 1099511627776
  le : b.base ≤ b.last
  near : b.last - b.base < 16
  frm2 : b.frm + (b.last - b.base) ≤ 1099511627776
  ep0 : 0 ≤ b.epoch
  ep1 : b.epoch ≤ 1048576
  gen0 : 0 ≤ b.gen
  gen1 : b.gen ≤ 1048576
  seq0 : 0 ≤ b.seq
  seq1 : b.seq ≤ 1048576
  seq2 : b.seq + (b.last - b.base) ≤ 1048576
  pid0 : -1 ≤ b.pid
  pid1 : b.pid ≤ 1099511627776
  none : b.pid = -1 → b.gen = 0 ∧ b.seq = 0 ∧ b.txn = false ∧ b.ctl = 0
  ctl0 : 0 ≤ b.ctl
  ctl1 : b.ctl ≤ 2
  data : b.ctl = 0 → rise (b.base - 1) b.last b.recs = true
  ends : b.ctl ≠ 0 → b.last = b.base ∧ b.recs = [] ∧ b.txn = true ∧ 0 ≤ b.pid
theorem form_iff (b : Bt) : form b = true ↔ Form b := by
  unfold form
  constructor
  · intro h
    simp only [Bool.and_eq_true, decide_eq_true_eq] at h
    obtain ⟨⟨h1, h2, h3, h4, h5, h6, h7, h8, h9, h10, h11, h12, h13, h14, h15, h16, h17⟩, hc⟩ := h
    by_cases h0 : b.ctl = 0
    · rw [if_pos h0] at hc
      exact ⟨h1, h2, h3, h4, h5, h6, h7, h8, h9, h10, h11, h12, h13, h14, h15, h16, by omega, by omega, fun hp => by rcases h17 with h | h; exact h.2; exact absurd hp h.1, by omega, by omega, fun _ => hc, fun hh => absurd h0 hh⟩
    · rw [if_neg h0] at hc
      simp only [decide_eq_true_eq] at hc
      exact ⟨h1, h2, h3, h4, h5, h6, h7, h8, h9, h10, h11, h12, h13, h14, h15, h16, by omega, by omega, fun hp => by rcases h17 with h | h; exact h.2; exact absurd hp h.1, by omega, by omega, fun hh => absurd hh h0, fun _ => hc.2⟩
  · intro h
    simp only [Bool.and_eq_true, decide_eq_true_eq]
    refine ⟨⟨h.base0, h.base1, h.last0, h.last1, h.frm0, h.frm1, h.le, h.near, h.frm2, h.ep0, h.ep1, h.gen0, h.gen1, h.seq0, h.seq1, h.seq2, ?_⟩, ?_⟩
    · by_cases hp : b.pid = -1
      · exact .inl ⟨hp, h.none hp⟩
      · have := h.pid0; exact .inr ⟨hp, by omega, h.pid1⟩
    · by_cases h0 : b.ctl = 0
      · rw [if_pos h0]; exact h.data h0
      · rw [if_neg h0]
        have := h.ctl0
        have := h.ctl1
        simp only [decide_eq_true_eq]
        exact ⟨by omega, h.ends h0⟩
theorem Form.mays {b : Bt} (h : Form b) : ∀ r ∈ b.recs, may r = true := by
  by_cases h0 : b.ctl = 0
  · exact rise_may (h.data h0)
  · rw [(h.ends h0).2.1]; simp
theorem Form.few {b : Bt} (h : Form b) : b.recs.length ≤ 16 := by
  by_cases h0 : b.ctl = 0
  · have := h.near
    rcases rise_len (h.data h0) with e | e
    · rw [e]; simp
    · omega
  · rw [(h.ends h0).2.1]; simp
theorem Form.heads {b : Bt} (h : Form b) : ∀ x ∈ hd b, W64 x := by
  obtain ⟨h1, h2, h3, h4, h5, h6, h7, h8, h9, h10, h11, h12, h13, h14, h15, h16, h17, h18, -, -, -, -, -⟩ := h
  intro x hx
  simp only [hd, List.mem_cons, List.not_mem_nil, or_false] at hx
  unfold W64
  rcases hx with rfl | rfl | rfl | rfl | rfl | rfl | rfl <;> omega
theorem mark_num {b : Bt} (h0 : 0 ≤ b.ctl) (h1 : b.ctl ≤ 3) : (mark b).toNat = b.ctl.toNat + if b.txn then 4 else 0 := by
  unfold mark
  apply ofNat_toNat'
  split <;> omega

/-! ### what is read was written -/
theorem rdV_good {k : Nat} {l : List UInt8} {p q : Int} {xs : List Int} (h : rdV k l p = some (xs, q)) (hp : 0 ≤ p ∧ p ≤ l.length) :
    xs.length = k ∧ p ≤ q ∧ q ≤ l.length ∧ vs xs = (l.drop p.toNat).take (q - p).toNat ∧ ∀ x ∈ xs, W64 x := by
  induction k generalizing p q xs with
  | zero =>
    simp only [rdV, Option.some.injEq, Prod.mk.injEq] at h
    obtain ⟨rfl, rfl⟩ := h
    refine ⟨rfl, by omega, by omega, ?_, by simp⟩
    rw [Int.sub_self]; rfl
  | succ k ih =>
    rw [rdV] at h
    by_cases h0 : (gv l p).2.2 = 0
    case neg => rw [if_pos h0] at h; cases h
    rw [if_neg (by simpa using h0)] at h
    rcases g1 : gv l p with ⟨x, i, e⟩
    rw [g1] at h h0
    simp only at h h0
    subst h0
    obtain ⟨a1, a2, a3, a4, a5, a6, a7⟩ := gv_good g1
    cases hr : rdV k l i with
    | none => rw [hr] at h; cases h
    | some y =>
      obtain ⟨ys, q'⟩ := y
      rw [hr] at h
      simp only [Option.some.injEq, Prod.mk.injEq] at h
      obtain ⟨rfl, rfl⟩ := h
      obtain ⟨b1, b2, b3, b4, b5⟩ := ih hr (by omega)
      refine ⟨by simp [b1], by omega, b3, ?_, ?_⟩
      · rw [vs, a5, b4, seg_join l (by omega) (by omega) (by omega)]
      · intro y hy
        rcases List.mem_cons.1 hy with rfl | hy
        · exact ⟨a6, a7⟩
        · exact b5 y hy
theorem rdR_good {k : Nat} {l : List UInt8} {p q base st : Int} {xs : List Rc} (h : rdR k l p base st = some (xs, q)) (hp : 0 ≤ p ∧ p ≤ l.length) :
    xs.length = k ∧ p ≤ q ∧ q ≤ l.length ∧ rs base st xs = (l.drop p.toNat).take (q - p).toNat ∧ ∀ r ∈ xs, may r = true := by
  induction k generalizing p q xs with
  | zero =>
    simp only [rdR, Option.some.injEq, Prod.mk.injEq] at h
    obtain ⟨rfl, rfl⟩ := h
    refine ⟨rfl, by omega, by omega, ?_, by simp⟩
    rw [Int.sub_self]; rfl
  | succ k ih =>
    rw [rdR] at h
    by_cases h0 : (gr l p base st).2.2 = 0
    case neg => rw [if_pos h0] at h; cases h
    rw [if_neg (by simpa using h0)] at h
    rcases g1 : gr l p base st with ⟨x, i, e⟩
    rw [g1] at h h0
    simp only at h h0
    subst h0
    obtain ⟨_, _, a3, a4, a5, a6, a7⟩ := gr_good g1
    cases hr : rdR k l i base st with
    | none => rw [hr] at h; cases h
    | some y =>
      obtain ⟨ys, q'⟩ := y
      rw [hr] at h
      simp only [Option.some.injEq, Prod.mk.injEq] at h
      obtain ⟨rfl, rfl⟩ := h
      obtain ⟨b1, b2, b3, b4, b5⟩ := ih hr (by omega)
      refine ⟨by simp [b1], by omega, b3, ?_, ?_⟩
      · rw [rs, a7, b4, seg_join l (by omega) (by omega) (by omega)]
      · intro y hy
        rcases List.mem_cons.1 hy with rfl | hy
        · exact a3
        · exact b5 y hy
theorem rdT_good {k : Nat} {l : List UInt8} {p q base : Int} {xs : List Rc} (h : rdT k l p base = some (xs, q)) (hp : 0 ≤ p ∧ p ≤ l.length) :
    xs.length = k ∧ p ≤ q ∧ q ≤ l.length ∧ tl base xs = (l.drop p.toNat).take (q - p).toNat ∧ ∀ r ∈ xs, may r = true := by
  unfold rdT at h
  by_cases hk : k = 0
  · rw [if_pos hk] at h
    simp only [Option.some.injEq, Prod.mk.injEq] at h
    obtain ⟨rfl, rfl⟩ := h
    subst hk
    refine ⟨rfl, by omega, by omega, ?_, by simp⟩
    rw [Int.sub_self]; rfl
  · rw [if_neg hk] at h
    by_cases h0 : (gv l p).2.2 = 0
    case neg => rw [if_pos h0] at h; cases h
    rw [if_neg (by simpa using h0)] at h
    rcases g1 : gv l p with ⟨x, i, e⟩
    rw [g1] at h h0
    simp only at h h0
    subst h0
    obtain ⟨a1, a2, a3, a4, a5, a6, a7⟩ := gv_good g1
    cases hr : rdR k l i base x with
    | none => rw [hr] at h; cases h
    | some y =>
      obtain ⟨ys, q'⟩ := y
      rw [hr] at h
      simp only at h
      by_cases hh : (ys.head?.map (·.stamp)) = some x
      case neg => rw [if_neg hh] at h; cases h
      rw [if_pos hh] at h
      simp only [Option.some.injEq, Prod.mk.injEq] at h
      obtain ⟨rfl, rfl⟩ := h
      obtain ⟨b1, b2, b3, b4, b5⟩ := rdR_good hr (by omega)
      refine ⟨b1, by omega, b3, ?_, b5⟩
      cases ys with
      | nil => simp at hh
      | cons y ys =>
        simp only [List.head?_cons, Option.map_some, Option.some.injEq] at hh
        rw [tl, hh, a5, b4, seg_join l (by omega) (by omega) (by omega)]
theorem rdB_good {l : List UInt8} {b : Bt} {q : Int} (h : rdB l = some (b, q)) : 0 ≤ q ∧ q ≤ l.length ∧ body b = l.take q.toNat ∧ (∀ r ∈ b.recs, may r = true) ∧ b.recs.length ≤ 16 ∧ 0 ≤ b.base ∧ b.base ≤ 1099511627776 ∧ 0 ≤ b.last - b.base ∧ b.last - b.base ≤ 16 ∧ 0 ≤ b.ctl ∧ b.ctl ≤ 3 ∧ ∀ x ∈ hd b, W64 x := by
  unfold rdB at h
  split at h
  case h_2 => cases h
  rename_i n0 n1 n2 n3 n4 n5 n6 p hv
  obtain ⟨_, v2, v3, v4, v5⟩ := rdV_good hv (by omega)
  split at h
  case h_1 => cases h
  rename_i c hc
  split at h
  · cases h
  rename_i hc7
  split at h
  · cases h
  rename_i he
  have he0 : (gv l (p + 1)).2.2 = 0 := by simpa using he
  rcases g1 : gv l (p + 1) with ⟨m, i, e⟩
  simp only [g1] at h he0
  subst he0
  obtain ⟨a1, a2, a3, a4, a5, a6, a7⟩ := gv_good g1
  split at h
  · cases h
  rename_i hbd
  split at h
  case h_1 => cases h
  rename_i xs q' ht
  simp only [Option.some.injEq, Prod.mk.injEq] at h
  obtain ⟨rfl, rfl⟩ := h
  obtain ⟨t1, t2, t3, t4, t5⟩ := rdT_good ht (by omega)
  have hb1 : n0 + n1 - n0 = n1 := by omega
  refine ⟨by omega, t3, ?_, t5, by simp only; omega, by simp only; omega, by simp only; omega, by simp only; omega, by simp only; omega, by simp only; omega, by simp only; omega, by simp only [hd, hb1]; exact v5⟩
  have hmk : mark ⟨n0, n0 + n1, n2, n3, n4, n5, n6, decide (4 ≤ c.toNat), ((c.toNat % 4 : Nat) : Int), xs⟩ = c := by
    unfold mark
    simp only [Int.toNat_natCast, decide_eq_true_eq]
    apply UInt8.toNat.inj
    rw [ofNat_toNat' (by split <;> omega)]
    split <;> omega
  have hx : (zz ((xs.length : Nat) : Int)) = zz m := by congr 1; omega
  have e3 : [c] = (l.drop p.toNat).take (p + 1 - p).toNat := by
    have : (p + 1 - p).toNat = 1 := by omega
    rw [this, drop_at hc]; rfl
  unfold body
  rw [hmk]
  simp only [hd, hb1]
  rw [hx, v4, e3, a5, t4, seg_join l (by omega) (by omega) (by omega), seg_join l (by omega) (by omega) (by omega), seg_join l (by omega) (by omega) (by omega)]
  have e0 : (0 : Int).toNat = 0 := rfl
  rw [e0, List.drop_zero, Int.sub_zero]
end Go.Proofs.YtlfbagkonckffaaGreat.Bat

/- More plain mathematics of layer 4: the batch that bytes tell, cut and spoilt, moved, one behind the other. Nothing of the program. -/
namespace Go.Proofs.YtlfbagkonckffaaGreat.Bat
open Oct Rec Crc

def nilB : Bt := ⟨0, 0, 0, 0, 0, 0, 0, false, 0, []⟩
def opB (l : List UInt8) : Bt × Int :=
  if (openB l).2 ≠ 0 then (nilB, (openB l).2) else match rdB (openB l).1 with
    | none => (nilB, 11)
    | some (b, q) => if q = ((openB l).1.length : Int) ∧ chB b = 0 then (b, 0) else (nilB, 11)
def grB (l : List UInt8) (p : Int) : Bt × Int × Int :=
  if (gt l p 4).2 ≠ 0 then (nilB, 0, (gt l p 4).2)
  else if (gt l p 4).1 < 5 ∨ 2044 < (gt l p 4).1 then (nilB, 0, 11)
  else if (l.length : Int) < p + 4 + (gt l p 4).1 then (nilB, 0, 10)
  else if (opB ((l.drop (p + 4).toNat).take (gt l p 4).1)).2 ≠ 0 then (nilB, 0, (opB ((l.drop (p + 4).toNat).take (gt l p 4).1)).2)
  else ((opB ((l.drop (p + 4).toNat).take (gt l p 4).1)).1, p + 4 + (gt l p 4).1, 0)

theorem byB_length (b : Bt) : (byB b).length = (body b).length + 8 := by rw [byB, List.length_append, beN_length, sealB_length]; omega
theorem opB_good {l : List UInt8} {b : Bt} (h : opB l = (b, 0)) : chB b = 0 ∧ sealB (body b) = l := by
  unfold opB at h
  rcases ho : openB l with ⟨x, z⟩
  rw [ho] at h
  simp only at h
  by_cases hz : z = 0
  case neg => rw [if_pos hz] at h; simp only [Prod.mk.injEq] at h; exact absurd h.2 hz
  subst hz
  rw [if_neg (by simp)] at h
  cases hr : rdB x with
  | none => rw [hr] at h; simp at h
  | some y =>
    obtain ⟨b', q⟩ := y
    rw [hr] at h
    simp only at h
    by_cases hc : q = (x.length : Int) ∧ chB b' = 0
    case neg => rw [if_neg hc] at h; simp at h
    rw [if_pos hc] at h
    simp only [Prod.mk.injEq, and_true] at h
    subst h
    obtain ⟨h1, h2⟩ := hc
    obtain ⟨_, _, g, _⟩ := rdB_good hr
    have : x.take q.toNat = x := List.take_of_length_le (by omega)
    rw [this] at g
    exact ⟨h2, by rw [g]; exact (openB_ok ho).1⟩
theorem gt_four {l : List UInt8} {p : Int} (h : (gt l p 4).2 = 0) : 0 ≤ p ∧ p + 4 ≤ l.length ∧ (gt l p 4).1 = getN ((l.drop p.toNat).take 4) := by
  unfold gt at h ⊢
  by_cases h1 : isW 4 = false ∨ p < 0
  · rw [if_pos h1] at h; simp at h
  · rw [if_neg h1] at h ⊢
    have hp : ¬ p < 0 := fun hh => h1 (.inr hh)
    by_cases h2 : hasB l.length p 4 = false
    · rw [if_pos h2] at h; simp at h
    · rw [if_neg h2]
      have h3 : hasB l.length p 4 = true := by simpa using h2
      simp [hasB] at h3
      exact ⟨by omega, by omega, rfl⟩
theorem be_getN {l : List UInt8} (h : l.length = 4) : beN (getN l) 4 4 = l := by
  apply getN_inj
  · rw [beN_length, h]
  · rw [getN_be]
    have := getN_lt l
    rw [h] at this
    exact Nat.mod_eq_of_lt this
theorem grB_good {l : List UInt8} {p n : Int} {b : Bt} (h : grB l p = (b, n, 0)) : 0 ≤ p ∧ p < n ∧ n ≤ l.length ∧ chB b = 0 ∧ byB b = (l.drop p.toNat).take (n - p).toNat := by
  unfold grB at h
  by_cases h1 : (gt l p 4).2 = 0
  case neg => rw [if_pos h1] at h; simp only [Prod.mk.injEq] at h; exact absurd h.2.2 h1
  rw [if_neg (by simpa using h1)] at h
  obtain ⟨p0, p4, hg⟩ := gt_four h1
  by_cases h2 : (gt l p 4).1 < 5 ∨ 2044 < (gt l p 4).1
  · rw [if_pos h2] at h; simp at h
  rw [if_neg h2] at h
  by_cases h3 : (l.length : Int) < p + 4 + (gt l p 4).1
  · rw [if_pos h3] at h; simp at h
  rw [if_neg h3] at h
  rcases ho : opB ((l.drop (p + 4).toNat).take (gt l p 4).1) with ⟨b', z⟩
  rw [ho] at h
  simp only at h
  by_cases h4 : z = 0
  case neg => rw [if_pos h4] at h; simp only [Prod.mk.injEq] at h; exact absurd h.2.2 h4
  subst h4
  rw [if_neg (by simp)] at h
  simp only [Prod.mk.injEq, and_true] at h
  obtain ⟨rfl, rfl⟩ := h
  obtain ⟨c1, c2⟩ := opB_good ho
  refine ⟨p0, by omega, by omega, c1, ?_⟩
  have hlen : ((l.drop (p + 4).toNat).take (gt l p 4).1).length = (gt l p 4).1 := by rw [List.length_take, List.length_drop]; omega
  have hb4 : ((l.drop p.toNat).take 4).length = 4 := by rw [List.length_take, List.length_drop]; omega
  unfold byB
  rw [c2, hlen]
  have e1 : beN (gt l p 4).1 4 4 = (l.drop p.toNat).take (p + 4 - p).toNat := by
    have : (p + 4 - p).toNat = 4 := by omega
    rw [this, hg]
    exact be_getN hb4
  have e2 : (l.drop (p + 4).toNat).take (gt l p 4).1 = (l.drop (p + 4).toNat).take (p + 4 + ((gt l p 4).1 : Int) - (p + 4)).toNat := by congr 1; omega
  rw [e1, e2, seg_join l (by omega) (by omega) (by omega)]
end Go.Proofs.YtlfbagkonckffaaGreat.Bat
