/- Joined: RecMath, RecMath2. -/
import Derived.Test.YthhdhdjdhekgpaaDoorJOct
/- The plain mathematics of layer 3: a record, its bytes, what bytes tell. Nothing of the program. -/
namespace Go.Proofs.YthhdhdjdhekgpaaDoor.Rec
open Go.Proofs.YthhdhdjdhekgpaaDoor.Oct

structure Rc where
  off : Int
  key : ByteArray
  val : ByteArray
  dead : Bool
  stamp : Int

def inR (n : Int) : Bool := decide (0 ≤ n ∧ n ≤ 1099511627776)
theorem inR_iff {n : Int} : inR n = true ↔ 0 ≤ n ∧ n ≤ 1099511627776 := by simp [inR]
def may (r : Rc) : Bool := decide ((0 ≤ r.off ∧ r.off ≤ 1099511627776) ∧ (0 ≤ r.stamp ∧ r.stamp ≤ 1099511627776) ∧ r.key.size ≤ 64 ∧ r.val.size ≤ 64 ∧ (r.dead = true → r.key.size ≠ 0 ∧ r.val.size = 0))
theorem may_iff {r : Rc} : may r = true ↔ (0 ≤ r.off ∧ r.off ≤ 1099511627776) ∧ (0 ≤ r.stamp ∧ r.stamp ≤ 1099511627776) ∧ r.key.size ≤ 64 ∧ r.val.size ≤ 64 ∧ (r.dead = true → r.key.size ≠ 0 ∧ r.val.size = 0) := by unfold may; exact decide_eq_true_iff
def nil : Rc := ⟨0, ByteArray.empty, ByteArray.empty, false, 0⟩
def tx (s : ByteArray) : List UInt8 := vb (zz s.size) ++ s.data.toList
def fl (d : Bool) : UInt8 := if d then 1 else 0
def rb (r : Rc) (base stamp : Int) : List UInt8 := vb (zz (r.off - base)) ++ vb (zz (r.stamp - stamp)) ++ [fl r.dead] ++ tx r.key ++ tx r.val
/-- what Put tells -/
def pt (r : Rc) (base stamp : Int) : List UInt8 × Int := if may r && inR base && inR stamp then (rb r base stamp, 0) else ([], 1)
def bes (n d : Int) : Int := if d < -1099511627776 ∨ 1099511627776 < d ∨ inR (n + d) = false then -1 else n + d
/-- what Get tells -/
def gr (l : List UInt8) (p base stamp : Int) : Rc × Int × Int :=
  if inR base && inR stamp && decide (0 ≤ p ∧ p ≤ l.length) then
    if (gv l p).2.2 ≠ 0 then (nil, 0, (gv l p).2.2)
    else if (gv l (gv l p).2.1).2.2 ≠ 0 then (nil, 0, (gv l (gv l p).2.1).2.2)
    else match l[(gv l (gv l p).2.1).2.1.toNat]? with
      | none => (nil, 0, 10)
      | some c =>
        if 1 < c.toNat then (nil, 0, 11)
        else if (gx l ((gv l (gv l p).2.1).2.1 + 1) 64).2.2 ≠ 0 then (nil, 0, (gx l ((gv l (gv l p).2.1).2.1 + 1) 64).2.2)
        else if (gx l (gx l ((gv l (gv l p).2.1).2.1 + 1) 64).2.1 64).2.2 ≠ 0 then (nil, 0, (gx l (gx l ((gv l (gv l p).2.1).2.1 + 1) 64).2.1 64).2.2)
        else if may ⟨bes base (gv l p).1, (gx l ((gv l (gv l p).2.1).2.1 + 1) 64).1, (gx l (gx l ((gv l (gv l p).2.1).2.1 + 1) 64).2.1 64).1, c == 1, bes stamp (gv l (gv l p).2.1).1⟩ then
          (⟨bes base (gv l p).1, (gx l ((gv l (gv l p).2.1).2.1 + 1) 64).1, (gx l (gx l ((gv l (gv l p).2.1).2.1 + 1) 64).2.1 64).1, c == 1, bes stamp (gv l (gv l p).2.1).1⟩, (gx l (gx l ((gv l (gv l p).2.1).2.1 + 1) 64).2.1 64).2.1, 0)
        else (nil, 0, 1)
  else (nil, 0, 1)

theorem size_list (s : ByteArray) : s.data.toList.length = s.size := by rw [Array.length_toList]; rfl
theorem tx_length (s : ByteArray) : (tx s).length = (vb (zz s.size)).length + s.size := by rw [tx, List.length_append, size_list]

/-- the fields one by one, named -/
theorem gr_fields {l : List UInt8} {p base stamp : Int} (hb : inR base = true) (hs : inR stamp = true) (hp : 0 ≤ p ∧ p ≤ l.length) {d i s j : Int} {c : UInt8} {k v : ByteArray} {m n : Int}
    (h1 : gv l p = (d, i, 0)) (h2 : gv l i = (s, j, 0)) (h3 : l[j.toNat]? = some c) (h4 : ¬ 1 < c.toNat) (h5 : gx l (j + 1) 64 = (k, m, 0)) (h6 : gx l m 64 = (v, n, 0)) :
    gr l p base stamp = if may ⟨bes base d, k, v, c == 1, bes stamp s⟩ then (⟨bes base d, k, v, c == 1, bes stamp s⟩, n, 0) else (nil, 0, 1) := by
  unfold gr
  rw [hb, hs]
  simp only [h1, h2, h3, h5, h6, Bool.true_and]
  rw [if_pos (by simpa using hp), if_neg (by simp), if_neg (by simp), if_neg h4, if_neg (by simp), if_neg (by simp)]

theorem bes_diff {n b : Int} (hn : 0 ≤ n ∧ n ≤ 1099511627776) (hb : 0 ≤ b ∧ b ≤ 1099511627776) : bes b (n - b) = n := by
  unfold bes
  have e : b + (n - b) = n := by omega
  rw [e, if_neg]
  simp [inR]
  omega
theorem fl_one (d : Bool) : (fl d == 1) = d := by cases d <;> rfl
theorem fl_small (d : Bool) : ¬ 1 < (fl d).toNat := by cases d <;> decide

theorem gr_rb {r : Rc} {base stamp : Int} (hm : may r = true) (hb : inR base = true) (hs : inR stamp = true) (h t : List UInt8) :
    gr (h ++ rb r base stamp ++ t) (h.length : Int) base stamp = (r, (h.length : Int) + ((rb r base stamp).length : Int), 0) := by
  obtain ⟨m1, m2, m3, m4, m5⟩ := may_iff.1 hm
  have b1 := inR_iff.1 hb
  have b2 := inR_iff.1 hs
  have e1 : h ++ rb r base stamp ++ t = h ++ vb (zz (r.off - base)) ++ (vb (zz (r.stamp - stamp)) ++ [fl r.dead] ++ tx r.key ++ tx r.val ++ t) := by simp [rb, List.append_assoc]
  have e2 : h ++ rb r base stamp ++ t = (h ++ vb (zz (r.off - base))) ++ vb (zz (r.stamp - stamp)) ++ ([fl r.dead] ++ tx r.key ++ tx r.val ++ t) := by simp [rb, List.append_assoc]
  have e3 : h ++ rb r base stamp ++ t = (h ++ vb (zz (r.off - base)) ++ vb (zz (r.stamp - stamp))) ++ (fl r.dead :: (tx r.key ++ tx r.val ++ t)) := by simp [rb, List.append_assoc]
  have e4 : h ++ rb r base stamp ++ t = (h ++ vb (zz (r.off - base)) ++ vb (zz (r.stamp - stamp)) ++ [fl r.dead]) ++ vb (zz r.key.size) ++ r.key.data.toList ++ (tx r.val ++ t) := by simp [rb, tx, List.append_assoc]
  have e5 : h ++ rb r base stamp ++ t = (h ++ vb (zz (r.off - base)) ++ vb (zz (r.stamp - stamp)) ++ [fl r.dead] ++ tx r.key) ++ vb (zz r.val.size) ++ r.val.data.toList ++ t := by simp [rb, tx, List.append_assoc]
  have g1 := gv_at h (vb (zz (r.stamp - stamp)) ++ [fl r.dead] ++ tx r.key ++ tx r.val ++ t) (r.off - base) (by omega)
  rw [← e1] at g1
  have g2 := gv_at (h ++ vb (zz (r.off - base))) ([fl r.dead] ++ tx r.key ++ tx r.val ++ t) (r.stamp - stamp) (by omega)
  rw [← e2] at g2
  have g4 := gx_at (h ++ vb (zz (r.off - base)) ++ vb (zz (r.stamp - stamp)) ++ [fl r.dead]) (tx r.val ++ t) r.key 64 (by omega) (by omega)
  rw [← e4] at g4
  have g5 := gx_at (h ++ vb (zz (r.off - base)) ++ vb (zz (r.stamp - stamp)) ++ [fl r.dead] ++ tx r.key) t r.val 64 (by omega) (by omega)
  rw [← e5] at g5
  have g3 : (h ++ rb r base stamp ++ t)[((h ++ vb (zz (r.off - base)) ++ vb (zz (r.stamp - stamp))).length : Int).toNat]? = some (fl r.dead) := by
    rw [e3, Int.toNat_natCast, List.getElem?_append_right (Nat.le_refl _), Nat.sub_self]; rfl
  simp only [List.length_append, Int.natCast_add, List.length_singleton] at g1 g2 g3 g4 g5
  have hf := gr_fields (l := h ++ rb r base stamp ++ t) (p := (h.length : Int)) hb hs (by simp only [List.length_append, Int.natCast_add]; omega) g1 g2 g3 (fl_small _) g4 (by
    rw [tx_length] at g5
    simp only [Int.natCast_add] at g5
    have e : (h.length : Int) + ((vb (zz (r.off - base))).length : Int) + ((vb (zz (r.stamp - stamp))).length : Int) + ((1 : Nat) : Int) + (((vb (zz (r.key.size : Int))).length : Int) + (r.key.size : Int)) = (h.length : Int) + ((vb (zz (r.off - base))).length : Int) + ((vb (zz (r.stamp - stamp))).length : Int) + ((1 : Nat) : Int) + ((vb (zz (r.key.size : Int))).length : Int) + (r.key.size : Int) := by omega
    rw [e] at g5
    exact g5)
  rw [hf, bes_diff m1 b1, bes_diff m2 b2, fl_one]
  have hr : (⟨r.off, r.key, r.val, r.dead, r.stamp⟩ : Rc) = r := rfl
  rw [hr, if_pos hm]
  congr 2
  unfold rb
  simp only [List.length_append, tx_length, List.length_singleton, Int.natCast_add]
  omega
end Go.Proofs.YthhdhdjdhekgpaaDoor.Rec

/- More plain mathematics of layer 3: what is told was put; cut short it is none; moved alike; how long. Nothing of the program. -/
namespace Go.Proofs.YthhdhdjdhekgpaaDoor.Rec
open Go.Proofs.YthhdhdjdhekgpaaDoor.Oct

theorem gr_bad {l : List UInt8} {p base stamp n e : Int} {r : Rc} (h : gr l p base stamp = (r, n, e)) (he : e ≠ 0) : r = nil ∧ n = 0 := by
  unfold gr at h
  repeat' split at h
  all_goals (simp only [Prod.mk.injEq] at h; first | exact absurd h.2.2.symm he | exact ⟨h.1.symm, h.2.1.symm⟩)

theorem gr_on {l : List UInt8} {p base stamp : Int} (hb : inR base = true) (hs : inR stamp = true) (hp : 0 ≤ p ∧ p ≤ l.length) : gr l p base stamp =
    if (gv l p).2.2 ≠ 0 then (nil, 0, (gv l p).2.2)
    else if (gv l (gv l p).2.1).2.2 ≠ 0 then (nil, 0, (gv l (gv l p).2.1).2.2)
    else match l[(gv l (gv l p).2.1).2.1.toNat]? with
      | none => (nil, 0, 10)
      | some c =>
        if 1 < c.toNat then (nil, 0, 11)
        else if (gx l ((gv l (gv l p).2.1).2.1 + 1) 64).2.2 ≠ 0 then (nil, 0, (gx l ((gv l (gv l p).2.1).2.1 + 1) 64).2.2)
        else if (gx l (gx l ((gv l (gv l p).2.1).2.1 + 1) 64).2.1 64).2.2 ≠ 0 then (nil, 0, (gx l (gx l ((gv l (gv l p).2.1).2.1 + 1) 64).2.1 64).2.2)
        else if may ⟨bes base (gv l p).1, (gx l ((gv l (gv l p).2.1).2.1 + 1) 64).1, (gx l (gx l ((gv l (gv l p).2.1).2.1 + 1) 64).2.1 64).1, c == 1, bes stamp (gv l (gv l p).2.1).1⟩ then
          (⟨bes base (gv l p).1, (gx l ((gv l (gv l p).2.1).2.1 + 1) 64).1, (gx l (gx l ((gv l (gv l p).2.1).2.1 + 1) 64).2.1 64).1, c == 1, bes stamp (gv l (gv l p).2.1).1⟩, (gx l (gx l ((gv l (gv l p).2.1).2.1 + 1) 64).2.1 64).2.1, 0)
        else (nil, 0, 1) := by
  unfold gr
  exact (if_pos (by rw [hb, hs]; simpa using hp)).trans rfl

theorem seg_join (l : List UInt8) {a b c : Int} (h0 : 0 ≤ a) (h1 : a ≤ b) (h2 : b ≤ c) :
    (l.drop a.toNat).take (b - a).toNat ++ (l.drop b.toNat).take (c - b).toNat = (l.drop a.toNat).take (c - a).toNat := by
  have e1 : (c - a).toNat = (b - a).toNat + (c - b).toNat := by omega
  have e2 : b.toNat = a.toNat + (b - a).toNat := by omega
  rw [e1, List.take_add, e2, List.drop_drop]

theorem bes_in {n d : Int} (h : 0 ≤ bes n d) : bes n d = n + d := by
  unfold bes at h ⊢
  split at h
  · omega
  · rename_i hh; rw [if_neg hh]

theorem fl_back {c : UInt8} (h : ¬ 1 < c.toNat) : fl (c == 1) = c := by
  have e : c.toNat = 0 ∨ c.toNat = 1 := by omega
  rcases e with e | e
  · have : c = 0 := UInt8.toNat.inj e
    subst this; rfl
  · have : c = 1 := UInt8.toNat.inj e
    subst this; rfl

theorem gr_good {l : List UInt8} {p base stamp n : Int} {r : Rc} (h : gr l p base stamp = (r, n, 0)) :
    inR base = true ∧ inR stamp = true ∧ may r = true ∧ 0 ≤ p ∧ p < n ∧ n ≤ l.length ∧ rb r base stamp = (l.drop p.toNat).take (n - p).toNat := by
  unfold gr at h
  by_cases hc : (inR base && inR stamp && decide (0 ≤ p ∧ p ≤ l.length)) = true
  case neg => rw [if_neg hc] at h; simp at h
  rw [if_pos hc] at h
  simp only [Bool.and_eq_true, decide_eq_true_eq] at hc
  obtain ⟨⟨hb, hs⟩, hp⟩ := hc
  rcases g1 : gv l p with ⟨d, i, x1⟩
  simp only [g1] at h
  by_cases h1 : x1 = 0
  case neg => rw [if_pos h1] at h; simp only [Prod.mk.injEq] at h; exact absurd h.2.2 h1
  rw [if_neg (by simpa using h1)] at h
  subst h1
  rcases g2 : gv l i with ⟨s, j, x2⟩
  simp only [g2] at h
  by_cases h2 : x2 = 0
  case neg => rw [if_pos h2] at h; simp only [Prod.mk.injEq] at h; exact absurd h.2.2 h2
  rw [if_neg (by simpa using h2)] at h
  subst h2
  cases g3 : l[j.toNat]? with
  | none => rw [g3] at h; simp at h
  | some c =>
    rw [g3] at h
    simp only at h
    by_cases h3 : 1 < c.toNat
    · rw [if_pos h3] at h; simp at h
    rw [if_neg h3] at h
    rcases g4 : gx l (j + 1) 64 with ⟨k, m, x3⟩
    simp only [g4] at h
    by_cases h4 : x3 = 0
    case neg => rw [if_pos h4] at h; simp only [Prod.mk.injEq] at h; exact absurd h.2.2 h4
    rw [if_neg (by simpa using h4)] at h
    subst h4
    rcases g5 : gx l m 64 with ⟨v, q, x4⟩
    simp only [g5] at h
    by_cases h5 : x4 = 0
    case neg => rw [if_pos h5] at h; simp only [Prod.mk.injEq] at h; exact absurd h.2.2 h5
    rw [if_neg (by simpa using h5)] at h
    subst h5
    by_cases hm : may ⟨bes base d, k, v, c == 1, bes stamp s⟩ = true
    case neg => rw [if_neg hm] at h; simp at h
    rw [if_pos hm] at h
    simp only [Prod.mk.injEq, and_true] at h
    obtain ⟨hr, hn⟩ := h
    subst hr hn
    obtain ⟨m1, m2, m3, m4, m5⟩ := may_iff.1 hm
    simp only at m1 m2
    obtain ⟨a1, a2, a3, a4, a5, a6, a7⟩ := gv_good g1
    obtain ⟨b1, b2, b3, b4, b5, b6, b7⟩ := gv_good g2
    obtain ⟨c1, c2, c3, c4, c5, c6⟩ := gx_good g4
    obtain ⟨d1, d2, d3, d4, d5, d6⟩ := gx_good g5
    refine ⟨hb, hs, hm, a1, by omega, d3, ?_⟩
    have e3 : [c] = (l.drop j.toNat).take (j + 1 - j).toNat := by
      have : (j + 1 - j).toNat = 1 := by omega
      rw [this, drop_at g3]; rfl
    unfold rb
    simp only
    rw [bes_in m1.1, bes_in m2.1, show base + d - base = d by omega, show stamp + s - stamp = s by omega, fl_back h3, tx, tx, a5, b5, c5, d5, e3]
    rw [seg_join l (by omega) (by omega) (by omega), seg_join l (by omega) (by omega) (by omega), seg_join l (by omega) (by omega) (by omega), seg_join l (by omega) (by omega) (by omega)]

theorem gv_cut (h : List UInt8) (m : Int) (j : Nat) (hm : -9223372036854775808 ≤ m ∧ m ≤ 9223372036854775807) (hj : j < (vb (zz m)).length) : gv (h ++ (vb (zz m)).take j) (h.length : Int) = (0, 0, 10) := by
  unfold gv
  rw [if_neg (by omega), Int.toNat_natCast, List.drop_left, scan_cut (zz m) j 0 0 (by omega) (Or.inl rfl) (by simpa using zz_lt hm) hj]

theorem gv_end (l : List UInt8) : gv l (l.length : Int) = (0, 0, 10) := by
  unfold gv
  rw [if_neg (by omega), Int.toNat_natCast, List.drop_length]
  rfl

theorem gx_cut (h : List UInt8) (s : ByteArray) (most : Int) (j : Nat) (hs : s.size ≤ 9223372036854775807) (hm : (s.size : Int) ≤ most) (hj : j < (tx s).length) : gx (h ++ (tx s).take j) (h.length : Int) most = (ByteArray.empty, 0, 10) := by
  by_cases h1 : j < (vb (zz s.size)).length
  · have e : (tx s).take j = (vb (zz s.size)).take j := by rw [tx, List.take_append_of_le_length (by omega)]
    rw [e]
    unfold gx
    rw [gv_cut h s.size j (by omega) h1]
    rfl
  · rw [tx_length] at hj
    have e : (tx s).take j = vb (zz s.size) ++ s.data.toList.take (j - (vb (zz s.size)).length) := by
      rw [tx, List.take_append, List.take_of_length_le (by omega)]
    rw [e, ← List.append_assoc]
    unfold gx
    rw [gv_at h _ s.size (by omega)]
    simp only
    have hh : hasB (h ++ vb (zz s.size) ++ s.data.toList.take (j - (vb (zz s.size)).length)).length ((h.length : Int) + ((vb (zz s.size)).length : Int)) (s.size : Int) = false := by
      simp only [hasB, List.length_append, List.length_take, size_list, decide_eq_false_iff_not]; omega
    rw [if_neg (by simp), if_neg (by omega), if_neg (by omega), if_pos hh]

theorem gr_end {l : List UInt8} {base stamp : Int} (hb : inR base = true) (hs : inR stamp = true) : gr l (l.length : Int) base stamp = (nil, 0, 10) := by
  unfold gr
  rw [hb, hs]
  simp only [gv_end, Bool.true_and]
  rw [if_pos (by simp), if_pos (by simp)]

theorem gr_cut {r : Rc} {base stamp : Int} (hm : may r = true) (hb : inR base = true) (hs : inR stamp = true) (h : List UInt8) (j : Nat) (hj : j < (rb r base stamp).length) :
    gr (h ++ (rb r base stamp).take j) (h.length : Int) base stamp = (nil, 0, 10) := by
  obtain ⟨m1, m2, m3, m4, m5⟩ := may_iff.1 hm
  have b1 := inR_iff.1 hb
  have b2 := inR_iff.1 hs
  have hp : decide (0 ≤ (h.length : Int) ∧ (h.length : Int) ≤ ((h ++ (rb r base stamp).take j).length : Int)) = true := by
    simp only [List.length_append, decide_eq_true_eq]; omega
  unfold gr
  rw [hb, hs, hp]
  rw [if_pos (by rfl)]
  clear hp
  unfold rb at hj ⊢
  simp only [List.length_append, List.length_singleton] at hj
  generalize hA : vb (zz (r.off - base)) = A at *
  generalize hB : vb (zz (r.stamp - stamp)) = B at *
  by_cases c1 : j < A.length
  · have e : (A ++ B ++ [fl r.dead] ++ tx r.key ++ tx r.val).take j = A.take j := by
      rw [List.append_assoc, List.append_assoc, List.append_assoc, List.take_append_of_le_length (by omega)]
    have g := gv_cut h (r.off - base) j (by omega) (by rw [hA]; exact c1)
    rw [hA] at g
    rw [e]
    simp only [g]
    rw [if_pos (by simp)]
  have g1 : ∀ t, gv (h ++ A ++ t) (h.length : Int) = (r.off - base, ((h ++ A).length : Int), 0) := by
    intro t
    have g := gv_at h t (r.off - base) (by omega)
    rw [hA] at g
    rw [g, List.length_append, Int.natCast_add]
  by_cases c2 : j < A.length + B.length
  · have e : (A ++ B ++ [fl r.dead] ++ tx r.key ++ tx r.val).take j = A ++ B.take (j - A.length) := by
      rw [List.append_assoc, List.append_assoc, List.take_append_of_le_length (by rw [List.length_append]; omega), List.take_append, List.take_of_length_le (by omega)]
    have g := gv_cut (h ++ A) (r.stamp - stamp) (j - A.length) (by omega) (by rw [hB]; omega)
    rw [hB] at g
    rw [e, ← List.append_assoc]
    simp only [g1, g]
    rw [if_neg (by simp), if_pos (by simp)]
  have g2 : ∀ t, gv (h ++ A ++ (B ++ t)) ((h ++ A).length : Int) = (r.stamp - stamp, ((h ++ A ++ B).length : Int), 0) := by
    intro t
    have g := gv_at (h ++ A) t (r.stamp - stamp) (by omega)
    rw [hB] at g
    rw [← List.append_assoc, g, List.length_append (bs := B), Int.natCast_add]
  by_cases c3 : j < A.length + B.length + 1
  · have e : (A ++ B ++ [fl r.dead] ++ tx r.key ++ tx r.val).take j = A ++ (B ++ []) := by
      rw [List.append_assoc, List.append_assoc, List.take_append_of_le_length (by rw [List.length_append]; omega), List.take_of_length_le (by rw [List.length_append]; omega), List.append_nil]
    rw [e, ← List.append_assoc]
    have g3 : (h ++ A ++ (B ++ []))[((h ++ A ++ B).length : Int).toNat]? = none := by
      rw [Int.toNat_natCast, List.append_nil]; exact List.getElem?_eq_none (Nat.le_refl _)
    simp only [g1, g2, g3]
    rw [if_neg (by simp), if_neg (by simp)]
  have g3 : ∀ t, (h ++ A ++ (B ++ ([fl r.dead] ++ t)))[((h ++ A ++ B).length : Int).toNat]? = some (fl r.dead) := by
    intro t
    rw [Int.toNat_natCast, ← List.append_assoc, List.getElem?_append_right (Nat.le_refl _), Nat.sub_self]; rfl
  have hl : ((h ++ A ++ B).length : Int) + 1 = ((h ++ A ++ B ++ [fl r.dead]).length : Int) := by rw [List.length_append (bs := [fl r.dead])]; simp
  by_cases c4 : j < A.length + B.length + 1 + (tx r.key).length
  · have e : (A ++ B ++ [fl r.dead] ++ tx r.key ++ tx r.val).take j = A ++ (B ++ ([fl r.dead] ++ (tx r.key).take (j - (A.length + B.length + 1)))) := by
      rw [List.take_append_of_le_length (by simp only [List.length_append, List.length_singleton]; omega), List.take_append, List.take_of_length_le (by simp only [List.length_append, List.length_singleton]; omega)]
      simp only [List.length_append, List.length_singleton, List.append_assoc, Nat.add_assoc]
    rw [e, ← List.append_assoc]
    have g4 := gx_cut (h ++ A ++ B ++ [fl r.dead]) r.key 64 (j - (A.length + B.length + 1)) (by omega) (by omega) (by omega)
    have e4 : h ++ A ++ (B ++ ([fl r.dead] ++ (tx r.key).take (j - (A.length + B.length + 1)))) = h ++ A ++ B ++ [fl r.dead] ++ (tx r.key).take (j - (A.length + B.length + 1)) := by simp only [List.append_assoc]
    rw [← e4] at g4
    simp only [g1, g2, g3, hl, g4]
    rw [if_neg (by simp), if_neg (by simp), if_neg (fl_small _), if_pos (by simp)]
  have e : (A ++ B ++ [fl r.dead] ++ tx r.key ++ tx r.val).take j = A ++ (B ++ ([fl r.dead] ++ (tx r.key ++ (tx r.val).take (j - (A.length + B.length + 1 + (tx r.key).length))))) := by
    rw [List.take_append, List.take_of_length_le (by simp only [List.length_append, List.length_singleton]; omega)]
    simp only [List.length_append, List.length_singleton, List.append_assoc, Nat.add_assoc]
  rw [e, ← List.append_assoc]
  generalize hq : j - (A.length + B.length + 1 + (tx r.key).length) = q at *
  have g4 := gx_at (h ++ A ++ B ++ [fl r.dead]) ((tx r.val).take q) r.key 64 (by omega) (by omega)
  have e4 : h ++ A ++ (B ++ ([fl r.dead] ++ (tx r.key ++ (tx r.val).take q))) = h ++ A ++ B ++ [fl r.dead] ++ vb (zz r.key.size) ++ r.key.data.toList ++ (tx r.val).take q := by simp only [List.append_assoc, tx]
  rw [← e4] at g4
  have g5 := gx_cut (h ++ A ++ B ++ [fl r.dead] ++ tx r.key) r.val 64 q (by omega) (by omega) (by omega)
  have e5 : h ++ A ++ (B ++ ([fl r.dead] ++ (tx r.key ++ (tx r.val).take q))) = h ++ A ++ B ++ [fl r.dead] ++ tx r.key ++ (tx r.val).take q := by simp only [List.append_assoc]
  rw [← e5] at g5
  have h5 : ((h ++ A ++ B ++ [fl r.dead]).length : Int) + ((vb (zz r.key.size)).length : Int) + (r.key.size : Int) = ((h ++ A ++ B ++ [fl r.dead] ++ tx r.key).length : Int) := by
    rw [List.length_append (bs := tx r.key), tx_length]; omega
  rw [h5] at g4
  simp only [g1, g2, g3, hl, g4, g5]
  rw [if_neg (by simp), if_neg (by simp), if_neg (fl_small _), if_neg (by simp), if_pos (by simp)]

theorem rb_moved (r : Rc) (base stamp x y : Int) : rb { r with off := r.off + x, stamp := r.stamp + y } (base + x) (stamp + y) = rb r base stamp := by
  unfold rb
  simp only
  rw [show r.off + x - (base + x) = r.off - base by omega, show r.stamp + y - (stamp + y) = r.stamp - stamp by omega]

theorem rb_inj {r s : Rc} {base stamp : Int} (hr : may r = true) (hs : may s = true) (hb : inR base = true) (ht : inR stamp = true) (h : rb r base stamp = rb s base stamp) : r = s := by
  have h1 := gr_rb hr hb ht [] []
  have h2 := gr_rb hs hb ht [] []
  rw [h] at h1
  rw [h1] at h2
  exact (Prod.mk.inj h2).1

theorem vb_len {x : Int} (h : -1099511627776 ≤ x ∧ x ≤ 1099511627776) : 1 ≤ (vb (zz x)).length ∧ (vb (zz x)).length ≤ 6 := by
  have h1 := vb_pos (zz x)
  have h2 := vb_le 5 (zz x) (by unfold zz; split <;> omega)
  omega
theorem tx_len {s : ByteArray} (h : s.size ≤ 64) : s.size + 1 ≤ (tx s).length ∧ (tx s).length ≤ s.size + 2 := by
  rw [tx_length]
  have h1 := vb_pos (zz s.size)
  have h2 := vb_le 1 (zz s.size) (by unfold zz; split <;> omega)
  omega
theorem rb_len (r : Rc) (base stamp : Int) : (rb r base stamp).length = (vb (zz (r.off - base))).length + (vb (zz (r.stamp - stamp))).length + 1 + (tx r.key).length + (tx r.val).length := by
  unfold rb; simp only [List.length_append, List.length_singleton]
theorem rb_size {r : Rc} {base stamp : Int} (hm : may r = true) (hb : inR base = true) (hs : inR stamp = true) :
    5 ≤ (rb r base stamp).length ∧ (rb r base stamp).length ≤ 145 ∧ r.key.size + r.val.size + 5 ≤ (rb r base stamp).length ∧ (rb r base stamp).length ≤ r.key.size + r.val.size + 17 ∧
    (rb ⟨r.off, ByteArray.empty, ByteArray.empty, false, r.stamp⟩ base stamp).length + (r.key.size + r.val.size) ≤ (rb r base stamp).length ∧ (rb r base stamp).length ≤ (rb ⟨r.off, ByteArray.empty, ByteArray.empty, false, r.stamp⟩ base stamp).length + (r.key.size + r.val.size) + 2 := by
  obtain ⟨m1, m2, m3, m4, m5⟩ := may_iff.1 hm
  have b1 := inR_iff.1 hb
  have b2 := inR_iff.1 hs
  have l1 := vb_len (x := r.off - base) (by omega)
  have l2 := vb_len (x := r.stamp - stamp) (by omega)
  have l3 := tx_len m3
  have l4 := tx_len m4
  have l0 : (tx ByteArray.empty).length = 1 := by rw [tx_length]; rw [vb_small (by decide)]; rfl
  rw [rb_len, rb_len]
  simp only [l0]
  omega
end Go.Proofs.YthhdhdjdhekgpaaDoor.Rec
