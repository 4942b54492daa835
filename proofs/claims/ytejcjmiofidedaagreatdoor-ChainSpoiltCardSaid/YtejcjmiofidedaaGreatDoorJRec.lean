/- Joined: RecMath, RecMath2, RecRefA, RecRefB, RecDevA, RecDevP, RecDevF, RecRefE, RecRefC, RecDevM, RecDev. -/
import Derived.Test.YtejcjmiofidedaaGreatDoorJOct
import Derived.Test.YtejcjmiofidedaaGreatDoorJCrc
import Derived.Deep.RegionHeld3
/- The plain mathematics of layer 3: a record, its bytes, what bytes tell. Nothing of the program. -/
namespace Go.Proofs.YtejcjmiofidedaaGreatDoor.Rec
open Oct

structure Rc where
  off : Int
  key : ByteArray
  val : ByteArray
  dead : Bool
  stamp : Int

def inR (n : Int) : Bool := decide (0 ≤ n ∧ n ≤ 1099511627776)
theorem inR_iff {n : Int} : inR n = true ↔ 0 ≤ n ∧ n ≤ 1099511627776 := by simp [inR]
def may (r : Rc) : Bool := decide ((0 ≤ r.off ∧ r.off ≤ 1099511627776) ∧ (0 ≤ r.stamp ∧ r.stamp ≤ 1099511627776) ∧ r.key.size ≤ 64 ∧ r.val.size ≤ 64 ∧ (r.dead = true → r.key.size ≠ 0 ∧ r.val.size = 0))
theorem may_iff {r : Rc} : may r = true ↔ (0 ≤ r.off ∧ r.off ≤ 1099511627776) ∧ (0 ≤ r.stamp ∧ r.stamp ≤ 1099511627776) ∧ r.key.size ≤ 64 ∧ r.val.size ≤ 64 ∧ (r.dead = true → r.key.size ≠ 0 ∧ r.val.size = 0) := by unfold may; exact decide_eq_true_iff
def nil : Rc := ⟨0, ByteArray.empty, ByteArray.empty, false, 0⟩
def tx (s : ByteArray) : List UInt8 := vb (zz s.size) ++ s.data.toList
def fl (d : Bool) : UInt8 := if d then 1 else 0
def rb (r : Rc) (base stamp : Int) : List UInt8 := vb (zz (r.off - base)) ++ vb (zz (r.stamp - stamp)) ++ [fl r.dead] ++ tx r.key ++ tx r.val
def pt (r : Rc) (base stamp : Int) : List UInt8 × Int := if may r && inR base && inR stamp then (rb r base stamp, 0) else ([], 1)
def bes (n d : Int) : Int := if d < -1099511627776 ∨ 1099511627776 < d ∨ inR (n + d) = false then -1 else n + d
def gr (l : List UInt8) (p base stamp : Int) : Rc × Int × Int :=
  if inR base && inR stamp && decide (0 ≤ p ∧ p ≤ l.length) then
    if (gv l p).2.2 ≠ 0 then (nil, 0, (gv l p).2.2)
    else if (gv l (gv l p).2.1).2.2 ≠ 0 then (nil, 0, (gv l (gv l p).2.1).2.2)
    else match l[(gv l (gv l p).2.1).2.1.toNat]? with
      | none => (nil, 0, 10)
      | some c =>
        if 1 < c.toNat then (nil, 0, 11)
        else if (gx l ((gv l (gv l p).2.1).2.1 + 1) 64).2.2 ≠ 0 then (nil, 0, (gx l ((gv l (gv l p).2.1).2.1 + 1) 64).2.2)
        else if (gx l (gx l ((gv l (gv l p).2.1).2.1 + 1) 64).2.1 64).2.2 ≠ 0 then (nil, 0, (gx l (gx l ((gv l (gv l p).2.1).2.1 + 1) 64).2.1 64).2.2)
        else if may ⟨bes base (gv l p).1, (gx l ((gv l (gv l p).2.1).2.1 + 1) 64).1, (gx l (gx l ((gv l (gv l p).2.1).2.1 + 1) 64).2.1 64).1, c == 1, bes stamp (gv l (gv l p).2.1).1⟩ then
          (⟨bes base (gv l p).1, (gx l ((gv l (gv l p).2.1).2.1 + 1) 64).1, (gx l (gx l ((gv l (gv l p).2.1).2.1 + 1) 64).2.1 64).1, c == 1, bes stamp (gv l (gv l p).2.1).1⟩, (gx l (gx l ((gv l (gv l p).2.1).2.1 + 1) 64).2.1 64).2.1, 0)
        else (nil, 0, 1)
  else (nil, 0, 1)

theorem size_list (s : ByteArray) : s.data.toList.length = s.size := by rw [Array.length_toList]; rfl
theorem tx_length (s : ByteArray) : (tx s).length = (vb (zz s.size)).length + s.size := by rw [tx, List.length_append, size_list]

theorem gr_fields {l : List UInt8} {p base stamp : Int} (hb : inR base = true) (hs : inR stamp = true) (hp : 0 ≤ p ∧ p ≤ l.length) {d i s j : Int} {c : UInt8} {k v : ByteArray} {m n : Int}
    (h1 : gv l p = (d, i, 0)) (h2 : gv l i = (s, j, 0)) (h3 : l[j.toNat]? = some c) (h4 : ¬ 1 < c.toNat) (h5 : gx l (j + 1) 64 = (k, m, 0)) (h6 : gx l m 64 = (v, n, 0)) :
    gr l p base stamp = if may ⟨bes base d, k, v, c == 1, bes stamp s⟩ then (⟨bes base d, k, v, c == 1, bes stamp s⟩, n, 0) else (nil, 0, 1) := by
  unfold gr
  rw [hb, hs]
  simp only [h1, h2, h3, h5, h6, Bool.true_and]
  rw [if_pos (by simpa using hp), if_neg (by simp), if_neg (by simp), if_neg h4, if_neg (by simp), if_neg (by simp)]

theorem bes_diff {n b : Int} (hn : 0 ≤ n ∧ n ≤ 1099511627776) (hb : 0 ≤ b ∧ b ≤ 1099511627776) : bes b (n - b) = n := by
  unfold bes
  have e : b + (n - b) = n := by omega
  rw [e, if_neg]
  simp [inR]
  omega
theorem fl_one (d : Bool) : (fl d == 1) = d := by cases d <;> rfl
theorem fl_small (d : Bool) : ¬ 1 < (fl d).toNat := by cases d <;> decide

theorem gr_rb {r : Rc} {base stamp : Int} (hm : may r = true) (hb : inR base = true) (hs : inR stamp = true) (h t : List UInt8) :
    gr (h ++ rb r base stamp ++ t) (h.length : Int) base stamp = (r, (h.length : Int) + ((rb r base stamp).length : Int), 0) := by
  obtain ⟨m1, m2, m3, m4, m5⟩ := may_iff.1 hm
  have b1 := inR_iff.1 hb
  have b2 := inR_iff.1 hs
  have e1 : h ++ rb r base stamp ++ t = h ++ vb (zz (r.off - base)) ++ (vb (zz (r.stamp - stamp)) ++ [fl r.dead] ++ tx r.key ++ tx r.val ++ t) := by simp [rb, List.append_assoc]
  have e2 : h ++ rb r base stamp ++ t = (h ++ vb (zz (r.off - base))) ++ vb (zz (r.stamp - stamp)) ++ ([fl r.dead] ++ tx r.key ++ tx r.val ++ t) := by simp [rb, List.append_assoc]
  have e3 : h ++ rb r base stamp ++ t = (h ++ vb (zz (r.off - base)) ++ vb (zz (r.stamp - stamp))) ++ (fl r.dead :: (tx r.key ++ tx r.val ++ t)) := by simp [rb, List.append_assoc]
  have e4 : h ++ rb r base stamp ++ t = (h ++ vb (zz (r.off - base)) ++ vb (zz (r.stamp - stamp)) ++ [fl r.dead]) ++ vb (zz r.key.size) ++ r.key.data.toList ++ (tx r.val ++ t) := by simp [rb, tx, List.append_assoc]
  have e5 : h ++ rb r base stamp ++ t = (h ++ vb (zz (r.off - base)) ++ vb (zz (r.stamp - stamp)) ++ [fl r.dead] ++ tx r.key) ++ vb (zz r.val.size) ++ r.val.data.toList ++ t := by simp [rb, tx, List.append_assoc]
  have g1 := gv_at h (vb (zz (r.stamp - stamp)) ++ [fl r.dead] ++ tx r.key ++ tx r.val ++ t) (r.off - base) (by omega)
  rw [← e1] at g1
  have g2 := gv_at (h ++ vb (zz (r.off - base))) ([fl r.dead] ++ tx r.key ++ tx r.val ++ t) (r.stamp - stamp) (by omega)
  rw [← e2] at g2
  have g4 := gx_at (h ++ vb (zz (r.off - base)) ++ vb (zz (r.stamp - stamp)) ++ [fl r.dead]) (tx r.val ++ t) r.key 64 (by omega) (by omega)
  rw [← e4] at g4
  have g5 := gx_at (h ++ vb (zz (r.off - base)) ++ vb (zz (r.stamp - stamp)) ++ [fl r.dead] ++ tx r.key) t r.val 64 (by omega) (by omega)
  rw [← e5] at g5
  have g3 : (h ++ rb r base stamp ++ t)[((h ++ vb (zz (r.off - base)) ++ vb (zz (r.stamp - stamp))).length : Int).toNat]? = some (fl r.dead) := by
    rw [e3, Int.toNat_natCast, List.getElem?_append_right (Nat.le_refl _), Nat.sub_self]; rfl
  simp only [List.length_append, Int.natCast_add, List.length_singleton] at g1 g2 g3 g4 g5
  have hf := gr_fields (l := h ++ rb r base stamp ++ t) (p := (h.length : Int)) hb hs (by simp only [List.length_append, Int.natCast_add]; omega) g1 g2 g3 (fl_small _) g4 (by
    rw [tx_length] at g5
    simp only [Int.natCast_add] at g5
    have e : (h.length : Int) + ((vb (zz (r.off - base))).length : Int) + ((vb (zz (r.stamp - stamp))).length : Int) + ((1 : Nat) : Int) + (((vb (zz (r.key.size : Int))).length : Int) + (r.key.size : Int)) = (h.length : Int) + ((vb (zz (r.off - base))).length : Int) + ((vb (zz (r.stamp - stamp))).length : Int) + ((1 : Nat) : Int) + ((vb (zz (r.key.size : Int))).length : Int) + (r.key.size : Int) := by omega
    rw [e] at g5
    exact g5)
  rw [hf, bes_diff m1 b1, bes_diff m2 b2, fl_one]
  have hr : (⟨r.off, r.key, r.val, r.dead, r.stamp⟩ : Rc) = r := rfl
  rw [hr, if_pos hm]
  congr 2
  unfold rb
  simp only [List.length_append, tx_length, List.length_singleton, Int.natCast_add]
  omega
end Go.Proofs.YtejcjmiofidedaaGreatDoor.Rec

/- More plain mathematics of layer 3: what is told was put; cut short it is none; moved alike; how long. Nothing of the program. -/
namespace Go.Proofs.YtejcjmiofidedaaGreatDoor.Rec
open Oct

theorem gr_on {l : List UInt8} {p base stamp : Int} (hb : inR base = true) (hs : inR stamp = true) (hp : 0 ≤ p ∧ p ≤ l.length) : gr l p base stamp =
    if (gv l p).2.2 ≠ 0 then (nil, 0, (gv l p).2.2)
    else if (gv l (gv l p).2.1).2.2 ≠ 0 then (nil, 0, (gv l (gv l p).2.1).2.2)
    else match l[(gv l (gv l p).2.1).2.1.toNat]? with
      | none => (nil, 0, 10)
      | some c =>
        if 1 < c.toNat then (nil, 0, 11)
        else if (gx l ((gv l (gv l p).2.1).2.1 + 1) 64).2.2 ≠ 0 then (nil, 0, (gx l ((gv l (gv l p).2.1).2.1 + 1) 64).2.2)
        else if (gx l (gx l ((gv l (gv l p).2.1).2.1 + 1) 64).2.1 64).2.2 ≠ 0 then (nil, 0, (gx l (gx l ((gv l (gv l p).2.1).2.1 + 1) 64).2.1 64).2.2)
        else if may ⟨bes base (gv l p).1, (gx l ((gv l (gv l p).2.1).2.1 + 1) 64).1, (gx l (gx l ((gv l (gv l p).2.1).2.1 + 1) 64).2.1 64).1, c == 1, bes stamp (gv l (gv l p).2.1).1⟩ then
          (⟨bes base (gv l p).1, (gx l ((gv l (gv l p).2.1).2.1 + 1) 64).1, (gx l (gx l ((gv l (gv l p).2.1).2.1 + 1) 64).2.1 64).1, c == 1, bes stamp (gv l (gv l p).2.1).1⟩, (gx l (gx l ((gv l (gv l p).2.1).2.1 + 1) 64).2.1 64).2.1, 0)
        else (nil, 0, 1) := by
  unfold gr
  exact (if_pos (by rw [hb, hs]; simpa using hp)).trans rfl

theorem seg_join (l : List UInt8) {a b c : Int} (h0 : 0 ≤ a) (h1 : a ≤ b) (h2 : b ≤ c) :
    (l.drop a.toNat).take (b - a).toNat ++ (l.drop b.toNat).take (c - b).toNat = (l.drop a.toNat).take (c - a).toNat := by
  have e1 : (c - a).toNat = (b - a).toNat + (c - b).toNat := by omega
  have e2 : b.toNat = a.toNat + (b - a).toNat := by omega
  rw [e1, List.take_add, e2, List.drop_drop]

theorem bes_in {n d : Int} (h : 0 ≤ bes n d) : bes n d = n + d := by
  unfold bes at h ⊢
  split at h
  · omega
  · rename_i hh; rw [if_neg hh]

theorem fl_back {c : UInt8} (h : ¬ 1 < c.toNat) : fl (c == 1) = c := by
  have e : c.toNat = 0 ∨ c.toNat = 1 := by omega
  rcases e with e | e
  · have : c = 0 := UInt8.toNat.inj e
    subst this; rfl
  · have : c = 1 := UInt8.toNat.inj e
    subst this; rfl

theorem gr_good {l : List UInt8} {p base stamp n : Int} {r : Rc} (h : gr l p base stamp = (r, n, 0)) :
    inR base = true ∧ inR stamp = true ∧ may r = true ∧ 0 ≤ p ∧ p < n ∧ n ≤ l.length ∧ rb r base stamp = (l.drop p.toNat).take (n - p).toNat := by
  unfold gr at h
  by_cases hc : (inR base && inR stamp && decide (0 ≤ p ∧ p ≤ l.length)) = true
  case neg => rw [if_neg hc] at h; simp at h
  rw [if_pos hc] at h
  simp only [Bool.and_eq_true, decide_eq_true_eq] at hc
  obtain ⟨⟨hb, hs⟩, hp⟩ := hc
  rcases g1 : gv l p with ⟨d, i, x1⟩
  simp only [g1] at h
  by_cases h1 : x1 = 0
  case neg => rw [if_pos h1] at h; simp only [Prod.mk.injEq] at h; exact absurd h.2.2 h1
  rw [if_neg (by simpa using h1)] at h
  subst h1
  rcases g2 : gv l i with ⟨s, j, x2⟩
  simp only [g2] at h
  by_cases h2 : x2 = 0
  case neg => rw [if_pos h2] at h; simp only [Prod.mk.injEq] at h; exact absurd h.2.2 h2
  rw [if_neg (by simpa using h2)] at h
  subst h2
  cases g3 : l[j.toNat]? with
  | none => rw [g3] at h; simp at h
  | some c =>
    rw [g3] at h
    simp only at h
    by_cases h3 : 1 < c.toNat
    · rw [if_pos h3] at h; simp at h
    rw [if_neg h3] at h
    rcases g4 : gx l (j + 1) 64 with ⟨k, m, x3⟩
    simp only [g4] at h
    by_cases h4 : x3 = 0
    case neg => rw [if_pos h4] at h; simp only [Prod.mk.injEq] at h; exact absurd h.2.2 h4
    rw [if_neg (by simpa using h4)] at h
    subst h4
    rcases g5 : gx l m 64 with ⟨v, q, x4⟩
    simp only [g5] at h
    by_cases h5 : x4 = 0
    case neg => rw [if_pos h5] at h; simp only [Prod.mk.injEq] at h; exact absurd h.2.2 h5
    rw [if_neg (by simpa using h5)] at h
    subst h5
    by_cases hm : may ⟨bes base d, k, v, c == 1, bes stamp s⟩ = true
    case neg => rw [if_neg hm] at h; simp at h
    rw [if_pos hm] at h
    simp only [Prod.mk.injEq, and_true] at h
    obtain ⟨hr, hn⟩ := h
    subst hr hn
    obtain ⟨m1, m2, m3, m4, m5⟩ := may_iff.1 hm
    simp only at m1 m2
    obtain ⟨a1, a2, a3, a4, a5, a6, a7⟩ := gv_good g1
    obtain ⟨b1, b2, b3, b4, b5, b6, b7⟩ := gv_good g2
    obtain ⟨c1, c2, c3, c4, c5, c6⟩ := gx_good g4
    obtain ⟨d1, d2, d3, d4, d5, d6⟩ := gx_good g5
    refine ⟨hb, hs, hm, a1, by omega, d3, ?_⟩
    have e3 : [c] = (l.drop j.toNat).take (j + 1 - j).toNat := by
      have : (j + 1 - j).toNat = 1 := by omega
      rw [this, drop_at g3]; rfl
    unfold rb
    simp only
    rw [bes_in m1.1, bes_in m2.1, show base + d - base = d by omega, show stamp + s - stamp = s by omega, fl_back h3, tx, tx, a5, b5, c5, d5, e3]
    rw [seg_join l (by omega) (by omega) (by omega), seg_join l (by omega) (by omega) (by omega), seg_join l (by omega) (by omega) (by omega), seg_join l (by omega) (by omega) (by omega)]

theorem vb_len {x : Int} (h : -1099511627776 ≤ x ∧ x ≤ 1099511627776) : 1 ≤ (vb (zz x)).length ∧ (vb (zz x)).length ≤ 6 := by
  have h1 := vb_pos (zz x)
  have h2 := vb_le 5 (zz x) (by unfold zz; split <;> omega)
  omega
theorem tx_len {s : ByteArray} (h : s.size ≤ 64) : s.size + 1 ≤ (tx s).length ∧ (tx s).length ≤ s.size + 2 := by
  rw [tx_length]
  have h1 := vb_pos (zz s.size)
  have h2 := vb_le 1 (zz s.size) (by unfold zz; split <;> omega)
  omega
theorem rb_len (r : Rc) (base stamp : Int) : (rb r base stamp).length = (vb (zz (r.off - base))).length + (vb (zz (r.stamp - stamp))).length + 1 + (tx r.key).length + (tx r.val).length := by
  unfold rb; simp only [List.length_append, List.length_singleton]
theorem rb_size {r : Rc} {base stamp : Int} (hm : may r = true) (hb : inR base = true) (hs : inR stamp = true) :
    5 ≤ (rb r base stamp).length ∧ (rb r base stamp).length ≤ 145 ∧ r.key.size + r.val.size + 5 ≤ (rb r base stamp).length ∧ (rb r base stamp).length ≤ r.key.size + r.val.size + 17 ∧
    (rb ⟨r.off, ByteArray.empty, ByteArray.empty, false, r.stamp⟩ base stamp).length + (r.key.size + r.val.size) ≤ (rb r base stamp).length ∧ (rb r base stamp).length ≤ (rb ⟨r.off, ByteArray.empty, ByteArray.empty, false, r.stamp⟩ base stamp).length + (r.key.size + r.val.size) + 2 := by
  obtain ⟨m1, m2, m3, m4, m5⟩ := may_iff.1 hm
  have b1 := inR_iff.1 hb
  have b2 := inR_iff.1 hs
  have l1 := vb_len (x := r.off - base) (by omega)
  have l2 := vb_len (x := r.stamp - stamp) (by omega)
  have l3 := tx_len m3
  have l4 := tx_len m4
  have l0 : (tx ByteArray.empty).length = 1 := by rw [tx_length]; rw [vb_small (by decide)]; rfl
  rw [rb_len, rb_len]
  simp only [l0]
  omega
end Go.Proofs.YtejcjmiofidedaaGreatDoor.Rec

/- The contracts of the document's own answers of layer 3: In, Check. -/
namespace Go.Proofs.YtejcjmiofidedaaGreatDoor.Rec
open Go.RowKit Oct

theorem refIn_any (n : Int) (w : World) {b : Bool} (hb : inR n = b) : Calls Tryz.prog 135 #[.int .i64 n] w fun e w' => e = .returned (.bool b) ∧ w = w' := by
  subst hb
  go_enter Tryz.func135, Tryz.ntmps135
  go_wp2
  all_goals go_ret
  all_goals refine ⟨?_, rfl⟩
  · rename_i h; exact ret_bool (by simp [inR, h])
  · rename_i h; exact ret_bool (by simp [inR]; omega)

theorem chk_no {r : Rc} (h : ¬ may r = true) : (if may r then (0 : Int) else 1) = 1 := if_neg h
theorem chk_yes {r : Rc} (h : may r = true) : (if may r then (0 : Int) else 1) = 0 := if_pos h
theorem empty_iff {k : ByteArray} : k.size = 0 ↔ k = ByteArray.empty := ByteArray.size_eq_zero_iff

theorem empty_tests {k : ByteArray} (h : k ≠ ByteArray.empty) : k.toList.isEmpty = false := by
  cases hb : k.toList.isEmpty with
  | false => rfl
  | true =>
    rw [Go.ByteArray.toList_eq, List.isEmpty_iff] at hb
    exact absurd (empty_iff.1 (by rw [← size_list, hb]; rfl)) h

set_option maxRecDepth 100000 in
theorem refCheck_any (o s : Int) (k v : ByteArray) (d : Bool) (w : World) (hk : k.size ≤ 1099511627776) (hv : v.size ≤ 1099511627776) : Calls Tryz.prog 112 #[.agg #[.int .i64 o, .string k, .string v, .bool d, .int .i64 s]] w fun e w' => e = .returned (.int .i64 (if may ⟨o, k, v, d, s⟩ then 0 else 1)) ∧ Below w.heap.size w w' := by
  rcases h1 : inR o with _ | _
  · have hm := Lib.hid (chk_no (r := ⟨o, k, v, d, s⟩) fun hh => by have := inR_iff.2 (may_iff.1 hh).1; simp only [h1] at this; cases this)
    rw [hm.out]
    go_enter Tryz.func112, Tryz.ntmps112
    go_wp2_with (go_at_call 135; refine (refIn_any _ _ h1).mono ?_; rintro e w9 ⟨rfl, rfl⟩)
    go_ret
    exact ⟨rfl, (Below.refl _ _).alloc (Nat.le_refl _) _⟩
  rcases h2 : inR s with _ | _
  · have hm := Lib.hid (chk_no (r := ⟨o, k, v, d, s⟩) fun hh => by have := inR_iff.2 (may_iff.1 hh).2.1; simp only [h2] at this; cases this)
    rw [hm.out]
    go_enter Tryz.func112, Tryz.ntmps112
    go_wp2_with (go_at_call 135; refine (refIn_any _ _ (by first | exact h1 | exact h2)).mono ?_; rintro e w9 ⟨rfl, rfl⟩)
    go_ret
    exact ⟨rfl, (Below.refl _ _).alloc (Nat.le_refl _) _⟩
  have g1 := inR_iff.1 h1
  have g2 := inR_iff.1 h2
  have c3 : ∀ n : Nat, ¬ 64 < n → decide (64 < (n : Int)) = false := fun n hn => by simp; omega
  by_cases h3 : 64 < k.size
  · have hm := Lib.hid (chk_no (r := ⟨o, k, v, d, s⟩) fun hh => by have := (may_iff.1 hh).2.2.1; simp only at this; omega)
    rw [hm.out]
    go_enter Tryz.func112, Tryz.ntmps112
    go_wp2_with (go_at_call 135; refine (refIn_any _ _ (by first | exact h1 | exact h2)).mono ?_; rintro e w9 ⟨rfl, rfl⟩)
    go_ret
    exact ⟨rfl, (Below.refl _ _).alloc (Nat.le_refl _) _⟩
  by_cases h4 : 64 < v.size
  · have hm := Lib.hid (chk_no (r := ⟨o, k, v, d, s⟩) fun hh => by have := (may_iff.1 hh).2.2.2.1; simp only at this; omega)
    rw [hm.out]
    go_enter Tryz.func112, Tryz.ntmps112
    go_wp2_with (go_at_call 135; refine (refIn_any _ _ (by first | exact h1 | exact h2)).mono ?_; rintro e w9 ⟨rfl, rfl⟩)
    go_ret
    exact ⟨rfl, (Below.refl _ _).alloc (Nat.le_refl _) _⟩
  have d3 := c3 _ h3
  have d4 := c3 _ h4
  clear c3
  rcases d with _ | _
  · have hm := Lib.hid (chk_yes (r := ⟨o, k, v, false, s⟩) (may_iff.2 ⟨g1, g2, by simp only; omega, by simp only; omega, fun hh => by cases hh⟩))
    rw [hm.out]
    go_enter Tryz.func112, Tryz.ntmps112
    go_wp2_with (go_at_call 135; refine (refIn_any _ _ (by first | exact h1 | exact h2)).mono ?_; rintro e w9 ⟨rfl, rfl⟩)
    go_ret
    exact ⟨rfl, (Below.refl _ _).alloc (Nat.le_refl _) _⟩
  by_cases h5 : k = ByteArray.empty
  · have hm := Lib.hid (chk_no (r := ⟨o, k, v, true, s⟩) fun hh => ((may_iff.1 hh).2.2.2.2 rfl).1 (empty_iff.2 h5))
    rw [hm.out]
    subst h5
    go_enter Tryz.func112, Tryz.ntmps112
    go_wp2_with (go_at_call 135; refine (refIn_any _ _ (by first | exact h1 | exact h2)).mono ?_; rintro e w9 ⟨rfl, rfl⟩)
    go_ret
    exact ⟨rfl, (Below.refl _ _).alloc (Nat.le_refl _) _⟩
  by_cases h6 : v = ByteArray.empty
  · have hm := Lib.hid (chk_yes (r := ⟨o, k, v, true, s⟩) (may_iff.2 ⟨g1, g2, by simp only; omega, by simp only; omega, fun _ => ⟨fun hz => h5 (empty_iff.1 hz), empty_iff.2 h6⟩⟩))
    rw [hm.out]
    subst h6
    have hk5 := empty_tests h5
    go_enter Tryz.func112, Tryz.ntmps112
    go_wp2_with (go_at_call 135; refine (refIn_any _ _ (by first | exact h1 | exact h2)).mono ?_; rintro e w9 ⟨rfl, rfl⟩)
    go_ret
    exact ⟨rfl, (Below.refl _ _).alloc (Nat.le_refl _) _⟩
  · have hm := Lib.hid (chk_no (r := ⟨o, k, v, true, s⟩) fun hh => h6 (empty_iff.1 ((may_iff.1 hh).2.2.2.2 rfl).2))
    rw [hm.out]
    have hk5 := empty_tests h5
    have hk6 := empty_tests h6
    go_enter Tryz.func112, Tryz.ntmps112
    go_wp2_with (go_at_call 135; refine (refIn_any _ _ (by first | exact h1 | exact h2)).mono ?_; rintro e w9 ⟨rfl, rfl⟩)
    go_ret
    exact ⟨rfl, (Below.refl _ _).alloc (Nat.le_refl _) _⟩
end Go.Proofs.YtejcjmiofidedaaGreatDoor.Rec

/- The contracts of the document's own answers of layer 3: Put. -/
namespace Go.Proofs.YtejcjmiofidedaaGreatDoor.Rec
open Go.RowKit Oct Crc

def Box (w : World) (g : Nat) (r : Rc) : Prop :=
  w.cell? ⟨g, 0, none⟩ = some (.int .i64 r.off) ∧ w.cell? ⟨g, 1, none⟩ = some (.string r.key) ∧ w.cell? ⟨g, 2, none⟩ = some (.string r.val) ∧ w.cell? ⟨g, 3, none⟩ = some (.bool r.dead) ∧ w.cell? ⟨g, 4, none⟩ = some (.int .i64 r.stamp)
theorem Box.below {w w' : World} {g B : Nat} {r : Rc} (h : Box w g r) (hb : Below B w w') (hg : g < B) : Box w' g r := by
  obtain ⟨h0, h1, h2, h3, h4⟩ := h
  exact ⟨(hb.cell hg).trans h0, (hb.cell hg).trans h1, (hb.cell hg).trans h2, (hb.cell hg).trans h3, (hb.cell hg).trans h4⟩
theorem box_new (w : World) (e : TypeId) (r : Rc) : Box (w.alloc (.cells #[.int .i64 r.off, .string r.key, .string r.val, .bool r.dead, .int .i64 r.stamp] e)) w.heap.size r := by
  refine ⟨?_, ?_, ?_, ?_, ?_⟩ <;> (rw [cell_of_row _ _ _ _ e _ (heap_alloc_new w _)]; rfl)

theorem lens2 {n : Nat} {x : Int} (h : ([] ++ vb (zz x)).length = n) (hx : -1099511627776 ≤ x ∧ x ≤ 1099511627776) : n ≤ 6 := by
  have := (vb_len hx).2
  simpa [← h] using this
theorem lens3 {n m : Nat} {x : Int} {l : List UInt8} (h : (l ++ vb (zz x)).length = n) (hl : l.length = m) (hm : m ≤ 6) (hx : -1099511627776 ≤ x ∧ x ≤ 1099511627776) : n ≤ 12 := by
  have := (vb_len hx).2
  rw [List.length_append] at h
  omega
theorem lens5 {n m : Nat} {k : ByteArray} {l : List UInt8} (h : (l ++ vb (zz k.size) ++ k.data.toList).length = n) (hl : l.length = m + 1) (hm : m ≤ 12) (hk : k.size ≤ 64) : n ≤ 100 := by
  have h1 := (tx_len hk).2
  rw [tx_length] at h1
  rw [List.length_append, List.length_append, size_list] at h
  omega

theorem rb_list (o s : Int) (k v : ByteArray) (d : Bool) (b t : Int) : [] ++ vb (zz (o - b)) ++ vb (zz (s - t)) ++ [fl d] ++ vb (zz k.size) ++ k.data.toList ++ vb (zz v.size) ++ v.data.toList = rb ⟨o, k, v, d, s⟩ b t := by
  simp [rb, tx, List.append_assoc]

theorem pt_no {r : Rc} {b t : Int} (h : ¬ (may r = true ∧ inR b = true ∧ inR t = true)) : pt r b t = ([], 1) := by
  unfold pt; rw [if_neg]; intro hh; simp only [Bool.and_eq_true] at hh; exact h ⟨hh.1.1, hh.1.2, hh.2⟩
theorem pt_yes {r : Rc} {b t : Int} (h : may r = true) (h1 : inR b = true) (h2 : inR t = true) : pt r b t = (rb r b t, 0) := by
  unfold pt; rw [if_pos]; simp only [Bool.and_eq_true]; exact ⟨⟨h, h1⟩, h2⟩

set_option maxRecDepth 100000 in
set_option maxHeartbeats 1000000 in
theorem refPut_any (o s : Int) (k v : ByteArray) (d : Bool) (b t : Int) (w : World) (hk : k.size ≤ 1099511627776) (hv : v.size ≤ 1099511627776) (hb0 : -9223372036854775808 ≤ b) (hb1 : b ≤ 9223372036854775807) (ht0 : -9223372036854775808 ≤ t) (ht1 : t ≤ 9223372036854775807) :
    Calls Tryz.prog 114 #[.agg #[.int .i64 o, .string k, .string v, .bool d, .int .i64 s], .int .i64 b, .int .i64 t] w (OPr 5 w.heap.size w (pt ⟨o, k, v, d, s⟩ b t).1 (pt ⟨o, k, v, d, s⟩ b t).2) := by
  have hI := u8row
  rcases hm : may ⟨o, k, v, d, s⟩ with _ | _
  · have hz := pt_no (r := ⟨o, k, v, d, s⟩) (b := b) (t := t) (fun hh => by have := hh.1; simp only [hm] at this; cases this)
    rw [hz]
    clear hz hb0 hb1 ht0 ht1
    go_enter Tryz.func114, Tryz.ntmps114
    go_wp2_with (go_at_call 112; refine (refCheck_any o s k v d _ hk hv).mono ?_; rw [hm]; rintro e w9 ⟨rfl, hb9⟩)
    go_ret2
    exact ⟨none, 0, 0, rfl, OwnB.nil, bel_trans ((Below.refl _ _).alloc (Nat.le_refl _) _) hb9⟩
  rcases h1 : inR b with _ | _
  · have hz := pt_no (r := ⟨o, k, v, d, s⟩) (b := b) (t := t) (fun hh => by have := hh.2.1; simp only [h1] at this; cases this)
    rw [hz]
    clear hz hb0 hb1 ht0 ht1
    go_enter Tryz.func114, Tryz.ntmps114
    go_wp2_with (first
      | (go_at_call 112; refine (refCheck_any o s k v d _ hk hv).mono ?_; rw [hm]; rintro e w9 ⟨rfl, hb9⟩)
      | (go_at_call 135; refine (refIn_any _ _ h1).mono ?_; rintro e w8 ⟨rfl, rfl⟩))
    go_ret2
    exact ⟨none, 0, 0, rfl, OwnB.nil, bel_trans ((Below.refl _ _).alloc (Nat.le_refl _) _) hb9⟩
  rcases h2 : inR t with _ | _
  · have hz := pt_no (r := ⟨o, k, v, d, s⟩) (b := b) (t := t) (fun hh => by have := hh.2.2; simp only [h2] at this; cases this)
    rw [hz]
    clear hz hb0 hb1 ht0 ht1
    go_enter Tryz.func114, Tryz.ntmps114
    go_wp2_with (first
      | (go_at_call 112; refine (refCheck_any o s k v d _ hk hv).mono ?_; rw [hm]; rintro e w9 ⟨rfl, hb9⟩)
      | (go_at_call 135; refine (refIn_any _ _ (by first | exact h1 | exact h2)).mono ?_; rintro e w8 ⟨rfl, rfl⟩))
    go_ret2
    exact ⟨none, 0, 0, rfl, OwnB.nil, bel_trans ((Below.refl _ _).alloc (Nat.le_refl _) _) hb9⟩
  have hz := pt_yes (r := ⟨o, k, v, d, s⟩) (b := b) (t := t) hm h1 h2
  rw [hz]
  clear hz
  obtain ⟨m1, m2, m3, m4, m5⟩ := may_iff.1 hm
  simp only at m1 m2 m3 m4 m5
  have b1 := inR_iff.1 h1
  have b2 := inR_iff.1 h2
  have HBX := Lib.hid (box_new w 79 ⟨o, k, v, d, s⟩)
  have hsz : w.heap.size < (w.alloc (.cells #[.int .i64 o, .string k, .string v, .bool d, .int .i64 s] 79)).heap.size := by simp
  rcases d with _ | _
  all_goals
    go_enter Tryz.func114, Tryz.ntmps114
    go_wp2_with (first
      | (go_at_call 112; refine (refCheck_any o s k v _ _ hk hv).mono ?_; rw [hm]; rintro e w9 ⟨rfl, hb9⟩; obtain ⟨p0, p1, p2, p3, p4⟩ := HBX.out.below hb9 hsz)
      | (go_at_call 135; refine (refIn_any _ _ (by first | exact h1 | exact h2)).mono ?_; rintro e w8 ⟨rfl, rfl⟩)
      | (go_at_call 136; refine (refPutText_any A5 n5 c5 v _ _ _ HO5.out.rd (by have := HN5.out; omega) (by omega)).mono ?_; rintro e w6 ⟨A6, n6, c6, rfl, hown6, hb6⟩; have HO6 := Lib.hid hown6; clear hown6)
      | (go_at_call 136; refine (refPutText_any A4 (n3 + 1) c4 k _ _ _ HO4.out.rd (by have := HN3.out; omega) (by omega)).mono ?_; rintro e w5 ⟨A5, n5, c5, rfl, hown5, hb5⟩; have hs5 := Nat.lt_of_lt_of_le hs4 hb5.size; obtain ⟨u0, u1, u2, u3, u4⟩ := HB4.out.below hb5 hs4; have HO5 := Lib.hid hown5; have HN5 := Lib.hid (lens5 hown5.len HO4.out.len HN3.out m3); clear hown5)
      | (go_at_call 113; refine (refPutVar_any A2 n2 c2 _ _ _ _ HO2.out.rd (by have := HN2.out; omega) (by omega) (by omega)).mono ?_; rintro e w3 ⟨A3, n3, c3, rfl, hown3, hb3⟩; have hs3 := Nat.lt_of_lt_of_le hs2 hb3.size; have HB3 := Lib.hid (HB2.out.below hb3 hs2); obtain ⟨r0, r1, r2, r3, r4⟩ := HB3.out; have HO3 := Lib.hid hown3; have HN3 := Lib.hid (lens3 hown3.len HO2.out.len HN2.out (show -1099511627776 ≤ s - t ∧ s - t ≤ 1099511627776 by omega)); clear hown3)
      | (go_at_call 113; refine (refPutVar_any none 0 0 _ [] 0 _ Rd.nil (by omega) (by omega) (by omega)).mono ?_; rintro e w2 ⟨A2, n2, c2, rfl, hown2, hb2⟩; have hs9 := Nat.lt_of_lt_of_le hsz hb9.size; have hs2 := Nat.lt_of_lt_of_le hs9 hb2.size; have HB2 := Lib.hid ((HBX.out.below hb9 hsz).below hb2 hs9); obtain ⟨q0, q1, q2, q3, q4⟩ := HB2.out; have HO2 := Lib.hid hown2; have HN2 := Lib.hid (lens2 hown2.len (show -1099511627776 ≤ o - b ∧ o - b ≤ 1099511627776 by omega)); clear hown2)
      | (at_builtin; refine wpList_app1 _ rfl _ _ 57 rfl w2.heap.size 5 Tryz.underlying57 hI _ n3 _ rfl HO3.out _ (fl false) rfl rfl (by have := HN3.out; omega) hb3.size ?_; intro A4 c4 w4 hown4 hb4; have hs4 := Nat.lt_of_lt_of_le hs3 hb4.size; have HB4 := Lib.hid (HB3.out.below hb4 hs2); obtain ⟨t0, t1, t2, t3, t4⟩ := HB4.out; have HO4 := Lib.hid hown4; clear hown4)
      | (at_builtin; refine wpList_app1 _ rfl _ _ 57 rfl w2.heap.size 5 Tryz.underlying57 hI _ n3 _ rfl HO3.out _ (fl true) rfl rfl (by have := HN3.out; omega) hb3.size ?_; intro A4 c4 w4 hown4 hb4; have hs4 := Nat.lt_of_lt_of_le hs3 hb4.size; have HB4 := Lib.hid (HB3.out.below hb4 hs2); obtain ⟨t0, t1, t2, t3, t4⟩ := HB4.out; have HO4 := Lib.hid hown4; clear hown4))
    go_ret2
    have hfin := HO6.out.more (Nat.le_of_lt hs5)
    rw [rb_list] at hfin
    have hle := Nat.le_of_lt hsz
    refine ⟨A6, n6, c6, rfl, hfin, ?_⟩
    exact (((((((Below.refl _ _).alloc (Nat.le_refl _) _).trans (hb9.mono hle)).trans (hb2.mono (Nat.le_of_lt hs9))).trans (hb3.mono (Nat.le_of_lt hs2))).trans (hb4.mono (Nat.le_of_lt hs2))).trans (hb5.mono (Nat.le_of_lt hs4))).trans (hb6.mono (Nat.le_of_lt hs5))

end Go.Proofs.YtejcjmiofidedaaGreatDoor.Rec

/- The contracts of the landed rec's Check, and of what it calls. -/
namespace Go.Proofs.YtejcjmiofidedaaGreatDoor.Rec
open Go.RowKit Oct

def chk (r : Rc) : Int := if may r then 0 else 1
theorem chk_open (r : Rc) : chk r = if may r then 0 else 1 := rfl
def tx64 (s : ByteArray) : Bool := decide ((s.size : Int) ≤ 64)
theorem tx64_no {s : ByteArray} (h : 64 < s.size) : tx64 s = false := by unfold tx64; simp; omega
theorem tx64_yes {s : ByteArray} (h : ¬ 64 < s.size) : tx64 s = true := by unfold tx64; simp; omega

theorem inRange_any (n : Int) (w : World) {b : Bool} (hb : inR n = b) : Calls Tryz.prog 142 #[.int .i64 n] w fun e w' => e = .returned (.bool b) ∧ w = w' := by
  subst hb
  go_enter Tryz.func142, Tryz.ntmps142
  go_wp2
  all_goals go_ret
  all_goals refine ⟨?_, rfl⟩
  · rename_i h; exact ret_bool (by simp [inR, h])
  · rename_i h; exact ret_bool (by simp [inR]; omega)

theorem isText_any (s : ByteArray) (w : World) {b : Bool} (hb : tx64 s = b) : Calls Tryz.prog 156 #[.string s] w fun e w' => e = .returned (.bool b) ∧ w = w' := by
  subst hb
  go_enter Tryz.func156, Tryz.ntmps156
  go_wp2
  go_ret
  exact ⟨rfl, rfl⟩

theorem flag_any (d : Bool) (w : World) : Calls Tryz.prog 143 #[.bool d] w fun e w' => e = .returned (.int .u64 ((fl d).toNat : Int)) ∧ w = w' := by
  rcases d with _ | _
  all_goals
    go_enter Tryz.func143, Tryz.ntmps143
    go_wp2
    go_ret
    exact ⟨rfl, rfl⟩

set_option maxRecDepth 100000 in
theorem Check_we (o s : Int) (k v : ByteArray) (d : Bool) (w : World) (hk : k.size ≤ 1099511627776) (hv : v.size ≤ 1099511627776) : Calls Tryz.prog 139 #[.agg #[.int .i64 o, .string k, .string v, .bool d, .int .i64 s]] w fun e w' => e = .returned (.int .i64 (chk ⟨o, k, v, d, s⟩)) ∧ w.alloc (.cells #[.int .i64 o, .string k, .string v, .bool d, .int .i64 s] 79) = w' := by
  rcases h1 : inR o with _ | _
  · have hm := Lib.hid (chk_no (r := ⟨o, k, v, d, s⟩) fun hh => by have := inR_iff.2 (may_iff.1 hh).1; simp only [h1] at this; cases this)
    first | rw [show chk _ = _ from hm.out] | rw [chk_open, hm.out]
    go_enter Tryz.func139, Tryz.ntmps139
    go_wp2_with (go_at_call 142; refine (inRange_any _ _ h1).mono ?_; rintro e w9 ⟨rfl, rfl⟩)
    go_ret
    exact ⟨rfl, rfl⟩
  rcases h2 : inR s with _ | _
  · have hm := Lib.hid (chk_no (r := ⟨o, k, v, d, s⟩) fun hh => by have := inR_iff.2 (may_iff.1 hh).2.1; simp only [h2] at this; cases this)
    first | rw [show chk _ = _ from hm.out] | rw [chk_open, hm.out]
    go_enter Tryz.func139, Tryz.ntmps139
    go_wp2_with (first | (go_at_call 142; refine (inRange_any _ _ (by first | exact h1 | exact h2)).mono ?_; rintro e w9 ⟨rfl, rfl⟩) | (go_at_call 156; refine (isText_any _ _ (by first | exact t3 | exact t4)).mono ?_; rintro e w8 ⟨rfl, rfl⟩))
    go_ret
    exact ⟨rfl, rfl⟩
  have g1 := inR_iff.1 h1
  have g2 := inR_iff.1 h2
  by_cases h3 : 64 < k.size
  · have t3 := tx64_no h3
    have hm := Lib.hid (chk_no (r := ⟨o, k, v, d, s⟩) fun hh => by have := (may_iff.1 hh).2.2.1; simp only at this; omega)
    clear h3
    first | rw [show chk _ = _ from hm.out] | rw [chk_open, hm.out]
    go_enter Tryz.func139, Tryz.ntmps139
    go_wp2_with (first | (go_at_call 142; refine (inRange_any _ _ (by first | exact h1 | exact h2)).mono ?_; rintro e w9 ⟨rfl, rfl⟩) | (go_at_call 156; refine (isText_any _ _ (by first | exact t3 | exact t4)).mono ?_; rintro e w8 ⟨rfl, rfl⟩))
    go_ret
    exact ⟨rfl, rfl⟩
  have t3 := tx64_yes h3
  by_cases h4 : 64 < v.size
  · have t4 := tx64_no h4
    have hm := Lib.hid (chk_no (r := ⟨o, k, v, d, s⟩) fun hh => by have := (may_iff.1 hh).2.2.2.1; simp only at this; omega)
    clear h4
    first | rw [show chk _ = _ from hm.out] | rw [chk_open, hm.out]
    go_enter Tryz.func139, Tryz.ntmps139
    go_wp2_with (first | (go_at_call 142; refine (inRange_any _ _ (by first | exact h1 | exact h2)).mono ?_; rintro e w9 ⟨rfl, rfl⟩) | (go_at_call 156; refine (isText_any _ _ (by first | exact t3 | exact t4)).mono ?_; rintro e w8 ⟨rfl, rfl⟩))
    go_ret
    exact ⟨rfl, rfl⟩
  have t4 := tx64_yes h4
  rcases d with _ | _
  · have hm := Lib.hid (chk_yes (r := ⟨o, k, v, false, s⟩) (may_iff.2 ⟨g1, g2, by simp only; omega, by simp only; omega, fun hh => by cases hh⟩))
    first | rw [show chk _ = _ from hm.out] | rw [chk_open, hm.out]
    go_enter Tryz.func139, Tryz.ntmps139
    go_wp2_with (first | (go_at_call 142; refine (inRange_any _ _ (by first | exact h1 | exact h2)).mono ?_; rintro e w9 ⟨rfl, rfl⟩) | (go_at_call 156; refine (isText_any _ _ (by first | exact t3 | exact t4)).mono ?_; rintro e w8 ⟨rfl, rfl⟩))
    go_ret
    exact ⟨rfl, rfl⟩
  by_cases h5 : k = ByteArray.empty
  · have hm := Lib.hid (chk_no (r := ⟨o, k, v, true, s⟩) fun hh => ((may_iff.1 hh).2.2.2.2 rfl).1 (empty_iff.2 h5))
    first | rw [show chk _ = _ from hm.out] | rw [chk_open, hm.out]
    subst h5
    go_enter Tryz.func139, Tryz.ntmps139
    go_wp2_with (first | (go_at_call 142; refine (inRange_any _ _ (by first | exact h1 | exact h2)).mono ?_; rintro e w9 ⟨rfl, rfl⟩) | (go_at_call 156; refine (isText_any _ _ (by first | exact t3 | exact t4)).mono ?_; rintro e w8 ⟨rfl, rfl⟩))
    go_ret
    exact ⟨rfl, rfl⟩
  by_cases h6 : v = ByteArray.empty
  · have hm := Lib.hid (chk_yes (r := ⟨o, k, v, true, s⟩) (may_iff.2 ⟨g1, g2, by simp only; omega, by simp only; omega, fun _ => ⟨fun hz => h5 (empty_iff.1 hz), empty_iff.2 h6⟩⟩))
    first | rw [show chk _ = _ from hm.out] | rw [chk_open, hm.out]
    subst h6
    have hk5 := empty_tests h5
    go_enter Tryz.func139, Tryz.ntmps139
    go_wp2_with (first | (go_at_call 142; refine (inRange_any _ _ (by first | exact h1 | exact h2)).mono ?_; rintro e w9 ⟨rfl, rfl⟩) | (go_at_call 156; refine (isText_any _ _ (by first | exact t3 | exact t4)).mono ?_; rintro e w8 ⟨rfl, rfl⟩))
    go_ret
    exact ⟨rfl, rfl⟩
  · have hm := Lib.hid (chk_no (r := ⟨o, k, v, true, s⟩) fun hh => h6 (empty_iff.1 ((may_iff.1 hh).2.2.2.2 rfl).2))
    first | rw [show chk _ = _ from hm.out] | rw [chk_open, hm.out]
    have hk5 := empty_tests h5
    have hk6 := empty_tests h6
    go_enter Tryz.func139, Tryz.ntmps139
    go_wp2_with (first | (go_at_call 142; refine (inRange_any _ _ (by first | exact h1 | exact h2)).mono ?_; rintro e w9 ⟨rfl, rfl⟩) | (go_at_call 156; refine (isText_any _ _ (by first | exact t3 | exact t4)).mono ?_; rintro e w8 ⟨rfl, rfl⟩))
    go_ret
    exact ⟨rfl, rfl⟩
theorem Check_at (o s : Int) (k v : ByteArray) (d : Bool) (w : World) (hk : k.size ≤ 1099511627776) (hv : v.size ≤ 1099511627776) : Calls Tryz.prog 139 #[.agg #[.int .i64 o, .string k, .string v, .bool d, .int .i64 s]] w fun e w' => e = .returned (.int .i64 (chk ⟨o, k, v, d, s⟩)) ∧ Below w.heap.size w w' :=
  (Check_we o s k v d w hk hv).mono fun _ _ h => ⟨h.1, h.2 ▸ (Below.refl _ _).alloc (Nat.le_refl _) _⟩
end Go.Proofs.YtejcjmiofidedaaGreatDoor.Rec

/- The contracts of the landed rec's Put and Size. -/
namespace Go.Proofs.YtejcjmiofidedaaGreatDoor.Rec
open Go.RowKit Oct Crc

theorem chk_f {r : Rc} (h : may r = false) : chk r = 1 := by unfold chk; rw [h]; rfl
theorem chk_t {r : Rc} (h : may r = true) : chk r = 0 := by unfold chk; rw [h]; rfl
theorem fl_be (d : Bool) : (if isW 1 = true then beN (fl d).toNat (1 : Int).toNat (1 : Int).toNat else []) = [fl d] := by
  rw [if_pos (by decide)]; cases d <;> rfl
theorem lens4 {n m : Nat} {l : List UInt8} {x : UInt8} (h : (l ++ [x]).length = n) (hl : l.length = m) : n = m + 1 := by
  rw [List.length_append, List.length_singleton] at h; omega

set_option maxRecDepth 100000 in
set_option maxHeartbeats 1000000 in
theorem Put_any' (o s : Int) (k v : ByteArray) (d : Bool) (b t : Int) (w : World) (hk : k.size ≤ 1099511627776) (hv : v.size ≤ 1099511627776) (hb0 : -9223372036854775808 ≤ b) (hb1 : b ≤ 9223372036854775807) (ht0 : -9223372036854775808 ≤ t) (ht1 : t ≤ 9223372036854775807) :
    Calls Tryz.prog 124 #[.agg #[.int .i64 o, .string k, .string v, .bool d, .int .i64 s], .int .i64 b, .int .i64 t] w (OPr 5 w.heap.size w (pt ⟨o, k, v, d, s⟩ b t).1 (pt ⟨o, k, v, d, s⟩ b t).2) := by
  have hI := u8row
  rcases hm : may ⟨o, k, v, d, s⟩ with _ | _
  · have hm0 := chk_f hm
    have hz := pt_no (r := ⟨o, k, v, d, s⟩) (b := b) (t := t) (fun hh => by have := hh.1; simp only [hm] at this; cases this)
    rw [hz]
    clear hz hb0 hb1 ht0 ht1
    go_enter Tryz.func124, Tryz.ntmps124
    go_wp2_with (go_at_call 139; refine (Check_at o s k v d _ hk hv).mono ?_; rw [hm0]; rintro e w9 ⟨rfl, hb9⟩)
    go_ret2
    exact ⟨none, 0, 0, rfl, OwnB.nil, bel_trans ((Below.refl _ _).alloc (Nat.le_refl _) _) hb9⟩
  have hm0 := chk_t hm
  rcases h1 : inR b with _ | _
  · have hz := pt_no (r := ⟨o, k, v, d, s⟩) (b := b) (t := t) (fun hh => by have := hh.2.1; simp only [h1] at this; cases this)
    rw [hz]
    clear hz hb0 hb1 ht0 ht1
    go_enter Tryz.func124, Tryz.ntmps124
    go_wp2_with (first
      | (go_at_call 139; refine (Check_at o s k v d _ hk hv).mono ?_; rw [hm0]; rintro e w9 ⟨rfl, hb9⟩)
      | (go_at_call 142; refine (inRange_any _ _ h1).mono ?_; rintro e w8 ⟨rfl, rfl⟩))
    go_ret2
    exact ⟨none, 0, 0, rfl, OwnB.nil, bel_trans ((Below.refl _ _).alloc (Nat.le_refl _) _) hb9⟩
  rcases h2 : inR t with _ | _
  · have hz := pt_no (r := ⟨o, k, v, d, s⟩) (b := b) (t := t) (fun hh => by have := hh.2.2; simp only [h2] at this; cases this)
    rw [hz]
    clear hz hb0 hb1 ht0 ht1
    go_enter Tryz.func124, Tryz.ntmps124
    go_wp2_with (first
      | (go_at_call 139; refine (Check_at o s k v d _ hk hv).mono ?_; rw [hm0]; rintro e w9 ⟨rfl, hb9⟩)
      | (go_at_call 142; refine (inRange_any _ _ (by first | exact h1 | exact h2)).mono ?_; rintro e w8 ⟨rfl, rfl⟩))
    go_ret2
    exact ⟨none, 0, 0, rfl, OwnB.nil, bel_trans ((Below.refl _ _).alloc (Nat.le_refl _) _) hb9⟩
  have hz := pt_yes (r := ⟨o, k, v, d, s⟩) (b := b) (t := t) hm h1 h2
  rw [hz]
  clear hz
  obtain ⟨m1, m2, m3, m4, m5⟩ := may_iff.1 hm
  simp only at m1 m2 m3 m4 m5
  have b1 := inR_iff.1 h1
  have b2 := inR_iff.1 h2
  have HFL := Lib.hid (fl_be d)
  have HBX := Lib.hid (box_new w 79 ⟨o, k, v, d, s⟩)
  have hsz : w.heap.size < (w.alloc (.cells #[.int .i64 o, .string k, .string v, .bool d, .int .i64 s] 79)).heap.size := by simp
  go_enter Tryz.func124, Tryz.ntmps124
  go_wp2_with (first
    | (go_at_call 139; (with_reducible refine (Check_at o s k v d _ hk hv).mono ?_); rw [hm0]; rintro e w9 ⟨rfl, hb9⟩; obtain ⟨p0, p1, p2, p3, p4⟩ := HBX.out.below hb9 hsz)
    | (go_at_call 142; refine (inRange_any _ _ (by first | exact h1 | exact h2)).mono ?_; rintro e w8 ⟨rfl, rfl⟩)
    | (go_at_call 143; refine (flag_any d _).mono ?_; rintro e w8 ⟨rfl, rfl⟩)
    | (go_at_call 144; (with_reducible refine (PutText_any A5 n5 c5 v _ _ _ HO5.out.rd (Nat.le_refl _) (by have := HN5.out; omega) (by omega)).mono ?_); rintro e w6 ⟨A6, n6, c6, rfl, hown6, hb6⟩; have HO6 := Lib.hid hown6; clear hown6)
    | (go_at_call 144; (with_reducible refine (PutText_any A4 n4 c4 k _ _ _ HO4.out.rd (Nat.le_refl _) (by have := HN4.out; have := HN3.out; omega) (by omega)).mono ?_); rintro e w5 ⟨A5, n5, c5, rfl, hown5, hb5⟩; have hs5 := Nat.lt_of_lt_of_le hs4 hb5.size; obtain ⟨u0, u1, u2, u3, u4⟩ := HB4.out.below hb5 hs4; have HO5 := Lib.hid hown5; have HN5 := Lib.hid (lens5 hown5.len (HO4.out.len.trans HN4.out) HN3.out m3); clear hown5)
    | (go_at_call 133; (with_reducible refine (Oct.Put_any A3 n3 c3 (fl d).toNat 1 _ _ _ HO3.out.rd (Nat.le_refl _) (by have := HN3.out; omega)).mono ?_); rw [HFL.out]; rintro e w4 ⟨A4, n4, c4, rfl, hown4, hb4⟩; have hs4 := Nat.lt_of_lt_of_le hs3 hb4.size; have HB4 := Lib.hid (HB3.out.below hb4 hs3); obtain ⟨t0, t1, t2, t3, t4⟩ := HB4.out; have HN4 := Lib.hid (lens4 hown4.len HO3.out.len); have HO4 := Lib.hid hown4; clear hown4)
    | (go_at_call 122; (with_reducible refine (PutVar_any A2 n2 c2 _ _ _ _ HO2.out.rd (Nat.le_refl _) (by have := HN2.out; omega) (by omega) (by omega)).mono ?_); rintro e w3 ⟨A3, n3, c3, rfl, hown3, hb3⟩; have hs3 := Nat.lt_of_lt_of_le hs2 hb3.size; have HB3 := Lib.hid (HB2.out.below hb3 hs2); obtain ⟨r0, r1, r2, r3, r4⟩ := HB3.out; have HO3 := Lib.hid hown3; have HN3 := Lib.hid (lens3 hown3.len HO2.out.len HN2.out (show -1099511627776 ≤ s - t ∧ s - t ≤ 1099511627776 by omega)); clear hown3)
    | (go_at_call 122; (with_reducible refine (PutVar_any none 0 0 _ [] 0 _ Rd.nil (Nat.zero_le _) (by omega) (by omega) (by omega)).mono ?_); rintro e w2 ⟨A2, n2, c2, rfl, hown2, hb2⟩; have hs9 := Nat.lt_of_lt_of_le hsz hb9.size; have hs2 := Nat.lt_of_lt_of_le hs9 hb2.size; have HB2 := Lib.hid ((HBX.out.below hb9 hsz).below hb2 hs9); obtain ⟨q0, q1, q2, q3, q4⟩ := HB2.out; have HO2 := Lib.hid hown2; have HN2 := Lib.hid (lens2 hown2.len (show -1099511627776 ≤ o - b ∧ o - b ≤ 1099511627776 by omega)); clear hown2))
  go_ret2
  have hfin := HO6.out.more (Nat.le_of_lt hs5)
  rw [rb_list] at hfin
  have hle := Nat.le_of_lt hsz
  refine ⟨A6, n6, c6, rfl, hfin, ?_⟩
  exact (((((((Below.refl _ _).alloc (Nat.le_refl _) _).trans (hb9.mono hle)).trans (hb2.mono (Nat.le_of_lt hs9))).trans (hb3.mono (Nat.le_of_lt hs2))).trans (hb4.mono (Nat.le_of_lt hs3))).trans (hb5.mono (Nat.le_of_lt hs4))).trans (hb6.mono (Nat.le_of_lt hs5))

theorem Put_any (o s : Int) (k v : ByteArray) (d : Bool) (b t : Int) (w : World) (_ho : I64 o) (_hs : I64 s) (hk : k.size ≤ 1099511627776) (hv : v.size ≤ 1099511627776) (hb : I64 b) (ht : I64 t) :
    Calls Tryz.prog 124 #[.agg #[.int .i64 o, .string k, .string v, .bool d, .int .i64 s], .int .i64 b, .int .i64 t] w (OPr 5 w.heap.size w (pt ⟨o, k, v, d, s⟩ b t).1 (pt ⟨o, k, v, d, s⟩ b t).2) :=
  Put_any' o s k v d b t w hk hv hb.1 hb.2 ht.1 ht.2
theorem Check_any (o s : Int) (k v : ByteArray) (d : Bool) (w : World) (_ho : I64 o) (_hs : I64 s) (hk : k.size ≤ 1099511627776) (hv : v.size ≤ 1099511627776) :
    Calls Tryz.prog 139 #[.agg #[.int .i64 o, .string k, .string v, .bool d, .int .i64 s]] w fun e w' => e = .returned (.int .i64 (chk ⟨o, k, v, d, s⟩)) ∧ Below w.heap.size w w' := Check_at o s k v d w hk hv
end Go.Proofs.YtejcjmiofidedaaGreatDoor.Rec

/- The contracts of the landed rec's getFlag, of the closures in Get, and of field at three types. -/
namespace Go.Proofs.YtejcjmiofidedaaGreatDoor.Rec
open Go.RowKit Oct

def gf (l : List UInt8) (p : Int) : Bool × Int × Int :=
  if (gt l p 1).2 ≠ 0 then (false, 0, (gt l p 1).2) else if 1 < (gt l p 1).1 then (false, 0, 11) else ((gt l p 1).1 == 1, p + 1, 0)
def st {α : Type} (z : α) (g : α × Int × Int) (p e : Int) : α × Int × Int :=
  if e ≠ 0 then (z, p, e) else if g.2.2 ≠ 0 then (z, p, g.2.2) else (g.1, g.2.1, 0)
theorem st_e {α : Type} (z : α) (g : α × Int × Int) (p : Int) {e : Int} (h : e ≠ 0) : st z g p e = (z, p, e) := by unfold st; rw [if_pos h]
theorem st_b {α : Type} (z : α) {g : α × Int × Int} (p : Int) (h : g.2.2 ≠ 0) : st z g p 0 = (z, p, g.2.2) := by unfold st; rw [if_neg (by simp), if_pos h]
theorem st_g {α : Type} (z : α) {g : α × Int × Int} (p : Int) (h : g.2.2 = 0) : st z g p 0 = (g.1, g.2.1, 0) := by unfold st; rw [if_neg (by simp), if_neg (by simpa using h)]

theorem gt_in {l : List UInt8} {p : Int} (h : (gt l p 1).2 = 0) : 0 ≤ p ∧ p < l.length := by
  unfold gt at h
  by_cases h1 : isW 1 = false ∨ p < 0
  · rw [if_pos h1] at h; simp at h
  · rw [if_neg h1] at h
    by_cases h2 : hasB l.length p 1 = false
    · rw [if_pos h2] at h; simp at h
    · have h3 : hasB l.length p 1 = true := by simpa using h2
      simp [hasB] at h3
      have : ¬ p < 0 := fun hh => h1 (.inr hh)
      omega

set_option maxRecDepth 100000 in
theorem getFlag_any (A : Option Addr) (n c : Nat) (p : Int) (l : List UInt8) (B : Nat) (w : World) (hr : Rd w B A n l) (hc : n ≤ c) (hn : n ≤ 1099511627776) :
    Calls Tryz.prog 162 #[.slice A n c, .int .i64 p] w fun e w' => e = .returned (.tuple #[.bool (gf l p).1, .int .i64 (gf l p).2.1, .int .i64 (gf l p).2.2]) ∧ w = w' := by
  rcases hg : gt l p 1 with ⟨x, z⟩
  have hl := hr.len
  have HR := Lib.hid hr
  have HG := Lib.hid hg
  by_cases h1 : z = 0
  · subst h1
    have hin := gt_in (l := l) (p := p) (by rw [hg])
    by_cases h2 : 1 < x
    · have hz := Lib.hid (show gf l p = (false, 0, 11) by unfold gf; rw [hg, if_neg (by simp), if_pos h2])
      have h2' : (1 : Int) < (x : Int) := by omega
      rw [hz.out]
      clear hr hg hl h2
      go_enter Tryz.func162, Tryz.ntmps162
      go_wp2_with (go_at_call 125; refine (Get_is A n c p 1 l B _ HR.out hc hn HG.out).mono ?_; rintro e w8 ⟨rfl, rfl⟩)
      go_ret3
      exact ⟨rfl, rfl⟩
    · have hz := Lib.hid (show gf l p = (x == 1, p + 1, 0) by unfold gf; rw [hg, if_neg (by simp), if_neg h2])
      have h2' : ¬ (1 : Int) < (x : Int) := by omega
      have hp0 : 0 ≤ p := hin.1
      have hp1 : p ≤ 1099511627776 := by omega
      have hx : ((x : Int) == 1) = (x == 1) := by
        by_cases hh : x = 1
        · subst hh; rfl
        · rw [beq_false_of_ne hh]; exact beq_false_of_ne (by omega)
      rw [hz.out]
      obtain ⟨D, hD⟩ : ∃ D, (x == 1) = D := ⟨_, rfl⟩
      rw [hD] at hx ⊢
      clear hr hg hl h2 hD hin
      go_enter Tryz.func162, Tryz.ntmps162
      go_wp2_with (go_at_call 125; refine (Get_is A n c p 1 l B _ HR.out hc hn HG.out).mono ?_; rintro e w8 ⟨rfl, rfl⟩)
      go_ret3
      exact ⟨rfl, rfl⟩
  · have hz := Lib.hid (show gf l p = (false, 0, z) by unfold gf; rw [hg, if_pos h1])
    have h1' : (z != 0) = true := by simp [h1]
    have h1'' : (z == 0) = false := beqF h1
    rw [hz.out]
    clear hr hg hl h1
    go_enter Tryz.func162, Tryz.ntmps162
    go_wp2_with (go_at_call 125; refine (Get_is A n c p 1 l B _ HR.out hc hn HG.out).mono ?_; rintro e w8 ⟨rfl, rfl⟩)
    go_ret3
    exact ⟨rfl, rfl⟩

theorem number_is (A : Option Addr) (n c X : Nat) (p : Int) (l : List UInt8) (B : Nat) (w : World) (hX : w.cell? ⟨X, 0, none⟩ = some (.slice A n c)) (hr : Rd w B A n l) (hn : n ≤ 137438953472) (hp : p ≤ 9223372036854775807) {x y z : Int} (h : gv l p = (x, y, z)) :
    Calls Tryz.prog 160 #[.int .i64 p, .pointer (some ⟨X, 0, none⟩)] w fun e w' => e = .returned (.tuple #[.int .i64 x, .int .i64 y, .int .i64 z]) ∧ w = w' := by
  have HR := Lib.hid hr
  have HG := Lib.hid h
  clear hr h
  go_enter Tryz.func160, Tryz.ntmps160
  go_wp2_with (go_at_call 149; refine (GetVar_is A n c p l B _ HR.out (by omega) hp HG.out).mono ?_; rintro e w8 ⟨rfl, rfl⟩)
  go_ret3
  exact ⟨rfl, rfl⟩
theorem dead_is (A : Option Addr) (n c X : Nat) (p : Int) (l : List UInt8) (B : Nat) (w : World) (hX : w.cell? ⟨X, 0, none⟩ = some (.slice A n c)) (hr : Rd w B A n l) (hc : n ≤ c) (hn : n ≤ 137438953472) {x : Bool} {y z : Int} (h : gf l p = (x, y, z)) :
    Calls Tryz.prog 161 #[.int .i64 p, .pointer (some ⟨X, 0, none⟩)] w fun e w' => e = .returned (.tuple #[.bool x, .int .i64 y, .int .i64 z]) ∧ w = w' := by
  have HR := Lib.hid hr
  have HG := Lib.hid h
  clear hr h
  go_enter Tryz.func161, Tryz.ntmps161
  go_wp2_with (go_at_call 162; refine (getFlag_any A n c p l B _ HR.out hc (by omega)).mono ?_; rw [HG.out]; rintro e w8 ⟨rfl, rfl⟩)
  go_ret3
  exact ⟨rfl, rfl⟩
theorem text_is (A : Option Addr) (n c X : Nat) (p : Int) (l : List UInt8) (B : Nat) (w : World) (hX : w.cell? ⟨X, 0, none⟩ = some (.slice A n c)) (hr : Rd w B A n l) (hc : n ≤ c) (hn : n ≤ 137438953472) (hp : p ≤ 9223372036854775807) {x : ByteArray} {y z : Int} (h : gx l p 64 = (x, y, z)) :
    Calls Tryz.prog 163 #[.int .i64 p, .pointer (some ⟨X, 0, none⟩)] w fun e w' => e = .returned (.tuple #[.string x, .int .i64 y, .int .i64 z]) ∧ w = w' := by
  have HR := Lib.hid hr
  have HG := Lib.hid h
  clear hr h
  go_enter Tryz.func163, Tryz.ntmps163
  go_wp2_with (go_at_call 164; refine (GetText_is A n c p 64 l B _ HR.out hc (by omega) hp HG.out).mono ?_; rintro e w8 ⟨rfl, rfl⟩)
  go_ret3
  exact ⟨rfl, rfl⟩

set_option maxRecDepth 100000 in
theorem fieldInt_any (A : Option Addr) (n c X g : Nat) (p e : Int) (l : List UInt8) (B : Nat) (w : World) (hg : g = w.heap.size) (hX : w.cell? ⟨X, 0, none⟩ = some (.slice A n c)) (hXl : X < w.heap.size) (hr : Rd w B A n l) (hB : B ≤ w.heap.size) (_hc : n ≤ c) (hn : n ≤ 137438953472) (hp : p ≤ 9223372036854775807) :
    Calls Tryz.prog 165 #[.pointer (some ⟨g, 0, none⟩), .func (.func 160) #[] #[.pointer (some ⟨X, 0, none⟩)]] (w.alloc (.cells #[.int .i64 p, .int .i64 e] 162)) fun en w' => en = .returned (.int .i64 (st 0 (gv l p) p e).1) ∧ w.alloc (.cells #[.int .i64 (st 0 (gv l p) p e).2.1, .int .i64 (st 0 (gv l p) p e).2.2] 162) = w' := by
  subst hg
  have HR := Lib.hid (hr.alloc hB (.cells #[.int .i64 p, .int .i64 e] 162))
  have HX : (w.alloc (.cells #[.int .i64 p, .int .i64 e] 162)).cell? ⟨X, 0, none⟩ = some (.slice A n c) := (World.cell?_alloc_past _ _ _ hXl).trans hX
  by_cases h1 : e = 0
  · subst h1
    rcases hv : gv l p with ⟨x, y, z⟩
    have HV := Lib.hid hv
    by_cases h2 : z = 0
    · subst h2
      rw [st_g _ _ rfl]
      clear hv hr
      go_enter Tryz.func165, Tryz.ntmps165
      go_wp2_with (go_at_call 160; refine (number_is A n c X p l B _ HX HR.out hn hp HV.out).mono ?_; rintro e w8 ⟨rfl, rfl⟩)
      go_ret
      exact ⟨rfl, rfl⟩
    · have h2' : (z != 0) = true := by simp [h2]
      have h2'' : (z == 0) = false := beqF h2
      rw [st_b _ _ (by exact h2)]
      clear hv hr h2
      go_enter Tryz.func165, Tryz.ntmps165
      go_wp2_with (go_at_call 160; refine (number_is A n c X p l B _ HX HR.out hn hp HV.out).mono ?_; rintro e w8 ⟨rfl, rfl⟩)
      go_ret
      exact ⟨rfl, rfl⟩
  · have h1' : (e != 0) = true := by simp [h1]
    have h1'' : (e == 0) = false := beqF h1
    rw [st_e _ _ _ h1]
    clear hr h1
    go_enter Tryz.func165, Tryz.ntmps165
    go_wp2
    go_ret
    exact ⟨rfl, rfl⟩
set_option maxRecDepth 100000 in
theorem fieldBool_any (A : Option Addr) (n c X g : Nat) (p e : Int) (l : List UInt8) (B : Nat) (w : World) (hg : g = w.heap.size) (hX : w.cell? ⟨X, 0, none⟩ = some (.slice A n c)) (hXl : X < w.heap.size) (hr : Rd w B A n l) (hB : B ≤ w.heap.size) (hc : n ≤ c) (hn : n ≤ 137438953472) (_hp : p ≤ 9223372036854775807) :
    Calls Tryz.prog 166 #[.pointer (some ⟨g, 0, none⟩), .func (.func 161) #[] #[.pointer (some ⟨X, 0, none⟩)]] (w.alloc (.cells #[.int .i64 p, .int .i64 e] 162)) fun en w' => en = .returned (.bool (st false (gf l p) p e).1) ∧ w.alloc (.cells #[.int .i64 (st false (gf l p) p e).2.1, .int .i64 (st false (gf l p) p e).2.2] 162) = w' := by
  subst hg
  have HR := Lib.hid (hr.alloc hB (.cells #[.int .i64 p, .int .i64 e] 162))
  have HX : (w.alloc (.cells #[.int .i64 p, .int .i64 e] 162)).cell? ⟨X, 0, none⟩ = some (.slice A n c) := (World.cell?_alloc_past _ _ _ hXl).trans hX
  by_cases h1 : e = 0
  · subst h1
    rcases hv : gf l p with ⟨x, y, z⟩
    have HV := Lib.hid hv
    by_cases h2 : z = 0
    · subst h2
      rw [st_g _ _ rfl]
      clear hv hr
      go_enter Tryz.func166, Tryz.ntmps166
      go_wp2_with (go_at_call 161; refine (dead_is A n c X p l B _ HX HR.out hc hn HV.out).mono ?_; rintro e w8 ⟨rfl, rfl⟩)
      go_ret
      exact ⟨rfl, rfl⟩
    · have h2' : (z != 0) = true := by simp [h2]
      have h2'' : (z == 0) = false := beqF h2
      rw [st_b _ _ (by exact h2)]
      clear hv hr h2
      go_enter Tryz.func166, Tryz.ntmps166
      go_wp2_with (go_at_call 161; refine (dead_is A n c X p l B _ HX HR.out hc hn HV.out).mono ?_; rintro e w8 ⟨rfl, rfl⟩)
      go_ret
      exact ⟨rfl, rfl⟩
  · have h1' : (e != 0) = true := by simp [h1]
    have h1'' : (e == 0) = false := beqF h1
    rw [st_e _ _ _ h1]
    clear hr h1
    go_enter Tryz.func166, Tryz.ntmps166
    go_wp2
    go_ret
    exact ⟨rfl, rfl⟩
set_option maxRecDepth 100000 in
theorem fieldText_any (A : Option Addr) (n c X g : Nat) (p e : Int) (l : List UInt8) (B : Nat) (w : World) (hg : g = w.heap.size) (hX : w.cell? ⟨X, 0, none⟩ = some (.slice A n c)) (hXl : X < w.heap.size) (hr : Rd w B A n l) (hB : B ≤ w.heap.size) (hc : n ≤ c) (hn : n ≤ 137438953472) (hp : p ≤ 9223372036854775807) :
    Calls Tryz.prog 167 #[.pointer (some ⟨g, 0, none⟩), .func (.func 163) #[] #[.pointer (some ⟨X, 0, none⟩)]] (w.alloc (.cells #[.int .i64 p, .int .i64 e] 162)) fun en w' => en = .returned (.string (st ByteArray.empty (gx l p 64) p e).1) ∧ w.alloc (.cells #[.int .i64 (st ByteArray.empty (gx l p 64) p e).2.1, .int .i64 (st ByteArray.empty (gx l p 64) p e).2.2] 162) = w' := by
  subst hg
  have HR := Lib.hid (hr.alloc hB (.cells #[.int .i64 p, .int .i64 e] 162))
  have HX : (w.alloc (.cells #[.int .i64 p, .int .i64 e] 162)).cell? ⟨X, 0, none⟩ = some (.slice A n c) := (World.cell?_alloc_past _ _ _ hXl).trans hX
  by_cases h1 : e = 0
  · subst h1
    rcases hv : gx l p 64 with ⟨x, y, z⟩
    have HV := Lib.hid hv
    by_cases h2 : z = 0
    · subst h2
      rw [st_g _ _ rfl]
      clear hv hr
      go_enter Tryz.func167, Tryz.ntmps167
      go_wp2_with (go_at_call 163; refine (text_is A n c X p l B _ HX HR.out hc hn hp HV.out).mono ?_; rintro e w8 ⟨rfl, rfl⟩)
      go_ret
      exact ⟨rfl, rfl⟩
    · have h2' : (z != 0) = true := by simp [h2]
      have h2'' : (z == 0) = false := beqF h2
      rw [st_b _ _ (by exact h2)]
      clear hv hr h2
      go_enter Tryz.func167, Tryz.ntmps167
      go_wp2_with (go_at_call 163; refine (text_is A n c X p l B _ HX HR.out hc hn hp HV.out).mono ?_; rintro e w8 ⟨rfl, rfl⟩)
      go_ret
      exact ⟨rfl, rfl⟩
  · have h1' : (e != 0) = true := by simp [h1]
    have h1'' : (e == 0) = false := beqF h1
    rw [st_e _ _ _ h1]
    clear hr h1
    go_enter Tryz.func167, Tryz.ntmps167
    go_wp2
    go_ret
    exact ⟨rfl, rfl⟩
end Go.Proofs.YtejcjmiofidedaaGreatDoor.Rec

/- The contract of the document's own beside. -/
namespace Go.Proofs.YtejcjmiofidedaaGreatDoor.Rec
open Go.RowKit Oct

end Go.Proofs.YtejcjmiofidedaaGreatDoor.Rec

/- The contract of the document's own Get of layer 3. -/
namespace Go.Proofs.YtejcjmiofidedaaGreatDoor.Rec
open Go.RowKit Oct Crc

def RV (r : Rc) : Value := .agg #[.int .i64 r.off, .string r.key, .string r.val, .bool r.dead, .int .i64 r.stamp]
def RG (w : World) (x : Rc × Int × Int) (e : Ending) (w' : World) : Prop := e = .returned (.tuple #[RV x.1, .int .i64 x.2.1, .int .i64 x.2.2]) ∧ Below w.heap.size w w'
end Go.Proofs.YtejcjmiofidedaaGreatDoor.Rec
namespace Go.Proofs.YtejcjmiofidedaaGreatDoor.Oct
open Go.RowKit
theorem Rd.alloc2 {w : World} {A : Option Addr} {n B : Nat} {l : List UInt8} (h : Rd w B A n l) (hB : B ≤ w.heap.size) (o o' : Obj) : Rd ((w.alloc o).alloc o') B A n l :=
  (h.alloc hB o).alloc (Nat.le_trans hB (by simp)) o'
end Go.Proofs.YtejcjmiofidedaaGreatDoor.Oct
namespace Go.Proofs.YtejcjmiofidedaaGreatDoor.Rec
open Go.RowKit Oct Crc


end Go.Proofs.YtejcjmiofidedaaGreatDoor.Rec

/- The contract of the landed rec's Get. -/
namespace Go.Proofs.YtejcjmiofidedaaGreatDoor.Rec
open Go.RowKit Oct Crc

theorem st_back {α : Type} {z : α} {g : α × Int × Int} {p e : Int} {v : α} {y : Int} (h : st z g p e = (v, y, 0)) : e = 0 ∧ g = (v, y, 0) := by
  unfold st at h
  by_cases h1 : e = 0
  · refine ⟨h1, ?_⟩
    rw [if_neg (by simpa using h1)] at h
    by_cases h2 : g.2.2 = 0
    · rw [if_neg (by simpa using h2)] at h
      rw [← h, ← h2]
    · rw [if_pos h2] at h
      simp only [Prod.mk.injEq] at h
      exact absurd h.2.2 h2
  · rw [if_pos h1] at h
    simp only [Prod.mk.injEq] at h
    exact absurd h.2.2 h1
theorem st_stop {α : Type} {z : α} {g : α × Int × Int} {p e : Int} (he : e ≠ 0) {v : α} {y x : Int} (h : st z g p e = (v, y, x)) : x = e := by
  rw [st_e _ _ _ he] at h
  simp only [Prod.mk.injEq] at h
  exact h.2.2.symm
theorem st_here {α : Type} {z : α} {g : α × Int × Int} {p : Int} {v : α} {y x : Int} (hx : x ≠ 0) (h : st z g p 0 = (v, y, x)) : g.2.2 = x := by
  unfold st at h
  rw [if_neg (by simp)] at h
  by_cases h2 : g.2.2 = 0
  · rw [if_neg (by simpa using h2)] at h
    simp only [Prod.mk.injEq] at h
    exact absurd h.2.2.symm hx
  · rw [if_pos h2] at h
    simp only [Prod.mk.injEq] at h
    exact h.2.2
theorem st_pos {α : Type} {z : α} {g : α × Int × Int} {p e : Int} {v : α} {y x N : Int} (hp : 0 ≤ p ∧ p ≤ N) (hg : g.2.2 = 0 → 0 ≤ g.2.1 ∧ g.2.1 ≤ N) (h : st z g p e = (v, y, x)) : 0 ≤ y ∧ y ≤ N := by
  by_cases h1 : e = 0
  · subst h1
    by_cases h2 : g.2.2 = 0
    · rw [st_g _ _ h2] at h
      simp only [Prod.mk.injEq] at h
      have := hg h2
      rw [← h.2.1]; exact this
    · rw [st_b _ _ h2] at h
      simp only [Prod.mk.injEq] at h
      rw [← h.2.1]; exact hp
  · rw [st_e _ _ _ h1] at h
    simp only [Prod.mk.injEq] at h
    rw [← h.2.1]; exact hp
theorem gv_p {l : List UInt8} {p : Int} (h : (gv l p).2.2 = 0) : 0 ≤ (gv l p).2.1 ∧ (gv l p).2.1 ≤ (l.length : Int) := by
  rcases g : gv l p with ⟨x, y, z⟩
  rw [g] at h
  simp only at h
  subst h
  have := gv_good g
  simp only
  omega
theorem gx_p {l : List UInt8} {p : Int} (h : (gx l p 64).2.2 = 0) : 0 ≤ (gx l p 64).2.1 ∧ (gx l p 64).2.1 ≤ (l.length : Int) := by
  rcases g : gx l p 64 with ⟨x, y, z⟩
  rw [g] at h
  simp only at h
  subst h
  have := gx_good g
  simp only
  omega
theorem gf_p {l : List UInt8} {p : Int} (h : (gf l p).2.2 = 0) : 0 ≤ (gf l p).2.1 ∧ (gf l p).2.1 ≤ (l.length : Int) := by
  unfold gf at h ⊢
  by_cases h1 : (gt l p 1).2 = 0
  · have := gt_in h1
    rw [if_neg (by simpa using h1)] at h ⊢
    by_cases h2 : 1 < (gt l p 1).1
    · rw [if_pos h2] at h; simp at h
    · rw [if_neg h2]; simp only; omega
  · rw [if_pos h1] at h; exact absurd h h1
theorem gf_none {l : List UInt8} {p : Int} (hp : 0 ≤ p) (h : l[p.toNat]? = none) : gf l p = (false, 0, 10) := by
  have h1 : l.length ≤ p.toNat := by simpa using h
  have : gt l p 1 = (0, 10) := by
    unfold gt
    rw [if_neg (by simp [isW]; omega), if_pos (by simp [hasB]; omega)]
  unfold gf
  rw [this]
  rfl
theorem gf_some {l : List UInt8} {p : Int} {c : UInt8} (hp : 0 ≤ p) (h : l[p.toNat]? = some c) : gf l p = if 1 < c.toNat then (false, 0, 11) else (c == 1, p + 1, 0) := by
  have h1 : p.toNat < l.length := (List.getElem?_eq_some_iff.1 h).1
  have : gt l p 1 = (c.toNat, 0) := by
    unfold gt
    rw [if_neg (by simp [isW]; omega), if_neg (by simp [hasB]; omega), drop_at h]
    show (getN [c], 0) = _
    rw [getN_cons, getN_nil]; simp
  unfold gf
  rw [this]
  have hc : (c.toNat == 1) = (c == 1) := by
    by_cases hh : c = 1
    · subst hh; rfl
    · rw [beq_false_of_ne hh]; exact beq_false_of_ne fun h9 => hh (UInt8.toNat.inj h9)
  simp only [hc]
  rw [if_neg (by simp)]

theorem gr_st {l : List UInt8} {p b t : Int} (hb : inR b = true) (ht : inR t = true) (hp : 0 ≤ p ∧ p ≤ l.length) {d s i j q m y x1 x2 x3 x4 x5 : Int} {D : Bool} {k v : ByteArray}
    (h1 : st 0 (gv l p) p 0 = (d, i, x1)) (h2 : st 0 (gv l i) i x1 = (s, j, x2)) (h3 : st false (gf l j) j x2 = (D, q, x3)) (h4 : st ByteArray.empty (gx l q 64) q x3 = (k, m, x4)) (h5 : st ByteArray.empty (gx l m 64) m x4 = (v, y, x5)) :
    (x5 ≠ 0 → gr l p b t = (nil, 0, x5)) ∧ (x5 = 0 → gr l p b t = (if may ⟨bes b d, k, v, D, bes t s⟩ then (⟨bes b d, k, v, D, bes t s⟩, y, 0) else (nil, 0, 1)) ∧ k.size ≤ 64 ∧ v.size ≤ 64 ∧ (-9223372036854775808 ≤ d ∧ d ≤ 9223372036854775807) ∧ (-9223372036854775808 ≤ s ∧ s ≤ 9223372036854775807)) := by
  have hi := st_pos hp gv_p h1
  have hj := st_pos hi gv_p h2
  have hg := gr_on hb ht hp
  by_cases c1 : x1 = 0
  case neg =>
    have e2 := st_stop c1 h2
    have e3 := st_stop (by rw [e2]; exact c1) h3
    have e4 := st_stop (by rw [e3, e2]; exact c1) h4
    have e5 := st_stop (by rw [e4, e3, e2]; exact c1) h5
    have e : x5 = x1 := by rw [e5, e4, e3, e2]
    refine ⟨fun _ => ?_, fun hz => absurd (e.symm.trans hz) c1⟩
    have g := st_here c1 h1
    rw [hg, if_pos (by rw [g]; exact c1), g, e]
  subst c1
  obtain ⟨-, g1⟩ := st_back h1
  by_cases c2 : x2 = 0
  case neg =>
    have e3 := st_stop c2 h3
    have e4 := st_stop (by rw [e3]; exact c2) h4
    have e5 := st_stop (by rw [e4, e3]; exact c2) h5
    have e : x5 = x2 := by rw [e5, e4, e3]
    refine ⟨fun _ => ?_, fun hz => absurd (e.symm.trans hz) c2⟩
    have g := st_here c2 h2
    rw [hg]
    simp only [g1]
    rw [if_neg (by simp), if_pos (by rw [g]; exact c2), g, e]
  subst c2
  obtain ⟨-, g2⟩ := st_back h2
  by_cases c3 : x3 = 0
  case neg =>
    have e4 := st_stop c3 h4
    have e5 := st_stop (by rw [e4]; exact c3) h5
    have e : x5 = x3 := by rw [e5, e4]
    refine ⟨fun _ => ?_, fun hz => absurd (e.symm.trans hz) c3⟩
    have g := st_here c3 h3
    rw [hg]
    simp only [g1, g2]
    rw [if_neg (by simp), if_neg (by simp)]
    cases hc : l[j.toNat]? with
    | none => rw [gf_none hj.1 hc] at g; simp only at g ⊢; rw [e, ← g]
    | some c =>
      rw [gf_some hj.1 hc] at g
      simp only
      by_cases hlt : 1 < c.toNat
      · rw [if_pos hlt] at g ⊢; simp only at g; rw [e, ← g]
      · rw [if_neg hlt] at g; exact absurd g.symm c3
  subst c3
  obtain ⟨-, g3⟩ := st_back h3
  have hq := st_pos hj gf_p h3
  obtain ⟨c, hc, hlt, rfl, rfl⟩ : ∃ c, l[j.toNat]? = some c ∧ ¬ 1 < c.toNat ∧ D = (c == 1) ∧ q = j + 1 := by
    cases hc : l[j.toNat]? with
    | none => rw [gf_none hj.1 hc] at g3; simp at g3
    | some c =>
      rw [gf_some hj.1 hc] at g3
      by_cases hlt : 1 < c.toNat
      · rw [if_pos hlt] at g3; simp at g3
      · rw [if_neg hlt] at g3
        simp only [Prod.mk.injEq] at g3
        exact ⟨c, rfl, hlt, g3.1.symm, g3.2.1.symm⟩
  by_cases c4 : x4 = 0
  case neg =>
    have e : x5 = x4 := st_stop c4 h5
    refine ⟨fun _ => ?_, fun hz => absurd (e.symm.trans hz) c4⟩
    have g := st_here c4 h4
    rw [hg]
    simp only [g1, g2, hc]
    rw [if_neg (by simp), if_neg (by simp), if_neg hlt, if_pos (by rw [g]; exact c4), g, e]
  subst c4
  obtain ⟨-, g4⟩ := st_back h4
  by_cases c5 : x5 = 0
  case neg =>
    refine ⟨fun _ => ?_, fun hz => absurd hz c5⟩
    have g := st_here c5 h5
    rw [hg]
    simp only [g1, g2, hc, g4]
    rw [if_neg (by simp), if_neg (by simp), if_neg hlt, if_neg (by simp), if_pos (by rw [g]; exact c5), g]
  subst c5
  obtain ⟨-, g5⟩ := st_back h5
  refine ⟨fun hz => absurd rfl hz, fun _ => ⟨gr_fields hb ht hp g1 g2 hc hlt g4 g5, ?_⟩⟩
  have a1 := gv_good g1
  have a2 := gv_good g2
  have a4 := gx_good g4
  have a5 := gx_good g5
  omega

theorem bes_wrap {b d : Int} (hb : inR b = true) (hd : -9223372036854775808 ≤ d ∧ d ≤ 9223372036854775807) : IntKind.i64.wrap (b + d) = bes b d ∨ (inR (IntKind.i64.wrap (b + d)) = false ∧ inR (bes b d) = false) := by
  have h := inR_iff.1 hb
  unfold bes
  by_cases h1 : d < -1099511627776 ∨ 1099511627776 < d ∨ inR (b + d) = false
  · rw [if_pos h1]
    refine .inr ⟨?_, by decide⟩
    have h2 : ¬ (0 ≤ b + d ∧ b + d ≤ 1099511627776) := by
      rcases h1 with h1 | h1 | h1
      · omega
      · omega
      · intro hh; rw [inR_iff.2 hh] at h1; cases h1
    rw [IntKind.wrap_i64]
    unfold inR
    rw [decide_eq_false_iff_not]
    omega
  · rw [if_neg h1]
    exact .inl (IntWalk.i64_in _ (by omega))
theorem nmay1 {r : Rc} (h : inR r.off = false) : ¬ may r = true := fun hh => by
  have := inR_iff.2 (may_iff.1 hh).1
  rw [h] at this; cases this
theorem nmay2 {r : Rc} (h : inR r.stamp = false) : ¬ may r = true := fun hh => by
  have := inR_iff.2 (may_iff.1 hh).2.1
  rw [h] at this; cases this
theorem may_wrap {b t d s : Int} {k v : ByteArray} {D : Bool} (hb : inR b = true) (ht : inR t = true) (hd : -9223372036854775808 ≤ d ∧ d ≤ 9223372036854775807) (hs : -9223372036854775808 ≤ s ∧ s ≤ 9223372036854775807) :
    (if may ⟨bes b d, k, v, D, bes t s⟩ then ((⟨bes b d, k, v, D, bes t s⟩ : Rc), (0 : Int)) else (nil, 1)) = if may ⟨IntKind.i64.wrap (b + d), k, v, D, IntKind.i64.wrap (t + s)⟩ then (⟨IntKind.i64.wrap (b + d), k, v, D, IntKind.i64.wrap (t + s)⟩, 0) else (nil, 1) := by
  rcases bes_wrap hb hd with h1 | ⟨h1, h2⟩
  · rcases bes_wrap ht hs with h3 | ⟨h3, h4⟩
    · rw [h1, h3]
    · rw [if_neg (nmay2 h4), if_neg (nmay2 h3)]
  · rw [if_neg (nmay1 h2), if_neg (nmay1 h1)]
end Go.Proofs.YtejcjmiofidedaaGreatDoor.Rec

/- The contract of the landed rec's Get: the walk. -/
namespace Go.Proofs.YtejcjmiofidedaaGreatDoor.Rec
open Go.RowKit Oct Crc

set_option maxRecDepth 100000 in
set_option maxHeartbeats 4000000 in
theorem Get_any (A : Option Addr) (n c : Nat) (l : List UInt8) (B : Nat) (p b t : Int) (w : World) (hr : Rd w B A n l) (hB : B ≤ w.heap.size) (hc : n ≤ c) (hn : n ≤ 137438953472) (hp : I64 p) (_hb : I64 b) (_ht : I64 t) :
    Calls Tryz.prog 151 #[.slice A n c, .int .i64 p, .int .i64 b, .int .i64 t] w (RG w (gr l p b t)) := by
  have hl := hr.len
  obtain ⟨hp0, hp1⟩ := hp
  clear _hb _ht
  rcases h1 : inR b with _ | _
  · have hz := Lib.hid (show gr l p b t = (nil, 0, 1) by unfold gr; rw [h1]; rfl)
    rw [hz.out]
    go_enter Tryz.func151, Tryz.ntmps151
    go_wp2_with (go_at_call 142; refine (inRange_any _ _ (by first | exact h1 | exact h2)).mono ?_; rintro e w8 ⟨rfl, rfl⟩)
    exact bodyPost_ret (v := .tuple #[RV nil, .int .i64 0, .int .i64 1]) (by simp [results, Tryz.results151, go_sem]; rfl) rfl ⟨rfl, ((Below.refl _ _).alloc (Nat.le_refl _) _).alloc (by simp) _⟩
  rcases h2 : inR t with _ | _
  · have hz := Lib.hid (show gr l p b t = (nil, 0, 1) by unfold gr; rw [h1, h2]; rfl)
    rw [hz.out]
    go_enter Tryz.func151, Tryz.ntmps151
    go_wp2_with (go_at_call 142; refine (inRange_any _ _ (by first | exact h1 | exact h2)).mono ?_; rintro e w8 ⟨rfl, rfl⟩)
    exact bodyPost_ret (v := .tuple #[RV nil, .int .i64 0, .int .i64 1]) (by simp [results, Tryz.results151, go_sem]; rfl) rfl ⟨rfl, ((Below.refl _ _).alloc (Nat.le_refl _) _).alloc (by simp) _⟩
  by_cases h3 : p < 0
  · have hz := Lib.hid (show gr l p b t = (nil, 0, 1) by unfold gr; rw [if_neg]; simp; omega)
    rw [hz.out]
    go_enter Tryz.func151, Tryz.ntmps151
    go_wp2_with (go_at_call 142; refine (inRange_any _ _ (by first | exact h1 | exact h2)).mono ?_; rintro e w8 ⟨rfl, rfl⟩)
    exact bodyPost_ret (v := .tuple #[RV nil, .int .i64 0, .int .i64 1]) (by simp [results, Tryz.results151, go_sem]; rfl) rfl ⟨rfl, ((Below.refl _ _).alloc (Nat.le_refl _) _).alloc (by simp) _⟩
  by_cases h4 : (n : Int) < p
  · have hz := Lib.hid (show gr l p b t = (nil, 0, 1) by unfold gr; rw [if_neg]; simp; omega)
    rw [hz.out]
    go_enter Tryz.func151, Tryz.ntmps151
    go_wp2_with (go_at_call 142; refine (inRange_any _ _ (by first | exact h1 | exact h2)).mono ?_; rintro e w8 ⟨rfl, rfl⟩)
    exact bodyPost_ret (v := .tuple #[RV nil, .int .i64 0, .int .i64 1]) (by simp [results, Tryz.results151, go_sem]; rfl) rfl ⟨rfl, ((Below.refl _ _).alloc (Nat.le_refl _) _).alloc (by simp) _⟩
  have hpin : 0 ≤ p ∧ p ≤ (l.length : Int) := by omega
  rcases g1 : st 0 (gv l p) p 0 with ⟨d, i, x1⟩
  rcases g2 : st 0 (gv l i) i x1 with ⟨s, j, x2⟩
  rcases g3 : st false (gf l j) j x2 with ⟨D, q, x3⟩
  rcases g4 : st ByteArray.empty (gx l q 64) q x3 with ⟨k, m, x4⟩
  rcases g5 : st ByteArray.empty (gx l m 64) m x4 with ⟨v, y, x5⟩
  have bi := st_pos hpin gv_p g1
  have bj := st_pos bi gv_p g2
  have bq := st_pos bj gf_p g3
  have bm := st_pos bq gx_p g4
  obtain ⟨hbad, hgood⟩ := gr_st h1 h2 hpin g1 g2 g3 g4 g5
  have i9 : i ≤ 9223372036854775807 := by omega
  have j9 : j ≤ 9223372036854775807 := by omega
  have q9 : q ≤ 9223372036854775807 := by omega
  have m9 : m ≤ 9223372036854775807 := by omega
  have HR := Lib.hid (fun o o' : Obj => hr.alloc2 hB o o')
  have G1 := Lib.hid g1
  have G2 := Lib.hid g2
  have G3 := Lib.hid g3
  have G4 := Lib.hid g4
  have G5 := Lib.hid g5
  have hBs : B ≤ w.heap.size + 1 + 1 := by omega
  clear g1 g2 g3 g4 g5 hr hpin bi bj bq bm hl
  by_cases h5 : x5 = 0
  case neg =>
    have hz := Lib.hid (hbad h5)
    have h5' : (x5 == 0) = false := beqF h5
    have h5'' : (x5 != 0) = true := by simp [h5]
    clear hbad hgood h5
    rw [hz.out]
    go_enter Tryz.func151, Tryz.ntmps151
    go_wp2_with (first
      | (go_at_call 142; refine (inRange_any _ _ (by first | exact h1 | exact h2)).mono ?_; rintro e w8 ⟨rfl, rfl⟩)
      | (go_at_call 165; (with_reducible refine (fieldInt_any A n c w.heap.size _ p 0 l B _ (by simp) (by simp [go_sem]) (by simp; omega) (HR.out _ _) (by simpa using hBs) hc hn hp1).mono ?_); rw [G1.out]; rintro e w8 ⟨rfl, rfl⟩)
      | (go_at_call 165; (with_reducible refine (fieldInt_any A n c w.heap.size _ i x1 l B _ (by simp) (by simp [go_sem]) (by simp; omega) (HR.out _ _) (by simpa using hBs) hc hn i9).mono ?_); rw [G2.out]; rintro e w8 ⟨rfl, rfl⟩)
      | (go_at_call 166; (with_reducible refine (fieldBool_any A n c w.heap.size _ j x2 l B _ (by simp) (by simp [go_sem]) (by simp; omega) (HR.out _ _) (by simpa using hBs) hc hn j9).mono ?_); rw [G3.out]; rintro e w8 ⟨rfl, rfl⟩)
      | (go_at_call 167; (with_reducible refine (fieldText_any A n c w.heap.size _ q x3 l B _ (by simp) (by simp [go_sem]) (by simp; omega) (HR.out _ _) (by simpa using hBs) hc hn q9).mono ?_); rw [G4.out]; rintro e w8 ⟨rfl, rfl⟩)
      | (go_at_call 167; (with_reducible refine (fieldText_any A n c w.heap.size _ m x4 l B _ (by simp) (by simp [go_sem]) (by simp; omega) (HR.out _ _) (by simpa using hBs) hc hn m9).mono ?_); rw [G5.out]; rintro e w8 ⟨rfl, rfl⟩))
    go_region
    all_goals go_wp2
    all_goals exact bodyPost_ret (v := .tuple #[RV nil, .int .i64 0, .int .i64 x5]) (by simp [results, Tryz.results151, go_sem]; rfl) rfl ⟨rfl, ((((Below.refl _ _).alloc (Nat.le_refl _) _).alloc (by simp) _).alloc (by simp; omega) _).drew⟩
  subst h5
  obtain ⟨hz0, hk, hv, hd, hs⟩ := hgood rfl
  have hmw := may_wrap (k := k) (v := v) (D := D) h1 h2 hd hs
  have hk64 : k.size ≤ 1099511627776 := by omega
  have hv64 : v.size ≤ 1099511627776 := by omega
  obtain ⟨X, hX⟩ : ∃ X, IntKind.i64.wrap (b + d) = X := ⟨_, rfl⟩
  obtain ⟨Y, hY⟩ : ∃ Y, IntKind.i64.wrap (t + s) = Y := ⟨_, rfl⟩
  rw [hX, hY] at hmw
  have hX' : wrap64 (b + d) = X := (IntWalk.i64_left _).symm.trans hX
  have hY' : wrap64 (t + s) = Y := (IntWalk.i64_left _).symm.trans hY
  clear hX hY hbad hgood hk hv hd hs
  rcases hm : may ⟨X, k, v, D, Y⟩ with _ | _
  · have hz := Lib.hid (show gr l p b t = (nil, 0, 1) by
      rw [hz0]
      rw [hm] at hmw
      rcases hq : may ⟨bes b d, k, v, D, bes t s⟩ with _ | _
      · rfl
      · rw [hq] at hmw; have h9 := congrArg Prod.snd hmw; exact absurd h9 (by simp))
    have hm0 := chk_f hm
    clear hz0 hmw hm
    rw [hz.out]
    go_enter Tryz.func151, Tryz.ntmps151
    go_wp2_with (first
      | (go_at_call 142; refine (inRange_any _ _ (by first | exact h1 | exact h2)).mono ?_; rintro e w8 ⟨rfl, rfl⟩)
      | (go_at_call 165; (with_reducible refine (fieldInt_any A n c w.heap.size _ p 0 l B _ (by simp) (by simp [go_sem]) (by simp; omega) (HR.out _ _) (by simpa using hBs) hc hn hp1).mono ?_); rw [G1.out]; rintro e w8 ⟨rfl, rfl⟩)
      | (go_at_call 165; (with_reducible refine (fieldInt_any A n c w.heap.size _ i x1 l B _ (by simp) (by simp [go_sem]) (by simp; omega) (HR.out _ _) (by simpa using hBs) hc hn i9).mono ?_); rw [G2.out]; rintro e w8 ⟨rfl, rfl⟩)
      | (go_at_call 166; (with_reducible refine (fieldBool_any A n c w.heap.size _ j x2 l B _ (by simp) (by simp [go_sem]) (by simp; omega) (HR.out _ _) (by simpa using hBs) hc hn j9).mono ?_); rw [G3.out]; rintro e w8 ⟨rfl, rfl⟩)
      | (go_at_call 167; (with_reducible refine (fieldText_any A n c w.heap.size _ q x3 l B _ (by simp) (by simp [go_sem]) (by simp; omega) (HR.out _ _) (by simpa using hBs) hc hn q9).mono ?_); rw [G4.out]; rintro e w8 ⟨rfl, rfl⟩)
      | (go_at_call 167; (with_reducible refine (fieldText_any A n c w.heap.size _ m x4 l B _ (by simp) (by simp [go_sem]) (by simp; omega) (HR.out _ _) (by simpa using hBs) hc hn m9).mono ?_); rw [G5.out]; rintro e w8 ⟨rfl, rfl⟩)
      | (go_at_call 139; (with_reducible refine (Check_we X Y k v D _ hk64 hv64).mono ?_); rw [hm0]; rintro e w8 ⟨rfl, rfl⟩))
    go_region
    all_goals go_wp2
    all_goals exact bodyPost_ret (v := .tuple #[RV nil, .int .i64 0, .int .i64 1]) (by simp [results, Tryz.results151, go_sem]; rfl) rfl ⟨rfl, (((((Below.refl _ _).alloc (Nat.le_refl _) _).alloc (by simp) _).alloc (by simp; omega) _).alloc (by simp; omega) _).drew⟩
  · have hz := Lib.hid (show gr l p b t = (⟨X, k, v, D, Y⟩, y, 0) by
      rw [hz0]
      rw [hm] at hmw
      rcases hq : may ⟨bes b d, k, v, D, bes t s⟩ with _ | _
      · rw [hq] at hmw; have h9 := congrArg Prod.snd hmw; exact absurd h9 (by simp)
      · rw [hq] at hmw; have h9 : (⟨bes b d, k, v, D, bes t s⟩ : Rc) = ⟨X, k, v, D, Y⟩ := congrArg Prod.fst hmw; rw [h9]; rfl)
    have hm0 := chk_t hm
    clear hz0 hmw hm
    rw [hz.out]
    go_enter Tryz.func151, Tryz.ntmps151
    go_wp2_with (first
      | (go_at_call 142; refine (inRange_any _ _ (by first | exact h1 | exact h2)).mono ?_; rintro e w8 ⟨rfl, rfl⟩)
      | (go_at_call 165; (with_reducible refine (fieldInt_any A n c w.heap.size _ p 0 l B _ (by simp) (by simp [go_sem]) (by simp; omega) (HR.out _ _) (by simpa using hBs) hc hn hp1).mono ?_); rw [G1.out]; rintro e w8 ⟨rfl, rfl⟩)
      | (go_at_call 165; (with_reducible refine (fieldInt_any A n c w.heap.size _ i x1 l B _ (by simp) (by simp [go_sem]) (by simp; omega) (HR.out _ _) (by simpa using hBs) hc hn i9).mono ?_); rw [G2.out]; rintro e w8 ⟨rfl, rfl⟩)
      | (go_at_call 166; (with_reducible refine (fieldBool_any A n c w.heap.size _ j x2 l B _ (by simp) (by simp [go_sem]) (by simp; omega) (HR.out _ _) (by simpa using hBs) hc hn j9).mono ?_); rw [G3.out]; rintro e w8 ⟨rfl, rfl⟩)
      | (go_at_call 167; (with_reducible refine (fieldText_any A n c w.heap.size _ q x3 l B _ (by simp) (by simp [go_sem]) (by simp; omega) (HR.out _ _) (by simpa using hBs) hc hn q9).mono ?_); rw [G4.out]; rintro e w8 ⟨rfl, rfl⟩)
      | (go_at_call 167; (with_reducible refine (fieldText_any A n c w.heap.size _ m x4 l B _ (by simp) (by simp [go_sem]) (by simp; omega) (HR.out _ _) (by simpa using hBs) hc hn m9).mono ?_); rw [G5.out]; rintro e w8 ⟨rfl, rfl⟩)
      | (go_at_call 139; (with_reducible refine (Check_we X Y k v D _ hk64 hv64).mono ?_); rw [hm0]; rintro e w8 ⟨rfl, rfl⟩))
    go_region
    all_goals go_wp2
    all_goals exact bodyPost_ret (v := .tuple #[RV ⟨X, k, v, D, Y⟩, .int .i64 y, .int .i64 0]) (by simp [results, Tryz.results151, go_sem]; rfl) rfl ⟨rfl, (((((Below.refl _ _).alloc (Nat.le_refl _) _).alloc (by simp) _).alloc (by simp; omega) _).alloc (by simp; omega) _).drew⟩
end Go.Proofs.YtejcjmiofidedaaGreatDoor.Rec
