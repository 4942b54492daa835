/- The plain mathematics of layer 3: a record, its bytes, what bytes tell. Nothing of the program. -/
import Derived.Test.YtfjdalekpmlnaaaOctSpec
namespace Go.Proofs.Ytfjdalekpmlnaaa.Rec
open Go.Proofs.Ytfjdalekpmlnaaa.Oct

structure Rc where
  off : Int
  key : ByteArray
  val : ByteArray
  dead : Bool
  stamp : Int

def inR (n : Int) : Bool := decide (0 ≤ n ∧ n ≤ 1099511627776)
theorem inR_iff {n : Int} : inR n = true ↔ 0 ≤ n ∧ n ≤ 1099511627776 := by simp [inR]
def may (r : Rc) : Bool := decide ((0 ≤ r.off ∧ r.off ≤ 1099511627776) ∧ (0 ≤ r.stamp ∧ r.stamp ≤ 1099511627776) ∧ r.key.size ≤ 64 ∧ r.val.size ≤ 64 ∧ (r.dead = true → r.key.size ≠ 0 ∧ r.val.size = 0))
theorem may_iff {r : Rc} : may r = true ↔ (0 ≤ r.off ∧ r.off ≤ 1099511627776) ∧ (0 ≤ r.stamp ∧ r.stamp ≤ 1099511627776) ∧ r.key.size ≤ 64 ∧ r.val.size ≤ 64 ∧ (r.dead = true → r.key.size ≠ 0 ∧ r.val.size = 0) := by unfold may; exact decide_eq_true_iff
def nil : Rc := ⟨0, ByteArray.empty, ByteArray.empty, false, 0⟩
def tx (s : ByteArray) : List UInt8 := vb (zz s.size) ++ s.data.toList
def fl (d : Bool) : UInt8 := if d then 1 else 0
def rb (r : Rc) (base stamp : Int) : List UInt8 := vb (zz (r.off - base)) ++ vb (zz (r.stamp - stamp)) ++ [fl r.dead] ++ tx r.key ++ tx r.val
/-- what Put tells -/
def pt (r : Rc) (base stamp : Int) : List UInt8 × Int := if may r && inR base && inR stamp then (rb r base stamp, 0) else ([], 1)
def bes (n d : Int) : Int := if d < -1099511627776 ∨ 1099511627776 < d ∨ inR (n + d) = false then -1 else n + d
/-- what Get tells -/
def gr (l : List UInt8) (p base stamp : Int) : Rc × Int × Int :=
  if inR base && inR stamp && decide (0 ≤ p ∧ p ≤ l.length) then
    if (gv l p).2.2 ≠ 0 then (nil, 0, (gv l p).2.2)
    else if (gv l (gv l p).2.1).2.2 ≠ 0 then (nil, 0, (gv l (gv l p).2.1).2.2)
    else match l[(gv l (gv l p).2.1).2.1.toNat]? with
      | none => (nil, 0, 10)
      | some c =>
        if 1 < c.toNat then (nil, 0, 11)
        else if (gx l ((gv l (gv l p).2.1).2.1 + 1) 64).2.2 ≠ 0 then (nil, 0, (gx l ((gv l (gv l p).2.1).2.1 + 1) 64).2.2)
        else if (gx l (gx l ((gv l (gv l p).2.1).2.1 + 1) 64).2.1 64).2.2 ≠ 0 then (nil, 0, (gx l (gx l ((gv l (gv l p).2.1).2.1 + 1) 64).2.1 64).2.2)
        else if may ⟨bes base (gv l p).1, (gx l ((gv l (gv l p).2.1).2.1 + 1) 64).1, (gx l (gx l ((gv l (gv l p).2.1).2.1 + 1) 64).2.1 64).1, c == 1, bes stamp (gv l (gv l p).2.1).1⟩ then
          (⟨bes base (gv l p).1, (gx l ((gv l (gv l p).2.1).2.1 + 1) 64).1, (gx l (gx l ((gv l (gv l p).2.1).2.1 + 1) 64).2.1 64).1, c == 1, bes stamp (gv l (gv l p).2.1).1⟩, (gx l (gx l ((gv l (gv l p).2.1).2.1 + 1) 64).2.1 64).2.1, 0)
        else (nil, 0, 1)
  else (nil, 0, 1)

theorem size_list (s : ByteArray) : s.data.toList.length = s.size := by rw [Array.length_toList]; rfl
theorem tx_length (s : ByteArray) : (tx s).length = (vb (zz s.size)).length + s.size := by rw [tx, List.length_append, size_list]

/-- the fields one by one, named -/
theorem gr_fields {l : List UInt8} {p base stamp : Int} (hb : inR base = true) (hs : inR stamp = true) (hp : 0 ≤ p ∧ p ≤ l.length) {d i s j : Int} {c : UInt8} {k v : ByteArray} {m n : Int}
    (h1 : gv l p = (d, i, 0)) (h2 : gv l i = (s, j, 0)) (h3 : l[j.toNat]? = some c) (h4 : ¬ 1 < c.toNat) (h5 : gx l (j + 1) 64 = (k, m, 0)) (h6 : gx l m 64 = (v, n, 0)) :
    gr l p base stamp = if may ⟨bes base d, k, v, c == 1, bes stamp s⟩ then (⟨bes base d, k, v, c == 1, bes stamp s⟩, n, 0) else (nil, 0, 1) := by
  unfold gr
  rw [hb, hs]
  simp only [h1, h2, h3, h5, h6, Bool.true_and]
  rw [if_pos (by simpa using hp), if_neg (by simp), if_neg (by simp), if_neg h4, if_neg (by simp), if_neg (by simp)]

theorem bes_diff {n b : Int} (hn : 0 ≤ n ∧ n ≤ 1099511627776) (hb : 0 ≤ b ∧ b ≤ 1099511627776) : bes b (n - b) = n := by
  unfold bes
  have e : b + (n - b) = n := by omega
  rw [e, if_neg]
  simp [inR]
  omega
theorem fl_one (d : Bool) : (fl d == 1) = d := by cases d <;> rfl
theorem fl_small (d : Bool) : ¬ 1 < (fl d).toNat := by cases d <;> decide

theorem gr_rb {r : Rc} {base stamp : Int} (hm : may r = true) (hb : inR base = true) (hs : inR stamp = true) (h t : List UInt8) :
    gr (h ++ rb r base stamp ++ t) (h.length : Int) base stamp = (r, (h.length : Int) + ((rb r base stamp).length : Int), 0) := by
  obtain ⟨m1, m2, m3, m4, m5⟩ := may_iff.1 hm
  have b1 := inR_iff.1 hb
  have b2 := inR_iff.1 hs
  have e1 : h ++ rb r base stamp ++ t = h ++ vb (zz (r.off - base)) ++ (vb (zz (r.stamp - stamp)) ++ [fl r.dead] ++ tx r.key ++ tx r.val ++ t) := by simp [rb, List.append_assoc]
  have e2 : h ++ rb r base stamp ++ t = (h ++ vb (zz (r.off - base))) ++ vb (zz (r.stamp - stamp)) ++ ([fl r.dead] ++ tx r.key ++ tx r.val ++ t) := by simp [rb, List.append_assoc]
  have e3 : h ++ rb r base stamp ++ t = (h ++ vb (zz (r.off - base)) ++ vb (zz (r.stamp - stamp))) ++ (fl r.dead :: (tx r.key ++ tx r.val ++ t)) := by simp [rb, List.append_assoc]
  have e4 : h ++ rb r base stamp ++ t = (h ++ vb (zz (r.off - base)) ++ vb (zz (r.stamp - stamp)) ++ [fl r.dead]) ++ vb (zz r.key.size) ++ r.key.data.toList ++ (tx r.val ++ t) := by simp [rb, tx, List.append_assoc]
  have e5 : h ++ rb r base stamp ++ t = (h ++ vb (zz (r.off - base)) ++ vb (zz (r.stamp - stamp)) ++ [fl r.dead] ++ tx r.key) ++ vb (zz r.val.size) ++ r.val.data.toList ++ t := by simp [rb, tx, List.append_assoc]
  have g1 := gv_at h (vb (zz (r.stamp - stamp)) ++ [fl r.dead] ++ tx r.key ++ tx r.val ++ t) (r.off - base) (by omega)
  rw [← e1] at g1
  have g2 := gv_at (h ++ vb (zz (r.off - base))) ([fl r.dead] ++ tx r.key ++ tx r.val ++ t) (r.stamp - stamp) (by omega)
  rw [← e2] at g2
  have g4 := gx_at (h ++ vb (zz (r.off - base)) ++ vb (zz (r.stamp - stamp)) ++ [fl r.dead]) (tx r.val ++ t) r.key 64 (by omega) (by omega)
  rw [← e4] at g4
  have g5 := gx_at (h ++ vb (zz (r.off - base)) ++ vb (zz (r.stamp - stamp)) ++ [fl r.dead] ++ tx r.key) t r.val 64 (by omega) (by omega)
  rw [← e5] at g5
  have g3 : (h ++ rb r base stamp ++ t)[((h ++ vb (zz (r.off - base)) ++ vb (zz (r.stamp - stamp))).length : Int).toNat]? = some (fl r.dead) := by
    rw [e3, Int.toNat_natCast, List.getElem?_append_right (Nat.le_refl _), Nat.sub_self]; rfl
  simp only [List.length_append, Int.natCast_add, List.length_singleton] at g1 g2 g3 g4 g5
  have hf := gr_fields (l := h ++ rb r base stamp ++ t) (p := (h.length : Int)) hb hs (by simp only [List.length_append, Int.natCast_add]; omega) g1 g2 g3 (fl_small _) g4 (by
    rw [tx_length] at g5
    simp only [Int.natCast_add] at g5
    have e : (h.length : Int) + ((vb (zz (r.off - base))).length : Int) + ((vb (zz (r.stamp - stamp))).length : Int) + ((1 : Nat) : Int) + (((vb (zz (r.key.size : Int))).length : Int) + (r.key.size : Int)) = (h.length : Int) + ((vb (zz (r.off - base))).length : Int) + ((vb (zz (r.stamp - stamp))).length : Int) + ((1 : Nat) : Int) + ((vb (zz (r.key.size : Int))).length : Int) + (r.key.size : Int) := by omega
    rw [e] at g5
    exact g5)
  rw [hf, bes_diff m1 b1, bes_diff m2 b2, fl_one]
  have hr : (⟨r.off, r.key, r.val, r.dead, r.stamp⟩ : Rc) = r := rfl
  rw [hr, if_pos hm]
  congr 2
  unfold rb
  simp only [List.length_append, tx_length, List.length_singleton, Int.natCast_add]
  omega
end Go.Proofs.Ytfjdalekpmlnaaa.Rec
