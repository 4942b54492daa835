/- Joined: RecMath, RecMath2, RecRefA, RecRefB. -/
import Derived.Test.YtmjnleohchmadaaJOct
import Derived.Test.YtmjnleohchmadaaJCrc
/- The plain mathematics of layer 3: a record, its bytes, what bytes tell. Nothing of the program. -/
namespace Go.Proofs.Ytmjnleohchmadaa.Rec
open Go.Proofs.Ytmjnleohchmadaa.Oct

structure Rc where
  off : Int
  key : ByteArray
  val : ByteArray
  dead : Bool
  stamp : Int

def inR (n : Int) : Bool := decide (0 ≤ n ∧ n ≤ 1099511627776)
def may (r : Rc) : Bool := decide ((0 ≤ r.off ∧ r.off ≤ 1099511627776) ∧ (0 ≤ r.stamp ∧ r.stamp ≤ 1099511627776) ∧ r.key.size ≤ 64 ∧ r.val.size ≤ 64 ∧ (r.dead = true → r.key.size ≠ 0 ∧ r.val.size = 0))
theorem may_iff {r : Rc} : may r = true ↔ (0 ≤ r.off ∧ r.off ≤ 1099511627776) ∧ (0 ≤ r.stamp ∧ r.stamp ≤ 1099511627776) ∧ r.key.size ≤ 64 ∧ r.val.size ≤ 64 ∧ (r.dead = true → r.key.size ≠ 0 ∧ r.val.size = 0) := by unfold may; exact decide_eq_true_iff
def nil : Rc := ⟨0, ByteArray.empty, ByteArray.empty, false, 0⟩
def tx (s : ByteArray) : List UInt8 := vb (zz s.size) ++ s.data.toList
def fl (d : Bool) : UInt8 := if d then 1 else 0
def rb (r : Rc) (base stamp : Int) : List UInt8 := vb (zz (r.off - base)) ++ vb (zz (r.stamp - stamp)) ++ [fl r.dead] ++ tx r.key ++ tx r.val
def pt (r : Rc) (base stamp : Int) : List UInt8 × Int := if may r && inR base && inR stamp then (rb r base stamp, 0) else ([], 1)
def bes (n d : Int) : Int := if d < -1099511627776 ∨ 1099511627776 < d ∨ inR (n + d) = false then -1 else n + d
def gr (l : List UInt8) (p base stamp : Int) : Rc × Int × Int :=
  if inR base && inR stamp && decide (0 ≤ p ∧ p ≤ l.length) then
    if (gv l p).2.2 ≠ 0 then (nil, 0, (gv l p).2.2)
    else if (gv l (gv l p).2.1).2.2 ≠ 0 then (nil, 0, (gv l (gv l p).2.1).2.2)
    else match l[(gv l (gv l p).2.1).2.1.toNat]? with
      | none => (nil, 0, 10)
      | some c =>
        if 1 < c.toNat then (nil, 0, 11)
        else if (gx l ((gv l (gv l p).2.1).2.1 + 1) 64).2.2 ≠ 0 then (nil, 0, (gx l ((gv l (gv l p).2.1).2.1 + 1) 64).2.2)
        else if (gx l (gx l ((gv l (gv l p).2.1).2.1 + 1) 64).2.1 64).2.2 ≠ 0 then (nil, 0, (gx l (gx l ((gv l (gv l p).2.1).2.1 + 1) 64).2.1 64).2.2)
        else if may ⟨bes base (gv l p).1, (gx l ((gv l (gv l p).2.1).2.1 + 1) 64).1, (gx l (gx l ((gv l (gv l p).2.1).2.1 + 1) 64).2.1 64).1, c == 1, bes stamp (gv l (gv l p).2.1).1⟩ then
          (⟨bes base (gv l p).1, (gx l ((gv l (gv l p).2.1).2.1 + 1) 64).1, (gx l (gx l ((gv l (gv l p).2.1).2.1 + 1) 64).2.1 64).1, c == 1, bes stamp (gv l (gv l p).2.1).1⟩, (gx l (gx l ((gv l (gv l p).2.1).2.1 + 1) 64).2.1 64).2.1, 0)
        else (nil, 0, 1)
  else (nil, 0, 1)

end Go.Proofs.Ytmjnleohchmadaa.Rec

/- More plain mathematics of layer 3: what is told was put; cut short it is none; moved alike; how long. Nothing of the program. -/
namespace Go.Proofs.Ytmjnleohchmadaa.Rec
open Go.Proofs.Ytmjnleohchmadaa.Oct

theorem seg_join (l : List UInt8) {a b c : Int} (h0 : 0 ≤ a) (h1 : a ≤ b) (h2 : b ≤ c) :
    (l.drop a.toNat).take (b - a).toNat ++ (l.drop b.toNat).take (c - b).toNat = (l.drop a.toNat).take (c - a).toNat := by
  have e1 : (c - a).toNat = (b - a).toNat + (c - b).toNat := by omega
  have e2 : b.toNat = a.toNat + (b - a).toNat := by omega
  rw [e1, List.take_add, e2, List.drop_drop]

theorem bes_in {n d : Int} (h : 0 ≤ bes n d) : bes n d = n + d := by
  unfold bes at h ⊢
  split at h
  · omega
  · rename_i hh; rw [if_neg hh]

theorem fl_back {c : UInt8} (h : ¬ 1 < c.toNat) : fl (c == 1) = c := by
  have e : c.toNat = 0 ∨ c.toNat = 1 := by omega
  rcases e with e | e
  · have : c = 0 := UInt8.toNat.inj e
    subst this; rfl
  · have : c = 1 := UInt8.toNat.inj e
    subst this; rfl

theorem gr_good {l : List UInt8} {p base stamp n : Int} {r : Rc} (h : gr l p base stamp = (r, n, 0)) :
    inR base = true ∧ inR stamp = true ∧ may r = true ∧ 0 ≤ p ∧ p < n ∧ n ≤ l.length ∧ rb r base stamp = (l.drop p.toNat).take (n - p).toNat := by
  unfold gr at h
  by_cases hc : (inR base && inR stamp && decide (0 ≤ p ∧ p ≤ l.length)) = true
  case neg => rw [if_neg hc] at h; simp at h
  rw [if_pos hc] at h
  simp only [Bool.and_eq_true, decide_eq_true_eq] at hc
  obtain ⟨⟨hb, hs⟩, hp⟩ := hc
  rcases g1 : gv l p with ⟨d, i, x1⟩
  simp only [g1] at h
  by_cases h1 : x1 = 0
  case neg => rw [if_pos h1] at h; simp only [Prod.mk.injEq] at h; exact absurd h.2.2 h1
  rw [if_neg (by simpa using h1)] at h
  subst h1
  rcases g2 : gv l i with ⟨s, j, x2⟩
  simp only [g2] at h
  by_cases h2 : x2 = 0
  case neg => rw [if_pos h2] at h; simp only [Prod.mk.injEq] at h; exact absurd h.2.2 h2
  rw [if_neg (by simpa using h2)] at h
  subst h2
  cases g3 : l[j.toNat]? with
  | none => rw [g3] at h; simp at h
  | some c =>
    rw [g3] at h
    simp only at h
    by_cases h3 : 1 < c.toNat
    · rw [if_pos h3] at h; simp at h
    rw [if_neg h3] at h
    rcases g4 : gx l (j + 1) 64 with ⟨k, m, x3⟩
    simp only [g4] at h
    by_cases h4 : x3 = 0
    case neg => rw [if_pos h4] at h; simp only [Prod.mk.injEq] at h; exact absurd h.2.2 h4
    rw [if_neg (by simpa using h4)] at h
    subst h4
    rcases g5 : gx l m 64 with ⟨v, q, x4⟩
    simp only [g5] at h
    by_cases h5 : x4 = 0
    case neg => rw [if_pos h5] at h; simp only [Prod.mk.injEq] at h; exact absurd h.2.2 h5
    rw [if_neg (by simpa using h5)] at h
    subst h5
    by_cases hm : may ⟨bes base d, k, v, c == 1, bes stamp s⟩ = true
    case neg => rw [if_neg hm] at h; simp at h
    rw [if_pos hm] at h
    simp only [Prod.mk.injEq, and_true] at h
    obtain ⟨hr, hn⟩ := h
    subst hr hn
    obtain ⟨m1, m2, m3, m4, m5⟩ := may_iff.1 hm
    simp only at m1 m2
    obtain ⟨a1, a2, a3, a4, a5, a6, a7⟩ := gv_good g1
    obtain ⟨b1, b2, b3, b4, b5, b6, b7⟩ := gv_good g2
    obtain ⟨c1, c2, c3, c4, c5, c6⟩ := gx_good g4
    obtain ⟨d1, d2, d3, d4, d5, d6⟩ := gx_good g5
    refine ⟨hb, hs, hm, a1, by omega, d3, ?_⟩
    have e3 : [c] = (l.drop j.toNat).take (j + 1 - j).toNat := by
      have : (j + 1 - j).toNat = 1 := by omega
      rw [this, drop_at g3]; rfl
    unfold rb
    simp only
    rw [bes_in m1.1, bes_in m2.1, show base + d - base = d by omega, show stamp + s - stamp = s by omega, fl_back h3, tx, tx, a5, b5, c5, d5, e3]
    rw [seg_join l (by omega) (by omega) (by omega), seg_join l (by omega) (by omega) (by omega), seg_join l (by omega) (by omega) (by omega), seg_join l (by omega) (by omega) (by omega)]

end Go.Proofs.Ytmjnleohchmadaa.Rec

/- The contracts of the document's own answers of layer 3: In, Check. -/
namespace Go.Proofs.Ytmjnleohchmadaa.Rec
open Go.RowKit Go.Proofs.Ytmjnleohchmadaa.Oct

end Go.Proofs.Ytmjnleohchmadaa.Rec

/- The contracts of the document's own answers of layer 3: Put. -/
namespace Go.Proofs.Ytmjnleohchmadaa.Rec
open Go.RowKit Go.Proofs.Ytmjnleohchmadaa.Oct Go.Proofs.Ytmjnleohchmadaa.Crc

def Box (w : World) (g : Nat) (r : Rc) : Prop :=
  w.cell? ⟨g, 0, none⟩ = some (.int .i64 r.off) ∧ w.cell? ⟨g, 1, none⟩ = some (.string r.key) ∧ w.cell? ⟨g, 2, none⟩ = some (.string r.val) ∧ w.cell? ⟨g, 3, none⟩ = some (.bool r.dead) ∧ w.cell? ⟨g, 4, none⟩ = some (.int .i64 r.stamp)
theorem Box.below {w w' : World} {g B : Nat} {r : Rc} (h : Box w g r) (hb : Below B w w') (hg : g < B) : Box w' g r := by
  obtain ⟨h0, h1, h2, h3, h4⟩ := h
  exact ⟨(hb.cell hg).trans h0, (hb.cell hg).trans h1, (hb.cell hg).trans h2, (hb.cell hg).trans h3, (hb.cell hg).trans h4⟩
end Go.Proofs.Ytmjnleohchmadaa.Rec
