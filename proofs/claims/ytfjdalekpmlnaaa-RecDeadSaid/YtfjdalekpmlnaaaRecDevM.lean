/- The contract of the landed rec's Get. -/
import Derived.Test.YtfjdalekpmlnaaaRecDevP
import Derived.Test.YtfjdalekpmlnaaaRecDevF
import Derived.Test.YtfjdalekpmlnaaaRecRefC
namespace Go.Proofs.Ytfjdalekpmlnaaa.Rec
open Go.RowKit Go.Proofs.Ytfjdalekpmlnaaa.Oct Go.Proofs.Ytfjdalekpmlnaaa.Crc

theorem st_back {α : Type} {z : α} {g : α × Int × Int} {p e : Int} {v : α} {y : Int} (h : st z g p e = (v, y, 0)) : e = 0 ∧ g = (v, y, 0) := by
  unfold st at h
  by_cases h1 : e = 0
  · refine ⟨h1, ?_⟩
    rw [if_neg (by simpa using h1)] at h
    by_cases h2 : g.2.2 = 0
    · rw [if_neg (by simpa using h2)] at h
      rw [← h, ← h2]
    · rw [if_pos h2] at h
      simp only [Prod.mk.injEq] at h
      exact absurd h.2.2 h2
  · rw [if_pos h1] at h
    simp only [Prod.mk.injEq] at h
    exact absurd h.2.2 h1
theorem st_stop {α : Type} {z : α} {g : α × Int × Int} {p e : Int} (he : e ≠ 0) {v : α} {y x : Int} (h : st z g p e = (v, y, x)) : x = e := by
  rw [st_e _ _ _ he] at h
  simp only [Prod.mk.injEq] at h
  exact h.2.2.symm
theorem st_here {α : Type} {z : α} {g : α × Int × Int} {p : Int} {v : α} {y x : Int} (hx : x ≠ 0) (h : st z g p 0 = (v, y, x)) : g.2.2 = x := by
  unfold st at h
  rw [if_neg (by simp)] at h
  by_cases h2 : g.2.2 = 0
  · rw [if_neg (by simpa using h2)] at h
    simp only [Prod.mk.injEq] at h
    exact absurd h.2.2.symm hx
  · rw [if_pos h2] at h
    simp only [Prod.mk.injEq] at h
    exact h.2.2
theorem st_pos {α : Type} {z : α} {g : α × Int × Int} {p e : Int} {v : α} {y x N : Int} (hp : 0 ≤ p ∧ p ≤ N) (hg : g.2.2 = 0 → 0 ≤ g.2.1 ∧ g.2.1 ≤ N) (h : st z g p e = (v, y, x)) : 0 ≤ y ∧ y ≤ N := by
  by_cases h1 : e = 0
  · subst h1
    by_cases h2 : g.2.2 = 0
    · rw [st_g _ _ h2] at h
      simp only [Prod.mk.injEq] at h
      have := hg h2
      rw [← h.2.1]; exact this
    · rw [st_b _ _ h2] at h
      simp only [Prod.mk.injEq] at h
      rw [← h.2.1]; exact hp
  · rw [st_e _ _ _ h1] at h
    simp only [Prod.mk.injEq] at h
    rw [← h.2.1]; exact hp
theorem gv_p {l : List UInt8} {p : Int} (h : (gv l p).2.2 = 0) : 0 ≤ (gv l p).2.1 ∧ (gv l p).2.1 ≤ (l.length : Int) := by
  rcases g : gv l p with ⟨x, y, z⟩
  rw [g] at h
  simp only at h
  subst h
  have := gv_good g
  simp only
  omega
theorem gx_p {l : List UInt8} {p : Int} (h : (gx l p 64).2.2 = 0) : 0 ≤ (gx l p 64).2.1 ∧ (gx l p 64).2.1 ≤ (l.length : Int) := by
  rcases g : gx l p 64 with ⟨x, y, z⟩
  rw [g] at h
  simp only at h
  subst h
  have := gx_good g
  simp only
  omega
theorem gf_p {l : List UInt8} {p : Int} (h : (gf l p).2.2 = 0) : 0 ≤ (gf l p).2.1 ∧ (gf l p).2.1 ≤ (l.length : Int) := by
  unfold gf at h ⊢
  by_cases h1 : (gt l p 1).2 = 0
  · have := gt_in h1
    rw [if_neg (by simpa using h1)] at h ⊢
    by_cases h2 : 1 < (gt l p 1).1
    · rw [if_pos h2] at h; simp at h
    · rw [if_neg h2]; simp only; omega
  · rw [if_pos h1] at h; exact absurd h h1
theorem gf_none {l : List UInt8} {p : Int} (hp : 0 ≤ p) (h : l[p.toNat]? = none) : gf l p = (false, 0, 10) := by
  have h1 : l.length ≤ p.toNat := by simpa using h
  have : gt l p 1 = (0, 10) := by
    unfold gt
    rw [if_neg (by simp [isW]; omega), if_pos (by simp [hasB]; omega)]
  unfold gf
  rw [this]
  rfl
theorem gf_some {l : List UInt8} {p : Int} {c : UInt8} (hp : 0 ≤ p) (h : l[p.toNat]? = some c) : gf l p = if 1 < c.toNat then (false, 0, 11) else (c == 1, p + 1, 0) := by
  have h1 : p.toNat < l.length := (List.getElem?_eq_some_iff.1 h).1
  have : gt l p 1 = (c.toNat, 0) := by
    unfold gt
    rw [if_neg (by simp [isW]; omega), if_neg (by simp [hasB]; omega), drop_at h]
    show (getN [c], 0) = _
    rw [getN_cons, getN_nil]; simp
  unfold gf
  rw [this]
  have hc : (c.toNat == 1) = (c == 1) := by
    by_cases hh : c = 1
    · subst hh; rfl
    · rw [beq_false_of_ne hh]; exact beq_false_of_ne fun h9 => hh (UInt8.toNat.inj h9)
  simp only [hc]
  rw [if_neg (by simp)]

/-- what is got, by the five fields -/
theorem gr_st {l : List UInt8} {p b t : Int} (hb : inR b = true) (ht : inR t = true) (hp : 0 ≤ p ∧ p ≤ l.length) {d s i j q m y x1 x2 x3 x4 x5 : Int} {D : Bool} {k v : ByteArray}
    (h1 : st 0 (gv l p) p 0 = (d, i, x1)) (h2 : st 0 (gv l i) i x1 = (s, j, x2)) (h3 : st false (gf l j) j x2 = (D, q, x3)) (h4 : st ByteArray.empty (gx l q 64) q x3 = (k, m, x4)) (h5 : st ByteArray.empty (gx l m 64) m x4 = (v, y, x5)) :
    (x5 ≠ 0 → gr l p b t = (nil, 0, x5)) ∧ (x5 = 0 → gr l p b t = (if may ⟨bes b d, k, v, D, bes t s⟩ then (⟨bes b d, k, v, D, bes t s⟩, y, 0) else (nil, 0, 1)) ∧ k.size ≤ 64 ∧ v.size ≤ 64 ∧ (-9223372036854775808 ≤ d ∧ d ≤ 9223372036854775807) ∧ (-9223372036854775808 ≤ s ∧ s ≤ 9223372036854775807)) := by
  have hi := st_pos hp gv_p h1
  have hj := st_pos hi gv_p h2
  have hg := gr_on hb ht hp
  by_cases c1 : x1 = 0
  case neg =>
    have e2 := st_stop c1 h2
    have e3 := st_stop (by rw [e2]; exact c1) h3
    have e4 := st_stop (by rw [e3, e2]; exact c1) h4
    have e5 := st_stop (by rw [e4, e3, e2]; exact c1) h5
    have e : x5 = x1 := by rw [e5, e4, e3, e2]
    refine ⟨fun _ => ?_, fun hz => absurd (e.symm.trans hz) c1⟩
    have g := st_here c1 h1
    rw [hg, if_pos (by rw [g]; exact c1), g, e]
  subst c1
  obtain ⟨-, g1⟩ := st_back h1
  by_cases c2 : x2 = 0
  case neg =>
    have e3 := st_stop c2 h3
    have e4 := st_stop (by rw [e3]; exact c2) h4
    have e5 := st_stop (by rw [e4, e3]; exact c2) h5
    have e : x5 = x2 := by rw [e5, e4, e3]
    refine ⟨fun _ => ?_, fun hz => absurd (e.symm.trans hz) c2⟩
    have g := st_here c2 h2
    rw [hg]
    simp only [g1]
    rw [if_neg (by simp), if_pos (by rw [g]; exact c2), g, e]
  subst c2
  obtain ⟨-, g2⟩ := st_back h2
  by_cases c3 : x3 = 0
  case neg =>
    have e4 := st_stop c3 h4
    have e5 := st_stop (by rw [e4]; exact c3) h5
    have e : x5 = x3 := by rw [e5, e4]
    refine ⟨fun _ => ?_, fun hz => absurd (e.symm.trans hz) c3⟩
    have g := st_here c3 h3
    rw [hg]
    simp only [g1, g2]
    rw [if_neg (by simp), if_neg (by simp)]
    cases hc : l[j.toNat]? with
    | none => rw [gf_none hj.1 hc] at g; simp only at g ⊢; rw [e, ← g]
    | some c =>
      rw [gf_some hj.1 hc] at g
      simp only
      by_cases hlt : 1 < c.toNat
      · rw [if_pos hlt] at g ⊢; simp only at g; rw [e, ← g]
      · rw [if_neg hlt] at g; exact absurd g.symm c3
  subst c3
  obtain ⟨-, g3⟩ := st_back h3
  have hq := st_pos hj gf_p h3
  obtain ⟨c, hc, hlt, rfl, rfl⟩ : ∃ c, l[j.toNat]? = some c ∧ ¬ 1 < c.toNat ∧ D = (c == 1) ∧ q = j + 1 := by
    cases hc : l[j.toNat]? with
    | none => rw [gf_none hj.1 hc] at g3; simp at g3
    | some c =>
      rw [gf_some hj.1 hc] at g3
      by_cases hlt : 1 < c.toNat
      · rw [if_pos hlt] at g3; simp at g3
      · rw [if_neg hlt] at g3
        simp only [Prod.mk.injEq] at g3
        exact ⟨c, rfl, hlt, g3.1.symm, g3.2.1.symm⟩
  by_cases c4 : x4 = 0
  case neg =>
    have e : x5 = x4 := st_stop c4 h5
    refine ⟨fun _ => ?_, fun hz => absurd (e.symm.trans hz) c4⟩
    have g := st_here c4 h4
    rw [hg]
    simp only [g1, g2, hc]
    rw [if_neg (by simp), if_neg (by simp), if_neg hlt, if_pos (by rw [g]; exact c4), g, e]
  subst c4
  obtain ⟨-, g4⟩ := st_back h4
  by_cases c5 : x5 = 0
  case neg =>
    refine ⟨fun _ => ?_, fun hz => absurd hz c5⟩
    have g := st_here c5 h5
    rw [hg]
    simp only [g1, g2, hc, g4]
    rw [if_neg (by simp), if_neg (by simp), if_neg hlt, if_neg (by simp), if_pos (by rw [g]; exact c5), g]
  subst c5
  obtain ⟨-, g5⟩ := st_back h5
  refine ⟨fun hz => absurd rfl hz, fun _ => ⟨gr_fields hb ht hp g1 g2 hc hlt g4 g5, ?_⟩⟩
  have a1 := gv_good g1
  have a2 := gv_good g2
  have a4 := gx_good g4
  have a5 := gx_good g5
  omega

/-- a sum that comes round is out of range all the same -/
theorem bes_wrap {b d : Int} (hb : inR b = true) (hd : -9223372036854775808 ≤ d ∧ d ≤ 9223372036854775807) : IntKind.i64.wrap (b + d) = bes b d ∨ (inR (IntKind.i64.wrap (b + d)) = false ∧ inR (bes b d) = false) := by
  have h := inR_iff.1 hb
  unfold bes
  by_cases h1 : d < -1099511627776 ∨ 1099511627776 < d ∨ inR (b + d) = false
  · rw [if_pos h1]
    refine .inr ⟨?_, by decide⟩
    have h2 : ¬ (0 ≤ b + d ∧ b + d ≤ 1099511627776) := by
      rcases h1 with h1 | h1 | h1
      · omega
      · omega
      · intro hh; rw [inR_iff.2 hh] at h1; cases h1
    rw [IntKind.wrap_i64]
    unfold inR
    rw [decide_eq_false_iff_not]
    omega
  · rw [if_neg h1]
    exact .inl (IntWalk.i64_in _ (by omega))
theorem nmay1 {r : Rc} (h : inR r.off = false) : ¬ may r = true := fun hh => by
  have := inR_iff.2 (may_iff.1 hh).1
  rw [h] at this; cases this
theorem nmay2 {r : Rc} (h : inR r.stamp = false) : ¬ may r = true := fun hh => by
  have := inR_iff.2 (may_iff.1 hh).2.1
  rw [h] at this; cases this
theorem may_wrap {b t d s : Int} {k v : ByteArray} {D : Bool} (hb : inR b = true) (ht : inR t = true) (hd : -9223372036854775808 ≤ d ∧ d ≤ 9223372036854775807) (hs : -9223372036854775808 ≤ s ∧ s ≤ 9223372036854775807) :
    (if may ⟨bes b d, k, v, D, bes t s⟩ then ((⟨bes b d, k, v, D, bes t s⟩ : Rc), (0 : Int)) else (nil, 1)) = if may ⟨IntKind.i64.wrap (b + d), k, v, D, IntKind.i64.wrap (t + s)⟩ then (⟨IntKind.i64.wrap (b + d), k, v, D, IntKind.i64.wrap (t + s)⟩, 0) else (nil, 1) := by
  rcases bes_wrap hb hd with h1 | ⟨h1, h2⟩
  · rcases bes_wrap ht hs with h3 | ⟨h3, h4⟩
    · rw [h1, h3]
    · rw [if_neg (nmay2 h4), if_neg (nmay2 h3)]
  · rw [if_neg (nmay1 h2), if_neg (nmay1 h1)]
end Go.Proofs.Ytfjdalekpmlnaaa.Rec
