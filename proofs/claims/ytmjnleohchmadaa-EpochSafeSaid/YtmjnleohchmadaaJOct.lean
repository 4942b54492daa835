/- Joined: OctMath, OctWords, OctEnds, Ends, RowF, RowG, OctSpec, OctU8, OctRCopy, OctRPutVar, OctRPutText, OctRSame. -/
import GoSem.Op.String
import Derived.WalkKit
import Derived.Deep.AppendLies
import Derived.Lib.AppendStr
import Derived.Deep.Draws
import Derived.OpenShut
import Derived.ProofKit
import Derived.ShutString
import Derived.Carry
import Derived.Deep.Fields
import Derived.Maps.AppendAt
import Derived.Lib.Hide
import Derived.WalkSpells
import Derived.WalkLawsBesides
import Derived.Laws.OwnMore
import Derived.Test.YtmjnleohchmadaaRows
/- The plain mathematics of layer 1: bytes of a number, short bytes, their reading. Nothing of the program. -/
namespace Go.Proofs.Ytmjnleohchmadaa.Oct

/-! ### numbers of k bytes -/
def beN (n k i : Nat) : List UInt8 := (List.range i).map fun j => UInt8.ofNat (n / 256 ^ (k - 1 - j))
def getN (l : List UInt8) : Nat := l.foldl (fun n c => n * 256 + c.toNat) 0

theorem beN_length (n k i : Nat) : (beN n k i).length = i := by simp [beN]
theorem beN_succ (n k i : Nat) : beN n k (i + 1) = beN n k i ++ [UInt8.ofNat (n / 256 ^ (k - 1 - i))] := by
  simp [beN, List.range_succ]
theorem getN_snoc (l : List UInt8) (c : UInt8) : getN (l ++ [c]) = getN l * 256 + c.toNat := by simp [getN]
theorem getN_from (l : List UInt8) (a : Nat) : l.foldl (fun n c => n * 256 + c.toNat) a = a * 256 ^ l.length + getN l := by
  induction l generalizing a with
  | nil => simp [getN]
  | cons c l ih =>
    unfold getN
    simp only [List.foldl_cons, List.length_cons]
    rw [ih, ih (0 * 256 + c.toNat), Nat.pow_succ, Nat.add_mul, Nat.zero_mul, Nat.zero_add, Nat.mul_assoc, Nat.mul_comm 256, Nat.add_assoc]
theorem getN_cons (c : UInt8) (l : List UInt8) : getN (c :: l) = c.toNat * 256 ^ l.length + getN l := by
  show List.foldl _ _ l = _
  rw [getN_from]; simp
theorem getN_lt (l : List UInt8) : getN l < 256 ^ l.length := by
  induction l with
  | nil => simp [getN]
  | cons c l ih =>
    rw [getN_cons, List.length_cons, Nat.pow_succ]
    have := c.toNat_lt
    have h2 : (c.toNat + 1) * 256 ^ l.length ≤ 256 * 256 ^ l.length := Nat.mul_le_mul_right _ (by omega)
    rw [Nat.add_mul, Nat.mul_comm 256] at h2
    omega
theorem getN_beN (n k i : Nat) (h : i ≤ k) : getN (beN n k i) = n / 256 ^ (k - i) % 256 ^ i := by
  induction i with
  | zero => simp [beN, getN, Nat.mod_one]
  | succ i ih =>
    rw [beN_succ, getN_snoc, ih (by omega)]
    have e1 : k - i = (k - (i + 1)) + 1 := by omega
    have e2 : k - 1 - i = k - (i + 1) := by omega
    rw [e1, e2, Nat.pow_succ, ← Nat.div_div_eq_div_mul, Nat.pow_succ]
    generalize n / 256 ^ (k - (i + 1)) = q
    have h1 : (UInt8.ofNat q).toNat = q % 256 := by simp
    rw [h1, Nat.mul_comm (256 ^ i) 256, Nat.mod_mul, Nat.add_comm, Nat.mul_comm 256]
theorem getN_be (n k : Nat) : getN (beN n k k) = n % 256 ^ k := by rw [getN_beN n k k (Nat.le_refl _)]; simp

theorem getN_inj (a b : List UInt8) (h : a.length = b.length) (e : getN a = getN b) : a = b := by
  induction a generalizing b with
  | nil => cases b with
    | nil => rfl
    | cons d b => simp at h
  | cons c a ih =>
    cases b with
    | nil => simp at h
    | cons d b =>
      have h' : a.length = b.length := by simpa using h
      have ha := getN_lt a
      have hb := getN_lt b
      rw [getN_cons, getN_cons, h'] at e
      rw [h'] at ha
      have hp : 0 < 256 ^ b.length := Nat.pow_pos (by omega)
      generalize 256 ^ b.length = p at *
      have hcd : c.toNat = d.toNat := by
        rcases Nat.lt_trichotomy c.toNat d.toNat with hlt | he | hlt
        · have h2 : (c.toNat + 1) * p ≤ d.toNat * p := Nat.mul_le_mul_right p hlt
          rw [Nat.add_mul] at h2
          omega
        · exact he
        · have h2 : (d.toNat + 1) * p ≤ c.toNat * p := Nat.mul_le_mul_right p hlt
          rw [Nat.add_mul] at h2
          omega
      have hcd' : c = d := UInt8.toNat_inj.1 hcd
      subst hcd'
      rw [ih b h' (by omega)]

/-! ### a number's short bytes -/
def zz (n : Int) : Nat := if 0 ≤ n then (2 * n).toNat else (-2 * n - 1).toNat
def uz (u : Nat) : Int := if u % 2 = 0 then ((u / 2 : Nat) : Int) else -((u / 2 : Nat) : Int) - 1
theorem zz_uz (u : Nat) : zz (uz u) = u := by unfold uz zz; split <;> split <;> omega
theorem uz_in {u : Nat} (h : u < 18446744073709551616) : -9223372036854775808 ≤ uz u ∧ uz u ≤ 9223372036854775807 := by unfold uz; split <;> omega
def vb (u : Nat) : List UInt8 := if u < 128 then [UInt8.ofNat u] else UInt8.ofNat (u % 128 + 128) :: vb (u / 128)
termination_by u

theorem vb_small {u : Nat} (h : u < 128) : vb u = [UInt8.ofNat u] := by rw [vb, if_pos h]
theorem vb_big {u : Nat} (h : 128 ≤ u) : vb u = UInt8.ofNat (u % 128 + 128) :: vb (u / 128) := by rw [vb, if_neg (by omega)]
theorem vb_pos (u : Nat) : 0 < (vb u).length := by rw [vb]; split <;> simp
inductive VR | short | form | ok (u len : Nat)
def VR.bad (i : Nat) (c : UInt8) : Prop := i = 9 ∧ 1 < c.toNat ∨ 0 < i ∧ c.toNat = 0
instance (i : Nat) (c : UInt8) : Decidable (VR.bad i c) := by unfold VR.bad; infer_instance
def scan : List UInt8 → Nat → Nat → VR
  | [], _, _ => .short
  | c :: r, i, u => if VR.bad i c then .form else if c.toNat < 128 then .ok (u + c.toNat * 128 ^ i) (i + 1) else scan r (i + 1) (u + (c.toNat - 128) * 128 ^ i)

theorem ofNat_toNat' {q : Nat} (h : q < 256) : (UInt8.ofNat q).toNat = q := by
  rw [UInt8.toNat_ofNat']; exact Nat.mod_eq_of_lt h

theorem scan_ok (l : List UInt8) (i u n k : Nat) (hi : i ≤ 9) (h : scan l i u = .ok n k) :
    ∃ z r, l = vb z ++ r ∧ n = u + z * 128 ^ i ∧ k = i + (vb z).length ∧ (i = 0 ∨ 0 < z) ∧ z * 128 ^ i < 18446744073709551616 ∧ k ≤ 10 := by
  induction l generalizing i u with
  | nil => simp [scan] at h
  | cons c r ih =>
    rw [scan] at h
    by_cases hb : VR.bad i c
    · rw [if_pos hb] at h; cases h
    · rw [if_neg hb] at h
      have hc := c.toNat_lt
      unfold VR.bad at hb
      have p9 : 128 ^ i ≤ 9223372036854775808 := by
        have : 128 ^ i ≤ 128 ^ 9 := Nat.pow_le_pow_right (by omega) hi
        exact this
      by_cases hs : c.toNat < 128
      · rw [if_pos hs] at h
        simp only [VR.ok.injEq] at h
        refine ⟨c.toNat, r, ?_, h.1.symm, ?_, by omega, ?_, by omega⟩
        · rw [vb_small hs]; simp
        · rw [vb_small hs]; simp [h.2]
        · by_cases h9 : i = 9
          · subst h9
            have e : (128 : Nat) ^ 9 = 9223372036854775808 := by decide
            rw [e]
            omega
          · have : 128 ^ i ≤ 128 ^ 8 := Nat.pow_le_pow_right (by omega) (by omega)
            have e : (128 : Nat) ^ 8 = 72057594037927936 := by decide
            rw [e] at this
            have h2 : c.toNat * 128 ^ i ≤ 127 * 72057594037927936 := Nat.mul_le_mul (by omega) this
            omega
      · rw [if_neg hs] at h
        obtain ⟨z, r', hr, hn, hk, h0, hz, h10⟩ := ih (i + 1) _ (by omega) h
        have hz0 : 0 < z := by omega
        have ed : (c.toNat - 128 + 128 * z) / 128 = z := by omega
        have em : (c.toNat - 128 + 128 * z) % 128 = c.toNat - 128 := by omega
        have e : (c.toNat - 128 + 128 * z) * 128 ^ i = (c.toNat - 128) * 128 ^ i + z * 128 ^ (i + 1) := by
          rw [Nat.add_mul, Nat.pow_succ, Nat.mul_comm 128 z, Nat.mul_assoc, Nat.mul_comm 128]
        refine ⟨c.toNat - 128 + 128 * z, r', ?_, ?_, ?_, by omega, ?_, h10⟩
        · rw [vb_big (by omega), ed, em, hr, Nat.sub_add_cancel (by omega)]
          simp
        · rw [e]; omega
        · rw [vb_big (by omega), ed, List.length_cons]; omega
        · rw [e]
          have hi8 : i ≤ 8 := by omega
          have hq : 128 ^ (i + 1) ∣ 18446744073709551616 := by
            have : (18446744073709551616 : Nat) = 128 ^ (i + 1) * (2 ^ (64 - 7 * (i + 1))) := by
              have e1 : (128 : Nat) = 2 ^ 7 := by decide
              rw [e1, ← Nat.pow_mul, ← Nat.pow_add]
              have : 7 * (i + 1) + (64 - 7 * (i + 1)) = 64 := by omega
              rw [this]
            exact ⟨_, this⟩
          obtain ⟨q, hq⟩ := hq
          have hzq : z < q := by
            rw [hq, Nat.mul_comm] at hz
            exact Nat.lt_of_mul_lt_mul_left hz
          have h3 : (z + 1) * 128 ^ (i + 1) ≤ q * 128 ^ (i + 1) := Nat.mul_le_mul_right _ hzq
          have h4 : (c.toNat - 128) * 128 ^ i < 128 * 128 ^ i := Nat.mul_lt_mul_of_pos_right (by omega) (Nat.pow_pos (by omega))
          rw [Nat.add_mul] at h3
          have h5 : 128 * 128 ^ i = 128 ^ (i + 1) := by rw [Nat.pow_succ, Nat.mul_comm]
          rw [hq, Nat.mul_comm (128 ^ (i + 1)) q]
          omega

end Go.Proofs.Ytmjnleohchmadaa.Oct

/- Words for slices of bytes: one that reads as a list, one that the call itself made; the laws of append and of the conversion to a string in these words. Nothing of the program: P, the types' numbers and the worlds are letters. -/
namespace Go.Proofs.Ytmjnleohchmadaa.Oct
open Go.RowKit

def bv (c : UInt8) : Value := .int .u8 (c.toNat : Int)

def Rd (w : World) (B : Nat) (A : Option Addr) (n : Nat) (l : List UInt8) : Prop :=
  l.length = n ∧ ∀ k c, l[k]? = some c → ∃ b o, A = some ⟨b, o, none⟩ ∧ b < B ∧ w.cell? ⟨b, o + k, none⟩ = some (.int .u8 (c.toNat : Int))
def OwnB (w : World) (e : TypeId) (B : Nat) (v : Value) (n : Nat) (l : List UInt8) : Prop := w.ownsRow B e 1 v n (l.map bv)
def RB (e : TypeId) (base : Nat) (w : World) (l : List UInt8) (en : Ending) (w' : World) : Prop :=
  ∃ A n c, en = .returned (.slice A n c) ∧ OwnB w' e base (.slice A n c) n l ∧ Below base w w'
def U8 (P : Program) (e : TypeId) : Prop := ∃ i, P.info? e = some i ∧ i.zero = some (.int .u8 0) ∧ i.size = 1 ∧ i.bytes = 1

theorem beqF {a b : Int} (h : a ≠ b) : (a == b) = false := by simp [h]
theorem oneCell_bv (l : List UInt8) : ∀ u ∈ l.map bv, u.oneCell' = true := by
  intro u hu
  obtain ⟨c, _, rfl⟩ := List.mem_map.1 hu
  rfl

section
variable {w w' : World} {B B' n : Nat} {A : Option Addr} {l : List UInt8} {e : TypeId} {v : Value} {c : Nat}
theorem Rd.len (h : Rd w B A n l) : l.length = n := h.1
theorem Rd.nil : Rd w B A 0 [] := ⟨rfl, by simp⟩
theorem Rd.keep (h : Rd w B A n l) (hk : ∀ p : Addr, p.block < B → w'.cell? p = w.cell? p) : Rd w' B A n l :=
  ⟨h.1, fun k c hc => by
    obtain ⟨b, o, hA, hb, hcell⟩ := h.2 k c hc
    exact ⟨b, o, hA, hb, (hk _ hb).trans hcell⟩⟩
theorem Rd.more (h : Rd w B A n l) (hB : B ≤ B') : Rd w B' A n l :=
  ⟨h.1, fun k c hc => by
    obtain ⟨b, o, hA, hb, hcell⟩ := h.2 k c hc
    exact ⟨b, o, hA, by omega, hcell⟩⟩
theorem Rd.below (h : Rd w B A n l) (hb : Below B' w w') (hB : B ≤ B') : Rd w' B A n l := h.keep fun _ hp => hb.cell (by omega)
theorem Rd.alloc (h : Rd w B A n l) (hB : B ≤ w.heap.size) (o : Obj) : Rd (w.alloc o) B A n l := h.keep fun p hp => World.cell?_alloc_lt w o p (by omega)
theorem Rd.at {k : Nat} (h : Rd w B A n l) (hk : k < n) : ∃ b o c, A = some ⟨b, o, none⟩ ∧ b < B ∧ l[k]? = some c ∧ w.cell? ⟨b, o + k, none⟩ = some (.int .u8 (c.toNat : Int)) := by
  have hl : k < l.length := by have := h.1; omega
  obtain ⟨b, o, hA, hb, hcell⟩ := h.2 k l[k] (List.getElem?_eq_getElem hl)
  exact ⟨b, o, l[k], hA, hb, List.getElem?_eq_getElem hl, hcell⟩
theorem Rd.cells {ad : Addr} (h : Rd w B (some ad) n l) : ∀ j u, (l.map bv)[j]? = some u → w.cell? (ad.add j) = some u := by
  intro j u hu
  rw [List.getElem?_map] at hu
  obtain ⟨c, hc, rfl⟩ := Option.map_eq_some_iff.1 hu
  obtain ⟨b, o, hA, _, hcell⟩ := h.2 j c hc
  obtain rfl := Option.some.inj hA
  rw [Addr.add_lit]
  exact hcell
theorem Rd.isNil (h : Rd w B none n l) : n = 0 ∧ l = [] := by
  have hl : l = [] := by
    cases l with
    | nil => rfl
    | cons c l =>
      obtain ⟨b, o, hA, _⟩ := h.2 0 c rfl
      cases hA
  subst hl
  exact ⟨h.1.symm, rfl⟩
theorem Rd.cut {i m : Nat} (h : Rd w B A n l) (hi : i + m ≤ n) (A' : Option Addr) (hA : 0 < m → A' = A.map fun a => a.add i) : Rd w B A' m ((l.drop i).take m) := by
  refine ⟨by have := h.1; simp; omega, fun k c hc => ?_⟩
  have hk : k < m := by
    have := (List.getElem?_eq_some_iff.1 hc).1
    simp at this
    omega
  rw [List.getElem?_take, if_pos hk, List.getElem?_drop] at hc
  obtain ⟨b, o, rfl, hb, hcell⟩ := h.2 _ c hc
  refine ⟨b, o + i, ?_, hb, by rw [Nat.add_assoc]; exact hcell⟩
  rw [hA (by omega)]
  simp [Addr.add_lit]
theorem Rd.pre {m : Nat} {r : List UInt8} (h : Rd w B A n (l ++ r)) (hm : l.length = m) : Rd w B A m l := by
  refine ⟨hm, fun k c hc => h.2 k c ?_⟩
  rw [List.getElem?_append_left (List.getElem?_eq_some_iff.1 hc).1]
  exact hc
theorem Rd.take {m : Nat} (h : Rd w B A n l) (hm : m ≤ n) : Rd w B A m (l.take m) := by
  refine ⟨by have := h.1; rw [List.length_take]; omega, fun k c hc => h.2 k c ?_⟩
  rw [List.getElem?_take] at hc
  split at hc
  · exact hc
  · cases hc
theorem OwnB.len (h : OwnB w e B v n l) : l.length = n := by have := h.1; simpa using this
theorem OwnB.cap (h : OwnB w e B (.slice A n c) n l) : n ≤ c := by
  rcases h.2 with ⟨hv, hn⟩ | ⟨g, cap, cur, hv, _, _, hc, _⟩
  · omega
  · injection hv with _ _ h3
    omega
theorem OwnB.rd (h : OwnB w e B (.slice A n c) n l) : Rd w w.heap.size A n l := by
  refine ⟨h.len, fun k d hd => ?_⟩
  have hk : k < n := by have := (List.getElem?_eq_some_iff.1 hd).1; have := h.len; omega
  obtain ⟨g, cap, hv, _, hlt⟩ := World.ownsRow.form h (by omega)
  have hA : A = some ⟨g, 0, none⟩ := by injection hv
  subst hA
  refine ⟨g, 0, rfl, hlt, ?_⟩
  have hcell := World.ownsRow.cells h (g := g) rfl k (bv d) (by rw [List.getElem?_map, hd]; rfl)
  rw [Addr.add_lit] at hcell
  exact hcell
theorem OwnB.alloc (h : OwnB w e B v n l) (o : Obj) : OwnB (w.alloc o) e B v n l := World.ownsRow.alloc h o
theorem OwnB.more (h : OwnB w e B v n l) (hB : B' ≤ B) : OwnB w e B' v n l := by
  refine ⟨h.1, ?_⟩
  rcases h.2 with h2 | ⟨g, cap, cur, h3, h4, h5⟩
  · exact .inl h2
  · exact .inr ⟨g, cap, cur, h3, by omega, h5⟩
theorem OwnB.nil : OwnB w e B (.slice none 0 0) 0 [] := World.ownsRow_nil _ _ _ _
theorem OwnB.below (h : OwnB w e B v n l) (hb : Below w.heap.size w w') : OwnB w' e B v n l := by
  refine World.ownsRow.kept (row := none) h ⟨hb.os, hb.tape, hb.output, hb.size, fun k hk _ => hb.block k hk⟩ ?_
  cases v.ownBlock <;> simp
theorem bel_trans {a b c : World} (h : Below a.heap.size a b) (k : Below b.heap.size b c) : Below a.heap.size a c := h.trans (k.mono h.size)
theorem bel_alloc {a b : World} (h : Below a.heap.size a b) (o : Obj) : Below a.heap.size a (b.alloc o) := h.alloc h.size o
theorem bel_drewN {a b : World} (h : Below B a b) (k : Nat) : Below B a (b.drewN k) := ⟨h.os, h.tape, h.output, h.size, h.block⟩
theorem Rd.drewN (h : Rd w B A n l) (k : Nat) : Rd (w.drewN k) B A n l := h
theorem Rd.drew (h : Rd w B A n l) : Rd w.drew B A n l := h
theorem OwnB.drew (h : OwnB w e B v n l) : OwnB w.drew e B v n l := h
theorem RB.below {en : Ending} (h : RB e B w l en w') : Below B w w' := by
  obtain ⟨_, _, _, _, _, hb⟩ := h
  exact hb
end

section
variable {P : Program} (w : World)

theorem run_append_nilB (base : Nat) (t ty e : TypeId) (i : TypeInfo) (ht : P.underlying t = some (.slice e)) (hi : P.info? e = some i)
    (v : Value) (n : Nat) (xs : List Value) (hown : w.ownsRow base e 1 v n xs) (c : Nat) : (Builtin.append_ #[t, t] ty #[v, .slice none 0 c]).run P w = .ok v w := by
  rcases hown.2 with ⟨rfl, rfl⟩ | ⟨g, cap, cur, rfl, _, _, hnc, _⟩
  · simp [Builtin.append_, run_underlying ht, sizeOf, typeInfo, hi, Builtin.lenOf, Builtin.firstCells]
  · simp [Builtin.append_, run_underlying ht, sizeOf, typeInfo, hi, Builtin.lenOf, Builtin.firstCells, hnc, storeCells]

theorem ownsRow_slice {base : Nat} {e : TypeId} {size : Nat} {v : Value} {n : Nat} {xs : List Value} (h : w.ownsRow base e size v n xs) : ∃ A c, v = .slice A n c := by
  rcases h.2 with ⟨rfl, rfl⟩ | ⟨g, cap, cur, rfl, _⟩
  · exact ⟨_, _, rfl⟩
  · exact ⟨_, _, rfl⟩

theorem below_of_grown {base : Nat} {e : TypeId} {size : Nat} {v : Value} {n : Nat} {xs : List Value} {w' : World} (h : w.ownsRow base e size v n xs) (hg : w.grownBy w' v.ownBlock) (hb : base ≤ w.heap.size) : Below base w w' :=
  (Below.refl base w).grown hg hb fun k hk => (h.lt k hk).1

theorem run_appB (base : Nat) (t ty e : TypeId) (ht : P.underlying t = some (.slice e)) (hI : U8 P e)
    (v : Value) (n : Nat) (l : List UInt8) (hown : OwnB w e base v n l) (B : Nat) (A : Option Addr) (m c : Nat) (news : List UInt8) (hr : Rd w B A m news)
    (hb : n + m ≤ 1099511627776) (hbase : base ≤ w.heap.size) :
    ∃ A' c' w', (Builtin.append_ #[t, t] ty #[v, .slice A m c]).run P w = .ok (.slice A' (n + m) c') w' ∧ OwnB w' e base (.slice A' (n + m) c') (n + m) (l ++ news) ∧ Below base w w' := by
  obtain ⟨i, hi, hz, hs, hby⟩ := hI
  cases A with
  | none =>
    obtain ⟨rfl, rfl⟩ := hr.isNil
    obtain ⟨A', c', rfl⟩ := ownsRow_slice w hown
    exact ⟨A', c', w, run_append_nilB w base t ty e i ht hi _ n _ hown c, by simpa using hown, Below.refl _ _⟩
  | some ad =>
    obtain ⟨v', w', hrun, h2, h3, _⟩ := run_append_own (P := P) w base t ty e i (.int .u8 0) 1 1 ht hi hz hs hby rfl (by decide) v n _ hown ad m c (news.map bv) (by simp [hr.len]) hr.cells (oneCell_bv _)
      (by unfold maxLen; omega) (by omega) hbase
    obtain ⟨A', c', rfl⟩ := ownsRow_slice w' h2
    exact ⟨A', c', w', hrun, by unfold OwnB; rw [List.map_append]; exact h2, below_of_grown w hown h3 hbase⟩

end
end Go.Proofs.Ytmjnleohchmadaa.Oct

/- A slice of bytes that came in, in the words of this layer. -/
namespace Go.Proofs.Ytmjnleohchmadaa.Oct
open Go.RowKit

theorem rd_of_row {w : World} {a : Option Addr} {len cap : Nat} {zs : List Int}
    (h : (a = none ∧ len = 0 ∧ cap = 0 ∧ zs = []) ∨
      ∃ x, a = some x ∧ len ≤ cap ∧ cap ≤ maxLen ∧ zs.length = cap ∧ (∀ i, i < zs.length → w.cell? (x.add i) = some (.int .u8 (zs.getD i 0))) ∧ ∀ n ∈ zs, (Lit.int .u8 n).wf = true) :
    ∃ l, Rd w w.heap.size a len l ∧ len ≤ cap := by
  rcases h with ⟨rfl, rfl, rfl, rfl⟩ | ⟨x, rfl, hl, _, hz, hcell, hwz⟩
  · exact ⟨[], Rd.nil, Nat.le_refl _⟩
  · refine ⟨(zs.take len).map fun z => UInt8.ofNat z.toNat, ⟨by simp; omega, fun k c hc => ?_⟩, hl⟩
    have hk : k < len := by
      have := (List.getElem?_eq_some_iff.1 hc).1
      simp at this
      omega
    have h0 := hcell k (by omega)
    obtain ⟨b, o, spot⟩ := x
    have hspot : spot = none := by
      rcases Nat.eq_zero_or_pos k with rfl | hp
      · simpa [Addr.add] using World.cell?_spot h0
      · have h00 := hcell 0 (by omega)
        simpa [Addr.add] using World.cell?_spot h00
    subst hspot
    rw [Addr.add_lit] at h0
    rw [List.getElem?_map, List.getElem?_take, if_pos hk, List.getElem?_eq_getElem (by omega)] at hc
    simp only [Option.map_some, Option.some.injEq] at hc
    refine ⟨b, o, rfl, World.block_lt_of_cell? w _ h0, ?_⟩
    rw [h0, ← hc]
    have hw := hwz zs[k] (List.getElem_mem _)
    have hb := bounds_u8 hw
    have e : zs.getD k 0 = zs[k] := by simp [List.getD, List.getElem?_eq_getElem (show k < zs.length by omega)]
    rw [e, ofNat_toNat' (by omega)]
    congr 2
    omega
end Go.Proofs.Ytmjnleohchmadaa.Oct

/- What a law's frame opens: arguments as the walks take them. -/
namespace Go.Proofs.Ytmjnleohchmadaa.Oct
open Go.RowKit Go.ChangeShapes Go.WideShapes Go.Deep
open Go.ChangeMaps (open_string)

def I64 (n : Int) : Prop := -9223372036854775808 ≤ n ∧ n ≤ 9223372036854775807
section
variable {H : Type} {enc : TypeId × Value → H} {P : Program} {W : World} {base : Nat} {v : Value} {d : DataW H} {p : List MemPlace} {t e : TypeId}
theorem open_bytes (ht : P.underlying t = some (.slice e)) (he : P.underlying e = some (.int .u8)) (hc : P.cellsOf e = 1) (hv : Value.okWide P W .any base t v) (h : DataW.Trod enc P W 0 (fun _ => true) true t v d p) :
    ∃ a len cap l, v = .slice a len cap ∧ Rd W W.heap.size a len l ∧ len ≤ cap := by
  obtain ⟨a, len, cap, rfl⟩ := okWide_slice ht hv
  obtain ⟨fuel, hf⟩ := h
  rcases open_ints ht he hc hf with ⟨hcs, _⟩ | ⟨x, l, c, zs, hcs, _, hl, hm, hz, _, hcell, hwz⟩
  · simp [Value.cells] at hcs
    obtain ⟨rfl, rfl, rfl⟩ := hcs
    exact ⟨none, 0, 0, [], rfl, Rd.nil, Nat.le_refl _⟩
  · simp [Value.cells] at hcs
    obtain ⟨rfl, rfl, rfl⟩ := hcs
    obtain ⟨q, hq⟩ := rd_of_row (w := W) (zs := zs) (.inr ⟨x, rfl, hl, hm, by simpa using hz, hcell, hwz⟩)
    exact ⟨_, _, _, q, rfl, hq.1, hq.2⟩
end
end Go.Proofs.Ytmjnleohchmadaa.Oct

/- Rows of structs: what a slice of structs of so many cells holds, and one of the call's own; the laws of append in these words. Nothing of the program: P, the types' numbers, the struct's cells and the worlds are letters. -/
namespace Go.Proofs.Ytmjnleohchmadaa.RowF
open Go.RowKit Go.Proofs.Ytmjnleohchmadaa.Oct

structure Shape {α : Type} (f : α → List Value) (size : Nat) : Prop where
  len : ∀ x, (f x).length = size
  one : ∀ x, ∀ u ∈ f x, u.oneCell' = true
  pos : 0 < size
section
variable {α : Type} {f : α → List Value} {size : Nat}
theorem Shape.at (h : Shape f size) {l : List α} {k i : Nat} {x : α} (hk : l[k]? = some x) (hi : i < size) : (l.flatMap f)[k * size + i]? = (f x)[i]? := by
  induction l generalizing k with
  | nil => simp at hk
  | cons y l ih =>
    rw [List.flatMap_cons]
    cases k with
    | zero =>
      obtain rfl : y = x := by simpa using hk
      rw [Nat.zero_mul, Nat.zero_add, List.getElem?_append_left (by rw [h.len]; exact hi)]
    | succ k =>
      rw [List.getElem?_cons_succ] at hk
      rw [List.getElem?_append_right (by rw [h.len, Nat.succ_mul]; omega), h.len, show (k + 1) * size + i - size = k * size + i by rw [Nat.succ_mul]; omega]
      exact ih hk
theorem Shape.flat (h : Shape f size) (l : List α) : (l.flatMap f).length = l.length * size := by
  induction l with
  | nil => simp
  | cons y l ih => rw [List.flatMap_cons, List.length_append, ih, h.len, List.length_cons, Nat.succ_mul, Nat.add_comm]
theorem Shape.inv (h : Shape f size) {l : List α} {j : Nat} {u : Value} (hj : (l.flatMap f)[j]? = some u) : ∃ k x i, l[k]? = some x ∧ i < size ∧ j = k * size + i ∧ (f x)[i]? = some u := by
  have hlt := (List.getElem?_eq_some_iff.1 hj).1
  rw [h.flat] at hlt
  have hk : j / size < l.length := Nat.div_lt_of_lt_mul (by rw [Nat.mul_comm]; exact hlt)
  have hi := Nat.mod_lt j h.pos
  have he : j = j / size * size + j % size := by rw [Nat.mul_comm]; exact (Nat.div_add_mod j size).symm
  refine ⟨j / size, l[j / size], j % size, List.getElem?_eq_getElem hk, hi, he, ?_⟩
  rw [← h.at (List.getElem?_eq_getElem hk) hi, ← he, hj]
theorem Shape.set (h : Shape f size) {l : List α} {k i : Nat} {x y : α} {u : Value} (hk : l[k]? = some x) (hi : i < size) (hy : f y = (f x).set i u) : (l.flatMap f).set (k * size + i) u = (l.set k y).flatMap f := by
  have hlt := (List.getElem?_eq_some_iff.1 hk).1
  apply List.ext_getElem?
  intro j
  by_cases hj : j < l.length * size
  · have hkk : j / size < l.length := Nat.div_lt_of_lt_mul (by rw [Nat.mul_comm]; exact hj)
    have hii := Nat.mod_lt j h.pos
    have he : j = j / size * size + j % size := by rw [Nat.mul_comm]; exact (Nat.div_add_mod j size).symm
    obtain ⟨a, ha⟩ : ∃ a, j / size = a := ⟨_, rfl⟩
    obtain ⟨b, hb⟩ : ∃ b, j % size = b := ⟨_, rfl⟩
    rw [ha, hb] at he
    rw [ha] at hkk
    rw [hb] at hii
    subst he
    have hla : l[a]? = some l[a] := List.getElem?_eq_getElem hkk
    rw [List.getElem?_set]
    by_cases hka : k = a
    · subst hka
      have hs : (l.set k y)[k]? = some y := by rw [List.getElem?_set, if_pos rfl, if_pos hlt]
      rw [h.at hs hii, hy, List.getElem?_set, h.flat, h.len]
      by_cases hib : i = b
      · subst hib; rw [if_pos rfl, if_pos rfl, if_pos hj, if_pos hi]
      · rw [if_neg (by omega), if_neg hib, h.at hk hii]
    · have hs : (l.set k y)[a]? = some l[a] := by rw [List.getElem?_set, if_neg hka, hla]
      rw [h.at hs hii, h.at hla hii, if_neg]
      intro he
      have h1 : (k * size + i) / size = (a * size + b) / size := by rw [he]
      rw [Nat.mul_comm k, Nat.mul_comm a, Nat.mul_add_div h.pos, Nat.mul_add_div h.pos, Nat.div_eq_of_lt hi, Nat.div_eq_of_lt hii] at h1
      exact hka h1
  · rw [List.getElem?_eq_none (by rw [List.length_set, h.flat]; omega), List.getElem?_eq_none (by rw [h.flat, List.length_set]; omega)]
theorem Shape.ones (h : Shape f size) (l : List α) : ∀ u ∈ l.flatMap f, u.oneCell' = true := by
  intro u hu
  obtain ⟨x, _, hx⟩ := List.mem_flatMap.1 hu
  exact h.one x u hx
end

def RdF {α : Type} (f : α → List Value) (size : Nat) (w : World) (B : Nat) (A : Option Addr) (n : Nat) (l : List α) : Prop :=
  l.length = n ∧ ∀ k x, l[k]? = some x → ∃ b o, A = some ⟨b, o, none⟩ ∧ b < B ∧ ∀ i v, (f x)[i]? = some v → w.cell? ⟨b, o + k * size + i, none⟩ = some v
def OwnF {α : Type} (f : α → List Value) (size : Nat) (w : World) (e : TypeId) (B : Nat) (v : Value) (n : Nat) (l : List α) : Prop := w.ownsRow B e size v n (l.flatMap f)
section
variable {α : Type} {f : α → List Value} {size : Nat} {w w' : World} {e : TypeId} {B B' n c : Nat} {A : Option Addr} {v : Value} {l : List α}
theorem RdF.len (h : RdF f size w B A n l) : l.length = n := h.1
theorem RdF.nil : RdF f size w B A 0 [] := ⟨rfl, by simp⟩
theorem RdF.keep (h : RdF f size w B A n l) (hk : ∀ p : Addr, p.block < B → w'.cell? p = w.cell? p) : RdF f size w' B A n l :=
  ⟨h.1, fun k x hx => by
    obtain ⟨b, o, hA, hb, hc⟩ := h.2 k x hx
    exact ⟨b, o, hA, hb, fun i v hv => (hk _ hb).trans (hc i v hv)⟩⟩
theorem RdF.more (h : RdF f size w B A n l) (hB : B ≤ B') : RdF f size w B' A n l :=
  ⟨h.1, fun k x hx => by
    obtain ⟨b, o, hA, hb, hc⟩ := h.2 k x hx
    exact ⟨b, o, hA, by omega, hc⟩⟩
theorem RdF.below (h : RdF f size w B A n l) (hb : Below B' w w') (hB : B ≤ B') : RdF f size w' B A n l := h.keep fun _ hp => hb.cell (by omega)
theorem RdF.alloc (h : RdF f size w B A n l) (hB : B ≤ w.heap.size) (o : Obj) : RdF f size (w.alloc o) B A n l := h.keep fun p hp => World.cell?_alloc_lt w o p (by omega)
theorem RdF.at {k : Nat} (h : RdF f size w B A n l) (hk : k < n) : ∃ b o x, A = some ⟨b, o, none⟩ ∧ b < B ∧ l[k]? = some x ∧ ∀ i v, (f x)[i]? = some v → w.cell? ⟨b, o + k * size + i, none⟩ = some v := by
  have hl : k < l.length := by have := h.1; omega
  obtain ⟨b, o, hA, hb, hc⟩ := h.2 k l[k] (List.getElem?_eq_getElem hl)
  exact ⟨b, o, l[k], hA, hb, List.getElem?_eq_getElem hl, hc⟩
theorem RdF.isNil (h : RdF f size w B none n l) : n = 0 ∧ l = [] := by
  have hl : l = [] := by
    cases l with
    | nil => rfl
    | cons c l => obtain ⟨b, o, hA, _⟩ := h.2 0 c rfl; cases hA
  subst hl
  exact ⟨h.1.symm, rfl⟩
theorem RdF.cells (hs : Shape f size) {ad : Addr} (h : RdF f size w B (some ad) n l) : ∀ j u, (l.flatMap f)[j]? = some u → w.cell? (ad.add j) = some u := by
  intro j u hu
  obtain ⟨k, x, i, hk, hi, rfl, hx⟩ := hs.inv hu
  obtain ⟨b, o, hA, _, hc⟩ := h.2 k x hk
  obtain rfl := Option.some.inj hA
  rw [Addr.add_lit, ← Nat.add_assoc]
  exact hc i u hx
theorem OwnF.len (hs : Shape f size) (h : OwnF f size w e B v n l) : l.length = n := by
  have h1 := h.1
  rw [hs.flat] at h1
  exact Nat.eq_of_mul_eq_mul_right hs.pos h1
theorem OwnF.nil : OwnF f size w e B (.slice none 0 0) 0 [] := World.ownsRow_nil _ _ _ _
theorem OwnF.alloc (h : OwnF f size w e B v n l) (o : Obj) : OwnF f size (w.alloc o) e B v n l := World.ownsRow.alloc h o
theorem OwnF.drew (h : OwnF f size w e B v n l) : OwnF f size w.drew e B v n l := h
theorem OwnF.drewN (h : OwnF f size w e B v n l) (k : Nat) : OwnF f size (w.drewN k) e B v n l := h
theorem OwnF.more (h : OwnF f size w e B v n l) (hB : B' ≤ B) : OwnF f size w e B' v n l := by
  refine ⟨h.1, ?_⟩
  rcases h.2 with h2 | ⟨g, cap, cur, h3, h4, h5⟩
  · exact .inl h2
  · exact .inr ⟨g, cap, cur, h3, by omega, h5⟩
theorem OwnF.below (h : OwnF f size w e B v n l) (hb : Below w.heap.size w w') : OwnF f size w' e B v n l := by
  refine World.ownsRow.kept (row := none) h ⟨hb.os, hb.tape, hb.output, hb.size, fun k hk _ => hb.block k hk⟩ ?_
  cases v.ownBlock <;> simp
theorem OwnF.setBelow (h : OwnF f size w e B v n l) {a : Addr} (ha : a.block < B) (u : Value) : OwnF f size (w.setCell a u) e B v n l := ownsRow_setCell_below h ha u
theorem OwnF.cap (h : OwnF f size w e B (.slice A n c) n l) : n ≤ c := by
  rcases h.2 with ⟨hv, hn⟩ | ⟨g, cap, cur, hv, _, _, hc, _⟩
  · omega
  · injection hv with _ _ h3
    omega
theorem OwnF.form (h : OwnF f size w e B (.slice A n c) n l) (hn : 0 < n) : ∃ g, A = some ⟨g, 0, none⟩ ∧ B ≤ g ∧ g < w.heap.size := by
  obtain ⟨g, cap, hv, hb, hl⟩ := World.ownsRow.form h hn
  injection hv with h1
  exact ⟨g, h1, hb, hl⟩
theorem OwnF.rd (hs : Shape f size) (h : OwnF f size w e B (.slice A n c) n l) : RdF f size w w.heap.size A n l := by
  refine ⟨h.len hs, fun k x hk => ?_⟩
  have hkn : k < n := by have := (List.getElem?_eq_some_iff.1 hk).1; have := h.len hs; omega
  obtain ⟨g, rfl, _, hlt⟩ := h.form (by omega)
  refine ⟨g, 0, rfl, hlt, fun i u hu => ?_⟩
  have hi : i < size := by have := (List.getElem?_eq_some_iff.1 hu).1; rw [hs.len] at this; exact this
  have hcell := World.ownsRow.cells h (g := g) rfl (k * size + i) u (by rw [hs.at hk hi, hu])
  rw [Addr.add_lit, ← Nat.add_assoc] at hcell
  exact hcell
theorem OwnF.frozen {g : Nat} (h : OwnF f size w e B (.slice (some ⟨g, 0, none⟩) n c) n l) (j : Nat) : w.frozen? ⟨g, j, none⟩ = false := World.ownsRow.frozenAt h j
end

section
variable {α : Type} {f : α → List Value} {size : Nat} {w : World} {e : TypeId} {B g n c : Nat} {l : List α}
theorem OwnF.set (hs : Shape f size) (h : OwnF f size w e B (.slice (some ⟨g, 0, none⟩) n c) n l) (hg : B ≤ g) {k i : Nat} {x y : α} {u : Value} (hk : l[k]? = some x) (hi : i < size) (hy : f y = (f x).set i u) :
    OwnF f size (w.setCell ⟨g, k * size + i, none⟩ u) e B (.slice (some ⟨g, 0, none⟩) n c) n (l.set k y) ∧ Below B w (w.setCell ⟨g, k * size + i, none⟩ u) := by
  refine ⟨?_, (Below.refl B w).setCell hg _⟩
  have h1 := (World.ownsRow.stored h (k * size + i) u).1
  rw [hs.set hk hi hy] at h1
  exact h1
end

section
variable {α : Type} {f : α → List Value} {size : Nat} {P : Program} (w : World)
def Info (P : Program) (e : TypeId) (size bytes : Nat) : Prop := ∃ i z, P.info? e = some i ∧ i.zero = some z ∧ i.size = size ∧ i.bytes = bytes ∧ z.cells.size = size
theorem run_append_nilF (base : Nat) (t ty e : TypeId) (i : TypeInfo) (ht : P.underlying t = some (.slice e)) (hi : P.info? e = some i) (size : Nat)
    (v : Value) (n : Nat) (xs : List Value) (hown : w.ownsRow base e size v n xs) (c : Nat) : (Builtin.append_ #[t, t] ty #[v, .slice none 0 c]).run P w = .ok v w := by
  rcases hown.2 with ⟨rfl, rfl⟩ | ⟨g, cap, cur, rfl, _, _, hnc, _⟩
  · simp [Builtin.append_, run_underlying ht, sizeOf, typeInfo, hi, Builtin.lenOf, Builtin.firstCells]
  · simp [Builtin.append_, run_underlying ht, sizeOf, typeInfo, hi, Builtin.lenOf, Builtin.firstCells, hnc, storeCells]
theorem run_appF (hs : Shape f size) (bytes : Nat) (base : Nat) (t ty e : TypeId) (ht : P.underlying t = some (.slice e)) (hI : Info P e size bytes)
    (v : Value) (n : Nat) (l : List α) (hown : OwnF f size w e base v n l) (B : Nat) (A : Option Addr) (m c : Nat) (news : List α) (hr : RdF f size w B A m news)
    (hb : (n + m) * bytes ≤ 140737488355328) (h63 : n + m ≤ 140737488355328) (hbase : base ≤ w.heap.size) :
    ∃ A' c' w', (Builtin.append_ #[t, t] ty #[v, .slice A m c]).run P w = .ok (.slice A' (n + m) c') w' ∧ OwnF f size w' e base (.slice A' (n + m) c') (n + m) (l ++ news) ∧ Below base w w' := by
  obtain ⟨i, z, hi, hz, hsz, hby, hzs⟩ := hI
  cases A with
  | none =>
    obtain ⟨rfl, rfl⟩ := hr.isNil
    obtain ⟨A', c', rfl⟩ := ownsRow_slice w hown
    exact ⟨A', c', w, run_append_nilF w base t ty e i ht hi size _ n _ hown c, by simpa using hown, Below.refl _ _⟩
  | some ad =>
    obtain ⟨v', w', hrun, h2, h3, _⟩ := run_append_own (P := P) w base t ty e i z size bytes ht hi hz hsz hby hzs hs.pos v n _ hown ad m c (news.flatMap f) (by rw [hs.flat, hr.len]) (hr.cells hs) (hs.ones _)
      (by unfold maxLen; omega) hb hbase
    obtain ⟨A', c', rfl⟩ := ownsRow_slice w' h2
    exact ⟨A', c', w', hrun, by unfold OwnF; rw [List.flatMap_append]; exact h2, below_of_grown w hown h3 hbase⟩
theorem wpList_appF {ops : Array Oper} {rest : List Oper} {o : Oper} {a : Act} {Q : Exit → Act → World → Prop} (hs : Shape f size) (hgd : o.guard = none) (s x : Operand) (t : TypeId)
    (ho : o.op = .call { callee := .builtin .append, args := #[s, x], argTypes := #[t, t] })
    (bytes base : Nat) (e : TypeId) (ht : P.underlying t = some (.slice e)) (hI : Info P e size bytes)
    (v : Value) (n : Nat) (l : List α) (hsv : a.eval s = v) (hown : OwnF f size w e base v n l)
    (B : Nat) (A : Option Addr) (m c : Nat) (news : List α) (hx : a.eval x = .slice A m c) (hr : RdF f size w B A m news)
    (hb : (n + m) * bytes ≤ 140737488355328) (h63 : n + m ≤ 140737488355328) (hbase : base ≤ w.heap.size)
    (h : ∀ A' c' w', OwnF f size w' e base (.slice A' (n + m) c') (n + m) (l ++ news) → Below base w w' → wpList P ops Q rest (a.put o.dst (.slice A' (n + m) c')) w') : wpList P ops Q (o :: rest) a w := by
  refine wpList_plain hgd fun K hK => ?_
  obtain ⟨A', c', w', hrun, h2, h3⟩ := run_appF (P := P) w hs bytes base t o.type e ht hI v n l hown B A m c news hr hb h63 hbase
  unfold Oper.wp execOp
  simp only [ho, resolve, invoke, builtin, Sem.run_bind, Sem.run_pure, Result.andThen_ok, List.map_toArray, List.map_cons, List.map_nil, hsv, hx, hrun]
  exact hK _ _ (h A' c' w' h2 h3)
theorem rdF_new (_hs : Shape f size) (e : TypeId) (x : α) : RdF f size (w.alloc (.cells (f x).toArray e)) (w.heap.size + 1) (some ⟨w.heap.size, 0, none⟩) 1 [x] := by
  refine ⟨rfl, fun k y hk => ?_⟩
  match k, hk with
  | 0, hk =>
    obtain rfl : x = y := by simpa using hk
    refine ⟨_, _, rfl, Nat.lt_succ_self _, fun i u hu => ?_⟩
    rw [cell_of_row _ _ _ _ e _ (heap_alloc_new w _)]
    simpa using hu
end
end Go.Proofs.Ytmjnleohchmadaa.RowF

/- Two rows of the call's own side by side: append to one leaves the other alone. Nothing of the program. -/
namespace Go.Proofs.Ytmjnleohchmadaa.RowF
open Go.RowKit Go.Proofs.Ytmjnleohchmadaa.Oct

theorem grown_refl (w : World) (r : Option Nat) : w.grownBy w r := ⟨rfl, rfl, rfl, Nat.le_refl _, fun _ _ _ => rfl⟩
def Apart (v u : Value) : Prop := ∀ g, v.ownBlock = some g → u.ownBlock ≠ some g
theorem Apart.symm {v u : Value} (h : Apart v u) : Apart u v := fun g hu hv => h g hv hu
theorem Apart.nil (u : Value) (c : Nat) : Apart (.slice none 0 c) u := fun g h => by cases h
section
variable {α : Type} {f : α → List Value} {size : Nat} {P : Program} (w : World)
theorem run_appFG (hs : Shape f size) (bytes : Nat) (base : Nat) (t ty e : TypeId) (ht : P.underlying t = some (.slice e)) (hI : Info P e size bytes)
    (v : Value) (n : Nat) (l : List α) (hown : OwnF f size w e base v n l) (B : Nat) (A : Option Addr) (m c : Nat) (news : List α) (hr : RdF f size w B A m news)
    (hb : (n + m) * bytes ≤ 140737488355328) (h63 : n + m ≤ 140737488355328) (hbase : base ≤ w.heap.size) :
    ∃ A' c' w', (Builtin.append_ #[t, t] ty #[v, .slice A m c]).run P w = .ok (.slice A' (n + m) c') w' ∧ OwnF f size w' e base (.slice A' (n + m) c') (n + m) (l ++ news) ∧ w.grownBy w' v.ownBlock ∧ ((Value.slice A' (n + m) c').ownBlock = v.ownBlock ∨ (Value.slice A' (n + m) c').ownBlock = some w.heap.size) := by
  obtain ⟨i, z, hi, hz, hsz, hby, hzs⟩ := hI
  cases A with
  | none =>
    obtain ⟨rfl, rfl⟩ := hr.isNil
    obtain ⟨A', c', rfl⟩ := ownsRow_slice w hown
    exact ⟨A', c', w, run_append_nilF w base t ty e i ht hi size _ n _ hown c, by simpa using hown, grown_refl _ _, .inl (by cases A' <;> rfl)⟩
  | some ad =>
    obtain ⟨v', w', hrun, h2, h3, _, h5⟩ := run_append_own_at (P := P) w base t ty e i z size bytes ht hi hz hsz hby hzs hs.pos v n _ hown ad m c (news.flatMap f) (by rw [hs.flat, hr.len]) (hr.cells hs) (hs.ones _)
      (by unfold maxLen; omega) hb hbase
    obtain ⟨A', c', rfl⟩ := ownsRow_slice w' h2
    exact ⟨A', c', w', hrun, by unfold OwnF; rw [List.flatMap_append]; exact h2, h3, h5⟩
end
end Go.Proofs.Ytmjnleohchmadaa.RowF

/- What layer 1's calls answer, as plain functions, and lemmas of numbers and worlds: nothing of the program but the types' numbers. -/
namespace Go.Proofs.Ytmjnleohchmadaa.Oct
open Go.RowKit

def isW (k : Int) : Bool := decide (1 ≤ k ∧ k ≤ 8)

def hasB (n : Nat) (k m : Int) : Bool := decide (k ≤ n ∧ m ≤ n - k)

def avRel (base : Nat) (l : List UInt8) (z : Nat) (w : World) (v i : Value) (wr : World) : Prop :=
  ∃ A1 n1 c1 u l1, v = .slice A1 n1 c1 ∧ i = .int .u64 ((u : Nat) : Int) ∧ OwnB wr 5 base (.slice A1 n1 c1) n1 (l ++ l1) ∧ l1 ++ vb u = vb z ∧ u < 18446744073709551616 ∧ Below base w wr

def putRel (base : Nat) (l : List UInt8) (x k : Nat) (w : World) (v i : Value) (wr : World) : Prop :=
  ∃ A1 n1 c1 j, v = .slice A1 n1 c1 ∧ i = .int .i64 ((j : Nat) : Int) ∧ j ≤ k ∧ OwnB wr 5 base (.slice A1 n1 c1) n1 (l ++ beN x k j) ∧ Below base w wr

def gv (l : List UInt8) (k : Int) : Int × Int × Int :=
  if k < 0 then (0, 0, 1) else match scan (l.drop k.toNat) 0 0 with
    | .short => (0, 0, 10)
    | .form => (0, 0, 11)
    | .ok u n => (uz u, k + n, 0)

def GV (l : List UInt8) (k : Int) (e : Ending) : Prop := e = .returned (.tuple #[.int .i64 (gv l k).1, .int .i64 (gv l k).2.1, .int .i64 (gv l k).2.2])

theorem GV.neg {l : List UInt8} {k : Int} (h : k < 0) : GV l k (.returned (.tuple #[.int .i64 0, .int .i64 0, .int .i64 1])) := by unfold GV gv; rw [if_pos h]

theorem GV.short {l : List UInt8} {m : Nat} (h : scan (l.drop m) 0 0 = .short) : GV l (m : Int) (.returned (.tuple #[.int .i64 0, .int .i64 0, .int .i64 10])) := by
  unfold GV gv; rw [if_neg (by omega), Int.toNat_natCast, h]

theorem GV.form {l : List UInt8} {m : Nat} (h : scan (l.drop m) 0 0 = .form) : GV l (m : Int) (.returned (.tuple #[.int .i64 0, .int .i64 0, .int .i64 11])) := by
  unfold GV gv; rw [if_neg (by omega), Int.toNat_natCast, h]

theorem GV.ok {l : List UInt8} {m u n : Nat} {x y : Int} (h : scan (l.drop m) 0 0 = .ok u n) (hx : x = uz u) (hy : y = (m : Int) + (n : Int)) : GV l (m : Int) (.returned (.tuple #[.int .i64 x, .int .i64 y, .int .i64 0])) := by
  unfold GV gv; rw [if_neg (by omega), Int.toNat_natCast, h, hx, hy]

theorem scan_lt {l : List UInt8} {m u n : Nat} (h : scan (l.drop m) 0 0 = .ok u n) : u < 18446744073709551616 := by
  obtain ⟨z, r, _, rfl, _, _, hz, _⟩ := scan_ok _ 0 0 u n (by omega) h
  simpa using hz

theorem step_lt {U j d : Nat} (h : U < 128 ^ j) (hd : d < 256) : U + (d - 128) * 128 ^ j < 128 ^ (j + 1) := by
  have h2 : (d - 128) * 128 ^ j ≤ 127 * 128 ^ j := Nat.mul_le_mul_right _ (by omega)
  rw [Nat.pow_succ]
  omega

theorem drop_at {l : List UInt8} {k : Nat} {c : UInt8} (h : l[k]? = some c) : l.drop k = c :: l.drop (k + 1) := by
  obtain ⟨hk, rfl⟩ := List.getElem?_eq_some_iff.1 h
  exact List.drop_eq_getElem_cons hk

def gvRel (l : List UInt8) (m : Nat) (v i : Value) : Prop :=
  ∃ U j, v = .int .u64 ((U : Nat) : Int) ∧ i = .int .i64 ((j : Nat) : Int) ∧ j ≤ 9 ∧ U < 128 ^ j ∧ scan (l.drop m) 0 0 = scan (l.drop (m + j)) j U

def gt (l : List UInt8) (p k : Int) : Nat × Int :=
  if isW k = false ∨ p < 0 then (0, 1) else if hasB l.length p k = false then (0, 10) else (getN ((l.drop p.toNat).take k.toNat), 0)

def GT (l : List UInt8) (p k : Int) (e : Ending) : Prop := e = .returned (.tuple #[.int .u64 ((gt l p k).1 : Int), .int .i64 (gt l p k).2])

def gtRel (l : List UInt8) (k : Nat) (v i : Value) : Prop :=
  ∃ j U, v = .int .u64 ((U : Nat) : Int) ∧ i = .int .i64 ((j : Nat) : Int) ∧ j ≤ k ∧ U = getN (l.take j)

def gx (l : List UInt8) (p most : Int) : ByteArray × Int × Int :=
  if (gv l p).2.2 ≠ 0 then (ByteArray.empty, 0, (gv l p).2.2)
  else if (gv l p).1 < 0 then (ByteArray.empty, 0, 11)
  else if most < (gv l p).1 then (ByteArray.empty, 0, 2)
  else if hasB l.length (gv l p).2.1 (gv l p).1 = false then (ByteArray.empty, 0, 10)
  else (⟨((l.drop (gv l p).2.1.toNat).take (gv l p).1.toNat).toArray⟩, (gv l p).2.1 + (gv l p).1, 0)

def GX (l : List UInt8) (p most : Int) (e : Ending) : Prop := e = .returned (.tuple #[.string (gx l p most).1, .int .i64 (gx l p most).2.1, .int .i64 (gx l p most).2.2])

def sameB (l m : List UInt8) : Bool := l == m

def fewB (n : Nat) : Bool := decide ((n : Int) ≤ 5000)

theorem gv_good {l : List UInt8} {p x y : Int} (h : gv l p = (x, y, 0)) :
    0 ≤ p ∧ p < y ∧ y ≤ l.length ∧ y ≤ p + 10 ∧ vb (zz x) = (l.drop p.toNat).take (y - p).toNat ∧ -9223372036854775808 ≤ x ∧ x ≤ 9223372036854775807 := by
  unfold gv at h
  by_cases h0 : p < 0
  · rw [if_pos h0] at h; simp at h
  · rw [if_neg h0] at h
    cases hs : scan (l.drop p.toNat) 0 0 with
    | short => rw [hs] at h; simp at h
    | form => rw [hs] at h; simp at h
    | ok u n =>
      rw [hs] at h
      simp only [Prod.mk.injEq, and_true] at h
      obtain ⟨h1, h2⟩ := h
      have hu := scan_lt hs
      obtain ⟨z, r, hl, hz, hk, _, hz2, h10⟩ := scan_ok _ 0 0 u n (by omega) hs
      have hz' : u = z := by simpa using hz
      subst hz'
      have h3 := congrArg List.length hl
      have h4 := vb_pos u
      have hi := uz_in hu
      simp only [List.length_drop, List.length_append] at h3
      refine ⟨by omega, by omega, by omega, by omega, ?_, by omega, by omega⟩
      rw [← h1, zz_uz, hl, List.take_left' (by omega)]

theorem gx_good {l : List UInt8} {p most y : Int} {t : ByteArray} (h : gx l p most = (t, y, 0)) :
    0 ≤ p ∧ p < y ∧ y ≤ l.length ∧ (t.size : Int) ≤ most ∧ vb (zz t.size) ++ t.data.toList = (l.drop p.toNat).take (y - p).toNat ∧ t.size ≤ l.length := by
  unfold gx at h
  by_cases h1 : (gv l p).2.2 ≠ 0
  · rw [if_pos h1] at h; simp only [Prod.mk.injEq] at h; exact absurd h.2.2 h1
  · rw [if_neg h1] at h
    have hz : (gv l p).2.2 = 0 := by omega
    by_cases h2 : (gv l p).1 < 0
    · rw [if_pos h2] at h; simp at h
    · rw [if_neg h2] at h
      by_cases h3 : most < (gv l p).1
      · rw [if_pos h3] at h; simp at h
      · rw [if_neg h3] at h
        by_cases h4 : hasB l.length (gv l p).2.1 (gv l p).1 = false
        · rw [if_pos h4] at h; simp at h
        · rw [if_neg h4] at h
          have h4' : hasB l.length (gv l p).2.1 (gv l p).1 = true := by simpa using h4
          obtain ⟨g1, g2, g3, g4, g5, g6, g7⟩ := gv_good (l := l) (p := p) (x := (gv l p).1) (y := (gv l p).2.1) (by rw [← hz])
          have h5 : (gv l p).2.1 + (gv l p).1 ≤ l.length := by simp [hasB] at h4'; omega
          simp only [Prod.mk.injEq, and_true] at h
          obtain ⟨rfl, rfl⟩ := h
          generalize (gv l p).1 = x at *
          generalize (gv l p).2.1 = y at *
          have hsz : (ByteArray.mk (List.take x.toNat (List.drop y.toNat l)).toArray).size = x.toNat := by
            show (List.take x.toNat (List.drop y.toNat l)).toArray.size = _
            simp; omega
          have hsi : ((ByteArray.mk (List.take x.toNat (List.drop y.toNat l)).toArray).size : Int) = x := by rw [hsz]; omega
          refine ⟨by omega, by omega, by omega, by omega, ?_, by omega⟩
          rw [hsi, g5]
          show _ ++ List.take x.toNat (List.drop y.toNat l) = _
          have e1 : (y + x - p).toNat = (y - p).toNat + x.toNat := by omega
          have e2 : y.toNat = p.toNat + (y - p).toNat := by omega
          rw [e1, List.take_add, e2, List.drop_drop]

def incRel (e : TypeId) (base : Nat) (A : Option Addr) (n c : Nat) (w0 : World) (i : Value) (wr : World) : Prop :=
  ∃ j, i = .int .i64 ((j : Nat) : Int) ∧ j ≤ n ∧ (∃ l, OwnB wr e base (.slice A n c) n l) ∧ Below base w0 wr

end Go.Proofs.Ytmjnleohchmadaa.Oct

/- The byte's row of the table, and a slice of bytes as a string. -/
namespace Go.Proofs.Ytmjnleohchmadaa.Oct
open Go.RowKit

theorem u8row : U8 Try.prog 5 := by
  obtain ⟨i, h1, h2, h3, h4⟩ := info_parts (P := Try.prog) (e := 5) (z := .int .u8 0) (size := 1) (bytes := 1) (by kernel_rfl)
  exact ⟨i, h1, h2, h3, h4⟩

end Go.Proofs.Ytmjnleohchmadaa.Oct

/- The contract of the document's Copy. -/
namespace Go.Proofs.Ytmjnleohchmadaa.Oct
open Go.RowKit

end Go.Proofs.Ytmjnleohchmadaa.Oct

/- The contract of the document's PutVar. -/
namespace Go.Proofs.Ytmjnleohchmadaa.Oct
open Go.RowKit

end Go.Proofs.Ytmjnleohchmadaa.Oct

/- The contract of the document's PutText. -/
namespace Go.Proofs.Ytmjnleohchmadaa.Oct
open Go.RowKit

end Go.Proofs.Ytmjnleohchmadaa.Oct

/- The contract of the document's Same. -/
namespace Go.Proofs.Ytmjnleohchmadaa.Oct
open Go.RowKit

end Go.Proofs.Ytmjnleohchmadaa.Oct
