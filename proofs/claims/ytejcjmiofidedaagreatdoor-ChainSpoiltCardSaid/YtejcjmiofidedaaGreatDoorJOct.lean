/- Joined: OctMath, OctWords, OctEnds, Ends, OctSpec, OctU8, OctRCopy, OctRPutVar, OctRPutText, RowF, RowG, OctFCopied, OctFIsWidth, OctFPut, OctFFold, OctFAppendVar, OctFPutText, OctFPutVar, OctRPut, OctFHas, OctFGet, OctFUnfold, OctFGetVar, OctFGetText, OctRGetVar, OctRGetText, OctRSame. -/
import GoSem.Op.String
import Derived.WalkKit
import Derived.Deep.AppendLies
import Derived.Lib.AppendStr
import Derived.Deep.Draws
import Derived.OpenShut
import Derived.ProofKit
import Derived.ShutString
import Derived.Carry
import Derived.Deep.Fields
import Derived.Lib.Hide
import Derived.WalkSpells
import Derived.WalkLawsBesides
import Derived.Laws.OwnMore
import Derived.Test.YtejcjmiofidedaaGreatDoorRows
import Derived.Maps.AppendAt
/- The plain mathematics of layer 1: bytes of a number, short bytes, their reading. Nothing of the program. -/
namespace Go.Proofs.YtejcjmiofidedaaGreatDoor.Oct

/-! ### numbers of k bytes -/
def beN (n k i : Nat) : List UInt8 := (List.range i).map fun j => UInt8.ofNat (n / 256 ^ (k - 1 - j))
def getN (l : List UInt8) : Nat := l.foldl (fun n c => n * 256 + c.toNat) 0

theorem beN_length (n k i : Nat) : (beN n k i).length = i := by simp [beN]
theorem beN_zero (n k : Nat) : beN n k 0 = [] := rfl
theorem beN_succ (n k i : Nat) : beN n k (i + 1) = beN n k i ++ [UInt8.ofNat (n / 256 ^ (k - 1 - i))] := by
  simp [beN, List.range_succ]
theorem getN_snoc (l : List UInt8) (c : UInt8) : getN (l ++ [c]) = getN l * 256 + c.toNat := by simp [getN]
theorem getN_nil : getN [] = 0 := rfl
theorem getN_from (l : List UInt8) (a : Nat) : l.foldl (fun n c => n * 256 + c.toNat) a = a * 256 ^ l.length + getN l := by
  induction l generalizing a with
  | nil => simp [getN]
  | cons c l ih =>
    unfold getN
    simp only [List.foldl_cons, List.length_cons]
    rw [ih, ih (0 * 256 + c.toNat), Nat.pow_succ, Nat.add_mul, Nat.zero_mul, Nat.zero_add, Nat.mul_assoc, Nat.mul_comm 256, Nat.add_assoc]
theorem getN_cons (c : UInt8) (l : List UInt8) : getN (c :: l) = c.toNat * 256 ^ l.length + getN l := by
  show List.foldl _ _ l = _
  rw [getN_from]; simp
theorem getN_lt (l : List UInt8) : getN l < 256 ^ l.length := by
  induction l with
  | nil => simp [getN]
  | cons c l ih =>
    rw [getN_cons, List.length_cons, Nat.pow_succ]
    have := c.toNat_lt
    have h2 : (c.toNat + 1) * 256 ^ l.length ≤ 256 * 256 ^ l.length := Nat.mul_le_mul_right _ (by omega)
    rw [Nat.add_mul, Nat.mul_comm 256] at h2
    omega
theorem getN_beN (n k i : Nat) (h : i ≤ k) : getN (beN n k i) = n / 256 ^ (k - i) % 256 ^ i := by
  induction i with
  | zero => simp [beN, getN, Nat.mod_one]
  | succ i ih =>
    rw [beN_succ, getN_snoc, ih (by omega)]
    have e1 : k - i = (k - (i + 1)) + 1 := by omega
    have e2 : k - 1 - i = k - (i + 1) := by omega
    rw [e1, e2, Nat.pow_succ, ← Nat.div_div_eq_div_mul, Nat.pow_succ]
    generalize n / 256 ^ (k - (i + 1)) = q
    have h1 : (UInt8.ofNat q).toNat = q % 256 := by simp
    rw [h1, Nat.mul_comm (256 ^ i) 256, Nat.mod_mul, Nat.add_comm, Nat.mul_comm 256]
theorem getN_be (n k : Nat) : getN (beN n k k) = n % 256 ^ k := by rw [getN_beN n k k (Nat.le_refl _)]; simp

theorem getN_inj (a b : List UInt8) (h : a.length = b.length) (e : getN a = getN b) : a = b := by
  induction a generalizing b with
  | nil => cases b with
    | nil => rfl
    | cons d b => simp at h
  | cons c a ih =>
    cases b with
    | nil => simp at h
    | cons d b =>
      have h' : a.length = b.length := by simpa using h
      have ha := getN_lt a
      have hb := getN_lt b
      rw [getN_cons, getN_cons, h'] at e
      rw [h'] at ha
      have hp : 0 < 256 ^ b.length := Nat.pow_pos (by omega)
      generalize 256 ^ b.length = p at *
      have hcd : c.toNat = d.toNat := by
        rcases Nat.lt_trichotomy c.toNat d.toNat with hlt | he | hlt
        · have h2 : (c.toNat + 1) * p ≤ d.toNat * p := Nat.mul_le_mul_right p hlt
          rw [Nat.add_mul] at h2
          omega
        · exact he
        · have h2 : (d.toNat + 1) * p ≤ c.toNat * p := Nat.mul_le_mul_right p hlt
          rw [Nat.add_mul] at h2
          omega
      have hcd' : c = d := UInt8.toNat_inj.1 hcd
      subst hcd'
      rw [ih b h' (by omega)]

/-! ### a number's short bytes -/
def zz (n : Int) : Nat := if 0 ≤ n then (2 * n).toNat else (-2 * n - 1).toNat
def uz (u : Nat) : Int := if u % 2 = 0 then ((u / 2 : Nat) : Int) else -((u / 2 : Nat) : Int) - 1
theorem uz_zz (n : Int) : uz (zz n) = n := by unfold uz zz; split <;> split <;> omega
theorem zz_uz (u : Nat) : zz (uz u) = u := by unfold uz zz; split <;> split <;> omega
theorem zz_lt {n : Int} (h : -9223372036854775808 ≤ n ∧ n ≤ 9223372036854775807) : zz n < 18446744073709551616 := by unfold zz; split <;> omega
theorem uz_in {u : Nat} (h : u < 18446744073709551616) : -9223372036854775808 ≤ uz u ∧ uz u ≤ 9223372036854775807 := by unfold uz; split <;> omega
def vb (u : Nat) : List UInt8 := if u < 128 then [UInt8.ofNat u] else UInt8.ofNat (u % 128 + 128) :: vb (u / 128)
termination_by u

theorem vb_small {u : Nat} (h : u < 128) : vb u = [UInt8.ofNat u] := by rw [vb, if_pos h]
theorem vb_big {u : Nat} (h : 128 ≤ u) : vb u = UInt8.ofNat (u % 128 + 128) :: vb (u / 128) := by rw [vb, if_neg (by omega)]
theorem vb_pos (u : Nat) : 0 < (vb u).length := by rw [vb]; split <;> simp
theorem vb_le (k u : Nat) (h : u < 128 ^ (k + 1)) : (vb u).length ≤ k + 1 := by
  induction k generalizing u with
  | zero => rw [vb_small (by simpa using h)]; simp
  | succ k ih =>
    by_cases hu : u < 128
    · rw [vb_small hu]; simp
    · rw [vb_big (by omega), List.length_cons]
      have := ih (u / 128) (by rw [Nat.div_lt_iff_lt_mul (by omega)]; rwa [Nat.pow_succ] at h)
      omega
theorem vb_ten {u : Nat} (h : u < 18446744073709551616) : (vb u).length ≤ 10 := vb_le 9 u (by omega)
inductive VR | short | form | ok (u len : Nat)
def VR.bad (i : Nat) (c : UInt8) : Prop := i = 9 ∧ 1 < c.toNat ∨ 0 < i ∧ c.toNat = 0
instance (i : Nat) (c : UInt8) : Decidable (VR.bad i c) := by unfold VR.bad; infer_instance
def scan : List UInt8 → Nat → Nat → VR
  | [], _, _ => .short
  | c :: r, i, u => if VR.bad i c then .form else if c.toNat < 128 then .ok (u + c.toNat * 128 ^ i) (i + 1) else scan r (i + 1) (u + (c.toNat - 128) * 128 ^ i)

theorem ofNat_toNat' {q : Nat} (h : q < 256) : (UInt8.ofNat q).toNat = q := by
  rw [UInt8.toNat_ofNat']; exact Nat.mod_eq_of_lt h

theorem scan_vb (z : Nat) (r : List UInt8) (i u : Nat) (hi : i ≤ 9) (h0 : i = 0 ∨ 0 < z) (hz : z * 128 ^ i < 18446744073709551616) :
    scan (vb z ++ r) i u = .ok (u + z * 128 ^ i) (i + (vb z).length) := by
  induction z using Nat.strongRecOn generalizing i u with
  | _ z ih =>
    have h9 : i = 9 → z ≤ 1 := by
      rintro rfl
      have e : (128 : Nat) ^ 9 = 9223372036854775808 := by decide
      rw [e] at hz
      omega
    by_cases hs : z < 128
    · rw [vb_small hs]
      have ez := ofNat_toNat' (show z < 256 by omega)
      have hb : ¬ VR.bad i (UInt8.ofNat z) := by
        unfold VR.bad; rw [ez]
        rintro (⟨h, h'⟩ | ⟨h, h'⟩)
        · have := h9 h; omega
        · omega
      simp only [List.singleton_append, scan, if_neg hb, ez, if_pos hs, List.length_singleton]
    · rw [vb_big (by omega)]
      have ez := ofNat_toNat' (show z % 128 + 128 < 256 by omega)
      have hb : ¬ VR.bad i (UInt8.ofNat (z % 128 + 128)) := by
        unfold VR.bad; rw [ez]
        rintro (⟨h, h'⟩ | ⟨h, h'⟩)
        · have := h9 h; omega
        · omega
      have hi9 : i ≠ 9 := fun h => by have := h9 h; omega
      have e : z * 128 ^ i = z % 128 * 128 ^ i + z / 128 * 128 ^ (i + 1) := by
        rw [Nat.pow_succ, Nat.mul_comm (128 ^ i) 128, ← Nat.mul_assoc, ← Nat.add_mul]
        congr 1
        omega
      simp only [List.cons_append, scan, if_neg hb, ez]
      rw [if_neg (by omega), ih (z / 128) (by omega) (i + 1) _ (by omega) (Or.inr (by omega)) (by omega)]
      simp only [List.length_cons, VR.ok.injEq]
      rw [e]
      refine ⟨?_, by omega⟩
      rw [Nat.add_sub_cancel]
      omega

theorem scan_ok (l : List UInt8) (i u n k : Nat) (hi : i ≤ 9) (h : scan l i u = .ok n k) :
    ∃ z r, l = vb z ++ r ∧ n = u + z * 128 ^ i ∧ k = i + (vb z).length ∧ (i = 0 ∨ 0 < z) ∧ z * 128 ^ i < 18446744073709551616 ∧ k ≤ 10 := by
  induction l generalizing i u with
  | nil => simp [scan] at h
  | cons c r ih =>
    rw [scan] at h
    by_cases hb : VR.bad i c
    · rw [if_pos hb] at h; cases h
    · rw [if_neg hb] at h
      have hc := c.toNat_lt
      unfold VR.bad at hb
      have p9 : 128 ^ i ≤ 9223372036854775808 := by
        have : 128 ^ i ≤ 128 ^ 9 := Nat.pow_le_pow_right (by omega) hi
        exact this
      by_cases hs : c.toNat < 128
      · rw [if_pos hs] at h
        simp only [VR.ok.injEq] at h
        refine ⟨c.toNat, r, ?_, h.1.symm, ?_, by omega, ?_, by omega⟩
        · rw [vb_small hs]; simp
        · rw [vb_small hs]; simp [h.2]
        · by_cases h9 : i = 9
          · subst h9
            have e : (128 : Nat) ^ 9 = 9223372036854775808 := by decide
            rw [e]
            omega
          · have : 128 ^ i ≤ 128 ^ 8 := Nat.pow_le_pow_right (by omega) (by omega)
            have e : (128 : Nat) ^ 8 = 72057594037927936 := by decide
            rw [e] at this
            have h2 : c.toNat * 128 ^ i ≤ 127 * 72057594037927936 := Nat.mul_le_mul (by omega) this
            omega
      · rw [if_neg hs] at h
        obtain ⟨z, r', hr, hn, hk, h0, hz, h10⟩ := ih (i + 1) _ (by omega) h
        have hz0 : 0 < z := by omega
        have ed : (c.toNat - 128 + 128 * z) / 128 = z := by omega
        have em : (c.toNat - 128 + 128 * z) % 128 = c.toNat - 128 := by omega
        have e : (c.toNat - 128 + 128 * z) * 128 ^ i = (c.toNat - 128) * 128 ^ i + z * 128 ^ (i + 1) := by
          rw [Nat.add_mul, Nat.pow_succ, Nat.mul_comm 128 z, Nat.mul_assoc, Nat.mul_comm 128]
        refine ⟨c.toNat - 128 + 128 * z, r', ?_, ?_, ?_, by omega, ?_, h10⟩
        · rw [vb_big (by omega), ed, em, hr, Nat.sub_add_cancel (by omega)]
          simp
        · rw [e]; omega
        · rw [vb_big (by omega), ed, List.length_cons]; omega
        · rw [e]
          have hi8 : i ≤ 8 := by omega
          have hq : 128 ^ (i + 1) ∣ 18446744073709551616 := by
            have : (18446744073709551616 : Nat) = 128 ^ (i + 1) * (2 ^ (64 - 7 * (i + 1))) := by
              have e1 : (128 : Nat) = 2 ^ 7 := by decide
              rw [e1, ← Nat.pow_mul, ← Nat.pow_add]
              have : 7 * (i + 1) + (64 - 7 * (i + 1)) = 64 := by omega
              rw [this]
            exact ⟨_, this⟩
          obtain ⟨q, hq⟩ := hq
          have hzq : z < q := by
            rw [hq, Nat.mul_comm] at hz
            exact Nat.lt_of_mul_lt_mul_left hz
          have h3 : (z + 1) * 128 ^ (i + 1) ≤ q * 128 ^ (i + 1) := Nat.mul_le_mul_right _ hzq
          have h4 : (c.toNat - 128) * 128 ^ i < 128 * 128 ^ i := Nat.mul_lt_mul_of_pos_right (by omega) (Nat.pow_pos (by omega))
          rw [Nat.add_mul] at h3
          have h5 : 128 * 128 ^ i = 128 ^ (i + 1) := by rw [Nat.pow_succ, Nat.mul_comm]
          rw [hq, Nat.mul_comm (128 ^ (i + 1)) q]
          omega

end Go.Proofs.YtejcjmiofidedaaGreatDoor.Oct

/- Words for slices of bytes: one that reads as a list, one that the call itself made; the laws of append and of the conversion to a string in these words. Nothing of the program: P, the types' numbers and the worlds are letters. -/
namespace Go.Proofs.YtejcjmiofidedaaGreatDoor.Oct
open Go.RowKit

def bv (c : UInt8) : Value := .int .u8 (c.toNat : Int)

def Rd (w : World) (B : Nat) (A : Option Addr) (n : Nat) (l : List UInt8) : Prop :=
  l.length = n ∧ ∀ k c, l[k]? = some c → ∃ b o, A = some ⟨b, o, none⟩ ∧ b < B ∧ w.cell? ⟨b, o + k, none⟩ = some (.int .u8 (c.toNat : Int))
def OwnB (w : World) (e : TypeId) (B : Nat) (v : Value) (n : Nat) (l : List UInt8) : Prop := w.ownsRow B e 1 v n (l.map bv)
def RB (e : TypeId) (base : Nat) (w : World) (l : List UInt8) (en : Ending) (w' : World) : Prop :=
  ∃ A n c, en = .returned (.slice A n c) ∧ OwnB w' e base (.slice A n c) n l ∧ Below base w w'
def U8 (P : Program) (e : TypeId) : Prop := ∃ i, P.info? e = some i ∧ i.zero = some (.int .u8 0) ∧ i.size = 1 ∧ i.bytes = 1

theorem ret_int {k : IntKind} {a b : Int} (h : a = b) : Ending.returned (.int k a) = .returned (.int k b) := by rw [h]
theorem ret_bool {a b : Bool} (h : a = b) : Ending.returned (.bool a) = .returned (.bool b) := by rw [h]
theorem beqT {a b : Int} (h : a = b) : (a == b) = true := by simp [h]
theorem beqF {a b : Int} (h : a ≠ b) : (a == b) = false := by simp [h]
theorem oneCell_bv (l : List UInt8) : ∀ u ∈ l.map bv, u.oneCell' = true := by
  intro u hu
  obtain ⟨c, _, rfl⟩ := List.mem_map.1 hu
  rfl

section
variable {w w' : World} {B B' n : Nat} {A : Option Addr} {l : List UInt8} {e : TypeId} {v : Value} {c : Nat}
theorem Rd.len (h : Rd w B A n l) : l.length = n := h.1
theorem Rd.nil : Rd w B A 0 [] := ⟨rfl, by simp⟩
theorem Rd.keep (h : Rd w B A n l) (hk : ∀ p : Addr, p.block < B → w'.cell? p = w.cell? p) : Rd w' B A n l :=
  ⟨h.1, fun k c hc => by
    obtain ⟨b, o, hA, hb, hcell⟩ := h.2 k c hc
    exact ⟨b, o, hA, hb, (hk _ hb).trans hcell⟩⟩
theorem Rd.more (h : Rd w B A n l) (hB : B ≤ B') : Rd w B' A n l :=
  ⟨h.1, fun k c hc => by
    obtain ⟨b, o, hA, hb, hcell⟩ := h.2 k c hc
    exact ⟨b, o, hA, by omega, hcell⟩⟩
theorem Rd.below (h : Rd w B A n l) (hb : Below B' w w') (hB : B ≤ B') : Rd w' B A n l := h.keep fun _ hp => hb.cell (by omega)
theorem Rd.alloc (h : Rd w B A n l) (hB : B ≤ w.heap.size) (o : Obj) : Rd (w.alloc o) B A n l := h.keep fun p hp => World.cell?_alloc_lt w o p (by omega)
theorem Rd.at {k : Nat} (h : Rd w B A n l) (hk : k < n) : ∃ b o c, A = some ⟨b, o, none⟩ ∧ b < B ∧ l[k]? = some c ∧ w.cell? ⟨b, o + k, none⟩ = some (.int .u8 (c.toNat : Int)) := by
  have hl : k < l.length := by have := h.1; omega
  obtain ⟨b, o, hA, hb, hcell⟩ := h.2 k l[k] (List.getElem?_eq_getElem hl)
  exact ⟨b, o, l[k], hA, hb, List.getElem?_eq_getElem hl, hcell⟩
theorem Rd.cells {ad : Addr} (h : Rd w B (some ad) n l) : ∀ j u, (l.map bv)[j]? = some u → w.cell? (ad.add j) = some u := by
  intro j u hu
  rw [List.getElem?_map] at hu
  obtain ⟨c, hc, rfl⟩ := Option.map_eq_some_iff.1 hu
  obtain ⟨b, o, hA, _, hcell⟩ := h.2 j c hc
  obtain rfl := Option.some.inj hA
  rw [Addr.add_lit]
  exact hcell
theorem Rd.isNil (h : Rd w B none n l) : n = 0 ∧ l = [] := by
  have hl : l = [] := by
    cases l with
    | nil => rfl
    | cons c l =>
      obtain ⟨b, o, hA, _⟩ := h.2 0 c rfl
      cases hA
  subst hl
  exact ⟨h.1.symm, rfl⟩
theorem Rd.cut {i m : Nat} (h : Rd w B A n l) (hi : i + m ≤ n) (A' : Option Addr) (hA : 0 < m → A' = A.map fun a => a.add i) : Rd w B A' m ((l.drop i).take m) := by
  refine ⟨by have := h.1; simp; omega, fun k c hc => ?_⟩
  have hk : k < m := by
    have := (List.getElem?_eq_some_iff.1 hc).1
    simp at this
    omega
  rw [List.getElem?_take, if_pos hk, List.getElem?_drop] at hc
  obtain ⟨b, o, rfl, hb, hcell⟩ := h.2 _ c hc
  refine ⟨b, o + i, ?_, hb, by rw [Nat.add_assoc]; exact hcell⟩
  rw [hA (by omega)]
  simp [Addr.add_lit]
theorem Rd.cut' {i m k : Nat} {A' : Option Addr} (h : Rd w B A n l) (hi : i + m ≤ n) (hk : k = m) (hA : 0 < m → A' = A.map fun a => a.add i) : Rd w B A' k ((l.drop i).take m) := by
  subst hk
  exact h.cut hi A' hA
theorem Rd.pre {m : Nat} {r : List UInt8} (h : Rd w B A n (l ++ r)) (hm : l.length = m) : Rd w B A m l := by
  refine ⟨hm, fun k c hc => h.2 k c ?_⟩
  rw [List.getElem?_append_left (List.getElem?_eq_some_iff.1 hc).1]
  exact hc
theorem Rd.take {m : Nat} (h : Rd w B A n l) (hm : m ≤ n) : Rd w B A m (l.take m) := by
  refine ⟨by have := h.1; rw [List.length_take]; omega, fun k c hc => h.2 k c ?_⟩
  rw [List.getElem?_take] at hc
  split at hc
  · exact hc
  · cases hc
theorem OwnB.len (h : OwnB w e B v n l) : l.length = n := by have := h.1; simpa using this
theorem OwnB.cap (h : OwnB w e B (.slice A n c) n l) : n ≤ c := by
  rcases h.2 with ⟨hv, hn⟩ | ⟨g, cap, cur, hv, _, _, hc, _⟩
  · omega
  · injection hv with _ _ h3
    omega
theorem OwnB.rd (h : OwnB w e B (.slice A n c) n l) : Rd w w.heap.size A n l := by
  refine ⟨h.len, fun k d hd => ?_⟩
  have hk : k < n := by have := (List.getElem?_eq_some_iff.1 hd).1; have := h.len; omega
  obtain ⟨g, cap, hv, _, hlt⟩ := World.ownsRow.form h (by omega)
  have hA : A = some ⟨g, 0, none⟩ := by injection hv
  subst hA
  refine ⟨g, 0, rfl, hlt, ?_⟩
  have hcell := World.ownsRow.cells h (g := g) rfl k (bv d) (by rw [List.getElem?_map, hd]; rfl)
  rw [Addr.add_lit] at hcell
  exact hcell
theorem OwnB.alloc (h : OwnB w e B v n l) (o : Obj) : OwnB (w.alloc o) e B v n l := World.ownsRow.alloc h o
theorem OwnB.more (h : OwnB w e B v n l) (hB : B' ≤ B) : OwnB w e B' v n l := by
  refine ⟨h.1, ?_⟩
  rcases h.2 with h2 | ⟨g, cap, cur, h3, h4, h5⟩
  · exact .inl h2
  · exact .inr ⟨g, cap, cur, h3, by omega, h5⟩
theorem OwnB.nil : OwnB w e B (.slice none 0 0) 0 [] := World.ownsRow_nil _ _ _ _
theorem OwnB.below (h : OwnB w e B v n l) (hb : Below w.heap.size w w') : OwnB w' e B v n l := by
  refine World.ownsRow.kept (row := none) h ⟨hb.os, hb.tape, hb.output, hb.size, fun k hk _ => hb.block k hk⟩ ?_
  cases v.ownBlock <;> simp
theorem bel_trans {a b c : World} (h : Below a.heap.size a b) (k : Below b.heap.size b c) : Below a.heap.size a c := h.trans (k.mono h.size)
theorem bel_alloc {a b : World} (h : Below a.heap.size a b) (o : Obj) : Below a.heap.size a (b.alloc o) := h.alloc h.size o
theorem bel_drewN {a b : World} (h : Below B a b) (k : Nat) : Below B a (b.drewN k) := ⟨h.os, h.tape, h.output, h.size, h.block⟩
theorem Rd.drewN (h : Rd w B A n l) (k : Nat) : Rd (w.drewN k) B A n l := h
theorem Rd.drew (h : Rd w B A n l) : Rd w.drew B A n l := h
theorem OwnB.drew (h : OwnB w e B v n l) : OwnB w.drew e B v n l := h
theorem RB.below {en : Ending} (h : RB e B w l en w') : Below B w w' := by
  obtain ⟨_, _, _, _, _, hb⟩ := h
  exact hb
end

section
variable {P : Program} (w : World)

theorem run_append_nilB (base : Nat) (t ty e : TypeId) (i : TypeInfo) (ht : P.underlying t = some (.slice e)) (hi : P.info? e = some i)
    (v : Value) (n : Nat) (xs : List Value) (hown : w.ownsRow base e 1 v n xs) (c : Nat) : (Builtin.append_ #[t, t] ty #[v, .slice none 0 c]).run P w = .ok v w := by
  rcases hown.2 with ⟨rfl, rfl⟩ | ⟨g, cap, cur, rfl, _, _, hnc, _⟩
  · simp [Builtin.append_, run_underlying ht, sizeOf, typeInfo, hi, Builtin.lenOf, Builtin.firstCells]
  · simp [Builtin.append_, run_underlying ht, sizeOf, typeInfo, hi, Builtin.lenOf, Builtin.firstCells, hnc, storeCells]

theorem ownsRow_slice {base : Nat} {e : TypeId} {size : Nat} {v : Value} {n : Nat} {xs : List Value} (h : w.ownsRow base e size v n xs) : ∃ A c, v = .slice A n c := by
  rcases h.2 with ⟨rfl, rfl⟩ | ⟨g, cap, cur, rfl, _⟩
  · exact ⟨_, _, rfl⟩
  · exact ⟨_, _, rfl⟩

theorem below_of_grown {base : Nat} {e : TypeId} {size : Nat} {v : Value} {n : Nat} {xs : List Value} {w' : World} (h : w.ownsRow base e size v n xs) (hg : w.grownBy w' v.ownBlock) (hb : base ≤ w.heap.size) : Below base w w' :=
  (Below.refl base w).grown hg hb fun k hk => (h.lt k hk).1

theorem run_appB (base : Nat) (t ty e : TypeId) (ht : P.underlying t = some (.slice e)) (hI : U8 P e)
    (v : Value) (n : Nat) (l : List UInt8) (hown : OwnB w e base v n l) (B : Nat) (A : Option Addr) (m c : Nat) (news : List UInt8) (hr : Rd w B A m news)
    (hb : n + m ≤ 1099511627776) (hbase : base ≤ w.heap.size) :
    ∃ A' c' w', (Builtin.append_ #[t, t] ty #[v, .slice A m c]).run P w = .ok (.slice A' (n + m) c') w' ∧ OwnB w' e base (.slice A' (n + m) c') (n + m) (l ++ news) ∧ Below base w w' := by
  obtain ⟨i, hi, hz, hs, hby⟩ := hI
  cases A with
  | none =>
    obtain ⟨rfl, rfl⟩ := hr.isNil
    obtain ⟨A', c', rfl⟩ := ownsRow_slice w hown
    exact ⟨A', c', w, run_append_nilB w base t ty e i ht hi _ n _ hown c, by simpa using hown, Below.refl _ _⟩
  | some ad =>
    obtain ⟨v', w', hrun, h2, h3, _⟩ := run_append_own (P := P) w base t ty e i (.int .u8 0) 1 1 ht hi hz hs hby rfl (by decide) v n _ hown ad m c (news.map bv) (by simp [hr.len]) hr.cells (oneCell_bv _)
      (by unfold maxLen; omega) (by omega) hbase
    obtain ⟨A', c', rfl⟩ := ownsRow_slice w' h2
    exact ⟨A', c', w', hrun, by unfold OwnB; rw [List.map_append]; exact h2, below_of_grown w hown h3 hbase⟩

theorem run_appB2 (base : Nat) (t ty e : TypeId) (ht : P.underlying t = some (.slice e)) (hI : U8 P e)
    (A0 : Option Addr) (n c0 : Nat) (l : List UInt8) (hown : OwnB w e base (.slice A0 n c0) n l) (B : Nat) (A : Option Addr) (m c : Nat) (news : List UInt8) (hr : Rd w B A m news)
    (hb : n + m ≤ 1099511627776) (hbase : base ≤ w.heap.size) :
    ∃ A' c' w', (Builtin.append_ #[t, t] ty #[.slice A0 n c0, .slice A m c]).run P w = .ok (.slice A' (n + m) c') w' ∧ OwnB w' e base (.slice A' (n + m) c') (n + m) (l ++ news) ∧ Below base w w' ∧ (A' = A0 ∨ Below w.heap.size w w') := by
  obtain ⟨i, hi, hz, hs, hby⟩ := hI
  cases A with
  | none =>
    obtain ⟨rfl, rfl⟩ := hr.isNil
    exact ⟨A0, c0, w, run_append_nilB w base t ty e i ht hi _ n _ hown c, by simpa using hown, Below.refl _ _, .inl rfl⟩
  | some ad =>
    have hl1 : (news.map bv).length = m * i.size := by simp [hr.len, hs]
    obtain ⟨v', w', hrun, h2, h3, h4⟩ := run_append_own (P := P) w base t ty e i (.int .u8 0) 1 1 ht hi hz hs hby rfl (by decide) _ n _ hown ad m c (news.map bv) (by simp [hr.len]) hr.cells (oneCell_bv _)
      (by unfold maxLen; omega) (by omega) hbase
    obtain ⟨A', c', rfl⟩ := ownsRow_slice w' h2
    refine ⟨A', c', w', hrun, by unfold OwnB; rw [List.map_append]; exact h2, below_of_grown w hown h3 hbase, ?_⟩
    have hnew : ∀ o : Obj, Below w.heap.size w (w.drew.alloc o) := fun o => ((Below.refl w.heap.size w).drew).alloc (Nat.le_refl _) o
    rcases hown.2 with ⟨hv, rfl⟩ | ⟨g, cap, cur, hv, hbg, hg, hnc, hcm, hcs, htake⟩
    · injection hv with hA hn hc
      subst hA hc
      by_cases hm : m = 0
      · have h5 := h4.2 ⟨rfl, hm⟩
        injection h5 with h6
        exact .inl h6
      · have hr2 := run_append_nil (P := P) w t ty e i (.int .u8 0) ht hi hz ad m c (news.map bv) hl1 hr.cells (by omega) (by omega) (by rw [hby]; omega)
        rw [hr2] at hrun
        injection hrun with _ hw
        rw [← hw]
        exact .inr (hnew _)
    · injection hv with hA hn hc
      subst hA hc
      by_cases hroom : n + m ≤ c0
      · have hr2 := run_append_room (P := P) w t ty e i ht hi g n c0 cur hg ad m c (news.map bv) hl1 hr.cells (oneCell_bv _) hroom (by rw [hl1, hs, hcs]; omega)
        rw [hr2] at hrun
        injection hrun with hv' _
        injection hv' with h6
        exact .inl h6.symm
      · have hr2 := run_append_grow (P := P) w t ty e i (.int .u8 0) ht hi hz ⟨g, 0, none⟩ n c0 (l.map bv) (by rw [hs]; exact hown.1) (hown.cells (g := g) rfl) ad m c (news.map bv) hl1 hr.cells (by omega) (by omega) (growslice_fits (by omega) (by rw [hby]; omega))
        rw [hr2] at hrun
        injection hrun with _ hw
        rw [← hw]
        exact .inr (hnew _)
theorem wpList_appB {ops : Array Oper} {rest : List Oper} {o : Oper} {a : Act} {Q : Exit → Act → World → Prop} (hgd : o.guard = none) (s x : Operand) (t : TypeId)
    (ho : o.op = .call { callee := .builtin .append, args := #[s, x], argTypes := #[t, t] })
    (base : Nat) (e : TypeId) (ht : P.underlying t = some (.slice e)) (hI : U8 P e)
    (v : Value) (n : Nat) (l : List UInt8) (hs : a.eval s = v) (hown : OwnB w e base v n l)
    (B : Nat) (A : Option Addr) (m c : Nat) (news : List UInt8) (hx : a.eval x = .slice A m c) (hr : Rd w B A m news)
    (hb : n + m ≤ 1099511627776) (hbase : base ≤ w.heap.size)
    (h : ∀ A' c' w', OwnB w' e base (.slice A' (n + m) c') (n + m) (l ++ news) → Below base w w' → wpList P ops Q rest (a.put o.dst (.slice A' (n + m) c')) w') : wpList P ops Q (o :: rest) a w := by
  refine wpList_plain hgd fun K hK => ?_
  obtain ⟨A', c', w', hrun, h2, h3⟩ := run_appB (P := P) w base t o.type e ht hI v n l hown B A m c news hr hb hbase
  unfold Oper.wp execOp
  simp only [ho, resolve, invoke, builtin, Sem.run_bind, Sem.run_pure, Result.andThen_ok, List.map_toArray, List.map_cons, List.map_nil, hs, hx, hrun]
  exact hK _ _ (h A' c' w' h2 h3)

theorem step_appB {ops : Array Oper} {o : Oper} {a : Act} {K : Act → World → Prop} {Q : Exit → Act → World → Prop} {E : Prop} (hgd : o.guard = none) (s x : Operand) (t : TypeId)
    (ho : o.op = .call { callee := .builtin .append, args := #[s, x], argTypes := #[t, t] })
    (base : Nat) (e : TypeId) (ht : P.underlying t = some (.slice e)) (hI : U8 P e)
    (v : Value) (n : Nat) (l : List UInt8) (hs : a.eval s = v) (hown : OwnB w e base v n l)
    (B : Nat) (A : Option Addr) (m c : Nat) (news : List UInt8) (hx : a.eval x = .slice A m c) (hr : Rd w B A m news)
    (hb : n + m ≤ 1099511627776) (hbase : base ≤ w.heap.size)
    (h : ∀ A' c' w', OwnB w' e base (.slice A' (n + m) c') (n + m) (l ++ news) → Below base w w' → K (a.put o.dst (.slice A' (n + m) c')) w') :
    if Region.wanted o (yielded ops a.tmps) = true then Oper.wp P o a w K Q else E := by
  have hw : Region.wanted o (yielded ops a.tmps) = true := by simp [Region.wanted, hgd]
  rw [if_pos hw]
  obtain ⟨A', c', w', hrun, h2, h3⟩ := run_appB (P := P) w base t o.type e ht hI v n l hown B A m c news hr hb hbase
  unfold Oper.wp execOp
  simp only [ho, resolve, invoke, builtin, Sem.run_bind, Sem.run_pure, Result.andThen_ok, List.map_toArray, List.map_cons, List.map_nil, hs, hx, hrun]
  exact h A' c' w' h2 h3

theorem wpList_app0 {ops : Array Oper} {rest : List Oper} {o : Oper} {a : Act} {Q : Exit → Act → World → Prop} (hgd : o.guard = none) (s x : Operand) (t : TypeId)
    (ho : o.op = .call { callee := .builtin .append, args := #[s, x], argTypes := #[t, t] })
    (base : Nat) (e : TypeId) (ht : P.underlying t = some (.slice e)) (hI : U8 P e)
    (v : Value) (hs : a.eval s = v) (hown : OwnB w e base v 0 [])
    (B : Nat) (A : Option Addr) (m c : Nat) (news : List UInt8) (hx : a.eval x = .slice A m c) (hr : Rd w B A m news)
    (hb : m ≤ 1099511627776) (hbase : base ≤ w.heap.size)
    (h : ∀ A' c' w', OwnB w' e base (.slice A' m c') m news → Below base w w' → wpList P ops Q rest (a.put o.dst (.slice A' m c')) w') : wpList P ops Q (o :: rest) a w :=
  wpList_appB w hgd s x t ho base e ht hI v 0 [] hs hown B A m c news hx hr (by omega) hbase fun A' c' w' h1 h2 => by
    simp only [Nat.zero_add, List.nil_append] at h1 ⊢
    exact h A' c' w' h1 h2

theorem wpList_app1 {ops : Array Oper} {rest : List Oper} {o : Oper} {a : Act} {Q : Exit → Act → World → Prop} (hgd : o.guard = none) (s x : Operand) (t : TypeId)
    (ho : o.op = .call { callee := .builtin .append, args := #[s, x], argTypes := #[t, t] })
    (base : Nat) (e : TypeId) (ht : P.underlying t = some (.slice e)) (hI : U8 P e)
    (v : Value) (n : Nat) (l : List UInt8) (hs : a.eval s = v) (hown : OwnB w e base v n l)
    (y : Int) (c : UInt8) (hx : a.eval x = .slice (some ⟨w.heap.size, 0, none⟩) 1 1) (hy : y = (c.toNat : Int))
    (hb : n + 1 ≤ 1099511627776) (hbase : base ≤ w.heap.size)
    (h : ∀ A' c' w', OwnB w' e base (.slice A' (n + 1) c') (n + 1) (l ++ [c]) → Below base w w' → wpList P ops Q rest (a.put o.dst (.slice A' (n + 1) c')) w') : wpList P ops Q (o :: rest) a (w.alloc (.cells #[.int .u8 y] e)) := by
  subst hy
  have hr : Rd (w.alloc (.cells #[.int .u8 (c.toNat : Int)] e)) (w.heap.size + 1) (some ⟨w.heap.size, 0, none⟩) 1 [c] := by
    refine ⟨rfl, fun k d hd => ⟨w.heap.size, 0, rfl, by omega, ?_⟩⟩
    cases k with
    | zero =>
      simp at hd
      subst hd
      rw [cell_of_row _ _ _ _ e (0, 0) (heap_alloc_new w _)]
      simp
    | succ k => simp at hd
  refine wpList_appB (P := P) (w.alloc (.cells #[.int .u8 (c.toNat : Int)] e)) hgd s x t ho base e ht hI v n l hs (hown.alloc _) _ _ 1 1 [c] hx hr hb (by simp; omega) fun A' c' w' h1 h2 => h A' c' w' h1 ?_
  exact ((Below.refl base w).alloc hbase _).trans h2

theorem wpList_mkB {ops : Array Oper} {rest : List Oper} {o : Oper} {a : Act} {Q : Exit → Act → World → Prop} (hg : o.guard = none) (l c : Operand) (t : TypeId) (hop : o.op = Op.makeSlice t l c)
    (e : TypeId) (ht : P.underlying t = some (.slice e)) (hI : U8 P e) (kl kc : IntKind) (C : Int) (n : Nat) (hl : a.eval l = .int kl 0) (hc : a.eval c = .int kc C) (hC : C = (n : Int)) (hn : n ≤ 140737488355328)
    (h : ∀ A' c' w', OwnB w' e w.heap.size (.slice A' 0 c') 0 [] → Below w.heap.size w w' → wpList P ops Q rest (a.put o.dst (.slice A' 0 c')) w') : wpList P ops Q (o :: rest) a w := by
  obtain ⟨i, hi, hz, hs, hby⟩ := hI
  refine wpList_make_own w hg l c t hop w.heap.size e i _ 1 ht hi hz hs kl kc C n hl hc hC (by rw [hby]; omega) (by unfold maxLen; omega) (Nat.le_refl _) fun w' h1 h2 => ?_
  exact h _ _ w' h1 ⟨h2.os, h2.tape, h2.output, h2.size, fun k hk => h2.block k hk (by simp)⟩

theorem wpList_appS {ops : Array Oper} {rest : List Oper} {o : Oper} {a : Act} {Q : Exit → Act → World → Prop} (hgd : o.guard = none) (s x : Operand) (t u : TypeId)
    (ho : o.op = .call { callee := .builtin .append, args := #[s, x], argTypes := #[t, u] })
    (base : Nat) (e : TypeId) (ht : P.underlying t = some (.slice e)) (hu : P.underlying u = some .string) (hI : U8 P e)
    (v : Value) (n : Nat) (l : List UInt8) (hs : a.eval s = v) (hown : OwnB w e base v n l)
    (st : ByteArray) (hx : a.eval x = .string st) (hb : n + st.size ≤ 1099511627776) (hbase : base ≤ w.heap.size)
    (h : ∀ A' c' w', OwnB w' e base (.slice A' (n + st.size) c') (n + st.size) (l ++ st.data.toList) → Below base w w' → wpList P ops Q rest (a.put o.dst (.slice A' (n + st.size) c')) w') : wpList P ops Q (o :: rest) a w := by
  obtain ⟨i, hi, hz, hsz, hby⟩ := hI
  refine Lib.wpList_append_own_string (P := P) w hgd s x t u ho base e i ht hu hi hz hsz hby v n _ hs hown st hx (by unfold maxLen; omega) (by omega) hbase fun v' w' h2 h3 _ => ?_
  obtain ⟨A', c', rfl⟩ := ownsRow_slice w' h2
  refine h A' c' w' ?_ (below_of_grown w hown h3 hbase)
  unfold OwnB
  rw [List.map_append]
  exact h2

theorem foldl_push (ns : List UInt8) (s : ByteArray) : ns.foldl (fun r n => r.push n) s = ⟨s.data ++ ns.toArray⟩ := by
  induction ns generalizing s with
  | nil => simp
  | cons c ns ih =>
    rw [List.foldl_cons, ih]
    simp [ByteArray.push]
theorem run_toString (src dst e : TypeId) (hs : P.underlying src = some (.slice e)) (he : P.underlying e = some (.int .u8)) (hd : P.underlying dst = some .string)
    (B : Nat) (A : Option Addr) (n c : Nat) (l : List UInt8) (hr : Rd w B A n l) : (convert src dst (.slice A n c)).run P w = .ok (.string ⟨l.toArray⟩) w := by
  rw [run_convert_bytes_string w src dst e A n c hs he hd]
  cases A with
  | none =>
    obtain ⟨rfl, rfl⟩ := hr.isNil
    simp [Conv.bytesToString]
    rfl
  | some ad =>
    have hl : (loadCells ad n).run P w = .ok ((l.map fun c => (c.toNat : Int)).map (Value.int .u8)).toArray w := by
      have h := run_loadCells_list (P := P) w ad (l.map bv) hr.cells
      rw [List.length_map, hr.len] at h
      rw [h, List.map_map]
      rfl
    rw [run_bytesToString w ad n c _ hl]
    have : ((l.map fun c => (c.toNat : Int)).foldl (fun r n => r.push (UInt8.ofNat n.toNat)) ByteArray.empty) = ⟨l.toArray⟩ := by
      rw [List.foldl_map]
      simp only [Int.toNat_natCast, UInt8.ofNat_toNat]
      rw [foldl_push]
      show ByteArray.mk (#[] ++ l.toArray) = _
      simp
    rw [this]
end
end Go.Proofs.YtejcjmiofidedaaGreatDoor.Oct

/- A slice of bytes that came in, in the words of this layer. -/
namespace Go.Proofs.YtejcjmiofidedaaGreatDoor.Oct
open Go.RowKit

end Go.Proofs.YtejcjmiofidedaaGreatDoor.Oct

/- What a law's frame opens: arguments as the walks take them. -/
namespace Go.Proofs.YtejcjmiofidedaaGreatDoor.Oct
open Go.RowKit Go.ChangeShapes Go.WideShapes Go.Deep
open Go.ChangeMaps (open_string)

def I64 (n : Int) : Prop := -9223372036854775808 ≤ n ∧ n ≤ 9223372036854775807
section
variable {H : Type} {enc : TypeId × Value → H} {P : Program} {W : World} {base : Nat} {v : Value} {d : DataW H} {p : List MemPlace} {t e : TypeId}
theorem open_i64 (ht : P.underlying t = some (.int .i64)) (hv : Value.okWide P W .any base t v) (h : DataW.Trod enc P W 0 (fun _ => true) true t v d p) : ∃ a, v = .int .i64 a ∧ I64 a := by
  obtain ⟨a, rfl, _, _, w⟩ := open_int ht hv h
  exact ⟨a, rfl, (bounds_i64 w).1, (bounds_i64 w).2⟩
end
end Go.Proofs.YtejcjmiofidedaaGreatDoor.Oct

/- What layer 1's calls answer, as plain functions, and lemmas of numbers and worlds: nothing of the program but the types' numbers. -/
namespace Go.Proofs.YtejcjmiofidedaaGreatDoor.Oct
open Go.RowKit

def isW (k : Int) : Bool := decide (1 ≤ k ∧ k ≤ 8)

def hasB (n : Nat) (k m : Int) : Bool := decide (k ≤ n ∧ m ≤ n - k)

theorem fold_num (n : Int) (h : -9223372036854775808 ≤ n ∧ n ≤ 9223372036854775807) : bits .xor .u64 (IntKind.u64.wrap (IntKind.u64.wrap n * 2)) (IntKind.u64.wrap (n / 9223372036854775808)) = (zz n : Int) := by
  simp only [IntKind.wrap_u64]
  by_cases h0 : 0 ≤ n
  · have e1 : n / 9223372036854775808 = 0 := by omega
    have e2 : n % 18446744073709551616 * 2 % 18446744073709551616 = (((2 * n).toNat : Nat) : Int) := by omega
    have e3 : (0 : Int) % 18446744073709551616 = ((0 : Nat) : Int) := by omega
    rw [e1, e2, e3, u64_xor_nat _ _ (by omega) (by omega), Nat.xor_zero]
    simp [zz, h0]
  · have e1 : n / 9223372036854775808 % 18446744073709551616 = ((18446744073709551615 : Nat) : Int) := by omega
    have e2 : n % 18446744073709551616 * 2 % 18446744073709551616 = (((2 * n + 18446744073709551616).toNat : Nat) : Int) := by omega
    have hx : ∀ a : Nat, a < 18446744073709551616 → a ^^^ 18446744073709551615 = 18446744073709551615 - a := by
      intro a ha
      have h1 := BitVec.toNat_not (x := BitVec.ofNat 64 a)
      rw [← BitVec.xor_allOnes, BitVec.toNat_xor, BitVec.toNat_ofNat, BitVec.toNat_allOnes] at h1
      rw [Nat.mod_eq_of_lt (by omega)] at h1
      omega
    rw [e1, e2, u64_xor_nat _ _ (by omega) (by omega), hx _ (by omega)]
    simp only [zz, if_neg h0]
    omega

theorem unfold_num (u : Nat) (h : u < 18446744073709551616) : bits .xor .i64 ((u : Int) / 2) (wrap64 (-wrap64 (bits .and .u64 (u : Int) 1))) = uz u := by
  have e1 : bits .and .u64 (u : Int) 1 = ((u % 2 : Nat) : Int) := by
    have := u64_and_nat u 1 h (by omega)
    rw [nat_mask1] at this
    exact this
  rw [e1]
  have e2 : wrap64 (-wrap64 ((u % 2 : Nat) : Int)) = -((u % 2 : Nat) : Int) := by unfold wrap64; omega
  rw [e2]
  have hv : ∀ x : Int, bits .xor .i64 ((u : Int) / 2) x = IntKind.i64.wrap ((BitVec.ofInt 64 ((u : Int) / 2) ^^^ BitVec.ofInt 64 x).toNat : Int) := fun x => rfl
  have ea : (BitVec.ofInt 64 ((u : Int) / 2)).toNat = u / 2 := by
    have : ((u : Int) / 2) = ((u / 2 : Nat) : Int) := by omega
    rw [this]
    exact ofInt_u64 _ (by omega)
  rw [hv]
  unfold uz
  by_cases hu : u % 2 = 0
  · rw [if_pos hu, hu]
    have : BitVec.ofInt 64 (-((0 : Nat) : Int)) = 0#64 := by decide
    rw [this, BitVec.xor_zero, ea]
    exact IntWalk.i64_in _ (by omega)
  · rw [if_neg hu]
    have h1 : u % 2 = 1 := by omega
    rw [h1]
    have : BitVec.ofInt 64 (-((1 : Nat) : Int)) = BitVec.allOnes 64 := by decide
    rw [this, BitVec.xor_allOnes, BitVec.toNat_not, ea, IntKind.wrap_i64]
    omega

theorem or128 (u : Nat) : bits .or .u8 (IntKind.u8.wrap (u : Int)) 128 = ((UInt8.ofNat (u % 128 + 128)).toNat : Int) := by
  have e1 : IntKind.u8.wrap (u : Int) = ((u % 256 : Nat) : Int) := by rw [IntKind.wrap_u8']; omega
  rw [e1, ofNat_toNat' (by omega)]
  have h := u8_or_nat (u % 256) 128 (by omega) (by omega)
  have e : u % 256 ||| 128 = u % 128 + 128 := by
    have h2 : ∀ x : Fin 256, x.val ||| 128 = x.val % 128 + 128 := by decide +kernel
    have := h2 ⟨u % 256, by omega⟩
    simp only at this
    rw [this]
    omega
  rw [e] at h
  exact h

def avRel (base : Nat) (l : List UInt8) (z : Nat) (w : World) (v i : Value) (wr : World) : Prop :=
  ∃ A1 n1 c1 u l1, v = .slice A1 n1 c1 ∧ i = .int .u64 ((u : Nat) : Int) ∧ OwnB wr 5 base (.slice A1 n1 c1) n1 (l ++ l1) ∧ l1 ++ vb u = vb z ∧ u < 18446744073709551616 ∧ Below base w wr

def putRel (base : Nat) (l : List UInt8) (x k : Nat) (w : World) (v i : Value) (wr : World) : Prop :=
  ∃ A1 n1 c1 j, v = .slice A1 n1 c1 ∧ i = .int .i64 ((j : Nat) : Int) ∧ j ≤ k ∧ OwnB wr 5 base (.slice A1 n1 c1) n1 (l ++ beN x k j) ∧ Below base w wr

theorem putByte (x q : Nat) : (x : Int) / 2 ^ (8 * q) % 256 = ((UInt8.ofNat (x / 256 ^ q)).toNat : Int) := by
  rw [UInt8.toNat_ofNat']
  have e : (2 : Int) ^ (8 * q) = ((256 ^ q : Nat) : Int) := by
    rw [Int.pow_mul]
    simp
  rw [e]
  omega

def gv (l : List UInt8) (k : Int) : Int × Int × Int :=
  if k < 0 then (0, 0, 1) else match scan (l.drop k.toNat) 0 0 with
    | .short => (0, 0, 10)
    | .form => (0, 0, 11)
    | .ok u n => (uz u, k + n, 0)

def GV (l : List UInt8) (k : Int) (e : Ending) : Prop := e = .returned (.tuple #[.int .i64 (gv l k).1, .int .i64 (gv l k).2.1, .int .i64 (gv l k).2.2])

theorem GV.neg {l : List UInt8} {k : Int} (h : k < 0) : GV l k (.returned (.tuple #[.int .i64 0, .int .i64 0, .int .i64 1])) := by unfold GV gv; rw [if_pos h]

theorem GV.short {l : List UInt8} {m : Nat} (h : scan (l.drop m) 0 0 = .short) : GV l (m : Int) (.returned (.tuple #[.int .i64 0, .int .i64 0, .int .i64 10])) := by
  unfold GV gv; rw [if_neg (by omega), Int.toNat_natCast, h]

theorem GV.form {l : List UInt8} {m : Nat} (h : scan (l.drop m) 0 0 = .form) : GV l (m : Int) (.returned (.tuple #[.int .i64 0, .int .i64 0, .int .i64 11])) := by
  unfold GV gv; rw [if_neg (by omega), Int.toNat_natCast, h]

theorem GV.ok {l : List UInt8} {m u n : Nat} {x y : Int} (h : scan (l.drop m) 0 0 = .ok u n) (hx : x = uz u) (hy : y = (m : Int) + (n : Int)) : GV l (m : Int) (.returned (.tuple #[.int .i64 x, .int .i64 y, .int .i64 0])) := by
  unfold GV gv; rw [if_neg (by omega), Int.toNat_natCast, h, hx, hy]

theorem orVar (U j : Nat) (c : UInt8) (hU : U < 128 ^ j) (hj : j ≤ 9) (h9 : j = 9 → c.toNat ≤ 1) :
    bits .or .u64 (U : Int) (IntKind.u64.wrap (IntKind.u64.wrap (bits .and .u8 (c.toNat : Int) 127) * 2 ^ (7 * j))) = ((U + c.toNat % 128 * 128 ^ j : Nat) : Int) := by
  have hc := c.toNat_lt
  have e1 : bits .and .u8 (c.toNat : Int) 127 = ((c.toNat % 128 : Nat) : Int) := by
    have := u8_and_nat c.toNat 127 (by omega) (by omega)
    rw [nat_mask7] at this
    exact this
  have e2 : (2 : Int) ^ (7 * j) = ((128 ^ j : Nat) : Int) := by rw [Int.pow_mul]; simp
  have p9 : 128 ^ j ≤ 9223372036854775808 := by
    have : 128 ^ j ≤ 128 ^ 9 := Nat.pow_le_pow_right (by omega) hj
    exact this
  have hlt : c.toNat % 128 * 128 ^ j + 128 ^ j ≤ 18446744073709551616 := by
    by_cases h : j = 9
    · have := h9 h
      subst h
      have e : (128 : Nat) ^ 9 = 9223372036854775808 := by decide
      rw [e]
      omega
    · have : 128 ^ j ≤ 128 ^ 8 := Nat.pow_le_pow_right (by omega) (by omega)
      have e : (128 : Nat) ^ 8 = 72057594037927936 := by decide
      rw [e] at this
      have h2 : c.toNat % 128 * 128 ^ j ≤ 127 * 72057594037927936 := Nat.mul_le_mul (by omega) this
      omega
  have e0 : IntKind.u64.wrap ((c.toNat % 128 : Nat) : Int) = ((c.toNat % 128 : Nat) : Int) := IntWalk.u64_in _ (by omega)
  rw [e1, e0, e2, ← Int.natCast_mul, IntKind.wrap_u64]
  have e3 : ((c.toNat % 128 * 128 ^ j : Nat) : Int) % 18446744073709551616 = ((c.toNat % 128 * 128 ^ j : Nat) : Int) := by omega
  rw [e3, u64_or_nat _ _ (by omega) (by omega)]
  congr 1
  have e4 : (128 : Nat) ^ j = 2 ^ (7 * j) := by rw [Nat.pow_mul]
  rw [Nat.or_comm, Nat.add_comm]
  rw [e4] at hU ⊢
  exact nat_join (7 * j) _ _ (Nat.mul_mod_left _ _) hU

theorem scan_lt {l : List UInt8} {m u n : Nat} (h : scan (l.drop m) 0 0 = .ok u n) : u < 18446744073709551616 := by
  obtain ⟨z, r, _, rfl, _, _, hz, _⟩ := scan_ok _ 0 0 u n (by omega) h
  simpa using hz

theorem step_lt {U j d : Nat} (h : U < 128 ^ j) (hd : d < 256) : U + (d - 128) * 128 ^ j < 128 ^ (j + 1) := by
  have h2 : (d - 128) * 128 ^ j ≤ 127 * 128 ^ j := Nat.mul_le_mul_right _ (by omega)
  rw [Nat.pow_succ]
  omega

theorem drop_at {l : List UInt8} {k : Nat} {c : UInt8} (h : l[k]? = some c) : l.drop k = c :: l.drop (k + 1) := by
  obtain ⟨hk, rfl⟩ := List.getElem?_eq_some_iff.1 h
  exact List.drop_eq_getElem_cons hk

theorem drop_end {l : List UInt8} {k : Nat} (h : l.length ≤ k) : l.drop k = [] := List.drop_eq_nil_of_le h

def gvRel (l : List UInt8) (m : Nat) (v i : Value) : Prop :=
  ∃ U j, v = .int .u64 ((U : Nat) : Int) ∧ i = .int .i64 ((j : Nat) : Int) ∧ j ≤ 9 ∧ U < 128 ^ j ∧ scan (l.drop m) 0 0 = scan (l.drop (m + j)) j U

def gt (l : List UInt8) (p k : Int) : Nat × Int :=
  if isW k = false ∨ p < 0 then (0, 1) else if hasB l.length p k = false then (0, 10) else (getN ((l.drop p.toNat).take k.toNat), 0)

def GT (l : List UInt8) (p k : Int) (e : Ending) : Prop := e = .returned (.tuple #[.int .u64 ((gt l p k).1 : Int), .int .i64 (gt l p k).2])

theorem getN_take (l : List UInt8) (j : Nat) (d : UInt8) (h : l[j]? = some d) : getN (l.take (j + 1)) = getN (l.take j) * 256 + d.toNat := by
  rw [List.take_add_one, h]
  exact getN_snoc _ _

def gtRel (l : List UInt8) (k : Nat) (v i : Value) : Prop :=
  ∃ j U, v = .int .u64 ((U : Nat) : Int) ∧ i = .int .i64 ((j : Nat) : Int) ∧ j ≤ k ∧ U = getN (l.take j)

theorem or8 (U : Nat) (d : UInt8) (h : U < 72057594037927936) : bits .or .u64 (IntKind.u64.wrap ((U : Int) * 256)) (d.toNat : Int) = ((U * 256 + d.toNat : Nat) : Int) := by
  have hd := d.toNat_lt
  have e : IntKind.u64.wrap ((U : Int) * 256) = ((U * 256 : Nat) : Int) := by rw [IntKind.wrap_u64]; omega
  rw [e, u64_or_nat _ _ (by omega) (by omega)]
  congr 1
  exact nat_join 8 _ _ (by omega) (by omega)

theorem getN_small {l : List UInt8} (h : l.length ≤ 7) : getN l < 72057594037927936 := by
  have h1 := getN_lt l
  have h2 : 256 ^ l.length ≤ 256 ^ 7 := Nat.pow_le_pow_right (by omega) h
  omega

theorem wpList_toStr {P : Program} (w : World) {ops : Array Oper} {rest : List Oper} {o : Oper} {a : Act} {Q : Exit → Act → World → Prop} (hgd : o.guard = none) (x : Operand) (src dst e : TypeId)
    (ho : o.op = .convert src dst x) (hs : P.underlying src = some (.slice e)) (he : P.underlying e = some (.int .u8)) (hd : P.underlying dst = some .string)
    (B : Nat) (A : Option Addr) (n c : Nat) (l : List UInt8) (hx : a.eval x = .slice A n c) (hr : Rd w B A n l)
    (h : wpList P ops Q rest (a.put o.dst (.string ⟨l.toArray⟩)) w) : wpList P ops Q (o :: rest) a w := by
  refine wpList_plain hgd fun K hK => ?_
  have hrun := run_toString (P := P) w src dst e hs he hd B A n c l hr
  unfold Oper.wp execOp
  simp only [ho, hx, hrun, Sem.run_bind, Sem.run_pure, Result.andThen_ok]
  exact hK _ _ h

def gx (l : List UInt8) (p most : Int) : ByteArray × Int × Int :=
  if (gv l p).2.2 ≠ 0 then (ByteArray.empty, 0, (gv l p).2.2)
  else if (gv l p).1 < 0 then (ByteArray.empty, 0, 11)
  else if most < (gv l p).1 then (ByteArray.empty, 0, 2)
  else if hasB l.length (gv l p).2.1 (gv l p).1 = false then (ByteArray.empty, 0, 10)
  else (⟨((l.drop (gv l p).2.1.toNat).take (gv l p).1.toNat).toArray⟩, (gv l p).2.1 + (gv l p).1, 0)

def GX (l : List UInt8) (p most : Int) (e : Ending) : Prop := e = .returned (.tuple #[.string (gx l p most).1, .int .i64 (gx l p most).2.1, .int .i64 (gx l p most).2.2])

theorem gv_next {l : List UInt8} {p : Int} (h : (gv l p).2.2 = 0) : 0 ≤ p ∧ p < (gv l p).2.1 ∧ (gv l p).2.1 ≤ l.length := by
  unfold gv at h ⊢
  by_cases h0 : p < 0
  · rw [if_pos h0] at h; simp at h
  · rw [if_neg h0] at h ⊢
    cases hs : scan (l.drop p.toNat) 0 0 with
    | short => rw [hs] at h; simp at h
    | form => rw [hs] at h; simp at h
    | ok u n =>
      obtain ⟨z, r, hl, _, hk, _⟩ := scan_ok _ 0 0 u n (by omega) hs
      have h1 := congrArg List.length hl
      have h2 := vb_pos z
      simp only [List.length_drop, List.length_append] at h1
      simp only
      omega

def sameB (l m : List UInt8) : Bool := l == m

theorem sameB_iff {l m : List UInt8} : sameB l m = true ↔ l = m := by simp [sameB]

theorem sameB_self (l : List UInt8) : sameB l l = true := by simp [sameB]

def fewB (n : Nat) : Bool := decide ((n : Int) ≤ 5000)

theorem new1 (w : World) (e : TypeId) (a : UInt8) : Rd (w.alloc (.cells #[.int .u8 (a.toNat : Int)] e)) (w.heap.size + 1) (some ⟨w.heap.size, 0, none⟩) 1 [a] := by
  refine ⟨rfl, fun k d hd => ⟨w.heap.size, 0, rfl, by omega, ?_⟩⟩
  rw [cell_of_row _ _ _ _ e (0, 0) (heap_alloc_new w _)]
  match k, hd with
  | 0, hd => simp at hd; subst hd; rfl

theorem gt_at (l r : List UInt8) (x k : Nat) (h1 : 1 ≤ k) (h8 : k ≤ 8) : gt (l ++ beN x k k ++ r) (l.length : Int) (k : Int) = (x % 256 ^ k, 0) := by
  unfold gt
  have hw : isW (k : Int) = true := by simp [isW]; omega
  have hh : hasB (l ++ beN x k k ++ r).length (l.length : Int) (k : Int) = true := by simp [hasB, beN_length]; omega
  rw [if_neg (by simp [hw]), if_neg (by rw [hh]; simp)]
  have e : ((l ++ beN x k k ++ r).drop (l.length : Int).toNat).take (k : Int).toNat = beN x k k := by
    rw [Int.toNat_natCast, Int.toNat_natCast, List.append_assoc, List.drop_left, List.take_left' (beN_length x k k)]
  rw [e, getN_be]

theorem gv_at (l r : List UInt8) (m : Int) (hm : -9223372036854775808 ≤ m ∧ m ≤ 9223372036854775807) : gv (l ++ vb (zz m) ++ r) (l.length : Int) = (m, (l.length : Int) + ((vb (zz m)).length : Int), 0) := by
  unfold gv
  rw [if_neg (by omega), Int.toNat_natCast, List.append_assoc, List.drop_left, scan_vb (zz m) r 0 0 (by omega) (Or.inl rfl) (by simpa using zz_lt hm)]
  simp [uz_zz]

theorem gx_at (l r : List UInt8) (s : ByteArray) (most : Int) (hs : s.size ≤ 9223372036854775807) (hm : (s.size : Int) ≤ most) :
    gx (l ++ vb (zz s.size) ++ s.data.toList ++ r) (l.length : Int) most = (s, (l.length : Int) + ((vb (zz s.size)).length : Int) + (s.size : Int), 0) := by
  have hg := gv_at l (s.data.toList ++ r) (s.size : Int) (by omega)
  rw [← List.append_assoc] at hg
  have hlen : s.data.toList.length = s.size := by rw [Array.length_toList]; rfl
  unfold gx
  rw [hg]
  simp only
  have hh : hasB (l ++ vb (zz s.size) ++ s.data.toList ++ r).length ((l.length : Int) + ((vb (zz s.size)).length : Int)) (s.size : Int) = true := by
    simp only [hasB, List.length_append, hlen, decide_eq_true_eq]; omega
  rw [if_neg (by simp), if_neg (by omega), if_neg (by omega), if_neg (by rw [hh]; simp)]
  have e : ((l ++ vb (zz s.size) ++ s.data.toList ++ r).drop ((l.length : Int) + ((vb (zz s.size)).length : Int)).toNat).take (s.size : Int).toNat = s.data.toList := by
    have e1 : ((l.length : Int) + ((vb (zz s.size)).length : Int)).toNat = (l ++ vb (zz s.size)).length := by rw [List.length_append]; omega
    rw [e1, Int.toNat_natCast, List.append_assoc, List.drop_left, List.take_left' hlen]
  rw [e]

theorem gv_bad {l : List UInt8} {p x y z : Int} (h : gv l p = (x, y, z)) (hz : z ≠ 0) : x = 0 ∧ y = 0 := by
  unfold gv at h
  by_cases h0 : p < 0
  · rw [if_pos h0] at h; simp at h; omega
  · rw [if_neg h0] at h
    cases hs : scan (l.drop p.toNat) 0 0 with
    | short => rw [hs] at h; simp at h; omega
    | form => rw [hs] at h; simp at h; omega
    | ok u n => rw [hs] at h; simp at h; omega

theorem gv_good {l : List UInt8} {p x y : Int} (h : gv l p = (x, y, 0)) :
    0 ≤ p ∧ p < y ∧ y ≤ l.length ∧ y ≤ p + 10 ∧ vb (zz x) = (l.drop p.toNat).take (y - p).toNat ∧ -9223372036854775808 ≤ x ∧ x ≤ 9223372036854775807 := by
  unfold gv at h
  by_cases h0 : p < 0
  · rw [if_pos h0] at h; simp at h
  · rw [if_neg h0] at h
    cases hs : scan (l.drop p.toNat) 0 0 with
    | short => rw [hs] at h; simp at h
    | form => rw [hs] at h; simp at h
    | ok u n =>
      rw [hs] at h
      simp only [Prod.mk.injEq, and_true] at h
      obtain ⟨h1, h2⟩ := h
      have hu := scan_lt hs
      obtain ⟨z, r, hl, hz, hk, _, hz2, h10⟩ := scan_ok _ 0 0 u n (by omega) hs
      have hz' : u = z := by simpa using hz
      subst hz'
      have h3 := congrArg List.length hl
      have h4 := vb_pos u
      have hi := uz_in hu
      simp only [List.length_drop, List.length_append] at h3
      refine ⟨by omega, by omega, by omega, by omega, ?_, by omega, by omega⟩
      rw [← h1, zz_uz, hl, List.take_left' (by omega)]

theorem gx_good {l : List UInt8} {p most y : Int} {t : ByteArray} (h : gx l p most = (t, y, 0)) :
    0 ≤ p ∧ p < y ∧ y ≤ l.length ∧ (t.size : Int) ≤ most ∧ vb (zz t.size) ++ t.data.toList = (l.drop p.toNat).take (y - p).toNat ∧ t.size ≤ l.length := by
  unfold gx at h
  by_cases h1 : (gv l p).2.2 ≠ 0
  · rw [if_pos h1] at h; simp only [Prod.mk.injEq] at h; exact absurd h.2.2 h1
  · rw [if_neg h1] at h
    have hz : (gv l p).2.2 = 0 := by omega
    by_cases h2 : (gv l p).1 < 0
    · rw [if_pos h2] at h; simp at h
    · rw [if_neg h2] at h
      by_cases h3 : most < (gv l p).1
      · rw [if_pos h3] at h; simp at h
      · rw [if_neg h3] at h
        by_cases h4 : hasB l.length (gv l p).2.1 (gv l p).1 = false
        · rw [if_pos h4] at h; simp at h
        · rw [if_neg h4] at h
          have h4' : hasB l.length (gv l p).2.1 (gv l p).1 = true := by simpa using h4
          obtain ⟨g1, g2, g3, g4, g5, g6, g7⟩ := gv_good (l := l) (p := p) (x := (gv l p).1) (y := (gv l p).2.1) (by rw [← hz])
          have h5 : (gv l p).2.1 + (gv l p).1 ≤ l.length := by simp [hasB] at h4'; omega
          simp only [Prod.mk.injEq, and_true] at h
          obtain ⟨rfl, rfl⟩ := h
          generalize (gv l p).1 = x at *
          generalize (gv l p).2.1 = y at *
          have hsz : (ByteArray.mk (List.take x.toNat (List.drop y.toNat l)).toArray).size = x.toNat := by
            show (List.take x.toNat (List.drop y.toNat l)).toArray.size = _
            simp; omega
          have hsi : ((ByteArray.mk (List.take x.toNat (List.drop y.toNat l)).toArray).size : Int) = x := by rw [hsz]; omega
          refine ⟨by omega, by omega, by omega, by omega, ?_, by omega⟩
          rw [hsi, g5]
          show _ ++ List.take x.toNat (List.drop y.toNat l) = _
          have e1 : (y + x - p).toNat = (y - p).toNat + x.toNat := by omega
          have e2 : y.toNat = p.toNat + (y - p).toNat := by omega
          rw [e1, List.take_add, e2, List.drop_drop]

theorem div_u64 (X q : Nat) (h : X < 18446744073709551616) : IntKind.u64.wrap ((X : Int) / (q : Int)) = ((X / q : Nat) : Int) := by
  have h1 : X / q ≤ X := Nat.div_le_self _ _
  rw [← Int.natCast_ediv]
  generalize X / q = z at *
  exact IntWalk.u64_in _ (by omega)

theorem mod128 (u : Nat) : (128 : Int) + (u : Int) % 128 = ((UInt8.ofNat (u % 128 + 128)).toNat : Int) := by
  rw [ofNat_toNat' (by omega)]
  omega

theorem zz_pos {x : Int} (h : 0 ≤ x) : 2 * x = (zz x : Int) := by
  unfold zz
  rw [if_pos h]
  omega

theorem zz_neg {x : Int} (h : x < 0) : 2 * -(x + 1) + 1 = (zz x : Int) := by
  unfold zz
  rw [if_neg (by omega)]
  omega

def incRel (e : TypeId) (base : Nat) (A : Option Addr) (n c : Nat) (w0 : World) (i : Value) (wr : World) : Prop :=
  ∃ j, i = .int .i64 ((j : Nat) : Int) ∧ j ≤ n ∧ (∃ l, OwnB wr e base (.slice A n c) n l) ∧ Below base w0 wr

end Go.Proofs.YtejcjmiofidedaaGreatDoor.Oct

/- The byte's row of the table, and a slice of bytes as a string. -/
namespace Go.Proofs.YtejcjmiofidedaaGreatDoor.Oct
open Go.RowKit

theorem u8row : U8 Tryz.prog 5 := by
  obtain ⟨i, h1, h2, h3, h4⟩ := info_parts (P := Tryz.prog) (e := 5) (z := .int .u8 0) (size := 1) (bytes := 1) (by kernel_rfl)
  exact ⟨i, h1, h2, h3, h4⟩

end Go.Proofs.YtejcjmiofidedaaGreatDoor.Oct

/- The contract of the document's Copy. -/
namespace Go.Proofs.YtejcjmiofidedaaGreatDoor.Oct
open Go.RowKit

theorem Copy_any (A : Option Addr) (n c : Nat) (l : List UInt8) (B : Nat) (w : World) (hr : Rd w B A n l) (hn : n ≤ 549755813888) :
    Calls Tryz.prog 98 #[.slice A n c] w (RB 5 w.heap.size w l) := by
  have hI := u8row
  go_enter Tryz.func98, Tryz.ntmps98
  go_wp2_with (at_builtin; refine wpList_appB _ rfl _ _ 57 rfl w.heap.size 5 Tryz.underlying57 hI _ 0 [] rfl OwnB.nil B A n c l rfl hr (by omega) (Nat.le_refl _) ?_; intro A2 c2 w2 hown2 hb2)
  go_ret
  exact ⟨A2, n, c2, rfl, by simpa using hown2, hb2⟩

end Go.Proofs.YtejcjmiofidedaaGreatDoor.Oct

/- The contract of the document's PutVar. -/
namespace Go.Proofs.YtejcjmiofidedaaGreatDoor.Oct
open Go.RowKit

set_option maxRecDepth 100000 in
set_option maxHeartbeats 400000 in
theorem refPutVar_any (A : Option Addr) (n c : Nat) (x : Int) (l : List UInt8) (B : Nat) (w : World) (hr : Rd w B A n l) (hn : n ≤ 274877906944)
    (h1 : -9223372036854775808 ≤ x) (h2 : x ≤ 9223372036854775807) :
    Calls Tryz.prog 113 #[.slice A n c, .int .i64 x] w (RB 5 w.heap.size w (l ++ vb (zz x))) := by
  have hI := u8row
  have hz := zz_lt ⟨h1, h2⟩
  have hten := vb_ten hz
  have hlen := Lib.hid hr.len
  have HN := Lib.hid hn
  clear hn
  rcases (show 0 ≤ x ∨ x < 0 by omega) with hx | hx
  all_goals
    go_enter Tryz.func113, Tryz.ntmps113
    go_wp2_with (go_at_call 98; refine (Copy_any A n c l B w hr (by have := HN.out; omega)).mono ?_; rintro e w1 ⟨A0, n0, c0, rfl, hown0, hb0⟩)
    have hl0 := hown0.len
    have hb0s := hb0.size
    have HV := Lib.hid (show _ = Value.int .u64 (zz x : Int) from congrArg (Value.int .u64) (by first | exact zz_pos hx | exact zz_neg hx))
    go_loopw [6, 5] (fun v i wr => avRel w.heap.size l (zz x) w v i wr) (fun _ i _ => (intOf i).toNat)
    case atStart => exact ⟨A0, n0, c0, zz x, [], rfl, HV.out, by simpa using hown0, by simp, hz, hb0⟩
    case round =>
      obtain ⟨A1, n1, c1, u, l1, rfl, rfl, hown1, hv, hu, hb⟩ := hrel
      have hl1 : n1 ≤ n + 10 := by
        have a1 := hown1.len
        have a2 := congrArg List.length hv
        have a3 := hlen.out
        simp only [List.length_append] at a1 a2
        omega
      have hor := Lib.hid (mod128 u)
      have hbs := hb.size
      have hpos := vb_pos u
      have hV := Lib.hid hv
      have HU := Lib.hid hu
      clear hv hown0 hu hl0 hz hten h1 h2 hx
      by_cases hlt : u < 128
      · have hlow := Lib.hid (ofNat_toNat' (q := u) (by omega))
        go_wp2_with (at_builtin; refine wpList_app1 _ rfl _ _ 57 rfl w.heap.size 5 Tryz.underlying57 hI _ n1 _ rfl hown1 _ (UInt8.ofNat u) rfl (congrArg Nat.cast hlow.out.symm) (by have := HN.out; omega) (by omega) ?_; intro A2 c2 w2 hown2 hb2)
        go_ret
        refine ⟨A2, n1 + 1, c2, rfl, ?_, hb.trans hb2⟩
        rw [← hV.out, vb_small hlt, ← List.append_assoc]
        exact hown2
      · go_wp2_with (at_builtin; refine wpList_app1 _ rfl _ _ 57 rfl w.heap.size 5 Tryz.underlying57 hI _ n1 _ rfl hown1 _ _ rfl hor.out (by have := HN.out; omega) (by omega) ?_; intro A2 c2 w2 hown2 hb2)
        go_roundw
        case rel =>
          refine ⟨A2, n1 + 1, c2, u / 128, l1 ++ [UInt8.ofNat (u % 128 + 128)], rfl, congrArg (Value.int .u64) (div_u64 u 128 HU.out), ?_, ?_, Nat.lt_of_le_of_lt (Nat.div_le_self _ _) HU.out, hb.trans hb2⟩
          · rw [← List.append_assoc]; exact hown2
          · rw [← hV.out, vb_big (u := u) (by omega)]; simp
        case measure =>
          have hq : IntKind.u64.wrap ((u : Int) / 128) = ((u / 128 : Nat) : Int) := div_u64 u 128 HU.out
          simp only [intOf, hq]
          omega

end Go.Proofs.YtejcjmiofidedaaGreatDoor.Oct

/- The contract of the document's PutText. -/
namespace Go.Proofs.YtejcjmiofidedaaGreatDoor.Oct
open Go.RowKit

theorem refPutText_any (A : Option Addr) (n c : Nat) (s : ByteArray) (l : List UInt8) (B : Nat) (w : World) (hr : Rd w B A n l) (hn : n ≤ 137438953472) (hs : s.size ≤ 274877906944) :
    Calls Tryz.prog 136 #[.slice A n c, .string s] w (RB 5 w.heap.size w (l ++ vb (zz s.size) ++ s.data.toList)) := by
  have hI := u8row
  go_enter Tryz.func136, Tryz.ntmps136
  go_wp2_with (first | (go_at_call 113; refine (refPutVar_any A n c _ l B w hr (by omega) (by omega) (by omega)).mono ?_; rintro e w2 ⟨A2, n2, c2, rfl, hown2, hb2⟩; have hn2 : n2 ≤ n + 10 := (by have a1 := hown2.len; have a2 := vb_ten (zz_lt (n := (s.size : Int)) (by omega)); have a3 := hr.len; simp only [List.length_append] at a1; omega)) | (at_builtin; refine wpList_appS _ rfl _ _ 57 9 rfl w.heap.size 5 Tryz.underlying57 Tryz.underlying9 hI _ n2 _ rfl hown2 s rfl (by omega) (by have a2 := hb2.size; omega) ?_; intro A3 c3 w3 hown3 hb3))
  go_ret
  exact ⟨A3, n2 + s.size, c3, rfl, hown3, hb2.trans hb3⟩

end Go.Proofs.YtejcjmiofidedaaGreatDoor.Oct

/- Rows of structs: what a slice of structs of so many cells holds, and one of the call's own; the laws of append in these words. Nothing of the program: P, the types' numbers, the struct's cells and the worlds are letters. -/
namespace Go.Proofs.YtejcjmiofidedaaGreatDoor.RowF
open Go.RowKit Oct

structure Shape {α : Type} (f : α → List Value) (size : Nat) : Prop where
  len : ∀ x, (f x).length = size
  one : ∀ x, ∀ u ∈ f x, u.oneCell' = true
  pos : 0 < size
section
variable {α : Type} {f : α → List Value} {size : Nat}
theorem Shape.at (h : Shape f size) {l : List α} {k i : Nat} {x : α} (hk : l[k]? = some x) (hi : i < size) : (l.flatMap f)[k * size + i]? = (f x)[i]? := by
  induction l generalizing k with
  | nil => simp at hk
  | cons y l ih =>
    rw [List.flatMap_cons]
    cases k with
    | zero =>
      obtain rfl : y = x := by simpa using hk
      rw [Nat.zero_mul, Nat.zero_add, List.getElem?_append_left (by rw [h.len]; exact hi)]
    | succ k =>
      rw [List.getElem?_cons_succ] at hk
      rw [List.getElem?_append_right (by rw [h.len, Nat.succ_mul]; omega), h.len, show (k + 1) * size + i - size = k * size + i by rw [Nat.succ_mul]; omega]
      exact ih hk
theorem Shape.flat (h : Shape f size) (l : List α) : (l.flatMap f).length = l.length * size := by
  induction l with
  | nil => simp
  | cons y l ih => rw [List.flatMap_cons, List.length_append, ih, h.len, List.length_cons, Nat.succ_mul, Nat.add_comm]
theorem Shape.inv (h : Shape f size) {l : List α} {j : Nat} {u : Value} (hj : (l.flatMap f)[j]? = some u) : ∃ k x i, l[k]? = some x ∧ i < size ∧ j = k * size + i ∧ (f x)[i]? = some u := by
  have hlt := (List.getElem?_eq_some_iff.1 hj).1
  rw [h.flat] at hlt
  have hk : j / size < l.length := Nat.div_lt_of_lt_mul (by rw [Nat.mul_comm]; exact hlt)
  have hi := Nat.mod_lt j h.pos
  have he : j = j / size * size + j % size := by rw [Nat.mul_comm]; exact (Nat.div_add_mod j size).symm
  refine ⟨j / size, l[j / size], j % size, List.getElem?_eq_getElem hk, hi, he, ?_⟩
  rw [← h.at (List.getElem?_eq_getElem hk) hi, ← he, hj]
theorem Shape.set (h : Shape f size) {l : List α} {k i : Nat} {x y : α} {u : Value} (hk : l[k]? = some x) (hi : i < size) (hy : f y = (f x).set i u) : (l.flatMap f).set (k * size + i) u = (l.set k y).flatMap f := by
  have hlt := (List.getElem?_eq_some_iff.1 hk).1
  apply List.ext_getElem?
  intro j
  by_cases hj : j < l.length * size
  · have hkk : j / size < l.length := Nat.div_lt_of_lt_mul (by rw [Nat.mul_comm]; exact hj)
    have hii := Nat.mod_lt j h.pos
    have he : j = j / size * size + j % size := by rw [Nat.mul_comm]; exact (Nat.div_add_mod j size).symm
    obtain ⟨a, ha⟩ : ∃ a, j / size = a := ⟨_, rfl⟩
    obtain ⟨b, hb⟩ : ∃ b, j % size = b := ⟨_, rfl⟩
    rw [ha, hb] at he
    rw [ha] at hkk
    rw [hb] at hii
    subst he
    have hla : l[a]? = some l[a] := List.getElem?_eq_getElem hkk
    rw [List.getElem?_set]
    by_cases hka : k = a
    · subst hka
      have hs : (l.set k y)[k]? = some y := by rw [List.getElem?_set, if_pos rfl, if_pos hlt]
      rw [h.at hs hii, hy, List.getElem?_set, h.flat, h.len]
      by_cases hib : i = b
      · subst hib; rw [if_pos rfl, if_pos rfl, if_pos hj, if_pos hi]
      · rw [if_neg (by omega), if_neg hib, h.at hk hii]
    · have hs : (l.set k y)[a]? = some l[a] := by rw [List.getElem?_set, if_neg hka, hla]
      rw [h.at hs hii, h.at hla hii, if_neg]
      intro he
      have h1 : (k * size + i) / size = (a * size + b) / size := by rw [he]
      rw [Nat.mul_comm k, Nat.mul_comm a, Nat.mul_add_div h.pos, Nat.mul_add_div h.pos, Nat.div_eq_of_lt hi, Nat.div_eq_of_lt hii] at h1
      exact hka h1
  · rw [List.getElem?_eq_none (by rw [List.length_set, h.flat]; omega), List.getElem?_eq_none (by rw [h.flat, List.length_set]; omega)]
theorem Shape.ones (h : Shape f size) (l : List α) : ∀ u ∈ l.flatMap f, u.oneCell' = true := by
  intro u hu
  obtain ⟨x, _, hx⟩ := List.mem_flatMap.1 hu
  exact h.one x u hx
end

def RdF {α : Type} (f : α → List Value) (size : Nat) (w : World) (B : Nat) (A : Option Addr) (n : Nat) (l : List α) : Prop :=
  l.length = n ∧ ∀ k x, l[k]? = some x → ∃ b o, A = some ⟨b, o, none⟩ ∧ b < B ∧ ∀ i v, (f x)[i]? = some v → w.cell? ⟨b, o + k * size + i, none⟩ = some v
def OwnF {α : Type} (f : α → List Value) (size : Nat) (w : World) (e : TypeId) (B : Nat) (v : Value) (n : Nat) (l : List α) : Prop := w.ownsRow B e size v n (l.flatMap f)
section
variable {α : Type} {f : α → List Value} {size : Nat} {w w' : World} {e : TypeId} {B B' n c : Nat} {A : Option Addr} {v : Value} {l : List α}
theorem RdF.len (h : RdF f size w B A n l) : l.length = n := h.1
theorem RdF.nil : RdF f size w B A 0 [] := ⟨rfl, by simp⟩
theorem RdF.keep (h : RdF f size w B A n l) (hk : ∀ p : Addr, p.block < B → w'.cell? p = w.cell? p) : RdF f size w' B A n l :=
  ⟨h.1, fun k x hx => by
    obtain ⟨b, o, hA, hb, hc⟩ := h.2 k x hx
    exact ⟨b, o, hA, hb, fun i v hv => (hk _ hb).trans (hc i v hv)⟩⟩
theorem RdF.more (h : RdF f size w B A n l) (hB : B ≤ B') : RdF f size w B' A n l :=
  ⟨h.1, fun k x hx => by
    obtain ⟨b, o, hA, hb, hc⟩ := h.2 k x hx
    exact ⟨b, o, hA, by omega, hc⟩⟩
theorem RdF.below (h : RdF f size w B A n l) (hb : Below B' w w') (hB : B ≤ B') : RdF f size w' B A n l := h.keep fun _ hp => hb.cell (by omega)
theorem RdF.alloc (h : RdF f size w B A n l) (hB : B ≤ w.heap.size) (o : Obj) : RdF f size (w.alloc o) B A n l := h.keep fun p hp => World.cell?_alloc_lt w o p (by omega)
theorem RdF.at {k : Nat} (h : RdF f size w B A n l) (hk : k < n) : ∃ b o x, A = some ⟨b, o, none⟩ ∧ b < B ∧ l[k]? = some x ∧ ∀ i v, (f x)[i]? = some v → w.cell? ⟨b, o + k * size + i, none⟩ = some v := by
  have hl : k < l.length := by have := h.1; omega
  obtain ⟨b, o, hA, hb, hc⟩ := h.2 k l[k] (List.getElem?_eq_getElem hl)
  exact ⟨b, o, l[k], hA, hb, List.getElem?_eq_getElem hl, hc⟩
theorem RdF.isNil (h : RdF f size w B none n l) : n = 0 ∧ l = [] := by
  have hl : l = [] := by
    cases l with
    | nil => rfl
    | cons c l => obtain ⟨b, o, hA, _⟩ := h.2 0 c rfl; cases hA
  subst hl
  exact ⟨h.1.symm, rfl⟩
theorem RdF.cells (hs : Shape f size) {ad : Addr} (h : RdF f size w B (some ad) n l) : ∀ j u, (l.flatMap f)[j]? = some u → w.cell? (ad.add j) = some u := by
  intro j u hu
  obtain ⟨k, x, i, hk, hi, rfl, hx⟩ := hs.inv hu
  obtain ⟨b, o, hA, _, hc⟩ := h.2 k x hk
  obtain rfl := Option.some.inj hA
  rw [Addr.add_lit, ← Nat.add_assoc]
  exact hc i u hx
theorem OwnF.len (hs : Shape f size) (h : OwnF f size w e B v n l) : l.length = n := by
  have h1 := h.1
  rw [hs.flat] at h1
  exact Nat.eq_of_mul_eq_mul_right hs.pos h1
theorem OwnF.nil : OwnF f size w e B (.slice none 0 0) 0 [] := World.ownsRow_nil _ _ _ _
theorem OwnF.alloc (h : OwnF f size w e B v n l) (o : Obj) : OwnF f size (w.alloc o) e B v n l := World.ownsRow.alloc h o
theorem OwnF.drew (h : OwnF f size w e B v n l) : OwnF f size w.drew e B v n l := h
theorem OwnF.drewN (h : OwnF f size w e B v n l) (k : Nat) : OwnF f size (w.drewN k) e B v n l := h
theorem OwnF.more (h : OwnF f size w e B v n l) (hB : B' ≤ B) : OwnF f size w e B' v n l := by
  refine ⟨h.1, ?_⟩
  rcases h.2 with h2 | ⟨g, cap, cur, h3, h4, h5⟩
  · exact .inl h2
  · exact .inr ⟨g, cap, cur, h3, by omega, h5⟩
theorem OwnF.below (h : OwnF f size w e B v n l) (hb : Below w.heap.size w w') : OwnF f size w' e B v n l := by
  refine World.ownsRow.kept (row := none) h ⟨hb.os, hb.tape, hb.output, hb.size, fun k hk _ => hb.block k hk⟩ ?_
  cases v.ownBlock <;> simp
theorem OwnF.setBelow (h : OwnF f size w e B v n l) {a : Addr} (ha : a.block < B) (u : Value) : OwnF f size (w.setCell a u) e B v n l := ownsRow_setCell_below h ha u
theorem OwnF.cap (h : OwnF f size w e B (.slice A n c) n l) : n ≤ c := by
  rcases h.2 with ⟨hv, hn⟩ | ⟨g, cap, cur, hv, _, _, hc, _⟩
  · omega
  · injection hv with _ _ h3
    omega
theorem OwnF.form (h : OwnF f size w e B (.slice A n c) n l) (hn : 0 < n) : ∃ g, A = some ⟨g, 0, none⟩ ∧ B ≤ g ∧ g < w.heap.size := by
  obtain ⟨g, cap, hv, hb, hl⟩ := World.ownsRow.form h hn
  injection hv with h1
  exact ⟨g, h1, hb, hl⟩
theorem OwnF.rd (hs : Shape f size) (h : OwnF f size w e B (.slice A n c) n l) : RdF f size w w.heap.size A n l := by
  refine ⟨h.len hs, fun k x hk => ?_⟩
  have hkn : k < n := by have := (List.getElem?_eq_some_iff.1 hk).1; have := h.len hs; omega
  obtain ⟨g, rfl, _, hlt⟩ := h.form (by omega)
  refine ⟨g, 0, rfl, hlt, fun i u hu => ?_⟩
  have hi : i < size := by have := (List.getElem?_eq_some_iff.1 hu).1; rw [hs.len] at this; exact this
  have hcell := World.ownsRow.cells h (g := g) rfl (k * size + i) u (by rw [hs.at hk hi, hu])
  rw [Addr.add_lit, ← Nat.add_assoc] at hcell
  exact hcell
theorem OwnF.frozen {g : Nat} (h : OwnF f size w e B (.slice (some ⟨g, 0, none⟩) n c) n l) (j : Nat) : w.frozen? ⟨g, j, none⟩ = false := World.ownsRow.frozenAt h j
end

section
variable {α : Type} {f : α → List Value} {size : Nat} {w : World} {e : TypeId} {B g n c : Nat} {l : List α}
theorem OwnF.set (hs : Shape f size) (h : OwnF f size w e B (.slice (some ⟨g, 0, none⟩) n c) n l) (hg : B ≤ g) {k i : Nat} {x y : α} {u : Value} (hk : l[k]? = some x) (hi : i < size) (hy : f y = (f x).set i u) :
    OwnF f size (w.setCell ⟨g, k * size + i, none⟩ u) e B (.slice (some ⟨g, 0, none⟩) n c) n (l.set k y) ∧ Below B w (w.setCell ⟨g, k * size + i, none⟩ u) := by
  refine ⟨?_, (Below.refl B w).setCell hg _⟩
  have h1 := (World.ownsRow.stored h (k * size + i) u).1
  rw [hs.set hk hi hy] at h1
  exact h1
theorem OwnF.cellAt (hs : Shape f size) (h : OwnF f size w e B (.slice (some ⟨g, 0, none⟩) n c) n l) {k i : Nat} {x : α} {u : Value} (hk : l[k]? = some x) (hu : (f x)[i]? = some u) : w.cell? ⟨g, k * size + i, none⟩ = some u := by
  have hi : i < size := by have := (List.getElem?_eq_some_iff.1 hu).1; rw [hs.len] at this; exact this
  have hkn : k < n := by have := (List.getElem?_eq_some_iff.1 hk).1; have := h.len hs; omega
  have hlt : k * size + i < n * size := by
    have : (k + 1) * size ≤ n * size := Nat.mul_le_mul_right size hkn
    rw [Nat.succ_mul] at this
    omega
  rw [World.ownsRow.cellAt h _ hlt, hs.at hk hi, hu]
end

section
variable {α : Type} {f : α → List Value} {size : Nat} {P : Program} (w : World)
def Info (P : Program) (e : TypeId) (size bytes : Nat) : Prop := ∃ i z, P.info? e = some i ∧ i.zero = some z ∧ i.size = size ∧ i.bytes = bytes ∧ z.cells.size = size
theorem run_append_nilF (base : Nat) (t ty e : TypeId) (i : TypeInfo) (ht : P.underlying t = some (.slice e)) (hi : P.info? e = some i) (size : Nat)
    (v : Value) (n : Nat) (xs : List Value) (hown : w.ownsRow base e size v n xs) (c : Nat) : (Builtin.append_ #[t, t] ty #[v, .slice none 0 c]).run P w = .ok v w := by
  rcases hown.2 with ⟨rfl, rfl⟩ | ⟨g, cap, cur, rfl, _, _, hnc, _⟩
  · simp [Builtin.append_, run_underlying ht, sizeOf, typeInfo, hi, Builtin.lenOf, Builtin.firstCells]
  · simp [Builtin.append_, run_underlying ht, sizeOf, typeInfo, hi, Builtin.lenOf, Builtin.firstCells, hnc, storeCells]
theorem run_appF (hs : Shape f size) (bytes : Nat) (base : Nat) (t ty e : TypeId) (ht : P.underlying t = some (.slice e)) (hI : Info P e size bytes)
    (v : Value) (n : Nat) (l : List α) (hown : OwnF f size w e base v n l) (B : Nat) (A : Option Addr) (m c : Nat) (news : List α) (hr : RdF f size w B A m news)
    (hb : (n + m) * bytes ≤ 140737488355328) (h63 : n + m ≤ 140737488355328) (hbase : base ≤ w.heap.size) :
    ∃ A' c' w', (Builtin.append_ #[t, t] ty #[v, .slice A m c]).run P w = .ok (.slice A' (n + m) c') w' ∧ OwnF f size w' e base (.slice A' (n + m) c') (n + m) (l ++ news) ∧ Below base w w' := by
  obtain ⟨i, z, hi, hz, hsz, hby, hzs⟩ := hI
  cases A with
  | none =>
    obtain ⟨rfl, rfl⟩ := hr.isNil
    obtain ⟨A', c', rfl⟩ := ownsRow_slice w hown
    exact ⟨A', c', w, run_append_nilF w base t ty e i ht hi size _ n _ hown c, by simpa using hown, Below.refl _ _⟩
  | some ad =>
    obtain ⟨v', w', hrun, h2, h3, _⟩ := run_append_own (P := P) w base t ty e i z size bytes ht hi hz hsz hby hzs hs.pos v n _ hown ad m c (news.flatMap f) (by rw [hs.flat, hr.len]) (hr.cells hs) (hs.ones _)
      (by unfold maxLen; omega) hb hbase
    obtain ⟨A', c', rfl⟩ := ownsRow_slice w' h2
    exact ⟨A', c', w', hrun, by unfold OwnF; rw [List.flatMap_append]; exact h2, below_of_grown w hown h3 hbase⟩
theorem wpList_appF {ops : Array Oper} {rest : List Oper} {o : Oper} {a : Act} {Q : Exit → Act → World → Prop} (hs : Shape f size) (hgd : o.guard = none) (s x : Operand) (t : TypeId)
    (ho : o.op = .call { callee := .builtin .append, args := #[s, x], argTypes := #[t, t] })
    (bytes base : Nat) (e : TypeId) (ht : P.underlying t = some (.slice e)) (hI : Info P e size bytes)
    (v : Value) (n : Nat) (l : List α) (hsv : a.eval s = v) (hown : OwnF f size w e base v n l)
    (B : Nat) (A : Option Addr) (m c : Nat) (news : List α) (hx : a.eval x = .slice A m c) (hr : RdF f size w B A m news)
    (hb : (n + m) * bytes ≤ 140737488355328) (h63 : n + m ≤ 140737488355328) (hbase : base ≤ w.heap.size)
    (h : ∀ A' c' w', OwnF f size w' e base (.slice A' (n + m) c') (n + m) (l ++ news) → Below base w w' → wpList P ops Q rest (a.put o.dst (.slice A' (n + m) c')) w') : wpList P ops Q (o :: rest) a w := by
  refine wpList_plain hgd fun K hK => ?_
  obtain ⟨A', c', w', hrun, h2, h3⟩ := run_appF (P := P) w hs bytes base t o.type e ht hI v n l hown B A m c news hr hb h63 hbase
  unfold Oper.wp execOp
  simp only [ho, resolve, invoke, builtin, Sem.run_bind, Sem.run_pure, Result.andThen_ok, List.map_toArray, List.map_cons, List.map_nil, hsv, hx, hrun]
  exact hK _ _ (h A' c' w' h2 h3)
theorem rdF_new (_hs : Shape f size) (e : TypeId) (x : α) : RdF f size (w.alloc (.cells (f x).toArray e)) (w.heap.size + 1) (some ⟨w.heap.size, 0, none⟩) 1 [x] := by
  refine ⟨rfl, fun k y hk => ?_⟩
  match k, hk with
  | 0, hk =>
    obtain rfl : x = y := by simpa using hk
    refine ⟨_, _, rfl, Nat.lt_succ_self _, fun i u hu => ?_⟩
    rw [cell_of_row _ _ _ _ e _ (heap_alloc_new w _)]
    simpa using hu
end
end Go.Proofs.YtejcjmiofidedaaGreatDoor.RowF

/- Two rows of the call's own side by side: append to one leaves the other alone. Nothing of the program. -/
namespace Go.Proofs.YtejcjmiofidedaaGreatDoor.RowF
open Go.RowKit Oct

theorem grown_refl (w : World) (r : Option Nat) : w.grownBy w r := ⟨rfl, rfl, rfl, Nat.le_refl _, fun _ _ _ => rfl⟩
def Apart (v u : Value) : Prop := ∀ g, v.ownBlock = some g → u.ownBlock ≠ some g
theorem Apart.symm {v u : Value} (h : Apart v u) : Apart u v := fun g hu hv => h g hv hu
theorem Apart.ne {v u : Value} (h : Apart v u) : u.ownBlock = none ∨ u.ownBlock ≠ v.ownBlock := by
  cases hu : u.ownBlock with
  | none => exact .inl rfl
  | some g => exact .inr fun e => h g e.symm hu
theorem Apart.nil (u : Value) (c : Nat) : Apart (.slice none 0 c) u := fun g h => by cases h
theorem own_far {w w' : World} {e : TypeId} {B size n : Nat} {u v : Value} {xs : List Value} (h : w.ownsRow B e size u n xs) (ha : Apart v u) (hg : w.grownBy w' v.ownBlock) : w'.ownsRow B e size u n xs := World.ownsRow.kept h hg ha.ne
section
variable {α : Type} {f : α → List Value} {size : Nat} {P : Program} (w : World)
theorem run_appFG (hs : Shape f size) (bytes : Nat) (base : Nat) (t ty e : TypeId) (ht : P.underlying t = some (.slice e)) (hI : Info P e size bytes)
    (v : Value) (n : Nat) (l : List α) (hown : OwnF f size w e base v n l) (B : Nat) (A : Option Addr) (m c : Nat) (news : List α) (hr : RdF f size w B A m news)
    (hb : (n + m) * bytes ≤ 140737488355328) (h63 : n + m ≤ 140737488355328) (hbase : base ≤ w.heap.size) :
    ∃ A' c' w', (Builtin.append_ #[t, t] ty #[v, .slice A m c]).run P w = .ok (.slice A' (n + m) c') w' ∧ OwnF f size w' e base (.slice A' (n + m) c') (n + m) (l ++ news) ∧ w.grownBy w' v.ownBlock ∧ ((Value.slice A' (n + m) c').ownBlock = v.ownBlock ∨ (Value.slice A' (n + m) c').ownBlock = some w.heap.size) := by
  obtain ⟨i, z, hi, hz, hsz, hby, hzs⟩ := hI
  cases A with
  | none =>
    obtain ⟨rfl, rfl⟩ := hr.isNil
    obtain ⟨A', c', rfl⟩ := ownsRow_slice w hown
    exact ⟨A', c', w, run_append_nilF w base t ty e i ht hi size _ n _ hown c, by simpa using hown, grown_refl _ _, .inl (by cases A' <;> rfl)⟩
  | some ad =>
    obtain ⟨v', w', hrun, h2, h3, _, h5⟩ := run_append_own_at (P := P) w base t ty e i z size bytes ht hi hz hsz hby hzs hs.pos v n _ hown ad m c (news.flatMap f) (by rw [hs.flat, hr.len]) (hr.cells hs) (hs.ones _)
      (by unfold maxLen; omega) hb hbase
    obtain ⟨A', c', rfl⟩ := ownsRow_slice w' h2
    exact ⟨A', c', w', hrun, by unfold OwnF; rw [List.flatMap_append]; exact h2, h3, h5⟩
theorem run_appBG (base : Nat) (t ty e : TypeId) (ht : P.underlying t = some (.slice e)) (hI : U8 P e)
    (v : Value) (n : Nat) (l : List UInt8) (hown : OwnB w e base v n l) (B : Nat) (A : Option Addr) (m c : Nat) (news : List UInt8) (hr : Rd w B A m news)
    (hb : n + m ≤ 1099511627776) (hbase : base ≤ w.heap.size) :
    ∃ A' c' w', (Builtin.append_ #[t, t] ty #[v, .slice A m c]).run P w = .ok (.slice A' (n + m) c') w' ∧ OwnB w' e base (.slice A' (n + m) c') (n + m) (l ++ news) ∧ w.grownBy w' v.ownBlock ∧ ((Value.slice A' (n + m) c').ownBlock = v.ownBlock ∨ (Value.slice A' (n + m) c').ownBlock = some w.heap.size) := by
  obtain ⟨i, hi, hz, hs, hby⟩ := hI
  cases A with
  | none =>
    obtain ⟨rfl, rfl⟩ := hr.isNil
    obtain ⟨A', c', rfl⟩ := ownsRow_slice w hown
    exact ⟨A', c', w, run_append_nilB w base t ty e i ht hi _ n _ hown c, by simpa using hown, grown_refl _ _, .inl (by cases A' <;> rfl)⟩
  | some ad =>
    obtain ⟨v', w', hrun, h2, h3, _, h5⟩ := run_append_own_at (P := P) w base t ty e i (.int .u8 0) 1 1 ht hi hz hs hby rfl (by decide) v n _ hown ad m c (news.map bv) (by simp [hr.len]) hr.cells (oneCell_bv _)
      (by unfold maxLen; omega) (by omega) hbase
    obtain ⟨A', c', rfl⟩ := ownsRow_slice w' h2
    exact ⟨A', c', w', hrun, by unfold OwnB; rw [List.map_append]; exact h2, h3, h5⟩
end
end Go.Proofs.YtejcjmiofidedaaGreatDoor.RowF

/- The contract of octet.Copied. -/
namespace Go.Proofs.YtejcjmiofidedaaGreatDoor.Oct
open Go.RowKit

theorem copied_any (A : Option Addr) (n c : Nat) (k : Int) (l : List UInt8) (B : Nat) (w : World) (hr : Rd w B A n l) (hB : B ≤ w.heap.size) (hn : n ≤ 549755813888) (hk0 : 0 ≤ k) (hk : k ≤ 549755813888) :
    Calls Tryz.prog 141 #[.slice A n c, .int .i64 k] w (RB 5 w.heap.size w l) := by
  have hI := u8row
  obtain ⟨m, rfl⟩ : ∃ m : Nat, k = (m : Int) := ⟨k.toNat, by omega⟩
  go_enter Tryz.func141, Tryz.ntmps141
  go_wp2_with (first | (at_make; refine wpList_mkB _ rfl _ _ 57 rfl 5 Tryz.underlying57 hI _ _ _ (n + m) rfl rfl (by omega) (by omega) ?_; intro A1 c1 w1 hown1 hb1) | (at_builtin; refine wpList_appB _ rfl _ _ 57 rfl w.heap.size 5 Tryz.underlying57 hI _ 0 [] rfl hown1 B A n c l rfl (hr.below hb1 hB) (by omega) hb1.size ?_; intro A2 c2 w2 hown2 hb2))
  go_ret
  exact ⟨A2, n, c2, rfl, by simpa using hown2, hb1.trans hb2⟩

end Go.Proofs.YtejcjmiofidedaaGreatDoor.Oct

/- The contract of octet.IsWidth. -/
namespace Go.Proofs.YtejcjmiofidedaaGreatDoor.Oct
open Go.RowKit

theorem isWidth_any (k : Int) (w : World) : Calls Tryz.prog 145 #[.int .i64 k] w fun e w' => e = .returned (.bool (isW k)) ∧ w = w' := by
  go_enter Tryz.func145, Tryz.ntmps145
  go_wp2
  all_goals go_ret
  all_goals refine ⟨?_, rfl⟩
  · rename_i h; exact ret_bool (by simp [isW, h])
  · rename_i h; exact ret_bool (by simp [isW]; omega)

end Go.Proofs.YtejcjmiofidedaaGreatDoor.Oct

/- The contract of octet.Put. -/
namespace Go.Proofs.YtejcjmiofidedaaGreatDoor.Oct
open Go.RowKit

set_option maxRecDepth 100000 in
set_option maxHeartbeats 400000 in
theorem Put_yes (A : Option Addr) (n c : Nat) (x k : Nat) (l : List UInt8) (B : Nat) (w : World) (hr : Rd w B A n l) (hB : B ≤ w.heap.size) (hn : n ≤ 274877906944) (hk1 : 1 ≤ k) (hk8 : k ≤ 8) :
    Calls Tryz.prog 133 #[.slice A n c, .int .u64 (x : Int), .int .i64 (k : Int)] w (RB 5 w.heap.size w (l ++ beN x k k)) := by
  have hI := u8row
  have hw : isW (k : Int) = true := by simp [isW]; omega
  have hlen := Lib.hid hr.len
  have HN := Lib.hid hn
  clear hn
  go_enter Tryz.func133, Tryz.ntmps133
  go_wp2_with (first | (go_at_call 145; refine (isWidth_any _ _).mono ?_; rintro e w1 ⟨rfl, rfl⟩) | (go_at_call 141; refine (copied_any A n c _ l B w hr hB (by have := HN.out; omega) (by omega) (by omega)).mono ?_; rintro e w1 ⟨A1, n1, c1, rfl, hown1, hb1⟩))
  have hsz := hb1.size
  go_loopw [7, 18] (fun v i wr => putRel w.heap.size l x k w v i wr) (fun _ i _ => k - (intOf i).toNat)
  case atStart => exact ⟨A1, n1, c1, 0, rfl, rfl, Nat.zero_le _, by simpa [beN_zero] using hown1, hb1⟩
  case round =>
    clear hown1
    obtain ⟨A2, n2, c2, j, rfl, rfl, hj, hown2, hb2⟩ := hrel
    have hn2 : n2 ≤ n + 8 := by
      have a1 := hown2.len
      have a3 := hlen.out
      rw [List.length_append, beN_length] at a1
      omega
    have hbs := hb2.size
    by_cases hlt : j < k
    · go_wp2_with (at_builtin; refine wpList_app1 _ rfl _ _ 57 rfl w.heap.size 5 Tryz.underlying57 hI _ n2 _ rfl hown2 _ _ rfl (putByte x (k - 1 - j)) (by have := HN.out; omega) (by omega) ?_; intro A3 c3 w3 hown3 hb3)
      go_roundw
      case rel =>
        refine ⟨A3, n2 + 1, c3, j + 1, rfl, by go_num, by omega, ?_, hb2.trans hb3⟩
        rw [beN_succ, ← List.append_assoc]
        exact hown3
      case measure => simp [intOf]; omega
    · have hjk : j = k := by omega
      subst hjk
      go_wp2
      go_ret
      exact ⟨A2, n2, c2, rfl, hown2, hb2⟩

theorem Put_any (A : Option Addr) (n c : Nat) (x : Nat) (k : Int) (l : List UInt8) (B : Nat) (w : World) (hr : Rd w B A n l) (hB : B ≤ w.heap.size) (hn : n ≤ 274877906944) :
    Calls Tryz.prog 133 #[.slice A n c, .int .u64 (x : Int), .int .i64 k] w (RB 5 w.heap.size w (l ++ if isW k then beN x k.toNat k.toNat else [])) := by
  by_cases hk : isW k = true
  · obtain ⟨m, rfl⟩ : ∃ m : Nat, k = (m : Int) := ⟨k.toNat, by simp [isW] at hk; omega⟩
    have h := hk
    simp [isW] at h
    rw [if_pos hk, Int.toNat_natCast]
    exact Put_yes A n c x m l B w hr hB hn (by omega) (by omega)
  · rw [if_neg hk, List.append_nil]
    have hk' : isW k = false := by simpa using hk
    clear hk
    go_enter Tryz.func133, Tryz.ntmps133
    go_wp2_with (first | (go_at_call 145; refine (isWidth_any _ _).mono ?_; rintro e w1 ⟨rfl, rfl⟩) | (go_at_call 141; refine (copied_any A n c _ l B w hr hB (by omega) (by omega) (by omega)).mono ?_; rintro e w1 ⟨A1, n1, c1, rfl, hown1, hb1⟩))
    go_ret
    exact ⟨A1, n1, c1, rfl, hown1, hb1⟩

end Go.Proofs.YtejcjmiofidedaaGreatDoor.Oct

/- The contract of octet.Fold. -/
namespace Go.Proofs.YtejcjmiofidedaaGreatDoor.Oct
open Go.RowKit

theorem fold_any (n : Int) (w : World) (h1 : -9223372036854775808 ≤ n) (h2 : n ≤ 9223372036854775807) :
    Calls Tryz.prog 157 #[.int .i64 n] w fun e w' => e = .returned (.int .u64 (zz n)) ∧ w = w' := by
  have H := Lib.hid (fold_num n ⟨h1, h2⟩)
  go_enter Tryz.func157, Tryz.ntmps157
  go_wp2
  go_ret
  exact ⟨ret_int H.out, rfl⟩

end Go.Proofs.YtejcjmiofidedaaGreatDoor.Oct

/- The contract of octet.AppendVar. -/
namespace Go.Proofs.YtejcjmiofidedaaGreatDoor.Oct
open Go.RowKit

set_option maxRecDepth 100000 in
set_option maxHeartbeats 400000 in
theorem appendVar_any (A : Option Addr) (n c : Nat) (x : Int) (l : List UInt8) (base : Nat) (w : World) (hown : OwnB w 5 base (.slice A n c) n l) (hbase : base ≤ w.heap.size) (hn : n ≤ 1099511620000)
    (h1 : -9223372036854775808 ≤ x) (h2 : x ≤ 9223372036854775807) :
    Calls Tryz.prog 140 #[.slice A n c, .int .i64 x] w (RB 5 base w (l ++ vb (zz x))) := by
  have hI := u8row
  have hz := zz_lt ⟨h1, h2⟩
  have hten := vb_ten hz
  have hlen := Lib.hid hown.len
  have HN := Lib.hid hn
  clear hn
  go_enter Tryz.func140, Tryz.ntmps140
  go_wp2_with (go_at_call 157; refine (fold_any _ _ h1 h2).mono ?_; rintro e w1 ⟨rfl, rfl⟩)
  obtain ⟨z, hzz⟩ : ∃ z, z = zz x := ⟨_, rfl⟩
  rw [← hzz] at hz hten ⊢
  have HZ := Lib.hid hz
  have HZZ := Lib.hid hzz
  clear hzz h1 h2 hz
  go_loopw [0, 5] (fun v i wr => avRel base l z w v i wr)
    (fun _ i _ => (intOf i).toNat)
  case atStart => exact ⟨A, n, c, z, [], rfl, rfl, by simpa using hown, by simp, HZ.out, Below.refl _ _⟩
  case round =>
    obtain ⟨A1, n1, c1, u, l1, rfl, rfl, hown1, hv, hu, hb⟩ := hrel
    have hl1 : n1 ≤ n + 10 := by
      have a1 := hown1.len
      have a2 := congrArg List.length hv
      have a3 := hlen.out
      simp only [List.length_append] at a1 a2
      omega
    have hor := Lib.hid (or128 u)
    have hbs := hb.size
    have hpos := vb_pos u
    have hV := Lib.hid hv
    have HU := Lib.hid hu
    clear hv hown hu
    by_cases hlt : u < 128
    · have hlow := Lib.hid (ofNat_toNat' (q := u) (by omega))
      go_wp2_with (at_builtin; refine wpList_app1 _ rfl _ _ 57 rfl base 5 Tryz.underlying57 hI _ n1 _ rfl hown1 _ (UInt8.ofNat u) rfl (congrArg Nat.cast hlow.out.symm) (by have := HN.out; omega) (by omega) ?_; intro A2 c2 w2 hown2 hb2)
      go_ret
      refine ⟨A2, n1 + 1, c2, rfl, ?_, hb.trans hb2⟩
      try rw [← HZZ.out]
      rw [← hV.out, vb_small hlt, ← List.append_assoc]
      exact hown2
    · go_wp2_with (at_builtin; refine wpList_app1 _ rfl _ _ 57 rfl base 5 Tryz.underlying57 hI _ n1 _ rfl hown1 _ _ rfl hor.out (by have := HN.out; omega) (by omega) ?_; intro A2 c2 w2 hown2 hb2)
      go_roundw
      case rel =>
        refine ⟨A2, n1 + 1, c2, u / 128, l1 ++ [UInt8.ofNat (u % 128 + 128)], rfl, by go_num, ?_, ?_, Nat.lt_of_le_of_lt (Nat.div_le_self _ _) HU.out, hb.trans hb2⟩
        · rw [← List.append_assoc]; exact hown2
        · rw [← hV.out, vb_big (u := u) (by omega)]; simp
      case measure => simp [intOf]; omega

end Go.Proofs.YtejcjmiofidedaaGreatDoor.Oct

/- The contract of octet.PutText. -/
namespace Go.Proofs.YtejcjmiofidedaaGreatDoor.Oct
open Go.RowKit

theorem PutText_any (A : Option Addr) (n c : Nat) (s : ByteArray) (l : List UInt8) (B : Nat) (w : World) (hr : Rd w B A n l) (hB : B ≤ w.heap.size) (hn : n ≤ 274877906944) (hs : s.size ≤ 274877906944) :
    Calls Tryz.prog 144 #[.slice A n c, .string s] w (RB 5 w.heap.size w (l ++ vb (zz s.size) ++ s.data.toList)) := by
  have hI := u8row
  go_enter Tryz.func144, Tryz.ntmps144
  go_wp2_with (first | (go_at_call 141; refine (copied_any A n c _ l B w hr hB (by omega) (by omega) (by omega)).mono ?_; rintro e w1 ⟨A1, n1, c1, rfl, hown1, hb1⟩; have hn1 : n1 = n := hown1.len.symm.trans hr.len; have HN1 := Lib.hid hn1; clear hn1) | (go_at_call 140; refine (appendVar_any A1 n1 c1 _ l w.heap.size w1 hown1 hb1.size (by have := HN1.out; omega) (by omega) (by omega)).mono ?_; rintro e w2 ⟨A2, n2, c2, rfl, hown2, hb2⟩; have hn2 : n2 ≤ n + 10 := (by have a1 := hown2.len; have a2 := vb_ten (zz_lt (n := (s.size : Int)) (by omega)); have a3 := hr.len; simp only [List.length_append] at a1; omega)) | (at_builtin; refine wpList_appS _ rfl _ _ 57 9 rfl w.heap.size 5 Tryz.underlying57 Tryz.underlying9 hI _ n2 _ rfl hown2 s rfl (by omega) (by have a1 := hb1.size; have a2 := hb2.size; omega) ?_; intro A3 c3 w3 hown3 hb3))
  go_ret
  exact ⟨A3, n2 + s.size, c3, rfl, hown3, (hb1.trans hb2).trans hb3⟩

end Go.Proofs.YtejcjmiofidedaaGreatDoor.Oct

/- The contract of octet.PutVar. -/
namespace Go.Proofs.YtejcjmiofidedaaGreatDoor.Oct
open Go.RowKit

theorem PutVar_any (A : Option Addr) (n c : Nat) (x : Int) (l : List UInt8) (B : Nat) (w : World) (hr : Rd w B A n l) (hB : B ≤ w.heap.size) (hn : n ≤ 549755813888) (h1 : -9223372036854775808 ≤ x) (h2 : x ≤ 9223372036854775807) :
    Calls Tryz.prog 122 #[.slice A n c, .int .i64 x] w (RB 5 w.heap.size w (l ++ vb (zz x))) := by
  go_enter Tryz.func122, Tryz.ntmps122
  go_wp2_with (first | (go_at_call 141; refine (copied_any A n c 10 l B w hr hB hn (by omega) (by omega)).mono ?_; rintro e w1 ⟨A1, n1, c1, rfl, hown1, hb1⟩; have hn1 : n1 = n := hown1.len.symm.trans hr.len; have HN1 := Lib.hid hn1; clear hn1) | (go_at_call 140; refine (appendVar_any A1 n1 c1 x l w.heap.size w1 hown1 hb1.size (by have := HN1.out; omega) h1 h2).mono ?_; rintro e w2 ⟨A2, n2, c2, rfl, hown2, hb2⟩))
  go_ret
  exact ⟨A2, n2, c2, rfl, hown2, hb1.trans hb2⟩

end Go.Proofs.YtejcjmiofidedaaGreatDoor.Oct

/- The contract of the document's Put. -/
namespace Go.Proofs.YtejcjmiofidedaaGreatDoor.Oct
open Go.RowKit

def rputIn (x q : Nat) (v i : Value) : Prop := ∃ t X, v = .int .u64 ((X : Nat) : Int) ∧ i = .int .i64 ((t : Nat) : Int) ∧ t ≤ q ∧ X = x / 256 ^ t ∧ X ≤ x

set_option maxRecDepth 100000 in
set_option maxHeartbeats 800000 in
theorem refPut_yes (A : Option Addr) (n c : Nat) (x k : Nat) (l : List UInt8) (B : Nat) (w : World) (hr : Rd w B A n l) (hn : n ≤ 274877906944) (hk1 : 1 ≤ k) (hk8 : k ≤ 8) (hx : x < 18446744073709551616) :
    Calls Tryz.prog 116 #[.slice A n c, .int .u64 (x : Int), .int .i64 (k : Int)] w (RB 5 w.heap.size w (l ++ beN x k k)) := by
  have hI := u8row
  have hlen := Lib.hid hr.len
  have HN := Lib.hid hn
  have HX := Lib.hid hx
  clear hn hx
  go_enter Tryz.func116, Tryz.ntmps116
  go_wp2_with (go_at_call 98; refine (Copy_any A n c l B w hr (by have := HN.out; omega)).mono ?_; rintro e w1 ⟨A1, n1, c1, rfl, hown1, hb1⟩)
  have hsz := hb1.size
  go_loopw [7, 20] (fun v i wr => putRel w.heap.size l x k w v i wr) (fun _ i _ => k - (intOf i).toNat)
  case atStart => exact ⟨A1, n1, c1, 0, rfl, rfl, Nat.zero_le _, by simpa [beN_zero] using hown1, hb1⟩
  case round =>
    clear hown1
    obtain ⟨A2, n2, c2, j, rfl, rfl, hj, hown2, hb2⟩ := hrel
    have hn2 : n2 ≤ n + 8 := by
      have a1 := hown2.len
      have a3 := hlen.out
      rw [List.length_append, beN_length] at a1
      omega
    have hbs := hb2.size
    obtain ⟨wo, rfl⟩ : ∃ wo : World, wo = wr := ⟨_, rfl⟩
    by_cases hlt : j < k
    · go_wp2
      go_loop [9, 28] (fun v i => rputIn x (k - 1 - j) v i) (fun _ i => (k - 1 - j) - (intOf i).toNat)
      case atStart => exact ⟨0, x, rfl, rfl, Nat.zero_le _, by simp, Nat.le_refl _⟩
      case round =>
        obtain ⟨t, X, rfl, rfl, ht, hX, hXx⟩ := hrel
        have HXX := Lib.hid hX
        have HXL := Lib.hid hXx
        clear hX hXx
        by_cases htq : t < k - 1 - j
        · go_wp2
          go_round
          case rel =>
            refine ⟨t + 1, X / 256, congrArg (Value.int .u64) (div_u64 X 256 (Nat.lt_of_le_of_lt HXL.out HX.out)), by go_num, by omega, ?_, Nat.le_trans (Nat.div_le_self _ _) HXL.out⟩
            rw [HXX.out, Nat.div_div_eq_div_mul, Nat.pow_succ]
          case measure => simp [intOf]; omega
        · have htq' : t = k - 1 - j := by omega
          have HB := Lib.hid (show (X : Int) % 256 = ((UInt8.ofNat (x / 256 ^ (k - 1 - j))).toNat : Int) by rw [UInt8.toNat_ofNat', HXX.out, htq']; omega)
          go_wp2_with (at_builtin; refine wpList_app1 _ rfl _ _ 57 rfl w.heap.size 5 Tryz.underlying57 hI _ n2 _ rfl hown2 _ _ rfl HB.out (by have := HN.out; omega) (by omega) ?_; intro A3 c3 w3 hown3 hb3)
          go_roundw
          case rel =>
            refine ⟨A3, n2 + 1, c3, j + 1, rfl, by go_num, by omega, ?_, hb2.trans hb3⟩
            rw [beN_succ, ← List.append_assoc]
            exact hown3
          case measure => simp [intOf]; omega
    · have hjk : j = k := by omega
      subst hjk
      go_wp2
      go_ret
      exact ⟨A2, n2, c2, rfl, hown2, hb2⟩

theorem refPut_any (A : Option Addr) (n c : Nat) (x : Nat) (k : Int) (l : List UInt8) (B : Nat) (w : World) (hr : Rd w B A n l) (hn : n ≤ 274877906944) (hx : x < 18446744073709551616) :
    Calls Tryz.prog 116 #[.slice A n c, .int .u64 (x : Int), .int .i64 k] w (RB 5 w.heap.size w (l ++ if isW k then beN x k.toNat k.toNat else [])) := by
  by_cases hk : isW k = true
  · obtain ⟨m, rfl⟩ : ∃ m : Nat, k = (m : Int) := ⟨k.toNat, by simp [isW] at hk; omega⟩
    have h := hk
    simp [isW] at h
    rw [if_pos hk, Int.toNat_natCast]
    exact refPut_yes A n c x m l B w hr hn (by omega) (by omega) hx
  · rw [if_neg hk, List.append_nil]
    have hk' : ¬ (1 ≤ k ∧ k ≤ 8) := by simpa [isW] using hk
    clear hk hx
    rcases (show k < 1 ∨ 8 < k by omega) with h | h
    all_goals
      go_enter Tryz.func116, Tryz.ntmps116
      go_wp2_with (go_at_call 98; refine (Copy_any A n c l B w hr (by omega)).mono ?_; rintro e w1 ⟨A1, n1, c1, rfl, hown1, hb1⟩)
      go_ret
      exact ⟨A1, n1, c1, rfl, hown1, hb1⟩

end Go.Proofs.YtejcjmiofidedaaGreatDoor.Oct

/- The contract of octet.Has. -/
namespace Go.Proofs.YtejcjmiofidedaaGreatDoor.Oct
open Go.RowKit

theorem has_any (A : Option Addr) (n c : Nat) (k m : Int) (w : World) (hn : n ≤ 9223372036854775807) (hk0 : 0 ≤ k) :
    Calls Tryz.prog 146 #[.slice A n c, .int .i64 k, .int .i64 m] w fun e w' => e = .returned (.bool (hasB n k m)) ∧ w = w' := by
  go_enter Tryz.func146, Tryz.ntmps146
  go_wp2
  all_goals go_ret
  all_goals refine ⟨?_, rfl⟩
  · rename_i h; exact ret_bool (by simp [hasB, h])
  · rename_i h; exact ret_bool (by simp [hasB]; omega)

end Go.Proofs.YtejcjmiofidedaaGreatDoor.Oct

/- The contract of octet.Get. -/
namespace Go.Proofs.YtejcjmiofidedaaGreatDoor.Oct
open Go.RowKit

set_option maxRecDepth 100000 in
set_option maxHeartbeats 800000 in
theorem Get_yes (A : Option Addr) (n c : Nat) (m k : Nat) (l : List UInt8) (B : Nat) (w : World) (hr : Rd w B A n l) (hc : n ≤ c) (hn : n ≤ 1099511627776) (hw : isW (k : Int) = true) (hh : hasB n (m : Int) (k : Int) = true) :
    Calls Tryz.prog 125 #[.slice A n c, .int .i64 (m : Int), .int .i64 (k : Int)] w fun e w' => e = .returned (.tuple #[.int .u64 (getN ((l.drop m).take k) : Int), .int .i64 0]) ∧ w = w' := by
  have h1 : 1 ≤ k ∧ k ≤ 8 := by simp [isW] at hw; omega
  have h2 : m + k ≤ n := by simp [hasB] at hh; omega
  obtain ⟨b, o, d0, rfl, _, _, _⟩ := hr.at (k := m) (by omega)
  have hcut := hr.cut (i := m) (m := k) h2 _ (fun _ => rfl)
  have HLEN := Lib.hid hcut.len
  go_enter Tryz.func125, Tryz.ntmps125
  go_wp2_with (first | (go_at_call 145; refine (isWidth_any _ _).mono ?_; rintro e w1 ⟨rfl, rfl⟩) | (go_at_call 146; refine (has_any _ _ _ _ _ _ (by omega) (by omega)).mono ?_; rintro e w1 ⟨rfl, rfl⟩))
  go_loop [8, 30] (fun v i => gtRel ((l.drop m).take k) k v i) (fun _ i => k - (intOf i).toNat)
  case atStart => exact ⟨0, 0, rfl, rfl, Nat.zero_le _, rfl⟩
  case round =>
    obtain ⟨j, U, rfl, rfl, hj, hU⟩ := hrel
    have HU := Lib.hid hU
    clear hU
    by_cases hlt : j < k
    · obtain ⟨b', o', d, he, _, hd, hcell⟩ := hcut.at hlt
      simp only [Option.map_some, Addr.add_lit, Option.some.injEq, Addr.mk.injEq] at he
      obtain ⟨rfl, rfl, _⟩ := he
      have HD := Lib.hid hd
      have hd255 : d.toNat ≤ 255 := by have := d.toNat_lt; omega
      have HOR := Lib.hid (or8 U d (by rw [HU.out]; exact getN_small (by rw [List.length_take]; omega)))
      clear hd hcut hr
      go_wp2
      go_round
      case rel => exact ⟨j + 1, _, congrArg (Value.int .u64) HOR.out, by go_num, by omega, by rw [getN_take _ _ _ HD.out, HU.out]⟩
      case measure => simp [intOf]; omega
    · have hjk : j = k := by omega
      subst hjk
      have HT := Lib.hid (show U = getN ((l.drop m).take j) by rw [HU.out, List.take_of_length_le (by have := HLEN.out; omega)])
      clear hcut hr
      go_wp2
      go_ret2
      exact ⟨congrArg (fun z : Nat => Ending.returned (.tuple #[.int .u64 (z : Int), .int .i64 0])) HT.out, rfl⟩

theorem Get_any (A : Option Addr) (n c : Nat) (p k : Int) (l : List UInt8) (B : Nat) (w : World) (hr : Rd w B A n l) (hc : n ≤ c) (hn : n ≤ 1099511627776) :
    Calls Tryz.prog 125 #[.slice A n c, .int .i64 p, .int .i64 k] w fun e w' => GT l p k e ∧ w = w' := by
  have hl := hr.len
  unfold GT gt
  rw [hl]
  by_cases h1 : isW k = true
  · by_cases h2 : p < 0
    · rw [if_pos (Or.inr h2)]
      clear hl hr hc
      go_enter Tryz.func125, Tryz.ntmps125
      go_wp2_with (go_at_call 145; refine (isWidth_any _ _).mono ?_; rintro e w1 ⟨rfl, rfl⟩)
      go_ret2
      exact ⟨rfl, rfl⟩
    · have h2' : 0 ≤ p := by omega
      rw [if_neg (by simp [h1, h2])]
      by_cases h3 : hasB n p k = true
      · rw [if_neg (by simp [h3])]
        obtain ⟨m, rfl⟩ : ∃ m : Nat, p = (m : Int) := ⟨p.toNat, by omega⟩
        obtain ⟨k, rfl⟩ : ∃ m : Nat, k = (m : Int) := ⟨k.toNat, by simp [isW] at h1; omega⟩
        exact Get_yes A n c m k l B w hr hc hn h1 h3
      · have h3' : hasB n p k = false := by simpa using h3
        rw [if_pos h3']
        clear hl hr hc h3 h2
        go_enter Tryz.func125, Tryz.ntmps125
        go_wp2_with (first | (go_at_call 145; refine (isWidth_any _ _).mono ?_; rintro e w1 ⟨rfl, rfl⟩) | (go_at_call 146; refine (has_any _ _ _ _ _ _ (by omega) (by omega)).mono ?_; rintro e w1 ⟨rfl, rfl⟩))
        go_ret2
        exact ⟨rfl, rfl⟩
  · have h1' : isW k = false := by simpa using h1
    rw [if_pos (Or.inl h1')]
    clear hl hr hc h1
    go_enter Tryz.func125, Tryz.ntmps125
    go_wp2_with (go_at_call 145; refine (isWidth_any _ _).mono ?_; rintro e w1 ⟨rfl, rfl⟩)
    all_goals go_ret2
    all_goals exact ⟨rfl, rfl⟩

theorem Get_is (A : Option Addr) (n c : Nat) (p k : Int) (l : List UInt8) (B : Nat) (w : World) (hr : Rd w B A n l) (hc : n ≤ c) (hn : n ≤ 1099511627776) {x : Nat} {z : Int} (h : gt l p k = (x, z)) :
    Calls Tryz.prog 125 #[.slice A n c, .int .i64 p, .int .i64 k] w fun e w' => e = .returned (.tuple #[.int .u64 (x : Int), .int .i64 z]) ∧ w = w' := by
  have h1 := Get_any A n c p k l B w hr hc hn
  unfold GT at h1
  rw [h] at h1
  exact h1

end Go.Proofs.YtejcjmiofidedaaGreatDoor.Oct

/- The contract of octet.Unfold. -/
namespace Go.Proofs.YtejcjmiofidedaaGreatDoor.Oct
open Go.RowKit

theorem unfold_any (u : Nat) (w : World) (h : u < 18446744073709551616) :
    Calls Tryz.prog 159 #[.int .u64 (u : Int)] w fun e w' => e = .returned (.int .i64 (uz u)) ∧ w = w' := by
  have H := Lib.hid (unfold_num u h)
  have hb : (u : Int) / 2 ≤ 9223372036854775807 := by omega
  clear h
  go_enter Tryz.func159, Tryz.ntmps159
  go_wp2
  go_ret
  exact ⟨ret_int H.out, rfl⟩

theorem unfold_at (y : Int) (u : Nat) (hy : y = (u : Int)) (w : World) (h : u < 18446744073709551616) :
    Calls Tryz.prog 159 #[.int .u64 y] w fun e w' => e = .returned (.int .i64 (uz u)) ∧ w = w' := by subst hy; exact unfold_any u w h

end Go.Proofs.YtejcjmiofidedaaGreatDoor.Oct

/- The contract of octet.GetVar. -/
namespace Go.Proofs.YtejcjmiofidedaaGreatDoor.Oct
open Go.RowKit

set_option maxRecDepth 100000 in
set_option maxHeartbeats 800000 in
theorem GetVar_at (A : Option Addr) (n c : Nat) (m : Nat) (l : List UInt8) (B : Nat) (w : World) (hr : Rd w B A n l) (hn : n ≤ 1099511627776) (hm : m ≤ 9223372036854775807) :
    Calls Tryz.prog 149 #[.slice A n c, .int .i64 (m : Int)] w fun e w' => GV l (m : Int) e ∧ w = w' := by
  have HL := Lib.hid hr.len
  have HM := Lib.hid hm
  have HN := Lib.hid hn
  clear hm hn
  go_enter Tryz.func149, Tryz.ntmps149
  go_wp2
  go_loop [7, 12] (fun v i => gvRel l m v i) (fun _ i => 10 - (intOf i).toNat)
  case atStart => exact ⟨0, 0, rfl, rfl, by omega, by simp, rfl⟩
  case round =>
    obtain ⟨U, j, rfl, rfl, hj, hU, hs⟩ := hrel
    have HS := Lib.hid hs
    have HU := Lib.hid hU
    clear hs hU
    by_cases hk : m + j < n
    · obtain ⟨b, o, d, rfl, _, hd, hcell⟩ := hr.at hk
      have hh : hasB n (m : Int) ((j : Int) + 1) = true := by simp [hasB]; omega
      have hd255 : d.toNat ≤ 255 := by have := d.toNat_lt; omega
      have hmn : m ≤ 1099511627776 := by have := HN.out; omega
      have HD := Lib.hid hd
      clear hd hr
      have hstep : scan (l.drop m) 0 0 = if VR.bad j d then .form else if d.toNat < 128 then .ok (U + d.toNat * 128 ^ j) (j + 1) else scan (l.drop (m + j + 1)) (j + 1) (U + (d.toNat - 128) * 128 ^ j) := by
        rw [HS.out, drop_at HD.out, scan]
      by_cases hbad : VR.bad j d
      · rw [if_pos hbad] at hstep
        have HF := Lib.hid hstep
        have hb2 : j = 9 ∧ 1 < d.toNat ∨ 0 < j ∧ d.toNat = 0 := hbad
        clear hstep hbad
        rcases hb2 with ⟨h9, h1⟩ | ⟨h0, h1⟩
        · have h9' : ((j : Int) == 9) = true := by simp; omega
          clear h9
          go_wp2_with (go_at_call 146; refine (has_any _ _ _ _ _ _ (by have := HN.out; omega) (by omega)).mono ?_; rintro e w1 ⟨rfl, rfl⟩)
          all_goals go_ret3
          all_goals exact ⟨GV.form HF.out, rfl⟩
        · have h1' : ((d.toNat : Int) == 0) = true := by simp; omega
          have h1'' : ¬ (1 : Int) < (d.toNat : Int) := by omega
          clear h1
          go_wp2_with (go_at_call 146; refine (has_any _ _ _ _ _ _ (by have := HN.out; omega) (by omega)).mono ?_; rintro e w1 ⟨rfl, rfl⟩)
          all_goals go_ret3
          all_goals exact ⟨GV.form HF.out, rfl⟩
      · rw [if_neg hbad] at hstep
        have hb2 : (j = 9 → d.toNat ≤ 1) ∧ (0 < j → 1 ≤ d.toNat) := by unfold VR.bad at hbad; omega
        clear hbad
        have HOR := Lib.hid (orVar U j d HU.out hj hb2.1)
        by_cases hs : d.toNat < 128
        · rw [if_pos hs] at hstep
          have HF := Lib.hid hstep
          have HOR2 := Lib.hid (HOR.out.trans (congrArg Nat.cast (congrArg (fun z => U + z * 128 ^ j) (Nat.mod_eq_of_lt hs))))
          have HU2 := Lib.hid (scan_lt HF.out)
          clear hstep HOR
          by_cases h9 : j = 9
          · have h9' : ((j : Int) == 9) = true := by simp; omega
            have h1 : ¬ (1 : Int) < (d.toNat : Int) := by have := hb2.1 h9; omega
            have h2 : ((d.toNat : Int) == 0) = false := by have := hb2.2 (by omega); simp; omega
            clear hb2 h9
            go_wp2_with (first | (go_at_call 146; refine (has_any _ _ _ _ _ _ (by have := HN.out; omega) (by omega)).mono ?_; rintro e w1 ⟨rfl, rfl⟩) | (go_at_call 159; (with_reducible refine (unfold_at _ _ HOR2.out _ HU2.out).mono ?_); rintro e w1 ⟨rfl, rfl⟩))
            all_goals go_ret3
            all_goals exact ⟨GV.ok HF.out rfl (by omega), rfl⟩
          · have h9' : ((j : Int) == 9) = false := by simp; omega
            by_cases h0 : j = 0
            · have h0' : ¬ (0 : Int) < (j : Int) := by omega
              clear hb2 h9 h0
              go_wp2_with (first | (go_at_call 146; refine (has_any _ _ _ _ _ _ (by have := HN.out; omega) (by omega)).mono ?_; rintro e w1 ⟨rfl, rfl⟩) | (go_at_call 159; (with_reducible refine (unfold_at _ _ HOR2.out _ HU2.out).mono ?_); rintro e w1 ⟨rfl, rfl⟩))
              all_goals go_ret3
              all_goals exact ⟨GV.ok HF.out rfl (by omega), rfl⟩
            · have h2 : ((d.toNat : Int) == 0) = false := by have := hb2.2 (by omega); simp; omega
              clear hb2 h9 h0
              go_wp2_with (first | (go_at_call 146; refine (has_any _ _ _ _ _ _ (by have := HN.out; omega) (by omega)).mono ?_; rintro e w1 ⟨rfl, rfl⟩) | (go_at_call 159; (with_reducible refine (unfold_at _ _ HOR2.out _ HU2.out).mono ?_); rintro e w1 ⟨rfl, rfl⟩))
              all_goals go_ret3
              all_goals exact ⟨GV.ok HF.out rfl (by omega), rfl⟩
        · rw [if_neg hs] at hstep
          have HF := Lib.hid hstep
          have HOR2 := Lib.hid (HOR.out.trans (congrArg Nat.cast (congrArg (fun z => U + z * 128 ^ j) (show d.toNat % 128 = d.toNat - 128 by omega))))
          have h9' : ((j : Int) == 9) = false := by have := hb2.1; simp; omega
          have h2 : ((d.toNat : Int) == 0) = false := by simp; omega
          have hj9 : j + 1 ≤ 9 := by have := hb2.1; omega
          clear hstep HOR hb2
          go_wp2_with (go_at_call 146; refine (has_any _ _ _ _ _ _ (by have := HN.out; omega) (by omega)).mono ?_; rintro e w1 ⟨rfl, rfl⟩)
          all_goals go_round
          all_goals first | exact ⟨_, j + 1, congrArg (Value.int .u64) HOR2.out, by go_num, hj9, step_lt HU.out (by omega), by rw [HF.out, Nat.add_assoc]⟩ | (simp [intOf]; omega)
    · have hh : hasB n (m : Int) ((j : Int) + 1) = false := by simp [hasB]; omega
      have hsh : scan (l.drop m) 0 0 = .short := by
        rw [HS.out, drop_end (by have := HL.out; omega)]; rfl
      have HSH := Lib.hid hsh
      clear hsh hk hr
      go_wp2_with (go_at_call 146; refine (has_any _ _ _ _ _ _ (by have := HN.out; omega) (by omega)).mono ?_; rintro e w1 ⟨rfl, rfl⟩)
      go_ret3
      exact ⟨GV.short HSH.out, rfl⟩

theorem GetVar_any (A : Option Addr) (n c : Nat) (k : Int) (l : List UInt8) (B : Nat) (w : World) (hr : Rd w B A n l) (hn : n ≤ 1099511627776) (hk : k ≤ 9223372036854775807) :
    Calls Tryz.prog 149 #[.slice A n c, .int .i64 k] w fun e w' => GV l k e ∧ w = w' := by
  by_cases h0 : 0 ≤ k
  · obtain ⟨m, rfl⟩ : ∃ m : Nat, k = (m : Int) := ⟨k.toNat, by omega⟩
    exact GetVar_at A n c m l B w hr hn (by omega)
  · have h0' : k < 0 := by omega
    have H := Lib.hid (GV.neg (l := l) h0')
    clear h0 hk hn hr
    go_enter Tryz.func149, Tryz.ntmps149
    go_wp2
    go_ret3
    exact ⟨H.out, rfl⟩

theorem GetVar_is (A : Option Addr) (n c : Nat) (k : Int) (l : List UInt8) (B : Nat) (w : World) (hr : Rd w B A n l) (hn : n ≤ 1099511627776) (hk : k ≤ 9223372036854775807) {x y z : Int} (h : gv l k = (x, y, z)) :
    Calls Tryz.prog 149 #[.slice A n c, .int .i64 k] w fun e w' => e = .returned (.tuple #[.int .i64 x, .int .i64 y, .int .i64 z]) ∧ w = w' := by
  have h1 := GetVar_any A n c k l B w hr hn hk
  unfold GV at h1
  rw [h] at h1
  exact h1

end Go.Proofs.YtejcjmiofidedaaGreatDoor.Oct

/- The contract of octet.GetText. -/
namespace Go.Proofs.YtejcjmiofidedaaGreatDoor.Oct
open Go.RowKit

set_option maxRecDepth 100000 in
set_option maxHeartbeats 800000 in
theorem GetText_any (A : Option Addr) (n c : Nat) (p most : Int) (l : List UInt8) (B : Nat) (w : World) (hr : Rd w B A n l) (hc : n ≤ c) (hn : n ≤ 1099511627776) (hp : p ≤ 9223372036854775807) :
    Calls Tryz.prog 164 #[.slice A n c, .int .i64 p, .int .i64 most] w fun e w' => GX l p most e ∧ w = w' := by
  have hl := hr.len
  have hnx := gv_next (l := l) (p := p)
  have HG := GetVar_any A n c p l B w hr hn hp
  unfold GX gx
  unfold GV at HG
  rw [hl] at hnx ⊢
  generalize hx : (gv l p).1 = x at *
  generalize hy : (gv l p).2.1 = y at *
  generalize hz : (gv l p).2.2 = z at *
  have HG2 := Lib.hid HG
  clear hx hy hz HG
  by_cases h1 : z = 0
  · subst h1
    obtain ⟨g1, g2, g3⟩ := hnx rfl
    rw [if_neg (by simp)]
    by_cases h2 : x < 0
    · rw [if_pos h2]
      clear hr hl hnx
      go_enter Tryz.func164, Tryz.ntmps164
      go_wp2_with (go_at_call 149; refine HG2.out.mono ?_; rintro e w1 ⟨rfl, rfl⟩)
      go_ret3
      exact ⟨rfl, rfl⟩
    · rw [if_neg h2]
      by_cases h3 : most < x
      · rw [if_pos h3]
        clear hr hl hnx
        go_enter Tryz.func164, Tryz.ntmps164
        go_wp2_with (go_at_call 149; refine HG2.out.mono ?_; rintro e w1 ⟨rfl, rfl⟩)
        go_ret3
        exact ⟨rfl, rfl⟩
      · rw [if_neg h3]
        by_cases h4 : hasB n y x = true
        · rw [if_neg (by simp [h4])]
          have h5 : y + x ≤ n := by simp [hasB] at h4; omega
          obtain ⟨Y, rfl⟩ : ∃ m : Nat, y = (m : Int) := ⟨y.toNat, by omega⟩
          obtain ⟨X, rfl⟩ : ∃ m : Nat, x = (m : Int) := ⟨x.toNat, by omega⟩
          clear hl hnx
          go_enter Tryz.func164, Tryz.ntmps164
          go_wp2_with (first | (go_at_call 149; refine HG2.out.mono ?_; rintro e w1 ⟨rfl, rfl⟩) | (go_at_call 146; refine (has_any _ _ _ _ _ _ (by omega) (by omega)).mono ?_; rintro e w1 ⟨rfl, rfl⟩) | (refine wpList_toStr _ rfl (.tmp 35) 57 9 5 rfl Tryz.underlying57 Tryz.underlying5 Tryz.underlying9 _ _ _ _ ((l.drop Y).take X) rfl (hr.cut' (i := Y) (m := X) (by omega) (by omega) (by intro h0; first | rfl | exact if_neg (by omega) | (exfalso; omega))) ?_))
          all_goals go_ret3
          all_goals exact ⟨rfl, rfl⟩
        · have h4' : hasB n y x = false := by simpa using h4
          rw [if_pos h4']
          clear hr hl hnx h4
          go_enter Tryz.func164, Tryz.ntmps164
          go_wp2_with (first | (go_at_call 149; refine HG2.out.mono ?_; rintro e w1 ⟨rfl, rfl⟩) | (go_at_call 146; refine (has_any _ _ _ _ _ _ (by omega) (by omega)).mono ?_; rintro e w1 ⟨rfl, rfl⟩))
          go_ret3
          exact ⟨rfl, rfl⟩
  · rw [if_pos h1]
    have h1' : (z == 0) = false := beqF h1
    have h1'' : (z != 0) = true := by simp [h1]
    clear hr hl hnx h1
    go_enter Tryz.func164, Tryz.ntmps164
    go_wp2_with (go_at_call 149; refine HG2.out.mono ?_; rintro e w1 ⟨rfl, rfl⟩)
    go_ret3
    exact ⟨rfl, rfl⟩

theorem GetText_is (A : Option Addr) (n c : Nat) (p most : Int) (l : List UInt8) (B : Nat) (w : World) (hr : Rd w B A n l) (hc : n ≤ c) (hn : n ≤ 1099511627776) (hp : p ≤ 9223372036854775807) {t : ByteArray} {y z : Int} (h : gx l p most = (t, y, z)) :
    Calls Tryz.prog 164 #[.slice A n c, .int .i64 p, .int .i64 most] w fun e w' => e = .returned (.tuple #[.string t, .int .i64 y, .int .i64 z]) ∧ w = w' := by
  have h1 := GetText_any A n c p most l B w hr hc hn hp
  unfold GX at h1
  rw [h] at h1
  exact h1

end Go.Proofs.YtejcjmiofidedaaGreatDoor.Oct

/- The contract of the document's GetVar. -/
namespace Go.Proofs.YtejcjmiofidedaaGreatDoor.Oct
open Go.RowKit

def rgvRel (l : List UInt8) (m : Nat) (v t i : Value) : Prop :=
  ∃ U j T, v = .int .u64 ((U : Nat) : Int) ∧ t = .int .u64 ((T : Nat) : Int) ∧ T = 128 ^ j % 18446744073709551616 ∧ i = .int .i64 ((j : Nat) : Int) ∧ j ≤ 9 ∧ U < 128 ^ j ∧ scan (l.drop m) 0 0 = scan (l.drop (m + j)) j U

end Go.Proofs.YtejcjmiofidedaaGreatDoor.Oct

/- The contract of the document's GetText. -/
namespace Go.Proofs.YtejcjmiofidedaaGreatDoor.Oct
open Go.RowKit

end Go.Proofs.YtejcjmiofidedaaGreatDoor.Oct

/- The contract of the document's Same. -/
namespace Go.Proofs.YtejcjmiofidedaaGreatDoor.Oct
open Go.RowKit

theorem Same_any (A1 A2 : Option Addr) (n1 c1 n2 c2 : Nat) (l1 l2 : List UInt8) (B1 B2 : Nat) (w : World) (h1 : Rd w B1 A1 n1 l1) (h2 : Rd w B2 A2 n2 l2) :
    Calls Tryz.prog 88 #[.slice A1 n1 c1, .slice A2 n2 c2] w fun e w' => e = .returned (.bool (sameB l1 l2)) ∧ w = w' := by
  have r1 := run_toString (P := Tryz.prog) w 57 9 5 Tryz.underlying57 Tryz.underlying5 Tryz.underlying9 B1 A1 n1 c1 l1 h1
  have r2 := run_toString (P := Tryz.prog) w 57 9 5 Tryz.underlying57 Tryz.underlying5 Tryz.underlying9 B2 A2 n2 c2 l2 h2
  clear h1 h2
  go_enter Tryz.func88, Tryz.ntmps88
  go_wp2
  go_ret
  exact ⟨rfl, rfl⟩

end Go.Proofs.YtejcjmiofidedaaGreatDoor.Oct
