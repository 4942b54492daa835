/- Joined: OctMath. -/
import GoSem.Op.String
/- The plain mathematics of layer 1: bytes of a number, short bytes, their reading. Nothing of the program. -/
namespace Go.Proofs.YtlfbagkonckffaaGreat.Oct

/-! ### numbers of k bytes -/
def beN (n k i : Nat) : List UInt8 := (List.range i).map fun j => UInt8.ofNat (n / 256 ^ (k - 1 - j))
def getN (l : List UInt8) : Nat := l.foldl (fun n c => n * 256 + c.toNat) 0

theorem beN_length (n k i : Nat) : (beN n k i).length = i := by simp [beN]
theorem beN_zero (n k : Nat) : beN n k 0 = [] := rfl
theorem beN_succ (n k i : Nat) : beN n k (i + 1) = beN n k i ++ [UInt8.ofNat (n / 256 ^ (k - 1 - i))] := by
  simp [beN, List.range_succ]
theorem getN_snoc (l : List UInt8) (c : UInt8) : getN (l ++ [c]) = getN l * 256 + c.toNat := by simp [getN]
theorem getN_nil : getN [] = 0 := rfl
theorem getN_from (l : List UInt8) (a : Nat) : l.foldl (fun n c => n * 256 + c.toNat) a = a * 256 ^ l.length + getN l := by
  induction l generalizing a with
  | nil => simp [getN]
  | cons c l ih =>
    unfold getN
    simp only [List.foldl_cons, List.length_cons]
    rw [ih, ih (0 * 256 + c.toNat), Nat.pow_succ, Nat.add_mul, Nat.zero_mul, Nat.zero_add, Nat.mul_assoc, Nat.mul_comm 256, Nat.add_assoc]
theorem getN_cons (c : UInt8) (l : List UInt8) : getN (c :: l) = c.toNat * 256 ^ l.length + getN l := by
  show List.foldl _ _ l = _
  rw [getN_from]; simp
theorem getN_lt (l : List UInt8) : getN l < 256 ^ l.length := by
  induction l with
  | nil => simp [getN]
  | cons c l ih =>
    rw [getN_cons, List.length_cons, Nat.pow_succ]
    have := c.toNat_lt
    have h2 : (c.toNat + 1) * 256 ^ l.length ≤ 256 * 256 ^ l.length := Nat.mul_le_mul_right _ (by omega)
    rw [Nat.add_mul, Nat.mul_comm 256] at h2
    omega
theorem getN_beN (n k i : Nat) (h : i ≤ k) : getN (beN n k i) = n / 256 ^ (k - i) % 256 ^ i := by
  induction i with
  | zero => simp [beN, getN, Nat.mod_one]
  | succ i ih =>
    rw [beN_succ, getN_snoc, ih (by omega)]
    have e1 : k - i = (k - (i + 1)) + 1 := by omega
    have e2 : k - 1 - i = k - (i + 1) := by omega
    rw [e1, e2, Nat.pow_succ, ← Nat.div_div_eq_div_mul, Nat.pow_succ]
    generalize n / 256 ^ (k - (i + 1)) = q
    have h1 : (UInt8.ofNat q).toNat = q % 256 := by simp
    rw [h1, Nat.mul_comm (256 ^ i) 256, Nat.mod_mul, Nat.add_comm, Nat.mul_comm 256]
theorem getN_be (n k : Nat) : getN (beN n k k) = n % 256 ^ k := by rw [getN_beN n k k (Nat.le_refl _)]; simp

theorem getN_inj (a b : List UInt8) (h : a.length = b.length) (e : getN a = getN b) : a = b := by
  induction a generalizing b with
  | nil => cases b with
    | nil => rfl
    | cons d b => simp at h
  | cons c a ih =>
    cases b with
    | nil => simp at h
    | cons d b =>
      have h' : a.length = b.length := by simpa using h
      have ha := getN_lt a
      have hb := getN_lt b
      rw [getN_cons, getN_cons, h'] at e
      rw [h'] at ha
      have hp : 0 < 256 ^ b.length := Nat.pow_pos (by omega)
      generalize 256 ^ b.length = p at *
      have hcd : c.toNat = d.toNat := by
        rcases Nat.lt_trichotomy c.toNat d.toNat with hlt | he | hlt
        · have h2 : (c.toNat + 1) * p ≤ d.toNat * p := Nat.mul_le_mul_right p hlt
          rw [Nat.add_mul] at h2
          omega
        · exact he
        · have h2 : (d.toNat + 1) * p ≤ c.toNat * p := Nat.mul_le_mul_right p hlt
          rw [Nat.add_mul] at h2
          omega
      have hcd' : c = d := UInt8.toNat_inj.1 hcd
      subst hcd'
      rw [ih b h' (by omega)]

/-! ### a number's short bytes -/
def zz (n : Int) : Nat := if 0 ≤ n then (2 * n).toNat else (-2 * n - 1).toNat
def uz (u : Nat) : Int := if u % 2 = 0 then ((u / 2 : Nat) : Int) else -((u / 2 : Nat) : Int) - 1
theorem uz_zz (n : Int) : uz (zz n) = n := by unfold uz zz; split <;> split <;> omega
theorem zz_uz (u : Nat) : zz (uz u) = u := by unfold uz zz; split <;> split <;> omega
theorem zz_lt {n : Int} (h : -9223372036854775808 ≤ n ∧ n ≤ 9223372036854775807) : zz n < 18446744073709551616 := by unfold zz; split <;> omega
theorem uz_in {u : Nat} (h : u < 18446744073709551616) : -9223372036854775808 ≤ uz u ∧ uz u ≤ 9223372036854775807 := by unfold uz; split <;> omega
def vb (u : Nat) : List UInt8 := if u < 128 then [UInt8.ofNat u] else UInt8.ofNat (u % 128 + 128) :: vb (u / 128)
termination_by u

theorem vb_small {u : Nat} (h : u < 128) : vb u = [UInt8.ofNat u] := by rw [vb, if_pos h]
theorem vb_big {u : Nat} (h : 128 ≤ u) : vb u = UInt8.ofNat (u % 128 + 128) :: vb (u / 128) := by rw [vb, if_neg (by omega)]
theorem vb_pos (u : Nat) : 0 < (vb u).length := by rw [vb]; split <;> simp
theorem vb_le (k u : Nat) (h : u < 128 ^ (k + 1)) : (vb u).length ≤ k + 1 := by
  induction k generalizing u with
  | zero => rw [vb_small (by simpa using h)]; simp
  | succ k ih =>
    by_cases hu : u < 128
    · rw [vb_small hu]; simp
    · rw [vb_big (by omega), List.length_cons]
      have := ih (u / 128) (by rw [Nat.div_lt_iff_lt_mul (by omega)]; rwa [Nat.pow_succ] at h)
      omega
theorem vb_ten {u : Nat} (h : u < 18446744073709551616) : (vb u).length ≤ 10 := vb_le 9 u (by omega)
inductive VR | short | form | ok (u len : Nat)
def VR.bad (i : Nat) (c : UInt8) : Prop := i = 9 ∧ 1 < c.toNat ∨ 0 < i ∧ c.toNat = 0
instance (i : Nat) (c : UInt8) : Decidable (VR.bad i c) := by unfold VR.bad; infer_instance
def scan : List UInt8 → Nat → Nat → VR
  | [], _, _ => .short
  | c :: r, i, u => if VR.bad i c then .form else if c.toNat < 128 then .ok (u + c.toNat * 128 ^ i) (i + 1) else scan r (i + 1) (u + (c.toNat - 128) * 128 ^ i)

theorem ofNat_toNat' {q : Nat} (h : q < 256) : (UInt8.ofNat q).toNat = q := by
  rw [UInt8.toNat_ofNat']; exact Nat.mod_eq_of_lt h

theorem scan_vb (z : Nat) (r : List UInt8) (i u : Nat) (hi : i ≤ 9) (h0 : i = 0 ∨ 0 < z) (hz : z * 128 ^ i < 18446744073709551616) :
    scan (vb z ++ r) i u = .ok (u + z * 128 ^ i) (i + (vb z).length) := by
  induction z using Nat.strongRecOn generalizing i u with
  | _ z ih =>
    have h9 : i = 9 → z ≤ 1 := by
      rintro rfl
      have e : (128 : Nat) ^ 9 = 9223372036854775808 := by decide
      rw [e] at hz
      omega
    by_cases hs : z < 128
    · rw [vb_small hs]
      have ez := ofNat_toNat' (show z < 256 by omega)
      have hb : ¬ VR.bad i (UInt8.ofNat z) := by
        unfold VR.bad; rw [ez]
        rintro (⟨h, h'⟩ | ⟨h, h'⟩)
        · have := h9 h; omega
        · omega
      simp only [List.singleton_append, scan, if_neg hb, ez, if_pos hs, List.length_singleton]
    · rw [vb_big (by omega)]
      have ez := ofNat_toNat' (show z % 128 + 128 < 256 by omega)
      have hb : ¬ VR.bad i (UInt8.ofNat (z % 128 + 128)) := by
        unfold VR.bad; rw [ez]
        rintro (⟨h, h'⟩ | ⟨h, h'⟩)
        · have := h9 h; omega
        · omega
      have hi9 : i ≠ 9 := fun h => by have := h9 h; omega
      have e : z * 128 ^ i = z % 128 * 128 ^ i + z / 128 * 128 ^ (i + 1) := by
        rw [Nat.pow_succ, Nat.mul_comm (128 ^ i) 128, ← Nat.mul_assoc, ← Nat.add_mul]
        congr 1
        omega
      simp only [List.cons_append, scan, if_neg hb, ez]
      rw [if_neg (by omega), ih (z / 128) (by omega) (i + 1) _ (by omega) (Or.inr (by omega)) (by omega)]
      simp only [List.length_cons, VR.ok.injEq]
      rw [e]
      refine ⟨?_, by omega⟩
      rw [Nat.add_sub_cancel]
      omega

theorem scan_ok (l : List UInt8) (i u n k : Nat) (hi : i ≤ 9) (h : scan l i u = .ok n k) :
    ∃ z r, l = vb z ++ r ∧ n = u + z * 128 ^ i ∧ k = i + (vb z).length ∧ (i = 0 ∨ 0 < z) ∧ z * 128 ^ i < 18446744073709551616 ∧ k ≤ 10 := by
  induction l generalizing i u with
  | nil => simp [scan] at h
  | cons c r ih =>
    rw [scan] at h
    by_cases hb : VR.bad i c
    · rw [if_pos hb] at h; cases h
    · rw [if_neg hb] at h
      have hc := c.toNat_lt
      unfold VR.bad at hb
      have p9 : 128 ^ i ≤ 9223372036854775808 := by
        have : 128 ^ i ≤ 128 ^ 9 := Nat.pow_le_pow_right (by omega) hi
        exact this
      by_cases hs : c.toNat < 128
      · rw [if_pos hs] at h
        simp only [VR.ok.injEq] at h
        refine ⟨c.toNat, r, ?_, h.1.symm, ?_, by omega, ?_, by omega⟩
        · rw [vb_small hs]; simp
        · rw [vb_small hs]; simp [h.2]
        · by_cases h9 : i = 9
          · subst h9
            have e : (128 : Nat) ^ 9 = 9223372036854775808 := by decide
            rw [e]
            omega
          · have : 128 ^ i ≤ 128 ^ 8 := Nat.pow_le_pow_right (by omega) (by omega)
            have e : (128 : Nat) ^ 8 = 72057594037927936 := by decide
            rw [e] at this
            have h2 : c.toNat * 128 ^ i ≤ 127 * 72057594037927936 := Nat.mul_le_mul (by omega) this
            omega
      · rw [if_neg hs] at h
        obtain ⟨z, r', hr, hn, hk, h0, hz, h10⟩ := ih (i + 1) _ (by omega) h
        have hz0 : 0 < z := by omega
        have ed : (c.toNat - 128 + 128 * z) / 128 = z := by omega
        have em : (c.toNat - 128 + 128 * z) % 128 = c.toNat - 128 := by omega
        have e : (c.toNat - 128 + 128 * z) * 128 ^ i = (c.toNat - 128) * 128 ^ i + z * 128 ^ (i + 1) := by
          rw [Nat.add_mul, Nat.pow_succ, Nat.mul_comm 128 z, Nat.mul_assoc, Nat.mul_comm 128]
        refine ⟨c.toNat - 128 + 128 * z, r', ?_, ?_, ?_, by omega, ?_, h10⟩
        · rw [vb_big (by omega), ed, em, hr, Nat.sub_add_cancel (by omega)]
          simp
        · rw [e]; omega
        · rw [vb_big (by omega), ed, List.length_cons]; omega
        · rw [e]
          have hi8 : i ≤ 8 := by omega
          have hq : 128 ^ (i + 1) ∣ 18446744073709551616 := by
            have : (18446744073709551616 : Nat) = 128 ^ (i + 1) * (2 ^ (64 - 7 * (i + 1))) := by
              have e1 : (128 : Nat) = 2 ^ 7 := by decide
              rw [e1, ← Nat.pow_mul, ← Nat.pow_add]
              have : 7 * (i + 1) + (64 - 7 * (i + 1)) = 64 := by omega
              rw [this]
            exact ⟨_, this⟩
          obtain ⟨q, hq⟩ := hq
          have hzq : z < q := by
            rw [hq, Nat.mul_comm] at hz
            exact Nat.lt_of_mul_lt_mul_left hz
          have h3 : (z + 1) * 128 ^ (i + 1) ≤ q * 128 ^ (i + 1) := Nat.mul_le_mul_right _ hzq
          have h4 : (c.toNat - 128) * 128 ^ i < 128 * 128 ^ i := Nat.mul_lt_mul_of_pos_right (by omega) (Nat.pow_pos (by omega))
          rw [Nat.add_mul] at h3
          have h5 : 128 * 128 ^ i = 128 ^ (i + 1) := by rw [Nat.pow_succ, Nat.mul_comm]
          rw [hq, Nat.mul_comm (128 ^ (i + 1)) q]
          omega

theorem scan_cut (z m i u : Nat) (hi : i ≤ 9) (h0 : i = 0 ∨ 0 < z) (hz : z * 128 ^ i < 18446744073709551616) (hm : m < (vb z).length) : scan ((vb z).take m) i u = .short := by
  induction z using Nat.strongRecOn generalizing i u m with
  | _ z ih =>
    have h9 : i = 9 → z ≤ 1 := by
      rintro rfl
      have e : (128 : Nat) ^ 9 = 9223372036854775808 := by decide
      rw [e] at hz
      omega
    by_cases hs : z < 128
    · rw [vb_small hs] at hm ⊢
      have : m = 0 := by simpa using hm
      subst this
      simp [scan]
    · rw [vb_big (by omega)] at hm ⊢
      cases m with
      | zero => simp [scan]
      | succ m =>
        have ez := ofNat_toNat' (show z % 128 + 128 < 256 by omega)
        have hb : ¬ VR.bad i (UInt8.ofNat (z % 128 + 128)) := by
          unfold VR.bad; rw [ez]
          rintro (⟨h, h'⟩ | ⟨h, h'⟩)
          · have := h9 h; omega
          · omega
        have hi9 : i ≠ 9 := fun h => by have := h9 h; omega
        have e : z * 128 ^ i = z % 128 * 128 ^ i + z / 128 * 128 ^ (i + 1) := by
          rw [Nat.pow_succ, Nat.mul_comm (128 ^ i) 128, ← Nat.mul_assoc, ← Nat.add_mul]
          congr 1
          omega
        simp only [List.take_succ_cons, scan, if_neg hb, ez]
        rw [if_neg (by omega)]
        exact ih (z / 128) (by omega) m (i + 1) _ (by omega) (Or.inr (by omega)) (by omega) (by simpa using hm)
end Go.Proofs.YtlfbagkonckffaaGreat.Oct
