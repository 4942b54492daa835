/- Joined: BatMath3, BatMath4, OctU8, RecRefA, CrcSpec, OctRCopy, OctRPutVar, OctRPutText. -/
import Derived.Test.YtllebgadhhgckaaDoorJ07
import Derived.Test.YtllebgadhhgckaaDoorRows
import Derived.Test.YtllebgadhhgckaaDoorJ05
import Derived.Test.YtllebgadhhgckaaDoorJ06
/- More plain mathematics of layer 4: the batch that bytes tell, cut and spoilt, moved, one behind the other. Nothing of the program. -/
namespace Go.Proofs.YtllebgadhhgckaaDoor.Bat
open Oct Rec Crc

def nilB : Bt := ⟨0, 0, 0, 0, 0, 0, 0, false, 0, []⟩
def opB (l : List UInt8) : Bt × Int :=
  if (openB l).2 ≠ 0 then (nilB, (openB l).2) else match rdB (openB l).1 with
    | none => (nilB, 11)
    | some (b, q) => if q = ((openB l).1.length : Int) ∧ chB b = 0 then (b, 0) else (nilB, 11)
def grB (l : List UInt8) (p : Int) : Bt × Int × Int :=
  if (gt l p 4).2 ≠ 0 then (nilB, 0, (gt l p 4).2)
  else if (gt l p 4).1 < 5 ∨ 2044 < (gt l p 4).1 then (nilB, 0, 11)
  else if (l.length : Int) < p + 4 + (gt l p 4).1 then (nilB, 0, 10)
  else if (opB ((l.drop (p + 4).toNat).take (gt l p 4).1)).2 ≠ 0 then (nilB, 0, (opB ((l.drop (p + 4).toNat).take (gt l p 4).1)).2)
  else ((opB ((l.drop (p + 4).toNat).take (gt l p 4).1)).1, p + 4 + (gt l p 4).1, 0)

theorem chB_form {b : Bt} (h : chB b = 0) : Form b ∧ (byB b).length ≤ 2048 := by
  unfold chB at h
  split at h
  · rename_i hf
    refine ⟨(form_iff b).1 hf, ?_⟩
    split at h
    · omega
    · omega
  · omega
theorem byB_length (b : Bt) : (byB b).length = (body b).length + 8 := by rw [byB, List.length_append, beN_length, sealB_length]; omega
theorem body_pos (b : Bt) : 9 ≤ (body b).length := by
  have h := fun x => vb_pos (zz x)
  unfold body hd
  simp only [vs, List.length_append, List.length_singleton, List.length_nil]
  have := h b.base; have := h (b.last - b.base); have := h b.frm; have := h b.epoch; have := h b.pid; have := h b.gen; have := h b.seq; have := vb_pos (zz (b.recs.length : Int))
  omega
theorem opB_seal {b : Bt} (h : chB b = 0) : opB (sealB (body b)) = (b, 0) := by
  have hr := rdB_at (chB_form h).1 []
  rw [List.append_nil] at hr
  unfold opB
  rw [openB_sealB]
  simp only [hr]
  rw [if_neg (by simp), if_pos ⟨trivial, h⟩]
theorem opB_good {l : List UInt8} {b : Bt} (h : opB l = (b, 0)) : chB b = 0 ∧ sealB (body b) = l := by
  unfold opB at h
  rcases ho : openB l with ⟨x, z⟩
  rw [ho] at h
  simp only at h
  by_cases hz : z = 0
  case neg => rw [if_pos hz] at h; simp only [Prod.mk.injEq] at h; exact absurd h.2 hz
  subst hz
  rw [if_neg (by simp)] at h
  cases hr : rdB x with
  | none => rw [hr] at h; simp at h
  | some y =>
    obtain ⟨b', q⟩ := y
    rw [hr] at h
    simp only at h
    by_cases hc : q = (x.length : Int) ∧ chB b' = 0
    case neg => rw [if_neg hc] at h; simp at h
    rw [if_pos hc] at h
    simp only [Prod.mk.injEq, and_true] at h
    subst h
    obtain ⟨h1, h2⟩ := hc
    obtain ⟨_, _, g, _⟩ := rdB_good hr
    have : x.take q.toNat = x := List.take_of_length_le (by omega)
    rw [this] at g
    exact ⟨h2, by rw [g]; exact (openB_ok ho).1⟩
theorem grB_at {b : Bt} (h : chB b = 0) (u t : List UInt8) : grB (u ++ byB b ++ t) (u.length : Int) = (b, (u.length : Int) + ((byB b).length : Int), 0) := by
  have hl := (chB_form h).2
  have hb := byB_length b
  have hp := body_pos b
  have hs := sealB_length (body b)
  have g := gt_at u (sealB (body b) ++ t) (sealB (body b)).length 4 (by omega) (by omega)
  have e : u ++ beN (sealB (body b)).length 4 4 ++ (sealB (body b) ++ t) = u ++ byB b ++ t := by simp [byB, List.append_assoc]
  rw [e, Nat.mod_eq_of_lt (by omega)] at g
  have hd : ((u ++ byB b ++ t).drop ((u.length : Int) + 4).toNat).take (sealB (body b)).length = sealB (body b) := by
    have e1 : ((u.length : Int) + 4).toNat = (u ++ beN (sealB (body b)).length 4 4).length := by rw [List.length_append, beN_length]; omega
    have e2 : u ++ byB b ++ t = (u ++ beN (sealB (body b)).length 4 4) ++ (sealB (body b) ++ t) := by simp [byB, List.append_assoc]
    rw [e1, e2, List.drop_left, List.take_left]
  unfold grB
  have g4 : gt (u ++ byB b ++ t) (u.length : Int) 4 = ((sealB (body b)).length, 0) := g
  simp only [g4, hd, opB_seal h]
  rw [if_neg (by simp), if_neg (by omega), if_neg (by simp only [List.length_append, Int.natCast_add]; omega), if_neg (by simp)]
  congr 2
  omega
theorem gt_four {l : List UInt8} {p : Int} (h : (gt l p 4).2 = 0) : 0 ≤ p ∧ p + 4 ≤ l.length ∧ (gt l p 4).1 = getN ((l.drop p.toNat).take 4) := by
  unfold gt at h ⊢
  by_cases h1 : isW 4 = false ∨ p < 0
  · rw [if_pos h1] at h; simp at h
  · rw [if_neg h1] at h ⊢
    have hp : ¬ p < 0 := fun hh => h1 (.inr hh)
    by_cases h2 : hasB l.length p 4 = false
    · rw [if_pos h2] at h; simp at h
    · rw [if_neg h2]
      have h3 : hasB l.length p 4 = true := by simpa using h2
      simp [hasB] at h3
      exact ⟨by omega, by omega, rfl⟩
theorem be_getN {l : List UInt8} (h : l.length = 4) : beN (getN l) 4 4 = l := by
  apply getN_inj
  · rw [beN_length, h]
  · rw [getN_be]
    have := getN_lt l
    rw [h] at this
    exact Nat.mod_eq_of_lt this
theorem grB_good {l : List UInt8} {p n : Int} {b : Bt} (h : grB l p = (b, n, 0)) : 0 ≤ p ∧ p < n ∧ n ≤ l.length ∧ chB b = 0 ∧ byB b = (l.drop p.toNat).take (n - p).toNat := by
  unfold grB at h
  by_cases h1 : (gt l p 4).2 = 0
  case neg => rw [if_pos h1] at h; simp only [Prod.mk.injEq] at h; exact absurd h.2.2 h1
  rw [if_neg (by simpa using h1)] at h
  obtain ⟨p0, p4, hg⟩ := gt_four h1
  by_cases h2 : (gt l p 4).1 < 5 ∨ 2044 < (gt l p 4).1
  · rw [if_pos h2] at h; simp at h
  rw [if_neg h2] at h
  by_cases h3 : (l.length : Int) < p + 4 + (gt l p 4).1
  · rw [if_pos h3] at h; simp at h
  rw [if_neg h3] at h
  rcases ho : opB ((l.drop (p + 4).toNat).take (gt l p 4).1) with ⟨b', z⟩
  rw [ho] at h
  simp only at h
  by_cases h4 : z = 0
  case neg => rw [if_pos h4] at h; simp only [Prod.mk.injEq] at h; exact absurd h.2.2 h4
  subst h4
  rw [if_neg (by simp)] at h
  simp only [Prod.mk.injEq, and_true] at h
  obtain ⟨rfl, rfl⟩ := h
  obtain ⟨c1, c2⟩ := opB_good ho
  refine ⟨p0, by omega, by omega, c1, ?_⟩
  have hlen : ((l.drop (p + 4).toNat).take (gt l p 4).1).length = (gt l p 4).1 := by rw [List.length_take, List.length_drop]; omega
  have hb4 : ((l.drop p.toNat).take 4).length = 4 := by rw [List.length_take, List.length_drop]; omega
  unfold byB
  rw [c2, hlen]
  have e1 : beN (gt l p 4).1 4 4 = (l.drop p.toNat).take (p + 4 - p).toNat := by
    have : (p + 4 - p).toNat = 4 := by omega
    rw [this, hg]
    exact be_getN hb4
  have e2 : (l.drop (p + 4).toNat).take (gt l p 4).1 = (l.drop (p + 4).toNat).take (p + 4 + ((gt l p 4).1 : Int) - (p + 4)).toNat := by congr 1; omega
  rw [e1, e2, seg_join l (by omega) (by omega) (by omega)]
end Go.Proofs.YtllebgadhhgckaaDoor.Bat

/- More plain mathematics of layer 4: a batch's bytes with one changed; a batch at other offsets. Nothing of the program. -/
namespace Go.Proofs.YtllebgadhhgckaaDoor.Bat
open Oct Rec Crc

theorem sum_set {l : List UInt8} {i : Nat} {d e : UInt8} (hi : l[i]? = some d) (h : sum (l.set i e) = sum l) : d = e := by
  have hlt := (List.getElem?_eq_some_iff.1 hi).1
  have hb := sum_burst (b := l) (ds := [d ^^^ e]) (i := i) (k := l.length - i - 1) (by simp; omega) (by simp)
  have hz : zx l (List.replicate i 0 ++ [d ^^^ e] ++ List.replicate (l.length - i - 1) 0) = l.set i e := by
    apply List.ext_getElem?
    intro j
    unfold zx
    rw [List.getElem?_zipWith, List.getElem?_set]
    by_cases hj : i = j
    · subst hj
      rw [if_pos rfl, if_pos hlt, hi, List.append_assoc, List.getElem?_append_right (by simp), List.length_replicate, Nat.sub_self]
      simp only [List.cons_append, List.nil_append, List.getElem?_cons_zero, Option.some.injEq]
      rw [← UInt8.xor_assoc, UInt8.xor_self, UInt8.zero_xor]
    · rw [if_neg hj]
      rcases Nat.lt_or_ge j l.length with hl | hl
      · rw [List.getElem?_eq_getElem hl]
        rcases Nat.lt_or_ge j i with h1 | h1
        · rw [List.append_assoc, List.getElem?_append_left (by simp; omega), List.getElem?_replicate, if_pos h1]
          simp
        · rw [List.getElem?_append_right (by simp; omega), List.getElem?_replicate, if_pos (by simp; omega)]
          simp
      · rw [List.getElem?_eq_none hl]
  rw [hz] at hb
  have h0 := hb.1 h (d ^^^ e) (by simp)
  have h1 := congrArg (d ^^^ ·) h0
  simp only [← UInt8.xor_assoc, UInt8.xor_self, UInt8.zero_xor, UInt8.xor_zero] at h1
  exact h1.symm
theorem seal_set {x y : List UInt8} {j : Nat} {d e : UInt8} (hd : (sealB x)[j]? = some d) (h : sealB y = (sealB x).set j e) : d = e := by
  have hl : y.length = x.length := by
    have := congrArg List.length h
    rw [List.length_set, sealB_length, sealB_length] at this
    omega
  have ht := congrArg (List.take x.length) h
  have hr := congrArg (List.drop x.length) h
  unfold sealB at ht hr hd
  rw [← hl, List.take_left, hl] at ht
  rw [← hl, List.drop_left, hl] at hr
  have hs4 : sum y = getN (((x ++ beN (sum x) 4 4).set j e).drop x.length) := by rw [← hr, getN_be, Nat.mod_eq_of_lt (sum_lt _)]
  by_cases hj : j < x.length
  · rw [List.getElem?_append_left hj] at hd
    rw [List.set_append_left _ _ hj, List.take_left' (by rw [List.length_set])] at ht
    rw [List.set_append_left _ _ hj, List.drop_left' (by rw [List.length_set]), getN_be, Nat.mod_eq_of_lt (sum_lt _)] at hs4
    rw [ht] at hs4
    exact sum_set hd hs4
  · rw [List.set_append_right _ _ (by omega), List.take_left] at ht
    subst ht
    unfold sealB at h
    rw [List.set_append_right _ _ (by omega)] at h
    have h2 := List.append_cancel_left h
    rw [List.getElem?_append_right (by omega)] at hd
    have h3 : ((beN (sum y) 4 4).set (j - y.length) e)[j - y.length]? = some e := by
      rw [List.getElem?_set, if_pos rfl, if_pos (List.getElem?_eq_some_iff.1 hd).1]
    rw [← h2, hd] at h3
    exact Option.some.inj h3
/-! ### a batch at other offsets -/
def mvR (by_ : Int) (r : Rc) : Rc := { r with off := r.off + by_ }
def mvO (b : Bt) (base : Int) : Bt := { b with base := base, last := base + b.last - b.base, recs := b.recs.map (mvR (base - b.base)) }
def mvB (b : Bt) (base : Int) : Bt × Int :=
  if inR base = false then (nilB, 1) else if chB b ≠ 0 then (nilB, chB b) else if chB (mvO b base) ≠ 0 then (nilB, chB (mvO b base)) else (mvO b base, 0)
end Go.Proofs.YtllebgadhhgckaaDoor.Bat

/- The byte's row of the table, and a slice of bytes as a string. -/
namespace Go.Proofs.YtllebgadhhgckaaDoor.Oct
open Go.RowKit

theorem u8row : U8 Tryd.prog 5 := by
  obtain ⟨i, h1, h2, h3, h4⟩ := info_parts (P := Tryd.prog) (e := 5) (z := .int .u8 0) (size := 1) (bytes := 1) (by kernel_rfl)
  exact ⟨i, h1, h2, h3, h4⟩

end Go.Proofs.YtllebgadhhgckaaDoor.Oct

/- The contracts of the document's own answers of layer 3: In, Check. -/
namespace Go.Proofs.YtllebgadhhgckaaDoor.Rec
open Go.RowKit Oct

theorem refIn_any (n : Int) (w : World) {b : Bool} (hb : inR n = b) : Calls Tryd.prog 109 #[.int .i64 n] w fun e w' => e = .returned (.bool b) ∧ w = w' := by
  subst hb
  go_enter Tryd.func109, Tryd.ntmps109
  go_wp2
  all_goals go_ret
  all_goals refine ⟨?_, rfl⟩
  · rename_i h; exact ret_bool (by simp [inR, h])
  · rename_i h; exact ret_bool (by simp [inR]; omega)

theorem chk_no {r : Rc} (h : ¬ may r = true) : (if may r then (0 : Int) else 1) = 1 := if_neg h
theorem chk_yes {r : Rc} (h : may r = true) : (if may r then (0 : Int) else 1) = 0 := if_pos h
theorem empty_iff {k : ByteArray} : k.size = 0 ↔ k = ByteArray.empty := ByteArray.size_eq_zero_iff

theorem empty_tests {k : ByteArray} (h : k ≠ ByteArray.empty) : k.toList.isEmpty = false := by
  cases hb : k.toList.isEmpty with
  | false => rfl
  | true =>
    rw [Go.ByteArray.toList_eq, List.isEmpty_iff] at hb
    exact absurd (empty_iff.1 (by rw [← size_list, hb]; rfl)) h

set_option maxRecDepth 100000 in
theorem refCheck_any (o s : Int) (k v : ByteArray) (d : Bool) (w : World) (hk : k.size ≤ 1099511627776) (hv : v.size ≤ 1099511627776) : Calls Tryd.prog 91 #[.agg #[.int .i64 o, .string k, .string v, .bool d, .int .i64 s]] w fun e w' => e = .returned (.int .i64 (if may ⟨o, k, v, d, s⟩ then 0 else 1)) ∧ Below w.heap.size w w' := by
  rcases h1 : inR o with _ | _
  · have hm := Lib.hid (chk_no (r := ⟨o, k, v, d, s⟩) fun hh => by have := inR_iff.2 (may_iff.1 hh).1; simp only [h1] at this; cases this)
    rw [hm.out]
    go_enter Tryd.func91, Tryd.ntmps91
    go_wp2_with (go_at_call 109; refine (refIn_any _ _ h1).mono ?_; rintro e w9 ⟨rfl, rfl⟩)
    go_ret
    exact ⟨rfl, (Below.refl _ _).alloc (Nat.le_refl _) _⟩
  rcases h2 : inR s with _ | _
  · have hm := Lib.hid (chk_no (r := ⟨o, k, v, d, s⟩) fun hh => by have := inR_iff.2 (may_iff.1 hh).2.1; simp only [h2] at this; cases this)
    rw [hm.out]
    go_enter Tryd.func91, Tryd.ntmps91
    go_wp2_with (go_at_call 109; refine (refIn_any _ _ (by first | exact h1 | exact h2)).mono ?_; rintro e w9 ⟨rfl, rfl⟩)
    go_ret
    exact ⟨rfl, (Below.refl _ _).alloc (Nat.le_refl _) _⟩
  have g1 := inR_iff.1 h1
  have g2 := inR_iff.1 h2
  have c3 : ∀ n : Nat, ¬ 64 < n → decide (64 < (n : Int)) = false := fun n hn => by simp; omega
  by_cases h3 : 64 < k.size
  · have hm := Lib.hid (chk_no (r := ⟨o, k, v, d, s⟩) fun hh => by have := (may_iff.1 hh).2.2.1; simp only at this; omega)
    rw [hm.out]
    go_enter Tryd.func91, Tryd.ntmps91
    go_wp2_with (go_at_call 109; refine (refIn_any _ _ (by first | exact h1 | exact h2)).mono ?_; rintro e w9 ⟨rfl, rfl⟩)
    go_ret
    exact ⟨rfl, (Below.refl _ _).alloc (Nat.le_refl _) _⟩
  by_cases h4 : 64 < v.size
  · have hm := Lib.hid (chk_no (r := ⟨o, k, v, d, s⟩) fun hh => by have := (may_iff.1 hh).2.2.2.1; simp only at this; omega)
    rw [hm.out]
    go_enter Tryd.func91, Tryd.ntmps91
    go_wp2_with (go_at_call 109; refine (refIn_any _ _ (by first | exact h1 | exact h2)).mono ?_; rintro e w9 ⟨rfl, rfl⟩)
    go_ret
    exact ⟨rfl, (Below.refl _ _).alloc (Nat.le_refl _) _⟩
  have d3 := c3 _ h3
  have d4 := c3 _ h4
  clear c3
  rcases d with _ | _
  · have hm := Lib.hid (chk_yes (r := ⟨o, k, v, false, s⟩) (may_iff.2 ⟨g1, g2, by simp only; omega, by simp only; omega, fun hh => by cases hh⟩))
    rw [hm.out]
    go_enter Tryd.func91, Tryd.ntmps91
    go_wp2_with (go_at_call 109; refine (refIn_any _ _ (by first | exact h1 | exact h2)).mono ?_; rintro e w9 ⟨rfl, rfl⟩)
    go_ret
    exact ⟨rfl, (Below.refl _ _).alloc (Nat.le_refl _) _⟩
  by_cases h5 : k = ByteArray.empty
  · have hm := Lib.hid (chk_no (r := ⟨o, k, v, true, s⟩) fun hh => ((may_iff.1 hh).2.2.2.2 rfl).1 (empty_iff.2 h5))
    rw [hm.out]
    subst h5
    go_enter Tryd.func91, Tryd.ntmps91
    go_wp2_with (go_at_call 109; refine (refIn_any _ _ (by first | exact h1 | exact h2)).mono ?_; rintro e w9 ⟨rfl, rfl⟩)
    go_ret
    exact ⟨rfl, (Below.refl _ _).alloc (Nat.le_refl _) _⟩
  by_cases h6 : v = ByteArray.empty
  · have hm := Lib.hid (chk_yes (r := ⟨o, k, v, true, s⟩) (may_iff.2 ⟨g1, g2, by simp only; omega, by simp only; omega, fun _ => ⟨fun hz => h5 (empty_iff.1 hz), empty_iff.2 h6⟩⟩))
    rw [hm.out]
    subst h6
    have hk5 := empty_tests h5
    go_enter Tryd.func91, Tryd.ntmps91
    go_wp2_with (go_at_call 109; refine (refIn_any _ _ (by first | exact h1 | exact h2)).mono ?_; rintro e w9 ⟨rfl, rfl⟩)
    go_ret
    exact ⟨rfl, (Below.refl _ _).alloc (Nat.le_refl _) _⟩
  · have hm := Lib.hid (chk_no (r := ⟨o, k, v, true, s⟩) fun hh => h6 (empty_iff.1 ((may_iff.1 hh).2.2.2.2 rfl).2))
    rw [hm.out]
    have hk5 := empty_tests h5
    have hk6 := empty_tests h6
    go_enter Tryd.func91, Tryd.ntmps91
    go_wp2_with (go_at_call 109; refine (refIn_any _ _ (by first | exact h1 | exact h2)).mono ?_; rintro e w9 ⟨rfl, rfl⟩)
    go_ret
    exact ⟨rfl, (Below.refl _ _).alloc (Nat.le_refl _) _⟩
end Go.Proofs.YtllebgadhhgckaaDoor.Rec

/- What a call of layer 2 leaves, in the words of layer 1. -/
namespace Go.Proofs.YtllebgadhhgckaaDoor.Crc
open Go.RowKit Oct

def OPr (e : TypeId) (base : Nat) (w : World) (l : List UInt8) (z : Int) (en : Ending) (w' : World) : Prop :=
  ∃ A n c, en = .returned (.tuple #[.slice A n c, .int .i64 z]) ∧ OwnB w' e base (.slice A n c) n l ∧ Below base w w'
def N32 (w : World) (v : Nat) (en : Ending) (w' : World) : Prop := en = .returned (.int .u32 (v : Int)) ∧ Below w.heap.size w w'
theorem own_lit (w : World) (e : TypeId) (l : List UInt8) (n : Nat) (hn : l.length = n) (h : n ≤ 1099511627776) : OwnB (w.alloc (.cells (l.map bv).toArray e)) e w.heap.size (.slice (some ⟨w.heap.size, 0, none⟩) n n) n l := by
  subst hn
  have h1 := World.ownsRow_lit (base := w.heap.size) (e := e) (size := 1) w (l.map bv).toArray l.length (Nat.le_refl _) (by unfold maxLen; omega) (by simp)
  simpa [OwnB] using h1
end Go.Proofs.YtllebgadhhgckaaDoor.Crc

/- The contract of the document's Copy. -/
namespace Go.Proofs.YtllebgadhhgckaaDoor.Oct
open Go.RowKit

theorem Copy_any (A : Option Addr) (n c : Nat) (l : List UInt8) (B : Nat) (w : World) (hr : Rd w B A n l) (hn : n ≤ 549755813888) :
    Calls Tryd.prog 98 #[.slice A n c] w (RB 5 w.heap.size w l) := by
  have hI := u8row
  go_enter Tryd.func98, Tryd.ntmps98
  go_wp2_with (at_builtin; refine wpList_appB _ rfl _ _ 39 rfl w.heap.size 5 Tryd.underlying39 hI _ 0 [] rfl OwnB.nil B A n c l rfl hr (by omega) (Nat.le_refl _) ?_; intro A2 c2 w2 hown2 hb2)
  go_ret
  exact ⟨A2, n, c2, rfl, by simpa using hown2, hb2⟩

end Go.Proofs.YtllebgadhhgckaaDoor.Oct

/- The contract of the document's PutVar. -/
namespace Go.Proofs.YtllebgadhhgckaaDoor.Oct
open Go.RowKit

set_option maxRecDepth 100000 in
set_option maxHeartbeats 400000 in
theorem refPutVar_any (A : Option Addr) (n c : Nat) (x : Int) (l : List UInt8) (B : Nat) (w : World) (hr : Rd w B A n l) (hn : n ≤ 274877906944)
    (h1 : -9223372036854775808 ≤ x) (h2 : x ≤ 9223372036854775807) :
    Calls Tryd.prog 75 #[.slice A n c, .int .i64 x] w (RB 5 w.heap.size w (l ++ vb (zz x))) := by
  have hI := u8row
  have hz := zz_lt ⟨h1, h2⟩
  have hten := vb_ten hz
  have hlen := Lib.hid hr.len
  have HN := Lib.hid hn
  clear hn
  rcases (show 0 ≤ x ∨ x < 0 by omega) with hx | hx
  all_goals
    go_enter Tryd.func75, Tryd.ntmps75
    go_wp2_with (go_at_call 98; refine (Copy_any A n c l B w hr (by have := HN.out; omega)).mono ?_; rintro e w1 ⟨A0, n0, c0, rfl, hown0, hb0⟩)
    have hl0 := hown0.len
    have hb0s := hb0.size
    have HV := Lib.hid (show _ = Value.int .u64 (zz x : Int) from congrArg (Value.int .u64) (by first | exact zz_pos hx | exact zz_neg hx))
    go_loopw [6, 5] (fun v i wr => avRel w.heap.size l (zz x) w v i wr) (fun _ i _ => (intOf i).toNat)
    case atStart => exact ⟨A0, n0, c0, zz x, [], rfl, HV.out, by simpa using hown0, by simp, hz, hb0⟩
    case round =>
      obtain ⟨A1, n1, c1, u, l1, rfl, rfl, hown1, hv, hu, hb⟩ := hrel
      have hl1 : n1 ≤ n + 10 := by
        have a1 := hown1.len
        have a2 := congrArg List.length hv
        have a3 := hlen.out
        simp only [List.length_append] at a1 a2
        omega
      have hor := Lib.hid (mod128 u)
      have hbs := hb.size
      have hpos := vb_pos u
      have hV := Lib.hid hv
      have HU := Lib.hid hu
      clear hv hown0 hu hl0 hz hten h1 h2 hx
      by_cases hlt : u < 128
      · have hlow := Lib.hid (ofNat_toNat' (q := u) (by omega))
        go_wp2_with (at_builtin; refine wpList_app1 _ rfl _ _ 39 rfl w.heap.size 5 Tryd.underlying39 hI _ n1 _ rfl hown1 _ (UInt8.ofNat u) rfl (congrArg Nat.cast hlow.out.symm) (by have := HN.out; omega) (by omega) ?_; intro A2 c2 w2 hown2 hb2)
        go_ret
        refine ⟨A2, n1 + 1, c2, rfl, ?_, hb.trans hb2⟩
        rw [← hV.out, vb_small hlt, ← List.append_assoc]
        exact hown2
      · go_wp2_with (at_builtin; refine wpList_app1 _ rfl _ _ 39 rfl w.heap.size 5 Tryd.underlying39 hI _ n1 _ rfl hown1 _ _ rfl hor.out (by have := HN.out; omega) (by omega) ?_; intro A2 c2 w2 hown2 hb2)
        go_roundw
        case rel =>
          refine ⟨A2, n1 + 1, c2, u / 128, l1 ++ [UInt8.ofNat (u % 128 + 128)], rfl, congrArg (Value.int .u64) (div_u64 u 128 HU.out), ?_, ?_, Nat.lt_of_le_of_lt (Nat.div_le_self _ _) HU.out, hb.trans hb2⟩
          · rw [← List.append_assoc]; exact hown2
          · rw [← hV.out, vb_big (u := u) (by omega)]; simp
        case measure =>
          have hq : IntKind.u64.wrap ((u : Int) / 128) = ((u / 128 : Nat) : Int) := div_u64 u 128 HU.out
          simp only [intOf, hq]
          omega

end Go.Proofs.YtllebgadhhgckaaDoor.Oct

/- The contract of the document's PutText. -/
namespace Go.Proofs.YtllebgadhhgckaaDoor.Oct
open Go.RowKit

theorem refPutText_any (A : Option Addr) (n c : Nat) (s : ByteArray) (l : List UInt8) (B : Nat) (w : World) (hr : Rd w B A n l) (hn : n ≤ 137438953472) (hs : s.size ≤ 274877906944) :
    Calls Tryd.prog 110 #[.slice A n c, .string s] w (RB 5 w.heap.size w (l ++ vb (zz s.size) ++ s.data.toList)) := by
  have hI := u8row
  go_enter Tryd.func110, Tryd.ntmps110
  go_wp2_with (first | (go_at_call 75; refine (refPutVar_any A n c _ l B w hr (by omega) (by omega) (by omega)).mono ?_; rintro e w2 ⟨A2, n2, c2, rfl, hown2, hb2⟩; have hn2 : n2 ≤ n + 10 := (by have a1 := hown2.len; have a2 := vb_ten (zz_lt (n := (s.size : Int)) (by omega)); have a3 := hr.len; simp only [List.length_append] at a1; omega)) | (at_builtin; refine wpList_appS _ rfl _ _ 39 9 rfl w.heap.size 5 Tryd.underlying39 Tryd.underlying9 hI _ n2 _ rfl hown2 s rfl (by omega) (by have a2 := hb2.size; omega) ?_; intro A3 c3 w3 hown3 hb3))
  go_ret
  exact ⟨A3, n2 + s.size, c3, rfl, hown3, hb2.trans hb3⟩

end Go.Proofs.YtllebgadhhgckaaDoor.Oct
