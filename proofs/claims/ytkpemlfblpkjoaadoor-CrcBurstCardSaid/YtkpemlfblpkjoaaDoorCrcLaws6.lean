/- The walk of CrcBurst. -/
import Derived.Test.YtkpemlfblpkjoaaDoorCrcLive
import Derived.Test.YtkpemlfblpkjoaaDoorCrcRef
import Derived.Deep.RegionHeld3
namespace Go.Proofs.YtkpemlfblpkjoaaDoor.Crc
open Go.RowKit Go.Proofs.YtkpemlfblpkjoaaDoor.Oct

/-- the i-th byte of a number of 32 bits, the lowest first -/
def byb (by_ i : Nat) : UInt8 := UInt8.ofNat (by_ / 256 ^ i)
/-- what is put on the bytes from p on, j of them -/
def byl (by_ j : Nat) : List UInt8 := (List.range j).map (byb by_)
/-- b, with j bytes from p on changed -/
def bur (b : List UInt8) (p by_ j : Nat) : List UInt8 := zx b (List.replicate p 0 ++ byl by_ j ++ List.replicate (b.length - p - j) 0)
/-- is any of them not 0 -/
def chg (by_ j : Nat) : Bool := (byl by_ j).any (fun c => decide ((c.toNat : Int) ≠ 0))

theorem byl_succ (y j : Nat) : byl y (j + 1) = byl y j ++ [byb y j] := by simp [byl, List.range_succ]
theorem byl_length (y j : Nat) : (byl y j).length = j := by simp [byl]
theorem bur_zero (b : List UInt8) (p y : Nat) (hp : p ≤ b.length) : bur b p y 0 = b := by
  unfold bur zx
  apply List.ext_getElem?
  intro i
  rw [List.getElem?_zipWith]
  simp only [byl, List.range_zero, List.map_nil, List.append_nil]
  rw [List.replicate_append_replicate, List.getElem?_replicate]
  by_cases hi : i < b.length
  · rw [List.getElem?_eq_getElem hi, if_pos (by omega)]
    simp
  · rw [List.getElem?_eq_none (by omega)]
theorem bur_length (b : List UInt8) (p y j : Nat) (hp : p + j ≤ b.length) : (bur b p y j).length = b.length := by
  unfold bur
  rw [zx_length (by simp [byl_length]; omega)]
theorem bur_get (b : List UInt8) (p y j : Nat) (hp : p + j < b.length) : (bur b p y j)[p + j]? = b[p + j]? := by
  unfold bur zx
  rw [List.getElem?_zipWith, List.getElem?_append_right (by simp [byl_length]), List.getElem?_replicate, if_pos (by simp [byl_length]; omega), List.getElem?_eq_getElem hp]
  simp
theorem bur_set (b : List UInt8) (p y j : Nat) (d : UInt8) (hp : p + j < b.length) (hd : b[p + j]? = some d) : (bur b p y j).set (p + j) (d ^^^ byb y j) = bur b p y (j + 1) := by
  apply List.ext_getElem?
  intro i
  rw [List.getElem?_set]
  have hlen : p + j < (bur b p y j).length := by rw [bur_length b p y j (by omega)]; exact hp
  unfold bur zx at hlen ⊢
  rw [List.getElem?_zipWith, List.getElem?_zipWith]
  by_cases hi : p + j = i
  · subst hi
    rw [if_pos rfl, if_pos hlen, hd, List.getElem?_append_left (by simp [byl_length]), List.getElem?_append_right (by simp), byl_succ, List.length_replicate, Nat.add_sub_cancel_left, List.getElem?_append_right (by simp [byl_length]), byl_length]
    simp
  · rw [if_neg hi]
    rcases Nat.lt_or_ge i p with h | h
    · rw [List.getElem?_append_left (by simp [byl_length]; omega), List.getElem?_append_left (by simp; omega), List.getElem?_append_left (by simp [byl_length]; omega), List.getElem?_append_left (by simp; omega)]
    · rcases Nat.lt_or_ge i (p + j) with h2 | h2
      · rw [List.getElem?_append_left (by simp [byl_length]; omega), List.getElem?_append_right (by simp; omega), List.getElem?_append_left (by simp [byl_length]; omega), List.getElem?_append_right (by simp; omega), byl_succ, List.getElem?_append_left (by simp [byl_length]; omega)]
      · rw [List.getElem?_append_right (by simp [byl_length]; omega), List.getElem?_append_right (by simp [byl_length]; omega), List.getElem?_replicate, List.getElem?_replicate]
        simp only [List.length_append, List.length_replicate, byl_length]
        by_cases h3 : i < b.length
        · rw [if_pos (by omega), if_pos (by omega)]
        · rw [List.getElem?_eq_none (by omega)]
theorem sum_bur (b : List UInt8) (p y j : Nat) (hp : p + j ≤ b.length) (hj : j ≤ 4) : (sum (bur b p y j) = sum b) ↔ chg y j = false := by
  unfold bur chg
  rw [sum_burst (by rw [byl_length]; omega) (by rw [byl_length]; exact hj), List.any_eq_false]
  constructor
  · intro h c hc
    rw [h c hc]
    simp
  · intro h c hc
    have h1 := h c hc
    have h2 : c.toNat = 0 := by simpa using h1
    exact UInt8.toNat_inj.1 h2
theorem chg_zero (y : Nat) : chg y 0 = false := rfl
theorem chg_succ (y j : Nat) : chg y (j + 1) = (chg y j || decide (((byb y j).toNat : Int) ≠ 0)) := by
  unfold chg
  rw [byl_succ, List.any_append]
  simp

theorem bne_dec (a : Int) : (a != 0) = (false || decide (a ≠ 0)) := by
  by_cases h : a = 0 <;> simp [h]
theorem burst_facts {l x : List UInt8} {ch : Bool} (h : sum x = sum l ↔ ch = false) :
    ∃ z xs, openB (x ++ beN (sum l) 4 4) = (xs, z) ∧ (z == 20) = ch ∧ ((sum x : Int) != (sum l : Int)) = ch := by
  rw [openB_other]
  cases ch with
  | false =>
    have h1 := h.2 rfl
    rw [if_pos h1]
    exact ⟨_, _, rfl, rfl, by rw [h1]; simp⟩
  | true =>
    have h1 : ¬ sum x = sum l := fun e => by have := h.1 e; cases this
    rw [if_neg h1]
    exact ⟨_, _, rfl, rfl, by simp; omega⟩
def buRel (base : Nat) (l : List UInt8) (p y n : Nat) (A : Option Addr) (c : Nat) (w : World) (v i : Value) (wr : World) : Prop :=
  ∃ j, v = .bool (chg y j) ∧ i = .int .i64 ((j : Nat) : Int) ∧ j ≤ 4 ∧ p + j ≤ n ∧ OwnB wr 5 base (.slice A n c) n (bur l p y j) ∧ Below base w wr
theorem byb_num (y j : Nat) : (y : Int) / 2 ^ (8 * j) % 256 = ((byb y j).toNat : Int) := putByte y j
theorem xor_u8' (a b : UInt8) : bits .xor .u8 (a.toNat : Int) (b.toNat : Int) = ((a ^^^ b).toNat : Int) := by
  have ha := a.toNat_lt
  have hb := b.toNat_lt
  rw [u8_xor_nat _ _ (by omega) (by omega), UInt8.toNat_xor]

set_option maxRecDepth 100000 in
set_option maxHeartbeats 2000000 in
theorem crcBurst_core (A : Option Addr) (n c : Nat) (l : List UInt8) (P Y : Nat) (w : World) (hr : Rd w w.heap.size A n l) (hc : n ≤ c) (hg : n ≤ 2000) (hP : P < n) (hY : Y < 4294967296) (ht : Tab w) :
    Calls Tryd.prog 10 #[.slice A n c, .int .i64 (P : Int), .int .u32 (Y : Int)] w fun e w' => e = .returned (.bool true) ∧ Below w.heap.size w w' := by
  have HT := Lib.hid ht
  clear ht
  have hI := u8row
  have HR := Lib.hid hr
  have HL := Lib.hid hr.len
  clear hr hY
  go_enter Tryd.func10, Tryd.ntmps10
  go_wp2_with (first
    | (go_at_call 12; refine (live_any _ HT.out).mono ?_; rintro e w1 ⟨rfl, hb1⟩)
    | (at_builtin; refine wpList_app0 (w1.alloc (.cells #[] 5)) rfl (.tmp 32) (.tmp 33) 22 rfl w1.heap.size 5 Tryd.underlying22 hI _ rfl (own_lit w1 5 [] 0 rfl (by omega)) w.heap.size A n c l rfl ((HR.out.below hb1 (Nat.le_refl _)).alloc hb1.size _) (by omega) (by simp) ?_; intro A2 c2 w2 hown2 hb2; have hb12 := ((Below.refl w1.heap.size w1).alloc (Nat.le_refl _) (.cells #[] 5)).trans hb2))
  have hs1 := hb1.size
  have hs12 := hb12.size
  go_loopw [9, 10] (fun v i wr => buRel w1.heap.size l P Y n A2 c2 w1 v i wr) (fun _ i _ => 4 - (intOf i).toNat)
  case atStart => exact ⟨0, rfl, rfl, by omega, by omega, by rw [bur_zero l P Y (by have := HL.out; omega)]; exact hown2, hb12⟩
  case round =>
    clear hown2 hb2
    obtain ⟨j, rfl, rfl, hj, hpj, hown, hb⟩ := hrel
    have hbs := hb.size
    by_cases hlt : j < 4 ∧ P + j < n
    · obtain ⟨h4, hn4⟩ := hlt
      obtain ⟨g, rfl, hgb⟩ := own_form hown (by omega)
      obtain ⟨d, hd⟩ : ∃ d, l[P + j]? = some d := ⟨l[P + j]'(by have := HL.out; omega), List.getElem?_eq_getElem _⟩
      obtain ⟨hcell, hfz⟩ := own_cell_is hown (by rw [bur_get l P Y j (by have := HL.out; omega)]; exact hd)
      obtain ⟨cb, hcb⟩ : ∃ cb, cb = byb Y j := ⟨_, rfl⟩
      obtain ⟨e, he⟩ : ∃ e, e = d ^^^ cb := ⟨_, rfl⟩
      have hbn := byb_num Y j
      have hxn := xor_u8' d cb
      rw [← hcb] at hbn
      rw [← he] at hxn
      obtain ⟨hset, hbel⟩ := own_put (j := P + j) hown hgb e
      rw [he, hcb, bur_set l P Y j d (by have := HL.out; omega) hd, ← hcb, ← he] at hset
      have HSET := Lib.hid hset
      have HBEL := Lib.hid (hb.trans hbel)
      have HCH := Lib.hid (show chg Y (j + 1) = _ by rw [chg_succ, ← hcb])
      have hd255 : d.toNat ≤ 255 := by have := d.toNat_lt; omega
      have hc255 : cb.toNat ≤ 255 := by have := cb.toNat_lt; omega
      have w1 : IntKind.i64.wrap ((P : Int) + (j : Int)) = (P : Int) + (j : Int) := IntWalk.i64_in _ (by omega)
      clear hset hbel hd hcb he w1
      go_wp2
      all_goals go_roundw
      all_goals first
        | (refine ⟨j + 1, congrArg Value.bool ?_, by go_num, by omega, by omega, HSET.out, HBEL.out⟩; rw [HCH.out]; first | (rw [show chg Y j = true by assumption]; rfl) | (rw [show chg Y j = false by simpa using (show ¬ chg Y j = true by assumption)]; exact bne_dec _))
        | (simp [intOf]; omega)
    · obtain ⟨x, hx⟩ : ∃ x, x = bur l P Y j := ⟨_, rfl⟩
      have HB := sum_bur l P Y j (by have := HL.out; omega) hj
      rw [← hx] at hown HB
      obtain ⟨ch, hch⟩ : ∃ ch, ch = chg Y j := ⟨_, rfl⟩
      rw [← hch] at HB ⊢
      obtain ⟨z, xs, ho, hz, hq⟩ := burst_facts HB
      obtain ⟨y, hy⟩ : ∃ y, y = sealB l := ⟨_, rfl⟩
      have HO := Lib.hid ho
      have HY := Lib.hid hy
      have HYL := Lib.hid (show y.length = n + 4 by rw [hy, sealB_length, HL.out])
      have HYD := Lib.hid (show (y.drop n).take 4 = beN (sum l) 4 4 by rw [hy, ← HL.out]; unfold sealB; rw [List.drop_left, List.take_of_length_le (by rw [beN_length]; omega)])
      have hbw := Lib.hid (show Below w.heap.size w wr from hb1.trans (hb.mono hs1))
      have hbws := hbw.out.size
      clear hx hy HB ho hch
      rcases (show j = 4 ∨ j < 4 ∧ ¬ P + j < n by omega) with hjx | ⟨hjx, hjn⟩
      all_goals
        go_wp2_with (first
          | (go_at_call 17; refine (Seal_any A n c l _ wr (HR.out.below hbw.out (Nat.le_refl _)) hbws hc (by omega) (HT.out.bel hbw.out)).mono ?_; rw [← HY.out]; rintro e w3 ⟨A3, n3, c3, rfl, hown3, hb3⟩; have hn3 : n3 = n + 4 := (by have h1 := hown3.len; have h2 := HYL.out; omega); subst hn3; have hcap3 := hown3.cap; have q3 : (((n + 4 : Nat) : Int) != (n : Int) + 4) = false := (by simp); have q4 : ((n : Int) + 4 != (n : Int) + 4) = false := (by simp); have hxo := hown.below hb3; have hb03 := bel_trans hbw.out hb3; have hs3 : w1.heap.size ≤ w3.heap.size := (by have := hb3.size; omega))
          | (at_builtin; refine wpList_appB2 w3 rfl (.tmp 80) (.tmp 84) 22 rfl w1.heap.size 5 Tryd.underlying22 hI A2 n c2 x rfl hxo _ _ 4 _ (beN (sum l) 4 4) rfl (by have h := (hown3.rd).cut' (i := n) (m := 4) (k := 4) (by omega) rfl (fun _ => rfl); rw [HYD.out] at h; exact h) (by omega) hs3 ?_; intro A4 c4 w4 hown4 hb4 hsame; have hrx := rd_after hxo hown4 hsame; have hb04 := hb03.trans (hb4.mono hs1))
          | (go_at_call 15; refine (Open_is A4 (n + 4) c4 _ _ _ _ w4 hown4.rd (Nat.le_refl _) hown4.cap (by omega) HO.out (HT.out.bel (by assumption))).mono ?_; rintro e w5 ⟨A5, n5, c5, rfl, hown5, hb5⟩; have hb05 := bel_trans hb04 hb5; have hrx5 := hrx.below hb5 (Nat.le_refl _); have hsz5 := hb5.size)
          | (go_at_call 13; (with_reducible refine (Sum_any A2 n c2 x _ w5 hrx5 hsz5 (by omega) (HT.out.bel (by assumption))).mono ?_); rintro e w6 ⟨rfl, hb6⟩; have hb06 := bel_trans hb05 hb6)
          | (go_at_call 13; (with_reducible refine (Sum_any A n c l _ w6 (HR.out.below hb06 (Nat.le_refl _)) hb06.size (by omega) (HT.out.bel (by assumption))).mono ?_); rintro e w7 ⟨rfl, hb7⟩; have hb07 := bel_trans hb06 hb7))
        go_ret
        exact ⟨ret_bool (by first | rfl | (simp; done)), hb07⟩

theorem crcBurst_walk (A : Option Addr) (n c : Nat) (l : List UInt8) (p y : Int) (w : World) (hr : Rd w w.heap.size A n l) (hc : n ≤ c) (hp0 : -9223372036854775808 ≤ p) (hp1 : p ≤ 9223372036854775807) (hy0 : 0 ≤ y) (hy1 : y ≤ 4294967295) (ht : Tab w) :
    Calls Tryd.prog 10 #[.slice A n c, .int .i64 p, .int .u32 y] w fun e w' => e = .returned (.bool true) ∧ Below w.heap.size w w' := by
  have HT := Lib.hid ht
  clear ht
  obtain ⟨Y, rfl⟩ : ∃ X : Nat, y = (X : Int) := ⟨y.toNat, by omega⟩
  by_cases hg : n ≤ 2000 ∧ 0 ≤ p ∧ p < n
  · obtain ⟨g1, g2, g3⟩ := hg
    obtain ⟨P, rfl⟩ : ∃ X : Nat, p = (X : Int) := ⟨p.toNat, by omega⟩
    exact crcBurst_core A n c l P Y w hr hc g1 (by omega) (by omega) HT.out
  · have hg1 : 2000 < n ∨ n ≤ 2000 ∧ p < 0 ∨ n ≤ 2000 ∧ 0 ≤ p ∧ n ≤ p := by omega
    clear hg hr hp0 hp1 hy0 hy1
    rcases hg1 with h | ⟨h, h2⟩ | ⟨h, h2, h3⟩
    all_goals
      go_enter Tryd.func10, Tryd.ntmps10
      go_wp2_with (go_at_call 12; refine (live_any _ HT.out).mono ?_; rintro e w1 ⟨rfl, hb1⟩)
    all_goals go_ret
    all_goals exact ⟨rfl, hb1⟩
end Go.Proofs.YtkpemlfblpkjoaaDoor.Crc
