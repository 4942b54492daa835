/- Joined: ProRP. -/
import Derived.Test.YthhdhdjdhekgpaaDoorProRC
import Derived.Test.YthhdhdjdhekgpaaDoorProP2
import Derived.Test.YthhdhdjdhekgpaaDoorJCrc
import Derived.Test.YthhdhdjdhekgpaaDoorJOct
import Derived.Deep.DeepCutAuto
/- The document's putAll, putTexts, and PutReq. -/
namespace Go.Proofs.YthhdhdjdhekgpaaDoor.Pro
open Go.RowKit Go.Proofs.YthhdhdjdhekgpaaDoor.Oct Go.Proofs.YthhdhdjdhekgpaaDoor.Rec Go.Proofs.YthhdhdjdhekgpaaDoor.Cod Go.Proofs.YthhdhdjdhekgpaaDoor.Lay Go.Proofs.YthhdhdjdhekgpaaDoor.RowF

/-- bytes of the call's own behind which so many are put -/
def rpRel {α : Type} (a : Codec α) (l : List UInt8) (L : List α) (n : Nat) (m B : Nat) (w : World) (v i : Value) (wr : World) : Prop :=
  ∃ (j : Nat) (A : Option Addr) (k c : Nat), i = .int .i64 (j : Int) ∧ j ≤ n ∧ v = .slice A k c ∧ OwnB wr 5 B (.slice A k c) k (l ++ putMany a (L.take j)) ∧ k ≤ l.length + m * j ∧ Below w.heap.size w wr
/-- bytes of the call's own, above a block -/
def RO (e : TypeId) (base : Nat) (w : World) (l : List UInt8) (en : Ending) (w' : World) : Prop :=
  ∃ A n c, en = .returned (.slice A n c) ∧ OwnB w' e base (.slice A n c) n l ∧ Below w.heap.size w w'
set_option maxRecDepth 100000 in
set_option maxHeartbeats 1000000 in
theorem refputAll_any (B : Nat) (A : Option Addr) (n c : Nat) (l : List UInt8) (A2 : Option Addr) (n2 c2 : Nat) (L : List Int) (w : World) (hB : B ≤ w.heap.size) (ho : OwnB w 5 B (.slice A n c) n l) (hL : RdL w B A2 n2 L) (hb : n + 10 * n2 ≤ 274877906944) :
    Calls Tryd.prog 42 #[.slice A n c, .slice A2 n2 c2] w (RO 5 B w (l ++ putMany cvar L)) := by
  have HO := Lib.hid ho
  have HL := Lib.hid hL
  have hln := ho.len
  clear ho hL
  go_enter Tryd.func42, Tryd.ntmps42
  go_wp2
  go_loopw [0, 5] (fun v i wr => rpRel cvar l L n2 10 B w v i wr) (fun _ i _ => n2 - (intOf i).toNat)
  case atStart => exact ⟨0, A, n, c, rfl, Nat.zero_le _, rfl, by simpa [putMany] using HO.out, by omega, Below.refl _ _⟩
  case round =>
    obtain ⟨j, A1, n1, c1, rfl, hj, rfl, hR1, hn1, hB1⟩ := hrel
    have HR1 := Lib.hid hR1
    have HB1 := Lib.hid hB1
    have HX := Lib.hid (HL.out.below hB1 hB)
    have hsz := Nat.le_trans hB hB1.size
    clear hR1 hB1
    by_cases hlt : j < n2
    · obtain ⟨b, o, x, rfl, hbl, hx, hxi, hcell⟩ := num_at HX.out hlt
      have HXX := Lib.hid hx
      have hx1 : -9223372036854775808 ≤ x := hxi.1
      have hx2 : x ≤ 9223372036854775807 := hxi.2
      clear hx hxi
      go_wp2_with (go_at_call 40; (with_reducible refine (refPutVar_any A1 n1 c1 x _ _ wr HR1.out.rd (by omega) hx1 hx2).mono ?_); rintro e w9 ⟨A9, n9, c9, rfl, hown9, hb9⟩)
      go_roundw
      case rel =>
        have h10 := vb_ten (zz_lt (n := x) (by omega))
        have hown := hown9.more hsz
        refine ⟨j + 1, A9, n9, c9, by go_num, by omega, rfl, ?_, ?_, HB1.out.trans (hb9.mono HB1.out.size)⟩
        · rw [putMany_take HXX.out, ← List.append_assoc]; exact hown
        · have h1 := hown9.len
          have h2 := HR1.out.len
          rw [List.length_append, h2] at h1
          omega
      case measure => simp [intOf]; omega
    · have HJ := Lib.hid (show putMany cvar (L.take j) = putMany cvar L by rw [List.take_of_length_le (by have := HL.out.len; omega)])
      go_wp2
      go_ret
      exact ⟨A1, n1, c1, rfl, by rw [← HJ.out]; exact HR1.out, HB1.out⟩
set_option maxRecDepth 100000 in
set_option maxHeartbeats 1000000 in
theorem refputTexts_any (B : Nat) (A : Option Addr) (n c : Nat) (l : List UInt8) (A2 : Option Addr) (n2 c2 : Nat) (L : List ByteArray) (w : World) (hB : B ≤ w.heap.size) (ho : OwnB w 5 B (.slice A n c) n l) (hL : RdL w B A2 n2 L) (h64 : ∀ x ∈ L, x.size ≤ 64) (hb : n + 74 * n2 ≤ 137438953472) :
    Calls Tryd.prog 43 #[.slice A n c, .slice A2 n2 c2] w (RO 5 B w (l ++ putMany txt64 L)) := by
  have HO := Lib.hid ho
  have HL := Lib.hid hL
  have hln := ho.len
  have H64 := Lib.hid h64
  clear ho hL
  go_enter Tryd.func43, Tryd.ntmps43
  go_wp2
  go_loopw [0, 5] (fun v i wr => rpRel txt64 l L n2 74 B w v i wr) (fun _ i _ => n2 - (intOf i).toNat)
  case atStart => exact ⟨0, A, n, c, rfl, Nat.zero_le _, rfl, by simpa [putMany] using HO.out, by omega, Below.refl _ _⟩
  case round =>
    obtain ⟨j, A1, n1, c1, rfl, hj, rfl, hR1, hn1, hB1⟩ := hrel
    have HR1 := Lib.hid hR1
    have HB1 := Lib.hid hB1
    have HX := Lib.hid (HL.out.below hB1 hB)
    have hsz := Nat.le_trans hB hB1.size
    clear hR1 hB1
    by_cases hlt : j < n2
    · obtain ⟨b, o, x, rfl, hbl, hx, hxi, hcell⟩ := txt_at HX.out hlt
      have HXX := Lib.hid hx
      have hx1 : x.size ≤ 64 := H64.out x (List.mem_of_getElem? hx)
      clear hx hxi
      go_wp2_with (go_at_call 41; (with_reducible refine (refPutText_any A1 n1 c1 x _ _ wr HR1.out.rd (by omega) (by omega)).mono ?_); rintro e w9 ⟨A9, n9, c9, rfl, hown9, hb9⟩)
      go_roundw
      case rel =>
        have h10 := vb_ten (zz_lt (n := (x.size : Int)) (by omega))
        have hown := hown9.more hsz
        refine ⟨j + 1, A9, n9, c9, by go_num, by omega, rfl, ?_, ?_, HB1.out.trans (hb9.mono HB1.out.size)⟩
        · rw [putMany_take HXX.out, show txt64.put x = vb (zz x.size) ++ x.data.toList from rfl, ← List.append_assoc, ← List.append_assoc]; exact hown
        · have h1 := hown9.len
          have h2 := HR1.out.len
          have h3 : x.data.toList.length = x.size := by rw [Array.length_toList]; rfl
          rw [List.length_append, List.length_append, h2, h3] at h1
          omega
      case measure => simp [intOf]; omega
    · have HJ := Lib.hid (show putMany txt64 (L.take j) = putMany txt64 L by rw [List.take_of_length_le (by have := HL.out.len; omega)])
      go_wp2
      go_ret
      exact ⟨A1, n1, c1, rfl, by rw [← HJ.out]; exact HR1.out, HB1.out⟩
theorem CQ.lt {w W : World} {k v i : Int} {s : ByteArray} {a b c : Value} (h : CQ w k v i s a b c W) : w.heap.size + 1 ≤ W.heap.size := h.2.2
theorem CQ.stepB {w W W' : World} {k v i : Int} {s : ByteArray} {a b c : Value} (h : CQ w k v i s a b c W) (hb : Below (w.heap.size + 1) W W') : CQ w k v i s a b c W' :=
  ⟨⟨(hb.cell (p := ⟨w.heap.size, 0, none⟩) (Nat.lt_succ_self _)).trans h.1.1, (hb.cell (p := ⟨w.heap.size, 1, none⟩) (Nat.lt_succ_self _)).trans h.1.2.1, (hb.cell (p := ⟨w.heap.size, 2, none⟩) (Nat.lt_succ_self _)).trans h.1.2.2.1, (hb.cell (p := ⟨w.heap.size, 3, none⟩) (Nat.lt_succ_self _)).trans h.1.2.2.2.1, (hb.cell (p := ⟨w.heap.size, 4, none⟩) (Nat.lt_succ_self _)).trans h.1.2.2.2.2.1, (hb.cell (p := ⟨w.heap.size, 5, none⟩) (Nat.lt_succ_self _)).trans h.1.2.2.2.2.2.1, (hb.cell (p := ⟨w.heap.size, 6, none⟩) (Nat.lt_succ_self _)).trans h.1.2.2.2.2.2.2⟩,
   h.2.1.trans (hb.mono (Nat.le_succ _)), Nat.lt_of_lt_of_le h.2.2 hb.size⟩
/-- a request in its box, and bytes of the call's own -/
def PS (w : World) (k v i : Int) (s : ByteArray) (a b c : Value) (l : List UInt8) (mx : Nat) (vb : Value) (W : World) : Prop :=
  CQ w k v i s a b c W ∧ ∃ A n c', vb = .slice A n c' ∧ OwnB W 5 (w.heap.size + 1) (.slice A n c') n l ∧ n ≤ mx
def tcnt (k : Int) (m : Nat) : List UInt8 := if k = 7 then vb (zz (m : Int)) else []
theorem tcnt_put (k : Int) (l : List ByteArray) : tcnt k l.length ++ putMany txt64 l = (textsC k).put l := by
  unfold tcnt
  by_cases h : k = 7
  · rw [if_pos h, h]; exact (texts_put7 l).symm
  · rw [if_neg h, List.nil_append]; exact (texts_put0 h l).symm
set_option maxRecDepth 100000 in
set_option maxHeartbeats 1000000 in
theorem refPutReq_no (k v i : Int) (s : ByteArray) (A1 : Option Addr) (n1 c1 : Nat) (l1 : List Int) (A2 : Option Addr) (n2 c2 : Nat) (l2 : List ByteArray) (A3 : Option Addr) (n3 c3 : Nat) (l3 : List UInt8) (w : World) (hI : RdL w w.heap.size A1 n1 l1) (hn1 : n1 ≤ 140737488351232) (hT : RdL w w.heap.size A2 n2 l2) (hn2 : n2 ≤ 140737488351232) (hs47 : s.size ≤ 140737488351232) (hR : Rd w w.heap.size A3 n3 l3) (hn3 : n3 ≤ 140737488351232) {z : Int} (hck : ckQ ⟨k, v, i, s, l1, l2, l3⟩ = z) (hz : z ≠ 0) :
    Calls Tryd.prog 15 #[.agg #[.int .i64 k, .int .i64 v, .int .i64 i, .string s, .slice A1 n1 c1, .slice A2 n2 c2, .slice A3 n3 c3]] w (PQR w ([], z)) := by
  have HI := Lib.hid hI
  have HT := Lib.hid hT
  have HR := Lib.hid hR
  have HL3 := Lib.hid hR.len
  have HCK := Lib.hid hck
  have HW1 := Lib.hid (bel_alloc (Below.refl w.heap.size w) (.cells #[.int .i64 k, .int .i64 v, .int .i64 i, .string s, .slice A1 n1 c1, .slice A2 n2 c2, .slice A3 n3 c3] 26))
  clear hI hT hR hck
  have hzN : (z != 0) = true := by simp [hz]
  clear hz
  go_enter Tryd.func15, Tryd.ntmps15
  go_wp2_with (go_at_call 19; (with_reducible refine (refCheckReq_any k v i s A1 n1 c1 l1 A2 n2 c2 l2 A3 n3 c3 l3 _ (HI.out.below HW1.out (Nat.le_refl _) |>.more HW1.out.size) hn1 (HT.out.below HW1.out (Nat.le_refl _) |>.more HW1.out.size) hn2 hs47 hn3 HL3.out).mono ?_); rw [HCK.out]; rintro e w9 ⟨rfl, hb9⟩; have HW9 := Lib.hid (HW1.out.trans (hb9.mono HW1.out.size)); clear hb9)
  go_ret2
  exact ⟨none, 0, 0, rfl, Rd.nil, Nat.le_refl _, HW9.out⟩
set_option maxRecDepth 100000 in
set_option maxHeartbeats 8000000 in
theorem refPutReq_yes (k v i : Int) (s : ByteArray) (A1 : Option Addr) (n1 c1 : Nat) (l1 : List Int) (A2 : Option Addr) (n2 c2 : Nat) (l2 : List ByteArray) (A3 : Option Addr) (n3 c3 : Nat) (l3 : List UInt8) (w : World) (hI : RdL w w.heap.size A1 n1 l1) (hn1 : n1 ≤ 140737488351232) (hT : RdL w w.heap.size A2 n2 l2) (hn2 : n2 ≤ 140737488351232) (hs47 : s.size ≤ 140737488351232) (hR : Rd w w.heap.size A3 n3 l3) (hn3 : n3 ≤ 140737488351232) (hck : ckQ ⟨k, v, i, s, l1, l2, l3⟩ = 0) :
    Calls Tryd.prog 15 #[.agg #[.int .i64 k, .int .i64 v, .int .i64 i, .string s, .slice A1 n1 c1, .slice A2 n2 c2, .slice A3 n3 c3]] w (PQR w (reqC.put ⟨k, v, i, s, l1, l2, l3⟩, 0)) := by
  have hok := ckQ_iff.1 hck
  obtain ⟨⟨hkk, hvv⟩, ⟨hi0, hi1⟩, hs64, hsv, hn1K, hints, ⟨hn2a, hn2b⟩, htx, hn3B⟩ := (⟨known_iff.1 hok.1, hok.2⟩ : ((1 ≤ k ∧ k ≤ 12) ∧ 0 ≤ v ∧ v ≤ 2) ∧ OkQ ⟨k, v, i, s, l1, l2, l3⟩)
  clear hok
  simp only at hi0 hi1 hs64 hsv hn1K hints hn2a hn2b htx hn3B
  rw [hI.len] at hn1K
  rw [hT.len] at hn2a hn2b
  rw [hR.len] at hn3B
  obtain ⟨K, rfl⟩ : ∃ K : Nat, k = (K : Int) := ⟨k.toNat, by omega⟩
  obtain ⟨V, rfl⟩ : ∃ V : Nat, v = (V : Int) := ⟨v.toNat, by omega⟩
  have hnI := nI_in (k := (K : Int)) (by omega)
  have hnT := nT_in (k := (K : Int)) (by omega)
  have hmT := mT_in (K : Int)
  have hmB := mB_in (K : Int)
  have hn1' : n1 ≤ 5 := by omega
  have hn2' : n2 ≤ 15 := by omega
  have hn3' : n3 ≤ 2048 := by omega
  have H64 := Lib.hid htx
  have HL2 := Lib.hid hT.len
  have h50 := many_ten l1 (fun x hx => by have := hints x hx; omega)
  have h74 := many_74 l2 htx
  rw [hI.len] at h50
  rw [hT.len] at h74
  have H50 := Lib.hid h50
  have H74 := Lib.hid h74
  have hB0 : K ≠ 2 → l3 = [] := fun h => List.eq_nil_of_length_eq_zero (by have h2 : mB (K : Int) = 0 := (by unfold mB; rw [if_neg (by omega)]); have := hR.len; omega)
  have HB0 := Lib.hid hB0
  have wk : (K : Int) % 256 = (K : Int) := by omega
  have wv : (V : Int) % 256 = (V : Int) := by omega
  have BK := Lib.hid (show bv (UInt8.ofNat K) = .int .u8 (K : Int) by unfold bv; rw [ofNat_toNat' (by omega)])
  have BV := Lib.hid (show bv (UInt8.ofNat V) = .int .u8 (V : Int) by unfold bv; rw [ofNat_toNat' (by omega)])
  have hI8 := u8row
  have HI := Lib.hid hI
  have HT := Lib.hid hT
  have HR := Lib.hid hR
  have HL3 := Lib.hid hR.len
  have HCK := Lib.hid hck
  have HW1 := Lib.hid (bel_alloc (Below.refl w.heap.size w) (.cells #[.int .i64 (K : Int), .int .i64 (V : Int), .int .i64 i, .string s, .slice A1 n1 c1, .slice A2 n2 c2, .slice A3 n3 c3] 26))
  clear hI hT hR hck
  clear hn1K hn2a hn2b hn3B hsv htx hints hnI hnT hmT hmB hkk hvv h50 h74 hB0
  have HEQ := Lib.hid (show reqC.put ⟨(K : Int), (V : Int), i, s, l1, l2, l3⟩ = ((((([UInt8.ofNat K, UInt8.ofNat V] ++ vb (zz i)) ++ (whoC (V : Int)).put s) ++ putMany cvar l1) ++ (textsC (K : Int)).put l2) ++ (blobC (K : Int)).put l3) from put_eq ⟨(K : Int), (V : Int), i, s, l1, l2, l3⟩)
  rw [HEQ.out]
  go_enter Tryd.func15, Tryd.ntmps15
  go_upto_if 24 with (first
    | (go_at_call 40; (with_reducible refine (refPutVar_any (some ⟨w9.heap.size, 0, none⟩) 2 2 i _ _ _ HO8.out.rd (by omega) (by omega) (by omega)).mono ?_); rintro e w7 ⟨A7, n7, c7, rfl, hown7, hb7⟩; have HQ7 := Lib.hid (HQ9.out.step ((bel_alloc (Below.refl _ _) _).trans (hb7.mono (by simp)))); have HO7 := Lib.hid (hown7.more (B' := w.heap.size + 1) (by have := HQ9.out.lt; simp; omega)); have hn7 : n7 ≤ 12 := (by have h := hown7.len; have h2 := vb_ten (zz_lt (n := i) (by omega)); simp only [List.length_append, List.length_cons, List.length_nil] at h; omega); clear hown7 hb7 q0 q1 q2 q3 q4 q5 q6; obtain ⟨q0, q1, q2, q3, q4, q5, q6⟩ := HQ7.out.1)
    | (go_at_call 19; (with_reducible refine (refCheckReq_any (K : Int) (V : Int) i s A1 n1 c1 l1 A2 n2 c2 l2 A3 n3 c3 l3 _ (HI.out.below HW1.out (Nat.le_refl _) |>.more HW1.out.size) hn1 (HT.out.below HW1.out (Nat.le_refl _) |>.more HW1.out.size) hn2 hs47 hn3 HL3.out).mono ?_); rw [HCK.out]; rintro e w9 ⟨rfl, hb9⟩; have HQ9 := Lib.hid (show CQ w (K : Int) (V : Int) i s (.slice A1 n1 c1) (.slice A2 n2 c2) (.slice A3 n3 c3) w9 from CQ.step ⟨BoxQ_new _ _ _ _ _ _ _ _ _, bel_alloc (Below.refl _ _) _, by simp⟩ hb9); have HO8 := Lib.hid (show OwnB (w9.alloc (.cells #[.int .u8 (K : Int), .int .u8 (V : Int)] 5)) 5 w9.heap.size (.slice (some ⟨w9.heap.size, 0, none⟩) 2 2) 2 [UInt8.ofNat K, UInt8.ofNat V] from by have h := Crc.own_lit w9 5 [UInt8.ofNat K, UInt8.ofNat V] 2 rfl (by omega); simp only [List.map_cons, List.map_nil, BK.out, BV.out] at h; exact h); clear hb9; have hlt9 : w.heap.size < w9.heap.size := HQ9.out.lt; obtain ⟨q0, q1, q2, q3, q4, q5, q6⟩ := HQ9.out.1))
  go_cut [5] (fun s5 wx => PS w (K : Int) (V : Int) i s (.slice A1 n1 c1) (.slice A2 n2 c2) (.slice A3 n3 c3) (([UInt8.ofNat K, UInt8.ofNat V] ++ vb (zz i)) ++ (whoC (V : Int)).put s) 86 s5 wx)
  case first =>
    by_cases hv2 : (V : Int) = 2
    · have hvb : ((V : Int) == 2) = true := by simp [hv2]
      have HWH := Lib.hid (show (whoC (V : Int)).put s = vb (zz s.size) ++ s.data.toList by rw [hv2]; exact who_put2 s)
      clear hv2
      go_wp2_with (go_at_call 41; (with_reducible refine (refPutText_any A7 n7 c7 s _ _ w7 HO7.out.rd (by omega) (by omega)).mono ?_); rintro e w6 ⟨A6, n6, c6, rfl, hown6, hb6⟩)
      go_meet
      refine ⟨HQ7.out.step hb6, A6, n6, c6, rfl, ?_, ?_⟩
      · rw [HWH.out, ← List.append_assoc]; exact hown6.more HQ7.out.lt
      · have h := hown6.len; have h2 := vb_ten (zz_lt (n := (s.size : Int)) (by omega)); have h3 := HO7.out.len; have h4 : s.data.toList.length = s.size := (by rw [Array.length_toList]; rfl); rw [List.length_append, List.length_append, h3, h4] at h; omega
    · have hvb : ((V : Int) == 2) = false := by simp [hv2]
      have HWH := Lib.hid (who_put0 hv2 s)
      clear hv2
      go_wp2
      go_meet
      exact ⟨HQ7.out, A7, n7, c7, rfl, by rw [HWH.out, List.append_nil]; exact HO7.out, by omega⟩
  case rest =>
    obtain ⟨hQ, A6, n6, c6, rfl, hO, hn6⟩ := hcut
    rename World => w6
    have HQ6 := Lib.hid hQ
    have HO6 := Lib.hid hO
    clear hQ hO HQ7 HO7 hn7 q0 q1 q2 q3 q4 q5 q6
    obtain ⟨q0, q1, q2, q3, q4, q5, q6⟩ := HQ6.out.1
    go_upto_if 35 with (go_at_call 42; (with_reducible refine (refputAll_any (w.heap.size + 1) A6 n6 c6 _ A1 n1 c1 l1 w6 HQ6.out.lt HO6.out ((HI.out.below HQ6.out.bel (Nat.le_refl _)).more (Nat.le_succ _)) (by omega)).mono ?_); rintro e w5 ⟨A5, n5, c5, rfl, hown5, hb5⟩; have HQ5 := Lib.hid (HQ6.out.step hb5); have HO5 := Lib.hid hown5; have hn5 : n5 ≤ 136 := (by have h := hown5.len; have h2 := H50.out; have h3 := HO6.out.len; rw [List.length_append, h3] at h; omega); clear hown5 hb5 q0 q1 q2 q3 q4 q5 q6; obtain ⟨q0, q1, q2, q3, q4, q5, q6⟩ := HQ5.out.1)
    go_cut [5] (fun s5 wx => PS w (K : Int) (V : Int) i s (.slice A1 n1 c1) (.slice A2 n2 c2) (.slice A3 n3 c3) (((([UInt8.ofNat K, UInt8.ofNat V] ++ vb (zz i)) ++ (whoC (V : Int)).put s) ++ putMany cvar l1) ++ tcnt (K : Int) l2.length) 146 s5 wx)
    case first =>
      by_cases hk7 : (K : Int) = 7
      · have hkb : ((K : Int) == 7) = true := by simp [hk7]
        have HTC := Lib.hid (show tcnt (K : Int) l2.length = vb (zz (n2 : Int)) by unfold tcnt; rw [if_pos hk7, HL2.out])
        clear hk7
        go_wp2_with (go_at_call 40; (with_reducible refine (refPutVar_any A5 n5 c5 (n2 : Int) _ _ w5 HO5.out.rd (by omega) (by omega) (by omega)).mono ?_); rintro e w4 ⟨A4, n4, c4, rfl, hown4, hb4⟩)
        go_meet
        refine ⟨HQ5.out.step hb4, A4, n4, c4, rfl, ?_, ?_⟩
        · rw [HTC.out]; exact hown4.more HQ5.out.lt
        · have h := hown4.len; have h2 := vb_ten (zz_lt (n := (n2 : Int)) (by omega)); have h3 := HO5.out.len; rw [List.length_append, h3] at h; omega
      · have hkb : ((K : Int) == 7) = false := by simp [hk7]
        have HTC := Lib.hid (show tcnt (K : Int) l2.length = [] by unfold tcnt; rw [if_neg hk7])
        clear hk7
        go_wp2
        go_meet
        exact ⟨HQ5.out, A5, n5, c5, rfl, by rw [HTC.out, List.append_nil]; exact HO5.out, by omega⟩
    case rest =>
      obtain ⟨hQ, A4, n4, c4, rfl, hO, hn4⟩ := hcut
      rename World => w4
      have HQ4 := Lib.hid hQ
      have HO4 := Lib.hid hO
      clear hQ hO HQ5 HO5 hn5 q0 q1 q2 q3 q4 q5 q6
      obtain ⟨q0, q1, q2, q3, q4, q5, q6⟩ := HQ4.out.1
      go_upto_if 47 with (go_at_call 43; (with_reducible refine (refputTexts_any (w.heap.size + 1) A4 n4 c4 _ A2 n2 c2 l2 w4 HQ4.out.lt HO4.out ((HT.out.below HQ4.out.bel (Nat.le_refl _)).more (Nat.le_succ _)) H64.out (by omega)).mono ?_); rintro e w3 ⟨A30, n30, c30, rfl, hown3, hb3⟩; have HQ3 := Lib.hid (HQ4.out.step hb3); have hn30 : n30 ≤ 1256 := (by have h := hown3.len; have h2 := H74.out; have h3 := HO4.out.len; rw [List.length_append, h3] at h; omega); rw [List.append_assoc, tcnt_put] at hown3; have HO3 := Lib.hid hown3; clear hown3 hb3 q0 q1 q2 q3 q4 q5 q6; obtain ⟨q0, q1, q2, q3, q4, q5, q6⟩ := HQ3.out.1)
      go_cut [5] (fun s5 wx => PS w (K : Int) (V : Int) i s (.slice A1 n1 c1) (.slice A2 n2 c2) (.slice A3 n3 c3) ((((([UInt8.ofNat K, UInt8.ofNat V] ++ vb (zz i)) ++ (whoC (V : Int)).put s) ++ putMany cvar l1) ++ (textsC (K : Int)).put l2) ++ (blobC (K : Int)).put l3) 10000 s5 wx)
      case first =>
        by_cases hk2 : (K : Int) = 2
        · have hkb : ((K : Int) == 2) = true := by simp [hk2]
          have HBL := Lib.hid (show (blobC (K : Int)).put l3 = vb (zz (n3 : Int)) ++ l3 by rw [hk2, ← HL3.out]; exact blob_put2 l3)
          clear hk2
          go_wp2_with (first
            | (at_builtin; refine wpList_appB _ rfl _ _ 24 rfl (w.heap.size + 1) 5 Tryd.underlying24 hI8 _ n20 _ rfl HO2.out w.heap.size A3 n3 c3 l3 rfl (HR.out.below HQ2.out.bel (Nat.le_refl _)) (by omega) HQ2.out.lt ?_; intro A0 c0 w1 hown1 hb1)
            | (go_at_call 40; (with_reducible refine (refPutVar_any A30 n30 c30 (n3 : Int) _ _ w3 HO3.out.rd (by omega) (by omega) (by omega)).mono ?_); rintro e w2 ⟨A20, n20, c20, rfl, hown2, hb2⟩; have HQ2 := Lib.hid (HQ3.out.step hb2); have HO2 := Lib.hid (hown2.more HQ3.out.lt); have hn20 : n20 ≤ 1266 := (by have h := hown2.len; have h2 := vb_ten (zz_lt (n := (n3 : Int)) (by omega)); have h3 := HO3.out.len; rw [List.length_append, h3] at h; omega); clear hown2 hb2 q0 q1 q2 q3 q4 q5 q6; obtain ⟨q0, q1, q2, q3, q4, q5, q6⟩ := HQ2.out.1))
          go_meet
          refine ⟨HQ2.out.stepB hb1, A0, n20 + n3, c0, rfl, ?_, by omega⟩
          rw [HBL.out, ← List.append_assoc]; exact hown1
        · have hkb : ((K : Int) == 2) = false := by simp [hk2]
          have HBL := Lib.hid (blob_put0 hk2 l3)
          clear hk2
          go_wp2
          go_meet
          exact ⟨HQ3.out, A30, n30, c30, rfl, by rw [HBL.out, List.append_nil]; exact HO3.out, by omega⟩
      case rest =>
        obtain ⟨hQ, A1', n1', c1', rfl, hO, hn1''⟩ := hcut
        have HQ1 := Lib.hid hQ
        have HO1 := Lib.hid hO
        clear hQ hO HQ3 HO3 hn30 q0 q1 q2 q3 q4 q5 q6
        go_wp2
        go_ret2
        exact ⟨A1', n1', c1', rfl, HO1.out.rd, HO1.out.cap, HQ1.out.bel⟩
theorem refPutReq_any (k v i : Int) (s : ByteArray) (A1 : Option Addr) (n1 c1 : Nat) (l1 : List Int) (A2 : Option Addr) (n2 c2 : Nat) (l2 : List ByteArray) (A3 : Option Addr) (n3 c3 : Nat) (l3 : List UInt8) (w : World) (hI : RdL w w.heap.size A1 n1 l1) (hn1 : n1 ≤ 140737488351232) (hT : RdL w w.heap.size A2 n2 l2) (hn2 : n2 ≤ 140737488351232) (hs47 : s.size ≤ 140737488351232) (hR : Rd w w.heap.size A3 n3 l3) (hn3 : n3 ≤ 140737488351232) :
    Calls Tryd.prog 15 #[.agg #[.int .i64 k, .int .i64 v, .int .i64 i, .string s, .slice A1 n1 c1, .slice A2 n2 c2, .slice A3 n3 c3]] w (PQR w (ptQ ⟨k, v, i, s, l1, l2, l3⟩)) := by
  unfold ptQ
  by_cases hck : ckQ ⟨k, v, i, s, l1, l2, l3⟩ = 0
  · rw [if_pos hck]; exact refPutReq_yes k v i s A1 n1 c1 l1 A2 n2 c2 l2 A3 n3 c3 l3 w hI hn1 hT hn2 hs47 hR hn3 hck
  · rw [if_neg hck]; exact refPutReq_no k v i s A1 n1 c1 l1 A2 n2 c2 l2 A3 n3 c3 l3 w hI hn1 hT hn2 hs47 hR hn3 rfl hck
end Go.Proofs.YthhdhdjdhekgpaaDoor.Pro
