/- Joined: ProM. -/
import Derived.Test.YthhdhdjdhekgpaaDoorProR2
import Derived.Test.YthhdhdjdhekgpaaDoorProP3
/- The document's SameReq, SameResp, Few, FewResp. -/
namespace Go.Proofs.YthhdhdjdhekgpaaDoor.Pro
open Go.RowKit Go.Proofs.YthhdhdjdhekgpaaDoor.Oct Go.Proofs.YthhdhdjdhekgpaaDoor.Lay

def fewQ (r : Rq) : Bool := decide ((r.ints.length : Int) ≤ 100) && (allShort 300 r.texts && decide (r.texts.length ≤ 40)) && decide ((r.who.size : Int) ≤ 300) && decide ((r.blob.length : Int) ≤ 3000)
def fewP (r : Rp) : Bool := decide ((r.ints.length : Int) ≤ 100) && (allShort 300 r.texts && decide (r.texts.length ≤ 40)) && decide ((r.blob.length : Int) ≤ 5000)
theorem toList_ne {a b : ByteArray} (h : a ≠ b) : (a.toList == b.toList) = false := by
  rw [beq_eq_false_iff_ne]
  intro h1
  rw [Go.ByteArray.toList_eq, Go.ByteArray.toList_eq] at h1
  exact h (ByteArray.ext (Array.toList_inj.1 h1))
set_option maxRecDepth 100000 in
set_option maxHeartbeats 2000000 in
theorem reffewQ_any (k v i : Int) (s : ByteArray) (A1 : Option Addr) (n1 c1 : Nat) (l1 : List Int) (A2 : Option Addr) (n2 c2 : Nat) (l2 : List ByteArray) (A3 : Option Addr) (n3 c3 : Nat) (l3 : List UInt8) (w : World)
    (hl1 : l1.length = n1) (hT : RdL w w.heap.size A2 n2 l2) (hn2 : n2 ≤ 140737488351232) (hl3 : l3.length = n3) (_hs : s.size ≤ 140737488351232) :
    Calls Tryd.prog 13 #[.agg #[.int .i64 k, .int .i64 v, .int .i64 i, .string s, .slice A1 n1 c1, .slice A2 n2 c2, .slice A3 n3 c3]] w fun e w' => e = .returned (.bool (fewQ ⟨k, v, i, s, l1, l2, l3⟩)) ∧ Below w.heap.size w w' := by
  have HT := Lib.hid hT
  have HL1 := Lib.hid hl1
  have HL3 := Lib.hid hl3
  have HB := Lib.hid (bel_alloc (Below.refl w.heap.size w) (.cells #[.int .i64 k, .int .i64 v, .int .i64 i, .string s, .slice A1 n1 c1, .slice A2 n2 c2, .slice A3 n3 c3] 26))
  clear hT hl1 hl3
  obtain ⟨tt, ht⟩ : ∃ tt, (allShort 300 l2 && decide (l2.length ≤ 40)) = tt := ⟨_, rfl⟩
  have HTT := Lib.hid ht
  clear ht
  rcases h1 : decide ((n1 : Int) ≤ 100) with _ | _
  · have HZ := Lib.hid (show fewQ ⟨k, v, i, s, l1, l2, l3⟩ = false by unfold fewQ; simp only [HL1.out, HL3.out, HTT.out, h1, Bool.false_and])
    rw [HZ.out]
    go_enter Tryd.func13, Tryd.ntmps13
    go_wp2_with (go_at_call 34; (refine (reflittle_any A2 n2 c2 l2 w.heap.size _ (HT.out.below HB.out (Nat.le_refl _)) hn2).mono ?_); rw [HTT.out]; rintro e w9 ⟨rfl, rfl⟩)
    go_ret
    exact ⟨rfl, HB.out⟩
  rcases tt with _ | _
  · have HZ := Lib.hid (show fewQ ⟨k, v, i, s, l1, l2, l3⟩ = false by unfold fewQ; simp only [HL1.out, HL3.out, HTT.out, h1, Bool.false_and, Bool.and_false])
    rw [HZ.out]
    go_enter Tryd.func13, Tryd.ntmps13
    go_wp2_with (go_at_call 34; (refine (reflittle_any A2 n2 c2 l2 w.heap.size _ (HT.out.below HB.out (Nat.le_refl _)) hn2).mono ?_); rw [HTT.out]; rintro e w9 ⟨rfl, rfl⟩)
    go_ret
    exact ⟨rfl, HB.out⟩
  rcases h2 : decide ((s.size : Int) ≤ 300) with _ | _
  · have HZ := Lib.hid (show fewQ ⟨k, v, i, s, l1, l2, l3⟩ = false by unfold fewQ; simp only [HL1.out, HL3.out, HTT.out, h1, h2, Bool.and_true, Bool.false_and, Bool.and_false])
    rw [HZ.out]
    go_enter Tryd.func13, Tryd.ntmps13
    go_wp2_with (go_at_call 34; (refine (reflittle_any A2 n2 c2 l2 w.heap.size _ (HT.out.below HB.out (Nat.le_refl _)) hn2).mono ?_); rw [HTT.out]; rintro e w9 ⟨rfl, rfl⟩)
    go_ret
    exact ⟨rfl, HB.out⟩
  rcases h3 : decide ((n3 : Int) ≤ 3000) with _ | _
  · have HZ := Lib.hid (show fewQ ⟨k, v, i, s, l1, l2, l3⟩ = false by unfold fewQ; simp only [HL1.out, HL3.out, HTT.out, h1, h2, h3, Bool.and_true, Bool.and_false])
    rw [HZ.out]
    go_enter Tryd.func13, Tryd.ntmps13
    go_wp2_with (go_at_call 34; (refine (reflittle_any A2 n2 c2 l2 w.heap.size _ (HT.out.below HB.out (Nat.le_refl _)) hn2).mono ?_); rw [HTT.out]; rintro e w9 ⟨rfl, rfl⟩)
    go_ret
    exact ⟨rfl, HB.out⟩
  · have HZ := Lib.hid (show fewQ ⟨k, v, i, s, l1, l2, l3⟩ = true by unfold fewQ; simp only [HL1.out, HL3.out, HTT.out, h1, h2, h3, Bool.and_true])
    rw [HZ.out]
    go_enter Tryd.func13, Tryd.ntmps13
    go_wp2_with (go_at_call 34; (refine (reflittle_any A2 n2 c2 l2 w.heap.size _ (HT.out.below HB.out (Nat.le_refl _)) hn2).mono ?_); rw [HTT.out]; rintro e w9 ⟨rfl, rfl⟩)
    go_ret
    exact ⟨rfl, HB.out⟩
set_option maxRecDepth 100000 in
set_option maxHeartbeats 2000000 in
theorem reffewP_any (k v i E t : Int) (A1 : Option Addr) (n1 c1 : Nat) (l1 : List Int) (A2 : Option Addr) (n2 c2 : Nat) (l2 : List ByteArray) (A3 : Option Addr) (n3 c3 : Nat) (l3 : List UInt8) (w : World)
    (hl1 : l1.length = n1) (hT : RdL w w.heap.size A2 n2 l2) (hn2 : n2 ≤ 140737488351232) (hl3 : l3.length = n3) :
    Calls Tryd.prog 21 #[.agg #[.int .i64 k, .int .i64 v, .int .i64 i, .int .i64 E, .int .i64 t, .slice A1 n1 c1, .slice A2 n2 c2, .slice A3 n3 c3]] w fun e w' => e = .returned (.bool (fewP ⟨k, v, i, E, t, l1, l2, l3⟩)) ∧ Below w.heap.size w w' := by
  have HT := Lib.hid hT
  have HL1 := Lib.hid hl1
  have HL3 := Lib.hid hl3
  have HB := Lib.hid (bel_alloc (Below.refl w.heap.size w) (.cells #[.int .i64 k, .int .i64 v, .int .i64 i, .int .i64 E, .int .i64 t, .slice A1 n1 c1, .slice A2 n2 c2, .slice A3 n3 c3] 38))
  clear hT hl1 hl3
  obtain ⟨tt, ht⟩ : ∃ tt, (allShort 300 l2 && decide (l2.length ≤ 40)) = tt := ⟨_, rfl⟩
  have HTT := Lib.hid ht
  clear ht
  rcases h1 : decide ((n1 : Int) ≤ 100) with _ | _
  · have HZ := Lib.hid (show fewP ⟨k, v, i, E, t, l1, l2, l3⟩ = false by unfold fewP; simp only [HL1.out, HL3.out, HTT.out, h1, Bool.false_and])
    rw [HZ.out]
    go_enter Tryd.func21, Tryd.ntmps21
    go_wp2_with (go_at_call 34; (refine (reflittle_any A2 n2 c2 l2 w.heap.size _ (HT.out.below HB.out (Nat.le_refl _)) hn2).mono ?_); rw [HTT.out]; rintro e w9 ⟨rfl, rfl⟩)
    go_ret
    exact ⟨rfl, HB.out⟩
  rcases tt with _ | _
  · have HZ := Lib.hid (show fewP ⟨k, v, i, E, t, l1, l2, l3⟩ = false by unfold fewP; simp only [HL1.out, HL3.out, HTT.out, h1, Bool.false_and, Bool.and_false])
    rw [HZ.out]
    go_enter Tryd.func21, Tryd.ntmps21
    go_wp2_with (go_at_call 34; (refine (reflittle_any A2 n2 c2 l2 w.heap.size _ (HT.out.below HB.out (Nat.le_refl _)) hn2).mono ?_); rw [HTT.out]; rintro e w9 ⟨rfl, rfl⟩)
    go_ret
    exact ⟨rfl, HB.out⟩
  rcases h3 : decide ((n3 : Int) ≤ 5000) with _ | _
  · have HZ := Lib.hid (show fewP ⟨k, v, i, E, t, l1, l2, l3⟩ = false by unfold fewP; simp only [HL1.out, HL3.out, HTT.out, h1, h3, Bool.and_true, Bool.and_false])
    rw [HZ.out]
    go_enter Tryd.func21, Tryd.ntmps21
    go_wp2_with (go_at_call 34; (refine (reflittle_any A2 n2 c2 l2 w.heap.size _ (HT.out.below HB.out (Nat.le_refl _)) hn2).mono ?_); rw [HTT.out]; rintro e w9 ⟨rfl, rfl⟩)
    go_ret
    exact ⟨rfl, HB.out⟩
  · have HZ := Lib.hid (show fewP ⟨k, v, i, E, t, l1, l2, l3⟩ = true by unfold fewP; simp only [HL1.out, HL3.out, HTT.out, h1, h3, Bool.and_true])
    rw [HZ.out]
    go_enter Tryd.func21, Tryd.ntmps21
    go_wp2_with (go_at_call 34; (refine (reflittle_any A2 n2 c2 l2 w.heap.size _ (HT.out.below HB.out (Nat.le_refl _)) hn2).mono ?_); rw [HTT.out]; rintro e w9 ⟨rfl, rfl⟩)
    go_ret
    exact ⟨rfl, HB.out⟩
set_option maxRecDepth 100000 in
set_option maxHeartbeats 4000000 in
theorem refsameQ_any (k1 k2 : Int) (v1 v2 : Int) (i1 i2 : Int) (s1 s2 : ByteArray) (A1 : Option Addr) (n1 c1 : Nat) (l1 : List Int) (A2 : Option Addr) (n2 c2 : Nat) (l2 : List ByteArray) (A3 : Option Addr) (n3 c3 : Nat) (l3 : List UInt8) (B1 : Option Addr) (m1 d1 : Nat) (r1 : List Int) (B2 : Option Addr) (m2 d2 : Nat) (r2 : List ByteArray) (B3 : Option Addr) (m3 d3 : Nat) (r3 : List UInt8) (w : World)
    (h1 : RdL w w.heap.size A1 n1 l1) (hn1 : n1 ≤ 1099511627776) (h2 : RdL w w.heap.size A2 n2 l2) (hn2 : n2 ≤ 1099511627776) (h3 : Rd w w.heap.size A3 n3 l3) (g1 : RdL w w.heap.size B1 m1 r1) (g2 : RdL w w.heap.size B2 m2 r2) (g3 : Rd w w.heap.size B3 m3 r3) :
    Calls Tryd.prog 20 #[.agg #[.int .i64 k1, .int .i64 v1, .int .i64 i1, .string s1, .slice A1 n1 c1, .slice A2 n2 c2, .slice A3 n3 c3], .agg #[.int .i64 k2, .int .i64 v2, .int .i64 i2, .string s2, .slice B1 m1 d1, .slice B2 m2 d2, .slice B3 m3 d3]] w fun e w' => e = .returned (.bool (eqq (α := Rq) ⟨k1, v1, i1, s1, l1, l2, l3⟩ ⟨k2, v2, i2, s2, r1, r2, r3⟩)) ∧ Below w.heap.size w w' := by
  have H1 := Lib.hid h1
  have H2 := Lib.hid h2
  have H3 := Lib.hid h3
  have G1 := Lib.hid g1
  have G2 := Lib.hid g2
  have G3 := Lib.hid g3
  clear h1 h2 h3 g1 g2 g3
  have HB := Lib.hid (show Below w.heap.size w ((w.alloc (.cells #[.int .i64 k1, .int .i64 v1, .int .i64 i1, .string s1, .slice A1 n1 c1, .slice A2 n2 c2, .slice A3 n3 c3] 26)).alloc (.cells #[.int .i64 k2, .int .i64 v2, .int .i64 i2, .string s2, .slice B1 m1 d1, .slice B2 m2 d2, .slice B3 m3 d3] 26)) from bel_alloc (bel_alloc (Below.refl w.heap.size w) _) _)
  have HX := Lib.hid (show BoxQ ((w.alloc (.cells #[.int .i64 k1, .int .i64 v1, .int .i64 i1, .string s1, .slice A1 n1 c1, .slice A2 n2 c2, .slice A3 n3 c3] 26)).alloc (.cells #[.int .i64 k2, .int .i64 v2, .int .i64 i2, .string s2, .slice B1 m1 d1, .slice B2 m2 d2, .slice B3 m3 d3] 26)) (w.heap.size) k1 v1 i1 s1 (.slice A1 n1 c1) (.slice A2 n2 c2) (.slice A3 n3 c3) from BoxQ_below (BoxQ_new w 26 _ _ _ _ _ _ _) ((Below.refl _ _).alloc (Nat.le_refl _) _) (by simp))
  have HY := Lib.hid (show BoxQ ((w.alloc (.cells #[.int .i64 k1, .int .i64 v1, .int .i64 i1, .string s1, .slice A1 n1 c1, .slice A2 n2 c2, .slice A3 n3 c3] 26)).alloc (.cells #[.int .i64 k2, .int .i64 v2, .int .i64 i2, .string s2, .slice B1 m1 d1, .slice B2 m2 d2, .slice B3 m3 d3] 26)) (w.heap.size + 1) k2 v2 i2 s2 (.slice B1 m1 d1) (.slice B2 m2 d2) (.slice B3 m3 d3) by have h := BoxQ_new (w.alloc (.cells #[.int .i64 k1, .int .i64 v1, .int .i64 i1, .string s1, .slice A1 n1 c1, .slice A2 n2 c2, .slice A3 n3 c3] 26)) 26 k2 v2 i2 s2 (.slice B1 m1 d1) (.slice B2 m2 d2) (.slice B3 m3 d3); simpa using h)
  have HLT := Lib.hid (show w.heap.size < ((w.alloc (.cells #[.int .i64 k1, .int .i64 v1, .int .i64 i1, .string s1, .slice A1 n1 c1, .slice A2 n2 c2, .slice A3 n3 c3] 26)).alloc (.cells #[.int .i64 k2, .int .i64 v2, .int .i64 i2, .string s2, .slice B1 m1 d1, .slice B2 m2 d2, .slice B3 m3 d3] 26)).heap.size ∧ w.heap.size + 1 < ((w.alloc (.cells #[.int .i64 k1, .int .i64 v1, .int .i64 i1, .string s1, .slice A1 n1 c1, .slice A2 n2 c2, .slice A3 n3 c3] 26)).alloc (.cells #[.int .i64 k2, .int .i64 v2, .int .i64 i2, .string s2, .slice B1 m1 d1, .slice B2 m2 d2, .slice B3 m3 d3] 26)).heap.size by constructor <;> (simp; try omega))
  generalize hw0 : ((w.alloc (.cells #[.int .i64 k1, .int .i64 v1, .int .i64 i1, .string s1, .slice A1 n1 c1, .slice A2 n2 c2, .slice A3 n3 c3] 26)).alloc (.cells #[.int .i64 k2, .int .i64 v2, .int .i64 i2, .string s2, .slice B1 m1 d1, .slice B2 m2 d2, .slice B3 m3 d3] 26)) = w0 at HB HX HY HLT
  have HW0 := Lib.hid hw0
  clear hw0
  by_cases ck : k1 = k2
  case neg =>
    have dk : (k1 == k2) = false := beqF ck
    have HZ := Lib.hid (eqq_no (α := Rq) (a := ⟨k1, v1, i1, s1, l1, l2, l3⟩) (b := ⟨k2, v2, i2, s2, r1, r2, r3⟩) (fun h => ck (by injection h)))
    rw [HZ.out]
    go_enter Tryd.func20, Tryd.ntmps20
    go_wp2_with (first
      | (go_at_call 69; (refine (refTexts_any A2 n2 c2 l2 B2 m2 d2 r2 w9 ((H2.out.below HB9.out (Nat.le_refl _)).more HB9.out.size) ((G2.out.below HB9.out (Nat.le_refl _)).more HB9.out.size) hn2).mono ?_); rw [HT.out]; rintro e w8 ⟨rfl, hb8⟩; have HB8 := Lib.hid (HB9.out.trans (hb8.mono HB9.out.size)); have HX8 := Lib.hid (BoxQ_below HX9.out hb8 HL9.out.1); have HY8 := Lib.hid (BoxQ_below HY9.out hb8 HL9.out.2); clear hb8; obtain ⟨_, _, _, _, x4, x5, x6⟩ := HX8.out; obtain ⟨_, _, _, _, y4, y5, y6⟩ := HY8.out; have t1 := str_of w8 _ A3 n3 c3 l3 (H3.out.below HB8.out (Nat.le_refl _)); have t2 := str_of w8 _ B3 m3 d3 r3 (G3.out.below HB8.out (Nat.le_refl _)))
      | (go_at_call 68; rw [HW0.out]; (refine (refInts_any A1 n1 c1 l1 B1 m1 d1 r1 w0 ((H1.out.below HB.out (Nat.le_refl _)).more HB.out.size) ((G1.out.below HB.out (Nat.le_refl _)).more HB.out.size) hn1).mono ?_); rw [HI.out]; rintro e w9 ⟨rfl, hb9⟩; have HB9 := Lib.hid (HB.out.trans (hb9.mono HB.out.size)); have HX9 := Lib.hid (BoxQ_below HX.out hb9 HLT.out.1); have HY9 := Lib.hid (BoxQ_below HY.out hb9 HLT.out.2); have HL9 := Lib.hid (show w.heap.size < w9.heap.size ∧ w.heap.size + 1 < w9.heap.size from ⟨Nat.lt_of_lt_of_le HLT.out.1 hb9.size, Nat.lt_of_lt_of_le HLT.out.2 hb9.size⟩); clear hb9; obtain ⟨_, _, _, _, x4, x5, x6⟩ := HX9.out; obtain ⟨_, _, _, _, y4, y5, y6⟩ := HY9.out))
    go_ret
    exact ⟨rfl, HW0.out.symm ▸ HB.out⟩
  subst ck
  by_cases cv : v1 = v2
  case neg =>
    have dv : (v1 == v2) = false := beqF cv
    have HZ := Lib.hid (eqq_no (α := Rq) (a := ⟨k1, v1, i1, s1, l1, l2, l3⟩) (b := ⟨k1, v2, i2, s2, r1, r2, r3⟩) (fun h => cv (by injection h)))
    rw [HZ.out]
    go_enter Tryd.func20, Tryd.ntmps20
    go_wp2_with (first
      | (go_at_call 69; (refine (refTexts_any A2 n2 c2 l2 B2 m2 d2 r2 w9 ((H2.out.below HB9.out (Nat.le_refl _)).more HB9.out.size) ((G2.out.below HB9.out (Nat.le_refl _)).more HB9.out.size) hn2).mono ?_); rw [HT.out]; rintro e w8 ⟨rfl, hb8⟩; have HB8 := Lib.hid (HB9.out.trans (hb8.mono HB9.out.size)); have HX8 := Lib.hid (BoxQ_below HX9.out hb8 HL9.out.1); have HY8 := Lib.hid (BoxQ_below HY9.out hb8 HL9.out.2); clear hb8; obtain ⟨_, _, _, _, x4, x5, x6⟩ := HX8.out; obtain ⟨_, _, _, _, y4, y5, y6⟩ := HY8.out; have t1 := str_of w8 _ A3 n3 c3 l3 (H3.out.below HB8.out (Nat.le_refl _)); have t2 := str_of w8 _ B3 m3 d3 r3 (G3.out.below HB8.out (Nat.le_refl _)))
      | (go_at_call 68; rw [HW0.out]; (refine (refInts_any A1 n1 c1 l1 B1 m1 d1 r1 w0 ((H1.out.below HB.out (Nat.le_refl _)).more HB.out.size) ((G1.out.below HB.out (Nat.le_refl _)).more HB.out.size) hn1).mono ?_); rw [HI.out]; rintro e w9 ⟨rfl, hb9⟩; have HB9 := Lib.hid (HB.out.trans (hb9.mono HB.out.size)); have HX9 := Lib.hid (BoxQ_below HX.out hb9 HLT.out.1); have HY9 := Lib.hid (BoxQ_below HY.out hb9 HLT.out.2); have HL9 := Lib.hid (show w.heap.size < w9.heap.size ∧ w.heap.size + 1 < w9.heap.size from ⟨Nat.lt_of_lt_of_le HLT.out.1 hb9.size, Nat.lt_of_lt_of_le HLT.out.2 hb9.size⟩); clear hb9; obtain ⟨_, _, _, _, x4, x5, x6⟩ := HX9.out; obtain ⟨_, _, _, _, y4, y5, y6⟩ := HY9.out))
    go_ret
    exact ⟨rfl, HW0.out.symm ▸ HB.out⟩
  subst cv
  by_cases ci : i1 = i2
  case neg =>
    have di : (i1 == i2) = false := beqF ci
    have HZ := Lib.hid (eqq_no (α := Rq) (a := ⟨k1, v1, i1, s1, l1, l2, l3⟩) (b := ⟨k1, v1, i2, s2, r1, r2, r3⟩) (fun h => ci (by injection h)))
    rw [HZ.out]
    go_enter Tryd.func20, Tryd.ntmps20
    go_wp2_with (first
      | (go_at_call 69; (refine (refTexts_any A2 n2 c2 l2 B2 m2 d2 r2 w9 ((H2.out.below HB9.out (Nat.le_refl _)).more HB9.out.size) ((G2.out.below HB9.out (Nat.le_refl _)).more HB9.out.size) hn2).mono ?_); rw [HT.out]; rintro e w8 ⟨rfl, hb8⟩; have HB8 := Lib.hid (HB9.out.trans (hb8.mono HB9.out.size)); have HX8 := Lib.hid (BoxQ_below HX9.out hb8 HL9.out.1); have HY8 := Lib.hid (BoxQ_below HY9.out hb8 HL9.out.2); clear hb8; obtain ⟨_, _, _, _, x4, x5, x6⟩ := HX8.out; obtain ⟨_, _, _, _, y4, y5, y6⟩ := HY8.out; have t1 := str_of w8 _ A3 n3 c3 l3 (H3.out.below HB8.out (Nat.le_refl _)); have t2 := str_of w8 _ B3 m3 d3 r3 (G3.out.below HB8.out (Nat.le_refl _)))
      | (go_at_call 68; rw [HW0.out]; (refine (refInts_any A1 n1 c1 l1 B1 m1 d1 r1 w0 ((H1.out.below HB.out (Nat.le_refl _)).more HB.out.size) ((G1.out.below HB.out (Nat.le_refl _)).more HB.out.size) hn1).mono ?_); rw [HI.out]; rintro e w9 ⟨rfl, hb9⟩; have HB9 := Lib.hid (HB.out.trans (hb9.mono HB.out.size)); have HX9 := Lib.hid (BoxQ_below HX.out hb9 HLT.out.1); have HY9 := Lib.hid (BoxQ_below HY.out hb9 HLT.out.2); have HL9 := Lib.hid (show w.heap.size < w9.heap.size ∧ w.heap.size + 1 < w9.heap.size from ⟨Nat.lt_of_lt_of_le HLT.out.1 hb9.size, Nat.lt_of_lt_of_le HLT.out.2 hb9.size⟩); clear hb9; obtain ⟨_, _, _, _, x4, x5, x6⟩ := HX9.out; obtain ⟨_, _, _, _, y4, y5, y6⟩ := HY9.out))
    go_ret
    exact ⟨rfl, HW0.out.symm ▸ HB.out⟩
  subst ci
  by_cases cs : s1 = s2
  case neg =>
    have ds := toList_ne cs
    have HZ := Lib.hid (eqq_no (α := Rq) (a := ⟨k1, v1, i1, s1, l1, l2, l3⟩) (b := ⟨k1, v1, i1, s2, r1, r2, r3⟩) (fun h => cs (by injection h)))
    rw [HZ.out]
    go_enter Tryd.func20, Tryd.ntmps20
    go_wp2_with (first
      | (go_at_call 69; (refine (refTexts_any A2 n2 c2 l2 B2 m2 d2 r2 w9 ((H2.out.below HB9.out (Nat.le_refl _)).more HB9.out.size) ((G2.out.below HB9.out (Nat.le_refl _)).more HB9.out.size) hn2).mono ?_); rw [HT.out]; rintro e w8 ⟨rfl, hb8⟩; have HB8 := Lib.hid (HB9.out.trans (hb8.mono HB9.out.size)); have HX8 := Lib.hid (BoxQ_below HX9.out hb8 HL9.out.1); have HY8 := Lib.hid (BoxQ_below HY9.out hb8 HL9.out.2); clear hb8; obtain ⟨_, _, _, _, x4, x5, x6⟩ := HX8.out; obtain ⟨_, _, _, _, y4, y5, y6⟩ := HY8.out; have t1 := str_of w8 _ A3 n3 c3 l3 (H3.out.below HB8.out (Nat.le_refl _)); have t2 := str_of w8 _ B3 m3 d3 r3 (G3.out.below HB8.out (Nat.le_refl _)))
      | (go_at_call 68; rw [HW0.out]; (refine (refInts_any A1 n1 c1 l1 B1 m1 d1 r1 w0 ((H1.out.below HB.out (Nat.le_refl _)).more HB.out.size) ((G1.out.below HB.out (Nat.le_refl _)).more HB.out.size) hn1).mono ?_); rw [HI.out]; rintro e w9 ⟨rfl, hb9⟩; have HB9 := Lib.hid (HB.out.trans (hb9.mono HB.out.size)); have HX9 := Lib.hid (BoxQ_below HX.out hb9 HLT.out.1); have HY9 := Lib.hid (BoxQ_below HY.out hb9 HLT.out.2); have HL9 := Lib.hid (show w.heap.size < w9.heap.size ∧ w.heap.size + 1 < w9.heap.size from ⟨Nat.lt_of_lt_of_le HLT.out.1 hb9.size, Nat.lt_of_lt_of_le HLT.out.2 hb9.size⟩); clear hb9; obtain ⟨_, _, _, _, x4, x5, x6⟩ := HX9.out; obtain ⟨_, _, _, _, y4, y5, y6⟩ := HY9.out))
    go_ret
    exact ⟨rfl, HW0.out.symm ▸ HB.out⟩
  subst cs
  obtain ⟨y, hy⟩ : ∃ y, eqq l1 r1 = y := ⟨_, rfl⟩
  have HI := Lib.hid hy
  rcases y with _ | _
  case false =>
    have ci : l1 ≠ r1 := fun h => by rw [eqq_yes h] at hy; cases hy
    have CI := Lib.hid ci
    clear ci hy
    have HZ := Lib.hid (eqq_no (α := Rq) (a := ⟨k1, v1, i1, s1, l1, l2, l3⟩) (b := ⟨k1, v1, i1, s1, r1, r2, r3⟩) (fun h => CI.out (by injection h)))
    rw [HZ.out]
    go_enter Tryd.func20, Tryd.ntmps20
    go_wp2_with (first
      | (go_at_call 69; (refine (refTexts_any A2 n2 c2 l2 B2 m2 d2 r2 w9 ((H2.out.below HB9.out (Nat.le_refl _)).more HB9.out.size) ((G2.out.below HB9.out (Nat.le_refl _)).more HB9.out.size) hn2).mono ?_); rw [HT.out]; rintro e w8 ⟨rfl, hb8⟩; have HB8 := Lib.hid (HB9.out.trans (hb8.mono HB9.out.size)); have HX8 := Lib.hid (BoxQ_below HX9.out hb8 HL9.out.1); have HY8 := Lib.hid (BoxQ_below HY9.out hb8 HL9.out.2); clear hb8; obtain ⟨_, _, _, _, x4, x5, x6⟩ := HX8.out; obtain ⟨_, _, _, _, y4, y5, y6⟩ := HY8.out; have t1 := str_of w8 _ A3 n3 c3 l3 (H3.out.below HB8.out (Nat.le_refl _)); have t2 := str_of w8 _ B3 m3 d3 r3 (G3.out.below HB8.out (Nat.le_refl _)))
      | (go_at_call 68; rw [HW0.out]; (refine (refInts_any A1 n1 c1 l1 B1 m1 d1 r1 w0 ((H1.out.below HB.out (Nat.le_refl _)).more HB.out.size) ((G1.out.below HB.out (Nat.le_refl _)).more HB.out.size) hn1).mono ?_); rw [HI.out]; rintro e w9 ⟨rfl, hb9⟩; have HB9 := Lib.hid (HB.out.trans (hb9.mono HB.out.size)); have HX9 := Lib.hid (BoxQ_below HX.out hb9 HLT.out.1); have HY9 := Lib.hid (BoxQ_below HY.out hb9 HLT.out.2); have HL9 := Lib.hid (show w.heap.size < w9.heap.size ∧ w.heap.size + 1 < w9.heap.size from ⟨Nat.lt_of_lt_of_le HLT.out.1 hb9.size, Nat.lt_of_lt_of_le HLT.out.2 hb9.size⟩); clear hb9; obtain ⟨_, _, _, _, x4, x5, x6⟩ := HX9.out; obtain ⟨_, _, _, _, y4, y5, y6⟩ := HY9.out))
    go_ret
    exact ⟨rfl, HB9.out⟩
  have ci : l1 = r1 := Classical.byContradiction fun h => by rw [eqq_no h] at hy; cases hy
  clear hy
  obtain ⟨y, hy⟩ : ∃ y, eqq l2 r2 = y := ⟨_, rfl⟩
  have HT := Lib.hid hy
  have CI := Lib.hid ci
  clear ci
  rcases y with _ | _
  case false =>
    have ct : l2 ≠ r2 := fun h => by rw [eqq_yes h] at hy; cases hy
    have CT := Lib.hid ct
    clear ct hy
    have HZ := Lib.hid (eqq_no (α := Rq) (a := ⟨k1, v1, i1, s1, l1, l2, l3⟩) (b := ⟨k1, v1, i1, s1, r1, r2, r3⟩) (fun h => CT.out (by injection h)))
    rw [HZ.out]
    go_enter Tryd.func20, Tryd.ntmps20
    go_wp2_with (first
      | (go_at_call 69; (refine (refTexts_any A2 n2 c2 l2 B2 m2 d2 r2 w9 ((H2.out.below HB9.out (Nat.le_refl _)).more HB9.out.size) ((G2.out.below HB9.out (Nat.le_refl _)).more HB9.out.size) hn2).mono ?_); rw [HT.out]; rintro e w8 ⟨rfl, hb8⟩; have HB8 := Lib.hid (HB9.out.trans (hb8.mono HB9.out.size)); have HX8 := Lib.hid (BoxQ_below HX9.out hb8 HL9.out.1); have HY8 := Lib.hid (BoxQ_below HY9.out hb8 HL9.out.2); clear hb8; obtain ⟨_, _, _, _, x4, x5, x6⟩ := HX8.out; obtain ⟨_, _, _, _, y4, y5, y6⟩ := HY8.out; have t1 := str_of w8 _ A3 n3 c3 l3 (H3.out.below HB8.out (Nat.le_refl _)); have t2 := str_of w8 _ B3 m3 d3 r3 (G3.out.below HB8.out (Nat.le_refl _)))
      | (go_at_call 68; rw [HW0.out]; (refine (refInts_any A1 n1 c1 l1 B1 m1 d1 r1 w0 ((H1.out.below HB.out (Nat.le_refl _)).more HB.out.size) ((G1.out.below HB.out (Nat.le_refl _)).more HB.out.size) hn1).mono ?_); rw [HI.out]; rintro e w9 ⟨rfl, hb9⟩; have HB9 := Lib.hid (HB.out.trans (hb9.mono HB.out.size)); have HX9 := Lib.hid (BoxQ_below HX.out hb9 HLT.out.1); have HY9 := Lib.hid (BoxQ_below HY.out hb9 HLT.out.2); have HL9 := Lib.hid (show w.heap.size < w9.heap.size ∧ w.heap.size + 1 < w9.heap.size from ⟨Nat.lt_of_lt_of_le HLT.out.1 hb9.size, Nat.lt_of_lt_of_le HLT.out.2 hb9.size⟩); clear hb9; obtain ⟨_, _, _, _, x4, x5, x6⟩ := HX9.out; obtain ⟨_, _, _, _, y4, y5, y6⟩ := HY9.out))
    go_ret
    exact ⟨rfl, HB8.out⟩
  have CT := Lib.hid (show l2 = r2 from Classical.byContradiction fun h => by rw [eqq_no h] at hy; cases hy)
  clear hy
  have HZ := Lib.hid (show eqq (α := Rq) ⟨k1, v1, i1, s1, l1, l2, l3⟩ ⟨k1, v1, i1, s1, r1, r2, r3⟩ = (l3 == r3) by
    by_cases cb : l3 = r3
    · rw [eqq_yes (by rw [CI.out, CT.out, cb]), cb]; exact (beq_self_eq_true _).symm
    · rw [eqq_no (fun h => cb (by injection h))]; exact (beq_eq_false_iff_ne.2 cb).symm)
  rw [HZ.out]
  go_enter Tryd.func20, Tryd.ntmps20
  go_wp2_with (first
      | (go_at_call 69; (refine (refTexts_any A2 n2 c2 l2 B2 m2 d2 r2 w9 ((H2.out.below HB9.out (Nat.le_refl _)).more HB9.out.size) ((G2.out.below HB9.out (Nat.le_refl _)).more HB9.out.size) hn2).mono ?_); rw [HT.out]; rintro e w8 ⟨rfl, hb8⟩; have HB8 := Lib.hid (HB9.out.trans (hb8.mono HB9.out.size)); have HX8 := Lib.hid (BoxQ_below HX9.out hb8 HL9.out.1); have HY8 := Lib.hid (BoxQ_below HY9.out hb8 HL9.out.2); clear hb8; obtain ⟨_, _, _, _, x4, x5, x6⟩ := HX8.out; obtain ⟨_, _, _, _, y4, y5, y6⟩ := HY8.out; have t1 := str_of w8 _ A3 n3 c3 l3 (H3.out.below HB8.out (Nat.le_refl _)); have t2 := str_of w8 _ B3 m3 d3 r3 (G3.out.below HB8.out (Nat.le_refl _)))
      | (go_at_call 68; rw [HW0.out]; (refine (refInts_any A1 n1 c1 l1 B1 m1 d1 r1 w0 ((H1.out.below HB.out (Nat.le_refl _)).more HB.out.size) ((G1.out.below HB.out (Nat.le_refl _)).more HB.out.size) hn1).mono ?_); rw [HI.out]; rintro e w9 ⟨rfl, hb9⟩; have HB9 := Lib.hid (HB.out.trans (hb9.mono HB.out.size)); have HX9 := Lib.hid (BoxQ_below HX.out hb9 HLT.out.1); have HY9 := Lib.hid (BoxQ_below HY.out hb9 HLT.out.2); have HL9 := Lib.hid (show w.heap.size < w9.heap.size ∧ w.heap.size + 1 < w9.heap.size from ⟨Nat.lt_of_lt_of_le HLT.out.1 hb9.size, Nat.lt_of_lt_of_le HLT.out.2 hb9.size⟩); clear hb9; obtain ⟨_, _, _, _, x4, x5, x6⟩ := HX9.out; obtain ⟨_, _, _, _, y4, y5, y6⟩ := HY9.out))
  go_ret
  exact ⟨rfl, HB8.out⟩
set_option maxRecDepth 100000 in
set_option maxHeartbeats 4000000 in
theorem refsameP_any (k1 k2 : Int) (v1 v2 : Int) (i1 i2 : Int) (e1 e2 : Int) (t1 t2 : Int) (A1 : Option Addr) (n1 c1 : Nat) (l1 : List Int) (A2 : Option Addr) (n2 c2 : Nat) (l2 : List ByteArray) (A3 : Option Addr) (n3 c3 : Nat) (l3 : List UInt8) (B1 : Option Addr) (m1 d1 : Nat) (r1 : List Int) (B2 : Option Addr) (m2 d2 : Nat) (r2 : List ByteArray) (B3 : Option Addr) (m3 d3 : Nat) (r3 : List UInt8) (w : World)
    (h1 : RdL w w.heap.size A1 n1 l1) (hn1 : n1 ≤ 1099511627776) (h2 : RdL w w.heap.size A2 n2 l2) (hn2 : n2 ≤ 1099511627776) (h3 : Rd w w.heap.size A3 n3 l3) (g1 : RdL w w.heap.size B1 m1 r1) (g2 : RdL w w.heap.size B2 m2 r2) (g3 : Rd w w.heap.size B3 m3 r3) :
    Calls Tryd.prog 26 #[.agg #[.int .i64 k1, .int .i64 v1, .int .i64 i1, .int .i64 e1, .int .i64 t1, .slice A1 n1 c1, .slice A2 n2 c2, .slice A3 n3 c3], .agg #[.int .i64 k2, .int .i64 v2, .int .i64 i2, .int .i64 e2, .int .i64 t2, .slice B1 m1 d1, .slice B2 m2 d2, .slice B3 m3 d3]] w fun e w' => e = .returned (.bool (eqq (α := Rp) ⟨k1, v1, i1, e1, t1, l1, l2, l3⟩ ⟨k2, v2, i2, e2, t2, r1, r2, r3⟩)) ∧ Below w.heap.size w w' := by
  have H1 := Lib.hid h1
  have H2 := Lib.hid h2
  have H3 := Lib.hid h3
  have G1 := Lib.hid g1
  have G2 := Lib.hid g2
  have G3 := Lib.hid g3
  clear h1 h2 h3 g1 g2 g3
  have HB := Lib.hid (show Below w.heap.size w ((w.alloc (.cells #[.int .i64 k1, .int .i64 v1, .int .i64 i1, .int .i64 e1, .int .i64 t1, .slice A1 n1 c1, .slice A2 n2 c2, .slice A3 n3 c3] 38)).alloc (.cells #[.int .i64 k2, .int .i64 v2, .int .i64 i2, .int .i64 e2, .int .i64 t2, .slice B1 m1 d1, .slice B2 m2 d2, .slice B3 m3 d3] 38)) from bel_alloc (bel_alloc (Below.refl w.heap.size w) _) _)
  have HX := Lib.hid (show BoxP ((w.alloc (.cells #[.int .i64 k1, .int .i64 v1, .int .i64 i1, .int .i64 e1, .int .i64 t1, .slice A1 n1 c1, .slice A2 n2 c2, .slice A3 n3 c3] 38)).alloc (.cells #[.int .i64 k2, .int .i64 v2, .int .i64 i2, .int .i64 e2, .int .i64 t2, .slice B1 m1 d1, .slice B2 m2 d2, .slice B3 m3 d3] 38)) (w.heap.size) k1 v1 i1 e1 t1 (.slice A1 n1 c1) (.slice A2 n2 c2) (.slice A3 n3 c3) from BoxP_below (BoxP_new w 38 _ _ _ _ _ _ _ _) ((Below.refl _ _).alloc (Nat.le_refl _) _) (by simp))
  have HY := Lib.hid (show BoxP ((w.alloc (.cells #[.int .i64 k1, .int .i64 v1, .int .i64 i1, .int .i64 e1, .int .i64 t1, .slice A1 n1 c1, .slice A2 n2 c2, .slice A3 n3 c3] 38)).alloc (.cells #[.int .i64 k2, .int .i64 v2, .int .i64 i2, .int .i64 e2, .int .i64 t2, .slice B1 m1 d1, .slice B2 m2 d2, .slice B3 m3 d3] 38)) (w.heap.size + 1) k2 v2 i2 e2 t2 (.slice B1 m1 d1) (.slice B2 m2 d2) (.slice B3 m3 d3) by have h := BoxP_new (w.alloc (.cells #[.int .i64 k1, .int .i64 v1, .int .i64 i1, .int .i64 e1, .int .i64 t1, .slice A1 n1 c1, .slice A2 n2 c2, .slice A3 n3 c3] 38)) 38 k2 v2 i2 e2 t2 (.slice B1 m1 d1) (.slice B2 m2 d2) (.slice B3 m3 d3); simpa using h)
  have HLT := Lib.hid (show w.heap.size < ((w.alloc (.cells #[.int .i64 k1, .int .i64 v1, .int .i64 i1, .int .i64 e1, .int .i64 t1, .slice A1 n1 c1, .slice A2 n2 c2, .slice A3 n3 c3] 38)).alloc (.cells #[.int .i64 k2, .int .i64 v2, .int .i64 i2, .int .i64 e2, .int .i64 t2, .slice B1 m1 d1, .slice B2 m2 d2, .slice B3 m3 d3] 38)).heap.size ∧ w.heap.size + 1 < ((w.alloc (.cells #[.int .i64 k1, .int .i64 v1, .int .i64 i1, .int .i64 e1, .int .i64 t1, .slice A1 n1 c1, .slice A2 n2 c2, .slice A3 n3 c3] 38)).alloc (.cells #[.int .i64 k2, .int .i64 v2, .int .i64 i2, .int .i64 e2, .int .i64 t2, .slice B1 m1 d1, .slice B2 m2 d2, .slice B3 m3 d3] 38)).heap.size by constructor <;> (simp; try omega))
  generalize hw0 : ((w.alloc (.cells #[.int .i64 k1, .int .i64 v1, .int .i64 i1, .int .i64 e1, .int .i64 t1, .slice A1 n1 c1, .slice A2 n2 c2, .slice A3 n3 c3] 38)).alloc (.cells #[.int .i64 k2, .int .i64 v2, .int .i64 i2, .int .i64 e2, .int .i64 t2, .slice B1 m1 d1, .slice B2 m2 d2, .slice B3 m3 d3] 38)) = w0 at HB HX HY HLT
  have HW0 := Lib.hid hw0
  clear hw0
  by_cases ck : k1 = k2
  case neg =>
    have dk : (k1 == k2) = false := beqF ck
    have HZ := Lib.hid (eqq_no (α := Rp) (a := ⟨k1, v1, i1, e1, t1, l1, l2, l3⟩) (b := ⟨k2, v2, i2, e2, t2, r1, r2, r3⟩) (fun h => ck (by injection h)))
    rw [HZ.out]
    go_enter Tryd.func26, Tryd.ntmps26
    go_wp2_with (first
      | (go_at_call 69; (refine (refTexts_any A2 n2 c2 l2 B2 m2 d2 r2 w9 ((H2.out.below HB9.out (Nat.le_refl _)).more HB9.out.size) ((G2.out.below HB9.out (Nat.le_refl _)).more HB9.out.size) hn2).mono ?_); rw [HT.out]; rintro e w8 ⟨rfl, hb8⟩; have HB8 := Lib.hid (HB9.out.trans (hb8.mono HB9.out.size)); have HX8 := Lib.hid (BoxP_below HX9.out hb8 HL9.out.1); have HY8 := Lib.hid (BoxP_below HY9.out hb8 HL9.out.2); clear hb8; obtain ⟨_, _, _, _, _, x5, x6, x7⟩ := HX8.out; obtain ⟨_, _, _, _, _, y5, y6, y7⟩ := HY8.out; have t1 := str_of w8 _ A3 n3 c3 l3 (H3.out.below HB8.out (Nat.le_refl _)); have t2 := str_of w8 _ B3 m3 d3 r3 (G3.out.below HB8.out (Nat.le_refl _)))
      | (go_at_call 68; rw [HW0.out]; (refine (refInts_any A1 n1 c1 l1 B1 m1 d1 r1 w0 ((H1.out.below HB.out (Nat.le_refl _)).more HB.out.size) ((G1.out.below HB.out (Nat.le_refl _)).more HB.out.size) hn1).mono ?_); rw [HI.out]; rintro e w9 ⟨rfl, hb9⟩; have HB9 := Lib.hid (HB.out.trans (hb9.mono HB.out.size)); have HX9 := Lib.hid (BoxP_below HX.out hb9 HLT.out.1); have HY9 := Lib.hid (BoxP_below HY.out hb9 HLT.out.2); have HL9 := Lib.hid (show w.heap.size < w9.heap.size ∧ w.heap.size + 1 < w9.heap.size from ⟨Nat.lt_of_lt_of_le HLT.out.1 hb9.size, Nat.lt_of_lt_of_le HLT.out.2 hb9.size⟩); clear hb9; obtain ⟨_, _, _, _, _, x5, x6, x7⟩ := HX9.out; obtain ⟨_, _, _, _, _, y5, y6, y7⟩ := HY9.out))
    go_ret
    exact ⟨rfl, HW0.out.symm ▸ HB.out⟩
  subst ck
  by_cases cv : v1 = v2
  case neg =>
    have dv : (v1 == v2) = false := beqF cv
    have HZ := Lib.hid (eqq_no (α := Rp) (a := ⟨k1, v1, i1, e1, t1, l1, l2, l3⟩) (b := ⟨k1, v2, i2, e2, t2, r1, r2, r3⟩) (fun h => cv (by injection h)))
    rw [HZ.out]
    go_enter Tryd.func26, Tryd.ntmps26
    go_wp2_with (first
      | (go_at_call 69; (refine (refTexts_any A2 n2 c2 l2 B2 m2 d2 r2 w9 ((H2.out.below HB9.out (Nat.le_refl _)).more HB9.out.size) ((G2.out.below HB9.out (Nat.le_refl _)).more HB9.out.size) hn2).mono ?_); rw [HT.out]; rintro e w8 ⟨rfl, hb8⟩; have HB8 := Lib.hid (HB9.out.trans (hb8.mono HB9.out.size)); have HX8 := Lib.hid (BoxP_below HX9.out hb8 HL9.out.1); have HY8 := Lib.hid (BoxP_below HY9.out hb8 HL9.out.2); clear hb8; obtain ⟨_, _, _, _, _, x5, x6, x7⟩ := HX8.out; obtain ⟨_, _, _, _, _, y5, y6, y7⟩ := HY8.out; have t1 := str_of w8 _ A3 n3 c3 l3 (H3.out.below HB8.out (Nat.le_refl _)); have t2 := str_of w8 _ B3 m3 d3 r3 (G3.out.below HB8.out (Nat.le_refl _)))
      | (go_at_call 68; rw [HW0.out]; (refine (refInts_any A1 n1 c1 l1 B1 m1 d1 r1 w0 ((H1.out.below HB.out (Nat.le_refl _)).more HB.out.size) ((G1.out.below HB.out (Nat.le_refl _)).more HB.out.size) hn1).mono ?_); rw [HI.out]; rintro e w9 ⟨rfl, hb9⟩; have HB9 := Lib.hid (HB.out.trans (hb9.mono HB.out.size)); have HX9 := Lib.hid (BoxP_below HX.out hb9 HLT.out.1); have HY9 := Lib.hid (BoxP_below HY.out hb9 HLT.out.2); have HL9 := Lib.hid (show w.heap.size < w9.heap.size ∧ w.heap.size + 1 < w9.heap.size from ⟨Nat.lt_of_lt_of_le HLT.out.1 hb9.size, Nat.lt_of_lt_of_le HLT.out.2 hb9.size⟩); clear hb9; obtain ⟨_, _, _, _, _, x5, x6, x7⟩ := HX9.out; obtain ⟨_, _, _, _, _, y5, y6, y7⟩ := HY9.out))
    go_ret
    exact ⟨rfl, HW0.out.symm ▸ HB.out⟩
  subst cv
  by_cases ci : i1 = i2
  case neg =>
    have di : (i1 == i2) = false := beqF ci
    have HZ := Lib.hid (eqq_no (α := Rp) (a := ⟨k1, v1, i1, e1, t1, l1, l2, l3⟩) (b := ⟨k1, v1, i2, e2, t2, r1, r2, r3⟩) (fun h => ci (by injection h)))
    rw [HZ.out]
    go_enter Tryd.func26, Tryd.ntmps26
    go_wp2_with (first
      | (go_at_call 69; (refine (refTexts_any A2 n2 c2 l2 B2 m2 d2 r2 w9 ((H2.out.below HB9.out (Nat.le_refl _)).more HB9.out.size) ((G2.out.below HB9.out (Nat.le_refl _)).more HB9.out.size) hn2).mono ?_); rw [HT.out]; rintro e w8 ⟨rfl, hb8⟩; have HB8 := Lib.hid (HB9.out.trans (hb8.mono HB9.out.size)); have HX8 := Lib.hid (BoxP_below HX9.out hb8 HL9.out.1); have HY8 := Lib.hid (BoxP_below HY9.out hb8 HL9.out.2); clear hb8; obtain ⟨_, _, _, _, _, x5, x6, x7⟩ := HX8.out; obtain ⟨_, _, _, _, _, y5, y6, y7⟩ := HY8.out; have t1 := str_of w8 _ A3 n3 c3 l3 (H3.out.below HB8.out (Nat.le_refl _)); have t2 := str_of w8 _ B3 m3 d3 r3 (G3.out.below HB8.out (Nat.le_refl _)))
      | (go_at_call 68; rw [HW0.out]; (refine (refInts_any A1 n1 c1 l1 B1 m1 d1 r1 w0 ((H1.out.below HB.out (Nat.le_refl _)).more HB.out.size) ((G1.out.below HB.out (Nat.le_refl _)).more HB.out.size) hn1).mono ?_); rw [HI.out]; rintro e w9 ⟨rfl, hb9⟩; have HB9 := Lib.hid (HB.out.trans (hb9.mono HB.out.size)); have HX9 := Lib.hid (BoxP_below HX.out hb9 HLT.out.1); have HY9 := Lib.hid (BoxP_below HY.out hb9 HLT.out.2); have HL9 := Lib.hid (show w.heap.size < w9.heap.size ∧ w.heap.size + 1 < w9.heap.size from ⟨Nat.lt_of_lt_of_le HLT.out.1 hb9.size, Nat.lt_of_lt_of_le HLT.out.2 hb9.size⟩); clear hb9; obtain ⟨_, _, _, _, _, x5, x6, x7⟩ := HX9.out; obtain ⟨_, _, _, _, _, y5, y6, y7⟩ := HY9.out))
    go_ret
    exact ⟨rfl, HW0.out.symm ▸ HB.out⟩
  subst ci
  by_cases ce : e1 = e2
  case neg =>
    have de : (e1 == e2) = false := beqF ce
    have HZ := Lib.hid (eqq_no (α := Rp) (a := ⟨k1, v1, i1, e1, t1, l1, l2, l3⟩) (b := ⟨k1, v1, i1, e2, t2, r1, r2, r3⟩) (fun h => ce (by injection h)))
    rw [HZ.out]
    go_enter Tryd.func26, Tryd.ntmps26
    go_wp2_with (first
      | (go_at_call 69; (refine (refTexts_any A2 n2 c2 l2 B2 m2 d2 r2 w9 ((H2.out.below HB9.out (Nat.le_refl _)).more HB9.out.size) ((G2.out.below HB9.out (Nat.le_refl _)).more HB9.out.size) hn2).mono ?_); rw [HT.out]; rintro e w8 ⟨rfl, hb8⟩; have HB8 := Lib.hid (HB9.out.trans (hb8.mono HB9.out.size)); have HX8 := Lib.hid (BoxP_below HX9.out hb8 HL9.out.1); have HY8 := Lib.hid (BoxP_below HY9.out hb8 HL9.out.2); clear hb8; obtain ⟨_, _, _, _, _, x5, x6, x7⟩ := HX8.out; obtain ⟨_, _, _, _, _, y5, y6, y7⟩ := HY8.out; have t1 := str_of w8 _ A3 n3 c3 l3 (H3.out.below HB8.out (Nat.le_refl _)); have t2 := str_of w8 _ B3 m3 d3 r3 (G3.out.below HB8.out (Nat.le_refl _)))
      | (go_at_call 68; rw [HW0.out]; (refine (refInts_any A1 n1 c1 l1 B1 m1 d1 r1 w0 ((H1.out.below HB.out (Nat.le_refl _)).more HB.out.size) ((G1.out.below HB.out (Nat.le_refl _)).more HB.out.size) hn1).mono ?_); rw [HI.out]; rintro e w9 ⟨rfl, hb9⟩; have HB9 := Lib.hid (HB.out.trans (hb9.mono HB.out.size)); have HX9 := Lib.hid (BoxP_below HX.out hb9 HLT.out.1); have HY9 := Lib.hid (BoxP_below HY.out hb9 HLT.out.2); have HL9 := Lib.hid (show w.heap.size < w9.heap.size ∧ w.heap.size + 1 < w9.heap.size from ⟨Nat.lt_of_lt_of_le HLT.out.1 hb9.size, Nat.lt_of_lt_of_le HLT.out.2 hb9.size⟩); clear hb9; obtain ⟨_, _, _, _, _, x5, x6, x7⟩ := HX9.out; obtain ⟨_, _, _, _, _, y5, y6, y7⟩ := HY9.out))
    go_ret
    exact ⟨rfl, HW0.out.symm ▸ HB.out⟩
  subst ce
  by_cases ct : t1 = t2
  case neg =>
    have dt : (t1 == t2) = false := beqF ct
    have HZ := Lib.hid (eqq_no (α := Rp) (a := ⟨k1, v1, i1, e1, t1, l1, l2, l3⟩) (b := ⟨k1, v1, i1, e1, t2, r1, r2, r3⟩) (fun h => ct (by injection h)))
    rw [HZ.out]
    go_enter Tryd.func26, Tryd.ntmps26
    go_wp2_with (first
      | (go_at_call 69; (refine (refTexts_any A2 n2 c2 l2 B2 m2 d2 r2 w9 ((H2.out.below HB9.out (Nat.le_refl _)).more HB9.out.size) ((G2.out.below HB9.out (Nat.le_refl _)).more HB9.out.size) hn2).mono ?_); rw [HT.out]; rintro e w8 ⟨rfl, hb8⟩; have HB8 := Lib.hid (HB9.out.trans (hb8.mono HB9.out.size)); have HX8 := Lib.hid (BoxP_below HX9.out hb8 HL9.out.1); have HY8 := Lib.hid (BoxP_below HY9.out hb8 HL9.out.2); clear hb8; obtain ⟨_, _, _, _, _, x5, x6, x7⟩ := HX8.out; obtain ⟨_, _, _, _, _, y5, y6, y7⟩ := HY8.out; have t1 := str_of w8 _ A3 n3 c3 l3 (H3.out.below HB8.out (Nat.le_refl _)); have t2 := str_of w8 _ B3 m3 d3 r3 (G3.out.below HB8.out (Nat.le_refl _)))
      | (go_at_call 68; rw [HW0.out]; (refine (refInts_any A1 n1 c1 l1 B1 m1 d1 r1 w0 ((H1.out.below HB.out (Nat.le_refl _)).more HB.out.size) ((G1.out.below HB.out (Nat.le_refl _)).more HB.out.size) hn1).mono ?_); rw [HI.out]; rintro e w9 ⟨rfl, hb9⟩; have HB9 := Lib.hid (HB.out.trans (hb9.mono HB.out.size)); have HX9 := Lib.hid (BoxP_below HX.out hb9 HLT.out.1); have HY9 := Lib.hid (BoxP_below HY.out hb9 HLT.out.2); have HL9 := Lib.hid (show w.heap.size < w9.heap.size ∧ w.heap.size + 1 < w9.heap.size from ⟨Nat.lt_of_lt_of_le HLT.out.1 hb9.size, Nat.lt_of_lt_of_le HLT.out.2 hb9.size⟩); clear hb9; obtain ⟨_, _, _, _, _, x5, x6, x7⟩ := HX9.out; obtain ⟨_, _, _, _, _, y5, y6, y7⟩ := HY9.out))
    go_ret
    exact ⟨rfl, HW0.out.symm ▸ HB.out⟩
  subst ct
  obtain ⟨y, hy⟩ : ∃ y, eqq l1 r1 = y := ⟨_, rfl⟩
  have HI := Lib.hid hy
  rcases y with _ | _
  case false =>
    have ci : l1 ≠ r1 := fun h => by rw [eqq_yes h] at hy; cases hy
    have CI := Lib.hid ci
    clear ci hy
    have HZ := Lib.hid (eqq_no (α := Rp) (a := ⟨k1, v1, i1, e1, t1, l1, l2, l3⟩) (b := ⟨k1, v1, i1, e1, t1, r1, r2, r3⟩) (fun h => CI.out (by injection h)))
    rw [HZ.out]
    go_enter Tryd.func26, Tryd.ntmps26
    go_wp2_with (first
      | (go_at_call 69; (refine (refTexts_any A2 n2 c2 l2 B2 m2 d2 r2 w9 ((H2.out.below HB9.out (Nat.le_refl _)).more HB9.out.size) ((G2.out.below HB9.out (Nat.le_refl _)).more HB9.out.size) hn2).mono ?_); rw [HT.out]; rintro e w8 ⟨rfl, hb8⟩; have HB8 := Lib.hid (HB9.out.trans (hb8.mono HB9.out.size)); have HX8 := Lib.hid (BoxP_below HX9.out hb8 HL9.out.1); have HY8 := Lib.hid (BoxP_below HY9.out hb8 HL9.out.2); clear hb8; obtain ⟨_, _, _, _, _, x5, x6, x7⟩ := HX8.out; obtain ⟨_, _, _, _, _, y5, y6, y7⟩ := HY8.out; have t1 := str_of w8 _ A3 n3 c3 l3 (H3.out.below HB8.out (Nat.le_refl _)); have t1 := str_of w8 _ B3 m3 d3 r3 (G3.out.below HB8.out (Nat.le_refl _)))
      | (go_at_call 68; rw [HW0.out]; (refine (refInts_any A1 n1 c1 l1 B1 m1 d1 r1 w0 ((H1.out.below HB.out (Nat.le_refl _)).more HB.out.size) ((G1.out.below HB.out (Nat.le_refl _)).more HB.out.size) hn1).mono ?_); rw [HI.out]; rintro e w9 ⟨rfl, hb9⟩; have HB9 := Lib.hid (HB.out.trans (hb9.mono HB.out.size)); have HX9 := Lib.hid (BoxP_below HX.out hb9 HLT.out.1); have HY9 := Lib.hid (BoxP_below HY.out hb9 HLT.out.2); have HL9 := Lib.hid (show w.heap.size < w9.heap.size ∧ w.heap.size + 1 < w9.heap.size from ⟨Nat.lt_of_lt_of_le HLT.out.1 hb9.size, Nat.lt_of_lt_of_le HLT.out.2 hb9.size⟩); clear hb9; obtain ⟨_, _, _, _, _, x5, x6, x7⟩ := HX9.out; obtain ⟨_, _, _, _, _, y5, y6, y7⟩ := HY9.out))
    go_ret
    exact ⟨rfl, HB9.out⟩
  have ci : l1 = r1 := Classical.byContradiction fun h => by rw [eqq_no h] at hy; cases hy
  clear hy
  obtain ⟨y, hy⟩ : ∃ y, eqq l2 r2 = y := ⟨_, rfl⟩
  have HT := Lib.hid hy
  have CI := Lib.hid ci
  clear ci
  rcases y with _ | _
  case false =>
    have ct : l2 ≠ r2 := fun h => by rw [eqq_yes h] at hy; cases hy
    have CT := Lib.hid ct
    clear ct hy
    have HZ := Lib.hid (eqq_no (α := Rp) (a := ⟨k1, v1, i1, e1, t1, l1, l2, l3⟩) (b := ⟨k1, v1, i1, e1, t1, r1, r2, r3⟩) (fun h => CT.out (by injection h)))
    rw [HZ.out]
    go_enter Tryd.func26, Tryd.ntmps26
    go_wp2_with (first
      | (go_at_call 69; (refine (refTexts_any A2 n2 c2 l2 B2 m2 d2 r2 w9 ((H2.out.below HB9.out (Nat.le_refl _)).more HB9.out.size) ((G2.out.below HB9.out (Nat.le_refl _)).more HB9.out.size) hn2).mono ?_); rw [HT.out]; rintro e w8 ⟨rfl, hb8⟩; have HB8 := Lib.hid (HB9.out.trans (hb8.mono HB9.out.size)); have HX8 := Lib.hid (BoxP_below HX9.out hb8 HL9.out.1); have HY8 := Lib.hid (BoxP_below HY9.out hb8 HL9.out.2); clear hb8; obtain ⟨_, _, _, _, _, x5, x6, x7⟩ := HX8.out; obtain ⟨_, _, _, _, _, y5, y6, y7⟩ := HY8.out; have t1 := str_of w8 _ A3 n3 c3 l3 (H3.out.below HB8.out (Nat.le_refl _)); have t1 := str_of w8 _ B3 m3 d3 r3 (G3.out.below HB8.out (Nat.le_refl _)))
      | (go_at_call 68; rw [HW0.out]; (refine (refInts_any A1 n1 c1 l1 B1 m1 d1 r1 w0 ((H1.out.below HB.out (Nat.le_refl _)).more HB.out.size) ((G1.out.below HB.out (Nat.le_refl _)).more HB.out.size) hn1).mono ?_); rw [HI.out]; rintro e w9 ⟨rfl, hb9⟩; have HB9 := Lib.hid (HB.out.trans (hb9.mono HB.out.size)); have HX9 := Lib.hid (BoxP_below HX.out hb9 HLT.out.1); have HY9 := Lib.hid (BoxP_below HY.out hb9 HLT.out.2); have HL9 := Lib.hid (show w.heap.size < w9.heap.size ∧ w.heap.size + 1 < w9.heap.size from ⟨Nat.lt_of_lt_of_le HLT.out.1 hb9.size, Nat.lt_of_lt_of_le HLT.out.2 hb9.size⟩); clear hb9; obtain ⟨_, _, _, _, _, x5, x6, x7⟩ := HX9.out; obtain ⟨_, _, _, _, _, y5, y6, y7⟩ := HY9.out))
    go_ret
    exact ⟨rfl, HB8.out⟩
  have CT := Lib.hid (show l2 = r2 from Classical.byContradiction fun h => by rw [eqq_no h] at hy; cases hy)
  clear hy
  have HZ := Lib.hid (show eqq (α := Rp) ⟨k1, v1, i1, e1, t1, l1, l2, l3⟩ ⟨k1, v1, i1, e1, t1, r1, r2, r3⟩ = (l3 == r3) by
    by_cases cb : l3 = r3
    · rw [eqq_yes (by rw [CI.out, CT.out, cb]), cb]; exact (beq_self_eq_true _).symm
    · rw [eqq_no (fun h => cb (by injection h))]; exact (beq_eq_false_iff_ne.2 cb).symm)
  rw [HZ.out]
  go_enter Tryd.func26, Tryd.ntmps26
  go_wp2_with (first
      | (go_at_call 69; (refine (refTexts_any A2 n2 c2 l2 B2 m2 d2 r2 w9 ((H2.out.below HB9.out (Nat.le_refl _)).more HB9.out.size) ((G2.out.below HB9.out (Nat.le_refl _)).more HB9.out.size) hn2).mono ?_); rw [HT.out]; rintro e w8 ⟨rfl, hb8⟩; have HB8 := Lib.hid (HB9.out.trans (hb8.mono HB9.out.size)); have HX8 := Lib.hid (BoxP_below HX9.out hb8 HL9.out.1); have HY8 := Lib.hid (BoxP_below HY9.out hb8 HL9.out.2); clear hb8; obtain ⟨_, _, _, _, _, x5, x6, x7⟩ := HX8.out; obtain ⟨_, _, _, _, _, y5, y6, y7⟩ := HY8.out; have t1 := str_of w8 _ A3 n3 c3 l3 (H3.out.below HB8.out (Nat.le_refl _)); have t1 := str_of w8 _ B3 m3 d3 r3 (G3.out.below HB8.out (Nat.le_refl _)))
      | (go_at_call 68; rw [HW0.out]; (refine (refInts_any A1 n1 c1 l1 B1 m1 d1 r1 w0 ((H1.out.below HB.out (Nat.le_refl _)).more HB.out.size) ((G1.out.below HB.out (Nat.le_refl _)).more HB.out.size) hn1).mono ?_); rw [HI.out]; rintro e w9 ⟨rfl, hb9⟩; have HB9 := Lib.hid (HB.out.trans (hb9.mono HB.out.size)); have HX9 := Lib.hid (BoxP_below HX.out hb9 HLT.out.1); have HY9 := Lib.hid (BoxP_below HY.out hb9 HLT.out.2); have HL9 := Lib.hid (show w.heap.size < w9.heap.size ∧ w.heap.size + 1 < w9.heap.size from ⟨Nat.lt_of_lt_of_le HLT.out.1 hb9.size, Nat.lt_of_lt_of_le HLT.out.2 hb9.size⟩); clear hb9; obtain ⟨_, _, _, _, _, x5, x6, x7⟩ := HX9.out; obtain ⟨_, _, _, _, _, y5, y6, y7⟩ := HY9.out))
  go_ret
  exact ⟨rfl, HB8.out⟩
end Go.Proofs.YthhdhdjdhekgpaaDoor.Pro
