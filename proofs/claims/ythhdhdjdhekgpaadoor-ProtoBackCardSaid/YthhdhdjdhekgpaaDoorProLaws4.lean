/- Joined: ProLaws4. -/
import Derived.Test.YthhdhdjdhekgpaaDoorProIs
import Derived.Test.YthhdhdjdhekgpaaDoorProVers
import Derived.Test.YthhdhdjdhekgpaaDoorProLens
import Derived.Test.YthhdhdjdhekgpaaDoorInC
/- The walk of ProtoWaits. -/
namespace Go.Proofs.YthhdhdjdhekgpaaDoor.Pro
open Go.RowKit Go.Proofs.YthhdhdjdhekgpaaDoor.Oct Go.Proofs.YthhdhdjdhekgpaaDoor.Rec Go.Proofs.YthhdhdjdhekgpaaDoor.Cod Go.Proofs.YthhdhdjdhekgpaaDoor.Lay Go.Proofs.YthhdhdjdhekgpaaDoor.RowF Go.Proofs.YthhdhdjdhekgpaaDoor.InR

theorem boxP_blk {W : World} {g : Nat} {T : TypeId} {k v i e t : Int} {a b c : Value} (h : W.heap[g]? = some (.cells #[.int .i64 k, .int .i64 v, .int .i64 i, .int .i64 e, .int .i64 t, a, b, c] T (0, 0))) : BoxP W g k v i e t a b c ∧ W.frozen? ⟨g, 1, none⟩ = false :=
  ⟨⟨heap_cell h 0, heap_cell h 1, heap_cell h 2, heap_cell h 3, heap_cell h 4, heap_cell h 5, heap_cell h 6, heap_cell h 7⟩, heap_frozen h 1⟩
theorem BoxP_off {W : World} {g h j : Nat} {k v i e t : Int} {a b c u : Value} (hx : BoxP W g k v i e t a b c) (hn : g ≠ h) : BoxP (W.setCell ⟨h, j, none⟩ u) g k v i e t a b c := by
  have hc : ∀ m, (W.setCell ⟨h, j, none⟩ u).cell? ⟨g, m, none⟩ = W.cell? ⟨g, m, none⟩ := fun m => World.cell?_setCell_other _ _ _ _ (by intro he; injection he with he; exact hn he.symm)
  exact ⟨(hc 0).trans hx.1, (hc 1).trans hx.2.1, (hc 2).trans hx.2.2.1, (hc 3).trans hx.2.2.2.1, (hc 4).trans hx.2.2.2.2.1, (hc 5).trans hx.2.2.2.2.2.1, (hc 6).trans hx.2.2.2.2.2.2.1, (hc 7).trans hx.2.2.2.2.2.2.2⟩
/-- bytes stay where a number is stored -/
theorem rd_num {W : World} {B n g j : Nat} {A : Option Addr} {l : List UInt8} {z : Int} {u : Value} (h : Rd W B A n l) (hz : W.cell? ⟨g, j, none⟩ = some (.int .i64 z)) : Rd (W.setCell ⟨g, j, none⟩ u) B A n l :=
  ⟨h.1, fun k c hk => by
    obtain ⟨b, o, hA, hb, hc⟩ := h.2 k c hk
    refine ⟨b, o, hA, hb, (World.cell?_setCell_other _ _ _ _ ?_).trans hc⟩
    intro he
    rw [← he, hz] at hc
    injection hc with hc
    injection hc with hc
    cases hc⟩
theorem rnum {W W' : World} {n g j : Nat} {A : Option Addr} {l : List UInt8} {z : Int} {u : Value} (h : Rd W W.heap.size A n l) (hz : W.cell? ⟨g, j, none⟩ = some (.int .i64 z)) (hb : Below (W.setCell ⟨g, j, none⟩ u).heap.size (W.setCell ⟨g, j, none⟩ u) W') : Rd W' W'.heap.size A n l := by
  have h1 : (W.setCell ⟨g, j, none⟩ u).heap.size = W.heap.size := size_set _ _ _
  exact ((rd_num (u := u) h hz).below hb (by rw [h1]; exact Nat.le_refl _)).more (by rw [← h1]; exact hb.size)
set_option maxRecDepth 100000 in
set_option maxHeartbeats 8000000 in
theorem waits_n (k v i E t : Int) (A1 : Option Addr) (n1 c1 : Nat) (l1 : List Int) (A2 : Option Addr) (n2 c2 : Nat) (l2 : List ByteArray) (A3 : Option Addr) (n3 c3 : Nat) (l3 : List UInt8) (w : World) (h1 : RdL w w.heap.size A1 n1 l1) (hn1 : n1 ≤ reach) (h2 : RdL w w.heap.size A2 n2 l2) (hn2 : n2 ≤ reach) (h3 : Rd w w.heap.size A3 n3 l3) (_hc3 : n3 ≤ c3) (hn3 : n3 ≤ reach) (ht : Tab w) (hf : fewP ⟨k, v, i, E, t, l1, l2, l3⟩ = false) :
    Calls Tryd.prog 10 #[.agg #[.int .i64 k, .int .i64 v, .int .i64 i, .int .i64 E, .int .i64 t, .slice A1 n1 c1, .slice A2 n2 c2, .slice A3 n3 c3]] w fun e w' => e = .returned (.bool true) ∧ Below w.heap.size w w' := by
  have HT := Lib.hid ht
  have H1 := Lib.hid h1
  have H2 := Lib.hid h2
  have H3 := Lib.hid h3
  have hr1 : n1 ≤ 140737488351232 := hn1
  have hr2 : n2 ≤ 140737488351232 := hn2
  have hr3 : n3 ≤ 140737488351232 := hn3
  have HW0 := Lib.hid (show Below w.heap.size w (w.alloc (.cells #[.int .i64 k, .int .i64 v, .int .i64 i, .int .i64 E, .int .i64 t, .slice A1 n1 c1, .slice A2 n2 c2, .slice A3 n3 c3] 38)) from bel_alloc (Below.refl _ _) _)
  clear ht h1 h2 h3
  have HFEW := Lib.hid hf
  clear hf
  go_enter Tryd.func10, Tryd.ntmps10
  go_wp2_with (first
    | (go_at_call 21; (with_reducible refine (reffewP_any k v i E t A1 n1 c1 l1 A2 n2 c2 l2 A3 n3 c3 l3 w1 H1.out.len (lup H2.out HB1.out) hr2 H3.out.len).mono ?_); rw [HFEW.out]; rintro e w2 ⟨rfl, hb2⟩; have HB2 := Lib.hid (HB1.out.trans (hb2.mono HB1.out.size)); have HX2 := Lib.hid (BoxP_below HX0.out hb2 hl1); have hl2 : w.heap.size < w2.heap.size := World.block_lt_of_cell? w2 _ HX2.out.1; obtain ⟨x0, x1, x2, x3, x4, x5, x6, x7⟩ := HX2.out; clear hb2)
    | (go_at_call 12; (with_reducible refine (live_is w _ HW0.out HT.out).mono ?_); rintro e w1 ⟨rfl, hb1⟩; have HB1 := Lib.hid (HW0.out.trans (hb1.mono HW0.out.size)); have HX0 := Lib.hid (BoxP_at rfl rfl hb1 : BoxP w1 w.heap.size k v i E t (.slice A1 n1 c1) (.slice A2 n2 c2) (.slice A3 n3 c3)); have hl1 : w.heap.size < w1.heap.size := World.block_lt_of_cell? w1 _ HX0.out.1; obtain ⟨u0, u1, u2, u3, u4, u5, u6, u7⟩ := HX0.out; clear hb1))
  go_ret
  exact ⟨rfl, HB2.out⟩
set_option maxRecDepth 100000 in
set_option maxHeartbeats 8000000 in
theorem waits_e (k v i E t : Int) (A1 : Option Addr) (n1 c1 : Nat) (l1 : List Int) (A2 : Option Addr) (n2 c2 : Nat) (l2 : List ByteArray) (A3 : Option Addr) (n3 c3 : Nat) (l3 : List UInt8) (w : World) (h1 : RdL w w.heap.size A1 n1 l1) (hn1 : n1 ≤ reach) (h2 : RdL w w.heap.size A2 n2 l2) (hn2 : n2 ≤ reach) (h3 : Rd w w.heap.size A3 n3 l3) (_hc3 : n3 ≤ c3) (hn3 : n3 ≤ reach) (ht : Tab w) (hf : fewP ⟨k, v, i, E, t, l1, l2, l3⟩ = true) (ee : Int) (hee : (ee != 0) = true) (hpa : ptP ⟨k, 1, i, E, t, l1, l2, l3⟩ = ([], ee)) :
    Calls Tryd.prog 10 #[.agg #[.int .i64 k, .int .i64 v, .int .i64 i, .int .i64 E, .int .i64 t, .slice A1 n1 c1, .slice A2 n2 c2, .slice A3 n3 c3]] w fun e w' => e = .returned (.bool true) ∧ Below w.heap.size w w' := by
  have HT := Lib.hid ht
  have H1 := Lib.hid h1
  have H2 := Lib.hid h2
  have H3 := Lib.hid h3
  have hr1 : n1 ≤ 140737488351232 := hn1
  have hr2 : n2 ≤ 140737488351232 := hn2
  have hr3 : n3 ≤ 140737488351232 := hn3
  have HW0 := Lib.hid (show Below w.heap.size w (w.alloc (.cells #[.int .i64 k, .int .i64 v, .int .i64 i, .int .i64 E, .int .i64 t, .slice A1 n1 c1, .slice A2 n2 c2, .slice A3 n3 c3] 38)) from bel_alloc (Below.refl _ _) _)
  clear ht h1 h2 h3
  have HFEW := Lib.hid hf
  clear hf
  have HPA := Lib.hid hpa
  clear hpa
  go_enter Tryd.func10, Tryd.ntmps10
  go_wp2_with (first
    | (go_at_call 22; have HBW := Lib.hid (bel_alloc HB2.out (.cells #[.int .i64 k, .int .i64 1, .int .i64 i, .int .i64 E, .int .i64 t, .slice A1 n1 c1, .slice A2 n2 c2, .slice A3 n3 c3] 38)); have HKW := Lib.hid (heap_alloc_new w2 (.cells #[.int .i64 k, .int .i64 1, .int .i64 i, .int .i64 E, .int .i64 t, .slice A1 n1 c1, .slice A2 n2 c2, .slice A3 n3 c3] 38)); have HOW := Lib.hid (BoxP_below HX2.out (bel_alloc (Below.refl _ _) (.cells #[.int .i64 k, .int .i64 1, .int .i64 i, .int .i64 E, .int .i64 t, .slice A1 n1 c1, .slice A2 n2 c2, .slice A3 n3 c3] 38)) hl2); have HLO := Lib.hid (show w.heap.size < (w2.alloc (.cells #[.int .i64 k, .int .i64 1, .int .i64 i, .int .i64 E, .int .i64 t, .slice A1 n1 c1, .slice A2 n2 c2, .slice A3 n3 c3] 38)).heap.size by simp; omega); have hg2 : w.heap.size ≤ w2.heap.size := HB2.out.size; (with_reducible refine (PutResp_is k 1 i E t A1 n1 c1 l1 A2 n2 c2 l2 A3 n3 c3 l3 w (w2.alloc (.cells #[.int .i64 k, .int .i64 1, .int .i64 i, .int .i64 E, .int .i64 t, .slice A1 n1 c1, .slice A2 n2 c2, .slice A3 n3 c3] 38)) H1.out hr1 H2.out hr2 H3.out hr3 HBW.out HPA.out).mono ?_); rintro e w3 ⟨D1, D2, D3, rfl, hRD, hcD, hb9⟩; have HRD := Lib.hid hRD; have HKw3 := Lib.hid (blk_below HKW.out hb9); have HBw3 := Lib.hid (HBW.out.trans (hb9.mono HBW.out.size)); have HDw3 := Lib.hid (show Below ((w2.alloc (.cells #[.int .i64 k, .int .i64 1, .int .i64 i, .int .i64 E, .int .i64 t, .slice A1 n1 c1, .slice A2 n2 c2, .slice A3 n3 c3] 38))).heap.size (w2.alloc (.cells #[.int .i64 k, .int .i64 1, .int .i64 i, .int .i64 E, .int .i64 t, .slice A1 n1 c1, .slice A2 n2 c2, .slice A3 n3 c3] 38)) w3 from hb9); have HOw3 := Lib.hid (BoxP_below HOW.out hb9 HLO.out); have HLw3 := Lib.hid (Nat.lt_of_lt_of_le HLO.out hb9.size); obtain ⟨⟨y0, y1, y2, y3, y4, y5, y6, y7⟩, yf⟩ := boxP_blk HKw3.out; obtain ⟨o0, o1, o2, o3, o4, o5, o6, o7⟩ := HOw3.out; obtain rfl : D2 = 0 := hRD.len.symm)
    | (go_at_call 21; (with_reducible refine (reffewP_any k v i E t A1 n1 c1 l1 A2 n2 c2 l2 A3 n3 c3 l3 w1 H1.out.len (lup H2.out HB1.out) hr2 H3.out.len).mono ?_); rw [HFEW.out]; rintro e w2 ⟨rfl, hb2⟩; have HB2 := Lib.hid (HB1.out.trans (hb2.mono HB1.out.size)); have HX2 := Lib.hid (BoxP_below HX0.out hb2 hl1); have hl2 : w.heap.size < w2.heap.size := World.block_lt_of_cell? w2 _ HX2.out.1; obtain ⟨x0, x1, x2, x3, x4, x5, x6, x7⟩ := HX2.out; clear hb2)
    | (go_at_call 12; (with_reducible refine (live_is w _ HW0.out HT.out).mono ?_); rintro e w1 ⟨rfl, hb1⟩; have HB1 := Lib.hid (HW0.out.trans (hb1.mono HW0.out.size)); have HX0 := Lib.hid (BoxP_at rfl rfl hb1 : BoxP w1 w.heap.size k v i E t (.slice A1 n1 c1) (.slice A2 n2 c2) (.slice A3 n3 c3)); have hl1 : w.heap.size < w1.heap.size := World.block_lt_of_cell? w1 _ HX0.out.1; obtain ⟨u0, u1, u2, u3, u4, u5, u6, u7⟩ := HX0.out; clear hb1))
  go_ret
  exact ⟨rfl, HBw3.out⟩
set_option maxRecDepth 100000 in
set_option maxHeartbeats 8000000 in
theorem waits_ok (k v i E t : Int) (A1 : Option Addr) (n1 c1 : Nat) (l1 : List Int) (A2 : Option Addr) (n2 c2 : Nat) (l2 : List ByteArray) (A3 : Option Addr) (n3 c3 : Nat) (l3 : List UInt8) (w : World) (h1 : RdL w w.heap.size A1 n1 l1) (hn1 : n1 ≤ reach) (h2 : RdL w w.heap.size A2 n2 l2) (hn2 : n2 ≤ reach) (h3 : Rd w w.heap.size A3 n3 l3) (_hc3 : n3 ≤ c3) (hn3 : n3 ≤ reach) (ht : Tab w) (hf : fewP ⟨k, v, i, E, t, l1, l2, l3⟩ = true) (K : UInt8) (T TZ : List UInt8) (hTl : T.length ≤ 100000) (hT1 : 1 ≤ T.length) (hpa : ptP ⟨k, 1, i, E, t, l1, l2, l3⟩ = (K :: 1 :: T, 0)) (hpb : ptP ⟨k, 2, i, E, t, l1, l2, l3⟩ = (K :: 2 :: T, 0)) (hpc : ptP ⟨k, 0, i, E, t, l1, l2, l3⟩ = (K :: 0 :: TZ, 0)) (ht0 : t = 0) (hTZ : TZ.length + 1 = T.length) :
    Calls Tryd.prog 10 #[.agg #[.int .i64 k, .int .i64 v, .int .i64 i, .int .i64 E, .int .i64 t, .slice A1 n1 c1, .slice A2 n2 c2, .slice A3 n3 c3]] w fun e w' => e = .returned (.bool true) ∧ Below w.heap.size w w' := by
  have HT := Lib.hid ht
  have H1 := Lib.hid h1
  have H2 := Lib.hid h2
  have H3 := Lib.hid h3
  have hr1 : n1 ≤ 140737488351232 := hn1
  have hr2 : n2 ≤ 140737488351232 := hn2
  have hr3 : n3 ≤ 140737488351232 := hn3
  have HW0 := Lib.hid (show Below w.heap.size w (w.alloc (.cells #[.int .i64 k, .int .i64 v, .int .i64 i, .int .i64 E, .int .i64 t, .slice A1 n1 c1, .slice A2 n2 c2, .slice A3 n3 c3] 38)) from bel_alloc (Below.refl _ _) _)
  clear ht h1 h2 h3
  have HFEW := Lib.hid hf
  clear hf
  have HPA := Lib.hid hpa
  have HPB := Lib.hid hpb
  have HPC := Lib.hid hpc
  clear hpa hpb hpc
  subst ht0
  go_enter Tryd.func10, Tryd.ntmps10
  go_wp2_with (first
    | (go_at_call 22; have HBW := Lib.hid (Below.setCell HBw4.out (p := ⟨w2.heap.size, 1, none⟩) hg2 (.int .i64 0)); have HKW := Lib.hid (show (w4.setCell ⟨w2.heap.size, 1, none⟩ (.int .i64 0)).heap[w2.heap.size]? = some (.cells #[.int .i64 k, .int .i64 0, .int .i64 i, .int .i64 E, .int .i64 0, .slice A1 n1 c1, .slice A2 n2 c2, .slice A3 n3 c3] 38) from heap_set HKw4.out 1 _); have HOW := Lib.hid (BoxP_off (h := w2.heap.size) (j := 1) (u := .int .i64 0) HOw4.out hne2); have HLO := Lib.hid (show w.heap.size < (w4.setCell ⟨w2.heap.size, 1, none⟩ (.int .i64 0)).heap.size by rw [size_set]; exact HLw4.out); (with_reducible refine (PutResp_is k 0 i E 0 A1 n1 c1 l1 A2 n2 c2 l2 A3 n3 c3 l3 w (w4.setCell ⟨w2.heap.size, 1, none⟩ (.int .i64 0)) H1.out hr1 H2.out hr2 H3.out hr3 HBW.out HPC.out).mono ?_); rintro e w5 ⟨F1, F2, F3, rfl, hRF, hcF, hb9⟩; have hb9' := hb9; have HRF := Lib.hid hRF; have HKw5 := Lib.hid (blk_below HKW.out hb9); have HBw5 := Lib.hid (HBW.out.trans (hb9.mono HBW.out.size)); have HDw5 := Lib.hid (show Below ((w4.setCell ⟨w2.heap.size, 1, none⟩ (.int .i64 0))).heap.size (w4.setCell ⟨w2.heap.size, 1, none⟩ (.int .i64 0)) w5 from hb9); have HOw5 := Lib.hid (BoxP_below HOW.out hb9 HLO.out); have HLw5 := Lib.hid (Nat.lt_of_lt_of_le HLO.out hb9.size); obtain ⟨⟨y0, y1, y2, y3, y4, y5, y6, y7⟩, yf⟩ := boxP_blk HKw5.out; obtain ⟨o0, o1, o2, o3, o4, o5, o6, o7⟩ := HOw5.out; clear HBW HKW HOW HLO hb9 ; have hlF := hRF.len; have HRD5 := Lib.hid (rnum HRD4.out (boxP_blk HKw4.out).1.2.1 hb9'); have HRE5 := Lib.hid (rnum HRE.out (boxP_blk HKw4.out).1.2.1 hb9'); have h8 : T.length + 1 + 1 = D2 := hlD; have h7 : TZ.length + 1 + 1 = F2 := hlF; have hd2 : (2 : Int) ≤ (D2 : Int) := (by omega); have hq2 : ((F2 : Int) != wrap64 ((D2 : Int) - 1)) = false := (by rw [IntWalk.wrap64_in _ (by omega)]; have h6 : (F2 : Int) = (D2 : Int) - 1 := (by omega); rw [h6]; simp); have HTD := Lib.hid h8; clear hRF hb9' h7 h8 hlD hlE hlF)
    | (go_at_call 22; have HBW := Lib.hid (Below.setCell HBw3.out (p := ⟨w2.heap.size, 1, none⟩) hg2 (.int .i64 2)); have HKW := Lib.hid (show (w3.setCell ⟨w2.heap.size, 1, none⟩ (.int .i64 2)).heap[w2.heap.size]? = some (.cells #[.int .i64 k, .int .i64 2, .int .i64 i, .int .i64 E, .int .i64 0, .slice A1 n1 c1, .slice A2 n2 c2, .slice A3 n3 c3] 38) from heap_set HKw3.out 1 _); have HOW := Lib.hid (BoxP_off (h := w2.heap.size) (j := 1) (u := .int .i64 2) HOw3.out hne2); have HLO := Lib.hid (show w.heap.size < (w3.setCell ⟨w2.heap.size, 1, none⟩ (.int .i64 2)).heap.size by rw [size_set]; exact HLw3.out); (with_reducible refine (PutResp_is k 2 i E 0 A1 n1 c1 l1 A2 n2 c2 l2 A3 n3 c3 l3 w (w3.setCell ⟨w2.heap.size, 1, none⟩ (.int .i64 2)) H1.out hr1 H2.out hr2 H3.out hr3 HBW.out HPB.out).mono ?_); rintro e w4 ⟨E1, E2, E3, rfl, hRE, hcE, hb9⟩; have hb9' := hb9; have HRE := Lib.hid hRE; have HKw4 := Lib.hid (blk_below HKW.out hb9); have HBw4 := Lib.hid (HBW.out.trans (hb9.mono HBW.out.size)); have HDw4 := Lib.hid (show Below ((w3.setCell ⟨w2.heap.size, 1, none⟩ (.int .i64 2))).heap.size (w3.setCell ⟨w2.heap.size, 1, none⟩ (.int .i64 2)) w4 from hb9); have HOw4 := Lib.hid (BoxP_below HOW.out hb9 HLO.out); have HLw4 := Lib.hid (Nat.lt_of_lt_of_le HLO.out hb9.size); obtain ⟨⟨y0, y1, y2, y3, y4, y5, y6, y7⟩, yf⟩ := boxP_blk HKw4.out; obtain ⟨o0, o1, o2, o3, o4, o5, o6, o7⟩ := HOw4.out; clear HBW HKW HOW HLO hb9 ; have hlE := hRE.len; obtain rfl : D2 = E2 := hlD.symm.trans hlE; have HRD4 := Lib.hid (rnum HRD.out (boxP_blk HKw3.out).1.2.1 hb9'); clear hRE hb9')
    | (go_at_call 22; have HBW := Lib.hid (bel_alloc HB2.out (.cells #[.int .i64 k, .int .i64 1, .int .i64 i, .int .i64 E, .int .i64 0, .slice A1 n1 c1, .slice A2 n2 c2, .slice A3 n3 c3] 38)); have HKW := Lib.hid (heap_alloc_new w2 (.cells #[.int .i64 k, .int .i64 1, .int .i64 i, .int .i64 E, .int .i64 0, .slice A1 n1 c1, .slice A2 n2 c2, .slice A3 n3 c3] 38)); have HOW := Lib.hid (BoxP_below HX2.out (bel_alloc (Below.refl _ _) (.cells #[.int .i64 k, .int .i64 1, .int .i64 i, .int .i64 E, .int .i64 0, .slice A1 n1 c1, .slice A2 n2 c2, .slice A3 n3 c3] 38)) hl2); have HLO := Lib.hid (show w.heap.size < (w2.alloc (.cells #[.int .i64 k, .int .i64 1, .int .i64 i, .int .i64 E, .int .i64 0, .slice A1 n1 c1, .slice A2 n2 c2, .slice A3 n3 c3] 38)).heap.size by simp; omega); have hg2 : w.heap.size ≤ w2.heap.size := HB2.out.size; have hne2 : w.heap.size ≠ w2.heap.size := Nat.ne_of_lt hl2; (with_reducible refine (PutResp_is k 1 i E 0 A1 n1 c1 l1 A2 n2 c2 l2 A3 n3 c3 l3 w (w2.alloc (.cells #[.int .i64 k, .int .i64 1, .int .i64 i, .int .i64 E, .int .i64 0, .slice A1 n1 c1, .slice A2 n2 c2, .slice A3 n3 c3] 38)) H1.out hr1 H2.out hr2 H3.out hr3 HBW.out HPA.out).mono ?_); rintro e w3 ⟨D1, D2, D3, rfl, hRD, hcD, hb9⟩; have HRD := Lib.hid hRD; have HKw3 := Lib.hid (blk_below HKW.out hb9); have HBw3 := Lib.hid (HBW.out.trans (hb9.mono HBW.out.size)); have HDw3 := Lib.hid (show Below ((w2.alloc (.cells #[.int .i64 k, .int .i64 1, .int .i64 i, .int .i64 E, .int .i64 0, .slice A1 n1 c1, .slice A2 n2 c2, .slice A3 n3 c3] 38))).heap.size (w2.alloc (.cells #[.int .i64 k, .int .i64 1, .int .i64 i, .int .i64 E, .int .i64 0, .slice A1 n1 c1, .slice A2 n2 c2, .slice A3 n3 c3] 38)) w3 from hb9); have HOw3 := Lib.hid (BoxP_below HOW.out hb9 HLO.out); have HLw3 := Lib.hid (Nat.lt_of_lt_of_le HLO.out hb9.size); obtain ⟨⟨y0, y1, y2, y3, y4, y5, y6, y7⟩, yf⟩ := boxP_blk HKw3.out; obtain ⟨o0, o1, o2, o3, o4, o5, o6, o7⟩ := HOw3.out; clear HBW HKW HOW HLO hb9 ; have hlD := hRD.len; clear hRD)
    | (go_at_call 21; (with_reducible refine (reffewP_any k v i E 0 A1 n1 c1 l1 A2 n2 c2 l2 A3 n3 c3 l3 w1 H1.out.len (lup H2.out HB1.out) hr2 H3.out.len).mono ?_); rw [HFEW.out]; rintro e w2 ⟨rfl, hb2⟩; have HB2 := Lib.hid (HB1.out.trans (hb2.mono HB1.out.size)); have HX2 := Lib.hid (BoxP_below HX0.out hb2 hl1); have hl2 : w.heap.size < w2.heap.size := World.block_lt_of_cell? w2 _ HX2.out.1; obtain ⟨x0, x1, x2, x3, x4, x5, x6, x7⟩ := HX2.out; clear hb2)
    | (go_at_call 12; (with_reducible refine (live_is w _ HW0.out HT.out).mono ?_); rintro e w1 ⟨rfl, hb1⟩; have HB1 := Lib.hid (HW0.out.trans (hb1.mono HW0.out.size)); have HX0 := Lib.hid (BoxP_at rfl rfl hb1 : BoxP w1 w.heap.size k v i E 0 (.slice A1 n1 c1) (.slice A2 n2 c2) (.slice A3 n3 c3)); have hl1 : w.heap.size < w1.heap.size := World.block_lt_of_cell? w1 _ HX0.out.1; obtain ⟨u0, u1, u2, u3, u4, u5, u6, u7⟩ := HX0.out; clear hb1))
  have hmx : Tryd.prog.follows .mixedOrders = true := by kernel_rfl
  have h8 := HTD.out
  obtain ⟨ba, oa, x0, rfl, hba, hx0, a0⟩ := HRD5.out.at (k := 0) (by omega)
  obtain ⟨ba', oa', x1, e1, _, hx1, a1⟩ := HRD5.out.at (k := 1) (by omega)
  cases e1
  obtain ⟨bb, ob, z0, rfl, hbb, hz0, b0⟩ := HRE5.out.at (k := 0) (by omega)
  obtain ⟨bb', ob', z1, e1, _, hz1, b1⟩ := HRE5.out.at (k := 1) (by omega)
  cases e1
  simp only [List.getElem?_cons_zero, List.getElem?_cons_succ, Option.some.injEq] at hx0 hx1 hz0 hz1
  subst hx0 hx1 hz0 hz1
  rw [Nat.add_zero] at a0 b0
  have ra := (HRD5.out.cut (i := 2) (m := D2 - 2) (by omega) (some ⟨ba, oa + 2, none⟩) (fun _ => rfl)).drew
  have rb := (HRE5.out.cut (i := 2) (m := D2 - 2) (by omega) (some ⟨bb, ob + 2, none⟩) (fun _ => rfl)).drew
  rw [show ((K :: 1 :: T).drop 2).take (D2 - 2) = T by rw [List.drop_succ_cons, List.drop_succ_cons, List.drop_zero]; exact List.take_of_length_le (by omega)] at ra
  rw [show ((K :: 2 :: T).drop 2).take (D2 - 2) = T by rw [List.drop_succ_cons, List.drop_succ_cons, List.drop_zero]; exact List.take_of_length_le (by omega)] at rb
  have HS := Lib.hid (show (fun W9 : World => W9.cell? ⟨ba, oa, none⟩ = some (.int .u8 (K.toNat : Int)) ∧ W9.cell? ⟨ba, oa + 1, none⟩ = some (.int .u8 1) ∧ W9.cell? ⟨bb, ob, none⟩ = some (.int .u8 (K.toNat : Int)) ∧ W9.cell? ⟨bb, ob + 1, none⟩ = some (.int .u8 2) ∧ Rd W9 w5.heap.size (some ⟨ba, oa + 2, none⟩) (D2 - 2) T ∧ Rd W9 w5.heap.size (some ⟨bb, ob + 2, none⟩) (D2 - 2) T) w5.drew from ⟨a0, a1, b0, b1, ra, rb⟩)
  clear a0 a1 b0 b1 ra rb
  have i0 : 0 < D2 := by omega
  have i1 : 1 < D2 := by omega
  have i2 : 2 ≤ D2 := by omega
  have i3 : (1 : Int) < (D2 : Int) := by omega
  have i9 : ¬ D3 = 2 := by omega
  have i10 : ¬ E3 = 2 := by omega
  have i5 : (D2 : Int) ≤ (D3 : Int) := by omega
  have i6 : (D2 : Int) ≤ (E3 : Int) := by omega
  have i7 : (2 : Int) ≤ (D3 : Int) := by omega
  have i8 : (2 : Int) ≤ (E3 : Int) := by omega
  clear h8
  refine region_let (fun W9 : World => W9.cell? ⟨ba, oa, none⟩ = some (.int .u8 (K.toNat : Int)) ∧ W9.cell? ⟨ba, oa + 1, none⟩ = some (.int .u8 1) ∧ W9.cell? ⟨bb, ob, none⟩ = some (.int .u8 (K.toNat : Int)) ∧ W9.cell? ⟨bb, ob + 1, none⟩ = some (.int .u8 2) ∧ Rd W9 w5.heap.size (some ⟨ba, oa + 2, none⟩) (D2 - 2) T ∧ Rd W9 w5.heap.size (some ⟨bb, ob + 2, none⟩) (D2 - 2) T) 99 40 hmx rfl fun ops Q HOPS HQ => ?_
  refine stepQ HOPS 0 1 ?_ (by decide) rfl (by kernel_rfl) (by kernel_rfl) rfl ?_ HS.out ?_
  rotate_left
  · intro w9 hS9; obtain ⟨q0, q1, q2, q3, q4, q5⟩ := hS9; have r0 := str_of w9 _ _ (D2 - 2) (D3 - 2) T q4; have r1 := str_of w9 _ _ (D2 - 2) (E3 - 2) T q5; go_simp; (first | done | with_reducible rfl)
  try simp only [Act.put, List.setIfInBounds_toArray, List.set_cons_zero, List.set_cons_succ]
  refine stepQ HOPS 1 3 ?_ (by decide) rfl (by kernel_rfl) (by kernel_rfl) rfl ?_ HS.out ?_
  rotate_left
  · intro w9 hS9; obtain ⟨q0, q1, q2, q3, q4, q5⟩ := hS9; have r0 := str_of w9 _ _ (D2 - 2) (D3 - 2) T q4; have r1 := str_of w9 _ _ (D2 - 2) (E3 - 2) T q5; go_simp; (first | done | with_reducible rfl)
  try simp only [Act.put, List.setIfInBounds_toArray, List.set_cons_zero, List.set_cons_succ]
  refine stepQ HOPS 2 7 ?_ (by decide) rfl (by kernel_rfl) (by kernel_rfl) rfl ?_ HS.out ?_
  rotate_left
  · intro w9 hS9; obtain ⟨q0, q1, q2, q3, q4, q5⟩ := hS9; have r0 := str_of w9 _ _ (D2 - 2) (D3 - 2) T q4; have r1 := str_of w9 _ _ (D2 - 2) (E3 - 2) T q5; go_simp; (first | done | with_reducible rfl)
  try simp only [Act.put, List.setIfInBounds_toArray, List.set_cons_zero, List.set_cons_succ]
  refine stepQ HOPS 3 15 ?_ (by decide) rfl (by kernel_rfl) (by kernel_rfl) rfl ?_ HS.out ?_
  rotate_left
  · intro w9 hS9; obtain ⟨q0, q1, q2, q3, q4, q5⟩ := hS9; have r0 := str_of w9 _ _ (D2 - 2) (D3 - 2) T q4; have r1 := str_of w9 _ _ (D2 - 2) (E3 - 2) T q5; go_simp; (first | done | with_reducible rfl)
  try simp only [Act.put, List.setIfInBounds_toArray, List.set_cons_zero, List.set_cons_succ]
  refine stepQ HOPS 4 31 ?_ (by decide) rfl (by kernel_rfl) (by kernel_rfl) rfl ?_ HS.out ?_
  rotate_left
  · intro w9 hS9; obtain ⟨q0, q1, q2, q3, q4, q5⟩ := hS9; have r0 := str_of w9 _ _ (D2 - 2) (D3 - 2) T q4; have r1 := str_of w9 _ _ (D2 - 2) (E3 - 2) T q5; go_simp; (first | done | with_reducible rfl)
  try simp only [Act.put, List.setIfInBounds_toArray, List.set_cons_zero, List.set_cons_succ]
  refine stepQ HOPS 5 63 ?_ (by decide) rfl (by kernel_rfl) (by kernel_rfl) rfl ?_ HS.out ?_
  rotate_left
  · intro w9 hS9; obtain ⟨q0, q1, q2, q3, q4, q5⟩ := hS9; have r0 := str_of w9 _ _ (D2 - 2) (D3 - 2) T q4; have r1 := str_of w9 _ _ (D2 - 2) (E3 - 2) T q5; go_simp; (first | done | with_reducible rfl)
  try simp only [Act.put, List.setIfInBounds_toArray, List.set_cons_zero, List.set_cons_succ]
  refine stepQ HOPS 6 127 ?_ (by decide) rfl (by kernel_rfl) (by kernel_rfl) rfl ?_ HS.out ?_
  rotate_left
  · intro w9 hS9; obtain ⟨q0, q1, q2, q3, q4, q5⟩ := hS9; have r0 := str_of w9 _ _ (D2 - 2) (D3 - 2) T q4; have r1 := str_of w9 _ _ (D2 - 2) (E3 - 2) T q5; go_simp; (first | done | with_reducible rfl)
  try simp only [Act.put, List.setIfInBounds_toArray, List.set_cons_zero, List.set_cons_succ]
  refine stepQ HOPS 7 255 ?_ (by decide) rfl (by kernel_rfl) (by kernel_rfl) rfl ?_ HS.out ?_
  rotate_left
  · intro w9 hS9; obtain ⟨q0, q1, q2, q3, q4, q5⟩ := hS9; have r0 := str_of w9 _ _ (D2 - 2) (D3 - 2) T q4; have r1 := str_of w9 _ _ (D2 - 2) (E3 - 2) T q5; go_simp; (first | done | with_reducible rfl)
  try simp only [Act.put, List.setIfInBounds_toArray, List.set_cons_zero, List.set_cons_succ]
  refine stepQ HOPS 8 511 ?_ (by decide) rfl (by kernel_rfl) (by kernel_rfl) rfl ?_ HS.out ?_
  rotate_left
  · intro w9 hS9; obtain ⟨q0, q1, q2, q3, q4, q5⟩ := hS9; have r0 := str_of w9 _ _ (D2 - 2) (D3 - 2) T q4; have r1 := str_of w9 _ _ (D2 - 2) (E3 - 2) T q5; go_simp; (first | done | with_reducible rfl)
  try simp only [Act.put, List.setIfInBounds_toArray, List.set_cons_zero, List.set_cons_succ]
  refine stepQ HOPS 9 1023 ?_ (by decide) rfl (by kernel_rfl) (by kernel_rfl) rfl ?_ HS.out ?_
  rotate_left
  · intro w9 hS9; obtain ⟨q0, q1, q2, q3, q4, q5⟩ := hS9; have r0 := str_of w9 _ _ (D2 - 2) (D3 - 2) T q4; have r1 := str_of w9 _ _ (D2 - 2) (E3 - 2) T q5; go_simp; (first | done | with_reducible rfl)
  try simp only [Act.put, List.setIfInBounds_toArray, List.set_cons_zero, List.set_cons_succ]
  refine stepQ HOPS 10 2047 ?_ (by decide) rfl (by kernel_rfl) (by kernel_rfl) rfl ?_ HS.out ?_
  rotate_left
  · intro w9 hS9; obtain ⟨q0, q1, q2, q3, q4, q5⟩ := hS9; have r0 := str_of w9 _ _ (D2 - 2) (D3 - 2) T q4; have r1 := str_of w9 _ _ (D2 - 2) (E3 - 2) T q5; go_simp; (first | done | with_reducible rfl)
  try simp only [Act.put, List.setIfInBounds_toArray, List.set_cons_zero, List.set_cons_succ]
  refine stepQ HOPS 11 4095 ?_ (by decide) rfl (by kernel_rfl) (by kernel_rfl) rfl ?_ HS.out ?_
  rotate_left
  · intro w9 hS9; obtain ⟨q0, q1, q2, q3, q4, q5⟩ := hS9; have r0 := str_of w9 _ _ (D2 - 2) (D3 - 2) T q4; have r1 := str_of w9 _ _ (D2 - 2) (E3 - 2) T q5; go_simp; (first | done | with_reducible rfl)
  try simp only [Act.put, List.setIfInBounds_toArray, List.set_cons_zero, List.set_cons_succ]
  refine stepQ HOPS 12 8191 ?_ (by decide) rfl (by kernel_rfl) (by kernel_rfl) rfl ?_ HS.out ?_
  rotate_left
  · intro w9 hS9; obtain ⟨q0, q1, q2, q3, q4, q5⟩ := hS9; have r0 := str_of w9 _ _ (D2 - 2) (D3 - 2) T q4; have r1 := str_of w9 _ _ (D2 - 2) (E3 - 2) T q5; go_simp; (first | done | with_reducible rfl)
  try simp only [Act.put, List.setIfInBounds_toArray, List.set_cons_zero, List.set_cons_succ]
  refine stepQ HOPS 13 16383 ?_ (by decide) rfl (by kernel_rfl) (by kernel_rfl) rfl ?_ HS.out ?_
  rotate_left
  · intro w9 hS9; obtain ⟨q0, q1, q2, q3, q4, q5⟩ := hS9; have r0 := str_of w9 _ _ (D2 - 2) (D3 - 2) T q4; have r1 := str_of w9 _ _ (D2 - 2) (E3 - 2) T q5; go_simp; (first | done | with_reducible rfl)
  try simp only [Act.put, List.setIfInBounds_toArray, List.set_cons_zero, List.set_cons_succ]
  refine stepQ HOPS 14 32767 ?_ (by decide) rfl (by kernel_rfl) (by kernel_rfl) rfl ?_ HS.out ?_
  rotate_left
  · intro w9 hS9; obtain ⟨q0, q1, q2, q3, q4, q5⟩ := hS9; have r0 := str_of w9 _ _ (D2 - 2) (D3 - 2) T q4; have r1 := str_of w9 _ _ (D2 - 2) (E3 - 2) T q5; go_simp; (first | done | with_reducible rfl)
  try simp only [Act.put, List.setIfInBounds_toArray, List.set_cons_zero, List.set_cons_succ]
  refine stepQ HOPS 15 65535 ?_ (by decide) rfl (by kernel_rfl) (by kernel_rfl) rfl ?_ HS.out ?_
  rotate_left
  · intro w9 hS9; obtain ⟨q0, q1, q2, q3, q4, q5⟩ := hS9; have r0 := str_of w9 _ _ (D2 - 2) (D3 - 2) T q4; have r1 := str_of w9 _ _ (D2 - 2) (E3 - 2) T q5; go_simp; (first | done | with_reducible rfl)
  try simp only [Act.put, List.setIfInBounds_toArray, List.set_cons_zero, List.set_cons_succ]
  refine stepQ HOPS 16 131071 ?_ (by decide) rfl (by kernel_rfl) (by kernel_rfl) rfl ?_ HS.out ?_
  rotate_left
  · intro w9 hS9; obtain ⟨q0, q1, q2, q3, q4, q5⟩ := hS9; have r0 := str_of w9 _ _ (D2 - 2) (D3 - 2) T q4; have r1 := str_of w9 _ _ (D2 - 2) (E3 - 2) T q5; go_simp; (first | done | with_reducible rfl)
  try simp only [Act.put, List.setIfInBounds_toArray, List.set_cons_zero, List.set_cons_succ]
  refine stepQ HOPS 17 262143 ?_ (by decide) rfl (by kernel_rfl) (by kernel_rfl) rfl ?_ HS.out ?_
  rotate_left
  · intro w9 hS9; obtain ⟨q0, q1, q2, q3, q4, q5⟩ := hS9; have r0 := str_of w9 _ _ (D2 - 2) (D3 - 2) T q4; have r1 := str_of w9 _ _ (D2 - 2) (E3 - 2) T q5; go_simp; (first | done | with_reducible rfl)
  try simp only [Act.put, List.setIfInBounds_toArray, List.set_cons_zero, List.set_cons_succ]
  refine stepQ HOPS 18 524287 ?_ (by decide) rfl (by kernel_rfl) (by kernel_rfl) rfl ?_ HS.out ?_
  rotate_left
  · intro w9 hS9; obtain ⟨q0, q1, q2, q3, q4, q5⟩ := hS9; have r0 := str_of w9 _ _ (D2 - 2) (D3 - 2) T q4; have r1 := str_of w9 _ _ (D2 - 2) (E3 - 2) T q5; go_simp; (first | done | with_reducible rfl)
  try simp only [Act.put, List.setIfInBounds_toArray, List.set_cons_zero, List.set_cons_succ]
  refine stepQ HOPS 19 1048575 ?_ (by decide) rfl (by kernel_rfl) (by kernel_rfl) rfl ?_ HS.out ?_
  rotate_left
  · intro w9 hS9; obtain ⟨q0, q1, q2, q3, q4, q5⟩ := hS9; have r0 := str_of w9 _ _ (D2 - 2) (D3 - 2) T q4; have r1 := str_of w9 _ _ (D2 - 2) (E3 - 2) T q5; go_simp; (first | done | with_reducible rfl)
  try simp only [Act.put, List.setIfInBounds_toArray, List.set_cons_zero, List.set_cons_succ]
  refine stepQ HOPS 20 2097151 ?_ (by decide) rfl (by kernel_rfl) (by kernel_rfl) rfl ?_ HS.out ?_
  rotate_left
  · intro w9 hS9; obtain ⟨q0, q1, q2, q3, q4, q5⟩ := hS9; have r0 := str_of w9 _ _ (D2 - 2) (D3 - 2) T q4; have r1 := str_of w9 _ _ (D2 - 2) (E3 - 2) T q5; go_simp; (first | done | with_reducible rfl)
  try simp only [Act.put, List.setIfInBounds_toArray, List.set_cons_zero, List.set_cons_succ]
  refine stepQ HOPS 21 4194303 ?_ (by decide) rfl (by kernel_rfl) (by kernel_rfl) rfl ?_ HS.out ?_
  rotate_left
  · intro w9 hS9; obtain ⟨q0, q1, q2, q3, q4, q5⟩ := hS9; have r0 := str_of w9 _ _ (D2 - 2) (D3 - 2) T q4; have r1 := str_of w9 _ _ (D2 - 2) (E3 - 2) T q5; go_simp; (first | done | with_reducible rfl)
  try simp only [Act.put, List.setIfInBounds_toArray, List.set_cons_zero, List.set_cons_succ]
  refine stepQ HOPS 22 8388607 ?_ (by decide) rfl (by kernel_rfl) (by kernel_rfl) rfl ?_ HS.out ?_
  rotate_left
  · intro w9 hS9; obtain ⟨q0, q1, q2, q3, q4, q5⟩ := hS9; have r0 := str_of w9 _ _ (D2 - 2) (D3 - 2) T q4; have r1 := str_of w9 _ _ (D2 - 2) (E3 - 2) T q5; go_simp; (first | done | with_reducible rfl)
  try simp only [Act.put, List.setIfInBounds_toArray, List.set_cons_zero, List.set_cons_succ]
  refine stepQ HOPS 23 16777215 ?_ (by decide) rfl (by kernel_rfl) (by kernel_rfl) rfl ?_ HS.out ?_
  rotate_left
  · intro w9 hS9; obtain ⟨q0, q1, q2, q3, q4, q5⟩ := hS9; have r0 := str_of w9 _ _ (D2 - 2) (D3 - 2) T q4; have r1 := str_of w9 _ _ (D2 - 2) (E3 - 2) T q5; go_simp; (first | done | with_reducible rfl)
  try simp only [Act.put, List.setIfInBounds_toArray, List.set_cons_zero, List.set_cons_succ]
  refine stepQ HOPS 24 33554431 ?_ (by decide) rfl (by kernel_rfl) (by kernel_rfl) rfl ?_ HS.out ?_
  rotate_left
  · intro w9 hS9; obtain ⟨q0, q1, q2, q3, q4, q5⟩ := hS9; have r0 := str_of w9 _ _ (D2 - 2) (D3 - 2) T q4; have r1 := str_of w9 _ _ (D2 - 2) (E3 - 2) T q5; go_simp; (first | done | with_reducible rfl)
  try simp only [Act.put, List.setIfInBounds_toArray, List.set_cons_zero, List.set_cons_succ]
  refine stepQ HOPS 25 67108863 ?_ (by decide) rfl (by kernel_rfl) (by kernel_rfl) rfl ?_ HS.out ?_
  rotate_left
  · intro w9 hS9; obtain ⟨q0, q1, q2, q3, q4, q5⟩ := hS9; have r0 := str_of w9 _ _ (D2 - 2) (D3 - 2) T q4; have r1 := str_of w9 _ _ (D2 - 2) (E3 - 2) T q5; go_simp; (first | done | with_reducible rfl)
  try simp only [Act.put, List.setIfInBounds_toArray, List.set_cons_zero, List.set_cons_succ]
  refine stepQ HOPS 26 134217727 ?_ (by decide) rfl (by kernel_rfl) (by kernel_rfl) rfl ?_ HS.out ?_
  rotate_left
  · intro w9 hS9; obtain ⟨q0, q1, q2, q3, q4, q5⟩ := hS9; have r0 := str_of w9 _ _ (D2 - 2) (D3 - 2) T q4; have r1 := str_of w9 _ _ (D2 - 2) (E3 - 2) T q5; go_simp; (first | done | with_reducible rfl)
  try simp only [Act.put, List.setIfInBounds_toArray, List.set_cons_zero, List.set_cons_succ]
  refine stepQ HOPS 27 268435455 ?_ (by decide) rfl (by kernel_rfl) (by kernel_rfl) rfl ?_ HS.out ?_
  rotate_left
  · intro w9 hS9; obtain ⟨q0, q1, q2, q3, q4, q5⟩ := hS9; have r0 := str_of w9 _ _ (D2 - 2) (D3 - 2) T q4; have r1 := str_of w9 _ _ (D2 - 2) (E3 - 2) T q5; go_simp; (first | done | with_reducible rfl)
  try simp only [Act.put, List.setIfInBounds_toArray, List.set_cons_zero, List.set_cons_succ]
  refine stepQ HOPS 28 536870911 ?_ (by decide) rfl (by kernel_rfl) (by kernel_rfl) rfl ?_ HS.out ?_
  rotate_left
  · intro w9 hS9; obtain ⟨q0, q1, q2, q3, q4, q5⟩ := hS9; have r0 := str_of w9 _ _ (D2 - 2) (D3 - 2) T q4; have r1 := str_of w9 _ _ (D2 - 2) (E3 - 2) T q5; go_simp; (first | done | with_reducible rfl)
  try simp only [Act.put, List.setIfInBounds_toArray, List.set_cons_zero, List.set_cons_succ]
  refine stepQ HOPS 29 1073741823 ?_ (by decide) rfl (by kernel_rfl) (by kernel_rfl) rfl ?_ HS.out ?_
  rotate_left
  · intro w9 hS9; obtain ⟨q0, q1, q2, q3, q4, q5⟩ := hS9; have r0 := str_of w9 _ _ (D2 - 2) (D3 - 2) T q4; have r1 := str_of w9 _ _ (D2 - 2) (E3 - 2) T q5; go_simp; (first | done | with_reducible rfl)
  try simp only [Act.put, List.setIfInBounds_toArray, List.set_cons_zero, List.set_cons_succ]
  refine stepQ HOPS 30 2147483647 ?_ (by decide) rfl (by kernel_rfl) (by kernel_rfl) rfl ?_ HS.out ?_
  rotate_left
  · intro w9 hS9; obtain ⟨q0, q1, q2, q3, q4, q5⟩ := hS9; have r0 := str_of w9 _ _ (D2 - 2) (D3 - 2) T q4; have r1 := str_of w9 _ _ (D2 - 2) (E3 - 2) T q5; go_simp; (first | done | with_reducible rfl)
  try simp only [Act.put, List.setIfInBounds_toArray, List.set_cons_zero, List.set_cons_succ]
  refine stepQ HOPS 31 4294967295 ?_ (by decide) rfl (by kernel_rfl) (by kernel_rfl) rfl ?_ HS.out ?_
  rotate_left
  · intro w9 hS9; obtain ⟨q0, q1, q2, q3, q4, q5⟩ := hS9; have r0 := str_of w9 _ _ (D2 - 2) (D3 - 2) T q4; have r1 := str_of w9 _ _ (D2 - 2) (E3 - 2) T q5; go_simp; (first | done | with_reducible rfl)
  try simp only [Act.put, List.setIfInBounds_toArray, List.set_cons_zero, List.set_cons_succ]
  refine stepQ HOPS 32 8589934591 ?_ (by decide) rfl (by kernel_rfl) (by kernel_rfl) rfl ?_ HS.out ?_
  rotate_left
  · intro w9 hS9; obtain ⟨q0, q1, q2, q3, q4, q5⟩ := hS9; have r0 := str_of w9 _ _ (D2 - 2) (D3 - 2) T q4; have r1 := str_of w9 _ _ (D2 - 2) (E3 - 2) T q5; go_simp; (first | done | with_reducible rfl)
  try simp only [Act.put, List.setIfInBounds_toArray, List.set_cons_zero, List.set_cons_succ]
  refine stepQ HOPS 33 17179869183 ?_ (by decide) rfl (by kernel_rfl) (by kernel_rfl) rfl ?_ HS.out ?_
  rotate_left
  · intro w9 hS9; obtain ⟨q0, q1, q2, q3, q4, q5⟩ := hS9; have r0 := str_of w9 _ _ (D2 - 2) (D3 - 2) T q4; have r1 := str_of w9 _ _ (D2 - 2) (E3 - 2) T q5; go_simp; (first | done | with_reducible rfl)
  try simp only [Act.put, List.setIfInBounds_toArray, List.set_cons_zero, List.set_cons_succ]
  refine stepQ HOPS 34 34359738367 ?_ (by decide) rfl (by kernel_rfl) (by kernel_rfl) rfl ?_ HS.out ?_
  rotate_left
  · intro w9 hS9; obtain ⟨q0, q1, q2, q3, q4, q5⟩ := hS9; have r0 := str_of w9 _ _ (D2 - 2) (D3 - 2) T q4; have r1 := str_of w9 _ _ (D2 - 2) (E3 - 2) T q5; go_simp; (first | done | with_reducible rfl)
  try simp only [Act.put, List.setIfInBounds_toArray, List.set_cons_zero, List.set_cons_succ]
  refine stepU HOPS 35 68719476735 (by decide) rfl (by kernel_rfl) (by kernel_rfl) rfl HS.out ?_
  try simp only [Act.put, List.setIfInBounds_toArray, List.set_cons_zero, List.set_cons_succ]
  refine stepU HOPS 36 137438953471 (by decide) rfl (by kernel_rfl) (by kernel_rfl) rfl HS.out ?_
  try simp only [Act.put, List.setIfInBounds_toArray, List.set_cons_zero, List.set_cons_succ]
  refine stepQ HOPS 37 274877906943 ?_ (by decide) rfl (by kernel_rfl) (by kernel_rfl) rfl ?_ HS.out ?_
  rotate_left
  · intro w9 hS9; obtain ⟨q0, q1, q2, q3, q4, q5⟩ := hS9; have r0 := str_of w9 _ _ (D2 - 2) (D3 - 2) T q4; have r1 := str_of w9 _ _ (D2 - 2) (E3 - 2) T q5; go_simp; (first | done | with_reducible rfl)
  try simp only [Act.put, List.setIfInBounds_toArray, List.set_cons_zero, List.set_cons_succ]
  refine stepQ HOPS 38 549755813887 ?_ (by decide) rfl (by kernel_rfl) (by kernel_rfl) rfl ?_ HS.out ?_
  rotate_left
  · intro w9 hS9; obtain ⟨q0, q1, q2, q3, q4, q5⟩ := hS9; have r0 := str_of w9 _ _ (D2 - 2) (D3 - 2) T q4; have r1 := str_of w9 _ _ (D2 - 2) (E3 - 2) T q5; go_simp; (first | done | with_reducible rfl)
  try simp only [Act.put, List.setIfInBounds_toArray, List.set_cons_zero, List.set_cons_succ]
  refine stepQ HOPS 39 1099511627775 ?_ (by decide) rfl (by kernel_rfl) (by kernel_rfl) rfl ?_ HS.out ?_
  rotate_left
  · intro w9 hS9; obtain ⟨q0, q1, q2, q3, q4, q5⟩ := hS9; have r0 := str_of w9 _ _ (D2 - 2) (D3 - 2) T q4; have r1 := str_of w9 _ _ (D2 - 2) (E3 - 2) T q5; go_simp; (first | done | with_reducible rfl)
  try simp only [Act.put, List.setIfInBounds_toArray, List.set_cons_zero, List.set_cons_succ]
  refine stepE HOPS (by kernel_rfl) (HQ.out _ _ ?_)
  clear HQ HOPS
  clear Q ops
  go_wp2
  go_ret
  exact ⟨rfl, bel_drew HBw5.out⟩
set_option maxRecDepth 100000 in
set_option maxHeartbeats 8000000 in
theorem waits_bad (k v i E t : Int) (A1 : Option Addr) (n1 c1 : Nat) (l1 : List Int) (A2 : Option Addr) (n2 c2 : Nat) (l2 : List ByteArray) (A3 : Option Addr) (n3 c3 : Nat) (l3 : List UInt8) (w : World) (h1 : RdL w w.heap.size A1 n1 l1) (hn1 : n1 ≤ reach) (h2 : RdL w w.heap.size A2 n2 l2) (hn2 : n2 ≤ reach) (h3 : Rd w w.heap.size A3 n3 l3) (_hc3 : n3 ≤ c3) (hn3 : n3 ≤ reach) (ht : Tab w) (hf : fewP ⟨k, v, i, E, t, l1, l2, l3⟩ = true) (K : UInt8) (T : List UInt8) (hTl : T.length ≤ 100000) (hT1 : 1 ≤ T.length) (hpa : ptP ⟨k, 1, i, E, t, l1, l2, l3⟩ = (K :: 1 :: T, 0)) (hpb : ptP ⟨k, 2, i, E, t, l1, l2, l3⟩ = (K :: 2 :: T, 0)) (hpc : ptP ⟨k, 0, i, E, t, l1, l2, l3⟩ = ([], 1)) (ht0 : (t == 0) = false) :
    Calls Tryd.prog 10 #[.agg #[.int .i64 k, .int .i64 v, .int .i64 i, .int .i64 E, .int .i64 t, .slice A1 n1 c1, .slice A2 n2 c2, .slice A3 n3 c3]] w fun e w' => e = .returned (.bool true) ∧ Below w.heap.size w w' := by
  have HT := Lib.hid ht
  have H1 := Lib.hid h1
  have H2 := Lib.hid h2
  have H3 := Lib.hid h3
  have hr1 : n1 ≤ 140737488351232 := hn1
  have hr2 : n2 ≤ 140737488351232 := hn2
  have hr3 : n3 ≤ 140737488351232 := hn3
  have HW0 := Lib.hid (show Below w.heap.size w (w.alloc (.cells #[.int .i64 k, .int .i64 v, .int .i64 i, .int .i64 E, .int .i64 t, .slice A1 n1 c1, .slice A2 n2 c2, .slice A3 n3 c3] 38)) from bel_alloc (Below.refl _ _) _)
  clear ht h1 h2 h3
  have HFEW := Lib.hid hf
  clear hf
  have HPA := Lib.hid hpa
  have HPB := Lib.hid hpb
  have HPC := Lib.hid hpc
  clear hpa hpb hpc
  go_enter Tryd.func10, Tryd.ntmps10
  go_wp2_with (first
    | (go_at_call 22; have HBW := Lib.hid (Below.setCell HBw4.out (p := ⟨w2.heap.size, 1, none⟩) hg2 (.int .i64 0)); have HKW := Lib.hid (show (w4.setCell ⟨w2.heap.size, 1, none⟩ (.int .i64 0)).heap[w2.heap.size]? = some (.cells #[.int .i64 k, .int .i64 0, .int .i64 i, .int .i64 E, .int .i64 t, .slice A1 n1 c1, .slice A2 n2 c2, .slice A3 n3 c3] 38) from heap_set HKw4.out 1 _); have HOW := Lib.hid (BoxP_off (h := w2.heap.size) (j := 1) (u := .int .i64 0) HOw4.out hne2); have HLO := Lib.hid (show w.heap.size < (w4.setCell ⟨w2.heap.size, 1, none⟩ (.int .i64 0)).heap.size by rw [size_set]; exact HLw4.out); (with_reducible refine (PutResp_is k 0 i E t A1 n1 c1 l1 A2 n2 c2 l2 A3 n3 c3 l3 w (w4.setCell ⟨w2.heap.size, 1, none⟩ (.int .i64 0)) H1.out hr1 H2.out hr2 H3.out hr3 HBW.out HPC.out).mono ?_); rintro e w5 ⟨F1, F2, F3, rfl, hRF, hcF, hb9⟩; have hb9' := hb9; have HRF := Lib.hid hRF; have HKw5 := Lib.hid (blk_below HKW.out hb9); have HBw5 := Lib.hid (HBW.out.trans (hb9.mono HBW.out.size)); have HDw5 := Lib.hid (show Below ((w4.setCell ⟨w2.heap.size, 1, none⟩ (.int .i64 0))).heap.size (w4.setCell ⟨w2.heap.size, 1, none⟩ (.int .i64 0)) w5 from hb9); have HOw5 := Lib.hid (BoxP_below HOW.out hb9 HLO.out); have HLw5 := Lib.hid (Nat.lt_of_lt_of_le HLO.out hb9.size); obtain ⟨⟨y0, y1, y2, y3, y4, y5, y6, y7⟩, yf⟩ := boxP_blk HKw5.out; obtain ⟨o0, o1, o2, o3, o4, o5, o6, o7⟩ := HOw5.out; clear HBW HKW HOW HLO hb9 ; obtain rfl : F2 = 0 := hRF.len.symm; have HRD5 := Lib.hid (rnum HRD4.out (boxP_blk HKw4.out).1.2.1 hb9'); have HRE5 := Lib.hid (rnum HRE.out (boxP_blk HKw4.out).1.2.1 hb9'); have h8 : T.length + 1 + 1 = D2 := hlD; have hd2 : (2 : Int) ≤ (D2 : Int) := (by omega); have HTD := Lib.hid h8; clear hRF hb9' h8 hlD hlE)
    | (go_at_call 22; have HBW := Lib.hid (Below.setCell HBw3.out (p := ⟨w2.heap.size, 1, none⟩) hg2 (.int .i64 2)); have HKW := Lib.hid (show (w3.setCell ⟨w2.heap.size, 1, none⟩ (.int .i64 2)).heap[w2.heap.size]? = some (.cells #[.int .i64 k, .int .i64 2, .int .i64 i, .int .i64 E, .int .i64 t, .slice A1 n1 c1, .slice A2 n2 c2, .slice A3 n3 c3] 38) from heap_set HKw3.out 1 _); have HOW := Lib.hid (BoxP_off (h := w2.heap.size) (j := 1) (u := .int .i64 2) HOw3.out hne2); have HLO := Lib.hid (show w.heap.size < (w3.setCell ⟨w2.heap.size, 1, none⟩ (.int .i64 2)).heap.size by rw [size_set]; exact HLw3.out); (with_reducible refine (PutResp_is k 2 i E t A1 n1 c1 l1 A2 n2 c2 l2 A3 n3 c3 l3 w (w3.setCell ⟨w2.heap.size, 1, none⟩ (.int .i64 2)) H1.out hr1 H2.out hr2 H3.out hr3 HBW.out HPB.out).mono ?_); rintro e w4 ⟨E1, E2, E3, rfl, hRE, hcE, hb9⟩; have hb9' := hb9; have HRE := Lib.hid hRE; have HKw4 := Lib.hid (blk_below HKW.out hb9); have HBw4 := Lib.hid (HBW.out.trans (hb9.mono HBW.out.size)); have HDw4 := Lib.hid (show Below ((w3.setCell ⟨w2.heap.size, 1, none⟩ (.int .i64 2))).heap.size (w3.setCell ⟨w2.heap.size, 1, none⟩ (.int .i64 2)) w4 from hb9); have HOw4 := Lib.hid (BoxP_below HOW.out hb9 HLO.out); have HLw4 := Lib.hid (Nat.lt_of_lt_of_le HLO.out hb9.size); obtain ⟨⟨y0, y1, y2, y3, y4, y5, y6, y7⟩, yf⟩ := boxP_blk HKw4.out; obtain ⟨o0, o1, o2, o3, o4, o5, o6, o7⟩ := HOw4.out; clear HBW HKW HOW HLO hb9 ; have hlE := hRE.len; obtain rfl : D2 = E2 := hlD.symm.trans hlE; have HRD4 := Lib.hid (rnum HRD.out (boxP_blk HKw3.out).1.2.1 hb9'); clear hRE hb9')
    | (go_at_call 22; have HBW := Lib.hid (bel_alloc HB2.out (.cells #[.int .i64 k, .int .i64 1, .int .i64 i, .int .i64 E, .int .i64 t, .slice A1 n1 c1, .slice A2 n2 c2, .slice A3 n3 c3] 38)); have HKW := Lib.hid (heap_alloc_new w2 (.cells #[.int .i64 k, .int .i64 1, .int .i64 i, .int .i64 E, .int .i64 t, .slice A1 n1 c1, .slice A2 n2 c2, .slice A3 n3 c3] 38)); have HOW := Lib.hid (BoxP_below HX2.out (bel_alloc (Below.refl _ _) (.cells #[.int .i64 k, .int .i64 1, .int .i64 i, .int .i64 E, .int .i64 t, .slice A1 n1 c1, .slice A2 n2 c2, .slice A3 n3 c3] 38)) hl2); have HLO := Lib.hid (show w.heap.size < (w2.alloc (.cells #[.int .i64 k, .int .i64 1, .int .i64 i, .int .i64 E, .int .i64 t, .slice A1 n1 c1, .slice A2 n2 c2, .slice A3 n3 c3] 38)).heap.size by simp; omega); have hg2 : w.heap.size ≤ w2.heap.size := HB2.out.size; have hne2 : w.heap.size ≠ w2.heap.size := Nat.ne_of_lt hl2; (with_reducible refine (PutResp_is k 1 i E t A1 n1 c1 l1 A2 n2 c2 l2 A3 n3 c3 l3 w (w2.alloc (.cells #[.int .i64 k, .int .i64 1, .int .i64 i, .int .i64 E, .int .i64 t, .slice A1 n1 c1, .slice A2 n2 c2, .slice A3 n3 c3] 38)) H1.out hr1 H2.out hr2 H3.out hr3 HBW.out HPA.out).mono ?_); rintro e w3 ⟨D1, D2, D3, rfl, hRD, hcD, hb9⟩; have HRD := Lib.hid hRD; have HKw3 := Lib.hid (blk_below HKW.out hb9); have HBw3 := Lib.hid (HBW.out.trans (hb9.mono HBW.out.size)); have HDw3 := Lib.hid (show Below ((w2.alloc (.cells #[.int .i64 k, .int .i64 1, .int .i64 i, .int .i64 E, .int .i64 t, .slice A1 n1 c1, .slice A2 n2 c2, .slice A3 n3 c3] 38))).heap.size (w2.alloc (.cells #[.int .i64 k, .int .i64 1, .int .i64 i, .int .i64 E, .int .i64 t, .slice A1 n1 c1, .slice A2 n2 c2, .slice A3 n3 c3] 38)) w3 from hb9); have HOw3 := Lib.hid (BoxP_below HOW.out hb9 HLO.out); have HLw3 := Lib.hid (Nat.lt_of_lt_of_le HLO.out hb9.size); obtain ⟨⟨y0, y1, y2, y3, y4, y5, y6, y7⟩, yf⟩ := boxP_blk HKw3.out; obtain ⟨o0, o1, o2, o3, o4, o5, o6, o7⟩ := HOw3.out; clear HBW HKW HOW HLO hb9 ; have hlD := hRD.len; clear hRD)
    | (go_at_call 21; (with_reducible refine (reffewP_any k v i E t A1 n1 c1 l1 A2 n2 c2 l2 A3 n3 c3 l3 w1 H1.out.len (lup H2.out HB1.out) hr2 H3.out.len).mono ?_); rw [HFEW.out]; rintro e w2 ⟨rfl, hb2⟩; have HB2 := Lib.hid (HB1.out.trans (hb2.mono HB1.out.size)); have HX2 := Lib.hid (BoxP_below HX0.out hb2 hl1); have hl2 : w.heap.size < w2.heap.size := World.block_lt_of_cell? w2 _ HX2.out.1; obtain ⟨x0, x1, x2, x3, x4, x5, x6, x7⟩ := HX2.out; clear hb2)
    | (go_at_call 12; (with_reducible refine (live_is w _ HW0.out HT.out).mono ?_); rintro e w1 ⟨rfl, hb1⟩; have HB1 := Lib.hid (HW0.out.trans (hb1.mono HW0.out.size)); have HX0 := Lib.hid (BoxP_at rfl rfl hb1 : BoxP w1 w.heap.size k v i E t (.slice A1 n1 c1) (.slice A2 n2 c2) (.slice A3 n3 c3)); have hl1 : w.heap.size < w1.heap.size := World.block_lt_of_cell? w1 _ HX0.out.1; obtain ⟨u0, u1, u2, u3, u4, u5, u6, u7⟩ := HX0.out; clear hb1))
  have hmx : Tryd.prog.follows .mixedOrders = true := by kernel_rfl
  have h8 := HTD.out
  obtain ⟨ba, oa, x0, rfl, hba, hx0, a0⟩ := HRD5.out.at (k := 0) (by omega)
  obtain ⟨ba', oa', x1, e1, _, hx1, a1⟩ := HRD5.out.at (k := 1) (by omega)
  cases e1
  obtain ⟨bb, ob, z0, rfl, hbb, hz0, b0⟩ := HRE5.out.at (k := 0) (by omega)
  obtain ⟨bb', ob', z1, e1, _, hz1, b1⟩ := HRE5.out.at (k := 1) (by omega)
  cases e1
  simp only [List.getElem?_cons_zero, List.getElem?_cons_succ, Option.some.injEq] at hx0 hx1 hz0 hz1
  subst hx0 hx1 hz0 hz1
  rw [Nat.add_zero] at a0 b0
  have ra := (HRD5.out.cut (i := 2) (m := D2 - 2) (by omega) (some ⟨ba, oa + 2, none⟩) (fun _ => rfl)).drew
  have rb := (HRE5.out.cut (i := 2) (m := D2 - 2) (by omega) (some ⟨bb, ob + 2, none⟩) (fun _ => rfl)).drew
  rw [show ((K :: 1 :: T).drop 2).take (D2 - 2) = T by rw [List.drop_succ_cons, List.drop_succ_cons, List.drop_zero]; exact List.take_of_length_le (by omega)] at ra
  rw [show ((K :: 2 :: T).drop 2).take (D2 - 2) = T by rw [List.drop_succ_cons, List.drop_succ_cons, List.drop_zero]; exact List.take_of_length_le (by omega)] at rb
  have HS := Lib.hid (show (fun W9 : World => W9.cell? ⟨ba, oa, none⟩ = some (.int .u8 (K.toNat : Int)) ∧ W9.cell? ⟨ba, oa + 1, none⟩ = some (.int .u8 1) ∧ W9.cell? ⟨bb, ob, none⟩ = some (.int .u8 (K.toNat : Int)) ∧ W9.cell? ⟨bb, ob + 1, none⟩ = some (.int .u8 2) ∧ Rd W9 w5.heap.size (some ⟨ba, oa + 2, none⟩) (D2 - 2) T ∧ Rd W9 w5.heap.size (some ⟨bb, ob + 2, none⟩) (D2 - 2) T) w5.drew from ⟨a0, a1, b0, b1, ra, rb⟩)
  clear a0 a1 b0 b1 ra rb
  have i0 : 0 < D2 := by omega
  have i1 : 1 < D2 := by omega
  have i2 : 2 ≤ D2 := by omega
  have i3 : (1 : Int) < (D2 : Int) := by omega
  have i9 : ¬ D3 = 2 := by omega
  have i10 : ¬ E3 = 2 := by omega
  have i5 : (D2 : Int) ≤ (D3 : Int) := by omega
  have i6 : (D2 : Int) ≤ (E3 : Int) := by omega
  have i7 : (2 : Int) ≤ (D3 : Int) := by omega
  have i8 : (2 : Int) ≤ (E3 : Int) := by omega
  clear h8
  refine region_let (fun W9 : World => W9.cell? ⟨ba, oa, none⟩ = some (.int .u8 (K.toNat : Int)) ∧ W9.cell? ⟨ba, oa + 1, none⟩ = some (.int .u8 1) ∧ W9.cell? ⟨bb, ob, none⟩ = some (.int .u8 (K.toNat : Int)) ∧ W9.cell? ⟨bb, ob + 1, none⟩ = some (.int .u8 2) ∧ Rd W9 w5.heap.size (some ⟨ba, oa + 2, none⟩) (D2 - 2) T ∧ Rd W9 w5.heap.size (some ⟨bb, ob + 2, none⟩) (D2 - 2) T) 99 40 hmx rfl fun ops Q HOPS HQ => ?_
  refine stepQ HOPS 0 1 ?_ (by decide) rfl (by kernel_rfl) (by kernel_rfl) rfl ?_ HS.out ?_
  rotate_left
  · intro w9 hS9; obtain ⟨q0, q1, q2, q3, q4, q5⟩ := hS9; have r0 := str_of w9 _ _ (D2 - 2) (D3 - 2) T q4; have r1 := str_of w9 _ _ (D2 - 2) (E3 - 2) T q5; go_simp; (first | done | with_reducible rfl)
  try simp only [Act.put, List.setIfInBounds_toArray, List.set_cons_zero, List.set_cons_succ]
  refine stepQ HOPS 1 3 ?_ (by decide) rfl (by kernel_rfl) (by kernel_rfl) rfl ?_ HS.out ?_
  rotate_left
  · intro w9 hS9; obtain ⟨q0, q1, q2, q3, q4, q5⟩ := hS9; have r0 := str_of w9 _ _ (D2 - 2) (D3 - 2) T q4; have r1 := str_of w9 _ _ (D2 - 2) (E3 - 2) T q5; go_simp; (first | done | with_reducible rfl)
  try simp only [Act.put, List.setIfInBounds_toArray, List.set_cons_zero, List.set_cons_succ]
  refine stepQ HOPS 2 7 ?_ (by decide) rfl (by kernel_rfl) (by kernel_rfl) rfl ?_ HS.out ?_
  rotate_left
  · intro w9 hS9; obtain ⟨q0, q1, q2, q3, q4, q5⟩ := hS9; have r0 := str_of w9 _ _ (D2 - 2) (D3 - 2) T q4; have r1 := str_of w9 _ _ (D2 - 2) (E3 - 2) T q5; go_simp; (first | done | with_reducible rfl)
  try simp only [Act.put, List.setIfInBounds_toArray, List.set_cons_zero, List.set_cons_succ]
  refine stepQ HOPS 3 15 ?_ (by decide) rfl (by kernel_rfl) (by kernel_rfl) rfl ?_ HS.out ?_
  rotate_left
  · intro w9 hS9; obtain ⟨q0, q1, q2, q3, q4, q5⟩ := hS9; have r0 := str_of w9 _ _ (D2 - 2) (D3 - 2) T q4; have r1 := str_of w9 _ _ (D2 - 2) (E3 - 2) T q5; go_simp; (first | done | with_reducible rfl)
  try simp only [Act.put, List.setIfInBounds_toArray, List.set_cons_zero, List.set_cons_succ]
  refine stepQ HOPS 4 31 ?_ (by decide) rfl (by kernel_rfl) (by kernel_rfl) rfl ?_ HS.out ?_
  rotate_left
  · intro w9 hS9; obtain ⟨q0, q1, q2, q3, q4, q5⟩ := hS9; have r0 := str_of w9 _ _ (D2 - 2) (D3 - 2) T q4; have r1 := str_of w9 _ _ (D2 - 2) (E3 - 2) T q5; go_simp; (first | done | with_reducible rfl)
  try simp only [Act.put, List.setIfInBounds_toArray, List.set_cons_zero, List.set_cons_succ]
  refine stepQ HOPS 5 63 ?_ (by decide) rfl (by kernel_rfl) (by kernel_rfl) rfl ?_ HS.out ?_
  rotate_left
  · intro w9 hS9; obtain ⟨q0, q1, q2, q3, q4, q5⟩ := hS9; have r0 := str_of w9 _ _ (D2 - 2) (D3 - 2) T q4; have r1 := str_of w9 _ _ (D2 - 2) (E3 - 2) T q5; go_simp; (first | done | with_reducible rfl)
  try simp only [Act.put, List.setIfInBounds_toArray, List.set_cons_zero, List.set_cons_succ]
  refine stepQ HOPS 6 127 ?_ (by decide) rfl (by kernel_rfl) (by kernel_rfl) rfl ?_ HS.out ?_
  rotate_left
  · intro w9 hS9; obtain ⟨q0, q1, q2, q3, q4, q5⟩ := hS9; have r0 := str_of w9 _ _ (D2 - 2) (D3 - 2) T q4; have r1 := str_of w9 _ _ (D2 - 2) (E3 - 2) T q5; go_simp; (first | done | with_reducible rfl)
  try simp only [Act.put, List.setIfInBounds_toArray, List.set_cons_zero, List.set_cons_succ]
  refine stepQ HOPS 7 255 ?_ (by decide) rfl (by kernel_rfl) (by kernel_rfl) rfl ?_ HS.out ?_
  rotate_left
  · intro w9 hS9; obtain ⟨q0, q1, q2, q3, q4, q5⟩ := hS9; have r0 := str_of w9 _ _ (D2 - 2) (D3 - 2) T q4; have r1 := str_of w9 _ _ (D2 - 2) (E3 - 2) T q5; go_simp; (first | done | with_reducible rfl)
  try simp only [Act.put, List.setIfInBounds_toArray, List.set_cons_zero, List.set_cons_succ]
  refine stepQ HOPS 8 511 ?_ (by decide) rfl (by kernel_rfl) (by kernel_rfl) rfl ?_ HS.out ?_
  rotate_left
  · intro w9 hS9; obtain ⟨q0, q1, q2, q3, q4, q5⟩ := hS9; have r0 := str_of w9 _ _ (D2 - 2) (D3 - 2) T q4; have r1 := str_of w9 _ _ (D2 - 2) (E3 - 2) T q5; go_simp; (first | done | with_reducible rfl)
  try simp only [Act.put, List.setIfInBounds_toArray, List.set_cons_zero, List.set_cons_succ]
  refine stepQ HOPS 9 1023 ?_ (by decide) rfl (by kernel_rfl) (by kernel_rfl) rfl ?_ HS.out ?_
  rotate_left
  · intro w9 hS9; obtain ⟨q0, q1, q2, q3, q4, q5⟩ := hS9; have r0 := str_of w9 _ _ (D2 - 2) (D3 - 2) T q4; have r1 := str_of w9 _ _ (D2 - 2) (E3 - 2) T q5; go_simp; (first | done | with_reducible rfl)
  try simp only [Act.put, List.setIfInBounds_toArray, List.set_cons_zero, List.set_cons_succ]
  refine stepQ HOPS 10 2047 ?_ (by decide) rfl (by kernel_rfl) (by kernel_rfl) rfl ?_ HS.out ?_
  rotate_left
  · intro w9 hS9; obtain ⟨q0, q1, q2, q3, q4, q5⟩ := hS9; have r0 := str_of w9 _ _ (D2 - 2) (D3 - 2) T q4; have r1 := str_of w9 _ _ (D2 - 2) (E3 - 2) T q5; go_simp; (first | done | with_reducible rfl)
  try simp only [Act.put, List.setIfInBounds_toArray, List.set_cons_zero, List.set_cons_succ]
  refine stepQ HOPS 11 4095 ?_ (by decide) rfl (by kernel_rfl) (by kernel_rfl) rfl ?_ HS.out ?_
  rotate_left
  · intro w9 hS9; obtain ⟨q0, q1, q2, q3, q4, q5⟩ := hS9; have r0 := str_of w9 _ _ (D2 - 2) (D3 - 2) T q4; have r1 := str_of w9 _ _ (D2 - 2) (E3 - 2) T q5; go_simp; (first | done | with_reducible rfl)
  try simp only [Act.put, List.setIfInBounds_toArray, List.set_cons_zero, List.set_cons_succ]
  refine stepQ HOPS 12 8191 ?_ (by decide) rfl (by kernel_rfl) (by kernel_rfl) rfl ?_ HS.out ?_
  rotate_left
  · intro w9 hS9; obtain ⟨q0, q1, q2, q3, q4, q5⟩ := hS9; have r0 := str_of w9 _ _ (D2 - 2) (D3 - 2) T q4; have r1 := str_of w9 _ _ (D2 - 2) (E3 - 2) T q5; go_simp; (first | done | with_reducible rfl)
  try simp only [Act.put, List.setIfInBounds_toArray, List.set_cons_zero, List.set_cons_succ]
  refine stepQ HOPS 13 16383 ?_ (by decide) rfl (by kernel_rfl) (by kernel_rfl) rfl ?_ HS.out ?_
  rotate_left
  · intro w9 hS9; obtain ⟨q0, q1, q2, q3, q4, q5⟩ := hS9; have r0 := str_of w9 _ _ (D2 - 2) (D3 - 2) T q4; have r1 := str_of w9 _ _ (D2 - 2) (E3 - 2) T q5; go_simp; (first | done | with_reducible rfl)
  try simp only [Act.put, List.setIfInBounds_toArray, List.set_cons_zero, List.set_cons_succ]
  refine stepQ HOPS 14 32767 ?_ (by decide) rfl (by kernel_rfl) (by kernel_rfl) rfl ?_ HS.out ?_
  rotate_left
  · intro w9 hS9; obtain ⟨q0, q1, q2, q3, q4, q5⟩ := hS9; have r0 := str_of w9 _ _ (D2 - 2) (D3 - 2) T q4; have r1 := str_of w9 _ _ (D2 - 2) (E3 - 2) T q5; go_simp; (first | done | with_reducible rfl)
  try simp only [Act.put, List.setIfInBounds_toArray, List.set_cons_zero, List.set_cons_succ]
  refine stepQ HOPS 15 65535 ?_ (by decide) rfl (by kernel_rfl) (by kernel_rfl) rfl ?_ HS.out ?_
  rotate_left
  · intro w9 hS9; obtain ⟨q0, q1, q2, q3, q4, q5⟩ := hS9; have r0 := str_of w9 _ _ (D2 - 2) (D3 - 2) T q4; have r1 := str_of w9 _ _ (D2 - 2) (E3 - 2) T q5; go_simp; (first | done | with_reducible rfl)
  try simp only [Act.put, List.setIfInBounds_toArray, List.set_cons_zero, List.set_cons_succ]
  refine stepQ HOPS 16 131071 ?_ (by decide) rfl (by kernel_rfl) (by kernel_rfl) rfl ?_ HS.out ?_
  rotate_left
  · intro w9 hS9; obtain ⟨q0, q1, q2, q3, q4, q5⟩ := hS9; have r0 := str_of w9 _ _ (D2 - 2) (D3 - 2) T q4; have r1 := str_of w9 _ _ (D2 - 2) (E3 - 2) T q5; go_simp; (first | done | with_reducible rfl)
  try simp only [Act.put, List.setIfInBounds_toArray, List.set_cons_zero, List.set_cons_succ]
  refine stepQ HOPS 17 262143 ?_ (by decide) rfl (by kernel_rfl) (by kernel_rfl) rfl ?_ HS.out ?_
  rotate_left
  · intro w9 hS9; obtain ⟨q0, q1, q2, q3, q4, q5⟩ := hS9; have r0 := str_of w9 _ _ (D2 - 2) (D3 - 2) T q4; have r1 := str_of w9 _ _ (D2 - 2) (E3 - 2) T q5; go_simp; (first | done | with_reducible rfl)
  try simp only [Act.put, List.setIfInBounds_toArray, List.set_cons_zero, List.set_cons_succ]
  refine stepQ HOPS 18 524287 ?_ (by decide) rfl (by kernel_rfl) (by kernel_rfl) rfl ?_ HS.out ?_
  rotate_left
  · intro w9 hS9; obtain ⟨q0, q1, q2, q3, q4, q5⟩ := hS9; have r0 := str_of w9 _ _ (D2 - 2) (D3 - 2) T q4; have r1 := str_of w9 _ _ (D2 - 2) (E3 - 2) T q5; go_simp; (first | done | with_reducible rfl)
  try simp only [Act.put, List.setIfInBounds_toArray, List.set_cons_zero, List.set_cons_succ]
  refine stepQ HOPS 19 1048575 ?_ (by decide) rfl (by kernel_rfl) (by kernel_rfl) rfl ?_ HS.out ?_
  rotate_left
  · intro w9 hS9; obtain ⟨q0, q1, q2, q3, q4, q5⟩ := hS9; have r0 := str_of w9 _ _ (D2 - 2) (D3 - 2) T q4; have r1 := str_of w9 _ _ (D2 - 2) (E3 - 2) T q5; go_simp; (first | done | with_reducible rfl)
  try simp only [Act.put, List.setIfInBounds_toArray, List.set_cons_zero, List.set_cons_succ]
  refine stepQ HOPS 20 2097151 ?_ (by decide) rfl (by kernel_rfl) (by kernel_rfl) rfl ?_ HS.out ?_
  rotate_left
  · intro w9 hS9; obtain ⟨q0, q1, q2, q3, q4, q5⟩ := hS9; have r0 := str_of w9 _ _ (D2 - 2) (D3 - 2) T q4; have r1 := str_of w9 _ _ (D2 - 2) (E3 - 2) T q5; go_simp; (first | done | with_reducible rfl)
  try simp only [Act.put, List.setIfInBounds_toArray, List.set_cons_zero, List.set_cons_succ]
  refine stepQ HOPS 21 4194303 ?_ (by decide) rfl (by kernel_rfl) (by kernel_rfl) rfl ?_ HS.out ?_
  rotate_left
  · intro w9 hS9; obtain ⟨q0, q1, q2, q3, q4, q5⟩ := hS9; have r0 := str_of w9 _ _ (D2 - 2) (D3 - 2) T q4; have r1 := str_of w9 _ _ (D2 - 2) (E3 - 2) T q5; go_simp; (first | done | with_reducible rfl)
  try simp only [Act.put, List.setIfInBounds_toArray, List.set_cons_zero, List.set_cons_succ]
  refine stepQ HOPS 22 8388607 ?_ (by decide) rfl (by kernel_rfl) (by kernel_rfl) rfl ?_ HS.out ?_
  rotate_left
  · intro w9 hS9; obtain ⟨q0, q1, q2, q3, q4, q5⟩ := hS9; have r0 := str_of w9 _ _ (D2 - 2) (D3 - 2) T q4; have r1 := str_of w9 _ _ (D2 - 2) (E3 - 2) T q5; go_simp; (first | done | with_reducible rfl)
  try simp only [Act.put, List.setIfInBounds_toArray, List.set_cons_zero, List.set_cons_succ]
  refine stepQ HOPS 23 16777215 ?_ (by decide) rfl (by kernel_rfl) (by kernel_rfl) rfl ?_ HS.out ?_
  rotate_left
  · intro w9 hS9; obtain ⟨q0, q1, q2, q3, q4, q5⟩ := hS9; have r0 := str_of w9 _ _ (D2 - 2) (D3 - 2) T q4; have r1 := str_of w9 _ _ (D2 - 2) (E3 - 2) T q5; go_simp; (first | done | with_reducible rfl)
  try simp only [Act.put, List.setIfInBounds_toArray, List.set_cons_zero, List.set_cons_succ]
  refine stepQ HOPS 24 33554431 ?_ (by decide) rfl (by kernel_rfl) (by kernel_rfl) rfl ?_ HS.out ?_
  rotate_left
  · intro w9 hS9; obtain ⟨q0, q1, q2, q3, q4, q5⟩ := hS9; have r0 := str_of w9 _ _ (D2 - 2) (D3 - 2) T q4; have r1 := str_of w9 _ _ (D2 - 2) (E3 - 2) T q5; go_simp; (first | done | with_reducible rfl)
  try simp only [Act.put, List.setIfInBounds_toArray, List.set_cons_zero, List.set_cons_succ]
  refine stepQ HOPS 25 67108863 ?_ (by decide) rfl (by kernel_rfl) (by kernel_rfl) rfl ?_ HS.out ?_
  rotate_left
  · intro w9 hS9; obtain ⟨q0, q1, q2, q3, q4, q5⟩ := hS9; have r0 := str_of w9 _ _ (D2 - 2) (D3 - 2) T q4; have r1 := str_of w9 _ _ (D2 - 2) (E3 - 2) T q5; go_simp; (first | done | with_reducible rfl)
  try simp only [Act.put, List.setIfInBounds_toArray, List.set_cons_zero, List.set_cons_succ]
  refine stepQ HOPS 26 134217727 ?_ (by decide) rfl (by kernel_rfl) (by kernel_rfl) rfl ?_ HS.out ?_
  rotate_left
  · intro w9 hS9; obtain ⟨q0, q1, q2, q3, q4, q5⟩ := hS9; have r0 := str_of w9 _ _ (D2 - 2) (D3 - 2) T q4; have r1 := str_of w9 _ _ (D2 - 2) (E3 - 2) T q5; go_simp; (first | done | with_reducible rfl)
  try simp only [Act.put, List.setIfInBounds_toArray, List.set_cons_zero, List.set_cons_succ]
  refine stepQ HOPS 27 268435455 ?_ (by decide) rfl (by kernel_rfl) (by kernel_rfl) rfl ?_ HS.out ?_
  rotate_left
  · intro w9 hS9; obtain ⟨q0, q1, q2, q3, q4, q5⟩ := hS9; have r0 := str_of w9 _ _ (D2 - 2) (D3 - 2) T q4; have r1 := str_of w9 _ _ (D2 - 2) (E3 - 2) T q5; go_simp; (first | done | with_reducible rfl)
  try simp only [Act.put, List.setIfInBounds_toArray, List.set_cons_zero, List.set_cons_succ]
  refine stepQ HOPS 28 536870911 ?_ (by decide) rfl (by kernel_rfl) (by kernel_rfl) rfl ?_ HS.out ?_
  rotate_left
  · intro w9 hS9; obtain ⟨q0, q1, q2, q3, q4, q5⟩ := hS9; have r0 := str_of w9 _ _ (D2 - 2) (D3 - 2) T q4; have r1 := str_of w9 _ _ (D2 - 2) (E3 - 2) T q5; go_simp; (first | done | with_reducible rfl)
  try simp only [Act.put, List.setIfInBounds_toArray, List.set_cons_zero, List.set_cons_succ]
  refine stepQ HOPS 29 1073741823 ?_ (by decide) rfl (by kernel_rfl) (by kernel_rfl) rfl ?_ HS.out ?_
  rotate_left
  · intro w9 hS9; obtain ⟨q0, q1, q2, q3, q4, q5⟩ := hS9; have r0 := str_of w9 _ _ (D2 - 2) (D3 - 2) T q4; have r1 := str_of w9 _ _ (D2 - 2) (E3 - 2) T q5; go_simp; (first | done | with_reducible rfl)
  try simp only [Act.put, List.setIfInBounds_toArray, List.set_cons_zero, List.set_cons_succ]
  refine stepQ HOPS 30 2147483647 ?_ (by decide) rfl (by kernel_rfl) (by kernel_rfl) rfl ?_ HS.out ?_
  rotate_left
  · intro w9 hS9; obtain ⟨q0, q1, q2, q3, q4, q5⟩ := hS9; have r0 := str_of w9 _ _ (D2 - 2) (D3 - 2) T q4; have r1 := str_of w9 _ _ (D2 - 2) (E3 - 2) T q5; go_simp; (first | done | with_reducible rfl)
  try simp only [Act.put, List.setIfInBounds_toArray, List.set_cons_zero, List.set_cons_succ]
  refine stepQ HOPS 31 4294967295 ?_ (by decide) rfl (by kernel_rfl) (by kernel_rfl) rfl ?_ HS.out ?_
  rotate_left
  · intro w9 hS9; obtain ⟨q0, q1, q2, q3, q4, q5⟩ := hS9; have r0 := str_of w9 _ _ (D2 - 2) (D3 - 2) T q4; have r1 := str_of w9 _ _ (D2 - 2) (E3 - 2) T q5; go_simp; (first | done | with_reducible rfl)
  try simp only [Act.put, List.setIfInBounds_toArray, List.set_cons_zero, List.set_cons_succ]
  refine stepQ HOPS 32 8589934591 ?_ (by decide) rfl (by kernel_rfl) (by kernel_rfl) rfl ?_ HS.out ?_
  rotate_left
  · intro w9 hS9; obtain ⟨q0, q1, q2, q3, q4, q5⟩ := hS9; have r0 := str_of w9 _ _ (D2 - 2) (D3 - 2) T q4; have r1 := str_of w9 _ _ (D2 - 2) (E3 - 2) T q5; go_simp; (first | done | with_reducible rfl)
  try simp only [Act.put, List.setIfInBounds_toArray, List.set_cons_zero, List.set_cons_succ]
  refine stepQ HOPS 33 17179869183 ?_ (by decide) rfl (by kernel_rfl) (by kernel_rfl) rfl ?_ HS.out ?_
  rotate_left
  · intro w9 hS9; obtain ⟨q0, q1, q2, q3, q4, q5⟩ := hS9; have r0 := str_of w9 _ _ (D2 - 2) (D3 - 2) T q4; have r1 := str_of w9 _ _ (D2 - 2) (E3 - 2) T q5; go_simp; (first | done | with_reducible rfl)
  try simp only [Act.put, List.setIfInBounds_toArray, List.set_cons_zero, List.set_cons_succ]
  refine stepQ HOPS 34 34359738367 ?_ (by decide) rfl (by kernel_rfl) (by kernel_rfl) rfl ?_ HS.out ?_
  rotate_left
  · intro w9 hS9; obtain ⟨q0, q1, q2, q3, q4, q5⟩ := hS9; have r0 := str_of w9 _ _ (D2 - 2) (D3 - 2) T q4; have r1 := str_of w9 _ _ (D2 - 2) (E3 - 2) T q5; go_simp; (first | done | with_reducible rfl)
  try simp only [Act.put, List.setIfInBounds_toArray, List.set_cons_zero, List.set_cons_succ]
  refine stepQ HOPS 35 68719476735 ?_ (by decide) rfl (by kernel_rfl) (by kernel_rfl) rfl ?_ HS.out ?_
  rotate_left
  · intro w9 hS9; obtain ⟨q0, q1, q2, q3, q4, q5⟩ := hS9; have r0 := str_of w9 _ _ (D2 - 2) (D3 - 2) T q4; have r1 := str_of w9 _ _ (D2 - 2) (E3 - 2) T q5; go_simp; (first | done | with_reducible rfl)
  try simp only [Act.put, List.setIfInBounds_toArray, List.set_cons_zero, List.set_cons_succ]
  refine stepQ HOPS 36 137438953471 ?_ (by decide) rfl (by kernel_rfl) (by kernel_rfl) rfl ?_ HS.out ?_
  rotate_left
  · intro w9 hS9; obtain ⟨q0, q1, q2, q3, q4, q5⟩ := hS9; have r0 := str_of w9 _ _ (D2 - 2) (D3 - 2) T q4; have r1 := str_of w9 _ _ (D2 - 2) (E3 - 2) T q5; go_simp; (first | done | with_reducible rfl)
  try simp only [Act.put, List.setIfInBounds_toArray, List.set_cons_zero, List.set_cons_succ]
  refine stepQ HOPS 37 274877906943 ?_ (by decide) rfl (by kernel_rfl) (by kernel_rfl) rfl ?_ HS.out ?_
  rotate_left
  · intro w9 hS9; obtain ⟨q0, q1, q2, q3, q4, q5⟩ := hS9; have r0 := str_of w9 _ _ (D2 - 2) (D3 - 2) T q4; have r1 := str_of w9 _ _ (D2 - 2) (E3 - 2) T q5; go_simp; (first | done | with_reducible rfl)
  try simp only [Act.put, List.setIfInBounds_toArray, List.set_cons_zero, List.set_cons_succ]
  refine stepQ HOPS 38 549755813887 ?_ (by decide) rfl (by kernel_rfl) (by kernel_rfl) rfl ?_ HS.out ?_
  rotate_left
  · intro w9 hS9; obtain ⟨q0, q1, q2, q3, q4, q5⟩ := hS9; have r0 := str_of w9 _ _ (D2 - 2) (D3 - 2) T q4; have r1 := str_of w9 _ _ (D2 - 2) (E3 - 2) T q5; go_simp; (first | done | with_reducible rfl)
  try simp only [Act.put, List.setIfInBounds_toArray, List.set_cons_zero, List.set_cons_succ]
  refine stepQ HOPS 39 1099511627775 ?_ (by decide) rfl (by kernel_rfl) (by kernel_rfl) rfl ?_ HS.out ?_
  rotate_left
  · intro w9 hS9; obtain ⟨q0, q1, q2, q3, q4, q5⟩ := hS9; have r0 := str_of w9 _ _ (D2 - 2) (D3 - 2) T q4; have r1 := str_of w9 _ _ (D2 - 2) (E3 - 2) T q5; go_simp; (first | done | with_reducible rfl)
  try simp only [Act.put, List.setIfInBounds_toArray, List.set_cons_zero, List.set_cons_succ]
  refine stepE HOPS (by kernel_rfl) (HQ.out _ _ ?_)
  clear HQ HOPS
  clear Q ops
  go_wp2
  go_ret
  exact ⟨rfl, bel_drew HBw5.out⟩
theorem protoWaits_walk (k v i E t : Int) (A1 : Option Addr) (n1 c1 : Nat) (l1 : List Int) (A2 : Option Addr) (n2 c2 : Nat) (l2 : List ByteArray) (A3 : Option Addr) (n3 c3 : Nat) (l3 : List UInt8) (w : World) (h1 : RdL w w.heap.size A1 n1 l1) (hn1 : n1 ≤ reach) (h2 : RdL w w.heap.size A2 n2 l2) (hn2 : n2 ≤ reach) (h3 : Rd w w.heap.size A3 n3 l3) (hc3 : n3 ≤ c3) (hn3 : n3 ≤ reach) (ht : Tab w) :
    Calls Tryd.prog 10 #[.agg #[.int .i64 k, .int .i64 v, .int .i64 i, .int .i64 E, .int .i64 t, .slice A1 n1 c1, .slice A2 n2 c2, .slice A3 n3 c3]] w fun e w' => e = .returned (.bool true) ∧ Below w.heap.size w w' := by
  rcases hf : fewP ⟨k, v, i, E, t, l1, l2, l3⟩ with _ | _
  · exact waits_n k v i E t A1 n1 c1 l1 A2 n2 c2 l2 A3 n3 c3 l3 w h1 hn1 h2 hn2 h3 hc3 hn3 ht hf
  by_cases hck : ckP ⟨k, 1, i, E, t, l1, l2, l3⟩ = 0
  · have hck2 : ckP ⟨k, 2, i, E, t, l1, l2, l3⟩ = 0 := ckP_at (r := ⟨k, v, i, E, t, l1, l2, l3⟩) (x := 2) hck (by omega)
    have q1 : ptP ⟨k, 1, i, E, t, l1, l2, l3⟩ = (respC.put (atP ⟨k, v, i, E, t, l1, l2, l3⟩ 1), 0) := by unfold ptP; rw [if_pos hck]; rfl
    have q2 : ptP ⟨k, 2, i, E, t, l1, l2, l3⟩ = (respC.put (atP ⟨k, v, i, E, t, l1, l2, l3⟩ 2), 0) := by unfold ptP; rw [if_pos hck2]; rfl
    have hlen := ptP_len q1
    rw [putP_at _ (by omega)] at q1 q2 hlen
    obtain ⟨T, hT⟩ : ∃ T, vb (zz i) ++ (vb (zz E) ++ (vb (zz t) ++ tailP ⟨k, v, i, E, t, l1, l2, l3⟩)) = T := ⟨_, rfl⟩
    have hT1 : 1 ≤ T.length := by
      rw [← hT, List.length_append]
      have := vb_pos (zz i)
      omega
    simp only [hT] at q1 q2 hlen
    have hc0 := ckP_at0 (r := ⟨k, v, i, E, t, l1, l2, l3⟩) hck
    by_cases ht0 : t = 0
    · rw [if_pos ht0] at hc0
      have q3 : ptP ⟨k, 0, i, E, t, l1, l2, l3⟩ = (respC.put (atP ⟨k, v, i, E, t, l1, l2, l3⟩ 0), 0) := by unfold ptP; rw [if_pos (show ckP ⟨k, 0, i, E, t, l1, l2, l3⟩ = 0 from hc0)]; rfl
      rw [putP_at0] at q3
      exact waits_ok k v i E t A1 n1 c1 l1 A2 n2 c2 l2 A3 n3 c3 l3 w h1 hn1 h2 hn2 h3 hc3 hn3 ht hf (UInt8.ofNat k.toNat) T (vb (zz i) ++ (vb (zz E) ++ tailP ⟨k, v, i, E, t, l1, l2, l3⟩)) (by simp only [List.length_cons] at hlen; omega) hT1 q1 q2 q3 ht0 (by
        have hz := zero_one
        rw [← hT, ht0]
        simp only [List.length_append]
        omega)
    · rw [if_neg ht0] at hc0
      have q3 : ptP ⟨k, 0, i, E, t, l1, l2, l3⟩ = ([], 1) := by
        unfold ptP
        rw [if_neg (by intro h; rw [show ckP ⟨k, 0, i, E, t, l1, l2, l3⟩ = 1 from hc0] at h; cases h), show ckP ⟨k, 0, i, E, t, l1, l2, l3⟩ = 1 from hc0]
      exact waits_bad k v i E t A1 n1 c1 l1 A2 n2 c2 l2 A3 n3 c3 l3 w h1 hn1 h2 hn2 h3 hc3 hn3 ht hf (UInt8.ofNat k.toNat) T (by simp only [List.length_cons] at hlen; omega) hT1 q1 q2 q3 (by simpa using ht0)
  · have q1 : ptP ⟨k, 1, i, E, t, l1, l2, l3⟩ = ([], ckP ⟨k, 1, i, E, t, l1, l2, l3⟩) := by unfold ptP; rw [if_neg hck]
    exact waits_e k v i E t A1 n1 c1 l1 A2 n2 c2 l2 A3 n3 c3 l3 w h1 hn1 h2 hn2 h3 hc3 hn3 ht hf _ (by simpa [bne_iff_ne] using hck) q1
end Go.Proofs.YthhdhdjdhekgpaaDoor.Pro
