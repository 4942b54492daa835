/- Joined: ProLaws5. -/
import Derived.Test.YthhdhdjdhekgpaaDoorProIs
import Derived.Test.YthhdhdjdhekgpaaDoorProVers
import Derived.Test.YthhdhdjdhekgpaaDoorProLens
import Derived.Test.YthhdhdjdhekgpaaDoorProLaws4
import Derived.Test.YthhdhdjdhekgpaaDoorInC
/- The walk of ProtoVersions. -/
namespace Go.Proofs.YthhdhdjdhekgpaaDoor.Pro
open Go.RowKit Go.Proofs.YthhdhdjdhekgpaaDoor.Oct Go.Proofs.YthhdhdjdhekgpaaDoor.Rec Go.Proofs.YthhdhdjdhekgpaaDoor.Cod Go.Proofs.YthhdhdjdhekgpaaDoor.Lay Go.Proofs.YthhdhdjdhekgpaaDoor.RowF Go.Proofs.YthhdhdjdhekgpaaDoor.InR

theorem boxQ_blk {W : World} {g : Nat} {T : TypeId} {k v i : Int} {s : ByteArray} {a b c : Value} (h : W.heap[g]? = some (.cells #[.int .i64 k, .int .i64 v, .int .i64 i, .string s, a, b, c] T (0, 0))) : BoxQ W g k v i s a b c ∧ W.frozen? ⟨g, 1, none⟩ = false :=
  ⟨⟨heap_cell h 0, heap_cell h 1, heap_cell h 2, heap_cell h 3, heap_cell h 4, heap_cell h 5, heap_cell h 6⟩, heap_frozen h 1⟩
theorem tailQ_pos {r : Rq} (h : ckQ r = 0) : 1 ≤ (tailQ r).length := by
  obtain ⟨h1, ⟨i0, i1⟩, hw, hw0, hn, hi, ⟨ht0, ht1⟩, hts, hb⟩ := ckQ_iff.1 h
  have hk := nT_in (known_iff.1 h1).1
  unfold tailQ
  simp only [List.length_append]
  have h3 : 1 ≤ ((textsC r.kind).put r.texts).length := by
    by_cases hv : r.kind = 7
    · rw [hv, texts_put7, List.length_append]
      have := vb_pos (zz (r.texts.length : Int))
      omega
    · rw [texts_put0 hv]
      rcases ht : r.texts with _ | ⟨x, l⟩
      · rw [ht] at ht0; simp at ht0; omega
      · rw [putMany_cons, List.length_append]
        have h5 : (txt64.put x).length = (vb (zz (x.size : Int))).length + x.size := by show (vb (zz (x.size : Int)) ++ x.data.toList).length = _; rw [List.length_append, str_len]
        have := vb_pos (zz (x.size : Int))
        omega
  omega
set_option maxRecDepth 100000 in
set_option maxHeartbeats 8000000 in
theorem vers_n (k v i : Int) (s : ByteArray) (A1 : Option Addr) (n1 c1 : Nat) (l1 : List Int) (A2 : Option Addr) (n2 c2 : Nat) (l2 : List ByteArray) (A3 : Option Addr) (n3 c3 : Nat) (l3 : List UInt8) (w : World) (hs : s.size ≤ reach) (h1 : RdL w w.heap.size A1 n1 l1) (hn1 : n1 ≤ reach) (h2 : RdL w w.heap.size A2 n2 l2) (hn2 : n2 ≤ reach) (h3 : Rd w w.heap.size A3 n3 l3) (_hc3 : n3 ≤ c3) (hn3 : n3 ≤ reach) (ht : Tab w) (hf : fewQ ⟨k, v, i, s, l1, l2, l3⟩ = false) :
    Calls Tryd.prog 9 #[.agg #[.int .i64 k, .int .i64 v, .int .i64 i, .string s, .slice A1 n1 c1, .slice A2 n2 c2, .slice A3 n3 c3]] w fun e w' => e = .returned (.bool true) ∧ Below w.heap.size w w' := by
  have HT := Lib.hid ht
  have H1 := Lib.hid h1
  have H2 := Lib.hid h2
  have H3 := Lib.hid h3
  have hr1 : n1 ≤ 140737488351232 := hn1
  have hr2 : n2 ≤ 140737488351232 := hn2
  have hr3 : n3 ≤ 140737488351232 := hn3
  have hrs : s.size ≤ 140737488351232 := hs
  have HW0 := Lib.hid (show Below w.heap.size w (w.alloc (.cells #[.int .i64 k, .int .i64 v, .int .i64 i, .string s, .slice A1 n1 c1, .slice A2 n2 c2, .slice A3 n3 c3] 26)) from bel_alloc (Below.refl _ _) _)
  clear ht h1 h2 h3
  have HFEW := Lib.hid hf
  clear hf
  go_enter Tryd.func9, Tryd.ntmps9
  go_wp2_with (first
    | (go_at_call 13; (with_reducible refine (reffewQ_any k v i s A1 n1 c1 l1 A2 n2 c2 l2 A3 n3 c3 l3 w1 H1.out.len (lup H2.out HB1.out) hr2 H3.out.len hrs).mono ?_); rw [HFEW.out]; rintro e w2 ⟨rfl, hb2⟩; have HB2 := Lib.hid (HB1.out.trans (hb2.mono HB1.out.size)); have HX2 := Lib.hid (BoxQ_below HX0.out hb2 hl1); have hl2 : w.heap.size < w2.heap.size := World.block_lt_of_cell? w2 _ HX2.out.1; obtain ⟨x0, x1, x2, x3, x4, x5, x6⟩ := HX2.out; clear hb2)
    | (go_at_call 12; (with_reducible refine (live_is w _ HW0.out HT.out).mono ?_); rintro e w1 ⟨rfl, hb1⟩; have HB1 := Lib.hid (HW0.out.trans (hb1.mono HW0.out.size)); have HX0 := Lib.hid (BoxQ_at rfl rfl hb1 : BoxQ w1 w.heap.size k v i s (.slice A1 n1 c1) (.slice A2 n2 c2) (.slice A3 n3 c3)); have hl1 : w.heap.size < w1.heap.size := World.block_lt_of_cell? w1 _ HX0.out.1; obtain ⟨u0, u1, u2, u3, u4, u5, u6⟩ := HX0.out; clear hb1))
  go_ret
  exact ⟨rfl, HB2.out⟩
set_option maxRecDepth 100000 in
set_option maxHeartbeats 8000000 in
theorem vers_e (k v i : Int) (s : ByteArray) (A1 : Option Addr) (n1 c1 : Nat) (l1 : List Int) (A2 : Option Addr) (n2 c2 : Nat) (l2 : List ByteArray) (A3 : Option Addr) (n3 c3 : Nat) (l3 : List UInt8) (w : World) (hs : s.size ≤ reach) (h1 : RdL w w.heap.size A1 n1 l1) (hn1 : n1 ≤ reach) (h2 : RdL w w.heap.size A2 n2 l2) (hn2 : n2 ≤ reach) (h3 : Rd w w.heap.size A3 n3 l3) (_hc3 : n3 ≤ c3) (hn3 : n3 ≤ reach) (ht : Tab w) (hf : fewQ ⟨k, v, i, s, l1, l2, l3⟩ = true) (ee : Int) (hee : (ee != 0) = true) (hpa : ptQ ⟨k, 0, i, { data := #[] }, l1, l2, l3⟩ = ([], ee)) :
    Calls Tryd.prog 9 #[.agg #[.int .i64 k, .int .i64 v, .int .i64 i, .string s, .slice A1 n1 c1, .slice A2 n2 c2, .slice A3 n3 c3]] w fun e w' => e = .returned (.bool true) ∧ Below w.heap.size w w' := by
  have HT := Lib.hid ht
  have H1 := Lib.hid h1
  have H2 := Lib.hid h2
  have H3 := Lib.hid h3
  have hr1 : n1 ≤ 140737488351232 := hn1
  have hr2 : n2 ≤ 140737488351232 := hn2
  have hr3 : n3 ≤ 140737488351232 := hn3
  have hrs : s.size ≤ 140737488351232 := hs
  have HW0 := Lib.hid (show Below w.heap.size w (w.alloc (.cells #[.int .i64 k, .int .i64 v, .int .i64 i, .string s, .slice A1 n1 c1, .slice A2 n2 c2, .slice A3 n3 c3] 26)) from bel_alloc (Below.refl _ _) _)
  clear ht h1 h2 h3
  have HFEW := Lib.hid hf
  clear hf
  have HPA := Lib.hid hpa
  clear hpa
  go_enter Tryd.func9, Tryd.ntmps9
  go_wp2_with (first
    | (go_at_call 14; have HBW := Lib.hid (bel_alloc HB2.out (.cells #[.int .i64 k, .int .i64 0, .int .i64 i, .string { data := #[] }, .slice A1 n1 c1, .slice A2 n2 c2, .slice A3 n3 c3] 26)); have HKW := Lib.hid (heap_alloc_new w2 (.cells #[.int .i64 k, .int .i64 0, .int .i64 i, .string { data := #[] }, .slice A1 n1 c1, .slice A2 n2 c2, .slice A3 n3 c3] 26)); have hg2 : w.heap.size ≤ w2.heap.size := HB2.out.size; (with_reducible refine (PutReq_is k 0 i { data := #[] } A1 n1 c1 l1 A2 n2 c2 l2 A3 n3 c3 l3 w (w2.alloc (.cells #[.int .i64 k, .int .i64 0, .int .i64 i, .string { data := #[] }, .slice A1 n1 c1, .slice A2 n2 c2, .slice A3 n3 c3] 26)) H1.out hr1 H2.out hr2 (by decide) H3.out hr3 HBW.out (HT.out.bel HBW.out) HPA.out).mono ?_); rintro e w3 ⟨D1, D2, D3, rfl, hRD, hcD, hb9⟩; have HRD := Lib.hid hRD; have HKw3 := Lib.hid (blk_below HKW.out hb9); have HBw3 := Lib.hid (HBW.out.trans (hb9.mono HBW.out.size)); have hb9' := hb9; obtain ⟨⟨y0, y1, y2, y3, y4, y5, y6⟩, yf⟩ := boxQ_blk HKw3.out; obtain rfl : D2 = 0 := hRD.len.symm)
    | (go_at_call 13; (with_reducible refine (reffewQ_any k v i s A1 n1 c1 l1 A2 n2 c2 l2 A3 n3 c3 l3 w1 H1.out.len (lup H2.out HB1.out) hr2 H3.out.len hrs).mono ?_); rw [HFEW.out]; rintro e w2 ⟨rfl, hb2⟩; have HB2 := Lib.hid (HB1.out.trans (hb2.mono HB1.out.size)); have HX2 := Lib.hid (BoxQ_below HX0.out hb2 hl1); have hl2 : w.heap.size < w2.heap.size := World.block_lt_of_cell? w2 _ HX2.out.1; obtain ⟨x0, x1, x2, x3, x4, x5, x6⟩ := HX2.out; clear hb2)
    | (go_at_call 12; (with_reducible refine (live_is w _ HW0.out HT.out).mono ?_); rintro e w1 ⟨rfl, hb1⟩; have HB1 := Lib.hid (HW0.out.trans (hb1.mono HW0.out.size)); have HX0 := Lib.hid (BoxQ_at rfl rfl hb1 : BoxQ w1 w.heap.size k v i s (.slice A1 n1 c1) (.slice A2 n2 c2) (.slice A3 n3 c3)); have hl1 : w.heap.size < w1.heap.size := World.block_lt_of_cell? w1 _ HX0.out.1; obtain ⟨u0, u1, u2, u3, u4, u5, u6⟩ := HX0.out; clear hb1))
  go_ret
  exact ⟨rfl, HBw3.out⟩
set_option maxRecDepth 100000 in
set_option maxHeartbeats 8000000 in
theorem vers_ok (k v i : Int) (s : ByteArray) (A1 : Option Addr) (n1 c1 : Nat) (l1 : List Int) (A2 : Option Addr) (n2 c2 : Nat) (l2 : List ByteArray) (A3 : Option Addr) (n3 c3 : Nat) (l3 : List UInt8) (w : World) (hs : s.size ≤ reach) (h1 : RdL w w.heap.size A1 n1 l1) (hn1 : n1 ≤ reach) (h2 : RdL w w.heap.size A2 n2 l2) (hn2 : n2 ≤ reach) (h3 : Rd w w.heap.size A3 n3 l3) (_hc3 : n3 ≤ c3) (hn3 : n3 ≤ reach) (ht : Tab w) (hf : fewQ ⟨k, v, i, s, l1, l2, l3⟩ = true) (K : UInt8) (I : List UInt8) (C : UInt8) (V T : List UInt8) (hV : V = I ++ [C]) (hI : ∀ d ∈ I, 127 < d.toNat) (hC : C.toNat ≤ 127) (hTl : (V ++ T).length ≤ 100000) (hT1 : 1 ≤ T.length) (hpa : ptQ ⟨k, 0, i, { data := #[] }, l1, l2, l3⟩ = (K :: 0 :: (V ++ T), 0)) (hpb : ptQ ⟨k, 1, i, { data := #[] }, l1, l2, l3⟩ = (K :: 1 :: (V ++ T), 0)) (hpc : ptQ ⟨k, 2, i, { data := #[] }, l1, l2, l3⟩ = (K :: 2 :: (V ++ 0 :: T), 0)) :
    Calls Tryd.prog 9 #[.agg #[.int .i64 k, .int .i64 v, .int .i64 i, .string s, .slice A1 n1 c1, .slice A2 n2 c2, .slice A3 n3 c3]] w fun e w' => e = .returned (.bool true) ∧ Below w.heap.size w w' := by
  have HT := Lib.hid ht
  have H1 := Lib.hid h1
  have H2 := Lib.hid h2
  have H3 := Lib.hid h3
  have hr1 : n1 ≤ 140737488351232 := hn1
  have hr2 : n2 ≤ 140737488351232 := hn2
  have hr3 : n3 ≤ 140737488351232 := hn3
  have hrs : s.size ≤ 140737488351232 := hs
  have HW0 := Lib.hid (show Below w.heap.size w (w.alloc (.cells #[.int .i64 k, .int .i64 v, .int .i64 i, .string s, .slice A1 n1 c1, .slice A2 n2 c2, .slice A3 n3 c3] 26)) from bel_alloc (Below.refl _ _) _)
  clear ht h1 h2 h3
  have HFEW := Lib.hid hf
  clear hf
  have HPA := Lib.hid hpa
  have HPB := Lib.hid hpb
  have HPC := Lib.hid hpc
  have HV := Lib.hid hV
  have HI := Lib.hid hI
  have hV1 : 1 ≤ V.length := by rw [hV]; simp
  rw [List.length_append] at hTl
  clear hpa hpb hpc hV hI
  go_enter Tryd.func9, Tryd.ntmps9
  go_wp2_with (first
    | (go_at_call 14; have HBW := Lib.hid (Below.setCell HBw4.out (p := ⟨w2.heap.size, 1, none⟩) hg2 (.int .i64 2)); have HKW := Lib.hid (show (w4.setCell ⟨w2.heap.size, 1, none⟩ (.int .i64 2)).heap[w2.heap.size]? = some (.cells #[.int .i64 k, .int .i64 2, .int .i64 i, .string { data := #[] }, .slice A1 n1 c1, .slice A2 n2 c2, .slice A3 n3 c3] 26) from heap_set HKw4.out 1 _); (with_reducible refine (PutReq_is k 2 i { data := #[] } A1 n1 c1 l1 A2 n2 c2 l2 A3 n3 c3 l3 w (w4.setCell ⟨w2.heap.size, 1, none⟩ (.int .i64 2)) H1.out hr1 H2.out hr2 (by decide) H3.out hr3 HBW.out (HT.out.bel HBW.out) HPC.out).mono ?_); rintro e w5 ⟨F1, F2, F3, rfl, hRF, hcF, hb9⟩; have HRF := Lib.hid hRF; have HKw5 := Lib.hid (blk_below HKW.out hb9); have HBw5 := Lib.hid (HBW.out.trans (hb9.mono HBW.out.size)); have hb9' := hb9; obtain ⟨⟨y0, y1, y2, y3, y4, y5, y6⟩, yf⟩ := boxQ_blk HKw5.out; clear HBW HKW hb9 ; have hlF := hRF.len; have HRD5 := Lib.hid (rnum HRD4.out (boxQ_blk HKw4.out).1.2.1 hb9'); have HRE5 := Lib.hid (rnum HRE.out (boxQ_blk HKw4.out).1.2.1 hb9'); clear hRF hb9'; have h8 : (V ++ T).length + 1 + 1 = D2 := hlD; have h7 : (V ++ 0 :: T).length + 1 + 1 = F2 := hlF; rw [List.length_append] at h8; rw [List.length_append, List.length_cons] at h7; have hd2 : (3 : Int) ≤ (D2 : Int) := (by omega); have hq2 : ((F2 : Int) != wrap64 ((D2 : Int) + 1)) = false := (by rw [IntWalk.wrap64_in _ (by omega)]; have h6 : (F2 : Int) = (D2 : Int) + 1 := (by omega); rw [h6]; simp); have HTD := Lib.hid (And.intro h8 h7); clear h7 h8 hlD hlE hlF)
    | (go_at_call 14; have HBW := Lib.hid (Below.setCell HBw3.out (p := ⟨w2.heap.size, 1, none⟩) hg2 (.int .i64 1)); have HKW := Lib.hid (show (w3.setCell ⟨w2.heap.size, 1, none⟩ (.int .i64 1)).heap[w2.heap.size]? = some (.cells #[.int .i64 k, .int .i64 1, .int .i64 i, .string { data := #[] }, .slice A1 n1 c1, .slice A2 n2 c2, .slice A3 n3 c3] 26) from heap_set HKw3.out 1 _); (with_reducible refine (PutReq_is k 1 i { data := #[] } A1 n1 c1 l1 A2 n2 c2 l2 A3 n3 c3 l3 w (w3.setCell ⟨w2.heap.size, 1, none⟩ (.int .i64 1)) H1.out hr1 H2.out hr2 (by decide) H3.out hr3 HBW.out (HT.out.bel HBW.out) HPB.out).mono ?_); rintro e w4 ⟨E1, E2, E3, rfl, hRE, hcE, hb9⟩; have HRE := Lib.hid hRE; have HKw4 := Lib.hid (blk_below HKW.out hb9); have HBw4 := Lib.hid (HBW.out.trans (hb9.mono HBW.out.size)); have hb9' := hb9; obtain ⟨⟨y0, y1, y2, y3, y4, y5, y6⟩, yf⟩ := boxQ_blk HKw4.out; clear HBW HKW hb9 ; have hlE := hRE.len; obtain rfl : D2 = E2 := hlD.symm.trans hlE; have HRD4 := Lib.hid (rnum HRD.out (boxQ_blk HKw3.out).1.2.1 hb9'); clear hRE hb9')
    | (go_at_call 14; have HBW := Lib.hid (bel_alloc HB2.out (.cells #[.int .i64 k, .int .i64 0, .int .i64 i, .string { data := #[] }, .slice A1 n1 c1, .slice A2 n2 c2, .slice A3 n3 c3] 26)); have HKW := Lib.hid (heap_alloc_new w2 (.cells #[.int .i64 k, .int .i64 0, .int .i64 i, .string { data := #[] }, .slice A1 n1 c1, .slice A2 n2 c2, .slice A3 n3 c3] 26)); have hg2 : w.heap.size ≤ w2.heap.size := HB2.out.size; (with_reducible refine (PutReq_is k 0 i { data := #[] } A1 n1 c1 l1 A2 n2 c2 l2 A3 n3 c3 l3 w (w2.alloc (.cells #[.int .i64 k, .int .i64 0, .int .i64 i, .string { data := #[] }, .slice A1 n1 c1, .slice A2 n2 c2, .slice A3 n3 c3] 26)) H1.out hr1 H2.out hr2 (by decide) H3.out hr3 HBW.out (HT.out.bel HBW.out) HPA.out).mono ?_); rintro e w3 ⟨D1, D2, D3, rfl, hRD, hcD, hb9⟩; have HRD := Lib.hid hRD; have HKw3 := Lib.hid (blk_below HKW.out hb9); have HBw3 := Lib.hid (HBW.out.trans (hb9.mono HBW.out.size)); have hb9' := hb9; obtain ⟨⟨y0, y1, y2, y3, y4, y5, y6⟩, yf⟩ := boxQ_blk HKw3.out; clear HBW HKW hb9 ; have hlD := hRD.len; clear hRD hb9')
    | (go_at_call 13; (with_reducible refine (reffewQ_any k v i s A1 n1 c1 l1 A2 n2 c2 l2 A3 n3 c3 l3 w1 H1.out.len (lup H2.out HB1.out) hr2 H3.out.len hrs).mono ?_); rw [HFEW.out]; rintro e w2 ⟨rfl, hb2⟩; have HB2 := Lib.hid (HB1.out.trans (hb2.mono HB1.out.size)); have HX2 := Lib.hid (BoxQ_below HX0.out hb2 hl1); have hl2 : w.heap.size < w2.heap.size := World.block_lt_of_cell? w2 _ HX2.out.1; obtain ⟨x0, x1, x2, x3, x4, x5, x6⟩ := HX2.out; clear hb2)
    | (go_at_call 12; (with_reducible refine (live_is w _ HW0.out HT.out).mono ?_); rintro e w1 ⟨rfl, hb1⟩; have HB1 := Lib.hid (HW0.out.trans (hb1.mono HW0.out.size)); have HX0 := Lib.hid (BoxQ_at rfl rfl hb1 : BoxQ w1 w.heap.size k v i s (.slice A1 n1 c1) (.slice A2 n2 c2) (.slice A3 n3 c3)); have hl1 : w.heap.size < w1.heap.size := World.block_lt_of_cell? w1 _ HX0.out.1; obtain ⟨u0, u1, u2, u3, u4, u5, u6⟩ := HX0.out; clear hb1))
  go_loopw [11] (fun vi wr => ∃ kk : Nat, vi = .int .i64 (kk : Int) ∧ 2 ≤ kk ∧ kk ≤ I.length + 2 ∧ Below w5.heap.size w5 wr) (fun vi _ => I.length + 3 - (intOf vi).toNat)
  case atStart => exact ⟨2, rfl, Nat.le_refl _, by omega, Below.refl _ _⟩
  case round =>
    obtain ⟨kk, rfl, hk2, hkI, hB⟩ := hrel
    have HB := Lib.hid hB
    clear hB
    obtain ⟨hDa, hFa⟩ := HTD.out
    have hVl : V.length = I.length + 1 := by rw [HV.out]; simp
    obtain ⟨ba, oa, x, rfl, hba, hx, a0⟩ := (HRD5.out.below HB.out (Nat.le_refl _)).at (k := kk) (by omega)
    rw [HV.out] at hx
    obtain ⟨j, rfl⟩ : ∃ j, kk = j + 2 := ⟨kk - 2, by omega⟩
    rw [List.getElem?_cons_succ, List.getElem?_cons_succ] at hx
    have hkd : j + 2 < D2 := by omega
    by_cases hlt : j < I.length
    · have hxI : I[j]? = some x := by
        rw [List.append_assoc, List.getElem?_append_left hlt] at hx
        exact hx
      have hx127 : (127 : Int) < (x.toNat : Int) := by have := HI.out x (List.mem_of_getElem? hxI); omega
      clear hx hxI hDa hFa
      go_wp2
      go_roundw
      case rel => exact ⟨j + 2 + 1, by go_num, by omega, by omega, HB.out⟩
      case measure => simp [intOf]; omega
    · obtain rfl : j = I.length := by omega
      have hxC : x = C := by
        rw [List.append_assoc, List.getElem?_append_right (Nat.le_refl _), Nat.sub_self] at hx
        exact (Option.some.inj hx).symm
      subst hxC
      have hx127 : ¬ (127 : Int) < (x.toNat : Int) := by omega
      clear hx hDa hFa
      go_wp2
      obtain ⟨N, hN⟩ : ∃ N : Nat, (I.length : Int) + 2 + 1 = (N : Int) := ⟨I.length + 3, by omega⟩
      rw [hN]
      have hN2 : N = V.length + 2 := by omega
      obtain ⟨hDa, hFa⟩ := HTD.out
      have HA := Lib.hid ((HRD5.out.below HB.out (Nat.le_refl _)).more HB.out.size)
      have HE := Lib.hid ((HRE5.out.below HB.out (Nat.le_refl _)).more HB.out.size)
      have HF := Lib.hid ((HRF.out.below HB.out (Nat.le_refl _)).more HB.out.size)
      clear a0 hkI hk2 hkd hlt hx127 hN
      have hmx : Tryd.prog.follows .mixedOrders = true := by kernel_rfl
      obtain ⟨ba0, oa0, y0, e0, hba0, hy0, a0⟩ := HA.out.at (k := 0) (by omega)
      cases e0
      obtain ⟨ba1, oa1, y1, e1, hba1, hy1, a1⟩ := HA.out.at (k := 1) (by omega)
      cases e1
      obtain ⟨bb, ob, z0, rfl, hbb, hz0, b0⟩ := HE.out.at (k := 0) (by omega)
      obtain ⟨bb', ob', z1, e1, _, hz1, b1⟩ := HE.out.at (k := 1) (by omega)
      cases e1
      obtain ⟨bc, oc, v1, rfl, hbc, hv1, d1⟩ := HF.out.at (k := 1) (by omega)
      obtain ⟨bc', oc', vN, e1, _, hvN, dN⟩ := HF.out.at (k := N) (by omega)
      cases e1
      rw [hN2, List.getElem?_cons_succ, List.getElem?_cons_succ, List.getElem?_append_right (Nat.le_refl _), Nat.sub_self] at hvN
      simp only [List.getElem?_cons_zero, List.getElem?_cons_succ, Option.some.injEq] at hy0 hy1 hz0 hz1 hv1 hvN
      subst hy0 hy1 hz0 hz1 hv1 hvN
      rw [Nat.add_zero] at a0 b0
      have ra := (HA.out.cut (i := 2) (m := D2 - 2) (by omega) (some ⟨ba, oa + 2, none⟩) (fun _ => rfl)).drew
      have rb := (HE.out.cut (i := 2) (m := D2 - 2) (by omega) (some ⟨bb, ob + 2, none⟩) (fun _ => rfl)).drew
      have rc := (HF.out.cut (i := 2) (m := N - 2) (by omega) (some ⟨bc, oc + 2, none⟩) (fun _ => rfl)).drew
      have rd := (HA.out.cut (i := 2) (m := N - 2) (by omega) (some ⟨ba, oa + 2, none⟩) (fun _ => rfl)).drew
      have re := (HF.out.cut (i := N + 1) (m := F2 - (N + 1)) (by omega) (some ⟨bc, oc + (N + 1), none⟩) (fun _ => rfl)).drew
      have rf := (HA.out.cut (i := N) (m := D2 - N) (by omega) (some ⟨ba, oa + N, none⟩) (fun _ => by rw [hN2]; rfl)).drew
      rw [show ((K :: 0 :: (V ++ T)).drop 2).take (D2 - 2) = V ++ T by rw [List.drop_succ_cons, List.drop_succ_cons, List.drop_zero]; exact List.take_of_length_le (by rw [List.length_append]; omega)] at ra
      rw [show ((K :: 1 :: (V ++ T)).drop 2).take (D2 - 2) = V ++ T by rw [List.drop_succ_cons, List.drop_succ_cons, List.drop_zero]; exact List.take_of_length_le (by rw [List.length_append]; omega)] at rb
      rw [show ((K :: 2 :: (V ++ 0 :: T)).drop 2).take (N - 2) = V by rw [List.drop_succ_cons, List.drop_succ_cons, List.drop_zero, show N - 2 = V.length by omega, List.take_left]] at rc
      rw [show ((K :: 0 :: (V ++ T)).drop 2).take (N - 2) = V by rw [List.drop_succ_cons, List.drop_succ_cons, List.drop_zero, show N - 2 = V.length by omega, List.take_left]] at rd
      rw [show ((K :: 2 :: (V ++ 0 :: T)).drop (N + 1)).take (F2 - (N + 1)) = T by rw [hN2, List.drop_succ_cons, List.drop_succ_cons, show V.length + 1 = (V ++ [0]).length by simp, show V ++ 0 :: T = (V ++ [0]) ++ T by simp, List.drop_left]; exact List.take_of_length_le (by omega)] at re
      rw [show ((K :: 0 :: (V ++ T)).drop N).take (D2 - N) = T by rw [hN2, List.drop_succ_cons, List.drop_succ_cons, List.drop_left]; exact List.take_of_length_le (by omega)] at rf
      have HS := Lib.hid (show (fun W9 : World => W9.cell? ⟨ba, oa, none⟩ = some (.int .u8 (K.toNat : Int)) ∧ W9.cell? ⟨ba, oa + 1, none⟩ = some (.int .u8 0) ∧ W9.cell? ⟨bb, ob, none⟩ = some (.int .u8 (K.toNat : Int)) ∧ W9.cell? ⟨bb, ob + 1, none⟩ = some (.int .u8 1) ∧ W9.cell? ⟨bc, oc + 1, none⟩ = some (.int .u8 2) ∧ W9.cell? ⟨bc, oc + N, none⟩ = some (.int .u8 0) ∧ Rd W9 wr.heap.size (some ⟨ba, oa + 2, none⟩) (D2 - 2) (V ++ T) ∧ Rd W9 wr.heap.size (some ⟨bb, ob + 2, none⟩) (D2 - 2) (V ++ T) ∧ Rd W9 wr.heap.size (some ⟨bc, oc + 2, none⟩) (N - 2) V ∧ Rd W9 wr.heap.size (some ⟨ba, oa + 2, none⟩) (N - 2) V ∧ Rd W9 wr.heap.size (some ⟨bc, oc + (N + 1), none⟩) (F2 - (N + 1)) T ∧ Rd W9 wr.heap.size (some ⟨ba, oa + N, none⟩) (D2 - N) T) wr.drew from ⟨a0, a1, b0, b1, d1, dN, ra, rb, rc, rd, re, rf⟩)
      clear a0 a1 b0 b1 d1 dN ra rb rc rd re rf
      have i0 : 0 < D2 := by omega
      have i1 : (1 : Int) < (D2 : Int) := by omega
      have i2 : (1 : Int) < (F2 : Int) := by omega
      have i3 : (N : Int) < (F2 : Int) := by omega
      have i4 : (2 : Int) ≤ (D2 : Int) := by omega
      have i5 : ¬ D3 = 2 := by omega
      have i6 : ¬ E3 = 2 := by omega
      have i7 : ¬ F3 = 2 := by omega
      have i8 : (N : Int) ≤ (F3 : Int) := by omega
      have i9 : (N : Int) ≤ (D3 : Int) := by omega
      have i10 : (2 : Int) ≤ (N : Int) := by omega
      have i11 : (N : Int) + 1 ≤ (F2 : Int) := by omega
      have i12 : ¬ F3 = N + 1 := by omega
      have i13 : ¬ D3 = N := by omega
      have i14 : (N : Int) ≤ (D2 : Int) := by omega
      have i16 : (0 : Int) ≤ (N : Int) + 1 := by omega
      have i15 : IntKind.i64.wrap ((N : Int) + 1) = (N : Int) + 1 := IntWalk.i64_in _ (by omega)
      clear hN2 hDa hFa hVl hTl
      refine region_let (fun W9 : World => W9.cell? ⟨ba, oa, none⟩ = some (.int .u8 (K.toNat : Int)) ∧ W9.cell? ⟨ba, oa + 1, none⟩ = some (.int .u8 0) ∧ W9.cell? ⟨bb, ob, none⟩ = some (.int .u8 (K.toNat : Int)) ∧ W9.cell? ⟨bb, ob + 1, none⟩ = some (.int .u8 1) ∧ W9.cell? ⟨bc, oc + 1, none⟩ = some (.int .u8 2) ∧ W9.cell? ⟨bc, oc + N, none⟩ = some (.int .u8 0) ∧ Rd W9 wr.heap.size (some ⟨ba, oa + 2, none⟩) (D2 - 2) (V ++ T) ∧ Rd W9 wr.heap.size (some ⟨bb, ob + 2, none⟩) (D2 - 2) (V ++ T) ∧ Rd W9 wr.heap.size (some ⟨bc, oc + 2, none⟩) (N - 2) V ∧ Rd W9 wr.heap.size (some ⟨ba, oa + 2, none⟩) (N - 2) V ∧ Rd W9 wr.heap.size (some ⟨bc, oc + (N + 1), none⟩) (F2 - (N + 1)) T ∧ Rd W9 wr.heap.size (some ⟨ba, oa + N, none⟩) (D2 - N) T) 99 68 hmx rfl fun ops Q HOPS HQ => ?_
      refine stepQ HOPS 0 1 ?_ (by decide) rfl (by kernel_rfl) (by kernel_rfl) rfl ?_ HS.out ?_
      rotate_left
      · intro w9 hS9; obtain ⟨q0, q1, q2, q3, q4, q5, q6, q7, q8, q9, q10, q11⟩ := hS9; have r0 := str_of w9 _ _ (D2 - 2) (D3 - 2) (V ++ T) q6; have r1 := str_of w9 _ _ (D2 - 2) (E3 - 2) (V ++ T) q7; have r2 := str_of w9 _ _ (N - 2) (F3 - 2) V q8; have r3 := str_of w9 _ _ (N - 2) (D3 - 2) V q9; have r4 := str_of w9 _ _ (F2 - (N + 1)) (F3 - (N + 1)) T q10; have r5 := str_of w9 _ _ (D2 - N) (D3 - N) T q11; go_simp; (first | done | with_reducible rfl)
      try simp only [Act.put, List.setIfInBounds_toArray, List.set_cons_zero, List.set_cons_succ]
      refine stepQ HOPS 1 3 ?_ (by decide) rfl (by kernel_rfl) (by kernel_rfl) rfl ?_ HS.out ?_
      rotate_left
      · intro w9 hS9; obtain ⟨q0, q1, q2, q3, q4, q5, q6, q7, q8, q9, q10, q11⟩ := hS9; have r0 := str_of w9 _ _ (D2 - 2) (D3 - 2) (V ++ T) q6; have r1 := str_of w9 _ _ (D2 - 2) (E3 - 2) (V ++ T) q7; have r2 := str_of w9 _ _ (N - 2) (F3 - 2) V q8; have r3 := str_of w9 _ _ (N - 2) (D3 - 2) V q9; have r4 := str_of w9 _ _ (F2 - (N + 1)) (F3 - (N + 1)) T q10; have r5 := str_of w9 _ _ (D2 - N) (D3 - N) T q11; go_simp; (first | done | with_reducible rfl)
      try simp only [Act.put, List.setIfInBounds_toArray, List.set_cons_zero, List.set_cons_succ]
      refine stepQ HOPS 2 7 ?_ (by decide) rfl (by kernel_rfl) (by kernel_rfl) rfl ?_ HS.out ?_
      rotate_left
      · intro w9 hS9; obtain ⟨q0, q1, q2, q3, q4, q5, q6, q7, q8, q9, q10, q11⟩ := hS9; have r0 := str_of w9 _ _ (D2 - 2) (D3 - 2) (V ++ T) q6; have r1 := str_of w9 _ _ (D2 - 2) (E3 - 2) (V ++ T) q7; have r2 := str_of w9 _ _ (N - 2) (F3 - 2) V q8; have r3 := str_of w9 _ _ (N - 2) (D3 - 2) V q9; have r4 := str_of w9 _ _ (F2 - (N + 1)) (F3 - (N + 1)) T q10; have r5 := str_of w9 _ _ (D2 - N) (D3 - N) T q11; go_simp; (first | done | with_reducible rfl)
      try simp only [Act.put, List.setIfInBounds_toArray, List.set_cons_zero, List.set_cons_succ]
      refine stepQ HOPS 3 15 ?_ (by decide) rfl (by kernel_rfl) (by kernel_rfl) rfl ?_ HS.out ?_
      rotate_left
      · intro w9 hS9; obtain ⟨q0, q1, q2, q3, q4, q5, q6, q7, q8, q9, q10, q11⟩ := hS9; have r0 := str_of w9 _ _ (D2 - 2) (D3 - 2) (V ++ T) q6; have r1 := str_of w9 _ _ (D2 - 2) (E3 - 2) (V ++ T) q7; have r2 := str_of w9 _ _ (N - 2) (F3 - 2) V q8; have r3 := str_of w9 _ _ (N - 2) (D3 - 2) V q9; have r4 := str_of w9 _ _ (F2 - (N + 1)) (F3 - (N + 1)) T q10; have r5 := str_of w9 _ _ (D2 - N) (D3 - N) T q11; go_simp; (first | done | with_reducible rfl)
      try simp only [Act.put, List.setIfInBounds_toArray, List.set_cons_zero, List.set_cons_succ]
      refine stepQ HOPS 4 31 ?_ (by decide) rfl (by kernel_rfl) (by kernel_rfl) rfl ?_ HS.out ?_
      rotate_left
      · intro w9 hS9; obtain ⟨q0, q1, q2, q3, q4, q5, q6, q7, q8, q9, q10, q11⟩ := hS9; have r0 := str_of w9 _ _ (D2 - 2) (D3 - 2) (V ++ T) q6; have r1 := str_of w9 _ _ (D2 - 2) (E3 - 2) (V ++ T) q7; have r2 := str_of w9 _ _ (N - 2) (F3 - 2) V q8; have r3 := str_of w9 _ _ (N - 2) (D3 - 2) V q9; have r4 := str_of w9 _ _ (F2 - (N + 1)) (F3 - (N + 1)) T q10; have r5 := str_of w9 _ _ (D2 - N) (D3 - N) T q11; go_simp; (first | done | with_reducible rfl)
      try simp only [Act.put, List.setIfInBounds_toArray, List.set_cons_zero, List.set_cons_succ]
      refine stepQ HOPS 5 63 ?_ (by decide) rfl (by kernel_rfl) (by kernel_rfl) rfl ?_ HS.out ?_
      rotate_left
      · intro w9 hS9; obtain ⟨q0, q1, q2, q3, q4, q5, q6, q7, q8, q9, q10, q11⟩ := hS9; have r0 := str_of w9 _ _ (D2 - 2) (D3 - 2) (V ++ T) q6; have r1 := str_of w9 _ _ (D2 - 2) (E3 - 2) (V ++ T) q7; have r2 := str_of w9 _ _ (N - 2) (F3 - 2) V q8; have r3 := str_of w9 _ _ (N - 2) (D3 - 2) V q9; have r4 := str_of w9 _ _ (F2 - (N + 1)) (F3 - (N + 1)) T q10; have r5 := str_of w9 _ _ (D2 - N) (D3 - N) T q11; go_simp; (first | done | with_reducible rfl)
      try simp only [Act.put, List.setIfInBounds_toArray, List.set_cons_zero, List.set_cons_succ]
      refine stepQ HOPS 6 127 ?_ (by decide) rfl (by kernel_rfl) (by kernel_rfl) rfl ?_ HS.out ?_
      rotate_left
      · intro w9 hS9; obtain ⟨q0, q1, q2, q3, q4, q5, q6, q7, q8, q9, q10, q11⟩ := hS9; have r0 := str_of w9 _ _ (D2 - 2) (D3 - 2) (V ++ T) q6; have r1 := str_of w9 _ _ (D2 - 2) (E3 - 2) (V ++ T) q7; have r2 := str_of w9 _ _ (N - 2) (F3 - 2) V q8; have r3 := str_of w9 _ _ (N - 2) (D3 - 2) V q9; have r4 := str_of w9 _ _ (F2 - (N + 1)) (F3 - (N + 1)) T q10; have r5 := str_of w9 _ _ (D2 - N) (D3 - N) T q11; go_simp; (first | done | with_reducible rfl)
      try simp only [Act.put, List.setIfInBounds_toArray, List.set_cons_zero, List.set_cons_succ]
      refine stepQ HOPS 7 255 ?_ (by decide) rfl (by kernel_rfl) (by kernel_rfl) rfl ?_ HS.out ?_
      rotate_left
      · intro w9 hS9; obtain ⟨q0, q1, q2, q3, q4, q5, q6, q7, q8, q9, q10, q11⟩ := hS9; have r0 := str_of w9 _ _ (D2 - 2) (D3 - 2) (V ++ T) q6; have r1 := str_of w9 _ _ (D2 - 2) (E3 - 2) (V ++ T) q7; have r2 := str_of w9 _ _ (N - 2) (F3 - 2) V q8; have r3 := str_of w9 _ _ (N - 2) (D3 - 2) V q9; have r4 := str_of w9 _ _ (F2 - (N + 1)) (F3 - (N + 1)) T q10; have r5 := str_of w9 _ _ (D2 - N) (D3 - N) T q11; go_simp; (first | done | with_reducible rfl)
      try simp only [Act.put, List.setIfInBounds_toArray, List.set_cons_zero, List.set_cons_succ]
      refine stepQ HOPS 8 511 ?_ (by decide) rfl (by kernel_rfl) (by kernel_rfl) rfl ?_ HS.out ?_
      rotate_left
      · intro w9 hS9; obtain ⟨q0, q1, q2, q3, q4, q5, q6, q7, q8, q9, q10, q11⟩ := hS9; have r0 := str_of w9 _ _ (D2 - 2) (D3 - 2) (V ++ T) q6; have r1 := str_of w9 _ _ (D2 - 2) (E3 - 2) (V ++ T) q7; have r2 := str_of w9 _ _ (N - 2) (F3 - 2) V q8; have r3 := str_of w9 _ _ (N - 2) (D3 - 2) V q9; have r4 := str_of w9 _ _ (F2 - (N + 1)) (F3 - (N + 1)) T q10; have r5 := str_of w9 _ _ (D2 - N) (D3 - N) T q11; go_simp; (first | done | with_reducible rfl)
      try simp only [Act.put, List.setIfInBounds_toArray, List.set_cons_zero, List.set_cons_succ]
      refine stepQ HOPS 9 1023 ?_ (by decide) rfl (by kernel_rfl) (by kernel_rfl) rfl ?_ HS.out ?_
      rotate_left
      · intro w9 hS9; obtain ⟨q0, q1, q2, q3, q4, q5, q6, q7, q8, q9, q10, q11⟩ := hS9; have r0 := str_of w9 _ _ (D2 - 2) (D3 - 2) (V ++ T) q6; have r1 := str_of w9 _ _ (D2 - 2) (E3 - 2) (V ++ T) q7; have r2 := str_of w9 _ _ (N - 2) (F3 - 2) V q8; have r3 := str_of w9 _ _ (N - 2) (D3 - 2) V q9; have r4 := str_of w9 _ _ (F2 - (N + 1)) (F3 - (N + 1)) T q10; have r5 := str_of w9 _ _ (D2 - N) (D3 - N) T q11; go_simp; (first | done | with_reducible rfl)
      try simp only [Act.put, List.setIfInBounds_toArray, List.set_cons_zero, List.set_cons_succ]
      refine stepQ HOPS 10 2047 ?_ (by decide) rfl (by kernel_rfl) (by kernel_rfl) rfl ?_ HS.out ?_
      rotate_left
      · intro w9 hS9; obtain ⟨q0, q1, q2, q3, q4, q5, q6, q7, q8, q9, q10, q11⟩ := hS9; have r0 := str_of w9 _ _ (D2 - 2) (D3 - 2) (V ++ T) q6; have r1 := str_of w9 _ _ (D2 - 2) (E3 - 2) (V ++ T) q7; have r2 := str_of w9 _ _ (N - 2) (F3 - 2) V q8; have r3 := str_of w9 _ _ (N - 2) (D3 - 2) V q9; have r4 := str_of w9 _ _ (F2 - (N + 1)) (F3 - (N + 1)) T q10; have r5 := str_of w9 _ _ (D2 - N) (D3 - N) T q11; go_simp; (first | done | with_reducible rfl)
      try simp only [Act.put, List.setIfInBounds_toArray, List.set_cons_zero, List.set_cons_succ]
      refine stepQ HOPS 11 4095 ?_ (by decide) rfl (by kernel_rfl) (by kernel_rfl) rfl ?_ HS.out ?_
      rotate_left
      · intro w9 hS9; obtain ⟨q0, q1, q2, q3, q4, q5, q6, q7, q8, q9, q10, q11⟩ := hS9; have r0 := str_of w9 _ _ (D2 - 2) (D3 - 2) (V ++ T) q6; have r1 := str_of w9 _ _ (D2 - 2) (E3 - 2) (V ++ T) q7; have r2 := str_of w9 _ _ (N - 2) (F3 - 2) V q8; have r3 := str_of w9 _ _ (N - 2) (D3 - 2) V q9; have r4 := str_of w9 _ _ (F2 - (N + 1)) (F3 - (N + 1)) T q10; have r5 := str_of w9 _ _ (D2 - N) (D3 - N) T q11; go_simp; (first | done | with_reducible rfl)
      try simp only [Act.put, List.setIfInBounds_toArray, List.set_cons_zero, List.set_cons_succ]
      refine stepQ HOPS 12 8191 ?_ (by decide) rfl (by kernel_rfl) (by kernel_rfl) rfl ?_ HS.out ?_
      rotate_left
      · intro w9 hS9; obtain ⟨q0, q1, q2, q3, q4, q5, q6, q7, q8, q9, q10, q11⟩ := hS9; have r0 := str_of w9 _ _ (D2 - 2) (D3 - 2) (V ++ T) q6; have r1 := str_of w9 _ _ (D2 - 2) (E3 - 2) (V ++ T) q7; have r2 := str_of w9 _ _ (N - 2) (F3 - 2) V q8; have r3 := str_of w9 _ _ (N - 2) (D3 - 2) V q9; have r4 := str_of w9 _ _ (F2 - (N + 1)) (F3 - (N + 1)) T q10; have r5 := str_of w9 _ _ (D2 - N) (D3 - N) T q11; go_simp; (first | done | with_reducible rfl)
      try simp only [Act.put, List.setIfInBounds_toArray, List.set_cons_zero, List.set_cons_succ]
      refine stepQ HOPS 13 16383 ?_ (by decide) rfl (by kernel_rfl) (by kernel_rfl) rfl ?_ HS.out ?_
      rotate_left
      · intro w9 hS9; obtain ⟨q0, q1, q2, q3, q4, q5, q6, q7, q8, q9, q10, q11⟩ := hS9; have r0 := str_of w9 _ _ (D2 - 2) (D3 - 2) (V ++ T) q6; have r1 := str_of w9 _ _ (D2 - 2) (E3 - 2) (V ++ T) q7; have r2 := str_of w9 _ _ (N - 2) (F3 - 2) V q8; have r3 := str_of w9 _ _ (N - 2) (D3 - 2) V q9; have r4 := str_of w9 _ _ (F2 - (N + 1)) (F3 - (N + 1)) T q10; have r5 := str_of w9 _ _ (D2 - N) (D3 - N) T q11; go_simp; (first | done | with_reducible rfl)
      try simp only [Act.put, List.setIfInBounds_toArray, List.set_cons_zero, List.set_cons_succ]
      refine stepQ HOPS 14 32767 ?_ (by decide) rfl (by kernel_rfl) (by kernel_rfl) rfl ?_ HS.out ?_
      rotate_left
      · intro w9 hS9; obtain ⟨q0, q1, q2, q3, q4, q5, q6, q7, q8, q9, q10, q11⟩ := hS9; have r0 := str_of w9 _ _ (D2 - 2) (D3 - 2) (V ++ T) q6; have r1 := str_of w9 _ _ (D2 - 2) (E3 - 2) (V ++ T) q7; have r2 := str_of w9 _ _ (N - 2) (F3 - 2) V q8; have r3 := str_of w9 _ _ (N - 2) (D3 - 2) V q9; have r4 := str_of w9 _ _ (F2 - (N + 1)) (F3 - (N + 1)) T q10; have r5 := str_of w9 _ _ (D2 - N) (D3 - N) T q11; go_simp; (first | done | with_reducible rfl)
      try simp only [Act.put, List.setIfInBounds_toArray, List.set_cons_zero, List.set_cons_succ]
      refine stepQ HOPS 15 65535 ?_ (by decide) rfl (by kernel_rfl) (by kernel_rfl) rfl ?_ HS.out ?_
      rotate_left
      · intro w9 hS9; obtain ⟨q0, q1, q2, q3, q4, q5, q6, q7, q8, q9, q10, q11⟩ := hS9; have r0 := str_of w9 _ _ (D2 - 2) (D3 - 2) (V ++ T) q6; have r1 := str_of w9 _ _ (D2 - 2) (E3 - 2) (V ++ T) q7; have r2 := str_of w9 _ _ (N - 2) (F3 - 2) V q8; have r3 := str_of w9 _ _ (N - 2) (D3 - 2) V q9; have r4 := str_of w9 _ _ (F2 - (N + 1)) (F3 - (N + 1)) T q10; have r5 := str_of w9 _ _ (D2 - N) (D3 - N) T q11; go_simp; (first | done | with_reducible rfl)
      try simp only [Act.put, List.setIfInBounds_toArray, List.set_cons_zero, List.set_cons_succ]
      refine stepQ HOPS 16 131071 ?_ (by decide) rfl (by kernel_rfl) (by kernel_rfl) rfl ?_ HS.out ?_
      rotate_left
      · intro w9 hS9; obtain ⟨q0, q1, q2, q3, q4, q5, q6, q7, q8, q9, q10, q11⟩ := hS9; have r0 := str_of w9 _ _ (D2 - 2) (D3 - 2) (V ++ T) q6; have r1 := str_of w9 _ _ (D2 - 2) (E3 - 2) (V ++ T) q7; have r2 := str_of w9 _ _ (N - 2) (F3 - 2) V q8; have r3 := str_of w9 _ _ (N - 2) (D3 - 2) V q9; have r4 := str_of w9 _ _ (F2 - (N + 1)) (F3 - (N + 1)) T q10; have r5 := str_of w9 _ _ (D2 - N) (D3 - N) T q11; go_simp; (first | done | with_reducible rfl)
      try simp only [Act.put, List.setIfInBounds_toArray, List.set_cons_zero, List.set_cons_succ]
      refine stepQ HOPS 17 262143 ?_ (by decide) rfl (by kernel_rfl) (by kernel_rfl) rfl ?_ HS.out ?_
      rotate_left
      · intro w9 hS9; obtain ⟨q0, q1, q2, q3, q4, q5, q6, q7, q8, q9, q10, q11⟩ := hS9; have r0 := str_of w9 _ _ (D2 - 2) (D3 - 2) (V ++ T) q6; have r1 := str_of w9 _ _ (D2 - 2) (E3 - 2) (V ++ T) q7; have r2 := str_of w9 _ _ (N - 2) (F3 - 2) V q8; have r3 := str_of w9 _ _ (N - 2) (D3 - 2) V q9; have r4 := str_of w9 _ _ (F2 - (N + 1)) (F3 - (N + 1)) T q10; have r5 := str_of w9 _ _ (D2 - N) (D3 - N) T q11; go_simp; (first | done | with_reducible rfl)
      try simp only [Act.put, List.setIfInBounds_toArray, List.set_cons_zero, List.set_cons_succ]
      refine stepQ HOPS 18 524287 ?_ (by decide) rfl (by kernel_rfl) (by kernel_rfl) rfl ?_ HS.out ?_
      rotate_left
      · intro w9 hS9; obtain ⟨q0, q1, q2, q3, q4, q5, q6, q7, q8, q9, q10, q11⟩ := hS9; have r0 := str_of w9 _ _ (D2 - 2) (D3 - 2) (V ++ T) q6; have r1 := str_of w9 _ _ (D2 - 2) (E3 - 2) (V ++ T) q7; have r2 := str_of w9 _ _ (N - 2) (F3 - 2) V q8; have r3 := str_of w9 _ _ (N - 2) (D3 - 2) V q9; have r4 := str_of w9 _ _ (F2 - (N + 1)) (F3 - (N + 1)) T q10; have r5 := str_of w9 _ _ (D2 - N) (D3 - N) T q11; go_simp; (first | done | with_reducible rfl)
      try simp only [Act.put, List.setIfInBounds_toArray, List.set_cons_zero, List.set_cons_succ]
      refine stepQ HOPS 19 1048575 ?_ (by decide) rfl (by kernel_rfl) (by kernel_rfl) rfl ?_ HS.out ?_
      rotate_left
      · intro w9 hS9; obtain ⟨q0, q1, q2, q3, q4, q5, q6, q7, q8, q9, q10, q11⟩ := hS9; have r0 := str_of w9 _ _ (D2 - 2) (D3 - 2) (V ++ T) q6; have r1 := str_of w9 _ _ (D2 - 2) (E3 - 2) (V ++ T) q7; have r2 := str_of w9 _ _ (N - 2) (F3 - 2) V q8; have r3 := str_of w9 _ _ (N - 2) (D3 - 2) V q9; have r4 := str_of w9 _ _ (F2 - (N + 1)) (F3 - (N + 1)) T q10; have r5 := str_of w9 _ _ (D2 - N) (D3 - N) T q11; go_simp; (first | done | with_reducible rfl)
      try simp only [Act.put, List.setIfInBounds_toArray, List.set_cons_zero, List.set_cons_succ]
      refine stepQ HOPS 20 2097151 ?_ (by decide) rfl (by kernel_rfl) (by kernel_rfl) rfl ?_ HS.out ?_
      rotate_left
      · intro w9 hS9; obtain ⟨q0, q1, q2, q3, q4, q5, q6, q7, q8, q9, q10, q11⟩ := hS9; have r0 := str_of w9 _ _ (D2 - 2) (D3 - 2) (V ++ T) q6; have r1 := str_of w9 _ _ (D2 - 2) (E3 - 2) (V ++ T) q7; have r2 := str_of w9 _ _ (N - 2) (F3 - 2) V q8; have r3 := str_of w9 _ _ (N - 2) (D3 - 2) V q9; have r4 := str_of w9 _ _ (F2 - (N + 1)) (F3 - (N + 1)) T q10; have r5 := str_of w9 _ _ (D2 - N) (D3 - N) T q11; go_simp; (first | done | with_reducible rfl)
      try simp only [Act.put, List.setIfInBounds_toArray, List.set_cons_zero, List.set_cons_succ]
      refine stepQ HOPS 21 4194303 ?_ (by decide) rfl (by kernel_rfl) (by kernel_rfl) rfl ?_ HS.out ?_
      rotate_left
      · intro w9 hS9; obtain ⟨q0, q1, q2, q3, q4, q5, q6, q7, q8, q9, q10, q11⟩ := hS9; have r0 := str_of w9 _ _ (D2 - 2) (D3 - 2) (V ++ T) q6; have r1 := str_of w9 _ _ (D2 - 2) (E3 - 2) (V ++ T) q7; have r2 := str_of w9 _ _ (N - 2) (F3 - 2) V q8; have r3 := str_of w9 _ _ (N - 2) (D3 - 2) V q9; have r4 := str_of w9 _ _ (F2 - (N + 1)) (F3 - (N + 1)) T q10; have r5 := str_of w9 _ _ (D2 - N) (D3 - N) T q11; go_simp; (first | done | with_reducible rfl)
      try simp only [Act.put, List.setIfInBounds_toArray, List.set_cons_zero, List.set_cons_succ]
      refine stepQ HOPS 22 8388607 ?_ (by decide) rfl (by kernel_rfl) (by kernel_rfl) rfl ?_ HS.out ?_
      rotate_left
      · intro w9 hS9; obtain ⟨q0, q1, q2, q3, q4, q5, q6, q7, q8, q9, q10, q11⟩ := hS9; have r0 := str_of w9 _ _ (D2 - 2) (D3 - 2) (V ++ T) q6; have r1 := str_of w9 _ _ (D2 - 2) (E3 - 2) (V ++ T) q7; have r2 := str_of w9 _ _ (N - 2) (F3 - 2) V q8; have r3 := str_of w9 _ _ (N - 2) (D3 - 2) V q9; have r4 := str_of w9 _ _ (F2 - (N + 1)) (F3 - (N + 1)) T q10; have r5 := str_of w9 _ _ (D2 - N) (D3 - N) T q11; go_simp; (first | done | with_reducible rfl)
      try simp only [Act.put, List.setIfInBounds_toArray, List.set_cons_zero, List.set_cons_succ]
      refine stepQ HOPS 23 16777215 ?_ (by decide) rfl (by kernel_rfl) (by kernel_rfl) rfl ?_ HS.out ?_
      rotate_left
      · intro w9 hS9; obtain ⟨q0, q1, q2, q3, q4, q5, q6, q7, q8, q9, q10, q11⟩ := hS9; have r0 := str_of w9 _ _ (D2 - 2) (D3 - 2) (V ++ T) q6; have r1 := str_of w9 _ _ (D2 - 2) (E3 - 2) (V ++ T) q7; have r2 := str_of w9 _ _ (N - 2) (F3 - 2) V q8; have r3 := str_of w9 _ _ (N - 2) (D3 - 2) V q9; have r4 := str_of w9 _ _ (F2 - (N + 1)) (F3 - (N + 1)) T q10; have r5 := str_of w9 _ _ (D2 - N) (D3 - N) T q11; go_simp; (first | done | with_reducible rfl)
      try simp only [Act.put, List.setIfInBounds_toArray, List.set_cons_zero, List.set_cons_succ]
      refine stepQ HOPS 24 33554431 ?_ (by decide) rfl (by kernel_rfl) (by kernel_rfl) rfl ?_ HS.out ?_
      rotate_left
      · intro w9 hS9; obtain ⟨q0, q1, q2, q3, q4, q5, q6, q7, q8, q9, q10, q11⟩ := hS9; have r0 := str_of w9 _ _ (D2 - 2) (D3 - 2) (V ++ T) q6; have r1 := str_of w9 _ _ (D2 - 2) (E3 - 2) (V ++ T) q7; have r2 := str_of w9 _ _ (N - 2) (F3 - 2) V q8; have r3 := str_of w9 _ _ (N - 2) (D3 - 2) V q9; have r4 := str_of w9 _ _ (F2 - (N + 1)) (F3 - (N + 1)) T q10; have r5 := str_of w9 _ _ (D2 - N) (D3 - N) T q11; go_simp; (first | done | with_reducible rfl)
      try simp only [Act.put, List.setIfInBounds_toArray, List.set_cons_zero, List.set_cons_succ]
      refine stepQ HOPS 25 67108863 ?_ (by decide) rfl (by kernel_rfl) (by kernel_rfl) rfl ?_ HS.out ?_
      rotate_left
      · intro w9 hS9; obtain ⟨q0, q1, q2, q3, q4, q5, q6, q7, q8, q9, q10, q11⟩ := hS9; have r0 := str_of w9 _ _ (D2 - 2) (D3 - 2) (V ++ T) q6; have r1 := str_of w9 _ _ (D2 - 2) (E3 - 2) (V ++ T) q7; have r2 := str_of w9 _ _ (N - 2) (F3 - 2) V q8; have r3 := str_of w9 _ _ (N - 2) (D3 - 2) V q9; have r4 := str_of w9 _ _ (F2 - (N + 1)) (F3 - (N + 1)) T q10; have r5 := str_of w9 _ _ (D2 - N) (D3 - N) T q11; go_simp; (first | done | with_reducible rfl)
      try simp only [Act.put, List.setIfInBounds_toArray, List.set_cons_zero, List.set_cons_succ]
      refine stepQ HOPS 26 134217727 ?_ (by decide) rfl (by kernel_rfl) (by kernel_rfl) rfl ?_ HS.out ?_
      rotate_left
      · intro w9 hS9; obtain ⟨q0, q1, q2, q3, q4, q5, q6, q7, q8, q9, q10, q11⟩ := hS9; have r0 := str_of w9 _ _ (D2 - 2) (D3 - 2) (V ++ T) q6; have r1 := str_of w9 _ _ (D2 - 2) (E3 - 2) (V ++ T) q7; have r2 := str_of w9 _ _ (N - 2) (F3 - 2) V q8; have r3 := str_of w9 _ _ (N - 2) (D3 - 2) V q9; have r4 := str_of w9 _ _ (F2 - (N + 1)) (F3 - (N + 1)) T q10; have r5 := str_of w9 _ _ (D2 - N) (D3 - N) T q11; go_simp; (first | done | with_reducible rfl)
      try simp only [Act.put, List.setIfInBounds_toArray, List.set_cons_zero, List.set_cons_succ]
      refine stepQ HOPS 27 268435455 ?_ (by decide) rfl (by kernel_rfl) (by kernel_rfl) rfl ?_ HS.out ?_
      rotate_left
      · intro w9 hS9; obtain ⟨q0, q1, q2, q3, q4, q5, q6, q7, q8, q9, q10, q11⟩ := hS9; have r0 := str_of w9 _ _ (D2 - 2) (D3 - 2) (V ++ T) q6; have r1 := str_of w9 _ _ (D2 - 2) (E3 - 2) (V ++ T) q7; have r2 := str_of w9 _ _ (N - 2) (F3 - 2) V q8; have r3 := str_of w9 _ _ (N - 2) (D3 - 2) V q9; have r4 := str_of w9 _ _ (F2 - (N + 1)) (F3 - (N + 1)) T q10; have r5 := str_of w9 _ _ (D2 - N) (D3 - N) T q11; go_simp; (first | done | with_reducible rfl)
      try simp only [Act.put, List.setIfInBounds_toArray, List.set_cons_zero, List.set_cons_succ]
      refine stepQ HOPS 28 536870911 ?_ (by decide) rfl (by kernel_rfl) (by kernel_rfl) rfl ?_ HS.out ?_
      rotate_left
      · intro w9 hS9; obtain ⟨q0, q1, q2, q3, q4, q5, q6, q7, q8, q9, q10, q11⟩ := hS9; have r0 := str_of w9 _ _ (D2 - 2) (D3 - 2) (V ++ T) q6; have r1 := str_of w9 _ _ (D2 - 2) (E3 - 2) (V ++ T) q7; have r2 := str_of w9 _ _ (N - 2) (F3 - 2) V q8; have r3 := str_of w9 _ _ (N - 2) (D3 - 2) V q9; have r4 := str_of w9 _ _ (F2 - (N + 1)) (F3 - (N + 1)) T q10; have r5 := str_of w9 _ _ (D2 - N) (D3 - N) T q11; go_simp; (first | done | with_reducible rfl)
      try simp only [Act.put, List.setIfInBounds_toArray, List.set_cons_zero, List.set_cons_succ]
      refine stepQ HOPS 29 1073741823 ?_ (by decide) rfl (by kernel_rfl) (by kernel_rfl) rfl ?_ HS.out ?_
      rotate_left
      · intro w9 hS9; obtain ⟨q0, q1, q2, q3, q4, q5, q6, q7, q8, q9, q10, q11⟩ := hS9; have r0 := str_of w9 _ _ (D2 - 2) (D3 - 2) (V ++ T) q6; have r1 := str_of w9 _ _ (D2 - 2) (E3 - 2) (V ++ T) q7; have r2 := str_of w9 _ _ (N - 2) (F3 - 2) V q8; have r3 := str_of w9 _ _ (N - 2) (D3 - 2) V q9; have r4 := str_of w9 _ _ (F2 - (N + 1)) (F3 - (N + 1)) T q10; have r5 := str_of w9 _ _ (D2 - N) (D3 - N) T q11; go_simp; (first | done | with_reducible rfl)
      try simp only [Act.put, List.setIfInBounds_toArray, List.set_cons_zero, List.set_cons_succ]
      refine stepQ HOPS 30 2147483647 ?_ (by decide) rfl (by kernel_rfl) (by kernel_rfl) rfl ?_ HS.out ?_
      rotate_left
      · intro w9 hS9; obtain ⟨q0, q1, q2, q3, q4, q5, q6, q7, q8, q9, q10, q11⟩ := hS9; have r0 := str_of w9 _ _ (D2 - 2) (D3 - 2) (V ++ T) q6; have r1 := str_of w9 _ _ (D2 - 2) (E3 - 2) (V ++ T) q7; have r2 := str_of w9 _ _ (N - 2) (F3 - 2) V q8; have r3 := str_of w9 _ _ (N - 2) (D3 - 2) V q9; have r4 := str_of w9 _ _ (F2 - (N + 1)) (F3 - (N + 1)) T q10; have r5 := str_of w9 _ _ (D2 - N) (D3 - N) T q11; go_simp; (first | done | with_reducible rfl)
      try simp only [Act.put, List.setIfInBounds_toArray, List.set_cons_zero, List.set_cons_succ]
      refine stepQ HOPS 31 4294967295 ?_ (by decide) rfl (by kernel_rfl) (by kernel_rfl) rfl ?_ HS.out ?_
      rotate_left
      · intro w9 hS9; obtain ⟨q0, q1, q2, q3, q4, q5, q6, q7, q8, q9, q10, q11⟩ := hS9; have r0 := str_of w9 _ _ (D2 - 2) (D3 - 2) (V ++ T) q6; have r1 := str_of w9 _ _ (D2 - 2) (E3 - 2) (V ++ T) q7; have r2 := str_of w9 _ _ (N - 2) (F3 - 2) V q8; have r3 := str_of w9 _ _ (N - 2) (D3 - 2) V q9; have r4 := str_of w9 _ _ (F2 - (N + 1)) (F3 - (N + 1)) T q10; have r5 := str_of w9 _ _ (D2 - N) (D3 - N) T q11; go_simp; (first | done | with_reducible rfl)
      try simp only [Act.put, List.setIfInBounds_toArray, List.set_cons_zero, List.set_cons_succ]
      refine stepQ HOPS 32 8589934591 ?_ (by decide) rfl (by kernel_rfl) (by kernel_rfl) rfl ?_ HS.out ?_
      rotate_left
      · intro w9 hS9; obtain ⟨q0, q1, q2, q3, q4, q5, q6, q7, q8, q9, q10, q11⟩ := hS9; have r0 := str_of w9 _ _ (D2 - 2) (D3 - 2) (V ++ T) q6; have r1 := str_of w9 _ _ (D2 - 2) (E3 - 2) (V ++ T) q7; have r2 := str_of w9 _ _ (N - 2) (F3 - 2) V q8; have r3 := str_of w9 _ _ (N - 2) (D3 - 2) V q9; have r4 := str_of w9 _ _ (F2 - (N + 1)) (F3 - (N + 1)) T q10; have r5 := str_of w9 _ _ (D2 - N) (D3 - N) T q11; go_simp; (first | done | with_reducible rfl)
      try simp only [Act.put, List.setIfInBounds_toArray, List.set_cons_zero, List.set_cons_succ]
      refine stepQ HOPS 33 17179869183 ?_ (by decide) rfl (by kernel_rfl) (by kernel_rfl) rfl ?_ HS.out ?_
      rotate_left
      · intro w9 hS9; obtain ⟨q0, q1, q2, q3, q4, q5, q6, q7, q8, q9, q10, q11⟩ := hS9; have r0 := str_of w9 _ _ (D2 - 2) (D3 - 2) (V ++ T) q6; have r1 := str_of w9 _ _ (D2 - 2) (E3 - 2) (V ++ T) q7; have r2 := str_of w9 _ _ (N - 2) (F3 - 2) V q8; have r3 := str_of w9 _ _ (N - 2) (D3 - 2) V q9; have r4 := str_of w9 _ _ (F2 - (N + 1)) (F3 - (N + 1)) T q10; have r5 := str_of w9 _ _ (D2 - N) (D3 - N) T q11; go_simp; (first | done | with_reducible rfl)
      try simp only [Act.put, List.setIfInBounds_toArray, List.set_cons_zero, List.set_cons_succ]
      refine stepQ HOPS 34 34359738367 ?_ (by decide) rfl (by kernel_rfl) (by kernel_rfl) rfl ?_ HS.out ?_
      rotate_left
      · intro w9 hS9; obtain ⟨q0, q1, q2, q3, q4, q5, q6, q7, q8, q9, q10, q11⟩ := hS9; have r0 := str_of w9 _ _ (D2 - 2) (D3 - 2) (V ++ T) q6; have r1 := str_of w9 _ _ (D2 - 2) (E3 - 2) (V ++ T) q7; have r2 := str_of w9 _ _ (N - 2) (F3 - 2) V q8; have r3 := str_of w9 _ _ (N - 2) (D3 - 2) V q9; have r4 := str_of w9 _ _ (F2 - (N + 1)) (F3 - (N + 1)) T q10; have r5 := str_of w9 _ _ (D2 - N) (D3 - N) T q11; go_simp; (first | done | with_reducible rfl)
      try simp only [Act.put, List.setIfInBounds_toArray, List.set_cons_zero, List.set_cons_succ]
      refine stepQ HOPS 35 68719476735 ?_ (by decide) rfl (by kernel_rfl) (by kernel_rfl) rfl ?_ HS.out ?_
      rotate_left
      · intro w9 hS9; obtain ⟨q0, q1, q2, q3, q4, q5, q6, q7, q8, q9, q10, q11⟩ := hS9; have r0 := str_of w9 _ _ (D2 - 2) (D3 - 2) (V ++ T) q6; have r1 := str_of w9 _ _ (D2 - 2) (E3 - 2) (V ++ T) q7; have r2 := str_of w9 _ _ (N - 2) (F3 - 2) V q8; have r3 := str_of w9 _ _ (N - 2) (D3 - 2) V q9; have r4 := str_of w9 _ _ (F2 - (N + 1)) (F3 - (N + 1)) T q10; have r5 := str_of w9 _ _ (D2 - N) (D3 - N) T q11; go_simp; (first | done | with_reducible rfl)
      try simp only [Act.put, List.setIfInBounds_toArray, List.set_cons_zero, List.set_cons_succ]
      refine stepQ HOPS 36 137438953471 ?_ (by decide) rfl (by kernel_rfl) (by kernel_rfl) rfl ?_ HS.out ?_
      rotate_left
      · intro w9 hS9; obtain ⟨q0, q1, q2, q3, q4, q5, q6, q7, q8, q9, q10, q11⟩ := hS9; have r0 := str_of w9 _ _ (D2 - 2) (D3 - 2) (V ++ T) q6; have r1 := str_of w9 _ _ (D2 - 2) (E3 - 2) (V ++ T) q7; have r2 := str_of w9 _ _ (N - 2) (F3 - 2) V q8; have r3 := str_of w9 _ _ (N - 2) (D3 - 2) V q9; have r4 := str_of w9 _ _ (F2 - (N + 1)) (F3 - (N + 1)) T q10; have r5 := str_of w9 _ _ (D2 - N) (D3 - N) T q11; go_simp; (first | done | with_reducible rfl)
      try simp only [Act.put, List.setIfInBounds_toArray, List.set_cons_zero, List.set_cons_succ]
      refine stepQ HOPS 37 274877906943 ?_ (by decide) rfl (by kernel_rfl) (by kernel_rfl) rfl ?_ HS.out ?_
      rotate_left
      · intro w9 hS9; obtain ⟨q0, q1, q2, q3, q4, q5, q6, q7, q8, q9, q10, q11⟩ := hS9; have r0 := str_of w9 _ _ (D2 - 2) (D3 - 2) (V ++ T) q6; have r1 := str_of w9 _ _ (D2 - 2) (E3 - 2) (V ++ T) q7; have r2 := str_of w9 _ _ (N - 2) (F3 - 2) V q8; have r3 := str_of w9 _ _ (N - 2) (D3 - 2) V q9; have r4 := str_of w9 _ _ (F2 - (N + 1)) (F3 - (N + 1)) T q10; have r5 := str_of w9 _ _ (D2 - N) (D3 - N) T q11; go_simp; (first | done | with_reducible rfl)
      try simp only [Act.put, List.setIfInBounds_toArray, List.set_cons_zero, List.set_cons_succ]
      refine stepQ HOPS 38 549755813887 ?_ (by decide) rfl (by kernel_rfl) (by kernel_rfl) rfl ?_ HS.out ?_
      rotate_left
      · intro w9 hS9; obtain ⟨q0, q1, q2, q3, q4, q5, q6, q7, q8, q9, q10, q11⟩ := hS9; have r0 := str_of w9 _ _ (D2 - 2) (D3 - 2) (V ++ T) q6; have r1 := str_of w9 _ _ (D2 - 2) (E3 - 2) (V ++ T) q7; have r2 := str_of w9 _ _ (N - 2) (F3 - 2) V q8; have r3 := str_of w9 _ _ (N - 2) (D3 - 2) V q9; have r4 := str_of w9 _ _ (F2 - (N + 1)) (F3 - (N + 1)) T q10; have r5 := str_of w9 _ _ (D2 - N) (D3 - N) T q11; go_simp; (first | done | with_reducible rfl)
      try simp only [Act.put, List.setIfInBounds_toArray, List.set_cons_zero, List.set_cons_succ]
      refine stepQ HOPS 39 1099511627775 ?_ (by decide) rfl (by kernel_rfl) (by kernel_rfl) rfl ?_ HS.out ?_
      rotate_left
      · intro w9 hS9; obtain ⟨q0, q1, q2, q3, q4, q5, q6, q7, q8, q9, q10, q11⟩ := hS9; have r0 := str_of w9 _ _ (D2 - 2) (D3 - 2) (V ++ T) q6; have r1 := str_of w9 _ _ (D2 - 2) (E3 - 2) (V ++ T) q7; have r2 := str_of w9 _ _ (N - 2) (F3 - 2) V q8; have r3 := str_of w9 _ _ (N - 2) (D3 - 2) V q9; have r4 := str_of w9 _ _ (F2 - (N + 1)) (F3 - (N + 1)) T q10; have r5 := str_of w9 _ _ (D2 - N) (D3 - N) T q11; go_simp; (first | done | with_reducible rfl)
      try simp only [Act.put, List.setIfInBounds_toArray, List.set_cons_zero, List.set_cons_succ]
      refine stepQ HOPS 40 2199023255551 ?_ (by decide) rfl (by kernel_rfl) (by kernel_rfl) rfl ?_ HS.out ?_
      rotate_left
      · intro w9 hS9; obtain ⟨q0, q1, q2, q3, q4, q5, q6, q7, q8, q9, q10, q11⟩ := hS9; have r0 := str_of w9 _ _ (D2 - 2) (D3 - 2) (V ++ T) q6; have r1 := str_of w9 _ _ (D2 - 2) (E3 - 2) (V ++ T) q7; have r2 := str_of w9 _ _ (N - 2) (F3 - 2) V q8; have r3 := str_of w9 _ _ (N - 2) (D3 - 2) V q9; have r4 := str_of w9 _ _ (F2 - (N + 1)) (F3 - (N + 1)) T q10; have r5 := str_of w9 _ _ (D2 - N) (D3 - N) T q11; go_simp; (first | done | with_reducible rfl)
      try simp only [Act.put, List.setIfInBounds_toArray, List.set_cons_zero, List.set_cons_succ]
      refine stepQ HOPS 41 4398046511103 ?_ (by decide) rfl (by kernel_rfl) (by kernel_rfl) rfl ?_ HS.out ?_
      rotate_left
      · intro w9 hS9; obtain ⟨q0, q1, q2, q3, q4, q5, q6, q7, q8, q9, q10, q11⟩ := hS9; have r0 := str_of w9 _ _ (D2 - 2) (D3 - 2) (V ++ T) q6; have r1 := str_of w9 _ _ (D2 - 2) (E3 - 2) (V ++ T) q7; have r2 := str_of w9 _ _ (N - 2) (F3 - 2) V q8; have r3 := str_of w9 _ _ (N - 2) (D3 - 2) V q9; have r4 := str_of w9 _ _ (F2 - (N + 1)) (F3 - (N + 1)) T q10; have r5 := str_of w9 _ _ (D2 - N) (D3 - N) T q11; go_simp; (first | done | with_reducible rfl)
      try simp only [Act.put, List.setIfInBounds_toArray, List.set_cons_zero, List.set_cons_succ]
      refine stepQ HOPS 42 8796093022207 ?_ (by decide) rfl (by kernel_rfl) (by kernel_rfl) rfl ?_ HS.out ?_
      rotate_left
      · intro w9 hS9; obtain ⟨q0, q1, q2, q3, q4, q5, q6, q7, q8, q9, q10, q11⟩ := hS9; have r0 := str_of w9 _ _ (D2 - 2) (D3 - 2) (V ++ T) q6; have r1 := str_of w9 _ _ (D2 - 2) (E3 - 2) (V ++ T) q7; have r2 := str_of w9 _ _ (N - 2) (F3 - 2) V q8; have r3 := str_of w9 _ _ (N - 2) (D3 - 2) V q9; have r4 := str_of w9 _ _ (F2 - (N + 1)) (F3 - (N + 1)) T q10; have r5 := str_of w9 _ _ (D2 - N) (D3 - N) T q11; go_simp; (first | done | with_reducible rfl)
      try simp only [Act.put, List.setIfInBounds_toArray, List.set_cons_zero, List.set_cons_succ]
      refine stepQ HOPS 43 17592186044415 ?_ (by decide) rfl (by kernel_rfl) (by kernel_rfl) rfl ?_ HS.out ?_
      rotate_left
      · intro w9 hS9; obtain ⟨q0, q1, q2, q3, q4, q5, q6, q7, q8, q9, q10, q11⟩ := hS9; have r0 := str_of w9 _ _ (D2 - 2) (D3 - 2) (V ++ T) q6; have r1 := str_of w9 _ _ (D2 - 2) (E3 - 2) (V ++ T) q7; have r2 := str_of w9 _ _ (N - 2) (F3 - 2) V q8; have r3 := str_of w9 _ _ (N - 2) (D3 - 2) V q9; have r4 := str_of w9 _ _ (F2 - (N + 1)) (F3 - (N + 1)) T q10; have r5 := str_of w9 _ _ (D2 - N) (D3 - N) T q11; go_simp; (first | done | with_reducible rfl)
      try simp only [Act.put, List.setIfInBounds_toArray, List.set_cons_zero, List.set_cons_succ]
      refine stepQ HOPS 44 35184372088831 ?_ (by decide) rfl (by kernel_rfl) (by kernel_rfl) rfl ?_ HS.out ?_
      rotate_left
      · intro w9 hS9; obtain ⟨q0, q1, q2, q3, q4, q5, q6, q7, q8, q9, q10, q11⟩ := hS9; have r0 := str_of w9 _ _ (D2 - 2) (D3 - 2) (V ++ T) q6; have r1 := str_of w9 _ _ (D2 - 2) (E3 - 2) (V ++ T) q7; have r2 := str_of w9 _ _ (N - 2) (F3 - 2) V q8; have r3 := str_of w9 _ _ (N - 2) (D3 - 2) V q9; have r4 := str_of w9 _ _ (F2 - (N + 1)) (F3 - (N + 1)) T q10; have r5 := str_of w9 _ _ (D2 - N) (D3 - N) T q11; go_simp; (first | done | with_reducible rfl)
      try simp only [Act.put, List.setIfInBounds_toArray, List.set_cons_zero, List.set_cons_succ]
      refine stepQ HOPS 45 70368744177663 ?_ (by decide) rfl (by kernel_rfl) (by kernel_rfl) rfl ?_ HS.out ?_
      rotate_left
      · intro w9 hS9; obtain ⟨q0, q1, q2, q3, q4, q5, q6, q7, q8, q9, q10, q11⟩ := hS9; have r0 := str_of w9 _ _ (D2 - 2) (D3 - 2) (V ++ T) q6; have r1 := str_of w9 _ _ (D2 - 2) (E3 - 2) (V ++ T) q7; have r2 := str_of w9 _ _ (N - 2) (F3 - 2) V q8; have r3 := str_of w9 _ _ (N - 2) (D3 - 2) V q9; have r4 := str_of w9 _ _ (F2 - (N + 1)) (F3 - (N + 1)) T q10; have r5 := str_of w9 _ _ (D2 - N) (D3 - N) T q11; go_simp; (first | done | with_reducible rfl)
      try simp only [Act.put, List.setIfInBounds_toArray, List.set_cons_zero, List.set_cons_succ]
      refine stepQ HOPS 46 140737488355327 ?_ (by decide) rfl (by kernel_rfl) (by kernel_rfl) rfl ?_ HS.out ?_
      rotate_left
      · intro w9 hS9; obtain ⟨q0, q1, q2, q3, q4, q5, q6, q7, q8, q9, q10, q11⟩ := hS9; have r0 := str_of w9 _ _ (D2 - 2) (D3 - 2) (V ++ T) q6; have r1 := str_of w9 _ _ (D2 - 2) (E3 - 2) (V ++ T) q7; have r2 := str_of w9 _ _ (N - 2) (F3 - 2) V q8; have r3 := str_of w9 _ _ (N - 2) (D3 - 2) V q9; have r4 := str_of w9 _ _ (F2 - (N + 1)) (F3 - (N + 1)) T q10; have r5 := str_of w9 _ _ (D2 - N) (D3 - N) T q11; go_simp; (first | done | with_reducible rfl)
      try simp only [Act.put, List.setIfInBounds_toArray, List.set_cons_zero, List.set_cons_succ]
      refine stepQ HOPS 47 281474976710655 ?_ (by decide) rfl (by kernel_rfl) (by kernel_rfl) rfl ?_ HS.out ?_
      rotate_left
      · intro w9 hS9; obtain ⟨q0, q1, q2, q3, q4, q5, q6, q7, q8, q9, q10, q11⟩ := hS9; have r0 := str_of w9 _ _ (D2 - 2) (D3 - 2) (V ++ T) q6; have r1 := str_of w9 _ _ (D2 - 2) (E3 - 2) (V ++ T) q7; have r2 := str_of w9 _ _ (N - 2) (F3 - 2) V q8; have r3 := str_of w9 _ _ (N - 2) (D3 - 2) V q9; have r4 := str_of w9 _ _ (F2 - (N + 1)) (F3 - (N + 1)) T q10; have r5 := str_of w9 _ _ (D2 - N) (D3 - N) T q11; go_simp; (first | done | with_reducible rfl)
      try simp only [Act.put, List.setIfInBounds_toArray, List.set_cons_zero, List.set_cons_succ]
      refine stepQ HOPS 48 562949953421311 ?_ (by decide) rfl (by kernel_rfl) (by kernel_rfl) rfl ?_ HS.out ?_
      rotate_left
      · intro w9 hS9; obtain ⟨q0, q1, q2, q3, q4, q5, q6, q7, q8, q9, q10, q11⟩ := hS9; have r0 := str_of w9 _ _ (D2 - 2) (D3 - 2) (V ++ T) q6; have r1 := str_of w9 _ _ (D2 - 2) (E3 - 2) (V ++ T) q7; have r2 := str_of w9 _ _ (N - 2) (F3 - 2) V q8; have r3 := str_of w9 _ _ (N - 2) (D3 - 2) V q9; have r4 := str_of w9 _ _ (F2 - (N + 1)) (F3 - (N + 1)) T q10; have r5 := str_of w9 _ _ (D2 - N) (D3 - N) T q11; go_simp; (first | done | with_reducible rfl)
      try simp only [Act.put, List.setIfInBounds_toArray, List.set_cons_zero, List.set_cons_succ]
      refine stepQ HOPS 49 1125899906842623 ?_ (by decide) rfl (by kernel_rfl) (by kernel_rfl) rfl ?_ HS.out ?_
      rotate_left
      · intro w9 hS9; obtain ⟨q0, q1, q2, q3, q4, q5, q6, q7, q8, q9, q10, q11⟩ := hS9; have r0 := str_of w9 _ _ (D2 - 2) (D3 - 2) (V ++ T) q6; have r1 := str_of w9 _ _ (D2 - 2) (E3 - 2) (V ++ T) q7; have r2 := str_of w9 _ _ (N - 2) (F3 - 2) V q8; have r3 := str_of w9 _ _ (N - 2) (D3 - 2) V q9; have r4 := str_of w9 _ _ (F2 - (N + 1)) (F3 - (N + 1)) T q10; have r5 := str_of w9 _ _ (D2 - N) (D3 - N) T q11; go_simp; (first | done | with_reducible rfl)
      try simp only [Act.put, List.setIfInBounds_toArray, List.set_cons_zero, List.set_cons_succ]
      refine stepQ HOPS 50 2251799813685247 ?_ (by decide) rfl (by kernel_rfl) (by kernel_rfl) rfl ?_ HS.out ?_
      rotate_left
      · intro w9 hS9; obtain ⟨q0, q1, q2, q3, q4, q5, q6, q7, q8, q9, q10, q11⟩ := hS9; have r0 := str_of w9 _ _ (D2 - 2) (D3 - 2) (V ++ T) q6; have r1 := str_of w9 _ _ (D2 - 2) (E3 - 2) (V ++ T) q7; have r2 := str_of w9 _ _ (N - 2) (F3 - 2) V q8; have r3 := str_of w9 _ _ (N - 2) (D3 - 2) V q9; have r4 := str_of w9 _ _ (F2 - (N + 1)) (F3 - (N + 1)) T q10; have r5 := str_of w9 _ _ (D2 - N) (D3 - N) T q11; go_simp; (first | done | with_reducible rfl)
      try simp only [Act.put, List.setIfInBounds_toArray, List.set_cons_zero, List.set_cons_succ]
      refine stepQ HOPS 51 4503599627370495 ?_ (by decide) rfl (by kernel_rfl) (by kernel_rfl) rfl ?_ HS.out ?_
      rotate_left
      · intro w9 hS9; obtain ⟨q0, q1, q2, q3, q4, q5, q6, q7, q8, q9, q10, q11⟩ := hS9; have r0 := str_of w9 _ _ (D2 - 2) (D3 - 2) (V ++ T) q6; have r1 := str_of w9 _ _ (D2 - 2) (E3 - 2) (V ++ T) q7; have r2 := str_of w9 _ _ (N - 2) (F3 - 2) V q8; have r3 := str_of w9 _ _ (N - 2) (D3 - 2) V q9; have r4 := str_of w9 _ _ (F2 - (N + 1)) (F3 - (N + 1)) T q10; have r5 := str_of w9 _ _ (D2 - N) (D3 - N) T q11; go_simp; (first | done | with_reducible rfl)
      try simp only [Act.put, List.setIfInBounds_toArray, List.set_cons_zero, List.set_cons_succ]
      refine stepQ HOPS 52 9007199254740991 ?_ (by decide) rfl (by kernel_rfl) (by kernel_rfl) rfl ?_ HS.out ?_
      rotate_left
      · intro w9 hS9; obtain ⟨q0, q1, q2, q3, q4, q5, q6, q7, q8, q9, q10, q11⟩ := hS9; have r0 := str_of w9 _ _ (D2 - 2) (D3 - 2) (V ++ T) q6; have r1 := str_of w9 _ _ (D2 - 2) (E3 - 2) (V ++ T) q7; have r2 := str_of w9 _ _ (N - 2) (F3 - 2) V q8; have r3 := str_of w9 _ _ (N - 2) (D3 - 2) V q9; have r4 := str_of w9 _ _ (F2 - (N + 1)) (F3 - (N + 1)) T q10; have r5 := str_of w9 _ _ (D2 - N) (D3 - N) T q11; go_simp; (first | done | with_reducible rfl)
      try simp only [Act.put, List.setIfInBounds_toArray, List.set_cons_zero, List.set_cons_succ]
      refine stepQ HOPS 53 18014398509481983 ?_ (by decide) rfl (by kernel_rfl) (by kernel_rfl) rfl ?_ HS.out ?_
      rotate_left
      · intro w9 hS9; obtain ⟨q0, q1, q2, q3, q4, q5, q6, q7, q8, q9, q10, q11⟩ := hS9; have r0 := str_of w9 _ _ (D2 - 2) (D3 - 2) (V ++ T) q6; have r1 := str_of w9 _ _ (D2 - 2) (E3 - 2) (V ++ T) q7; have r2 := str_of w9 _ _ (N - 2) (F3 - 2) V q8; have r3 := str_of w9 _ _ (N - 2) (D3 - 2) V q9; have r4 := str_of w9 _ _ (F2 - (N + 1)) (F3 - (N + 1)) T q10; have r5 := str_of w9 _ _ (D2 - N) (D3 - N) T q11; go_simp; (first | done | with_reducible rfl)
      try simp only [Act.put, List.setIfInBounds_toArray, List.set_cons_zero, List.set_cons_succ]
      refine stepQ HOPS 54 36028797018963967 ?_ (by decide) rfl (by kernel_rfl) (by kernel_rfl) rfl ?_ HS.out ?_
      rotate_left
      · intro w9 hS9; obtain ⟨q0, q1, q2, q3, q4, q5, q6, q7, q8, q9, q10, q11⟩ := hS9; have r0 := str_of w9 _ _ (D2 - 2) (D3 - 2) (V ++ T) q6; have r1 := str_of w9 _ _ (D2 - 2) (E3 - 2) (V ++ T) q7; have r2 := str_of w9 _ _ (N - 2) (F3 - 2) V q8; have r3 := str_of w9 _ _ (N - 2) (D3 - 2) V q9; have r4 := str_of w9 _ _ (F2 - (N + 1)) (F3 - (N + 1)) T q10; have r5 := str_of w9 _ _ (D2 - N) (D3 - N) T q11; go_simp; (first | done | with_reducible rfl)
      try simp only [Act.put, List.setIfInBounds_toArray, List.set_cons_zero, List.set_cons_succ]
      refine stepQ HOPS 55 72057594037927935 ?_ (by decide) rfl (by kernel_rfl) (by kernel_rfl) rfl ?_ HS.out ?_
      rotate_left
      · intro w9 hS9; obtain ⟨q0, q1, q2, q3, q4, q5, q6, q7, q8, q9, q10, q11⟩ := hS9; have r0 := str_of w9 _ _ (D2 - 2) (D3 - 2) (V ++ T) q6; have r1 := str_of w9 _ _ (D2 - 2) (E3 - 2) (V ++ T) q7; have r2 := str_of w9 _ _ (N - 2) (F3 - 2) V q8; have r3 := str_of w9 _ _ (N - 2) (D3 - 2) V q9; have r4 := str_of w9 _ _ (F2 - (N + 1)) (F3 - (N + 1)) T q10; have r5 := str_of w9 _ _ (D2 - N) (D3 - N) T q11; go_simp; (first | done | with_reducible rfl)
      try simp only [Act.put, List.setIfInBounds_toArray, List.set_cons_zero, List.set_cons_succ]
      refine stepQ HOPS 56 144115188075855871 ?_ (by decide) rfl (by kernel_rfl) (by kernel_rfl) rfl ?_ HS.out ?_
      rotate_left
      · intro w9 hS9; obtain ⟨q0, q1, q2, q3, q4, q5, q6, q7, q8, q9, q10, q11⟩ := hS9; have r0 := str_of w9 _ _ (D2 - 2) (D3 - 2) (V ++ T) q6; have r1 := str_of w9 _ _ (D2 - 2) (E3 - 2) (V ++ T) q7; have r2 := str_of w9 _ _ (N - 2) (F3 - 2) V q8; have r3 := str_of w9 _ _ (N - 2) (D3 - 2) V q9; have r4 := str_of w9 _ _ (F2 - (N + 1)) (F3 - (N + 1)) T q10; have r5 := str_of w9 _ _ (D2 - N) (D3 - N) T q11; go_simp; (first | done | with_reducible rfl)
      try simp only [Act.put, List.setIfInBounds_toArray, List.set_cons_zero, List.set_cons_succ]
      refine stepQ HOPS 57 288230376151711743 ?_ (by decide) rfl (by kernel_rfl) (by kernel_rfl) rfl ?_ HS.out ?_
      rotate_left
      · intro w9 hS9; obtain ⟨q0, q1, q2, q3, q4, q5, q6, q7, q8, q9, q10, q11⟩ := hS9; have r0 := str_of w9 _ _ (D2 - 2) (D3 - 2) (V ++ T) q6; have r1 := str_of w9 _ _ (D2 - 2) (E3 - 2) (V ++ T) q7; have r2 := str_of w9 _ _ (N - 2) (F3 - 2) V q8; have r3 := str_of w9 _ _ (N - 2) (D3 - 2) V q9; have r4 := str_of w9 _ _ (F2 - (N + 1)) (F3 - (N + 1)) T q10; have r5 := str_of w9 _ _ (D2 - N) (D3 - N) T q11; go_simp; (first | done | with_reducible rfl)
      try simp only [Act.put, List.setIfInBounds_toArray, List.set_cons_zero, List.set_cons_succ]
      refine stepQ HOPS 58 576460752303423487 ?_ (by decide) rfl (by kernel_rfl) (by kernel_rfl) rfl ?_ HS.out ?_
      rotate_left
      · intro w9 hS9; obtain ⟨q0, q1, q2, q3, q4, q5, q6, q7, q8, q9, q10, q11⟩ := hS9; have r0 := str_of w9 _ _ (D2 - 2) (D3 - 2) (V ++ T) q6; have r1 := str_of w9 _ _ (D2 - 2) (E3 - 2) (V ++ T) q7; have r2 := str_of w9 _ _ (N - 2) (F3 - 2) V q8; have r3 := str_of w9 _ _ (N - 2) (D3 - 2) V q9; have r4 := str_of w9 _ _ (F2 - (N + 1)) (F3 - (N + 1)) T q10; have r5 := str_of w9 _ _ (D2 - N) (D3 - N) T q11; go_simp; (first | done | with_reducible rfl)
      try simp only [Act.put, List.setIfInBounds_toArray, List.set_cons_zero, List.set_cons_succ]
      refine stepQ HOPS 59 1152921504606846975 ?_ (by decide) rfl (by kernel_rfl) (by kernel_rfl) rfl ?_ HS.out ?_
      rotate_left
      · intro w9 hS9; obtain ⟨q0, q1, q2, q3, q4, q5, q6, q7, q8, q9, q10, q11⟩ := hS9; have r0 := str_of w9 _ _ (D2 - 2) (D3 - 2) (V ++ T) q6; have r1 := str_of w9 _ _ (D2 - 2) (E3 - 2) (V ++ T) q7; have r2 := str_of w9 _ _ (N - 2) (F3 - 2) V q8; have r3 := str_of w9 _ _ (N - 2) (D3 - 2) V q9; have r4 := str_of w9 _ _ (F2 - (N + 1)) (F3 - (N + 1)) T q10; have r5 := str_of w9 _ _ (D2 - N) (D3 - N) T q11; go_simp; (first | done | with_reducible rfl)
      try simp only [Act.put, List.setIfInBounds_toArray, List.set_cons_zero, List.set_cons_succ]
      refine stepQ HOPS 60 2305843009213693951 ?_ (by decide) rfl (by kernel_rfl) (by kernel_rfl) rfl ?_ HS.out ?_
      rotate_left
      · intro w9 hS9; obtain ⟨q0, q1, q2, q3, q4, q5, q6, q7, q8, q9, q10, q11⟩ := hS9; have r0 := str_of w9 _ _ (D2 - 2) (D3 - 2) (V ++ T) q6; have r1 := str_of w9 _ _ (D2 - 2) (E3 - 2) (V ++ T) q7; have r2 := str_of w9 _ _ (N - 2) (F3 - 2) V q8; have r3 := str_of w9 _ _ (N - 2) (D3 - 2) V q9; have r4 := str_of w9 _ _ (F2 - (N + 1)) (F3 - (N + 1)) T q10; have r5 := str_of w9 _ _ (D2 - N) (D3 - N) T q11; go_simp; (first | done | with_reducible rfl)
      try simp only [Act.put, List.setIfInBounds_toArray, List.set_cons_zero, List.set_cons_succ]
      refine stepQ HOPS 61 4611686018427387903 ?_ (by decide) rfl (by kernel_rfl) (by kernel_rfl) rfl ?_ HS.out ?_
      rotate_left
      · intro w9 hS9; obtain ⟨q0, q1, q2, q3, q4, q5, q6, q7, q8, q9, q10, q11⟩ := hS9; have r0 := str_of w9 _ _ (D2 - 2) (D3 - 2) (V ++ T) q6; have r1 := str_of w9 _ _ (D2 - 2) (E3 - 2) (V ++ T) q7; have r2 := str_of w9 _ _ (N - 2) (F3 - 2) V q8; have r3 := str_of w9 _ _ (N - 2) (D3 - 2) V q9; have r4 := str_of w9 _ _ (F2 - (N + 1)) (F3 - (N + 1)) T q10; have r5 := str_of w9 _ _ (D2 - N) (D3 - N) T q11; go_simp; (first | done | with_reducible rfl)
      try simp only [Act.put, List.setIfInBounds_toArray, List.set_cons_zero, List.set_cons_succ]
      refine stepQ HOPS 62 9223372036854775807 ?_ (by decide) rfl (by kernel_rfl) (by kernel_rfl) rfl ?_ HS.out ?_
      rotate_left
      · intro w9 hS9; obtain ⟨q0, q1, q2, q3, q4, q5, q6, q7, q8, q9, q10, q11⟩ := hS9; have r0 := str_of w9 _ _ (D2 - 2) (D3 - 2) (V ++ T) q6; have r1 := str_of w9 _ _ (D2 - 2) (E3 - 2) (V ++ T) q7; have r2 := str_of w9 _ _ (N - 2) (F3 - 2) V q8; have r3 := str_of w9 _ _ (N - 2) (D3 - 2) V q9; have r4 := str_of w9 _ _ (F2 - (N + 1)) (F3 - (N + 1)) T q10; have r5 := str_of w9 _ _ (D2 - N) (D3 - N) T q11; go_simp; (first | done | with_reducible rfl)
      try simp only [Act.put, List.setIfInBounds_toArray, List.set_cons_zero, List.set_cons_succ]
      refine stepQ HOPS 63 18446744073709551615 ?_ (by decide) rfl (by kernel_rfl) (by kernel_rfl) rfl ?_ HS.out ?_
      rotate_left
      · intro w9 hS9; obtain ⟨q0, q1, q2, q3, q4, q5, q6, q7, q8, q9, q10, q11⟩ := hS9; have r0 := str_of w9 _ _ (D2 - 2) (D3 - 2) (V ++ T) q6; have r1 := str_of w9 _ _ (D2 - 2) (E3 - 2) (V ++ T) q7; have r2 := str_of w9 _ _ (N - 2) (F3 - 2) V q8; have r3 := str_of w9 _ _ (N - 2) (D3 - 2) V q9; have r4 := str_of w9 _ _ (F2 - (N + 1)) (F3 - (N + 1)) T q10; have r5 := str_of w9 _ _ (D2 - N) (D3 - N) T q11; go_simp; (first | done | with_reducible rfl)
      try simp only [Act.put, List.setIfInBounds_toArray, List.set_cons_zero, List.set_cons_succ]
      refine stepQ HOPS 64 36893488147419103231 ?_ (by decide) rfl (by kernel_rfl) (by kernel_rfl) rfl ?_ HS.out ?_
      rotate_left
      · intro w9 hS9; obtain ⟨q0, q1, q2, q3, q4, q5, q6, q7, q8, q9, q10, q11⟩ := hS9; have r0 := str_of w9 _ _ (D2 - 2) (D3 - 2) (V ++ T) q6; have r1 := str_of w9 _ _ (D2 - 2) (E3 - 2) (V ++ T) q7; have r2 := str_of w9 _ _ (N - 2) (F3 - 2) V q8; have r3 := str_of w9 _ _ (N - 2) (D3 - 2) V q9; have r4 := str_of w9 _ _ (F2 - (N + 1)) (F3 - (N + 1)) T q10; have r5 := str_of w9 _ _ (D2 - N) (D3 - N) T q11; go_simp; (first | done | with_reducible rfl)
      try simp only [Act.put, List.setIfInBounds_toArray, List.set_cons_zero, List.set_cons_succ]
      refine stepQ HOPS 65 73786976294838206463 ?_ (by decide) rfl (by kernel_rfl) (by kernel_rfl) rfl ?_ HS.out ?_
      rotate_left
      · intro w9 hS9; obtain ⟨q0, q1, q2, q3, q4, q5, q6, q7, q8, q9, q10, q11⟩ := hS9; have r0 := str_of w9 _ _ (D2 - 2) (D3 - 2) (V ++ T) q6; have r1 := str_of w9 _ _ (D2 - 2) (E3 - 2) (V ++ T) q7; have r2 := str_of w9 _ _ (N - 2) (F3 - 2) V q8; have r3 := str_of w9 _ _ (N - 2) (D3 - 2) V q9; have r4 := str_of w9 _ _ (F2 - (N + 1)) (F3 - (N + 1)) T q10; have r5 := str_of w9 _ _ (D2 - N) (D3 - N) T q11; go_simp; (first | done | with_reducible rfl)
      try simp only [Act.put, List.setIfInBounds_toArray, List.set_cons_zero, List.set_cons_succ]
      refine stepQ HOPS 66 147573952589676412927 ?_ (by decide) rfl (by kernel_rfl) (by kernel_rfl) rfl ?_ HS.out ?_
      rotate_left
      · intro w9 hS9; obtain ⟨q0, q1, q2, q3, q4, q5, q6, q7, q8, q9, q10, q11⟩ := hS9; have r0 := str_of w9 _ _ (D2 - 2) (D3 - 2) (V ++ T) q6; have r1 := str_of w9 _ _ (D2 - 2) (E3 - 2) (V ++ T) q7; have r2 := str_of w9 _ _ (N - 2) (F3 - 2) V q8; have r3 := str_of w9 _ _ (N - 2) (D3 - 2) V q9; have r4 := str_of w9 _ _ (F2 - (N + 1)) (F3 - (N + 1)) T q10; have r5 := str_of w9 _ _ (D2 - N) (D3 - N) T q11; go_simp; (first | done | with_reducible rfl)
      try simp only [Act.put, List.setIfInBounds_toArray, List.set_cons_zero, List.set_cons_succ]
      refine stepQ HOPS 67 295147905179352825855 ?_ (by decide) rfl (by kernel_rfl) (by kernel_rfl) rfl ?_ HS.out ?_
      rotate_left
      · intro w9 hS9; obtain ⟨q0, q1, q2, q3, q4, q5, q6, q7, q8, q9, q10, q11⟩ := hS9; have r0 := str_of w9 _ _ (D2 - 2) (D3 - 2) (V ++ T) q6; have r1 := str_of w9 _ _ (D2 - 2) (E3 - 2) (V ++ T) q7; have r2 := str_of w9 _ _ (N - 2) (F3 - 2) V q8; have r3 := str_of w9 _ _ (N - 2) (D3 - 2) V q9; have r4 := str_of w9 _ _ (F2 - (N + 1)) (F3 - (N + 1)) T q10; have r5 := str_of w9 _ _ (D2 - N) (D3 - N) T q11; go_simp; (first | done | with_reducible rfl)
      try simp only [Act.put, List.setIfInBounds_toArray, List.set_cons_zero, List.set_cons_succ]
      refine stepE HOPS (by kernel_rfl) (HQ.out _ _ ?_)
      clear HQ HOPS
      clear Q ops
      go_wp2
      go_ret
      exact ⟨rfl, bel_drew (HBw5.out.trans (HB.out.mono HBw5.out.size))⟩
theorem protoVersions_walk (k v i : Int) (s : ByteArray) (A1 : Option Addr) (n1 c1 : Nat) (l1 : List Int) (A2 : Option Addr) (n2 c2 : Nat) (l2 : List ByteArray) (A3 : Option Addr) (n3 c3 : Nat) (l3 : List UInt8) (w : World) (hs : s.size ≤ reach) (h1 : RdL w w.heap.size A1 n1 l1) (hn1 : n1 ≤ reach) (h2 : RdL w w.heap.size A2 n2 l2) (hn2 : n2 ≤ reach) (h3 : Rd w w.heap.size A3 n3 l3) (hc3 : n3 ≤ c3) (hn3 : n3 ≤ reach) (ht : Tab w) :
    Calls Tryd.prog 9 #[.agg #[.int .i64 k, .int .i64 v, .int .i64 i, .string s, .slice A1 n1 c1, .slice A2 n2 c2, .slice A3 n3 c3]] w fun e w' => e = .returned (.bool true) ∧ Below w.heap.size w w' := by
  rcases hf : fewQ ⟨k, v, i, s, l1, l2, l3⟩ with _ | _
  · exact vers_n k v i s A1 n1 c1 l1 A2 n2 c2 l2 A3 n3 c3 l3 w hs h1 hn1 h2 hn2 h3 hc3 hn3 ht hf
  obtain ⟨r, hr⟩ : ∃ r : Rq, r = ⟨k, v, i, s, l1, l2, l3⟩ := ⟨_, rfl⟩
  have e0 : (⟨k, 0, i, { data := #[] }, l1, l2, l3⟩ : Rq) = atQ r 0 := by rw [hr]; rfl
  have e1 : (⟨k, 1, i, { data := #[] }, l1, l2, l3⟩ : Rq) = atQ r 1 := by rw [hr]; rfl
  have e2 : (⟨k, 2, i, { data := #[] }, l1, l2, l3⟩ : Rq) = atQ r 2 := by rw [hr]; rfl
  by_cases hck : ckQ (atQ r 0) = 0
  · have hck1 : ckQ (atQ r 1) = 0 := ckQ_at hck (by omega)
    have hck2 : ckQ (atQ r 2) = 0 := ckQ_at hck (by omega)
    have q0 : ptQ (atQ r 0) = (reqC.put (atQ r 0), 0) := by unfold ptQ; rw [if_pos hck]
    have q1 : ptQ (atQ r 1) = (reqC.put (atQ r 1), 0) := by unfold ptQ; rw [if_pos hck1]
    have q2 : ptQ (atQ r 2) = (reqC.put (atQ r 2), 0) := by unfold ptQ; rw [if_pos hck2]
    have hlen := ptQ_len q0
    have hT1 : 1 ≤ (tailQ r).length := tailQ_pos (r := atQ r 0) hck
    rw [put_at0] at q0 hlen
    rw [put_at1] at q1
    rw [put_at2] at q2
    obtain ⟨I, C, hV, hI, hC⟩ := vb_last (zz r.id)
    rw [← e0] at q0
    rw [← e1] at q1
    rw [← e2] at q2
    exact vers_ok k v i s A1 n1 c1 l1 A2 n2 c2 l2 A3 n3 c3 l3 w hs h1 hn1 h2 hn2 h3 hc3 hn3 ht hf (UInt8.ofNat r.kind.toNat) I C (vb (zz r.id)) (tailQ r) hV hI hC (by simp only [List.length_cons] at hlen; omega) hT1 q0 q1 q2
  · have q0 : ptQ (atQ r 0) = ([], ckQ (atQ r 0)) := by unfold ptQ; rw [if_neg hck]
    rw [← e0] at q0 hck
    exact vers_e k v i s A1 n1 c1 l1 A2 n2 c2 l2 A3 n3 c3 l3 w hs h1 hn1 h2 hn2 h3 hc3 hn3 ht hf _ (by simpa [bne_iff_ne] using hck) q0
end Go.Proofs.YthhdhdjdhekgpaaDoor.Pro
