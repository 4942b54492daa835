/- Joined: IdxT. -/
import Derived.Test.YtbnkfljkojhkoaaGreatDoorIdxEx
import Derived.Test.YtbnkfljkojhkoaaGreatDoorJSegW
/- The laws' own example: two. -/
namespace Go.Proofs.YtbnkfljkojhkoaaGreatDoor.Idx
open Go.RowKit Oct Rec Crc Bat Seg

theorem exA_fits : Fits exA := by
  have h0 : (ByteArray.mk #[]).size ≤ 1099511627776 := by decide
  have h1 : (ByteArray.mk #[120]).size ≤ 1099511627776 := by decide
  have h2 : (ByteArray.mk #[121]).size ≤ 1099511627776 := by decide
  refine ⟨?_, ?_, ?_, ?_, ?_, ?_, ?_, ?_, ?_⟩
  case refine_9 => intro r hr; simp only [exA, List.mem_cons, List.not_mem_nil, or_false] at hr; rcases hr with rfl | rfl <;> (unfold I64; simp [h0, h1, h2])
  all_goals (unfold I64 exA; simp)
theorem exB_fits : Fits exB := by
  have h0 : (ByteArray.mk #[]).size ≤ 1099511627776 := by decide
  have h1 : (ByteArray.mk #[122]).size ≤ 1099511627776 := by decide
  refine ⟨?_, ?_, ?_, ?_, ?_, ?_, ?_, ?_, ?_⟩
  case refine_9 => intro r hr; simp only [exB, List.mem_cons, List.not_mem_nil, or_false] at hr; rcases hr with rfl; (unfold I64; simp [h0, h1])
  all_goals (unfold I64 exB; simp)
theorem rdr_two {W : World} {g : Nat} {e : TypeId} {a b : Rc} (h : At0 W g [.int .i64 a.off, .string a.key, .string a.val, .bool a.dead, .int .i64 a.stamp, .int .i64 b.off, .string b.key, .string b.val, .bool b.dead, .int .i64 b.stamp] e) : RdR W W.heap.size (some ⟨g, 0, none⟩) 2 [a, b] := by
  refine ⟨rfl, fun k r hk => ?_⟩
  match k, hk with
  | 0, hk =>
    obtain rfl : a = r := Option.some.inj hk
    exact ⟨g, 0, rfl, h.lt, by simpa using h.cell 0, by simpa using h.cell 1, by simpa using h.cell 2, by simpa using h.cell 3, by simpa using h.cell 4⟩
  | 1, hk =>
    obtain rfl : b = r := Option.some.inj hk
    exact ⟨g, 0, rfl, h.lt, by simpa using h.cell 5, by simpa using h.cell 6, by simpa using h.cell 7, by simpa using h.cell 8, by simpa using h.cell 9⟩
theorem rdr_one {W : World} {g : Nat} {e : TypeId} {a : Rc} (h : At0 W g [.int .i64 a.off, .string a.key, .string a.val, .bool a.dead, .int .i64 a.stamp] e) : RdR W W.heap.size (some ⟨g, 0, none⟩) 1 [a] := by
  refine ⟨rfl, fun k r hk => ?_⟩
  match k, hk with
  | 0, hk =>
    obtain rfl : a = r := Option.some.inj hk
    exact ⟨g, 0, rfl, h.lt, by simpa using h.cell 0, by simpa using h.cell 1, by simpa using h.cell 2, by simpa using h.cell 3, by simpa using h.cell 4⟩
theorem rdrUp {w w' : World} {A : Option Addr} {n : Nat} {l : List Rc} (h : RdR w w.heap.size A n l) (hb : Below w.heap.size w w') : RdR w' w'.heap.size A n l := (h.below hb (Nat.le_refl _)).more hb.size
set_option maxRecDepth 100000 in
set_option maxHeartbeats 4000000 in
theorem two_any (w : World) (ht : Tab w) : Calls Tryz.prog 17 #[] w fun e w' => ∃ A n c, e = .returned (.tuple #[.agg #[.int .i64 0, .slice A n c], .bool true]) ∧ OwnB w' 5 w.heap.size (.slice A n c) n exS.bytes ∧ Below w.heap.size w w' := by
  have HT := Lib.hid (ht.bel (belA w (.cells #[.int .i64 0, .slice none 0 0] 24)))
  have HW := Lib.hid (belA w (.cells #[.int .i64 0, .slice none 0 0] 24))
  have HX := Lib.hid (At0.new w [.int .i64 0, .slice none 0 0] 24)
  have HFA := Lib.hid exA_fits
  have HFB := Lib.hid exB_fits
  have HA1 := Lib.hid ex_ap1
  have HA2 := Lib.hid ex_ap2
  have hI0 : I64 0 := by unfold I64; omega
  have hla := exA_len
  have hlb := exB_len
  show Calls _ _ _ _ fun e w' => ∃ A n c, e = .returned (.tuple #[.agg #[.int .i64 0, .slice A n c], .bool true]) ∧ OwnB w' 5 w.heap.size (.slice A n c) n (byB exA ++ byB exB) ∧ Below w.heap.size w w'
  obtain ⟨Y, hY⟩ : ∃ Y, Y = byB exA := ⟨_, rfl⟩
  obtain ⟨Z, hZ⟩ : ∃ Z, Z = byB exA ++ byB exB := ⟨_, rfl⟩
  rw [← hY] at HA1 HA2 hla
  have hlz : Z.length ≤ 840 := by rw [hZ, List.length_append, ← hY]; omega
  rw [← hZ]
  rw [hY, ← hZ, ← hY] at HA2
  unfold exA at HA1 HFA
  unfold exB at HA2 HFB
  clear ht hY hZ hlb
  go_enter Tryz.func17, Tryz.ntmps17
  go_wp2_with (first
    | (go_at_call 28; (with_reducible refine (New_is ex_new).mono ?_); rintro e w1 ⟨A1, n1, c1, rfl, ho1, hb1⟩; have hcap1 := ho1.cap; have hl1 := ho1.len; have hn1 : n1 ≤ 137438953472 := (by simp at hl1; omega)
       have HW5 := Lib.hid (show Below w1.heap.size w1 (((((w1.alloc (.cells #[.int .i64 0, .slice A1 n1 c1] 24)).alloc (.cells #[.int .i64 0, .string { data := #[] }, .string { data := #[120] }, .bool false, .int .i64 5, .int .i64 1, .string { data := #[] }, .string { data := #[121] }, .bool false, .int .i64 7] 60)).alloc (.cells #[.int .i64 0, .int .i64 1, .int .i64 0, .int .i64 0, .int .i64 (-1), .int .i64 0, .int .i64 0, .bool false, .int .i64 0, .slice (some ⟨w1.heap.size + 1, 0, none⟩) 2 2] 36)).alloc (.cells #[.int .i64 2, .string { data := #[] }, .string { data := #[122] }, .bool false, .int .i64 6] 60)).alloc (.cells #[.int .i64 2, .int .i64 2, .int .i64 2, .int .i64 0, .int .i64 (-1), .int .i64 0, .int .i64 0, .bool false, .int .i64 0, .slice (some ⟨w1.heap.size + 1 + 1 + 1, 0, none⟩) 1 1] 36)) from bel_alloc (bel_alloc (bel_alloc (bel_alloc (belA _ _) _) _) _) _)
       have HR5 := Lib.hid (rdUp ho1.rd HW5.out); have HT5 := Lib.hid ((HT.out.bel hb1).bel HW5.out); have HB5 := Lib.hid (bel_trans (bel_trans HW.out hb1) HW5.out); have HX5 := Lib.hid ((HX.out.below hb1).below HW5.out)
       have HRA := Lib.hid (rdr_two (a := ⟨0, { data := #[] }, { data := #[120] }, false, 5⟩) (b := ⟨1, { data := #[] }, { data := #[121] }, false, 7⟩) (show At0 (((((w1.alloc (.cells #[.int .i64 0, .slice A1 n1 c1] 24)).alloc (.cells #[.int .i64 0, .string { data := #[] }, .string { data := #[120] }, .bool false, .int .i64 5, .int .i64 1, .string { data := #[] }, .string { data := #[121] }, .bool false, .int .i64 7] 60)).alloc (.cells #[.int .i64 0, .int .i64 1, .int .i64 0, .int .i64 0, .int .i64 (-1), .int .i64 0, .int .i64 0, .bool false, .int .i64 0, .slice (some ⟨w1.heap.size + 1, 0, none⟩) 2 2] 36)).alloc (.cells #[.int .i64 2, .string { data := #[] }, .string { data := #[122] }, .bool false, .int .i64 6] 60)).alloc (.cells #[.int .i64 2, .int .i64 2, .int .i64 2, .int .i64 0, .int .i64 (-1), .int .i64 0, .int .i64 0, .bool false, .int .i64 0, .slice (some ⟨w1.heap.size + 1 + 1 + 1, 0, none⟩) 1 1] 36)) (w1.heap.size + 1) [.int .i64 0, .string { data := #[] }, .string { data := #[120] }, .bool false, .int .i64 5, .int .i64 1, .string { data := #[] }, .string { data := #[121] }, .bool false, .int .i64 7] 60 from (by have h := At0.new (w1.alloc (.cells #[.int .i64 0, .slice A1 n1 c1] 24)) [.int .i64 0, .string { data := #[] }, .string { data := #[120] }, .bool false, .int .i64 5, .int .i64 1, .string { data := #[] }, .string { data := #[121] }, .bool false, .int .i64 7] 60; simp only [World.size_alloc] at h; exact ((h.alloc _).alloc _).alloc _)))
       have HRB := Lib.hid (rdr_one (a := ⟨2, { data := #[] }, { data := #[122] }, false, 6⟩) (show At0 (((((w1.alloc (.cells #[.int .i64 0, .slice A1 n1 c1] 24)).alloc (.cells #[.int .i64 0, .string { data := #[] }, .string { data := #[120] }, .bool false, .int .i64 5, .int .i64 1, .string { data := #[] }, .string { data := #[121] }, .bool false, .int .i64 7] 60)).alloc (.cells #[.int .i64 0, .int .i64 1, .int .i64 0, .int .i64 0, .int .i64 (-1), .int .i64 0, .int .i64 0, .bool false, .int .i64 0, .slice (some ⟨w1.heap.size + 1, 0, none⟩) 2 2] 36)).alloc (.cells #[.int .i64 2, .string { data := #[] }, .string { data := #[122] }, .bool false, .int .i64 6] 60)).alloc (.cells #[.int .i64 2, .int .i64 2, .int .i64 2, .int .i64 0, .int .i64 (-1), .int .i64 0, .int .i64 0, .bool false, .int .i64 0, .slice (some ⟨w1.heap.size + 1 + 1 + 1, 0, none⟩) 1 1] 36)) (w1.heap.size + 1 + 1 + 1) [.int .i64 2, .string { data := #[] }, .string { data := #[122] }, .bool false, .int .i64 6] 60 from (by have h := At0.new (((w1.alloc (.cells #[.int .i64 0, .slice A1 n1 c1] 24)).alloc (.cells #[.int .i64 0, .string { data := #[] }, .string { data := #[120] }, .bool false, .int .i64 5, .int .i64 1, .string { data := #[] }, .string { data := #[121] }, .bool false, .int .i64 7] 60)).alloc (.cells #[.int .i64 0, .int .i64 1, .int .i64 0, .int .i64 0, .int .i64 (-1), .int .i64 0, .int .i64 0, .bool false, .int .i64 0, .slice (some ⟨w1.heap.size + 1, 0, none⟩) 2 2] 36)) [.int .i64 2, .string { data := #[] }, .string { data := #[122] }, .bool false, .int .i64 6] 60; simp only [World.size_alloc] at h; exact h.alloc _)))
       have HBB := Lib.hid (show At0 (((((w1.alloc (.cells #[.int .i64 0, .slice A1 n1 c1] 24)).alloc (.cells #[.int .i64 0, .string { data := #[] }, .string { data := #[120] }, .bool false, .int .i64 5, .int .i64 1, .string { data := #[] }, .string { data := #[121] }, .bool false, .int .i64 7] 60)).alloc (.cells #[.int .i64 0, .int .i64 1, .int .i64 0, .int .i64 0, .int .i64 (-1), .int .i64 0, .int .i64 0, .bool false, .int .i64 0, .slice (some ⟨w1.heap.size + 1, 0, none⟩) 2 2] 36)).alloc (.cells #[.int .i64 2, .string { data := #[] }, .string { data := #[122] }, .bool false, .int .i64 6] 60)).alloc (.cells #[.int .i64 2, .int .i64 2, .int .i64 2, .int .i64 0, .int .i64 (-1), .int .i64 0, .int .i64 0, .bool false, .int .i64 0, .slice (some ⟨w1.heap.size + 1 + 1 + 1, 0, none⟩) 1 1] 36)) (w1.heap.size + 1 + 1 + 1 + 1) [.int .i64 2, .int .i64 2, .int .i64 2, .int .i64 0, .int .i64 (-1), .int .i64 0, .int .i64 0, .bool false, .int .i64 0, .slice (some ⟨w1.heap.size + 1 + 1 + 1, 0, none⟩) 1 1] 36 from (by have h := At0.new ((((w1.alloc (.cells #[.int .i64 0, .slice A1 n1 c1] 24)).alloc (.cells #[.int .i64 0, .string { data := #[] }, .string { data := #[120] }, .bool false, .int .i64 5, .int .i64 1, .string { data := #[] }, .string { data := #[121] }, .bool false, .int .i64 7] 60)).alloc (.cells #[.int .i64 0, .int .i64 1, .int .i64 0, .int .i64 0, .int .i64 (-1), .int .i64 0, .int .i64 0, .bool false, .int .i64 0, .slice (some ⟨w1.heap.size + 1, 0, none⟩) 2 2] 36)).alloc (.cells #[.int .i64 2, .string { data := #[] }, .string { data := #[122] }, .bool false, .int .i64 6] 60)) [.int .i64 2, .int .i64 2, .int .i64 2, .int .i64 0, .int .i64 (-1), .int .i64 0, .int .i64 0, .bool false, .int .i64 0, .slice (some ⟨w1.heap.size + 1 + 1 + 1, 0, none⟩) 1 1] 36; simp only [World.size_alloc] at h; exact h))
       clear ho1 hl1 hb1)
    | (go_at_call 29; (with_reducible refine (Append_is HA1.out HR5.out hcap1 hn1 hI0 HFA.out HRA.out (by decide) HT5.out).mono ?_); rintro e w2 ⟨A2, n2, c2, rfl, ho2, hb2⟩; have hcap2 := ho2.cap; have hl2 := ho2.len; have hn2 : n2 ≤ 137438953472 := (by omega)
       have HW6 := Lib.hid (belA w2 (.cells #[.int .i64 0, .slice A2 n2 c2] 24)); have HR6 := Lib.hid (rdUp ho2.rd HW6.out); have HT6 := Lib.hid ((HT5.out.bel hb2).bel HW6.out); have HB6 := Lib.hid (bel_trans (bel_trans HB5.out hb2) HW6.out); have HX6 := Lib.hid ((HX5.out.below hb2).below HW6.out); have HRB6 := Lib.hid (rdrUp (rdrUp HRB.out hb2) HW6.out)
       have hBB := HBB.out.below hb2; have z0 : w2.cell? ⟨w1.heap.size + 1 + 1 + 1 + 1, 0, none⟩ = some (.int .i64 2) := hBB.cell 0; have z1 : w2.cell? ⟨w1.heap.size + 1 + 1 + 1 + 1, 1, none⟩ = some (.int .i64 2) := hBB.cell 1; have z2 : w2.cell? ⟨w1.heap.size + 1 + 1 + 1 + 1, 2, none⟩ = some (.int .i64 2) := hBB.cell 2; have z3 : w2.cell? ⟨w1.heap.size + 1 + 1 + 1 + 1, 3, none⟩ = some (.int .i64 0) := hBB.cell 3; have z4 : w2.cell? ⟨w1.heap.size + 1 + 1 + 1 + 1, 4, none⟩ = some (.int .i64 (-1)) := hBB.cell 4; have z5 : w2.cell? ⟨w1.heap.size + 1 + 1 + 1 + 1, 5, none⟩ = some (.int .i64 0) := hBB.cell 5; have z6 : w2.cell? ⟨w1.heap.size + 1 + 1 + 1 + 1, 6, none⟩ = some (.int .i64 0) := hBB.cell 6; have z7 : w2.cell? ⟨w1.heap.size + 1 + 1 + 1 + 1, 7, none⟩ = some (.bool false) := hBB.cell 7; have z8 : w2.cell? ⟨w1.heap.size + 1 + 1 + 1 + 1, 8, none⟩ = some (.int .i64 0) := hBB.cell 8; have z9 : w2.cell? ⟨w1.heap.size + 1 + 1 + 1 + 1, 9, none⟩ = some (.slice (some ⟨w1.heap.size + 1 + 1 + 1, 0, none⟩) 1 1) := hBB.cell 9; have hBl := hBB.lt; clear hBB ho2 hl2 hb2)
    | (go_at_call 29; (with_reducible refine (Append_is HA2.out HR6.out hcap2 hn2 hI0 HFB.out HRB6.out (by decide) HT6.out).mono ?_); rintro e w3 ⟨A3, n3, c3, rfl, ho3, hb3⟩; have hX := HX6.out.below hb3; have p0 : w3.cell? ⟨w.heap.size, 0, none⟩ = some (.int .i64 0) := hX.cell 0; have p1 : w3.cell? ⟨w.heap.size, 1, none⟩ = some (.slice none 0 0) := hX.cell 1; have f0 : w3.frozen? ⟨w.heap.size, 0, none⟩ = false := hX.frozen 0; have f1 : w3.frozen? ⟨w.heap.size, 1, none⟩ = false := hX.frozen 1; have hXl := hX.lt; have hXl2 := HX6.out.lt; have HO3 := Lib.hid ho3; have HB7 := Lib.hid (bel_trans HB6.out hb3); have hs6 := HB6.out.size; clear hX ho3 hb3))
  refine bodyPost_ret (v := .tuple #[.agg #[.int .i64 0, .slice A3 n3 c3], .bool true]) (by simp [results, Tryz.results17, go_sem, p0, p1, hXl]) rfl ?_
  exact ⟨A3, n3, c3, rfl, OwnB.more (World.ownsRow.alloc (ownsRow_setCell_below (ownsRow_setCell_below HO3.out (by simp only; simp only [World.size_alloc] at hXl2 ⊢; omega) _) (by simp only; simp only [World.size_alloc] at hXl2 ⊢; omega) _) _) hs6, ((HB7.out.setCell (by simp) _).setCell (by simp) _).alloc (by have := HB7.out.size; simp; omega) _⟩
end Go.Proofs.YtbnkfljkojhkoaaGreatDoor.Idx
