/- Joined: IdxG. -/
import Derived.Test.YtbnkfljkojhkoaaGreatDoorIdxK
/- The landed index.Make and index.Check, in all ways. -/
namespace Go.Proofs.YtbnkfljkojhkoaaGreatDoor.Idx
open Go.RowKit Go.Shelf Oct Rec Crc Bat Seg RowF

set_option maxRecDepth 100000 in
set_option maxHeartbeats 2000000 in
theorem Make_is (A : Option Addr) (n c : Nat) (base : Int) (bs : List UInt8) (every : Int) {m : List En} {z : Int} (h : makeX ⟨base, bs⟩ every = (m, z)) (w : World) (hr : Rd w w.heap.size A n bs) (hc : n ≤ c) (hI : I64 base) (ht : Tab w) :
    Calls Tryz.prog 7 #[.agg #[.int .i64 base, .slice A n c], .int .i64 every] w (REn w m z) := by
  by_cases hg : rightX ⟨base, bs⟩ = true ∧ 1 ≤ every ∧ every ≤ 4096
  · have e : makeX ⟨base, bs⟩ every = (pick every none (allE ⟨base, bs⟩), 0) := by
      unfold makeX
      rw [if_neg (by rw [hg.1]; simp; omega)]
    rw [e] at h
    injection h with h1 h2
    subst h1 h2
    exact callsIn_wide.1 (Make_in A n c base bs every w hr hc hI ht hg.1 hg.2.1 hg.2.2)
  · have e : makeX ⟨base, bs⟩ every = ([], 1) := by
      unfold makeX
      rw [if_pos]
      cases hx : rightX ⟨base, bs⟩
      · exact .inl rfl
      · rw [hx] at hg; simp at hg; right; omega
    rw [e] at h
    injection h with h1 h2
    subst h1 h2
    have HB2 := Lib.hid (bel_alloc (belA w (.cells #[.int .i64 base, .slice A n c] 24)) (.cells #[.int .i64 every] 3))
    have HRR := Lib.hid (rdUp hr HB2.out)
    have HTT := Lib.hid (ht.bel HB2.out)
    have ARM : ∀ r, rightX ⟨base, bs⟩ = r → Calls Tryz.prog 20 #[.agg #[.int .i64 base, .slice A n c]] ((w.alloc (.cells #[.int .i64 base, .slice A n c] 24)).alloc (.cells #[.int .i64 every] 3)) fun e w' => e = .returned (.bool r) ∧ Below ((w.alloc (.cells #[.int .i64 base, .slice A n c] 24)).alloc (.cells #[.int .i64 every] 3)).heap.size ((w.alloc (.cells #[.int .i64 base, .slice A n c] 24)).alloc (.cells #[.int .i64 every] 3)) w' := fun r hr => hr ▸ isRight_any A n c base bs _ HRR.out hc hI HTT.out
    rcases hx : rightX ⟨base, bs⟩ with _ | _
    · have HA := Lib.hid (ARM false hx)
      clear hx ARM hg e hr ht
      go_enter Tryz.func7, Tryz.ntmps7
      go_wp2_with (go_at_call 20; (with_reducible refine HA.out.mono ?_); rintro e w1 ⟨rfl, hb1⟩)
      refine bodyPost_ret (v := .tuple #[.slice none 0 0, .int .i64 1]) (by simp [results, Tryz.results7, go_sem]) rfl ?_
      exact ⟨none, 0, 0, rfl, OwnF.nil, bel_trans HB2.out hb1⟩
    · have HA := Lib.hid (ARM true hx)
      have hev : every < 1 ∨ 4096 < every := by rw [hx] at hg; simp at hg; omega
      clear hx ARM hg e hr ht
      by_cases h1 : every < 1
      · clear hev
        go_enter Tryz.func7, Tryz.ntmps7
        go_wp2_with (go_at_call 20; (with_reducible refine HA.out.mono ?_); rintro e w1 ⟨rfl, hb1⟩; have q2 := (hb1.cell (p := ⟨w.heap.size + 1, 0, none⟩) (by simp)).trans (show _ = some (.int .i64 every) by simp [go_sem]))
        refine bodyPost_ret (v := .tuple #[.slice none 0 0, .int .i64 1]) (by simp [results, Tryz.results7, go_sem]) rfl ?_
        exact ⟨none, 0, 0, rfl, OwnF.nil, bel_trans HB2.out hb1⟩
      · have h2 : 4096 < every := by omega
        clear hev
        go_enter Tryz.func7, Tryz.ntmps7
        go_wp2_with (go_at_call 20; (with_reducible refine HA.out.mono ?_); rintro e w1 ⟨rfl, hb1⟩; have q2 := (hb1.cell (p := ⟨w.heap.size + 1, 0, none⟩) (by simp)).trans (show _ = some (.int .i64 every) by simp [go_sem]))
        refine bodyPost_ret (v := .tuple #[.slice none 0 0, .int .i64 1]) (by simp [results, Tryz.results7, go_sem]) rfl ?_
        exact ⟨none, 0, 0, rfl, OwnF.nil, bel_trans HB2.out hb1⟩
theorem rdeUp {w w' : World} {A : Option Addr} {n : Nat} {l : List En} (h : RdE w w.heap.size A n l) (hb : Below w.heap.size w w') : RdE w' w'.heap.size A n l := (RdF.below h hb (Nat.le_refl _)).more hb.size
set_option maxRecDepth 100000 in
set_option maxHeartbeats 2000000 in
theorem Check_is (A : Option Addr) (n c : Nat) (base : Int) (bs : List UInt8) (A2 : Option Addr) (n2 c2 : Nat) (l : List En) {z : Int} (h : ckX ⟨base, bs⟩ l = z) (w : World) (hr : Rd w w.heap.size A n bs) (hc : n ≤ c) (hr2 : RdE w w.heap.size A2 n2 l) (hn2 : n2 ≤ 1099511627776) (hI : I64 base) (ht : Tab w) :
    Calls Tryz.prog 10 #[.agg #[.int .i64 base, .slice A n c], .slice A2 n2 c2] w fun e w' => e = .returned (.int .i64 z) ∧ Below w.heap.size w w' := by
  have HB2 := Lib.hid (belA w (.cells #[.int .i64 base, .slice A n c] 24))
  have HRR := Lib.hid (rdUp hr HB2.out)
  have HEE := Lib.hid (rdeUp hr2 HB2.out)
  have HTT := Lib.hid (ht.bel HB2.out)
  have ARM : ∀ r, rightX ⟨base, bs⟩ = r → Calls Tryz.prog 20 #[.agg #[.int .i64 base, .slice A n c]] (w.alloc (.cells #[.int .i64 base, .slice A n c] 24)) fun e w' => e = .returned (.bool r) ∧ Below (w.alloc (.cells #[.int .i64 base, .slice A n c] 24)).heap.size (w.alloc (.cells #[.int .i64 base, .slice A n c] 24)) w' := fun r hr => hr ▸ isRight_any A n c base bs _ HRR.out hc hI HTT.out
  rcases hx : rightX ⟨base, bs⟩ with _ | _
  · have HA := Lib.hid (ARM false hx)
    obtain rfl : 1 = z := by rw [← h]; unfold ckX; rw [if_neg (by rw [hx]; simp)]
    clear hx ARM h hr ht hr2
    go_enter Tryz.func10, Tryz.ntmps10
    go_wp2_with (go_at_call 20; (with_reducible refine HA.out.mono ?_); rintro e w1 ⟨rfl, hb1⟩)
    go_ret
    exact ⟨rfl, bel_trans HB2.out hb1⟩
  · have HA := Lib.hid (ARM true hx)
    have HX := Lib.hid hx
    rcases hi : isIx true (allE ⟨base, bs⟩) l with _ | _
    · have HI := Lib.hid hi
      obtain rfl : 1 = z := by rw [← h]; unfold ckX; rw [if_neg (by rw [hi]; simp)]
      clear hx ARM h hr ht hr2 hi
      go_enter Tryz.func10, Tryz.ntmps10
      go_wp2_with (first
        | (go_at_call 20; (with_reducible refine HA.out.mono ?_); rintro e w1 ⟨rfl, hb1⟩; have q0 := (hb1.cell (p := ⟨w.heap.size, 0, none⟩) (by simp)).trans (show _ = some (.int .i64 base) by simp [go_sem]); have q1 := (hb1.cell (p := ⟨w.heap.size, 1, none⟩) (by simp)).trans (show _ = some (.slice A n c) by simp [go_sem]); have HR1 := Lib.hid (rdUp HRR.out hb1); have HE1 := Lib.hid (rdeUp HEE.out hb1); have HT1 := Lib.hid (HTT.out.bel hb1); have HB1 := Lib.hid (bel_trans HB2.out hb1); clear hb1)
        | (go_at_call 24; (with_reducible refine (callsIn_wide.1 (isIndex_in A n c base bs A2 n2 c2 l _ HR1.out hc HE1.out hn2 HT1.out HX.out)).mono ?_); rw [HI.out]; rintro e w2 ⟨rfl, hb2⟩))
      go_ret
      exact ⟨rfl, bel_trans HB1.out hb2⟩
    · have HI := Lib.hid hi
      obtain rfl : 0 = z := by rw [← h]; unfold ckX; rw [if_pos ⟨hx, hi⟩]
      clear hx ARM h hr ht hr2 hi
      go_enter Tryz.func10, Tryz.ntmps10
      go_wp2_with (first
        | (go_at_call 20; (with_reducible refine HA.out.mono ?_); rintro e w1 ⟨rfl, hb1⟩; have q0 := (hb1.cell (p := ⟨w.heap.size, 0, none⟩) (by simp)).trans (show _ = some (.int .i64 base) by simp [go_sem]); have q1 := (hb1.cell (p := ⟨w.heap.size, 1, none⟩) (by simp)).trans (show _ = some (.slice A n c) by simp [go_sem]); have HR1 := Lib.hid (rdUp HRR.out hb1); have HE1 := Lib.hid (rdeUp HEE.out hb1); have HT1 := Lib.hid (HTT.out.bel hb1); have HB1 := Lib.hid (bel_trans HB2.out hb1); clear hb1)
        | (go_at_call 24; (with_reducible refine (callsIn_wide.1 (isIndex_in A n c base bs A2 n2 c2 l _ HR1.out hc HE1.out hn2 HT1.out HX.out)).mono ?_); rw [HI.out]; rintro e w2 ⟨rfl, hb2⟩))
      go_ret
      exact ⟨rfl, bel_trans HB1.out hb2⟩
end Go.Proofs.YtbnkfljkojhkoaaGreatDoor.Idx
