/- The contract of the landed frames.Split. -/
import Derived.Test.YtilnlmopdljeeaaFrmS
import Derived.Test.YtilnlmopdljeeaaFrmP
import Derived.Test.YtilnlmopdljeeaaRowL2
import Derived.WalkMore
import Derived.Test.YtilnlmopdljeeaaInR
namespace Go.Proofs.Ytilnlmopdljeeaa.Frm
open Go.RowKit Go.Shelf Go.Proofs.Ytilnlmopdljeeaa.InR Go.Proofs.Ytilnlmopdljeeaa.Oct Go.Proofs.Ytilnlmopdljeeaa.RowF Go.Proofs.Ytilnlmopdljeeaa.RowL Go.Proofs.Ytilnlmopdljeeaa.Lay

attribute [local go_sem] Oper.semAt_some

/-- Split's own cells between two rounds -/
def spC (bs : List UInt8) (A : Option Addr) (n c B : Nat) (pre : List (Nat × Nat)) (W : World) : Prop :=
  (∀ x ∈ pre, okN n x) ∧ Boxed W B 22 (.slice A n c) ∧ (∃ A1 n1 c1, Boxed W (B + 1) 28 (.slice A1 n1 c1) ∧ n1 = pre.length ∧ OwnL W 22 (fun b => B + 6 ≤ b) (B + 6) (.slice A1 n1 c1) n1 (bodN bs pre)) ∧
    Boxed W (B + 1 + 1) 22 (.slice none 0 0) ∧ Boxed W (B + 1 + 1 + 1) 24 (.int .i64 0) ∧ Boxed W (B + 1 + 1 + 1 + 1) 3 (.int .i64 (endN 0 pre : Int)) ∧ Boxed W (B + 1 + 1 + 1 + 1 + 1) 22 (.slice A n c)
theorem spC_own {bs : List UInt8} {A : Option Addr} {n c B : Nat} {pre : List (Nat × Nat)} {W W' : World} {row : Option Nat} (h : spC bs A n c B pre W) (hg : W.grownBy W' row) (hrow : ∀ r, row = some r → ∃ o : Obj, W.heap[r]? = some o ∧ o.isCells = false) : spC bs A n c B pre W' := by
  have hb : ∀ {k : Nat} {t : TypeId} {v : Value}, Boxed W k t v → Boxed W' k t v := fun {k t v} hv => hv.kept hg fun e' => by
    obtain ⟨o, ho, hc⟩ := hrow k e'.symm
    rw [show W.heap[k]? = _ from hv] at ho; cases ho; cases hc
  obtain ⟨h1, h2, ⟨A1, n1, c1, h3, h4, h5⟩, h6, h7, h8, h9⟩ := h
  exact ⟨h1, hb h2, ⟨A1, n1, c1, hb h3, h4, ownL_keptBy h5 hg hrow⟩, hb h6, hb h7, hb h8, hb h9⟩
/-- how a round leaves -/
def spX (bs : List UInt8) (A : Option Addr) (n c B : Nat) (cd : Code) (pre : List Pr) (W : World) : Prop :=
  ∃ (p : List Pr) (x : Pr), pre = p ++ [x] ∧ (∀ y ∈ p.map (·.1), okN n y) ∧
    ((cd = .ret ∧ ¬ (1 ≤ x.1.2 - x.1.1 ∧ x.1.2 - x.1.1 ≤ 4096) ∧ Boxed W (B + 1) 28 (.slice none 0 0) ∧ Boxed W (B + 1 + 1) 22 (.slice none 0 0) ∧ Boxed W (B + 1 + 1 + 1) 24 (.int .i64 11)) ∨
      (cd = .exit 0 ∧ (1 ≤ x.1.2 - x.1.1 ∧ x.1.2 - x.1.1 ≤ 4096) ∧ n < x.1.2 ∧ spC bs A n c B (p.map (·.1)) W))
theorem spX_own {bs : List UInt8} {A : Option Addr} {n c B : Nat} {cd : Code} {pre : List Pr} {W W' : World} {row : Option Nat} (h : spX bs A n c B cd pre W) (hg : W.grownBy W' row) (hrow : ∀ r, row = some r → ∃ o : Obj, W.heap[r]? = some o ∧ o.isCells = false) : spX bs A n c B cd pre W' := by
  have hb : ∀ {k : Nat} {t : TypeId} {v : Value}, Boxed W k t v → Boxed W' k t v := fun {k t v} hv => hv.kept hg fun e' => by
    obtain ⟨o, ho, hc⟩ := hrow k e'.symm
    rw [show W.heap[k]? = _ from hv] at ho; cases ho; cases hc
  obtain ⟨p, x, h1, h2, ⟨h3, h4, h5, h6, h7⟩ | ⟨h3, h4, h5, h6⟩⟩ := h
  · exact ⟨p, x, h1, h2, .inl ⟨h3, h4, hb h5, hb h6, hb h7⟩⟩
  · exact ⟨p, x, h1, h2, .inr ⟨h3, h4, h5, spC_own h6 hg hrow⟩⟩
set_option maxRecDepth 100000 in
set_option maxHeartbeats 4000000 in
theorem Split_in (A : Option Addr) (n c : Nat) (bs : List UInt8) (w : World) (hr : Rd w w.heap.size A n bs) (hc : n ≤ c) (hn : n ≤ 1099511627776) :
    CallsIn Fence.wide 6 Try.prog 14 #[.slice A n c] w (RS 22 5 w (sp bs)) := by
  have HR := Lib.hid hr
  have HLEN := Lib.hid hr.len
  clear hr
  have hd6 : 1 ≤ 6 := by omega
  refine callsIn_of_wp_marks Try.func14 rfl trivial ?_ rfl
  simp only [Try.ntmps14, List.size_toArray, List.length_cons, List.length_nil, Nat.reduceAdd, Nat.reduceSub, Array.replicate_succ, Array.replicate_zero, List.push_toArray, List.append_toArray, List.nil_append, List.cons_append]
  refine wpIn_wide.2 ?_
  go_wp2
  go_step3
  go_wp2
  go_step3
  go_wp2_with (go_at_call 25; (with_reducible refine (places_any A n c _).mono ?_); rintro e w' ⟨rfl, rfl⟩)
  generalize hw0 : ((((((w.alloc (.cells #[.slice A n c] 22)).alloc (.cells #[.slice none 0 0] 28)).alloc (.cells #[.slice none 0 0] 22)).alloc (.cells #[.int .i64 0] 24)).alloc (.cells #[.int .i64 0] 3)).alloc (.cells #[.slice A n c] 22)) = W0
  have hsz : W0.heap.size = w.heap.size + 6 := by rw [← hw0]; simp
  have hB0 : Below w.heap.size w W0 := by rw [← hw0]; exact bel_alloc (bel_alloc (bel_alloc (bel_alloc (bel_alloc (bel_alloc (Below.refl _ _) _) _) _) _) _) _
  have hC0 : spC bs A n c w.heap.size [] W0 := by
    rw [← hw0]
    refine ⟨by simp, ?_, ⟨none, 0, 0, ?_, rfl, OwnL.nil⟩, ?_, ?_, ?_, ?_⟩
    · exact ((((Boxed.new w _ _).alloc _).alloc _).alloc _).alloc _ |>.alloc _
    · have h := Boxed.new (w.alloc (.cells #[.slice A n c] 22)) 28 (.slice none 0 0)
      simp only [World.size_alloc] at h
      exact (((h.alloc _).alloc _).alloc _).alloc _
    · have h := Boxed.new ((w.alloc (.cells #[.slice A n c] 22)).alloc (.cells #[.slice none 0 0] 28)) 22 (.slice none 0 0)
      simp only [World.size_alloc] at h
      exact ((h.alloc _).alloc _).alloc _
    · have h := Boxed.new (((w.alloc (.cells #[.slice A n c] 22)).alloc (.cells #[.slice none 0 0] 28)).alloc (.cells #[.slice none 0 0] 22)) 24 (.int .i64 0)
      simp only [World.size_alloc] at h
      exact (h.alloc _).alloc _
    · have h := Boxed.new ((((w.alloc (.cells #[.slice A n c] 22)).alloc (.cells #[.slice none 0 0] 28)).alloc (.cells #[.slice none 0 0] 22)).alloc (.cells #[.int .i64 0] 24)) 3 (.int .i64 0)
      simp only [World.size_alloc] at h
      exact h.alloc _
    · have h := Boxed.new (((((w.alloc (.cells #[.slice A n c] 22)).alloc (.cells #[.slice none 0 0] 28)).alloc (.cells #[.slice none 0 0] 22)).alloc (.cells #[.int .i64 0] 24)).alloc (.cells #[.int .i64 0] 3)) 22 (.slice A n c)
      simp only [World.size_alloc] at h
      exact h
  clear hw0
  refine (wpIn_wide (n := 6)).1 ?_
  refine wpIn_rangeFunc_ownG (F := Fence.wide) rfl (by omega) (gf := 29) (lb := #[.pointer (some ⟨w.heap.size + 1 + 1 + 1 + 1 + 1, 0, none⟩)]) rfl trivial (enters_of Try.func29 (by kernel_rfl) rfl)
    (places_stops (6 - 1) (by omega) (w.heap.size + 1 + 1 + 1 + 1 + 1) w.heap.size A n c bs hc hn W0 (by omega) (by omega) hC0.2.2.2.2.2.2.cell (HR.out.below hB0 (Nat.le_refl _))) (fun h k => Kp_t h k) (Kp_b (by omega) (by omega)) (Below.refl _ _) (fun _ => rfl)
    (fun pre W => spC bs A n c w.heap.size (pre.map (·.1)) W ∧ Below w.heap.size w W)
    (fun cd pre W => spX bs A n c w.heap.size cd pre W ∧ Below w.heap.size w W)
    (OwnFrom.and (Own.from (I := fun (pre : List Pr) W => spC bs A n c w.heap.size (pre.map (·.1)) W) (fun s X Y row hs hg hrow => spC_own (pre := s.map (·.1)) hs hg hrow) _) (ownFrom_below (Nat.le_refl _) (by omega)))
    (fun cd => OwnFrom.and (Own.from (I := fun (pre : List Pr) W => spX bs A n c w.heap.size cd pre W) (fun s X Y row hs hg hrow => spX_own hs hg hrow) _) (ownFrom_below (Nat.le_refl _) (by omega)))
    ⟨hC0, hB0⟩
    (fun x => { tmps := #[.slice A n c, .pointer (some ⟨w.heap.size, 0, none⟩), .pointer (some ⟨w.heap.size + 1, 0, none⟩), .pointer (some ⟨w.heap.size + 1 + 1, 0, none⟩), .pointer (some ⟨w.heap.size + 1 + 1 + 1, 0, none⟩), .pointer (some ⟨w.heap.size + 1 + 1 + 1 + 1, 0, none⟩), .int .i64 (x.1.1 : Int), .int .i64 (x.1.2 : Int), .slice A n c, .func (.func 29) #[] #[.pointer (some ⟨w.heap.size + 1 + 1 + 1 + 1 + 1, 0, none⟩)], .int .i64 (x.1.1 : Int), .int .i64 (x.1.2 : Int), undef, undef, undef, undef, undef, undef, undef, undef, undef, undef, undef, undef, undef, undef, undef, undef, undef, undef, undef, undef, undef, undef, undef, undef, undef, undef, undef], defers := [] }) ?assign ?body ?done ?stop
  case assign =>
    intro l x W K hK
    dsimp only [encP]
    gi_wp2
    exact hK
  case body =>
    rintro l pre x W ⟨⟨hok, b0, ⟨A1, n1, c1, b1, hn1, hL⟩, b2, b3, b4, b5⟩, hB⟩ hlt
    obtain ⟨⟨f, t⟩, hft, ht⟩ := x
    simp only at hft ht
    have hpl := pls_len bs 0
    have HL := Lib.hid hL
    have HOK := Lib.hid hok
    have HBL := Lib.hid hB
    have hc0 := b0.cell
    have hc1 := b1.cell
    have hc2 := b2.cell
    have hc3 := b3.cell
    have hc4 := b4.cell
    have hf1 := b1.frozen
    have hf2 := b2.frozen
    have hf3 := b3.frozen
    have hf4 := b4.frozen
    have hlen := HLEN.out
    have hszB := hB.size
    have hln : n1 < 1099511627776 := by rw [List.length_map] at hn1; omega
    have HN1 := Lib.hid hn1
    clear hL hok hB hn1
    have hd1 : 1 ≤ 6 - 1 - 1 := by omega
    rcases hz : isS ((t : Int) - (f : Int)) with _ | _
    · have HZ := Lib.hid hz
      clear hz
      gi_wp2_with (refine ⟨trivial, ?_⟩; gi_at_call 23; refine (CallsIn.inRound l (callsIn_wide.2 (isSize_any ((t : Int) - (f : Int)) _))).mono ?_; rw [HZ.out]; rintro e w1 ⟨rfl, rfl⟩)
      have hn2 : ¬ (1 ≤ t - f ∧ t - f ≤ 4096) := by have := HZ.out; simp [isS] at this; omega
      refine ⟨((KeepsOthers.setCell _ _ _).trans ((KeepsOthers.setCell _ _ _).trans (KeepsOthers.setCell _ _ _))).from _, ⟨pre, ⟨(f, t), hft, ht⟩, rfl, HOK.out, .inl ⟨rfl, hn2, ?_, ?_, ?_⟩⟩, ?_⟩
      · exact boxed_set2 (boxed_set2 (b1.set _) _ (by omega)) _ (by omega)
      · exact boxed_set2 ((boxed_set2 b2 _ (by omega)).set _) _ (by omega)
      · exact (boxed_set2 (boxed_set2 b3 _ (by omega)) _ (by omega)).set _
      · exact ((HBL.out.setCell (by simp) _).setCell (by simp; omega) _).setCell (by simp; omega) _
    · have hz2 : 1 ≤ t - f ∧ t - f ≤ 4096 := by simp [isS] at hz; omega
      have HZ := Lib.hid hz
      clear hz
      by_cases htn : t ≤ n
      · gi_wp2_with (refine ⟨trivial, ?_⟩; gi_at_call 23; refine (CallsIn.inRound l (callsIn_wide.2 (isSize_any ((t : Int) - (f : Int)) _))).mono ?_; rw [HZ.out]; rintro e w1 ⟨rfl, rfl⟩)
        obtain ⟨bb, oo, d0, rfl, hbb, _, _⟩ := HR.out.at (k := f) (by omega)
        have hmx : Try.prog.follows .mixedOrders = true := by kernel_rfl
        have hl1 := b1.lt
        have hs6 := b5.lt
        have HP := Lib.hid (show ((bs.drop f).take (t - f)).length = t - f by rw [List.length_take, List.length_drop]; omega)
        have HRW := Lib.hid (HR.out.below HBL.out (Nat.le_refl _))
        have hne : ∀ k, k < w.heap.size + 6 → some k ≠ (Value.slice A1 n1 c1).ownBlock := fun k hk he => by have := (OwnL.lt HL.out k he.symm).1; omega
        have HNE := Lib.hid hne
        have HB0 := Lib.hid b0
        have HB1 := Lib.hid b1
        have HB2 := Lib.hid b2
        have HB3 := Lib.hid b3
        have HB4 := Lib.hid b4
        have HB5 := Lib.hid b5
        have HPR := Lib.hid (HRW.out.cut (i := f) (m := t - f) (by omega) (some ⟨bb, oo + f, none⟩) (fun _ => by simp [Addr.add_lit]))
        have HF := Lib.hid (show [(bs.drop f).take (t - f)].flatten = (bs.drop f).take (t - f) by simp)
        have HFL := Lib.hid (show [(bs.drop f).take (t - f)].flatten.length ≤ 1099511627776 by rw [HF.out, HP.out]; omega)
        have hm : List.map (fun (x : Pr) => x.1) (pre ++ [⟨(f, t), hft, ht⟩]) = pre.map (fun x => x.1) ++ [(f, t)] := by simp
        have HM := Lib.hid hm
        clear hne hm b0 b2 b3 b4 b5 b1
        have htc : t ≤ c := by omega
        have hcf : ¬ c = f := by omega
        have HS := Lib.hid (show (fun W9 : World => W9.cell? ⟨w.heap.size + 1, 0, none⟩ = some (.slice A1 n1 c1) ∧ W9.cell? ⟨w.heap.size, 0, none⟩ = some (.slice (some ⟨bb, oo, none⟩) n c)) W.drew from ⟨HB1.out.cell, HB0.out.cell⟩)
        refine InR.region_round (fun W9 : World => W9.cell? ⟨w.heap.size + 1, 0, none⟩ = some (.slice A1 n1 c1) ∧ W9.cell? ⟨w.heap.size, 0, none⟩ = some (.slice (some ⟨bb, oo, none⟩) n c)) 9 hmx (by kernel_rfl) ?_
        refine takeK 0 ⟨some 23, .load 28 (.tmp 2), 28, "frames.go:32", #[], none⟩ ?_ rfl (by kernel_rfl) (by kernel_rfl) (by kernel_rfl) (by kernel_rfl) (by rfl) ?_ HS.out ?_
        rotate_left
        · intro w9 hS9; have hS0 := hS9.1; have hS1 := hS9.2; clear hS9; go_simp; (first | done | with_reducible rfl)
        try simp only [Act.put, List.setIfInBounds_toArray, List.set_cons_zero, List.set_cons_succ]
        refine takeK 1 ⟨some 24, .load 22 (.tmp 1), 22, "frames.go:32", #[], none⟩ ?_ rfl (by kernel_rfl) (by kernel_rfl) (by kernel_rfl) (by kernel_rfl) (by rfl) ?_ HS.out ?_
        rotate_left
        · intro w9 hS9; have hS0 := hS9.1; have hS1 := hS9.2; clear hS9; go_simp; (first | done | with_reducible rfl)
        try simp only [Act.put, List.setIfInBounds_toArray, List.set_cons_zero, List.set_cons_succ]
        refine takeK 2 ⟨some 25, .move (.tmp 6), 3, "frames.go:32", #[], none⟩ ?_ rfl (by kernel_rfl) (by kernel_rfl) (by kernel_rfl) (by kernel_rfl) (by rfl) ?_ HS.out ?_
        rotate_left
        · intro w9 hS9; have hS0 := hS9.1; have hS1 := hS9.2; clear hS9; go_simp; (first | done | with_reducible rfl)
        try simp only [Act.put, List.setIfInBounds_toArray, List.set_cons_zero, List.set_cons_succ]
        refine takeK 3 ⟨some 26, .move (.tmp 7), 3, "frames.go:32", #[], none⟩ ?_ rfl (by kernel_rfl) (by kernel_rfl) (by kernel_rfl) (by kernel_rfl) (by rfl) ?_ HS.out ?_
        rotate_left
        · intro w9 hS9; have hS0 := hS9.1; have hS1 := hS9.2; clear hS9; go_simp; (first | done | with_reducible rfl)
        try simp only [Act.put, List.setIfInBounds_toArray, List.set_cons_zero, List.set_cons_succ]
        refine takeK 4 ⟨some 27, .slice 22 (.tmp 24) (some (.tmp 25)) (some (.tmp 26)) none, 22, "frames.go:32", #[⟨1, .data⟩, ⟨2, .data⟩, ⟨3, .data⟩], none⟩ ?_ rfl (by kernel_rfl) (by kernel_rfl) (by kernel_rfl) (by kernel_rfl) (by rfl) ?_ HS.out ?_
        rotate_left
        · intro w9 hS9; have hS0 := hS9.1; have hS1 := hS9.2; clear hS9; go_simp; (first | done | with_reducible rfl)
        try simp only [Act.put, List.setIfInBounds_toArray, List.set_cons_zero, List.set_cons_succ]
        refine oneK 5 ⟨some 28, .buildSlice 28 1 #[(0, .tmp 27)], 28, "frames.go:32", #[⟨4, .data⟩], none⟩ (by kernel_rfl) rfl (fun K hK => ?_)
        go_simp
        refine hK.out _ _ (fun _ => ⟨(HB1.out.alloc _).cell, (HB0.out.alloc _).cell⟩) ?_
        clear hK K
        try simp only [Act.put, List.setIfInBounds_toArray, List.set_cons_zero, List.set_cons_succ]
        refine oneK 6 ⟨some 29, .call { callee := .value (.func 24), args := #[.tmp 28], argTypes := #[28] }, 22, "frames.go:32", #[⟨5, .data⟩], none⟩ (by kernel_rfl) rfl (fun K hK => ?_)
        go_simp
        refine (joined_any _ 1 1 [(bs.drop f).take (t - f)] _ _ (RdN.drew (rdn_one 22 (0, 0) _ (t - f) (c - f) _ hszB HPR.out (by omega))) (by simp) (by omega) HFL.out).mono ?_
        rw [HF.out]
        rintro e w1 ⟨A2, n2, c2, rfl, ho2, hb2⟩
        dsimp only
        have HW1 := Lib.hid (show Below W.heap.size W w1 from (bel_drew (bel_alloc (Below.refl _ _) _)).trans (hb2.mono (by simp)))
        have HL1 := Lib.hid (HL.out.below HW1.out)
        have hs1 := HW1.out.size
        have HLD := Lib.hid (lead_own (B0 := w.heap.size + 6) (B := W.heap.size) (v := .slice A1 n1 c1) (ho2.more (by simp)) (by omega) (fun g hg => (OwnL.lt HL.out g hg).2))
        clear ho2 hb2
        refine hK.out _ _ (fun _ => ⟨(boxed_below HB1.out HW1.out).cell, (boxed_below HB0.out HW1.out).cell⟩) ?_
        clear hK K
        try simp only [Act.put, List.setIfInBounds_toArray, List.set_cons_zero, List.set_cons_succ]
        refine oneK 7 ⟨some 30, .buildSlice 28 1 #[(0, .tmp 29)], 28, "frames.go:32", #[⟨6, .data⟩], none⟩ (by kernel_rfl) rfl (fun K hK => ?_)
        go_simp
        refine hK.out _ _ (fun _ => ⟨((boxed_below HB1.out HW1.out).alloc _).cell, ((boxed_below HB0.out HW1.out).alloc _).cell⟩) ?_
        clear hK K
        try simp only [Act.put, List.setIfInBounds_toArray, List.set_cons_zero, List.set_cons_succ]
        refine oneK 8 ⟨some 31, .call { callee := Callee.builtin Builtin.append, args := #[.tmp 23, .tmp 30], argTypes := #[28, 28] }, 28, "frames.go:32", #[⟨0, .data⟩, ⟨7, .data⟩, ⟨6, .chain⟩], none⟩ (by kernel_rfl) rfl (fun K hK => ?_)
        obtain ⟨A3, c3, w3, hrun, hL3, hg3, hb3⟩ := run_appL1 (P := Try.prog) 24 (w.heap.size + 6) 28 28 22 Try.underlying28 slInfo HL1.out HLD.out (by omega) (by omega) (by omega)
        have HL3 := Lib.hid hL3
        have HG3 := Lib.hid hg3
        have HW3 := Lib.hid hb3
        have HB13 := Lib.hid (((boxed_below HB1.out HW1.out).alloc _).kept hg3 (HNE.out _ (by omega)))
        have HB03 := Lib.hid (((boxed_below HB0.out HW1.out).alloc _).kept hg3 (HNE.out _ (by omega)))
        refine step_append rfl (.tmp 23) (.tmp 30) 28 rfl rfl rfl hrun ?_
        clear hrun hL3 hg3 hb3
        refine hK.out _ _ (fun _ => ⟨HB13.out.cell, HB03.out.cell⟩) ?_
        clear hK K
        try simp only [Act.put, List.setIfInBounds_toArray, List.set_cons_zero, List.set_cons_succ]
        refine oneK 9 ⟨none, .store 28 (.tmp 2) (.tmp 31), 0, "frames.go:32", #[⟨8, .data⟩, ⟨8, .chain⟩, ⟨0, .phase⟩, ⟨1, .phase⟩, ⟨2, .phase⟩, ⟨3, .phase⟩, ⟨4, .phase⟩, ⟨5, .phase⟩, ⟨6, .phase⟩, ⟨7, .phase⟩, ⟨8, .phase⟩], none⟩ (by kernel_rfl) rfl (fun K hK => ?_)
        have hc13 := HB13.out.cell
        have hf13 := HB13.out.frozen
        go_simp
        refine hK.out _ _ (fun h => absurd rfl h) ?_
        clear hK K
        try simp only [Act.put, List.setIfInBounds_toArray, List.set_cons_zero, List.set_cons_succ]
        refine doneK (by kernel_rfl) ?_ _
        have HB33 := Lib.hid (((boxed_below HB3.out HW1.out).alloc _).kept HG3.out (HNE.out _ (by omega)))
        have HB23 := Lib.hid (((boxed_below HB2.out HW1.out).alloc _).kept HG3.out (HNE.out _ (by omega)))
        have HB43 := Lib.hid (((boxed_below HB4.out HW1.out).alloc _).kept HG3.out (HNE.out _ (by omega)))
        have HB53 := Lib.hid (((boxed_below HB5.out HW1.out).alloc _).kept HG3.out (HNE.out _ (by omega)))
        obtain ⟨u3, hu3⟩ : ∃ u, u = (Value.slice A3 (n1 + 1) c3) := ⟨_, rfl⟩
        have HB44 := Lib.hid (boxed_set2 HB43.out (k := w.heap.size + 1) (.slice A3 (n1 + 1) c3) (by omega))
        have hc44 := HB44.out.cell
        have hf44 := HB44.out.frozen
        gi_wp2
        have hk : KeepsOthers W ((w3.setCell ⟨w.heap.size + 1, 0, none⟩ (.slice A3 (n1 + 1) c3)).setCell ⟨w.heap.size + 1 + 1 + 1 + 1, 0, none⟩ (.int .i64 (t : Int))) :=
          ((((below_others HW1.out).trans (KeepsOthers.alloc _ _)).trans (KeepsOthers.of_grownBy HG3.out (ownL_cells (HL1.out.alloc _)))).trans (KeepsOthers.setCell _ _ _)).trans (KeepsOthers.setCell _ _ _)
        have hw : Below w.heap.size W ((w3.setCell ⟨w.heap.size + 1, 0, none⟩ (.slice A3 (n1 + 1) c3)).setCell ⟨w.heap.size + 1 + 1 + 1 + 1, 0, none⟩ (.int .i64 (t : Int))) :=
          (((HW1.out.mono hszB).trans (HW3.out.mono (by omega))).setCell (by simp) _).setCell (by simp; omega) _
        refine ⟨hk.from _, ⟨hw, fun _ => (boxed_set2 (boxed_set2 HB53.out _ (by omega)) _ (by omega)).cell⟩, ?_, HBL.out.trans hw⟩
        rw [HM.out]
        refine ⟨?_, boxed_set2 (boxed_set2 HB03.out _ (by omega)) _ (by omega), ⟨A3, n1 + 1, c3, boxed_set2 (HB13.out.set _) _ (by omega), by rw [List.length_append, ← HN1.out]; rfl, ?_⟩, boxed_set2 (boxed_set2 HB23.out _ (by omega)) _ (by omega), boxed_set2 (boxed_set2 HB33.out _ (by omega)) _ (by omega), ?_, boxed_set2 (boxed_set2 HB53.out _ (by omega)) _ (by omega)⟩
        · intro y hy
          rcases List.mem_append.1 hy with hy | hy
          · exact HOK.out y hy
          · obtain rfl : y = (f, t) := by simpa using hy
            exact ⟨hz2, htn⟩
        · rw [bodN_snoc]
          exact ownL_set (ownL_set HL3.out (by omega) _) (by omega) _
        · rw [endN_snoc]
          exact HB44.out.set _
      · gi_wp2_with (refine ⟨trivial, ?_⟩; gi_at_call 23; refine (CallsIn.inRound l (callsIn_wide.2 (isSize_any ((t : Int) - (f : Int)) _))).mono ?_; rw [HZ.out]; rintro e w1 ⟨rfl, rfl⟩)
        exact ⟨KeepsFrom.refl _ _, ⟨pre, ⟨(f, t), hft, ht⟩, rfl, HOK.out, .inr ⟨rfl, hz2, by simp only; omega, HOK.out, b0, ⟨A1, n1, c1, b1, HN1.out, HL.out⟩, b2, b3, b4, b5⟩⟩, HBL.out⟩
  case done =>
    rintro D ys W hD hys ⟨hC, hB⟩ hK
    obtain ⟨p, hp⟩ : ∃ p, p = ys.map (·.1) := ⟨_, rfl⟩
    rw [← hp] at hC hys
    have HSP := Lib.hid (show sp bs = (bodN bs p, bs.drop (endN 0 p), 0) by have h := pls_all (bs := bs) (o := 0) (by rw [List.drop_zero, ← hys, HLEN.out]; exact hC.1); rw [List.drop_zero, ← hys] at h; exact h)
    clear hys hp
    obtain ⟨hok, hb0, ⟨A1, n1, c1, hb1, hn1, hL⟩, hb2, hb3, hb4, hb5⟩ := hC
    have hxn : endN 0 p ≤ n := endN_le hok (Nat.zero_le _)
    have hpl := pls_len bs 0
    have hlen := HLEN.out
    obtain ⟨x, hx⟩ : ∃ x, x = endN 0 p := ⟨_, rfl⟩
    rw [← hx] at hb4 hxn
    rw [← hx] at HSP
    have HX := Lib.hid hx
    have hs6 := hb5.lt
    have hszB := hB.size
    have HB0 := Lib.hid hb0
    have HB1 := Lib.hid hb1
    have HB2 := Lib.hid hb2
    have HB3 := Lib.hid hb3
    have HB4 := Lib.hid hb4
    have HL := Lib.hid hL
    have HBL := Lib.hid hB
    have HK := Lib.hid hK
    have HRW := Lib.hid (HR.out.below hB (Nat.le_refl _))
    have HPR := Lib.hid (show ∀ A' : Option Addr, (0 < n - x → A' = A.map fun a => a.add x) → Rd W w.heap.size A' (n - x) (bs.drop x) from fun A' hA => by have h := HRW.out.cut (i := x) (m := n - x) (by omega) A' hA; rw [List.take_of_length_le (by rw [List.length_drop]; omega)] at h; exact h)
    have HF := Lib.hid (show [bs.drop x].flatten = bs.drop x by simp)
    have HFL := Lib.hid (show [bs.drop x].flatten.length ≤ 1099511627776 by rw [HF.out, List.length_drop]; omega)
    clear hok hb0 hb1 hb2 hb3 hb4 hb5 hn1 hL hB hx hK
    have hmx : Try.prog.follows .mixedOrders = true := by kernel_rfl
    have HS := Lib.hid (show (fun W9 : World => W9.cell? ⟨w.heap.size + 1, 0, none⟩ = some (.slice A1 n1 c1) ∧ W9.cell? ⟨w.heap.size, 0, none⟩ = some (.slice A n c) ∧ W9.cell? ⟨w.heap.size + 1 + 1 + 1 + 1, 0, none⟩ = some (.int .i64 (x : Int))) W.drew from ⟨HB1.out.cell, HB0.out.cell, HB4.out.cell⟩)
    go_wp2
    refine InR.region_plain (fun W9 : World => W9.cell? ⟨w.heap.size + 1, 0, none⟩ = some (.slice A1 n1 c1) ∧ W9.cell? ⟨w.heap.size, 0, none⟩ = some (.slice A n c) ∧ W9.cell? ⟨w.heap.size + 1 + 1 + 1 + 1, 0, none⟩ = some (.int .i64 (x : Int))) 8 hmx ?_
    refine takeK 0 ⟨some 33, .load 28 (.tmp 2), 28, "frames.go:35", #[], none⟩ ?_ rfl (by kernel_rfl) (by kernel_rfl) (by kernel_rfl) (by kernel_rfl) (by rfl) ?_ HS.out ?_
    rotate_left
    · intro w9 hS9; have hS0 := hS9.1; have hS1 := hS9.2.1; have hS2 := hS9.2.2; have hxc : x ≤ c := (by omega); clear hS9; go_simp; (first | done | with_reducible rfl)
    try simp only [Act.put, List.setIfInBounds_toArray, List.set_cons_zero, List.set_cons_succ]
    refine takeK 1 ⟨some 34, .load 22 (.tmp 1), 22, "frames.go:35", #[], none⟩ ?_ rfl (by kernel_rfl) (by kernel_rfl) (by kernel_rfl) (by kernel_rfl) (by rfl) ?_ HS.out ?_
    rotate_left
    · intro w9 hS9; have hS0 := hS9.1; have hS1 := hS9.2.1; have hS2 := hS9.2.2; have hxc : x ≤ c := (by omega); clear hS9; go_simp; (first | done | with_reducible rfl)
    try simp only [Act.put, List.setIfInBounds_toArray, List.set_cons_zero, List.set_cons_succ]
    refine takeK 2 ⟨some 35, .load 3 (.tmp 5), 3, "frames.go:35", #[], none⟩ ?_ rfl (by kernel_rfl) (by kernel_rfl) (by kernel_rfl) (by kernel_rfl) (by rfl) ?_ HS.out ?_
    rotate_left
    · intro w9 hS9; have hS0 := hS9.1; have hS1 := hS9.2.1; have hS2 := hS9.2.2; have hxc : x ≤ c := (by omega); clear hS9; go_simp; (first | done | with_reducible rfl)
    try simp only [Act.put, List.setIfInBounds_toArray, List.set_cons_zero, List.set_cons_succ]
    refine takeK 3 ⟨some 36, .slice 22 (.tmp 34) (some (.tmp 35)) none none, 22, "frames.go:35", #[⟨1, .data⟩, ⟨2, .data⟩], none⟩ ?_ rfl (by kernel_rfl) (by kernel_rfl) (by kernel_rfl) (by kernel_rfl) (by rfl) ?_ HS.out ?_
    rotate_left
    · intro w9 hS9; have hS0 := hS9.1; have hS1 := hS9.2.1; have hS2 := hS9.2.2; have hxc : x ≤ c := (by omega); clear hS9; go_simp; (first | done | with_reducible rfl)
    try simp only [Act.put, List.setIfInBounds_toArray, List.set_cons_zero, List.set_cons_succ]
    refine oneK 4 ⟨some 37, .buildSlice 28 1 #[(0, .tmp 36)], 28, "frames.go:35", #[⟨3, .data⟩], none⟩ (by kernel_rfl) rfl (fun K hK => ?_)
    generalize hA9 : (if c = x then A else Option.map (fun a => a.add x) A) = A9
    have HPR9 := Lib.hid (HPR.out A9 (fun h0 => by rw [← hA9, if_neg (by omega)]))
    clear hA9
    go_simp
    refine hK.out _ _ (fun _ => ⟨(HB1.out.alloc _).cell, (HB0.out.alloc _).cell, (HB4.out.alloc _).cell⟩) ?_
    clear hK K
    try simp only [Act.put, List.setIfInBounds_toArray, List.set_cons_zero, List.set_cons_succ]
    refine oneK 5 ⟨some 38, .call { callee := .value (.func 24), args := #[.tmp 37], argTypes := #[28] }, 22, "frames.go:35", #[⟨4, .data⟩], none⟩ (by kernel_rfl) rfl (fun K hK => ?_)
    go_simp
    refine (joined_any _ 1 1 [bs.drop x] _ _ (RdN.drew (rdn_one 22 (0, 0) A9 (n - x) (c - x) _ hszB HPR9.out (by omega))) (by simp) (by omega) HFL.out).mono ?_
    rw [HF.out]
    rintro e w1 ⟨A2, n2, c2, rfl, ho2, hb2⟩
    dsimp only
    have HW1 := Lib.hid (show Below W.heap.size W w1 from (bel_drew (bel_alloc (Below.refl _ _) _)).trans (hb2.mono (by simp)))
    have HO2 := Lib.hid (ho2.more (show W.heap.size ≤ _ by simp))
    have hs1 := HW1.out.size
    have C0 := Lib.hid (boxed_below HB0.out HW1.out)
    have C1 := Lib.hid (boxed_below HB1.out HW1.out)
    have C2 := Lib.hid (boxed_below HB2.out HW1.out)
    have C3 := Lib.hid (boxed_below HB3.out HW1.out)
    have C4 := Lib.hid (boxed_below HB4.out HW1.out)
    clear ho2 hb2
    refine hK.out _ _ (fun _ => ⟨C1.out.cell, C0.out.cell, C4.out.cell⟩) ?_
    clear hK K
    try simp only [Act.put, List.setIfInBounds_toArray, List.set_cons_zero, List.set_cons_succ]
    refine oneK 6 ⟨none, .store 28 (.tmp 2) (.tmp 33), 0, "frames.go:35", #[⟨0, .data⟩, ⟨5, .chain⟩, ⟨0, .phase⟩, { on := 1, ground := Ground.textOnly Departure.lateStores }, { on := 2, ground := Ground.textOnly Departure.inlinedCapture }, { on := 3, ground := Ground.textOnly Departure.lateStoresUnsure }, { on := 4, ground := Ground.textOnly Departure.inlinedCapture }, { on := 5, ground := Ground.textOnly Departure.lateStoresUnsure }], none⟩ (by kernel_rfl) rfl (fun K hK => ?_)
    have g1 := C1.out.cell
    have g2 := C1.out.frozen
    go_simp
    clear g1 g2
    have D0 := Lib.hid (boxed_set2 C0.out (k := w.heap.size + 1) (.slice A1 n1 c1) (by omega))
    have D1 := Lib.hid (C1.out.set (.slice A1 n1 c1))
    have D2 := Lib.hid (boxed_set2 C2.out (k := w.heap.size + 1) (.slice A1 n1 c1) (by omega))
    have D3 := Lib.hid (boxed_set2 C3.out (k := w.heap.size + 1) (.slice A1 n1 c1) (by omega))
    have D4 := Lib.hid (boxed_set2 C4.out (k := w.heap.size + 1) (.slice A1 n1 c1) (by omega))
    refine hK.out _ _ (fun _ => ⟨D1.out.cell, D0.out.cell, D4.out.cell⟩) ?_
    clear hK K
    try simp only [Act.put, List.setIfInBounds_toArray, List.set_cons_zero, List.set_cons_succ]
    refine oneK 7 ⟨none, .store 22 (.tmp 3) (.tmp 38), 0, "frames.go:35", #[⟨5, .data⟩, ⟨6, .chain⟩, ⟨0, .phase⟩, ⟨1, .phase⟩, ⟨2, .phase⟩, ⟨3, .phase⟩, ⟨4, .phase⟩, ⟨5, .phase⟩, ⟨6, .phase⟩], none⟩ (by kernel_rfl) rfl (fun K hK => ?_)
    have g1 := D2.out.cell
    have g2 := D2.out.frozen
    go_simp
    clear g1 g2
    have E0 := Lib.hid (boxed_set2 D0.out (k := w.heap.size + 1 + 1) (.slice A2 n2 c2) (by omega))
    have E1 := Lib.hid (boxed_set2 D1.out (k := w.heap.size + 1 + 1) (.slice A2 n2 c2) (by omega))
    have E2 := Lib.hid (D2.out.set (.slice A2 n2 c2))
    have E3 := Lib.hid (boxed_set2 D3.out (k := w.heap.size + 1 + 1) (.slice A2 n2 c2) (by omega))
    have E4 := Lib.hid (boxed_set2 D4.out (k := w.heap.size + 1 + 1) (.slice A2 n2 c2) (by omega))
    refine hK.out _ _ (fun _ => ⟨E1.out.cell, E0.out.cell, E4.out.cell⟩) ?_
    clear hK K
    try simp only [Act.put, List.setIfInBounds_toArray, List.set_cons_zero, List.set_cons_succ]
    refine oneK 8 ⟨none, .store 24 (.tmp 4) (.const (.int .i64 0)), 0, "frames.go:35", #[⟨7, .chain⟩, ⟨0, .phase⟩, ⟨1, .phase⟩, ⟨2, .phase⟩, ⟨3, .phase⟩, ⟨4, .phase⟩, ⟨5, .phase⟩, ⟨6, .phase⟩, ⟨7, .phase⟩], none⟩ (by kernel_rfl) rfl (fun K hK => ?_)
    have g1 := E3.out.cell
    have g2 := E3.out.frozen
    go_simp
    clear g1 g2
    have F1 := Lib.hid (boxed_set2 E1.out (k := w.heap.size + 1 + 1 + 1) (.int .i64 0) (by omega))
    have F2 := Lib.hid (boxed_set2 E2.out (k := w.heap.size + 1 + 1 + 1) (.int .i64 0) (by omega))
    have F3 := Lib.hid (E3.out.set (.int .i64 0))
    refine hK.out _ _ (fun h => absurd rfl h) ?_
    clear hK K
    try simp only [Act.put, List.setIfInBounds_toArray, List.set_cons_zero, List.set_cons_succ]
    refine doneK (by kernel_rfl) ?_ _
    go_wp2
    have hK' := ((((below_others HW1.out).trans (KeepsOthers.setCell _ ⟨w.heap.size + 1, 0, none⟩ (.slice A1 n1 c1))).trans (KeepsOthers.setCell _ ⟨w.heap.size + 1 + 1, 0, none⟩ (.slice A2 n2 c2))).trans (KeepsOthers.setCell _ ⟨w.heap.size + 1 + 1 + 1, 0, none⟩ (.int .i64 0))).same D _ HK.out rfl
    have hrow : ∀ r, some D = some r → ∃ o : Obj, (((w1.setCell ⟨w.heap.size + 1, 0, none⟩ (.slice A1 n1 c1)).setCell ⟨w.heap.size + 1 + 1, 0, none⟩ (.slice A2 n2 c2)).setCell ⟨w.heap.size + 1 + 1 + 1, 0, none⟩ (.int .i64 0)).heap[r]? = some o ∧ o.isCells = false := fun r e => by cases e; exact ⟨_, hK', rfl⟩
    refine ⟨by simp, .inl ⟨_, _, rfl, run_takeDeferred hK', ?_⟩⟩
    have r1 := cell_kept F1.out.cell (grownBy_putObj' _ D (.deferred none)) hrow
    have r2 := cell_kept F2.out.cell (grownBy_putObj' _ D (.deferred none)) hrow
    have r3 := cell_kept F3.out.cell (grownBy_putObj' _ D (.deferred none)) hrow
    refine ⟨.tuple #[.slice A1 n1 c1, .slice A2 n2 c2, .int .i64 0], by simp [results, Try.results14, go_sem, r1, r2, r3], A1, n1, c1, A2, n2, c2, by rw [HSP.out], ?_, ?_, ?_⟩
    · rw [HSP.out]
      exact (ownL_keptBy (ownL_set (ownL_set (ownL_set (HL.out.below HW1.out) (by omega) _) (by omega) _) (by omega) _) (grownBy_putObj' _ D (.deferred none)) hrow).more (by omega) (fun b hb => by omega)
    · rw [HSP.out]
      exact OwnB.more (ownsRow_putObj (ownsRow_setCell_below (ownsRow_setCell_below (ownsRow_setCell_below HO2.out (by simp only; omega) _) (by simp only; omega) _) (by simp only; omega) _) _ hK' rfl) hszB
    · exact ((((HBL.out.trans (HW1.out.mono hszB)).setCell (by simp) _).setCell (by simp; omega) _).setCell (by simp; omega) _).trans (belowK_b (w := w) (Nat.le_refl _) _ D _ _ (by omega) hK' rfl rfl)
  case stop =>
    rintro D cd pre W hD hpre ⟨⟨q, x0, rfl, hok, hX⟩, hB⟩ hK
    have hm : List.map (fun (x : Pr) => x.1) (q ++ [x0]) = q.map (fun x => x.1) ++ [x0.1] := by simp
    rw [hm] at hpre
    obtain ⟨p, hp⟩ : ∃ p, p = q.map (fun x => x.1) := ⟨_, rfl⟩
    rw [← hp] at hpre hok hX
    rcases hX with ⟨rfl, hnx, hb1, hb2, hb3⟩ | ⟨rfl, hx1, hx2, hC⟩
    · have HSP := Lib.hid (show sp bs = ([], [], 11) by have h := pls_bad (bs := bs) (o := 0) (pre := p) (x := x0.1) (by rw [HLEN.out]; exact hok) (by rw [List.drop_zero]; exact hpre) hnx; rw [List.drop_zero] at h; exact h)
      have HK := Lib.hid hK
      clear hok hpre hp hm hnx hK
      refine wpIn_wide.2 ?_
      go_wp2
      have hrow : ∀ r, some D = some r → ∃ o : Obj, W.heap[r]? = some o ∧ o.isCells = false := fun r e => by cases e; exact ⟨_, HK.out, rfl⟩
      refine ⟨by simp, .inl ⟨_, _, rfl, run_takeDeferred HK.out, ?_⟩⟩
      have r1 := cell_kept hb1.cell (grownBy_putObj' _ D (.deferred none)) hrow
      have r2 := cell_kept hb2.cell (grownBy_putObj' _ D (.deferred none)) hrow
      have r3 := cell_kept hb3.cell (grownBy_putObj' _ D (.deferred none)) hrow
      refine ⟨.tuple #[.slice none 0 0, .slice none 0 0, .int .i64 11], by simp [results, Try.results14, go_sem, r1, r2, r3], none, 0, 0, none, 0, 0, by rw [HSP.out], ?_, ?_, ?_⟩
      · rw [HSP.out]; exact OwnL.nil
      · rw [HSP.out]; exact OwnB.nil
      · exact hB.trans (belowK_b (w := w) (Nat.le_refl _) _ D _ _ (by omega) HK.out rfl rfl)
    · have HSP := Lib.hid (show sp bs = (bodN bs p, bs.drop (endN 0 p), 0) by have h := pls_stop (bs := bs) (o := 0) (pre := p) (x := x0.1) (by rw [HLEN.out]; exact hok) (by rw [List.drop_zero]; exact hpre) hx1 (by rw [HLEN.out]; exact hx2); rw [List.drop_zero] at h; exact h)
      clear hok hpre hp hm hx1 hx2
      refine wpIn_wide.2 ?_
      obtain ⟨hok, hb0, ⟨A1, n1, c1, hb1, hn1, hL⟩, hb2, hb3, hb4, hb5⟩ := hC
      have hxn : endN 0 p ≤ n := endN_le hok (Nat.zero_le _)
      have hpl := pls_len bs 0
      have hlen := HLEN.out
      obtain ⟨x, hx⟩ : ∃ x, x = endN 0 p := ⟨_, rfl⟩
      rw [← hx] at hb4 hxn
      rw [← hx] at HSP
      have HX := Lib.hid hx
      have hs6 := hb5.lt
      have hszB := hB.size
      have HB0 := Lib.hid hb0
      have HB1 := Lib.hid hb1
      have HB2 := Lib.hid hb2
      have HB3 := Lib.hid hb3
      have HB4 := Lib.hid hb4
      have HL := Lib.hid hL
      have HBL := Lib.hid hB
      have HK := Lib.hid hK
      have HRW := Lib.hid (HR.out.below hB (Nat.le_refl _))
      have HPR := Lib.hid (show ∀ A' : Option Addr, (0 < n - x → A' = A.map fun a => a.add x) → Rd W w.heap.size A' (n - x) (bs.drop x) from fun A' hA => by have h := HRW.out.cut (i := x) (m := n - x) (by omega) A' hA; rw [List.take_of_length_le (by rw [List.length_drop]; omega)] at h; exact h)
      have HF := Lib.hid (show [bs.drop x].flatten = bs.drop x by simp)
      have HFL := Lib.hid (show [bs.drop x].flatten.length ≤ 1099511627776 by rw [HF.out, List.length_drop]; omega)
      clear hok hb0 hb1 hb2 hb3 hb4 hb5 hn1 hL hB hx hK
      have hmx : Try.prog.follows .mixedOrders = true := by kernel_rfl
      have HS := Lib.hid (show (fun W9 : World => W9.cell? ⟨w.heap.size + 1, 0, none⟩ = some (.slice A1 n1 c1) ∧ W9.cell? ⟨w.heap.size, 0, none⟩ = some (.slice A n c) ∧ W9.cell? ⟨w.heap.size + 1 + 1 + 1 + 1, 0, none⟩ = some (.int .i64 (x : Int))) W.drew from ⟨HB1.out.cell, HB0.out.cell, HB4.out.cell⟩)
      go_wp2
      refine InR.region_plain (fun W9 : World => W9.cell? ⟨w.heap.size + 1, 0, none⟩ = some (.slice A1 n1 c1) ∧ W9.cell? ⟨w.heap.size, 0, none⟩ = some (.slice A n c) ∧ W9.cell? ⟨w.heap.size + 1 + 1 + 1 + 1, 0, none⟩ = some (.int .i64 (x : Int))) 8 hmx ?_
      refine takeK 0 ⟨some 33, .load 28 (.tmp 2), 28, "frames.go:35", #[], none⟩ ?_ rfl (by kernel_rfl) (by kernel_rfl) (by kernel_rfl) (by kernel_rfl) (by rfl) ?_ HS.out ?_
      rotate_left
      · intro w9 hS9; have hS0 := hS9.1; have hS1 := hS9.2.1; have hS2 := hS9.2.2; have hxc : x ≤ c := (by omega); clear hS9; go_simp; (first | done | with_reducible rfl)
      try simp only [Act.put, List.setIfInBounds_toArray, List.set_cons_zero, List.set_cons_succ]
      refine takeK 1 ⟨some 34, .load 22 (.tmp 1), 22, "frames.go:35", #[], none⟩ ?_ rfl (by kernel_rfl) (by kernel_rfl) (by kernel_rfl) (by kernel_rfl) (by rfl) ?_ HS.out ?_
      rotate_left
      · intro w9 hS9; have hS0 := hS9.1; have hS1 := hS9.2.1; have hS2 := hS9.2.2; have hxc : x ≤ c := (by omega); clear hS9; go_simp; (first | done | with_reducible rfl)
      try simp only [Act.put, List.setIfInBounds_toArray, List.set_cons_zero, List.set_cons_succ]
      refine takeK 2 ⟨some 35, .load 3 (.tmp 5), 3, "frames.go:35", #[], none⟩ ?_ rfl (by kernel_rfl) (by kernel_rfl) (by kernel_rfl) (by kernel_rfl) (by rfl) ?_ HS.out ?_
      rotate_left
      · intro w9 hS9; have hS0 := hS9.1; have hS1 := hS9.2.1; have hS2 := hS9.2.2; have hxc : x ≤ c := (by omega); clear hS9; go_simp; (first | done | with_reducible rfl)
      try simp only [Act.put, List.setIfInBounds_toArray, List.set_cons_zero, List.set_cons_succ]
      refine takeK 3 ⟨some 36, .slice 22 (.tmp 34) (some (.tmp 35)) none none, 22, "frames.go:35", #[⟨1, .data⟩, ⟨2, .data⟩], none⟩ ?_ rfl (by kernel_rfl) (by kernel_rfl) (by kernel_rfl) (by kernel_rfl) (by rfl) ?_ HS.out ?_
      rotate_left
      · intro w9 hS9; have hS0 := hS9.1; have hS1 := hS9.2.1; have hS2 := hS9.2.2; have hxc : x ≤ c := (by omega); clear hS9; go_simp; (first | done | with_reducible rfl)
      try simp only [Act.put, List.setIfInBounds_toArray, List.set_cons_zero, List.set_cons_succ]
      refine oneK 4 ⟨some 37, .buildSlice 28 1 #[(0, .tmp 36)], 28, "frames.go:35", #[⟨3, .data⟩], none⟩ (by kernel_rfl) rfl (fun K hK => ?_)
      generalize hA9 : (if c = x then A else Option.map (fun a => a.add x) A) = A9
      have HPR9 := Lib.hid (HPR.out A9 (fun h0 => by rw [← hA9, if_neg (by omega)]))
      clear hA9
      go_simp
      refine hK.out _ _ (fun _ => ⟨(HB1.out.alloc _).cell, (HB0.out.alloc _).cell, (HB4.out.alloc _).cell⟩) ?_
      clear hK K
      try simp only [Act.put, List.setIfInBounds_toArray, List.set_cons_zero, List.set_cons_succ]
      refine oneK 5 ⟨some 38, .call { callee := .value (.func 24), args := #[.tmp 37], argTypes := #[28] }, 22, "frames.go:35", #[⟨4, .data⟩], none⟩ (by kernel_rfl) rfl (fun K hK => ?_)
      go_simp
      refine (joined_any _ 1 1 [bs.drop x] _ _ (RdN.drew (rdn_one 22 (0, 0) A9 (n - x) (c - x) _ hszB HPR9.out (by omega))) (by simp) (by omega) HFL.out).mono ?_
      rw [HF.out]
      rintro e w1 ⟨A2, n2, c2, rfl, ho2, hb2⟩
      dsimp only
      have HW1 := Lib.hid (show Below W.heap.size W w1 from (bel_drew (bel_alloc (Below.refl _ _) _)).trans (hb2.mono (by simp)))
      have HO2 := Lib.hid (ho2.more (show W.heap.size ≤ _ by simp))
      have hs1 := HW1.out.size
      have C0 := Lib.hid (boxed_below HB0.out HW1.out)
      have C1 := Lib.hid (boxed_below HB1.out HW1.out)
      have C2 := Lib.hid (boxed_below HB2.out HW1.out)
      have C3 := Lib.hid (boxed_below HB3.out HW1.out)
      have C4 := Lib.hid (boxed_below HB4.out HW1.out)
      clear ho2 hb2
      refine hK.out _ _ (fun _ => ⟨C1.out.cell, C0.out.cell, C4.out.cell⟩) ?_
      clear hK K
      try simp only [Act.put, List.setIfInBounds_toArray, List.set_cons_zero, List.set_cons_succ]
      refine oneK 6 ⟨none, .store 28 (.tmp 2) (.tmp 33), 0, "frames.go:35", #[⟨0, .data⟩, ⟨5, .chain⟩, ⟨0, .phase⟩, { on := 1, ground := Ground.textOnly Departure.lateStores }, { on := 2, ground := Ground.textOnly Departure.inlinedCapture }, { on := 3, ground := Ground.textOnly Departure.lateStoresUnsure }, { on := 4, ground := Ground.textOnly Departure.inlinedCapture }, { on := 5, ground := Ground.textOnly Departure.lateStoresUnsure }], none⟩ (by kernel_rfl) rfl (fun K hK => ?_)
      have g1 := C1.out.cell
      have g2 := C1.out.frozen
      go_simp
      clear g1 g2
      have D0 := Lib.hid (boxed_set2 C0.out (k := w.heap.size + 1) (.slice A1 n1 c1) (by omega))
      have D1 := Lib.hid (C1.out.set (.slice A1 n1 c1))
      have D2 := Lib.hid (boxed_set2 C2.out (k := w.heap.size + 1) (.slice A1 n1 c1) (by omega))
      have D3 := Lib.hid (boxed_set2 C3.out (k := w.heap.size + 1) (.slice A1 n1 c1) (by omega))
      have D4 := Lib.hid (boxed_set2 C4.out (k := w.heap.size + 1) (.slice A1 n1 c1) (by omega))
      refine hK.out _ _ (fun _ => ⟨D1.out.cell, D0.out.cell, D4.out.cell⟩) ?_
      clear hK K
      try simp only [Act.put, List.setIfInBounds_toArray, List.set_cons_zero, List.set_cons_succ]
      refine oneK 7 ⟨none, .store 22 (.tmp 3) (.tmp 38), 0, "frames.go:35", #[⟨5, .data⟩, ⟨6, .chain⟩, ⟨0, .phase⟩, ⟨1, .phase⟩, ⟨2, .phase⟩, ⟨3, .phase⟩, ⟨4, .phase⟩, ⟨5, .phase⟩, ⟨6, .phase⟩], none⟩ (by kernel_rfl) rfl (fun K hK => ?_)
      have g1 := D2.out.cell
      have g2 := D2.out.frozen
      go_simp
      clear g1 g2
      have E0 := Lib.hid (boxed_set2 D0.out (k := w.heap.size + 1 + 1) (.slice A2 n2 c2) (by omega))
      have E1 := Lib.hid (boxed_set2 D1.out (k := w.heap.size + 1 + 1) (.slice A2 n2 c2) (by omega))
      have E2 := Lib.hid (D2.out.set (.slice A2 n2 c2))
      have E3 := Lib.hid (boxed_set2 D3.out (k := w.heap.size + 1 + 1) (.slice A2 n2 c2) (by omega))
      have E4 := Lib.hid (boxed_set2 D4.out (k := w.heap.size + 1 + 1) (.slice A2 n2 c2) (by omega))
      refine hK.out _ _ (fun _ => ⟨E1.out.cell, E0.out.cell, E4.out.cell⟩) ?_
      clear hK K
      try simp only [Act.put, List.setIfInBounds_toArray, List.set_cons_zero, List.set_cons_succ]
      refine oneK 8 ⟨none, .store 24 (.tmp 4) (.const (.int .i64 0)), 0, "frames.go:35", #[⟨7, .chain⟩, ⟨0, .phase⟩, ⟨1, .phase⟩, ⟨2, .phase⟩, ⟨3, .phase⟩, ⟨4, .phase⟩, ⟨5, .phase⟩, ⟨6, .phase⟩, ⟨7, .phase⟩], none⟩ (by kernel_rfl) rfl (fun K hK => ?_)
      have g1 := E3.out.cell
      have g2 := E3.out.frozen
      go_simp
      clear g1 g2
      have F1 := Lib.hid (boxed_set2 E1.out (k := w.heap.size + 1 + 1 + 1) (.int .i64 0) (by omega))
      have F2 := Lib.hid (boxed_set2 E2.out (k := w.heap.size + 1 + 1 + 1) (.int .i64 0) (by omega))
      have F3 := Lib.hid (E3.out.set (.int .i64 0))
      refine hK.out _ _ (fun h => absurd rfl h) ?_
      clear hK K
      try simp only [Act.put, List.setIfInBounds_toArray, List.set_cons_zero, List.set_cons_succ]
      refine doneK (by kernel_rfl) ?_ _
      go_wp2
      have hK' := ((((below_others HW1.out).trans (KeepsOthers.setCell _ ⟨w.heap.size + 1, 0, none⟩ (.slice A1 n1 c1))).trans (KeepsOthers.setCell _ ⟨w.heap.size + 1 + 1, 0, none⟩ (.slice A2 n2 c2))).trans (KeepsOthers.setCell _ ⟨w.heap.size + 1 + 1 + 1, 0, none⟩ (.int .i64 0))).same D _ HK.out rfl
      have hrow : ∀ r, some D = some r → ∃ o : Obj, (((w1.setCell ⟨w.heap.size + 1, 0, none⟩ (.slice A1 n1 c1)).setCell ⟨w.heap.size + 1 + 1, 0, none⟩ (.slice A2 n2 c2)).setCell ⟨w.heap.size + 1 + 1 + 1, 0, none⟩ (.int .i64 0)).heap[r]? = some o ∧ o.isCells = false := fun r e => by cases e; exact ⟨_, hK', rfl⟩
      refine ⟨by simp, .inl ⟨_, _, rfl, run_takeDeferred hK', ?_⟩⟩
      have r1 := cell_kept F1.out.cell (grownBy_putObj' _ D (.deferred none)) hrow
      have r2 := cell_kept F2.out.cell (grownBy_putObj' _ D (.deferred none)) hrow
      have r3 := cell_kept F3.out.cell (grownBy_putObj' _ D (.deferred none)) hrow
      refine ⟨.tuple #[.slice A1 n1 c1, .slice A2 n2 c2, .int .i64 0], by simp [results, Try.results14, go_sem, r1, r2, r3], A1, n1, c1, A2, n2, c2, by rw [HSP.out], ?_, ?_, ?_⟩
      · rw [HSP.out]
        exact (ownL_keptBy (ownL_set (ownL_set (ownL_set (HL.out.below HW1.out) (by omega) _) (by omega) _) (by omega) _) (grownBy_putObj' _ D (.deferred none)) hrow).more (by omega) (fun b hb => by omega)
      · rw [HSP.out]
        exact OwnB.more (ownsRow_putObj (ownsRow_setCell_below (ownsRow_setCell_below (ownsRow_setCell_below HO2.out (by simp only; omega) _) (by simp only; omega) _) (by simp only; omega) _) _ hK' rfl) hszB
      · exact ((((HBL.out.trans (HW1.out.mono hszB)).setCell (by simp) _).setCell (by simp; omega) _).setCell (by simp; omega) _).trans (belowK_b (w := w) (Nat.le_refl _) _ D _ _ (by omega) hK' rfl rfl)
theorem Split_any (A : Option Addr) (n c : Nat) (bs : List UInt8) (w : World) (hr : Rd w w.heap.size A n bs) (hc : n ≤ c) (hn : n ≤ 1099511627776) :
    Calls Try.prog 14 #[.slice A n c] w (RS 22 5 w (sp bs)) := callsIn_wide.1 (Split_in A n c bs w hr hc hn)
end Go.Proofs.Ytilnlmopdljeeaa.Frm
