/- Joined: IdxS. -/
import Derived.Test.YtbnkfljkojhkoaaGreatDoorIdxG
import Derived.Test.YtbnkfljkojhkoaaGreatDoorIdxF
import Derived.Test.YtbnkfljkojhkoaaGreatDoorIdxP
import Derived.Test.YtbnkfljkojhkoaaGreatDoorJIdxM
/- The landed index.Since. -/
namespace Go.Proofs.YtbnkfljkojhkoaaGreatDoor.Idx
open Go.RowKit Go.Shelf Oct Rec Crc Bat RngQ Seg RowF RowL InR

attribute [local go_sem] Oper.semAt_some

def tb_Since3 : List (Nat × Nat) := [(0, 7), (0, 7), (3, 6)]
def tb_Since5 : List (Nat × Nat) := [(0, 31), (0, 31), (0, 31), (6, 25), (9, 22)]
def tb_Since13 : List (Nat × Nat) := [(0, 15), (0, 15), (1, 14), (7, 13)]
set_option maxRecDepth 100000 in
set_option maxHeartbeats 4000000 in
theorem Since_bad (A : Option Addr) (n c : Nat) (base : Int) (bs : List UInt8) (A2 : Option Addr) (n2 c2 : Nat) (l : List En) (st : Int) {z : Int} (hck : ckX ⟨base, bs⟩ l = z) (hz : z ≠ 0) (w : World) (hr : Rd w w.heap.size A n bs) (hc : n ≤ c) (hr2 : RdE w w.heap.size A2 n2 l) (hn2 : n2 ≤ 1099511627776) (hI : I64 base) (ht : Tab w) :
    Calls Tryz.prog 14 #[.agg #[.int .i64 base, .slice A n c], .slice A2 n2 c2, .int .i64 st] w fun e w' => e = .returned (.tuple #[.int .i64 0, .int .i64 z]) ∧ Below w.heap.size w w' := by
  have HCK := Lib.hid hck
  have hzF : (z == 0) = false := beqF hz
  have hmx : Tryz.prog.follows .mixedOrders = true := by kernel_rfl
  have HB4 := Lib.hid (show Below w.heap.size w ((((w.alloc (.cells #[.int .i64 base, .slice A n c] 24)).alloc (.cells #[.int .i64 st] 3)).alloc (.cells #[.int .i64 0] 3)).alloc (.cells #[.int .i64 0] 28)) from bel_alloc (bel_alloc (bel_alloc (bel_alloc (Below.refl _ _) _) _) _) _)
  have HRR := Lib.hid (rdUp hr HB4.out)
  have HEE := Lib.hid (rdeUp hr2 HB4.out)
  have HTT := Lib.hid (ht.bel HB4.out)
  have HFX := Lib.hid (show Boxed ((((w.alloc (.cells #[.int .i64 base, .slice A n c] 24)).alloc (.cells #[.int .i64 st] 3)).alloc (.cells #[.int .i64 0] 3)).alloc (.cells #[.int .i64 0] 28)) (w.heap.size + 2) 3 (.int .i64 0) from by
    have h := Boxed.new ((w.alloc (.cells #[.int .i64 base, .slice A n c] 24)).alloc (.cells #[.int .i64 st] 3)) 3 (.int .i64 0)
    simp only [World.size_alloc] at h
    exact h.alloc _)
  have HEX := Lib.hid (show Boxed ((((w.alloc (.cells #[.int .i64 base, .slice A n c] 24)).alloc (.cells #[.int .i64 st] 3)).alloc (.cells #[.int .i64 0] 3)).alloc (.cells #[.int .i64 0] 28)) (w.heap.size + 3) 28 (.int .i64 0) from by
    have h := Boxed.new (((w.alloc (.cells #[.int .i64 base, .slice A n c] 24)).alloc (.cells #[.int .i64 st] 3)).alloc (.cells #[.int .i64 0] 3)) 28 (.int .i64 0)
    simp only [World.size_alloc] at h
    exact h)
  have HOX := Lib.hid (show Boxed ((((w.alloc (.cells #[.int .i64 base, .slice A n c] 24)).alloc (.cells #[.int .i64 st] 3)).alloc (.cells #[.int .i64 0] 3)).alloc (.cells #[.int .i64 0] 28)) (w.heap.size + 1) 3 (.int .i64 st) from by
    have h := Boxed.new (w.alloc (.cells #[.int .i64 base, .slice A n c] 24)) 3 (.int .i64 st)
    simp only [World.size_alloc] at h
    exact (h.alloc _).alloc _)
  have HSX := Lib.hid (show At0 ((((w.alloc (.cells #[.int .i64 base, .slice A n c] 24)).alloc (.cells #[.int .i64 st] 3)).alloc (.cells #[.int .i64 0] 3)).alloc (.cells #[.int .i64 0] 28)) w.heap.size [.int .i64 base, .slice A n c] 24 from (((At0.new w [.int .i64 base, .slice A n c] 24).alloc _).alloc _).alloc _)
  clear hck hz hr hr2 ht
  go_enter Tryz.func14, Tryz.ntmps14
  go_wp2
  go_step3
  go_wp2_with (go_at_call 10; (with_reducible refine (Check_is A n c base bs A2 n2 c2 l HCK.out _ HRR.out hc HEE.out hn2 hI HTT.out).mono ?_); rintro e w1 ⟨rfl, hb1⟩; have HR1 := Lib.hid (rdUp HRR.out hb1); have HE1 := Lib.hid (rdeUp HEE.out hb1); have HT1 := Lib.hid (HTT.out.bel hb1); have HB1 := Lib.hid (bel_trans HB4.out hb1); have HFX1 := Lib.hid (boxed_below HFX.out hb1); have HEX1 := Lib.hid (boxed_below HEX.out hb1); have HOX1 := Lib.hid (boxed_below HOX.out hb1); have HSX1 := Lib.hid (HSX.out.below hb1); have hs1 := hb1.size; simp only [World.size_alloc] at hs1; have hl2 : w.heap.size + 2 < w1.heap.size := (by omega); have hl3 : w.heap.size + 3 < w1.heap.size := (by omega); have y0 : w1.cell? ⟨w.heap.size + 1 + 1 + 1, 0, none⟩ = some (.int .i64 0) := HEX1.out.cell; have g0 : w1.frozen? ⟨w.heap.size + 1 + 1 + 1, 0, none⟩ = false := HEX1.out.frozen; have u0 : w1.cell? ⟨w.heap.size + 1 + 1, 0, none⟩ = some (.int .i64 0) := HFX1.out.cell; have v0 : w1.frozen? ⟨w.heap.size + 1 + 1, 0, none⟩ = false := HFX1.out.frozen; clear hb1)
  have HX0 := Lib.hid (HFX1.out)
  have HX1 := Lib.hid (Boxed.set (.int .i64 z) HEX1.out)
  have HX2 := Lib.hid (boxed_set2 HFX1.out (k := w.heap.size + 1 + 1 + 1) (.int .i64 z) (by omega))
  have HSR := Lib.hid (show (fun W9 : World => W9.cell? ⟨w.heap.size + 1 + 1 + 1, 0, none⟩ = some (.int .i64 z)) (w1.setCell ⟨w.heap.size + 1 + 1 + 1, 0, none⟩ (.int .i64 z)).drew from HX1.out.cell)
  refine region_let (fun W9 : World => W9.cell? ⟨w.heap.size + 1 + 1 + 1, 0, none⟩ = some (.int .i64 z)) 99 3 hmx rfl fun ops Q HOPS HQ => ?_
  have HREG := reg_of HOPS tb_Since3 rfl (by kernel_rfl) (by kernel_rfl) (by decide)
  refine stepTQ HOPS HREG 0 1 ?_ (by decide) rfl (by kernel_rfl) (by kernel_rfl) rfl ?_ HSR.out ?_
  rotate_left
  · intro w9 hS9; have q0 := hS9; clear hS9; go_simp; (first | done | with_reducible rfl)
  dsimp only [List.set_cons_zero, List.set_cons_succ]
  refine stepC HOPS 1 3 (by decide) rfl (by kernel_rfl) (by kernel_rfl) ?_
  have g1 := HX2.out.cell
  have g2 := HX2.out.frozen
  go_simp
  clear g1 g2
  have HX3 := Lib.hid (boxed_set2 HX1.out (k := w.heap.size + 1 + 1) (.int .i64 0) (by omega))
  have HX4 := Lib.hid (Boxed.set (.int .i64 0) HX2.out)
  try simp only [Act.put, List.setIfInBounds_toArray, List.set_cons_zero, List.set_cons_succ]
  refine stepC HOPS 2 7 (by decide) rfl (by kernel_rfl) (by kernel_rfl) ?_
  have g1 := HX3.out.cell
  have g2 := HX3.out.frozen
  go_simp
  clear g1 g2
  try simp only [Act.put, List.setIfInBounds_toArray, List.set_cons_zero, List.set_cons_succ]
  refine stepE HOPS (by kernel_rfl) (HQ.out _ _ ?_)
  clear HQ HREG HOPS
  clear Q ops
  skip
  have HX5 := Lib.hid (Boxed.set (.int .i64 z) HX3.out)
  have HX6 := Lib.hid (boxed_set2 HX4.out (k := w.heap.size + 1 + 1 + 1) (.int .i64 z) (by omega))
  have r0 := (show Boxed (((w1.setCell ⟨w.heap.size + 1 + 1 + 1, 0, none⟩ (.int .i64 z)).setCell ⟨w.heap.size + 1 + 1, 0, none⟩ (.int .i64 0)).setCell ⟨w.heap.size + 1 + 1 + 1, 0, none⟩ (.int .i64 z)).drew (w.heap.size + 1 + 1) 3 (.int .i64 0) from HX6.out).cell
  have r1 := (show Boxed (((w1.setCell ⟨w.heap.size + 1 + 1 + 1, 0, none⟩ (.int .i64 z)).setCell ⟨w.heap.size + 1 + 1, 0, none⟩ (.int .i64 0)).setCell ⟨w.heap.size + 1 + 1 + 1, 0, none⟩ (.int .i64 z)).drew (w.heap.size + 1 + 1 + 1) 28 (.int .i64 z) from HX5.out).cell
  go_wp2
  refine bodyPost_ret (v := .tuple #[.int .i64 0, .int .i64 z]) (by simp [results, Tryz.results14, go_sem, r0, r1]) rfl ?_
  exact ⟨rfl, (((HB1.out.setCell (by simp only; omega) _).setCell (by simp only; omega) _).setCell (by simp only; omega) _).drew⟩
def snC (N : Nat) (st : Int) (pre : List SX) (W : World) : Prop :=
  Boxed W (N + 2) 3 (.int .i64 0) ∧ Boxed W (N + 3) 28 (.int .i64 90) ∧ Boxed W (N + 1) 3 (.int .i64 st) ∧ ∀ b ∈ btsOf pre, ∀ r ∈ b.recs, r.stamp < st
theorem snC_own {N : Nat} {st : Int} {pre : List SX} {W W' : World} {row : Option Nat} (h : snC N st pre W) (hg : W.grownBy W' row) (hrow : ∀ r, row = some r → ∃ o : Obj, W.heap[r]? = some o ∧ o.isCells = false) : snC N st pre W' := ⟨boxed_own2 h.1 hg hrow, boxed_own2 h.2.1 hg hrow, boxed_own2 h.2.2.1 hg hrow, h.2.2.2⟩
def snX (N : Nat) (o9 e9 : Int) (cd : Code) (W : World) : Prop := cd = .exit 0 ∧ Boxed W (N + 2) 3 (.int .i64 o9) ∧ Boxed W (N + 3) 28 (.int .i64 e9)
theorem snX_own {N : Nat} {o9 e9 : Int} {cd : Code} {W W' : World} {row : Option Nat} (h : snX N o9 e9 cd W) (hg : W.grownBy W' row) (hrow : ∀ r, row = some r → ∃ o : Obj, W.heap[r]? = some o ∧ o.isCells = false) : snX N o9 e9 cd W' := ⟨h.1, boxed_own2 h.2.1 hg hrow, boxed_own2 h.2.2 hg hrow⟩
def snA (N : Nat) (st : Int) (L2 : List Bt) (pre : List SX) (x : SX) (W1 : World) (Bx : Nat) (W : World) : Prop :=
  snC N st pre W ∧ LeadT W (fun b => W1.heap.size ≤ b) none x.1 ∧ BoxT W Bx 36 x.1 ∧ W1.heap.size ≤ Bx ∧ (∃ rest, L2 = btsOf pre ++ x.1.1 :: rest) ∧ N + 4 ≤ W1.heap.size
theorem snA_own {N Bx : Nat} {st : Int} {L2 : List Bt} {pre : List SX} {x : SX} {W1 W W' : World} {row : Option Nat} (h : snA N st L2 pre x W1 Bx W) (hg : W.grownBy W' row) (hrow : ∀ r, row = some r → ∃ o : Obj, W.heap[r]? = some o ∧ o.isCells = false) : snA N st L2 pre x W1 Bx W' := by
  obtain ⟨h1, h2, h3, h4⟩ := h
  exact ⟨snC_own h1 hg hrow, LeadT.keptBy h2 hg hrow, h3.keptBy hg hrow, h4⟩
theorem sn_snoc {pre : List SX} {x : SX} {st : Int} (h : ∀ b ∈ btsOf pre, ∀ r ∈ b.recs, r.stamp < st) (hx : ∀ r ∈ x.1.1.recs, r.stamp < st) : ∀ b ∈ btsOf (pre ++ [x]), ∀ r ∈ b.recs, r.stamp < st := by
  intro b hb
  rw [btsOf_snoc] at hb
  rcases List.mem_append.1 hb with hb | hb
  · exact h b hb
  · obtain rfl : b = x.1.1 := by simpa using hb
    exact hx
def snRel (rs : List Rc) (st : Int) (n : Nat) (W : World) (i : Value) (wr : World) : Prop := ∃ k : Nat, i = .int .i64 (k : Int) ∧ k ≤ n ∧ (∀ r ∈ rs.take k, r.stamp < st) ∧ Below W.heap.size W wr
theorem sn_take {rs : List Rc} {st : Int} {k : Nat} {r : Rc} (h : ∀ r ∈ rs.take k, r.stamp < st) (hr : rs[k]? = some r) (hs : r.stamp < st) : ∀ r ∈ rs.take (k + 1), r.stamp < st := by
  intro x hx
  rw [List.take_add_one, hr] at hx
  rcases List.mem_append.1 hx with hx | hx
  · exact h x hx
  · obtain rfl : x = r := by simpa using hx
    exact hs
set_option maxRecDepth 100000 in
set_option maxHeartbeats 8000000 in
theorem Since_in (A : Option Addr) (n c : Nat) (base : Int) (bs : List UInt8) (A2 : Option Addr) (n2 c2 : Nat) (l : List En) (st : Int) (hck : ckX ⟨base, bs⟩ l = 0) {o9 e9 : Int} (hf : sinceX ⟨base, bs⟩ l st = (o9, e9)) (w : World) (hr : Rd w w.heap.size A n bs) (hc : n ≤ c) (hr2 : RdE w w.heap.size A2 n2 l) (hc2 : n2 ≤ c2) (hn2 : n2 ≤ 1099511627776) (hI : I64 base) (ht : Tab w) :
    CallsIn Fence.wide 9 Tryz.prog 14 #[.agg #[.int .i64 base, .slice A n c], .slice A2 n2 c2, .int .i64 st] w fun e w' => e = .returned (.tuple #[.int .i64 o9, .int .i64 e9]) ∧ Below w.heap.size w w' := by
  have HCK := Lib.hid hck
  have HF9 := Lib.hid hf
  have hmx : Tryz.prog.follows .mixedOrders = true := by kernel_rfl
  obtain ⟨hrx, _, _⟩ := ck_sub hck
  obtain ⟨hris, hbs, hlen⟩ := allE_right hrx
  obtain ⟨L1, L2, hL, hfl, hlo⟩ := when_split st hck
  rw [hL] at hris hbs
  simp only at hbs hlen
  have HCH := Lib.hid (fun (b : Bt) (hb : b ∈ L2) => ris_all hris b (List.mem_append_right _ hb))
  have HL := Lib.hid hL
  have HLO := Lib.hid hlo
  have HBS := Lib.hid hbs
  have hn : n ≤ 4096 := by have := hr.len; omega
  have HR := Lib.hid hr
  have HT := Lib.hid ht
  have HRE := Lib.hid hr2
  have HB4 := Lib.hid (show Below w.heap.size w ((((w.alloc (.cells #[.int .i64 base, .slice A n c] 24)).alloc (.cells #[.int .i64 st] 3)).alloc (.cells #[.int .i64 0] 3)).alloc (.cells #[.int .i64 0] 28)) from bel_alloc (bel_alloc (bel_alloc (bel_alloc (Below.refl _ _) _) _) _) _)
  have HRR := Lib.hid (rdUp hr HB4.out)
  have HEE := Lib.hid (rdeUp hr2 HB4.out)
  have HTT := Lib.hid (ht.bel HB4.out)
  have HFX := Lib.hid (show Boxed ((((w.alloc (.cells #[.int .i64 base, .slice A n c] 24)).alloc (.cells #[.int .i64 st] 3)).alloc (.cells #[.int .i64 0] 3)).alloc (.cells #[.int .i64 0] 28)) (w.heap.size + 2) 3 (.int .i64 0) from by
    have h := Boxed.new ((w.alloc (.cells #[.int .i64 base, .slice A n c] 24)).alloc (.cells #[.int .i64 st] 3)) 3 (.int .i64 0)
    simp only [World.size_alloc] at h
    exact h.alloc _)
  have HEX := Lib.hid (show Boxed ((((w.alloc (.cells #[.int .i64 base, .slice A n c] 24)).alloc (.cells #[.int .i64 st] 3)).alloc (.cells #[.int .i64 0] 3)).alloc (.cells #[.int .i64 0] 28)) (w.heap.size + 3) 28 (.int .i64 0) from by
    have h := Boxed.new (((w.alloc (.cells #[.int .i64 base, .slice A n c] 24)).alloc (.cells #[.int .i64 st] 3)).alloc (.cells #[.int .i64 0] 3)) 28 (.int .i64 0)
    simp only [World.size_alloc] at h
    exact h)
  have HOX := Lib.hid (show Boxed ((((w.alloc (.cells #[.int .i64 base, .slice A n c] 24)).alloc (.cells #[.int .i64 st] 3)).alloc (.cells #[.int .i64 0] 3)).alloc (.cells #[.int .i64 0] 28)) (w.heap.size + 1) 3 (.int .i64 st) from by
    have h := Boxed.new (w.alloc (.cells #[.int .i64 base, .slice A n c] 24)) 3 (.int .i64 st)
    simp only [World.size_alloc] at h
    exact (h.alloc _).alloc _)
  have HSX := Lib.hid (show At0 ((((w.alloc (.cells #[.int .i64 base, .slice A n c] 24)).alloc (.cells #[.int .i64 st] 3)).alloc (.cells #[.int .i64 0] 3)).alloc (.cells #[.int .i64 0] 28)) w.heap.size [.int .i64 base, .slice A n c] 24 from (((At0.new w [.int .i64 base, .slice A n c] 24).alloc _).alloc _).alloc _)
  clear hck hr hr2 ht hf hrx hris hL hlo hbs hlen
  refine callsIn_of_wp_marks Tryz.func14 rfl trivial ?_ rfl
  simp only [Tryz.ntmps14, List.size_toArray, List.length_cons, List.length_nil, Nat.reduceAdd, Nat.reduceSub, Array.replicate_succ, Array.replicate_zero, List.push_toArray, List.append_toArray, List.nil_append, List.cons_append]
  refine wpIn_wide.2 ?_
  go_wp2
  go_step3
  have m1 : ¬ w.heap.size + 1 + 1 = w.heap.size + 1 + 1 + 1 := by omega
  go_wp2_with (go_at_call 10; (with_reducible refine (Check_is A n c base bs A2 n2 c2 l HCK.out _ HRR.out hc HEE.out hn2 hI HTT.out).mono ?_); rintro e w1 ⟨rfl, hb1⟩; have HR1 := Lib.hid (rdUp HRR.out hb1); have HE1 := Lib.hid (rdeUp HEE.out hb1); have HT1 := Lib.hid (HTT.out.bel hb1); have HB1 := Lib.hid (bel_trans HB4.out hb1); have HFX1 := Lib.hid (boxed_below HFX.out hb1); have HEX1 := Lib.hid (boxed_below HEX.out hb1); have HOX1 := Lib.hid (boxed_below HOX.out hb1); have HSX1 := Lib.hid (HSX.out.below hb1); have hs1 := hb1.size; simp only [World.size_alloc] at hs1; have hl2 : w.heap.size + 2 < w1.heap.size := (by omega); have hl3 : w.heap.size + 3 < w1.heap.size := (by omega); have y0 : w1.cell? ⟨w.heap.size + 1 + 1 + 1, 0, none⟩ = some (.int .i64 0) := HEX1.out.cell; have g0 : w1.frozen? ⟨w.heap.size + 1 + 1 + 1, 0, none⟩ = false := HEX1.out.frozen; have u0 : w1.cell? ⟨w.heap.size + 1 + 1, 0, none⟩ = some (.int .i64 0) := HFX1.out.cell; have v0 : w1.frozen? ⟨w.heap.size + 1 + 1, 0, none⟩ = false := HFX1.out.frozen; clear hb1)
  generalize hw5 : ((w1.setCell ⟨w.heap.size + 1 + 1 + 1, 0, none⟩ (.int .i64 0)).setCell ⟨w.heap.size + 1 + 1, 0, none⟩ (.int .i64 0)).setCell ⟨w.heap.size + 1 + 1 + 1, 0, none⟩ (.int .i64 90) = w5
  have hs5 : w5.heap.size = w1.heap.size := by rw [← hw5]; simp
  have HB5 := Lib.hid (show Below w.heap.size w w5 by rw [← hw5]; exact ((HB1.out.setCell (by simp only; omega) _).setCell (by simp only; omega) _).setCell (by simp only; omega) _)
  have HFX5 := Lib.hid (show Boxed w5 (w.heap.size + 2) 3 (.int .i64 0) by rw [← hw5]; exact boxed_set2 (Boxed.set _ (boxed_set2 HFX1.out _ (by omega))) _ (by omega))
  have HEX5 := Lib.hid (show Boxed w5 (w.heap.size + 3) 28 (.int .i64 90) by rw [← hw5]; exact Boxed.set _ (boxed_set2 (Boxed.set _ HEX1.out) _ (by omega)))
  have HOX5 := Lib.hid (show Boxed w5 (w.heap.size + 1) 3 (.int .i64 st) by rw [← hw5]; exact boxed_set2 (boxed_set2 (boxed_set2 HOX1.out _ (by omega)) _ (by omega)) _ (by omega))
  have HSX5 := Lib.hid (show At0 w5 w.heap.size [.int .i64 base, .slice A n c] 24 by rw [← hw5]; exact ((HSX1.out.set (by simp only; omega) _).set (by simp only; omega) _).set (by simp only; omega) _)
  clear hw5 y0 g0 u0 v0
  go_step3
  go_wp2
  have HED := Lib.hid (show RdE w5.drew w5.drew.heap.size A2 n2 l from (by have h := rdeUp HRE.out HB5.out; exact h))
  have HD0 := Lib.hid (show w5.drew.cell? ⟨w.heap.size, 0, none⟩ = some (.int .i64 base) from HSX5.out.cell 0)
  have HD1 := Lib.hid (show w5.drew.cell? ⟨w.heap.size, 1, none⟩ = some (.slice A n c) from HSX5.out.cell 1)
  have HD2 := Lib.hid (show w5.drew.cell? ⟨w.heap.size + 1, 0, none⟩ = some (.int .i64 st) from HOX5.out.cell)
  obtain ⟨fl, hfx⟩ : ∃ fl, fl = whenX st 0 l := ⟨_, rfl⟩
  have HFX := Lib.hid hfx
  rw [← hfx] at hfl
  have HFL := Lib.hid hfl
  clear hfx hfl
  have HSR := Lib.hid (show (fun W9 : World => W9.cell? ⟨w.heap.size, 0, none⟩ = some (.int .i64 base) ∧ W9.cell? ⟨w.heap.size, 1, none⟩ = some (.slice A n c) ∧ W9.cell? ⟨w.heap.size + 1, 0, none⟩ = some (.int .i64 st)) w5.drew from ⟨HD0.out, HD1.out, HD2.out⟩)
  refine region_let (fun W9 : World => W9.cell? ⟨w.heap.size, 0, none⟩ = some (.int .i64 base) ∧ W9.cell? ⟨w.heap.size, 1, none⟩ = some (.slice A n c) ∧ W9.cell? ⟨w.heap.size + 1, 0, none⟩ = some (.int .i64 st)) 99 5 hmx rfl fun ops Q HOPS HQ => ?_
  have HREG := reg_of HOPS tb_Since5 rfl (by kernel_rfl) (by kernel_rfl) (by decide)
  refine sQx HOPS HREG 0 1 (fun w9 ⟨q0, q1, q2⟩ => by go_simp; first | done | with_reducible rfl) rfl HSR.out ?_
  dsimp only [List.set_cons_zero, List.set_cons_succ]
  refine sQx HOPS HREG 1 3 (fun w9 ⟨q0, q1, q2⟩ => by go_simp; first | done | with_reducible rfl) rfl HSR.out ?_
  dsimp only [List.set_cons_zero, List.set_cons_succ]
  refine sQx HOPS HREG 2 7 (fun w9 ⟨q0, q1, q2⟩ => by go_simp; first | done | with_reducible rfl) rfl HSR.out ?_
  dsimp only [List.set_cons_zero, List.set_cons_succ]
  refine stepC HOPS 3 15 (by decide) rfl (by kernel_rfl) (by kernel_rfl) ?_
  go_simp
  with_reducible refine (When_any A2 n2 c2 l st _ HED.out hc2 hn2).mono ?_
  rw [← HFX.out]
  rintro e w2 ⟨rfl, hb2⟩
  have HS2 := Lib.hid (show (fun W9 : World => W9.cell? ⟨w.heap.size, 0, none⟩ = some (.int .i64 base) ∧ W9.cell? ⟨w.heap.size, 1, none⟩ = some (.slice A n c) ∧ W9.cell? ⟨w.heap.size + 1, 0, none⟩ = some (.int .i64 st)) w2 from ⟨(hb2.cell (p := ⟨w.heap.size, 0, none⟩) (show w.heap.size < w5.heap.size by omega)).trans HD0.out, (hb2.cell (p := ⟨w.heap.size, 1, none⟩) (show w.heap.size < w5.heap.size by omega)).trans HD1.out, (hb2.cell (p := ⟨w.heap.size + 1, 0, none⟩) (show w.heap.size + 1 < w5.heap.size by omega)).trans HD2.out⟩)
  have hb2' : Below w5.heap.size w5 w2 := (Below.refl w5.heap.size w5).drew.trans hb2
  have HB2 := Lib.hid hb2'
  clear hb2 hb2'
  dsimp only
  refine ⟨HS2.out, ?_⟩
  try simp only [Act.put, List.setIfInBounds_toArray, List.set_cons_zero, List.set_cons_succ]
  refine stepC HOPS 4 31 (by decide) rfl (by kernel_rfl) (by kernel_rfl) ?_
  go_simp
  with_reducible refine (batches_any A n c base fl _).mono ?_
  rintro e w3 ⟨rfl, rfl⟩
  dsimp only
  refine ⟨⟨(World.cell?_alloc_lt _ _ _ (by simp; have := HB2.out.size; omega)).trans ((World.cell?_alloc_lt _ _ _ (by simp only; have := HB2.out.size; omega)).trans HS2.out.1), (World.cell?_alloc_lt _ _ _ (by simp; have := HB2.out.size; omega)).trans ((World.cell?_alloc_lt _ _ _ (by simp only; have := HB2.out.size; omega)).trans HS2.out.2.1), (World.cell?_alloc_lt _ _ _ (by simp; have := HB2.out.size; omega)).trans ((World.cell?_alloc_lt _ _ _ (by simp only; have := HB2.out.size; omega)).trans HS2.out.2.2)⟩, ?_⟩
  try simp only [Act.put, List.setIfInBounds_toArray, List.set_cons_zero, List.set_cons_succ]
  refine stepE HOPS (by kernel_rfl) (HQ.out _ _ ?_)
  clear HQ HREG HOPS
  clear Q ops
  skip
  go_wp2
  have hs2 := HB2.out.size
  generalize hw0 : (w2.alloc (.cells #[.int .i64 base, .slice A n c] 24)).alloc (.cells #[.int .i64 fl] 3) = W0
  have hsz : W0.heap.size = w2.heap.size + 2 := by rw [← hw0]; simp
  have hB0 : Below w2.heap.size w2 W0 := by rw [← hw0]; exact bel_alloc (bel_alloc (Below.refl _ _) _) _
  have hB12 : Below w5.heap.size w5 W0 := HB2.out.trans (hB0.mono hs2)
  have hBw : Below w.heap.size w W0 := HB5.out.trans (hB12.mono (by omega))
  have hC0 : snC w.heap.size st [] W0 := ⟨boxed_below HFX5.out hB12, boxed_below HEX5.out hB12, boxed_below HOX5.out hB12, by simp [btsOf]⟩
  have hS0 : W0.heap[w2.heap.size]? = some (.cells #[.int .i64 base, .slice A n c] 24 (0, 0)) := by
    rw [← hw0]
    exact (Below.heap_alloc _ _ _ (by simp)).trans (World.alloc_heap_new w2 (.cells #[.int .i64 base, .slice A n c] 24 (0, 0)))
  have hF0 : W0.heap[w2.heap.size + 1]? = some (.cells #[.int .i64 fl] 3 (0, 0)) := by
    rw [← hw0]
    have h := World.alloc_heap_new (w2.alloc (.cells #[.int .i64 base, .slice A n c] 24)) (.cells #[.int .i64 fl] 3 (0, 0))
    simp only [World.size_alloc] at h
    exact h
  clear hw0
  have hnt := HT.out.pos
  refine (wpIn_wide (n := 9)).1 ?_
  refine wpIn_rangeO (F := Fence.wide) rfl (by omega) (gf := 36) (lb := #[.pointer (some ⟨w2.heap.size + 1, 0, none⟩), .pointer (some ⟨w2.heap.size, 0, none⟩)]) rfl trivial (enters_of Tryz.func36 (by kernel_rfl) rfl)
    (batches_seq (9 - 1) (by omega) (w2.heap.size + 1) w2.heap.size w.heap.size A n c base L1 L2 HCH.out hc (by omega) W0 (by omega) (by omega) (by omega) (by rw [cell_of_row _ _ _ _ _ _ hF0, ← HFL.out]; rfl) (by rw [cell_of_row _ _ _ _ _ _ hS0]; rfl) (by rw [← HBS.out]; exact HR.out.below hBw (Nat.le_refl _)) (HT.out.bel hBw) hnt)
    (by simp only [IdxK]; omega) (fun k h => h.elim) (Below.refl _ _) (fun _ => rfl)
    (fun pre W => snC w.heap.size st pre W ∧ Below w.heap.size w W) (fun cd _ W => snX w.heap.size o9 e9 cd W ∧ Below w.heap.size w W)
    (OwnFrom.and (Own.from (I := fun (pre : List SX) W => snC w.heap.size st pre W) (fun s X Y row hs hg hrow => snC_own hs hg hrow) _) (ownFrom_below (Nat.le_refl _) hBw.size))
    (fun cd => OwnFrom.and (Own.from (I := fun (_ : List SX) W => snX w.heap.size o9 e9 cd W) (fun s X Y row hs hg hrow => snX_own hs hg hrow) _) (ownFrom_below (Nat.le_refl _) hBw.size)) ⟨hC0, hBw⟩
    (fun pre x W1 a' W => (∃ Bx, snA w.heap.size st L2 pre x W1 Bx W ∧ a' = { tmps := #[.agg #[.int .i64 base, .slice A n c], .slice A2 n2 c2, .int .i64 st, .pointer (some ⟨w.heap.size, 0, none⟩), undef, .pointer (some ⟨w.heap.size + 1, 0, none⟩), .pointer (some ⟨w.heap.size + 1 + 1, 0, none⟩), .pointer (some ⟨w.heap.size + 1 + 1 + 1, 0, none⟩), undef, .pointer (some ⟨Bx, 0, none⟩), undef, undef, .agg #[.int .i64 base, .slice A n c], .slice A2 n2 c2, .int .i64 0, .int .i64 0, .bool false, undef, .agg #[.int .i64 base, .slice A n c], .slice A2 n2 c2, .int .i64 st, .int .i64 fl, .func (.func 36) #[] #[.pointer (some ⟨w2.heap.size + 1, 0, none⟩), .pointer (some ⟨w2.heap.size, 0, none⟩)], .int .i64 (x.2 : Int), (encI x)[1]!, undef, undef, undef, undef, undef, undef, undef, undef, undef, undef, undef, undef, undef, undef, undef, undef], defers := [] }) ∧ Below w.heap.size w W)
    (fun pre x W1 a' X r r' h hr => by
      obtain ⟨⟨Bx, h1, h2⟩, h3⟩ := h
      exact ⟨⟨Bx, snA_own h1 (grownBy_putObj' _ _ _) (fun k e => by cases e; exact ⟨_, hr, rfl⟩), h2⟩, (ownFrom_below (β := Unit) (B := W0.heap.size) (Nat.le_refl _) hBw.size).putObj (s := ()) _ h3 (by omega) hr rfl⟩)
    ?assign ?body ?done ?stop
  case assign =>
    rintro lp pre ⟨⟨⟨ba, la, fr, ep, pi, ge, se, tx, ct, rs⟩, A1, n1, c1⟩, kn⟩ W1 W G hs1 ⟨⟨hfx, hex, hox, hlt⟩, hB⟩ hst hq hG
    have hbel : Below W1.heap.size W1 W := ⟨hst.bel.os, hst.bel.tape, hst.bel.output, hst.bel.size, fun g hg => hst.same g hg id⟩
    dsimp only [encI]
    gi_wp2
    have hbel2 : Below W1.heap.size W1 (W.alloc (.cells #[.int .i64 ba, .int .i64 la, .int .i64 fr, .int .i64 ep, .int .i64 pi, .int .i64 ge, .int .i64 se, .bool tx, .int .i64 ct, .slice A1 n1 c1] 36)) := bel_alloc hbel _
    exact hG _ _ ((KeepsOthers.alloc _ _).from _) ((KeptQ.refl _ _ _).alloc _) ⟨⟨W.heap.size, ⟨⟨boxed_below hfx hbel2, boxed_below hex hbel2, boxed_below hox hbel2, hlt⟩, (lead_new (x := ((⟨ba, la, fr, ep, pi, ge, se, tx, ct, rs⟩, A1, n1, c1), kn)) hq.2.2.2.2 hq.2.2.2.1 hq.2.2.1).below (bel_alloc (Below.refl _ _) _), BoxT.new W _ (⟨ba, la, fr, ep, pi, ge, se, tx, ct, rs⟩, A1, n1, c1), hbel.size, hq.1, by omega⟩, rfl⟩, (hB.trans (hbel.mono (by omega))).alloc (by have := hbel.size; omega) _⟩
  case body =>
    rintro lp pre ⟨⟨⟨ba, la, fr, ep, pi, ge, se, tx, ct, rs⟩, A1, n1, c1⟩, kn⟩ W1 a' W ⟨⟨Bx, ⟨⟨hfx, hex, hox, hlt⟩, hLd, hT, hBx, hnx, hW1⟩, rfl⟩, hB⟩
    obtain ⟨x0, x1, x2, x3, x4, x5, x6, x7, x8, x9⟩ := hT.box
    have HLD := Lib.hid hLd
    have HNX := Lib.hid hnx
    have HLT := Lib.hid hlt
    have HFR := Lib.hid hfx
    have HER := Lib.hid hex
    have HOR := Lib.hid hox
    have HBB := Lib.hid hB
    have hBl := hT.lt
    have hnn : n1 ≤ 1099511627776 := hLd.2.2.1
    clear hLd hnx hlt hT hB hfx hex hox
    gi_wp2
    gi_loopw [28] (fun i wr => snRel rs st n1 W i wr) (fun i _ => n1 - (intOf i).toNat)
    case atStart => exact ⟨0, rfl, Nat.zero_le _, by simp, Below.refl _ _⟩
    case round =>
      obtain ⟨k, rfl, hk, hT, hb⟩ := hrel
      have HT9 := Lib.hid hT
      have HBW := Lib.hid hb
      have hs9 := hb.size
      clear hT hb
      by_cases hlt : k < n1
      · obtain ⟨b, o, r, hAA, hbl, hrk, c0, c1', c2, c3, c4⟩ := HLD.out.1.at hlt
        obtain rfl : A1 = some ⟨b, o, none⟩ := hAA
        have hrk : rs[k]? = some r := hrk
        have hbP : W1.heap.size ≤ b := (HLD.out.2.2.2.2 _ rfl (by show 0 < n1; omega)).1
        have e0 := (HBW.out.cell (p := ⟨b, o + k * 5, none⟩) hbl).trans c0
        have e1 := (HBW.out.cell (p := ⟨b, o + k * 5 + 1, none⟩) hbl).trans c1'
        have e2 := (HBW.out.cell (p := ⟨b, o + k * 5 + 2, none⟩) hbl).trans c2
        have e3 := (HBW.out.cell (p := ⟨b, o + k * 5 + 3, none⟩) hbl).trans c3
        have e4 := (HBW.out.cell (p := ⟨b, o + k * 5 + 4, none⟩) hbl).trans c4
        have y1 := (boxed_below HOR.out HBW.out).cell
        have hblr : b < wr.heap.size := by omega
        have hor := (boxed_below HOR.out HBW.out).lt
        have HRK := Lib.hid hrk
        obtain ⟨r0, rk, rv, rd, r4⟩ := r
        clear c0 c1' c2 c3 c4 hrk x0 x1 x2 x3 x4 x5 x6 x7 x8 x9
        simp only at e0 e1 e2 e3 e4
        by_cases hle : st ≤ r4
        · have hffx := boxed_below HFR.out HBW.out
          have heex := boxed_below HER.out HBW.out
          have y2 := hffx.cell
          have g2 := hffx.frozen
          have y3 := heex.cell
          have g3 := heex.frozen
          have l2 := hffx.lt
          have l3 := heex.lt
          have HF2 := Lib.hid hffx
          have HE2 := Lib.hid heex
          have HFS := Lib.hid (show sinceX ⟨base, bs⟩ l st = (r0, 0) by
            obtain ⟨rest, hr⟩ := HNX.out
            refine sinceX_some (L1 := L1 ++ btsOf pre) (rest := rest) (b := ⟨ba, la, fr, ep, pi, ge, se, tx, ct, rs⟩) (k := k) (r := ⟨r0, rk, rv, rd, r4⟩) HCK.out (by rw [HL.out, hr, List.append_assoc]) (fun b hb => ?_) HT9.out HRK.out hle
            rcases List.mem_append.1 hb with hb | hb
            · exact HLO.out b hb
            · exact HLT.out b hb)
          clear hffx heex
          gi_wp2
          have hee := HF9.out.symm.trans HFS.out
          injection hee with q1 q2
          have hkf : KeepsFrom (w2.heap.size + 2) W wr := ⟨HBW.out.size, fun g o _ ho _ => (HBW.out.block g (Array.getElem?_eq_some_iff.1 ho).1).trans ho⟩
          refine ⟨hkf.trans ((((KeepsOthers.setCell _ _ _).trans (KeepsOthers.setCell _ _ _)).trans (KeepsOthers.alloc _ _)).from _), ⟨rfl, ?_, ?_⟩, ?_⟩
          · rw [q1]; exact (boxed_set2 (HF2.out.set _) _ (by omega)).alloc _
          · rw [q2]; exact (Boxed.set _ (boxed_set2 HE2.out _ (by omega))).alloc _
          · exact (((HBB.out.trans (HBW.out.mono HBB.out.size)).setCell (by simp only; omega) _).setCell (by simp only; omega) _).alloc (by have := HBB.out.size; simp; omega) _
        · gi_wp2
          go_roundw
          case rel => exact ⟨k + 1, by go_num, by omega, sn_take HT9.out HRK.out (by show r4 < st; omega), bel_alloc HBW.out _⟩
          case measure => simp [intOf]; omega
      · obtain rfl : k = n1 := by omega
        have hall : ∀ r ∈ rs, r.stamp < st := by
          have h := HT9.out
          rw [List.take_of_length_le (by have := HLD.out.1.len; simp only at this; omega)] at h
          exact h
        have HSN := Lib.hid (sn_snoc (x := ((⟨ba, la, fr, ep, pi, ge, se, tx, ct, rs⟩, A1, k, c1), kn)) HLT.out hall)
        clear hall
        gi_wp2
        exact ⟨⟨HBW.out.size, fun g o _ ho _ => (HBW.out.block g (Array.getElem?_eq_some_iff.1 ho).1).trans ho⟩, (KeptQ.refl _ _ _).below HBW.out, ⟨boxed_below HFR.out HBW.out, boxed_below HER.out HBW.out, boxed_below HOR.out HBW.out, HSN.out⟩, HBB.out.trans (HBW.out.mono HBB.out.size)⟩
  case done =>
    rintro D ys W hD hys ⟨⟨hfx, hex, hox, hlt⟩, hB⟩ hK
    have hfn := sinceX_none (st := st) HCK.out (by
      rw [HL.out]
      intro b hb
      rcases List.mem_append.1 hb with hb | hb
      · exact HLO.out b hb
      · exact hlt b (by rw [hys]; exact hb))
    rw [HF9.out] at hfn
    injection hfn with ho9 he9
    subst ho9 he9
    clear hlt hys hox
    have HA := Lib.hid hfx
    have HE := Lib.hid hex
    have HBB := Lib.hid hB
    have HK := Lib.hid hK
    clear hfx hex hB hK
    go_wp2
    have HSR := Lib.hid (show (fun W9 : World => W9.cell? ⟨w.heap.size + 1 + 1, 0, none⟩ = some (.int .i64 0) ∧ W9.cell? ⟨w.heap.size + 1 + 1 + 1, 0, none⟩ = some (.int .i64 90)) W.drew from ⟨HA.out.cell, HE.out.cell⟩)
    refine region_let (fun W9 : World => W9.cell? ⟨w.heap.size + 1 + 1, 0, none⟩ = some (.int .i64 0) ∧ W9.cell? ⟨w.heap.size + 1 + 1 + 1, 0, none⟩ = some (.int .i64 90)) 99 4 hmx rfl fun ops Q HOPS HQ => ?_
    have HREG := reg_of HOPS tb_Since13 rfl (by kernel_rfl) (by kernel_rfl) (by decide)
    refine sQx HOPS HREG 0 1 (fun w9 ⟨q0, q1⟩ => by go_simp; first | done | with_reducible rfl) rfl HSR.out ?_
    dsimp only [List.set_cons_zero, List.set_cons_succ]
    refine sQx HOPS HREG 1 3 (fun w9 ⟨q0, q1⟩ => by go_simp; first | done | with_reducible rfl) rfl HSR.out ?_
    dsimp only [List.set_cons_zero, List.set_cons_succ]
    refine stepC HOPS 2 7 (by decide) rfl (by kernel_rfl) (by kernel_rfl) ?_
    have g1 := HA.out.cell
    have g2 := HA.out.frozen
    have g3 := HE.out.cell
    go_simp
    clear g1 g2 g3
    have HA2 := Lib.hid (HA.out.set (.int .i64 0))
    have HE2 := Lib.hid (boxed_set2 HE.out (k := w.heap.size + 1 + 1) (.int .i64 0) (by omega))
    try simp only [Act.put, List.setIfInBounds_toArray, List.set_cons_zero, List.set_cons_succ]
    refine stepC HOPS 3 15 (by decide) rfl (by kernel_rfl) (by kernel_rfl) ?_
    have g1 := HE2.out.cell
    have g2 := HE2.out.frozen
    have g3 := HA2.out.cell
    go_simp
    clear g1 g2 g3
    have HA3 := Lib.hid (boxed_set2 HA2.out (k := w.heap.size + 1 + 1 + 1) (.int .i64 90) (by omega))
    have HE3 := Lib.hid (HE2.out.set (.int .i64 90))
    try simp only [Act.put, List.setIfInBounds_toArray, List.set_cons_zero, List.set_cons_succ]
    refine stepE HOPS (by kernel_rfl) (HQ.out _ _ ?_)
    clear HQ HREG HOPS
    clear Q ops
    skip
    go_wp2
    have hK' := (((KeepsOthers.drew W).trans (KeepsOthers.setCell _ ⟨w.heap.size + 1 + 1, 0, none⟩ (.int .i64 0))).trans (KeepsOthers.setCell _ ⟨w.heap.size + 1 + 1 + 1, 0, none⟩ (.int .i64 90))).same D _ HK.out rfl
    have hrow : ∀ r, some D = some r → ∃ o : Obj, ((W.drew.setCell ⟨w.heap.size + 1 + 1, 0, none⟩ (.int .i64 0)).setCell ⟨w.heap.size + 1 + 1 + 1, 0, none⟩ (.int .i64 90)).heap[r]? = some o ∧ o.isCells = false := fun r e => by cases e; exact ⟨_, hK', rfl⟩
    have r1' := cell_kept HA3.out.cell (grownBy_putObj' _ D (.deferred none)) hrow
    have r2' := cell_kept HE3.out.cell (grownBy_putObj' _ D (.deferred none)) hrow
    have r1 : (((W.setCell ⟨w.heap.size + 1 + 1, 0, none⟩ (.int .i64 0)).setCell ⟨w.heap.size + 1 + 1 + 1, 0, none⟩ (.int .i64 90)).drew.putObj D (.deferred none)).cell? ⟨w.heap.size + 1 + 1, 0, none⟩ = some (.int .i64 0) := r1'
    have r2 : (((W.setCell ⟨w.heap.size + 1 + 1, 0, none⟩ (.int .i64 0)).setCell ⟨w.heap.size + 1 + 1 + 1, 0, none⟩ (.int .i64 90)).drew.putObj D (.deferred none)).cell? ⟨w.heap.size + 1 + 1 + 1, 0, none⟩ = some (.int .i64 90) := r2'
    clear r1' r2'
    refine ⟨by simp, .inl ⟨_, _, rfl, run_takeDeferred hK', ?_⟩⟩
    refine ⟨.tuple #[.int .i64 0, .int .i64 90], by simp [results, Tryz.results14, go_sem, r1, r2], rfl, ?_⟩
    exact ((HBB.out.drew.setCell (by simp only; omega) _).setCell (by simp only; omega) _).trans (belowK_b (w := w) (Nat.le_refl _) _ D _ _ (by omega) hK' rfl rfl)
  case stop =>
    rintro D cd pre W hD ⟨⟨rfl, hfx, hex⟩, hB⟩ hK
    have HA := Lib.hid hfx
    have HE := Lib.hid hex
    have HBB := Lib.hid hB
    have HK := Lib.hid hK
    clear hfx hex hB hK
    gi_wp2
    go_wp2
    have HSR := Lib.hid (show (fun W9 : World => W9.cell? ⟨w.heap.size + 1 + 1, 0, none⟩ = some (.int .i64 o9) ∧ W9.cell? ⟨w.heap.size + 1 + 1 + 1, 0, none⟩ = some (.int .i64 e9)) W.drew from ⟨HA.out.cell, HE.out.cell⟩)
    refine region_let (fun W9 : World => W9.cell? ⟨w.heap.size + 1 + 1, 0, none⟩ = some (.int .i64 o9) ∧ W9.cell? ⟨w.heap.size + 1 + 1 + 1, 0, none⟩ = some (.int .i64 e9)) 99 4 hmx rfl fun ops Q HOPS HQ => ?_
    have HREG := reg_of HOPS tb_Since13 rfl (by kernel_rfl) (by kernel_rfl) (by decide)
    refine sQx HOPS HREG 0 1 (fun w9 ⟨q0, q1⟩ => by go_simp; first | done | with_reducible rfl) rfl HSR.out ?_
    dsimp only [List.set_cons_zero, List.set_cons_succ]
    refine sQx HOPS HREG 1 3 (fun w9 ⟨q0, q1⟩ => by go_simp; first | done | with_reducible rfl) rfl HSR.out ?_
    dsimp only [List.set_cons_zero, List.set_cons_succ]
    refine stepC HOPS 2 7 (by decide) rfl (by kernel_rfl) (by kernel_rfl) ?_
    have g1 := HA.out.cell
    have g2 := HA.out.frozen
    have g3 := HE.out.cell
    go_simp
    clear g1 g2 g3
    have HA2 := Lib.hid (HA.out.set (.int .i64 o9))
    have HE2 := Lib.hid (boxed_set2 HE.out (k := w.heap.size + 1 + 1) (.int .i64 o9) (by omega))
    try simp only [Act.put, List.setIfInBounds_toArray, List.set_cons_zero, List.set_cons_succ]
    refine stepC HOPS 3 15 (by decide) rfl (by kernel_rfl) (by kernel_rfl) ?_
    have g1 := HE2.out.cell
    have g2 := HE2.out.frozen
    have g3 := HA2.out.cell
    go_simp
    clear g1 g2 g3
    have HA3 := Lib.hid (boxed_set2 HA2.out (k := w.heap.size + 1 + 1 + 1) (.int .i64 e9) (by omega))
    have HE3 := Lib.hid (HE2.out.set (.int .i64 e9))
    try simp only [Act.put, List.setIfInBounds_toArray, List.set_cons_zero, List.set_cons_succ]
    refine stepE HOPS (by kernel_rfl) (HQ.out _ _ ?_)
    clear HQ HREG HOPS
    clear Q ops
    skip
    go_wp2
    have hK' := (((KeepsOthers.drew W).trans (KeepsOthers.setCell _ ⟨w.heap.size + 1 + 1, 0, none⟩ (.int .i64 o9))).trans (KeepsOthers.setCell _ ⟨w.heap.size + 1 + 1 + 1, 0, none⟩ (.int .i64 e9))).same D _ HK.out rfl
    have hrow : ∀ r, some D = some r → ∃ o : Obj, ((W.drew.setCell ⟨w.heap.size + 1 + 1, 0, none⟩ (.int .i64 o9)).setCell ⟨w.heap.size + 1 + 1 + 1, 0, none⟩ (.int .i64 e9)).heap[r]? = some o ∧ o.isCells = false := fun r e => by cases e; exact ⟨_, hK', rfl⟩
    have r1' := cell_kept HA3.out.cell (grownBy_putObj' _ D (.deferred none)) hrow
    have r2' := cell_kept HE3.out.cell (grownBy_putObj' _ D (.deferred none)) hrow
    have r1 : (((W.setCell ⟨w.heap.size + 1 + 1, 0, none⟩ (.int .i64 o9)).setCell ⟨w.heap.size + 1 + 1 + 1, 0, none⟩ (.int .i64 e9)).drew.putObj D (.deferred none)).cell? ⟨w.heap.size + 1 + 1, 0, none⟩ = some (.int .i64 o9) := r1'
    have r2 : (((W.setCell ⟨w.heap.size + 1 + 1, 0, none⟩ (.int .i64 o9)).setCell ⟨w.heap.size + 1 + 1 + 1, 0, none⟩ (.int .i64 e9)).drew.putObj D (.deferred none)).cell? ⟨w.heap.size + 1 + 1 + 1, 0, none⟩ = some (.int .i64 e9) := r2'
    clear r1' r2'
    refine ⟨by simp, .inl ⟨_, _, rfl, run_takeDeferred hK', ?_⟩⟩
    refine ⟨.tuple #[.int .i64 o9, .int .i64 e9], by simp [results, Tryz.results14, go_sem, r1, r2], rfl, ?_⟩
    exact ((HBB.out.drew.setCell (by simp only; omega) _).setCell (by simp only; omega) _).trans (belowK_b (w := w) (Nat.le_refl _) _ D _ _ (by omega) hK' rfl rfl)
end Go.Proofs.YtbnkfljkojhkoaaGreatDoor.Idx
