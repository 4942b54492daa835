/- Joined: IdxD. -/
import Derived.Test.YtbnkfljkojhkoaaGreatDoorIdxG
import Derived.Test.YtbnkfljkojhkoaaGreatDoorIdxF
import Derived.Test.YtbnkfljkojhkoaaGreatDoorIdxP
import Derived.Test.YtbnkfljkojhkoaaGreatDoorJIdxM
/- The landed index.Find. -/
namespace Go.Proofs.YtbnkfljkojhkoaaGreatDoor.Idx
open Go.RowKit Go.Shelf Oct Rec Crc Bat RngQ Seg RowF RowL InR

attribute [local go_sem] Oper.semAt_some

def tb_Find4 : List (Nat × Nat) := [(0, 31), (0, 31), (0, 31), (6, 25), (9, 22)]
def FB (w : World) (b : Bt) (z : Int) (en : Ending) (w' : World) : Prop :=
  ∃ A1 n1 c1, en = .returned (.tuple #[.agg #[.int .i64 b.base, .int .i64 b.last, .int .i64 b.frm, .int .i64 b.epoch, .int .i64 b.pid, .int .i64 b.gen, .int .i64 b.seq, .bool b.txn, .int .i64 b.ctl, .slice A1 n1 c1], .int .i64 z]) ∧ n1 ≤ c1 ∧ n1 ≤ 1099511627776 ∧ RdR w' w'.heap.size A1 n1 b.recs ∧ Below w.heap.size w w'
set_option maxRecDepth 100000 in
set_option maxHeartbeats 4000000 in
theorem Find_bad (A : Option Addr) (n c : Nat) (base : Int) (bs : List UInt8) (A2 : Option Addr) (n2 c2 : Nat) (l : List En) (off : Int) {z : Int} (hck : ckX ⟨base, bs⟩ l = z) (hz : z ≠ 0) (w : World) (hr : Rd w w.heap.size A n bs) (hc : n ≤ c) (hr2 : RdE w w.heap.size A2 n2 l) (hn2 : n2 ≤ 1099511627776) (hI : I64 base) (ht : Tab w) :
    Calls Tryz.prog 12 #[.agg #[.int .i64 base, .slice A n c], .slice A2 n2 c2, .int .i64 off] w (FB w nilB z) := by
  have HCK := Lib.hid hck
  have hzF : (z == 0) = false := beqF hz
  have HB4 := Lib.hid (show Below w.heap.size w ((((w.alloc (.cells #[.int .i64 base, .slice A n c] 24)).alloc (.cells #[.int .i64 off] 3)).alloc (.cells #[.int .i64 0, .int .i64 0, .int .i64 0, .int .i64 0, .int .i64 0, .int .i64 0, .int .i64 0, .bool false, .int .i64 0, .slice none 0 0] 36)).alloc (.cells #[.int .i64 0] 28)) from bel_alloc (bel_alloc (bel_alloc (bel_alloc (Below.refl _ _) _) _) _) _)
  have HRR := Lib.hid (rdUp hr HB4.out)
  have HEE := Lib.hid (rdeUp hr2 HB4.out)
  have HTT := Lib.hid (ht.bel HB4.out)
  have HBX := Lib.hid (show At0 ((((w.alloc (.cells #[.int .i64 base, .slice A n c] 24)).alloc (.cells #[.int .i64 off] 3)).alloc (.cells #[.int .i64 0, .int .i64 0, .int .i64 0, .int .i64 0, .int .i64 0, .int .i64 0, .int .i64 0, .bool false, .int .i64 0, .slice none 0 0] 36)).alloc (.cells #[.int .i64 0] 28)) (w.heap.size + 2) [.int .i64 0, .int .i64 0, .int .i64 0, .int .i64 0, .int .i64 0, .int .i64 0, .int .i64 0, .bool false, .int .i64 0, .slice none 0 0] 36 from by
    have h := At0.new ((w.alloc (.cells #[.int .i64 base, .slice A n c] 24)).alloc (.cells #[.int .i64 off] 3)) [.int .i64 0, .int .i64 0, .int .i64 0, .int .i64 0, .int .i64 0, .int .i64 0, .int .i64 0, .bool false, .int .i64 0, .slice none 0 0] 36
    simp only [World.size_alloc] at h
    exact h.alloc _)
  have HEX := Lib.hid (show Boxed ((((w.alloc (.cells #[.int .i64 base, .slice A n c] 24)).alloc (.cells #[.int .i64 off] 3)).alloc (.cells #[.int .i64 0, .int .i64 0, .int .i64 0, .int .i64 0, .int .i64 0, .int .i64 0, .int .i64 0, .bool false, .int .i64 0, .slice none 0 0] 36)).alloc (.cells #[.int .i64 0] 28)) (w.heap.size + 3) 28 (.int .i64 0) from by
    have h := Boxed.new (((w.alloc (.cells #[.int .i64 base, .slice A n c] 24)).alloc (.cells #[.int .i64 off] 3)).alloc (.cells #[.int .i64 0, .int .i64 0, .int .i64 0, .int .i64 0, .int .i64 0, .int .i64 0, .int .i64 0, .bool false, .int .i64 0, .slice none 0 0] 36)) 28 (.int .i64 0)
    simp only [World.size_alloc] at h
    exact h)
  have HOX := Lib.hid (show Boxed ((((w.alloc (.cells #[.int .i64 base, .slice A n c] 24)).alloc (.cells #[.int .i64 off] 3)).alloc (.cells #[.int .i64 0, .int .i64 0, .int .i64 0, .int .i64 0, .int .i64 0, .int .i64 0, .int .i64 0, .bool false, .int .i64 0, .slice none 0 0] 36)).alloc (.cells #[.int .i64 0] 28)) (w.heap.size + 1) 3 (.int .i64 off) from by
    have h := Boxed.new (w.alloc (.cells #[.int .i64 base, .slice A n c] 24)) 3 (.int .i64 off)
    simp only [World.size_alloc] at h
    exact (h.alloc _).alloc _)
  have HSX := Lib.hid (show At0 ((((w.alloc (.cells #[.int .i64 base, .slice A n c] 24)).alloc (.cells #[.int .i64 off] 3)).alloc (.cells #[.int .i64 0, .int .i64 0, .int .i64 0, .int .i64 0, .int .i64 0, .int .i64 0, .int .i64 0, .bool false, .int .i64 0, .slice none 0 0] 36)).alloc (.cells #[.int .i64 0] 28)) w.heap.size [.int .i64 base, .slice A n c] 24 from (((At0.new w [.int .i64 base, .slice A n c] 24).alloc _).alloc _).alloc _)
  clear hck hz hr hr2 ht
  go_enter Tryz.func12, Tryz.ntmps12
  go_wp2_with (go_at_call 10; (with_reducible refine (Check_is A n c base bs A2 n2 c2 l HCK.out _ HRR.out hc HEE.out hn2 hI HTT.out).mono ?_); rintro e w1 ⟨rfl, hb1⟩; have HR1 := Lib.hid (rdUp HRR.out hb1); have HE1 := Lib.hid (rdeUp HEE.out hb1); have HT1 := Lib.hid (HTT.out.bel hb1); have HB1 := Lib.hid (bel_trans HB4.out hb1); have HBX1 := Lib.hid (HBX.out.below hb1); have HEX1 := Lib.hid (boxed_below HEX.out hb1); have HOX1 := Lib.hid (boxed_below HOX.out hb1); have HSX1 := Lib.hid (HSX.out.below hb1); have hs1 := hb1.size; simp only [World.size_alloc] at hs1; have hl2 : w.heap.size + 2 < w1.heap.size := (by omega); have hl3 : w.heap.size + 3 < w1.heap.size := (by omega); have z0 : w1.cell? ⟨w.heap.size + 1 + 1, 0, none⟩ = some (.int .i64 0) := HBX1.out.cell 0; have z1 : w1.cell? ⟨w.heap.size + 1 + 1, 1, none⟩ = some (.int .i64 0) := HBX1.out.cell 1; have z2 : w1.cell? ⟨w.heap.size + 1 + 1, 2, none⟩ = some (.int .i64 0) := HBX1.out.cell 2; have z3 : w1.cell? ⟨w.heap.size + 1 + 1, 3, none⟩ = some (.int .i64 0) := HBX1.out.cell 3; have z4 : w1.cell? ⟨w.heap.size + 1 + 1, 4, none⟩ = some (.int .i64 0) := HBX1.out.cell 4; have z5 : w1.cell? ⟨w.heap.size + 1 + 1, 5, none⟩ = some (.int .i64 0) := HBX1.out.cell 5; have z6 : w1.cell? ⟨w.heap.size + 1 + 1, 6, none⟩ = some (.int .i64 0) := HBX1.out.cell 6; have z7 : w1.cell? ⟨w.heap.size + 1 + 1, 7, none⟩ = some (.bool false) := HBX1.out.cell 7; have z8 : w1.cell? ⟨w.heap.size + 1 + 1, 8, none⟩ = some (.int .i64 0) := HBX1.out.cell 8; have z9 : w1.cell? ⟨w.heap.size + 1 + 1, 9, none⟩ = some (.slice none 0 0) := HBX1.out.cell 9; have f0 : w1.frozen? ⟨w.heap.size + 1 + 1, 0, none⟩ = false := HBX1.out.frozen 0; have f1 : w1.frozen? ⟨w.heap.size + 1 + 1, 1, none⟩ = false := HBX1.out.frozen 1; have f2 : w1.frozen? ⟨w.heap.size + 1 + 1, 2, none⟩ = false := HBX1.out.frozen 2; have f3 : w1.frozen? ⟨w.heap.size + 1 + 1, 3, none⟩ = false := HBX1.out.frozen 3; have f4 : w1.frozen? ⟨w.heap.size + 1 + 1, 4, none⟩ = false := HBX1.out.frozen 4; have f5 : w1.frozen? ⟨w.heap.size + 1 + 1, 5, none⟩ = false := HBX1.out.frozen 5; have f6 : w1.frozen? ⟨w.heap.size + 1 + 1, 6, none⟩ = false := HBX1.out.frozen 6; have f7 : w1.frozen? ⟨w.heap.size + 1 + 1, 7, none⟩ = false := HBX1.out.frozen 7; have f8 : w1.frozen? ⟨w.heap.size + 1 + 1, 8, none⟩ = false := HBX1.out.frozen 8; have f9 : w1.frozen? ⟨w.heap.size + 1 + 1, 9, none⟩ = false := HBX1.out.frozen 9; have y0 : w1.cell? ⟨w.heap.size + 1 + 1 + 1, 0, none⟩ = some (.int .i64 0) := HEX1.out.cell; have g0 : w1.frozen? ⟨w.heap.size + 1 + 1 + 1, 0, none⟩ = false := HEX1.out.frozen; clear hb1)
  have hat := Lib.hid ((at0_put10 (v0 := .int .i64 0) (v1 := .int .i64 0) (v2 := .int .i64 0) (v3 := .int .i64 0) (v4 := .int .i64 0) (v5 := .int .i64 0) (v6 := .int .i64 0) (v7 := .bool false) (v8 := .int .i64 0) (v9 := .slice none 0 0) HBX1.out).set (p := ⟨w.heap.size + 1 + 1 + 1, 0, none⟩) (by simp only; omega) (.int .i64 z))
  have r0 := hat.out.cell 0
  have r1 := hat.out.cell 1
  have r2 := hat.out.cell 2
  have r3 := hat.out.cell 3
  have r4 := hat.out.cell 4
  have r5 := hat.out.cell 5
  have r6 := hat.out.cell 6
  have r7 := hat.out.cell 7
  have r8 := hat.out.cell 8
  have r9 := hat.out.cell 9
  have ry := (Boxed.set (.int .i64 z) (HEX1.out.kept put10_gb (fun e => by injection e with e; omega) : Boxed (put10 w1 (w.heap.size + 1 + 1) (.int .i64 0) (.int .i64 0) (.int .i64 0) (.int .i64 0) (.int .i64 0) (.int .i64 0) (.int .i64 0) (.bool false) (.int .i64 0) (.slice none 0 0)) (w.heap.size + 1 + 1 + 1) 28 (.int .i64 0))).cell
  simp only [List.getElem?_cons_zero, List.getElem?_cons_succ] at r0 r1 r2 r3 r4 r5 r6 r7 r8 r9
  refine bodyPost_ret (v := .tuple #[.agg #[.int .i64 0, .int .i64 0, .int .i64 0, .int .i64 0, .int .i64 0, .int .i64 0, .int .i64 0, .bool false, .int .i64 0, .slice none 0 0], .int .i64 z]) (by simp [results, Tryz.results12, go_sem, r0, r1, r2, r3, r4, r5, r6, r7, r8, r9, ry]) rfl ?_
  exact ⟨none, 0, 0, rfl, Nat.le_refl _, Nat.zero_le _, rdr_nil _ _, (put10_bel HB1.out (by omega)).setCell (by simp only; omega) _⟩
def fdC (N : Nat) (off : Int) (pre : List SX) (W : World) : Prop :=
  At0 W (N + 2) [.int .i64 0, .int .i64 0, .int .i64 0, .int .i64 0, .int .i64 0, .int .i64 0, .int .i64 0, .bool false, .int .i64 0, .slice none 0 0] 36 ∧ Boxed W (N + 3) 28 (.int .i64 0) ∧ Boxed W (N + 1) 3 (.int .i64 off) ∧ ∀ b ∈ btsOf pre, b.last < off
theorem fdC_own {N : Nat} {off : Int} {pre : List SX} {W W' : World} {row : Option Nat} (h : fdC N off pre W) (hg : W.grownBy W' row) (hrow : ∀ r, row = some r → ∃ o : Obj, W.heap[r]? = some o ∧ o.isCells = false) : fdC N off pre W' := ⟨h.1.keptBy hg hrow, boxed_own2 h.2.1 hg hrow, boxed_own2 h.2.2.1 hg hrow, h.2.2.2⟩
def fdX (N : Nat) (b9 : Bt) (z9 : Int) (cd : Code) (W : World) : Prop :=
  cd = .ret ∧ z9 = 0 ∧ ∃ A1 n1 c1, At0 W (N + 2) [.int .i64 b9.base, .int .i64 b9.last, .int .i64 b9.frm, .int .i64 b9.epoch, .int .i64 b9.pid, .int .i64 b9.gen, .int .i64 b9.seq, .bool b9.txn, .int .i64 b9.ctl, .slice A1 n1 c1] 36 ∧ Boxed W (N + 3) 28 (.int .i64 0) ∧ LeadT W (fun _ => True) none (b9, A1, n1, c1)
theorem fdX_own {N : Nat} {b9 : Bt} {z9 : Int} {cd : Code} {W W' : World} {row : Option Nat} (h : fdX N b9 z9 cd W) (hg : W.grownBy W' row) (hrow : ∀ r, row = some r → ∃ o : Obj, W.heap[r]? = some o ∧ o.isCells = false) : fdX N b9 z9 cd W' := by
  obtain ⟨h1, h2, A1, n1, c1, h3, h4, h5⟩ := h
  exact ⟨h1, h2, A1, n1, c1, h3.keptBy hg hrow, boxed_own2 h4 hg hrow, LeadT.keptBy h5 hg hrow⟩
def fdA (N : Nat) (off : Int) (L2 : List Bt) (pre : List SX) (x : SX) (W1 : World) (Bx : Nat) (W : World) : Prop :=
  fdC N off pre W ∧ LeadT W (fun b => W1.heap.size ≤ b) none x.1 ∧ BoxT W Bx 36 x.1 ∧ W1.heap.size ≤ Bx ∧ (∃ rest, L2 = btsOf pre ++ x.1.1 :: rest) ∧ N + 4 ≤ W1.heap.size
theorem fdA_own {N Bx : Nat} {off : Int} {L2 : List Bt} {pre : List SX} {x : SX} {W1 W W' : World} {row : Option Nat} (h : fdA N off L2 pre x W1 Bx W) (hg : W.grownBy W' row) (hrow : ∀ r, row = some r → ∃ o : Obj, W.heap[r]? = some o ∧ o.isCells = false) : fdA N off L2 pre x W1 Bx W' := by
  obtain ⟨h1, h2, h3, h4⟩ := h
  exact ⟨fdC_own h1 hg hrow, LeadT.keptBy h2 hg hrow, h3.keptBy hg hrow, h4⟩
theorem mem_snoc {pre : List SX} {x : SX} {off : Int} (h : ∀ b ∈ btsOf pre, b.last < off) (hx : x.1.1.last < off) : ∀ b ∈ btsOf (pre ++ [x]), b.last < off := by
  intro b hb
  rw [btsOf_snoc] at hb
  rcases List.mem_append.1 hb with hb | hb
  · exact h b hb
  · obtain rfl : b = x.1.1 := by simpa using hb
    exact hx
set_option maxRecDepth 100000 in
set_option maxHeartbeats 8000000 in
theorem Find_in (A : Option Addr) (n c : Nat) (base : Int) (bs : List UInt8) (A2 : Option Addr) (n2 c2 : Nat) (l : List En) (off : Int) (hck : ckX ⟨base, bs⟩ l = 0) {br : Bt} {zr : Int} (hf : findX ⟨base, bs⟩ l off = (br, zr)) (w : World) (hr : Rd w w.heap.size A n bs) (hc : n ≤ c) (hr2 : RdE w w.heap.size A2 n2 l) (hc2 : n2 ≤ c2) (hn2 : n2 ≤ 1099511627776) (hI : I64 base) (ht : Tab w) :
    CallsIn Fence.wide 9 Tryz.prog 12 #[.agg #[.int .i64 base, .slice A n c], .slice A2 n2 c2, .int .i64 off] w (FB w br zr) := by
  have HCK := Lib.hid hck
  have HF9 := Lib.hid hf
  have hmx : Tryz.prog.follows .mixedOrders = true := by kernel_rfl
  obtain ⟨hrx, _, _⟩ := ck_sub hck
  obtain ⟨hris, hbs, hlen⟩ := allE_right hrx
  obtain ⟨L1, L2, hL, hfl, hlo⟩ := floor_split off hck
  rw [hL] at hris hbs
  simp only at hbs hlen
  have HCH := Lib.hid (fun (b : Bt) (hb : b ∈ L2) => ris_all hris b (List.mem_append_right _ hb))
  have HL := Lib.hid hL
  have HLO := Lib.hid hlo
  have HBS := Lib.hid hbs
  have hn : n ≤ 4096 := by have := hr.len; omega
  have HR := Lib.hid hr
  have HT := Lib.hid ht
  have HRE := Lib.hid hr2
  have HB4 := Lib.hid (show Below w.heap.size w ((((w.alloc (.cells #[.int .i64 base, .slice A n c] 24)).alloc (.cells #[.int .i64 off] 3)).alloc (.cells #[.int .i64 0, .int .i64 0, .int .i64 0, .int .i64 0, .int .i64 0, .int .i64 0, .int .i64 0, .bool false, .int .i64 0, .slice none 0 0] 36)).alloc (.cells #[.int .i64 0] 28)) from bel_alloc (bel_alloc (bel_alloc (bel_alloc (Below.refl _ _) _) _) _) _)
  have HRR := Lib.hid (rdUp hr HB4.out)
  have HEE := Lib.hid (rdeUp hr2 HB4.out)
  have HTT := Lib.hid (ht.bel HB4.out)
  have HBX := Lib.hid (show At0 ((((w.alloc (.cells #[.int .i64 base, .slice A n c] 24)).alloc (.cells #[.int .i64 off] 3)).alloc (.cells #[.int .i64 0, .int .i64 0, .int .i64 0, .int .i64 0, .int .i64 0, .int .i64 0, .int .i64 0, .bool false, .int .i64 0, .slice none 0 0] 36)).alloc (.cells #[.int .i64 0] 28)) (w.heap.size + 2) [.int .i64 0, .int .i64 0, .int .i64 0, .int .i64 0, .int .i64 0, .int .i64 0, .int .i64 0, .bool false, .int .i64 0, .slice none 0 0] 36 from by
    have h := At0.new ((w.alloc (.cells #[.int .i64 base, .slice A n c] 24)).alloc (.cells #[.int .i64 off] 3)) [.int .i64 0, .int .i64 0, .int .i64 0, .int .i64 0, .int .i64 0, .int .i64 0, .int .i64 0, .bool false, .int .i64 0, .slice none 0 0] 36
    simp only [World.size_alloc] at h
    exact h.alloc _)
  have HEX := Lib.hid (show Boxed ((((w.alloc (.cells #[.int .i64 base, .slice A n c] 24)).alloc (.cells #[.int .i64 off] 3)).alloc (.cells #[.int .i64 0, .int .i64 0, .int .i64 0, .int .i64 0, .int .i64 0, .int .i64 0, .int .i64 0, .bool false, .int .i64 0, .slice none 0 0] 36)).alloc (.cells #[.int .i64 0] 28)) (w.heap.size + 3) 28 (.int .i64 0) from by
    have h := Boxed.new (((w.alloc (.cells #[.int .i64 base, .slice A n c] 24)).alloc (.cells #[.int .i64 off] 3)).alloc (.cells #[.int .i64 0, .int .i64 0, .int .i64 0, .int .i64 0, .int .i64 0, .int .i64 0, .int .i64 0, .bool false, .int .i64 0, .slice none 0 0] 36)) 28 (.int .i64 0)
    simp only [World.size_alloc] at h
    exact h)
  have HOX := Lib.hid (show Boxed ((((w.alloc (.cells #[.int .i64 base, .slice A n c] 24)).alloc (.cells #[.int .i64 off] 3)).alloc (.cells #[.int .i64 0, .int .i64 0, .int .i64 0, .int .i64 0, .int .i64 0, .int .i64 0, .int .i64 0, .bool false, .int .i64 0, .slice none 0 0] 36)).alloc (.cells #[.int .i64 0] 28)) (w.heap.size + 1) 3 (.int .i64 off) from by
    have h := Boxed.new (w.alloc (.cells #[.int .i64 base, .slice A n c] 24)) 3 (.int .i64 off)
    simp only [World.size_alloc] at h
    exact (h.alloc _).alloc _)
  have HSX := Lib.hid (show At0 ((((w.alloc (.cells #[.int .i64 base, .slice A n c] 24)).alloc (.cells #[.int .i64 off] 3)).alloc (.cells #[.int .i64 0, .int .i64 0, .int .i64 0, .int .i64 0, .int .i64 0, .int .i64 0, .int .i64 0, .bool false, .int .i64 0, .slice none 0 0] 36)).alloc (.cells #[.int .i64 0] 28)) w.heap.size [.int .i64 base, .slice A n c] 24 from (((At0.new w [.int .i64 base, .slice A n c] 24).alloc _).alloc _).alloc _)
  clear hck hr hr2 ht hf hrx hris hL hlo hbs hlen
  refine callsIn_of_wp_marks Tryz.func12 rfl trivial ?_ rfl
  simp only [Tryz.ntmps12, List.size_toArray, List.length_cons, List.length_nil, Nat.reduceAdd, Nat.reduceSub, Array.replicate_succ, Array.replicate_zero, List.push_toArray, List.append_toArray, List.nil_append, List.cons_append]
  refine wpIn_wide.2 ?_
  go_wp2_with (go_at_call 10; (with_reducible refine (Check_is A n c base bs A2 n2 c2 l HCK.out _ HRR.out hc HEE.out hn2 hI HTT.out).mono ?_); rintro e w1 ⟨rfl, hb1⟩; have HR1 := Lib.hid (rdUp HRR.out hb1); have HE1 := Lib.hid (rdeUp HEE.out hb1); have HT1 := Lib.hid (HTT.out.bel hb1); have HB1 := Lib.hid (bel_trans HB4.out hb1); have HBX1 := Lib.hid (HBX.out.below hb1); have HEX1 := Lib.hid (boxed_below HEX.out hb1); have HOX1 := Lib.hid (boxed_below HOX.out hb1); have HSX1 := Lib.hid (HSX.out.below hb1); have hs1 := hb1.size; simp only [World.size_alloc] at hs1; have hl2 : w.heap.size + 2 < w1.heap.size := (by omega); have hl3 : w.heap.size + 3 < w1.heap.size := (by omega); clear hb1)
  have HD0 := Lib.hid (show w1.drew.cell? ⟨w.heap.size, 0, none⟩ = some (.int .i64 base) from HSX1.out.cell 0)
  have HD1 := Lib.hid (show w1.drew.cell? ⟨w.heap.size, 1, none⟩ = some (.slice A n c) from HSX1.out.cell 1)
  have HD2 := Lib.hid (show w1.drew.cell? ⟨w.heap.size + 1, 0, none⟩ = some (.int .i64 off) from HOX1.out.cell)
  have HED := Lib.hid (show RdE w1.drew w1.drew.heap.size A2 n2 l from HE1.out)
  obtain ⟨fl, hfx⟩ : ∃ fl, fl = floorX off 0 l := ⟨_, rfl⟩
  have HFX := Lib.hid hfx
  rw [← hfx] at hfl
  have HFL := Lib.hid hfl
  clear hfx hfl
  have HSR := Lib.hid (show (fun W9 : World => W9.cell? ⟨w.heap.size, 0, none⟩ = some (.int .i64 base) ∧ W9.cell? ⟨w.heap.size, 1, none⟩ = some (.slice A n c) ∧ W9.cell? ⟨w.heap.size + 1, 0, none⟩ = some (.int .i64 off)) w1.drew from ⟨HD0.out, HD1.out, HD2.out⟩)
  refine region_let (fun W9 : World => W9.cell? ⟨w.heap.size, 0, none⟩ = some (.int .i64 base) ∧ W9.cell? ⟨w.heap.size, 1, none⟩ = some (.slice A n c) ∧ W9.cell? ⟨w.heap.size + 1, 0, none⟩ = some (.int .i64 off)) 99 5 hmx rfl fun ops Q HOPS HQ => ?_
  have HREG := reg_of HOPS tb_Find4 rfl (by kernel_rfl) (by kernel_rfl) (by decide)
  refine sQx HOPS HREG 0 1 (fun w9 ⟨q0, q1, q2⟩ => by go_simp; first | done | with_reducible rfl) rfl HSR.out ?_
  dsimp only [List.set_cons_zero, List.set_cons_succ]
  refine sQx HOPS HREG 1 3 (fun w9 ⟨q0, q1, q2⟩ => by go_simp; first | done | with_reducible rfl) rfl HSR.out ?_
  dsimp only [List.set_cons_zero, List.set_cons_succ]
  refine sQx HOPS HREG 2 7 (fun w9 ⟨q0, q1, q2⟩ => by go_simp; first | done | with_reducible rfl) rfl HSR.out ?_
  dsimp only [List.set_cons_zero, List.set_cons_succ]
  refine stepC HOPS 3 15 (by decide) rfl (by kernel_rfl) (by kernel_rfl) ?_
  go_simp
  with_reducible refine (Floor_any A2 n2 c2 l off _ HED.out hc2 hn2).mono ?_
  rw [← HFX.out]
  rintro e w2 ⟨rfl, hb2⟩
  have HS2 := Lib.hid (show (fun W9 : World => W9.cell? ⟨w.heap.size, 0, none⟩ = some (.int .i64 base) ∧ W9.cell? ⟨w.heap.size, 1, none⟩ = some (.slice A n c) ∧ W9.cell? ⟨w.heap.size + 1, 0, none⟩ = some (.int .i64 off)) w2 from ⟨(hb2.cell (p := ⟨w.heap.size, 0, none⟩) (show w.heap.size < w1.heap.size by omega)).trans HD0.out, (hb2.cell (p := ⟨w.heap.size, 1, none⟩) (show w.heap.size < w1.heap.size by omega)).trans HD1.out, (hb2.cell (p := ⟨w.heap.size + 1, 0, none⟩) (show w.heap.size + 1 < w1.heap.size by omega)).trans HD2.out⟩)
  have hb2' : Below w1.heap.size w1 w2 := (Below.refl w1.heap.size w1).drew.trans hb2
  have HB2 := Lib.hid hb2'
  clear hb2 hb2'
  dsimp only
  refine ⟨HS2.out, ?_⟩
  try simp only [Act.put, List.setIfInBounds_toArray, List.set_cons_zero, List.set_cons_succ]
  refine stepC HOPS 4 31 (by decide) rfl (by kernel_rfl) (by kernel_rfl) ?_
  go_simp
  with_reducible refine (batches_any A n c base fl _).mono ?_
  rintro e w3 ⟨rfl, rfl⟩
  dsimp only
  refine ⟨⟨(World.cell?_alloc_lt _ _ _ (by simp; have := HB2.out.size; omega)).trans ((World.cell?_alloc_lt _ _ _ (by simp only; have := HB2.out.size; omega)).trans HS2.out.1), (World.cell?_alloc_lt _ _ _ (by simp; have := HB2.out.size; omega)).trans ((World.cell?_alloc_lt _ _ _ (by simp only; have := HB2.out.size; omega)).trans HS2.out.2.1), (World.cell?_alloc_lt _ _ _ (by simp; have := HB2.out.size; omega)).trans ((World.cell?_alloc_lt _ _ _ (by simp only; have := HB2.out.size; omega)).trans HS2.out.2.2)⟩, ?_⟩
  try simp only [Act.put, List.setIfInBounds_toArray, List.set_cons_zero, List.set_cons_succ]
  refine stepE HOPS (by kernel_rfl) (HQ.out _ _ ?_)
  clear HQ HREG HOPS
  clear Q ops
  skip
  go_wp2
  have hs2 := HB2.out.size
  generalize hw0 : (w2.alloc (.cells #[.int .i64 base, .slice A n c] 24)).alloc (.cells #[.int .i64 fl] 3) = W0
  have hsz : W0.heap.size = w2.heap.size + 2 := by rw [← hw0]; simp
  have hB0 : Below w2.heap.size w2 W0 := by rw [← hw0]; exact bel_alloc (bel_alloc (Below.refl _ _) _) _
  have hB12 : Below w1.heap.size w1 W0 := HB2.out.trans (hB0.mono hs2)
  have hBw : Below w.heap.size w W0 := HB1.out.trans (hB12.mono (by omega))
  have hC0 : fdC w.heap.size off [] W0 := ⟨HBX1.out.below hB12, boxed_below HEX1.out hB12, boxed_below HOX1.out hB12, by simp [btsOf]⟩
  have hS0 : W0.heap[w2.heap.size]? = some (.cells #[.int .i64 base, .slice A n c] 24 (0, 0)) := by
    rw [← hw0]
    exact (Below.heap_alloc _ _ _ (by simp)).trans (World.alloc_heap_new w2 (.cells #[.int .i64 base, .slice A n c] 24 (0, 0)))
  have hF0 : W0.heap[w2.heap.size + 1]? = some (.cells #[.int .i64 fl] 3 (0, 0)) := by
    rw [← hw0]
    have h := World.alloc_heap_new (w2.alloc (.cells #[.int .i64 base, .slice A n c] 24)) (.cells #[.int .i64 fl] 3 (0, 0))
    simp only [World.size_alloc] at h
    exact h
  clear hw0
  have hnt := HT.out.pos
  refine (wpIn_wide (n := 9)).1 ?_
  refine wpIn_rangeO (F := Fence.wide) rfl (by omega) (gf := 36) (lb := #[.pointer (some ⟨w2.heap.size + 1, 0, none⟩), .pointer (some ⟨w2.heap.size, 0, none⟩)]) rfl trivial (enters_of Tryz.func36 (by kernel_rfl) rfl)
    (batches_seq (9 - 1) (by omega) (w2.heap.size + 1) w2.heap.size w.heap.size A n c base L1 L2 HCH.out hc (by omega) W0 (by omega) (by omega) (by omega) (by rw [cell_of_row _ _ _ _ _ _ hF0, ← HFL.out]; rfl) (by rw [cell_of_row _ _ _ _ _ _ hS0]; rfl) (by rw [← HBS.out]; exact HR.out.below hBw (Nat.le_refl _)) (HT.out.bel hBw) hnt)
    (by simp only [IdxK]; omega) (fun k h => h.elim) (Below.refl _ _) (fun _ => rfl)
    (fun pre W => fdC w.heap.size off pre W ∧ Below w.heap.size w W) (fun cd _ W => fdX w.heap.size br zr cd W ∧ Below w.heap.size w W)
    (OwnFrom.and (Own.from (I := fun (pre : List SX) W => fdC w.heap.size off pre W) (fun s X Y row hs hg hrow => fdC_own hs hg hrow) _) (ownFrom_below (Nat.le_refl _) hBw.size))
    (fun cd => OwnFrom.and (Own.from (I := fun (_ : List SX) W => fdX w.heap.size br zr cd W) (fun s X Y row hs hg hrow => fdX_own hs hg hrow) _) (ownFrom_below (Nat.le_refl _) hBw.size)) ⟨hC0, hBw⟩
    (fun pre x W1 a' W => (∃ Bx, fdA w.heap.size off L2 pre x W1 Bx W ∧ a' = { tmps := #[.agg #[.int .i64 base, .slice A n c], .slice A2 n2 c2, .int .i64 off, .pointer (some ⟨w.heap.size, 0, none⟩), undef, .pointer (some ⟨w.heap.size + 1, 0, none⟩), .pointer (some ⟨w.heap.size + 1 + 1, 0, none⟩), .pointer (some ⟨w.heap.size + 1 + 1 + 1, 0, none⟩), .int .i64 0, undef, .pointer (some ⟨Bx, 0, none⟩), .agg #[.int .i64 base, .slice A n c], .slice A2 n2 c2, .int .i64 0, .int .i64 0, .bool false, undef, undef, .agg #[.int .i64 base, .slice A n c], .slice A2 n2 c2, .int .i64 off, .int .i64 fl, .func (.func 36) #[] #[.pointer (some ⟨w2.heap.size + 1, 0, none⟩), .pointer (some ⟨w2.heap.size, 0, none⟩)], .int .i64 (x.2 : Int), (encI x)[1]!, undef, undef, undef, undef, undef, undef], defers := [] }) ∧ Below w.heap.size w W)
    (fun pre x W1 a' X r r' h hr => by
      obtain ⟨⟨Bx, h1, h2⟩, h3⟩ := h
      exact ⟨⟨Bx, fdA_own h1 (grownBy_putObj' _ _ _) (fun k e => by cases e; exact ⟨_, hr, rfl⟩), h2⟩, (ownFrom_below (β := Unit) (B := W0.heap.size) (Nat.le_refl _) hBw.size).putObj (s := ()) _ h3 (by omega) hr rfl⟩)
    ?assign ?body ?done ?stop
  case assign =>
    rintro lp pre ⟨⟨⟨ba, la, fr, ep, pi, ge, se, tx, ct, rs⟩, A1, n1, c1⟩, kn⟩ W1 W G hs1 ⟨⟨hbx, hex, hox, hlt⟩, hB⟩ hst hq hG
    have hbel : Below W1.heap.size W1 W := ⟨hst.bel.os, hst.bel.tape, hst.bel.output, hst.bel.size, fun g hg => hst.same g hg id⟩
    dsimp only [encI]
    gi_wp2
    have hbel2 : Below W1.heap.size W1 (W.alloc (.cells #[.int .i64 ba, .int .i64 la, .int .i64 fr, .int .i64 ep, .int .i64 pi, .int .i64 ge, .int .i64 se, .bool tx, .int .i64 ct, .slice A1 n1 c1] 36)) := bel_alloc hbel _
    exact hG _ _ ((KeepsOthers.alloc _ _).from _) ((KeptQ.refl _ _ _).alloc _) ⟨⟨W.heap.size, ⟨⟨hbx.below hbel2, boxed_below hex hbel2, boxed_below hox hbel2, hlt⟩, (lead_new (x := ((⟨ba, la, fr, ep, pi, ge, se, tx, ct, rs⟩, A1, n1, c1), kn)) hq.2.2.2.2 hq.2.2.2.1 hq.2.2.1).below (bel_alloc (Below.refl _ _) _), BoxT.new W _ (⟨ba, la, fr, ep, pi, ge, se, tx, ct, rs⟩, A1, n1, c1), hbel.size, hq.1, by omega⟩, rfl⟩, (hB.trans (hbel.mono (by omega))).alloc (by have := hbel.size; omega) _⟩
  case body =>
    rintro lp pre ⟨⟨⟨ba, la, fr, ep, pi, ge, se, tx, ct, rs⟩, A1, n1, c1⟩, kn⟩ W1 a' W ⟨⟨Bx, ⟨⟨hbx, hex, hox, hlt⟩, hLd, hT, hBx, hnx, hW1⟩, rfl⟩, hB⟩
    obtain ⟨x0, x1, x2, x3, x4, x5, x6, x7, x8, x9⟩ := hT.box
    have HLD := Lib.hid hLd
    have HNX := Lib.hid hnx
    have HLT := Lib.hid hlt
    have HBR := Lib.hid hbx
    have HER := Lib.hid hex
    have HOR := Lib.hid hox
    have HBB := Lib.hid hB
    have hBl := hT.lt
    have y1 := hox.cell
    clear hLd hnx hlt hT hB
    by_cases hle : off ≤ la
    · have z0 : W.cell? ⟨w.heap.size + 1 + 1, 0, none⟩ = some (.int .i64 0) := HBR.out.cell 0
      have z1 : W.cell? ⟨w.heap.size + 1 + 1, 1, none⟩ = some (.int .i64 0) := HBR.out.cell 1
      have z2 : W.cell? ⟨w.heap.size + 1 + 1, 2, none⟩ = some (.int .i64 0) := HBR.out.cell 2
      have z3 : W.cell? ⟨w.heap.size + 1 + 1, 3, none⟩ = some (.int .i64 0) := HBR.out.cell 3
      have z4 : W.cell? ⟨w.heap.size + 1 + 1, 4, none⟩ = some (.int .i64 0) := HBR.out.cell 4
      have z5 : W.cell? ⟨w.heap.size + 1 + 1, 5, none⟩ = some (.int .i64 0) := HBR.out.cell 5
      have z6 : W.cell? ⟨w.heap.size + 1 + 1, 6, none⟩ = some (.int .i64 0) := HBR.out.cell 6
      have z7 : W.cell? ⟨w.heap.size + 1 + 1, 7, none⟩ = some (.bool false) := HBR.out.cell 7
      have z8 : W.cell? ⟨w.heap.size + 1 + 1, 8, none⟩ = some (.int .i64 0) := HBR.out.cell 8
      have z9 : W.cell? ⟨w.heap.size + 1 + 1, 9, none⟩ = some (.slice none 0 0) := HBR.out.cell 9
      have f0 : W.frozen? ⟨w.heap.size + 1 + 1, 0, none⟩ = false := HBR.out.frozen 0
      have f1 : W.frozen? ⟨w.heap.size + 1 + 1, 1, none⟩ = false := HBR.out.frozen 1
      have f2 : W.frozen? ⟨w.heap.size + 1 + 1, 2, none⟩ = false := HBR.out.frozen 2
      have f3 : W.frozen? ⟨w.heap.size + 1 + 1, 3, none⟩ = false := HBR.out.frozen 3
      have f4 : W.frozen? ⟨w.heap.size + 1 + 1, 4, none⟩ = false := HBR.out.frozen 4
      have f5 : W.frozen? ⟨w.heap.size + 1 + 1, 5, none⟩ = false := HBR.out.frozen 5
      have f6 : W.frozen? ⟨w.heap.size + 1 + 1, 6, none⟩ = false := HBR.out.frozen 6
      have f7 : W.frozen? ⟨w.heap.size + 1 + 1, 7, none⟩ = false := HBR.out.frozen 7
      have f8 : W.frozen? ⟨w.heap.size + 1 + 1, 8, none⟩ = false := HBR.out.frozen 8
      have f9 : W.frozen? ⟨w.heap.size + 1 + 1, 9, none⟩ = false := HBR.out.frozen 9
      have y0 : W.cell? ⟨w.heap.size + 1 + 1 + 1, 0, none⟩ = some (.int .i64 0) := HER.out.cell
      have g0 : W.frozen? ⟨w.heap.size + 1 + 1 + 1, 0, none⟩ = false := HER.out.frozen
      have m0 : ¬ Bx = w.heap.size + 1 + 1 := by omega
      have HFS := Lib.hid (show findX ⟨base, bs⟩ l off = (⟨ba, la, fr, ep, pi, ge, se, tx, ct, rs⟩, 0) by
        obtain ⟨rest, hr⟩ := HNX.out
        refine findX_some (L1 := L1 ++ btsOf pre) (rest := rest) HCK.out (by rw [HL.out, hr, List.append_assoc]) (fun b hb => ?_) hle
        rcases List.mem_append.1 hb with hb | hb
        · exact HLO.out b hb
        · exact HLT.out b hb)
      clear hbx hex hox
      gi_wp2
      have hee := HF9.out.symm.trans HFS.out
      injection hee with e1 e2
      refine ⟨(put10_oth.trans (KeepsOthers.setCell _ _ _)).from _, ?_, (put10_bel HBB.out (by omega)).setCell (by simp only; omega) _⟩
      rw [e1, e2]
      refine ⟨rfl, rfl, A1, n1, c1, (at0_put10 HBR.out).set (p := ⟨w.heap.size + 1 + 1 + 1, 0, none⟩) (by simp only; omega) _, Boxed.set _ (HER.out.kept put10_gb (fun e => by injection e with e; omega)), ?_⟩
      have hk := LeadT.keep HLD.out (w' := (put10 W (w.heap.size + 1 + 1) (.int .i64 ba) (.int .i64 la) (.int .i64 fr) (.int .i64 ep) (.int .i64 pi) (.int .i64 ge) (.int .i64 se) (.bool tx) (.int .i64 ct) (.slice A1 n1 c1)).setCell ⟨w.heap.size + 1 + 1 + 1, 0, none⟩ (.int .i64 0)) (by simp) (fun b o hb hP _ => (World.cell?_of_block ((gb_set2 _ _ _ _).block b (by simpa using hb) (fun e => by injection e with e; omega))).trans (World.cell?_of_block (put10_gb.block b hb (fun e => by injection e with e; omega))))
      exact ⟨hk.1, hk.2.1, hk.2.2.1, hk.2.2.2.1, fun a ha hn => ⟨trivial, (hk.2.2.2.2 a ha hn).2⟩⟩
    · have HSN := Lib.hid (mem_snoc (x := ((⟨ba, la, fr, ep, pi, ge, se, tx, ct, rs⟩, A1, n1, c1), kn)) HLT.out (by show la < off; omega))
      clear hbx hex hox
      gi_wp2
      exact ⟨(KeepsOthers.refl _).from _, KeptQ.refl _ _ _, ⟨HBR.out, HER.out, HOR.out, HSN.out⟩, HBB.out⟩
  case done =>
    rintro D ys W hD hys ⟨⟨hbx, hex, hox, hlt⟩, hB⟩ hK
    have hfn := findX_none (off := off) HCK.out (by
      rw [HL.out]
      intro b hb
      rcases List.mem_append.1 hb with hb | hb
      · exact HLO.out b hb
      · exact hlt b (by rw [hys]; exact hb))
    rw [HF9.out] at hfn
    injection hfn with hb9 hz9
    have HBR := Lib.hid hbx
    have HER := Lib.hid hex
    have HBB := Lib.hid hB
    have HK := Lib.hid hK
    have z0 : W.cell? ⟨w.heap.size + 1 + 1, 0, none⟩ = some (.int .i64 0) := HBR.out.cell 0
    have z1 : W.cell? ⟨w.heap.size + 1 + 1, 1, none⟩ = some (.int .i64 0) := HBR.out.cell 1
    have z2 : W.cell? ⟨w.heap.size + 1 + 1, 2, none⟩ = some (.int .i64 0) := HBR.out.cell 2
    have z3 : W.cell? ⟨w.heap.size + 1 + 1, 3, none⟩ = some (.int .i64 0) := HBR.out.cell 3
    have z4 : W.cell? ⟨w.heap.size + 1 + 1, 4, none⟩ = some (.int .i64 0) := HBR.out.cell 4
    have z5 : W.cell? ⟨w.heap.size + 1 + 1, 5, none⟩ = some (.int .i64 0) := HBR.out.cell 5
    have z6 : W.cell? ⟨w.heap.size + 1 + 1, 6, none⟩ = some (.int .i64 0) := HBR.out.cell 6
    have z7 : W.cell? ⟨w.heap.size + 1 + 1, 7, none⟩ = some (.bool false) := HBR.out.cell 7
    have z8 : W.cell? ⟨w.heap.size + 1 + 1, 8, none⟩ = some (.int .i64 0) := HBR.out.cell 8
    have z9 : W.cell? ⟨w.heap.size + 1 + 1, 9, none⟩ = some (.slice none 0 0) := HBR.out.cell 9
    have f0 : W.frozen? ⟨w.heap.size + 1 + 1, 0, none⟩ = false := HBR.out.frozen 0
    have f1 : W.frozen? ⟨w.heap.size + 1 + 1, 1, none⟩ = false := HBR.out.frozen 1
    have f2 : W.frozen? ⟨w.heap.size + 1 + 1, 2, none⟩ = false := HBR.out.frozen 2
    have f3 : W.frozen? ⟨w.heap.size + 1 + 1, 3, none⟩ = false := HBR.out.frozen 3
    have f4 : W.frozen? ⟨w.heap.size + 1 + 1, 4, none⟩ = false := HBR.out.frozen 4
    have f5 : W.frozen? ⟨w.heap.size + 1 + 1, 5, none⟩ = false := HBR.out.frozen 5
    have f6 : W.frozen? ⟨w.heap.size + 1 + 1, 6, none⟩ = false := HBR.out.frozen 6
    have f7 : W.frozen? ⟨w.heap.size + 1 + 1, 7, none⟩ = false := HBR.out.frozen 7
    have f8 : W.frozen? ⟨w.heap.size + 1 + 1, 8, none⟩ = false := HBR.out.frozen 8
    have f9 : W.frozen? ⟨w.heap.size + 1 + 1, 9, none⟩ = false := HBR.out.frozen 9
    have y0 : W.cell? ⟨w.heap.size + 1 + 1 + 1, 0, none⟩ = some (.int .i64 0) := HER.out.cell
    have g0 : W.frozen? ⟨w.heap.size + 1 + 1 + 1, 0, none⟩ = false := HER.out.frozen
    clear hbx hex hox hlt hB hK hys
    go_wp2
    have hK' := ((put10_oth (W := W) (g := w.heap.size + 1 + 1) (v0 := .int .i64 0) (v1 := .int .i64 0) (v2 := .int .i64 0) (v3 := .int .i64 0) (v4 := .int .i64 0) (v5 := .int .i64 0) (v6 := .int .i64 0) (v7 := .bool false) (v8 := .int .i64 0) (v9 := .slice none 0 0)).trans (KeepsOthers.setCell _ ⟨w.heap.size + 1 + 1 + 1, 0, none⟩ (.int .i64 90))).same D _ HK.out rfl
    have hrow : ∀ r, some D = some r → ∃ o : Obj, ((put10 W (w.heap.size + 1 + 1) (.int .i64 0) (.int .i64 0) (.int .i64 0) (.int .i64 0) (.int .i64 0) (.int .i64 0) (.int .i64 0) (.bool false) (.int .i64 0) (.slice none 0 0)).setCell ⟨w.heap.size + 1 + 1 + 1, 0, none⟩ (.int .i64 90)).heap[r]? = some o ∧ o.isCells = false := fun r e => by cases e; exact ⟨_, hK', rfl⟩
    have hgr := grownBy_putObj' ((put10 W (w.heap.size + 1 + 1) (.int .i64 0) (.int .i64 0) (.int .i64 0) (.int .i64 0) (.int .i64 0) (.int .i64 0) (.int .i64 0) (.bool false) (.int .i64 0) (.slice none 0 0)).setCell ⟨w.heap.size + 1 + 1 + 1, 0, none⟩ (.int .i64 90)) D (.deferred none)
    have hat := ((at0_put10 (v0 := .int .i64 0) (v1 := .int .i64 0) (v2 := .int .i64 0) (v3 := .int .i64 0) (v4 := .int .i64 0) (v5 := .int .i64 0) (v6 := .int .i64 0) (v7 := .bool false) (v8 := .int .i64 0) (v9 := .slice none 0 0) HBR.out).set (p := ⟨w.heap.size + 1 + 1 + 1, 0, none⟩) (by simp only; omega) (.int .i64 90)).keptBy hgr hrow
    have r0 := hat.cell 0
    have r1 := hat.cell 1
    have r2 := hat.cell 2
    have r3 := hat.cell 3
    have r4 := hat.cell 4
    have r5 := hat.cell 5
    have r6 := hat.cell 6
    have r7 := hat.cell 7
    have r8 := hat.cell 8
    have r9 := hat.cell 9
    have ry := (boxed_own2 (Boxed.set (.int .i64 90) (HER.out.kept put10_gb (fun e => by injection e with e; omega) : Boxed (put10 W (w.heap.size + 1 + 1) (.int .i64 0) (.int .i64 0) (.int .i64 0) (.int .i64 0) (.int .i64 0) (.int .i64 0) (.int .i64 0) (.bool false) (.int .i64 0) (.slice none 0 0)) (w.heap.size + 1 + 1 + 1) 28 (.int .i64 0))) hgr hrow).cell
    simp only [List.getElem?_cons_zero, List.getElem?_cons_succ] at r0 r1 r2 r3 r4 r5 r6 r7 r8 r9
    refine ⟨by simp, .inl ⟨_, _, rfl, run_takeDeferred hK', ?_⟩⟩
    refine ⟨.tuple #[.agg #[.int .i64 0, .int .i64 0, .int .i64 0, .int .i64 0, .int .i64 0, .int .i64 0, .int .i64 0, .bool false, .int .i64 0, .slice none 0 0], .int .i64 90], by simp [results, Tryz.results12, go_sem, r0, r1, r2, r3, r4, r5, r6, r7, r8, r9, ry], ?_⟩
    rw [hb9, hz9]
    exact ⟨none, 0, 0, rfl, Nat.le_refl _, Nat.zero_le _, rdr_nil _ _, ((put10_bel HBB.out (by omega)).setCell (by simp only; omega) _).trans (belowK_b (w := w) (Nat.le_refl _) _ D _ _ (by omega) hK' rfl rfl)⟩
  case stop =>
    rintro D cd pre W hD ⟨⟨rfl, rfl, A1, n1, c1, hbx, hex, hLd⟩, hB⟩ hK
    have HBB := Lib.hid hB
    have HK := Lib.hid hK
    have HBR := Lib.hid hbx
    have HER := Lib.hid hex
    have HLD := Lib.hid hLd
    clear hB hK hbx hex hLd
    gi_wp2
    have hrow : ∀ r, some D = some r → ∃ o : Obj, W.heap[r]? = some o ∧ o.isCells = false := fun r e => by cases e; exact ⟨_, HK.out, rfl⟩
    have hgr := grownBy_putObj' W D (.deferred none)
    have hat := HBR.out.keptBy hgr hrow
    have r0 := hat.cell 0
    have r1 := hat.cell 1
    have r2 := hat.cell 2
    have r3 := hat.cell 3
    have r4 := hat.cell 4
    have r5 := hat.cell 5
    have r6 := hat.cell 6
    have r7 := hat.cell 7
    have r8 := hat.cell 8
    have r9 := hat.cell 9
    have ry := (boxed_own2 HER.out hgr hrow).cell
    have hld := LeadT.keptBy HLD.out hgr hrow
    simp only [List.getElem?_cons_zero, List.getElem?_cons_succ] at r0 r1 r2 r3 r4 r5 r6 r7 r8 r9
    refine ⟨by simp, .inl ⟨_, _, rfl, run_takeDeferred HK.out, ?_⟩⟩
    refine ⟨.tuple #[.agg #[.int .i64 br.base, .int .i64 br.last, .int .i64 br.frm, .int .i64 br.epoch, .int .i64 br.pid, .int .i64 br.gen, .int .i64 br.seq, .bool br.txn, .int .i64 br.ctl, .slice A1 n1 c1], .int .i64 0], by simp [results, Tryz.results12, go_sem, r0, r1, r2, r3, r4, r5, r6, r7, r8, r9, ry], ?_⟩
    exact ⟨A1, n1, c1, rfl, hld.2.1, hld.2.2.1, hld.1, HBB.out.trans (belowK_b (w := w) (Nat.le_refl _) _ D _ _ (by omega) HK.out rfl rfl)⟩
end Go.Proofs.YtbnkfljkojhkoaaGreatDoor.Idx
