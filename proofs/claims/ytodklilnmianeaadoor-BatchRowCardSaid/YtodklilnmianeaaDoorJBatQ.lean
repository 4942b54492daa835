/- Joined: BatRowM, BatRowW. -/
import Derived.Test.YtodklilnmianeaaDoorJBatA
import Derived.Test.YtodklilnmianeaaDoorJBatK
import Derived.Test.YtodklilnmianeaaDoorJBatC
import Derived.Test.YtodklilnmianeaaDoorJOct
/- Batches put one after another: the mathematics. -/
namespace Go.Proofs.YtodklilnmianeaaDoor.Bat
open Go.RowKit Go.Proofs.YtodklilnmianeaaDoor.Oct Go.Proofs.YtodklilnmianeaaDoor.Rec Go.Proofs.YtodklilnmianeaaDoor.Crc Go.Proofs.YtodklilnmianeaaDoor.Lay

/-- those that may be put -/
def mayR (bs : List Bt) : List Bt := bs.filter fun b => decide (chB b = 0)
/-- their bytes -/
def byR (bs : List Bt) : List UInt8 := bs.flatMap byB
theorem byR_nil : byR [] = [] := rfl
theorem byR_snoc (bs : List Bt) (b : Bt) : byR (bs ++ [b]) = byR bs ++ byB b := by unfold byR; rw [List.flatMap_append]; simp
theorem mayR_ok {bs : List Bt} : ∀ b ∈ mayR bs, chB b = 0 := fun _ hb => of_decide_eq_true (List.mem_filter.1 hb).2
theorem mayR_step {bs : List Bt} {k : Nat} {b : Bt} (h : bs[k]? = some b) : mayR (bs.take (k + 1)) = if chB b = 0 then mayR (bs.take k) ++ [b] else mayR (bs.take k) := by
  have e : bs.take (k + 1) = bs.take k ++ [b] := by rw [List.take_add_one, h]; rfl
  unfold mayR
  rw [e, List.filter_append]
  by_cases hc : chB b = 0
  · rw [if_pos hc, List.filter_cons_of_pos (by simpa using hc), List.filter_nil]
  · rw [if_neg hc, List.filter_cons_of_neg (by simpa using hc), List.filter_nil, List.append_nil]
theorem byR_len {bs : List Bt} (h : ∀ b ∈ bs, chB b = 0) : (byR bs).length ≤ bs.length * 2048 := by
  induction bs with
  | nil => simp [byR]
  | cons b l ih =>
    have h1 := (chB_form (h b (by simp))).2
    have h2 := ih fun x hx => h x (by simp [hx])
    unfold byR at h2 ⊢
    rw [List.flatMap_cons, List.length_append, List.length_cons, Nat.succ_mul]
    omega
theorem byR_split {bs : List Bt} {k : Nat} {b : Bt} (h : bs[k]? = some b) : byR bs = byR (bs.take k) ++ byB b ++ byR (bs.drop (k + 1)) ∧ byR (bs.take (k + 1)) = byR (bs.take k) ++ byB b := by
  have e : bs.take (k + 1) = bs.take k ++ [b] := by rw [List.take_add_one, h]; rfl
  have e2 : byR (bs.take (k + 1)) = byR (bs.take k) ++ byB b := by rw [e, byR_snoc]
  refine ⟨?_, e2⟩
  rw [← e2]
  conv => lhs; rw [← List.take_append_drop (k + 1) bs]
  unfold byR
  rw [List.flatMap_append]
/-- the one that stands there is got, and ends where the next begins -/
theorem row_at {bs : List Bt} (hok : ∀ b ∈ bs, chB b = 0) {k : Nat} {b : Bt} (h : bs[k]? = some b) :
    grB (byR bs) ((byR (bs.take k)).length : Int) = (b, ((byR (bs.take (k + 1))).length : Int), 0) ∧ (byR (bs.take k)).length < (byR (bs.take (k + 1))).length := by
  obtain ⟨h1, h2⟩ := byR_split h
  have h3 := grB_at (hok b (List.mem_of_getElem? h)) (byR (bs.take k)) (byR (bs.drop (k + 1)))
  rw [← h1] at h3
  have h4 : 17 ≤ (byB b).length := by have := body_pos b; rw [byB_length]; omega
  rw [h3, h2, List.length_append, Int.natCast_add]
  exact ⟨rfl, by omega⟩
theorem row_end (bs : List Bt) : grB (byR bs) ((byR bs).length : Int) = (nilB, 0, 10) := grB_end _
end Go.Proofs.YtodklilnmianeaaDoor.Bat

/- A row of batches of the call's own: the words for the walk of BatchRow. -/
namespace Go.Proofs.YtodklilnmianeaaDoor.Bat
open Go.RowKit Go.Proofs.YtodklilnmianeaaDoor.Oct Go.Proofs.YtodklilnmianeaaDoor.Rec Go.Proofs.YtodklilnmianeaaDoor.Crc Go.Proofs.YtodklilnmianeaaDoor.Lay Go.Proofs.YtodklilnmianeaaDoor.RowF

/-- a batch's cells, its records' slice beside it -/
def batC (x : Bt × Option Addr × Nat × Nat) : List Value := [.int .i64 x.1.base, .int .i64 x.1.last, .int .i64 x.1.frm, .int .i64 x.1.epoch, .int .i64 x.1.pid, .int .i64 x.1.gen, .int .i64 x.1.seq, .bool x.1.txn, .int .i64 x.1.ctl, .slice x.2.1 x.2.2.1 x.2.2.2]
theorem batS : Shape batC 10 := ⟨fun _ => rfl, fun x u hu => by
  simp only [batC, List.mem_cons, List.not_mem_nil, or_false] at hu
  rcases hu with rfl | rfl | rfl | rfl | rfl | rfl | rfl | rfl | rfl | rfl <;> rfl, by decide⟩
theorem batInfo : Info Tryd.prog 24 10 96 := by
  have h : (Tryd.prog.info? 24).map (fun i => (i.zero, i.size, i.bytes)) = some (some (.agg #[.int .i64 0, .int .i64 0, .int .i64 0, .int .i64 0, .int .i64 0, .int .i64 0, .int .i64 0, .bool false, .int .i64 0, .slice none 0 0]), 10, 96) := by kernel_rfl
  obtain ⟨i, hi, hz, hs, hb⟩ := info_parts h
  exact ⟨i, _, hi, hz, hs, hb, rfl⟩
/-- a batch whose records lie where the law's argument lies, and that may be put -/
def OKX (w : World) (x : Bt × Option Addr × Nat × Nat) : Prop := x.2.2.1 ≤ x.2.2.2 ∧ x.2.2.2 ≤ reach ∧ RdL w w.heap.size x.2.1 x.2.2.1 x.1.recs ∧ Fits x.1 ∧ x.1.recs.length ≤ 100 ∧ chB x.1 = 0
/-- the first loop's bound words -/
def rwRel (e8 eB : TypeId) (bs : List Bt) (n : Nat) (w : World) (va vw i : Value) (wr : World) : Prop :=
  ∃ (k : Nat) (A1 : Option Addr) (n1 c1 : Nat) (A2 : Option Addr) (c2 : Nat) (l : List (Bt × Option Addr × Nat × Nat)), i = .int .i64 (k : Int) ∧ k ≤ n ∧ va = .slice A1 n1 c1 ∧ vw = .slice A2 l.length c2 ∧ l.map (·.1) = mayR (bs.take k) ∧ l.length ≤ k ∧ n1 ≤ k * 2048 ∧
    OwnB wr e8 w.heap.size va n1 (byR (mayR (bs.take k))) ∧ OwnF batC 10 wr eB w.heap.size vw l.length l ∧ Apart va vw ∧ (∀ x ∈ l, OKX w x) ∧ Below w.heap.size w wr
set_option maxRecDepth 100000 in
theorem rwRel_start (e8 eB : TypeId) (bs : List Bt) (n : Nat) (w : World) : rwRel e8 eB bs n w (.slice none 0 0) (.slice none 0 0) (.int .i64 0) w :=
  ⟨0, none, 0, 0, none, 0, [], rfl, Nat.zero_le _, rfl, rfl, rfl, Nat.zero_le _, Nat.zero_le _, (by rw [show mayR (bs.take 0) = [] from rfl, byR_nil]; exact OwnB.nil), OwnF.nil, Apart.nil _ _, by simp, Below.refl _ _⟩
theorem rwRel_skip {e8 eB : TypeId} {bs : List Bt} {n k n1 c1 c2 : Nat} {A1 A2 : Option Addr} {l : List (Bt × Option Addr × Nat × Nat)} {w wr w2 : World} {b : Bt} (hb : bs[k]? = some b) (hk : k < n) (hno : chB b ≠ 0)
    (hl : l.map (·.1) = mayR (bs.take k)) (hlk : l.length ≤ k) (hn1 : n1 ≤ k * 2048) (ho : OwnB wr e8 w.heap.size (.slice A1 n1 c1) n1 (byR (mayR (bs.take k)))) (hf : OwnF batC 10 wr eB w.heap.size (.slice A2 l.length c2) l.length l)
    (ha : Apart (.slice A1 n1 c1) (.slice A2 l.length c2)) (hx : ∀ x ∈ l, OKX w x) (hw : Below w.heap.size w wr) (h2 : Below wr.heap.size wr w2) {i : Value} (hi : i = .int .i64 ((k + 1 : Nat) : Int)) : rwRel e8 eB bs n w (.slice A1 n1 c1) (.slice A2 l.length c2) i w2 := by
  have e : mayR (bs.take (k + 1)) = mayR (bs.take k) := by rw [mayR_step hb, if_neg hno]
  refine ⟨k + 1, A1, n1, c1, A2, c2, l, hi, hk, rfl, rfl, by rw [e]; exact hl, by omega, Nat.le_trans hn1 (Nat.mul_le_mul_right _ (Nat.le_succ k)), by rw [e]; exact ho.below h2, hf.below h2, ha, hx, bel_trans hw h2⟩
theorem rwRel_more {e8 eB : TypeId} {bs : List Bt} {n k n1 n2 c1 c2 : Nat} {A1 A2 : Option Addr} {l : List (Bt × Option Addr × Nat × Nat)} {x : Bt × Option Addr × Nat × Nat} {w w2 : World} {b : Bt} (hb : bs[k]? = some b) (hk : k < n) (hyes : chB b = 0) (hxb : x.1 = b) (hX : OKX w x)
    (hl : l.map (·.1) = mayR (bs.take k)) (hlk : l.length ≤ k) (hn1 : n1 ≤ k * 2048) (hn2 : n2 ≤ 2048) (ho : OwnB w2 e8 w.heap.size (.slice A1 (n1 + n2) c1) (n1 + n2) (byR (mayR (bs.take k)) ++ byB b)) (hf : OwnF batC 10 w2 eB w.heap.size (.slice A2 (l.length + 1) c2) (l.length + 1) (l ++ [x]))
    (ha : Apart (.slice A1 (n1 + n2) c1) (.slice A2 (l.length + 1) c2)) (hx : ∀ x ∈ l, OKX w x) (hw : Below w.heap.size w w2) {i : Value} (hi : i = .int .i64 ((k + 1 : Nat) : Int)) : rwRel e8 eB bs n w (.slice A1 (n1 + n2) c1) (.slice A2 (l.length + 1) c2) i w2 := by
  have e : mayR (bs.take (k + 1)) = mayR (bs.take k) ++ [b] := by rw [mayR_step hb, if_pos hyes]
  have hlen : (l ++ [x]).length = l.length + 1 := by simp
  refine ⟨k + 1, A1, n1 + n2, c1, A2, c2, l ++ [x], hi, hk, rfl, by rw [hlen], by rw [e, List.map_append, hl, ← hxb]; rfl, by rw [hlen]; omega, by omega, by rw [e, byR_snoc]; exact ho, by rw [hlen]; exact hf, ha, fun y hy => ?_, hw⟩
  rcases List.mem_append.1 hy with h | h
  · exact hx y h
  · obtain rfl : y = x := by simpa using h
    exact hX
end Go.Proofs.YtodklilnmianeaaDoor.Bat
