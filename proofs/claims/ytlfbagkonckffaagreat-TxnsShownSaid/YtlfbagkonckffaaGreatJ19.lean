/- Joined: TxnD8. -/
import Derived.Test.YtlfbagkonckffaaGreatJ17
import Derived.Test.YtlfbagkonckffaaGreatJ18
import Derived.Lib.Overlaps
import Derived.Laws.Externs
/- The landed txns: slices.Delete and slices.Insert of what is open. -/
namespace Go.Proofs.YtlfbagkonckffaaGreat.Txn
open Go.RowKit Go.Shelf Oct Rec RowF Lay InR RngQ Bat RowL
open Epo (At0 AtO belA cel2)
open Sqs (at0_grown at0_set9 grown_set9 grown_bel grown_then)

attribute [local go_sem] Oper.semAt_some

theorem ownF_take {α : Type} {f : α → List Value} {size : Nat} {w : World} {e : TypeId} {B g n cap m : Nat} {l : List α} (hs : Shape f size) (h : OwnF f size w e B (.slice (some ⟨g, 0, none⟩) n cap) n l) (hm : m ≤ n) : OwnF f size w e B (.slice (some ⟨g, 0, none⟩) m cap) m (l.take m) := by
  have hl := h.len hs
  rcases h.2 with ⟨h', _⟩ | ⟨g', cap', cur, h', hb, hg, hnc, hcm, hcs, ht⟩
  · simp at h'
  · refine ⟨by rw [hs.flat, List.length_take, Nat.min_eq_left (by omega)], .inr ⟨g, cap, cur, rfl, ?_⟩⟩
    simp only [Value.slice.injEq, Option.some.injEq, Addr.mk.injEq, and_true, true_and] at h'
    obtain ⟨rfl, rfl⟩ := h'
    refine ⟨hb, hg, by omega, hcm, hcs, ?_⟩
    have e1 : (l.take m).flatMap f = (l.flatMap f).take (m * size) := by
      have e2 : l.flatMap f = (l.take m).flatMap f ++ (l.drop m).flatMap f := by rw [← List.flatMap_append, List.take_append_drop]
      rw [e2, List.take_left' (by rw [hs.flat, List.length_take, Nat.min_eq_left (by omega)])]
    rw [e1, ← ht, List.take_take, Nat.min_eq_left (Nat.mul_le_mul_right _ hm)]
theorem run_clear1 {α : Type} {f : α → List Value} {size : Nat} {P : Program} {w : World} {t e : TypeId} {B g n cap c' : Nat} {l : List α} (h : OwnF f size w e B (.slice (some ⟨g, 0, none⟩) n cap) n l) (ht : P.underlying t = some (.slice e)) {z : Value} (hz : ∀ w, (zeroValue e).run P w = .ok z w) {vs : List Value} (hv : (Builtin.zeroCells z.cells 1).toList = vs) (hl : vs.length = size) (h1 : ∀ v ∈ vs, v.oneCell' = true) (hn : n + 1 ≤ cap) (ty : TypeId) :
    ∃ w', (Builtin.clear_ #[t] ty #[.slice (some ⟨g, n * size, none⟩) 1 c']).run P w = .ok (.tuple #[]) w' ∧ OwnF f size w' e B (.slice (some ⟨g, 0, none⟩) n cap) n l ∧ w.grownBy w' (some g) := by
  rcases h.2 with ⟨h', _⟩ | ⟨g', cap', cur, h', hb, hg, hnc, hcm, hcs, htk⟩
  · simp at h'
  · simp only [Value.slice.injEq, Option.some.injEq, Addr.mk.injEq, and_true, true_and] at h'
    obtain ⟨rfl, rfl⟩ := h'
    have hfit : n * size + 0 + vs.length ≤ cur.size := by
      rw [hl, hcs, Nat.add_zero, ← Nat.succ_mul]
      exact Nat.mul_le_mul_right _ hn
    have hst := run_storeCells_at P g (n * size) e vs 0 cur w hg hfit h1
    refine ⟨w.setRow g (cur.toList.take (n * size + 0) ++ vs ++ cur.toList.drop (n * size + 0 + vs.length)).toArray, ?_, ⟨h.1, .inr ⟨g, cap, _, rfl, hb, setRow_heap w g cur _ e _ hg, hnc, hcm, ?_, ?_⟩⟩, ⟨rfl, rfl, rfl, by simp, fun k _ hk => setRow_other w g k _ (fun e => hk (by simp [e]))⟩⟩
    · simp [Builtin.clear_, run_underlying ht, hz, hv, hst]
    · simp only [List.size_toArray, List.length_append, List.length_take, List.length_drop, Array.length_toList]
      omega
    · rw [List.append_assoc, Nat.add_zero, List.take_left' (by rw [List.length_take, Array.length_toList]; omega)]
      exact htk
theorem grown_trans9 {a b c : World} {r : Option Nat} (h : a.grownBy b r) (k : b.grownBy c r) : a.grownBy c r := ⟨k.os.trans h.os, k.tape.trans h.tape, k.output.trans h.output, Nat.le_trans h.size k.size, fun i hi hr => (k.block i (Nat.lt_of_lt_of_le hi h.size) hr).trans (h.block i hi hr)⟩
set_option maxRecDepth 100000 in
set_option maxHeartbeats 8000000 in
theorem delete_is (g n cap B i : Nat) (l : List Opn) (w : World) (ho : OwnOp w B (.slice (some ⟨g, 0, none⟩) n cap) n l) (hi : i < n) (hn9 : n ≤ 1000000) :
    Calls Tryz.prog 43 #[.slice (some ⟨g, 0, none⟩) n cap, .int .i64 (i : Int), .int .i64 ((i : Int) + 1)] w fun e w' => e = .returned (.slice (some ⟨g, 0, none⟩) (n - 1) cap) ∧ OwnOp w' B (.slice (some ⟨g, 0, none⟩) (n - 1) cap) (n - 1) (l.take i ++ l.drop (i + 1)) ∧ w.grownBy w' (some g) := by
  have hcp := OwnF.cap ho
  have hlen := ho.len opS
  have hrd := (OwnF.rd opS ho).cells opS
  have h0 : w.drew.ownsRow B 51 2 (.slice (some ⟨g, 0, none⟩) i cap) i ((l.take i).flatMap opC) := ownF_take opS ho (by omega)
  have hfl : l.flatMap opC = (l.take (i + 1)).flatMap opC ++ (l.drop (i + 1)).flatMap opC := by rw [← List.flatMap_append, List.take_append_drop]
  have ht1 : ((l.take (i + 1)).flatMap opC).length = (i + 1) * 2 := by rw [opS.flat, List.length_take, Nat.min_eq_left (by omega)]
  have hnews : ∀ j u, ((l.drop (i + 1)).flatMap opC)[j]? = some u → w.drew.cell? ((⟨g, (i + 1) * 2, none⟩ : Addr).add j) = some u := fun j u hu => by
    have h1 := hrd ((i + 1) * 2 + j) u (by rw [hfl, List.getElem?_append_right (by omega), ht1, Nat.add_sub_cancel_left]; exact hu)
    rw [Addr.add_lit] at h1 ⊢
    rw [show (i + 1) * 2 + j = 0 + ((i + 1) * 2 + j) by omega]
    exact h1
  obtain ⟨ti, z, hti, hz, hsz, hby, hzs⟩ := opInfo
  have hrun : ∀ ad ty c', (n ≠ i + 1 → ad = (⟨g, (i + 1) * 2, none⟩ : Addr)) → ∃ w', (Builtin.append_ #[22, 22] ty #[.slice (some ⟨g, 0, none⟩) i cap, .slice (some ad) (n - (i + 1)) c']).run Tryz.prog w.drew = .ok (.slice (some ⟨g, 0, none⟩) (n - 1) cap) w' ∧ OwnOp w' B (.slice (some ⟨g, 0, none⟩) (n - 1) cap) (n - 1) (l.take i ++ l.drop (i + 1)) ∧ w.grownBy w' (some g) := fun ad ty c' had => by
    obtain ⟨w', h1, h2, h3⟩ := run_append_fits (P := Tryz.prog) w.drew B 22 ty 51 ti 2 Tryz.underlying22 hti hsz g i cap ((l.take i).flatMap opC) h0 ad (n - (i + 1)) c' ((l.drop (i + 1)).flatMap opC) (by rw [opS.flat, List.length_drop, hlen]) (fun j u hu => by
      by_cases h9 : n = i + 1
      · rw [List.drop_of_length_le (by omega)] at hu; simp at hu
      · rw [had h9]; exact hnews j u hu) (opS.ones _) (by omega)
    rw [show i + (n - (i + 1)) = n - 1 by omega] at h1 h2
    rw [← List.flatMap_append] at h2
    exact ⟨w', h1, h2, ⟨h3.os, h3.tape, h3.output, h3.size, h3.block⟩⟩
  clear h0 hfl ht1 hnews hrd hti hz hsz hby hzs hlen ho
  have hw1 : IntKind.i64.wrap ((i : Int) + 1) = (i : Int) + 1 := IntWalk.i64_in _ (by omega)
  have hb1 : (0 : Int) ≤ (i : Int) := by omega
  have hb2 : (i : Int) ≤ (i : Int) + 1 := by omega
  have hb3 : (i : Int) + 1 ≤ (n : Int) := by omega
  have hb4 : (i : Int) ≤ (n : Int) := by omega
  have hb5 : (0 : Int) ≤ (i : Int) + 1 := by omega
  have hb6 : ¬ (i : Int) = (i : Int) + 1 := by omega
  have hb7 : (i : Int) ≤ (cap : Int) := by omega
  have htn : ((i : Int) + 1).toNat = i + 1 := by omega
  have hzv : ∀ w, (zeroValue 51).run Tryz.prog w = .ok (.agg #[.int .i64 0, .int .i64 0]) w := fun w => by
    obtain ⟨i, z, hi, hz, _, _, _⟩ := opInfo
    have h9 : (Tryz.prog.info? 51).map (fun i => i.zero) = some (some (.agg #[.int .i64 0, .int .i64 0])) := by kernel_rfl
    rw [hi] at h9
    simp only [Option.map_some, Option.some.injEq] at h9
    simp [zeroValue, typeInfo, hi, h9]
  by_cases hca : cap = i + 1
  · subst hca
    obtain rfl : n = i + 1 := by omega
    obtain ⟨w5, hr5, ho5, hg5⟩ := hrun ⟨g, 0, none⟩ 22 0 (fun h => absurd rfl h)
    go_enter Tryz.func43, Tryz.ntmps43
    go_upto_region 5 with fail
    have hr6 : (Builtin.append_ #[22, 22] 22 #[.slice (some ⟨g, 0, none⟩) i (i + 1), .slice (some ⟨g, 0, none⟩) 0 0]).run Tryz.prog w.drew = .ok (.slice (some ⟨g, 0, none⟩) i (i + 1)) w5 := by simpa using hr5
    have HO5 := Lib.hid (show OwnOp w5 B (.slice (some ⟨g, 0, none⟩) i (i + 1)) i (l.take i ++ l.drop (i + 1)) from ho5)
    have HG5 := Lib.hid hg5
    clear hrun ho5 hg5 hr5
    go_region_law (go_loud (refine step_append rfl _ _ 22 rfl (by simp [Act.eval, Act.put]) (by simp [Act.eval, Act.put]) hr6 ?_))
    have hcl : ∀ ty c', ∃ w', (Builtin.clear_ #[22] ty #[.slice (some ⟨g, i * 2, none⟩) 1 c']).run Tryz.prog w5 = .ok (.tuple #[]) w' ∧ OwnOp w' B (.slice (some ⟨g, 0, none⟩) i (i + 1)) i (l.take i ++ l.drop (i + 1)) ∧ w5.grownBy w' (some g) := fun ty c' =>
      run_clear1 HO5.out Tryz.underlying22 hzv (vs := [.int .i64 0, .int .i64 0]) (by kernel_rfl) rfl (by simp [Value.oneCell']) (Nat.le_refl _) ty
    obtain ⟨w6, hr7, ho6, hg6⟩ := hcl 0 1
    have HO6 := Lib.hid ho6
    have HG6 := Lib.hid hg6
    clear hzv hr6 hcl ho6 hg6
    go_wp2
    go_ret
    exact ⟨rfl, HO6.out, grown_trans9 HG5.out HG6.out⟩
  · go_enter Tryz.func43, Tryz.ntmps43
    go_upto_region 5 with fail
    obtain ⟨w5, hr5, ho5, hg5⟩ := hrun ⟨g, (i + 1) * 2, none⟩ 22 (cap - (i + 1)) (fun _ => rfl)
    have HO5 := Lib.hid ho5
    have HG5 := Lib.hid hg5
    clear hrun ho5 hg5
    go_region_law (refine step_append rfl _ _ 22 rfl (by simp [Act.eval, Act.put]) (by simp [Act.eval, Act.put]) hr5 ?_)
    obtain ⟨m, hm⟩ : ∃ m, n - 1 = m := ⟨_, rfl⟩
    have HM := Lib.hid (show n = m + 1 by omega)
    rw [hm] at HO5 hr5
    simp only [hm]
    have hcl : ∀ ty c', ∃ w', (Builtin.clear_ #[22] ty #[.slice (some ⟨g, m * 2, none⟩) 1 c']).run Tryz.prog w5 = .ok (.tuple #[]) w' ∧ OwnOp w' B (.slice (some ⟨g, 0, none⟩) m cap) m (l.take i ++ l.drop (i + 1)) ∧ w5.grownBy w' (some g) := fun ty c' =>
      run_clear1 HO5.out Tryz.underlying22 hzv (vs := [.int .i64 0, .int .i64 0]) (by kernel_rfl) rfl (by simp [Value.oneCell']) (by have := HM.out; omega) ty
    obtain ⟨w6, hr6, ho6, hg6⟩ := hcl 0 (cap - m)
    have hr7 : (Builtin.clear_ #[22] 0 #[.slice (some ⟨g, m * 2, none⟩) (n - m) (cap - m)]).run Tryz.prog w5 = .ok (.tuple #[]) w6 := by rw [show n - m = 1 by have := HM.out; omega]; exact hr6
    have HO6 := Lib.hid ho6
    have HG6 := Lib.hid hg6
    have hcm : ¬ cap = m := by have := HM.out; omega
    have hmn : (m : Int) ≤ (n : Int) := by have := HM.out; omega
    clear hm hzv hr5 hcl hr6 ho6 hg6
    go_wp2
    go_ret
    rw [show n - 1 = m by have := HM.out; omega]
    exact ⟨rfl, HO6.out, grown_trans9 HG5.out HG6.out⟩
def Stays (w : World) (v u : Value) : Prop := u.ownBlock = v.ownBlock ∨ ∃ g, u.ownBlock = some g ∧ w.heap.size ≤ g
def InsO (w : World) (B : Nat) (v : Value) (n : Nat) (l : List Opn) (e : Ending) (w' : World) : Prop :=
  ∃ A' c', e = .returned (.slice A' (n + 1) c') ∧ OwnOp w' B (.slice A' (n + 1) c') (n + 1) l ∧ Stays w v (.slice A' (n + 1) c') ∧ w.grownBy w' v.ownBlock
set_option maxRecDepth 100000 in
set_option maxHeartbeats 8000000 in
theorem insert_end (A : Option Addr) (n c B : Nat) (hs : List Opn) (y : Opn) (vb : Nat) (w : World) (ho : OwnOp w B (.slice A n c) n hs) (hB : B ≤ w.heap.size) (hn : n ≤ 1000000) (hy : RdF opC 2 w (vb + 1) (some ⟨vb, 0, none⟩) 1 [y]) :
    Calls Tryz.prog 45 #[.slice A n c, .int .i64 (n : Int), .slice (some ⟨vb, 0, none⟩) 1 1] w (InsO w B (.slice A n c) n (hs.take n ++ y :: hs.drop n)) := by
  have hlen := ho.len opS
  have hcp := ho.cap
  obtain ⟨A5, c5, w5, hrun, ho5, hg5, hv5⟩ := run_appFG (P := Tryz.prog) w opS 16 B 22 22 51 Tryz.underlying22 opInfo (.slice A n c) n hs ho (vb + 1) (some ⟨vb, 0, none⟩) 1 1 [y] hy (by omega) (by omega) hB
  have HO5 := Lib.hid (show OwnOp w5 B (.slice A5 (n + 1) c5) (n + 1) (hs.take n ++ y :: hs.drop n) from by rw [List.take_of_length_le (by omega), List.drop_of_length_le (by omega)]; exact ho5)
  have HG5 := Lib.hid hg5
  have HS5 := Lib.hid (show Stays w (.slice A n c) (.slice A5 (n + 1) c5) from hv5.elim .inl (fun h => .inr ⟨_, h, Nat.le_refl _⟩))
  have HOO := Lib.hid ho
  obtain ⟨m, hm⟩ : ∃ m, n + 1 = m := ⟨_, rfl⟩
  rw [hm] at hrun
  have hcn : n ≤ c := hcp
  clear ho hy ho5 hg5 hv5 hlen hcp
  unfold InsO
  rw [hm] at HO5 HS5 ⊢
  have hAn : A = none → n = 0 ∧ c = 0 := fun h => by
    subst h
    rcases HOO.out.2 with ⟨h1, h2⟩ | ⟨g, cap, cur, h1, _⟩
    · injection h1 with _ _ h3; exact ⟨h2, h3⟩
    · simp at h1
  cases A with
  | none =>
    obtain ⟨rfl, rfl⟩ := hAn rfl
    clear hAn
    go_enter Tryz.func45, Tryz.ntmps45
    go_wp2_with (at_builtin; refine wpList_app9 rfl _ _ 22 _ rfl rfl rfl hrun ?_)
    go_ret
    exact ⟨A5, c5, rfl, HO5.out, HS5.out, HG5.out⟩
  | some a =>
    clear hAn
    by_cases hcn2 : c = n
    · subst hcn2
      go_enter Tryz.func45, Tryz.ntmps45
      go_wp2_with (at_builtin; refine wpList_app9 rfl _ _ 22 _ rfl rfl rfl hrun ?_)
      go_ret
      exact ⟨A5, c5, rfl, HO5.out, HS5.out, HG5.out⟩
    · go_enter Tryz.func45, Tryz.ntmps45
      go_wp2_with (at_builtin; refine wpList_app9 rfl _ _ 22 _ rfl rfl rfl hrun ?_)
      go_ret
      exact ⟨A5, c5, rfl, HO5.out, HS5.out, HG5.out⟩
theorem ovl_no {w : World} {g o vb n c lb cb B cap : Nat} {hs : List Opn} (ho : OwnOp w B (.slice (some ⟨g, 0, none⟩) n cap) n hs) (hn : 0 < cap) (hv : At0 w vb [.int .i64 0, .int .i64 0] 51 ∨ ∃ a b, At0 w vb [a, b] 51) (hne : vb ≠ g) :
    (callFunc 74 #[.slice (some ⟨vb, 0, none⟩) 1 c, .slice (some ⟨g, o, none⟩) lb cb]).run Tryz.prog w = .ok (.value (.bool false)) w := by
  obtain ⟨x, y, hat⟩ : ∃ a b, At0 w vb [a, b] 51 := hv.elim (fun h => ⟨_, _, h⟩) id
  have hsz : ∀ w, (Go.sizeOf 51).run Tryz.prog w = .ok 2 w := fun w => by
    obtain ⟨i, z, hi, _, hs, _, _⟩ := opInfo
    simp [sizeOf, typeInfo, hi, hs]
  rcases ho.2 with ⟨h', _⟩ | ⟨g', cap', cur, h', _, hg, _, _, hcs, _⟩
  · simp at h'
  simp only [Value.slice.injEq, Option.some.injEq, Addr.mk.injEq, and_true, true_and] at h'
  obtain ⟨rfl, rfl⟩ := h'
  have hsa : w.shape? vb = some (51, 2) := by
    unfold World.shape?
    rw [show w.heap[vb]? = some (.cells [x, y].toArray 51 (0, 0)) from hat]
    rfl
  have hsb : w.shape? g = some (51, cap * 2) := by
    unfold World.shape?
    rw [hg]
    simp [hcs]
  rw [run_callFunc_extern Tryz.func74 (by kernel_rfl) (by kernel_rfl) (by kernel_rfl) (e := Extern.SlicesOverlaps.overlaps #[22, 22] #[4]) (by kernel_rfl),
    Lib.run_overlaps_apart w 22 4 51 Tryz.underlying22 2 hsz ⟨vb, 0, none⟩ ⟨g, o, none⟩ 1 c lb cb hne 51 51 2 (cap * 2) hsa hsb (by omega) (hat.frozen 0) (hat.frozen 2)]
  rfl
set_option maxRecDepth 100000 in
set_option maxHeartbeats 8000000 in
theorem insert_shift (g n c i B : Nat) (hs : List Opn) (y : Opn) (vb : Nat) (w : World) (ho : OwnOp w B (.slice (some ⟨g, 0, none⟩) n c) n hs) (hi : i < n) (hroom : n + 1 ≤ c) (hn : n ≤ 1000000) (hy : At0 w vb (opC y) 51) (hne : vb ≠ g) :
    Calls Tryz.prog 45 #[.slice (some ⟨g, 0, none⟩) n c, .int .i64 (i : Int), .slice (some ⟨vb, 0, none⟩) 1 1] w (InsO w B (.slice (some ⟨g, 0, none⟩) n c) n (hs.take i ++ y :: hs.drop i)) := by
  have hov : ∀ lb cb, (callFunc 74 #[.slice (some ⟨vb, 0, none⟩) 1 1, .slice (some ⟨g, (i + 1) * 2, none⟩) lb cb]).run Tryz.prog w = .ok (.value (.bool false)) w := fun lb cb => ovl_no ho (by omega) (.inr ⟨_, _, hy⟩) hne
  obtain ⟨w1, w2, r1, r2, ho2, hg2⟩ := ins_shift (P := Tryz.prog) (w := w.drew) (y := y) opS ho hi hroom hne (fun j v hj => by show w.cell? _ = _; rw [hy.cell]; exact hj) Tryz.underlying22 opInfo
  have HO2 := Lib.hid ho2
  have HG2 := Lib.hid (show w.grownBy w2 (some g) from ⟨hg2.os, hg2.tape, hg2.output, hg2.size, hg2.block⟩)
  have hz2 : ¬ (i : Int) = (n : Int) := by omega
  have hz3 : ¬ (c : Int) < (n : Int) + 1 := by omega
  have hw1 : IntKind.i64.wrap ((i : Int) + 1) = (i : Int) + 1 := IntWalk.i64_in _ (by omega)
  have hw2 : IntKind.i64.wrap ((n : Int) + 1) = (n : Int) + 1 := IntWalk.i64_in _ (by omega)
  have hb1 : (0 : Int) ≤ (i : Int) + 1 := by omega
  have hb0 : (0 : Int) ≤ (n : Int) + 1 := by omega
  have htn : ((i : Int) + 1).toNat = i + 1 := by omega
  have htm : ((n : Int) + 1).toNat = n + 1 := by omega
  have hb2 : ¬ c = i + 1 := by omega
  have hb4 : ¬ c = i := by omega
  have hb5 : (n : Int) + 1 ≤ (c : Int) := by omega
  have hb6 : (i : Int) ≤ (n : Int) := by omega
  have hb7 : (i : Int) ≤ (n : Int) + 1 := by omega
  clear ho hy ho2 hg2
  go_enter Tryz.func45, Tryz.ntmps45
  go_wp2_with (simp only [hov])
  go_region_law (refine step_copy9 rfl _ _ 22 rfl (by simp [Act.eval, Act.put]) (by simp [Act.eval, Act.put]) (r1 3 (c - (i + 1)) (c - i)) ?_)
  go_wp2_with (at_builtin; refine wpList_copy9 rfl _ _ 22 rfl rfl rfl (r2 _ _ _) ?_)
  go_ret
  exact ⟨_, c, rfl, HO2.out, .inl rfl, HG2.out⟩
set_option maxRecDepth 100000 in
set_option maxHeartbeats 8000000 in
theorem insert_grow (g n c i B : Nat) (hs : List Opn) (y : Opn) (vb : Nat) (w : World) (ho : OwnOp w B (.slice (some ⟨g, 0, none⟩) n c) n hs) (hB : B ≤ w.heap.size) (hi : i < n) (hroom : c < n + 1) (hn : n ≤ 1000000) (hy : At0 w vb (opC y) 51) :
    Calls Tryz.prog 45 #[.slice (some ⟨g, 0, none⟩) n c, .int .i64 (i : Int), .slice (some ⟨vb, 0, none⟩) 1 1] w (InsO w B (.slice (some ⟨g, 0, none⟩) n c) n (hs.take i ++ y :: hs.drop i)) := by
  have hcp := ho.cap
  obtain ⟨G, w1, w2, w3, r0, r1, r2, ho3, hb3, hG1, hG2⟩ := ins_grow (P := Tryz.prog) (y := y) opS ho hi hroom (bytes := 16) (by omega) (by omega) hy.lt (fun j v hj => by rw [hy.cell]; exact hj) Tryz.underlying22 Tryz.underlying3 opInfo hB
  have HO3 := Lib.hid ho3
  have HB3 := Lib.hid hb3
  obtain ⟨N, hN⟩ : ∃ N, w.heap.size = N := ⟨_, rfl⟩
  rw [hN] at HO3 r0 r1 r2
  have HN := Lib.hid hN
  obtain ⟨q, hq⟩ : ∃ q, n + 1 - i = q := ⟨_, rfl⟩
  have hkk : (n : Int) + 1 - (i : Int) = (q : Int) := by omega
  have hwk : IntKind.i64.wrap (q : Int) = (q : Int) := IntWalk.i64_in _ (by omega)
  rw [hq] at r0 r1
  have hz2 : ¬ (i : Int) = (n : Int) := by omega
  have hz3 : (c : Int) < (n : Int) + 1 := by omega
  have hw1 : IntKind.i64.wrap ((i : Int) + 1) = (i : Int) + 1 := IntWalk.i64_in _ (by omega)
  have hw2 : IntKind.i64.wrap ((n : Int) + 1) = (n : Int) + 1 := IntWalk.i64_in _ (by omega)
  have hb1 : (0 : Int) ≤ (i : Int) + 1 := by omega
  have htn : ((i : Int) + 1).toNat = i + 1 := by omega
  have hb4 : ¬ c = i := by omega
  have hb6 : (i : Int) ≤ (n : Int) := by omega
  have hb7 : (i : Int) ≤ (c : Int) := by omega
  have hg4 : ¬ G = i := by omega
  have hg5 : ¬ G = i + 1 := by omega
  clear ho hy ho3 hb3 hN hB hcp
  go_enter Tryz.func45, Tryz.ntmps45
  go_wp2_with (at_builtin; refine wpList_app9 rfl _ _ _ _ rfl rfl rfl (r0 _) ?_)
  go_region_law (refine step_copy9 rfl _ _ 22 rfl (by simp [Act.eval, Act.put]) (by simp [Act.eval, Act.put]) (r2 3 (G - (i + 1)) (c - i)) ?_)
  go_wp2
  go_ret
  exact ⟨_, G, rfl, HO3.out, .inr ⟨N, rfl, Nat.le_of_eq HN.out⟩, grown_bel HB3.out⟩
theorem insert_is (A : Option Addr) (n c i B : Nat) (hs : List Opn) (y : Opn) (vb : Nat) (w : World) (ho : OwnOp w B (.slice A n c) n hs) (hB : B ≤ w.heap.size) (hi : i ≤ n) (hn : n ≤ 1000000) (hy : At0 w vb (opC y) 51) (hne : ∀ g, A = some ⟨g, 0, none⟩ → vb ≠ g) :
    Calls Tryz.prog 45 #[.slice A n c, .int .i64 (i : Int), .slice (some ⟨vb, 0, none⟩) 1 1] w (InsO w B (.slice A n c) n (hs.take i ++ y :: hs.drop i)) := by
  by_cases hin : i = n
  · subst hin
    exact insert_end A i c B hs y vb w ho hB hn ⟨rfl, fun k x hx => by
      match k, hx with
      | 0, hx =>
        obtain rfl : y = x := by simpa using hx
        exact ⟨vb, 0, rfl, Nat.lt_succ_self _, fun j v hj => by rw [show 0 + 0 * 2 + j = j by omega, hy.cell]; exact hj⟩⟩
  · obtain ⟨g, rfl, _, _⟩ := OwnF.form ho (by omega)
    by_cases hr : n + 1 ≤ c
    · exact insert_shift g n c i B hs y vb w ho (by omega) hr hn hy (hne g rfl)
    · exact insert_grow g n c i B hs y vb w ho hB (by omega) (by omega) hn hy
end Go.Proofs.YtlfbagkonckffaaGreat.Txn
