/- Joined: SqsDA, SqsR3, SqsR4. -/
import Derived.Test.YtllebgadhhgckaaDoorJ18
import Derived.Deep.RegionLaw
import Derived.Laws.OwnMore
import Derived.Test.YtllebgadhhgckaaDoorJ15
import Derived.Deep.DeepCutAuto
/- The landed seqs: slices.Delete. -/
namespace Go.Proofs.YtllebgadhhgckaaDoor.Sqs
open Go.RowKit Oct Rec RowF RowK RowO Lay Bat InR
open Epo (At0 AtO belA)

theorem grown_trans9 {a b c : World} {r : Option Nat} (h : a.grownBy b r) (k : b.grownBy c r) : a.grownBy c r := ⟨k.os.trans h.os, k.tape.trans h.tape, k.output.trans h.output, Nat.le_trans h.size k.size, fun i hi hr => (k.block i (Nat.lt_of_lt_of_le hi h.size) hr).trans (h.block i hi hr)⟩
theorem ownF_take {α : Type} {f : α → List Value} {size : Nat} {w : World} {e : TypeId} {B g n cap m : Nat} {l : List α} (hs : Shape f size) (h : OwnF f size w e B (.slice (some ⟨g, 0, none⟩) n cap) n l) (hm : m ≤ n) : OwnF f size w e B (.slice (some ⟨g, 0, none⟩) m cap) m (l.take m) := by
  have hl := h.len hs
  rcases h.2 with ⟨h', _⟩ | ⟨g', cap', cur, h', hb, hg, hnc, hcm, hcs, ht⟩
  · simp at h'
  · refine ⟨by rw [hs.flat, List.length_take, Nat.min_eq_left (by omega)], .inr ⟨g, cap, cur, rfl, ?_⟩⟩
    simp only [Value.slice.injEq, Option.some.injEq, Addr.mk.injEq, and_true, true_and] at h'
    obtain ⟨rfl, rfl⟩ := h'
    refine ⟨hb, hg, by omega, hcm, hcs, ?_⟩
    have e1 : (l.take m).flatMap f = (l.flatMap f).take (m * size) := by
      have e2 : l.flatMap f = (l.take m).flatMap f ++ (l.drop m).flatMap f := by rw [← List.flatMap_append, List.take_append_drop]
      rw [e2, List.take_left' (by rw [hs.flat, List.length_take, Nat.min_eq_left (by omega)])]
    rw [e1, ← ht, List.take_take, Nat.min_eq_left (Nat.mul_le_mul_right _ hm)]
theorem run_clear1 {α : Type} {f : α → List Value} {size : Nat} {P : Program} {w : World} {t e : TypeId} {B g n cap c' : Nat} {l : List α} (h : OwnF f size w e B (.slice (some ⟨g, 0, none⟩) n cap) n l) (ht : P.underlying t = some (.slice e)) {z : Value} (hz : ∀ w, (zeroValue e).run P w = .ok z w) {vs : List Value} (hv : (Builtin.zeroCells z.cells 1).toList = vs) (hl : vs.length = size) (h1 : ∀ v ∈ vs, v.oneCell' = true) (hn : n + 1 ≤ cap) (ty : TypeId) :
    ∃ w', (Builtin.clear_ #[t] ty #[.slice (some ⟨g, n * size, none⟩) 1 c']).run P w = .ok (.tuple #[]) w' ∧ OwnF f size w' e B (.slice (some ⟨g, 0, none⟩) n cap) n l ∧ w.grownBy w' (some g) := by
  rcases h.2 with ⟨h', _⟩ | ⟨g', cap', cur, h', hb, hg, hnc, hcm, hcs, htk⟩
  · simp at h'
  · simp only [Value.slice.injEq, Option.some.injEq, Addr.mk.injEq, and_true, true_and] at h'
    obtain ⟨rfl, rfl⟩ := h'
    have hfit : n * size + 0 + vs.length ≤ cur.size := by
      rw [hl, hcs, Nat.add_zero, ← Nat.succ_mul]
      exact Nat.mul_le_mul_right _ hn
    have hst := run_storeCells_at P g (n * size) e vs 0 cur w hg hfit h1
    refine ⟨w.setRow g (cur.toList.take (n * size + 0) ++ vs ++ cur.toList.drop (n * size + 0 + vs.length)).toArray, ?_, ⟨h.1, .inr ⟨g, cap, _, rfl, hb, setRow_heap w g cur _ e _ hg, hnc, hcm, ?_, ?_⟩⟩, ⟨rfl, rfl, rfl, by simp, fun k _ hk => setRow_other w g k _ (fun e => hk (by simp [e]))⟩⟩
    · simp [Builtin.clear_, run_underlying ht, hz, hv, hst]
    · simp only [List.size_toArray, List.length_append, List.length_take, List.length_drop, Array.length_toList]
      omega
    · rw [List.append_assoc, Nat.add_zero, List.take_left' (by rw [List.length_take, Array.length_toList]; omega)]
      exact htk
set_option maxRecDepth 100000 in
set_option maxHeartbeats 8000000 in
theorem delete1_is (g n cap B : Nat) (l : List Dd) (w : World) (ho : OwnD w B (.slice (some ⟨g, 0, none⟩) n cap) n l) (hn : 2 ≤ n) (hn9 : n ≤ 1000) :
    Calls Tryd.prog 72 #[.slice (some ⟨g, 0, none⟩) n cap, .int .i64 0, .int .i64 1] w fun e w' => e = .returned (.slice (some ⟨g, 0, none⟩) (n - 1) cap) ∧ OwnD w' B (.slice (some ⟨g, 0, none⟩) (n - 1) cap) (n - 1) (l.drop 1) ∧ w.grownBy w' (some g) := by
  have hcp := OwnF.cap ho
  have hlen := ho.len didS
  have hrd := (OwnF.rd didS ho).cells didS
  have h0 : w.drew.ownsRow B 58 3 (.slice (some ⟨g, 0, none⟩) 0 cap) 0 [] := ownF_take didS ho (Nat.zero_le _)
  have hfl : l.flatMap didC = (l.take 1).flatMap didC ++ (l.drop 1).flatMap didC := by rw [← List.flatMap_append, List.take_append_drop]
  have ht1 : ((l.take 1).flatMap didC).length = 3 := by rw [didS.flat, List.length_take, Nat.min_eq_left (by omega)]
  have hnews : ∀ j u, ((l.drop 1).flatMap didC)[j]? = some u → w.drew.cell? ((⟨g, 3, none⟩ : Addr).add j) = some u := fun j u hu => by
    have h1 := hrd (3 + j) u (by rw [hfl, List.getElem?_append_right (by omega), ht1, Nat.add_sub_cancel_left]; exact hu)
    rw [Addr.add_lit] at h1 ⊢
    rw [show 3 + j = 0 + (3 + j) by omega]
    exact h1
  obtain ⟨i, z, hi, hz, hsz, hby, hzs⟩ := didInfo
  have hrun : ∀ ty c', ∃ w', (Builtin.append_ #[53, 53] ty #[.slice (some ⟨g, 0, none⟩) 0 cap, .slice (some ⟨g, 3, none⟩) (n - 1) c']).run Tryd.prog w.drew = .ok (.slice (some ⟨g, 0, none⟩) (n - 1) cap) w' ∧ OwnD w' B (.slice (some ⟨g, 0, none⟩) (n - 1) cap) (n - 1) (l.drop 1) ∧ w.grownBy w' (some g) := fun ty c' => by
    obtain ⟨w', h1, h2, h3⟩ := run_append_fits (P := Tryd.prog) w.drew B 53 ty 58 i 3 Tryd.underlying53 hi hsz g 0 cap [] h0 ⟨g, 3, none⟩ (n - 1) c' ((l.drop 1).flatMap didC) (by rw [didS.flat, List.length_drop, hlen]) hnews (didS.ones _) (by omega)
    rw [Nat.zero_add] at h1 h2
    exact ⟨w', h1, h2, ⟨h3.os, h3.tape, h3.output, h3.size, h3.block⟩⟩
  clear h0 hfl ht1 hnews hrd hi hz hsz hby hzs hlen ho
  have hn1 : ¬ cap = 1 := by omega
  have hn2 : (1 : Int) ≤ (n : Int) := by omega
  go_enter Tryd.func72, Tryd.ntmps72
  go_upto_region 5 with fail
  obtain ⟨w5, hr5, ho5, hg5⟩ := hrun 53 (cap - 1)
  have HO5 := Lib.hid ho5
  have HG5 := Lib.hid hg5
  clear hrun ho5 hg5
  go_region_law (refine step_append rfl _ _ 53 rfl (by simp [Act.eval, Act.put]) (by simp [Act.eval, Act.put]) hr5 ?_)
  obtain ⟨m, hm⟩ : ∃ m, n - 1 = m := ⟨_, rfl⟩
  have HM := Lib.hid (show n = m + 1 by omega)
  rw [hm] at HO5 hr5
  simp only [hm]
  have hzv : ∀ w, (zeroValue 58).run Tryd.prog w = .ok (.agg #[.int .i64 0, .int .i64 0, .int .i64 0]) w := fun w => by
    obtain ⟨i, z, hi, hz, _, _, _⟩ := didInfo
    have h9 : (Tryd.prog.info? 58).map (fun i => i.zero) = some (some (.agg #[.int .i64 0, .int .i64 0, .int .i64 0])) := by kernel_rfl
    rw [hi] at h9
    simp only [Option.map_some, Option.some.injEq] at h9
    simp [zeroValue, typeInfo, hi, h9]
  have hcl : ∀ ty c', ∃ w', (Builtin.clear_ #[53] ty #[.slice (some ⟨g, m * 3, none⟩) 1 c']).run Tryd.prog w5 = .ok (.tuple #[]) w' ∧ OwnD w' B (.slice (some ⟨g, 0, none⟩) m cap) m (l.drop 1) ∧ w5.grownBy w' (some g) := fun ty c' =>
    run_clear1 HO5.out Tryd.underlying53 hzv (vs := [.int .i64 0, .int .i64 0, .int .i64 0]) (by kernel_rfl) rfl (by simp [Value.oneCell']) (by have := HM.out; omega) ty
  obtain ⟨w6, hr6, ho6, hg6⟩ := hcl 0 (cap - m)
  have hr7 : (Builtin.clear_ #[53] 0 #[.slice (some ⟨g, m * 3, none⟩) (n - m) (cap - m)]).run Tryd.prog w5 = .ok (.tuple #[]) w6 := by rw [show n - m = 1 by have := HM.out; omega]; exact hr6
  have HO6 := Lib.hid ho6
  have HG6 := Lib.hid hg6
  have hcm : ¬ cap = m := by have := HM.out; omega
  have hmn : (m : Int) ≤ (n : Int) := by have := HM.out; omega
  clear hm hzv hr5 hcl hr6 ho6 hg6
  go_wp2
  go_ret
  rw [show n - 1 = m by have := HM.out; omega]
  exact ⟨rfl, HO6.out, grown_trans9 HG5.out HG6.out⟩
end Go.Proofs.YtllebgadhhgckaaDoor.Sqs

/- The document's last and Find. -/
namespace Go.Proofs.YtllebgadhhgckaaDoor.Sqs
open Go.RowKit Oct RowF RowK Lay Bat InR
open Epo (At0 AtO belA)

def plV : Option Nat → Int
  | none => -1
  | some k => (k : Int)
def plP (l : List Pd) (pid : Int) : Option Nat := l.findIdx? fun p => decide (p.pid = pid)
def fnRel (l : List Pd) (pid : Int) (n : Nat) (w : World) (iv : Value) (wr : World) : Prop :=
  ∃ k : Nat, iv = .int .i64 (k : Int) ∧ k ≤ n ∧ (∀ j x, j < k → l[j]? = some x → x.pid ≠ pid) ∧ w = wr
end Go.Proofs.YtllebgadhhgckaaDoor.Sqs

/- The document's fresh. -/
namespace Go.Proofs.YtllebgadhhgckaaDoor.Sqs
open Go.RowKit Oct Rec RowF RowK Lay Bat InR
open Epo (At0 AtO belA)

theorem prK3 {w : World} {B n k b o : Nat} {l : List Pd} {x : Pd} (h : RdP w B (some ⟨b, o, none⟩) n l) (hx : l[k]? = some x) : ∃ A' n' c', n' ≤ c' ∧ n' ≤ reach ∧ RdD w B A' n' x.did ∧ w.cell? ⟨b, o + k * 3, none⟩ = some (.int .i64 x.pid) ∧ w.cell? ⟨b, o + k * 3 + 1, none⟩ = some (.int .i64 x.gen) ∧ w.cell? ⟨b, o + k * 3 + 2, none⟩ = some (.slice A' n' c') := by
  obtain ⟨b', o', A', n', c', hA, hb, h1, h2, h3, hc⟩ := h.2 k x hx
  obtain ⟨rfl, rfl⟩ : b = b' ∧ o = o' := by simpa using hA
  exact ⟨A', n', c', h1, h2, h3, hc 0 _ rfl, hc 1 _ rfl, hc 2 _ rfl⟩
theorem pr_form {w : World} {B n k : Nat} {A : Option Addr} {l : List Pd} {x : Pd} (h : RdP w B A n l) (hx : l[k]? = some x) : ∃ b o, A = some ⟨b, o, none⟩ ∧ b < B ∧ k < n := by
  obtain ⟨b', o', A', n', c', hA, hb, _⟩ := h.2 k x hx
  exact ⟨b', o', hA, hb, by have := (List.getElem?_eq_some_iff.1 hx).1; have := h.len; omega⟩
end Go.Proofs.YtllebgadhhgckaaDoor.Sqs
