/- Joined: EpoR2. -/
import Derived.Test.YtmjnleohchmadaaEpoR1
import Derived.Deep.DeepCutAuto
/- The document's Put. -/
namespace Go.Proofs.Ytmjnleohchmadaa.Epo
open Go.RowKit Go.Proofs.Ytmjnleohchmadaa.Oct Go.Proofs.Ytmjnleohchmadaa.RowF Go.Proofs.Ytmjnleohchmadaa.Lay Go.Proofs.Ytmjnleohchmadaa.InR

theorem run_appE {w : World} (base : Nat) {v : Value} {n : Nat} {l : List Ep} (hown : OwnE w base v n l) (x : Ep) (hb : n < 1099511627776) (hbase : base ≤ w.heap.size) :
    ∃ A' c' w', (Builtin.append_ #[22, 22] 22 #[v, .slice (some ⟨w.heap.size, 0, none⟩) 1 1]).run Try.prog (w.alloc (.cells (epC x).toArray 32)) = .ok (.slice A' (n + 1) c') w' ∧ OwnE w' base (.slice A' (n + 1) c') (n + 1) (l ++ [x]) ∧ Below base w w' := by
  have hbel : Below w.heap.size w (w.alloc (.cells (epC x).toArray 32)) := belA w _
  have h1 : OwnE (w.alloc (.cells (epC x).toArray 32)) base v n l := OwnF.below hown hbel
  obtain ⟨A', c', w', k1, k2, k3, k4⟩ := run_appFG (P := Try.prog) (w.alloc (.cells (epC x).toArray 32)) epS 16 base 22 22 32 Try.underlying22 epInfo v n l h1 _ (some ⟨w.heap.size, 0, none⟩) 1 1 [x] (rdF_new w epS _ x) (by omega) (by omega) (Nat.le_trans hbase hbel.size)
  exact ⟨A', c', w', k1, k2, ((Below.refl base w).alloc hbase _).trans (below_of_grown _ h1 k3 (Nat.le_trans hbase hbel.size))⟩
theorem flat_take (l : List Ep) (m : Nat) : (l.take m).flatMap epC = (l.flatMap epC).take (m * 2) := by
  induction l generalizing m with
  | nil => simp
  | cons x l ih =>
    cases m with
    | zero => simp
    | succ m => rw [List.take_succ_cons, List.flatMap_cons, List.flatMap_cons, ih, show (m + 1) * 2 = (epC x).length + m * 2 by (show (m + 1) * 2 = 2 + m * 2; omega), List.take_length_add_append]
theorem own_cut {w : World} {B n c m : Nat} {A : Option Addr} {l : List Ep} (h : OwnE w B (.slice A n c) n l) (hm : m ≤ n) : OwnE w B (.slice A m c) m (l.take m) := by
  have hlen := OwnF.len epS h
  obtain ⟨h1, h2⟩ := h
  refine ⟨by rw [flat_take, List.length_take, h1]; omega, ?_⟩
  rcases h2 with ⟨hv, hn⟩ | ⟨g, cap, cur, hv, hb, hh, hc, hcap, hsz, htk⟩
  · left
    injection hv with a1 a2 a3
    subst a1; subst a2; subst a3
    obtain rfl : m = 0 := by omega
    exact ⟨rfl, rfl⟩
  · right
    injection hv with a1 a2 a3
    subst a1; subst a3
    refine ⟨g, c, cur, rfl, hb, hh, by omega, hcap, hsz, ?_⟩
    rw [flat_take, ← htk, List.take_take]
    congr 1
    omega
def PE (w : World) (x : List Ep) (e : Int) (en : Ending) (w' : World) : Prop :=
  ∃ A n c, en = .returned (.tuple #[.slice A n c, .int .i64 e]) ∧ OwnE w' w.heap.size (.slice A n c) n x ∧ Below w.heap.size w w'
end Go.Proofs.Ytmjnleohchmadaa.Epo
