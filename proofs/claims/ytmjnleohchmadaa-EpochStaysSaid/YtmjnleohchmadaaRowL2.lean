/- More words for rows of slices, and for a call's own boxes: what stays when a block that is no cells is turned; one slice more, as a run. Nothing of the program. -/
import Derived.Test.YtmjnleohchmadaaRowL
import Derived.RangeFuncBox
import Derived.RangeFuncCalls
namespace Go.Proofs.Ytmjnleohchmadaa.RowL
open Go.RowKit Go.Proofs.Ytmjnleohchmadaa.Oct Go.Proofs.Ytmjnleohchmadaa.RowF Go.Proofs.Ytmjnleohchmadaa.Lay

section
variable {W W' : World} {e t : TypeId} {P : Nat → Prop} {B n : Nat} {v u : Value} {L : List (List UInt8)}
theorem ownL_keptBy (h : OwnL W e P B v n L) {row : Option Nat} (hg : W.grownBy W' row) (hrow : ∀ r, row = some r → ∃ o : Obj, W.heap[r]? = some o ∧ o.isCells = false) : OwnL W' e P B v n L := by
  obtain ⟨hs, h1, h2⟩ := h
  refine ⟨hs, World.ownsRow.kept h1 hg ?_, h2.1, fun i x l hx hl => ?_⟩
  · rcases h1.2 with ⟨rfl, _⟩ | ⟨g, cap, cur, rfl, _, hgb, _⟩
    · exact .inl rfl
    · refine .inr fun e' => ?_
      obtain ⟨o, ho, hc⟩ := hrow g (by simpa [Value.ownBlock] using e'.symm)
      rw [hgb] at ho; cases ho; cases hc
  · obtain ⟨⟨k0, k1⟩, k2, k3⟩ := h2.2 i x l hx hl
    refine ⟨⟨k0, fun j d hd => ?_⟩, k2, k3⟩
    obtain ⟨b, o, hA, hb, hcell⟩ := k1 j d hd
    exact ⟨b, o, hA, Nat.lt_of_lt_of_le hb hg.size, cell_kept hcell hg hrow⟩
theorem ownL_set (h : OwnL W e (fun b => B ≤ b) B v n L) {k : Nat} (hk : k < B) (u : Value) : OwnL (W.setCell ⟨k, 0, none⟩ u) e (fun b => B ≤ b) B v n L := by
  obtain ⟨hs, h1, h2⟩ := h
  refine ⟨hs, OwnF.setBelow h1 hk u, h2.1, fun i x l hx hl => ?_⟩
  refine (h2.2 i x l hx hl).keep (by simp) fun b o hb hP _ => ?_
  exact World.cell?_setCell_other _ _ _ _ (by intro he; injection he with he; omega)
theorem boxed_below (h : Boxed W B t v) (hb : Below W.heap.size W W') : Boxed W' B t v := (hb.block B h.lt).trans h
theorem boxed_set2 {k : Nat} (h : Boxed W B t v) (u : Value) (hk : k ≠ B) : Boxed (W.setCell ⟨k, 0, none⟩ u) B t v := h.kept (grownBy_setCell' W k u) (by intro he; injection he with he; exact hk he.symm)
end
/-- one slice more onto a row, as a run -/
theorem run_appL1 {P : Program} {R : Nat → Prop} {w : World} (bytes base : Nat) (t ty e : TypeId) (ht : P.underlying t = some (.slice e)) (hI : Info P e 1 bytes) {v : Value} {n : Nat} {L : List (List UInt8)} (hown : OwnL w e R base v n L)
    {A : Option Addr} {m c : Nat} {l : List UInt8} (hl : Lead w R v.ownBlock (A, m, c) l) (hb : (n + 1) * bytes ≤ 140737488355328) (h63 : n + 1 ≤ 140737488355328) (hbase : base ≤ w.heap.size) :
    ∃ A' c' w', (Builtin.append_ #[t, t] ty #[v, .slice (some ⟨w.heap.size, 0, none⟩) 1 1]).run P (w.alloc (.cells #[.slice A m c] e)) = .ok (.slice A' (n + 1) c') w' ∧ OwnL w' e R base (.slice A' (n + 1) c') (n + 1) (L ++ [l]) ∧ (w.alloc (.cells #[.slice A m c] e)).grownBy w' v.ownBlock ∧ Below base w w' := by
  have hbel : Below w.heap.size w (w.alloc (.cells #[.slice A m c] e)) := (Below.refl _ _).alloc (Nat.le_refl _) _
  obtain ⟨hs0, h1, h2⟩ := hown.below hbel
  obtain ⟨A', c', w', k1, k2, k3, k4⟩ := run_appFG (P := P) (w.alloc (.cells #[.slice A m c] e)) hS bytes base t ty e ht hI v n hs0 h1 _ (some ⟨w.heap.size, 0, none⟩) 1 1 [(A, m, c)] (rdF_new w hS e (A, m, c)) hb h63 (Nat.le_trans hbase hbel.size)
  refine ⟨A', c', w', k1, ⟨hs0 ++ [(A, m, c)], k2, ?_⟩, k3, ((Below.refl base w).alloc hbase _).trans (below_of_grown (w.alloc (.cells #[.slice A m c] e)) h1 k3 (Nat.le_trans hbase hbel.size))⟩
  exact (h2.app (Leads.below (Leads.one hl) hbel)).step k3 k4
/-- bytes of the call's own lead there from a row that is elder -/
theorem lead_own {w : World} {e : TypeId} {B0 B : Nat} {v : Value} {A : Option Addr} {n c : Nat} {l : List UInt8} (h : OwnB w e B (.slice A n c) n l) (hB : B0 ≤ B) (hv : ∀ g, v.ownBlock = some g → g < B) : Lead w (fun b => B0 ≤ b) v.ownBlock (A, n, c) l := by
  refine ⟨h.rd, h.cap, fun a ha hn => ?_⟩
  simp only at ha hn
  obtain ⟨g, cap, hv2, h1, _⟩ := World.ownsRow.form h hn
  injection hv2 with hA _ _
  rw [hA] at ha
  obtain rfl := Option.some.inj ha
  refine ⟨by simp only; omega, fun he => ?_⟩
  have := hv _ he.symm
  simp only at this
  omega
theorem below_others {W W' : World} (h : Below W.heap.size W W') : KeepsOthers W W' := ⟨h.size, fun k _o hk _ => (h.block k (Array.getElem?_eq_some_iff.1 hk).1).trans hk⟩
theorem ownL_cells {W : World} {e : TypeId} {P : Nat → Prop} {B n : Nat} {v : Value} {L : List (List UInt8)} (h : OwnL W e P B v n L) : ∀ (j : Nat) (o : Obj), v.ownBlock = some j → W.heap[j]? = some o → o.isCells = true := by
  obtain ⟨hs, h1, _⟩ := h
  intro j o hj ho
  rcases h1.2 with ⟨rfl, _⟩ | ⟨g, cap, cur, rfl, _, hgb, _⟩
  · cases hj
  · obtain rfl : g = j := by simpa [Value.ownBlock] using hj
    rw [hgb] at ho
    cases ho
    rfl
end Go.Proofs.Ytmjnleohchmadaa.RowL
