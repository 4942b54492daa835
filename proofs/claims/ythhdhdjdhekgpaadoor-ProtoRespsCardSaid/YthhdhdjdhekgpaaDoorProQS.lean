/- Joined: ProQS. -/
import Derived.Test.YthhdhdjdhekgpaaDoorProRR3
import Derived.Test.YthhdhdjdhekgpaaDoorProRC
/- The words for the document's GetReq and GetResp: what a call keeps. -/
namespace Go.Proofs.YthhdhdjdhekgpaaDoor.Pro
open Go.RowKit Go.Proofs.YthhdhdjdhekgpaaDoor.Oct Go.Proofs.YthhdhdjdhekgpaaDoor.Rec Go.Proofs.YthhdhdjdhekgpaaDoor.Cod Go.Proofs.YthhdhdjdhekgpaaDoor.Lay Go.Proofs.YthhdhdjdhekgpaaDoor.RowF

/-- the boxes, the reader, and the rows of the call's own -/
structure QS (w : World) (T : TypeId) (z cs : Array Value) (sl : Value) (p e : Int) (A1 : Option Addr) (n1 c1 : Nat) (L1 : List Int) (A2 : Option Addr) (n2 c2 : Nat) (L2 : List ByteArray) (A3 : Option Addr) (n3 c3 : Nat) (L3 : List UInt8) (W : World) : Prop where
  gs : GS w w.heap.size (w.heap.size + 2) (w.heap.size + 1) T z T cs 79 sl p e W
  o1 : OwnF numc 1 W 3 (w.heap.size + 3) (.slice A1 n1 c1) n1 L1
  o2 : OwnF strc 1 W 9 (w.heap.size + 3) (.slice A2 n2 c2) n2 L2
  o3 : OwnB W 5 (w.heap.size + 3) (.slice A3 n3 c3) n3 L3
section
variable {w W W' : World} {T : TypeId} {z cs : Array Value} {sl : Value} {p e q y : Int} {A1 A2 A3 : Option Addr} {n1 c1 n2 c2 n3 c3 : Nat} {L1 : List Int} {L2 : List ByteArray} {L3 : List UInt8}
theorem ownB_set {t : TypeId} {B n g j : Nat} {v u : Value} {L : List UInt8} (h : OwnB W t B v n L) (hg : g < B) : OwnB (W.setCell ⟨g, j, none⟩ u) t B v n L := ownsRow_setCell_below h (a := ⟨g, j, none⟩) hg u
theorem ownB_row {t : TypeId} {B g n : Nat} {v : Value} {L : List UInt8} (h : OwnB W t B v n L) (hg : W.grownBy W' (some g)) (hgB : g < B) : OwnB W' t B v n L := by
  refine World.ownsRow.kept h hg ?_
  rcases h.2 with ⟨rfl, _⟩ | ⟨g', cap, cur, rfl, hb, _⟩
  · exact .inl rfl
  · refine .inr fun e' => ?_
    have : g' = g := by simpa [Value.ownBlock] using e'
    omega
theorem QS.set (h : QS w T z cs sl p e A1 n1 c1 L1 A2 n2 c2 L2 A3 n3 c3 L3 W) (j : Nat) (v : Value) : QS w T z (cs.setIfInBounds j v) sl p e A1 n1 c1 L1 A2 n2 c2 L2 A3 n3 c3 L3 (W.setCell ⟨w.heap.size + 2, j, none⟩ v) :=
  ⟨h.gs.set j v, own_set h.o1 (by omega), own_set h.o2 (by omega), ownB_set h.o3 (by omega)⟩
theorem QS.grow (h : QS w T z cs sl p e A1 n1 c1 L1 A2 n2 c2 L2 A3 n3 c3 L3 W) (hg : W.grownBy W' (some (w.heap.size + 1))) (hr : Rdr 79 W' (w.heap.size + 1) sl q y) : QS w T z cs sl q y A1 n1 c1 L1 A2 n2 c2 L2 A3 n3 c3 L3 W' :=
  ⟨h.gs.grow hg hr, own_row h.o1 hg (by omega), own_row h.o2 hg (by omega), ownB_row h.o3 hg (by omega)⟩
theorem QS.below (h : QS w T z cs sl p e A1 n1 c1 L1 A2 n2 c2 L2 A3 n3 c3 L3 W) (hb : Below W.heap.size W W') : QS w T z cs sl p e A1 n1 c1 L1 A2 n2 c2 L2 A3 n3 c3 L3 W' :=
  ⟨h.gs.below hb, OwnF.below h.o1 hb, OwnF.below h.o2 hb, h.o3.below hb⟩
theorem QS.err (h : QS w T z cs sl p e A1 n1 c1 L1 A2 n2 c2 L2 A3 n3 c3 L3 W) (u : Int) : QS w T z cs sl p u A1 n1 c1 L1 A2 n2 c2 L2 A3 n3 c3 L3 (W.setCell ⟨w.heap.size + 1, 2, none⟩ (.int .i64 u)) :=
  h.grow (gb_set _ _ _ _) (h.gs.rd.set2 u)
theorem QS.row1 {A : Option Addr} {n c B : Nat} {L : List Int} (h : QS w T z cs sl p e A1 n1 c1 L1 A2 n2 c2 L2 A3 n3 c3 L3 W) (ho : OwnF numc 1 W 3 B (.slice A n c) n L) (hB : w.heap.size + 3 ≤ B) : QS w T z cs sl p e A n c L A2 n2 c2 L2 A3 n3 c3 L3 W := ⟨h.gs, ho.more hB, h.o2, h.o3⟩
theorem QS.row2 {A : Option Addr} {n c B : Nat} {L : List ByteArray} (h : QS w T z cs sl p e A1 n1 c1 L1 A2 n2 c2 L2 A3 n3 c3 L3 W) (ho : OwnF strc 1 W 9 B (.slice A n c) n L) (hB : w.heap.size + 3 ≤ B) : QS w T z cs sl p e A1 n1 c1 L1 A n c L A3 n3 c3 L3 W := ⟨h.gs, h.o1, ho.more hB, h.o3⟩
theorem QS.row3 {A : Option Addr} {n c B : Nat} {L : List UInt8} (h : QS w T z cs sl p e A1 n1 c1 L1 A2 n2 c2 L2 A3 n3 c3 L3 W) (ho : OwnB W 5 B (.slice A n c) n L) (hB : w.heap.size + 3 ≤ B) : QS w T z cs sl p e A1 n1 c1 L1 A2 n2 c2 L2 A n c L W := ⟨h.gs, h.o1, h.o2, ho.more hB⟩
theorem QS.size (h : QS w T z cs sl p e A1 n1 c1 L1 A2 n2 c2 L2 A3 n3 c3 L3 W) : w.heap.size + 3 ≤ W.heap.size := h.gs.l4
theorem QS.rd (h : QS w T z cs sl p e A1 n1 c1 L1 A2 n2 c2 L2 A3 n3 c3 L3 W) : Rdr 79 W (w.heap.size + 1) sl p e := h.gs.rd
theorem QS.bel (h : QS w T z cs sl p e A1 n1 c1 L1 A2 n2 c2 L2 A3 n3 c3 L3 W) : Below w.heap.size w W := h.gs.bel
/-- the beginning -/
theorem QS_start {w30 : World} (hb : Below (w.heap.size + 1) (w.alloc (.cells z T)) w30) (hs : w30.heap.size = w.heap.size + 2) (hr : Rdr 79 w30 (w.heap.size + 1) sl p e) : QS w T z cs sl p e none 0 0 [] none 0 0 [] none 0 0 [] (w30.alloc (.cells cs T)) := by
  have h1 : (w.alloc (.cells z T)).heap[w.heap.size]? = some (.cells z T (0, 0)) := World.alloc_heap_new w _
  refine ⟨⟨?_, ?_, ?_, ?_, by omega⟩, OwnF.nil, OwnF.nil, OwnB.nil⟩
  · exact (bel_alloc (Below.refl _ _) _).trans ((hb.mono (Nat.le_succ _)).trans ((bel_alloc (Below.refl w30.heap.size w30) _).mono (by omega)))
  · rw [Below.heap_alloc _ _ _ (by omega), hb.block _ (Nat.lt_succ_self _)]; exact h1
  · rw [← hs]; exact World.alloc_heap_new _ _
  · exact hr.below (bel_alloc (Below.refl _ _) _) (by omega)
end
theorem hd_short {l : List UInt8} (h : l.length < 2) : hdE l = 10 := by unfold hdE; rw [if_pos (by omega)]
theorem hd_long {l : List UInt8} (h : ¬ l.length < 2) : hdE l = known (kv l 0).1 (kv l 0).2 := by unfold hdE; rw [if_neg (by omega)]
theorem gtQ_head {l : List UInt8} (h : hdE l ≠ 0) : gtQ l = (nilQ, hdE l) := by
  have h0 := steps_head (l := l) (q := 2) (fun h2 => absurd h2 h)
  rcases hv : hdV l with ⟨k, v⟩
  rw [hv] at h0
  exact gtQ_err (steps_req (i := 0) (s := ByteArray.empty) (L1 := []) (L2 := []) (bl := []) (p1 := 0) (p2 := 0) (p3 := 0) (p4 := 0) (p5 := 0) h0 (.err h) (.err h) (.err h) (.err h) (.err h)) h
theorem gtP_head {l : List UInt8} (h : hdE l ≠ 0) : gtP l = (nilP, hdE l) := by
  have h0 := steps_head (l := l) (q := 2) (fun h2 => absurd h2 h)
  rcases hv : hdV l with ⟨k, v⟩
  rw [hv] at h0
  exact gtP_err (steps_resp (i := 0) (E := 0) (t := 0) (L1 := []) (L2 := []) (bl := []) (p1 := 0) (p2 := 0) (p3 := 0) (p4 := 0) (p5 := 0) (p6 := 0) h0 (.err h) (.err h) (.err h) (.err h) (.err h) (.err h)) h
theorem hd_ok {l : List UInt8} (h : hdE l = 0) : ∃ K V : Nat, kv l 0 = ((K : Int), (V : Int)) ∧ 1 ≤ K ∧ K ≤ 12 ∧ V ≤ 2 ∧ Steps chead l 0 0 ((K : Int), (V : Int)) 2 0 := by
  have h0 := steps_head (l := l) (q := 2) (fun _ => rfl)
  have hl : ¬ l.length < 2 := by intro h2; rw [hd_short h2] at h; cases h
  have hk := h
  rw [hd_long hl] at hk
  obtain ⟨h3, h4⟩ := known_iff.1 hk
  have e : kv l 0 = (((kv l 0).1.toNat : Int), ((kv l 0).2.toNat : Int)) := by rw [Int.toNat_of_nonneg (by omega), Int.toNat_of_nonneg (by omega)]
  refine ⟨(kv l 0).1.toNat, (kv l 0).2.toNat, e, by omega, by omega, by omega, ?_⟩
  have hv : hdV l = kv l 0 := by unfold hdV; rw [if_pos h]
  rw [hv, h, e] at h0
  exact h0
/-- how many texts a request has, read or known -/
theorem texts_know {k : Int} {l : List UInt8} {p e : Int} (h : k ≠ 7) {L : List ByteArray} {q y : Int} (hs : Steps (cmany txt64 (nT k).toNat) l p e L q y) : Steps (textsC k) l p e L q y := by
  unfold textsC; rw [if_neg h]; exact hs
theorem texts_read {l : List UInt8} {p e m p9 e9 : Int} (h1 : Steps (cthat cvar ck15) l p e m p9 e9) {L : List ByteArray} {q y : Int} (hs : Steps (cmany txt64 m.toNat) l p9 e9 L q y) : Steps (textsC 7) l p e L q y := by
  unfold textsC; rw [if_pos rfl]
  exact Steps.count h1 (fun h0 => by subst h0; exact hs) (fun hz => hs.keep hz)
end Go.Proofs.YthhdhdjdhekgpaaDoor.Pro
