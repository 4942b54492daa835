/- Joined: ProG. -/
import Derived.Test.YthhdhdjdhekgpaaDoorProS
import Derived.Test.YthhdhdjdhekgpaaDoorProR1
import Derived.Lib.ConvBytes
/- Words for the walks of GetReq and GetResp: the call's own boxes beside a reader's block. Nothing of the program. -/
namespace Go.Proofs.YthhdhdjdhekgpaaDoor.Pro
open Go.RowKit Go.Proofs.YthhdhdjdhekgpaaDoor.Oct Go.Proofs.YthhdhdjdhekgpaaDoor.Rec Go.Proofs.YthhdhdjdhekgpaaDoor.Cod Go.Proofs.YthhdhdjdhekgpaaDoor.Lay Go.Proofs.YthhdhdjdhekgpaaDoor.RowF

/-- the result's box g2, what is got in g4, the reader in g5 -/
structure GS (w : World) (g2 g4 g5 : Nat) (T2 : TypeId) (z : Array Value) (T4 : TypeId) (cs : Array Value) (TR : TypeId) (sl : Value) (p e : Int) (W : World) : Prop where
  bel : Below w.heap.size w W
  b2 : W.heap[g2]? = some (.cells z T2 (0, 0))
  b4 : W.heap[g4]? = some (.cells cs T4 (0, 0))
  rd : Rdr TR W g5 sl p e
  ne : w.heap.size ≤ g2 ∧ w.heap.size ≤ g4 ∧ w.heap.size ≤ g5 ∧ g2 ≠ g4 ∧ g2 ≠ g5 ∧ g4 ≠ g5
section
variable {w W W' : World} {g2 g4 g5 : Nat} {T2 T4 TR : TypeId} {z cs : Array Value} {sl : Value} {p e q y : Int}
theorem alloc_at {W : World} {g : Nat} {o : Obj} (h : W.heap.size = g) : (W.alloc o).heap[g]? = some o := by subst h; exact World.alloc_heap_new _ _
theorem size_set (W : World) (a : Addr) (v : Value) : (W.setCell a v).heap.size = W.heap.size := by simp [World.setCell]
theorem heap_lt {W : World} {g : Nat} {o : Obj} (h : W.heap[g]? = some o) : g < W.heap.size := (Array.getElem?_eq_some_iff.1 h).1
theorem heap_cell {W : World} {g : Nat} {cs : Array Value} {T : TypeId} {fr : Nat × Nat} (h : W.heap[g]? = some (.cells cs T fr)) (j : Nat) : W.cell? ⟨g, j, none⟩ = cs[j]? := by simp [World.cell?, h]
theorem heap_frozen {W : World} {g : Nat} {cs : Array Value} {T : TypeId} (h : W.heap[g]? = some (.cells cs T (0, 0))) (j : Nat) : W.frozen? ⟨g, j, none⟩ = false := by simp [World.frozen?, h]
theorem GS_start (w : World) (T2 T4 TR : TypeId) (z cs : Array Value) (sl : Value) : GS w w.heap.size (w.heap.size + 1) (w.heap.size + 1 + 1) T2 z T4 cs TR sl 0 0 (((w.alloc (.cells z T2)).alloc (.cells cs T4)).alloc (.cells #[sl, .int .i64 0, .int .i64 0] TR)) := by
  have h1 : (w.alloc (.cells z T2)).heap.size = w.heap.size + 1 := by simp
  have h2 : ((w.alloc (.cells z T2)).alloc (.cells cs T4)).heap.size = w.heap.size + 1 + 1 := by simp
  refine ⟨bel_alloc (bel_alloc (bel_alloc (Below.refl _ _) _) _) _, ?_, ?_, ?_, by omega⟩
  · rw [Below.heap_alloc _ _ _ (by omega), Below.heap_alloc _ _ _ (by omega)]; exact World.alloc_heap_new w _
  · rw [Below.heap_alloc _ _ _ (by omega), ← h1]; exact World.alloc_heap_new _ _
  · unfold Rdr; rw [← h2]; exact World.alloc_heap_new _ _
theorem GS.c2 (h : GS w g2 g4 g5 T2 z T4 cs TR sl p e W) (j : Nat) : W.cell? ⟨g2, j, none⟩ = z[j]? := heap_cell h.b2 j
theorem GS.c4 (h : GS w g2 g4 g5 T2 z T4 cs TR sl p e W) (j : Nat) : W.cell? ⟨g4, j, none⟩ = cs[j]? := heap_cell h.b4 j
theorem GS.f2 (h : GS w g2 g4 g5 T2 z T4 cs TR sl p e W) : ∀ j, W.frozen? ⟨g2, j, none⟩ = false := heap_frozen h.b2
theorem GS.f4 (h : GS w g2 g4 g5 T2 z T4 cs TR sl p e W) : ∀ j, W.frozen? ⟨g4, j, none⟩ = false := heap_frozen h.b4
theorem GS.l4 (h : GS w g2 g4 g5 T2 z T4 cs TR sl p e W) : g4 < W.heap.size := heap_lt h.b4
theorem GS.l5 (h : GS w g2 g4 g5 T2 z T4 cs TR sl p e W) : g5 < W.heap.size := h.rd.lt
theorem heap_off {W : World} {g k j : Nat} {v : Value} (h : k ≠ g) : (W.setCell ⟨g, j, none⟩ v).heap[k]? = W.heap[k]? := Below.heap_setCell W ⟨g, j, none⟩ v k h
theorem GS.set (h : GS w g2 g4 g5 T2 z T4 cs TR sl p e W) (j : Nat) (v : Value) : GS w g2 g4 g5 T2 z T4 (cs.setIfInBounds j v) TR sl p e (W.setCell ⟨g4, j, none⟩ v) :=
  ⟨h.bel.setCell h.ne.2.1 v, (heap_off h.ne.2.2.2.1).trans h.b2, heap_set h.b4 j v, (heap_off (Ne.symm h.ne.2.2.2.2.2)).trans h.rd, h.ne⟩
theorem GS.grow (h : GS w g2 g4 g5 T2 z T4 cs TR sl p e W) (hg : W.grownBy W' (some g5)) (hr : Rdr TR W' g5 sl q y) : GS w g2 g4 g5 T2 z T4 cs TR sl q y W' :=
  ⟨below_gb h.bel hg h.bel.size h.ne.2.2.1, (hg.block g2 (heap_lt h.b2) (by intro e; injection e with e; exact h.ne.2.2.2.2.1 e)).trans h.b2, (hg.block g4 (heap_lt h.b4) (by intro e; injection e with e; exact h.ne.2.2.2.2.2 e)).trans h.b4, hr, h.ne⟩
theorem GS.below (h : GS w g2 g4 g5 T2 z T4 cs TR sl p e W) (hb : Below W.heap.size W W') : GS w g2 g4 g5 T2 z T4 cs TR sl p e W' :=
  ⟨h.bel.trans (hb.mono h.bel.size), (hb.block g2 (heap_lt h.b2)).trans h.b2, (hb.block g4 (heap_lt h.b4)).trans h.b4, (hb.block g5 h.rd.lt).trans h.rd, h.ne⟩
theorem GS.alloc (h : GS w g2 g4 g5 T2 z T4 cs TR sl p e W) (o : Obj) : GS w g2 g4 g5 T2 z T4 cs TR sl p e (W.alloc o) := h.below (bel_alloc (Below.refl _ _) o)
theorem GS.drew (h : GS w g2 g4 g5 T2 z T4 cs TR sl p e W) : GS w g2 g4 g5 T2 z T4 cs TR sl p e W.drew := ⟨h.bel.drew, h.b2, h.b4, h.rd, h.ne⟩
/-- a row of the call's own, behind a step of the reader, and a store into a box -/
theorem own_set {α : Type} {f : α → List Value} {t : TypeId} {B n g j : Nat} {v u : Value} {L : List α} (h : OwnF f 1 W t B v n L) (hg : g < B) : OwnF f 1 (W.setCell ⟨g, j, none⟩ u) t B v n L := OwnF.setBelow h (a := ⟨g, j, none⟩) hg u
theorem rd_set {B n g j : Nat} {A : Option Addr} {l : List UInt8} {u : Value} (h : Rd W B A n l) (hg : B ≤ g) : Rd (W.setCell ⟨g, j, none⟩ u) B A n l := h.keep fun q hq => World.cell?_setCell_other _ _ _ _ (by intro he; subst he; simp only at hq; omega)
end
/-- a block that is not turned -/
theorem blk_set {W : World} {h g j : Nat} {o : Obj} {v : Value} (k : W.heap[h]? = some o) (hn : h ≠ g) : (W.setCell ⟨g, j, none⟩ v).heap[h]? = some o := (heap_off hn).trans k
theorem blk_grow {W W' : World} {h g : Nat} {o : Obj} (k : W.heap[h]? = some o) (hg : W.grownBy W' (some g)) (hn : h ≠ g) : W'.heap[h]? = some o := (hg.block h (heap_lt k) (by intro e; injection e with e; exact hn e)).trans k
theorem blk_below {W W' : World} {h : Nat} {o : Obj} (k : W.heap[h]? = some o) (hb : Below W.heap.size W W') : W'.heap[h]? = some o := (hb.block h (heap_lt k)).trans k
/-- seven cells, and eight, stored one by one -/
abbrev put7 (W : World) (g : Nat) (v0 v1 v2 v3 v4 v5 v6 : Value) : World := ((((((W.setCell ⟨g, 0, none⟩ v0).setCell ⟨g, 1, none⟩ v1).setCell ⟨g, 2, none⟩ v2).setCell ⟨g, 3, none⟩ v3).setCell ⟨g, 4, none⟩ v4).setCell ⟨g, 5, none⟩ v5).setCell ⟨g, 6, none⟩ v6
abbrev put8 (W : World) (g : Nat) (v0 v1 v2 v3 v4 v5 v6 v7 : Value) : World := (put7 W g v0 v1 v2 v3 v4 v5 v6).setCell ⟨g, 7, none⟩ v7
theorem put7_gb (W : World) (g : Nat) (v0 v1 v2 v3 v4 v5 v6 : Value) : W.grownBy (put7 W g v0 v1 v2 v3 v4 v5 v6) (some g) :=
  gb_trans (gb_trans (gb_trans (gb_trans (gb_trans (gb_trans (gb_set _ _ _ _) (gb_set _ _ _ _)) (gb_set _ _ _ _)) (gb_set _ _ _ _)) (gb_set _ _ _ _)) (gb_set _ _ _ _)) (gb_set _ _ _ _)
theorem put8_gb (W : World) (g : Nat) (v0 v1 v2 v3 v4 v5 v6 v7 : Value) : W.grownBy (put8 W g v0 v1 v2 v3 v4 v5 v6 v7) (some g) := gb_trans (put7_gb W g v0 v1 v2 v3 v4 v5 v6) (gb_set _ _ _ _)
theorem put7_bel {w W : World} {g : Nat} (h : Below w.heap.size w W) (hg : w.heap.size ≤ g) (v0 v1 v2 v3 v4 v5 v6 : Value) : Below w.heap.size w (put7 W g v0 v1 v2 v3 v4 v5 v6) := below_gb h (put7_gb W g v0 v1 v2 v3 v4 v5 v6) h.size hg
theorem put8_bel {w W : World} {g : Nat} (h : Below w.heap.size w W) (hg : w.heap.size ≤ g) (v0 v1 v2 v3 v4 v5 v6 v7 : Value) : Below w.heap.size w (put8 W g v0 v1 v2 v3 v4 v5 v6 v7) := below_gb h (put8_gb W g v0 v1 v2 v3 v4 v5 v6 v7) h.size hg
/-- a request as a value -/
def reqV (r : Rq) (A1 : Option Addr) (n1 c1 : Nat) (A2 : Option Addr) (n2 c2 : Nat) (A3 : Option Addr) (n3 c3 : Nat) : Value := .agg #[.int .i64 r.kind, .int .i64 r.ver, .int .i64 r.id, .string r.who, .slice A1 n1 c1, .slice A2 n2 c2, .slice A3 n3 c3]
def respV (r : Rp) (A1 : Option Addr) (n1 c1 : Nat) (A2 : Option Addr) (n2 c2 : Nat) (A3 : Option Addr) (n3 c3 : Nat) : Value := .agg #[.int .i64 r.kind, .int .i64 r.ver, .int .i64 r.id, .int .i64 r.e, .int .i64 r.wait, .slice A1 n1 c1, .slice A2 n2 c2, .slice A3 n3 c3]
/-- three lists lie there -/
def Three (W : World) (A1 : Option Addr) (n1 : Nat) (A2 : Option Addr) (n2 : Nat) (A3 : Option Addr) (n3 : Nat) (l1 : List Int) (l2 : List ByteArray) (l3 : List UInt8) : Prop :=
  RdL W W.heap.size A1 n1 l1 ∧ RdL W W.heap.size A2 n2 l2 ∧ Rd W W.heap.size A3 n3 l3 ∧ n1 ≤ 1099511627776 ∧ n2 ≤ 1099511627776 ∧ n3 ≤ 1099511627776
theorem Three.nil (W : World) : Three W none 0 none 0 none 0 [] [] [] := ⟨RdL.nil, RdL.nil, Rd.nil, by omega, by omega, by omega⟩
theorem Three.below {W W' : World} {A1 A2 A3 : Option Addr} {n1 n2 n3 : Nat} {l1 : List Int} {l2 : List ByteArray} {l3 : List UInt8} (h : Three W A1 n1 A2 n2 A3 n3 l1 l2 l3) (hb : Below W.heap.size W W') : Three W' A1 n1 A2 n2 A3 n3 l1 l2 l3 :=
  ⟨(h.1.below hb (Nat.le_refl _)).more hb.size, (h.2.1.below hb (Nat.le_refl _)).more hb.size, (h.2.2.1.below hb (Nat.le_refl _)).more hb.size, h.2.2.2⟩
/-- what GetReq answers -/
def GQR (w : World) (x : Rq × Int) (en : Ending) (w' : World) : Prop :=
  ∃ A1 n1 c1 A2 n2 c2 A3 n3 c3, en = .returned (.tuple #[reqV x.1 A1 n1 c1 A2 n2 c2 A3 n3 c3, .int .i64 x.2]) ∧ Three w' A1 n1 A2 n2 A3 n3 x.1.ints x.1.texts x.1.blob ∧ x.1.who.size ≤ 64 ∧ Below w.heap.size w w'
def GPR (w : World) (x : Rp × Int) (en : Ending) (w' : World) : Prop :=
  ∃ A1 n1 c1 A2 n2 c2 A3 n3 c3, en = .returned (.tuple #[respV x.1 A1 n1 c1 A2 n2 c2 A3 n3 c3, .int .i64 x.2]) ∧ Three w' A1 n1 A2 n2 A3 n3 x.1.ints x.1.texts x.1.blob ∧ Below w.heap.size w w'
section
variable {α β : Type} {a : Codec α} {l : List UInt8} {p e q z q2 z2 : Int} {x : α} {y : β}
theorem Steps.seq' {b : α → Codec β} (h : Steps a l p e x q z) (h2 : Steps (b x) l q z y q2 z2) : Steps (cseq a b) l p e (x, y) q2 z2 :=
  h.seq (fun h0 => h0 ▸ h2) (fun hz => h2.keep hz)
end
/-- field by field -/
theorem steps_req {l : List UInt8} {k v i : Int} {s : ByteArray} {L1 : List Int} {L2 : List ByteArray} {bl : List UInt8} {p0 e0 p1 e1 p2 e2 p3 e3 p4 e4 p5 e5 : Int}
    (h0 : Steps chead l 0 0 (k, v) p0 e0) (h1 : Steps cvar l p0 e0 i p1 e1) (h2 : Steps (whoC v) l p1 e1 s p2 e2) (h3 : Steps (intsC k) l p2 e2 L1 p3 e3) (h4 : Steps (textsC k) l p3 e3 L2 p4 e4) (h5 : Steps (blobC k) l p4 e4 bl p5 e5) :
    Steps reqC l 0 0 ⟨k, v, i, s, L1, L2, bl⟩ p5 e5 := by
  have s4 := h4.seq' (b := fun _ => blobC k) h5
  have s3 := h3.seq' (b := fun _ => cseq (textsC k) fun _ => blobC k) s4
  have s2 := h2.seq' (b := fun _ => cseq (intsC k) fun _ => cseq (textsC k) fun _ => blobC k) s3
  have s1 := h1.seq' (b := fun _ => cseq (whoC v) fun _ => cseq (intsC k) fun _ => cseq (textsC k) fun _ => blobC k) s2
  have s0 := h0.seq' (b := fun z => cseq cvar fun _ => cseq (whoC z.2) fun _ => cseq (intsC z.1) fun _ => cseq (textsC z.1) fun _ => blobC z.1) s1
  exact Steps.map (f := fun x : (Int × Int) × Int × ByteArray × List Int × List ByteArray × List UInt8 => (⟨x.1.1, x.1.2, x.2.1, x.2.2.1, x.2.2.2.1, x.2.2.2.2.1, x.2.2.2.2.2⟩ : Rq)) s0
theorem steps_resp {l : List UInt8} {k v i E t : Int} {L1 : List Int} {L2 : List ByteArray} {bl : List UInt8} {p0 e0 p1 e1 p2 e2 p3 e3 p4 e4 p5 e5 p6 e6 : Int}
    (h0 : Steps chead l 0 0 (k, v) p0 e0) (h1 : Steps cvar l p0 e0 i p1 e1) (h2 : Steps cvar l p1 e1 E p2 e2) (h3 : Steps (waitC v) l p2 e2 t p3 e3) (h4 : Steps (ccount cvar (ckM 64) (ckM_pos 64)) l p3 e3 L1 p4 e4) (h5 : Steps (ccount txt64 (ckM 16) (ckM_pos 16)) l p4 e4 L2 p5 e5) (h6 : Steps (cblob (ckM 4096) (ckM_pos 4096)) l p5 e5 bl p6 e6) :
    Steps respC l 0 0 ⟨k, v, i, E, t, L1, L2, bl⟩ p6 e6 := by
  have s5 := h5.seq' (b := fun _ => cblob (ckM 4096) (ckM_pos 4096)) h6
  have s4 := h4.seq' (b := fun _ => cseq (ccount txt64 (ckM 16) (ckM_pos 16)) fun _ => cblob (ckM 4096) (ckM_pos 4096)) s5
  have s3 := h3.seq' (b := fun _ => cseq (ccount cvar (ckM 64) (ckM_pos 64)) fun _ => cseq (ccount txt64 (ckM 16) (ckM_pos 16)) fun _ => cblob (ckM 4096) (ckM_pos 4096)) s4
  have s2 := h2.seq' (b := fun _ => cseq (waitC v) fun _ => cseq (ccount cvar (ckM 64) (ckM_pos 64)) fun _ => cseq (ccount txt64 (ckM 16) (ckM_pos 16)) fun _ => cblob (ckM 4096) (ckM_pos 4096)) s3
  have s1 := h1.seq' (b := fun _ => cseq cvar fun _ => cseq (waitC v) fun _ => cseq (ccount cvar (ckM 64) (ckM_pos 64)) fun _ => cseq (ccount txt64 (ckM 16) (ckM_pos 16)) fun _ => cblob (ckM 4096) (ckM_pos 4096)) s2
  have s0 := h0.seq' (b := fun z => cseq cvar fun _ => cseq cvar fun _ => cseq (waitC z.2) fun _ => cseq (ccount cvar (ckM 64) (ckM_pos 64)) fun _ => cseq (ccount txt64 (ckM 16) (ckM_pos 16)) fun _ => cblob (ckM 4096) (ckM_pos 4096)) s1
  exact Steps.map (f := fun x : (Int × Int) × Int × Int × Int × List Int × List ByteArray × List UInt8 => (⟨x.1.1, x.1.2, x.2.1, x.2.2.1, x.2.2.2.1, x.2.2.2.2.1, x.2.2.2.2.2.1, x.2.2.2.2.2.2⟩ : Rp)) s0
theorem gtQ_err {l : List UInt8} {r : Rq} {p z : Int} (h : Steps reqC l 0 0 r p z) (hz : z ≠ 0) : gtQ l = (nilQ, z) := by unfold gtQ; rw [whole_err h hz]
theorem gtQ_left {l : List UInt8} {r : Rq} {p : Int} (h : Steps reqC l 0 0 r p 0) (hp : p ≠ (l.length : Int)) : gtQ l = (nilQ, 11) := by unfold gtQ; rw [whole_left h hp]
theorem gtQ_not {l : List UInt8} {r : Rq} {p : Int} (h : Steps reqC l 0 0 r p 0) (hp : p = (l.length : Int)) (hc : ckQ r ≠ 0) : gtQ l = (nilQ, 1) := by unfold gtQ; rw [whole_not h hp hc]
theorem gtQ_ok {l : List UInt8} {r : Rq} {p : Int} (h : Steps reqC l 0 0 r p 0) (hp : p = (l.length : Int)) (hc : ckQ r = 0) : gtQ l = (r, 0) := by unfold gtQ; rw [whole_ok h hp hc]
theorem gtP_err {l : List UInt8} {r : Rp} {p z : Int} (h : Steps respC l 0 0 r p z) (hz : z ≠ 0) : gtP l = (nilP, z) := by unfold gtP; rw [whole_err h hz]
theorem gtP_left {l : List UInt8} {r : Rp} {p : Int} (h : Steps respC l 0 0 r p 0) (hp : p ≠ (l.length : Int)) : gtP l = (nilP, 11) := by unfold gtP; rw [whole_left h hp]
theorem gtP_not {l : List UInt8} {r : Rp} {p : Int} (h : Steps respC l 0 0 r p 0) (hp : p = (l.length : Int)) (hc : ckP r ≠ 0) : gtP l = (nilP, 1) := by unfold gtP; rw [whole_not h hp hc]
theorem gtP_ok {l : List UInt8} {r : Rp} {p : Int} (h : Steps respC l 0 0 r p 0) (hp : p = (l.length : Int)) (hc : ckP r = 0) : gtP l = (r, 0) := by unfold gtP; rw [whole_ok h hp hc]
/-- what the end tells, of a request, and of an answer -/
theorem gtQ_end {l : List UInt8} {n : Nat} {r : Rq} {p e z : Int} (hl : l.length = n) (h : Steps reqC l 0 0 r p e) (ha : At n p e) (hz : (if e ≠ 0 then e else if p < (n : Int) then 11 else 0) = z) :
    (z ≠ 0 → gtQ l = (nilQ, z)) ∧ (z = 0 → ckQ r ≠ 0 → gtQ l = (nilQ, 1)) ∧ (z = 0 → ckQ r = 0 → gtQ l = (r, 0)) := by
  by_cases he : e = 0
  · subst he
    rw [if_neg (by simp)] at hz
    have h2 := ha.2.2 rfl
    by_cases hp : p < (n : Int)
    · rw [if_pos hp] at hz
      subst hz
      exact ⟨fun _ => gtQ_left h (by omega), fun h => absurd h (by decide), fun h => absurd h (by decide)⟩
    · rw [if_neg hp] at hz
      subst hz
      exact ⟨fun h => absurd rfl h, fun _ hc => gtQ_not h (by omega) hc, fun _ hc => gtQ_ok h (by omega) hc⟩
  · rw [if_pos he] at hz
    subst hz
    exact ⟨fun _ => gtQ_err h he, fun h => absurd h he, fun h => absurd h he⟩
theorem gtP_end {l : List UInt8} {n : Nat} {r : Rp} {p e z : Int} (hl : l.length = n) (h : Steps respC l 0 0 r p e) (ha : At n p e) (hz : (if e ≠ 0 then e else if p < (n : Int) then 11 else 0) = z) :
    (z ≠ 0 → gtP l = (nilP, z)) ∧ (z = 0 → ckP r ≠ 0 → gtP l = (nilP, 1)) ∧ (z = 0 → ckP r = 0 → gtP l = (r, 0)) := by
  by_cases he : e = 0
  · subst he
    rw [if_neg (by simp)] at hz
    have h2 := ha.2.2 rfl
    by_cases hp : p < (n : Int)
    · rw [if_pos hp] at hz
      subst hz
      exact ⟨fun _ => gtP_left h (by omega), fun h => absurd h (by decide), fun h => absurd h (by decide)⟩
    · rw [if_neg hp] at hz
      subst hz
      exact ⟨fun h => absurd rfl h, fun _ hc => gtP_not h (by omega) hc, fun _ hc => gtP_ok h (by omega) hc⟩
  · rw [if_pos he] at hz
    subst hz
    exact ⟨fun _ => gtP_err h he, fun h => absurd h he, fun h => absurd h he⟩
/-! a text as bytes -/
theorem bytes_below (w : World) (e : TypeId) (s : ByteArray) : Below w.heap.size w (Lib.bytesWorld w e s) := by
  refine ⟨?_, ?_, ?_, by rw [Lib.bytesWorld_size]; omega, fun k hk => Lib.bytesWorld_at_old w e s k hk⟩ <;> simp [Lib.bytesWorld, World.freeze] <;> rfl
theorem bytes_rd {W : World} {g n : Nat} {C : Array Value} {T : TypeId} {fr : Nat × Nat} {s : ByteArray} (h : W.heap[g]? = some (.cells ((s.data.map fun b => Value.int .u8 b.toNat) ++ C) T fr)) (hn : s.size = n) : Rd W (g + 1) (some ⟨g, 0, none⟩) n s.data.toList := by
  subst hn
  refine ⟨by rw [Array.length_toList]; rfl, fun k c hk => ⟨g, 0, rfl, by omega, ?_⟩⟩
  rw [heap_cell h, Nat.zero_add, Array.getElem?_append_left (by have := (List.getElem?_eq_some_iff.1 hk).1; simpa using this)]
  rw [Array.getElem?_toList] at hk
  simp [hk]
theorem hdV_le (l : List UInt8) : ∃ K V : Nat, (if (if (l.length : Int) < 2 then (10 : Int) else known (kv l 0).1 (kv l 0).2) = 0 then kv l 0 else (0, 0)) = ((K : Int), (V : Int)) ∧ K ≤ 12 ∧ V ≤ 2 := by
  by_cases h : (if (l.length : Int) < 2 then (10 : Int) else known (kv l 0).1 (kv l 0).2) = 0
  · rw [if_pos h]
    by_cases h2 : (l.length : Int) < 2
    · rw [if_pos h2] at h; cases h
    · rw [if_neg h2] at h
      obtain ⟨h3, h4⟩ := known_iff.1 h
      exact ⟨(kv l 0).1.toNat, (kv l 0).2.toNat, by rw [Int.toNat_of_nonneg (by omega), Int.toNat_of_nonneg (by omega)], by omega, by omega⟩
  · rw [if_neg h]
    exact ⟨0, 0, rfl, by omega, by omega⟩
end Go.Proofs.YthhdhdjdhekgpaaDoor.Pro
