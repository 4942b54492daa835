/- Joined: ProP2, ProP3, ProM, ProG, OctFUnfold, OctFGetVar, OctFGetText, ProRd, ProRd2, ProRd3, ProG1, ProG2, ProSpW, ProSp, ProAg, ProLive. -/
import Derived.Test.YtlfbagkonckffaaGreatJ45
import Derived.Test.YtlfbagkonckffaaGreatJ11
import Derived.Lib.ConvBytes
import Derived.Test.YtlfbagkonckffaaGreatJ07
import Derived.Test.YtlfbagkonckffaaGreatJ28
import Derived.Deep.RegionHeld
import Derived.Deep.DeepCutAuto
import Derived.Test.YtlfbagkonckffaaGreatJ06
/- The contract of the landed PutReq. -/
namespace Go.Proofs.YtlfbagkonckffaaGreat.Pro
open Go.RowKit Oct Rec Cod Lay RowF InR

def PQR (w : World) (x : List UInt8 × Int) (en : Ending) (w' : World) : Prop :=
  ∃ A n c, en = .returned (.tuple #[.slice A n c, .int .i64 x.2]) ∧ Rd w' w'.heap.size A n x.1 ∧ n ≤ c ∧ Below w.heap.size w w'
def ShpC (W : World) (h : Nat) (a b c d : Int) : Prop := W.cell? ⟨h, 0, none⟩ = some (.int .i64 a) ∧ W.cell? ⟨h, 1, none⟩ = some (.int .i64 b) ∧ W.cell? ⟨h, 2, none⟩ = some (.int .i64 c) ∧ W.cell? ⟨h, 3, none⟩ = some (.int .i64 d)
theorem ShpC_below {W W' : World} {h : Nat} {a b c d : Int} (k : ShpC W h a b c d) (hb : Below W.heap.size W W') (hh : h < W.heap.size) : ShpC W' h a b c d :=
  ⟨(hb.cell (p := ⟨h, 0, none⟩) hh).trans k.1, (hb.cell (p := ⟨h, 1, none⟩) hh).trans k.2.1, (hb.cell (p := ⟨h, 2, none⟩) hh).trans k.2.2.1, (hb.cell (p := ⟨h, 3, none⟩) hh).trans k.2.2.2⟩
def PQ (w : World) (h : Nat) (k v i : Int) (s : ByteArray) (a b c : Value) (m0 m1 m2 m3 : Int) (W : World) : Prop :=
  BoxQ W w.heap.size k v i s a b c ∧ ShpC W h m0 m1 m2 m3 ∧ Below w.heap.size w W ∧ w.heap.size < W.heap.size ∧ h < W.heap.size
theorem PQ.step {w W W' : World} {h : Nat} {k v i m0 m1 m2 m3 : Int} {s : ByteArray} {a b c : Value} (H : PQ w h k v i s a b c m0 m1 m2 m3 W) (hb : Below W.heap.size W W') : PQ w h k v i s a b c m0 m1 m2 m3 W' :=
  ⟨BoxQ_below H.1 hb H.2.2.2.1, ShpC_below H.2.1 hb H.2.2.2.2, H.2.2.1.trans (hb.mono (Nat.le_of_lt H.2.2.2.1)), Nat.lt_of_lt_of_le H.2.2.2.1 hb.size, Nat.lt_of_lt_of_le H.2.2.2.2 hb.size⟩
theorem PQ.drew {w W : World} {h : Nat} {k v i m0 m1 m2 m3 : Int} {s : ByteArray} {a b c : Value} (H : PQ w h k v i s a b c m0 m1 m2 m3 W) : PQ w h k v i s a b c m0 m1 m2 m3 W.drew :=
  ⟨H.1, H.2.1, H.2.2.1.drew, H.2.2.2.1, H.2.2.2.2⟩
theorem PQ.bel {w W : World} {h : Nat} {k v i m0 m1 m2 m3 : Int} {s : ByteArray} {a b c : Value} (H : PQ w h k v i s a b c m0 m1 m2 m3 W) : Below w.heap.size w W := H.2.2.1
theorem put_eq (r : Rq) : reqC.put r = [UInt8.ofNat r.kind.toNat, UInt8.ofNat r.ver.toNat] ++ vb (zz r.id) ++ (whoC r.ver).put r.who ++ putMany cvar r.ints ++ (textsC r.kind).put r.texts ++ (blobC r.kind).put r.blob := by
  rw [reqC_put]
  unfold tailQ
  simp only [List.append_assoc, List.cons_append, List.nil_append]
  rfl
theorem who_put0 {v : Int} (h : v ≠ 2) (s : ByteArray) : (whoC v).put s = [] := by unfold whoC; rw [if_neg h]; rfl
theorem texts_put0 {k : Int} (h : k ≠ 7) (l : List ByteArray) : (textsC k).put l = putMany txt64 l := by unfold textsC; rw [if_neg h]; rfl
theorem blob_put0 {k : Int} (h : k ≠ 2) (l : List UInt8) : (blobC k).put l = [] := by unfold blobC; rw [if_neg h]; rfl
end Go.Proofs.YtlfbagkonckffaaGreat.Pro

/- The contract of the landed PutResp. -/
namespace Go.Proofs.YtlfbagkonckffaaGreat.Pro
open Go.RowKit Oct Rec Cod Lay RowF InR

def BoxP (W : World) (g : Nat) (k v i e t : Int) (a b c : Value) : Prop :=
  W.cell? ⟨g, 0, none⟩ = some (.int .i64 k) ∧ W.cell? ⟨g, 1, none⟩ = some (.int .i64 v) ∧ W.cell? ⟨g, 2, none⟩ = some (.int .i64 i) ∧ W.cell? ⟨g, 3, none⟩ = some (.int .i64 e) ∧ W.cell? ⟨g, 4, none⟩ = some (.int .i64 t) ∧ W.cell? ⟨g, 5, none⟩ = some a ∧ W.cell? ⟨g, 6, none⟩ = some b ∧ W.cell? ⟨g, 7, none⟩ = some c
theorem BoxP_below {W W' : World} {g : Nat} {k v i e t : Int} {a b c : Value} (h : BoxP W g k v i e t a b c) (hb : Below W.heap.size W W') (hg : g < W.heap.size) : BoxP W' g k v i e t a b c :=
  ⟨(hb.cell (p := ⟨g, 0, none⟩) hg).trans h.1, (hb.cell (p := ⟨g, 1, none⟩) hg).trans h.2.1, (hb.cell (p := ⟨g, 2, none⟩) hg).trans h.2.2.1, (hb.cell (p := ⟨g, 3, none⟩) hg).trans h.2.2.2.1, (hb.cell (p := ⟨g, 4, none⟩) hg).trans h.2.2.2.2.1, (hb.cell (p := ⟨g, 5, none⟩) hg).trans h.2.2.2.2.2.1, (hb.cell (p := ⟨g, 6, none⟩) hg).trans h.2.2.2.2.2.2.1, (hb.cell (p := ⟨g, 7, none⟩) hg).trans h.2.2.2.2.2.2.2⟩
def PR (w : World) (k v i e t : Int) (a b c : Value) (W : World) : Prop := BoxP W w.heap.size k v i e t a b c ∧ Below w.heap.size w W ∧ w.heap.size < W.heap.size
theorem PR.step {w W W' : World} {k v i e t : Int} {a b c : Value} (H : PR w k v i e t a b c W) (hb : Below W.heap.size W W') : PR w k v i e t a b c W' :=
  ⟨BoxP_below H.1 hb H.2.2, H.2.1.trans (hb.mono (Nat.le_of_lt H.2.2)), Nat.lt_of_lt_of_le H.2.2 hb.size⟩
theorem PR.drew {w W : World} {k v i e t : Int} {a b c : Value} (H : PR w k v i e t a b c W) : PR w k v i e t a b c W.drew := ⟨H.1, H.2.1.drew, H.2.2⟩
theorem PR.bel {w W : World} {k v i e t : Int} {a b c : Value} (H : PR w k v i e t a b c W) : Below w.heap.size w W := H.2.1
theorem PR.box {w W : World} {k v i e t : Int} {a b c : Value} (H : PR w k v i e t a b c W) : BoxP W w.heap.size k v i e t a b c := H.1
end Go.Proofs.YtlfbagkonckffaaGreat.Pro

/- The document's SameReq, SameResp, Few, FewResp. -/
namespace Go.Proofs.YtlfbagkonckffaaGreat.Pro
open Go.RowKit Oct Lay

def fewQ (r : Rq) : Bool := decide ((r.ints.length : Int) ≤ 100) && (allShort 300 r.texts && decide (r.texts.length ≤ 40)) && decide ((r.who.size : Int) ≤ 300) && decide ((r.blob.length : Int) ≤ 3000)
def fewP (r : Rp) : Bool := decide ((r.ints.length : Int) ≤ 100) && (allShort 300 r.texts && decide (r.texts.length ≤ 40)) && decide ((r.blob.length : Int) ≤ 5000)
end Go.Proofs.YtlfbagkonckffaaGreat.Pro

/- Words for the walks of GetReq and GetResp: the call's own boxes beside a reader's block. Nothing of the program. -/
namespace Go.Proofs.YtlfbagkonckffaaGreat.Pro
open Go.RowKit Oct Rec Cod Lay RowF

structure GS (w : World) (g2 g4 g5 : Nat) (T2 : TypeId) (z : Array Value) (T4 : TypeId) (cs : Array Value) (TR : TypeId) (sl : Value) (p e : Int) (W : World) : Prop where
  bel : Below w.heap.size w W
  b2 : W.heap[g2]? = some (.cells z T2 (0, 0))
  b4 : W.heap[g4]? = some (.cells cs T4 (0, 0))
  rd : Rdr TR W g5 sl p e
  ne : w.heap.size ≤ g2 ∧ w.heap.size ≤ g4 ∧ w.heap.size ≤ g5 ∧ g2 ≠ g4 ∧ g2 ≠ g5 ∧ g4 ≠ g5
section
variable {w W W' : World} {g2 g4 g5 : Nat} {T2 T4 TR : TypeId} {z cs : Array Value} {sl : Value} {p e q y : Int}
theorem heap_lt {W : World} {g : Nat} {o : Obj} (h : W.heap[g]? = some o) : g < W.heap.size := (Array.getElem?_eq_some_iff.1 h).1
theorem heap_cell {W : World} {g : Nat} {cs : Array Value} {T : TypeId} {fr : Nat × Nat} (h : W.heap[g]? = some (.cells cs T fr)) (j : Nat) : W.cell? ⟨g, j, none⟩ = cs[j]? := by simp [World.cell?, h]
theorem heap_frozen {W : World} {g : Nat} {cs : Array Value} {T : TypeId} (h : W.heap[g]? = some (.cells cs T (0, 0))) (j : Nat) : W.frozen? ⟨g, j, none⟩ = false := by simp [World.frozen?, h]
theorem GS.c2 (h : GS w g2 g4 g5 T2 z T4 cs TR sl p e W) (j : Nat) : W.cell? ⟨g2, j, none⟩ = z[j]? := heap_cell h.b2 j
theorem GS.c4 (h : GS w g2 g4 g5 T2 z T4 cs TR sl p e W) (j : Nat) : W.cell? ⟨g4, j, none⟩ = cs[j]? := heap_cell h.b4 j
theorem GS.f2 (h : GS w g2 g4 g5 T2 z T4 cs TR sl p e W) : ∀ j, W.frozen? ⟨g2, j, none⟩ = false := heap_frozen h.b2
theorem GS.f4 (h : GS w g2 g4 g5 T2 z T4 cs TR sl p e W) : ∀ j, W.frozen? ⟨g4, j, none⟩ = false := heap_frozen h.b4
theorem GS.l4 (h : GS w g2 g4 g5 T2 z T4 cs TR sl p e W) : g4 < W.heap.size := heap_lt h.b4
theorem heap_off {W : World} {g k j : Nat} {v : Value} (h : k ≠ g) : (W.setCell ⟨g, j, none⟩ v).heap[k]? = W.heap[k]? := Below.heap_setCell W ⟨g, j, none⟩ v k h
theorem GS.set (h : GS w g2 g4 g5 T2 z T4 cs TR sl p e W) (j : Nat) (v : Value) : GS w g2 g4 g5 T2 z T4 (cs.setIfInBounds j v) TR sl p e (W.setCell ⟨g4, j, none⟩ v) :=
  ⟨h.bel.setCell h.ne.2.1 v, (heap_off h.ne.2.2.2.1).trans h.b2, heap_set h.b4 j v, (heap_off (Ne.symm h.ne.2.2.2.2.2)).trans h.rd, h.ne⟩
theorem GS.grow (h : GS w g2 g4 g5 T2 z T4 cs TR sl p e W) (hg : W.grownBy W' (some g5)) (hr : Rdr TR W' g5 sl q y) : GS w g2 g4 g5 T2 z T4 cs TR sl q y W' :=
  ⟨below_gb h.bel hg h.bel.size h.ne.2.2.1, (hg.block g2 (heap_lt h.b2) (by intro e; injection e with e; exact h.ne.2.2.2.2.1 e)).trans h.b2, (hg.block g4 (heap_lt h.b4) (by intro e; injection e with e; exact h.ne.2.2.2.2.2 e)).trans h.b4, hr, h.ne⟩
theorem GS.below (h : GS w g2 g4 g5 T2 z T4 cs TR sl p e W) (hb : Below W.heap.size W W') : GS w g2 g4 g5 T2 z T4 cs TR sl p e W' :=
  ⟨h.bel.trans (hb.mono h.bel.size), (hb.block g2 (heap_lt h.b2)).trans h.b2, (hb.block g4 (heap_lt h.b4)).trans h.b4, (hb.block g5 h.rd.lt).trans h.rd, h.ne⟩
theorem GS.alloc (h : GS w g2 g4 g5 T2 z T4 cs TR sl p e W) (o : Obj) : GS w g2 g4 g5 T2 z T4 cs TR sl p e (W.alloc o) := h.below (bel_alloc (Below.refl _ _) o)
theorem GS.drew (h : GS w g2 g4 g5 T2 z T4 cs TR sl p e W) : GS w g2 g4 g5 T2 z T4 cs TR sl p e W.drew := ⟨h.bel.drew, h.b2, h.b4, h.rd, h.ne⟩
theorem own_set {α : Type} {f : α → List Value} {t : TypeId} {B n g j : Nat} {v u : Value} {L : List α} (h : OwnF f 1 W t B v n L) (hg : g < B) : OwnF f 1 (W.setCell ⟨g, j, none⟩ u) t B v n L := OwnF.setBelow h (a := ⟨g, j, none⟩) hg u
end
abbrev put7 (W : World) (g : Nat) (v0 v1 v2 v3 v4 v5 v6 : Value) : World := ((((((W.setCell ⟨g, 0, none⟩ v0).setCell ⟨g, 1, none⟩ v1).setCell ⟨g, 2, none⟩ v2).setCell ⟨g, 3, none⟩ v3).setCell ⟨g, 4, none⟩ v4).setCell ⟨g, 5, none⟩ v5).setCell ⟨g, 6, none⟩ v6
abbrev put8 (W : World) (g : Nat) (v0 v1 v2 v3 v4 v5 v6 v7 : Value) : World := (put7 W g v0 v1 v2 v3 v4 v5 v6).setCell ⟨g, 7, none⟩ v7
def reqV (r : Rq) (A1 : Option Addr) (n1 c1 : Nat) (A2 : Option Addr) (n2 c2 : Nat) (A3 : Option Addr) (n3 c3 : Nat) : Value := .agg #[.int .i64 r.kind, .int .i64 r.ver, .int .i64 r.id, .string r.who, .slice A1 n1 c1, .slice A2 n2 c2, .slice A3 n3 c3]
def respV (r : Rp) (A1 : Option Addr) (n1 c1 : Nat) (A2 : Option Addr) (n2 c2 : Nat) (A3 : Option Addr) (n3 c3 : Nat) : Value := .agg #[.int .i64 r.kind, .int .i64 r.ver, .int .i64 r.id, .int .i64 r.e, .int .i64 r.wait, .slice A1 n1 c1, .slice A2 n2 c2, .slice A3 n3 c3]
def Three (W : World) (A1 : Option Addr) (n1 : Nat) (A2 : Option Addr) (n2 : Nat) (A3 : Option Addr) (n3 : Nat) (l1 : List Int) (l2 : List ByteArray) (l3 : List UInt8) : Prop :=
  RdL W W.heap.size A1 n1 l1 ∧ RdL W W.heap.size A2 n2 l2 ∧ Rd W W.heap.size A3 n3 l3 ∧ n1 ≤ 1099511627776 ∧ n2 ≤ 1099511627776 ∧ n3 ≤ 1099511627776
theorem Three.nil (W : World) : Three W none 0 none 0 none 0 [] [] [] := ⟨RdL.nil, RdL.nil, Rd.nil, by omega, by omega, by omega⟩
theorem Three.below {W W' : World} {A1 A2 A3 : Option Addr} {n1 n2 n3 : Nat} {l1 : List Int} {l2 : List ByteArray} {l3 : List UInt8} (h : Three W A1 n1 A2 n2 A3 n3 l1 l2 l3) (hb : Below W.heap.size W W') : Three W' A1 n1 A2 n2 A3 n3 l1 l2 l3 :=
  ⟨(h.1.below hb (Nat.le_refl _)).more hb.size, (h.2.1.below hb (Nat.le_refl _)).more hb.size, (h.2.2.1.below hb (Nat.le_refl _)).more hb.size, h.2.2.2⟩
def GQR (w : World) (x : Rq × Int) (en : Ending) (w' : World) : Prop :=
  ∃ A1 n1 c1 A2 n2 c2 A3 n3 c3, en = .returned (.tuple #[reqV x.1 A1 n1 c1 A2 n2 c2 A3 n3 c3, .int .i64 x.2]) ∧ Three w' A1 n1 A2 n2 A3 n3 x.1.ints x.1.texts x.1.blob ∧ x.1.who.size ≤ 64 ∧ Below w.heap.size w w'
def GPR (w : World) (x : Rp × Int) (en : Ending) (w' : World) : Prop :=
  ∃ A1 n1 c1 A2 n2 c2 A3 n3 c3, en = .returned (.tuple #[respV x.1 A1 n1 c1 A2 n2 c2 A3 n3 c3, .int .i64 x.2]) ∧ Three w' A1 n1 A2 n2 A3 n3 x.1.ints x.1.texts x.1.blob ∧ Below w.heap.size w w'
section
variable {α β : Type} {a : Codec α} {l : List UInt8} {p e q z q2 z2 : Int} {x : α} {y : β}
end
/-! a text as bytes -/
end Go.Proofs.YtlfbagkonckffaaGreat.Pro

/- The contract of octet.Unfold. -/
namespace Go.Proofs.YtlfbagkonckffaaGreat.Oct
open Go.RowKit

end Go.Proofs.YtlfbagkonckffaaGreat.Oct

/- The contract of octet.GetVar. -/
namespace Go.Proofs.YtlfbagkonckffaaGreat.Oct
open Go.RowKit

end Go.Proofs.YtlfbagkonckffaaGreat.Oct

/- The contract of octet.GetText. -/
namespace Go.Proofs.YtlfbagkonckffaaGreat.Oct
open Go.RowKit

end Go.Proofs.YtlfbagkonckffaaGreat.Oct

/- The landed reader's methods. -/
namespace Go.Proofs.YtlfbagkonckffaaGreat.Pro
open Go.RowKit Oct Rec Cod Lay RowF

def stO (l : List UInt8) (p e : Int) : Nat × Int × Int := if e ≠ 0 then (0, p, e) else ((gt l p 1).1, p + 1, (gt l p 1).2)
end Go.Proofs.YtlfbagkonckffaaGreat.Pro

/- The landed reader's methods: head, count, numbers, texts, end. -/
namespace Go.Proofs.YtlfbagkonckffaaGreat.Pro
open Go.RowKit Oct Rec Cod Lay RowF

def hdE (l : List UInt8) : Int := if (l.length : Int) < 2 then 10 else known (kv l 0).1 (kv l 0).2
def hdV (l : List UInt8) : Int × Int := if hdE l = 0 then kv l 0 else (0, 0)
def ckB (lo hi ab n : Int) : Int := if n < lo then 11 else if hi < n then ab else 0
end Go.Proofs.YtlfbagkonckffaaGreat.Pro

/- The landed reader's end. -/
namespace Go.Proofs.YtlfbagkonckffaaGreat.Pro
open Go.RowKit Oct Rec Cod Lay RowF InR

def enE (n : Nat) (p e : Int) : Int := if e ≠ 0 then e else if p < (n : Int) then 11 else 0
end Go.Proofs.YtlfbagkonckffaaGreat.Pro

/- The contract of the landed GetReq. -/
namespace Go.Proofs.YtlfbagkonckffaaGreat.Pro
open Go.RowKit Oct Rec Cod Lay RowF InR

end Go.Proofs.YtlfbagkonckffaaGreat.Pro

/- The contract of the landed GetResp. -/
namespace Go.Proofs.YtlfbagkonckffaaGreat.Pro
open Go.RowKit Oct Rec Cod Lay RowF InR

end Go.Proofs.YtlfbagkonckffaaGreat.Pro

/- Spans in memory, and as a law is handed them; requests and answers, too. -/
namespace Go.Proofs.YtlfbagkonckffaaGreat.Pro
open Go.RowKit Go.ChangeShapes Go.WideShapes Go.Deep Oct Lay RowF

def spc (s : Sp) : List Value := [.int .i64 s.kind, .int .i64 s.lo, .int .i64 s.hi]
def FitS (s : Sp) : Prop := I64 s.kind ∧ I64 s.lo ∧ I64 s.hi
instance : Lay Sp where
  sz := 3
  pos := by decide
  is _ _ cs s := cs = spc s ∧ FitS s
  len h := by rw [h.1]; rfl
  keep h _ := h
  more h _ := h
section
variable {H : Type} {enc : TypeId × Value → H} {W : World} {base : Nat} {v : Value} {d : DataW H} {p : List MemPlace}
end
end Go.Proofs.YtlfbagkonckffaaGreat.Pro

/- The landed Spans and areSpans, and the search for a span; the document's Spans and SameSpans. -/
namespace Go.Proofs.YtlfbagkonckffaaGreat.Pro
open Go.RowKit Oct Lay RowF

def ones (k : Nat) : List Sp := (List.range k).map fun i : Nat => ⟨(i : Int) + 1, 0, 2⟩
def all12 : List Sp := ones 12
def rtRel (l : List Sp) (n : Nat) (w : World) (vp vi : Value) (wr : World) : Prop :=
  ∃ (k : Nat) (p : Int), vi = .int .i64 (k : Int) ∧ k ≤ n ∧ vp = .int .i64 p ∧ 0 ≤ p ∧ p ≤ 256 ∧ right l = rt (p - 1) (l.drop k) ∧ Below w.heap.size w wr
def ixRel (t : List Sp) (x : Sp) (n : Nat) (w : World) (i : Value) (wr : World) : Prop := ∃ k : Nat, i = .int .i64 (k : Int) ∧ k ≤ n ∧ (∀ y ∈ t.take k, y.kind ≠ x.kind) ∧ Below w.heap.size w wr
end Go.Proofs.YtlfbagkonckffaaGreat.Pro

/- The landed Agree. -/
namespace Go.Proofs.YtlfbagkonckffaaGreat.Pro
open Go.RowKit Oct Lay RowF InR

def AGR (w : World) (x : List Sp × Int) (en : Ending) (w' : World) : Prop :=
  ∃ A n c, en = .returned (.tuple #[.slice A n c, .int .i64 x.2]) ∧ RdL w' w'.heap.size A n x.1 ∧ n ≤ 1000000 ∧ Below w.heap.size w w'
end Go.Proofs.YtlfbagkonckffaaGreat.Pro

/- The laws' own live(). -/
namespace Go.Proofs.YtlfbagkonckffaaGreat.Pro
open Go.RowKit Oct Rec Cod Lay RowF

def exQ : Rq := ⟨5, 0, 5, ⟨#[]⟩, [7, 1, 1], [⟨#[110]⟩], []⟩
def exP : Rp := ⟨12, 1, 5, 0, 3, [-1], [], []⟩
def exB : List UInt8 := [5, 0, 10, 14, 2, 2, 2, 110]
theorem ex_put : reqC.put exQ = exB := by
  rw [put_eq, show (whoC exQ.ver).put exQ.who = [] from who_put0 (v := 0) (by decide) _, show (textsC exQ.kind).put exQ.texts = putMany txt64 exQ.texts from texts_put0 (k := 5) (by decide) _, show (blobC exQ.kind).put exQ.blob = [] from blob_put0 (k := 5) (by decide) _]
  show [UInt8.ofNat 5, UInt8.ofNat 0] ++ vb (zz 5) ++ [] ++ (vb (zz 7) ++ (vb (zz 1) ++ (vb (zz 1) ++ []))) ++ ((vb (zz ((ByteArray.mk #[110]).size : Int)) ++ [110]) ++ []) ++ [] = exB
  rw [vb_small (u := zz 5) (by decide), vb_small (u := zz 7) (by decide), vb_small (u := zz 1) (by decide), vb_small (u := zz ((ByteArray.mk #[110]).size : Int)) (by decide)]
  decide +kernel
theorem rdF_lit {α : Type} {f : α → List Value} {size : Nat} (hs : Shape f size) (w : World) (e : TypeId) (fr : Nat × Nat) (L : List α) (n : Nat) (hn : L.length = n) : RdF f size (w.alloc (.cells (L.flatMap f).toArray e fr)) (w.heap.size + 1) (some ⟨w.heap.size, 0, none⟩) n L := by
  refine ⟨hn, fun k x hk => ⟨w.heap.size, 0, rfl, by omega, fun i u hu => ?_⟩⟩
  rw [cell_of_row _ _ _ _ e fr (heap_alloc_new w _), Nat.zero_add]
  have hi : i < size := by have := (List.getElem?_eq_some_iff.1 hu).1; rw [hs.len] at this; exact this
  rw [List.getElem?_toArray, hs.at hk hi, hu]
end Go.Proofs.YtlfbagkonckffaaGreat.Pro
