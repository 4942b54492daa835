/- Joined: ProLive. -/
import Derived.Test.YthhdhdjdhekgpaaDoorProM
import Derived.Test.YthhdhdjdhekgpaaDoorProG1
import Derived.Test.YthhdhdjdhekgpaaDoorProG2
import Derived.Test.YthhdhdjdhekgpaaDoorProAg
import Derived.Test.YthhdhdjdhekgpaaDoorJCrc
/- The laws' own live(). -/
namespace Go.Proofs.YthhdhdjdhekgpaaDoor.Pro
open Go.RowKit Go.Proofs.YthhdhdjdhekgpaaDoor.Oct Go.Proofs.YthhdhdjdhekgpaaDoor.Rec Go.Proofs.YthhdhdjdhekgpaaDoor.Cod Go.Proofs.YthhdhdjdhekgpaaDoor.Lay Go.Proofs.YthhdhdjdhekgpaaDoor.RowF

def exQ : Rq := ⟨5, 0, 5, ⟨#[]⟩, [7, 1, 1], [⟨#[110]⟩], []⟩
def exP : Rp := ⟨12, 1, 5, 0, 3, [-1], [], []⟩
def exB : List UInt8 := [5, 0, 10, 14, 2, 2, 2, 110]
theorem ex_ckQ : ckQ exQ = 0 := by decide +kernel
theorem ex_ckP : ckP exP = 0 := by decide +kernel
theorem ex_put : reqC.put exQ = exB := by
  rw [put_eq, show (whoC exQ.ver).put exQ.who = [] from who_put0 (v := 0) (by decide) _, show (textsC exQ.kind).put exQ.texts = putMany txt64 exQ.texts from texts_put0 (k := 5) (by decide) _, show (blobC exQ.kind).put exQ.blob = [] from blob_put0 (k := 5) (by decide) _]
  show [UInt8.ofNat 5, UInt8.ofNat 0] ++ vb (zz 5) ++ [] ++ (vb (zz 7) ++ (vb (zz 1) ++ (vb (zz 1) ++ []))) ++ ((vb (zz ((ByteArray.mk #[110]).size : Int)) ++ [110]) ++ []) ++ [] = exB
  rw [vb_small (u := zz 5) (by decide), vb_small (u := zz 7) (by decide), vb_small (u := zz 1) (by decide), vb_small (u := zz ((ByteArray.mk #[110]).size : Int)) (by decide)]
  decide +kernel
theorem ex_ptQ : ptQ exQ = (exB, 0) := by unfold ptQ; rw [if_pos ex_ckQ, ex_put]
theorem ex_gtQ : gtQ exB = (exQ, 0) := by rw [← ex_put]; exact gtQ_put ex_ckQ
theorem ex_ptP : ptP exP = (respC.put exP, 0) := by unfold ptP; rw [if_pos ex_ckP]
theorem ex_gtP : gtP (respC.put exP) = (exP, 0) := gtP_put ex_ckP
theorem ex_agr1 : agr [⟨1, 0, 2⟩, ⟨3, 0, 0⟩] [⟨1, 1, 5⟩] = ([⟨1, 1, 2⟩], 0) := by decide +kernel
theorem ex_agr2 : agr [⟨1, 0, 2⟩] [⟨1, 3, 5⟩] = ([], 61) := by decide +kernel
theorem ex_none : gtQ [13, 0] = (nilQ, 60) := by
  have h := gtQ_tells [13, 0]
  have h2 : (gtQ [13, 0]).2 = 60 := (h.2.1 (by decide) (by decide)).trans (by decide)
  have h3 := gtQ_bad (l := [13, 0]) (r := (gtQ [13, 0]).1) (e := 60) (by rw [← h2]) (by decide)
  rw [← h3, ← h2]
theorem ex_one : ckQ ⟨1, 0, 0, ⟨#[]⟩, [], [], []⟩ = 1 := by decide +kernel
/-- a block that has just been laid reads -/
theorem rdF_lit {α : Type} {f : α → List Value} {size : Nat} (hs : Shape f size) (w : World) (e : TypeId) (fr : Nat × Nat) (L : List α) (n : Nat) (hn : L.length = n) : RdF f size (w.alloc (.cells (L.flatMap f).toArray e fr)) (w.heap.size + 1) (some ⟨w.heap.size, 0, none⟩) n L := by
  refine ⟨hn, fun k x hk => ⟨w.heap.size, 0, rfl, by omega, fun i u hu => ?_⟩⟩
  rw [cell_of_row _ _ _ _ e fr (heap_alloc_new w _), Nat.zero_add]
  have hi : i < size := by have := (List.getElem?_eq_some_iff.1 hu).1; rw [hs.len] at this; exact this
  rw [List.getElem?_toArray, hs.at hk hi, hu]
theorem ex_len : (respC.put exP).length ≤ 100 := by
  rw [putr_eq]
  show ([UInt8.ofNat 12, UInt8.ofNat 1] ++ vb (zz 5) ++ vb (zz 0) ++ (waitC 1).put 3 ++ vb (zz 1) ++ (vb (zz (-1)) ++ []) ++ vb (zz 0) ++ [] ++ vb (zz 0) ++ []).length ≤ 100
  rw [wait_put1 (by decide), vb_small (u := zz 5) (by decide), vb_small (u := zz 0) (by decide), vb_small (u := zz 3) (by decide), vb_small (u := zz 1) (by decide), vb_small (u := zz (-1)) (by decide)]
  decide
end Go.Proofs.YthhdhdjdhekgpaaDoor.Pro
