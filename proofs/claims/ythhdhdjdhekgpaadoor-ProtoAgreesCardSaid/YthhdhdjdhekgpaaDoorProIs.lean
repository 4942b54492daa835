/- Joined: ProIs. -/
import Derived.Test.YthhdhdjdhekgpaaDoorProM
import Derived.Test.YthhdhdjdhekgpaaDoorProLive2
import Derived.Test.YthhdhdjdhekgpaaDoorJCrc
/- The landed proto's calls with their values written out. -/
namespace Go.Proofs.YthhdhdjdhekgpaaDoor.Pro
open Go.RowKit Go.Proofs.YthhdhdjdhekgpaaDoor.Oct Go.Proofs.YthhdhdjdhekgpaaDoor.Rec Go.Proofs.YthhdhdjdhekgpaaDoor.Cod Go.Proofs.YthhdhdjdhekgpaaDoor.Lay Go.Proofs.YthhdhdjdhekgpaaDoor.RowF

theorem GetReq_is (A : Option Addr) (n c : Nat) (l : List UInt8) (w0 w : World) (hr : Rd w0 w0.heap.size A n l) (hb : Below w0.heap.size w0 w) (hc : n ≤ c) (hn : n ≤ 1099511627776) (ht : Tab w0) {k v i : Int} {s : ByteArray} {l1 : List Int} {l2 : List ByteArray} {l3 : List UInt8} {e : Int} (h : gtQ l = (⟨k, v, i, s, l1, l2, l3⟩, e)) :
    Calls Tryd.prog 16 #[.slice A n c] w fun en w' => ∃ A1 n1 c1 A2 n2 c2 A3 n3 c3, en = .returned (.tuple #[.agg #[.int .i64 k, .int .i64 v, .int .i64 i, .string s, .slice A1 n1 c1, .slice A2 n2 c2, .slice A3 n3 c3], .int .i64 e]) ∧ Three w' A1 n1 A2 n2 A3 n3 l1 l2 l3 ∧ s.size ≤ 64 ∧ Below w.heap.size w w' := by
  have h1 := GetReq_any A n c l w ((hr.below hb (Nat.le_refl _)).more hb.size) hc hn (ht.bel hb)
  rw [h] at h1
  exact h1
theorem GetResp_is (A : Option Addr) (n c : Nat) (l : List UInt8) (w0 w : World) (hr : Rd w0 w0.heap.size A n l) (hb : Below w0.heap.size w0 w) (hc : n ≤ c) (hn : n ≤ 1099511627776) {k v i E t : Int} {l1 : List Int} {l2 : List ByteArray} {l3 : List UInt8} {e : Int} (h : gtP l = (⟨k, v, i, E, t, l1, l2, l3⟩, e)) :
    Calls Tryd.prog 24 #[.slice A n c] w fun en w' => ∃ A1 n1 c1 A2 n2 c2 A3 n3 c3, en = .returned (.tuple #[.agg #[.int .i64 k, .int .i64 v, .int .i64 i, .int .i64 E, .int .i64 t, .slice A1 n1 c1, .slice A2 n2 c2, .slice A3 n3 c3], .int .i64 e]) ∧ Three w' A1 n1 A2 n2 A3 n3 l1 l2 l3 ∧ Below w.heap.size w w' := by
  have h1 := GetResp_any A n c l w ((hr.below hb (Nat.le_refl _)).more hb.size) hc hn
  rw [h] at h1
  exact h1
theorem PutReq_is (k v i : Int) (s : ByteArray) (A1 : Option Addr) (n1 c1 : Nat) (l1 : List Int) (A2 : Option Addr) (n2 c2 : Nat) (l2 : List ByteArray) (A3 : Option Addr) (n3 c3 : Nat) (l3 : List UInt8) (w0 w : World) (hI : RdL w0 w0.heap.size A1 n1 l1) (hn1 : n1 ≤ 140737488351232) (hT : RdL w0 w0.heap.size A2 n2 l2) (hn2 : n2 ≤ 140737488351232) (hs47 : s.size ≤ 140737488351232) (hR : Rd w0 w0.heap.size A3 n3 l3) (hn3 : n3 ≤ 140737488351232) (hb : Below w0.heap.size w0 w) (ht : Tab w) {x : List UInt8} {e : Int} (h : ptQ ⟨k, v, i, s, l1, l2, l3⟩ = (x, e)) :
    Calls Tryd.prog 14 #[.agg #[.int .i64 k, .int .i64 v, .int .i64 i, .string s, .slice A1 n1 c1, .slice A2 n2 c2, .slice A3 n3 c3]] w fun en w' => ∃ A n c, en = .returned (.tuple #[.slice A n c, .int .i64 e]) ∧ Rd w' w'.heap.size A n x ∧ n ≤ c ∧ Below w.heap.size w w' := by
  have h1 := PutReq_any k v i s A1 n1 c1 l1 A2 n2 c2 l2 A3 n3 c3 l3 w ((hI.below hb (Nat.le_refl _)).more hb.size) hn1 ((hT.below hb (Nat.le_refl _)).more hb.size) hn2 hs47 ((hR.below hb (Nat.le_refl _)).more hb.size) hn3 ht
  rw [h] at h1
  exact h1
theorem PutResp_is (k v i E t : Int) (A1 : Option Addr) (n1 c1 : Nat) (l1 : List Int) (A2 : Option Addr) (n2 c2 : Nat) (l2 : List ByteArray) (A3 : Option Addr) (n3 c3 : Nat) (l3 : List UInt8) (w0 w : World) (hI : RdL w0 w0.heap.size A1 n1 l1) (hn1 : n1 ≤ 140737488351232) (hT : RdL w0 w0.heap.size A2 n2 l2) (hn2 : n2 ≤ 140737488351232) (hR : Rd w0 w0.heap.size A3 n3 l3) (hn3 : n3 ≤ 140737488351232) (hb : Below w0.heap.size w0 w) {x : List UInt8} {e : Int} (h : ptP ⟨k, v, i, E, t, l1, l2, l3⟩ = (x, e)) :
    Calls Tryd.prog 22 #[.agg #[.int .i64 k, .int .i64 v, .int .i64 i, .int .i64 E, .int .i64 t, .slice A1 n1 c1, .slice A2 n2 c2, .slice A3 n3 c3]] w fun en w' => ∃ A n c, en = .returned (.tuple #[.slice A n c, .int .i64 e]) ∧ Rd w' w'.heap.size A n x ∧ n ≤ c ∧ Below w.heap.size w w' := by
  have h1 := PutResp_any k v i E t A1 n1 c1 l1 A2 n2 c2 l2 A3 n3 c3 l3 w ((hI.below hb (Nat.le_refl _)).more hb.size) hn1 ((hT.below hb (Nat.le_refl _)).more hb.size) hn2 ((hR.below hb (Nat.le_refl _)).more hb.size) hn3
  rw [h] at h1
  exact h1
theorem lup {α : Type} [Lay α] {w0 w : World} {A : Option Addr} {n : Nat} {l : List α} (h : RdL w0 w0.heap.size A n l) (hb : Below w0.heap.size w0 w) : RdL w w.heap.size A n l := (h.below hb (Nat.le_refl _)).more hb.size
theorem rup {w0 w : World} {A : Option Addr} {n : Nat} {l : List UInt8} (h : Rd w0 w0.heap.size A n l) (hb : Below w0.heap.size w0 w) : Rd w w.heap.size A n l := (h.below hb (Nat.le_refl _)).more hb.size
theorem Agree_is (A1 : Option Addr) (n1 c1 : Nat) (m : List Sp) (A2 : Option Addr) (n2 c2 : Nat) (t : List Sp) (w : World) (hr : RdL w w.heap.size A1 n1 m) (hr2 : RdL w w.heap.size A2 n2 t) (hn1 : n1 ≤ 1000000) (hn2 : n2 ≤ 1000000) {L : List Sp} {e : Int} (h : agr m t = (L, e)) :
    Calls Tryd.prog 27 #[.slice A1 n1 c1, .slice A2 n2 c2] w fun en w' => ∃ A n c, en = .returned (.tuple #[.slice A n c, .int .i64 e]) ∧ RdL w' w'.heap.size A n L ∧ n ≤ 1000000 ∧ Below w.heap.size w w' := by
  have h1 := Agree_any A1 n1 c1 m A2 n2 c2 t w hr hr2 hn1 hn2
  rw [h] at h1
  exact h1
/-- the law's own live -/
theorem live_is (w0 w : World) (hb : Below w0.heap.size w0 w) (ht : Tab w0) : Calls Tryd.prog 12 #[] w fun e w' => e = .returned (.bool true) ∧ Below w.heap.size w w' := live_any w (ht.bel hb)
end Go.Proofs.YthhdhdjdhekgpaaDoor.Pro
