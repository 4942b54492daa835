/- Few; the walks of RecReads, RecShort. -/
import Derived.Test.YtfjdalekpmlnaaaRecLive
namespace Go.Proofs.Ytfjdalekpmlnaaa.Rec
open Go.RowKit Go.Proofs.Ytfjdalekpmlnaaa.Oct Go.Proofs.Ytfjdalekpmlnaaa.Crc

theorem Box.alloc {w : World} {g : Nat} {r : Rc} (h : Box w g r) (hg : g < w.heap.size) (o : Obj) : Box (w.alloc o) g r := h.below (bel_alloc (Below.refl _ _) o) hg
theorem refFew_yes (o s : Int) (k v : ByteArray) (d : Bool) (w : World) (hk : k.size ≤ 300) (hv : v.size ≤ 300) :
    Calls Try.prog 13 #[.agg #[.int .i64 o, .string k, .string v, .bool d, .int .i64 s]] w fun e w' => e = .returned (.bool true) ∧ Below w.heap.size w w' := by
  have c3 : decide ((k.size : Int) ≤ 300) = true := by simp; omega
  have c4 : decide ((v.size : Int) ≤ 300) = true := by simp; omega
  go_enter Try.func13, Try.ntmps13
  go_wp2
  go_ret
  exact ⟨rfl, (Below.refl _ _).alloc (Nat.le_refl _) _⟩
theorem refFew_no (o s : Int) (k v : ByteArray) (d : Bool) (w : World) (hk : k.size ≤ maxLen) (hv : v.size ≤ maxLen) (h : 300 < k.size ∨ 300 < v.size) :
    Calls Try.prog 13 #[.agg #[.int .i64 o, .string k, .string v, .bool d, .int .i64 s]] w fun e w' => e = .returned (.bool false) ∧ Below w.heap.size w w' := by
  by_cases h1 : 300 < k.size
  · have c3 : decide ((k.size : Int) ≤ 300) = false := by simp; omega
    clear h
    go_enter Try.func13, Try.ntmps13
    go_wp2
    go_ret
    exact ⟨rfl, (Below.refl _ _).alloc (Nat.le_refl _) _⟩
  · have c3 : decide ((k.size : Int) ≤ 300) = true := by simp; omega
    have c4 : decide ((v.size : Int) ≤ 300) = false := by simp; omega
    clear h
    go_enter Try.func13, Try.ntmps13
    go_wp2
    go_ret
    exact ⟨rfl, (Below.refl _ _).alloc (Nat.le_refl _) _⟩
theorem Get_f (A : Option Addr) (n c : Nat) (l : List UInt8) (B : Nat) (p b t : Int) (w : World) (hr : Rd w B A n l) (hB : B ≤ w.heap.size) (hc : n ≤ c) (hn : n ≤ 137438953472) (hp : I64 p) (hb : I64 b) (ht : I64 t) {o s : Int} {k v : ByteArray} {d : Bool} {q z : Int} (h : gr l p b t = (⟨o, k, v, d, s⟩, q, z)) :
    Calls Try.prog 20 #[.slice A n c, .int .i64 p, .int .i64 b, .int .i64 t] w fun e w' => e = .returned (.tuple #[.agg #[.int .i64 o, .string k, .string v, .bool d, .int .i64 s], .int .i64 q, .int .i64 z]) ∧ Below w.heap.size w w' :=
  Get_is A n c l B p b t w hr hB hc hn hp hb ht h
theorem refGet_f (A : Option Addr) (n c : Nat) (l : List UInt8) (B : Nat) (p b t : Int) (w : World) (hr : Rd w B A n l) (hB : B ≤ w.heap.size) (hc : n ≤ c) (hn : n ≤ 137438953472) (hp : I64 p) {o s : Int} {k v : ByteArray} {d : Bool} {q z : Int} (h : gr l p b t = (⟨o, k, v, d, s⟩, q, z)) :
    Calls Try.prog 21 #[.slice A n c, .int .i64 p, .int .i64 b, .int .i64 t] w fun e w' => e = .returned (.tuple #[.agg #[.int .i64 o, .string k, .string v, .bool d, .int .i64 s], .int .i64 q, .int .i64 z]) ∧ Below w.heap.size w w' := by
  have h1 := refGet_any A n c l B p b t w hr hB hc (by omega) hp.1 hp.2
  rw [h] at h1
  exact h1

set_option maxRecDepth 100000 in
set_option maxHeartbeats 1000000 in
theorem recReads_walk (A : Option Addr) (n c : Nat) (l : List UInt8) (p b t : Int) (w : World) (hr : Rd w w.heap.size A n l) (hc : n ≤ c) (hp : I64 p) (hb : I64 b) (ht : I64 t) :
    Calls Try.prog 4 #[.slice A n c, .int .i64 p, .int .i64 b, .int .i64 t] w fun e w' => e = .returned (.bool true) ∧ Below w.heap.size w w' := by
  have HR := Lib.hid hr
  clear hr
  by_cases hg : n ≤ 500
  · rcases hgr : gr l p b t with ⟨⟨o, k, v, d, s⟩, q, z⟩
    have HG := Lib.hid hgr
    clear hgr
    go_enter Try.func4, Try.ntmps4
    go_wp2_with (first
      | (go_at_call 12; refine (live_any _).mono ?_; rintro e w1 ⟨rfl, hb1⟩)
      | (go_at_call 20; refine (Get_f A n c l w.heap.size p b t w1 (HR.out.below hb1 (Nat.le_refl _)) hb1.size hc (by omega) hp hb ht HG.out).mono ?_; rintro e w2 ⟨rfl, hb2⟩; have hb12 := bel_trans hb1 hb2; have hb13 := bel_alloc hb12 (.cells #[.int .i64 o, .string k, .string v, .bool d, .int .i64 s] 23); have HX := Lib.hid (box_new w2 23 ⟨o, k, v, d, s⟩))
      | (go_at_call 21; refine (refGet_f A n c l w.heap.size p b t _ (HR.out.below hb13 (Nat.le_refl _)) hb13.size hc (by omega) hp HG.out).mono ?_; rintro e w3 ⟨rfl, hb3⟩; have hg3 : w2.heap.size < w3.heap.size := Nat.lt_of_lt_of_le (by simp) hb3.size; obtain ⟨x0, x1, x2, x3, x4⟩ := (HX.out.below hb3 (by simp)).alloc hg3 (.cells #[.int .i64 o, .string k, .string v, .bool d, .int .i64 s] 23)))
    go_ret
    exact ⟨rfl, bel_alloc (bel_trans hb13 hb3) _⟩
  · have hg1 : 500 < n := by omega
    clear hg
    go_enter Try.func4, Try.ntmps4
    go_wp2_with (go_at_call 12; refine (live_any _).mono ?_; rintro e w1 ⟨rfl, hb1⟩)
    go_ret
    exact ⟨rfl, hb1⟩
end Go.Proofs.Ytfjdalekpmlnaaa.Rec
