/- A record that a law is handed by value, as the walks take it. -/
import Derived.Test.YtfjdalekpmlnaaaEnds
import Derived.Test.YtfjdalekpmlnaaaRecMath
import Derived.Test.YtfjdalekpmlnaaaOctU8
namespace Go.Proofs.Ytfjdalekpmlnaaa.Rec
open Go.RowKit Go.ChangeShapes Go.WideShapes Go.Deep Go.Proofs.Ytfjdalekpmlnaaa.Oct

theorem one_cell {u v : Value} (h : [u] = [v]) : u = v := by injection h
theorem open_rec {H : Type} {enc : TypeId × Value → H} {W : World} {base : Nat} {v : Value} {d : DataW H} {p : List MemPlace}
    (hv : Value.okWide Try.prog W .any base 23 v) (h : DataW.Trod enc Try.prog W 0 (fun _ => true) true 23 v d p) :
    ∃ (o : Int) (k x : ByteArray) (b : Bool) (s : Int), v = .agg #[.int .i64 o, .string k, .string x, .bool b, .int .i64 s] ∧ I64 o ∧ I64 s ∧ k.size ≤ maxLen ∧ x.size ≤ maxLen := by
  obtain ⟨cs, rfl, hsz, n, hat⟩ := struct_cells Try.underlying23 (by kernel_rfl) (by kernel_rfl) hv h
  obtain ⟨u0, y0, c0, t0⟩ := hat 0 _ rfl
  obtain ⟨u1, y1, c1, t1⟩ := hat 1 _ rfl
  obtain ⟨u2, y2, c2, t2⟩ := hat 2 _ rfl
  obtain ⟨u3, y3, c3, t3⟩ := hat 3 _ rfl
  obtain ⟨u4, y4, c4, t4⟩ := hat 4 _ rfl
  obtain ⟨o, e0, _, w0⟩ := DataW.trod_int Try.underlying3 t0
  obtain ⟨k, e1, _, w1⟩ := DataW.trod_string Try.underlying9 t1
  obtain ⟨x, e2, _, w2⟩ := DataW.trod_string Try.underlying9 t2
  obtain ⟨b, e3, _⟩ := DataW.trod_bool Try.underlying4 t3
  obtain ⟨s, e4, _, w4⟩ := DataW.trod_int Try.underlying3 t4
  obtain rfl := one_cell e0
  obtain rfl := one_cell e1
  obtain rfl := one_cell e2
  obtain rfl := one_cell e3
  obtain rfl := one_cell e4
  refine ⟨o, k, x, b, s, ?_, bounds_i64 w0, bounds_i64 w4, w1, w2⟩
  congr 1
  apply Array.ext_getElem?
  intro i
  match i with
  | 0 => exact c0
  | 1 => exact c1
  | 2 => exact c2
  | 3 => exact c3
  | 4 => exact c4
  | i + 5 =>
    have hs : cs.size = 5 := hsz
    rw [Array.getElem?_eq_none (by omega), Array.getElem?_eq_none (by simp)]
end Go.Proofs.Ytfjdalekpmlnaaa.Rec
