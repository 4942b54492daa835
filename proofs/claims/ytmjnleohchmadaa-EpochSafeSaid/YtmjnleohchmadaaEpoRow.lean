/- Joined: EpoRow. -/
import Derived.Test.YtmjnleohchmadaaProg
import Derived.Test.YtmjnleohchmadaaJBatA
import Derived.Test.YtmjnleohchmadaaJOct
import Derived.Test.YtmjnleohchmadaaEpoMath
/- Epochs in memory, and as a law is handed them. -/
namespace Go.Proofs.Ytmjnleohchmadaa.Epo
open Go.RowKit Go.ChangeShapes Go.WideShapes Go.Deep Go.Proofs.Ytmjnleohchmadaa.Oct Go.Proofs.Ytmjnleohchmadaa.Lay Go.Proofs.Ytmjnleohchmadaa.RowF

def epC (x : Ep) : List Value := [.int .i64 x.ep, .int .i64 x.st]
theorem epS : Shape epC 2 := ⟨fun _ => rfl, fun x u hu => by simp only [epC, List.mem_cons, List.not_mem_nil, or_false] at hu; rcases hu with rfl | rfl <;> rfl, by decide⟩
abbrev RdE (w : World) (B : Nat) (A : Option Addr) (n : Nat) (l : List Ep) : Prop := RdF epC 2 w B A n l
abbrev OwnE (w : World) (B : Nat) (v : Value) (n : Nat) (l : List Ep) : Prop := OwnF epC 2 w 32 B v n l
instance : Lay Ep where
  sz := 2
  pos := by decide
  is _ _ cs s := cs = epC s
  len h := by rw [h]; rfl
  keep h _ := h
  more h _ := h
theorem ep_at {w : World} {B n k : Nat} {A : Option Addr} {l : List Ep} (h : RdE w B A n l) (hk : k < n) : ∃ b o x, A = some ⟨b, o, none⟩ ∧ b < B ∧ l[k]? = some x ∧ w.cell? ⟨b, o + k * 2, none⟩ = some (.int .i64 x.ep) ∧ w.cell? ⟨b, o + k * 2 + 1, none⟩ = some (.int .i64 x.st) := by
  obtain ⟨b, o, x, hA, hb, hx, hc⟩ := h.at hk
  exact ⟨b, o, x, hA, hb, hx, hc 0 _ rfl, hc 1 _ rfl⟩
theorem rdE_cut {w : World} {B n : Nat} {A : Option Addr} {l : List Ep} (h : RdE w B A n l) {i m : Nat} (hm : i + m ≤ n) (A' : Option Addr) (hA : 0 < m → A' = A.map (fun a => a.add (i * 2))) : RdE w B A' m ((l.drop i).take m) := by
  have hl := h.len
  refine ⟨by rw [List.length_take, List.length_drop]; omega, fun k x hx => ?_⟩
  have hk : k < m := by have := (List.getElem?_eq_some_iff.1 hx).1; rw [List.length_take] at this; omega
  rw [List.getElem?_take, if_pos hk, List.getElem?_drop] at hx
  obtain ⟨b, o, hAA, hb, hc⟩ := h.2 (i + k) x hx
  rw [hA (by omega), hAA]
  refine ⟨b, o + i * 2, by simp [Addr.add], hb, fun j v hv => ?_⟩
  have := hc j v hv
  rw [show o + i * 2 + k * 2 + j = o + (i + k) * 2 + j by omega]
  exact this
theorem epInfo : Info Try.prog 32 2 16 := by
  have h : (Try.prog.info? 32).map (fun i => (i.zero, i.size, i.bytes)) = some (some (.agg #[.int .i64 0, .int .i64 0]), 2, 16) := by kernel_rfl
  obtain ⟨i, hi, hz, hs, hb⟩ := info_parts h
  exact ⟨i, _, hi, hz, hs, hb, rfl⟩
section
variable {H : Type} {enc : TypeId × Value → H} {W : World} {base : Nat} {v : Value} {d : DataW H} {p : List MemPlace}
end
end Go.Proofs.Ytmjnleohchmadaa.Epo
