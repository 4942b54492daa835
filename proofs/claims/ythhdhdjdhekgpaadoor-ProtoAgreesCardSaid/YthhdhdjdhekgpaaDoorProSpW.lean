/- Joined: ProSpW. -/
import Derived.Test.YthhdhdjdhekgpaaDoorProAgr
import Derived.Test.YthhdhdjdhekgpaaDoorLay
import Derived.Test.YthhdhdjdhekgpaaDoorJOct
import Derived.Test.YthhdhdjdhekgpaaDoorProMath
/- Spans in memory, and as a law is handed them; requests and answers, too. -/
namespace Go.Proofs.YthhdhdjdhekgpaaDoor.Pro
open Go.RowKit Go.ChangeShapes Go.WideShapes Go.Deep Go.Proofs.YthhdhdjdhekgpaaDoor.Oct Go.Proofs.YthhdhdjdhekgpaaDoor.Lay Go.Proofs.YthhdhdjdhekgpaaDoor.RowF

def spc (s : Sp) : List Value := [.int .i64 s.kind, .int .i64 s.lo, .int .i64 s.hi]
theorem spS : Shape spc 3 := ⟨fun _ => rfl, fun x u hu => by simp only [spc, List.mem_cons, List.not_mem_nil, or_false] at hu; rcases hu with rfl | rfl | rfl <;> rfl, by decide⟩
def FitS (s : Sp) : Prop := I64 s.kind ∧ I64 s.lo ∧ I64 s.hi
instance : Lay Sp where
  sz := 3
  pos := by decide
  is _ _ cs s := cs = spc s ∧ FitS s
  len h := by rw [h.1]; rfl
  keep h _ := h
  more h _ := h
theorem rdL_spans {w : World} {B n : Nat} {A : Option Addr} {L : List Sp} (h : RdF spc 3 w B A n L) (hi : ∀ x ∈ L, FitS x) : RdL w B A n L :=
  ⟨h.1, fun k x hx => by
    obtain ⟨b, o, hA, hb, hc⟩ := h.2 k x hx
    exact ⟨b, o, spc x, hA, hb, ⟨rfl, hi x (List.mem_of_getElem? hx)⟩, fun i v hv => hc i v hv⟩⟩
theorem sp_at {w : World} {B n k : Nat} {A : Option Addr} {l : List Sp} (h : RdL w B A n l) (hk : k < n) : ∃ b o x, A = some ⟨b, o, none⟩ ∧ b < B ∧ l[k]? = some x ∧ FitS x ∧ w.cell? ⟨b, o + k * 3, none⟩ = some (.int .i64 x.kind) ∧ w.cell? ⟨b, o + k * 3 + 1, none⟩ = some (.int .i64 x.lo) ∧ w.cell? ⟨b, o + k * 3 + 2, none⟩ = some (.int .i64 x.hi) := by
  obtain ⟨b, o, x, cs, hA, hb, hx, his, hc⟩ := h.at hk
  obtain ⟨rfl, hf⟩ := his
  exact ⟨b, o, x, hA, hb, hx, hf, hc 0 _ rfl, hc 1 _ rfl, hc 2 _ rfl⟩
theorem spRow : Info Tryd.prog 54 3 24 := by
  have h : (Tryd.prog.info? 54).map (fun i => (i.zero, i.size, i.bytes)) = some (some (.agg #[.int .i64 0, .int .i64 0, .int .i64 0]), 3, 24) := by kernel_rfl
  obtain ⟨i, hi, hz, hs, hb⟩ := info_parts h
  exact ⟨i, _, hi, hz, hs, hb, rfl⟩
theorem opens_span : Opens Tryd.prog 54 Sp := by
  intro H enc w fuel cs d pl h hl hz
  obtain ⟨n, hat⟩ := opens_fields Tryd.underlying54 (by kernel_rfl) h hz hl
  obtain ⟨u0, d0, p0, c0, t0, z0⟩ := hat 0 _ rfl
  obtain ⟨u1, d1, p1, c1, t1, z1⟩ := hat 1 _ rfl
  obtain ⟨u2, d2, p2, c2, t2, z2⟩ := hat 2 _ rfl
  obtain ⟨x0, rfl, h0⟩ := opens_int Tryd.underlying3 H enc w n u0 d0 p0 t0 z0
  obtain ⟨x1, rfl, h1⟩ := opens_int Tryd.underlying3 H enc w n u1 d1 p1 t1 z1
  obtain ⟨x2, rfl, h2⟩ := opens_int Tryd.underlying3 H enc w n u2 d2 p2 t2 z2
  match cs, hl with
  | [_, _, _], _ =>
    simp only [List.getElem?_cons_zero, List.getElem?_cons_succ, Option.some.injEq] at c0 c1 c2
    exact ⟨⟨x0, x1, x2⟩, by rw [c0, c1, c2]; rfl, h0, h1, h2⟩
section
variable {H : Type} {enc : TypeId × Value → H} {W : World} {base : Nat} {v : Value} {d : DataW H} {p : List MemPlace}
set_option maxRecDepth 100000 in
theorem open_spans (hv : Value.okWide Tryd.prog W .any base 45 v) (h : DataW.Trod enc Tryd.prog W 0 (fun _ => true) true 45 v d p) (hz : ∀ z ∈ DataW.weights Tryd.prog 45 d, z ≤ reachBytes) :
    ∃ (A : Option Addr) (n c : Nat) (l : List Sp), v = .slice A n c ∧ n ≤ c ∧ c ≤ reach ∧ RdL W W.heap.size A n l := by
  obtain ⟨A, n, c, rfl⟩ := okWide_slice Tryd.underlying45 hv
  obtain ⟨fuel, hf⟩ := h
  obtain ⟨l, A', n', c', e, hc, hr, hR⟩ := opens_slice (α := Sp) Tryd.underlying45 (by kernel_rfl) (of_decide_eq_true (by kernel_rfl)) opens_span H enc W fuel _ d p hf hz
  exact ⟨A', n', c', l, e, hc, hr, hR⟩
end
end Go.Proofs.YthhdhdjdhekgpaaDoor.Pro
