/- Joined: InX, EpoW, SqsR1, SqsR2, SqsD1. -/
import Derived.Test.YtllebgadhhgckaaDoorJ14
import Derived.Test.YtllebgadhhgckaaDoorJ13
import Derived.Test.YtllebgadhhgckaaDoorJ12
import Derived.Deep.DeepCutAuto
import Derived.Test.YtllebgadhhgckaaDoorJ01
/- A region that draws its order, in few letters: each operation by its number; what can be reckoned is left to default arguments. Nothing of the program. -/
namespace Go.Proofs.YtllebgadhhgckaaDoor.InR
open Go.RowKit

section
variable {P : Program} {md : Region.Mode} {ops L : Array Oper} {Q : Act → World → Prop} {S : World → Prop} {k d fuel m n i : Nat} {w : World} {oi : Oper} {tbl : List (Nat × Nat)} {v : Value}
theorem xq (i : Nat) {l : List Value} {ds} (hL : Hid (ops = L)) (hR : Hid (Reg md L k n tbl)) (hS : S w) (h : chn P md ops Q S k fuel (m ||| 2 ^ i) (Act.mk (l.set d v).toArray ds) w) (hi : L[i]? = some oi := by rfl) (hok : okT n tbl m i = true := by kernel_rfl) (hw : Region.wanted oi (yielded L l.toArray) = true := by kernel_rfl) (hd : oi.dst = some d := by rfl)
    (hy : ∀ w, S w → (execOp (Act.mk l.toArray ds).eval oi).run P w = .ok (.value v) w := by (intro w9 hS9; go_simp; (first | done | with_reducible rfl))) : chn P md ops Q S k (fuel + 1) m (Act.mk l.toArray ds) w := stepTQ hL hR i _ v rfl hi hok hw hd hy hS h
theorem xu (i : Nat) {l : List Value} {ds} (hL : Hid (ops = L)) (hR : Hid (Reg md L k n tbl)) (hS : S w) (h : chn P md ops Q S k fuel (m ||| 2 ^ i) (Act.mk (l.set d undef).toArray ds) w) (hi : L[i]? = some oi := by rfl) (hok : okT n tbl m i = true := by kernel_rfl) (hw : Region.wanted oi (yielded L l.toArray) = false := by kernel_rfl) (hd : oi.dst = some d := by rfl) :
    chn P md ops Q S k (fuel + 1) m (Act.mk l.toArray ds) w := stepTU hL hR i _ rfl hi hok hw hd hS h
theorem xc (i : Nat) {a : Act} (hL : Hid (ops = L)) (h : Oper.wp P oi a w (fun a' w' => S w' ∧ chn P md ops Q S k fuel (m ||| 2 ^ i) a' w') (Nrm (lift Q))) (hi : L[i]? = some oi := by rfl) (hok : okC md L m i = true := by kernel_rfl) (hw : Region.wanted oi (yielded L a.tmps) = true := by kernel_rfl) : chn P md ops Q S k (fuel + 1) m a w :=
  stepC hL i _ rfl hi hok hw (Oper.wp_mono (fun _ _ h => ⟨fun _ => h.1, h.2⟩) h)
theorem ls0 {x y : Value} {l : List Value} : (x :: l).set 0 y = y :: l := rfl
theorem ls1 {x y : Value} {l : List Value} {i : Nat} : (x :: l).set (i + 1) y = x :: l.set i y := rfl
end
end Go.Proofs.YtllebgadhhgckaaDoor.InR

/- Words for the walks of layer 10: boxes, cells of a row. Nothing of the program. -/
namespace Go.Proofs.YtllebgadhhgckaaDoor.Epo
open Go.RowKit Oct RowF Lay

section
variable {W X w w' : World} {g o : Nat} {cs : List Value} {e : TypeId} {a b : Value}
def At0 (W : World) (g : Nat) (cs : List Value) (e : TypeId) : Prop := W.heap[g]? = some (.cells cs.toArray e (0, 0))
theorem At0.lt (h : At0 W g cs e) : g < W.heap.size := (Array.getElem?_eq_some_iff.1 h).1
theorem At0.new (W : World) (cs : List Value) (e : TypeId) : At0 (W.alloc (.cells cs.toArray e)) W.heap.size cs e := World.alloc_heap_new W _
theorem At0.below (h : At0 W g cs e) (hb : Below W.heap.size W X) : At0 X g cs e := (hb.block g h.lt).trans h
theorem At0.cell (h : At0 W g cs e) (j : Nat) : W.cell? ⟨g, j, none⟩ = cs[j]? := by rw [cell_of_row _ _ _ _ e _ h]; simp
theorem At0.frozen (h : At0 W g cs e) (j : Nat) : W.frozen? ⟨g, j, none⟩ = false := frozen_of_row W g j _ e h
def AtO (W : World) (g o : Nat) (cs : List Value) : Prop := g < W.heap.size ∧ ∀ j v, cs[j]? = some v → W.cell? ⟨g, o + j, none⟩ = some v
theorem AtO.below (h : AtO W g o cs) (hb : Below W.heap.size W X) : AtO X g o cs := ⟨Nat.lt_of_lt_of_le h.1 hb.size, fun j v hv => (hb.cell (p := ⟨g, o + j, none⟩) h.1).trans (h.2 j v hv)⟩
theorem AtO.two (hl : g < W.heap.size) (h0 : W.cell? ⟨g, o, none⟩ = some a) (h1 : W.cell? ⟨g, o + 1, none⟩ = some b) : AtO W g o [a, b] := by
  refine ⟨hl, fun j x hx => ?_⟩
  match j, hx with
  | 0, hx => obtain rfl : a = x := Option.some.inj hx; exact h0
  | 1, hx => obtain rfl : b = x := Option.some.inj hx; exact h1
theorem belA (w : World) (o : Obj) : Below w.heap.size w (w.alloc o) := (Below.refl _ _).alloc (Nat.le_refl _) o
theorem bel_trans {w1 w2 : World} (h : Below w.heap.size w w1) (h2 : Below w1.heap.size w1 w2) : Below w.heap.size w w2 := h.trans (h2.mono h.size)
end
end Go.Proofs.YtllebgadhhgckaaDoor.Epo

/- The document's did, Check, Find, last. -/
namespace Go.Proofs.YtllebgadhhgckaaDoor.Sqs
open Go.RowKit Oct RowF RowK Lay Bat
open Epo (At0 belA)

theorem didK {w : World} {B n k b o : Nat} {l : List Dd} {x : Dd} (h : RdD w B (some ⟨b, o, none⟩) n l) (hx : l[k]? = some x) : b < B ∧ w.cell? ⟨b, o + k * 3, none⟩ = some (.int .i64 x.sq) ∧ w.cell? ⟨b, o + k * 3 + 1, none⟩ = some (.int .i64 x.la) ∧ w.cell? ⟨b, o + k * 3 + 2, none⟩ = some (.int .i64 x.ba) := by
  obtain ⟨b', o', hA, hb, hc⟩ := h.2 k x hx
  obtain ⟨rfl, rfl⟩ : b = b' ∧ o = o' := by simpa using hA
  exact ⟨hb, hc 0 _ rfl, hc 1 _ rfl, hc 2 _ rfl⟩
theorem rddUp {w w' : World} {A : Option Addr} {n : Nat} {l : List Dd} (h : RdD w w.heap.size A n l) (hb : Below w.heap.size w w') : RdD w' w'.heap.size A n l := (RdF.below h hb (Nat.le_refl _)).more hb.size
def prvD (l : List Dd) : Nat → Option Int
  | 0 => none
  | k + 1 => (l[k]?).map Dd.la
theorem chD_at {l : List Dd} {k : Nat} {x : Dd} {o : Option Int} (hk : l[k]? = some x) : chD o (l.drop k) = ((ddOk x && nextD o x) && chD (some x.la) (l.drop (k + 1))) := by
  rw [List.drop_eq_getElem_cons (List.getElem?_eq_some_iff.1 hk).1, (List.getElem?_eq_some_iff.1 hk).2]
  rfl
def didRel (l : List Dd) (n : Nat) (w : World) (iv : Value) (wr : World) : Prop :=
  ∃ k : Nat, iv = .int .i64 (k : Int) ∧ k ≤ n ∧ chD none l = chD (prvD l k) (l.drop k) ∧ (∀ y, 0 < k → l[k - 1]? = some y → 0 ≤ y.la ∧ y.la ≤ 1048576) ∧ Below w.heap.size w wr
theorem didOk_long {l : List Dd} (h : 5 < l.length) : didOk l = false := by unfold didOk; rw [decide_eq_false (by omega), Bool.and_false]
end Go.Proofs.YtllebgadhhgckaaDoor.Sqs

/- The document's Check of producers, Find, last. -/
namespace Go.Proofs.YtllebgadhhgckaaDoor.Sqs
open Go.RowKit Oct RowF RowK Lay Bat InR
open Epo (At0 AtO belA)

def tb_Check7 : List (Nat × Nat) := [(0, 549755813887), (1, 549755813886), (2, 549755813885), (4, 549755813883), (8, 549755813879), (24, 549755813863), (40, 549755813847), (72, 549755813815), (136, 549755813759), (256, 549755813631), (768, 549755813119), (1280, 549755812607), (2304, 549755811583), (4352, 549755809791), (8192, 549755805695), (24576, 549755789311), (40960, 549755772927), (73728, 549755740159), (139264, 549755682815), (262144, 549755551743), (786432, 549755027455), (1310720, 549754503167), (2097152, 549753716735), (6291456, 549749522431), (2097152, 549753716735), (2097152, 549753716735), (35651584, 549720162303), (85983232, 549669830655), (136314880, 549619499007), (270532608, 549485281279), (547356672, 549208457215), (1076101120, 548679712767), (2147745792, 547608068095), (4297064448, 545460846591), (8589934592, 541165879295), (25769803776, 523986010111), (42949672960, 506806140927), (77309411328, 472446402559), (146028888064, 403726925823)]
theorem ato_one {W : World} {g o : Nat} {a : Value} (hl : g < W.heap.size) (h : W.cell? ⟨g, o, none⟩ = some a) : AtO W g o [a] := ⟨hl, fun j v hv => by
  match j, hv with
  | 0, hv => obtain rfl : a = v := Option.some.inj hv; exact h⟩

def prvP (l : List Pd) : Nat → Int
  | 0 => -1
  | k + 1 => ((l[k]?).map Pd.pid).getD (-1)
theorem chP_at {l : List Pd} {k : Nat} {x : Pd} {v : Int} (hk : l[k]? = some x) : chP v (l.drop k) = (prOk v x && chP x.pid (l.drop (k + 1))) := by
  rw [List.drop_eq_getElem_cons (List.getElem?_eq_some_iff.1 hk).1, (List.getElem?_eq_some_iff.1 hk).2]
  rfl
def ckRelP (l : List Pd) (n : Nat) (w : World) (iv : Value) (wr : World) : Prop :=
  ∃ k : Nat, iv = .int .i64 (k : Int) ∧ k ≤ n ∧ chP (-1) l = chP (prvP l k) (l.drop k) ∧ Below w.heap.size w wr
end Go.Proofs.YtllebgadhhgckaaDoor.Sqs

/- The landed seqs: isWithin, wroteOf, mayBe, follow, Check. -/
namespace Go.Proofs.YtllebgadhhgckaaDoor.Sqs
open Go.RowKit Oct RowF RowK Lay Bat InR
open Epo (At0 belA)

theorem within_is (n a b : Int) (w : World) : Calls Tryd.prog 40 #[.int .i64 n, .int .i64 a, .int .i64 b] w fun e w' => e = .returned (.bool (decide (a ≤ n ∧ n ≤ b))) ∧ w = w' := by
  by_cases h0 : a ≤ n
  · by_cases h1 : n ≤ b
    · rw [decide_eq_true ⟨h0, h1⟩]
      go_enter Tryd.func40, Tryd.ntmps40
      go_wp2
      go_ret
      exact ⟨rfl, rfl⟩
    · rw [decide_eq_false (fun h => h1 h.2)]
      go_enter Tryd.func40, Tryd.ntmps40
      go_wp2
      go_ret
      exact ⟨rfl, rfl⟩
  · rw [decide_eq_false (fun h => h0 h.1)]
    go_enter Tryd.func40, Tryd.ntmps40
    go_wp2
    go_ret
    exact ⟨rfl, rfl⟩
theorem within_at (n a b : Int) (w : World) {z : Bool} (h : decide (a ≤ n ∧ n ≤ b) = z) : Calls Tryd.prog 40 #[.int .i64 n, .int .i64 a, .int .i64 b] w fun e w' => e = .returned (.bool z) ∧ w = w' := by
  subst h; exact within_is n a b w
theorem wroteOf_is (x0 x1 x2 : Int) (w : World) : Calls Tryd.prog 53 #[.agg #[.int .i64 x0, .int .i64 x1, .int .i64 x2]] w fun e w' => e = .returned (.agg #[.int .i64 x0, .int .i64 x1, .int .i64 x2]) ∧ Below w.heap.size w w' := by
  go_enter Tryd.func53, Tryd.ntmps53
  go_wp2
  refine bodyPost_ret (v := .agg #[.int .i64 x0, .int .i64 x1, .int .i64 x2]) (by simp [results, Tryd.results53, go_sem]) rfl ?_
  exact ⟨rfl, bel_trans (belA _ _) (belA _ _)⟩
theorem cel3 {W : World} {g : Nat} {a b c : Value} {e : TypeId} (h : At0 W g [a, b, c] e) : W.cell? ⟨g, 0, none⟩ = some a ∧ W.cell? ⟨g, 1, none⟩ = some b ∧ W.cell? ⟨g, 2, none⟩ = some c := ⟨h.cell 0, h.cell 1, h.cell 2⟩
theorem idx3 (a b c : Value) (k : Nat) (v : Value) (h : #[a, b, c][k]? = some v) (i : Int) (hi : i = (k : Int)) (w : World) : (Instr.index 73 (.agg #[a, b, c]) (.int .i64 i)).run Tryd.prog w = .ok v w := by
  subst hi
  have hk : k < 3 := (Array.getElem?_eq_some_iff.1 h).1
  have hk2 : (k : Int) < 3 := by omega
  have hv := (Array.getElem?_eq_some_iff.1 h).2
  simp [Instr.index, run_underlying Tryd.underlying73, asIntOf, go_sem, hk]
  simpa using hv
def mbRel (x0 x1 x2 : Int) (W0 : World) (iv : Value) (wr : World) : Prop :=
  ∃ k : Nat, iv = .int .i64 (k : Int) ∧ k ≤ 3 ∧ (0 < k → 0 ≤ x0 ∧ x0 ≤ 1048576) ∧ (1 < k → x0 ≤ x1 ∧ x1 ≤ 1048576) ∧ (2 < k → 0 ≤ x2 ∧ x2 ≤ 1099511627776) ∧ Below W0.heap.size W0 wr
set_option maxRecDepth 100000 in
set_option maxHeartbeats 8000000 in
theorem mayBe_is (x0 x1 x2 : Int) (w : World) {z : Bool} (hz : ddOk ⟨x0, x1, x2⟩ = z) : Calls Tryd.prog 68 #[.agg #[.int .i64 x0, .int .i64 x1, .int .i64 x2]] w fun e w' => e = .returned (.bool z) ∧ Below w.heap.size w w' := by
  have HZ := Lib.hid hz
  clear hz
  go_enter Tryd.func68, Tryd.ntmps68
  go_upto_region 3 with fail
  have b1 := belA w (.cells #[.int .i64 x0, .int .i64 x1, .int .i64 x2] 58)
  have b2 := belA (w.alloc (.cells #[.int .i64 x0, .int .i64 x1, .int .i64 x2] 58)) (.cells #[.int .i64 0, .int .i64 x0, .int .i64 0] 73)
  have b3 := belA ((w.alloc (.cells #[.int .i64 x0, .int .i64 x1, .int .i64 x2] 58)).alloc (.cells #[.int .i64 0, .int .i64 x0, .int .i64 0] 73)) (.cells #[.int .i64 1048576, .int .i64 1048576, .int .i64 1099511627776] 73)
  have HD := Lib.hid (((At0.new w [.int .i64 x0, .int .i64 x1, .int .i64 x2] 58).below b2).below b3)
  have h2 := (At0.new (w.alloc (.cells #[.int .i64 x0, .int .i64 x1, .int .i64 x2] 58)) [.int .i64 0, .int .i64 x0, .int .i64 0] 73).below b3
  have h3 := At0.new ((w.alloc (.cells #[.int .i64 x0, .int .i64 x1, .int .i64 x2] 58)).alloc (.cells #[.int .i64 0, .int .i64 x0, .int .i64 0] 73)) [.int .i64 1048576, .int .i64 1048576, .int .i64 1099511627776] 73
  have HB := Lib.hid (bel_trans (bel_trans b1 b2) b3)
  simp only [World.size_alloc] at h2 h3
  have HL := Lib.hid h2
  have HM := Lib.hid h3
  clear b1 b2 b3 h2 h3
  generalize (((w.alloc (.cells #[.int .i64 x0, .int .i64 x1, .int .i64 x2] 58)).alloc (.cells #[.int .i64 0, .int .i64 x0, .int .i64 0] 73)).alloc (.cells #[.int .i64 1048576, .int .i64 1048576, .int .i64 1099511627776] 73)) = W at *
  obtain ⟨c0, c1, c2⟩ := cel3 HD.out
  go_wp2_with (go_at_call 53; (with_reducible refine (wroteOf_is x0 x1 x2 _).mono ?_); rintro e w1 ⟨rfl, hb⟩; have HB1 := Lib.hid hb; clear hb)
  clear c0 c1 c2
  go_loopw [13] (fun iv wr => mbRel x0 x1 x2 W iv wr) (fun iv _ => 3 - (intOf iv).toNat)
  case atStart => exact ⟨0, rfl, by omega, fun h => by omega, fun h => by omega, fun h => by omega, HB1.out⟩
  case round =>
    obtain ⟨k, rfl, hk, hk0, hk1, hk2, hb⟩ := hrel
    have HBR := Lib.hid hb
    have HLR := Lib.hid (HL.out.below hb)
    have HMR := Lib.hid (HM.out.below hb)
    clear hb
    by_cases hlt : k < 3
    · obtain ⟨l0, l1, l2⟩ := cel3 HLR.out
      obtain ⟨m0, m1, m2⟩ := cel3 HMR.out
      obtain rfl | rfl | rfl : k = 0 ∨ k = 1 ∨ k = 2 := by omega
      · rcases h9 : decide (0 ≤ x0 ∧ x0 ≤ 1048576) with _ | _
        · have HT := Lib.hid (show z = false from by rw [← HZ.out]; exact decide_eq_false (by have := of_decide_eq_false h9; simp only; omega))
          have H9 := Lib.hid h9
          clear h9 hk0 hk1 hk2
          have hix := idx3 (.int .i64 x0) (.int .i64 x1) (.int .i64 x2) 0 (.int .i64 x0) rfl 0 rfl
          go_upto_region 6 with fail
          go_region_with (go_at_call 40; (with_reducible refine (within_at x0 0 1048576 _ H9.out).mono ?_); rintro e w2 ⟨rfl, rfl⟩)
          all_goals go_wp2
          all_goals go_ret
          all_goals exact ⟨by rw [HT.out]; rfl, bel_drew (bel_trans HB.out HBR.out)⟩
        · have HG := Lib.hid (of_decide_eq_true h9)
          have H9 := Lib.hid h9
          have HK0 := Lib.hid hk0
          have HK1 := Lib.hid hk1
          have HK2 := Lib.hid hk2
          clear h9 hk0 hk1 hk2
          have hix := idx3 (.int .i64 x0) (.int .i64 x1) (.int .i64 x2) 0 (.int .i64 x0) rfl 0 rfl
          go_upto_region 6 with fail
          go_region_with (go_at_call 40; (with_reducible refine (within_at x0 0 1048576 _ H9.out).mono ?_); rintro e w2 ⟨rfl, rfl⟩)
          all_goals go_wp2
          all_goals go_roundw
          all_goals first | exact ⟨1, by go_num, by omega, fun h => HG.out, fun h => by omega, fun h => by omega, bel_drew HBR.out⟩ | simp [intOf]
      · rcases h9 : decide (x0 ≤ x1 ∧ x1 ≤ 1048576) with _ | _
        · have HT := Lib.hid (show z = false from by rw [← HZ.out]; exact decide_eq_false (by have := of_decide_eq_false h9; simp only; omega))
          have H9 := Lib.hid h9
          clear h9 hk0 hk1 hk2
          have hix := idx3 (.int .i64 x0) (.int .i64 x1) (.int .i64 x2) 1 (.int .i64 x1) rfl 1 rfl
          go_upto_region 6 with fail
          go_region_with (go_at_call 40; (with_reducible refine (within_at x1 x0 1048576 _ H9.out).mono ?_); rintro e w2 ⟨rfl, rfl⟩)
          all_goals go_wp2
          all_goals go_ret
          all_goals exact ⟨by rw [HT.out]; rfl, bel_drew (bel_trans HB.out HBR.out)⟩
        · have HG := Lib.hid (of_decide_eq_true h9)
          have H9 := Lib.hid h9
          have HK0 := Lib.hid hk0
          have HK1 := Lib.hid hk1
          have HK2 := Lib.hid hk2
          clear h9 hk0 hk1 hk2
          have hix := idx3 (.int .i64 x0) (.int .i64 x1) (.int .i64 x2) 1 (.int .i64 x1) rfl 1 rfl
          go_upto_region 6 with fail
          go_region_with (go_at_call 40; (with_reducible refine (within_at x1 x0 1048576 _ H9.out).mono ?_); rintro e w2 ⟨rfl, rfl⟩)
          all_goals go_wp2
          all_goals go_roundw
          all_goals first | exact ⟨2, by go_num, by omega, fun h => HK0.out (by omega), fun h => HG.out, fun h => by omega, bel_drew HBR.out⟩ | simp [intOf]
      · rcases h9 : decide (0 ≤ x2 ∧ x2 ≤ 1099511627776) with _ | _
        · have HT := Lib.hid (show z = false from by rw [← HZ.out]; exact decide_eq_false (by have := of_decide_eq_false h9; simp only; omega))
          have H9 := Lib.hid h9
          clear h9 hk0 hk1 hk2
          have hix := idx3 (.int .i64 x0) (.int .i64 x1) (.int .i64 x2) 2 (.int .i64 x2) rfl 2 rfl
          go_upto_region 6 with fail
          go_region_with (go_at_call 40; (with_reducible refine (within_at x2 0 1099511627776 _ H9.out).mono ?_); rintro e w2 ⟨rfl, rfl⟩)
          all_goals go_wp2
          all_goals go_ret
          all_goals exact ⟨by rw [HT.out]; rfl, bel_drew (bel_trans HB.out HBR.out)⟩
        · have HG := Lib.hid (of_decide_eq_true h9)
          have H9 := Lib.hid h9
          have HK0 := Lib.hid hk0
          have HK1 := Lib.hid hk1
          have HK2 := Lib.hid hk2
          clear h9 hk0 hk1 hk2
          have hix := idx3 (.int .i64 x0) (.int .i64 x1) (.int .i64 x2) 2 (.int .i64 x2) rfl 2 rfl
          go_upto_region 6 with fail
          go_region_with (go_at_call 40; (with_reducible refine (within_at x2 0 1099511627776 _ H9.out).mono ?_); rintro e w2 ⟨rfl, rfl⟩)
          all_goals go_wp2
          all_goals go_roundw
          all_goals first | exact ⟨3, by go_num, by omega, fun h => HK0.out (by omega), fun h => HK1.out (by omega), fun h => HG.out, bel_drew HBR.out⟩ | simp [intOf]
    · obtain rfl : k = 3 := by omega
      have HT := Lib.hid (show z = true from by rw [← HZ.out]; exact decide_eq_true (by have := hk0 (by omega); have := hk1 (by omega); have := hk2 (by omega); simp only; omega))
      clear hk0 hk1 hk2
      go_wp2
      go_ret
      exact ⟨by rw [HT.out]; rfl, bel_trans HB.out HBR.out⟩
end Go.Proofs.YtllebgadhhgckaaDoor.Sqs
