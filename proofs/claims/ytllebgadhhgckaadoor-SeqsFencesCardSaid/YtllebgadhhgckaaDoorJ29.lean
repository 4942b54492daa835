/- Joined: SqsR6, SqsR9, SqsD5. -/
import Derived.Test.YtllebgadhhgckaaDoorJ19
import Derived.Test.YtllebgadhhgckaaDoorJ28
import Derived.Test.YtllebgadhhgckaaDoorJ17
/- The document's Same of producers, of rows that read as one list; Few. -/
namespace Go.Proofs.YtllebgadhhgckaaDoor.Sqs
open Go.RowKit Oct RowF RowK Lay Bat InR
open Epo (At0 AtO belA)

theorem did_form {w : World} {B n k : Nat} {A : Option Addr} {l : List Dd} {x : Dd} (h : RdD w B A n l) (hx : l[k]? = some x) : ∃ b o, A = some ⟨b, o, none⟩ ∧ b < B := by
  obtain ⟨b', o', hA, hb, _⟩ := h.2 k x hx
  exact ⟨b', o', hA, hb⟩
def upRel (n : Nat) (w : World) (iv : Value) (wr : World) : Prop := ∃ k : Nat, iv = .int .i64 (k : Int) ∧ k ≤ n ∧ Below w.heap.size w wr
set_option maxRecDepth 100000 in
set_option maxHeartbeats 8000000 in
theorem rSameP_yes (A1 A2 : Option Addr) (n1 c1 n2 c2 : Nat) (l : List Pd) (w : World) (h1 : RdP w w.heap.size A1 n1 l) (h2 : RdP w w.heap.size A2 n2 l) (hn : n1 ≤ reach) :
    Calls Tryd.prog 20 #[.slice A1 n1 c1, .slice A2 n2 c2] w fun e w' => e = .returned (.bool true) ∧ Below w.heap.size w w' := by
  obtain rfl : n1 = n2 := h1.len.symm.trans h2.len
  have H1 := Lib.hid h1
  have H2 := Lib.hid h2
  have HLEN := Lib.hid h1.len
  have hn9 : n1 ≤ 140737488351232 := hn
  clear h1 h2 hn
  go_enter Tryd.func20, Tryd.ntmps20
  go_wp2
  go_loopw [5] (fun iv wr => upRel n1 w iv wr) (fun iv _ => n1 - (intOf iv).toNat)
  case atStart => exact ⟨0, rfl, Nat.zero_le _, Below.refl _ _⟩
  case round =>
    obtain ⟨k, rfl, hk, hb⟩ := hrel
    have HB0 := Lib.hid hb
    have HR1 := Lib.hid (rdkUp H1.out hb)
    have HR2 := Lib.hid (rdkUp H2.out hb)
    clear hb
    by_cases hlt : k < n1
    · obtain ⟨⟨x0, x1, xd⟩, hx⟩ : ∃ x, l[k]? = some x := ⟨l[k]'(by have := HLEN.out; omega), List.getElem?_eq_getElem _⟩
      obtain ⟨b, o, rfl, hbl, _⟩ := pr_form HR1.out hx
      obtain ⟨b2, o2, rfl, hbl2, _⟩ := pr_form HR2.out hx
      obtain ⟨A', n', c', hc', hn', hd1, d0, d1, d2⟩ := prK3 HR1.out hx
      obtain ⟨A'', n'', c'', hc'', _, hd2, e0, e1, e2⟩ := prK3 HR2.out hx
      simp only at d0 d1 e0 e1 hd1 hd2
      obtain rfl : n' = n'' := hd1.len.symm.trans hd2.len
      have HD1 := Lib.hid hd1
      have HD2 := Lib.hid hd2
      have HDL := Lib.hid hd1.len
      have hn'9 : n' ≤ 140737488351232 := hn'
      have hw1 : IntKind.i64.wrap ((k : Int) + 1) = (k : Int) + 1 := IntWalk.i64_in _ (by omega)
      have hkl : (k : Int) < (n1 : Int) := by omega
      have hk0 : (0 : Int) ≤ (k : Int) := by omega
      clear hx hd1 hd2 hc' hc'' hn'
      go_upto_region 6 with fail
      go_big_region
      go_wp2
      obtain ⟨wa, hwa⟩ : ∃ wa, wa = wr := ⟨_, rfl⟩
      subst hwa
      have HKD := Lib.hid (And.intro d2 e2)
      clear d0 d1 d2 e0 e1 e2
      go_loopw [6] (fun jv wz => upRel n' wa jv wz) (fun jv _ => n' - (intOf jv).toNat)
      case atStart => exact ⟨0, rfl, Nat.zero_le _, (Below.refl _ _).drew⟩
      case round =>
        obtain ⟨j, rfl, hj, hb⟩ := hrel
        have HBJ := Lib.hid hb
        have HDJ1 := Lib.hid (rddUp HD1.out hb)
        have HDJ2 := Lib.hid (rddUp HD2.out hb)
        have d2 := (hb.cell (p := ⟨b, o + k * 3 + 2, none⟩) hbl).trans HKD.out.1
        have e2 := (hb.cell (p := ⟨b2, o2 + k * 3 + 2, none⟩) hbl2).trans HKD.out.2
        clear hb
        by_cases hjt : j < n'
        · obtain ⟨⟨y0, y1, y2⟩, hy⟩ : ∃ y, xd[j]? = some y := ⟨xd[j]'(by have := HDL.out; omega), List.getElem?_eq_getElem _⟩
          obtain ⟨p, q, rfl, _⟩ := did_form HDJ1.out hy
          obtain ⟨p2, q2, rfl, _⟩ := did_form HDJ2.out hy
          obtain ⟨_, f0, f1, f2⟩ := didK HDJ1.out hy
          obtain ⟨_, g0, g1, g2⟩ := didK HDJ2.out hy
          simp only at f0 f1 f2 g0 g1 g2
          have hw3 : IntKind.i64.wrap ((j : Int) + 1) = (j : Int) + 1 := IntWalk.i64_in _ (by omega)
          have hjl : (j : Int) < (n' : Int) := by omega
          have hj0 : (0 : Int) ≤ (j : Int) := by omega
          clear hy
          go_upto_region 11 with fail
          go_big_region
          go_wp2
          go_roundw
          case rel => exact ⟨j + 1, by go_num, by omega, HBJ.out.drew⟩
          case measure => simp [intOf]; omega
        · have hjn : ¬ (j : Int) < (n' : Int) := by omega
          go_wp2
          go_roundw
          case rel => exact ⟨k + 1, by go_num, by omega, Epo.bel_trans HB0.out HBJ.out⟩
          case measure => simp [intOf]; omega
    · have hkn : k = n1 := by omega
      subst hkn
      go_wp2
      go_ret
      exact ⟨rfl, HB0.out⟩
end Go.Proofs.YtllebgadhhgckaaDoor.Sqs

/- The document's Look: the batches of a producer, gone through. -/
namespace Go.Proofs.YtllebgadhhgckaaDoor.Sqs
open Go.RowKit Oct Rec RowF RowK Lay Bat InR
open Epo (At0 AtO belA)

def tb_Look19 : List (Nat × Nat) := [(0, 262143), (0, 262143), (3, 262140), (4, 262139), (8, 262135), (0, 262143), (32, 262111), (80, 262063), (128, 262015), (256, 261887), (256, 261887), (1792, 260351), (2304, 259839), (4352, 257791), (256, 261887), (16640, 245503), (41216, 220927), (65792, 196351)]
theorem chD_mem {o : Option Int} {l : List Dd} (h : chD o l = true) : ∀ d ∈ l, ddOk d = true := by
  induction l generalizing o with
  | nil => intro d hd; cases hd
  | cons y l ih =>
    rw [chD, Bool.and_eq_true, Bool.and_eq_true] at h
    intro d hd
    rcases List.mem_cons.1 hd with rfl | hd
    · exact h.1.1
    · exact ih h.2 d hd
def hitD (sq ls : Int) (d : Dd) : Bool := decide (d.sq = sq ∧ d.la = ls)
def skRel (xd : List Dd) (sq ls : Int) (n' : Nat) (w4 : World) (iv : Value) (wr : World) : Prop :=
  ∃ j : Nat, iv = .int .i64 (j : Int) ∧ j ≤ n' ∧ (∀ i d, i < j → xd[i]? = some d → hitD sq ls d = false) ∧ Below w4.heap.size w4 wr
theorem hit_at {xd : List Dd} {sq ls : Int} {j : Nat} {d : Dd} (hd : xd[j]? = some d) (h : hitD sq ls d = true) (hn : ∀ i d, i < j → xd[i]? = some d → hitD sq ls d = false) : xd.find? (hitD sq ls) = some d := by
  obtain ⟨hj, rfl⟩ := List.getElem?_eq_some_iff.1 hd
  rw [List.find?_eq_some_iff_getElem]
  exact ⟨h, j, hj, rfl, fun i hi => by simpa using hn i xd[i] hi (List.getElem?_eq_getElem _)⟩
end Go.Proofs.YtllebgadhhgckaaDoor.Sqs

/- The landed seqs: isNobodys, didOf, next, met, look. -/
namespace Go.Proofs.YtllebgadhhgckaaDoor.Sqs
open Go.RowKit Oct Rec RowF RowK Lay Bat InR
open Epo (At0 AtO belA)

theorem frz3 {W : World} {g : Nat} {a b c : Value} {e : TypeId} (h : At0 W g [a, b, c] e) : W.frozen? ⟨g, 0, none⟩ = false ∧ W.frozen? ⟨g, 1, none⟩ = false ∧ W.frozen? ⟨g, 2, none⟩ = false := ⟨h.frozen 0, h.frozen 1, h.frozen 2⟩
theorem bel_set3 {w w' : World} {B : Nat} (h : Below B w w') {g : Nat} (hg : B ≤ g) (u0 u1 u2 : Value) : Below B w (((w'.setCell ⟨g, 0, none⟩ u0).setCell ⟨g, 1, none⟩ u1).setCell ⟨g, 2, none⟩ u2) := ((h.setCell hg u0).setCell hg u1).setCell hg u2
theorem isNob_is (ba la fr ep pi ge se : Int) (tx : Bool) (ct : Int) (AR : Option Addr) (nR cR : Nat) (w : World) {z : Bool} (hz : decide (pi < 0) = z) :
    Calls Tryd.prog 44 #[.agg #[.int .i64 ba, .int .i64 la, .int .i64 fr, .int .i64 ep, .int .i64 pi, .int .i64 ge, .int .i64 se, .bool tx, .int .i64 ct, .slice AR nR cR]] w fun e w' => e = .returned (.bool z) ∧ Below w.heap.size w w' := by
  subst hz
  go_enter Tryd.func44, Tryd.ntmps44
  go_wp2
  go_ret
  exact ⟨by simp, belA _ _⟩
theorem didOf_is (ba la fr ep pi ge se : Int) (tx : Bool) (ct : Int) (AR : Option Addr) (nR cR : Nat) (w : World) {q ls : Int} (h1 : IntKind.i64.wrap (la - ba) = q) (h2 : IntKind.i64.wrap (se + q) = ls) :
    Calls Tryd.prog 64 #[.agg #[.int .i64 ba, .int .i64 la, .int .i64 fr, .int .i64 ep, .int .i64 pi, .int .i64 ge, .int .i64 se, .bool tx, .int .i64 ct, .slice AR nR cR]] w fun e w' => e = .returned (.agg #[.int .i64 se, .int .i64 ls, .int .i64 ba]) ∧ Below w.heap.size w w' := by
  go_enter Tryd.func64, Tryd.ntmps64
  go_wp2
  refine bodyPost_ret (v := .agg #[.int .i64 se, .int .i64 ls, .int .i64 ba]) (by simp [results, Tryd.results64, go_sem]) rfl ?_
  exact ⟨rfl, bel_trans (belA _ _) (belA _ _)⟩
set_option maxRecDepth 100000 in
set_option maxHeartbeats 8000000 in
theorem next_is (x0 x1 : Int) (A : Option Addr) (n c : Nat) (l : List Dd) (w : World) (hr : RdD w w.heap.size A n l) (hn : n ≤ reach) (hy : ∀ y, l.getLast? = some y → 0 ≤ y.la ∧ y.la ≤ 1048576) {z : Int} (hz : nextQ l = z) :
    Calls Tryd.prog 50 #[.agg #[.int .i64 x0, .int .i64 x1, .slice A n c]] w fun e w' => e = .returned (.int .i64 z) ∧ Below w.heap.size w w' := by
  have hlen := hr.len
  have hn9 : n ≤ 140737488351232 := hn
  by_cases h0 : n = 0
  · subst h0
    obtain rfl : 0 = z := by
      have hl0 : l = [] := List.eq_nil_of_length_eq_zero hlen
      rw [hl0] at hz; exact hz
    clear hr hy hz hlen hn
    go_enter Tryd.func50, Tryd.ntmps50
    go_wp2
    go_ret
    exact ⟨rfl, belA _ _⟩
  · have hla : l.getLast? = l[n - 1]? := by rw [List.getLast?_eq_getElem?, hlen]
    obtain ⟨y, hyk⟩ : ∃ y, l[n - 1]? = some y := ⟨l[n - 1]'(by omega), List.getElem?_eq_getElem _⟩
    have hy2 := hy y (hla.trans hyk)
    obtain rfl : y.la + 1 = z := by rw [← hz]; unfold nextQ; rw [hla, hyk]
    obtain ⟨b, o, y', rfl, hb, hyk', d0, d1, d2⟩ := did_at hr (k := n - 1) (by omega)
    obtain rfl : y = y' := Option.some.inj (hyk.symm.trans hyk')
    have h1 : ((n : Int) == 0) = false := beq_eq_false_iff_ne.2 (by omega)
    have hw2 : IntKind.i64.wrap ((n : Int) - 1) = (n : Int) - 1 := IntWalk.i64_in _ (by omega)
    have hw3 : IntKind.i64.wrap (y.la + 1) = y.la + 1 := IntWalk.i64_in _ (by omega)
    have hp1 : (0 : Int) ≤ (n : Int) - 1 := by omega
    have hp2 : (1 : Int) ≤ (n : Int) := by omega
    have hp3 : (n : Int) - 1 < (n : Int) := by omega
    have hp5 : ((n : Int) - 1).toNat = n - 1 := by omega
    clear hr hz hlen hn hla hyk hyk' hy hy2
    go_enter Tryd.func50, Tryd.ntmps50
    go_wp2
    go_ret
    exact ⟨rfl, belA _ _⟩
def metH (hs : List (KX Pd)) (k : Nat) (pi ge : Int) : KX Pd := match hs[k]? with
  | some x => if x.1.pid = pi ∧ ge ≤ x.1.gen then x else (⟨pi, ge, []⟩, none, 0, 0)
  | none => (⟨pi, ge, []⟩, none, 0, 0)
theorem metH_is {v0 : Int} {hs : List (KX Pd)} {l : List Pd} (hl : hs.map (·.1) = l) (hc : chP v0 l = true) (b : Bt) : (metH hs (atP l b.pid) b.pid b.gen).1 = metP l b := by
  have h1 := findP_at hc b.pid
  have h2 : l[atP l b.pid]? = (hs[atP l b.pid]?).map (·.1) := by conv => lhs; rw [← hl, List.getElem?_map, hl]
  unfold metH
  cases hx : hs[atP l b.pid]? with
  | none =>
    rw [hx] at h2
    rw [h2] at h1
    rw [met_none h1]
  | some x =>
    rw [hx] at h2
    rw [h2] at h1
    simp only [Option.map_some] at h1 ⊢
    by_cases hp : x.1.pid = b.pid
    · rw [if_pos hp] at h1
      by_cases hg : b.gen ≤ x.1.gen
      · rw [if_pos ⟨hp, hg⟩, met_some h1 hg]
      · rw [if_neg (fun h9 => hg h9.2), met_old h1 (by omega)]
    · rw [if_neg hp] at h1
      rw [if_neg (fun h9 => hp h9.1), met_none h1]
set_option maxRecDepth 100000 in
set_option maxHeartbeats 8000000 in
theorem met_new (A : Option Addr) (n c : Nat) (hs : List (KX Pd)) (l : List Pd) (hls : hs.map (·.1) = l) (ba la fr ep pi ge se : Int) (tx : Bool) (ct : Int) (AR : Option Addr) (nR cR : Nat) (v0 : Int) (w : World) (hr : RdH w w.heap.size A n hs) (hn : n ≤ 1099511627776) (hc : chP v0 l = true) {k : Nat} (hk : atP l pi = k) (h : ∀ x, hs[k]? = some x → ¬ (x.1.pid = pi ∧ ge ≤ x.1.gen)) :
    Calls Tryd.prog 35 #[.slice A n c, .agg #[.int .i64 ba, .int .i64 la, .int .i64 fr, .int .i64 ep, .int .i64 pi, .int .i64 ge, .int .i64 se, .bool tx, .int .i64 ct, .slice AR nR cR]] w fun e w' => e = .returned (.agg #[.int .i64 pi, .int .i64 ge, .slice none 0 0]) ∧ Below w.heap.size w w' := by
  have hb1 := belA w (.cells #[.int .i64 ba, .int .i64 la, .int .i64 fr, .int .i64 ep, .int .i64 pi, .int .i64 ge, .int .i64 se, .bool tx, .int .i64 ct, .slice AR nR cR] 25)
  have hb2 := belA (w.alloc (.cells #[.int .i64 ba, .int .i64 la, .int .i64 fr, .int .i64 ep, .int .i64 pi, .int .i64 ge, .int .i64 se, .bool tx, .int .i64 ct, .slice AR nR cR] 25)) (.cells #[.int .i64 0, .int .i64 0, .slice none 0 0] 55)
  have HB := Lib.hid (Epo.bel_trans hb1 hb2)
  have HR := Lib.hid (rdhUp hr HB.out)
  have HAT := Lib.hid ((At0.new w [.int .i64 ba, .int .i64 la, .int .i64 fr, .int .i64 ep, .int .i64 pi, .int .i64 ge, .int .i64 se, .bool tx, .int .i64 ct, .slice AR nR cR] 25).below hb2)
  have h3 := At0.new (w.alloc (.cells #[.int .i64 ba, .int .i64 la, .int .i64 fr, .int .i64 ep, .int .i64 pi, .int .i64 ge, .int .i64 se, .bool tx, .int .i64 ct, .slice AR nR cR] 25)) [.int .i64 0, .int .i64 0, .slice none 0 0] 55
  simp only [World.size_alloc] at h3
  have HP := Lib.hid h3
  have HLS := Lib.hid hls
  have HK := Lib.hid hk
  have HC := Lib.hid hc
  have hlen := row_len hr hls
  have hle := atP_le l pi
  rw [hk, hlen] at hle
  clear hb1 hb2 h3 hr hls hk hc hlen
  go_enter Tryd.func35, Tryd.ntmps35
  go_upto_region 1 with fail
  generalize ((w.alloc (.cells #[.int .i64 ba, .int .i64 la, .int .i64 fr, .int .i64 ep, .int .i64 pi, .int .i64 ge, .int .i64 se, .bool tx, .int .i64 ct, .slice AR nR cR] 25)).alloc (.cells #[.int .i64 0, .int .i64 0, .slice none 0 0] 55)) = W at *
  obtain ⟨q0, q1, q2, q3, q4, q5, q6, q7, q8, q9⟩ := cel10 HAT.out
  by_cases hkn : k < n
  · obtain ⟨b, o, x, A', n', c', rfl, hb, hx, hhx, d0, d1, d2⟩ := row_at HR.out HLS.out hkn
    have hno := h _ hhx
    have HX := Lib.hid hx
    simp only at hno
    have hkl : (k : Int) < (n : Int) := by omega
    have hk0 : (0 : Int) ≤ (k : Int) := by omega
    clear hx hhx h hb d0 d1 d2
    by_cases he : x.pid = pi
    · have hg : ¬ ge ≤ x.gen := fun h9 => hno ⟨he, h9⟩
      have HZ := Lib.hid (show (match l[k]? with | some x => decide (x.pid = pi) | none => false) = true from by rw [HX.out]; exact decide_eq_true he)
      clear hno he
      go_upto_region 2 with (go_at_call 65; (with_reducible refine (find_is _ n c hs l HLS.out pi v0 _ HR.out hn HC.out HK.out HZ.out).mono ?_); rintro e w2 ⟨rfl, hb⟩; have HB2 := Lib.hid (Epo.bel_trans HB.out hb); have HR2 := Lib.hid (rdhUp HR.out hb); have HAT2 := Lib.hid (HAT.out.below hb); have HP2 := Lib.hid (HP.out.below hb); clear hb)
      clear q0 q1 q2 q3 q4 q5 q6 q7 q8 q9
      obtain ⟨q0, q1, q2, q3, q4, q5, q6, q7, q8, q9⟩ := cel10 HAT2.out
      obtain ⟨b', o', y, A2, n2, c2, hA, hb, hy, _, d0, d1, d2⟩ := row_at HR2.out HLS.out hkn
      obtain ⟨rfl, rfl⟩ : b = b' ∧ o = o' := by simpa using hA
      obtain rfl : x = y := Option.some.inj (HX.out.symm.trans hy)
      clear hy hA hb
      go_big_region
      go_upto_region 4 with fail
      have hd := bel_drew (Below.refl w2.heap.size w2)
      have HB3 := Lib.hid (Epo.bel_trans HB2.out hd)
      have HAT3 := Lib.hid (HAT2.out.below hd)
      have HP3 := Lib.hid (HP2.out.below hd)
      clear q0 q1 q2 q3 q4 q5 q6 q7 q8 q9 d0 d1 d2 hd
      generalize w2.drew = w3 at *
      obtain ⟨q0, q1, q2, q3, q4, q5, q6, q7, q8, q9⟩ := cel10 HAT3.out
      obtain ⟨p0, p1, p2⟩ := cel3 HP3.out
      obtain ⟨f0, f1, f2⟩ := frz3 HP3.out
      go_wp2
      refine bodyPost_ret (v := .agg #[.int .i64 pi, .int .i64 ge, .slice none 0 0]) (by simp [results, Tryd.results35, go_sem, p0, p1, p2]) rfl ?_
      exact ⟨rfl, bel_set3 HB3.out (by omega) _ _ _⟩
    · have HZ := Lib.hid (show (match l[k]? with | some x => decide (x.pid = pi) | none => false) = false from by rw [HX.out]; exact decide_eq_false he)
      clear hno he
      go_upto_region 2 with (go_at_call 65; (with_reducible refine (find_is _ n c hs l HLS.out pi v0 _ HR.out hn HC.out HK.out HZ.out).mono ?_); rintro e w2 ⟨rfl, hb⟩; have HB2 := Lib.hid (Epo.bel_trans HB.out hb); have HAT2 := Lib.hid (HAT.out.below hb); have HP2 := Lib.hid (HP.out.below hb); clear hb)
      clear q0 q1 q2 q3 q4 q5 q6 q7 q8 q9
      go_big_region
      go_upto_region 4 with fail
      have hd := bel_drew (Below.refl w2.heap.size w2)
      have HB3 := Lib.hid (Epo.bel_trans HB2.out hd)
      have HAT3 := Lib.hid (HAT2.out.below hd)
      have HP3 := Lib.hid (HP2.out.below hd)
      clear hd
      generalize w2.drew = w3 at *
      obtain ⟨q0, q1, q2, q3, q4, q5, q6, q7, q8, q9⟩ := cel10 HAT3.out
      obtain ⟨p0, p1, p2⟩ := cel3 HP3.out
      obtain ⟨f0, f1, f2⟩ := frz3 HP3.out
      go_wp2
      refine bodyPost_ret (v := .agg #[.int .i64 pi, .int .i64 ge, .slice none 0 0]) (by simp [results, Tryd.results35, go_sem, p0, p1, p2]) rfl ?_
      exact ⟨rfl, bel_set3 HB3.out (by omega) _ _ _⟩
  · have HZ := Lib.hid (show (match l[k]? with | some x => decide (x.pid = pi) | none => false) = false from by rw [List.getElem?_eq_none (by have := row_len HR.out HLS.out; omega)])
    clear h
    go_upto_region 2 with (go_at_call 65; (with_reducible refine (find_is _ n c hs l HLS.out pi v0 _ HR.out hn HC.out HK.out HZ.out).mono ?_); rintro e w2 ⟨rfl, hb⟩; have HB2 := Lib.hid (Epo.bel_trans HB.out hb); have HAT2 := Lib.hid (HAT.out.below hb); have HP2 := Lib.hid (HP.out.below hb); clear hb)
    clear q0 q1 q2 q3 q4 q5 q6 q7 q8 q9
    go_big_region
    go_upto_region 4 with fail
    have hd := bel_drew (Below.refl w2.heap.size w2)
    have HB3 := Lib.hid (Epo.bel_trans HB2.out hd)
    have HAT3 := Lib.hid (HAT2.out.below hd)
    have HP3 := Lib.hid (HP2.out.below hd)
    clear hd
    generalize w2.drew = w3 at *
    obtain ⟨q0, q1, q2, q3, q4, q5, q6, q7, q8, q9⟩ := cel10 HAT3.out
    obtain ⟨p0, p1, p2⟩ := cel3 HP3.out
    obtain ⟨f0, f1, f2⟩ := frz3 HP3.out
    go_wp2
    refine bodyPost_ret (v := .agg #[.int .i64 pi, .int .i64 ge, .slice none 0 0]) (by simp [results, Tryd.results35, go_sem, p0, p1, p2]) rfl ?_
    exact ⟨rfl, bel_set3 HB3.out (by omega) _ _ _⟩
end Go.Proofs.YtllebgadhhgckaaDoor.Sqs
