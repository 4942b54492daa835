/- Joined: SqsD4. -/
import Derived.Test.YtllebgadhhgckaaDoorJ15
import Derived.Test.YtllebgadhhgckaaDoorJ16
/- The landed seqs: sort.Search over find's closure, find. -/
namespace Go.Proofs.YtllebgadhhgckaaDoor.Sqs
open Go.RowKit Oct RowF RowK Lay Bat InR
open Epo (At0 belA)

abbrev RdH (w : World) (B : Nat) (A : Option Addr) (n : Nat) (hs : List (KX Pd)) : Prop := RdF prC 3 w B A n hs
theorem rdhUp {w w' : World} {A : Option Addr} {n : Nat} {hs : List (KX Pd)} (h : RdH w w.heap.size A n hs) (hb : Below w.heap.size w w') : RdH w' w'.heap.size A n hs := (RdF.below h hb (Nat.le_refl _)).more hb.size
theorem row_at {w : World} {B n k : Nat} {A : Option Addr} {hs : List (KX Pd)} {l : List Pd} (h : RdH w B A n hs) (hl : hs.map (·.1) = l) (hk : k < n) : ∃ b o x A' n' c', A = some ⟨b, o, none⟩ ∧ b < B ∧ l[k]? = some x ∧ hs[k]? = some (x, A', n', c') ∧ w.cell? ⟨b, o + k * 3, none⟩ = some (.int .i64 x.pid) ∧ w.cell? ⟨b, o + k * 3 + 1, none⟩ = some (.int .i64 x.gen) ∧ w.cell? ⟨b, o + k * 3 + 2, none⟩ = some (.slice A' n' c') := by
  obtain ⟨b, o, ⟨x, A', n', c'⟩, hA, hb, hx, hc⟩ := h.at hk
  exact ⟨b, o, x, A', n', c', hA, hb, by rw [← hl, List.getElem?_map, hx]; rfl, hx, hc 0 _ rfl, hc 1 _ rfl, hc 2 _ rfl⟩
theorem row_len {w : World} {B n : Nat} {A : Option Addr} {hs : List (KX Pd)} {l : List Pd} (h : RdH w B A n hs) (hl : hs.map (·.1) = l) : l.length = n := by rw [← hl, List.length_map]; exact h.len
theorem fd1_is (A : Option Addr) (n c : Nat) (hs : List (KX Pd)) (l : List Pd) (hls : hs.map (·.1) = l) (g1 g2 : Nat) (v : Int) (w : World) (hr : RdH w w.heap.size A n hs) (h1 : w.cell? ⟨g1, 0, none⟩ = some (.slice A n c)) (h2 : w.cell? ⟨g2, 0, none⟩ = some (.int .i64 v)) {k : Nat} {x : Pd} (hx : l[k]? = some x) {z : Bool} (hz : decide (v ≤ x.pid) = z) :
    Calls Tryd.prog 89 #[.int .i64 (k : Int), .pointer (some ⟨g1, 0, none⟩), .pointer (some ⟨g2, 0, none⟩)] w fun e w' => e = .returned (.bool z) ∧ Below w.heap.size w w' := by
  have hl := row_len hr hls
  have hkn : k < n := by have := (List.getElem?_eq_some_iff.1 hx).1; omega
  obtain ⟨b, o, y, A', n', c', rfl, hb, hy, _, d0, _, _⟩ := row_at hr hls hkn
  obtain rfl : y = x := Option.some.inj (hy.symm.trans hx)
  have hkl : (k : Int) < (n : Int) := by omega
  subst hz
  clear hr hx hy hl hb hkn hls
  go_enter Tryd.func89, Tryd.ntmps89
  go_wp2
  go_big_region
  go_wp2
  go_ret
  exact ⟨by simp, bel_drew (Below.refl _ _)⟩
def fdRel (l : List Pd) (v : Int) (n : Nat) (w : World) (lv hv : Value) (wr : World) : Prop :=
  ∃ i j : Nat, lv = .int .i64 (i : Int) ∧ hv = .int .i64 (j : Int) ∧ i ≤ j ∧ j ≤ n ∧ (∀ k x, k < i → l[k]? = some x → x.pid < v) ∧ (∀ k x, j ≤ k → l[k]? = some x → v ≤ x.pid) ∧ Below w.heap.size w wr
set_option maxRecDepth 100000 in
set_option maxHeartbeats 8000000 in
theorem search_is (A : Option Addr) (n c : Nat) (hs : List (KX Pd)) (l : List Pd) (hls : hs.map (·.1) = l) (g1 g2 : Nat) (v v0 : Int) (w : World) (hr : RdH w w.heap.size A n hs) (hn : n ≤ 1099511627776) (hc : chP v0 l = true) (h1 : w.cell? ⟨g1, 0, none⟩ = some (.slice A n c)) (h2 : w.cell? ⟨g2, 0, none⟩ = some (.int .i64 v)) (hg1 : g1 < w.heap.size) (hg2 : g2 < w.heap.size) :
    Calls Tryd.prog 88 #[.int .i64 (n : Int), .func (.func 89) #[] #[.pointer (some ⟨g1, 0, none⟩), .pointer (some ⟨g2, 0, none⟩)]] w fun e w' => e = .returned (.int .i64 (atP l v : Int)) ∧ Below w.heap.size w w' := by
  have HR := Lib.hid hr
  have HLEN := Lib.hid (row_len hr hls)
  have HLS := Lib.hid hls
  have HC := Lib.hid hc
  have H1 := Lib.hid h1
  have H2 := Lib.hid h2
  clear hr hc h1 h2 hls
  go_enter Tryd.func88, Tryd.ntmps88
  go_wp2
  go_loopw [5, 6] (fun lv hv wr => fdRel l v n w lv hv wr) (fun lv hv _ => (intOf hv).toNat - (intOf lv).toNat)
  case atStart => exact ⟨0, n, rfl, rfl, Nat.zero_le _, Nat.le_refl _, fun k x h => absurd h (Nat.not_lt_zero _), fun k x h hx => by have := (List.getElem?_eq_some_iff.1 hx).1; have := HLEN.out; omega, Below.refl _ _⟩
  case round =>
    obtain ⟨i, j, rfl, rfl, hij, hjn, hlo, hhi, hb⟩ := hrel
    have HLO := Lib.hid hlo
    have HHI := Lib.hid hhi
    have HB := Lib.hid hb
    have HRR := Lib.hid (rdhUp HR.out hb)
    have k1 := (hb.cell (p := ⟨g1, 0, none⟩) hg1).trans H1.out
    have k2 := (hb.cell (p := ⟨g2, 0, none⟩) hg2).trans H2.out
    clear hlo hhi hb
    by_cases hlt : i < j
    · obtain ⟨m, hm⟩ : ∃ m, (i + j) / 2 = m := ⟨_, rfl⟩
      have hm1 : i ≤ m := by omega
      have hm2 : m < j := by omega
      have e1 : IntKind.i64.wrap ((i : Int) + (j : Int)) = (i : Int) + (j : Int) := IntWalk.i64_in _ (by omega)
      have e2 : IntKind.u64.wrap ((i : Int) + (j : Int)) = (i : Int) + (j : Int) := IntWalk.u64_in _ (by omega)
      have e3 : ((i : Int) + (j : Int)) / 2 = (m : Int) := by omega
      have e4 : IntKind.i64.wrap (m : Int) = (m : Int) := IntWalk.i64_in _ (by omega)
      have e5 : IntKind.i64.wrap ((m : Int) + 1) = (m : Int) + 1 := IntWalk.i64_in _ (by omega)
      have hij2 : (i : Int) < (j : Int) := by omega
      obtain ⟨x, hx⟩ : ∃ x, l[m]? = some x := ⟨l[m]'(by have := HLEN.out; omega), List.getElem?_eq_getElem _⟩
      have HX := Lib.hid hx
      clear hx
      rcases hz : decide (v ≤ x.pid) with _ | _
      · have HZ := Lib.hid hz
        clear hz hm
        go_wp2_with (go_at_call 89; (with_reducible refine (fd1_is A n c hs l HLS.out g1 g2 v _ HRR.out k1 k2 HX.out HZ.out).mono ?_); rintro e w2 ⟨rfl, hb⟩; have HB2 := Lib.hid (Epo.bel_trans HB.out hb); clear hb)
        go_roundw
        case rel => exact ⟨m + 1, j, by go_num, rfl, by omega, by omega, fun k y hk hy => by
            have h5 := of_decide_eq_false HZ.out
            by_cases hkm : k = m
            · subst hkm; obtain rfl := Option.some.inj (hy.symm.trans HX.out); omega
            · have := chP_lt HC.out (i := k) (j := m) (by omega) hy HX.out; omega, HHI.out, HB2.out⟩
        case measure => simp [intOf]; omega
      · have HZ := Lib.hid hz
        clear hz hm
        go_wp2_with (go_at_call 89; (with_reducible refine (fd1_is A n c hs l HLS.out g1 g2 v _ HRR.out k1 k2 HX.out HZ.out).mono ?_); rintro e w2 ⟨rfl, hb⟩; have HB2 := Lib.hid (Epo.bel_trans HB.out hb); clear hb)
        go_roundw
        case rel => exact ⟨i, m, rfl, rfl, hm1, by omega, HLO.out, fun k y hk hy => by
            have h5 := of_decide_eq_true HZ.out
            by_cases hkm : k = m
            · subst hkm; obtain rfl := Option.some.inj (hy.symm.trans HX.out); omega
            · have := chP_lt HC.out (i := m) (j := k) (by omega) HX.out hy; omega, HB2.out⟩
        case measure => simp [intOf]; omega
    · obtain rfl : i = j := by omega
      have HE := Lib.hid (atP_eq (l := l) (v := v) (i := i) (by have := HLEN.out; omega) HLO.out (fun x hx => HHI.out i x (Nat.le_refl _) hx))
      go_wp2
      go_ret
      exact ⟨by rw [HE.out]; rfl, HB.out⟩
set_option maxRecDepth 100000 in
set_option maxHeartbeats 8000000 in
theorem find_is (A : Option Addr) (n c : Nat) (hs : List (KX Pd)) (l : List Pd) (hls : hs.map (·.1) = l) (v v0 : Int) (w : World) (hr : RdH w w.heap.size A n hs) (hn : n ≤ 1099511627776) (hc : chP v0 l = true) {k : Nat} {z : Bool} (hk : atP l v = k) (hz : (match l[k]? with | some x => decide (x.pid = v) | none => false) = z) :
    Calls Tryd.prog 65 #[.slice A n c, .int .i64 v] w fun e w' => e = .returned (.tuple #[.int .i64 (k : Int), .bool z]) ∧ Below w.heap.size w w' := by
  have hmf : ∀ (fn : Fn) (first cap : Array Value) (w : World), (Instr.makeFunc fn first cap).run Tryd.prog w = .ok (.func fn first cap) w := fun _ _ _ _ => rfl
  have b1 := belA w (.cells #[.slice A n c] 22)
  have b2 := belA (w.alloc (.cells #[.slice A n c] 22)) (.cells #[.int .i64 v] 3)
  have h1 := (At0.new w [.slice A n c] 22).below b2
  have h2 := At0.new (w.alloc (.cells #[.slice A n c] 22)) [.int .i64 v] 3
  simp only [World.size_alloc] at h2
  have HB := Lib.hid (Epo.bel_trans b1 b2)
  have HR := Lib.hid (rdhUp hr HB.out)
  have HLEN := Lib.hid (row_len hr hls)
  have HLS := Lib.hid hls
  have H1 := Lib.hid h1
  have H2 := Lib.hid h2
  have HC := Lib.hid hc
  have HK := Lib.hid hk
  have HZ := Lib.hid hz
  have hle := atP_le l v
  rw [hk, row_len hr hls] at hle
  have hlt1 : w.heap.size < ((w.alloc (.cells #[.slice A n c] 22)).alloc (.cells #[.int .i64 v] 3)).heap.size := h1.lt
  have hlt2 : w.heap.size + 1 < ((w.alloc (.cells #[.slice A n c] 22)).alloc (.cells #[.int .i64 v] 3)).heap.size := h2.lt
  clear hr b1 b2 h1 h2 hc hk hz hls
  go_enter Tryd.func65, Tryd.ntmps65
  go_upto_region 1 with fail
  generalize ((w.alloc (.cells #[.slice A n c] 22)).alloc (.cells #[.int .i64 v] 3)) = W at *
  have c1 := H1.out.cell 0
  have c2 := H2.out.cell 0
  simp only [List.getElem?_cons_zero] at c1 c2
  go_upto_region 2 with (go_at_call 88; (with_reducible refine (search_is A n c hs l HLS.out w.heap.size (w.heap.size + 1) v v0 _ HR.out hn HC.out c1 c2 hlt1 hlt2).mono ?_); rw [HK.out]; rintro e w2 ⟨rfl, hb⟩; have HB2 := Lib.hid (Epo.bel_trans HB.out hb); have HR2 := Lib.hid (rdhUp HR.out hb); have HH1 := Lib.hid (H1.out.below hb); have HH2 := Lib.hid (H2.out.below hb); clear hb)
  have e1 := HH1.out.cell 0
  have e2 := HH2.out.cell 0
  simp only [List.getElem?_cons_zero] at e1 e2
  clear c1 c2
  by_cases hkn : k < n
  · obtain ⟨b, o, x, A', n', c', rfl, hb, hx, _, d0, _, _⟩ := row_at HR2.out HLS.out hkn
    have hkl : (k : Int) < (n : Int) := by omega
    have hk0 : (0 : Int) ≤ (k : Int) := by omega
    have HX := Lib.hid hx
    clear hx hb
    by_cases he : x.pid = v
    · have HT := Lib.hid (show z = true from by rw [← HZ.out, HX.out]; exact decide_eq_true he)
      have he2 : (x.pid == v) = true := beq_iff_eq.2 he
      clear he
      go_big_region
      go_wp2
      go_ret2
      exact ⟨by rw [HT.out]; rfl, bel_drew HB2.out⟩
    · have HT := Lib.hid (show z = false from by rw [← HZ.out, HX.out]; exact decide_eq_false he)
      have he2 : (x.pid == v) = false := beq_eq_false_iff_ne.2 he
      clear he
      go_big_region
      go_wp2
      go_ret2
      exact ⟨by rw [HT.out]; rfl, bel_drew HB2.out⟩
  · have HT := Lib.hid (show z = false from by rw [← HZ.out, List.getElem?_eq_none (by have := HLEN.out; omega)])
    have hkl : ¬ (k : Int) < (n : Int) := by omega
    go_big_region
    go_wp2
    go_ret2
    exact ⟨by rw [HT.out]; rfl, bel_drew HB2.out⟩
end Go.Proofs.YtllebgadhhgckaaDoor.Sqs
