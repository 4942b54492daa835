/- Joined: SqsR6. -/
import Derived.Test.YtllebgadhhgckaaDoorJ18
/- The document's Same of producers, of rows that read as one list; Few. -/
namespace Go.Proofs.YtllebgadhhgckaaDoor.Sqs
open Go.RowKit Oct RowF RowK Lay Bat InR
open Epo (At0 AtO belA)

theorem did_form {w : World} {B n k : Nat} {A : Option Addr} {l : List Dd} {x : Dd} (h : RdD w B A n l) (hx : l[k]? = some x) : ∃ b o, A = some ⟨b, o, none⟩ ∧ b < B := by
  obtain ⟨b', o', hA, hb, _⟩ := h.2 k x hx
  exact ⟨b', o', hA, hb⟩
def upRel (n : Nat) (w : World) (iv : Value) (wr : World) : Prop := ∃ k : Nat, iv = .int .i64 (k : Int) ∧ k ≤ n ∧ Below w.heap.size w wr
set_option maxRecDepth 100000 in
set_option maxHeartbeats 8000000 in
theorem rSameP_yes (A1 A2 : Option Addr) (n1 c1 n2 c2 : Nat) (l : List Pd) (w : World) (h1 : RdP w w.heap.size A1 n1 l) (h2 : RdP w w.heap.size A2 n2 l) (hn : n1 ≤ reach) :
    Calls Tryd.prog 20 #[.slice A1 n1 c1, .slice A2 n2 c2] w fun e w' => e = .returned (.bool true) ∧ Below w.heap.size w w' := by
  obtain rfl : n1 = n2 := h1.len.symm.trans h2.len
  have H1 := Lib.hid h1
  have H2 := Lib.hid h2
  have HLEN := Lib.hid h1.len
  have hn9 : n1 ≤ 140737488351232 := hn
  clear h1 h2 hn
  go_enter Tryd.func20, Tryd.ntmps20
  go_wp2
  go_loopw [5] (fun iv wr => upRel n1 w iv wr) (fun iv _ => n1 - (intOf iv).toNat)
  case atStart => exact ⟨0, rfl, Nat.zero_le _, Below.refl _ _⟩
  case round =>
    obtain ⟨k, rfl, hk, hb⟩ := hrel
    have HB0 := Lib.hid hb
    have HR1 := Lib.hid (rdkUp H1.out hb)
    have HR2 := Lib.hid (rdkUp H2.out hb)
    clear hb
    by_cases hlt : k < n1
    · obtain ⟨⟨x0, x1, xd⟩, hx⟩ : ∃ x, l[k]? = some x := ⟨l[k]'(by have := HLEN.out; omega), List.getElem?_eq_getElem _⟩
      obtain ⟨b, o, rfl, hbl, _⟩ := pr_form HR1.out hx
      obtain ⟨b2, o2, rfl, hbl2, _⟩ := pr_form HR2.out hx
      obtain ⟨A', n', c', hc', hn', hd1, d0, d1, d2⟩ := prK3 HR1.out hx
      obtain ⟨A'', n'', c'', hc'', _, hd2, e0, e1, e2⟩ := prK3 HR2.out hx
      simp only at d0 d1 e0 e1 hd1 hd2
      obtain rfl : n' = n'' := hd1.len.symm.trans hd2.len
      have HD1 := Lib.hid hd1
      have HD2 := Lib.hid hd2
      have HDL := Lib.hid hd1.len
      have hn'9 : n' ≤ 140737488351232 := hn'
      have hw1 : IntKind.i64.wrap ((k : Int) + 1) = (k : Int) + 1 := IntWalk.i64_in _ (by omega)
      have hkl : (k : Int) < (n1 : Int) := by omega
      have hk0 : (0 : Int) ≤ (k : Int) := by omega
      clear hx hd1 hd2 hc' hc'' hn'
      go_upto_region 6 with fail
      go_big_region
      go_wp2
      obtain ⟨wa, hwa⟩ : ∃ wa, wa = wr := ⟨_, rfl⟩
      subst hwa
      have HKD := Lib.hid (And.intro d2 e2)
      clear d0 d1 d2 e0 e1 e2
      go_loopw [6] (fun jv wz => upRel n' wa jv wz) (fun jv _ => n' - (intOf jv).toNat)
      case atStart => exact ⟨0, rfl, Nat.zero_le _, (Below.refl _ _).drew⟩
      case round =>
        obtain ⟨j, rfl, hj, hb⟩ := hrel
        have HBJ := Lib.hid hb
        have HDJ1 := Lib.hid (rddUp HD1.out hb)
        have HDJ2 := Lib.hid (rddUp HD2.out hb)
        have d2 := (hb.cell (p := ⟨b, o + k * 3 + 2, none⟩) hbl).trans HKD.out.1
        have e2 := (hb.cell (p := ⟨b2, o2 + k * 3 + 2, none⟩) hbl2).trans HKD.out.2
        clear hb
        by_cases hjt : j < n'
        · obtain ⟨⟨y0, y1, y2⟩, hy⟩ : ∃ y, xd[j]? = some y := ⟨xd[j]'(by have := HDL.out; omega), List.getElem?_eq_getElem _⟩
          obtain ⟨p, q, rfl, _⟩ := did_form HDJ1.out hy
          obtain ⟨p2, q2, rfl, _⟩ := did_form HDJ2.out hy
          obtain ⟨_, f0, f1, f2⟩ := didK HDJ1.out hy
          obtain ⟨_, g0, g1, g2⟩ := didK HDJ2.out hy
          simp only at f0 f1 f2 g0 g1 g2
          have hw3 : IntKind.i64.wrap ((j : Int) + 1) = (j : Int) + 1 := IntWalk.i64_in _ (by omega)
          have hjl : (j : Int) < (n' : Int) := by omega
          have hj0 : (0 : Int) ≤ (j : Int) := by omega
          clear hy
          go_upto_region 11 with fail
          go_big_region
          go_wp2
          go_roundw
          case rel => exact ⟨j + 1, by go_num, by omega, HBJ.out.drew⟩
          case measure => simp [intOf]; omega
        · have hjn : ¬ (j : Int) < (n' : Int) := by omega
          go_wp2
          go_roundw
          case rel => exact ⟨k + 1, by go_num, by omega, Epo.bel_trans HB0.out HBJ.out⟩
          case measure => simp [intOf]; omega
    · have hkn : k = n1 := by omega
      subst hkn
      go_wp2
      go_ret
      exact ⟨rfl, HB0.out⟩
end Go.Proofs.YtllebgadhhgckaaDoor.Sqs
