/- Joined: EpoR1. -/
import Derived.Test.YtmjnleohchmadaaEpoRow
import Derived.Test.YtmjnleohchmadaaEpoW
/- The document's Check, Copy, end and Put. -/
namespace Go.Proofs.Ytmjnleohchmadaa.Epo
open Go.RowKit Go.Proofs.Ytmjnleohchmadaa.Oct Go.Proofs.Ytmjnleohchmadaa.RowF Go.Proofs.Ytmjnleohchmadaa.Lay Go.Proofs.Ytmjnleohchmadaa.InR

def tb_Check4 : List (Nat × Nat) := [(0, 17592186044415), (1, 17592186044414), (2, 17592186044413), (4, 17592186044411), (8, 17592186044407), (24, 17592186044391), (40, 17592186044375), (72, 17592186044343), (136, 17592186044287), (256, 17592186044159), (768, 17592186043647), (1280, 17592186043135), (2304, 17592186042111), (4352, 17592186040319), (8192, 17592186036223), (24576, 17592186019839), (40960, 17592186003455), (73728, 17592185970687), (139264, 17592185913343), (262144, 17592185782271), (786432, 17592185257983), (1310720, 17592184733695), (2097152, 17592183947263), (6291456, 17592179752959), (2097152, 17592183947263), (2097152, 17592183947263), (35651584, 17592150392831), (85983232, 17592100061183), (136314880, 17592049729535), (270532608, 17591915511807), (547356672, 17591638687743), (1075838976, 17591110205439), (2147483648, 17590038560767), (6442450944, 17585743593471), (2147483648, 17590038560767), (2147483648, 17590038560767), (36507222016, 17555678822399), (88046829568, 17504139214847), (139586437120, 17452599607295), (277025390592, 17315160653823), (560493232128, 17031692812287), (1101661208576, 16490524835839), (2199025614848, 15393160429567), (4398046773248, 13194139271167)]
section
variable {P : Program} {ops : Array Oper} {rest : List Oper} {o : Oper} {a : Act} {Q : Exit → Act → World → Prop} {w w' : World} {vs vx v : Value}
theorem wpList_app_run9 (hgd : o.guard = none) (s x : Operand) (t : TypeId) (ho : o.op = .call { callee := .builtin .append, args := #[s, x], argTypes := #[t, t] }) (hs : a.eval s = vs) (hx : a.eval x = vx)
    (hrun : (Builtin.append_ #[t, t] o.type #[vs, vx]).run P w = .ok v w') (h : wpList P ops Q rest (a.put o.dst v) w') : wpList P ops Q (o :: rest) a w := by
  refine wpList_plain hgd fun K hK => ?_
  unfold Oper.wp execOp
  simp only [ho, resolve, invoke, builtin, Sem.run_bind, Sem.run_pure, Result.andThen_ok, List.map_toArray, List.map_cons, List.map_nil, hs, hx, hrun]
  exact hK _ _ h
end
def prvE (l : List Ep) : Nat → Int × Int
  | 0 => (-1, -1)
  | k + 1 => match l[k]? with | some y => (y.ep, y.st) | none => (-1, -1)
theorem upE_at9 {l : List Ep} {k : Nat} {x : Ep} {e s : Int} (hk : l[k]? = some x) : upE e s (l.drop k) = (decide (e < x.ep ∧ x.ep ≤ 1048576 ∧ s < x.st ∧ x.st ≤ 1099511627776) && upE x.ep x.st (l.drop (k + 1))) := by
  have hl := (List.getElem?_eq_some_iff.1 hk).1
  rw [List.drop_eq_getElem_cons hl, (List.getElem?_eq_some_iff.1 hk).2]
  rfl
def ckRelE (l : List Ep) (n : Nat) (w : World) (iv : Value) (wr : World) : Prop :=
  ∃ k : Nat, iv = .int .i64 (k : Int) ∧ k ≤ n ∧ okE l = upE (prvE l k).1 (prvE l k).2 (l.drop k) ∧ (-1 ≤ (prvE l k).1 ∧ -1 ≤ (prvE l k).2) ∧ Below w.heap.size w wr
set_option maxRecDepth 100000 in
set_option maxHeartbeats 8000000 in
theorem rCheck_is (A : Option Addr) (n c : Nat) (l : List Ep) (w : World) (hr : RdE w w.heap.size A n l) (hn : n ≤ reach) {C : Int} (hC : ckE l = C) :
    Calls Try.prog 18 #[.slice A n c] w fun e w' => e = .returned (.int .i64 C) ∧ Below w.heap.size w w' := by
  have HR := Lib.hid hr
  have HLEN := Lib.hid hr.len
  have HC := Lib.hid hC
  have hmx : Try.prog.follows .mixedOrders = true := by kernel_rfl
  have hn9 : n ≤ 140737488351232 := hn
  clear hr hC hn
  go_enter Try.func18, Try.ntmps18
  go_wp2
  go_loopw [7] (fun iv wr => ckRelE l n w iv wr) (fun iv _ => n - (intOf iv).toNat)
  case atStart => exact ⟨0, rfl, Nat.zero_le _, rfl, ⟨Int.le_refl _, Int.le_refl _⟩, Below.refl _ _⟩
  case round =>
    obtain ⟨k, rfl, hk, hup, ⟨he1, hs1⟩, hb⟩ := hrel
    have HUP := Lib.hid hup
    have HBR_0 := Lib.hid hb
    have HRR_0 := Lib.hid (rdeUp HR.out hb)
    clear hup hb
    by_cases hlt : k < n
    · obtain ⟨b, o, ⟨x0, x1⟩, rfl, hbl, hxk, d0, d1⟩ := ep_at HRR_0.out hlt
      simp only at d0 d1
      have HX := Lib.hid hxk
      have HAT := Lib.hid (upE_at9 (e := (prvE l k).1) (s := (prvE l k).2) hxk)
      have HNX := Lib.hid (show prvE l (k + 1) = (x0, x1) by show (match l[k]? with | some y => (y.ep, y.st) | none => ((-1 : Int), (-1 : Int))) = _; rw [hxk])
      have hw1 : IntKind.i64.wrap ((k : Int) + 1) = (k : Int) + 1 := IntWalk.i64_in _ (by omega)
      have hkl : (k : Int) < (n : Int) := by omega
      have hk0 : (0 : Int) ≤ (k : Int) := by omega
      go_wp2
      have hba := belA wr (.cells #[.int .i64 x0, .int .i64 x1] 32)
      have HB_1 := Lib.hid (At0.new wr [.int .i64 x0, .int .i64 x1] 32)
      have HBR_1 := Lib.hid (bel_trans HBR_0.out hba)
      have HRR_1 := Lib.hid (rdeUp HRR_0.out hba)
      clear hba d0 d1 hxk
      generalize (wr.alloc (.cells #[.int .i64 x0, .int .i64 x1] 32)) = W at *
      rcases hpv : prvE l k with ⟨pe, ps⟩
      rw [hpv] at he1 hs1
      have HPV := Lib.hid hpv
      simp only at he1 hs1
      have HBAD := Lib.hid (show ¬ (pe < x0 ∧ x0 ≤ 1048576 ∧ ps < x1 ∧ x1 ≤ 1099511627776) → okE l = false from fun h9 => by rw [HUP.out, HAT.out, HPV.out, decide_eq_false h9]; rfl)
      have HGOOD := Lib.hid (show (pe < x0 ∧ x0 ≤ 1048576 ∧ ps < x1 ∧ x1 ≤ 1099511627776) → okE l = upE (prvE l (k + 1)).1 (prvE l (k + 1)).2 (l.drop (k + 1)) from fun h9 => by rw [HNX.out, HUP.out, HAT.out, HPV.out, decide_eq_true h9]; rfl)
      rcases Nat.eq_zero_or_pos k with hkz | hkp
      · have hk9 : ¬ (0 : Int) < (k : Int) := by omega
        have hk9n : ¬ 0 < k := by omega
        obtain ⟨rfl, rfl⟩ : pe = -1 ∧ ps = -1 := by rw [hkz] at hpv; injection hpv with h1 h2; exact ⟨h1.symm, h2.symm⟩
        clear hkz hpv
        have hbd := (Below.refl W.heap.size W).drew
        have HBR_R4 := Lib.hid (bel_trans HBR_1.out hbd)
        have HB_R4 := Lib.hid (HB_1.out.below hbd)
        have HRR_R4 := Lib.hid (rdeUp HRR_1.out hbd)
        have HSR4 := Lib.hid (show (fun W9 : World => W9.cell? ⟨wr.heap.size, 0, none⟩ = some (.int .i64 x0) ∧ W9.cell? ⟨wr.heap.size, 1, none⟩ = some (.int .i64 x1)) W.drew from ⟨HB_R4.out.cell 0, HB_R4.out.cell 1⟩)
        clear hbd
        refine region_let (fun W9 : World => W9.cell? ⟨wr.heap.size, 0, none⟩ = some (.int .i64 x0) ∧ W9.cell? ⟨wr.heap.size, 1, none⟩ = some (.int .i64 x1)) 99 44 hmx rfl fun ops Q HOPS HQ => ?_
        have HREG := reg_of HOPS tb_Check4 rfl (by kernel_rfl) (by kernel_rfl) (by decide)
        refine xq 0 HOPS HREG HSR4.out ?_; simp only [ls0, ls1]; refine xq 1 HOPS HREG HSR4.out ?_; simp only [ls0, ls1]
        rcases h2 : decide (x0 < 0) with _ | _
        · skip
          refine xq 2 HOPS HREG HSR4.out ?_; simp only [ls0, ls1]; refine xq 3 HOPS HREG HSR4.out ?_; simp only [ls0, ls1]; refine xq 4 HOPS HREG HSR4.out ?_; simp only [ls0, ls1]; refine xq 5 HOPS HREG HSR4.out ?_; simp only [ls0, ls1]
          rcases h6 : decide (1048576 < x0) with _ | _
          · skip
            refine xq 6 HOPS HREG HSR4.out ?_; simp only [ls0, ls1]; refine xq 7 HOPS HREG HSR4.out ?_; simp only [ls0, ls1]; refine xq 8 HOPS HREG HSR4.out ?_; simp only [ls0, ls1]; refine xq 9 HOPS HREG HSR4.out ?_; simp only [ls0, ls1]; refine xq 10 HOPS HREG HSR4.out ?_; simp only [ls0, ls1]
            rcases h11 : decide (x1 < 0) with _ | _
            · skip
              refine xq 11 HOPS HREG HSR4.out ?_; simp only [ls0, ls1]; refine xq 12 HOPS HREG HSR4.out ?_; simp only [ls0, ls1]; refine xq 13 HOPS HREG HSR4.out ?_; simp only [ls0, ls1]; refine xq 14 HOPS HREG HSR4.out ?_; simp only [ls0, ls1]; refine xq 15 HOPS HREG HSR4.out ?_; simp only [ls0, ls1]
              rcases h16 : decide (1099511627776 < x1) with _ | _
              · skip
                refine xq 16 HOPS HREG HSR4.out ?_; simp only [ls0, ls1]; refine xq 17 HOPS HREG HSR4.out ?_; simp only [ls0, ls1]; refine xq 18 HOPS HREG HSR4.out ?_; simp only [ls0, ls1]; refine xq 19 HOPS HREG HSR4.out ?_; simp only [ls0, ls1]; refine xq 20 HOPS HREG HSR4.out ?_; simp only [ls0, ls1]; refine xq 21 HOPS HREG HSR4.out ?_; simp only [ls0, ls1]; refine xu 22 HOPS HREG HSR4.out ?_; simp only [ls0, ls1]; refine xu 23 HOPS HREG HSR4.out ?_; simp only [ls0, ls1]; refine xu 24 HOPS HREG HSR4.out ?_; simp only [ls0, ls1]; refine xu 25 HOPS HREG HSR4.out ?_; simp only [ls0, ls1]; refine xu 26 HOPS HREG HSR4.out ?_; simp only [ls0, ls1]; refine xu 27 HOPS HREG HSR4.out ?_; simp only [ls0, ls1]; refine xu 28 HOPS HREG HSR4.out ?_; simp only [ls0, ls1]; refine xu 29 HOPS HREG HSR4.out ?_; simp only [ls0, ls1]; refine xu 30 HOPS HREG HSR4.out ?_; simp only [ls0, ls1]; refine xu 31 HOPS HREG HSR4.out ?_; simp only [ls0, ls1]; refine xu 32 HOPS HREG HSR4.out ?_; simp only [ls0, ls1]; refine xu 33 HOPS HREG HSR4.out ?_; simp only [ls0, ls1]; refine xu 34 HOPS HREG HSR4.out ?_; simp only [ls0, ls1]; refine xu 35 HOPS HREG HSR4.out ?_; simp only [ls0, ls1]; refine xu 36 HOPS HREG HSR4.out ?_; simp only [ls0, ls1]; refine xu 37 HOPS HREG HSR4.out ?_; simp only [ls0, ls1]; refine xu 38 HOPS HREG HSR4.out ?_; simp only [ls0, ls1]; refine xu 39 HOPS HREG HSR4.out ?_; simp only [ls0, ls1]; refine xu 40 HOPS HREG HSR4.out ?_; simp only [ls0, ls1]; refine xu 41 HOPS HREG HSR4.out ?_; simp only [ls0, ls1]; refine xq 42 HOPS HREG HSR4.out ?_; simp only [ls0, ls1]; refine xq 43 HOPS HREG HSR4.out ?_; simp only [ls0, ls1]
                refine stepE HOPS (by kernel_rfl) (HQ.out _ _ ?_)
                clear HQ HREG HOPS
                clear Q ops
                simp only [decide_eq_false_iff_not] at h2 h6 h11 h16
                have hg9 : -1 < x0 ∧ x0 ≤ 1048576 ∧ -1 < x1 ∧ x1 ≤ 1099511627776 := by omega
                have hz := HGOOD.out hg9
                have hnx := HNX.out
                go_wp2
                go_roundw
                case rel => exact ⟨k + 1, by go_num, by omega, hz, by rw [hnx]; simp only; omega, HBR_R4.out⟩
                case measure => simp [intOf]; omega
              · skip
                refine xq 16 HOPS HREG HSR4.out ?_; simp only [ls0, ls1]; refine xq 17 HOPS HREG HSR4.out ?_; simp only [ls0, ls1]; refine xq 18 HOPS HREG HSR4.out ?_; simp only [ls0, ls1]; refine xu 19 HOPS HREG HSR4.out ?_; simp only [ls0, ls1]; refine xu 20 HOPS HREG HSR4.out ?_; simp only [ls0, ls1]; refine xu 21 HOPS HREG HSR4.out ?_; simp only [ls0, ls1]; refine xu 22 HOPS HREG HSR4.out ?_; simp only [ls0, ls1]; refine xu 23 HOPS HREG HSR4.out ?_; simp only [ls0, ls1]; refine xu 24 HOPS HREG HSR4.out ?_; simp only [ls0, ls1]; refine xu 25 HOPS HREG HSR4.out ?_; simp only [ls0, ls1]; refine xu 26 HOPS HREG HSR4.out ?_; simp only [ls0, ls1]; refine xu 27 HOPS HREG HSR4.out ?_; simp only [ls0, ls1]; refine xu 28 HOPS HREG HSR4.out ?_; simp only [ls0, ls1]; refine xu 29 HOPS HREG HSR4.out ?_; simp only [ls0, ls1]; refine xu 30 HOPS HREG HSR4.out ?_; simp only [ls0, ls1]; refine xu 31 HOPS HREG HSR4.out ?_; simp only [ls0, ls1]; refine xu 32 HOPS HREG HSR4.out ?_; simp only [ls0, ls1]; refine xu 33 HOPS HREG HSR4.out ?_; simp only [ls0, ls1]; refine xu 34 HOPS HREG HSR4.out ?_; simp only [ls0, ls1]; refine xu 35 HOPS HREG HSR4.out ?_; simp only [ls0, ls1]; refine xu 36 HOPS HREG HSR4.out ?_; simp only [ls0, ls1]; refine xu 37 HOPS HREG HSR4.out ?_; simp only [ls0, ls1]; refine xu 38 HOPS HREG HSR4.out ?_; simp only [ls0, ls1]; refine xu 39 HOPS HREG HSR4.out ?_; simp only [ls0, ls1]; refine xu 40 HOPS HREG HSR4.out ?_; simp only [ls0, ls1]; refine xu 41 HOPS HREG HSR4.out ?_; simp only [ls0, ls1]; refine xu 42 HOPS HREG HSR4.out ?_; simp only [ls0, ls1]; refine xq 43 HOPS HREG HSR4.out ?_; simp only [ls0, ls1]
                refine stepE HOPS (by kernel_rfl) (HQ.out _ _ ?_)
                clear HQ HREG HOPS
                clear Q ops
                simp only [decide_eq_true_eq, decide_eq_false_iff_not] at h2 h6 h11 h16
                have hz := HBAD.out (by omega)
                have hC1 : C = 1 := by rw [← HC.out]; unfold ckE; rw [hz]; rfl
                subst hC1
                go_wp2
                go_ret
                exact ⟨rfl, HBR_R4.out⟩
            · skip
              refine xq 11 HOPS HREG HSR4.out ?_; simp only [ls0, ls1]; refine xq 12 HOPS HREG HSR4.out ?_; simp only [ls0, ls1]; refine xq 13 HOPS HREG HSR4.out ?_; simp only [ls0, ls1]; refine xu 14 HOPS HREG HSR4.out ?_; simp only [ls0, ls1]; refine xu 15 HOPS HREG HSR4.out ?_; simp only [ls0, ls1]; refine xu 16 HOPS HREG HSR4.out ?_; simp only [ls0, ls1]; refine xq 17 HOPS HREG HSR4.out ?_; simp only [ls0, ls1]; refine xq 18 HOPS HREG HSR4.out ?_; simp only [ls0, ls1]; refine xu 19 HOPS HREG HSR4.out ?_; simp only [ls0, ls1]; refine xu 20 HOPS HREG HSR4.out ?_; simp only [ls0, ls1]; refine xu 21 HOPS HREG HSR4.out ?_; simp only [ls0, ls1]; refine xu 22 HOPS HREG HSR4.out ?_; simp only [ls0, ls1]; refine xu 23 HOPS HREG HSR4.out ?_; simp only [ls0, ls1]; refine xu 24 HOPS HREG HSR4.out ?_; simp only [ls0, ls1]; refine xu 25 HOPS HREG HSR4.out ?_; simp only [ls0, ls1]; refine xu 26 HOPS HREG HSR4.out ?_; simp only [ls0, ls1]; refine xu 27 HOPS HREG HSR4.out ?_; simp only [ls0, ls1]; refine xu 28 HOPS HREG HSR4.out ?_; simp only [ls0, ls1]; refine xu 29 HOPS HREG HSR4.out ?_; simp only [ls0, ls1]; refine xu 30 HOPS HREG HSR4.out ?_; simp only [ls0, ls1]; refine xu 31 HOPS HREG HSR4.out ?_; simp only [ls0, ls1]; refine xu 32 HOPS HREG HSR4.out ?_; simp only [ls0, ls1]; refine xu 33 HOPS HREG HSR4.out ?_; simp only [ls0, ls1]; refine xu 34 HOPS HREG HSR4.out ?_; simp only [ls0, ls1]; refine xu 35 HOPS HREG HSR4.out ?_; simp only [ls0, ls1]; refine xu 36 HOPS HREG HSR4.out ?_; simp only [ls0, ls1]; refine xu 37 HOPS HREG HSR4.out ?_; simp only [ls0, ls1]; refine xu 38 HOPS HREG HSR4.out ?_; simp only [ls0, ls1]; refine xu 39 HOPS HREG HSR4.out ?_; simp only [ls0, ls1]; refine xu 40 HOPS HREG HSR4.out ?_; simp only [ls0, ls1]; refine xu 41 HOPS HREG HSR4.out ?_; simp only [ls0, ls1]; refine xu 42 HOPS HREG HSR4.out ?_; simp only [ls0, ls1]; refine xq 43 HOPS HREG HSR4.out ?_; simp only [ls0, ls1]
              refine stepE HOPS (by kernel_rfl) (HQ.out _ _ ?_)
              clear HQ HREG HOPS
              clear Q ops
              simp only [decide_eq_true_eq, decide_eq_false_iff_not] at h2 h6 h11
              have hz := HBAD.out (by omega)
              have hC1 : C = 1 := by rw [← HC.out]; unfold ckE; rw [hz]; rfl
              subst hC1
              go_wp2
              go_ret
              exact ⟨rfl, HBR_R4.out⟩
          · skip
            refine xq 6 HOPS HREG HSR4.out ?_; simp only [ls0, ls1]; refine xq 7 HOPS HREG HSR4.out ?_; simp only [ls0, ls1]; refine xq 8 HOPS HREG HSR4.out ?_; simp only [ls0, ls1]; refine xu 9 HOPS HREG HSR4.out ?_; simp only [ls0, ls1]; refine xu 10 HOPS HREG HSR4.out ?_; simp only [ls0, ls1]; refine xu 11 HOPS HREG HSR4.out ?_; simp only [ls0, ls1]; refine xq 12 HOPS HREG HSR4.out ?_; simp only [ls0, ls1]; refine xq 13 HOPS HREG HSR4.out ?_; simp only [ls0, ls1]; refine xu 14 HOPS HREG HSR4.out ?_; simp only [ls0, ls1]; refine xu 15 HOPS HREG HSR4.out ?_; simp only [ls0, ls1]; refine xu 16 HOPS HREG HSR4.out ?_; simp only [ls0, ls1]; refine xq 17 HOPS HREG HSR4.out ?_; simp only [ls0, ls1]; refine xq 18 HOPS HREG HSR4.out ?_; simp only [ls0, ls1]; refine xu 19 HOPS HREG HSR4.out ?_; simp only [ls0, ls1]; refine xu 20 HOPS HREG HSR4.out ?_; simp only [ls0, ls1]; refine xu 21 HOPS HREG HSR4.out ?_; simp only [ls0, ls1]; refine xu 22 HOPS HREG HSR4.out ?_; simp only [ls0, ls1]; refine xu 23 HOPS HREG HSR4.out ?_; simp only [ls0, ls1]; refine xu 24 HOPS HREG HSR4.out ?_; simp only [ls0, ls1]; refine xu 25 HOPS HREG HSR4.out ?_; simp only [ls0, ls1]; refine xu 26 HOPS HREG HSR4.out ?_; simp only [ls0, ls1]; refine xu 27 HOPS HREG HSR4.out ?_; simp only [ls0, ls1]; refine xu 28 HOPS HREG HSR4.out ?_; simp only [ls0, ls1]; refine xu 29 HOPS HREG HSR4.out ?_; simp only [ls0, ls1]; refine xu 30 HOPS HREG HSR4.out ?_; simp only [ls0, ls1]; refine xu 31 HOPS HREG HSR4.out ?_; simp only [ls0, ls1]; refine xu 32 HOPS HREG HSR4.out ?_; simp only [ls0, ls1]; refine xu 33 HOPS HREG HSR4.out ?_; simp only [ls0, ls1]; refine xu 34 HOPS HREG HSR4.out ?_; simp only [ls0, ls1]; refine xu 35 HOPS HREG HSR4.out ?_; simp only [ls0, ls1]; refine xu 36 HOPS HREG HSR4.out ?_; simp only [ls0, ls1]; refine xu 37 HOPS HREG HSR4.out ?_; simp only [ls0, ls1]; refine xu 38 HOPS HREG HSR4.out ?_; simp only [ls0, ls1]; refine xu 39 HOPS HREG HSR4.out ?_; simp only [ls0, ls1]; refine xu 40 HOPS HREG HSR4.out ?_; simp only [ls0, ls1]; refine xu 41 HOPS HREG HSR4.out ?_; simp only [ls0, ls1]; refine xu 42 HOPS HREG HSR4.out ?_; simp only [ls0, ls1]; refine xq 43 HOPS HREG HSR4.out ?_; simp only [ls0, ls1]
            refine stepE HOPS (by kernel_rfl) (HQ.out _ _ ?_)
            clear HQ HREG HOPS
            clear Q ops
            simp only [decide_eq_true_eq, decide_eq_false_iff_not] at h2 h6
            have hz := HBAD.out (by omega)
            have hC1 : C = 1 := by rw [← HC.out]; unfold ckE; rw [hz]; rfl
            subst hC1
            go_wp2
            go_ret
            exact ⟨rfl, HBR_R4.out⟩
        · skip
          refine xq 2 HOPS HREG HSR4.out ?_; simp only [ls0, ls1]; refine xq 3 HOPS HREG HSR4.out ?_; simp only [ls0, ls1]; refine xu 4 HOPS HREG HSR4.out ?_; simp only [ls0, ls1]; refine xu 5 HOPS HREG HSR4.out ?_; simp only [ls0, ls1]; refine xu 6 HOPS HREG HSR4.out ?_; simp only [ls0, ls1]; refine xq 7 HOPS HREG HSR4.out ?_; simp only [ls0, ls1]; refine xq 8 HOPS HREG HSR4.out ?_; simp only [ls0, ls1]; refine xu 9 HOPS HREG HSR4.out ?_; simp only [ls0, ls1]; refine xu 10 HOPS HREG HSR4.out ?_; simp only [ls0, ls1]; refine xu 11 HOPS HREG HSR4.out ?_; simp only [ls0, ls1]; refine xq 12 HOPS HREG HSR4.out ?_; simp only [ls0, ls1]; refine xq 13 HOPS HREG HSR4.out ?_; simp only [ls0, ls1]; refine xu 14 HOPS HREG HSR4.out ?_; simp only [ls0, ls1]; refine xu 15 HOPS HREG HSR4.out ?_; simp only [ls0, ls1]; refine xu 16 HOPS HREG HSR4.out ?_; simp only [ls0, ls1]; refine xq 17 HOPS HREG HSR4.out ?_; simp only [ls0, ls1]; refine xq 18 HOPS HREG HSR4.out ?_; simp only [ls0, ls1]; refine xu 19 HOPS HREG HSR4.out ?_; simp only [ls0, ls1]; refine xu 20 HOPS HREG HSR4.out ?_; simp only [ls0, ls1]; refine xu 21 HOPS HREG HSR4.out ?_; simp only [ls0, ls1]; refine xu 22 HOPS HREG HSR4.out ?_; simp only [ls0, ls1]; refine xu 23 HOPS HREG HSR4.out ?_; simp only [ls0, ls1]; refine xu 24 HOPS HREG HSR4.out ?_; simp only [ls0, ls1]; refine xu 25 HOPS HREG HSR4.out ?_; simp only [ls0, ls1]; refine xu 26 HOPS HREG HSR4.out ?_; simp only [ls0, ls1]; refine xu 27 HOPS HREG HSR4.out ?_; simp only [ls0, ls1]; refine xu 28 HOPS HREG HSR4.out ?_; simp only [ls0, ls1]; refine xu 29 HOPS HREG HSR4.out ?_; simp only [ls0, ls1]; refine xu 30 HOPS HREG HSR4.out ?_; simp only [ls0, ls1]; refine xu 31 HOPS HREG HSR4.out ?_; simp only [ls0, ls1]; refine xu 32 HOPS HREG HSR4.out ?_; simp only [ls0, ls1]; refine xu 33 HOPS HREG HSR4.out ?_; simp only [ls0, ls1]; refine xu 34 HOPS HREG HSR4.out ?_; simp only [ls0, ls1]; refine xu 35 HOPS HREG HSR4.out ?_; simp only [ls0, ls1]; refine xu 36 HOPS HREG HSR4.out ?_; simp only [ls0, ls1]; refine xu 37 HOPS HREG HSR4.out ?_; simp only [ls0, ls1]; refine xu 38 HOPS HREG HSR4.out ?_; simp only [ls0, ls1]; refine xu 39 HOPS HREG HSR4.out ?_; simp only [ls0, ls1]; refine xu 40 HOPS HREG HSR4.out ?_; simp only [ls0, ls1]; refine xu 41 HOPS HREG HSR4.out ?_; simp only [ls0, ls1]; refine xu 42 HOPS HREG HSR4.out ?_; simp only [ls0, ls1]; refine xq 43 HOPS HREG HSR4.out ?_; simp only [ls0, ls1]
          refine stepE HOPS (by kernel_rfl) (HQ.out _ _ ?_)
          clear HQ HREG HOPS
          clear Q ops
          simp only [decide_eq_true_eq] at h2
          have hz := HBAD.out (by omega)
          have hC1 : C = 1 := by rw [← HC.out]; unfold ckE; rw [hz]; rfl
          subst hC1
          go_wp2
          go_ret
          exact ⟨rfl, HBR_R4.out⟩
      · obtain ⟨b', o', ⟨y0, y1⟩, hA0, hbl0, hx0, e0, e1⟩ := ep_at (k := k - 1) HRR_1.out (by omega)
        obtain ⟨rfl, rfl⟩ : b = b' ∧ o = o' := by injection hA0 with h; injection h with h1 h2; exact ⟨h1, h2⟩
        simp only at e0 e1
        obtain ⟨rfl, rfl⟩ : y0 = pe ∧ y1 = ps := by obtain ⟨j, rfl⟩ : ∃ j, k = j + 1 := ⟨k - 1, by omega⟩; have h9 : prvE l (j + 1) = (y0, y1) := (by show (match l[j]? with | some y => (y.ep, y.st) | none => ((-1 : Int), (-1 : Int))) = _; rw [show l[j]? = some ⟨y0, y1⟩ from hx0]); rw [h9] at hpv; injection hpv with h1 h2; exact ⟨h1, h2⟩
        have HP_1 := Lib.hid (AtO.two hbl0 e0 e1)
        have hk9 : (0 : Int) < (k : Int) := by omega
        have hwk : IntKind.i64.wrap ((k : Int) - 1) = (k : Int) - 1 := IntWalk.i64_in _ (by omega)
        have htn : ((k : Int) - 1).toNat = k - 1 := by omega
        have hq3 : (1 : Int) ≤ (k : Int) := by omega
        have hq4 : (k : Int) - 1 < (n : Int) := by omega
        clear hA0 hx0 e0 e1 hpv hbl0
        have hbd := (Below.refl W.heap.size W).drew
        have HBR_R4b := Lib.hid (bel_trans HBR_1.out hbd)
        have HB_R4b := Lib.hid (HB_1.out.below hbd)
        have HRR_R4b := Lib.hid (rdeUp HRR_1.out hbd)
        have HP_R4b := Lib.hid (HP_1.out.below hbd)
        have HSR4b := Lib.hid (show (fun W9 : World => W9.cell? ⟨wr.heap.size, 0, none⟩ = some (.int .i64 x0) ∧ W9.cell? ⟨wr.heap.size, 1, none⟩ = some (.int .i64 x1) ∧ W9.cell? ⟨b, o + (k - 1) * 2, none⟩ = some (.int .i64 y0) ∧ W9.cell? ⟨b, o + (k - 1) * 2 + 1, none⟩ = some (.int .i64 y1)) W.drew from ⟨HB_R4b.out.cell 0, HB_R4b.out.cell 1, HP_R4b.out.2 0 _ rfl, HP_R4b.out.2 1 _ rfl⟩)
        clear hbd
        refine region_let (fun W9 : World => W9.cell? ⟨wr.heap.size, 0, none⟩ = some (.int .i64 x0) ∧ W9.cell? ⟨wr.heap.size, 1, none⟩ = some (.int .i64 x1) ∧ W9.cell? ⟨b, o + (k - 1) * 2, none⟩ = some (.int .i64 y0) ∧ W9.cell? ⟨b, o + (k - 1) * 2 + 1, none⟩ = some (.int .i64 y1)) 99 44 hmx rfl fun ops Q HOPS HQ => ?_
        have HREG := reg_of HOPS tb_Check4 rfl (by kernel_rfl) (by kernel_rfl) (by decide)
        refine xq 0 HOPS HREG HSR4b.out ?_; simp only [ls0, ls1]; refine xq 1 HOPS HREG HSR4b.out ?_; simp only [ls0, ls1]
        rcases h2 : decide (x0 < 0) with _ | _
        · skip
          refine xq 2 HOPS HREG HSR4b.out ?_; simp only [ls0, ls1]; refine xq 3 HOPS HREG HSR4b.out ?_; simp only [ls0, ls1]; refine xq 4 HOPS HREG HSR4b.out ?_; simp only [ls0, ls1]; refine xq 5 HOPS HREG HSR4b.out ?_; simp only [ls0, ls1]
          rcases h6 : decide (1048576 < x0) with _ | _
          · skip
            refine xq 6 HOPS HREG HSR4b.out ?_; simp only [ls0, ls1]; refine xq 7 HOPS HREG HSR4b.out ?_; simp only [ls0, ls1]; refine xq 8 HOPS HREG HSR4b.out ?_; simp only [ls0, ls1]; refine xq 9 HOPS HREG HSR4b.out ?_; simp only [ls0, ls1]; refine xq 10 HOPS HREG HSR4b.out ?_; simp only [ls0, ls1]
            rcases h11 : decide (x1 < 0) with _ | _
            · skip
              refine xq 11 HOPS HREG HSR4b.out ?_; simp only [ls0, ls1]; refine xq 12 HOPS HREG HSR4b.out ?_; simp only [ls0, ls1]; refine xq 13 HOPS HREG HSR4b.out ?_; simp only [ls0, ls1]; refine xq 14 HOPS HREG HSR4b.out ?_; simp only [ls0, ls1]; refine xq 15 HOPS HREG HSR4b.out ?_; simp only [ls0, ls1]
              rcases h16 : decide (1099511627776 < x1) with _ | _
              · skip
                refine xq 16 HOPS HREG HSR4b.out ?_; simp only [ls0, ls1]; refine xq 17 HOPS HREG HSR4b.out ?_; simp only [ls0, ls1]; refine xq 18 HOPS HREG HSR4b.out ?_; simp only [ls0, ls1]; refine xq 19 HOPS HREG HSR4b.out ?_; simp only [ls0, ls1]; refine xq 20 HOPS HREG HSR4b.out ?_; simp only [ls0, ls1]; refine xq 21 HOPS HREG HSR4b.out ?_; simp only [ls0, ls1]; refine xq 22 HOPS HREG HSR4b.out ?_; simp only [ls0, ls1]; refine xq 23 HOPS HREG HSR4b.out ?_; simp only [ls0, ls1]; refine xq 24 HOPS HREG HSR4b.out ?_; simp only [ls0, ls1]; refine xq 25 HOPS HREG HSR4b.out ?_; simp only [ls0, ls1]; refine xq 26 HOPS HREG HSR4b.out ?_; simp only [ls0, ls1]; refine xq 27 HOPS HREG HSR4b.out ?_; simp only [ls0, ls1]; refine xq 28 HOPS HREG HSR4b.out ?_; simp only [ls0, ls1]; refine xq 29 HOPS HREG HSR4b.out ?_; simp only [ls0, ls1]
                rcases h30 : decide (x0 ≤ y0) with _ | _
                · skip
                  refine xq 30 HOPS HREG HSR4b.out ?_; simp only [ls0, ls1]; refine xq 31 HOPS HREG HSR4b.out ?_; simp only [ls0, ls1]; refine xq 32 HOPS HREG HSR4b.out ?_; simp only [ls0, ls1]; refine xq 33 HOPS HREG HSR4b.out ?_; simp only [ls0, ls1]; refine xq 34 HOPS HREG HSR4b.out ?_; simp only [ls0, ls1]; refine xq 35 HOPS HREG HSR4b.out ?_; simp only [ls0, ls1]; refine xq 36 HOPS HREG HSR4b.out ?_; simp only [ls0, ls1]; refine xq 37 HOPS HREG HSR4b.out ?_; simp only [ls0, ls1]; refine xq 38 HOPS HREG HSR4b.out ?_; simp only [ls0, ls1]; refine xq 39 HOPS HREG HSR4b.out ?_; simp only [ls0, ls1]
                  rcases h40 : decide (x1 ≤ y1) with _ | _
                  · skip
                    refine xq 40 HOPS HREG HSR4b.out ?_; simp only [ls0, ls1]; refine xq 41 HOPS HREG HSR4b.out ?_; simp only [ls0, ls1]; refine xq 42 HOPS HREG HSR4b.out ?_; simp only [ls0, ls1]; refine xq 43 HOPS HREG HSR4b.out ?_; simp only [ls0, ls1]
                    refine stepE HOPS (by kernel_rfl) (HQ.out _ _ ?_)
                    clear HQ HREG HOPS
                    clear Q ops
                    simp only [decide_eq_false_iff_not] at h2 h6 h11 h16 h30 h40
                    have hg9 : y0 < x0 ∧ x0 ≤ 1048576 ∧ y1 < x1 ∧ x1 ≤ 1099511627776 := by omega
                    have hz := HGOOD.out hg9
                    have hnx := HNX.out
                    go_wp2
                    go_roundw
                    case rel => exact ⟨k + 1, by go_num, by omega, hz, by rw [hnx]; simp only; omega, HBR_R4b.out⟩
                    case measure => simp [intOf]; omega
                  · skip
                    refine xq 40 HOPS HREG HSR4b.out ?_; simp only [ls0, ls1]; refine xq 41 HOPS HREG HSR4b.out ?_; simp only [ls0, ls1]; refine xq 42 HOPS HREG HSR4b.out ?_; simp only [ls0, ls1]; refine xq 43 HOPS HREG HSR4b.out ?_; simp only [ls0, ls1]
                    refine stepE HOPS (by kernel_rfl) (HQ.out _ _ ?_)
                    clear HQ HREG HOPS
                    clear Q ops
                    simp only [decide_eq_true_eq, decide_eq_false_iff_not] at h2 h6 h11 h16 h30 h40
                    have hz := HBAD.out (by omega)
                    have hC1 : C = 1 := by rw [← HC.out]; unfold ckE; rw [hz]; rfl
                    subst hC1
                    go_wp2
                    go_ret
                    exact ⟨rfl, HBR_R4b.out⟩
                · skip
                  refine xq 30 HOPS HREG HSR4b.out ?_; simp only [ls0, ls1]; refine xq 31 HOPS HREG HSR4b.out ?_; simp only [ls0, ls1]; refine xu 32 HOPS HREG HSR4b.out ?_; simp only [ls0, ls1]; refine xu 33 HOPS HREG HSR4b.out ?_; simp only [ls0, ls1]; refine xu 34 HOPS HREG HSR4b.out ?_; simp only [ls0, ls1]; refine xu 35 HOPS HREG HSR4b.out ?_; simp only [ls0, ls1]; refine xu 36 HOPS HREG HSR4b.out ?_; simp only [ls0, ls1]; refine xu 37 HOPS HREG HSR4b.out ?_; simp only [ls0, ls1]; refine xu 38 HOPS HREG HSR4b.out ?_; simp only [ls0, ls1]; refine xu 39 HOPS HREG HSR4b.out ?_; simp only [ls0, ls1]; refine xu 40 HOPS HREG HSR4b.out ?_; simp only [ls0, ls1]; refine xq 41 HOPS HREG HSR4b.out ?_; simp only [ls0, ls1]; refine xq 42 HOPS HREG HSR4b.out ?_; simp only [ls0, ls1]; refine xq 43 HOPS HREG HSR4b.out ?_; simp only [ls0, ls1]
                  refine stepE HOPS (by kernel_rfl) (HQ.out _ _ ?_)
                  clear HQ HREG HOPS
                  clear Q ops
                  simp only [decide_eq_true_eq, decide_eq_false_iff_not] at h2 h6 h11 h16 h30
                  have hz := HBAD.out (by omega)
                  have hC1 : C = 1 := by rw [← HC.out]; unfold ckE; rw [hz]; rfl
                  subst hC1
                  go_wp2
                  go_ret
                  exact ⟨rfl, HBR_R4b.out⟩
              · skip
                refine xq 16 HOPS HREG HSR4b.out ?_; simp only [ls0, ls1]; refine xq 17 HOPS HREG HSR4b.out ?_; simp only [ls0, ls1]; refine xq 18 HOPS HREG HSR4b.out ?_; simp only [ls0, ls1]; refine xu 19 HOPS HREG HSR4b.out ?_; simp only [ls0, ls1]; refine xu 20 HOPS HREG HSR4b.out ?_; simp only [ls0, ls1]; refine xu 21 HOPS HREG HSR4b.out ?_; simp only [ls0, ls1]; refine xu 22 HOPS HREG HSR4b.out ?_; simp only [ls0, ls1]; refine xu 23 HOPS HREG HSR4b.out ?_; simp only [ls0, ls1]; refine xu 24 HOPS HREG HSR4b.out ?_; simp only [ls0, ls1]; refine xu 25 HOPS HREG HSR4b.out ?_; simp only [ls0, ls1]; refine xu 26 HOPS HREG HSR4b.out ?_; simp only [ls0, ls1]; refine xu 27 HOPS HREG HSR4b.out ?_; simp only [ls0, ls1]; refine xu 28 HOPS HREG HSR4b.out ?_; simp only [ls0, ls1]; refine xu 29 HOPS HREG HSR4b.out ?_; simp only [ls0, ls1]; refine xu 30 HOPS HREG HSR4b.out ?_; simp only [ls0, ls1]; refine xu 31 HOPS HREG HSR4b.out ?_; simp only [ls0, ls1]; refine xu 32 HOPS HREG HSR4b.out ?_; simp only [ls0, ls1]; refine xu 33 HOPS HREG HSR4b.out ?_; simp only [ls0, ls1]; refine xu 34 HOPS HREG HSR4b.out ?_; simp only [ls0, ls1]; refine xu 35 HOPS HREG HSR4b.out ?_; simp only [ls0, ls1]; refine xu 36 HOPS HREG HSR4b.out ?_; simp only [ls0, ls1]; refine xu 37 HOPS HREG HSR4b.out ?_; simp only [ls0, ls1]; refine xu 38 HOPS HREG HSR4b.out ?_; simp only [ls0, ls1]; refine xu 39 HOPS HREG HSR4b.out ?_; simp only [ls0, ls1]; refine xu 40 HOPS HREG HSR4b.out ?_; simp only [ls0, ls1]; refine xu 41 HOPS HREG HSR4b.out ?_; simp only [ls0, ls1]; refine xu 42 HOPS HREG HSR4b.out ?_; simp only [ls0, ls1]; refine xq 43 HOPS HREG HSR4b.out ?_; simp only [ls0, ls1]
                refine stepE HOPS (by kernel_rfl) (HQ.out _ _ ?_)
                clear HQ HREG HOPS
                clear Q ops
                simp only [decide_eq_true_eq, decide_eq_false_iff_not] at h2 h6 h11 h16
                have hz := HBAD.out (by omega)
                have hC1 : C = 1 := by rw [← HC.out]; unfold ckE; rw [hz]; rfl
                subst hC1
                go_wp2
                go_ret
                exact ⟨rfl, HBR_R4b.out⟩
            · skip
              refine xq 11 HOPS HREG HSR4b.out ?_; simp only [ls0, ls1]; refine xq 12 HOPS HREG HSR4b.out ?_; simp only [ls0, ls1]; refine xq 13 HOPS HREG HSR4b.out ?_; simp only [ls0, ls1]; refine xu 14 HOPS HREG HSR4b.out ?_; simp only [ls0, ls1]; refine xu 15 HOPS HREG HSR4b.out ?_; simp only [ls0, ls1]; refine xu 16 HOPS HREG HSR4b.out ?_; simp only [ls0, ls1]; refine xq 17 HOPS HREG HSR4b.out ?_; simp only [ls0, ls1]; refine xq 18 HOPS HREG HSR4b.out ?_; simp only [ls0, ls1]; refine xu 19 HOPS HREG HSR4b.out ?_; simp only [ls0, ls1]; refine xu 20 HOPS HREG HSR4b.out ?_; simp only [ls0, ls1]; refine xu 21 HOPS HREG HSR4b.out ?_; simp only [ls0, ls1]; refine xu 22 HOPS HREG HSR4b.out ?_; simp only [ls0, ls1]; refine xu 23 HOPS HREG HSR4b.out ?_; simp only [ls0, ls1]; refine xu 24 HOPS HREG HSR4b.out ?_; simp only [ls0, ls1]; refine xu 25 HOPS HREG HSR4b.out ?_; simp only [ls0, ls1]; refine xu 26 HOPS HREG HSR4b.out ?_; simp only [ls0, ls1]; refine xu 27 HOPS HREG HSR4b.out ?_; simp only [ls0, ls1]; refine xu 28 HOPS HREG HSR4b.out ?_; simp only [ls0, ls1]; refine xu 29 HOPS HREG HSR4b.out ?_; simp only [ls0, ls1]; refine xu 30 HOPS HREG HSR4b.out ?_; simp only [ls0, ls1]; refine xu 31 HOPS HREG HSR4b.out ?_; simp only [ls0, ls1]; refine xu 32 HOPS HREG HSR4b.out ?_; simp only [ls0, ls1]; refine xu 33 HOPS HREG HSR4b.out ?_; simp only [ls0, ls1]; refine xu 34 HOPS HREG HSR4b.out ?_; simp only [ls0, ls1]; refine xu 35 HOPS HREG HSR4b.out ?_; simp only [ls0, ls1]; refine xu 36 HOPS HREG HSR4b.out ?_; simp only [ls0, ls1]; refine xu 37 HOPS HREG HSR4b.out ?_; simp only [ls0, ls1]; refine xu 38 HOPS HREG HSR4b.out ?_; simp only [ls0, ls1]; refine xu 39 HOPS HREG HSR4b.out ?_; simp only [ls0, ls1]; refine xu 40 HOPS HREG HSR4b.out ?_; simp only [ls0, ls1]; refine xu 41 HOPS HREG HSR4b.out ?_; simp only [ls0, ls1]; refine xu 42 HOPS HREG HSR4b.out ?_; simp only [ls0, ls1]; refine xq 43 HOPS HREG HSR4b.out ?_; simp only [ls0, ls1]
              refine stepE HOPS (by kernel_rfl) (HQ.out _ _ ?_)
              clear HQ HREG HOPS
              clear Q ops
              simp only [decide_eq_true_eq, decide_eq_false_iff_not] at h2 h6 h11
              have hz := HBAD.out (by omega)
              have hC1 : C = 1 := by rw [← HC.out]; unfold ckE; rw [hz]; rfl
              subst hC1
              go_wp2
              go_ret
              exact ⟨rfl, HBR_R4b.out⟩
          · skip
            refine xq 6 HOPS HREG HSR4b.out ?_; simp only [ls0, ls1]; refine xq 7 HOPS HREG HSR4b.out ?_; simp only [ls0, ls1]; refine xq 8 HOPS HREG HSR4b.out ?_; simp only [ls0, ls1]; refine xu 9 HOPS HREG HSR4b.out ?_; simp only [ls0, ls1]; refine xu 10 HOPS HREG HSR4b.out ?_; simp only [ls0, ls1]; refine xu 11 HOPS HREG HSR4b.out ?_; simp only [ls0, ls1]; refine xq 12 HOPS HREG HSR4b.out ?_; simp only [ls0, ls1]; refine xq 13 HOPS HREG HSR4b.out ?_; simp only [ls0, ls1]; refine xu 14 HOPS HREG HSR4b.out ?_; simp only [ls0, ls1]; refine xu 15 HOPS HREG HSR4b.out ?_; simp only [ls0, ls1]; refine xu 16 HOPS HREG HSR4b.out ?_; simp only [ls0, ls1]; refine xq 17 HOPS HREG HSR4b.out ?_; simp only [ls0, ls1]; refine xq 18 HOPS HREG HSR4b.out ?_; simp only [ls0, ls1]; refine xu 19 HOPS HREG HSR4b.out ?_; simp only [ls0, ls1]; refine xu 20 HOPS HREG HSR4b.out ?_; simp only [ls0, ls1]; refine xu 21 HOPS HREG HSR4b.out ?_; simp only [ls0, ls1]; refine xu 22 HOPS HREG HSR4b.out ?_; simp only [ls0, ls1]; refine xu 23 HOPS HREG HSR4b.out ?_; simp only [ls0, ls1]; refine xu 24 HOPS HREG HSR4b.out ?_; simp only [ls0, ls1]; refine xu 25 HOPS HREG HSR4b.out ?_; simp only [ls0, ls1]; refine xu 26 HOPS HREG HSR4b.out ?_; simp only [ls0, ls1]; refine xu 27 HOPS HREG HSR4b.out ?_; simp only [ls0, ls1]; refine xu 28 HOPS HREG HSR4b.out ?_; simp only [ls0, ls1]; refine xu 29 HOPS HREG HSR4b.out ?_; simp only [ls0, ls1]; refine xu 30 HOPS HREG HSR4b.out ?_; simp only [ls0, ls1]; refine xu 31 HOPS HREG HSR4b.out ?_; simp only [ls0, ls1]; refine xu 32 HOPS HREG HSR4b.out ?_; simp only [ls0, ls1]; refine xu 33 HOPS HREG HSR4b.out ?_; simp only [ls0, ls1]; refine xu 34 HOPS HREG HSR4b.out ?_; simp only [ls0, ls1]; refine xu 35 HOPS HREG HSR4b.out ?_; simp only [ls0, ls1]; refine xu 36 HOPS HREG HSR4b.out ?_; simp only [ls0, ls1]; refine xu 37 HOPS HREG HSR4b.out ?_; simp only [ls0, ls1]; refine xu 38 HOPS HREG HSR4b.out ?_; simp only [ls0, ls1]; refine xu 39 HOPS HREG HSR4b.out ?_; simp only [ls0, ls1]; refine xu 40 HOPS HREG HSR4b.out ?_; simp only [ls0, ls1]; refine xu 41 HOPS HREG HSR4b.out ?_; simp only [ls0, ls1]; refine xu 42 HOPS HREG HSR4b.out ?_; simp only [ls0, ls1]; refine xq 43 HOPS HREG HSR4b.out ?_; simp only [ls0, ls1]
            refine stepE HOPS (by kernel_rfl) (HQ.out _ _ ?_)
            clear HQ HREG HOPS
            clear Q ops
            simp only [decide_eq_true_eq, decide_eq_false_iff_not] at h2 h6
            have hz := HBAD.out (by omega)
            have hC1 : C = 1 := by rw [← HC.out]; unfold ckE; rw [hz]; rfl
            subst hC1
            go_wp2
            go_ret
            exact ⟨rfl, HBR_R4b.out⟩
        · skip
          refine xq 2 HOPS HREG HSR4b.out ?_; simp only [ls0, ls1]; refine xq 3 HOPS HREG HSR4b.out ?_; simp only [ls0, ls1]; refine xu 4 HOPS HREG HSR4b.out ?_; simp only [ls0, ls1]; refine xu 5 HOPS HREG HSR4b.out ?_; simp only [ls0, ls1]; refine xu 6 HOPS HREG HSR4b.out ?_; simp only [ls0, ls1]; refine xq 7 HOPS HREG HSR4b.out ?_; simp only [ls0, ls1]; refine xq 8 HOPS HREG HSR4b.out ?_; simp only [ls0, ls1]; refine xu 9 HOPS HREG HSR4b.out ?_; simp only [ls0, ls1]; refine xu 10 HOPS HREG HSR4b.out ?_; simp only [ls0, ls1]; refine xu 11 HOPS HREG HSR4b.out ?_; simp only [ls0, ls1]; refine xq 12 HOPS HREG HSR4b.out ?_; simp only [ls0, ls1]; refine xq 13 HOPS HREG HSR4b.out ?_; simp only [ls0, ls1]; refine xu 14 HOPS HREG HSR4b.out ?_; simp only [ls0, ls1]; refine xu 15 HOPS HREG HSR4b.out ?_; simp only [ls0, ls1]; refine xu 16 HOPS HREG HSR4b.out ?_; simp only [ls0, ls1]; refine xq 17 HOPS HREG HSR4b.out ?_; simp only [ls0, ls1]; refine xq 18 HOPS HREG HSR4b.out ?_; simp only [ls0, ls1]; refine xu 19 HOPS HREG HSR4b.out ?_; simp only [ls0, ls1]; refine xu 20 HOPS HREG HSR4b.out ?_; simp only [ls0, ls1]; refine xu 21 HOPS HREG HSR4b.out ?_; simp only [ls0, ls1]; refine xu 22 HOPS HREG HSR4b.out ?_; simp only [ls0, ls1]; refine xu 23 HOPS HREG HSR4b.out ?_; simp only [ls0, ls1]; refine xu 24 HOPS HREG HSR4b.out ?_; simp only [ls0, ls1]; refine xu 25 HOPS HREG HSR4b.out ?_; simp only [ls0, ls1]; refine xu 26 HOPS HREG HSR4b.out ?_; simp only [ls0, ls1]; refine xu 27 HOPS HREG HSR4b.out ?_; simp only [ls0, ls1]; refine xu 28 HOPS HREG HSR4b.out ?_; simp only [ls0, ls1]; refine xu 29 HOPS HREG HSR4b.out ?_; simp only [ls0, ls1]; refine xu 30 HOPS HREG HSR4b.out ?_; simp only [ls0, ls1]; refine xu 31 HOPS HREG HSR4b.out ?_; simp only [ls0, ls1]; refine xu 32 HOPS HREG HSR4b.out ?_; simp only [ls0, ls1]; refine xu 33 HOPS HREG HSR4b.out ?_; simp only [ls0, ls1]; refine xu 34 HOPS HREG HSR4b.out ?_; simp only [ls0, ls1]; refine xu 35 HOPS HREG HSR4b.out ?_; simp only [ls0, ls1]; refine xu 36 HOPS HREG HSR4b.out ?_; simp only [ls0, ls1]; refine xu 37 HOPS HREG HSR4b.out ?_; simp only [ls0, ls1]; refine xu 38 HOPS HREG HSR4b.out ?_; simp only [ls0, ls1]; refine xu 39 HOPS HREG HSR4b.out ?_; simp only [ls0, ls1]; refine xu 40 HOPS HREG HSR4b.out ?_; simp only [ls0, ls1]; refine xu 41 HOPS HREG HSR4b.out ?_; simp only [ls0, ls1]; refine xu 42 HOPS HREG HSR4b.out ?_; simp only [ls0, ls1]; refine xq 43 HOPS HREG HSR4b.out ?_; simp only [ls0, ls1]
          refine stepE HOPS (by kernel_rfl) (HQ.out _ _ ?_)
          clear HQ HREG HOPS
          clear Q ops
          simp only [decide_eq_true_eq] at h2
          have hz := HBAD.out (by omega)
          have hC1 : C = 1 := by rw [← HC.out]; unfold ckE; rw [hz]; rfl
          subst hC1
          go_wp2
          go_ret
          exact ⟨rfl, HBR_R4b.out⟩
    · obtain rfl : k = n := by omega
      have hct : okE l = true := by rw [HUP.out, List.drop_of_length_le (by rw [HLEN.out]; exact Nat.le_refl _)]; rfl
      have hC0 : C = 0 := by rw [← HC.out]; unfold ckE; rw [hct]; rfl
      subst hC0
      go_wp2
      go_ret
      exact ⟨rfl, HBR_0.out⟩
set_option maxRecDepth 100000 in
set_option maxHeartbeats 8000000 in
theorem rend_is (A : Option Addr) (n c i : Nat) (last : Int) (l : List Ep) (w : World) (hr : RdE w w.heap.size A n l) (hn : n ≤ reach) (hi : i < n) {E : Int} (hE : nx (l.drop (i + 1)) last = E) :
    Calls Try.prog 37 #[.slice A n c, .int .i64 (i : Int), .int .i64 last] w fun e w' => e = .returned (.int .i64 E) ∧ w' = w := by
  have hn9 : n ≤ 140737488351232 := hn
  have hw1 : IntKind.i64.wrap ((i : Int) + 1) = (i : Int) + 1 := IntWalk.i64_in _ (by omega)
  have hlen := hr.len
  by_cases h : i + 1 < n
  · obtain ⟨b, o, ⟨x0, x1⟩, rfl, hbl, hxk, d0, d1⟩ := ep_at hr h
    have hE2 : x1 = E := by rw [← hE, List.drop_eq_getElem_cons (by omega : i + 1 < l.length), (List.getElem?_eq_some_iff.1 hxk).2]; rfl
    subst hE2
    simp only at d1
    have hq1 : (i : Int) + 1 < (n : Int) := by omega
    have hq2 : (0 : Int) ≤ (i : Int) + 1 := by omega
    have hq3 : ((i : Int) + 1).toNat = i + 1 := by omega
    clear hr hE hlen hxk d0 hn
    go_enter Try.func37, Try.ntmps37
    go_wp2
    go_ret
    exact ⟨rfl, rfl⟩
  · have hE2 : last = E := by rw [← hE, List.drop_of_length_le (by omega)]; rfl
    subst hE2
    have hq1 : ¬ (i : Int) + 1 < (n : Int) := by omega
    clear hr hE hlen hn
    go_enter Try.func37, Try.ntmps37
    go_wp2
    go_ret
    exact ⟨rfl, rfl⟩
set_option maxRecDepth 100000 in
set_option maxHeartbeats 8000000 in
theorem rCopy_is (A : Option Addr) (n c : Nat) (l : List Ep) (w : World) (hr : RdE w w.heap.size A n l) (hn : n ≤ 1000000) :
    Calls Try.prog 13 #[.slice A n c] w fun e w' => ∃ A' c', e = .returned (.slice A' n c') ∧ OwnE w' w.heap.size (.slice A' n c') n l ∧ Below w.heap.size w w' := by
  obtain ⟨A7, c7, w7, hrun, ho7, hg7, hat7⟩ := run_appFG (P := Try.prog) w epS 16 w.heap.size 22 22 32 Try.underlying22 epInfo (.slice none 0 0) 0 [] OwnF.nil _ A n c l hr (by omega) (by omega) (Nat.le_refl _)
  have hb := below_of_grown w (OwnF.nil (f := epC) (size := 2) (e := 32) (B := w.heap.size)) hg7 (Nat.le_refl _)
  rw [Nat.zero_add] at hrun ho7
  have HO := Lib.hid ho7
  have HB := Lib.hid hb
  clear ho7 hg7 hat7 hb hr
  go_enter Try.func13, Try.ntmps13
  go_wp2_with (at_builtin; refine wpList_app_run9 rfl _ _ 22 rfl rfl rfl hrun ?_)
  go_ret
  exact ⟨A7, c7, rfl, HO.out, HB.out⟩
end Go.Proofs.Ytmjnleohchmadaa.Epo
