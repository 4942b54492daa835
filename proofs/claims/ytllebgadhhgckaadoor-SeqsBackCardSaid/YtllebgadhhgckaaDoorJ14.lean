/- Joined: SqsR2. -/
import Derived.Test.YtllebgadhhgckaaDoorJ13
/- The document's Check of producers, Find, last. -/
namespace Go.Proofs.YtllebgadhhgckaaDoor.Sqs
open Go.RowKit Oct RowF RowK Lay Bat InR
open Epo (At0 AtO belA)

def tb_Check7 : List (Nat × Nat) := [(0, 549755813887), (1, 549755813886), (2, 549755813885), (4, 549755813883), (8, 549755813879), (24, 549755813863), (40, 549755813847), (72, 549755813815), (136, 549755813759), (256, 549755813631), (768, 549755813119), (1280, 549755812607), (2304, 549755811583), (4352, 549755809791), (8192, 549755805695), (24576, 549755789311), (40960, 549755772927), (73728, 549755740159), (139264, 549755682815), (262144, 549755551743), (786432, 549755027455), (1310720, 549754503167), (2097152, 549753716735), (6291456, 549749522431), (2097152, 549753716735), (2097152, 549753716735), (35651584, 549720162303), (85983232, 549669830655), (136314880, 549619499007), (270532608, 549485281279), (547356672, 549208457215), (1076101120, 548679712767), (2147745792, 547608068095), (4297064448, 545460846591), (8589934592, 541165879295), (25769803776, 523986010111), (42949672960, 506806140927), (77309411328, 472446402559), (146028888064, 403726925823)]
theorem ato_one {W : World} {g o : Nat} {a : Value} (hl : g < W.heap.size) (h : W.cell? ⟨g, o, none⟩ = some a) : AtO W g o [a] := ⟨hl, fun j v hv => by
  match j, hv with
  | 0, hv => obtain rfl : a = v := Option.some.inj hv; exact h⟩

def prvP (l : List Pd) : Nat → Int
  | 0 => -1
  | k + 1 => ((l[k]?).map Pd.pid).getD (-1)
theorem chP_at {l : List Pd} {k : Nat} {x : Pd} {v : Int} (hk : l[k]? = some x) : chP v (l.drop k) = (prOk v x && chP x.pid (l.drop (k + 1))) := by
  rw [List.drop_eq_getElem_cons (List.getElem?_eq_some_iff.1 hk).1, (List.getElem?_eq_some_iff.1 hk).2]
  rfl
def ckRelP (l : List Pd) (n : Nat) (w : World) (iv : Value) (wr : World) : Prop :=
  ∃ k : Nat, iv = .int .i64 (k : Int) ∧ k ≤ n ∧ chP (-1) l = chP (prvP l k) (l.drop k) ∧ Below w.heap.size w wr
set_option maxRecDepth 100000 in
set_option maxHeartbeats 8000000 in
theorem rCheckP_is (A : Option Addr) (n c : Nat) (l : List Pd) (w : World) (hr : RdP w w.heap.size A n l) (hn : n ≤ reach) {C : Int} (hC : ckP l = C) :
    Calls Tryd.prog 17 #[.slice A n c] w fun e w' => e = .returned (.int .i64 C) ∧ Below w.heap.size w w' := by
  have hlen := hr.len
  have hn9 : n ≤ 140737488351232 := hn
  by_cases h4 : 1024 < n
  · have h5 : (1024 : Int) < (n : Int) := by omega
    obtain rfl : 2 = C := by rw [← hC]; unfold ckP; rw [if_pos (by omega)]
    clear hr hC hn hlen
    go_enter Tryd.func17, Tryd.ntmps17
    go_wp2
    go_ret
    exact ⟨rfl, Below.refl _ _⟩
  have h5 : ¬ (1024 : Int) < (n : Int) := by omega
  have hC2 : (if chP (-1) l = true then (0 : Int) else 1) = C := by rw [← hC]; exact (if_neg (by omega)).symm
  have HC := Lib.hid hC2
  have HR := Lib.hid hr
  have HLEN := Lib.hid hlen
  have hmx : Tryd.prog.follows .mixedOrders = true := by kernel_rfl
  clear hr hC hC2 hn hlen
  go_enter Tryd.func17, Tryd.ntmps17
  go_wp2
  go_loopw [3] (fun iv wr => ckRelP l n w iv wr) (fun iv _ => n - (intOf iv).toNat)
  case atStart => exact ⟨0, rfl, Nat.zero_le _, rfl, Below.refl _ _⟩
  case round =>
    obtain ⟨k, rfl, hk, hch, hb⟩ := hrel
    have HCH := Lib.hid hch
    have HB0 := Lib.hid hb
    have HR0 := Lib.hid (rdkUp HR.out hb)
    clear hch hb
    by_cases hlt : k < n
    · obtain ⟨b, o, ⟨x0, x1, xd⟩, A', n', c', rfl, hbl, hxk, hc', hn', hrd, d0, d1, d2⟩ := pr_at HR0.out hlt
      simp only at d0 d1 hrd
      have HX := Lib.hid hxk
      have HAT := Lib.hid (chP_at (v := prvP l k) hxk)
      have hw1 : IntKind.i64.wrap ((k : Int) + 1) = (k : Int) + 1 := IntWalk.i64_in _ (by omega)
      have hkl : (k : Int) < (n : Int) := by omega
      have hk0 : (0 : Int) ≤ (k : Int) := by omega
      go_upto_region 7 with fail
      have hba := belA wr (.cells #[.int .i64 x0, .int .i64 x1, .slice A' n' c'] 55)
      have HB1 := Lib.hid (Epo.bel_trans HB0.out hba)
      have HR1 := Lib.hid (rdkUp HR0.out hba)
      have HD1 := Lib.hid (rddUp hrd hba)
      have hat := At0.new wr [.int .i64 x0, .int .i64 x1, .slice A' n' c'] 55
      have HAT1 := Lib.hid hat
      have q0 := hat.cell 0
      have q1 := hat.cell 1
      have q2 := hat.cell 2
      simp only [List.getElem?_cons_zero, List.getElem?_cons_succ] at q0 q1 q2
      clear hba d0 d1 d2 hxk hat hbl hrd
      generalize (wr.alloc (.cells #[.int .i64 x0, .int .i64 x1, .slice A' n' c'] 55)) = W at *
      have HBAD := Lib.hid (show prOk (prvP l k) ⟨x0, x1, xd⟩ = false → 1 = C from fun h9 => by rw [← HC.out, HCH.out, HAT.out, h9]; rfl)
      have HGOOD := Lib.hid (show prOk (prvP l k) ⟨x0, x1, xd⟩ = true → chP (-1) l = chP (prvP l (k + 1)) (l.drop (k + 1)) from fun h9 => by rw [HCH.out, HAT.out, h9, Bool.true_and]; show _ = chP (((l[k]?).map Pd.pid).getD (-1)) _; rw [HX.out]; rfl)
      by_cases g1 : x0 < 0
      · have HZF := Lib.hid (HBAD.out (by unfold prOk; rw [decide_eq_false (by simp only; omega)]; rfl))
        go_big_region
        go_wp2
        go_ret
        exact ⟨by rw [HZF.out]; rfl, bel_drew HB1.out⟩
      by_cases g2 : 1099511627776 < x0
      · have HZF := Lib.hid (HBAD.out (by unfold prOk; rw [decide_eq_false (by simp only; omega)]; rfl))
        go_big_region
        go_wp2
        go_ret
        exact ⟨by rw [HZF.out]; rfl, bel_drew HB1.out⟩
      by_cases g3 : x1 < 0
      · have HZF := Lib.hid (HBAD.out (by unfold prOk; rw [decide_eq_false (by simp only; omega)]; rfl))
        go_big_region
        go_wp2
        go_ret
        exact ⟨by rw [HZF.out]; rfl, bel_drew HB1.out⟩
      by_cases g4 : 1048576 < x1
      · have HZF := Lib.hid (HBAD.out (by unfold prOk; rw [decide_eq_false (by simp only; omega)]; rfl))
        go_big_region
        go_wp2
        go_ret
        exact ⟨by rw [HZF.out]; rfl, bel_drew HB1.out⟩
      rcases hz : didOk xd with _ | _
      all_goals rcases Nat.eq_zero_or_pos k with hkz | hkp
      all_goals have HZ := Lib.hid hz
      all_goals clear hz
      · subst hkz
        have hbd := (Below.refl W.heap.size W).drew
        have HBR_R70b := Lib.hid (bel_trans HB1.out hbd)
        have HB_R70b := Lib.hid (HAT1.out.below hbd)
        have HD_R70b := Lib.hid (rddUp HD1.out hbd)
        have HSR70b := Lib.hid (show (fun W9 : World => W9.cell? ⟨wr.heap.size, 0, none⟩ = some (.int .i64 x0) ∧ W9.cell? ⟨wr.heap.size, 1, none⟩ = some (.int .i64 x1) ∧ W9.cell? ⟨wr.heap.size, 2, none⟩ = some (.slice A' n' c')) W.drew from ⟨HB_R70b.out.cell 0, HB_R70b.out.cell 1, HB_R70b.out.cell 2⟩)
        clear hbd
        refine region_let (fun W9 : World => W9.cell? ⟨wr.heap.size, 0, none⟩ = some (.int .i64 x0) ∧ W9.cell? ⟨wr.heap.size, 1, none⟩ = some (.int .i64 x1) ∧ W9.cell? ⟨wr.heap.size, 2, none⟩ = some (.slice A' n' c')) 99 39 hmx rfl fun ops Q HOPS HQ => ?_
        have HREG := reg_of HOPS tb_Check7 rfl (by kernel_rfl) (by kernel_rfl) (by decide)
        refine xq 0 HOPS HREG HSR70b.out ?_; simp only [ls0, ls1]; refine xq 1 HOPS HREG HSR70b.out ?_; simp only [ls0, ls1]; refine xq 2 HOPS HREG HSR70b.out ?_; simp only [ls0, ls1]; refine xq 3 HOPS HREG HSR70b.out ?_; simp only [ls0, ls1]; refine xq 4 HOPS HREG HSR70b.out ?_; simp only [ls0, ls1]; refine xq 5 HOPS HREG HSR70b.out ?_; simp only [ls0, ls1]; refine xq 6 HOPS HREG HSR70b.out ?_; simp only [ls0, ls1]; refine xq 7 HOPS HREG HSR70b.out ?_; simp only [ls0, ls1]; refine xq 8 HOPS HREG HSR70b.out ?_; simp only [ls0, ls1]; refine xq 9 HOPS HREG HSR70b.out ?_; simp only [ls0, ls1]; refine xq 10 HOPS HREG HSR70b.out ?_; simp only [ls0, ls1]; refine xq 11 HOPS HREG HSR70b.out ?_; simp only [ls0, ls1]; refine xq 12 HOPS HREG HSR70b.out ?_; simp only [ls0, ls1]; refine xq 13 HOPS HREG HSR70b.out ?_; simp only [ls0, ls1]; refine xq 14 HOPS HREG HSR70b.out ?_; simp only [ls0, ls1]; refine xq 15 HOPS HREG HSR70b.out ?_; simp only [ls0, ls1]; refine xq 16 HOPS HREG HSR70b.out ?_; simp only [ls0, ls1]; refine xq 17 HOPS HREG HSR70b.out ?_; simp only [ls0, ls1]; refine xq 18 HOPS HREG HSR70b.out ?_; simp only [ls0, ls1]; refine xq 19 HOPS HREG HSR70b.out ?_; simp only [ls0, ls1]; refine xq 20 HOPS HREG HSR70b.out ?_; simp only [ls0, ls1]; refine xq 21 HOPS HREG HSR70b.out ?_; simp only [ls0, ls1]; refine xu 22 HOPS HREG HSR70b.out ?_; simp only [ls0, ls1]; refine xu 23 HOPS HREG HSR70b.out ?_; simp only [ls0, ls1]; refine xu 24 HOPS HREG HSR70b.out ?_; simp only [ls0, ls1]; refine xu 25 HOPS HREG HSR70b.out ?_; simp only [ls0, ls1]; refine xu 26 HOPS HREG HSR70b.out ?_; simp only [ls0, ls1]; refine xu 27 HOPS HREG HSR70b.out ?_; simp only [ls0, ls1]; refine xu 28 HOPS HREG HSR70b.out ?_; simp only [ls0, ls1]; refine xu 29 HOPS HREG HSR70b.out ?_; simp only [ls0, ls1]; refine xu 30 HOPS HREG HSR70b.out ?_; simp only [ls0, ls1]; refine xq 31 HOPS HREG HSR70b.out ?_; simp only [ls0, ls1]; refine xq 32 HOPS HREG HSR70b.out ?_; simp only [ls0, ls1]; refine xq 33 HOPS HREG HSR70b.out ?_; simp only [ls0, ls1]; refine xq 34 HOPS HREG HSR70b.out ?_; simp only [ls0, ls1]; refine xq 35 HOPS HREG HSR70b.out ?_; simp only [ls0, ls1]
        refine xc 36 HOPS ?_
        go_simp
        with_reducible refine (rdid_is A' n' c' xd _ HD_R70b.out hn' HZ.out).mono ?_
        rintro e w3 ⟨rfl, hb⟩
        have HBR_3 := Lib.hid (bel_trans HBR_R70b.out hb)
        have HB_3 := Lib.hid (HB_R70b.out.below hb)
        have HD_3 := Lib.hid (rddUp HD_R70b.out hb)
        have HSR70bw3 := Lib.hid (show (fun W9 : World => W9.cell? ⟨wr.heap.size, 0, none⟩ = some (.int .i64 x0) ∧ W9.cell? ⟨wr.heap.size, 1, none⟩ = some (.int .i64 x1) ∧ W9.cell? ⟨wr.heap.size, 2, none⟩ = some (.slice A' n' c')) w3 from ⟨HB_3.out.cell 0, HB_3.out.cell 1, HB_3.out.cell 2⟩)
        clear hb
        refine ⟨HSR70bw3.out, ?_⟩
        refine xq 37 HOPS HREG HSR70bw3.out ?_; simp only [ls0, ls1]; refine xq 38 HOPS HREG HSR70bw3.out ?_; simp only [ls0, ls1]
        refine stepE HOPS (by kernel_rfl) (HQ.out _ _ ?_)
        clear HQ HREG HOPS
        clear Q ops
        have HZF := Lib.hid (HBAD.out (by unfold prOk; rw [HZ.out, Bool.and_false]))
        go_wp2
        go_ret
        exact ⟨by rw [HZF.out]; rfl, HBR_3.out⟩
      · obtain ⟨⟨y0, y1, yd⟩, hyk⟩ : ∃ y, l[k - 1]? = some y := ⟨l[k - 1]'(by have := HLEN.out; omega), List.getElem?_eq_getElem _⟩
        obtain ⟨hbW, e0, _⟩ := prK HR1.out hyk
        have HPR := Lib.hid (show prvP l k = y0 from by
          obtain ⟨j, rfl⟩ : ∃ j, k = j + 1 := ⟨k - 1, by omega⟩
          show ((l[j]?).map Pd.pid).getD (-1) = _
          rw [Nat.add_sub_cancel] at hyk; rw [hyk]; rfl)
        simp only at e0
        have HP1 := Lib.hid (ato_one hbW e0)
        have hk9 : (0 : Int) < (k : Int) := by omega
        have hw2 : IntKind.i64.wrap ((k : Int) - 1) = (k : Int) - 1 := IntWalk.i64_in _ (by omega)
        have hp1 : (0 : Int) ≤ (k : Int) - 1 := by omega
        have hp2 : (1 : Int) ≤ (k : Int) := by omega
        have hp3 : (k : Int) - 1 < (n : Int) := by omega
        have hp5 : ((k : Int) - 1).toNat = k - 1 := by omega
        clear hyk
        by_cases hne : x0 ≤ y0
        · have HZF := Lib.hid (HBAD.out (by unfold prOk; rw [HPR.out, decide_eq_false (by simp only; omega)]; rfl))
          go_big_region
          go_wp2
          go_ret
          exact ⟨by rw [HZF.out]; rfl, bel_drew HB1.out⟩
        · skip
          have hbd := (Below.refl W.heap.size W).drew
          have HBR_R7kb := Lib.hid (bel_trans HB1.out hbd)
          have HB_R7kb := Lib.hid (HAT1.out.below hbd)
          have HD_R7kb := Lib.hid (rddUp HD1.out hbd)
          have HP_R7kb := Lib.hid (HP1.out.below hbd)
          have HSR7kb := Lib.hid (show (fun W9 : World => W9.cell? ⟨wr.heap.size, 0, none⟩ = some (.int .i64 x0) ∧ W9.cell? ⟨wr.heap.size, 1, none⟩ = some (.int .i64 x1) ∧ W9.cell? ⟨wr.heap.size, 2, none⟩ = some (.slice A' n' c') ∧ W9.cell? ⟨b, o + (k - 1) * 3, none⟩ = some (.int .i64 y0)) W.drew from ⟨HB_R7kb.out.cell 0, HB_R7kb.out.cell 1, HB_R7kb.out.cell 2, HP_R7kb.out.2 0 _ rfl⟩)
          clear hbd
          refine region_let (fun W9 : World => W9.cell? ⟨wr.heap.size, 0, none⟩ = some (.int .i64 x0) ∧ W9.cell? ⟨wr.heap.size, 1, none⟩ = some (.int .i64 x1) ∧ W9.cell? ⟨wr.heap.size, 2, none⟩ = some (.slice A' n' c') ∧ W9.cell? ⟨b, o + (k - 1) * 3, none⟩ = some (.int .i64 y0)) 99 39 hmx rfl fun ops Q HOPS HQ => ?_
          have HREG := reg_of HOPS tb_Check7 rfl (by kernel_rfl) (by kernel_rfl) (by decide)
          refine xq 0 HOPS HREG HSR7kb.out ?_; simp only [ls0, ls1]; refine xq 1 HOPS HREG HSR7kb.out ?_; simp only [ls0, ls1]; refine xq 2 HOPS HREG HSR7kb.out ?_; simp only [ls0, ls1]; refine xq 3 HOPS HREG HSR7kb.out ?_; simp only [ls0, ls1]; refine xq 4 HOPS HREG HSR7kb.out ?_; simp only [ls0, ls1]; refine xq 5 HOPS HREG HSR7kb.out ?_; simp only [ls0, ls1]; refine xq 6 HOPS HREG HSR7kb.out ?_; simp only [ls0, ls1]; refine xq 7 HOPS HREG HSR7kb.out ?_; simp only [ls0, ls1]; refine xq 8 HOPS HREG HSR7kb.out ?_; simp only [ls0, ls1]; refine xq 9 HOPS HREG HSR7kb.out ?_; simp only [ls0, ls1]; refine xq 10 HOPS HREG HSR7kb.out ?_; simp only [ls0, ls1]; refine xq 11 HOPS HREG HSR7kb.out ?_; simp only [ls0, ls1]; refine xq 12 HOPS HREG HSR7kb.out ?_; simp only [ls0, ls1]; refine xq 13 HOPS HREG HSR7kb.out ?_; simp only [ls0, ls1]; refine xq 14 HOPS HREG HSR7kb.out ?_; simp only [ls0, ls1]; refine xq 15 HOPS HREG HSR7kb.out ?_; simp only [ls0, ls1]; refine xq 16 HOPS HREG HSR7kb.out ?_; simp only [ls0, ls1]; refine xq 17 HOPS HREG HSR7kb.out ?_; simp only [ls0, ls1]; refine xq 18 HOPS HREG HSR7kb.out ?_; simp only [ls0, ls1]; refine xq 19 HOPS HREG HSR7kb.out ?_; simp only [ls0, ls1]; refine xq 20 HOPS HREG HSR7kb.out ?_; simp only [ls0, ls1]; refine xq 21 HOPS HREG HSR7kb.out ?_; simp only [ls0, ls1]; refine xq 22 HOPS HREG HSR7kb.out ?_; simp only [ls0, ls1]; refine xq 23 HOPS HREG HSR7kb.out ?_; simp only [ls0, ls1]; refine xq 24 HOPS HREG HSR7kb.out ?_; simp only [ls0, ls1]; refine xq 25 HOPS HREG HSR7kb.out ?_; simp only [ls0, ls1]; refine xq 26 HOPS HREG HSR7kb.out ?_; simp only [ls0, ls1]; refine xq 27 HOPS HREG HSR7kb.out ?_; simp only [ls0, ls1]; refine xq 28 HOPS HREG HSR7kb.out ?_; simp only [ls0, ls1]; refine xq 29 HOPS HREG HSR7kb.out ?_; simp only [ls0, ls1]; refine xq 30 HOPS HREG HSR7kb.out ?_; simp only [ls0, ls1]; refine xq 31 HOPS HREG HSR7kb.out ?_; simp only [ls0, ls1]; refine xq 32 HOPS HREG HSR7kb.out ?_; simp only [ls0, ls1]; refine xq 33 HOPS HREG HSR7kb.out ?_; simp only [ls0, ls1]; refine xq 34 HOPS HREG HSR7kb.out ?_; simp only [ls0, ls1]; refine xq 35 HOPS HREG HSR7kb.out ?_; simp only [ls0, ls1]
          refine xc 36 HOPS ?_
          go_simp
          with_reducible refine (rdid_is A' n' c' xd _ HD_R7kb.out hn' HZ.out).mono ?_
          rintro e w3 ⟨rfl, hb⟩
          have HBR_3 := Lib.hid (bel_trans HBR_R7kb.out hb)
          have HB_3 := Lib.hid (HB_R7kb.out.below hb)
          have HD_3 := Lib.hid (rddUp HD_R7kb.out hb)
          have HP_3 := Lib.hid (HP_R7kb.out.below hb)
          have HSR7kbw3 := Lib.hid (show (fun W9 : World => W9.cell? ⟨wr.heap.size, 0, none⟩ = some (.int .i64 x0) ∧ W9.cell? ⟨wr.heap.size, 1, none⟩ = some (.int .i64 x1) ∧ W9.cell? ⟨wr.heap.size, 2, none⟩ = some (.slice A' n' c') ∧ W9.cell? ⟨b, o + (k - 1) * 3, none⟩ = some (.int .i64 y0)) w3 from ⟨HB_3.out.cell 0, HB_3.out.cell 1, HB_3.out.cell 2, HP_3.out.2 0 _ rfl⟩)
          clear hb
          refine ⟨HSR7kbw3.out, ?_⟩
          refine xq 37 HOPS HREG HSR7kbw3.out ?_; simp only [ls0, ls1]; refine xq 38 HOPS HREG HSR7kbw3.out ?_; simp only [ls0, ls1]
          refine stepE HOPS (by kernel_rfl) (HQ.out _ _ ?_)
          clear HQ HREG HOPS
          clear Q ops
          have HZF := Lib.hid (HBAD.out (by unfold prOk; rw [HZ.out, HPR.out, Bool.and_false]))
          go_wp2
          go_ret
          exact ⟨by rw [HZF.out]; rfl, HBR_3.out⟩
      · subst hkz
        have hbd := (Below.refl W.heap.size W).drew
        have HBR_R70g := Lib.hid (bel_trans HB1.out hbd)
        have HB_R70g := Lib.hid (HAT1.out.below hbd)
        have HD_R70g := Lib.hid (rddUp HD1.out hbd)
        have HSR70g := Lib.hid (show (fun W9 : World => W9.cell? ⟨wr.heap.size, 0, none⟩ = some (.int .i64 x0) ∧ W9.cell? ⟨wr.heap.size, 1, none⟩ = some (.int .i64 x1) ∧ W9.cell? ⟨wr.heap.size, 2, none⟩ = some (.slice A' n' c')) W.drew from ⟨HB_R70g.out.cell 0, HB_R70g.out.cell 1, HB_R70g.out.cell 2⟩)
        clear hbd
        refine region_let (fun W9 : World => W9.cell? ⟨wr.heap.size, 0, none⟩ = some (.int .i64 x0) ∧ W9.cell? ⟨wr.heap.size, 1, none⟩ = some (.int .i64 x1) ∧ W9.cell? ⟨wr.heap.size, 2, none⟩ = some (.slice A' n' c')) 99 39 hmx rfl fun ops Q HOPS HQ => ?_
        have HREG := reg_of HOPS tb_Check7 rfl (by kernel_rfl) (by kernel_rfl) (by decide)
        refine xq 0 HOPS HREG HSR70g.out ?_; simp only [ls0, ls1]; refine xq 1 HOPS HREG HSR70g.out ?_; simp only [ls0, ls1]; refine xq 2 HOPS HREG HSR70g.out ?_; simp only [ls0, ls1]; refine xq 3 HOPS HREG HSR70g.out ?_; simp only [ls0, ls1]; refine xq 4 HOPS HREG HSR70g.out ?_; simp only [ls0, ls1]; refine xq 5 HOPS HREG HSR70g.out ?_; simp only [ls0, ls1]; refine xq 6 HOPS HREG HSR70g.out ?_; simp only [ls0, ls1]; refine xq 7 HOPS HREG HSR70g.out ?_; simp only [ls0, ls1]; refine xq 8 HOPS HREG HSR70g.out ?_; simp only [ls0, ls1]; refine xq 9 HOPS HREG HSR70g.out ?_; simp only [ls0, ls1]; refine xq 10 HOPS HREG HSR70g.out ?_; simp only [ls0, ls1]; refine xq 11 HOPS HREG HSR70g.out ?_; simp only [ls0, ls1]; refine xq 12 HOPS HREG HSR70g.out ?_; simp only [ls0, ls1]; refine xq 13 HOPS HREG HSR70g.out ?_; simp only [ls0, ls1]; refine xq 14 HOPS HREG HSR70g.out ?_; simp only [ls0, ls1]; refine xq 15 HOPS HREG HSR70g.out ?_; simp only [ls0, ls1]; refine xq 16 HOPS HREG HSR70g.out ?_; simp only [ls0, ls1]; refine xq 17 HOPS HREG HSR70g.out ?_; simp only [ls0, ls1]; refine xq 18 HOPS HREG HSR70g.out ?_; simp only [ls0, ls1]; refine xq 19 HOPS HREG HSR70g.out ?_; simp only [ls0, ls1]; refine xq 20 HOPS HREG HSR70g.out ?_; simp only [ls0, ls1]; refine xq 21 HOPS HREG HSR70g.out ?_; simp only [ls0, ls1]; refine xu 22 HOPS HREG HSR70g.out ?_; simp only [ls0, ls1]; refine xu 23 HOPS HREG HSR70g.out ?_; simp only [ls0, ls1]; refine xu 24 HOPS HREG HSR70g.out ?_; simp only [ls0, ls1]; refine xu 25 HOPS HREG HSR70g.out ?_; simp only [ls0, ls1]; refine xu 26 HOPS HREG HSR70g.out ?_; simp only [ls0, ls1]; refine xu 27 HOPS HREG HSR70g.out ?_; simp only [ls0, ls1]; refine xu 28 HOPS HREG HSR70g.out ?_; simp only [ls0, ls1]; refine xu 29 HOPS HREG HSR70g.out ?_; simp only [ls0, ls1]; refine xu 30 HOPS HREG HSR70g.out ?_; simp only [ls0, ls1]; refine xq 31 HOPS HREG HSR70g.out ?_; simp only [ls0, ls1]; refine xq 32 HOPS HREG HSR70g.out ?_; simp only [ls0, ls1]; refine xq 33 HOPS HREG HSR70g.out ?_; simp only [ls0, ls1]; refine xq 34 HOPS HREG HSR70g.out ?_; simp only [ls0, ls1]; refine xq 35 HOPS HREG HSR70g.out ?_; simp only [ls0, ls1]
        refine xc 36 HOPS ?_
        go_simp
        with_reducible refine (rdid_is A' n' c' xd _ HD_R70g.out hn' HZ.out).mono ?_
        rintro e w3 ⟨rfl, hb⟩
        have HBR_3 := Lib.hid (bel_trans HBR_R70g.out hb)
        have HB_3 := Lib.hid (HB_R70g.out.below hb)
        have HD_3 := Lib.hid (rddUp HD_R70g.out hb)
        have HSR70gw3 := Lib.hid (show (fun W9 : World => W9.cell? ⟨wr.heap.size, 0, none⟩ = some (.int .i64 x0) ∧ W9.cell? ⟨wr.heap.size, 1, none⟩ = some (.int .i64 x1) ∧ W9.cell? ⟨wr.heap.size, 2, none⟩ = some (.slice A' n' c')) w3 from ⟨HB_3.out.cell 0, HB_3.out.cell 1, HB_3.out.cell 2⟩)
        clear hb
        refine ⟨HSR70gw3.out, ?_⟩
        refine xq 37 HOPS HREG HSR70gw3.out ?_; simp only [ls0, ls1]; refine xq 38 HOPS HREG HSR70gw3.out ?_; simp only [ls0, ls1]
        refine stepE HOPS (by kernel_rfl) (HQ.out _ _ ?_)
        clear HQ HREG HOPS
        clear Q ops
        have HG := Lib.hid (HGOOD.out (by unfold prOk; rw [HZ.out, Bool.and_true]; exact decide_eq_true (by show (0 ≤ x0 ∧ x0 ≤ 1099511627776) ∧ (0 ≤ x1 ∧ x1 ≤ 1048576) ∧ -1 < x0; omega)))
        go_wp2
        go_roundw
        case rel => exact ⟨0 + 1, by go_num, by omega, HG.out, HBR_3.out⟩
        case measure => simp [intOf]; omega
      · obtain ⟨⟨y0, y1, yd⟩, hyk⟩ : ∃ y, l[k - 1]? = some y := ⟨l[k - 1]'(by have := HLEN.out; omega), List.getElem?_eq_getElem _⟩
        obtain ⟨hbW, e0, _⟩ := prK HR1.out hyk
        have HPR := Lib.hid (show prvP l k = y0 from by
          obtain ⟨j, rfl⟩ : ∃ j, k = j + 1 := ⟨k - 1, by omega⟩
          show ((l[j]?).map Pd.pid).getD (-1) = _
          rw [Nat.add_sub_cancel] at hyk; rw [hyk]; rfl)
        simp only at e0
        have HP1 := Lib.hid (ato_one hbW e0)
        have hk9 : (0 : Int) < (k : Int) := by omega
        have hw2 : IntKind.i64.wrap ((k : Int) - 1) = (k : Int) - 1 := IntWalk.i64_in _ (by omega)
        have hp1 : (0 : Int) ≤ (k : Int) - 1 := by omega
        have hp2 : (1 : Int) ≤ (k : Int) := by omega
        have hp3 : (k : Int) - 1 < (n : Int) := by omega
        have hp5 : ((k : Int) - 1).toNat = k - 1 := by omega
        clear hyk
        by_cases hne : x0 ≤ y0
        · have HZF := Lib.hid (HBAD.out (by unfold prOk; rw [HPR.out, decide_eq_false (by simp only; omega)]; rfl))
          go_big_region
          go_wp2
          go_ret
          exact ⟨by rw [HZF.out]; rfl, bel_drew HB1.out⟩
        · skip
          have hbd := (Below.refl W.heap.size W).drew
          have HBR_R7kg := Lib.hid (bel_trans HB1.out hbd)
          have HB_R7kg := Lib.hid (HAT1.out.below hbd)
          have HD_R7kg := Lib.hid (rddUp HD1.out hbd)
          have HP_R7kg := Lib.hid (HP1.out.below hbd)
          have HSR7kg := Lib.hid (show (fun W9 : World => W9.cell? ⟨wr.heap.size, 0, none⟩ = some (.int .i64 x0) ∧ W9.cell? ⟨wr.heap.size, 1, none⟩ = some (.int .i64 x1) ∧ W9.cell? ⟨wr.heap.size, 2, none⟩ = some (.slice A' n' c') ∧ W9.cell? ⟨b, o + (k - 1) * 3, none⟩ = some (.int .i64 y0)) W.drew from ⟨HB_R7kg.out.cell 0, HB_R7kg.out.cell 1, HB_R7kg.out.cell 2, HP_R7kg.out.2 0 _ rfl⟩)
          clear hbd
          refine region_let (fun W9 : World => W9.cell? ⟨wr.heap.size, 0, none⟩ = some (.int .i64 x0) ∧ W9.cell? ⟨wr.heap.size, 1, none⟩ = some (.int .i64 x1) ∧ W9.cell? ⟨wr.heap.size, 2, none⟩ = some (.slice A' n' c') ∧ W9.cell? ⟨b, o + (k - 1) * 3, none⟩ = some (.int .i64 y0)) 99 39 hmx rfl fun ops Q HOPS HQ => ?_
          have HREG := reg_of HOPS tb_Check7 rfl (by kernel_rfl) (by kernel_rfl) (by decide)
          refine xq 0 HOPS HREG HSR7kg.out ?_; simp only [ls0, ls1]; refine xq 1 HOPS HREG HSR7kg.out ?_; simp only [ls0, ls1]; refine xq 2 HOPS HREG HSR7kg.out ?_; simp only [ls0, ls1]; refine xq 3 HOPS HREG HSR7kg.out ?_; simp only [ls0, ls1]; refine xq 4 HOPS HREG HSR7kg.out ?_; simp only [ls0, ls1]; refine xq 5 HOPS HREG HSR7kg.out ?_; simp only [ls0, ls1]; refine xq 6 HOPS HREG HSR7kg.out ?_; simp only [ls0, ls1]; refine xq 7 HOPS HREG HSR7kg.out ?_; simp only [ls0, ls1]; refine xq 8 HOPS HREG HSR7kg.out ?_; simp only [ls0, ls1]; refine xq 9 HOPS HREG HSR7kg.out ?_; simp only [ls0, ls1]; refine xq 10 HOPS HREG HSR7kg.out ?_; simp only [ls0, ls1]; refine xq 11 HOPS HREG HSR7kg.out ?_; simp only [ls0, ls1]; refine xq 12 HOPS HREG HSR7kg.out ?_; simp only [ls0, ls1]; refine xq 13 HOPS HREG HSR7kg.out ?_; simp only [ls0, ls1]; refine xq 14 HOPS HREG HSR7kg.out ?_; simp only [ls0, ls1]; refine xq 15 HOPS HREG HSR7kg.out ?_; simp only [ls0, ls1]; refine xq 16 HOPS HREG HSR7kg.out ?_; simp only [ls0, ls1]; refine xq 17 HOPS HREG HSR7kg.out ?_; simp only [ls0, ls1]; refine xq 18 HOPS HREG HSR7kg.out ?_; simp only [ls0, ls1]; refine xq 19 HOPS HREG HSR7kg.out ?_; simp only [ls0, ls1]; refine xq 20 HOPS HREG HSR7kg.out ?_; simp only [ls0, ls1]; refine xq 21 HOPS HREG HSR7kg.out ?_; simp only [ls0, ls1]; refine xq 22 HOPS HREG HSR7kg.out ?_; simp only [ls0, ls1]; refine xq 23 HOPS HREG HSR7kg.out ?_; simp only [ls0, ls1]; refine xq 24 HOPS HREG HSR7kg.out ?_; simp only [ls0, ls1]; refine xq 25 HOPS HREG HSR7kg.out ?_; simp only [ls0, ls1]; refine xq 26 HOPS HREG HSR7kg.out ?_; simp only [ls0, ls1]; refine xq 27 HOPS HREG HSR7kg.out ?_; simp only [ls0, ls1]; refine xq 28 HOPS HREG HSR7kg.out ?_; simp only [ls0, ls1]; refine xq 29 HOPS HREG HSR7kg.out ?_; simp only [ls0, ls1]; refine xq 30 HOPS HREG HSR7kg.out ?_; simp only [ls0, ls1]; refine xq 31 HOPS HREG HSR7kg.out ?_; simp only [ls0, ls1]; refine xq 32 HOPS HREG HSR7kg.out ?_; simp only [ls0, ls1]; refine xq 33 HOPS HREG HSR7kg.out ?_; simp only [ls0, ls1]; refine xq 34 HOPS HREG HSR7kg.out ?_; simp only [ls0, ls1]; refine xq 35 HOPS HREG HSR7kg.out ?_; simp only [ls0, ls1]
          refine xc 36 HOPS ?_
          go_simp
          with_reducible refine (rdid_is A' n' c' xd _ HD_R7kg.out hn' HZ.out).mono ?_
          rintro e w3 ⟨rfl, hb⟩
          have HBR_3 := Lib.hid (bel_trans HBR_R7kg.out hb)
          have HB_3 := Lib.hid (HB_R7kg.out.below hb)
          have HD_3 := Lib.hid (rddUp HD_R7kg.out hb)
          have HP_3 := Lib.hid (HP_R7kg.out.below hb)
          have HSR7kgw3 := Lib.hid (show (fun W9 : World => W9.cell? ⟨wr.heap.size, 0, none⟩ = some (.int .i64 x0) ∧ W9.cell? ⟨wr.heap.size, 1, none⟩ = some (.int .i64 x1) ∧ W9.cell? ⟨wr.heap.size, 2, none⟩ = some (.slice A' n' c') ∧ W9.cell? ⟨b, o + (k - 1) * 3, none⟩ = some (.int .i64 y0)) w3 from ⟨HB_3.out.cell 0, HB_3.out.cell 1, HB_3.out.cell 2, HP_3.out.2 0 _ rfl⟩)
          clear hb
          refine ⟨HSR7kgw3.out, ?_⟩
          refine xq 37 HOPS HREG HSR7kgw3.out ?_; simp only [ls0, ls1]; refine xq 38 HOPS HREG HSR7kgw3.out ?_; simp only [ls0, ls1]
          refine stepE HOPS (by kernel_rfl) (HQ.out _ _ ?_)
          clear HQ HREG HOPS
          clear Q ops
          have HG := Lib.hid (HGOOD.out (by unfold prOk; rw [HZ.out, HPR.out, Bool.and_true]; exact decide_eq_true (by simp only; omega)))
          go_wp2
          go_roundw
          case rel => exact ⟨k + 1, by go_num, by omega, HG.out, HBR_3.out⟩
          case measure => simp [intOf]; omega
    · have hkn : k = n := by omega
      subst hkn
      have HE := Lib.hid (show 0 = C from by
        rw [← HC.out, HCH.out, List.drop_of_length_le (by rw [HLEN.out]; exact Nat.le_refl _)]
        rfl)
      go_wp2
      go_ret
      exact ⟨by rw [HE.out]; rfl, HB0.out⟩
end Go.Proofs.YtllebgadhhgckaaDoor.Sqs
