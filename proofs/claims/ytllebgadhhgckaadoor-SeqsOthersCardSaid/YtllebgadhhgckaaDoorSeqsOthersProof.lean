/- A producer's batch changes no other producer, whatever the producers and the batch; no condition but the package's own table.
-/
import Derived.Test.YtllebgadhhgckaaDoorJ48
import Derived.Test.YtllebgadhhgckaaDoorJ49
import Derived.Test.YtllebgadhhgckaaDoorJ09
import Derived.Test.YtllebgadhhgckaaDoorRows
import Derived.Test.YtllebgadhhgckaaDoorJ10
import Derived.ProofKit
import Derived.LaidMore
import Derived.OpenShut
import Derived.Stop.Joined
import Derived.Lib.LaidTab
import Derived.WalkKit
import Derived.ChangeOld
import Derived.Below
import Derived.Carry
import Derived.Test.YtllebgadhhgckaaDoorJ01
import Derived.Test.YtllebgadhhgckaaDoorJ11
import Derived.Test.YtllebgadhhgckaaDoorTie
import Derived.Test.YtllebgadhhgckaaDoorCards
import Derived.SevenTiedAt
/- The walk of SeqsOthers. -/
namespace Go.Proofs.YtllebgadhhgckaaDoor.Sqs
open Go.RowKit Oct Rec Crc RowF RowK RowO Lay Bat InR
open Epo (At0 AtO belA wpList_app_run9)

theorem find_mem {v : Int} {l : List Pd} (h : chP v l = true) {x : Pd} (hx : x ∈ l) : findP l x.pid = some x := by
  induction l generalizing v with
  | nil => simp at hx
  | cons p l ih =>
    have h2 := chP_cons.1 h
    unfold findP
    rcases List.mem_cons.1 hx with rfl | hx
    · simp
    · have h3 := (chP_mem h2.2 x hx).1
      rw [List.find?_cons_of_neg (by simp; omega)]
      exact ih h2.2 hx
theorem count_one {v u : Int} {l : List Pd} {p : Pd} (h : chP v l = true) (hp : findP l u = some p) : (l.filter fun x => decide (x.pid = u)).length = 1 := by
  induction l generalizing v with
  | nil => cases hp
  | cons q l ih =>
    have h2 := chP_cons.1 h
    by_cases hq : q.pid = u
    · rw [List.filter_cons_of_pos (by simp [hq]), List.length_cons, List.filter_eq_nil_iff.2 (fun x hx => by have h3 := (chP_mem h2.2 x hx).1; simp; omega)]
      rfl
    · rw [List.filter_cons_of_neg (by simp [hq])]
      unfold findP at hp
      rw [List.find?_cons_of_neg (by simp [hq])] at hp
      exact ih h2.2 hp
theorem putL_ok {l m : List Pd} {b : Bt} (h : putP l b = (m, 0)) : ckP l = 0 := by
  unfold putP at h
  rcases hL : lookP l b with ⟨x, t, e⟩
  rw [hL] at h
  simp only at h
  by_cases he : e = 0
  · subst he; exact (look_ok hL).1
  · rw [if_pos he] at h; exact absurd (Prod.mk.inj h).2 he
def oth (u : Int) (l : List Pd) : List Pd := l.filter fun x => decide (x.pid ≠ u)
def own1 (u : Int) (l : List Pd) : Nat := (l.filter fun x => decide (x.pid = u)).length
theorem take_snoc {l : List Pd} {k : Nat} {x : Pd} (hx : l[k]? = some x) : l.take (k + 1) = l.take k ++ [x] := by
  rw [List.take_add_one, hx]
  rfl
theorem oth_at {u : Int} {l : List Pd} {k : Nat} {x : Pd} (hx : l[k]? = some x) : oth u (l.take (k + 1)) = oth u (l.take k) ++ if x.pid = u then [] else [x] := by
  unfold oth
  rw [take_snoc hx, List.filter_append]
  by_cases h : x.pid = u <;> simp [h]
theorem own1_at {u : Int} {l : List Pd} {k : Nat} {x : Pd} (hx : l[k]? = some x) : own1 u (l.take (k + 1)) = own1 u (l.take k) + if x.pid = u then 1 else 0 := by
  unfold own1
  rw [take_snoc hx, List.filter_append, List.length_append]
  by_cases h : x.pid = u <;> simp [h]
theorem own1_le (u : Int) (l : List Pd) : own1 u l ≤ l.length := List.length_filter_le _ _
def otRel (u : Int) (l : List Pd) (w : World) (va vi : Value) (wr : World) : Prop :=
  ∃ (k m : Nat) (A : Option Addr) (c : Nat), vi = .int .i64 (k : Int) ∧ va = .slice A m c ∧ k ≤ l.length ∧ m ≤ k ∧ OwnP wr (fun b => b < w.heap.size) w.heap.size (.slice A m c) m (oth u (l.take k)) ∧ Below w.heap.size w wr
def owRel (u : Int) (l : List Pd) (w : World) (va vf vi : Value) (wr : World) : Prop :=
  otRel u l w va vi wr ∧ ∃ k : Nat, vi = .int .i64 (k : Int) ∧ vf = .int .i64 (own1 u (l.take k) : Int)
set_option maxRecDepth 100000 in
set_option maxHeartbeats 8000000 in
theorem seqsOthers_walk (A : Option Addr) (n c : Nat) (l : List Pd) (bab lab frb epb pib geb seb : Int) (txb : Bool) (ctb : Int) (ARb : Option Addr) (nRb cRb : Nat) (rsb : List Rc) (w : World) (hc : n ≤ c) (hk : c ≤ reach) (hR : RdP w w.heap.size A n l) (hfnb : FitN ⟨bab, lab, frb, epb, pib, geb, seb, txb, ctb, rsb⟩) (hcb : nRb ≤ cRb) (hkb : cRb ≤ reach) (hRb : Lay.RdL w w.heap.size ARb nRb rsb) (ht : Tab w) :
    Calls Tryd.prog 11 #[.slice A n c, .agg #[.int .i64 bab, .int .i64 lab, .int .i64 frb, .int .i64 epb, .int .i64 pib, .int .i64 geb, .int .i64 seb, .bool txb, .int .i64 ctb, .slice ARb nRb cRb]] w fun e w' => e = .returned (.bool true) ∧ Below w.heap.size w w' := by
  have HT := Lib.hid ht
  have hn9 : n ≤ reach := Nat.le_trans hc hk
  have HFNb := Lib.hid hfnb
  have HFITb := Lib.hid (RdL_fit hRb)
  have HNRb := Lib.hid (Nat.le_trans hcb hkb)
  have HRRb := Lib.hid (RdL_recs hRb)
  have HPP := Lib.hid hR
  clear hR hk ht hfnb hkb hRb
  go_enter Tryd.func11, Tryd.ntmps11
  go_upto_region 1 with fail
  have HB0 := Lib.hid (Epo.bel_trans (Below.refl w.heap.size w) (belA w (.cells #[.int .i64 bab, .int .i64 lab, .int .i64 frb, .int .i64 epb, .int .i64 pib, .int .i64 geb, .int .i64 seb, .bool txb, .int .i64 ctb, .slice ARb nRb cRb] 25)))
  have HP_0 := Lib.hid (rdkUp HPP.out HB0.out)
  have HRRb_0 := Lib.hid (rdrUp9 HRRb.out HB0.out)
  have HATb_0 := Lib.hid (At0.new w [.int .i64 bab, .int .i64 lab, .int .i64 frb, .int .i64 epb, .int .i64 pib, .int .i64 geb, .int .i64 seb, .bool txb, .int .i64 ctb, .slice ARb nRb cRb] 25)
  clear HPP HRRb
  generalize (w.alloc (.cells #[.int .i64 bab, .int .i64 lab, .int .i64 frb, .int .i64 epb, .int .i64 pib, .int .i64 geb, .int .i64 seb, .bool txb, .int .i64 ctb, .slice ARb nRb cRb] 25)) = wk0 at *
  obtain ⟨qb0, qb1, qb2, qb3, qb4, qb5, qb6, qb7, qb8, qb9⟩ := cel10 HATb_0.out
  rcases hz1 : fewP l with _ | _ <;> rcases hz2 : fewT ⟨bab, lab, frb, epb, pib, geb, seb, txb, ctb, rsb⟩ with _ | _
  case true.true =>
    have HZ1 := Lib.hid hz1
    have HZ2 := Lib.hid hz2
    have hfw := fewT_iff hz2
    simp only at hfw
    have HFTb := Lib.hid (fits_of HFNb.out HFITb.out hz2)
    have HNBb := Lib.hid (show nRb ≤ 1099511627776 from by have := HRRb_0.out.len; omega)
    clear hz1 hz2 hfw
    rcases hX : putP l ⟨bab, lab, frb, epb, pib, geb, seb, txb, ctb, rsb⟩ with ⟨X, E⟩
    have HX := Lib.hid hX
    clear hX
    go_upto_region 7 with (first
      | (go_at_call 12; have HLK := Lib.hid (liveS_any _ (HT.out.bel HB0.out)); (with_reducible refine HLK.out.mono ?_); clear HLK; rintro e wk1 ⟨rfl, hb⟩; have HB1 := Lib.hid (Epo.bel_trans HB0.out hb); have HP_1 := Lib.hid (rdkUp HP_0.out hb); have HRRb_1 := Lib.hid (rdrUp9 HRRb_0.out hb); have HATb_1 := Lib.hid (HATb_0.out.below hb); clear qb0 qb1 qb2 qb3 qb4 qb5 qb6 qb7 qb8 qb9; obtain ⟨qb0, qb1, qb2, qb3, qb4, qb5, qb6, qb7, qb8, qb9⟩ := cel10 HATb_1.out; clear hb)
      | (go_at_call 13; have HLK := Lib.hid (few11_is A n c l bab lab frb epb pib geb seb txb ctb rsb ARb nRb cRb _ HP_1.out (by omega) HRRb_1.out HFITb.out HNRb.out HZ1.out HZ2.out); (with_reducible refine HLK.out.mono ?_); clear HLK; rintro e wk2 ⟨rfl, hb⟩; have HB2 := Lib.hid (Epo.bel_trans HB1.out hb); have HP_2 := Lib.hid (rdkUp HP_1.out hb); have HRRb_2 := Lib.hid (rdrUp9 HRRb_1.out hb); have HATb_2 := Lib.hid (HATb_1.out.below hb); clear qb0 qb1 qb2 qb3 qb4 qb5 qb6 qb7 qb8 qb9; obtain ⟨qb0, qb1, qb2, qb3, qb4, qb5, qb6, qb7, qb8, qb9⟩ := cel10 HATb_2.out; clear hb)
      | (go_at_call 18; have HLK := Lib.hid (dPut_is A n c l bab lab frb epb pib geb seb txb ctb rsb ARb nRb cRb _ HP_2.out (by omega) HFTb.out HRRb_2.out HNBb.out (HT.out.bel HB2.out) HX.out); (with_reducible refine HLK.out.mono ?_); clear HLK; rintro e wk3 ⟨AHM, nHM, cHM, hsHM, rfl, ho, hm, hb⟩; have HM_3 := Lib.hid (show RdP wk3 wk3.heap.size AHM nHM X from by have h9 := OwnO.rd ho; rw [hm] at h9; exact h9); have HNHM := Lib.hid (show X.length = nHM from RdK.len HM_3.out); clear ho hm hsHM; have HB3 := Lib.hid (Epo.bel_trans HB2.out hb); have HP_3 := Lib.hid (rdkUp HP_2.out hb); have HRRb_3 := Lib.hid (rdrUp9 HRRb_2.out hb); have HATb_3 := Lib.hid (HATb_2.out.below hb); clear qb0 qb1 qb2 qb3 qb4 qb5 qb6 qb7 qb8 qb9; obtain ⟨qb0, qb1, qb2, qb3, qb4, qb5, qb6, qb7, qb8, qb9⟩ := cel10 HATb_3.out; clear hb))
    by_cases hE : E = 0
    case neg =>
      have g1 : (E == 0) = false := beq_eq_false_iff_ne.2 hE
      have g2 : (E != 0) = true := by simp [hE]
      clear hE
      go_wp2
      go_ret
      exact ⟨rfl, HB3.out⟩
    subst hE
    have HCK := Lib.hid (put_ok HX.out)
    have HCAPHM := Lib.hid (show X.length ≤ 1024 from (ckP_iff.1 HCK.out).1)
    have HCH := Lib.hid (ckP_iff.1 HCK.out).2
    have HOT := Lib.hid (show oth pib X = oth pib l from others HX.out)
    have HFI := Lib.hid (show pib ≠ -1 → ∃ p, findP X pib = some p ∧ p.gen = geb from fun h => put_find HX.out h)
    have HLN := Lib.hid HP_0.out.len
    have HL100 := Lib.hid (show l.length ≤ 1024 from (ckP_iff.1 (putL_ok HX.out)).1)
    go_wp2
    have HBW := Lib.hid (Below.refl wk3.heap.size wk3)
    go_loopw [8, 10] (fun va vi wr => otRel pib l wk3 va vi wr) (fun _ vi _ => n - (intOf vi).toNat)
    case atStart => exact ⟨0, 0, none, 0, rfl, rfl, Nat.zero_le _, Nat.le_refl _, OwnK.nil, Below.refl _ _⟩
    case round =>
      obtain ⟨k, m, A1, c1, rfl, rfl, hk, hm, ho, hb⟩ := hrel
      have HB := Lib.hid hb
      have HO0 := Lib.hid ho
      have HATr := Lib.hid (HATb_3.out.below hb)
      clear ho hb qb0 qb1 qb2 qb3 qb4 qb5 qb6 qb7 qb8 qb9
      by_cases hlt : k < n
      · obtain ⟨x, hxk⟩ : ∃ x, l[k]? = some x := ⟨l[k]'(by have := HLN.out; omega), List.getElem?_eq_getElem _⟩
        have HR0 := Lib.hid (HP_3.out.below HB.out (Nat.le_refl _))
        obtain ⟨bl, o, rfl, hbl, _⟩ := pr_form HR0.out hxk
        obtain ⟨A', n', c', hc', hn', hrd, d0, d1, d2⟩ := prK3 HR0.out hxk
        obtain ⟨qb0, qb1, qb2, qb3, qb4, qb5, qb6, qb7, qb8, qb9⟩ := cel10 HATr.out
        have HST := Lib.hid (oth_at (u := pib) hxk)
        have hw1 : IntKind.i64.wrap ((k : Int) + 1) = (k : Int) + 1 := IntWalk.i64_in _ (by have := HL100.out; have := HLN.out; omega)
        have hkl : (k : Int) < (n : Int) := by omega
        have hk0 : (0 : Int) ≤ (k : Int) := by omega
        have HXK := Lib.hid hxk
        clear hrd hxk
        by_cases he : x.pid = pib
        · have hq : (x.pid == pib) = true := beq_iff_eq.2 he
          have hq2 : (x.pid != pib) = false := by rw [he]; simp
          have HS9 := Lib.hid (HST.out.trans (by rw [if_pos he, List.append_nil]))
          clear he
          go_upto_region 13 with fail
          go_big_region
          have HBq := Lib.hid (HB.out.trans ((Below.refl wr.heap.size wr).drew.mono HB.out.size))
          have HOq := Lib.hid HO0.out.drew
          go_wp2
          go_roundw
          case rel => exact ⟨k + 1, m, _, _, by go_num, rfl, by have := HLN.out; omega, by omega, by rw [HS9.out]; exact HOq.out, HBq.out⟩
          case measure => simp [intOf]; omega
        · have hq : (x.pid == pib) = false := beq_eq_false_iff_ne.2 he
          have hq2 : (x.pid != pib) = true := bne_iff_ne.2 he
          have HS9 := Lib.hid (HST.out.trans (by rw [if_neg he]))
          clear he
          go_upto_region 13 with fail
          go_big_region
          have hbd := (Below.refl wr.heap.size wr).drew
          generalize wr.drew = wq at *
          have HBq := Lib.hid (HB.out.trans (hbd.mono HB.out.size))
          have HOq := Lib.hid (OwnK.below HO0.out hbd)
          clear hbd d0 d1 d2 qb0 qb1 qb2 qb3 qb4 qb5 qb6 qb7 qb8 qb9
          have HR1 := Lib.hid (HP_3.out.below HBq.out (Nat.le_refl _))
          obtain ⟨A'', n'', c'', hc'', hn'', hrd, d0, d1, d2⟩ := prK3 HR1.out HXK.out
          obtain ⟨Ab, mb, cb, wb, hmb, hrun, ho2, hb2⟩ := run_app1P wk3.heap.size wk3.heap.size (Nat.le_refl _) HOq.out (x, A'', n'', c'') hrd hc'' hn'' (by have := HL100.out; have := HLN.out; omega) HBq.out.size
          dsimp only [prC] at hrun
          have HRUNb := Lib.hid hrun
          have HOwb := Lib.hid ho2
          have HBwb := Lib.hid (HBq.out.trans hb2)
          clear hrun ho2 hb2 hrd
          go_wp2_with (at_builtin; refine wpList_app_run9 rfl _ _ 22 rfl rfl rfl HRUNb.out ?_)
          go_roundw
          case rel => exact ⟨k + 1, mb, _, _, by go_num, rfl, by have := HLN.out; omega, by omega, by rw [HS9.out]; exact HOwb.out, HBwb.out⟩
          case measure => simp [intOf]; omega
      · obtain rfl : k = n := by have := HLN.out; omega
        rename World => wL
        have HOL := Lib.hid (show OwnP wL (fun b => b < wk3.heap.size) wk3.heap.size (.slice A1 m c1) m (oth pib l) from by have h9 := HO0.out; rw [List.take_of_length_le (by rw [HLN.out]; exact Nat.le_refl _)] at h9; exact h9)
        have HBL := Lib.hid (Epo.bel_trans HB3.out HB.out)
        have HML := Lib.hid (rdkUp HM_3.out HB.out)
        have HXN := Lib.hid HM_3.out.len
        clear HO0 HB HM_3 HP_3 HRRb_3 HATb_3 HB3 HBW
        go_wp2
        go_loopw [9, 11, 12] (fun va vf vi wr => owRel pib X wL va vf vi wr) (fun _ _ vi _ => nHM - (intOf vi).toNat)
        case atStart => exact ⟨⟨0, 0, none, 0, rfl, rfl, Nat.zero_le _, Nat.le_refl _, OwnK.nil, Below.refl _ _⟩, 0, rfl, rfl⟩
        case round =>
          obtain ⟨⟨q, m2, A2, c2, rfl, rfl, hk2, hm2, ho, hb⟩, q9, hq9, rfl⟩ := hrel
          obtain rfl : q = q9 := by injection hq9 with _ h9; exact Int.ofNat_inj.1 h9
          have HB := Lib.hid hb
          have HO0 := Lib.hid ho
          have HATs := Lib.hid (HATr.out.below hb)
          clear ho hb hq9
          by_cases hlt : q < nHM
          · obtain ⟨x, hxk⟩ : ∃ x, X[q]? = some x := ⟨X[q]'(by have := HXN.out; omega), List.getElem?_eq_getElem _⟩
            have HR0 := Lib.hid (HML.out.below HB.out (Nat.le_refl _))
            obtain ⟨bl, o, hAHM, hbl, _⟩ := pr_form HR0.out hxk
            subst hAHM
            obtain ⟨A', n', c', hc', hn', hrd, d0, d1, d2⟩ := prK3 HR0.out hxk
            obtain ⟨qb0, qb1, qb2, qb3, qb4, qb5, qb6, qb7, qb8, qb9⟩ := cel10 HATs.out
            have HST := Lib.hid (oth_at (u := pib) hxk)
            have HSF := Lib.hid (own1_at (u := pib) hxk)
            have hw1 : IntKind.i64.wrap ((q : Int) + 1) = (q : Int) + 1 := IntWalk.i64_in _ (by have := HCAPHM.out; have := HXN.out; omega)
            have hkl : (q : Int) < (nHM : Int) := by omega
            have hk0 : (0 : Int) ≤ (q : Int) := by omega
            have HXK := Lib.hid hxk
            clear hrd hxk
            by_cases he : x.pid = pib
            · have hq1 : (x.pid == pib) = true := beq_iff_eq.2 he
              have hq2 : (x.pid != pib) = false := by rw [he]; simp
              have hge : x.gen = geb := by
                have h1 := chP_mem HCH.out x (List.mem_of_getElem? HXK.out)
                obtain ⟨p, hp, hg⟩ := HFI.out (by rw [← he]; omega)
                have h2 := find_mem HCH.out (List.mem_of_getElem? HXK.out)
                rw [he, hp] at h2
                obtain rfl := Option.some.inj h2
                exact hg
              have hg2 : (x.gen != geb) = false := by rw [hge]; simp
              have HS9 := Lib.hid (HST.out.trans (by rw [if_pos he, List.append_nil]))
              have HSF9 := Lib.hid (HSF.out.trans (by rw [if_pos he]))
              obtain ⟨fq, hfq⟩ : ∃ fq, own1 pib (X.take q) = fq := ⟨_, rfl⟩
              rw [hfq] at HSF9
              simp only [hfq]
              have hfw : IntKind.i64.wrap ((fq : Int) + 1) = (fq : Int) + 1 := IntWalk.i64_in _ (by have h1 := own1_le pib (X.take q); rw [hfq, List.length_take] at h1; have := HCAPHM.out; omega)
              clear he hge hfq
              go_upto_region 19 with fail
              go_big_region
              go_upto_region 22 with fail
              go_big_region
              have HBq := Lib.hid (HB.out.trans ((Below.refl wr.heap.size wr).drew.drew.mono HB.out.size))
              have HOq := Lib.hid HO0.out.drew.drew
              go_wp2
              go_roundw
              case rel => exact ⟨⟨q + 1, m2, _, _, by go_num, rfl, by have := HXN.out; omega, by omega, by rw [HS9.out]; exact HOq.out, HBq.out⟩, q + 1, by go_num, by rw [HSF9.out]; go_num⟩
              case measure => simp [intOf]; omega
            · have hq1 : (x.pid == pib) = false := beq_eq_false_iff_ne.2 he
              have hq2 : (x.pid != pib) = true := bne_iff_ne.2 he
              have HS9 := Lib.hid (HST.out.trans (by rw [if_neg he]))
              have HSF9 := Lib.hid (HSF.out.trans (by rw [if_neg he, Nat.add_zero]))
              clear he
              go_upto_region 19 with fail
              go_big_region
              have hbd := (Below.refl wr.heap.size wr).drew
              generalize wr.drew = wq at *
              have HBq := Lib.hid (HB.out.trans (hbd.mono HB.out.size))
              have HOq := Lib.hid (OwnK.below HO0.out hbd)
              clear hbd d0 d1 d2 qb0 qb1 qb2 qb3 qb4 qb5 qb6 qb7 qb8 qb9
              have HR1 := Lib.hid (HML.out.below HBq.out (Nat.le_refl _))
              obtain ⟨A'', n'', c'', hc'', hn'', hrd, d0, d1, d2⟩ := prK3 HR1.out HXK.out
              obtain ⟨Ab, mb, cb, wb, hmb, hrun, ho2, hb2⟩ := run_app1P wL.heap.size wL.heap.size (Nat.le_refl _) HOq.out (x, A'', n'', c'') hrd hc'' hn'' (by have := HCAPHM.out; have := HXN.out; omega) HBq.out.size
              dsimp only [prC] at hrun
              have HRUNb := Lib.hid hrun
              have HOwb := Lib.hid ho2
              have HBwb := Lib.hid (HBq.out.trans hb2)
              clear hrun ho2 hb2 hrd
              go_wp2_with (at_builtin; refine wpList_app_run9 rfl _ _ 22 rfl rfl rfl HRUNb.out ?_)
              go_roundw
              case rel => exact ⟨⟨q + 1, mb, _, _, by go_num, rfl, by have := HXN.out; omega, by omega, by rw [HS9.out]; exact HOwb.out, HBwb.out⟩, q + 1, by go_num, by rw [HSF9.out]⟩
              case measure => simp [intOf]; omega
          · obtain rfl : q = nHM := by have := HXN.out; omega
            have HTK := Lib.hid (show X.take q = X from List.take_of_length_le (by rw [HXN.out]; exact Nat.le_refl _))
            have HO2 := Lib.hid (show OwnP wr (fun b => b < wL.heap.size) wL.heap.size (.slice A2 m2 c2) m2 (oth pib l) from by have h9 := HO0.out; rw [HTK.out, HOT.out] at h9; exact h9)
            have HO1 := Lib.hid (OwnK.below HOL.out HB.out)
            have HBZ := Lib.hid (Epo.bel_trans HBL.out HB.out)
            have HSM := Lib.hid (rSameP_yes A1 A2 m c1 m2 c2 (oth pib l) wr HO1.out.rd HO2.out.rd (by have := HL100.out; have := HLN.out; exact Nat.le_trans (show m ≤ 1024 by omega) (by decide)))
            rw [HTK.out]
            obtain ⟨qb0, qb1, qb2, qb3, qb4, qb5, qb6, qb7, qb8, qb9⟩ := cel10 HATs.out
            by_cases hpi : pib < 0
            · clear HTK
              go_wp2_with (go_at_call 20; (with_reducible refine HSM.out.mono ?_); rintro e wz ⟨rfl, hb⟩; have HBY := Lib.hid (Epo.bel_trans HBZ.out hb); have HATz := Lib.hid (HATs.out.below hb); clear qb0 qb1 qb2 qb3 qb4 qb5 qb6 qb7 qb8 qb9 hb; obtain ⟨qb0, qb1, qb2, qb3, qb4, qb5, qb6, qb7, qb8, qb9⟩ := cel10 HATz.out)
              go_ret
              exact ⟨rfl, HBY.out⟩
            · have h1 : own1 pib X = 1 := by
                obtain ⟨p, hp, _⟩ := HFI.out (by omega)
                exact count_one HCH.out hp
              rw [h1]
              clear HTK h1
              go_wp2_with (go_at_call 20; (with_reducible refine HSM.out.mono ?_); rintro e wz ⟨rfl, hb⟩; have HBY := Lib.hid (Epo.bel_trans HBZ.out hb); have HATz := Lib.hid (HATs.out.below hb); clear qb0 qb1 qb2 qb3 qb4 qb5 qb6 qb7 qb8 qb9 hb; obtain ⟨qb0, qb1, qb2, qb3, qb4, qb5, qb6, qb7, qb8, qb9⟩ := cel10 HATz.out)
              go_ret
              exact ⟨rfl, HBY.out⟩
  all_goals
    have HZ1 := Lib.hid hz1
    have HZ2 := Lib.hid hz2
    clear hz1 hz2
    go_wp2_with (first
      | (go_at_call 12; have HLK := Lib.hid (liveS_any _ (HT.out.bel HB0.out)); (with_reducible refine HLK.out.mono ?_); clear HLK; rintro e wk1 ⟨rfl, hb⟩; have HB1 := Lib.hid (Epo.bel_trans HB0.out hb); have HP_1 := Lib.hid (rdkUp HP_0.out hb); have HRRb_1 := Lib.hid (rdrUp9 HRRb_0.out hb); have HATb_1 := Lib.hid (HATb_0.out.below hb); clear qb0 qb1 qb2 qb3 qb4 qb5 qb6 qb7 qb8 qb9; obtain ⟨qb0, qb1, qb2, qb3, qb4, qb5, qb6, qb7, qb8, qb9⟩ := cel10 HATb_1.out; clear hb)
      | (go_at_call 13; have HLK := Lib.hid (few11_is A n c l bab lab frb epb pib geb seb txb ctb rsb ARb nRb cRb _ HP_1.out (by omega) HRRb_1.out HFITb.out HNRb.out HZ1.out HZ2.out); (with_reducible refine HLK.out.mono ?_); clear HLK; rintro e wk2 ⟨rfl, hb⟩; have HB2 := Lib.hid (Epo.bel_trans HB1.out hb); have HP_2 := Lib.hid (rdkUp HP_1.out hb); have HRRb_2 := Lib.hid (rdrUp9 HRRb_1.out hb); have HATb_2 := Lib.hid (HATb_1.out.below hb); clear qb0 qb1 qb2 qb3 qb4 qb5 qb6 qb7 qb8 qb9; obtain ⟨qb0, qb1, qb2, qb3, qb4, qb5, qb6, qb7, qb8, qb9⟩ := cel10 HATb_2.out; clear hb))
    go_ret
    exact ⟨rfl, HB2.out⟩
end Go.Proofs.YtllebgadhhgckaaDoor.Sqs

/- The package's table as the row lists it: what the walks ask, and that the program's own start meets it. -/
namespace Go.Proofs.YtllebgadhhgckaaDoor.Crc
open Go.ChangeShapes Go.WideShapes Go.ChangeAt Go.RowKit

abbrev listed : List (String × DataW Unit) := [("watermeet/crc.steps", Rows.laid_watermeet_crc_steps)]
theorem gSteps : Tryd.prog.globalNamed "watermeet/crc.steps" = some 0 := by kernel_rfl
theorem tSteps : (Tryd.prog.globals[0]?).map (·.type) = some 109 := by kernel_rfl
theorem door_met (os : Os) (args : Array Value) : laidMetH Tryd.prog listed ((World.doorLaid Tryd.prog 400 os).forCall (fun _ _ => 0) ⟨#[], args, []⟩).memory :=
  laidMetH_of_parts3 (fuel := 8) (laidMet_of_run' 8 (by kernel_rfl) (by kernel_rfl)) (by kernel_rfl) (by kernel_rfl)
theorem tab_of_laid {W : World} (h : laidMetH Tryd.prog listed W) : Tab W := by
  rw [MakeChecks.laidMetH_plain _ _ _ (by kernel_rfl)] at h
  have hT : Lib.TabIs Tryd.prog W "watermeet/crc.steps" .u32 (tab.map fun n : Nat => (n : Int)) := Lib.tabIs_of_head gSteps tSteps Tryd.underlying109 Tryd.underlying84 (by kernel_rfl) (by kernel_rfl) h
  intro i hi
  have h1 := hT.cell gSteps i (by show i < 16; exact hi)
  rw [h1]
  congr 2
  simp only [List.getD_eq_getElem?_getD, List.getElem?_map]
  have h2 : i < tab.length := hi
  rw [List.getElem?_eq_getElem h2]
  rfl
end Go.Proofs.YtllebgadhhgckaaDoor.Crc

namespace Go.Proofs.YtllebgadhhgckaaDoor.seqsOthers
open Go.ChangeShapes Go.WideShapes Go.ChangeAt Go.RowKit

theorem own : ownKnob Tryd.prog.godebug = none := by kernel_rfl
theorem laidOut : laidOutB Tryd.prog = true := by kernel_rfl

set_option maxRecDepth 100000 in
theorem lifted (os : Os) (started : os.Started) (H : Type) (enc : TypeId × Value → H) :
    ReturnsInHanded {} Tryd.checked os 11 .any (fun w args => (Rows.seqsOthersSpec.pre enc Tryd.prog Tryd.f11 [] false w args ∧ laidMetH Tryd.prog Crc.listed w) ∧ sizedMet enc Tryd.prog Tryd.f11 (OpenSpec.ofChange Rows.seqsOthersSpec) false w args)
      (Rows.seqsOthersSpec.post enc Tryd.prog Tryd.f11 false true false false) := by
  refine returnsInHanded_of_change_and (C := Tryd.checked) (X := fun w _ => laidMetH Tryd.prog Crc.listed w) (fun _ _ _ hh h => h.of_heap hh) own started (by kernel_rfl) Tryd.func11
    (ChangeSpec.witness_shaped (enc := enc) (C := Tryd.checked) (os := os) (X := fun w _ => laidMetH Tryd.prog Crc.listed w) false (World.doorLaid Tryd.prog 400 os) #[.slice none 0 0, .agg #[.int .i64 0, .int .i64 0, .int .i64 0, .int .i64 0, .int .i64 0, .int .i64 0, .int .i64 0, .bool false, .int .i64 0, .slice none 0 0]] 8 rfl (World.shaped_of_RefB (by kernel_rfl) (by kernel_rfl)) (by kernel_rfl) (by kernel_rfl) (by kernel_rfl) (Crc.door_met os _)) ?_
  intro W base args ds gs before hval0 hW _ hwt hL _
  have hval : ∀ (j : Nat) t v, Tryd.f11.params[j]? = some t → args[j]? = some v → Value.okWide Tryd.prog W .any base t v := hval0
  have hW' := hW
  obtain ⟨p, q, hA0, hV, rfl, hfz, hnd⟩ := hW
  have hA : DataW.TrodAll enc Tryd.prog W 0 (fun _ => true) true Tryd.f11.params.toList args.toList ds p := hA0
  rw [Tryd.params11] at hA hval
  obtain ⟨v0, vs0, d0, ds0, p0, q0, hargs, rfl, rfl, h0, r0⟩ := trodAll_cons hA
  obtain ⟨v1, vs1, d1, ds1, p1, q1, rfl, rfl, rfl, h1, r1⟩ := trodAll_cons r0
  obtain ⟨rfl, rfl, rfl⟩ := trodAll_nil r1
  obtain rfl : args = #[v0, v1] := by cases args; simp_all
  obtain ⟨rfl, rfl⟩ := trodVars_none hV
  have k0 := h0
  have lt0 : ∀ x ∈ p0, x.block < W.heap.size := by obtain ⟨m, hm⟩ := k0; exact DataW.trod_lt m _ _ _ hm
  obtain ⟨A_0, n_0, c_0, l_0, rfl, hc_0, hk_0, hR_0⟩ := Sqs.open_prods (hval 0 22 v0 rfl rfl) h0 (Bat.weights_arg (j := 0) hwt (by kernel_rfl) rfl)
  have k1 := h1
  have lt1 : ∀ x ∈ p1, x.block < W.heap.size := by obtain ⟨m, hm⟩ := k1; exact DataW.trod_lt m _ _ _ hm
  obtain ⟨ba_1, la_1, fr_1, ep_1, pi_1, ge_1, se_1, tx_1, ct_1, A_1, n_1, c_1, rs_1, rfl, hf_1, hc_1, hk_1, hR_1⟩ := Bat.open_batch (hval 1 25 v1 rfl rfl) h1 (Bat.weights_arg (j := 1) hwt (by kernel_rfl) rfl)
  clear hA0 hval0
  refine (Sqs.seqsOthers_walk A_0 n_0 c_0 l_0 ba_1 la_1 fr_1 ep_1 pi_1 ge_1 se_1 tx_1 ct_1 A_1 n_1 c_1 rs_1 W hc_0 hk_0 hR_0 hf_1 hc_1 hk_1 hR_1 (Crc.tab_of_laid hL)).mono fun e W' ⟨he, bel⟩ => ?_
  subst he
  exact ⟨_, rfl, _, _, _, [], _, [], hW', trodAll_mk1 (shut_bool Tryd.underlying4 _), (trodAll_cons_mk (Below.trod laidOut (by kernel_rfl) (of_decide_eq_true (by kernel_rfl)) k0 bel lt0) (trodAll_cons_mk (Below.trod laidOut (by kernel_rfl) (of_decide_eq_true (by kernel_rfl)) k1 bel lt1) trodAll_mk0)), rfl, bel.frame _, fun h => by cases h⟩

theorem over : Rows.seqsOthersRow.holds Tryd.pinned (OpenSpec.ofChange Rows.seqsOthersSpec) :=
  OpenClaim.holds_of_wide 11 Tryd.f11 rfl rfl rfl rfl rfl rfl rfl ⟨rfl, rfl, rfl, rfl, rfl⟩ rfl rfl rfl rfl rfl (by kernel_rfl) Tryd.func11 (by kernel_rfl)
    (of_decide_eq_true (by kernel_rfl)) (by unfold Func.isWrapper; first | (rw [if_pos (by decide +kernel)]; kernel_rfl) | (rw [if_neg (by decide +kernel)]; exact ⟨rfl, rfl⟩))
    (fun os started H enc _ => lifted os started H enc)

theorem proved : Rows.SeqsOthersCardSaid :=
  Claim7.holds_tied_plain_at .later [] [.data] true (true, "934c4175c22cf6ebd5c5bb7cfcef1248a1d87827f8534c5a344dee36c2a0e337") false
    over (fun _ h => by cases h) (by kernel_rfl) (fun _ h => by cases h) seqsOthers_row_tie rfl ⟨rfl, rfl⟩ (by kernel_rfl) rfl
    (fun f fn hf hfn => by
      obtain rfl : f = 11 := Option.some.inj ((show Tryd.prog.funcNamed "watermeet/watermeetlaw11.SeqsOthers" = some 11 by kernel_rfl).symm.trans hf) |>.symm
      obtain rfl : fn = Tryd.f11 := (Option.some.inj (Tryd.func11.symm.trans hfn)).symm
      exact ⟨by kernel_rfl, fun j t ht => by
        rw [Tryd.params11] at ht
        have hm : t ∈ [22, 25] := by simpa using Array.mem_of_getElem? ht
        have hall : ([22, 25].all fun u => !Tryd.prog.wantsStandIn u) = true := by kernel_rfl
        exact (show Tryd.prog.wantsStandIn t = false by simpa using List.all_eq_true.1 hall t hm)⟩)
    (by kernel_rfl)
#print axioms proved
end Go.Proofs.YtllebgadhhgckaaDoor.seqsOthers
