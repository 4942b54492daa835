/- Joined: TxnDF, Codec. -/
import Derived.Test.YtlfbagkonckffaaGreatJ34
import Derived.Test.YtlfbagkonckffaaGreatJ29
import Derived.Test.YtlfbagkonckffaaGreatJ02
/- The landed txns: Hidden, Trim. -/
namespace Go.Proofs.YtlfbagkonckffaaGreat.Txn
open Go.RowKit Go.Shelf Oct Rec RowF Lay InR RngQ Bat RowL
open Epo (At0 AtO belA cel2)
open Sqs (at0_grown at0_set9 grown_set9 grown_bel grown_then)

attribute [local go_sem] Oper.semAt_some

set_option maxRecDepth 100000 in
set_option maxHeartbeats 4000000 in
theorem hid1_is (x0 x1 x2 x3 fr tt : Int) (bf bt : Nat) (W : World) (h1 : W.cell? ⟨bf, 0, none⟩ = some (.int .i64 fr)) (h2 : W.cell? ⟨bt, 0, none⟩ = some (.int .i64 tt)) {z : Bool} (hz : decide (fr ≤ x3 ∧ x2 < tt) = z) :
    Calls Tryz.prog 55 #[.agg #[.int .i64 x0, .int .i64 x1, .int .i64 x2, .int .i64 x3], .pointer (some ⟨bf, 0, none⟩), .pointer (some ⟨bt, 0, none⟩)] W fun e W2 => e = .returned (.bool z) ∧ Below W.heap.size W W2 := by
  subst hz
  have l1 : bf < W.heap.size := World.block_lt_of_cell? _ _ h1
  have l2 : bt < W.heap.size := World.block_lt_of_cell? _ _ h2
  by_cases h : fr ≤ x3
  · have hd : decide (fr ≤ x3) = true := decide_eq_true h
    have HD := Lib.hid h
    clear h
    go_enter Tryz.func55, Tryz.ntmps55
    go_wp2
    go_ret
    exact ⟨by simp [HD.out], belA _ _⟩
  · have hd : decide (fr ≤ x3) = false := decide_eq_false h
    have HD := Lib.hid h
    clear h
    go_enter Tryz.func55, Tryz.ntmps55
    go_wp2
    go_ret
    exact ⟨by simp, belA _ _⟩
set_option maxRecDepth 100000 in
set_option maxHeartbeats 4000000 in
theorem trm1_is (x0 x1 x2 x3 s : Int) (bs : Nat) (W : World) (h1 : W.cell? ⟨bs, 0, none⟩ = some (.int .i64 s)) {z : Bool} (hz : decide (s ≤ x3) = z) :
    Calls Tryz.prog 63 #[.agg #[.int .i64 x0, .int .i64 x1, .int .i64 x2, .int .i64 x3], .pointer (some ⟨bs, 0, none⟩)] W fun e W2 => e = .returned (.bool z) ∧ Below W.heap.size W W2 := by
  subst hz
  have l1 : bs < W.heap.size := World.block_lt_of_cell? _ _ h1
  go_enter Tryz.func63, Tryz.ntmps63
  go_wp2
  go_ret
  exact ⟨by simp, belA _ _⟩
set_option maxRecDepth 100000 in
set_option maxHeartbeats 8000000 in
theorem hidden_is (A : Option Addr) (n c : Nat) (A2 : Option Addr) (n2 c2 : Nat) (A3 : Option Addr) (n3 c3 : Nat) (t : Tx) (fr tt : Int) (w : World) (hr : RdT w A n A2 n2 A3 n3 t) (hn : n2 ≤ 1000000) {Z : List Gon} (hz : hidG t.gone fr tt = Z) :
    Calls Tryz.prog 22 #[.agg #[.slice A n c, .slice A2 n2 c2, .slice A3 n3 c3], .int .i64 fr, .int .i64 tt] w fun e w' => ∃ A' n' c', e = .returned (.slice A' n' c') ∧ OwnGn w' w.heap.size (.slice A' n' c') n' Z ∧ Below w.heap.size w w' := by
  have HR := Lib.hid hr
  clear hr
  go_enter Tryz.func22, Tryz.ntmps22
  go_upto_region 1 with fail
  generalize hW : (World.alloc (World.alloc (World.alloc w _) _) _) = W
  have hW9 : Below w.heap.size w W ∧ At0 W w.heap.size [.slice A n c, .slice A2 n2 c2, .slice A3 n3 c3] 25 ∧ At0 W (w.heap.size + 1) [.int .i64 fr] 3 ∧ At0 W (w.heap.size + 1 + 1) [.int .i64 tt] 3 := by
    rw [← hW]
    have h1 := At0.new (w.alloc (.cells #[.slice A n c, .slice A2 n2 c2, .slice A3 n3 c3] 25)) [.int .i64 fr] 3
    have h2 := At0.new ((w.alloc (.cells #[.slice A n c, .slice A2 n2 c2, .slice A3 n3 c3] 25)).alloc (.cells #[.int .i64 fr] 3)) [.int .i64 tt] 3
    simp only [World.size_alloc] at h1 h2
    exact ⟨bel_alloc (bel_alloc (bel_alloc (Below.refl _ _) _) _) _, ((At0.new w [.slice A n c, .slice A2 n2 c2, .slice A3 n3 c3] 25).below (belA _ _)).below (belA _ _), h1.below (belA _ _), h2⟩
  obtain ⟨hbW, hT, hF, hO⟩ := hW9
  have HTH := Lib.hid (thoseG_is 55 #[.pointer (some ⟨w.heap.size + 1, 0, none⟩), .pointer (some ⟨w.heap.size + 1 + 1, 0, none⟩)] (enters_of Tryz.func55 (by kernel_rfl) rfl) (fun g => decide (fr ≤ g.lst ∧ g.fst < tt)) A2 n2 c2 t.gone W (HR.out.below hbW).gone hn
    (fun x _ X hX => hid1_is x.pid x.no x.fst x.lst fr tt _ _ X ((hX.cell (p := ⟨w.heap.size + 1, 0, none⟩) hF.lt).trans (hF.cell 0)) ((hX.cell (p := ⟨w.heap.size + 1 + 1, 0, none⟩) hO.lt).trans (hO.cell 0)) rfl))
  have HW := Lib.hid hbW
  obtain ⟨q0, q1, q2⟩ := cel3 hT
  have HZ := Lib.hid hz
  clear hW hbW hT hF hO hz
  go_wp2_with (go_at_call 54; (with_reducible refine HTH.out.mono ?_); rintro e w2 ⟨A5, n5, c5, rfl, ho, hb⟩; have HO := Lib.hid ho; have HB := Lib.hid hb; clear ho hb)
  go_ret
  exact ⟨A5, n5, c5, rfl, by rw [← HZ.out]; exact HO.out.more HW.out.size, bel_trans HW.out HB.out⟩
set_option maxRecDepth 100000 in
set_option maxHeartbeats 8000000 in
theorem trim_is (A : Option Addr) (n c : Nat) (A2 : Option Addr) (n2 c2 : Nat) (A3 : Option Addr) (n3 c3 : Nat) (t : Tx) (s : Int) (w : World) (hr : RdT w A n A2 n2 A3 n3 t) (hn : n ≤ 1000000) (hn2 : n2 ≤ 1000000) (hn3 : n3 ≤ 1000000) {Z : Tx} (hz : trmT t s = Z) :
    Calls Tryz.prog 29 #[.agg #[.slice A n c, .slice A2 n2 c2, .slice A3 n3 c3], .int .i64 s] w fun e w' => ∃ A' n' c' A2' n2' c2' A3' n3' c3', e = .returned (.agg #[.slice A' n' c', .slice A2' n2' c2', .slice A3' n3' c3']) ∧ OwnTx w' w.heap.size A' n' c' A2' n2' c2' A3' n3' c3' Z ∧ Below w.heap.size w w' := by
  have HR := Lib.hid hr
  have hmx : Tryz.prog.follows .mixedOrders = true := by kernel_rfl
  subst hz
  clear hr
  go_enter Tryz.func29, Tryz.ntmps29
  go_upto_region 2 with fail
  generalize hW : (World.alloc (World.alloc (World.alloc w _) _) _) = W
  have hW9 : Below w.heap.size w W ∧ At0 W w.heap.size [.slice A n c, .slice A2 n2 c2, .slice A3 n3 c3] 25 ∧ At0 W (w.heap.size + 1) [.int .i64 s] 3 ∧ At0 W (w.heap.size + 1 + 1) [.slice none 0 0, .slice none 0 0, .slice none 0 0] 25 := by
    rw [← hW]
    have h1 := At0.new (w.alloc (.cells #[.slice A n c, .slice A2 n2 c2, .slice A3 n3 c3] 25)) [.int .i64 s] 3
    have h2 := At0.new ((w.alloc (.cells #[.slice A n c, .slice A2 n2 c2, .slice A3 n3 c3] 25)).alloc (.cells #[.int .i64 s] 3)) [.slice none 0 0, .slice none 0 0, .slice none 0 0] 25
    simp only [World.size_alloc] at h1 h2
    exact ⟨bel_alloc (bel_alloc (bel_alloc (Below.refl _ _) _) _) _, ((At0.new w [.slice A n c, .slice A2 n2 c2, .slice A3 n3 c3] 25).below (belA _ _)).below (belA _ _), h1.below (belA _ _), h2⟩
  obtain ⟨hbW, hT, hS, hZ⟩ := hW9
  have hN2 := hZ.lt
  have HTH := Lib.hid (show ∀ (A9 : Option Addr) (n9 c9 : Nat) (L : List Gon) (X : World), Below W.heap.size W X → RdGn X X.heap.size A9 n9 L → n9 ≤ 1000000 → Calls Tryz.prog 54 #[.slice A9 n9 c9, .func (.func 63) #[] #[.pointer (some ⟨w.heap.size + 1, 0, none⟩)]] X fun e w' => ∃ A' n' c', e = .returned (.slice A' n' c') ∧ OwnGn w' X.heap.size (.slice A' n' c') n' (frmG L s) ∧ Below X.heap.size X w' from
    fun A9 n9 c9 L X hX hL h9 => thoseG_is 63 #[.pointer (some ⟨w.heap.size + 1, 0, none⟩)] (enters_of Tryz.func63 (by kernel_rfl) rfl) (fun g => decide (s ≤ g.lst)) A9 n9 c9 L X hL h9
      (fun x _ Y hY => trm1_is x.pid x.no x.fst x.lst s _ Y (((hX.trans (hY.mono hX.size)).cell (p := ⟨w.heap.size + 1, 0, none⟩) hS.lt).trans (hS.cell 0)) rfl))
  have HW_0 := Lib.hid hbW
  have HV_0 := Lib.hid (Below.refl W.heap.size W)
  have HT_0 := Lib.hid hT
  have HZ_0 := Lib.hid hZ
  have HR_0 := Lib.hid (HR.out.below hbW)
  clear hW hbW hT hZ hS
  have hbd := (Below.refl W.heap.size W).drew
  have HW_R2 := Lib.hid (bel_trans HW_0.out hbd)
  have HV_R2 := Lib.hid (bel_trans HV_0.out hbd)
  have HT_R2 := Lib.hid (HT_0.out.below hbd)
  have HZ_R2 := Lib.hid (HZ_0.out.below hbd)
  have HR_R2 := Lib.hid (HR_0.out.below hbd)
  have HSR2 := Lib.hid (show (fun W9 : World => W9.cell? ⟨w.heap.size, 0, none⟩ = some (.slice A n c) ∧ W9.cell? ⟨w.heap.size, 1, none⟩ = some (.slice A2 n2 c2) ∧ W9.cell? ⟨w.heap.size, 2, none⟩ = some (.slice A3 n3 c3)) W.drew from ⟨HT_R2.out.cell 0, HT_R2.out.cell 1, HT_R2.out.cell 2⟩)
  clear hbd
  refine region_let (fun W9 : World => W9.cell? ⟨w.heap.size, 0, none⟩ = some (.slice A n c) ∧ W9.cell? ⟨w.heap.size, 1, none⟩ = some (.slice A2 n2 c2) ∧ W9.cell? ⟨w.heap.size, 2, none⟩ = some (.slice A3 n3 c3)) 12 13 hmx rfl fun ops Q HOPS HQ => ?_
  refine yq 0 HOPS HSR2.out ?_; simp only [ls0, ls1]; refine yq 1 HOPS HSR2.out ?_; simp only [ls0, ls1]; refine yq 3 HOPS HSR2.out ?_; simp only [ls0, ls1]; refine yq 4 HOPS HSR2.out ?_; simp only [ls0, ls1]; refine yq 5 HOPS HSR2.out ?_; simp only [ls0, ls1]; refine yq 7 HOPS HSR2.out ?_; simp only [ls0, ls1]; refine yq 8 HOPS HSR2.out ?_; simp only [ls0, ls1]; refine yq 9 HOPS HSR2.out ?_; simp only [ls0, ls1]
  refine xc 2 HOPS ?_
  go_simp
  with_reducible refine (cloneO_is A n c t.op _ HR_R2.out.op hn).mono ?_
  rintro e w2 ⟨A4, c4, rfl, ho, hb⟩
  have HW_2 := Lib.hid (bel_trans HW_R2.out hb)
  have HV_2 := Lib.hid (bel_trans HV_R2.out hb)
  have HT_2 := Lib.hid (HT_R2.out.below hb)
  have HZ_2 := Lib.hid (HZ_R2.out.below hb)
  have HR_2 := Lib.hid (HR_R2.out.below hb)
  have HO2_w2 := Lib.hid (ho.more HV_R2.out.size)
  have HSR2w2 := Lib.hid (show (fun W9 : World => W9.cell? ⟨w.heap.size, 0, none⟩ = some (.slice A n c) ∧ W9.cell? ⟨w.heap.size, 1, none⟩ = some (.slice A2 n2 c2) ∧ W9.cell? ⟨w.heap.size, 2, none⟩ = some (.slice A3 n3 c3)) w2 from ⟨HT_2.out.cell 0, HT_2.out.cell 1, HT_2.out.cell 2⟩)
  clear hb
  refine ⟨HSR2w2.out, ?_⟩
  refine xc 6 HOPS ?_
  go_simp
  with_reducible refine (HTH.out A2 n2 c2 t.gone _ HV_2.out HR_2.out.gone hn2).mono ?_
  rintro e w3 ⟨A5, n5, c5, rfl, ho, hb⟩
  have HW_3 := Lib.hid (bel_trans HW_2.out hb)
  have HV_3 := Lib.hid (bel_trans HV_2.out hb)
  have HT_3 := Lib.hid (HT_2.out.below hb)
  have HZ_3 := Lib.hid (HZ_2.out.below hb)
  have HR_3 := Lib.hid (HR_2.out.below hb)
  have HO2_3 := Lib.hid (HO2_w2.out.below hb)
  have HO3_w3 := Lib.hid (ho.more HV_2.out.size)
  have HSR2w3 := Lib.hid (show (fun W9 : World => W9.cell? ⟨w.heap.size, 0, none⟩ = some (.slice A n c) ∧ W9.cell? ⟨w.heap.size, 1, none⟩ = some (.slice A2 n2 c2) ∧ W9.cell? ⟨w.heap.size, 2, none⟩ = some (.slice A3 n3 c3)) w3 from ⟨HT_3.out.cell 0, HT_3.out.cell 1, HT_3.out.cell 2⟩)
  clear hb
  refine ⟨HSR2w3.out, ?_⟩
  refine xc 10 HOPS ?_
  go_simp
  with_reducible refine (HTH.out A3 n3 c3 t.done _ HV_3.out HR_3.out.done hn3).mono ?_
  rintro e w4 ⟨A6, n6, c6, rfl, ho, hb⟩
  have HW_4 := Lib.hid (bel_trans HW_3.out hb)
  have HV_4 := Lib.hid (bel_trans HV_3.out hb)
  have HT_4 := Lib.hid (HT_3.out.below hb)
  have HZ_4 := Lib.hid (HZ_3.out.below hb)
  have HR_4 := Lib.hid (HR_3.out.below hb)
  have HO2_4 := Lib.hid (HO2_3.out.below hb)
  have HO3_4 := Lib.hid (HO3_w3.out.below hb)
  have HO4_w4 := Lib.hid (ho.more HV_3.out.size)
  have HAP := Lib.hid (apart_new HO3_w3.out ho (Nat.le_refl _))
  obtain ⟨hzw4_0, hzw4_1, hzw4_2⟩ := cel3 HZ_4.out
  obtain ⟨fhzw4_0, fhzw4_1, fhzw4_2⟩ := frz3 HZ_4.out
  have HSR2w4 := Lib.hid (show (fun W9 : World => W9.cell? ⟨w.heap.size, 0, none⟩ = some (.slice A n c) ∧ W9.cell? ⟨w.heap.size, 1, none⟩ = some (.slice A2 n2 c2) ∧ W9.cell? ⟨w.heap.size, 2, none⟩ = some (.slice A3 n3 c3)) w4 from ⟨HT_4.out.cell 0, HT_4.out.cell 1, HT_4.out.cell 2⟩)
  clear hb
  refine ⟨HSR2w4.out, ?_⟩
  refine yq 11 HOPS HSR2w4.out ?_; simp only [ls0, ls1]
  refine xl 12 HOPS ?_
  go_simp
  refine stepE HOPS (by kernel_rfl) (HQ.out _ _ ?_)
  clear HQ HOPS
  clear Q ops
  go_wp2
  have hF := at0_set9 (at0_set9 (at0_set9 HZ_4.out 0 (.slice A4 n c4)) 1 (.slice A5 n5 c5)) 2 (.slice A6 n6 c6)
  obtain ⟨k0, k1, k2⟩ := cel3 (show At0 _ _ [.slice A4 n c4, .slice A5 n5 c5, .slice A6 n6 c6] _ from hF)
  refine bodyPost_ret (v := .agg #[.slice A4 n c4, .slice A5 n5 c5, .slice A6 n6 c6]) (by simp [results, Tryz.results29, go_sem, k0, k1, k2]) rfl ?_
  have hTX : OwnTx w4 W.heap.size A4 n c4 A5 n5 c5 A6 n6 c6 (trmT t s) := ⟨HO2_4.out, HO3_4.out, HO4_w4.out, HAP.out⟩
  have hoff := hTX.offBelow hN2
  exact ⟨A4, n, c4, A5, n5, c5, A6, n6, c6, rfl, (((hTX.set hoff _ _).set hoff _ _).set hoff _ _).more HW_0.out.size, ((HW_4.out.setCell (by simp only; omega) _).setCell (by simp only; omega) _).setCell (by simp only; omega) _⟩
end Go.Proofs.YtlfbagkonckffaaGreat.Txn

/- Fields one behind the other: how they are put, how they are got; what holds of a whole follows from what holds of each field. Nothing of the program. -/
namespace Go.Proofs.YtlfbagkonckffaaGreat.Cod
open Oct Rec

structure Codec (α : Type) where
  get : List UInt8 → Int → Except Int (α × Int)
  put : α → List UInt8
  may : α → Prop
  back : ∀ (h : List UInt8) (x : α) (t : List UInt8), may x → get (h ++ (put x ++ t)) (h.length : Int) = .ok (x, (h.length : Int) + ((put x).length : Int))
  sole : ∀ (l : List UInt8) (p : Int) (x : α) (q : Int), 0 ≤ p → p ≤ (l.length : Int) → get l p = .ok (x, q) → may x ∧ p ≤ q ∧ q ≤ (l.length : Int) ∧ put x = (l.drop p.toNat).take (q - p).toNat
  short : ∀ (h : List UInt8) (x : α) (k : Nat), may x → k < (put x).length → get (h ++ (put x).take k) (h.length : Int) = .error 10

theorem seg_none (l : List UInt8) (p : Int) : (l.drop p.toNat).take (p - p).toNat = [] := by simp

def cvar : Codec Int where
  get l p := if (gv l p).2.2 = 0 then .ok ((gv l p).1, (gv l p).2.1) else .error (gv l p).2.2
  put x := vb (zz x)
  may x := -9223372036854775808 ≤ x ∧ x ≤ 9223372036854775807
  back h x t hx := by
    have g := gv_at h t x hx
    rw [List.append_assoc] at g
    rw [g, if_pos rfl]
  sole l p x q hp hl h := by
    by_cases h0 : (gv l p).2.2 = 0
    · rw [if_pos h0] at h
      injection h with h
      have h1 : (gv l p).1 = x := congrArg Prod.fst h
      have h2 : (gv l p).2.1 = q := congrArg Prod.snd h
      have g := gv_good (l := l) (p := p) (x := x) (y := q) (by rw [← h1, ← h2, ← h0])
      obtain ⟨g1, g2, g3, g4, g5, g6, g7⟩ := g
      exact ⟨⟨g6, g7⟩, by omega, g3, g5⟩
    · rw [if_neg h0] at h; cases h
  short h x k hx hk := by
    rw [gv_cut h x k hx hk]
    simp
def ctext (m : Nat) (hm : m ≤ 1099511627776) : Codec ByteArray where
  get l p := if (gx l p (m : Int)).2.2 = 0 then .ok ((gx l p (m : Int)).1, (gx l p (m : Int)).2.1) else .error (gx l p (m : Int)).2.2
  put s := tx s
  may s := s.size ≤ m
  back h x t hx := by
    have g := gx_at h t x (m : Int) (by omega) (by omega)
    have e : h ++ (tx x ++ t) = h ++ vb (zz (x.size : Int)) ++ x.data.toList ++ t := by simp [tx, List.append_assoc]
    rw [e, g, if_pos rfl, tx_length]
    simp only [Int.natCast_add, Int.add_assoc]
  sole l p x q hp hl h := by
    by_cases h0 : (gx l p (m : Int)).2.2 = 0
    · rw [if_pos h0] at h
      injection h with h
      have h1 : (gx l p (m : Int)).1 = x := congrArg Prod.fst h
      have h2 : (gx l p (m : Int)).2.1 = q := congrArg Prod.snd h
      have g := gx_good (l := l) (p := p) (most := (m : Int)) (t := x) (y := q) (by rw [← h1, ← h2, ← h0])
      obtain ⟨g1, g2, g3, g4, g5, g6⟩ := g
      exact ⟨by omega, by omega, g3, g5⟩
    · rw [if_neg h0] at h; cases h
  short h x k hx hk := by
    rw [gx_cut h x (m : Int) k (by omega) (by omega) hk]
    simp
def craw (n : Nat) : Codec (List UInt8) where
  get l p := if (l.length : Int) < p + n then .error 10 else .ok ((l.drop p.toNat).take n, p + n)
  put x := x
  may x := x.length = n
  back h x t hx := by
    rw [if_neg (by rw [List.length_append, List.length_append]; omega), Int.toNat_natCast, List.drop_left, List.take_left' hx, hx]
  sole l p x q hp hl h := by
    by_cases h0 : (l.length : Int) < p + n
    · rw [if_pos h0] at h; cases h
    · rw [if_neg h0] at h
      injection h with h
      have h1 : (l.drop p.toNat).take n = x := congrArg Prod.fst h
      have h2 : p + (n : Int) = q := congrArg Prod.snd h
      subst h1 h2
      refine ⟨by rw [List.length_take, List.length_drop]; omega, by omega, by omega, ?_⟩
      rw [show (p + (n : Int) - p).toNat = n by omega]
  short h x k hx hk := by
    rw [if_pos (by rw [List.length_append, List.length_take]; omega)]
def cseq {α β : Type} (a : Codec α) (b : α → Codec β) : Codec (α × β) where
  get l p := match a.get l p with
    | .error e => .error e
    | .ok x => match (b x.1).get l x.2 with
      | .error e => .error e
      | .ok y => .ok ((x.1, y.1), y.2)
  put z := a.put z.1 ++ (b z.1).put z.2
  may z := a.may z.1 ∧ (b z.1).may z.2
  back h z t hz := by
    have e : h ++ ((a.put z.1 ++ (b z.1).put z.2) ++ t) = h ++ (a.put z.1 ++ ((b z.1).put z.2 ++ t)) := by simp [List.append_assoc]
    have g1 := a.back h z.1 ((b z.1).put z.2 ++ t) hz.1
    have g2 := (b z.1).back (h ++ a.put z.1) z.2 t hz.2
    have e2 : (h ++ a.put z.1) ++ ((b z.1).put z.2 ++ t) = h ++ (a.put z.1 ++ ((b z.1).put z.2 ++ t)) := by simp [List.append_assoc]
    rw [e2, List.length_append, Int.natCast_add] at g2
    rw [e, g1]
    simp only
    rw [g2]
    simp only [List.length_append, Int.natCast_add, Int.add_assoc]
  sole l p z q hp hl h := by
    cases ha : a.get l p with
    | error e => rw [ha] at h; cases h
    | ok x =>
      rw [ha] at h
      simp only at h
      cases hb : (b x.1).get l x.2 with
      | error e => rw [hb] at h; cases h
      | ok y =>
        rw [hb] at h
        simp only at h
        injection h with h
        obtain rfl : (x.1, y.1) = z := congrArg Prod.fst h
        obtain rfl : y.2 = q := congrArg Prod.snd h
        obtain ⟨a1, a2, a3, a4⟩ := a.sole l p x.1 x.2 hp hl ha
        obtain ⟨b1, b2, b3, b4⟩ := (b x.1).sole l x.2 y.1 y.2 (by omega) a3 hb
        refine ⟨⟨a1, b1⟩, by omega, b3, ?_⟩
        simp only
        rw [a4, b4, seg_join l hp a2 b2]
  short h z k hz hk := by
    by_cases hka : k < (a.put z.1).length
    · have e : (a.put z.1 ++ (b z.1).put z.2).take k = (a.put z.1).take k := List.take_append_of_le_length (by omega)
      rw [e, a.short h z.1 k hz.1 hka]
    · have e : (a.put z.1 ++ (b z.1).put z.2).take k = a.put z.1 ++ ((b z.1).put z.2).take (k - (a.put z.1).length) := by
        rw [List.take_append, List.take_of_length_le (by omega)]
      have g1 := a.back h z.1 (((b z.1).put z.2).take (k - (a.put z.1).length)) hz.1
      have g2 := (b z.1).short (h ++ a.put z.1) z.2 (k - (a.put z.1).length) hz.2 (by rw [List.length_append] at hk; omega)
      rw [List.append_assoc, List.length_append, Int.natCast_add] at g2
      rw [e, g1]
      simp only
      rw [g2]
theorem cseq_get {α β : Type} (a : Codec α) (b : α → Codec β) (l : List UInt8) (p : Int) : (cseq a b).get l p = match a.get l p with
    | .error e => .error e
    | .ok x => match (b x.1).get l x.2 with
      | .error e => .error e
      | .ok y => .ok ((x.1, y.1), y.2) := rfl
def cnone {α : Type} (x : α) : Codec α where
  get _ p := .ok (x, p)
  put _ := []
  may y := y = x
  back h y t hy := by subst hy; simp
  sole l p y q hp hl h := by
    injection h with h
    obtain rfl : x = y := congrArg Prod.fst h
    obtain rfl : p = q := congrArg Prod.snd h
    exact ⟨rfl, Int.le_refl _, hl, (seg_none l p).symm⟩
  short h y k hy hk := absurd hk (Nat.not_lt_zero _)
def cmap {α β : Type} (a : Codec α) (f : α → β) (g : β → α) (hgf : ∀ x, a.may x → g (f x) = x) (hfg : ∀ y, a.may (g y) → f (g y) = y) : Codec β where
  get l p := match a.get l p with
    | .error e => .error e
    | .ok x => .ok (f x.1, x.2)
  put y := a.put (g y)
  may y := a.may (g y)
  back h y t hy := by
    rw [a.back h (g y) t hy]
    simp only
    rw [hfg y hy]
  sole l p y q hp hl h := by
    cases ha : a.get l p with
    | error e => rw [ha] at h; cases h
    | ok x =>
      rw [ha] at h
      simp only at h
      injection h with h
      obtain rfl : f x.1 = y := congrArg Prod.fst h
      obtain rfl : x.2 = q := congrArg Prod.snd h
      obtain ⟨a1, a2, a3, a4⟩ := a.sole l p x.1 x.2 hp hl ha
      rw [hgf _ a1]
      exact ⟨a1, a2, a3, a4⟩
  short h y k hy hk := by
    rw [a.short h (g y) k hy hk]
theorem cmap_get {α β : Type} (a : Codec α) (f : α → β) (g : β → α) (h1 : ∀ x, a.may x → g (f x) = x) (h2 : ∀ y, a.may (g y) → f (g y) = y) (l : List UInt8) (p : Int) : (cmap a f g h1 h2).get l p = match a.get l p with
    | .error e => .error e
    | .ok x => .ok (f x.1, x.2) := rfl
def cthat {α : Type} (a : Codec α) (chk : α → Int) : Codec α where
  get l p := match a.get l p with
    | .error e => .error e
    | .ok x => if chk x.1 = 0 then .ok x else .error (chk x.1)
  put := a.put
  may x := a.may x ∧ chk x = 0
  back h x t hx := by
    rw [a.back h x t hx.1]
    simp only
    rw [if_pos hx.2]
  sole l p x q hp hl h := by
    cases ha : a.get l p with
    | error e => rw [ha] at h; cases h
    | ok y =>
      rw [ha] at h
      simp only at h
      by_cases hc : chk y.1 = 0
      · rw [if_pos hc] at h
        injection h with h
        subst h
        obtain ⟨a1, a2⟩ := a.sole l p x q hp hl ha
        exact ⟨⟨a1, hc⟩, a2⟩
      · rw [if_neg hc] at h; cases h
  short h x k hx hk := by
    rw [a.short h x k hx.1 hk]
def getMany {α : Type} (a : Codec α) : Nat → List UInt8 → Int → Except Int (List α × Int)
  | 0, _, p => .ok ([], p)
  | n + 1, l, p => match a.get l p with
    | .error e => .error e
    | .ok x => match getMany a n l x.2 with
      | .error e => .error e
      | .ok y => .ok (x.1 :: y.1, y.2)
def putMany {α : Type} (a : Codec α) (xs : List α) : List UInt8 := xs.flatMap a.put
theorem putMany_cons {α : Type} (a : Codec α) (x : α) (xs : List α) : putMany a (x :: xs) = a.put x ++ putMany a xs := by simp [putMany]
theorem many_back {α : Type} (a : Codec α) : ∀ (xs : List α) (h t : List UInt8), (∀ x ∈ xs, a.may x) → getMany a xs.length (h ++ (putMany a xs ++ t)) (h.length : Int) = .ok (xs, (h.length : Int) + ((putMany a xs).length : Int))
  | [], h, t, _ => by simp [getMany, putMany]
  | x :: xs, h, t, hx => by
    have e : h ++ (putMany a (x :: xs) ++ t) = h ++ (a.put x ++ (putMany a xs ++ t)) := by rw [putMany_cons]; simp [List.append_assoc]
    have g1 := a.back h x (putMany a xs ++ t) (hx x (by simp))
    have g2 := many_back a xs (h ++ a.put x) t fun y hy => hx y (by simp [hy])
    rw [List.append_assoc, List.length_append, Int.natCast_add] at g2
    rw [e, List.length_cons]
    unfold getMany
    rw [g1]
    simp only
    rw [g2]
    simp only [putMany_cons, List.length_append, Int.natCast_add, Int.add_assoc]
theorem many_only {α : Type} (a : Codec α) : ∀ (n : Nat) (l : List UInt8) (p : Int) (xs : List α) (q : Int), 0 ≤ p → p ≤ (l.length : Int) → getMany a n l p = .ok (xs, q) → (xs.length = n ∧ ∀ x ∈ xs, a.may x) ∧ p ≤ q ∧ q ≤ (l.length : Int) ∧ putMany a xs = (l.drop p.toNat).take (q - p).toNat
  | 0, l, p, xs, q, hp, hl, h => by
    unfold getMany at h
    injection h with h
    obtain rfl : [] = xs := congrArg Prod.fst h
    obtain rfl : p = q := congrArg Prod.snd h
    exact ⟨⟨rfl, by simp⟩, Int.le_refl _, hl, (seg_none l p).symm⟩
  | n + 1, l, p, xs, q, hp, hl, h => by
    unfold getMany at h
    cases ha : a.get l p with
    | error e => rw [ha] at h; cases h
    | ok x =>
      rw [ha] at h
      simp only at h
      cases hb : getMany a n l x.2 with
      | error e => rw [hb] at h; cases h
      | ok y =>
        rw [hb] at h
        simp only at h
        injection h with h
        obtain rfl : x.1 :: y.1 = xs := congrArg Prod.fst h
        obtain rfl : y.2 = q := congrArg Prod.snd h
        obtain ⟨a1, a2, a3, a4⟩ := a.sole l p x.1 x.2 hp hl ha
        obtain ⟨⟨b0, b1⟩, b2, b3, b4⟩ := many_only a n l x.2 y.1 y.2 (by omega) a3 hb
        refine ⟨⟨by rw [List.length_cons, b0], fun z hz => ?_⟩, by omega, b3, ?_⟩
        · rcases List.mem_cons.1 hz with rfl | hz
          · exact a1
          · exact b1 z hz
        · rw [putMany_cons, a4, b4, seg_join l hp a2 b2]
theorem many_short {α : Type} (a : Codec α) : ∀ (xs : List α) (h : List UInt8) (k : Nat), (∀ x ∈ xs, a.may x) → k < (putMany a xs).length → getMany a xs.length (h ++ (putMany a xs).take k) (h.length : Int) = .error 10
  | [], h, k, _, hk => by simp [putMany] at hk
  | x :: xs, h, k, hx, hk => by
    rw [putMany_cons] at hk ⊢
    rw [List.length_cons]
    unfold getMany
    by_cases hka : k < (a.put x).length
    · rw [List.take_append_of_le_length (by omega), a.short h x k (hx x (by simp)) hka]
    · have g1 := a.back h x ((putMany a xs).take (k - (a.put x).length)) (hx x (by simp))
      have g2 := many_short a xs (h ++ a.put x) (k - (a.put x).length) (fun y hy => hx y (by simp [hy])) (by rw [List.length_append] at hk; omega)
      rw [List.append_assoc, List.length_append, Int.natCast_add] at g2
      rw [List.take_append, List.take_of_length_le (by omega), g1]
      simp only
      rw [g2]
def cmany {α : Type} (a : Codec α) (n : Nat) : Codec (List α) where
  get := getMany a n
  put := putMany a
  may xs := xs.length = n ∧ ∀ x ∈ xs, a.may x
  back h xs t hx := by rw [← hx.1]; exact many_back a xs h t hx.2
  sole := many_only a n
  short h xs k hx hk := by rw [← hx.1]; exact many_short a xs h k hx.2 hk

def ccount {α : Type} (a : Codec α) (chk : Int → Int) (hchk : ∀ n, chk n = 0 → 0 ≤ n) : Codec (List α) :=
  cmap (cseq (cthat cvar chk) fun n => cmany a n.toNat) (fun z => z.2) (fun xs => ((xs.length : Int), xs))
    (fun z hz => by
      obtain ⟨n, xs⟩ := z
      obtain ⟨⟨_, h2⟩, h3, _⟩ := hz
      have h4 : xs.length = n.toNat := h3
      have h5 := hchk n h2
      show ((xs.length : Int), xs) = (n, xs)
      rw [h4, Int.toNat_of_nonneg h5])
    (fun _ _ => rfl)
def cblob (chk : Int → Int) (hchk : ∀ n, chk n = 0 → 0 ≤ n) : Codec (List UInt8) :=
  cmap (cseq (cthat cvar chk) fun n => craw n.toNat) (fun z => z.2) (fun xs => ((xs.length : Int), xs))
    (fun z hz => by
      obtain ⟨n, xs⟩ := z
      obtain ⟨⟨_, h2⟩, h3⟩ := hz
      have h4 : xs.length = n.toNat := h3
      have h5 := hchk n h2
      show ((xs.length : Int), xs) = (n, xs)
      rw [h4, Int.toNat_of_nonneg h5])
    (fun _ _ => rfl)
def whole {α : Type} (a : Codec α) (chk : α → Int) (l : List UInt8) : Except Int α :=
  match a.get l 0 with
  | .error e => .error e
  | .ok x => if x.2 ≠ (l.length : Int) then .error 11 else if chk x.1 ≠ 0 then .error 1 else .ok x.1
section
variable {α : Type} {a : Codec α} {chk : α → Int} {x : α} {l : List UInt8}
end
end Go.Proofs.YtlfbagkonckffaaGreat.Cod
