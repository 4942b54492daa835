/- Of any log that may be, and any byte of it that is another one: what is recovered is its beginning, at least one byte is lost, and none the next time; no condition.
-/
import Derived.Test.YtejcjmiofidedaaGreatDoorChnLv
import Derived.Test.YtejcjmiofidedaaGreatDoorJChnN
import Derived.Test.YtejcjmiofidedaaGreatDoorChnBits
import Derived.Test.YtejcjmiofidedaaGreatDoorJCrc
import Derived.Test.YtejcjmiofidedaaGreatDoorJOct
import Derived.Test.YtejcjmiofidedaaGreatDoorRows
import Derived.WalkKit
import Derived.ProofKit
import Derived.OpenShut
import Derived.ChangeOld
import Derived.Below
import Derived.Carry
import Derived.Test.YtejcjmiofidedaaGreatDoorJChnW
import Derived.Test.YtejcjmiofidedaaGreatDoorJOpen
import Derived.Test.YtejcjmiofidedaaGreatDoorTie
import Derived.Test.YtejcjmiofidedaaGreatDoorCards
import Derived.SevenTiedAt
/- The walk of ChainSpoilt. -/
namespace Go.Proofs.YtejcjmiofidedaaGreatDoor.Chn
open Go.RowKit Oct Rec Crc Bat Lay Seg RowF InR

theorem xor_u8 (a b : UInt8) : bits .xor .u8 (a.toNat : Int) (b.toNat : Int) = ((a ^^^ b).toNat : Int) := by
  have ha := a.toNat_lt
  have hb := b.toNat_lt
  rw [u8_xor_nat _ _ (by omega) (by omega), UInt8.toNat_xor]
theorem xor_ne {a b : UInt8} (h : b ≠ 0) : a ≠ a ^^^ b := fun h9 => h (by have h8 := congrArg (fun x => a ^^^ x) h9; simpa [← UInt8.xor_assoc] using h8.symm)
theorem bform {w : World} {e : TypeId} {base : Nat} {A : Option Addr} {n c : Nat} {l : List UInt8} (h : OwnB w e base (.slice A n c) n l) (hn : 0 < n) : ∃ g, A = some ⟨g, 0, none⟩ ∧ base ≤ g := by
  obtain ⟨g, cap, hv, hb, _⟩ := World.ownsRow.form h hn
  injection hv with h1
  exact ⟨g, h1, hb⟩
theorem bput {w : World} {e : TypeId} {base g n c j : Nat} {l : List UInt8} (h : OwnB w e base (.slice (some ⟨g, 0, none⟩) n c) n l) (hg : base ≤ g) (d : UInt8) :
    OwnB (w.setCell ⟨g, j, none⟩ (.int .u8 (d.toNat : Int))) e base (.slice (some ⟨g, 0, none⟩) n c) n (l.set j d) ∧ Below base w (w.setCell ⟨g, j, none⟩ (.int .u8 (d.toNat : Int))) := by
  refine ⟨?_, (Below.refl base w).setCell hg _⟩
  have h1 := (World.ownsRow.stored h j (.int .u8 (d.toNat : Int))).1
  unfold OwnB
  rw [List.map_set]
  exact h1
theorem bcell {w : World} {e : TypeId} {base g n c j : Nat} {l : List UInt8} {d : UInt8} (h : OwnB w e base (.slice (some ⟨g, 0, none⟩) n c) n l) (hd : l[j]? = some d) :
    w.cell? ⟨g, j, none⟩ = some (.int .u8 (d.toNat : Int)) ∧ w.frozen? ⟨g, j, none⟩ = false := by
  have hl := h.len
  have hj := (List.getElem?_eq_some_iff.1 hd).1
  refine ⟨?_, World.ownsRow.frozenAt h j⟩
  rw [World.ownsRow.cellAt h j (by omega), List.getElem?_map, hd]
  rfl
theorem copyB_run {B0 n c : Nat} {A : Option Addr} {l : List UInt8} (w : World) (hr : Rd w B0 A n l) (hB : B0 ≤ w.heap.size) (hn : n ≤ 1000000) :
    ∃ A7 c7 w7, (Builtin.append_ #[57, 57] 57 #[.slice (some ⟨w.heap.size, 0, none⟩) 0 0, .slice A n c]).run Tryz.prog (w.alloc (.cells #[] 5)) = .ok (.slice A7 n c7) w7 ∧ OwnB w7 5 w.heap.size (.slice A7 n c7) n l ∧ Below w.heap.size w w7 := by
  have hbel := belA w (.cells #[] 5)
  have h0 : OwnB (w.alloc (.cells #[] 5)) 5 w.heap.size (.slice (some ⟨w.heap.size, 0, none⟩) 0 0) 0 [] := World.ownsRow_lit w _ 0 (Nat.le_refl _) (by unfold maxLen; omega) (by simp)
  obtain ⟨A7, c7, w7, k1, k2, k3, k4⟩ := run_appBG (P := Tryz.prog) (w.alloc (.cells #[] 5)) w.heap.size 57 57 5 Tryz.underlying57 u8row _ 0 [] h0 _ A n c l (hr.below hbel hB) (by omega) hbel.size
  rw [Nat.zero_add] at k1 k2 k4
  exact ⟨A7, c7, w7, k1, k2, hbel.trans (below_of_grown _ h0 k3 hbel.size)⟩
theorem OwnB.rdOff {w : World} {e : TypeId} {B n c : Nat} {A : Option Addr} {l : List UInt8} (h : OwnB w e B (.slice A n c) n l) {p : Addr} (hv : (Value.slice A n c).ownBlock ≠ some p.block) (u : Value) : OwnB (w.setCell p u) e B (.slice A n c) n l := World.ownsRow.kept h (grownBy_set w p u) (.inr hv)
theorem rdLow {w : World} {e : TypeId} {B B' n c : Nat} {A : Option Addr} {l : List UInt8} (h : OwnB w e B (.slice A n c) n l) (hB : ∀ g, (Value.slice A n c).ownBlock = some g → g < B') : Rd w B' A n l :=
  ⟨h.rd.1, fun k x hx => by
    obtain ⟨b, o, hA, hb, hc⟩ := h.rd.2 k x hx
    exact ⟨b, o, hA, hB b (by rw [hA]; rfl), hc⟩⟩
def tb_ChainSpoilt12 : List (Nat × Nat) := [(0, 8191), (1, 8190), (0, 8191), (0, 8191), (8, 8183), (0, 8191), (48, 8143), (64, 8127), (128, 8063), (0, 8191), (768, 7423), (2047, 8185), (4095, 5119)]
set_option maxRecDepth 100000 in
set_option maxHeartbeats 16000000 in
theorem chainSpoilt_walk (lim start : Int) (A : Option Addr) (n c : Nat) (l : List Sg) (j at_ : Int) (by_ : UInt8) (w : World) (_hi : I64 lim) (_hs : I64 start) (hc : n ≤ c) (hk : c ≤ reach) (hR : RdL w w.heap.size A n l) (_hj : I64 j) (_hat : I64 at_) (ht : Tab w) :
    Calls Tryz.prog 10 #[.agg #[.int .i64 lim, .int .i64 start, .slice A n c], .int .i64 j, .int .i64 at_, .int .u8 (by_.toNat : Int)] w fun e w' => e = .returned (.bool true) ∧ Below w.heap.size w w' := by
  have hba := belA w (.cells #[.int .i64 lim, .int .i64 start, .slice A n c] 24)
  have HT_0 := Lib.hid (ht.bel hba)
  have HT0 := Lib.hid ht
  have HW_0 := Lib.hid hba
  have HL_0 := Lib.hid (At0.new w [.int .i64 lim, .int .i64 start, .slice A n c] 24)
  have HV_0 := Lib.hid (rdvUp hR hba)
  have hnr := Nat.le_trans hc hk
  have HF0 := Lib.hid (show ((([] : List Bt).all fewT && decide ((([] : List Bt).length : Int) ≤ 40))) = true by decide)
  have hmx : Tryz.prog.follows .mixedOrders = true := by kernel_rfl
  obtain ⟨BY, hBY⟩ : ∃ z : Nat, by_.toNat = z := ⟨_, rfl⟩
  rw [hBY]
  rcases hfg : fewG l with _ | _
  · have HFG := Lib.hid hfg
    clear hR ht hba hfg
    go_enter Tryz.func10, Tryz.ntmps10
    go_wp2_with (first
      | (go_at_call 12; (with_reducible refine (live9_any _ HT_0.out).mono ?_); rintro e w1 ⟨rfl, hb⟩; have HW_1 := Lib.hid (bel_trans HW_0.out hb); have HT_1 := Lib.hid (HT_0.out.bel hb); have HL_1 := Lib.hid (HL_0.out.below hb); have HV_1 := Lib.hid (rdvUp HV_0.out hb); obtain ⟨hl1_0, hl1_1, hl1_2⟩ := cel3 HL_1.out; clear hb)
      | (go_at_call 13; (with_reducible refine (few9_is lim start A n c l none 0 0 [] _ HV_1.out hnr RdL.nil (Nat.zero_le _) HFG.out HF0.out (Bool.and_true false)).mono ?_); rintro e w2 ⟨rfl, hb⟩; have HW_2 := Lib.hid (bel_trans HW_1.out hb); have HT_2 := Lib.hid (HT_1.out.bel hb); have HL_2 := Lib.hid (HL_1.out.below hb); have HV_2 := Lib.hid (rdvUp HV_1.out hb); clear hb))
    go_ret
    exact ⟨rfl, HW_2.out⟩
  have HFG := Lib.hid hfg
  obtain ⟨hrg, hn12⟩ := rdG_of hR hfg
  have HR_0 := Lib.hid (rdgUp hrg hba)
  obtain ⟨C, hC⟩ : ∃ C, ckL ⟨lim, start, l⟩ = C := ⟨_, rfl⟩
  have HC := Lib.hid hC
  by_cases hC0 : C = 0
  case neg =>
    have hcn := bne_iff_ne.2 hC0
    clear hR ht hba hfg hrg hC hC0
    go_enter Tryz.func10, Tryz.ntmps10
    go_wp2_with (first
      | (go_at_call 12; (with_reducible refine (live9_any _ HT_0.out).mono ?_); rintro e w1 ⟨rfl, hb⟩; have HW_1 := Lib.hid (bel_trans HW_0.out hb); have HT_1 := Lib.hid (HT_0.out.bel hb); have HL_1 := Lib.hid (HL_0.out.below hb); have HV_1 := Lib.hid (rdvUp HV_0.out hb); have HR_1 := Lib.hid (rdgUp HR_0.out hb); obtain ⟨hl1_0, hl1_1, hl1_2⟩ := cel3 HL_1.out; clear hb)
      | (go_at_call 13; (with_reducible refine (few9_is lim start A n c l none 0 0 [] _ HV_1.out hnr RdL.nil (Nat.zero_le _) HFG.out HF0.out (Bool.and_true true)).mono ?_); rintro e w2 ⟨rfl, hb⟩; have HW_2 := Lib.hid (bel_trans HW_1.out hb); have HT_2 := Lib.hid (HT_1.out.bel hb); have HL_2 := Lib.hid (HL_1.out.below hb); have HV_2 := Lib.hid (rdvUp HV_1.out hb); have HR_2 := Lib.hid (rdgUp HR_1.out hb); obtain ⟨hl2_0, hl2_1, hl2_2⟩ := cel3 HL_2.out; clear hb)
      | (go_at_call 16; (with_reducible refine (Check_is lim start A n c l _ HR_2.out HT_2.out (by omega) HC.out).mono ?_); rintro e w3 ⟨rfl, hb⟩; have HW_3 := Lib.hid (bel_trans HW_2.out hb); have HT_3 := Lib.hid (HT_2.out.bel hb); have HL_3 := Lib.hid (HL_2.out.below hb); have HV_3 := Lib.hid (rdvUp HV_2.out hb); have HR_3 := Lib.hid (rdgUp HR_2.out hb); clear hb))
    go_ret
    exact ⟨rfl, HW_3.out⟩
  subst hC0
  have hlen := hrg.len
  have hne : l ≠ [] := (ckL_iff.1 hC).1.2.2
  have hn1 : 0 < n := by rw [← hlen]; exact List.length_pos_iff.2 hne
  have hnn : ((n : Int) == 0) = false := beqF (by omega)
  by_cases hby : BY = 0
  · have hbq : ((BY : Int) == 0) = true := beqT (by omega)
    clear hR ht hba hfg hrg hC hne hlen hby hBY
    go_enter Tryz.func10, Tryz.ntmps10
    go_wp2_with (first
      | (go_at_call 12; (with_reducible refine (live9_any _ HT_0.out).mono ?_); rintro e w1 ⟨rfl, hb⟩; have HW_1 := Lib.hid (bel_trans HW_0.out hb); have HT_1 := Lib.hid (HT_0.out.bel hb); have HL_1 := Lib.hid (HL_0.out.below hb); have HV_1 := Lib.hid (rdvUp HV_0.out hb); have HR_1 := Lib.hid (rdgUp HR_0.out hb); obtain ⟨hl1_0, hl1_1, hl1_2⟩ := cel3 HL_1.out; clear hb)
      | (go_at_call 13; (with_reducible refine (few9_is lim start A n c l none 0 0 [] _ HV_1.out hnr RdL.nil (Nat.zero_le _) HFG.out HF0.out (Bool.and_true true)).mono ?_); rintro e w2 ⟨rfl, hb⟩; have HW_2 := Lib.hid (bel_trans HW_1.out hb); have HT_2 := Lib.hid (HT_1.out.bel hb); have HL_2 := Lib.hid (HL_1.out.below hb); have HV_2 := Lib.hid (rdvUp HV_1.out hb); have HR_2 := Lib.hid (rdgUp HR_1.out hb); obtain ⟨hl2_0, hl2_1, hl2_2⟩ := cel3 HL_2.out; clear hb)
      | (go_at_call 16; (with_reducible refine (Check_is lim start A n c l _ HR_2.out HT_2.out (by omega) HC.out).mono ?_); rintro e w3 ⟨rfl, hb⟩; have HW_3 := Lib.hid (bel_trans HW_2.out hb); have HT_3 := Lib.hid (HT_2.out.bel hb); have HL_3 := Lib.hid (HL_2.out.below hb); have HV_3 := Lib.hid (rdvUp HV_2.out hb); have HR_3 := Lib.hid (rdgUp HR_2.out hb); obtain ⟨hl3_0, hl3_1, hl3_2⟩ := cel3 HL_3.out; clear hb))
    go_ret
    exact ⟨rfl, HW_3.out⟩
  have hbq : ((BY : Int) == 0) = false := beqF (by omega)
  obtain ⟨R, hR65, hRb⟩ := i64_and j 65535 (by decide)
  have hRb' : bits .and .i64 j 65535 = (R : Int) := hRb
  obtain ⟨q, hq⟩ : ∃ z, R % n = z := ⟨_, rfl⟩
  have hqn : q < n := by rw [← hq]; exact Nat.mod_lt R hn1
  have hqq : (R : Int) % (n : Int) = (q : Int) := by rw [← hq]; exact (Int.natCast_emod _ _).symm
  obtain ⟨b, o, ⟨sb, ss⟩, A5, n5, c5, hA, hbl, hxk, hc5, hn5, hrd, hIs, e0, e1⟩ := hrg.at (k := q) hqn
  subst hA
  simp only at e0 e1 hrd hIs
  have hn5' : n5 ≤ 1000000 := hn5
  have HS_0 := Lib.hid ((AtO.two hbl e0 e1).below hba)
  have HS0 := Lib.hid (AtO.two hbl e0 e1)
  have hz1 : (1 : Int) ≤ (n : Int) := by omega
  have hz2 : (0 : Int) ≤ (R : Int) := by omega
  have hz3 : (0 : Int) ≤ (q : Int) := by omega
  have hz4 : (q : Int) < (n : Int) := by omega
  by_cases h50 : n5 = 0
  · subst h50
    clear hR ht hba hfg hrg hC hne hlen hby hBY hRb hq hxk hrd e0 e1
    go_enter Tryz.func10, Tryz.ntmps10
    go_wp2_with (first
      | (go_at_call 12; (with_reducible refine (live9_any _ HT_0.out).mono ?_); rintro e w1 ⟨rfl, hb⟩; have HW_1 := Lib.hid (bel_trans HW_0.out hb); have HT_1 := Lib.hid (HT_0.out.bel hb); have HL_1 := Lib.hid (HL_0.out.below hb); have HV_1 := Lib.hid (rdvUp HV_0.out hb); have HR_1 := Lib.hid (rdgUp HR_0.out hb); have HS_1 := Lib.hid (HS_0.out.below hb); obtain ⟨hl1_0, hl1_1, hl1_2⟩ := cel3 HL_1.out; clear hb)
      | (go_at_call 13; (with_reducible refine (few9_is lim start (some ⟨b, o, none⟩) n c l none 0 0 [] _ HV_1.out hnr RdL.nil (Nat.zero_le _) HFG.out HF0.out (Bool.and_true true)).mono ?_); rintro e w2 ⟨rfl, hb⟩; have HW_2 := Lib.hid (bel_trans HW_1.out hb); have HT_2 := Lib.hid (HT_1.out.bel hb); have HL_2 := Lib.hid (HL_1.out.below hb); have HV_2 := Lib.hid (rdvUp HV_1.out hb); have HR_2 := Lib.hid (rdgUp HR_1.out hb); have HS_2 := Lib.hid (HS_1.out.below hb); obtain ⟨hl2_0, hl2_1, hl2_2⟩ := cel3 HL_2.out; clear hb)
      | (go_at_call 16; (with_reducible refine (Check_is lim start (some ⟨b, o, none⟩) n c l _ HR_2.out HT_2.out (by omega) HC.out).mono ?_); rintro e w3 ⟨rfl, hb⟩; have HW_3 := Lib.hid (bel_trans HW_2.out hb); have HT_3 := Lib.hid (HT_2.out.bel hb); have HL_3 := Lib.hid (HL_2.out.below hb); have HV_3 := Lib.hid (rdvUp HV_2.out hb); have HR_3 := Lib.hid (rdgUp HR_2.out hb); have HS_3 := Lib.hid (HS_2.out.below hb); obtain ⟨hl3_0, hl3_1, hl3_2⟩ := cel3 HL_3.out; obtain ⟨hs3_0, hs3_1⟩ := del2 HS_3.out; clear hb))
    go_ret
    exact ⟨rfl, HW_3.out⟩
  have h5p : 0 < n5 := by omega
  have h5z : ((n5 : Int) == 0) = false := beqF (by omega)
  obtain ⟨R2, hR265, hR2b⟩ := i64_and at_ 65535 (by decide)
  have hR2b' : bits .and .i64 at_ 65535 = (R2 : Int) := hR2b
  obtain ⟨i, hi⟩ : ∃ z, R2 % n5 = z := ⟨_, rfl⟩
  have hin : i < n5 := by rw [← hi]; exact Nat.mod_lt R2 h5p
  have hii : (R2 : Int) % (n5 : Int) = (i : Int) := by rw [← hi]; exact (Int.natCast_emod _ _).symm
  have hsl := hrd.len
  obtain ⟨d, hd⟩ : ∃ d, ss[i]? = some d := ⟨_, List.getElem?_eq_getElem (by omega)⟩
  obtain ⟨e9, he9⟩ : ∃ e, d ^^^ by_ = e := ⟨_, rfl⟩
  have hde : d ≠ e9 := by rw [← he9]; exact xor_ne (fun h9 => hby (by rw [← hBY, h9]; rfl))
  have hxor : bits .xor .u8 (d.toNat : Int) (BY : Int) = (e9.toNat : Int) := by rw [← hBY, ← he9]; exact xor_u8 d by_
  have hsp : l = l.take q ++ (⟨sb, ss⟩ : Sg) :: l.drop (q + 1) := split_at hxk
  have hset : l.set q ⟨sb, ss.set i e9⟩ = l.take q ++ (⟨sb, ss.set i e9⟩ : Sg) :: l.drop (q + 1) := by
    conv => lhs; rw [hsp]
    have h9 : (l.take q).length = q := by rw [List.length_take]; omega
    rw [List.set_append_right _ _ (by omega), h9, Nat.sub_self]
    rfl
  have hch := (ckL_iff.1 hC).2.1
  rw [show (⟨lim, start, l⟩ : Lg).segs = l from rfl, hsp] at hch
  have hch2 := chS_cons.1 (chS_app.1 hch).2
  obtain ⟨⟨kb, hkb⟩, hwf⟩ := spoilt_bat (t := ⟨sb, ss⟩) hch2.1 hd hde
  have hlim : (((⟨sb, ss.set i e9⟩ : Sg).bytes.length : Nat) : Int) ≤ lim := by
    have h2 := hch2.2.1
    simp only at h2 ⊢
    rw [List.length_set]
    exact h2
  have hbg := begins_all hC (show (⟨lim, start, l⟩ : Lg).segs = l.take q ++ (⟨sb, ss⟩ : Sg) :: l.drop (q + 1) from hsp) (t' := ⟨sb, ss.set i e9⟩) rfl hlim hkb (.inl hwf)
  have hpos : 0 < (fixS ⟨sb, ss.set i e9⟩).2 + bytesL (l.drop (q + 1)) := by
    have h1 := (fix_good (s := ⟨sb, ss.set i e9⟩) (wholeS_iff.1 hch2.1).1).2.2.2.2 hwf
    have h2 : 0 ≤ bytesL (l.drop (q + 1)) := by unfold bytesL; omega
    omega
  simp only at hbg
  rw [← hset] at hbg
  obtain ⟨Y, hY⟩ : ∃ Y, Y = l.take q ++ [(fixS ⟨sb, ss.set i e9⟩).1] := ⟨_, rfl⟩
  obtain ⟨lost, hlo⟩ : ∃ z, z = (fixS ⟨sb, ss.set i e9⟩).2 + bytesL (l.drop (q + 1)) := ⟨_, rfl⟩
  rw [← hY] at hbg
  rw [← hlo] at hbg hpos
  obtain ⟨g1, g2, g3, g4, g5⟩ := hbg
  have HG1 := Lib.hid g1
  have HG2 := Lib.hid g2
  have HG3 := Lib.hid g3
  have HG4 := Lib.hid g4
  have HG5 := Lib.hid g5
  have HRG := Lib.hid hrg
  have HLEN := Lib.hid hlen
  have HRD0 := Lib.hid hrd
  have HD := Lib.hid hd
  have hz5 : (1 : Int) ≤ (n5 : Int) := by omega
  have hz6 : (0 : Int) ≤ (R2 : Int) := by omega
  have hz7 : (0 : Int) ≤ (i : Int) := by omega
  have hz8 : (i : Int) < (n5 : Int) := by omega
  have hd255 : d.toNat ≤ 255 := by have := d.toNat_lt; omega
  clear hR ht hba hfg hrg hC hRb hR2b hq hi hsp hset hkb hlim hlen hne g1 g2 g3 g4 g5 hY hlo hxk hrd e0 e1 hch hch2 hwf hd hde he9 hby hBY hsl
  go_enter Tryz.func10, Tryz.ntmps10
  go_upto_region 7 with (first
    | (go_at_call 12; (with_reducible refine (live9_any _ HT_0.out).mono ?_); rintro e w1 ⟨rfl, hb⟩; have HW_1 := Lib.hid (bel_trans HW_0.out hb); have HT_1 := Lib.hid (HT_0.out.bel hb); have HL_1 := Lib.hid (HL_0.out.below hb); have HV_1 := Lib.hid (rdvUp HV_0.out hb); have HR_1 := Lib.hid (rdgUp HR_0.out hb); have HS_1 := Lib.hid (HS_0.out.below hb); obtain ⟨hl1_0, hl1_1, hl1_2⟩ := cel3 HL_1.out; clear hb)
    | (go_at_call 13; (with_reducible refine (few9_is lim start (some ⟨b, o, none⟩) n c l none 0 0 [] _ HV_1.out hnr RdL.nil (Nat.zero_le _) HFG.out HF0.out (Bool.and_true true)).mono ?_); rintro e w2 ⟨rfl, hb⟩; have HW_2 := Lib.hid (bel_trans HW_1.out hb); have HT_2 := Lib.hid (HT_1.out.bel hb); have HL_2 := Lib.hid (HL_1.out.below hb); have HV_2 := Lib.hid (rdvUp HV_1.out hb); have HR_2 := Lib.hid (rdgUp HR_1.out hb); have HS_2 := Lib.hid (HS_1.out.below hb); obtain ⟨hl2_0, hl2_1, hl2_2⟩ := cel3 HL_2.out; clear hb)
    | (go_at_call 16; (with_reducible refine (Check_is lim start (some ⟨b, o, none⟩) n c l _ HR_2.out HT_2.out (by omega) HC.out).mono ?_); rintro e w3 ⟨rfl, hb⟩; have HW_3 := Lib.hid (bel_trans HW_2.out hb); have HT_3 := Lib.hid (HT_2.out.bel hb); have HL_3 := Lib.hid (HL_2.out.below hb); have HV_3 := Lib.hid (rdvUp HV_2.out hb); have HR_3 := Lib.hid (rdgUp HR_2.out hb); have HS_3 := Lib.hid (HS_2.out.below hb); obtain ⟨hl3_0, hl3_1, hl3_2⟩ := cel3 HL_3.out; obtain ⟨hs3_0, hs3_1⟩ := del2 HS_3.out; clear hb))
  obtain ⟨A6, c6, w6, hrun, ho6, hb⟩ := copyB_run (B0 := w.heap.size) w3 (HRD0.out.below HW_3.out (Nat.le_refl _)) (HW_3.out.size) (by omega)
  have hlL := HL_3.out.lt
  have hlS := HS_3.out.1
  have HW_6 := Lib.hid (bel_trans HW_3.out hb)
  have HL_6 := Lib.hid (HL_3.out.below hb)
  have HS_6 := Lib.hid (HS_3.out.below hb)
  have HB6 := Lib.hid ho6
  obtain ⟨g6, rfl, hg6⟩ := bform ho6 h5p
  obtain ⟨hcell6, hfz6⟩ := bcell HB6.out HD.out
  obtain ⟨hst6, hbe6⟩ := bput (j := i) HB6.out hg6 e9
  have HBS := Lib.hid hst6
  have HBE := Lib.hid hbe6
  have HG6 := Lib.hid hg6
  have HSZ6 := Lib.hid hb.size
  clear hb ho6 hst6 hbe6 hg6
  go_upto_region 10 with (at_builtin; refine wpList_app_run rfl _ _ 57 rfl rfl rfl hrun ?_)
  have hgL : g6 ≠ w.heap.size := by have h8 := HG6.out; omega
  have HL_a := Lib.hid (HL_6.out.set (p := ⟨g6, i, none⟩) hgL (.int .u8 (e9.toNat : Int)))
  have HW_a := Lib.hid (HW_6.out.trans (HBE.out.mono (by omega)))
  clear hrun hcell6 hfz6 hgL hlS hl3_0 hl3_1 hl3_2 hs3_0 hs3_1
  have hszA : w3.heap.size ≤ (w6.setCell ⟨g6, i, none⟩ (.int .u8 (e9.toNat : Int))).heap.size := by simpa using HSZ6.out
  generalize (w6.setCell ⟨g6, i, none⟩ (.int .u8 (e9.toNat : Int))) = WA at *
  have hba := belA WA (.cells #[.int .i64 lim, .int .i64 start, .slice (some ⟨b, o, none⟩) n c] 24)
  obtain ⟨hla_0, hla_1, hla_2⟩ := cel3 HL_a.out
  have HW_7 := Lib.hid (bel_trans HW_a.out hba)
  have HL_7 := Lib.hid (HL_a.out.below hba)
  have HBY_7 := Lib.hid (HBS.out.below hba)
  have HX_7 := Lib.hid (At0.new WA [.int .i64 lim, .int .i64 start, .slice (some ⟨b, o, none⟩) n c] 24)
  have HXG := Lib.hid (show w.heap.size < WA.heap.size from HL_a.out.lt)
  have HOX := Lib.hid (show ∀ g, (Value.slice (some ⟨g6, 0, none⟩) n5 c6).ownBlock = some g → g < WA.heap.size from fun g h9 => (World.ownsRow.lt HBS.out g h9).2)
  clear hba
  go_upto_region 11 with fail
  clear hla_0 hla_1 hla_2
  generalize (WA.alloc (.cells #[.int .i64 lim, .int .i64 start, .slice (some ⟨b, o, none⟩) n c] 24)) = W7 at *
  obtain ⟨A7, c7, w7, hrun, ho7, hb⟩ := copy_run (B0 := w.heap.size) W7 (HRG.out.below HW_7.out (Nat.le_refl _)) (HW_7.out.size) (by omega)
  have hlL2 := HL_7.out.lt
  have hlX := HX_7.out.lt
  obtain ⟨hl7_0, hl7_1, hl7_2⟩ := cel3 HL_7.out
  have HW_8 := Lib.hid (bel_trans HW_7.out hb)
  have HL_8 := Lib.hid (HL_7.out.below hb)
  have HBY_8 := Lib.hid (HBY_7.out.below hb)
  have HX_8 := Lib.hid (HX_7.out.below hb)
  obtain ⟨hx8_0, hx8_1, hx8_2⟩ := cel3 HX_8.out
  obtain ⟨fhx8_0, fhx8_1, fhx8_2⟩ := frz3 HX_8.out
  have HO8 := Lib.hid ho7
  have HSZ8 := Lib.hid hb.size
  clear hb ho7
  go_wp2_with (at_builtin; refine wpList_app_run rfl _ _ 22 rfl rfl rfl hrun ?_)
  clear hrun hx8_0 hx8_1 hx8_2 fhx8_0 fhx8_1 fhx8_2
  have HL_9 := Lib.hid (HL_8.out.set (p := ⟨WA.heap.size, 2, none⟩) (by have h9 := HXG.out; simp only; omega) (.slice A7 n c7))
  have HX_9 := Lib.hid (at0_put HX_8.out 2 (.slice A7 n c7))
  have HW_9 := Lib.hid (HW_8.out.setCell (p := ⟨WA.heap.size, 2, none⟩) (by have h9 := HXG.out; simp only; omega) (.slice A7 n c7))
  have HO_9 := Lib.hid (HO8.out.off (p := ⟨WA.heap.size, 2, none⟩) (fun h9 => by have h8 := (HO8.out.lt _ h9).1; simp only at h8; omega) (fun b (h9 : b < w.heap.size) => by have h8 := HXG.out; simp only; omega) (.slice A7 n c7))
  have HY_9 := Lib.hid (OwnB.rdOff HBY_8.out (p := ⟨WA.heap.size, 2, none⟩) (fun h9 => by have h8 := HOX.out _ h9; simp only at h8; omega) (.slice A7 n c7))
  have hcY := OwnB.cap HBS.out
  have hsz9 : W7.heap.size ≤ (w7.setCell ⟨WA.heap.size, 2, none⟩ (.slice A7 n c7)).heap.size := by simpa using HSZ8.out
  clear hlL hlL2 hlX
  simp only [List.set_cons_succ, List.set_cons_zero] at HX_9
  generalize (w7.setCell ⟨WA.heap.size, 2, none⟩ (.slice A7 n c7)) = W8 at *
  have HOQ := Lib.hid (OwnG.more (P' := fun b => b < W7.heap.size) HO_9.out (Nat.le_refl _) (fun b (h9 : b < w.heap.size) => (by have h8 := HXG.out; have h7 := HX_7.out.lt; omega : b < W7.heap.size)))
  have HYL9 := Lib.hid (show (ss.set i e9).length = n5 from OwnB.len HBS.out)
  have HLD := Lib.hid (leadG_of (s := (⟨sb, ss.set i e9⟩ : Sg)) (n1 := n5) (c1 := c6) (row := (Value.slice A7 n c7).ownBlock) (B' := W7.heap.size) (rdLow HY_9.out (fun g h9 => Nat.lt_of_lt_of_le (HOX.out g h9) (Nat.le_of_lt HX_7.out.lt))) hsz9 hcY (by unfold gMax; omega) hIs (fun g h9 => (HO_9.out.lt g h9).1))
  obtain ⟨g, u9, v9, rfl, hg1, hg2, r0, r1, f9, ho2, hb2⟩ := OwnG.putP (k := q) HOQ.out hqn HLD.out
  have f0 := f9 (q * 2)
  have f1 := f9 (q * 2 + 1)
  have HS_9 := Lib.hid (HS0.out.below HW_9.out)
  have HOP := Lib.hid ho2
  have HBP := Lib.hid hb2
  clear ho2 hb2 f9
  have hbd := (Below.refl W8.heap.size W8).drew
  have HW_R12 := Lib.hid (bel_trans HW_9.out hbd)
  have HX_R12 := Lib.hid (HX_9.out.below hbd)
  have HL_R12 := Lib.hid (HL_9.out.below hbd)
  have HS_R12 := Lib.hid (HS_9.out.below hbd)
  have HSR12 := Lib.hid (show (fun W9 : World => W9.cell? ⟨WA.heap.size, 0, none⟩ = some (.int .i64 lim) ∧ W9.cell? ⟨WA.heap.size, 1, none⟩ = some (.int .i64 start) ∧ W9.cell? ⟨WA.heap.size, 2, none⟩ = some (.slice (some ⟨g, 0, none⟩) n c7) ∧ W9.cell? ⟨w.heap.size, 0, none⟩ = some (.int .i64 lim) ∧ W9.cell? ⟨w.heap.size, 1, none⟩ = some (.int .i64 start) ∧ W9.cell? ⟨w.heap.size, 2, none⟩ = some (.slice (some ⟨b, o, none⟩) n c) ∧ W9.cell? ⟨b, o + q * 2, none⟩ = some (.int .i64 sb) ∧ W9.cell? ⟨b, o + q * 2 + 1, none⟩ = some (.slice A5 n5 c5)) W8.drew from ⟨HX_R12.out.cell 0, HX_R12.out.cell 1, HX_R12.out.cell 2, HL_R12.out.cell 0, HL_R12.out.cell 1, HL_R12.out.cell 2, HS_R12.out.2 0 _ rfl, HS_R12.out.2 1 _ rfl⟩)
  clear hbd
  refine region_let (fun W9 : World => W9.cell? ⟨WA.heap.size, 0, none⟩ = some (.int .i64 lim) ∧ W9.cell? ⟨WA.heap.size, 1, none⟩ = some (.int .i64 start) ∧ W9.cell? ⟨WA.heap.size, 2, none⟩ = some (.slice (some ⟨g, 0, none⟩) n c7) ∧ W9.cell? ⟨w.heap.size, 0, none⟩ = some (.int .i64 lim) ∧ W9.cell? ⟨w.heap.size, 1, none⟩ = some (.int .i64 start) ∧ W9.cell? ⟨w.heap.size, 2, none⟩ = some (.slice (some ⟨b, o, none⟩) n c) ∧ W9.cell? ⟨b, o + q * 2, none⟩ = some (.int .i64 sb) ∧ W9.cell? ⟨b, o + q * 2 + 1, none⟩ = some (.slice A5 n5 c5)) 12 13 hmx rfl fun ops Q HOPS HQ => ?_
  refine yq 0 HOPS HSR12.out ?_; simp only [ls0, ls1]; refine yq 1 HOPS HSR12.out ?_; simp only [ls0, ls1]; refine yq 2 HOPS HSR12.out ?_; simp only [ls0, ls1]; refine yq 3 HOPS HSR12.out ?_; simp only [ls0, ls1]; refine yq 4 HOPS HSR12.out ?_; simp only [ls0, ls1]; refine yq 5 HOPS HSR12.out ?_; simp only [ls0, ls1]; refine yq 6 HOPS HSR12.out ?_; simp only [ls0, ls1]; refine yq 7 HOPS HSR12.out ?_; simp only [ls0, ls1]; refine yq 8 HOPS HSR12.out ?_; simp only [ls0, ls1]; refine yq 9 HOPS HSR12.out ?_; simp only [ls0, ls1]; refine yq 10 HOPS HSR12.out ?_; simp only [ls0, ls1]; refine yq 11 HOPS HSR12.out ?_; simp only [ls0, ls1]
  refine xl 12 HOPS ?_
  go_simp
  refine stepE HOPS (by kernel_rfl) (HQ.out _ _ ?_)
  clear HQ HOPS
  clear Q ops
  have hgX : g ≠ WA.heap.size := by have h8 := HX_7.out.lt; omega
  have hgL : g ≠ w.heap.size := by have h8 := HX_7.out.lt; have h7 := HXG.out; omega
  have HL_p := Lib.hid (show At0 ((W8.setCell ⟨g, q * 2, none⟩ (.int .i64 sb)).setCell ⟨g, q * 2 + 1, none⟩ (.slice (some ⟨g6, 0, none⟩) n5 c6)).drew w.heap.size [.int .i64 lim, .int .i64 start, .slice (some ⟨b, o, none⟩) n c] 24 from (HL_9.out.set (p := ⟨g, q * 2, none⟩) hgL (.int .i64 sb)).set (p := ⟨g, q * 2 + 1, none⟩) hgL (.slice (some ⟨g6, 0, none⟩) n5 c6))
  have HX_p := Lib.hid (show At0 ((W8.setCell ⟨g, q * 2, none⟩ (.int .i64 sb)).setCell ⟨g, q * 2 + 1, none⟩ (.slice (some ⟨g6, 0, none⟩) n5 c6)).drew WA.heap.size [.int .i64 lim, .int .i64 start, .slice (some ⟨g, 0, none⟩) n c7] 24 from (HX_9.out.set (p := ⟨g, q * 2, none⟩) hgX (.int .i64 sb)).set (p := ⟨g, q * 2 + 1, none⟩) hgX (.slice (some ⟨g6, 0, none⟩) n5 c6))
  have HW_p := Lib.hid (show Below w.heap.size w ((W8.setCell ⟨g, q * 2, none⟩ (.int .i64 sb)).setCell ⟨g, q * 2 + 1, none⟩ (.slice (some ⟨g6, 0, none⟩) n5 c6)).drew from (HW_9.out.trans (HBP.out.mono (by have h8 := HX_7.out.lt; have h7 := HXG.out; omega))).drew)
  have hcp := OwnG.cap HOP.out
  have HXR_p := Lib.hid (show RdG ((W8.setCell ⟨g, q * 2, none⟩ (.int .i64 sb)).setCell ⟨g, q * 2 + 1, none⟩ (.slice (some ⟨g6, 0, none⟩) n5 c6)).drew ((W8.setCell ⟨g, q * 2, none⟩ (.int .i64 sb)).setCell ⟨g, q * 2 + 1, none⟩ (.slice (some ⟨g6, 0, none⟩) n5 c6)).drew.heap.size (some ⟨g, 0, none⟩) n (l.set q ⟨sb, ss.set i e9⟩) from (OwnG.drew HOP.out).rd)
  clear r0 r1 f0 f1 hg2 hgX hgL
  generalize ((W8.setCell ⟨g, q * 2, none⟩ (.int .i64 sb)).setCell ⟨g, q * 2 + 1, none⟩ (.slice (some ⟨g6, 0, none⟩) n5 c6)).drew = W9 at *
  have HR_p := Lib.hid (rdgUp HRG.out HW_p.out)
  have HT_p := Lib.hid (HT0.out.bel HW_p.out)
  obtain ⟨hxp_0, hxp_1, hxp_2⟩ := cel3 HX_p.out
  go_wp2_with (first
    | (go_at_call 35; (with_reducible refine (Recover_is lim start (some ⟨g, 0, none⟩) n c7 (l.set q ⟨sb, ss.set i e9⟩) _ HXR_p.out HT_p.out hcp (by omega) HG1.out).mono ?_); rintro e w10 ⟨A10, n10, c10, rfl, ho, hb⟩; have HW_10 := Lib.hid (bel_trans HW_p.out hb); have HL_10 := Lib.hid (HL_p.out.below hb); have HX_10 := Lib.hid (HX_p.out.below hb); have HXR_10 := Lib.hid (rdgUp HXR_p.out hb); have HR_10 := Lib.hid (rdgUp HR_p.out hb); have HT_10 := Lib.hid (HT_p.out.bel hb); have hc10 := ho.cap; have HN10 := Lib.hid ho.len; have HYR_10 := Lib.hid (ho.rd); have hba := belA w10 (.cells #[.int .i64 lim, .int .i64 start, .slice A10 n10 c10] 24); have HW_10a := Lib.hid (bel_trans HW_10.out hba); have HL_10a := Lib.hid (HL_10.out.below hba); have HX_10a := Lib.hid (HX_10.out.below hba); have HXR_10a := Lib.hid (rdgUp HXR_10.out hba); have HR_10a := Lib.hid (rdgUp HR_10.out hba); have HT_10a := Lib.hid (HT_10.out.bel hba); have HYR_10a := Lib.hid (rdgUp HYR_10.out hba); have HY_10a := Lib.hid (At0.new w10 [.int .i64 lim, .int .i64 start, .slice A10 n10 c10] 24); obtain ⟨hl10a_0, hl10a_1, hl10a_2⟩ := cel3 HL_10a.out; obtain ⟨hx10a_0, hx10a_1, hx10a_2⟩ := cel3 HX_10a.out; clear hb hba ho)
    | (go_at_call 42; (with_reducible refine (begins9_is lim start (some ⟨b, o, none⟩) n c l lim start (some ⟨g, 0, none⟩) n c7 (l.set q ⟨sb, ss.set i e9⟩) _ HR_10a.out HXR_10a.out HT_10a.out hc hcp (by omega) (by omega) HG1.out HG2.out HG3.out HG4.out HG5.out).mono ?_); rintro e w11 ⟨rfl, hb⟩; have HW_11 := Lib.hid (bel_trans HW_10a.out hb); have HL_11 := Lib.hid (HL_10a.out.below hb); have HX_11 := Lib.hid (HX_10a.out.below hb); have HXR_11 := Lib.hid (rdgUp HXR_10a.out hb); have HR_11 := Lib.hid (rdgUp HR_10a.out hb); have HT_11 := Lib.hid (HT_10a.out.bel hb); have HYR_11 := Lib.hid (rdgUp HYR_10a.out hb); have HY_11 := Lib.hid (HY_10a.out.below hb); clear hb))
  go_ret
  exact ⟨rfl, HW_11.out⟩
end Go.Proofs.YtejcjmiofidedaaGreatDoor.Chn

namespace Go.Proofs.YtejcjmiofidedaaGreatDoor.chainSpoilt
open Go.ChangeShapes Go.WideShapes Go.ChangeAt Go.RowKit

theorem own : ownKnob Tryz.prog.godebug = none := by kernel_rfl
theorem laidOut : laidOutB Tryz.prog = true := by kernel_rfl

set_option maxRecDepth 100000 in
theorem lifted (os : Os) (started : os.Started) (H : Type) (enc : TypeId × Value → H) :
    ReturnsInHanded {} Tryz.checked os 10 .any (fun w args => (Rows.chainSpoiltSpec.pre enc Tryz.prog Tryz.f10 [] false w args ∧ laidMetH Tryz.prog Crc.listed w) ∧ sizedMet enc Tryz.prog Tryz.f10 (OpenSpec.ofChange Rows.chainSpoiltSpec) false w args)
      (Rows.chainSpoiltSpec.post enc Tryz.prog Tryz.f10 false true false false) := by
  refine returnsInHanded_of_change_and (C := Tryz.checked) (X := fun w _ => laidMetH Tryz.prog Crc.listed w) (fun _ _ _ hh h => h.of_heap hh) own started (by kernel_rfl) Tryz.func10
    (ChangeSpec.witness_shaped (enc := enc) (C := Tryz.checked) (os := os) (X := fun w _ => laidMetH Tryz.prog Crc.listed w) false (World.doorLaid Tryz.prog 400 os) #[.agg #[.int .i64 0, .int .i64 0, .slice none 0 0], .int .i64 0, .int .i64 0, .int .u8 0] 8 rfl (World.shaped_of_RefB (by kernel_rfl) (by kernel_rfl)) (by kernel_rfl) (by kernel_rfl) (by kernel_rfl) (Crc.door_met os _)) ?_
  intro W base args ds gs before hval0 hW _ hwt hL _
  have hval : ∀ (j : Nat) t v, Tryz.f10.params[j]? = some t → args[j]? = some v → Value.okWide Tryz.prog W .any base t v := hval0
  have hW' := hW
  obtain ⟨p, q, hA0, hV, rfl, hfz, hnd⟩ := hW
  have hA : DataW.TrodAll enc Tryz.prog W 0 (fun _ => true) true Tryz.f10.params.toList args.toList ds p := hA0
  rw [Tryz.params10] at hA hval
  obtain ⟨v0, vs0, d0, ds0, p0, q0, hargs, rfl, rfl, h0, r0⟩ := trodAll_cons hA
  obtain ⟨v1, vs1, d1, ds1, p1, q1, rfl, rfl, rfl, h1, r1⟩ := trodAll_cons r0
  obtain ⟨v2, vs2, d2, ds2, p2, q2, rfl, rfl, rfl, h2, r2⟩ := trodAll_cons r1
  obtain ⟨v3, vs3, d3, ds3, p3, q3, rfl, rfl, rfl, h3, r3⟩ := trodAll_cons r2
  obtain ⟨rfl, rfl, rfl⟩ := trodAll_nil r3
  obtain rfl : args = #[v0, v1, v2, v3] := by cases args; simp_all
  obtain ⟨rfl, rfl⟩ := trodVars_none hV
  have k0 := h0
  have lt0 : ∀ x ∈ p0, x.block < W.heap.size := by obtain ⟨m, hm⟩ := k0; exact DataW.trod_lt m _ _ _ hm
  obtain ⟨lim_0, st_0, A_0, n_0, c_0, l_0, rfl, hi_0, hj_0, hc_0, hk_0, hR_0⟩ := Chn.open_log (hval 0 24 v0 rfl rfl) h0 (Bat.weights_arg (j := 0) hwt (by kernel_rfl) rfl)
  have k1 := h1
  have lt1 : ∀ x ∈ p1, x.block < W.heap.size := by obtain ⟨m, hm⟩ := k1; exact DataW.trod_lt m _ _ _ hm
  obtain ⟨a1, rfl, hi1⟩ := Oct.open_i64 Tryz.underlying3 (hval 1 3 v1 rfl rfl) h1
  have k2 := h2
  have lt2 : ∀ x ∈ p2, x.block < W.heap.size := by obtain ⟨m, hm⟩ := k2; exact DataW.trod_lt m _ _ _ hm
  obtain ⟨a2, rfl, hi2⟩ := Oct.open_i64 Tryz.underlying3 (hval 2 3 v2 rfl rfl) h2
  have k3 := h3
  have lt3 : ∀ x ∈ p3, x.block < W.heap.size := by obtain ⟨m, hm⟩ := k3; exact DataW.trod_lt m _ _ _ hm
  obtain ⟨a3, rfl⟩ := Oct.open_u8 Tryz.underlying5 (hval 3 5 v3 rfl rfl) h3
  clear hA0 hval0
  refine (Chn.chainSpoilt_walk lim_0 st_0 A_0 n_0 c_0 l_0 a1 a2 a3 W hi_0 hj_0 hc_0 hk_0 hR_0 hi1 hi2 (Crc.tab_of_laid hL)).mono fun e W' ⟨he, bel⟩ => ?_
  subst he
  exact ⟨_, rfl, _, _, _, [], _, [], hW', trodAll_mk1 (shut_bool Tryz.underlying4 _), (trodAll_cons_mk (Below.trod laidOut (by kernel_rfl) (of_decide_eq_true (by kernel_rfl)) k0 bel lt0) (trodAll_cons_mk (Below.trod laidOut (by kernel_rfl) (of_decide_eq_true (by kernel_rfl)) k1 bel lt1) (trodAll_cons_mk (Below.trod laidOut (by kernel_rfl) (of_decide_eq_true (by kernel_rfl)) k2 bel lt2) (trodAll_cons_mk (Below.trod laidOut (by kernel_rfl) (of_decide_eq_true (by kernel_rfl)) k3 bel lt3) trodAll_mk0)))), rfl, bel.frame _, fun h => by cases h⟩

theorem over : Rows.chainSpoiltRow.holds Tryz.pinned (OpenSpec.ofChange Rows.chainSpoiltSpec) :=
  OpenClaim.holds_of_wide 10 Tryz.f10 rfl rfl rfl rfl rfl rfl rfl ⟨rfl, rfl, rfl, rfl, rfl⟩ rfl rfl rfl rfl rfl (by kernel_rfl) Tryz.func10 (by kernel_rfl)
    (of_decide_eq_true (by kernel_rfl)) (by unfold Func.isWrapper; first | (rw [if_pos (by decide +kernel)]; kernel_rfl) | (rw [if_neg (by decide +kernel)]; exact ⟨rfl, rfl⟩))
    (fun os started H enc _ => lifted os started H enc)

theorem proved : Rows.ChainSpoiltCardSaid :=
  Claim7.holds_tied_plain_at .later [] [.data] true (true, "43519ac59a7675b2f2d9aeca7eaf360146488e8a78a978de494d5127d8d19227") false
    over (fun _ h => by cases h) (by kernel_rfl) (fun _ h => by cases h) chainSpoilt_row_tie rfl ⟨rfl, rfl⟩ (by kernel_rfl) rfl
    (fun f fn hf hfn => by
      obtain rfl : f = 10 := Option.some.inj ((show Tryz.prog.funcNamed "watermeet/watermeetlaw09.ChainSpoilt" = some 10 by kernel_rfl).symm.trans hf) |>.symm
      obtain rfl : fn = Tryz.f10 := (Option.some.inj (Tryz.func10.symm.trans hfn)).symm
      exact ⟨by kernel_rfl, fun j t ht => by
        rw [Tryz.params10] at ht
        have hm : t ∈ [24, 3, 3, 5] := by simpa using Array.mem_of_getElem? ht
        have hall : ([24, 3, 3, 5].all fun u => !Tryz.prog.wantsStandIn u) = true := by kernel_rfl
        exact (show Tryz.prog.wantsStandIn t = false by simpa using List.all_eq_true.1 hall t hm)⟩)
    (by kernel_rfl)
#print axioms proved
end Go.Proofs.YtejcjmiofidedaaGreatDoor.chainSpoilt
