/- The walk of CrcEven. -/
import Derived.Test.YtkpemlfblpkjoaaDoorCrcLive
import Derived.Test.YtkpemlfblpkjoaaDoorCrcRef
import Derived.Deep.RegionHeld3
import Derived.Deep.RegionHeldLaw
namespace Go.Proofs.YtkpemlfblpkjoaaDoor.Crc
open Go.RowKit Go.Proofs.YtkpemlfblpkjoaaDoor.Oct

def evRel (base : Nat) (l1 l2 l3 : List UInt8) (N : Nat) (w : World) (v i : Value) (wr : World) : Prop :=
  ∃ A c j, v = .slice A j c ∧ i = .int .i64 ((j : Nat) : Int) ∧ j ≤ N ∧ OwnB wr 5 base (.slice A j c) j (zx (zx (l1.take j) (l2.take j)) (l3.take j)) ∧ Below base w wr
theorem xor_u8 (a b : UInt8) : bits .xor .u8 (a.toNat : Int) (b.toNat : Int) = ((a ^^^ b).toNat : Int) := by
  have ha := a.toNat_lt
  have hb := b.toNat_lt
  rw [u8_xor_nat _ _ (by omega) (by omega), UInt8.toNat_xor]
theorem zx_step {l m : List UInt8} {j : Nat} {d e : UInt8} (hl : l[j]? = some d) (hm : m[j]? = some e) : zx (l.take (j + 1)) (m.take (j + 1)) = zx (l.take j) (m.take j) ++ [d ^^^ e] := by
  have h1 := (List.getElem?_eq_some_iff.1 hl).1
  have h2 := (List.getElem?_eq_some_iff.1 hm).1
  rw [List.take_add_one, List.take_add_one, hl, hm]
  unfold zx
  rw [List.zipWith_append (by simp; omega)]
  rfl
theorem zx_step3 {l m k : List UInt8} {j : Nat} {d e f : UInt8} (hl : l[j]? = some d) (hm : m[j]? = some e) (hk : k[j]? = some f) :
    zx (zx (l.take (j + 1)) (m.take (j + 1))) (k.take (j + 1)) = zx (zx (l.take j) (m.take j)) (k.take j) ++ [d ^^^ e ^^^ f] := by
  have h1 := (List.getElem?_eq_some_iff.1 hl).1
  have h2 := (List.getElem?_eq_some_iff.1 hm).1
  have h3 := (List.getElem?_eq_some_iff.1 hk).1
  rw [zx_step hl hm, List.take_add_one, hk]
  unfold zx
  rw [List.zipWith_append (by simp; omega)]
  rfl

set_option maxRecDepth 100000 in
set_option maxHeartbeats 2000000 in
theorem crcEven_core (A1 : Option Addr) (n1 c1 : Nat) (l1 : List UInt8) (A2 : Option Addr) (n2 c2 : Nat) (l2 : List UInt8) (A3 : Option Addr) (n3 c3 : Nat) (l3 : List UInt8) (N : Nat) (w : World)
    (hr1 : Rd w w.heap.size A1 n1 l1) (hc1 : n1 ≤ c1) (hr2 : Rd w w.heap.size A2 n2 l2) (hc2 : n2 ≤ c2) (hr3 : Rd w w.heap.size A3 n3 l3) (hc3 : n3 ≤ c3)
    (hN1 : N ≤ n1) (hN2 : N ≤ n2) (hN3 : N ≤ n3) (hcase : N = n3 ∧ n2 < n1 ∧ n3 < n2 ∨ N = n2 ∧ n2 < n1 ∧ n2 ≤ n3 ∨ N = n3 ∧ n1 ≤ n2 ∧ n3 < n1 ∨ N = n1 ∧ n1 ≤ n2 ∧ n1 ≤ n3) (hg : N ≤ 2000) (ht : Tab w) :
    Calls Tryd.prog 11 #[.slice A1 n1 c1, .slice A2 n2 c2, .slice A3 n3 c3] w fun e w' => e = .returned (.bool true) ∧ Below w.heap.size w w' := by
  have HT := Lib.hid ht
  clear ht
  have hI := u8row
  have HR1 := Lib.hid hr1
  have HR2 := Lib.hid hr2
  have HR3 := Lib.hid hr3
  clear hr1 hr2 hr3
  rcases hcase with ⟨h, k1, k2⟩ | ⟨h, k1, k2⟩ | ⟨h, k1, k2⟩ | ⟨h, k1, k2⟩
  all_goals
    subst h
    go_enter Tryd.func11, Tryd.ntmps11
    go_wp2_with (go_at_call 12; refine (live_any _ HT.out).mono ?_; rintro e w1 ⟨rfl, hb1⟩)
    have hs1 := hb1.size
    go_loopw [9, 10] (fun v i wr => evRel w.heap.size l1 l2 l3 N w v i wr) (fun _ i _ => N - (intOf i).toNat)
    case atStart => exact ⟨none, 0, 0, rfl, rfl, Nat.zero_le _, OwnB.nil, hb1⟩
    case round =>
      obtain ⟨A, c, j, rfl, rfl, hj, hown, hb⟩ := hrel
      have hs := hb.size
      by_cases hlt : j < N
      · obtain ⟨b1, o1, d1, rfl, hB1, hd1, hcell1⟩ := (HR1.out.below hb (Nat.le_refl _)).at (k := j) (by omega)
        obtain ⟨b2, o2, d2, rfl, hB2, hd2, hcell2⟩ := (HR2.out.below hb (Nat.le_refl _)).at (k := j) (by omega)
        obtain ⟨b3, o3, d3, rfl, hB3, hd3, hcell3⟩ := (HR3.out.below hb (Nat.le_refl _)).at (k := j) (by omega)
        obtain ⟨e1, he1⟩ : ∃ e : UInt8, e = d1 ^^^ d2 := ⟨_, rfl⟩
        obtain ⟨e2, he2⟩ : ∃ e : UInt8, e = e1 ^^^ d3 := ⟨_, rfl⟩
        have HZ0 := zx_step3 hd1 hd2 hd3
        rw [← he1, ← he2] at HZ0
        have HZ := Lib.hid HZ0
        have hx1 : bits .xor .u8 (d1.toNat : Int) (d2.toNat : Int) = (e1.toNat : Int) := by rw [he1]; exact xor_u8 d1 d2
        have hx2 : bits .xor .u8 (e1.toNat : Int) (d3.toNat : Int) = (e2.toNat : Int) := by rw [he2]; exact xor_u8 e1 d3
        have q1 : (0 : Int) ≤ (j : Int) := by omega
        have q2 : (j : Int) < (N : Int) := by omega
        try have i1 : (j : Int) < (n1 : Int) := by omega
        try have i2 : (j : Int) < (n2 : Int) := by omega
        try have i3 : (j : Int) < (n3 : Int) := by omega
        clear hd1 hd2 hd3 he1 he2 HZ0
        go_wp2
        go_region_held_law (fun w' => w'.cell? ⟨b1, o1 + j, none⟩ = some (.int .u8 (d1.toNat : Int)) ∧ w'.cell? ⟨b2, o2 + j, none⟩ = some (.int .u8 (d2.toNat : Int)) ∧ w'.cell? ⟨b3, o3 + j, none⟩ = some (.int .u8 (d3.toNat : Int))) (go_keep)
          (first | (refine step_appB _ rfl _ _ 22 rfl w.heap.size 5 Tryd.underlying22 hI _ j _ rfl ((hown.alloc _).drew) _ (some ⟨wr.heap.size, 0, none⟩) 1 1 [e2] rfl (new1 wr 5 e2).drew (by omega) (by first | (simp; done) | (simp; omega)) ?_; intro A' c' w2 hown2 hbel; have hb2 := (((Below.refl w.heap.size wr).alloc hs _).drew).trans hbel; have y1 := (hb2.cell (p := ⟨b1, o1 + j, none⟩) hB1).trans hcell1; have y2 := (hb2.cell (p := ⟨b2, o2 + j, none⟩) hB2).trans hcell2; have y3 := (hb2.cell (p := ⟨b3, o3 + j, none⟩) hB3).trans hcell3))
        go_wp2
        go_roundw
        case rel =>
          refine ⟨A', c', j + 1, rfl, by go_num, by omega, ?_, hb.trans hb2⟩
          rw [HZ.out]
          exact hown2
        case measure => simp [intOf]; omega
      · have hNj : N = j := by omega
        subst hNj
        obtain ⟨s1, hs1⟩ : ∃ s, s = sum (l1.take N) := ⟨_, rfl⟩
        obtain ⟨s2, hs2⟩ : ∃ s, s = sum (l2.take N) := ⟨_, rfl⟩
        obtain ⟨s3, hs3⟩ : ∃ s, s = sum (l3.take N) := ⟨_, rfl⟩
        obtain ⟨x, hx⟩ : ∃ x, x = zx (zx (l1.take N) (l2.take N)) (l3.take N) := ⟨_, rfl⟩
        have HE := Lib.hid (show sum x = s1 ^^^ s2 ^^^ s3 by
          have a1 := HR1.out.len
          have a2 := HR2.out.len
          have a3 := HR3.out.len
          rw [hs1, hs2, hs3, hx]
          exact sum_even (by rw [List.length_take, List.length_take]; omega) (by rw [List.length_take, List.length_take]; omega))
        obtain ⟨y, hy⟩ : ∃ y, y = s1 ^^^ s2 ^^^ s3 := ⟨_, rfl⟩
        obtain ⟨z, hz⟩ : ∃ z, z = s1 ^^^ s2 := ⟨_, rfl⟩
        have t1 : s1 < 4294967296 := by rw [hs1]; exact sum_lt _
        have t2 : s2 < 4294967296 := by rw [hs2]; exact sum_lt _
        have t3 : s3 < 4294967296 := by rw [hs3]; exact sum_lt _
        have hz1 : bits .xor .u32 (s1 : Int) (s2 : Int) = (z : Int) := by rw [hz]; exact xor_u32 s1 s2 t1 t2
        have hy1 : bits .xor .u32 (z : Int) (s3 : Int) = (y : Int) := by rw [hy, ← hz]; exact xor_u32 z s3 (by rw [hz]; exact xor32 t1 t2) t3
        rw [← hx] at hown
        have H1 := Lib.hid hs1
        have H2 := Lib.hid hs2
        have H3 := Lib.hid hs3
        have HY := Lib.hid (show sum x = y by rw [hy]; exact HE.out)
        have hb0 := Lib.hid (show Below w.heap.size w wr.drew from bel_drew hb)
        have f1 : N ≤ c1 := by omega
        have f2 : N ≤ c2 := by omega
        have f3 : N ≤ c3 := by omega
        have f4 : (N : Int) ≤ (c1 : Int) := by omega
        have f5 : (N : Int) ≤ (c2 : Int) := by omega
        have f6 : (N : Int) ≤ (c3 : Int) := by omega
        have f7 : (0 : Int) ≤ (N : Int) := by omega
        clear hs1 hs2 hs3 hx hy hz t1 t2 t3
        go_wp2
        go_region_held3 (fun _ => True) (trivial) (first
          | (go_at_call 13; (with_reducible refine (Sum_any A N c x _ _ hown.rd.drew (Nat.le_refl _) (by omega) (HT.out.bel hb0.out)).mono ?_); rw [HY.out]; rintro e w2 ⟨rfl, hb2⟩; have hb02 := bel_trans hb0.out hb2)
          | (go_at_call 13; (with_reducible refine (Sum_any A1 N c1 (l1.take N) _ w2 ((HR1.out.below hb02 (Nat.le_refl _)).take (by omega)) hb02.size (by omega) (HT.out.bel (by assumption))).mono ?_); rw [← H1.out]; rintro e w3 ⟨rfl, hb3⟩; have hb03 := bel_trans hb02 hb3)
          | (go_at_call 13; (with_reducible refine (Sum_any A2 N c2 (l2.take N) _ w3 ((HR2.out.below hb03 (Nat.le_refl _)).take (by omega)) hb03.size (by omega) (HT.out.bel (by assumption))).mono ?_); rw [← H2.out]; rintro e w4 ⟨rfl, hb4⟩; have hb04 := bel_trans hb03 hb4)
          | (go_at_call 13; (with_reducible refine (Sum_any A3 N c3 (l3.take N) _ w4 ((HR3.out.below hb04 (Nat.le_refl _)).take (by omega)) hb04.size (by omega) (HT.out.bel (by assumption))).mono ?_); rw [← H3.out]; rintro e w5 ⟨rfl, hb5⟩; have hb05 := bel_trans hb04 hb5))
        go_wp2
        go_ret
        exact ⟨ret_bool (by first | rfl | (simp; done)), hb05⟩

theorem crcEven_walk (A1 : Option Addr) (n1 c1 : Nat) (l1 : List UInt8) (A2 : Option Addr) (n2 c2 : Nat) (l2 : List UInt8) (A3 : Option Addr) (n3 c3 : Nat) (l3 : List UInt8) (w : World)
    (hr1 : Rd w w.heap.size A1 n1 l1) (hc1 : n1 ≤ c1) (hr2 : Rd w w.heap.size A2 n2 l2) (hc2 : n2 ≤ c2) (hr3 : Rd w w.heap.size A3 n3 l3) (hc3 : n3 ≤ c3) (ht : Tab w) :
    Calls Tryd.prog 11 #[.slice A1 n1 c1, .slice A2 n2 c2, .slice A3 n3 c3] w fun e w' => e = .returned (.bool true) ∧ Below w.heap.size w w' := by
  have HT := Lib.hid ht
  clear ht
  by_cases hg : n1 ≤ 2000 ∨ n2 ≤ 2000 ∨ n3 ≤ 2000
  · exact crcEven_core A1 n1 c1 l1 A2 n2 c2 l2 A3 n3 c3 l3 (min n1 (min n2 n3)) w hr1 hc1 hr2 hc2 hr3 hc3 (by omega) (by omega) (by omega) (by omega) (by omega) HT.out
  · have g1 : 2000 < n1 := by omega
    have g2 : 2000 < n2 := by omega
    have g3 : 2000 < n3 := by omega
    clear hg hr1 hr2 hr3
    rcases (show (n2 < n1 ∧ n3 < n2) ∨ (n2 < n1 ∧ n2 ≤ n3) ∨ (n1 ≤ n2 ∧ n3 < n1) ∨ (n1 ≤ n2 ∧ n1 ≤ n3) by omega) with ⟨k1, k2⟩ | ⟨k1, k2⟩ | ⟨k1, k2⟩ | ⟨k1, k2⟩
    all_goals
      go_enter Tryd.func11, Tryd.ntmps11
      go_wp2_with (go_at_call 12; refine (live_any _ HT.out).mono ?_; rintro e w1 ⟨rfl, hb1⟩)
    all_goals go_ret
    all_goals exact ⟨rfl, hb1⟩
end Go.Proofs.YtkpemlfblpkjoaaDoor.Crc
