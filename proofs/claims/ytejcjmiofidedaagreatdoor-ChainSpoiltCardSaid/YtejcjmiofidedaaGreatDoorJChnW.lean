/- Joined: ChnArg, ChnW, ChnMath4. -/
import Derived.Test.YtejcjmiofidedaaGreatDoorSegArg
import Derived.Test.YtejcjmiofidedaaGreatDoorChnRow
import Derived.Test.YtejcjmiofidedaaGreatDoorJChnF
import Derived.Test.YtejcjmiofidedaaGreatDoorJChnM
import Derived.Test.YtejcjmiofidedaaGreatDoorJSegS
import Derived.Test.YtejcjmiofidedaaGreatDoorJBatK
import Derived.Test.YtejcjmiofidedaaGreatDoorJSegW
import Derived.Test.YtejcjmiofidedaaGreatDoorJSegM
/- A log as a law is handed it. -/
namespace Go.Proofs.YtejcjmiofidedaaGreatDoor.Chn
open Go.RowKit Go.ChangeShapes Go.WideShapes Go.Deep Oct Lay Seg

instance : Lay Sg where
  sz := 2
  pos := by decide
  is w B cs x := ∃ A n c, cs = [.int .i64 x.base, .slice A n c] ∧ I64 x.base ∧ n ≤ c ∧ c ≤ reach ∧ Rd w B A n x.bytes
  len h := by obtain ⟨A, n, c, h, _⟩ := h; rw [h]; rfl
  keep h hk := by obtain ⟨A, n, c, h, hf, hc, hr, hl⟩ := h; exact ⟨A, n, c, h, hf, hc, hr, hl.keep hk⟩
  more h hB := by obtain ⟨A, n, c, h, hf, hc, hr, hl⟩ := h; exact ⟨A, n, c, h, hf, hc, hr, hl.more hB⟩
theorem opens_seg : Opens Tryz.prog 59 Sg := by
  intro H enc w fuel cs d pl h hl hz
  obtain ⟨n, hat⟩ := opens_fields Tryz.underlying59 (by kernel_rfl) h hz hl
  obtain ⟨u0, d0, p0, c0, t0, z0⟩ := hat 0 _ rfl
  obtain ⟨u1, d1, p1, c1, t1, z1⟩ := hat 1 _ rfl
  obtain ⟨x0, rfl, h0⟩ := opens_int Tryz.underlying3 H enc w n u0 d0 p0 t0 z0
  obtain ⟨x1, A, m, c, rfl, hc, hr, hR⟩ := opens_raw H enc w n u1 d1 p1 t1 z1
  exact ⟨⟨x0, x1⟩, A, m, c, list_of2 hl c0 c1, h0, hc, hr, hR.bytes⟩
theorem opens_segs : Opens1 Tryz.prog 22 (List Sg) := opens_slice Tryz.underlying22 (by kernel_rfl) (of_decide_eq_true (by kernel_rfl)) opens_seg
theorem list_of3 {l : List Value} {u0 u1 u2 : Value} (hl : l.length = 3) (c0 : l[0]? = some u0) (c1 : l[1]? = some u1) (c2 : l[2]? = some u2) : l = [u0, u1, u2] := by
  match l, hl with
  | [_, _, _], _ =>
    simp only [List.getElem?_cons_zero, List.getElem?_cons_succ, Option.some.injEq] at c0 c1 c2
    rw [c0, c1, c2]
set_option maxRecDepth 100000 in
theorem open_log {H : Type} {enc : TypeId × Value → H} {W : World} {base : Nat} {v : Value} {d : DataW H} {p : List MemPlace} (hv : Value.okWide Tryz.prog W .any base 24 v) (h : DataW.Trod enc Tryz.prog W 0 (fun _ => true) true 24 v d p) (hz : ∀ z ∈ DataW.weights Tryz.prog 24 d, z ≤ reachBytes) :
    ∃ (lim start : Int) (A : Option Addr) (n c : Nat) (l : List Sg), v = .agg #[.int .i64 lim, .int .i64 start, .slice A n c] ∧ I64 lim ∧ I64 start ∧ n ≤ c ∧ c ≤ reach ∧ RdL W W.heap.size A n l := by
  obtain ⟨cs, rfl, hsz⟩ := okWide_struct Tryz.underlying24 hv
  obtain ⟨fuel, hf⟩ := h
  have h2 : Tryz.prog.cellsOf 24 = 3 := by kernel_rfl
  have hl : cs.toList.length = 3 := by rw [Array.length_toList, hsz, h2]
  obtain ⟨n, hat⟩ := opens_fields Tryz.underlying24 (by kernel_rfl) hf hz hl
  obtain ⟨u0, d0, p0, c0, t0, z0⟩ := hat 0 _ rfl
  obtain ⟨u1, d1, p1, c1, t1, z1⟩ := hat 1 _ rfl
  obtain ⟨u2, d2, p2, c2, t2, z2⟩ := hat 2 _ rfl
  obtain ⟨x0, rfl, h0⟩ := opens_int Tryz.underlying3 H enc W n u0 d0 p0 t0 z0
  obtain ⟨x1, rfl, h1⟩ := opens_int Tryz.underlying3 H enc W n u1 d1 p1 t1 z1
  obtain ⟨x2, A, m, c, rfl, hc, hr, hR⟩ := opens_segs H enc W n u2 d2 p2 t2 z2
  refine ⟨x0, x1, A, m, c, x2, ?_, h0, h1, hc, hr, hR⟩
  congr 1
  apply Array.toList_inj.1
  exact list_of3 hl c0 c1 c2
def fewG (l : List Sg) : Bool := l.all (fun s => decide (s.bytes.length ≤ 5000)) && decide (l.length ≤ 12)
theorem fewG_iff {l : List Sg} : fewG l = true ↔ (∀ s ∈ l, s.bytes.length ≤ 5000) ∧ l.length ≤ 12 := by
  unfold fewG
  rw [Bool.and_eq_true, List.all_eq_true, decide_eq_true_iff]
  simp only [decide_eq_true_eq]
theorem rdG_of {w : World} {B n : Nat} {A : Option Addr} {l : List Sg} (h : RdL w B A n l) (hf : fewG l = true) : RdG w B A n l ∧ n ≤ 12 := by
  obtain ⟨h5, h12⟩ := fewG_iff.1 hf
  refine ⟨⟨h.1, fun k x hx => ?_⟩, by have := h.1; omega⟩
  obtain ⟨b, o, cs, hA, hb, ⟨A', n', c', rfl, h1, h2, h3, h4⟩, hc⟩ := h.2 k x hx
  have h6 := h5 x (List.mem_of_getElem? hx)
  have h7 := h4.len
  exact ⟨b, o, A', n', c', hA, hb, h2, by unfold gMax; omega, h4, h1, hc 0 _ rfl, hc 1 _ rfl⟩
theorem rdvUp {w w' : World} {A : Option Addr} {n : Nat} {l : List Sg} (h : RdL w w.heap.size A n l) (hb : Below w.heap.size w w') : RdL w' w'.heap.size A n l := (h.below hb (Nat.le_refl _)).more hb.size
end Go.Proofs.YtejcjmiofidedaaGreatDoor.Chn

/- Words for the walks of layer 9's laws: the document's Same and Few, the laws' few and three. -/
namespace Go.Proofs.YtejcjmiofidedaaGreatDoor.Chn
open Go.RowKit Oct Rec Crc Bat Lay Seg RowF InR

def tb_Same6 : List (Nat × Nat) := [(0, 4095), (1, 4094), (0, 4095), (6, 4089), (8, 4087), (0, 4095), (32, 4063), (0, 4095), (192, 3903), (256, 3839), (528, 3567), (1024, 3071)]
def enRel9 (n : Nat) (w : World) (iv : Value) (wr : World) : Prop := ∃ k : Nat, iv = .int .i64 (k : Int) ∧ k ≤ n ∧ Below w.heap.size w wr
set_option maxRecDepth 100000 in
set_option maxHeartbeats 8000000 in
theorem rSame_is (lim start : Int) (A A' : Option Addr) (n c c' : Nat) (l : List Sg) (w : World) (hr : RdG w w.heap.size A n l) (hr' : RdG w w.heap.size A' n l) (hn : n ≤ 1000000) :
    Calls Tryz.prog 23 #[.agg #[.int .i64 lim, .int .i64 start, .slice A n c], .agg #[.int .i64 lim, .int .i64 start, .slice A' n c']] w fun e w' => e = .returned (.bool true) ∧ Below w.heap.size w w' := by
  have hba : Below w.heap.size w ((w.alloc (.cells #[.int .i64 lim, .int .i64 start, .slice A n c] 24)).alloc (.cells #[.int .i64 lim, .int .i64 start, .slice A' n c'] 24)) := bel_alloc (belA w _) _
  have HW_0 := Lib.hid hba
  have HA_0 := Lib.hid ((At0.new w [.int .i64 lim, .int .i64 start, .slice A n c] 24).alloc (.cells #[.int .i64 lim, .int .i64 start, .slice A' n c'] 24))
  have HB_0 := Lib.hid (at0_1 w (.cells #[.int .i64 lim, .int .i64 start, .slice A n c] 24) [.int .i64 lim, .int .i64 start, .slice A' n c'] 24)
  have HR := Lib.hid (rdgUp hr hba)
  have HR2 := Lib.hid (rdgUp hr' hba)
  have hmx : Tryz.prog.follows .mixedOrders = true := by kernel_rfl
  have hls : ∀ x : Int, (x != x) = false := fun x => by simp
  obtain ⟨a0, a1, a2⟩ := cel3 HA_0.out
  obtain ⟨b0, b1, b2⟩ := cel3 HB_0.out
  clear hr hr' hba
  go_enter Tryz.func23, Tryz.ntmps23
  go_wp2
  generalize ((w.alloc (.cells #[.int .i64 lim, .int .i64 start, .slice A n c] 24)).alloc (.cells #[.int .i64 lim, .int .i64 start, .slice A' n c'] 24)) = W at *
  clear a0 a1 a2 b0 b1 b2 hls
  go_loopw [5] (fun iv wr => enRel9 n W iv wr) (fun iv _ => n - (intOf iv).toNat)
  case atStart => exact ⟨0, rfl, Nat.zero_le _, Below.refl _ _⟩
  case round =>
    obtain ⟨k, rfl, hk, hb⟩ := hrel
    have HB_r := Lib.hid (HB_0.out.below hb)
    have HA_r := Lib.hid (HA_0.out.below hb)
    have HRR := Lib.hid (rdgUp HR.out hb)
    have HRR2 := Lib.hid (rdgUp HR2.out hb)
    have HBR_r := Lib.hid hb
    obtain ⟨a0, a1, a2⟩ := cel3 HA_r.out
    clear hb
    by_cases hlt : k < n
    · obtain ⟨b, o, ⟨sb, ss⟩, A1, n1, c1, rfl, hbl, hxk, hc1, hn1, hrd, hI, d0, d1⟩ := HRR.out.at hlt
      obtain ⟨b', o', x', A2, n2, c2, rfl, hbl', hxk', hc2, hn2, hrd', hI', e0, e1⟩ := HRR2.out.at hlt
      obtain rfl : ⟨sb, ss⟩ = x' := Option.some.inj (hxk.symm.trans hxk')
      simp only at d0 d1 hrd hI e0 e1 hrd'
      have HS_r := Lib.hid (AtO.two hbl d0 d1)
      have HS2_r := Lib.hid (AtO.two hbl' e0 e1)
      have HRD_r := Lib.hid hrd
      have HRD2_r := Lib.hid hrd'
      have hw1 : IntKind.i64.wrap ((k : Int) + 1) = (k : Int) + 1 := IntWalk.i64_in _ (by omega)
      have hkl : (k : Int) < (n : Int) := by omega
      have hk0 : (0 : Int) ≤ (k : Int) := by omega
      clear hxk hxk' hrd hrd' d0 d1 e0 e1
      go_wp2
      have hbd := (Below.refl wr.heap.size wr).drew
      have HBR_R6 := Lib.hid (bel_trans HBR_r.out hbd)
      have HA_R6 := Lib.hid (HA_r.out.below hbd)
      have HB_R6 := Lib.hid (HB_r.out.below hbd)
      have HS_R6 := Lib.hid (HS_r.out.below hbd)
      have HS2_R6 := Lib.hid (HS2_r.out.below hbd)
      have HRD_R6 := Lib.hid (rdUp HRD_r.out hbd)
      have HRD2_R6 := Lib.hid (rdUp HRD2_r.out hbd)
      have HSR6 := Lib.hid (show (fun W9 : World => W9.cell? ⟨w.heap.size, 0, none⟩ = some (.int .i64 lim) ∧ W9.cell? ⟨w.heap.size, 1, none⟩ = some (.int .i64 start) ∧ W9.cell? ⟨w.heap.size, 2, none⟩ = some (.slice (some ⟨b, o, none⟩) n c) ∧ W9.cell? ⟨(w.heap.size + 1), 0, none⟩ = some (.int .i64 lim) ∧ W9.cell? ⟨(w.heap.size + 1), 1, none⟩ = some (.int .i64 start) ∧ W9.cell? ⟨(w.heap.size + 1), 2, none⟩ = some (.slice (some ⟨b', o', none⟩) n c') ∧ W9.cell? ⟨b, o + k * 2, none⟩ = some (.int .i64 sb) ∧ W9.cell? ⟨b, o + k * 2 + 1, none⟩ = some (.slice A1 n1 c1) ∧ W9.cell? ⟨b', o' + k * 2, none⟩ = some (.int .i64 sb) ∧ W9.cell? ⟨b', o' + k * 2 + 1, none⟩ = some (.slice A2 n2 c2)) wr.drew from ⟨HA_R6.out.cell 0, HA_R6.out.cell 1, HA_R6.out.cell 2, HB_R6.out.cell 0, HB_R6.out.cell 1, HB_R6.out.cell 2, HS_R6.out.2 0 _ rfl, HS_R6.out.2 1 _ rfl, HS2_R6.out.2 0 _ rfl, HS2_R6.out.2 1 _ rfl⟩)
      clear hbd
      refine region_let (fun W9 : World => W9.cell? ⟨w.heap.size, 0, none⟩ = some (.int .i64 lim) ∧ W9.cell? ⟨w.heap.size, 1, none⟩ = some (.int .i64 start) ∧ W9.cell? ⟨w.heap.size, 2, none⟩ = some (.slice (some ⟨b, o, none⟩) n c) ∧ W9.cell? ⟨(w.heap.size + 1), 0, none⟩ = some (.int .i64 lim) ∧ W9.cell? ⟨(w.heap.size + 1), 1, none⟩ = some (.int .i64 start) ∧ W9.cell? ⟨(w.heap.size + 1), 2, none⟩ = some (.slice (some ⟨b', o', none⟩) n c') ∧ W9.cell? ⟨b, o + k * 2, none⟩ = some (.int .i64 sb) ∧ W9.cell? ⟨b, o + k * 2 + 1, none⟩ = some (.slice A1 n1 c1) ∧ W9.cell? ⟨b', o' + k * 2, none⟩ = some (.int .i64 sb) ∧ W9.cell? ⟨b', o' + k * 2 + 1, none⟩ = some (.slice A2 n2 c2)) 99 12 hmx rfl fun ops Q HOPS HQ => ?_
      have HREG := reg_of HOPS tb_Same6 rfl (by kernel_rfl) (by kernel_rfl) (by decide)
      refine xq 0 HOPS HREG HSR6.out ?_; simp only [ls0, ls1]; refine xq 1 HOPS HREG HSR6.out ?_; simp only [ls0, ls1]; refine xq 2 HOPS HREG HSR6.out ?_; simp only [ls0, ls1]; refine xq 3 HOPS HREG HSR6.out ?_; simp only [ls0, ls1]; refine xq 4 HOPS HREG HSR6.out ?_; simp only [ls0, ls1]; refine xq 5 HOPS HREG HSR6.out ?_; simp only [ls0, ls1]; refine xq 6 HOPS HREG HSR6.out ?_; simp only [ls0, ls1]; refine xq 7 HOPS HREG HSR6.out ?_; simp only [ls0, ls1]; refine xq 8 HOPS HREG HSR6.out ?_; simp only [ls0, ls1]; refine xq 9 HOPS HREG HSR6.out ?_; simp only [ls0, ls1]
      refine xc 10 HOPS ?_
      go_simp
      with_reducible refine (refSameS_is sb A1 n1 c1 sb A2 n2 c2 ss ss _ HRD_R6.out HRD2_R6.out (same_self sb ss)).mono ?_
      rintro e w4 ⟨rfl, hb⟩
      have HBR_4 := Lib.hid (bel_trans HBR_R6.out hb)
      have HA_4 := Lib.hid (HA_R6.out.below hb)
      have HB_4 := Lib.hid (HB_R6.out.below hb)
      have HS_4 := Lib.hid (HS_R6.out.below hb)
      have HS2_4 := Lib.hid (HS2_R6.out.below hb)
      have HRD_4 := Lib.hid (rdUp HRD_R6.out hb)
      have HRD2_4 := Lib.hid (rdUp HRD2_R6.out hb)
      have HSR6w4 := Lib.hid (show (fun W9 : World => W9.cell? ⟨w.heap.size, 0, none⟩ = some (.int .i64 lim) ∧ W9.cell? ⟨w.heap.size, 1, none⟩ = some (.int .i64 start) ∧ W9.cell? ⟨w.heap.size, 2, none⟩ = some (.slice (some ⟨b, o, none⟩) n c) ∧ W9.cell? ⟨(w.heap.size + 1), 0, none⟩ = some (.int .i64 lim) ∧ W9.cell? ⟨(w.heap.size + 1), 1, none⟩ = some (.int .i64 start) ∧ W9.cell? ⟨(w.heap.size + 1), 2, none⟩ = some (.slice (some ⟨b', o', none⟩) n c') ∧ W9.cell? ⟨b, o + k * 2, none⟩ = some (.int .i64 sb) ∧ W9.cell? ⟨b, o + k * 2 + 1, none⟩ = some (.slice A1 n1 c1) ∧ W9.cell? ⟨b', o' + k * 2, none⟩ = some (.int .i64 sb) ∧ W9.cell? ⟨b', o' + k * 2 + 1, none⟩ = some (.slice A2 n2 c2)) w4 from ⟨HA_4.out.cell 0, HA_4.out.cell 1, HA_4.out.cell 2, HB_4.out.cell 0, HB_4.out.cell 1, HB_4.out.cell 2, HS_4.out.2 0 _ rfl, HS_4.out.2 1 _ rfl, HS2_4.out.2 0 _ rfl, HS2_4.out.2 1 _ rfl⟩)
      clear hb
      refine ⟨HSR6w4.out, ?_⟩
      refine xq 11 HOPS HREG HSR6w4.out ?_; simp only [ls0, ls1]
      refine stepE HOPS (by kernel_rfl) (HQ.out _ _ ?_)
      clear HQ HREG HOPS
      clear Q ops
      go_wp2
      go_roundw
      case rel => exact ⟨k + 1, by go_num, by omega, HBR_4.out⟩
      case measure => simp [intOf]; omega
    · obtain rfl : k = n := by omega
      go_wp2
      exact bodyPost_ret (v := .bool true) (by simp [results, Tryz.results23, go_sem]) rfl ⟨rfl, bel_trans HW_0.out HBR_r.out⟩
def fwRel9 (l : List Sg) (n : Nat) (w : World) (iv : Value) (wr : World) : Prop := ∃ k : Nat, iv = .int .i64 (k : Int) ∧ k ≤ n ∧ (∀ s ∈ l.take k, s.bytes.length ≤ 5000) ∧ w = wr
set_option maxRecDepth 100000 in
set_option maxHeartbeats 8000000 in
theorem rFew_is (lim start : Int) (A : Option Addr) (n c : Nat) (l : List Sg) (w : World) (hr : RdL w w.heap.size A n l) (hn : n ≤ reach) {z : Bool} (hz : fewG l = z) :
    Calls Tryz.prog 46 #[.agg #[.int .i64 lim, .int .i64 start, .slice A n c]] w fun e w' => e = .returned (.bool z) ∧ Below w.heap.size w w' := by
  have hba := belA w (.cells #[.int .i64 lim, .int .i64 start, .slice A n c] 24)
  have HL := Lib.hid (At0.new w [.int .i64 lim, .int .i64 start, .slice A n c] 24)
  have HR := Lib.hid (rdvUp hr hba)
  have HW := Lib.hid hba
  have HLEN := Lib.hid hr.len
  have hn9 : n ≤ 140737488351232 := hn
  obtain ⟨l0, l1, l2⟩ := cel3 HL.out
  have HZ := Lib.hid hz
  clear hr hba hz hn
  go_enter Tryz.func46, Tryz.ntmps46
  go_wp2
  generalize (w.alloc (.cells #[.int .i64 lim, .int .i64 start, .slice A n c] 24)) = W at *
  go_loopw [3] (fun iv wr => fwRel9 l n W iv wr) (fun iv _ => n - (intOf iv).toNat)
  case atStart => exact ⟨0, rfl, Nat.zero_le _, by simp, rfl⟩
  case round =>
    obtain ⟨k, rfl, hk, hal, rfl⟩ := hrel
    have HAL := Lib.hid hal
    clear hal
    by_cases hlt : k < n ∧ k < 300
    · obtain ⟨hlt1, hlt2⟩ := hlt
      obtain ⟨b, o, x, cs, rfl, hbl, hxk, ⟨A1, n1, c1, rfl, hI, hc1, hn1, hrd⟩, hce⟩ := HR.out.at hlt1
      have d1 : W.cell? ⟨b, o + k * 2 + 1, none⟩ = some (.slice A1 n1 c1) := hce 1 _ rfl
      have HX := Lib.hid hxk
      have HXL := Lib.hid hrd.len
      have hw1 : IntKind.i64.wrap ((k : Int) + 1) = (k : Int) + 1 := IntWalk.i64_in _ (by omega)
      have hkl : (k : Int) < (n : Int) := by omega
      have hk3 : (k : Int) < 300 := by omega
      have hk0 : (0 : Int) ≤ (k : Int) := by omega
      clear hxk hrd hce hI
      by_cases h5 : (5000 : Int) < (n1 : Int)
      · have hzf : z = false := by
          rw [← HZ.out]
          cases h9 : fewG l with
          | false => rfl
          | true =>
            have h8 := (fewG_iff.1 h9).1 x (List.mem_of_getElem? HX.out)
            have h7 := HXL.out
            omega
        subst hzf
        go_wp2
        exact bodyPost_ret (v := .bool false) (by simp [results, Tryz.results46, go_sem]) rfl ⟨rfl, HW.out⟩
      · go_wp2
        go_roundw
        case rel =>
          refine ⟨k + 1, by go_num, by omega, fun s hs => ?_, rfl⟩
          rw [List.take_add_one, HX.out, Option.toList_some, List.mem_append, List.mem_singleton] at hs
          rcases hs with hs | rfl
          · exact HAL.out s hs
          · have h7 := HXL.out
            omega
        case measure => simp [intOf]; omega
    · have hzz : z = decide ((n : Int) ≤ 12) := by
        rw [← HZ.out]
        by_cases h12 : n ≤ 12
        · rw [decide_eq_true (by omega : (n : Int) ≤ 12)]
          obtain rfl : k = n := by omega
          have h8 := HAL.out
          rw [List.take_of_length_le (by rw [HLEN.out]; exact Nat.le_refl _)] at h8
          exact fewG_iff.2 ⟨h8, by rw [HLEN.out]; exact h12⟩
        · rw [decide_eq_false (by omega : ¬ (n : Int) ≤ 12)]
          cases h9 : fewG l with
          | false => rfl
          | true => exact absurd (fewG_iff.1 h9).2 (by rw [HLEN.out]; exact h12)
      subst hzz
      by_cases hkn : k < n
      · have hkl : (k : Int) < (n : Int) := by omega
        have hk3 : ¬ (k : Int) < 300 := by omega
        clear hlt
        go_wp2
        exact bodyPost_ret (v := .bool (decide ((n : Int) ≤ 12))) (by simp [results, Tryz.results46, go_sem]) rfl ⟨rfl, HW.out⟩
      · obtain rfl : k = n := by omega
        clear hlt
        go_wp2
        exact bodyPost_ret (v := .bool (decide ((k : Int) ≤ 12))) (by simp [results, Tryz.results46, go_sem]) rfl ⟨rfl, HW.out⟩
set_option maxRecDepth 100000 in
set_option maxHeartbeats 8000000 in
theorem few9_is (lim start : Int) (A : Option Addr) (n c : Nat) (l : List Sg) (A1 : Option Addr) (n1 c1 : Nat) (bs : List Bt) (w : World) (hr : RdL w w.heap.size A n l) (hn : n ≤ reach) (hx : RdL w w.heap.size A1 n1 bs) (hn1 : n1 ≤ reach) {z z1 z2 : Bool} (h1 : fewG l = z1) (h2 : (bs.all fewT && decide ((bs.length : Int) ≤ 40)) = z2) (hz : (z1 && z2) = z) :
    Calls Tryz.prog 13 #[.agg #[.int .i64 lim, .int .i64 start, .slice A n c], .slice A1 n1 c1] w fun e w' => e = .returned (.bool z) ∧ Below w.heap.size w w' := by
  have hba := belA w (.cells #[.int .i64 lim, .int .i64 start, .slice A n c] 24)
  have HL := Lib.hid (At0.new w [.int .i64 lim, .int .i64 start, .slice A n c] 24)
  have HR := Lib.hid (rdvUp hr hba)
  have HX := Lib.hid (rdlUp hx hba)
  have HW := Lib.hid hba
  have H1 := Lib.hid h1
  have H2 := Lib.hid h2
  obtain ⟨l0, l1, l2⟩ := cel3 HL.out
  subst hz
  clear hr hx hba h1 h2
  cases z1
  all_goals go_enter Tryz.func13, Tryz.ntmps13
  all_goals go_wp2_with (first
    | (go_at_call 46; (with_reducible refine (rFew_is lim start A n c l _ HR.out hn H1.out).mono ?_); rintro e w2 ⟨rfl, hb⟩; have HW2 := Lib.hid (bel_trans HW.out hb); have HX2 := Lib.hid (rdlUp HX.out hb); clear hb)
    | (go_at_call 37; (with_reducible refine (refFewAll_is bs A1 n1 c1 40 _ HX2.out hn1 H2.out).mono ?_); rintro e w3 ⟨rfl, hb⟩; have HW3 := Lib.hid (bel_trans HW2.out hb); clear hb))
  · go_ret
    exact ⟨rfl, HW2.out⟩
  · go_ret
    exact ⟨rfl, HW3.out⟩
theorem rdr_two {W : World} {g : Nat} {e : TypeId} {a b : Rc} (h : At0 W g [.int .i64 a.off, .string a.key, .string a.val, .bool a.dead, .int .i64 a.stamp, .int .i64 b.off, .string b.key, .string b.val, .bool b.dead, .int .i64 b.stamp] e) : RdR W W.heap.size (some ⟨g, 0, none⟩) 2 [a, b] := by
  refine ⟨rfl, fun k r hk => ?_⟩
  match k, hk with
  | 0, hk =>
    obtain rfl : a = r := Option.some.inj hk
    exact ⟨g, 0, rfl, h.lt, by simpa using h.cell 0, by simpa using h.cell 1, by simpa using h.cell 2, by simpa using h.cell 3, by simpa using h.cell 4⟩
  | 1, hk =>
    obtain rfl : b = r := Option.some.inj hk
    exact ⟨g, 0, rfl, h.lt, by simpa using h.cell 5, by simpa using h.cell 6, by simpa using h.cell 7, by simpa using h.cell 8, by simpa using h.cell 9⟩
theorem rdrUp {w w' : World} {A : Option Addr} {n : Nat} {l : List Rc} (h : RdR w w.heap.size A n l) (hb : Below w.heap.size w w') : RdR w' w'.heap.size A n l := (h.below hb (Nat.le_refl _)).more hb.size
set_option maxRecDepth 100000 in
set_option maxHeartbeats 8000000 in
theorem three_is (base b2 : Int) (w : World) (hw : IntKind.i64.wrap (base + 2) = b2) :
    Calls Tryz.prog 45 #[.int .i64 base] w fun e w' => ∃ g, e = .returned (.agg #[.int .i64 base, .int .i64 b2, .int .i64 base, .int .i64 0, .int .i64 (-1), .int .i64 0, .int .i64 0, .bool false, .int .i64 0, .slice (some ⟨g, 0, none⟩) 2 2]) ∧ RdR w' w'.heap.size (some ⟨g, 0, none⟩) 2 [⟨base, { data := #[] }, { data := #[118] }, false, 0⟩, ⟨b2, { data := #[] }, { data := #[119] }, false, 0⟩] ∧ Below w.heap.size w w' := by
  go_enter Tryz.func45, Tryz.ntmps45
  go_wp2
  exact bodyPost_ret (v := .agg #[.int .i64 base, .int .i64 b2, .int .i64 base, .int .i64 0, .int .i64 (-1), .int .i64 0, .int .i64 0, .bool false, .int .i64 0, .slice (some ⟨w.heap.size + 1, 0, none⟩) 2 2]) (by simp [results, Tryz.results45, go_sem]) rfl
    ⟨w.heap.size + 1, rfl, rdr_two (a := ⟨base, { data := #[] }, { data := #[118] }, false, 0⟩) (b := ⟨b2, { data := #[] }, { data := #[119] }, false, 0⟩) (at0_1 w _ [.int .i64 base, .string { data := #[] }, .string { data := #[118] }, .bool false, .int .i64 0, .int .i64 b2, .string { data := #[] }, .string { data := #[119] }, .bool false, .int .i64 0] 79), bel_alloc (belA w _) _⟩
end Go.Proofs.YtejcjmiofidedaaGreatDoor.Chn

/- How many batches a log has, at the most. -/
namespace Go.Proofs.YtejcjmiofidedaaGreatDoor.Chn
open Oct Rec Crc Bat Seg

theorem batS_len (s : Sg) : (Seg.batS s).length ≤ s.bytes.length := by
  have h3 := (sc_good s.base s.bytes).2.2.1
  have h4 := congrArg List.length h3
  rw [List.length_append] at h4
  have h5 := byR_ge (Seg.batS s)
  unfold Seg.batS at h5 ⊢
  omega
theorem batL_len {m : Nat} : ∀ {l : List Sg}, (∀ s ∈ l, s.bytes.length ≤ m) → (l.flatMap Seg.batS).length ≤ l.length * m
  | [], _ => Nat.zero_le _
  | s :: l, h => by
    have h1 := batL_len (l := l) fun t ht => h t (List.mem_cons_of_mem _ ht)
    have h2 := h s (List.mem_cons_self ..)
    have h3 := batS_len s
    rw [List.flatMap_cons, List.length_append, List.length_cons, Nat.succ_mul]
    omega
theorem allL_len {l : Lg} {m : Nat} (h : ∀ s ∈ l.segs, s.bytes.length ≤ m) : (allL l).length ≤ l.segs.length * m := Nat.le_trans (List.length_filter_le ..) (batL_len h)
theorem allT_len {l : Lg} {m : Nat} (h : ∀ s ∈ l.segs, s.bytes.length ≤ m) : (allT l).length ≤ l.segs.length * m := by
  unfold allT
  split
  · exact allL_len h
  · exact Nat.zero_le _
theorem byR_app9 (a b : List Bt) : byR (a ++ b) = byR a ++ byR b := by
  induction a with
  | nil => rw [byR_nil]; rfl
  | cons x a ih => rw [List.cons_append, byR_cons, byR_cons, ih, List.append_assoc]
theorem batL_bytes {m : Nat} : ∀ {l : List Sg}, (∀ s ∈ l, s.bytes.length ≤ m) → (byR (l.flatMap Seg.batS)).length ≤ l.length * m
  | [], _ => by rw [List.flatMap_nil, byR_nil]; exact Nat.zero_le _
  | s :: l, h => by
    have h1 := batL_bytes (l := l) fun t ht => h t (List.mem_cons_of_mem _ ht)
    have h2 := h s (List.mem_cons_self ..)
    have h4 := congrArg List.length (sc_good s.base s.bytes).2.2.1
    rw [List.length_append] at h4
    rw [List.flatMap_cons, byR_app9, List.length_append, List.length_cons, Nat.succ_mul]
    unfold Seg.batS at h1 ⊢
    omega
theorem batL_ch (l : List Sg) : ∀ b ∈ l.flatMap Seg.batS, chB b = 0 := by
  intro b hb
  obtain ⟨s, _, h2⟩ := List.mem_flatMap.1 hb
  exact (ris_ge (sc_good s.base s.bytes).1 b h2).2
theorem allL_ch {l : Lg} : ∀ b ∈ allL l, chB b = 0 := fun b hb => batL_ch l.segs b (List.mem_filter.1 hb).1
theorem readL_two {l : Lg} {off a : Int} (ha : 0 ≤ a) (hf : ∀ s ∈ l.segs, s.bytes.length ≤ 5000) (hn : l.segs.length ≤ 12) :
    (∃ e, e ≠ 0 ∧ readL l off a = ([], e) ∧ readL l off 1125899906842624 = ([], e)) ∨ ∃ (Z : List Bt) (k : Nat), readL l off a = (Z.take k, 0) ∧ readL l off 1125899906842624 = (Z, 0) ∧ k ≤ Z.length ∧ (Z ≠ [] → 0 < k) ∧ (1 < k → sizeB (Z.take k) ≤ a) ∧ (∀ b, Z[k]? = some b → a < sizeB (Z.take k) + (byB b).length) ∧ (∀ b ∈ Z, chB b = 0) := by
  unfold readL
  by_cases h1 : ckL l ≠ 0
  · exact .inl ⟨ckL l, h1, by rw [if_pos h1], by rw [if_pos h1]⟩
  rw [if_neg h1, if_neg h1, if_neg (show ¬ a < 0 by omega), if_neg (show ¬ (1125899906842624 : Int) < 0 by decide)]
  by_cases h2 : off < l.start ∨ endL l < off
  · exact .inl ⟨90, by decide, by rw [if_pos h2], by rw [if_pos h2]⟩
  rw [if_neg h2, if_neg h2]
  obtain ⟨k, k1, k2, k3, k4, k5⟩ := takeB_pre a ((allL l).filter fun b => decide (off ≤ b.last))
  refine .inr ⟨(allL l).filter fun b => decide (off ≤ b.last), k, by rw [k2], ?_, k1, k3, k4, k5, fun b hb => allL_ch b (List.mem_filter.1 hb).1⟩
  rw [takeB_all]
  unfold sizeB
  have h3 := sub_bytes (((List.filter_sublist (p := fun b => decide (off ≤ b.last))).trans (show (allL l).Sublist (batL l) from List.filter_sublist)))
  have h4 := batL_bytes hf
  unfold batL at h3
  have h5 : l.segs.length * 5000 ≤ 12 * 5000 := Nat.mul_le_mul_right _ hn
  omega
end Go.Proofs.YtejcjmiofidedaaGreatDoor.Chn
