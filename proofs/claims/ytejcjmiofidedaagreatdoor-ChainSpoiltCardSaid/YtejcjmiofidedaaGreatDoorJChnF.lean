/- Joined: ChnF, ChnG, ChnH, ChnK, ChnZ, ChnC. -/
import Derived.Test.YtejcjmiofidedaaGreatDoorJChnM
import Derived.Test.YtejcjmiofidedaaGreatDoorChnRow
import Derived.Test.YtejcjmiofidedaaGreatDoorInX
import Derived.Test.YtejcjmiofidedaaGreatDoorJSegM
/- The contracts of the landed chain's smaller functions: isOff, hasHead, look, linked, reach, Check, End. -/
namespace Go.Proofs.YtejcjmiofidedaaGreatDoor.Chn
open Go.RowKit Oct Rec Crc Bat Seg InR

def isO (n : Int) : Bool := decide (0 ≤ n ∧ n ≤ 1099511627776)
theorem isOff_any (n : Int) (w : World) : Calls Tryz.prog 71 #[.int .i64 n] w fun e w' => e = .returned (.bool (isO n)) ∧ w = w' := by
  go_enter Tryz.func71, Tryz.ntmps71
  go_wp2
  all_goals go_ret
  all_goals refine ⟨?_, rfl⟩
  · rename_i h; exact ret_bool (by simp [isO, h])
  · rename_i h; exact ret_bool (by simp [isO]; omega)
def headI (limit start : Int) (n : Nat) : Bool := decide ((256 ≤ limit ∧ limit ≤ 4096) ∧ (0 ≤ start ∧ start ≤ 1099511627776) ∧ 0 < n)
theorem headI_is (l : Lg) {n : Nat} (h : l.segs.length = n) : headL l = headI l.limit l.start n := by
  unfold headL headI
  rw [← h, decide_eq_decide, ← List.length_pos_iff]
theorem hasHead_is (limit start : Int) (A : Option Addr) (n c : Nat) (w : World) {z : Bool} (hz : headI limit start n = z) :
    Calls Tryz.prog 47 #[.agg #[.int .i64 limit, .int .i64 start, .slice A n c]] w fun e w' => e = .returned (.bool z) ∧ Below w.heap.size w w' := by
  have hb := belA w (.cells #[.int .i64 limit, .int .i64 start, .slice A n c] 24)
  have HB := Lib.hid hb
  clear hb
  by_cases h1 : 256 ≤ limit
  rotate_left
  · have HZ := Lib.hid (show z = false by rw [← hz]; exact decide_eq_false (by omega))
    clear hz
    go_enter Tryz.func47, Tryz.ntmps47
    go_wp2
    go_ret
    exact ⟨by rw [HZ.out]; rfl, HB.out⟩
  by_cases h2 : limit ≤ 4096
  rotate_left
  · have HZ := Lib.hid (show z = false by rw [← hz]; exact decide_eq_false (by omega))
    clear hz
    go_enter Tryz.func47, Tryz.ntmps47
    go_wp2
    go_ret
    exact ⟨by rw [HZ.out]; rfl, HB.out⟩
  rcases hq : isO start with _ | _
  · have HZ := Lib.hid (show z = false by rw [← hz]; simp [isO] at hq; exact decide_eq_false (by omega))
    have HQ := Lib.hid hq
    clear hz hq
    go_enter Tryz.func47, Tryz.ntmps47
    go_wp2_with (go_at_call 71; refine (isOff_any start _).mono ?_; rw [HQ.out]; rintro e w' ⟨rfl, rfl⟩)
    go_ret
    exact ⟨by rw [HZ.out]; rfl, HB.out⟩
  · have HZ := Lib.hid (show z = decide (0 < n) by rw [← hz]; simp [isO] at hq; unfold headI; rw [decide_eq_decide]; omega)
    have HQ := Lib.hid hq
    clear hz hq
    go_enter Tryz.func47, Tryz.ntmps47
    go_wp2_with (go_at_call 71; refine (isOff_any start _).mono ?_; rw [HQ.out]; rintro e w' ⟨rfl, rfl⟩)
    go_ret
    exact ⟨by rw [HZ.out]; rfl, HB.out⟩
def tbLook : List (Nat × Nat) := [(0, 8191), (0, 8191), (2, 8189), (4, 8187), (8, 8183), (16, 8175), (16, 8175), (80, 8111), (144, 8047), (304, 7887), (528, 7663), (17, 8190), (4095, 7167)]
set_option maxRecDepth 100000 in
set_option maxHeartbeats 2000000 in
theorem look_is (A : Option Addr) (n c : Nat) (base : Int) (bs : List UInt8) (w : World) (hr : Rd w w.heap.size A n bs) (hc : n ≤ c) (hn : n ≤ 137438953472) (hI : I64 base) (ht : Tab w) {E : Int} {z : Bool} (hE : endS ⟨base, bs⟩ = E) (hz : wholeS ⟨base, bs⟩ = z) :
    Calls Tryz.prog 102 #[.agg #[.int .i64 base, .slice A n c]] w fun e w' => e = .returned (.tuple #[.int .i64 E, .bool z]) ∧ Below w.heap.size w w' := by
  obtain ⟨L, g, hsc⟩ : ∃ L g, sc base bs = (L, g) := ⟨_, _, rfl⟩
  have hg := sc_good base bs
  rw [hsc] at hg
  simp only at hg
  have hlen := hr.len
  have hZ : z = (isO base && ((g : Int) == (n : Int))) := by
    rw [← hz]; unfold wholeS goodS isO; simp only [hsc, hlen]
    rw [Bool.eq_iff_iff]; simp only [Bool.and_eq_true, decide_eq_true_eq, beq_iff_eq]; omega
  have hsm : L.length ≤ 137438953472 := by have h1 := byR_ge L; omega
  have hba := belA w (.cells #[.int .i64 base, .slice A n c] 59)
  have HR := Lib.hid (rdUp hr hba)
  have HT := Lib.hid (ht.bel hba)
  have HA := Lib.hid hba
  have HSC := Lib.hid hsc
  have HZ := Lib.hid hZ
  have hbs : Seg.batS ⟨base, bs⟩ = L := by unfold Seg.batS; simp only [hsc]
  obtain ⟨m, hm⟩ : ∃ m, m = L.length := ⟨_, rfl⟩
  rw [← hm] at hsm
  have HM := Lib.hid hm
  have hmx : Tryz.prog.follows .mixedOrders = true := by kernel_rfl
  have hEE : (m = 0 ∧ E = base) ∨ (0 < m ∧ ∃ y : Bt, L[m - 1]? = some y ∧ E = y.last + 1 ∧ chB y = 0) := by
    unfold endS at hE
    rw [hbs] at hE
    by_cases h0 : L = []
    · left; subst h0; exact ⟨hm, hE.symm⟩
    · obtain ⟨y, hy, hye⟩ := endR_fin (lo := base) h0
      right
      exact ⟨by have := List.length_pos_iff.2 h0; omega, y, by rw [hm]; exact hy, by rw [← hE]; exact hye, (ris_ge hg.1 y (List.mem_of_getElem? hy)).2⟩
  clear hr hsc hg hz hlen hba ht hZ hm hE hbs
  rcases hEE with ⟨rfl, rfl⟩ | ⟨hm0, y, hy, rfl, hyc⟩
  · go_enter Tryz.func102, Tryz.ntmps102
    go_wp2_with (go_at_call 43; (with_reducible refine (Scan_is HSC.out HR.out hc hn hI HT.out).mono ?_); rintro e w2 ⟨A2, n2, c2, rfl, ho2, hb2⟩; obtain rfl : 0 = n2 := HM.out.trans ho2.len; have a0 := (hb2.cell (p := ⟨w.heap.size, 0, none⟩) (by first | (simp; done) | (simp; omega))).trans (show _ = some (.int .i64 E) by simp [go_sem]); have a1 := (hb2.cell (p := ⟨w.heap.size, 1, none⟩) (by first | (simp; done) | (simp; omega))).trans (show _ = some (.slice A n c) by simp [go_sem]); have HB2 := Lib.hid (bel_trans HA.out hb2); clear hb2 ho2)
    have HS := Lib.hid (show (fun W9 : World => W9.cell? ⟨w.heap.size, 0, none⟩ = some (.int .i64 E) ∧ W9.cell? ⟨w.heap.size, 1, none⟩ = some (.slice A n c)) w2.drew from ⟨a0, a1⟩)
    refine region_let (fun W9 : World => W9.cell? ⟨w.heap.size, 0, none⟩ = some (.int .i64 E) ∧ W9.cell? ⟨w.heap.size, 1, none⟩ = some (.slice A n c)) 99 13 hmx rfl fun ops Q HOPS HQ => ?_
    have HREG := reg_of HOPS tbLook rfl (by kernel_rfl) (by kernel_rfl) (by decide)
    refine xq 0 HOPS HREG HS.out ?_; simp only [ls0, ls1]
    refine xq 1 HOPS HREG HS.out ?_; simp only [ls0, ls1]
    refine xq 2 HOPS HREG HS.out ?_; simp only [ls0, ls1]
    refine xc 3 HOPS ?_
    go_simp
    refine (isOff_any E _).mono ?_
    rintro e w' ⟨rfl, rfl⟩
    rcases hq : isO E with _ | _
    · refine ⟨HS.out, ?_⟩
      refine xq 4 HOPS HREG HS.out ?_; simp only [ls0, ls1]
      refine xu 5 HOPS HREG HS.out ?_; simp only [ls0, ls1]
      refine xu 6 HOPS HREG HS.out ?_; simp only [ls0, ls1]
      refine xu 7 HOPS HREG HS.out ?_; simp only [ls0, ls1]
      refine xu 8 HOPS HREG HS.out ?_; simp only [ls0, ls1]
      refine xu 9 HOPS HREG HS.out ?_; simp only [ls0, ls1]
      refine xq 10 HOPS HREG HS.out ?_; simp only [ls0, ls1]
      refine xq 11 HOPS HREG HS.out ?_; simp only [ls0, ls1]
      refine xq 12 HOPS HREG HS.out ?_; simp only [ls0, ls1]
      refine stepE HOPS (by kernel_rfl) (HQ.out _ _ ?_)
      go_wp2
      refine bodyPost_ret (v := .tuple #[.int .i64 E, .bool z]) (by simp [results, Tryz.results102, go_sem, HZ.out, hq]) rfl ?_
      exact ⟨rfl, HB2.out.drew⟩
    · refine ⟨HS.out, ?_⟩
      refine xq 4 HOPS HREG HS.out ?_; simp only [ls0, ls1]
      refine xq 5 HOPS HREG HS.out ?_; simp only [ls0, ls1]
      refine xq 6 HOPS HREG HS.out ?_; simp only [ls0, ls1]
      refine xq 7 HOPS HREG HS.out ?_; simp only [ls0, ls1]
      refine xq 8 HOPS HREG HS.out ?_; simp only [ls0, ls1]
      refine xq 9 HOPS HREG HS.out ?_; simp only [ls0, ls1]
      refine xq 10 HOPS HREG HS.out ?_; simp only [ls0, ls1]
      refine xq 11 HOPS HREG HS.out ?_; simp only [ls0, ls1]
      refine xq 12 HOPS HREG HS.out ?_; simp only [ls0, ls1]
      refine stepE HOPS (by kernel_rfl) (HQ.out _ _ ?_)
      go_wp2
      refine bodyPost_ret (v := .tuple #[.int .i64 E, .bool z]) (by simp [results, Tryz.results102, go_sem, HZ.out, hq]) rfl ?_
      exact ⟨rfl, HB2.out.drew⟩
  · obtain ⟨yl, hyL⟩ : ∃ yl, yl = y.last := ⟨_, rfl⟩
    have hlast := chB_last hyc
    rw [← hyL] at hlast ⊢
    have HY := Lib.hid hy
    have HYL := Lib.hid hyL
    have hwp : IntKind.i64.wrap ((m : Int) - 1) = (m : Int) - 1 := IntWalk.i64_in _ (by omega)
    have hwy : IntKind.i64.wrap (yl + 1) = yl + 1 := IntWalk.i64_in _ (by omega)
    have htn : ((m : Int) - 1).toNat = m - 1 := by omega
    have hq2 : (1 : Int) ≤ (m : Int) := by omega
    have hq1 : (m : Int) - 1 < (m : Int) := by omega
    have hq3 : ¬ m = 0 := by omega
    clear hy hyL hyc
    go_enter Tryz.func102, Tryz.ntmps102
    go_wp2_with (go_at_call 43; (with_reducible refine (Scan_is HSC.out HR.out hc hn hI HT.out).mono ?_); rintro e w2 ⟨A2, n2, c2, rfl, ho2, hb2⟩; obtain rfl : m = n2 := HM.out.trans ho2.len; have a0 := (hb2.cell (p := ⟨w.heap.size, 0, none⟩) (by first | (simp; done) | (simp; omega))).trans (show _ = some (.int .i64 base) by simp [go_sem]); have a1 := (hb2.cell (p := ⟨w.heap.size, 1, none⟩) (by first | (simp; done) | (simp; omega))).trans (show _ = some (.slice A n c) by simp [go_sem]); have HB2 := Lib.hid (bel_trans HA.out hb2); obtain ⟨yb, yo, yx, yA, yn, yc, rfl, hyl, hyk, _, _, _, _, hyc⟩ := ho2.rd.at (k := m - 1) (by omega); have hyy : yx = y := Option.some.inj (hyk.symm.trans HY.out); have hy1 : w2.cell? ⟨yb, yo + (m - 1) * 10 + 1, none⟩ = some (.int .i64 yl) := (by have h1 := hyc 1 _ rfl; rw [hyy] at h1; rw [HYL.out]; exact h1); clear hb2 ho2 hyc hyk hyy)
    have HS := Lib.hid (show (fun W9 : World => W9.cell? ⟨w.heap.size, 0, none⟩ = some (.int .i64 base) ∧ W9.cell? ⟨w.heap.size, 1, none⟩ = some (.slice A n c)) w2.drew from ⟨a0, a1⟩)
    refine region_let (fun W9 : World => W9.cell? ⟨w.heap.size, 0, none⟩ = some (.int .i64 base) ∧ W9.cell? ⟨w.heap.size, 1, none⟩ = some (.slice A n c)) 99 13 hmx rfl fun ops Q HOPS HQ => ?_
    have HREG := reg_of HOPS tbLook rfl (by kernel_rfl) (by kernel_rfl) (by decide)
    refine xq 0 HOPS HREG HS.out ?_; simp only [ls0, ls1]
    refine xq 1 HOPS HREG HS.out ?_; simp only [ls0, ls1]
    refine xq 2 HOPS HREG HS.out ?_; simp only [ls0, ls1]
    refine xc 3 HOPS ?_
    go_simp
    refine (isOff_any base _).mono ?_
    rintro e w' ⟨rfl, rfl⟩
    rcases hq : isO base with _ | _
    · refine ⟨HS.out, ?_⟩
      refine xq 4 HOPS HREG HS.out ?_; simp only [ls0, ls1]
      refine xu 5 HOPS HREG HS.out ?_; simp only [ls0, ls1]
      refine xu 6 HOPS HREG HS.out ?_; simp only [ls0, ls1]
      refine xu 7 HOPS HREG HS.out ?_; simp only [ls0, ls1]
      refine xu 8 HOPS HREG HS.out ?_; simp only [ls0, ls1]
      refine xu 9 HOPS HREG HS.out ?_; simp only [ls0, ls1]
      refine xq 10 HOPS HREG HS.out ?_; simp only [ls0, ls1]
      refine xq 11 HOPS HREG HS.out ?_; simp only [ls0, ls1]
      refine xq 12 HOPS HREG HS.out ?_; simp only [ls0, ls1]
      refine stepE HOPS (by kernel_rfl) (HQ.out _ _ ?_)
      go_wp2
      refine bodyPost_ret (v := .tuple #[.int .i64 (yl + 1), .bool z]) (by simp [results, Tryz.results102, go_sem, HZ.out, hq]) rfl ?_
      exact ⟨rfl, HB2.out.drew⟩
    · refine ⟨HS.out, ?_⟩
      refine xq 4 HOPS HREG HS.out ?_; simp only [ls0, ls1]
      refine xq 5 HOPS HREG HS.out ?_; simp only [ls0, ls1]
      refine xq 6 HOPS HREG HS.out ?_; simp only [ls0, ls1]
      refine xq 7 HOPS HREG HS.out ?_; simp only [ls0, ls1]
      refine xq 8 HOPS HREG HS.out ?_; simp only [ls0, ls1]
      refine xq 9 HOPS HREG HS.out ?_; simp only [ls0, ls1]
      refine xq 10 HOPS HREG HS.out ?_; simp only [ls0, ls1]
      refine xq 11 HOPS HREG HS.out ?_; simp only [ls0, ls1]
      refine xq 12 HOPS HREG HS.out ?_; simp only [ls0, ls1]
      refine stepE HOPS (by kernel_rfl) (HQ.out _ _ ?_)
      go_wp2
      refine bodyPost_ret (v := .tuple #[.int .i64 (yl + 1), .bool z]) (by simp [results, Tryz.results102, go_sem, HZ.out, hq]) rfl ?_
      exact ⟨rfl, HB2.out.drew⟩
end Go.Proofs.YtejcjmiofidedaaGreatDoor.Chn

/- The contract of the landed chain's linked. -/
namespace Go.Proofs.YtejcjmiofidedaaGreatDoor.Chn
open Go.RowKit Oct Rec Crc Bat Lay Seg RowF InR

def prv (l : List Sg) : Nat → Option Sg
  | 0 => none
  | k + 1 => l[k]?
def okW : Option Sg → Bool
  | none => false
  | some s => wholeS s
theorem rd_to {w w' : World} {B n : Nat} {A : Option Addr} {l : List UInt8} (h : Rd w B A n l) (hB : B ≤ w.heap.size) (hb : Below w.heap.size w w') : Rd w' w'.heap.size A n l := (h.below hb hB).more (Nat.le_trans hB hb.size)
theorem man_at {l : List Sg} {k : Nat} {s : Sg} (hk : l[k]? = some s) : man (prv l k) (l.drop k) = if wholeO (prv l k) && folO (prv l k) s then man (some s) (l.drop (k + 1)) + 1 else 0 := by
  have hl := (List.getElem?_eq_some_iff.1 hk).1
  rw [List.drop_eq_getElem_cons hl, (List.getElem?_eq_some_iff.1 hk).2]
  rfl
def lkRel (l : List Sg) (n : Nat) (w : World) (mv ev zv iv : Value) (wr : World) : Prop :=
  ∃ k : Nat, mv = .int .i64 (k : Int) ∧ ev = .int .i64 (lkE (prv l k)) ∧ zv = .bool (okW (prv l k)) ∧ iv = .int .i64 (k : Int) ∧ k ≤ n ∧ man none l = k + man (prv l k) (l.drop k) ∧ Below w.heap.size w wr
def tb_linked4 : List (Nat × Nat) := [(0, 8388607), (1, 8388606), (2, 8388605), (4, 8388603), (12, 8388595), (20, 8388587), (32, 8388575), (96, 8388511), (32, 8388575), (32, 8388575), (544, 8388063), (1312, 8387295), (2080, 8386527), (4128, 8384479), (8352, 8380255), (16420, 8372187), (32804, 8355835), (65536, 8323071), (196608, 8191999), (65536, 8323071), (851968, 7536639), (1114116, 7274491), (2097156, 6291451)]
set_option maxRecDepth 100000 in
set_option maxHeartbeats 4000000 in
theorem linked_is (A : Option Addr) (n c : Nat) (l : List Sg) (w : World) (hr : RdG w w.heap.size A n l) (ht : Tab w) (hn : n ≤ 1099511627776) {m : Nat} {E : Int} {z : Bool} (hm : man none l = m) (hE : lkE (prv l m) = E) (hz : okW (prv l m) = z) :
    Calls Tryz.prog 75 #[.slice A n c] w fun e w' => e = .returned (.tuple #[.int .i64 (m : Int), .int .i64 E, .bool z]) ∧ Below w.heap.size w w' := by
  have HR := Lib.hid hr
  have HT := Lib.hid ht
  have HM := Lib.hid hm
  have HE := Lib.hid hE
  have HZ := Lib.hid hz
  have HL := Lib.hid hr.len
  have hmx : Tryz.prog.follows .mixedOrders = true := by kernel_rfl
  clear hr ht hm hE hz
  go_enter Tryz.func75, Tryz.ntmps75
  go_wp2
  go_loopw [2, 3, 4, 9] (fun mv ev zv iv wr => lkRel l n w mv ev zv iv wr) (fun _ _ _ iv _ => n - (intOf iv).toNat)
  case atStart => exact ⟨0, rfl, rfl, rfl, rfl, Nat.zero_le _, (Nat.zero_add _).symm, Below.refl _ _⟩
  case round =>
    obtain ⟨k, rfl, rfl, rfl, rfl, hk, hman, hb⟩ := hrel
    have HMAN := Lib.hid hman
    have HB := Lib.hid hb
    have hs := hb.size
    have HRR := Lib.hid (HR.out.below hb (Nat.le_refl _))
    have HTT := Lib.hid (HT.out.bel hb)
    clear hman hb
    by_cases hlt : k < n
    · obtain ⟨b, o, ⟨sb, ss⟩, A1, n1, c1, rfl, hbl, hxk, hc1, hn1, hrd, hI, c0, c1'⟩ := HRR.out.at hlt
      simp only at hrd hI c0
      have hbr : b < wr.heap.size := by omega
      have HX := Lib.hid hxk
      have HBX := Lib.hid (show Below wr.heap.size wr (wr.alloc (.cells #[.int .i64 sb, .slice A1 n1 c1] 59)).drew from (belA wr _).drew)
      have HRD := Lib.hid (rd_to hrd hs HBX.out)
      have HTA := Lib.hid (HTT.out.bel HBX.out)
      have HBA := Lib.hid (bel_trans HB.out HBX.out)
      have HMA := Lib.hid (man_at hxk)
      have hn1' : n1 ≤ 137438953472 := by unfold gMax at hn1; omega
      have hw1 : IntKind.i64.wrap ((k : Int) + 1) = (k : Int) + 1 := IntWalk.i64_in _ (by omega)
      obtain ⟨E2, hE2⟩ : ∃ E2, endS ⟨sb, ss⟩ = E2 := ⟨_, rfl⟩
      obtain ⟨z2, hz2⟩ : ∃ z2, wholeS ⟨sb, ss⟩ = z2 := ⟨_, rfl⟩
      have HE2 := Lib.hid hE2
      have HZ2 := Lib.hid hz2
      have b0 : (wr.alloc (.cells #[.int .i64 sb, .slice A1 n1 c1] 59)).cell? ⟨wr.heap.size, 0, none⟩ = some (.int .i64 sb) := (At0.new wr [.int .i64 sb, .slice A1 n1 c1] _).cell 0
      have b1 : (wr.alloc (.cells #[.int .i64 sb, .slice A1 n1 c1] 59)).cell? ⟨wr.heap.size, 1, none⟩ = some (.slice A1 n1 c1) := (At0.new wr [.int .i64 sb, .slice A1 n1 c1] _).cell 1
      clear hxk hrd hE2 hz2
      rcases Nat.eq_zero_or_pos k with rfl | hk0
      · simp only [Nat.zero_mul, Nat.add_zero] at c0 c1'
        go_wp2
        have HS := Lib.hid (show (fun W9 : World => W9.cell? ⟨wr.heap.size, 0, none⟩ = some (.int .i64 sb)) (wr.alloc (.cells #[.int .i64 sb, .slice A1 n1 c1] 59)).drew from b0)
        refine region_let (fun W9 : World => W9.cell? ⟨wr.heap.size, 0, none⟩ = some (.int .i64 sb)) 99 23 hmx rfl fun ops Q HOPS HQ => ?_
        have HREG := reg_of HOPS tb_linked4 rfl (by kernel_rfl) (by kernel_rfl) (by decide)
        refine xq 0 HOPS HREG HS.out ?_; simp only [ls0, ls1]; refine xq 1 HOPS HREG HS.out ?_; simp only [ls0, ls1]; refine xq 2 HOPS HREG HS.out ?_; simp only [ls0, ls1]; refine xu 3 HOPS HREG HS.out ?_; simp only [ls0, ls1]; refine xu 4 HOPS HREG HS.out ?_; simp only [ls0, ls1]; refine xu 5 HOPS HREG HS.out ?_; simp only [ls0, ls1]; refine xu 6 HOPS HREG HS.out ?_; simp only [ls0, ls1]; refine xu 7 HOPS HREG HS.out ?_; simp only [ls0, ls1]; refine xu 8 HOPS HREG HS.out ?_; simp only [ls0, ls1]; refine xu 9 HOPS HREG HS.out ?_; simp only [ls0, ls1]; refine xu 10 HOPS HREG HS.out ?_; simp only [ls0, ls1]; refine xu 11 HOPS HREG HS.out ?_; simp only [ls0, ls1]; refine xu 12 HOPS HREG HS.out ?_; simp only [ls0, ls1]; refine xu 13 HOPS HREG HS.out ?_; simp only [ls0, ls1]; refine xu 14 HOPS HREG HS.out ?_; simp only [ls0, ls1]; refine xu 15 HOPS HREG HS.out ?_; simp only [ls0, ls1]; refine xu 16 HOPS HREG HS.out ?_; simp only [ls0, ls1]; refine xu 17 HOPS HREG HS.out ?_; simp only [ls0, ls1]; refine xu 18 HOPS HREG HS.out ?_; simp only [ls0, ls1]; refine xu 19 HOPS HREG HS.out ?_; simp only [ls0, ls1]; refine xu 20 HOPS HREG HS.out ?_; simp only [ls0, ls1]; refine xu 21 HOPS HREG HS.out ?_; simp only [ls0, ls1]; refine xq 22 HOPS HREG HS.out ?_; simp only [ls0, ls1]
        refine stepE HOPS (by kernel_rfl) (HQ.out _ _ ?_)
        clear HQ HREG HOPS
        clear Q ops
        go_wp2_with (go_at_call 102; (with_reducible refine (look_is A1 n1 c1 sb ss _ HRD.out hc1 hn1' hI HTA.out HE2.out HZ2.out).mono ?_); rintro e w4 ⟨rfl, hb4⟩; have HB4 := Lib.hid (bel_trans HBA.out hb4); clear hb4)
        go_roundw
        case rel =>
          have hx : prv l (0 + 1) = some ⟨sb, ss⟩ := HX.out
          refine ⟨0 + 1, by go_num, ?_, ?_, by go_num, by omega, ?_, HB4.out⟩
          · rw [hx, ← HE2.out]; rfl
          · rw [hx, ← HZ2.out]; rfl
          · rw [HMAN.out, HMA.out, if_pos (show (wholeO (prv l 0) && folO (prv l 0) ⟨sb, ss⟩) = true from rfl), hx]; omega
        case measure => simp [intOf]; omega
      · obtain ⟨b', o', ⟨ab, as'⟩, A0, n0, c0', hA0, _, hx0, _, _, _, hIa, d0, _⟩ := HRR.out.at (k := k - 1) (by omega)
        obtain ⟨rfl, rfl⟩ : b = b' ∧ o = o' := by injection hA0 with h; injection h with h1 h2; exact ⟨h1, h2⟩
        simp only at d0
        have hpk : prv l k = some ⟨ab, as'⟩ := by obtain ⟨j, rfl⟩ : ∃ j, k = j + 1 := ⟨k - 1, by omega⟩; exact hx0
        obtain ⟨PE, hPE⟩ : ∃ PE, PE = lkE (prv l k) := ⟨_, rfl⟩
        obtain ⟨PW, hPW⟩ : ∃ PW, PW = okW (prv l k) := ⟨_, rfl⟩
        rw [← hPE, ← hPW]
        have hfo : (wholeO (prv l k) && folO (prv l k) ⟨sb, ss⟩) = (PW && decide (ab < sb ∧ PE ≤ sb)) := by rw [hPE, hPW, hpk]; rfl
        have HOK := Lib.hid (show (PW && decide (ab < sb ∧ PE ≤ sb)) = true → (wholeO (prv l k) && folO (prv l k) ⟨sb, ss⟩) = true from fun h => hfo.trans h)
        have HST := Lib.hid (show (PW && decide (ab < sb ∧ PE ≤ sb)) = false → m = k from fun h => by have h1 := HMAN.out; rw [HM.out, HMA.out, if_neg (by rw [hfo, h]; simp)] at h1; exact h1)
        have HPE := Lib.hid hPE
        have HPW := Lib.hid hPW
        have hwk : IntKind.i64.wrap ((k : Int) - 1) = (k : Int) - 1 := IntWalk.i64_in _ (by omega)
        have htn : ((k : Int) - 1).toNat = k - 1 := by omega
        have hq3 : (1 : Int) ≤ (k : Int) := by omega
        have hq4 : (k : Int) - 1 < (n : Int) := by omega
        have hkp : (0 : Int) < (k : Int) := by omega
        have d0' := (World.cell?_alloc_lt wr (.cells #[.int .i64 sb, .slice A1 n1 c1] 59) ⟨b, o + (k - 1) * 2, none⟩ hbr).trans d0
        clear hPE hPW hpk hfo hx0 hA0 d0 hIa
        go_wp2
        have HS := Lib.hid (show (fun W9 : World => W9.cell? ⟨wr.heap.size, 0, none⟩ = some (.int .i64 sb) ∧ W9.cell? ⟨b, o + (k - 1) * 2, none⟩ = some (.int .i64 ab)) (wr.alloc (.cells #[.int .i64 sb, .slice A1 n1 c1] 59)).drew from ⟨b0, d0'⟩)
        refine region_let (fun W9 : World => W9.cell? ⟨wr.heap.size, 0, none⟩ = some (.int .i64 sb) ∧ W9.cell? ⟨b, o + (k - 1) * 2, none⟩ = some (.int .i64 ab)) 99 23 hmx rfl fun ops Q HOPS HQ => ?_
        have HREG := reg_of HOPS tb_linked4 rfl (by kernel_rfl) (by kernel_rfl) (by decide)
        refine xq 0 HOPS HREG HS.out ?_; simp only [ls0, ls1]; refine xq 1 HOPS HREG HS.out ?_; simp only [ls0, ls1]; refine xq 2 HOPS HREG HS.out ?_; simp only [ls0, ls1]
        rcases hpw : PW with _ | _
        · skip
          refine xq 3 HOPS HREG HS.out ?_; simp only [ls0, ls1]; refine xq 4 HOPS HREG HS.out ?_; simp only [ls0, ls1]; refine xq 5 HOPS HREG HS.out ?_; simp only [ls0, ls1]; refine xu 6 HOPS HREG HS.out ?_; simp only [ls0, ls1]; refine xu 7 HOPS HREG HS.out ?_; simp only [ls0, ls1]; refine xu 8 HOPS HREG HS.out ?_; simp only [ls0, ls1]; refine xu 9 HOPS HREG HS.out ?_; simp only [ls0, ls1]; refine xu 10 HOPS HREG HS.out ?_; simp only [ls0, ls1]; refine xu 11 HOPS HREG HS.out ?_; simp only [ls0, ls1]; refine xu 12 HOPS HREG HS.out ?_; simp only [ls0, ls1]; refine xu 13 HOPS HREG HS.out ?_; simp only [ls0, ls1]; refine xu 14 HOPS HREG HS.out ?_; simp only [ls0, ls1]; refine xq 15 HOPS HREG HS.out ?_; simp only [ls0, ls1]; refine xq 16 HOPS HREG HS.out ?_; simp only [ls0, ls1]; refine xu 17 HOPS HREG HS.out ?_; simp only [ls0, ls1]; refine xu 18 HOPS HREG HS.out ?_; simp only [ls0, ls1]; refine xu 19 HOPS HREG HS.out ?_; simp only [ls0, ls1]; refine xu 20 HOPS HREG HS.out ?_; simp only [ls0, ls1]; refine xq 21 HOPS HREG HS.out ?_; simp only [ls0, ls1]; refine xq 22 HOPS HREG HS.out ?_; simp only [ls0, ls1]
          refine stepE HOPS (by kernel_rfl) (HQ.out _ _ ?_)
          clear HQ HREG HOPS
          clear Q ops
          have hmk : m = k := HST.out (by rw [hpw]; rfl)
          subst hmk
          go_wp2
          refine bodyPost_ret (v := .tuple #[.int .i64 (m : Int), .int .i64 PE, .bool PW]) (by simp [results, Tryz.results75, go_sem, hpw]) rfl ?_
          exact ⟨by rw [HPE.out, HPW.out, HE.out, HZ.out], HBA.out⟩
        · skip
          refine xq 3 HOPS HREG HS.out ?_; simp only [ls0, ls1]; refine xq 4 HOPS HREG HS.out ?_; simp only [ls0, ls1]; refine xq 5 HOPS HREG HS.out ?_; simp only [ls0, ls1]; refine xq 6 HOPS HREG HS.out ?_; simp only [ls0, ls1]; refine xq 7 HOPS HREG HS.out ?_; simp only [ls0, ls1]; refine xq 8 HOPS HREG HS.out ?_; simp only [ls0, ls1]; refine xq 9 HOPS HREG HS.out ?_; simp only [ls0, ls1]; refine xq 10 HOPS HREG HS.out ?_; simp only [ls0, ls1]; refine xq 11 HOPS HREG HS.out ?_; simp only [ls0, ls1]; refine xq 12 HOPS HREG HS.out ?_; simp only [ls0, ls1]; refine xq 13 HOPS HREG HS.out ?_; simp only [ls0, ls1]
          rcases hq1 : decide (sb ≤ ab) with _ | _
          · skip
            refine xq 14 HOPS HREG HS.out ?_; simp only [ls0, ls1]; refine xq 15 HOPS HREG HS.out ?_; simp only [ls0, ls1]; refine xq 16 HOPS HREG HS.out ?_; simp only [ls0, ls1]; refine xq 17 HOPS HREG HS.out ?_; simp only [ls0, ls1]; refine xq 18 HOPS HREG HS.out ?_; simp only [ls0, ls1]; refine xq 19 HOPS HREG HS.out ?_; simp only [ls0, ls1]
            rcases hq2 : decide (sb < PE) with _ | _
            · skip
              refine xq 20 HOPS HREG HS.out ?_; simp only [ls0, ls1]; refine xq 21 HOPS HREG HS.out ?_; simp only [ls0, ls1]; refine xq 22 HOPS HREG HS.out ?_; simp only [ls0, ls1]
              refine stepE HOPS (by kernel_rfl) (HQ.out _ _ ?_)
              clear HQ HREG HOPS
              clear Q ops
              have hok := HOK.out (by rw [hpw, decide_eq_true (by simp at hq1 hq2; omega)]; rfl)
              go_wp2_with (go_at_call 102; (with_reducible refine (look_is A1 n1 c1 sb ss _ HRD.out hc1 hn1' hI HTA.out HE2.out HZ2.out).mono ?_); rintro e w4 ⟨rfl, hb4⟩; have HB4 := Lib.hid (bel_trans HBA.out hb4); clear hb4)
              go_roundw
              case rel =>
                have hx : prv l (k + 1) = some ⟨sb, ss⟩ := HX.out
                refine ⟨k + 1, by go_num, ?_, ?_, by go_num, by omega, ?_, HB4.out⟩
                · rw [hx, ← HE2.out]; rfl
                · rw [hx, ← HZ2.out]; rfl
                · rw [HMAN.out, HMA.out, if_pos hok, hx]; omega
              case measure => simp [intOf]; omega
            · skip
              refine xq 20 HOPS HREG HS.out ?_; simp only [ls0, ls1]; refine xq 21 HOPS HREG HS.out ?_; simp only [ls0, ls1]; refine xq 22 HOPS HREG HS.out ?_; simp only [ls0, ls1]
              refine stepE HOPS (by kernel_rfl) (HQ.out _ _ ?_)
              clear HQ HREG HOPS
              clear Q ops
              have hmk : m = k := HST.out (by rw [decide_eq_false (by simp at hq2; omega)]; simp)
              subst hmk
              go_wp2
              refine bodyPost_ret (v := .tuple #[.int .i64 (m : Int), .int .i64 PE, .bool PW]) (by simp [results, Tryz.results75, go_sem, hpw]) rfl ?_
              exact ⟨by rw [HPE.out, HPW.out, HE.out, HZ.out], HBA.out⟩
          · skip
            refine xq 14 HOPS HREG HS.out ?_; simp only [ls0, ls1]; refine xq 15 HOPS HREG HS.out ?_; simp only [ls0, ls1]; refine xq 16 HOPS HREG HS.out ?_; simp only [ls0, ls1]; refine xu 17 HOPS HREG HS.out ?_; simp only [ls0, ls1]; refine xu 18 HOPS HREG HS.out ?_; simp only [ls0, ls1]; refine xu 19 HOPS HREG HS.out ?_; simp only [ls0, ls1]; refine xu 20 HOPS HREG HS.out ?_; simp only [ls0, ls1]; refine xq 21 HOPS HREG HS.out ?_; simp only [ls0, ls1]; refine xq 22 HOPS HREG HS.out ?_; simp only [ls0, ls1]
            refine stepE HOPS (by kernel_rfl) (HQ.out _ _ ?_)
            clear HQ HREG HOPS
            clear Q ops
            have hmk : m = k := HST.out (by rw [decide_eq_false (by simp at hq1; omega)]; simp)
            subst hmk
            go_wp2
            refine bodyPost_ret (v := .tuple #[.int .i64 (m : Int), .int .i64 PE, .bool PW]) (by simp [results, Tryz.results75, go_sem, hpw]) rfl ?_
            exact ⟨by rw [HPE.out, HPW.out, HE.out, HZ.out], HBA.out⟩
    · obtain rfl : k = n := by omega
      have hmk : m = k := by have h1 := HMAN.out; rw [HM.out, List.drop_of_length_le (by have := HL.out; omega)] at h1; exact h1
      subst hmk
      rw [HE.out, HZ.out]
      go_wp2
      refine bodyPost_ret (v := .tuple #[.int .i64 (m : Int), .int .i64 E, .bool z]) (by simp [results, Tryz.results75, go_sem]) rfl ?_
      exact ⟨rfl, HB.out⟩
end Go.Proofs.YtejcjmiofidedaaGreatDoor.Chn

/- The contracts of the landed chain's reach, Check, End, New. -/
namespace Go.Proofs.YtejcjmiofidedaaGreatDoor.Chn
open Go.RowKit Oct Rec Crc Bat Lay Seg RowF InR

theorem tooLong_any (g : Nat) (lim sb : Int) (A : Option Addr) (n c : Nat) (w : World) (h : w.cell? ⟨g, 0, none⟩ = some (.int .i64 lim)) {z : Bool} (hz : decide (lim < (n : Int)) = z) :
    Calls Tryz.prog 81 #[.agg #[.int .i64 sb, .slice A n c], .pointer (some ⟨g, 0, none⟩)] w fun e w' => e = .returned (.bool z) ∧ Below w.heap.size w w' := by
  subst hz
  have hlt := World.block_lt_of_cell? w _ h
  simp only at hlt
  go_enter Tryz.func81, Tryz.ntmps81
  go_wp2
  go_ret
  exact ⟨rfl, belA w _⟩
def anyL (lim : Int) (l : List Sg) : Bool := l.any fun s => decide (lim < (s.bytes.length : Int))
theorem anyL_hit {lim : Int} {l : List Sg} {k : Nat} {s : Sg} (hk : l[k]? = some s) (h : decide (lim < (s.bytes.length : Int)) = true) : anyL lim l = true := List.any_eq_true.2 ⟨s, List.mem_of_getElem? hk, h⟩
theorem anyL_no {lim : Int} {l : List Sg} (h : ∀ k s, k < l.length → l[k]? = some s → decide (lim < (s.bytes.length : Int)) = false) : anyL lim l = false := by
  refine List.any_eq_false.2 fun s hs => ?_
  obtain ⟨k, hk⟩ := List.mem_iff_getElem?.1 hs
  rw [h k s (List.getElem?_eq_some_iff.1 hk).1 hk]
  simp
def ixRel (lim : Int) (l : List Sg) (n : Nat) (w : World) (iv : Value) (wr : World) : Prop :=
  ∃ k : Nat, iv = .int .i64 (k : Int) ∧ k ≤ n ∧ (∀ j s, j < k → l[j]? = some s → decide (lim < (s.bytes.length : Int)) = false) ∧ Below w.heap.size w wr
set_option maxRecDepth 100000 in
set_option maxHeartbeats 2000000 in
theorem IndexFunc_is (g : Nat) (lim : Int) (A : Option Addr) (n c : Nat) (l : List Sg) (w : World) (h : w.cell? ⟨g, 0, none⟩ = some (.int .i64 lim)) (hr : RdG w w.heap.size A n l) (hn : n ≤ 1099511627776) {z : Bool} (hz : anyL lim l = z) :
    Calls Tryz.prog 107 #[.slice A n c, .func (.func 81) #[] #[.pointer (some ⟨g, 0, none⟩)]] w fun e w' => ∃ j : Int, e = .returned (.int .i64 j) ∧ decide (0 ≤ j) = z ∧ Below w.heap.size w w' := by
  have HR := Lib.hid hr
  have HL := Lib.hid hr.len
  have HC := Lib.hid h
  have HZ := Lib.hid hz
  have hlt := World.block_lt_of_cell? w _ h
  simp only at hlt
  clear hr h hz
  go_enter Tryz.func107, Tryz.ntmps107
  go_wp2
  go_loopw [8] (fun iv wr => ixRel lim l n w iv wr) (fun iv _ => n - (intOf iv).toNat)
  case atStart => exact ⟨0, rfl, Nat.zero_le _, fun j s hj => absurd hj (Nat.not_lt_zero _), Below.refl _ _⟩
  case round =>
    obtain ⟨k, rfl, hk, hno, hb⟩ := hrel
    have HNO := Lib.hid hno
    have HB := Lib.hid hb
    have hs := hb.size
    have HRR := Lib.hid (HR.out.below hb (Nat.le_refl _))
    have HCC := Lib.hid ((hb.cell (p := ⟨g, 0, none⟩) hlt).trans HC.out)
    clear hno hb
    by_cases hkn : k < n
    · obtain ⟨b, o, ⟨sb, ss⟩, A1, n1, c1, rfl, hbl, hxk, hc1, hn1, hrd, hI, c0, c1'⟩ := HRR.out.at hkn
      have hln := hrd.len
      simp only at c0 hln
      have HX := Lib.hid hxk
      clear hxk hrd
      rcases hq : decide (lim < (n1 : Int)) with _ | _
      · have HQ := Lib.hid hq
        have HNN := Lib.hid (show ∀ j s, j < k + 1 → l[j]? = some s → decide (lim < (s.bytes.length : Int)) = false from fun j s hj hs => by
          by_cases h : j < k
          · exact HNO.out j s h hs
          · obtain rfl : j = k := by omega
            rw [HX.out] at hs
            obtain rfl := Option.some.inj hs
            simp only
            rw [hln]; exact hq)
        clear hq
        go_wp2_with (go_at_call 81; (with_reducible refine (tooLong_any g lim sb A1 n1 c1 _ HCC.out HQ.out).mono ?_); rintro e w4 ⟨rfl, hb4⟩; have HB4 := Lib.hid (HB.out.trans (hb4.mono hs)); clear hb4)
        go_roundw
        case rel => exact ⟨k + 1, by go_num, by omega, HNN.out, HB4.out⟩
        case measure => simp [intOf]; omega
      · have HQ := Lib.hid hq
        have HZT := Lib.hid (show z = true from HZ.out.symm.trans (anyL_hit HX.out (by simp only; rw [hln]; exact hq)))
        clear hq
        go_wp2_with (go_at_call 81; (with_reducible refine (tooLong_any g lim sb A1 n1 c1 _ HCC.out HQ.out).mono ?_); rintro e w4 ⟨rfl, hb4⟩; have HB4 := Lib.hid (HB.out.trans (hb4.mono hs)); clear hb4)
        go_ret
        exact ⟨(k : Int), rfl, by rw [HZT.out]; exact decide_eq_true (by omega), HB4.out⟩
    · obtain rfl : k = n := by omega
      have HZF := Lib.hid (show z = false from HZ.out.symm.trans (anyL_no fun j s hj hs => HNO.out j s (by have := HL.out; omega) hs))
      go_wp2
      go_ret
      exact ⟨-1, rfl, by rw [HZF.out]; decide, HB.out⟩
theorem ContainsFunc_is (g : Nat) (lim : Int) (A : Option Addr) (n c : Nat) (l : List Sg) (w : World) (h : w.cell? ⟨g, 0, none⟩ = some (.int .i64 lim)) (hr : RdG w w.heap.size A n l) (hn : n ≤ 1099511627776) {z : Bool} (hz : anyL lim l = z) :
    Calls Tryz.prog 82 #[.slice A n c, .func (.func 81) #[] #[.pointer (some ⟨g, 0, none⟩)]] w fun e w' => e = .returned (.bool z) ∧ Below w.heap.size w w' := by
  have HR := Lib.hid hr
  have HC := Lib.hid h
  clear hr h
  go_enter Tryz.func82, Tryz.ntmps82
  go_wp2_with (go_at_call 107; (with_reducible refine (IndexFunc_is g lim A n c l _ HC.out HR.out hn hz).mono ?_); rintro e w4 ⟨j, rfl, hj, hb4⟩; have HJ := Lib.hid hj; have HB4 := Lib.hid hb4; clear hj hb4)
  go_ret
  exact ⟨by rw [← HJ.out]; rfl, HB4.out⟩
theorem prv_all {l : List Sg} : lkE (prv l l.length) = lkE (lastO none l) ∧ (l ≠ [] → okW (prv l l.length) = wholeO (lastO none l)) := by
  cases hl : l.getLast? with
  | none => obtain rfl := List.getLast?_eq_none_iff.1 hl; exact ⟨rfl, fun h => absurd rfl h⟩
  | some t =>
    obtain ⟨m, rfl⟩ := List.getLast?_eq_some_iff.1 hl
    have e : prv (m ++ [t]) (m ++ [t]).length = some t := by rw [List.length_append]; show (m ++ [t])[m.length]? = _; simp
    have e2 : lastO none (m ++ [t]) = some t := by unfold lastO; rw [hl]
    rw [e, e2]
    exact ⟨rfl, fun _ => rfl⟩
set_option maxRecDepth 100000 in
set_option maxHeartbeats 4000000 in
theorem reachC (lim start : Int) (A : Option Addr) (n c : Nat) (l : List Sg) (w : World) (hr : RdG w w.heap.size A n l) (ht : Tab w) (hn : n ≤ 1099511627776) {E C : Int} (hE : endT ⟨lim, start, l⟩ = E) (hC : ckL ⟨lim, start, l⟩ = C) :
    Calls Tryz.prog 49 #[.agg #[.int .i64 lim, .int .i64 start, .slice A n c]] w fun e w' => e = .returned (.tuple #[.int .i64 E, .int .i64 C]) ∧ Below w.heap.size w w' := by
  have hre := reach_is ⟨lim, start, l⟩
  rw [hE, hC] at hre
  have hlen := hr.len
  have hba := belA w (.cells #[.int .i64 lim, .int .i64 start, .slice A n c] 24)
  have HB_0 := Lib.hid hba
  have HL_0 := Lib.hid (At0.new w [.int .i64 lim, .int .i64 start, .slice A n c] 24)
  have HR_0 := Lib.hid (rdgUp hr hba)
  have HT_0 := Lib.hid (ht.bel hba)
  obtain ⟨hh, hhh⟩ : ∃ hh, headI lim start n = hh := ⟨_, rfl⟩
  obtain ⟨y, hy⟩ : ∃ y, anyL lim l = y := ⟨_, rfl⟩
  obtain ⟨m, hm⟩ : ∃ m, man none l = m := ⟨_, rfl⟩
  obtain ⟨PE, hPE⟩ : ∃ PE, lkE (prv l m) = PE := ⟨_, rfl⟩
  obtain ⟨z, hz⟩ : ∃ z, okW (prv l m) = z := ⟨_, rfl⟩
  have hmn : m ≤ n := by have := man_le none l; omega
  have HH := Lib.hid hhh
  have HY := Lib.hid hy
  have HM := Lib.hid hm
  have HE := Lib.hid hPE
  have HW := Lib.hid hz
  have hEC : (E, C) = if hh = false ∨ y = true then (0, 1) else if m < n ∨ z = false then (0, 1) else if 256 < n then (0, 2) else (if start < PE then PE else start, 0) := by
    rw [← hre]
    unfold reachL
    rw [headI_is ⟨lim, start, l⟩ hlen, hhh]
    show (if hh = false ∨ anyL lim l = true then _ else _) = _
    rw [hy]
    by_cases h1 : hh = false ∨ y = true
    · rw [if_pos h1, if_pos h1]
    · rw [if_neg h1, if_neg h1]
      have hne : l ≠ [] := by
        rintro rfl
        apply h1
        left
        rw [← hhh]
        unfold headI
        exact decide_eq_false (by simp at hlen; omega)
      obtain ⟨g1, g2⟩ := prv_all (l := l)
      show (if man none l < l.length ∨ wholeO (lastO none l) = false then _ else if 256 < l.length then _ else (max start (lkE (lastO none l)), 0)) = _
      rw [← g2 hne, ← g1, hlen, hm]
      by_cases h2 : m < n
      · rw [if_pos (.inl h2), if_pos (.inl h2)]
      · obtain rfl : n = m := by omega
        rw [hz, hPE]
        by_cases h3 : z = false
        · rw [if_pos (.inr h3), if_pos (.inr h3)]
        · rw [if_neg (show ¬ (n < n ∨ z = false) by simp [h3])]
          have e : max start PE = if start < PE then PE else start := by omega
          rw [e, if_neg (show ¬ (n < n ∨ z = false) by simp [h3])]
  have hways : (hh = false ∧ E = 0 ∧ C = 1) ∨ (hh = true ∧ y = true ∧ E = 0 ∧ C = 1) ∨ (hh = true ∧ y = false ∧ (m : Int) < (n : Int) ∧ E = 0 ∧ C = 1) ∨ (hh = true ∧ y = false ∧ ¬ (m : Int) < (n : Int) ∧ z = false ∧ E = 0 ∧ C = 1) ∨
      (hh = true ∧ y = false ∧ ¬ (m : Int) < (n : Int) ∧ z = true ∧ (256 : Int) < (m : Int) ∧ E = 0 ∧ C = 2) ∨ (hh = true ∧ y = false ∧ ¬ (m : Int) < (n : Int) ∧ z = true ∧ ¬ (256 : Int) < (m : Int) ∧ E = (if start < PE then PE else start) ∧ C = 0) := by
    by_cases h1 : m < n <;> by_cases h2 : 256 < n <;> cases hh <;> cases y <;> cases z <;> simp [h1, h2] at hEC <;> (obtain ⟨e1, e2⟩ := hEC) <;> simp [e1, e2] <;> omega
  clear hr ht hre hba hhh hy hm hPE hz hE hC hlen hEC
  rcases hways with ⟨rfl, hE, hC⟩ | ⟨rfl, rfl, hE, hC⟩ | ⟨rfl, rfl, h1, hE, hC⟩ | ⟨rfl, rfl, h1, rfl, hE, hC⟩ | ⟨rfl, rfl, h1, rfl, h2, hE, hC⟩ | ⟨rfl, rfl, h1, rfl, h2, hE, hC⟩
  all_goals have HEQ := Lib.hid hE
  all_goals have HCQ := Lib.hid hC
  all_goals clear hE hC
  all_goals go_enter Tryz.func49, Tryz.ntmps49
  all_goals go_wp2_with (first
    | (go_at_call 47; (with_reducible refine (hasHead_is lim start A n c _ HH.out).mono ?_); rintro e w1 ⟨rfl, hb⟩; have HB_1 := Lib.hid (bel_trans HB_0.out hb); have HL_1 := Lib.hid (HL_0.out.below hb); have HR_1 := Lib.hid (rdgUp HR_0.out hb); have HT_1 := Lib.hid (HT_0.out.bel hb); have hl1_0 : w1.cell? ⟨w.heap.size, 0, none⟩ = some (.int .i64 lim) := HL_1.out.cell 0; have hl1_1 : w1.cell? ⟨w.heap.size, 1, none⟩ = some (.int .i64 start) := HL_1.out.cell 1; have hl1_2 : w1.cell? ⟨w.heap.size, 2, none⟩ = some (.slice A n c) := HL_1.out.cell 2; clear hb)
    | (go_at_call 82; (with_reducible refine (ContainsFunc_is w.heap.size lim A n c l _ hl1_0 HR_1.out hn HY.out).mono ?_); rintro e w2 ⟨rfl, hb⟩; have HB_2 := Lib.hid (bel_trans HB_1.out hb); have HL_2 := Lib.hid (HL_1.out.below hb); have HR_2 := Lib.hid (rdgUp HR_1.out hb); have HT_2 := Lib.hid (HT_1.out.bel hb); have hl2_0 : w2.cell? ⟨w.heap.size, 0, none⟩ = some (.int .i64 lim) := HL_2.out.cell 0; have hl2_1 : w2.cell? ⟨w.heap.size, 1, none⟩ = some (.int .i64 start) := HL_2.out.cell 1; have hl2_2 : w2.cell? ⟨w.heap.size, 2, none⟩ = some (.slice A n c) := HL_2.out.cell 2; clear hb)
    | (go_at_call 75; (with_reducible refine (linked_is A n c l _ HR_2.out HT_2.out hn HM.out HE.out HW.out).mono ?_); rintro e w3 ⟨rfl, hb⟩; have HB_3 := Lib.hid (bel_trans HB_2.out hb); have HL_3 := Lib.hid (HL_2.out.below hb); have HR_3 := Lib.hid (rdgUp HR_2.out hb); have HT_3 := Lib.hid (HT_2.out.bel hb); have hl3_0 : w3.cell? ⟨w.heap.size, 0, none⟩ = some (.int .i64 lim) := HL_3.out.cell 0; have hl3_1 : w3.cell? ⟨w.heap.size, 1, none⟩ = some (.int .i64 start) := HL_3.out.cell 1; have hl3_2 : w3.cell? ⟨w.heap.size, 2, none⟩ = some (.slice A n c) := HL_3.out.cell 2; clear hb))
  all_goals refine bodyPost_ret (v := .tuple #[.int .i64 E, .int .i64 C]) (by simp [results, Tryz.results49, go_sem, HEQ.out, HCQ.out] <;> omega) rfl ?_
  all_goals first | exact ⟨rfl, HB_3.out⟩ | exact ⟨rfl, HB_2.out⟩ | exact ⟨rfl, HB_1.out⟩
end Go.Proofs.YtejcjmiofidedaaGreatDoor.Chn

/- The contracts of the landed chain's Check, End, New and copies. -/
namespace Go.Proofs.YtejcjmiofidedaaGreatDoor.Chn
open Go.RowKit Oct Rec Crc Bat Lay Seg RowF InR

def TL (w : World) (lim start : Int) (l : List Sg) (x : Int) (en : Ending) (w' : World) : Prop :=
  ∃ A n c, en = .returned (.tuple #[.agg #[.int .i64 lim, .int .i64 start, .slice A n c], .int .i64 x]) ∧ n ≤ c ∧ RdG w' w'.heap.size A n l ∧ Below w.heap.size w w'
theorem Check_is (lim start : Int) (A : Option Addr) (n c : Nat) (l : List Sg) (w : World) (hr : RdG w w.heap.size A n l) (ht : Tab w) (hn : n ≤ 1099511627776) {C : Int} (hC : ckL ⟨lim, start, l⟩ = C) :
    Calls Tryz.prog 16 #[.agg #[.int .i64 lim, .int .i64 start, .slice A n c]] w fun e w' => e = .returned (.int .i64 C) ∧ Below w.heap.size w w' := by
  have HB := Lib.hid (belA w (.cells #[.int .i64 lim, .int .i64 start, .slice A n c] 24))
  have HR := Lib.hid (rdgUp hr HB.out)
  have HT := Lib.hid (ht.bel HB.out)
  clear hr ht
  go_enter Tryz.func16, Tryz.ntmps16
  go_wp2_with (go_at_call 49; (with_reducible refine (reachC lim start A n c l _ HR.out HT.out hn rfl hC).mono ?_); rintro e w2 ⟨rfl, hb⟩; have HB2 := Lib.hid (bel_trans HB.out hb); clear hb)
  go_ret
  exact ⟨rfl, HB2.out⟩
theorem End_is (lim start : Int) (A : Option Addr) (n c : Nat) (l : List Sg) (w : World) (hr : RdG w w.heap.size A n l) (ht : Tab w) (hn : n ≤ 1099511627776) {E : Int} (hE : endT ⟨lim, start, l⟩ = E) :
    Calls Tryz.prog 18 #[.agg #[.int .i64 lim, .int .i64 start, .slice A n c]] w fun e w' => e = .returned (.int .i64 E) ∧ Below w.heap.size w w' := by
  have HB := Lib.hid (belA w (.cells #[.int .i64 lim, .int .i64 start, .slice A n c] 24))
  have HR := Lib.hid (rdgUp hr HB.out)
  have HT := Lib.hid (ht.bel HB.out)
  clear hr ht
  go_enter Tryz.func18, Tryz.ntmps18
  go_wp2_with (go_at_call 49; (with_reducible refine (reachC lim start A n c l _ HR.out HT.out hn hE rfl).mono ?_); rintro e w2 ⟨rfl, hb⟩; have HB2 := Lib.hid (bel_trans HB.out hb); clear hb)
  go_ret
  exact ⟨rfl, HB2.out⟩
theorem rdg_at0 {W : World} {g n c : Nat} {e : TypeId} {sb : Int} {A : Option Addr} {bs : List UInt8} (h : At0 W g [.int .i64 sb, .slice A n c] e) (hI : I64 sb) (hc : n ≤ c) (hn : n ≤ gMax) (hr : Rd W W.heap.size A n bs) : RdG W W.heap.size (some ⟨g, 0, none⟩) 1 [⟨sb, bs⟩] := by
  refine ⟨rfl, fun k x hx => ?_⟩
  match k, hx with
  | 0, hx =>
    obtain rfl := Option.some.inj hx
    exact ⟨g, 0, A, n, c, rfl, h.lt, hc, hn, hr, hI, h.cell 0, h.cell 1⟩
theorem at0_1 (w : World) (o : Obj) (cs : List Value) (e : TypeId) : At0 ((w.alloc o).alloc (.cells cs.toArray e)) (w.heap.size + 1) cs e := by have h := At0.new (w.alloc o) cs e; rwa [World.size_alloc] at h
theorem at0_2 (w : World) (o o2 : Obj) (cs : List Value) (e : TypeId) : At0 (((w.alloc o).alloc o2).alloc (.cells cs.toArray e)) (w.heap.size + 1 + 1) cs e := by have h := At0.new ((w.alloc o).alloc o2) cs e; rwa [World.size_alloc, World.size_alloc] at h
set_option maxRecDepth 100000 in
set_option maxHeartbeats 2000000 in
theorem New_is (lim start : Int) (w : World) {xl xs : Int} {x : List Sg} {e9 : Int} (hx : newL lim start = (⟨xl, xs, x⟩, e9)) :
    Calls Tryz.prog 14 #[.int .i64 lim, .int .i64 start] w (TL w xl xs x e9) := by
  have hh : headI lim start 1 = decide (e9 = 0) := by
    unfold newL at hx
    unfold headI
    by_cases h : (lim < 256 ∨ 4096 < lim) ∨ start < 0 ∨ 1099511627776 < start
    · rw [if_pos h] at hx
      obtain rfl : 1 = e9 := congrArg Prod.snd hx
      rw [decide_eq_decide]; omega
    · rw [if_neg h] at hx
      obtain rfl : 0 = e9 := congrArg Prod.snd hx
      rw [decide_eq_decide]; omega
  have hw := hx
  unfold newL at hw
  by_cases h : (lim < 256 ∨ 4096 < lim) ∨ start < 0 ∨ 1099511627776 < start
  · rw [if_pos h] at hw
    injection hw with h1 h2
    injection h1 with h1 h3 h4
    subst h1 h2 h3 h4
    have HH := Lib.hid (show headI lim start 1 = false from hh)
    clear hh hx h
    go_enter Tryz.func14, Tryz.ntmps14
    go_wp2_with (go_at_call 47; (with_reducible refine (hasHead_is lim start _ 1 1 _ HH.out).mono ?_); rintro e w4 ⟨rfl, hb⟩; have r0 := (hb.cell (p := ⟨w.heap.size, 0, none⟩) (by first | (simp; done) | (simp; omega))).trans (show _ = some (.int .i64 0) by simp [go_sem]); have r1 := (hb.cell (p := ⟨w.heap.size, 1, none⟩) (by first | (simp; done) | (simp; omega))).trans (show _ = some (.int .i64 0) by simp [go_sem]); have r2 := (hb.cell (p := ⟨w.heap.size, 2, none⟩) (by first | (simp; done) | (simp; omega))).trans (show _ = some (.slice none 0 0) by simp [go_sem]); have f0 := (hb.frozen (p := ⟨w.heap.size, 0, none⟩) (by first | (simp; done) | (simp; omega))).trans (show _ = false by simp [go_sem]); have f1 := (hb.frozen (p := ⟨w.heap.size, 1, none⟩) (by first | (simp; done) | (simp; omega))).trans (show _ = false by simp [go_sem]); have f2 := (hb.frozen (p := ⟨w.heap.size, 2, none⟩) (by first | (simp; done) | (simp; omega))).trans (show _ = false by simp [go_sem]); have HB := Lib.hid ((bel_alloc (bel_alloc (belA w _) _) _).trans (hb.mono (by simp; omega))); clear hb)
    refine bodyPost_ret (v := .tuple #[.agg #[.int .i64 0, .int .i64 0, .slice none 0 0], .int .i64 1]) (by simp [results, Tryz.results14, go_sem, r0, r1, r2]) rfl ?_
    exact ⟨none, 0, 0, rfl, Nat.le_refl _, RdG.nil, ((HB.out.setCell (by simp) _).setCell (by simp) _).setCell (by simp) _⟩
  · rw [if_neg h] at hw
    injection hw with h1 h2
    injection h1 with h1 h3 h4
    subst h1 h2 h3 h4
    have HH := Lib.hid (show headI lim start 1 = true from hh)
    have hI : I64 start := by unfold I64; omega
    clear hh hx h
    have HZ := Lib.hid (((At0.new w [.int .i64 0, .int .i64 0, .slice none 0 0] 24).alloc (.cells #[.int .i64 start, .slice none 0 0] 59)).alloc (.cells #[.int .i64 lim, .int .i64 start, .slice (some ⟨w.heap.size + 1, 0, none⟩) 1 1] 24))
    have HS := Lib.hid ((at0_1 w (.cells #[.int .i64 0, .int .i64 0, .slice none 0 0] 24) [.int .i64 start, .slice none 0 0] 59).alloc (.cells #[.int .i64 lim, .int .i64 start, .slice (some ⟨w.heap.size + 1, 0, none⟩) 1 1] 24))
    have HL := Lib.hid (at0_2 w (.cells #[.int .i64 0, .int .i64 0, .slice none 0 0] 24) (.cells #[.int .i64 start, .slice none 0 0] 59) [.int .i64 lim, .int .i64 start, .slice (some ⟨w.heap.size + 1, 0, none⟩) 1 1] 24)
    have HB := Lib.hid (show Below w.heap.size w (((w.alloc (.cells #[.int .i64 0, .int .i64 0, .slice none 0 0] 24)).alloc (.cells #[.int .i64 start, .slice none 0 0] 59)).alloc (.cells #[.int .i64 lim, .int .i64 start, .slice (some ⟨w.heap.size + 1, 0, none⟩) 1 1] 24)) from bel_alloc (bel_alloc (belA w _) _) _)
    go_enter Tryz.func14, Tryz.ntmps14
    go_wp2_with (go_at_call 47; (with_reducible refine (hasHead_is lim start _ 1 1 _ HH.out).mono ?_); rintro e w4 ⟨rfl, hb⟩; have HB4 := Lib.hid (bel_trans HB.out hb); have HS4 := Lib.hid (HS.out.below hb); have hz := HZ.out.below hb; have hl := HL.out.below hb; have z0 := hz.cell 0; have z1 := hz.cell 1; have z2 := hz.cell 2; have y0 := hz.frozen 0; have y1 := hz.frozen 1; have y2 := hz.frozen 2; have l0 := hl.cell 0; have l1 := hl.cell 1; have l2 := hl.cell 2; simp only [List.getElem?_cons_zero, List.getElem?_cons_succ] at z0 z1 z2 l0 l1 l2; clear hb hz hl)
    refine bodyPost_ret (v := .tuple #[.agg #[.int .i64 lim, .int .i64 start, .slice (some ⟨w.heap.size + 1, 0, none⟩) 1 1], .int .i64 0]) (by simp [results, Tryz.results14, go_sem, z0, z1, z2]) rfl ?_
    refine ⟨_, 1, 1, rfl, Nat.le_refl _, rdg_at0 (((HS4.out.set (by simp) _).set (by simp) _).set (by simp) _) hI (Nat.le_refl _) (Nat.zero_le _) Rd.nil, ((HB4.out.setCell (by simp) _).setCell (by simp) _).setCell (by simp) _⟩
end Go.Proofs.YtejcjmiofidedaaGreatDoor.Chn

/- A log's box that is stored into. -/
namespace Go.Proofs.YtejcjmiofidedaaGreatDoor.Chn
open Go.RowKit Oct Rec Crc Bat Seg RowF RowL

section
variable {W : World} {g : Nat} {e : TypeId} {a b c : Value}
theorem at0_put {cs : List Value} (h : At0 W g cs e) (j : Nat) (u : Value) : At0 (W.setCell ⟨g, j, none⟩ u) g (cs.set j u) e := by
  unfold At0 at h ⊢
  have h1 := heap_setCell_same W g j cs.toArray e u h
  rw [List.setIfInBounds_toArray] at h1
  exact h1
theorem put3 (h : At0 W g [a, b, c] e) (a' b' c' : Value) : At0 (((W.setCell ⟨g, 0, none⟩ a').setCell ⟨g, 1, none⟩ b').setCell ⟨g, 2, none⟩ c') g [a', b', c'] e := at0_put (at0_put (at0_put h 0 a') 1 b') 2 c'
theorem put3_cells (h : At0 W g [a, b, c] e) (a' b' c' : Value) (o : Obj) : ((((W.setCell ⟨g, 0, none⟩ a').setCell ⟨g, 1, none⟩ b').setCell ⟨g, 2, none⟩ c').alloc o).cell? ⟨g, 0, none⟩ = some a' ∧ ((((W.setCell ⟨g, 0, none⟩ a').setCell ⟨g, 1, none⟩ b').setCell ⟨g, 2, none⟩ c').alloc o).cell? ⟨g, 1, none⟩ = some b' ∧ ((((W.setCell ⟨g, 0, none⟩ a').setCell ⟨g, 1, none⟩ b').setCell ⟨g, 2, none⟩ c').alloc o).cell? ⟨g, 2, none⟩ = some c' :=
  have h1 := (put3 h a' b' c').alloc o
  ⟨h1.cell 0, h1.cell 1, h1.cell 2⟩
theorem bel3 {w : World} (h : Below w.heap.size w W) (hg : w.heap.size ≤ g) (a' b' c' : Value) : Below w.heap.size w (((W.setCell ⟨g, 0, none⟩ a').setCell ⟨g, 1, none⟩ b').setCell ⟨g, 2, none⟩ c') := ((h.setCell hg _).setCell hg _).setCell hg _
end
def AtO (W : World) (g o : Nat) (cs : List Value) : Prop := g < W.heap.size ∧ ∀ j v, cs[j]? = some v → W.cell? ⟨g, o + j, none⟩ = some v
theorem AtO.below {W X : World} {g o : Nat} {cs : List Value} (h : AtO W g o cs) (hb : Below W.heap.size W X) : AtO X g o cs := ⟨Nat.lt_of_lt_of_le h.1 hb.size, fun j v hv => (hb.cell (p := ⟨g, o + j, none⟩) h.1).trans (h.2 j v hv)⟩
theorem AtO.two {W : World} {g o : Nat} {u v : Value} (hl : g < W.heap.size) (h0 : W.cell? ⟨g, o, none⟩ = some u) (h1 : W.cell? ⟨g, o + 1, none⟩ = some v) : AtO W g o [u, v] := by
  refine ⟨hl, fun j x hx => ?_⟩
  match j, hx with
  | 0, hx => obtain rfl : u = x := Option.some.inj hx; exact h0
  | 1, hx => obtain rfl : v = x := Option.some.inj hx; exact h1
def TO (w : World) (lim start : Int) (l : List Sg) (x : Int) (en : Ending) (w' : World) : Prop :=
  ∃ A n c, en = .returned (.tuple #[.agg #[.int .i64 lim, .int .i64 start, .slice A n c], .int .i64 x]) ∧ OwnG w' 59 (fun b => w.heap.size ≤ b) w.heap.size (.slice A n c) n l ∧ Below w.heap.size w w'
theorem TO.tl {w w' : World} {lim start x : Int} {l : List Sg} {en : Ending} (h : TO w lim start l x en w') : TL w lim start l x en w' := by
  obtain ⟨A, n, c, h1, h2, h3⟩ := h
  exact ⟨A, n, c, h1, h2.cap, h2.rd, h3⟩
theorem wp_app {P : Program} {o : Oper} {a : Act} {w w' : World} {K : Act → World → Prop} {Q : Exit → Act → World → Prop} {vs vx v : Value} (s x : Operand) (t : TypeId)
    (ho : o.op = .call { callee := .builtin .append, args := #[s, x], argTypes := #[t, t] }) (hs : a.eval s = vs) (hx : a.eval x = vx) (hrun : (Builtin.append_ #[t, t] o.type #[vs, vx]).run P w = .ok v w') (h : K (a.put o.dst v) w') : Oper.wp P o a w K Q := by
  unfold Oper.wp execOp
  simp only [ho, resolve, invoke, builtin, Sem.run_bind, Sem.run_pure, Result.andThen_ok, List.map_toArray, List.map_cons, List.map_nil, hs, hx, hrun]
  exact h
theorem app_core {M B n n6 c6 : Nat} {W : World} {A' : Option Addr} {c' : Nat} {L : List Sg} {y : Sg} {A6 : Option Addr} {r : Nat}
    (hown : OwnG W 59 (fun b => B ≤ b) B (.slice A' n c') n L) (hMB : M ≤ B) (hn : n ≤ 1000000) (hl : LeadG W (fun b => M ≤ b) (Value.slice A' n c').ownBlock ((y, A6, n6, c6) : GX))
    (hr : RdF segC 2 W W.heap.size (some ⟨r, 0, none⟩) 1 [((y, A6, n6, c6) : GX)]) (hBW : B ≤ W.heap.size) :
    ∃ A7 c7 w7, (Builtin.append_ #[22, 22] 22 #[.slice A' n c', .slice (some ⟨r, 0, none⟩) 1 1]).run Tryz.prog W = .ok (.slice A7 (n + 1) c7) w7 ∧ OwnG w7 59 (fun b => M ≤ b) M (.slice A7 (n + 1) c7) (n + 1) (L ++ [y]) ∧ Below B W w7 := by
  obtain ⟨hs0, h1, h2, h3⟩ := hown
  obtain ⟨A7, c7, w7, k1, k2, k3, k4⟩ := run_appFG (P := Tryz.prog) W segSh 32 B 22 22 59 Tryz.underlying22 segInfo (.slice A' n c') n hs0 h1 _ (some ⟨r, 0, none⟩) 1 1 [(y, A6, n6, c6)] hr (by omega) (by omega) hBW
  refine ⟨A7, c7, w7, k1, ⟨hs0 ++ [(y, A6, n6, c6)], k2.more (by omega), by rw [List.map_append, h2]; rfl, fun z hz => ?_⟩, below_of_grown W h1 k3 hBW⟩
  rcases List.mem_append.1 hz with h9 | h9
  · have h10 := (h3 z h9).step k3 k4
    exact ⟨h10.1, h10.2.1, h10.2.2.1, h10.2.2.2.1, fun a ha hn0 => ⟨by have := (h10.2.2.2.2 a ha hn0).1; omega, (h10.2.2.2.2 a ha hn0).2⟩⟩
  · obtain rfl : z = (y, A6, n6, c6) := by simpa using h9
    exact hl.step k3 k4
theorem lead_old {M B B8 n n6 c6 : Nat} {w5 W : World} {A' : Option Addr} {c' : Nat} {L : List Sg} {y : Sg} {A6 : Option Addr} {e8 : TypeId}
    (hown : OwnG W 59 (fun b => B ≤ b) B (.slice A' n c') n L) (hB : w5.heap.size ≤ B) (ho : OwnB w5 e8 B8 (.slice A6 n6 c6) n6 y.bytes) (hM8 : M ≤ B8) (hg : n6 ≤ gMax) (hI : I64 y.base) (hb : Below w5.heap.size w5 W) :
    LeadG W (fun b => M ≤ b) (Value.slice A' n c').ownBlock ((y, A6, n6, c6) : GX) := by
  refine ⟨(ho.rd.below hb (Nat.le_refl _)).more hb.size, ho.cap, hg, hI, fun a ha hn0 => ?_⟩
  simp only at ha hn0
  rcases ho.2 with ⟨hv, hz⟩ | ⟨g, cap, cur, hv, hbg, hgl⟩
  · injection hv with _ h2; omega
  · have hlt := World.ownsRow.lt ho g (by rw [hv]; rfl)
    injection hv with h9
    rw [ha] at h9
    obtain rfl := Option.some.inj h9
    refine ⟨Nat.le_trans hM8 hbg, fun he => ?_⟩
    have h10 := (hown.lt _ he.symm).1
    simp only at h10 hlt
    omega
theorem app_one {M B B8 n n6 c6 : Nat} {w5 W : World} {A' : Option Addr} {c' : Nat} {L : List Sg} {y : Sg} {A6 : Option Addr} {e8 : TypeId} {r : Nat}
    (hown : OwnG W 59 (fun b => B ≤ b) B (.slice A' n c') n L) (hB : w5.heap.size ≤ B) (hM : M ≤ w5.heap.size) (hn : n ≤ 1000000) (ho : OwnB w5 e8 B8 (.slice A6 n6 c6) n6 y.bytes) (hM8 : M ≤ B8) (hg : n6 ≤ gMax) (hI : I64 y.base) (hb : Below w5.heap.size w5 W)
    (hr : RdF segC 2 W W.heap.size (some ⟨r, 0, none⟩) 1 [((y, A6, n6, c6) : GX)]) (hBW : B ≤ W.heap.size) :
    ∃ A7 c7 w7, (Builtin.append_ #[22, 22] 22 #[.slice A' n c', .slice (some ⟨r, 0, none⟩) 1 1]).run Tryz.prog W = .ok (.slice A7 (n + 1) c7) w7 ∧ OwnG w7 59 (fun b => M ≤ b) M (.slice A7 (n + 1) c7) (n + 1) (L ++ [y]) ∧ Below w5.heap.size w5 w7 := by
  have hl := lead_old hown hB ho hM8 hg hI hb
  obtain ⟨A7, c7, w7, k1, k2, k3⟩ := app_core hown (Nat.le_trans hM hB) hn hl hr hBW
  exact ⟨A7, c7, w7, k1, k2, hb.trans (k3.mono hB)⟩
theorem app_two {M B B8 n n6 c6 : Nat} {W : World} {A' : Option Addr} {c' : Nat} {L : List Sg} {y : Sg} {A6 : Option Addr} {e8 : TypeId} {r : Nat}
    (hown : OwnG W 59 (fun b => B ≤ b) B (.slice A' n c') n L) (hMB : M ≤ B) (hn : n ≤ 1000000) (ho : OwnB W e8 B8 (.slice A6 n6 c6) n6 y.bytes) (hM8 : M ≤ B8) (hg : n6 ≤ gMax) (hI : I64 y.base) (hv : ∀ g, (Value.slice A' n c').ownBlock = some g → g < B8)
    (hr : RdF segC 2 W W.heap.size (some ⟨r, 0, none⟩) 1 [((y, A6, n6, c6) : GX)]) (hBW : B ≤ W.heap.size) :
    ∃ A7 c7 w7, (Builtin.append_ #[22, 22] 22 #[.slice A' n c', .slice (some ⟨r, 0, none⟩) 1 1]).run Tryz.prog W = .ok (.slice A7 (n + 1) c7) w7 ∧ OwnG w7 59 (fun b => M ≤ b) M (.slice A7 (n + 1) c7) (n + 1) (L ++ [y]) ∧ Below B W w7 :=
  app_core hown hMB hn (leadG_own (s := y) ho hg hI hM8 hv) hr hBW
theorem ownG_lit {M : Nat} (w : World) (v : Int) (e : TypeId) (hI : I64 v) (hM : M ≤ w.heap.size) : OwnG (w.alloc (.cells #[.int .i64 v, .slice none 0 0] e)) e (fun b => M ≤ b) M (.slice (some ⟨w.heap.size, 0, none⟩) 1 1) 1 [⟨v, []⟩] := by
  refine ⟨[((⟨v, []⟩ : Sg), none, 0, 0)], World.ownsRow_lit w _ 1 hM (by unfold maxLen; omega) (by simp), rfl, fun x hx => ?_⟩
  obtain rfl : x = ((⟨v, []⟩ : Sg), none, 0, 0) := by simpa using hx
  exact ⟨⟨rfl, by simp⟩, Nat.le_refl _, Nat.zero_le _, hI, fun a ha => by cases ha⟩
theorem cut_len (s : Sg) (off : Int) : (cutS s off).bytes.length ≤ s.bytes.length := by
  have h3 := (sc_good s.base s.bytes).2.2.1
  have h9 : ∀ bs : List Bt, (byR (Seg.ahead off bs)).length ≤ (byR bs).length := fun bs => by
    induction bs with
    | nil => exact Nat.le_refl _
    | cons b bs ih =>
      unfold Seg.ahead
      split
      · rw [byR_nil]; exact Nat.zero_le _
      · rw [byR_cons, byR_cons, List.length_append, List.length_append]; omega
  have h4 := congrArg List.length h3
  rw [List.length_append] at h4
  have h5 := h9 (Seg.batS s)
  show (byR (Seg.ahead off (Seg.batS s))).length ≤ _
  unfold Seg.batS at h5 ⊢
  omega
theorem OwnG.off9 {w : World} {e : TypeId} {M g n : Nat} {v : Value} {L : List Sg} (h : OwnG w e (fun b => M ≤ b) M v n L) (hg : g < M) (j : Nat) (u : Value) : OwnG (w.setCell ⟨g, j, none⟩ u) e (fun b => M ≤ b) M v n L :=
  h.off (fun h9 => absurd (show M ≤ g from (h.lt g h9).1) (by omega)) (fun b (hb : M ≤ b) => show b ≠ g by omega) u
theorem OwnG.off3 {w : World} {e : TypeId} {M g n : Nat} {v : Value} {L : List Sg} (h : OwnG w e (fun b => M ≤ b) M v n L) (hg : g < M) (a b c : Value) : OwnG (((w.setCell ⟨g, 0, none⟩ a).setCell ⟨g, 1, none⟩ b).setCell ⟨g, 2, none⟩ c) e (fun b => M ≤ b) M v n L :=
  ((h.off9 hg 0 a).off9 hg 1 b).off9 hg 2 c
theorem OwnG.put2 {w : World} {e : TypeId} {M n c k n6 c6 : Nat} {A A6 : Option Addr} {L : List Sg} {y : Sg} (h : OwnG w e (fun b => M ≤ b) M (.slice A n c) n L) (hk : k < n) (hl : LeadG w (fun b => M ≤ b) (Value.slice A n c).ownBlock ((y, A6, n6, c6) : GX)) :
    ∃ g u v, A = some ⟨g, 0, none⟩ ∧ M ≤ g ∧ g < w.heap.size ∧ w.cell? ⟨g, k * 2, none⟩ = some u ∧ w.cell? ⟨g, k * 2 + 1, none⟩ = some v ∧ (∀ j, w.frozen? ⟨g, j, none⟩ = false) ∧
      OwnG ((w.setCell ⟨g, k * 2, none⟩ (.int .i64 y.base)).setCell ⟨g, k * 2 + 1, none⟩ (.slice A6 n6 c6)) e (fun b => M ≤ b) M (.slice A n c) n (L.set k y) ∧ Below M w ((w.setCell ⟨g, k * 2, none⟩ (.int .i64 y.base)).setCell ⟨g, k * 2 + 1, none⟩ (.slice A6 n6 c6)) := by
  obtain ⟨hs, h1, h2, h3⟩ := h
  obtain ⟨g, rfl, hMg, hgl⟩ := h1.form (by omega)
  have hlen := h1.len segSh
  obtain ⟨x, hx⟩ : ∃ x, hs[k]? = some x := ⟨_, List.getElem?_eq_getElem (by omega)⟩
  have s1 := h1.set segSh hMg hx (i := 0) (y := ((⟨y.base, x.1.bytes⟩ : Sg), x.2)) (u := .int .i64 y.base) (by omega) rfl
  have hx2 : (hs.set k ((⟨y.base, x.1.bytes⟩ : Sg), x.2))[k]? = some ((⟨y.base, x.1.bytes⟩ : Sg), x.2) := by rw [List.getElem?_set_self (by omega)]
  have s2 := s1.1.set segSh hMg hx2 (i := 1) (y := ((y, A6, n6, c6) : GX)) (u := .slice A6 n6 c6) (by omega) rfl
  rw [List.set_set] at s2
  refine ⟨g, _, _, rfl, hMg, hgl, h1.cellAt segSh hx (i := 0) rfl, h1.cellAt segSh hx (i := 1) rfl, fun j => h1.frozen j, ⟨hs.set k (y, A6, n6, c6), s2.1, by rw [List.map_set, h2], fun z hz => ?_⟩, s1.2.trans s2.2⟩
  have hz9 : LeadG w (fun b => M ≤ b) (some g) z := by
    rcases List.mem_or_eq_of_mem_set hz with h9 | h9
    · exact h3 z h9
    · rw [h9]; exact hl
  exact hz9.keep (by simp) fun b o hb _ hne => (cell_off (show b ≠ g from fun h9 => hne (by rw [h9]))).trans (cell_off (show b ≠ g from fun h9 => hne (by rw [h9])))
theorem of_base {base limit : Int} {l : List Bt} {x : Sg} (h : ofS base l limit = (x, 0)) : x.base = base := (all_len (of_good h).2.2.2 (by simp)).2
section
variable {W : World} {g o : Nat} {e : TypeId} {a b c v0 v1 v2 v3 v4 v5 v6 v7 v8 v9 : Value}
theorem cel1 (h : At0 W g [a] e) : W.cell? ⟨g, 0, none⟩ = some a := h.cell 0
theorem cel2 (h : At0 W g [a, b] e) : W.cell? ⟨g, 0, none⟩ = some a ∧ W.cell? ⟨g, 1, none⟩ = some b := ⟨h.cell 0, h.cell 1⟩
theorem cel3 (h : At0 W g [a, b, c] e) : W.cell? ⟨g, 0, none⟩ = some a ∧ W.cell? ⟨g, 1, none⟩ = some b ∧ W.cell? ⟨g, 2, none⟩ = some c := ⟨h.cell 0, h.cell 1, h.cell 2⟩
theorem frz3 (h : At0 W g [a, b, c] e) : W.frozen? ⟨g, 0, none⟩ = false ∧ W.frozen? ⟨g, 1, none⟩ = false ∧ W.frozen? ⟨g, 2, none⟩ = false := ⟨h.frozen 0, h.frozen 1, h.frozen 2⟩
theorem cel10 (h : At0 W g [v0, v1, v2, v3, v4, v5, v6, v7, v8, v9] e) : W.cell? ⟨g, 0, none⟩ = some v0 ∧ W.cell? ⟨g, 1, none⟩ = some v1 ∧ W.cell? ⟨g, 2, none⟩ = some v2 ∧ W.cell? ⟨g, 3, none⟩ = some v3 ∧ W.cell? ⟨g, 4, none⟩ = some v4 ∧ W.cell? ⟨g, 5, none⟩ = some v5 ∧ W.cell? ⟨g, 6, none⟩ = some v6 ∧ W.cell? ⟨g, 7, none⟩ = some v7 ∧ W.cell? ⟨g, 8, none⟩ = some v8 ∧ W.cell? ⟨g, 9, none⟩ = some v9 := ⟨h.cell 0, h.cell 1, h.cell 2, h.cell 3, h.cell 4, h.cell 5, h.cell 6, h.cell 7, h.cell 8, h.cell 9⟩
theorem del2 (h : AtO W g o [a, b]) : W.cell? ⟨g, o, none⟩ = some a ∧ W.cell? ⟨g, o + 1, none⟩ = some b := ⟨h.2 0 _ rfl, h.2 1 _ rfl⟩
end
end Go.Proofs.YtejcjmiofidedaaGreatDoor.Chn

/- The contract of the landed chain's copies. -/
namespace Go.Proofs.YtejcjmiofidedaaGreatDoor.Chn
open Go.RowKit Oct Rec Crc Bat Lay Seg RowF InR

def tb_copies5 : List (Nat × Nat) := [(0, 1023), (0, 1023), (0, 1023), (4, 1019), (0, 1023), (16, 1007), (32, 991), (72, 951), (255, 1020), (511, 639)]
theorem row_set {hs : List GX} {Z : List Value} {k : Nat} (hk : hs.length = k) (hz : 2 ≤ Z.length) (y : GX) : ((hs.flatMap segC ++ Z).set (k * 2) (.int .i64 y.1.base)).set (k * 2 + 1) (.slice y.2.1 y.2.2.1 y.2.2.2) = (hs ++ [y]).flatMap segC ++ Z.drop 2 := by
  match Z, hz with
  | z0 :: z1 :: Z, _ =>
    have h := segSh.flat hs
    rw [hk] at h
    rw [List.set_append_right _ _ (by omega), h, Nat.sub_self, List.set_append_right _ _ (by omega), h, Nat.add_sub_cancel_left, List.flatMap_append]
    simp [segC]
theorem own_below {w w' : World} {B size n : Nat} {e : TypeId} {v : Value} {xs : List Value} (h : w.ownsRow B e size v n xs) (hb : Below w.heap.size w w') : w'.ownsRow B e size v n xs := World.ownsRow.kept (row := none) h ⟨hb.os, hb.tape, hb.output, hb.size, fun k hk _ => hb.block k hk⟩ (by cases v.ownBlock <;> simp)
def cpRel (l : List Sg) (n : Nat) (w : World) (iv : Value) (wr : World) : Prop :=
  ∃ (k : Nat) (hs : List GX) (Z : List Value), iv = .int .i64 (k : Int) ∧ k ≤ n ∧ hs.map (·.1) = l.take k ∧ Z.length = (n - k) * 2 ∧ wr.ownsRow w.heap.size 59 2 (.slice (some ⟨w.heap.size, 0, none⟩) n n) n (hs.flatMap segC ++ Z) ∧
    (∀ x ∈ hs, LeadG wr (fun b => w.heap.size ≤ b) (some w.heap.size) x) ∧ Below w.heap.size w wr
set_option maxRecDepth 100000 in
set_option maxHeartbeats 4000000 in
theorem copies_is (A : Option Addr) (n c : Nat) (l : List Sg) (w : World) (hr : RdG w w.heap.size A n l) (hn : n ≤ 1000000) :
    Calls Tryz.prog 60 #[.slice A n c] w fun e w' => ∃ A' c', e = .returned (.slice A' n c') ∧ OwnG w' 59 (fun b => w.heap.size ≤ b) w.heap.size (.slice A' n c') n l ∧ Below w.heap.size w w' := by
  have HR := Lib.hid hr
  have HL := Lib.hid hr.len
  obtain ⟨i0, z0, hi, hz, hs0, hb0, hzs⟩ := segInfo
  have hmx : Tryz.prog.follows .mixedOrders = true := by kernel_rfl
  clear hr
  go_enter Tryz.func60, Tryz.ntmps60
  go_wp2_with (at_make; refine wpList_make_full _ rfl _ _ 22 rfl w.heap.size 59 i0 z0 2 Tryz.underlying22 hi hz hs0 _ _ _ _ n rfl rfl rfl rfl (by rw [hb0]; omega) (by unfold maxLen; omega) (Nat.le_refl _) ?_; intro w1 hown hgr; have HOWN := Lib.hid hown; have HG := Lib.hid (show Below w.heap.size w w1 from ⟨hgr.os, hgr.tape, hgr.output, hgr.size, fun k hk => hgr.block k hk (by simp)⟩); clear hown hgr)
  go_loopw [11] (fun iv wr => cpRel l n w iv wr) (fun iv _ => n - (intOf iv).toNat)
  case atStart => exact ⟨0, [], _, rfl, Nat.zero_le _, rfl, by rw [Array.length_toList, size_madeCells, Nat.sub_zero], HOWN.out, by simp, HG.out⟩
  case round =>
    obtain ⟨k, hs, Z, rfl, hk, hhs, hZ, hown, hld, hb⟩ := hrel
    have HHS := Lib.hid hhs
    have HOWN2 := Lib.hid hown
    have HLD := Lib.hid hld
    have HB := Lib.hid hb
    have hsz := hb.size
    have HRR := Lib.hid (HR.out.below hb (Nat.le_refl _))
    have hkl : hs.length = k := by have h := congrArg List.length hhs; rw [List.length_map, List.length_take, HL.out] at h; omega
    clear hhs hown hld hb
    by_cases hlt : k < n
    · obtain ⟨b, o, ⟨sb, ss⟩, A1, n1, c1, rfl, hbl, hxk, hc1, hn1, hrd, hI, c0, c1'⟩ := HRR.out.at hlt
      simp only at hrd hI c0
      have hgw : w.heap.size < wr.heap.size := ((World.ownsRow.lt HOWN2.out) w.heap.size rfl).2
      have HX := Lib.hid hxk
      have HBX := Lib.hid (show Below wr.heap.size wr (wr.alloc (.cells #[.int .i64 sb, .slice A1 n1 c1] 59)).drew from (belA wr _).drew)
      have HRD := Lib.hid ((hrd.below HBX.out hsz).more (Nat.le_trans hsz HBX.out.size))
      have HOW := Lib.hid (own_below HOWN2.out HBX.out)
      have HAT := Lib.hid (At0.new wr [.int .i64 sb, .slice A1 n1 c1] 59)
      have hsW : (wr.alloc (.cells #[.int .i64 sb, .slice A1 n1 c1] 59)).drew.heap.size = wr.heap.size + 1 := by simp
      have hn1' : n1 ≤ 549755813888 := by unfold gMax at hn1; omega
      clear hxk hrd
      go_wp2
      have hbd := (Below.refl (wr.alloc (.cells #[.int .i64 sb, .slice A1 n1 c1] 59)).heap.size (wr.alloc (.cells #[.int .i64 sb, .slice A1 n1 c1] 59))).drew
      have HX_R5 := Lib.hid (HAT.out.below hbd)
      have HSR5 := Lib.hid (show (fun W9 : World => W9.cell? ⟨wr.heap.size, 0, none⟩ = some (.int .i64 sb) ∧ W9.cell? ⟨wr.heap.size, 1, none⟩ = some (.slice A1 n1 c1)) (wr.alloc (.cells #[.int .i64 sb, .slice A1 n1 c1] 59)).drew from ⟨HX_R5.out.cell 0, HX_R5.out.cell 1⟩)
      clear hbd
      refine region_let (fun W9 : World => W9.cell? ⟨wr.heap.size, 0, none⟩ = some (.int .i64 sb) ∧ W9.cell? ⟨wr.heap.size, 1, none⟩ = some (.slice A1 n1 c1)) 9 10 hmx rfl fun ops Q HOPS HQ => ?_
      refine yq 0 HOPS HSR5.out ?_; simp only [ls0, ls1]; refine yq 1 HOPS HSR5.out ?_; simp only [ls0, ls1]; refine yq 2 HOPS HSR5.out ?_; simp only [ls0, ls1]; refine yq 3 HOPS HSR5.out ?_; simp only [ls0, ls1]; refine yq 4 HOPS HSR5.out ?_; simp only [ls0, ls1]; refine yq 5 HOPS HSR5.out ?_; simp only [ls0, ls1]
      refine xc 6 HOPS ?_
      go_simp
      with_reducible refine (Clone_any A1 n1 c1 ss _ _ HRD.out (Nat.le_refl _) hn1').mono ?_
      rintro e w6 ⟨A4, n4, c4, rfl, ho, hb⟩
      have HX_6 := Lib.hid (HX_R5.out.below hb)
      have hsz6 := hb.size
      have HO6 := Lib.hid ho
      have HR6 := Lib.hid (own_below HOW.out hb)
      have HB6 := Lib.hid ((HB.out.trans (HBX.out.mono hsz)).trans (hb.mono (by rw [hsW]; omega)))
      have HK6 := Lib.hid (show Below wr.heap.size wr w6 from HBX.out.trans (hb.mono (by rw [hsW]; omega)))
      have r0 := World.ownsRow.cellAt HR6.out (k * 2) (by omega)
      have r1 := World.ownsRow.cellAt HR6.out (k * 2 + 1) (by omega)
      have f0 := World.ownsRow.frozenAt HR6.out (k * 2)
      have f1 := World.ownsRow.frozenAt HR6.out (k * 2 + 1)
      rw [List.getElem?_eq_getElem (by rw [List.length_append, segSh.flat]; omega)] at r0 r1
      have hn4 := ho.len
      clear ho
      have HSR5w6 := Lib.hid (show (fun W9 : World => W9.cell? ⟨wr.heap.size, 0, none⟩ = some (.int .i64 sb) ∧ W9.cell? ⟨wr.heap.size, 1, none⟩ = some (.slice A1 n1 c1)) w6 from ⟨HX_6.out.cell 0, HX_6.out.cell 1⟩)
      clear hb
      refine ⟨HSR5w6.out, ?_⟩
      refine yq 7 HOPS HSR5w6.out ?_; simp only [ls0, ls1]; refine yq 8 HOPS HSR5w6.out ?_; simp only [ls0, ls1]
      refine xl 9 HOPS ?_
      go_simp
      refine stepE HOPS (by kernel_rfl) (HQ.out _ _ ?_)
      clear HQ HOPS
      clear Q ops
      have hlead : LeadG w6 (fun b => w.heap.size ≤ b) (some w.heap.size) ((⟨sb, ss⟩, A4, n4, c4) : GX) := leadG_own HO6.out (by unfold gMax at hn1 ⊢; have h9 := HRD.out.len; omega) hI (by rw [hsW]; omega) fun g hg => by injection hg with hg; rw [hsW]; omega
      have hst := World.ownsRow.stored HR6.out (k * 2) (.int .i64 sb)
      have hst2 := World.ownsRow.stored hst.1 (k * 2 + 1) (.slice A4 n4 c4)
      have hrs := row_set (Z := Z) hkl (by omega) ((⟨sb, ss⟩, A4, n4, c4) : GX)
      simp only at hrs
      rw [hrs] at hst2
      have HS2 := Lib.hid hst2.1
      have HLD2 := Lib.hid (show ∀ x ∈ hs ++ [((⟨sb, ss⟩, A4, n4, c4) : GX)], LeadG ((w6.setCell ⟨w.heap.size, k * 2, none⟩ (.int .i64 sb)).setCell ⟨w.heap.size, k * 2 + 1, none⟩ (.slice A4 n4 c4)) (fun b => w.heap.size ≤ b) (some w.heap.size) x from fun x hx => by
        rcases List.mem_append.1 hx with h9 | h9
        · exact (((HLD.out x h9).below HK6.out).grown hst.2).grown hst2.2
        · obtain rfl : x = _ := by simpa using h9
          exact (hlead.grown hst.2).grown hst2.2)
      have HM2 := Lib.hid (show (hs ++ [((⟨sb, ss⟩, A4, n4, c4) : GX)]).map (·.1) = l.take (k + 1) by rw [List.map_append, HHS.out, List.take_add_one, HX.out]; rfl)
      clear hlead hst hst2 hrs r0 r1 f0 f1
      go_wp2
      go_roundw
      case rel => exact ⟨k + 1, _, _, by go_num, by omega, HM2.out, by rw [List.length_drop]; omega, HS2.out, HLD2.out, (HB6.out.setCell (by simp) _).setCell (by simp) _⟩
      case measure => simp [intOf]; omega
    · obtain rfl : k = n := by omega
      have hZ0 : Z = [] := List.eq_nil_of_length_eq_zero (by omega)
      subst hZ0
      have HFIN := Lib.hid (show OwnG wr 59 (fun b => w.heap.size ≤ b) w.heap.size (.slice (some ⟨w.heap.size, 0, none⟩) k k) k l from ⟨hs, by have h := HOWN2.out; rw [List.append_nil] at h; exact h, by rw [HHS.out]; exact List.take_of_length_le (by have := HL.out; omega), HLD.out⟩)
      go_wp2
      go_ret
      exact ⟨_, _, rfl, HFIN.out, HB.out⟩
end Go.Proofs.YtejcjmiofidedaaGreatDoor.Chn
