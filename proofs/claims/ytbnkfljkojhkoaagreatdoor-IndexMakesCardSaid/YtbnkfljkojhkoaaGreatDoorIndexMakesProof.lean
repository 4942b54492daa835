/- An index, and whether entries are one, is just what the document says, of any segment; no condition.
-/
import Derived.Test.YtbnkfljkojhkoaaGreatDoorIdxW
import Derived.Test.YtbnkfljkojhkoaaGreatDoorIdxV
import Derived.Test.YtbnkfljkojhkoaaGreatDoorJIn
import Derived.Test.YtbnkfljkojhkoaaGreatDoorIdxRM
import Derived.Test.YtbnkfljkojhkoaaGreatDoorJIdxR
import Derived.Test.YtbnkfljkojhkoaaGreatDoorJIdxM
import Derived.Test.YtbnkfljkojhkoaaGreatDoorRows
import Derived.WalkKit
import Derived.ProofKit
import Derived.OpenShut
import Derived.ChangeOld
import Derived.Below
import Derived.Carry
import Derived.Test.YtbnkfljkojhkoaaGreatDoorJOct
import Derived.Test.YtbnkfljkojhkoaaGreatDoorSegArg
import Derived.Test.YtbnkfljkojhkoaaGreatDoorIdxEnt
import Derived.Test.YtbnkfljkojhkoaaGreatDoorJCrc
import Derived.Test.YtbnkfljkojhkoaaGreatDoorTie
import Derived.Test.YtbnkfljkojhkoaaGreatDoorCards
import Derived.SevenTiedAt
/- The walk of IndexMakes. -/
namespace Go.Proofs.YtbnkfljkojhkoaaGreatDoor.Idx
open Go.RowKit Seg RowF Oct Rec Crc Bat Lay InR

def tb_IndexMakes9 : List (Nat × Nat) := [(0, 524287), (1, 524286), (2, 524285), (6, 524281), (10, 524279), (16, 524271), (16, 524271), (112, 524175), (144, 524143), (272, 524031), (512, 523775), (512, 523775), (3584, 520703), (512, 523775), (512, 523775), (29184, 499199), (37376, 486911), (66048, 458239), (262143, 393215)]
theorem refMake_is {A : Option Addr} {n c : Nat} {base : Int} {bs : List UInt8} {every : Int} {m : List En} {z : Int} (h : makeX ⟨base, bs⟩ every = (m, z)) (w : World) (hr : Rd w w.heap.size A n bs) (hc : n ≤ c) (hI : I64 base) :
    Calls Tryz.prog 8 #[.agg #[.int .i64 base, .slice A n c], .int .i64 every] w (REn w m z) := by
  have h1 := refMake_any A n c base bs every w hr hc hI
  rw [h] at h1
  exact h1
theorem refCheck_is {A : Option Addr} {n c : Nat} {base : Int} {bs : List UInt8} {A2 : Option Addr} {n2 c2 : Nat} {l : List En} {z : Int} (h : ckX ⟨base, bs⟩ l = z) (w : World) (hr : Rd w w.heap.size A n bs) (hc : n ≤ c) (hr2 : RdE w w.heap.size A2 n2 l) (hn2 : n2 ≤ 1099511627776) (hI : I64 base) :
    Calls Tryz.prog 11 #[.agg #[.int .i64 base, .slice A n c], .slice A2 n2 c2] w fun e w' => e = .returned (.int .i64 z) ∧ Below w.heap.size w w' := by
  have h1 := refCheck_any A n c base bs A2 n2 c2 l w hr hc hr2 hn2 hI
  rw [h] at h1
  exact h1
theorem refSame_yes8 (A1 : Option Addr) (n1 c1 : Nat) (L : List En) (A2 : Option Addr) (n2 c2 : Nat) (w : World) (hr : RdE w w.heap.size A1 n1 L) (hr2 : RdE w w.heap.size A2 n2 L) (hn : n1 ≤ 1099511627776) :
    Calls Tryz.prog 9 #[.slice A1 n1 c1, .slice A2 n2 c2] w fun e w' => e = .returned (.bool true) ∧ Below w.heap.size w w' := by
  have h := refSameE_any A1 n1 c1 L A2 n2 c2 L w hr hr2 hn
  rw [decide_eq_true rfl] at h
  exact h
set_option maxRecDepth 100000 in
set_option maxHeartbeats 8000000 in
theorem indexMakes_walk (sb : Int) (A : Option Addr) (n c : Nat) (l : List UInt8) (every : Int) (A1 : Option Addr) (n1 c1 : Nat) (l2 : List En) (w : World) (hi : I64 sb) (hc : n ≤ c) (_hk : c ≤ reach) (hR : Rd w w.heap.size A n l) (_hi2 : I64 every) (_hnc : n1 ≤ c1) (_hcap : c1 ≤ reach) (hRe : RdE w w.heap.size A1 n1 l2) (ht : Tab w) :
    Calls Tryz.prog 3 #[.agg #[.int .i64 sb, .slice A n c], .int .i64 every, .slice A1 n1 c1] w fun e w' => e = .returned (.bool true) ∧ Below w.heap.size w w' := by
  have HW_0 := Lib.hid (belA w (.cells #[.int .i64 sb, .slice A n c] 24))
  have HS_0 := Lib.hid (At0.new w [.int .i64 sb, .slice A n c] 24)
  have HR_0 := Lib.hid (rdUp hR HW_0.out)
  have HT_0 := Lib.hid (ht.bel HW_0.out)
  have HV_0 := Lib.hid (rdeUp hRe HW_0.out)
  rcases hz : (decide ((n : Int) ≤ 3000) && decide ((n1 : Int) ≤ 200)) with _ | _
  · have HFEW := Lib.hid hz
    clear ht hR hRe hz
    go_enter Tryz.func3, Tryz.ntmps3
    go_wp2_with (first
      | (go_at_call 5; (with_reducible refine (live8_any _ HT_0.out).mono ?_); rintro e w1 ⟨rfl, hb⟩; have HW_1 := Lib.hid (bel_trans HW_0.out hb); have HS_1 := Lib.hid (HS_0.out.below hb); have HR_1 := Lib.hid (rdUp HR_0.out hb); have HT_1 := Lib.hid (HT_0.out.bel hb); have HV_1 := Lib.hid (rdeUp HV_0.out hb); have hs1_0 : w1.cell? ⟨w.heap.size, 0, none⟩ = some (.int .i64 sb) := HS_1.out.cell 0; have hs1_1 : w1.cell? ⟨w.heap.size, 1, none⟩ = some (.slice A n c) := HS_1.out.cell 1; clear hb)
      | (go_at_call 6; (with_reducible refine (few_any sb A n c A1 n1 c1 (z := false) HFEW.out _).mono ?_); rintro e w2 ⟨rfl, hb⟩; have HW_2 := Lib.hid (bel_trans HW_1.out hb); have HS_2 := Lib.hid (HS_1.out.below hb); have HR_2 := Lib.hid (rdUp HR_1.out hb); have HT_2 := Lib.hid (HT_1.out.bel hb); have HV_2 := Lib.hid (rdeUp HV_1.out hb); have hs2_0 : w2.cell? ⟨w.heap.size, 0, none⟩ = some (.int .i64 sb) := HS_2.out.cell 0; have hs2_1 : w2.cell? ⟨w.heap.size, 1, none⟩ = some (.slice A n c) := HS_2.out.cell 1; clear hb))
    go_ret
    exact ⟨rfl, HW_2.out⟩
  have HFEW := Lib.hid hz
  have hn1 : n1 ≤ 1099511627776 := by have h := hz; rw [Bool.and_eq_true, decide_eq_true_eq, decide_eq_true_eq] at h; omega
  rcases hma : makeX ⟨sb, l⟩ every with ⟨m, z⟩
  have HMA := Lib.hid hma
  have hml : m.length ≤ 4096 := by
    rcases makeX_ways ⟨sb, l⟩ every with h | ⟨m2, h⟩
    · rw [hma] at h; injection h with h _; rw [h]; simp
    · rw [hma] at h; injection h with h h2; subst h h2; have hg := makeX_good hma; have h1 := allE_len hg.1; have h2 := pick_len every (allE ⟨sb, l⟩); rw [hg.2.2]; omega
  obtain ⟨zc, hzc⟩ : ∃ zc, ckX ⟨sb, l⟩ l2 = zc := ⟨_, rfl⟩
  have HCK := Lib.hid hzc
  clear ht hR hRe hz hma hzc
  go_enter Tryz.func3, Tryz.ntmps3
  go_wp2_with (first
    | (go_at_call 5; (with_reducible refine (live8_any _ HT_0.out).mono ?_); rintro e w1 ⟨rfl, hb⟩; have HW_1 := Lib.hid (bel_trans HW_0.out hb); have HS_1 := Lib.hid (HS_0.out.below hb); have HR_1 := Lib.hid (rdUp HR_0.out hb); have HT_1 := Lib.hid (HT_0.out.bel hb); have HV_1 := Lib.hid (rdeUp HV_0.out hb); have hs1_0 : w1.cell? ⟨w.heap.size, 0, none⟩ = some (.int .i64 sb) := HS_1.out.cell 0; have hs1_1 : w1.cell? ⟨w.heap.size, 1, none⟩ = some (.slice A n c) := HS_1.out.cell 1; clear hb)
    | (go_at_call 6; (with_reducible refine (few_any sb A n c A1 n1 c1 (z := true) HFEW.out _).mono ?_); rintro e w2 ⟨rfl, hb⟩; have HW_2 := Lib.hid (bel_trans HW_1.out hb); have HS_2 := Lib.hid (HS_1.out.below hb); have HR_2 := Lib.hid (rdUp HR_1.out hb); have HT_2 := Lib.hid (HT_1.out.bel hb); have HV_2 := Lib.hid (rdeUp HV_1.out hb); have hs2_0 : w2.cell? ⟨w.heap.size, 0, none⟩ = some (.int .i64 sb) := HS_2.out.cell 0; have hs2_1 : w2.cell? ⟨w.heap.size, 1, none⟩ = some (.slice A n c) := HS_2.out.cell 1; clear hb)
    | (go_at_call 7; (with_reducible refine (Make_is A n c sb l every HMA.out _ HR_2.out hc hi HT_2.out).mono ?_); rintro e w3 ⟨A3, n3, c3, rfl, ho, hb⟩; have HW_3 := Lib.hid (bel_trans HW_2.out hb); have HS_3 := Lib.hid (HS_2.out.below hb); have HR_3 := Lib.hid (rdUp HR_2.out hb); have HT_3 := Lib.hid (HT_2.out.bel hb); have HV_3 := Lib.hid (rdeUp HV_2.out hb); have HE_3 := Lib.hid (OwnF.rd enS ho); have hcap3 := ho.cap; have hn3 : n3 ≤ 1099511627776 := (by have h := ho.len enS; omega); have hs3_0 : w3.cell? ⟨w.heap.size, 0, none⟩ = some (.int .i64 sb) := HS_3.out.cell 0; have hs3_1 : w3.cell? ⟨w.heap.size, 1, none⟩ = some (.slice A n c) := HS_3.out.cell 1; clear hb ho)
    | (go_at_call 8; (with_reducible refine (refMake_is HMA.out _ HR_3.out hc hi).mono ?_); rintro e w4 ⟨A4, n4, c4, rfl, ho, hb⟩; have HW_4 := Lib.hid (bel_trans HW_3.out hb); have HS_4 := Lib.hid (HS_3.out.below hb); have HR_4 := Lib.hid (rdUp HR_3.out hb); have HT_4 := Lib.hid (HT_3.out.bel hb); have HV_4 := Lib.hid (rdeUp HV_3.out hb); have HE_4 := Lib.hid (rdeUp HE_3.out hb); have HF_4 := Lib.hid (OwnF.rd enS ho); have hcap4 := ho.cap; have hn4 : n4 ≤ 1099511627776 := (by have h := ho.len enS; omega); have hs4_0 : w4.cell? ⟨w.heap.size, 0, none⟩ = some (.int .i64 sb) := HS_4.out.cell 0; have hs4_1 : w4.cell? ⟨w.heap.size, 1, none⟩ = some (.slice A n c) := HS_4.out.cell 1; clear hb ho)
    | (go_at_call 9; (with_reducible refine (refSame_yes8 A3 n3 c3 m A4 n4 c4 _ HE_4.out HF_4.out hn3).mono ?_); rintro e w5 ⟨rfl, hb⟩; have HW_5 := Lib.hid (bel_trans HW_4.out hb); have HS_5 := Lib.hid (HS_4.out.below hb); have HR_5 := Lib.hid (rdUp HR_4.out hb); have HT_5 := Lib.hid (HT_4.out.bel hb); have HV_5 := Lib.hid (rdeUp HV_4.out hb); have HE_5 := Lib.hid (rdeUp HE_4.out hb); have HF_5 := Lib.hid (rdeUp HF_4.out hb); have hs5_0 : w5.cell? ⟨w.heap.size, 0, none⟩ = some (.int .i64 sb) := HS_5.out.cell 0; have hs5_1 : w5.cell? ⟨w.heap.size, 1, none⟩ = some (.slice A n c) := HS_5.out.cell 1; clear hb))
  have hmx : Tryz.prog.follows .mixedOrders = true := by kernel_rfl
  have hbd := (Below.refl w5.heap.size w5).drew
  have HW_R9 := Lib.hid (bel_trans HW_5.out hbd)
  have HS_R9 := Lib.hid (HS_5.out.below hbd)
  have HR_R9 := Lib.hid (rdUp HR_5.out hbd)
  have HT_R9 := Lib.hid (HT_5.out.bel hbd)
  have HV_R9 := Lib.hid (rdeUp HV_5.out hbd)
  have HE_R9 := Lib.hid (rdeUp HE_5.out hbd)
  have HF_R9 := Lib.hid (rdeUp HF_5.out hbd)
  have HS9R := Lib.hid (show (fun W9 : World => W9.cell? ⟨w.heap.size, 0, none⟩ = some (.int .i64 sb) ∧ W9.cell? ⟨w.heap.size, 1, none⟩ = some (.slice A n c)) w5.drew from ⟨HS_R9.out.cell 0, HS_R9.out.cell 1⟩)
  clear hbd
  have hsR9_0 : w5.drew.cell? ⟨w.heap.size, 0, none⟩ = some (.int .i64 sb) := HS_R9.out.cell 0
  have hsR9_1 : w5.drew.cell? ⟨w.heap.size, 1, none⟩ = some (.slice A n c) := HS_R9.out.cell 1
  refine region_let (fun W9 : World => W9.cell? ⟨w.heap.size, 0, none⟩ = some (.int .i64 sb) ∧ W9.cell? ⟨w.heap.size, 1, none⟩ = some (.slice A n c)) 99 19 hmx rfl fun ops Q HOPS HQ => ?_
  have HREG := reg_of HOPS tb_IndexMakes9 rfl (by kernel_rfl) (by kernel_rfl) (by decide)
  refine sQx HOPS HREG 0 1 (fun w9 ⟨q0, q1⟩ => by go_simp; first | done | with_reducible rfl) rfl HS9R.out ?_
  dsimp only [List.set_cons_zero, List.set_cons_succ]
  refine sQx HOPS HREG 1 3 (fun w9 ⟨q0, q1⟩ => by go_simp; first | done | with_reducible rfl) rfl HS9R.out ?_
  dsimp only [List.set_cons_zero, List.set_cons_succ]
  refine sQx HOPS HREG 2 7 (fun w9 ⟨q0, q1⟩ => by go_simp; first | done | with_reducible rfl) rfl HS9R.out ?_
  dsimp only [List.set_cons_zero, List.set_cons_succ]
  refine sQx HOPS HREG 3 15 (fun w9 ⟨q0, q1⟩ => by go_simp; first | done | with_reducible rfl) rfl HS9R.out ?_
  dsimp only [List.set_cons_zero, List.set_cons_succ]
  refine sQx HOPS HREG 4 31 (fun w9 ⟨q0, q1⟩ => by go_simp; first | done | with_reducible rfl) rfl HS9R.out ?_
  dsimp only [List.set_cons_zero, List.set_cons_succ]
  refine sQx HOPS HREG 5 63 (fun w9 ⟨q0, q1⟩ => by go_simp; first | done | with_reducible rfl) rfl HS9R.out ?_
  dsimp only [List.set_cons_zero, List.set_cons_succ]
  refine sQx HOPS HREG 6 127 (fun w9 ⟨q0, q1⟩ => by go_simp; first | done | with_reducible rfl) rfl HS9R.out ?_
  dsimp only [List.set_cons_zero, List.set_cons_succ]
  refine sQx HOPS HREG 7 255 (fun w9 ⟨q0, q1⟩ => by go_simp; first | done | with_reducible rfl) rfl HS9R.out ?_
  dsimp only [List.set_cons_zero, List.set_cons_succ]
  refine sQx HOPS HREG 8 511 (fun w9 ⟨q0, q1⟩ => by go_simp; first | done | with_reducible rfl) rfl HS9R.out ?_
  dsimp only [List.set_cons_zero, List.set_cons_succ]
  refine sQx HOPS HREG 9 1023 (fun w9 ⟨q0, q1⟩ => by go_simp; first | done | with_reducible rfl) rfl HS9R.out ?_
  dsimp only [List.set_cons_zero, List.set_cons_succ]
  refine sQx HOPS HREG 10 2047 (fun w9 ⟨q0, q1⟩ => by go_simp; first | done | with_reducible rfl) rfl HS9R.out ?_
  dsimp only [List.set_cons_zero, List.set_cons_succ]
  refine sQx HOPS HREG 11 4095 (fun w9 ⟨q0, q1⟩ => by go_simp; first | done | with_reducible rfl) rfl HS9R.out ?_
  dsimp only [List.set_cons_zero, List.set_cons_succ]
  refine sQx HOPS HREG 13 12287 (fun w9 ⟨q0, q1⟩ => by go_simp; first | done | with_reducible rfl) rfl HS9R.out ?_
  dsimp only [List.set_cons_zero, List.set_cons_succ]
  refine sQx HOPS HREG 14 28671 (fun w9 ⟨q0, q1⟩ => by go_simp; first | done | with_reducible rfl) rfl HS9R.out ?_
  dsimp only [List.set_cons_zero, List.set_cons_succ]
  refine stepC HOPS 12 32767 (by decide) rfl (by kernel_rfl) (by kernel_rfl) ?_
  go_simp
  with_reducible refine (Check_is A n c sb l A1 n1 c1 l2 HCK.out _ HR_R9.out hc HV_R9.out hn1 hi HT_R9.out).mono ?_
  rintro e w6 ⟨rfl, hb⟩
  have HW_6 := Lib.hid (bel_trans HW_R9.out hb)
  have HS_6 := Lib.hid (HS_R9.out.below hb)
  have HR_6 := Lib.hid (rdUp HR_R9.out hb)
  have HT_6 := Lib.hid (HT_R9.out.bel hb)
  have HV_6 := Lib.hid (rdeUp HV_R9.out hb)
  have HE_6 := Lib.hid (rdeUp HE_R9.out hb)
  have HF_6 := Lib.hid (rdeUp HF_R9.out hb)
  have HS9w6 := Lib.hid (show (fun W9 : World => W9.cell? ⟨w.heap.size, 0, none⟩ = some (.int .i64 sb) ∧ W9.cell? ⟨w.heap.size, 1, none⟩ = some (.slice A n c)) w6 from ⟨HS_6.out.cell 0, HS_6.out.cell 1⟩)
  clear hb
  dsimp only
  refine ⟨HS9w6.out, ?_⟩
  try simp only [Act.put, List.setIfInBounds_toArray, List.set_cons_zero, List.set_cons_succ]
  refine stepC HOPS 15 65535 (by decide) rfl (by kernel_rfl) (by kernel_rfl) ?_
  go_simp
  with_reducible refine (refCheck_is HCK.out _ HR_6.out hc HV_6.out hn1 hi).mono ?_
  rintro e w7 ⟨rfl, hb⟩
  have HW_7 := Lib.hid (bel_trans HW_6.out hb)
  have HS_7 := Lib.hid (HS_6.out.below hb)
  have HR_7 := Lib.hid (rdUp HR_6.out hb)
  have HT_7 := Lib.hid (HT_6.out.bel hb)
  have HV_7 := Lib.hid (rdeUp HV_6.out hb)
  have HE_7 := Lib.hid (rdeUp HE_6.out hb)
  have HF_7 := Lib.hid (rdeUp HF_6.out hb)
  have HS9w7 := Lib.hid (show (fun W9 : World => W9.cell? ⟨w.heap.size, 0, none⟩ = some (.int .i64 sb) ∧ W9.cell? ⟨w.heap.size, 1, none⟩ = some (.slice A n c)) w7 from ⟨HS_7.out.cell 0, HS_7.out.cell 1⟩)
  clear hb
  dsimp only
  refine ⟨HS9w7.out, ?_⟩
  try simp only [Act.put, List.setIfInBounds_toArray, List.set_cons_zero, List.set_cons_succ]
  refine sQx HOPS HREG 16 131071 (fun w9 ⟨q0, q1⟩ => by go_simp; first | done | with_reducible rfl) rfl HS9w7.out ?_
  dsimp only [List.set_cons_zero, List.set_cons_succ]
  refine sQx HOPS HREG 17 262143 (fun w9 ⟨q0, q1⟩ => by go_simp; first | done | with_reducible rfl) rfl HS9w7.out ?_
  dsimp only [List.set_cons_zero, List.set_cons_succ]
  refine sQx HOPS HREG 18 524287 (fun w9 ⟨q0, q1⟩ => by go_simp; first | done | with_reducible rfl) rfl HS9w7.out ?_
  dsimp only [List.set_cons_zero, List.set_cons_succ]
  refine stepE HOPS (by kernel_rfl) (HQ.out _ _ ?_)
  clear HQ HREG HOPS
  clear Q ops
  skip
  go_wp2
  go_ret
  exact ⟨rfl, HW_7.out⟩
end Go.Proofs.YtbnkfljkojhkoaaGreatDoor.Idx

namespace Go.Proofs.YtbnkfljkojhkoaaGreatDoor.indexMakes
open Go.ChangeShapes Go.WideShapes Go.ChangeAt Go.RowKit

theorem own : ownKnob Tryz.prog.godebug = none := by kernel_rfl
theorem laidOut : laidOutB Tryz.prog = true := by kernel_rfl

set_option maxRecDepth 100000 in
theorem lifted (os : Os) (started : os.Started) (H : Type) (enc : TypeId × Value → H) :
    ReturnsInHanded {} Tryz.checked os 3 .any (fun w args => (Rows.indexMakesSpec.pre enc Tryz.prog Tryz.f3 [] false w args ∧ laidMetH Tryz.prog Crc.listed w) ∧ sizedMet enc Tryz.prog Tryz.f3 (OpenSpec.ofChange Rows.indexMakesSpec) false w args)
      (Rows.indexMakesSpec.post enc Tryz.prog Tryz.f3 false true false false) := by
  refine returnsInHanded_of_change_and (C := Tryz.checked) (X := fun w _ => laidMetH Tryz.prog Crc.listed w) (fun _ _ _ hh h => h.of_heap hh) own started (by kernel_rfl) Tryz.func3
    (ChangeSpec.witness_shaped (enc := enc) (C := Tryz.checked) (os := os) (X := fun w _ => laidMetH Tryz.prog Crc.listed w) false (World.doorLaid Tryz.prog 400 os) #[.agg #[.int .i64 0, .slice none 0 0], .int .i64 0, .slice none 0 0] 8 rfl (World.shaped_of_RefB (by kernel_rfl) (by kernel_rfl)) (by kernel_rfl) (by kernel_rfl) (by kernel_rfl) (Crc.door_met os _)) ?_
  intro W base args ds gs before hval0 hW _ hwt hL _
  have hval : ∀ (j : Nat) t v, Tryz.f3.params[j]? = some t → args[j]? = some v → Value.okWide Tryz.prog W .any base t v := hval0
  have hW' := hW
  obtain ⟨p, q, hA0, hV, rfl, hfz, hnd⟩ := hW
  have hA : DataW.TrodAll enc Tryz.prog W 0 (fun _ => true) true Tryz.f3.params.toList args.toList ds p := hA0
  rw [Tryz.params3] at hA hval
  obtain ⟨v0, vs0, d0, ds0, p0, q0, hargs, rfl, rfl, h0, r0⟩ := trodAll_cons hA
  obtain ⟨v1, vs1, d1, ds1, p1, q1, rfl, rfl, rfl, h1, r1⟩ := trodAll_cons r0
  obtain ⟨v2, vs2, d2, ds2, p2, q2, rfl, rfl, rfl, h2, r2⟩ := trodAll_cons r1
  obtain ⟨rfl, rfl, rfl⟩ := trodAll_nil r2
  obtain rfl : args = #[v0, v1, v2] := by cases args; simp_all
  obtain ⟨rfl, rfl⟩ := trodVars_none hV
  have k0 := h0
  have lt0 : ∀ x ∈ p0, x.block < W.heap.size := by obtain ⟨m, hm⟩ := k0; exact DataW.trod_lt m _ _ _ hm
  obtain ⟨sb_0, A_0, n_0, c_0, l_0, rfl, hi_0, hc_0, hk_0, hR_0⟩ := Seg.open_seg (hval 0 24 v0 rfl rfl) h0 (Bat.weights_arg (j := 0) hwt (by kernel_rfl) rfl)
  have k1 := h1
  have lt1 : ∀ x ∈ p1, x.block < W.heap.size := by obtain ⟨m, hm⟩ := k1; exact DataW.trod_lt m _ _ _ hm
  obtain ⟨a1, rfl, hi1⟩ := Oct.open_i64 Tryz.underlying3 (hval 1 3 v1 rfl rfl) h1
  have k2 := h2
  have lt2 : ∀ x ∈ p2, x.block < W.heap.size := by obtain ⟨m, hm⟩ := k2; exact DataW.trod_lt m _ _ _ hm
  obtain ⟨A_2, n_2, c_2, l_2, rfl, hc_2, hk_2, hR_2⟩ := Idx.open_ents (hval 2 25 v2 rfl rfl) h2 (Bat.weights_arg (j := 2) hwt (by kernel_rfl) rfl)
  clear hA0 hval0
  refine (Idx.indexMakes_walk sb_0 A_0 n_0 c_0 l_0 a1 A_2 n_2 c_2 l_2 W hi_0 hc_0 hk_0 hR_0 hi1 hc_2 hk_2 hR_2 (Crc.tab_of_laid hL)).mono fun e W' ⟨he, bel⟩ => ?_
  subst he
  exact ⟨_, rfl, _, _, _, [], _, [], hW', trodAll_mk1 (shut_bool Tryz.underlying4 _), (trodAll_cons_mk (Below.trod laidOut (by kernel_rfl) (of_decide_eq_true (by kernel_rfl)) k0 bel lt0) (trodAll_cons_mk (Below.trod laidOut (by kernel_rfl) (of_decide_eq_true (by kernel_rfl)) k1 bel lt1) (trodAll_cons_mk (Below.trod laidOut (by kernel_rfl) (of_decide_eq_true (by kernel_rfl)) k2 bel lt2) trodAll_mk0))), rfl, bel.frame _, fun h => by cases h⟩

theorem over : Rows.indexMakesRow.holds Tryz.pinned (OpenSpec.ofChange Rows.indexMakesSpec) :=
  OpenClaim.holds_of_wide 3 Tryz.f3 rfl rfl rfl rfl rfl rfl rfl ⟨rfl, rfl, rfl, rfl, rfl⟩ rfl rfl rfl rfl rfl (by kernel_rfl) Tryz.func3 (by kernel_rfl)
    (of_decide_eq_true (by kernel_rfl)) (by unfold Func.isWrapper; first | (rw [if_pos (by decide +kernel)]; kernel_rfl) | (rw [if_neg (by decide +kernel)]; exact ⟨rfl, rfl⟩))
    (fun os started H enc _ => lifted os started H enc)

theorem proved : Rows.IndexMakesCardSaid :=
  Claim7.holds_tied_plain_at .later [] [.data] true (true, "c263e5c500ea0f572c87bfcf06de7d544928a2645dc822d5a30db36040d5144c") false
    over (fun _ h => by cases h) (by kernel_rfl) (fun _ h => by cases h) indexMakes_row_tie rfl ⟨rfl, rfl⟩ (by kernel_rfl) rfl
    (fun f fn hf hfn => by
      obtain rfl : f = 3 := Option.some.inj ((show Tryz.prog.funcNamed "watermeet/watermeetlaw08.IndexMakes" = some 3 by kernel_rfl).symm.trans hf) |>.symm
      obtain rfl : fn = Tryz.f3 := (Option.some.inj (Tryz.func3.symm.trans hfn)).symm
      exact ⟨by kernel_rfl, fun j t ht => by
        rw [Tryz.params3] at ht
        have hm : t ∈ [24, 3, 25] := by simpa using Array.mem_of_getElem? ht
        have hall : ([24, 3, 25].all fun u => !Tryz.prog.wantsStandIn u) = true := by kernel_rfl
        exact (show Tryz.prog.wantsStandIn t = false by simpa using List.all_eq_true.1 hall t hm)⟩)
    (by kernel_rfl)
#print axioms proved
end Go.Proofs.YtbnkfljkojhkoaaGreatDoor.indexMakes
