/- Joined: TxnD6, TxnLay, TxnD7. -/
import Derived.Test.YtlfbagkonckffaaGreatJ16
import Derived.Test.YtlfbagkonckffaaGreatJ12
import Derived.Test.YtlfbagkonckffaaGreatJ11
import Derived.Shelf.SlGeneric
import Derived.Shelf.SlIterI.Nil
import Derived.Shelf.SortM.Plain
import Derived.Shelf.SortM.SortNone
import Derived.Shelf.SlSortCmp.NoneTotal
import Derived.Shelf.SlSorted.Search
import Derived.Ground.GgzProg
import Derived.Ground.SlgmProg
import Derived.Ground.SlsfProg
import Derived.Ground.SlsoProg
import Derived.Test.YtlfbagkonckffaaGreatProg
/- The landed txns: copies. -/
namespace Go.Proofs.YtlfbagkonckffaaGreat.Txn
open Go.RowKit Go.Shelf Oct Rec RowF Lay InR RngQ Bat RowL
open Epo (At0 AtO belA cel2)
open Sqs (at0_grown at0_set9 grown_set9 grown_bel grown_then)

attribute [local go_sem] Oper.semAt_some

theorem apart_new {α β : Type} {f : α → List Value} {f' : β → List Value} {k k' n m : Nat} {w w' : World} {e e' : TypeId} {B B' : Nat} {v u : Value} {l : List α} {l' : List β} (h : OwnF f k w e B v n l) (h' : OwnF f' k' w' e' B' u m l') (hB : w.heap.size ≤ B') : Apart v u := fun g h1 h2 => by
  have := (World.ownsRow.lt h g h1).2
  have := (World.ownsRow.lt h' g h2).1
  omega
theorem rfUp {α : Type} {f : α → List Value} {k n : Nat} {w w' : World} {A : Option Addr} {l : List α} (h : RdF f k w w.heap.size A n l) (hb : Below w.heap.size w w') : RdF f k w' w'.heap.size A n l := (RdF.below h hb (Nat.le_refl _)).more hb.size
set_option maxRecDepth 100000 in
set_option maxHeartbeats 8000000 in
theorem copies_is (A : Option Addr) (n c : Nat) (A2 : Option Addr) (n2 c2 : Nat) (A3 : Option Addr) (n3 c3 : Nat) (t : Tx) (w : World) (hr : RdT w A n A2 n2 A3 n3 t) (hn : n ≤ 1000000) (hn2 : n2 ≤ 1000000) (hn3 : n3 ≤ 1000000) :
    Calls Tryz.prog 39 #[.agg #[.slice A n c, .slice A2 n2 c2, .slice A3 n3 c3]] w fun e w' => ∃ A' c' A2' c2' A3' c3', e = .returned (.agg #[.slice A' n c', .slice A2' n2 c2', .slice A3' n3 c3']) ∧ OwnTx w' w.heap.size A' n c' A2' n2 c2' A3' n3 c3' t ∧ Below w.heap.size w w' := by
  have HR := Lib.hid hr
  clear hr
  have hmx : Tryz.prog.follows .mixedOrders = true := by kernel_rfl
  go_enter Tryz.func39, Tryz.ntmps39
  go_upto_region 1 with fail
  generalize hW : (World.alloc (World.alloc w _) _) = W
  have hW9 : Below w.heap.size w W ∧ At0 W w.heap.size [.slice A n c, .slice A2 n2 c2, .slice A3 n3 c3] 25 ∧ At0 W (w.heap.size + 1) [.slice none 0 0, .slice none 0 0, .slice none 0 0] 25 := by
    rw [← hW]
    have h1 := At0.new (w.alloc (.cells #[.slice A n c, .slice A2 n2 c2, .slice A3 n3 c3] 25)) [.slice none 0 0, .slice none 0 0, .slice none 0 0] 25
    simp only [World.size_alloc] at h1
    exact ⟨bel_alloc (bel_alloc (Below.refl _ _) _) _, (At0.new w [.slice A n c, .slice A2 n2 c2, .slice A3 n3 c3] 25).below (belA _ _), h1⟩
  obtain ⟨hbW, hT, hZ⟩ := hW9
  have HW_0 := Lib.hid hbW
  have HV_0 := Lib.hid (Below.refl W.heap.size W)
  have hN1 := hZ.lt
  have HT_0 := Lib.hid hT
  have HZ_0 := Lib.hid hZ
  have HR_0 := Lib.hid (HR.out.below hbW)
  clear hW hbW hT hZ
  have hbd := (Below.refl W.heap.size W).drew
  have HW_R1 := Lib.hid (bel_trans HW_0.out hbd)
  have HV_R1 := Lib.hid (bel_trans HV_0.out hbd)
  have HT_R1 := Lib.hid (HT_0.out.below hbd)
  have HZ_R1 := Lib.hid (HZ_0.out.below hbd)
  have HR_R1 := Lib.hid (HR_0.out.below hbd)
  have HSR1 := Lib.hid (show (fun W9 : World => W9.cell? ⟨w.heap.size, 0, none⟩ = some (.slice A n c) ∧ W9.cell? ⟨w.heap.size, 1, none⟩ = some (.slice A2 n2 c2) ∧ W9.cell? ⟨w.heap.size, 2, none⟩ = some (.slice A3 n3 c3)) W.drew from ⟨HT_R1.out.cell 0, HT_R1.out.cell 1, HT_R1.out.cell 2⟩)
  clear hbd
  refine region_let (fun W9 : World => W9.cell? ⟨w.heap.size, 0, none⟩ = some (.slice A n c) ∧ W9.cell? ⟨w.heap.size, 1, none⟩ = some (.slice A2 n2 c2) ∧ W9.cell? ⟨w.heap.size, 2, none⟩ = some (.slice A3 n3 c3)) 10 11 hmx rfl fun ops Q HOPS HQ => ?_
  refine yq 0 HOPS HSR1.out ?_; simp only [ls0, ls1]; refine yq 1 HOPS HSR1.out ?_; simp only [ls0, ls1]; refine yq 3 HOPS HSR1.out ?_; simp only [ls0, ls1]; refine yq 4 HOPS HSR1.out ?_; simp only [ls0, ls1]; refine yq 6 HOPS HSR1.out ?_; simp only [ls0, ls1]; refine yq 7 HOPS HSR1.out ?_; simp only [ls0, ls1]
  refine xc 2 HOPS ?_
  go_simp
  with_reducible refine (cloneO_is A n c t.op _ HR_R1.out.op hn).mono ?_
  rintro e w2 ⟨A4, c4, rfl, ho, hb⟩
  have HW_2 := Lib.hid (bel_trans HW_R1.out hb)
  have HV_2 := Lib.hid (bel_trans HV_R1.out hb)
  have HT_2 := Lib.hid (HT_R1.out.below hb)
  have HZ_2 := Lib.hid (HZ_R1.out.below hb)
  have HR_2 := Lib.hid (HR_R1.out.below hb)
  have HO2_w2 := Lib.hid (ho.more HV_R1.out.size)
  have HSR1w2 := Lib.hid (show (fun W9 : World => W9.cell? ⟨w.heap.size, 0, none⟩ = some (.slice A n c) ∧ W9.cell? ⟨w.heap.size, 1, none⟩ = some (.slice A2 n2 c2) ∧ W9.cell? ⟨w.heap.size, 2, none⟩ = some (.slice A3 n3 c3)) w2 from ⟨HT_2.out.cell 0, HT_2.out.cell 1, HT_2.out.cell 2⟩)
  clear hb
  refine ⟨HSR1w2.out, ?_⟩
  refine xc 5 HOPS ?_
  go_simp
  with_reducible refine (cloneG_is A2 n2 c2 t.gone _ HR_2.out.gone hn2).mono ?_
  rintro e w3 ⟨A5, c5, rfl, ho, hb⟩
  have HW_3 := Lib.hid (bel_trans HW_2.out hb)
  have HV_3 := Lib.hid (bel_trans HV_2.out hb)
  have HT_3 := Lib.hid (HT_2.out.below hb)
  have HZ_3 := Lib.hid (HZ_2.out.below hb)
  have HR_3 := Lib.hid (HR_2.out.below hb)
  have HO2_3 := Lib.hid (HO2_w2.out.below hb)
  have HO3_w3 := Lib.hid (ho.more HV_2.out.size)
  have HSR1w3 := Lib.hid (show (fun W9 : World => W9.cell? ⟨w.heap.size, 0, none⟩ = some (.slice A n c) ∧ W9.cell? ⟨w.heap.size, 1, none⟩ = some (.slice A2 n2 c2) ∧ W9.cell? ⟨w.heap.size, 2, none⟩ = some (.slice A3 n3 c3)) w3 from ⟨HT_3.out.cell 0, HT_3.out.cell 1, HT_3.out.cell 2⟩)
  clear hb
  refine ⟨HSR1w3.out, ?_⟩
  refine xc 8 HOPS ?_
  go_simp
  with_reducible refine (cloneG_is A3 n3 c3 t.done _ HR_3.out.done hn3).mono ?_
  rintro e w4 ⟨A6, c6, rfl, ho, hb⟩
  have HW_4 := Lib.hid (bel_trans HW_3.out hb)
  have HV_4 := Lib.hid (bel_trans HV_3.out hb)
  have HT_4 := Lib.hid (HT_3.out.below hb)
  have HZ_4 := Lib.hid (HZ_3.out.below hb)
  have HR_4 := Lib.hid (HR_3.out.below hb)
  have HO2_4 := Lib.hid (HO2_3.out.below hb)
  have HO3_4 := Lib.hid (HO3_w3.out.below hb)
  have HO4_w4 := Lib.hid (ho.more HV_3.out.size)
  have HAP := Lib.hid (apart_new HO3_w3.out ho (Nat.le_refl _))
  obtain ⟨hzw4_0, hzw4_1, hzw4_2⟩ := cel3 HZ_4.out
  obtain ⟨fhzw4_0, fhzw4_1, fhzw4_2⟩ := frz3 HZ_4.out
  have HSR1w4 := Lib.hid (show (fun W9 : World => W9.cell? ⟨w.heap.size, 0, none⟩ = some (.slice A n c) ∧ W9.cell? ⟨w.heap.size, 1, none⟩ = some (.slice A2 n2 c2) ∧ W9.cell? ⟨w.heap.size, 2, none⟩ = some (.slice A3 n3 c3)) w4 from ⟨HT_4.out.cell 0, HT_4.out.cell 1, HT_4.out.cell 2⟩)
  clear hb
  refine ⟨HSR1w4.out, ?_⟩
  refine yq 9 HOPS HSR1w4.out ?_; simp only [ls0, ls1]
  refine xl 10 HOPS ?_
  go_simp
  refine stepE HOPS (by kernel_rfl) (HQ.out _ _ ?_)
  clear HQ HOPS
  clear Q ops
  go_wp2
  have hF := at0_set9 (at0_set9 (at0_set9 HZ_4.out 0 (.slice A4 n c4)) 1 (.slice A5 n2 c5)) 2 (.slice A6 n3 c6)
  obtain ⟨k0, k1, k2⟩ := cel3 (show At0 _ _ [.slice A4 n c4, .slice A5 n2 c5, .slice A6 n3 c6] _ from hF)
  refine bodyPost_ret (v := .agg #[.slice A4 n c4, .slice A5 n2 c5, .slice A6 n3 c6]) (by simp [results, Tryz.results39, go_sem, k0, k1, k2]) rfl ?_
  have hTX : OwnTx w4 W.heap.size A4 n c4 A5 n2 c5 A6 n3 c6 t := ⟨HO2_4.out, HO3_4.out, HO4_w4.out, HAP.out⟩
  have hoff := hTX.offBelow hN1
  exact ⟨A4, c4, A5, c5, A6, c6, rfl, (((hTX.set hoff _ _).set hoff _ _).set hoff _ _).more HW_0.out.size, ((HW_4.out.setCell (by simp only; omega) _).setCell (by simp only; omega) _).setCell (by simp only; omega) _⟩
end Go.Proofs.YtlfbagkonckffaaGreat.Txn

/- The library's contracts (sort.Search, maps.Keys, slices.Sorted, slices.Sort, slices.SortFunc), laid at this program. -/
namespace Go.Proofs.YtlfbagkonckffaaGreat.Lays
open Go.Shelf
def search_ren : Go.Shelf.Ren := ⟨fun | 16 => 72 | n => n, fun | 3 => 3 | 35 => 72 | 4 => 4 | 38 => 118 | n => n, fun | n => n⟩
theorem search : Go.Proofs.SlLaysO.n16 Tryz.prog search_ren := {
  mixed := by kernel_rfl
  f16 := Tryz.func72.trans (congrArg some (by kernel_rfl))
  t3 := Tryz.underlying3
  a3 := Tryz.isAgg3
  z3 := Tryz.sizeOf3
  v3 := Tryz.zeroValue3
  t4 := Tryz.underlying4
  a4 := Tryz.isAgg4
  z4 := Tryz.sizeOf4
  v4 := Tryz.zeroValue4
  t35 := Tryz.underlying72
  a35 := Tryz.isAgg72
  z35 := Tryz.sizeOf72
  v35 := Tryz.zeroValue72
  t38 := Tryz.underlying118
  a38 := Tryz.isAgg118
  z38 := Tryz.sizeOf118
  v38 := Tryz.zeroValue118 }
def keys_ren : Go.Shelf.Ren := ⟨fun | 7 => 68 | 10 => 92 | n => n, fun | 23 => 85 | 26 => 3 | 3 => 3 | 28 => 92 | 0 => 0 | 27 => 91 | 33 => 72 | 4 => 4 | n => n, fun | n => n⟩
theorem keys : Go.Proofs.SlLaysZI.n7 Tryz.prog keys_ren := {
  mixed := by kernel_rfl
  f7 := ⟨Tryz.f68.name, by decide, Tryz.func68.trans (congrArg some (by kernel_rfl))⟩
  f10 := ⟨Tryz.f92.name, by decide, Tryz.func92.trans (congrArg some (by kernel_rfl))⟩
  t0 := Tryz.underlying0
  a0 := Tryz.isAgg0
  z0 := Tryz.sizeOf0
  v0 := Tryz.zeroValue0
  t4 := Tryz.underlying4
  a4 := Tryz.isAgg4
  z4 := Tryz.sizeOf4
  v4 := Tryz.zeroValue4
  t23 := Tryz.underlying85
  a23 := Tryz.isAgg85
  z23 := Tryz.sizeOf85
  v23 := Tryz.zeroValue85
  t26 := Tryz.underlying3
  a26 := Tryz.isAgg3
  z26 := Tryz.sizeOf3
  v26 := Tryz.zeroValue3
  t27 := Tryz.underlying91
  a27 := Tryz.isAgg91
  z27 := Tryz.sizeOf91
  v27 := Tryz.zeroValue91
  t28 := Tryz.underlying92
  a28 := Tryz.isAgg92
  z28 := Tryz.sizeOf92
  v28 := Tryz.zeroValue92
  t33 := Tryz.underlying72
  a33 := Tryz.isAgg72
  z33 := Tryz.sizeOf72
  v33 := Tryz.zeroValue72 }
def sorted_ren : Go.Shelf.Ren := ⟨fun | 6 => 67 | 8 => 90 | 9 => 91 | 11 => 106 | 13 => 104 | 12 => 107 | 23 => 129 | 24 => 130 | 14 => 131 | 15 => 132 | 16 => 133 | 17 => 134 | 18 => 135 | 19 => 136 | 20 => 137 | 21 => 138 | 22 => 139 | 25 => 153 | 26 => 149 | 27 => 150 | 28 => 154 | 29 => 155 | 30 => 105 | 31 => 161 | n => n, fun | 26 => 3 | 28 => 92 | 24 => 89 | 0 => 0 | 3 => 3 | 37 => 118 | 48 => 138 | 50 => 125 | 4 => 4 | 40 => 142 | 39 => 141 | 45 => 64 | 5 => 5 | 9 => 9 | 51 => 156 | 55 => 130 | 57 => 166 | 58 => 167 | 33 => 72 | n => n, fun | n => n⟩
theorem sorted : Go.Proofs.SlLaysZI.n6 Tryz.prog sorted_ren := {
  mixed := by kernel_rfl
  f6 := ⟨Tryz.f67.name, by decide, Tryz.func67.trans (congrArg some (by kernel_rfl))⟩
  f8 := ⟨Tryz.f90.name, by decide, Tryz.func90.trans (congrArg some (by kernel_rfl))⟩
  f11 := ⟨Tryz.f106.name, by decide, Tryz.func106.trans (congrArg some (by kernel_rfl))⟩
  t0 := Tryz.underlying0
  a0 := Tryz.isAgg0
  z0 := Tryz.sizeOf0
  v0 := Tryz.zeroValue0
  t24 := Tryz.underlying89
  a24 := Tryz.isAgg89
  z24 := Tryz.sizeOf89
  v24 := Tryz.zeroValue89
  t26 := Tryz.underlying3
  a26 := Tryz.isAgg3
  z26 := Tryz.sizeOf3
  v26 := Tryz.zeroValue3
  t28 := Tryz.underlying92
  a28 := Tryz.isAgg92
  z28 := Tryz.sizeOf92
  v28 := Tryz.zeroValue92
  i26 := by kernel_rfl }
def sort_ren : Go.Shelf.Ren := ⟨fun | 5 => 91 | 8 => 104 | 7 => 107 | 19 => 129 | 20 => 130 | 10 => 131 | 11 => 132 | 12 => 133 | 13 => 134 | 14 => 135 | 15 => 136 | 16 => 137 | 17 => 138 | 18 => 139 | 30 => 153 | 31 => 149 | 32 => 150 | 33 => 154 | 34 => 155 | 35 => 105 | 40 => 161 | n => n, fun | 23 => 89 | 25 => 3 | 3 => 3 | 32 => 118 | 22 => 89 | 0 => 0 | 44 => 138 | 46 => 125 | 4 => 4 | 36 => 142 | 35 => 141 | 41 => 64 | 5 => 5 | 9 => 9 | 53 => 156 | 57 => 130 | 63 => 166 | 64 => 167 | n => n, fun | n => n⟩
theorem sort : Go.Proofs.SlLaysM.n5 Tryz.prog sort_ren := {
  mixed := by kernel_rfl
  f5 := ⟨Tryz.f91.name, by decide, Tryz.func91.trans (congrArg some (by kernel_rfl))⟩
  f7 := ⟨Tryz.f107.name, by decide, Tryz.func107.trans (congrArg some (by kernel_rfl))⟩
  f8 := Tryz.func104.trans (congrArg some (by kernel_rfl))
  f10 := ⟨Tryz.f131.name, by decide, Tryz.func131.trans (congrArg some (by kernel_rfl))⟩
  f11 := ⟨Tryz.f132.name, by decide, Tryz.func132.trans (congrArg some (by kernel_rfl))⟩
  f12 := ⟨Tryz.f133.name, by decide, Tryz.func133.trans (congrArg some (by kernel_rfl))⟩
  f13 := ⟨Tryz.f134.name, by decide, Tryz.func134.trans (congrArg some (by kernel_rfl))⟩
  f14 := ⟨Tryz.f135.name, by decide, Tryz.func135.trans (congrArg some (by kernel_rfl))⟩
  f15 := ⟨Tryz.f136.name, by decide, Tryz.func136.trans (congrArg some (by kernel_rfl))⟩
  f16 := ⟨Tryz.f137.name, by decide, Tryz.func137.trans (congrArg some (by kernel_rfl))⟩
  f17 := ⟨Tryz.f138.name, by decide, Tryz.func138.trans (congrArg some (by kernel_rfl))⟩
  f18 := ⟨Tryz.f139.name, by decide, Tryz.func139.trans (congrArg some (by kernel_rfl))⟩
  f19 := Tryz.func129.trans (congrArg some (by kernel_rfl))
  f20 := Tryz.func130.trans (congrArg some (by kernel_rfl))
  f30 := ⟨Tryz.f153.name, by decide, Tryz.func153.trans (congrArg some (by kernel_rfl))⟩
  f31 := Tryz.func149.trans (congrArg some (by kernel_rfl))
  f32 := Tryz.func150.trans (congrArg some (by kernel_rfl))
  f33 := ⟨Tryz.f154.name, by decide, Tryz.func154.trans (congrArg some (by kernel_rfl))⟩
  f34 := ⟨Tryz.f155.name, by decide, Tryz.func155.trans (congrArg some (by kernel_rfl))⟩
  f35 := ⟨Tryz.f105.name, by decide, Tryz.func105.trans (congrArg some (by kernel_rfl))⟩
  f40 := ⟨Tryz.f161.name, by decide, Tryz.func161.trans (congrArg some (by kernel_rfl))⟩
  t0 := Tryz.underlying0
  a0 := Tryz.isAgg0
  z0 := Tryz.sizeOf0
  v0 := Tryz.zeroValue0
  t3 := Tryz.underlying3
  a3 := Tryz.isAgg3
  z3 := Tryz.sizeOf3
  v3 := Tryz.zeroValue3
  t4 := Tryz.underlying4
  a4 := Tryz.isAgg4
  z4 := Tryz.sizeOf4
  v4 := Tryz.zeroValue4
  t5 := Tryz.underlying5
  a5 := Tryz.isAgg5
  z5 := Tryz.sizeOf5
  v5 := Tryz.zeroValue5
  t9 := Tryz.underlying9
  a9 := Tryz.isAgg9
  z9 := Tryz.sizeOf9
  v9 := Tryz.zeroValue9
  t22 := Tryz.underlying89
  a22 := Tryz.isAgg89
  z22 := Tryz.sizeOf89
  v22 := Tryz.zeroValue89
  t23 := Tryz.underlying89
  a23 := Tryz.isAgg89
  z23 := Tryz.sizeOf89
  v23 := Tryz.zeroValue89
  t25 := Tryz.underlying3
  a25 := Tryz.isAgg3
  z25 := Tryz.sizeOf3
  v25 := Tryz.zeroValue3
  t32 := Tryz.underlying118
  a32 := Tryz.isAgg118
  z32 := Tryz.sizeOf118
  v32 := Tryz.zeroValue118
  t35 := Tryz.underlying141
  a35 := Tryz.isAgg141
  z35 := Tryz.sizeOf141
  v35 := Tryz.zeroValue141
  t36 := Tryz.underlying142
  a36 := Tryz.isAgg142
  z36 := Tryz.sizeOf142
  v36 := Tryz.zeroValue142
  t41 := Tryz.underlying64
  a41 := Tryz.isAgg64
  z41 := Tryz.sizeOf64
  v41 := Tryz.zeroValue64
  t44 := Tryz.underlying138
  a44 := Tryz.isAgg138
  z44 := Tryz.sizeOf138
  v44 := Tryz.zeroValue138
  t46 := Tryz.underlying125
  a46 := Tryz.isAgg125
  z46 := Tryz.sizeOf125
  v46 := Tryz.zeroValue125
  t53 := Tryz.underlying156
  a53 := Tryz.isAgg156
  z53 := Tryz.sizeOf156
  v53 := Tryz.zeroValue156
  t57 := Tryz.underlying130
  a57 := Tryz.isAgg130
  z57 := Tryz.sizeOf130
  v57 := Tryz.zeroValue130
  t63 := Tryz.underlying166
  a63 := Tryz.isAgg166
  z63 := Tryz.sizeOf166
  v63 := Tryz.zeroValue166
  t64 := Tryz.underlying167
  a64 := Tryz.isAgg167
  z64 := Tryz.sizeOf167
  v64 := Tryz.zeroValue167 }
def sortf_ren : Go.Shelf.Ren := ⟨fun | 6 => 81 | 15 => 104 | 14 => 103 | 28 => 129 | 29 => 130 | 20 => 121 | 21 => 122 | 22 => 123 | 23 => 124 | 24 => 125 | 25 => 126 | 26 => 127 | 27 => 128 | 46 => 148 | 47 => 149 | 48 => 150 | 49 => 151 | 50 => 152 | 57 => 160 | n => n, fun | 22 => 23 | 24 => 54 | 25 => 111 | 3 => 3 | 39 => 118 | 0 => 0 | 53 => 138 | 55 => 125 | 4 => 4 | 46 => 142 | 45 => 141 | 50 => 64 | 5 => 5 | 9 => 9 | 66 => 156 | 70 => 130 | 76 => 166 | 77 => 167 | n => n, fun | n => n⟩
theorem sortf : Go.Proofs.SlLaysF0.n6 Tryz.prog sortf_ren := {
  mixed := by kernel_rfl
  f6 := ⟨Tryz.f81.name, by decide, Tryz.func81.trans (congrArg some (by kernel_rfl))⟩
  f14 := ⟨Tryz.f103.name, by decide, Tryz.func103.trans (congrArg some (by kernel_rfl))⟩
  f15 := Tryz.func104.trans (congrArg some (by kernel_rfl))
  f20 := ⟨Tryz.f121.name, by decide, Tryz.func121.trans (congrArg some (by kernel_rfl))⟩
  f21 := ⟨Tryz.f122.name, by decide, Tryz.func122.trans (congrArg some (by kernel_rfl))⟩
  f22 := ⟨Tryz.f123.name, by decide, Tryz.func123.trans (congrArg some (by kernel_rfl))⟩
  f23 := ⟨Tryz.f124.name, by decide, Tryz.func124.trans (congrArg some (by kernel_rfl))⟩
  f24 := ⟨Tryz.f125.name, by decide, Tryz.func125.trans (congrArg some (by kernel_rfl))⟩
  f25 := ⟨Tryz.f126.name, by decide, Tryz.func126.trans (congrArg some (by kernel_rfl))⟩
  f26 := ⟨Tryz.f127.name, by decide, Tryz.func127.trans (congrArg some (by kernel_rfl))⟩
  f27 := ⟨Tryz.f128.name, by decide, Tryz.func128.trans (congrArg some (by kernel_rfl))⟩
  f28 := Tryz.func129.trans (congrArg some (by kernel_rfl))
  f29 := Tryz.func130.trans (congrArg some (by kernel_rfl))
  f46 := ⟨Tryz.f148.name, by decide, Tryz.func148.trans (congrArg some (by kernel_rfl))⟩
  f47 := Tryz.func149.trans (congrArg some (by kernel_rfl))
  f48 := Tryz.func150.trans (congrArg some (by kernel_rfl))
  f49 := ⟨Tryz.f151.name, by decide, Tryz.func151.trans (congrArg some (by kernel_rfl))⟩
  f50 := ⟨Tryz.f152.name, by decide, Tryz.func152.trans (congrArg some (by kernel_rfl))⟩
  f57 := ⟨Tryz.f160.name, by decide, Tryz.func160.trans (congrArg some (by kernel_rfl))⟩
  t0 := Tryz.underlying0
  a0 := Tryz.isAgg0
  z0 := Tryz.sizeOf0
  v0 := Tryz.zeroValue0
  t3 := Tryz.underlying3
  a3 := Tryz.isAgg3
  z3 := Tryz.sizeOf3
  v3 := Tryz.zeroValue3
  t4 := Tryz.underlying4
  a4 := Tryz.isAgg4
  z4 := Tryz.sizeOf4
  v4 := Tryz.zeroValue4
  t5 := Tryz.underlying5
  a5 := Tryz.isAgg5
  z5 := Tryz.sizeOf5
  v5 := Tryz.zeroValue5
  t9 := Tryz.underlying9
  a9 := Tryz.isAgg9
  z9 := Tryz.sizeOf9
  v9 := Tryz.zeroValue9
  t22 := Tryz.underlying23
  a22 := Tryz.isAgg23
  z22 := Tryz.sizeOf23
  v22 := Tryz.zeroValue23
  t25 := Tryz.underlying111
  a25 := Tryz.isAgg111
  z25 := Tryz.sizeOf111
  v25 := Tryz.zeroValue111
  t39 := Tryz.underlying118
  a39 := Tryz.isAgg118
  z39 := Tryz.sizeOf118
  v39 := Tryz.zeroValue118
  t45 := Tryz.underlying141
  a45 := Tryz.isAgg141
  z45 := Tryz.sizeOf141
  v45 := Tryz.zeroValue141
  t46 := Tryz.underlying142
  a46 := Tryz.isAgg142
  z46 := Tryz.sizeOf142
  v46 := Tryz.zeroValue142
  t50 := Tryz.underlying64
  a50 := Tryz.isAgg64
  z50 := Tryz.sizeOf64
  v50 := Tryz.zeroValue64
  t53 := Tryz.underlying138
  a53 := Tryz.isAgg138
  z53 := Tryz.sizeOf138
  v53 := Tryz.zeroValue138
  t55 := Tryz.underlying125
  a55 := Tryz.isAgg125
  z55 := Tryz.sizeOf125
  v55 := Tryz.zeroValue125
  t66 := Tryz.underlying156
  a66 := Tryz.isAgg156
  z66 := Tryz.sizeOf156
  v66 := Tryz.zeroValue156
  t70 := Tryz.underlying130
  a70 := Tryz.isAgg130
  z70 := Tryz.sizeOf130
  v70 := Tryz.zeroValue130
  t76 := Tryz.underlying166
  a76 := Tryz.isAgg166
  z76 := Tryz.sizeOf166
  v76 := Tryz.zeroValue166
  t77 := Tryz.underlying167
  a77 := Tryz.isAgg167
  z77 := Tryz.sizeOf167
  v77 := Tryz.zeroValue167 }
end Go.Proofs.YtlfbagkonckffaaGreat.Lays

/- The landed txns: find. -/
namespace Go.Proofs.YtlfbagkonckffaaGreat.Txn
open Go.RowKit Go.Shelf Go.Sort Oct Rec RowF Lay InR RngQ Bat RowL
open Epo (At0 AtO belA cel2)
open Sqs (at0_grown at0_set9 grown_set9 grown_bel grown_then)

attribute [local go_sem] Oper.semAt_some

theorem at_split {p v : Int} : ∀ {l : List Opn}, chO v l = true → ∀ i x, l[i]? = some x → (x.pid < p ↔ i < atO l p) := by
  intro l
  induction l generalizing v with
  | nil => intro _ i x h; simp at h
  | cons y l ih =>
    intro h i x hx
    simp only [chO, Bool.and_eq_true, decide_eq_true_eq] at h
    by_cases h1 : y.pid < p
    · rw [atO, if_pos h1]
      cases i with
      | zero => simp only [List.getElem?_cons_zero, Option.some.injEq] at hx; subst hx; omega
      | succ i => rw [List.getElem?_cons_succ] at hx; have := ih h.2 i x hx; omega
    · rw [atO, if_neg h1]
      cases i with
      | zero => simp only [List.getElem?_cons_zero, Option.some.injEq] at hx; subst hx; omega
      | succ i =>
        rw [List.getElem?_cons_succ] at hx
        have := chO_mem h.2 x (List.mem_of_getElem? hx)
        omega
theorem count_lt (k : Nat) : ∀ n, k ≤ n → (List.range n).countP (fun i => decide (i < k)) = k := by
  intro n
  induction n generalizing k with
  | zero => intro h; simp at h; simp [h]
  | succ n ih =>
    intro h
    rw [List.range_succ, List.countP_append]
    by_cases hk : k = n + 1
    · subst hk
      have h1 : (List.range n).countP (fun i => decide (i < n + 1)) = (List.range n).countP (fun i => decide (i < n)) := List.countP_congr fun i hi => by
        have := List.mem_range.1 hi
        simp only [decide_eq_true_eq]
        omega
      rw [h1, ih n (Nat.le_refl _)]
      simp
    · rw [ih k (by omega)]
      simp
      omega
def geO (l : List Opn) (p : Int) (i : Nat) : Bool := match l[i]? with | some x => decide (p ≤ x.pid) | none => true
theorem count_ge {l : List Opn} {p v : Int} (h : chO v l = true) : (List.range l.length).countP (fun i => !geO l p i) = atO l p := by
  rw [← count_lt (atO l p) l.length (atO_le p l)]
  refine List.countP_congr fun i hi => ?_
  have hl := List.mem_range.1 hi
  have h1 := at_split (p := p) h i l[i] (List.getElem?_eq_getElem hl)
  unfold geO
  rw [List.getElem?_eq_getElem hl]
  simp only [Bool.not_eq_true', decide_eq_false_iff_not, decide_eq_true_eq]
  omega
theorem ge_mono {l : List Opn} {p v : Int} (h : chO v l = true) : ∀ a b, a ≤ b → b < l.length → geO l p a = true → geO l p b = true := fun a b hab hb ha => by
  have h1 := at_split (p := p) h b l[b] (List.getElem?_eq_getElem hb)
  have h2 := at_split (p := p) h a (l[a]'(by omega)) (List.getElem?_eq_getElem (by omega))
  unfold geO at ha ⊢
  rw [List.getElem?_eq_getElem (by omega)] at ha
  rw [List.getElem?_eq_getElem hb]
  simp only [decide_eq_true_eq] at ha ⊢
  omega
set_option maxRecDepth 100000 in
set_option maxHeartbeats 4000000 in
theorem find1_is (ba bx b o n c i : Nat) (l : List Opn) (p : Int) (W : World) (hi : i < n) (hr : RdOp W W.heap.size (some ⟨b, o, none⟩) n l) (ha : W.cell? ⟨ba, 0, none⟩ = some (.slice (some ⟨b, o, none⟩) n c)) (hx : W.cell? ⟨bx, 0, none⟩ = some (.int .i64 p)) :
    Calls Tryz.prog 73 (#[.int .i64 (i : Int)] ++ #[.pointer (some ⟨ba, 0, none⟩), .pointer (some ⟨bx, 0, none⟩)]) W fun e w' => e = .returned (.bool (geO l p i)) ∧ ∃ q, w' = W.drewN q := by
  obtain ⟨b', o', ⟨x0, x1⟩, hA, _, hxk, c0, _⟩ := op_at hr hi
  injection hA with hA
  injection hA with h1 h2
  subst h1; subst h2
  simp only at c0
  obtain ⟨z, hz⟩ : ∃ z, decide (p ≤ x0) = z := ⟨_, rfl⟩
  rw [show geO l p i = z by unfold geO; rw [hxk]; exact hz]
  have HZ := Lib.hid hz
  have hi1 : (0 : Int) ≤ (i : Int) := by omega
  have hi2 : (i : Int) < (n : Int) := by omega
  clear hz hr hxk hi
  go_enter Tryz.func73, Tryz.ntmps73
  go_wp2
  go_region
  all_goals go_wp2
  all_goals go_ret
  all_goals exact ⟨by rw [← HZ.out]; simp, 1, rfl⟩
set_option maxRecDepth 100000 in
set_option maxHeartbeats 8000000 in
theorem find_is (A : Option Addr) (n c : Nat) (l : List Opn) (p : Int) (w : World) (hr : RdOp w w.heap.size A n l) (hn : n ≤ 1000000) (hc : chO 0 l = true) {k : Nat} (hk : atO l p = k) {z : Bool} (hz : hasO l p = z) :
    Calls Tryz.prog 40 #[.slice A n c, .int .i64 p] w fun e w' => e = .returned (.tuple #[.int .i64 (k : Int), .bool z]) ∧ Below w.heap.size w w' := by
  have hlen := hr.len
  have HW0 : ∃ W, W = (w.alloc (.cells #[.slice A n c] 22)).alloc (.cells #[.int .i64 p] 3) := ⟨_, rfl⟩
  obtain ⟨W, hW⟩ := HW0
  have hB : Below w.heap.size w W := by rw [hW]; exact bel_alloc (bel_alloc (Below.refl _ _) _) _
  have hs : W.heap.size = w.heap.size + 2 := by rw [hW]; simp
  have ca : W.cell? ⟨w.heap.size, 0, none⟩ = some (.slice A n c) := by rw [hW]; exact cell_alloc_sl _ (cell_new_sl w _ _)
  have cx : W.cell? ⟨w.heap.size + 1, 0, none⟩ = some (.int .i64 p) := by rw [hW]; have := cell_new_sl (w.alloc (.cells #[.slice A n c] 22)) (.int .i64 p) 3; rwa [World.size_alloc] at this
  have hrW := rfUp hr hB
  have hcnt := count_ge (p := p) hc
  rw [hlen, hk] at hcnt
  have hS := Any.sort_Search (P := Tryz.prog) Lays.search 73 #[.pointer (some ⟨w.heap.size, 0, none⟩), .pointer (some ⟨w.heap.size + 1, 0, none⟩)] n (geO l p) W (enters_of Tryz.func73 (by kernel_rfl) rfl) (by omega)
    (fun m os i hi => by
      have hbg := below_grown_sl W.heap.size W m os (Nat.le_refl _)
      obtain ⟨b, o, x, rfl, hb, _, _, _⟩ := op_at hrW hi
      exact (find1_is w.heap.size (w.heap.size + 1) b o n c i l p _ hi (rfUp hrW hbg) (cell_grown (by simp only; omega) ca m os) (cell_grown (by simp only; omega) cx m os)).mono fun _ _ ⟨he, q, hq⟩ => ⟨he, q, #[], by rw [hq, grow_empty]⟩)
    (fun a b hab hb ha => ge_mono hc a b hab (by omega) ha)
  rw [hcnt] at hS
  change Calls Tryz.prog 72 _ _ _ at hS
  have HS := Lib.hid hS
  have HWW := Lib.hid hW
  have HBW := Lib.hid hB
  have HC := Lib.hid (at_cases (p := p) hc)
  have HR := Lib.hid hrW
  have HZ := Lib.hid hz
  have hkn : k ≤ n := by rw [← hk, ← hlen]; exact atO_le p l
  have HK := Lib.hid hk
  clear hS hW hB hrW hr hcnt hc hz hk hlen
  go_enter Tryz.func40, Tryz.ntmps40
  go_upto_region 2 with (go_at_call 72; rw [← HWW.out]; (with_reducible refine HS.out.mono ?_); rintro e w2 ⟨rfl, q, os, rfl⟩)
  have hb2 := below_grown_sl W.heap.size W q os (Nat.le_refl _)
  have d0 := (cell_grown (by simp only; omega) ca q os)
  have d1 := (cell_grown (by simp only; omega) cx q os)
  have HB2 := Lib.hid (bel_trans HBW.out hb2)
  have HR2 := Lib.hid (rfUp HR.out hb2)
  generalize grow (W.drewN q) os = V at *
  clear hb2 ca cx
  by_cases hlt : k < n
  · obtain ⟨b, o, ⟨x0, x1⟩, hA, _, hxk, c0, _⟩ := op_at HR2.out hlt
    subst hA
    simp only at c0
    have hk1 : (0 : Int) ≤ (k : Int) := by omega
    have hk2 : (k : Int) < (n : Int) := by omega
    have hzz : z = decide (x0 = p) := by
      rcases HC.out with ⟨y, h1, h2, h3, _⟩ | ⟨h1, h2⟩
      · rw [HK.out, hxk] at h1
        injection h1 with h1
        subst h1
        rw [← HZ.out, h3]
        exact (decide_eq_true h2).symm
      · rw [HK.out] at h1
        have := h1 _ hxk
        simp only at this
        rw [← HZ.out, h2]
        exact (decide_eq_false (by omega)).symm
    subst hzz
    clear hxk
    go_region
    all_goals go_wp2
    all_goals go_ret2
    all_goals exact ⟨by by_cases h9 : x0 = p <;> simp [h9], HB2.out.drew⟩
  · have hk2 : ¬ (k : Int) < (n : Int) := by omega
    have hzz : z = false := by
      rcases HC.out with ⟨y, h1, _⟩ | ⟨_, h2⟩
      · have h3 := (List.getElem?_eq_some_iff.1 h1).1
        have h4 := HR2.out.len
        rw [HK.out] at h3
        omega
      · rw [← HZ.out, h2]
    subst hzz
    go_region
    all_goals go_wp2
    all_goals go_ret2
    all_goals exact ⟨rfl, HB2.out.drew⟩
end Go.Proofs.YtlfbagkonckffaaGreat.Txn
