/- Joined: IdxV. -/
import Derived.Test.YtbnkfljkojhkoaaGreatDoorIdxT
import Derived.Test.YtbnkfljkojhkoaaGreatDoorIdxW
import Derived.Test.YtbnkfljkojhkoaaGreatDoorJIn
/- The laws' own live. -/
namespace Go.Proofs.YtbnkfljkojhkoaaGreatDoor.Idx
open Go.RowKit Seg RowF Oct Rec Crc Bat InR

def tb_live8 : List (Nat × Nat) := [(0, 154742504910672534362390527), (1, 154742504910672534362390526), (2, 154742504910672534362390525), (0, 154742504910672534362390527), (12, 154742504910672534362390515), (16, 154742504910672534362390511), (32, 154742504910672534362390495), (96, 154742504910672534362390431), (160, 154742504910672534362390367), (288, 154742504910672534362390239), (544, 154742504910672534362389983), (1056, 154742504910672534362389471), (2080, 154742504910672534362388479), (4096, 154742504910672534362386431), (12288, 154742504910672534362378239), (20480, 154742504910672534362370047), (36864, 154742504910672534362353663), (69632, 154742504910672534362320895), (135168, 154742504910672534362255359), (266240, 154742504910672534362128383), (524288, 154742504910672534361866239), (1572864, 154742504910672534360817663), (2621440, 154742504910672534359769087), (4718592, 154742504910672534357671935), (8912896, 154742504910672534353477631), (17301504, 154742504910672534345089023), (34078720, 154742504910672534328836095), (67108864, 154742504910672534295281663), (201326592, 154742504910672534161063935), (335544320, 154742504910672534026846207), (603979776, 154742504910672533825519615), (1073741824, 154742504910672533288648703), (3221225472, 154742504910672531141165055), (5368709120, 154742504910672528993681407), (9663676416, 154742504910672525772455935), (17179869184, 154742504910672517182521343), (51539607552, 154742504910672482822782975), (85899345920, 154742504910672448463044607), (154618822656, 154742504910672396923437055), (274877906944, 154742504910672259484483583), (824633720832, 154742504910671709728669695), (1374389534720, 154742504910671159972855807), (2473901162496, 154742504910670060461228031), (4672924418048, 154742504910668136315879423), (8796093022208, 154742504910663738269368319), (26388279066624, 154742504910646146083323903), (43980465111040, 154742504910628553897279487), (79164837199872, 154742504910602165618212863), (140737488355328, 154742504910531796874035199), (140737488355328, 154742504910531796874035199), (985162418487296, 154742504909687371943903231), (1266637395197952, 154742504909405896967192575), (2392537302040576, 154742504908279997060349951), (5629499534213120, 154742504906168934735020031), (9007199254740992, 154742504901665335107649535), (27021597764222976, 154742504883650936598167551), (45035996273704960, 154742504865636538088685567), (81064793292668928, 154742504829607741069721599), (180143985094819840, 154742504766557346286534655), (288230376151711744, 154742504622442158210678783), (864691128455135232, 154742504045981405907255295), (1441151880758558720, 154742503469520653603831807), (2594073385365405696, 154742502316599148996984831), (5764607523034234880, 154742500298986515935002623), (9223372036854775808, 154742495687300497507614719), (27670116110564327424, 154742477240556423798063103), (9223372036854775808, 154742495687300497507614719), (83010348331692982272, 154742421900324202669408255), (156797324626531188736, 154742348113347907831201791), (304371277216207601664, 154742200539395318154788863), (636412670542979530752, 154741868498001991382859775), (1189814992754266079232, 154741315095679780096311295), (2398076729582241710080, 154740143727431099539783679), (4722366482869645213696, 154737782544189664717176831), (14167099448608935641088, 154728337811223925426749439), (4722366482869645213696, 154737782544189664717176831), (42501298345826806923264, 154700003612326707555467263), (80280230208783968632832, 154662224680463750393757695), (155838093934698292051968, 154586666816737836070338559), (325843287318005519745024, 154416661623354528842645503), (609185276290184232566784, 154133319634382350129823743), (1227815285546107755560960, 153533579091057905187684351), (2417851639229258349412352, 152324653271443276012978175), (7253554917687775048237056, 147488949992984759314153471), (12089258196146291747061760, 142653246714526242615328767), (21760664753063325144711168, 132981840157609209217679359), (77371252455336267181195263, 116056878683004400771792895)]
theorem live_rows {w : World} {B : Nat} {v : Value} {n : Nat} (h : OwnE w B v n exE) : n = 2 := (h.len enS).symm
set_option maxRecDepth 100000 in
set_option maxHeartbeats 8000000 in
theorem live8_any (w : World) (ht : Tab w) : Calls Tryz.prog 5 #[] w fun e w' => e = .returned (.bool true) ∧ Below w.heap.size w w' := by
  have HT0 := Lib.hid ht
  have HMK := Lib.hid ex_make
  have HS6 := Lib.hid ex_since6
  have HS8 := Lib.hid ex_since8
  have HFD := Lib.hid ex_find
  have HCK := Lib.hid ex_ck
  have HC0 := Lib.hid ex_ck0
  have HF1 := Lib.hid ex_floor1
  have HF2 := Lib.hid ex_floor2
  have HW8 := Lib.hid ex_when8
  have HW7 := Lib.hid ex_when7
  have hlz : exS.bytes.length ≤ 840 := by have h1 := exA_len; have h2 := exB_len; show (byB exA ++ byB exB).length ≤ 840; rw [List.length_append]; omega
  have hmx : Tryz.prog.follows .mixedOrders = true := by kernel_rfl
  have hI0 : I64 0 := by unfold I64; omega
  have hpos := ex_pos
  obtain ⟨P, hP⟩ : ∃ P : Nat, P = (byB exA).length := ⟨_, rfl⟩
  obtain ⟨Y, hY⟩ : ∃ Y, Y = exS.bytes := ⟨_, rfl⟩
  have e0 : exS = ⟨0, Y⟩ := by rw [hY]; rfl
  have HYY := Lib.hid hY
  rw [← hP] at hpos HF2 HW8
  rw [← hY] at hlz
  rw [e0] at HMK HS6 HS8 HFD HCK HC0
  have HFL := Lib.hid (show exE.flatMap enC = [.int .i64 0, .int .i64 0, .int .i64 7, .int .i64 2, .int .i64 (P : Int), .int .i64 7] by rw [hP]; rfl)
  unfold exB at HFD
  have uP : decide ((0 : Int) < (P : Int)) = true := decide_eq_true (by omega)
  clear ht hY e0 hP
  go_enter Tryz.func5, Tryz.ntmps5
  go_wp2_with (first
    | (go_at_call 17; (with_reducible refine (two_any _ HT0.out).mono ?_); rintro e w1 ⟨A1, n1, c1, rfl, ho, hb⟩; have hcap1 := ho.cap; have hl1 := ho.len; have hn1 : n1 ≤ 137438953472 := (by rw [← HYY.out] at hl1; omega); rw [← HYY.out] at ho; have hba := belA w1 (.cells #[.int .i64 0, .slice A1 n1 c1] 24); have HW_1 := Lib.hid (bel_trans hb hba); have HT_1 := Lib.hid ((HT0.out.bel hb).bel hba); have HR_1 := Lib.hid (rdUp ho.rd hba); have HS_1 := Lib.hid (At0.new w1 [.int .i64 0, .slice A1 n1 c1] 24); clear hb ho hba hl1)
    | (go_at_call 7; (with_reducible refine (Make_is A1 n1 c1 0 _ 1 HMK.out _ HR_1.out hcap1 hI0 HT_1.out).mono ?_); rintro e w2 ⟨A2, n2, c2, rfl, ho, hb⟩; have HW_2 := Lib.hid (bel_trans HW_1.out hb); have HT_2 := Lib.hid (HT_1.out.bel hb); have HR_2 := Lib.hid (rdUp HR_1.out hb); have HS_2 := Lib.hid (HS_1.out.below hb); obtain rfl := live_rows ho; have hcap2 := ho.cap; obtain ⟨g, rfl, _, hgl⟩ := ho.form (by decide); have HE_2 := Lib.hid (OwnF.rd enS ho); have HL_2 := Lib.hid ((HFL.out ▸ at1_row ho hgl : At1 w2 g [.int .i64 0, .int .i64 0, .int .i64 7, .int .i64 2, .int .i64 (P : Int), .int .i64 7])); have hs2_0 : w2.cell? ⟨w1.heap.size, 0, none⟩ = some (.int .i64 0) := HS_2.out.cell 0; have hs2_1 : w2.cell? ⟨w1.heap.size, 1, none⟩ = some (.slice A1 n1 c1) := HS_2.out.cell 1; clear hb ho hgl)
    | (go_at_call 14; (with_reducible refine (Since_is A1 n1 c1 0 _ (some ⟨g, 0, none⟩) 2 c2 exE 6 HS6.out _ HR_2.out hcap1 HE_2.out hcap2 (by decide) hI0 HT_2.out).mono ?_); rintro e w3 ⟨rfl, hb⟩; have HW_3 := Lib.hid (bel_trans HW_2.out hb); have HT_3 := Lib.hid (HT_2.out.bel hb); have HR_3 := Lib.hid (rdUp HR_2.out hb); have HS_3 := Lib.hid (HS_2.out.below hb); have HE_3 := Lib.hid (rdeUp HE_2.out hb); have HL_3 := Lib.hid (HL_2.out.below hb); have hs3_0 : w3.cell? ⟨w1.heap.size, 0, none⟩ = some (.int .i64 0) := HS_3.out.cell 0; have hs3_1 : w3.cell? ⟨w1.heap.size, 1, none⟩ = some (.slice A1 n1 c1) := HS_3.out.cell 1; clear hb)
    | (go_at_call 14; (with_reducible refine (Since_is A1 n1 c1 0 _ (some ⟨g, 0, none⟩) 2 c2 exE 8 HS8.out _ HR_3.out hcap1 HE_3.out hcap2 (by decide) hI0 HT_3.out).mono ?_); rintro e w4 ⟨rfl, hb⟩; have HW_4 := Lib.hid (bel_trans HW_3.out hb); have HT_4 := Lib.hid (HT_3.out.bel hb); have HR_4 := Lib.hid (rdUp HR_3.out hb); have HS_4 := Lib.hid (HS_3.out.below hb); have HE_4 := Lib.hid (rdeUp HE_3.out hb); have HL_4 := Lib.hid (HL_3.out.below hb); have hs4_0 : w4.cell? ⟨w1.heap.size, 0, none⟩ = some (.int .i64 0) := HS_4.out.cell 0; have hs4_1 : w4.cell? ⟨w1.heap.size, 1, none⟩ = some (.slice A1 n1 c1) := HS_4.out.cell 1; clear hb)
    | (go_at_call 12; (with_reducible refine (Find_is A1 n1 c1 0 _ (some ⟨g, 0, none⟩) 2 c2 exE 2 HFD.out _ HR_4.out hcap1 HE_4.out hcap2 (by decide) hI0 HT_4.out).mono ?_); rintro e w5 ⟨A5, n5, c5, rfl, hcap5, hn5, hr5, hb⟩; have HW_5 := Lib.hid (bel_trans HW_4.out hb); have HT_5 := Lib.hid (HT_4.out.bel hb); have HR_5 := Lib.hid (rdUp HR_4.out hb); have HS_5 := Lib.hid (HS_4.out.below hb); have HE_5 := Lib.hid (rdeUp HE_4.out hb); have HL_5 := Lib.hid (HL_4.out.below hb); have hba := belA w5 (.cells #[.int .i64 2, .int .i64 2, .int .i64 2, .int .i64 0, .int .i64 (-1), .int .i64 0, .int .i64 0, .bool false, .int .i64 0, .slice A5 n5 c5] 36); have HW_5a := Lib.hid (bel_trans HW_5.out hba); have HT_5a := Lib.hid (HT_5.out.bel hba); have HR_5a := Lib.hid (rdUp HR_5.out hba); have HS_5a := Lib.hid (HS_5.out.below hba); have HE_5a := Lib.hid (rdeUp HE_5.out hba); have HL_5a := Lib.hid (HL_5.out.below hba); have HB_5a := Lib.hid (At0.new w5 [.int .i64 2, .int .i64 2, .int .i64 2, .int .i64 0, .int .i64 (-1), .int .i64 0, .int .i64 0, .bool false, .int .i64 0, .slice A5 n5 c5] 36); clear hb hba hr5))
  have hbd := (Below.refl (w5.alloc (.cells #[.int .i64 2, .int .i64 2, .int .i64 2, .int .i64 0, .int .i64 (-1), .int .i64 0, .int .i64 0, .bool false, .int .i64 0, .slice A5 n5 c5] 36)).heap.size (w5.alloc (.cells #[.int .i64 2, .int .i64 2, .int .i64 2, .int .i64 0, .int .i64 (-1), .int .i64 0, .int .i64 0, .bool false, .int .i64 0, .slice A5 n5 c5] 36))).drew
  have HW_R8 := Lib.hid (bel_trans HW_5a.out hbd)
  have HT_R8 := Lib.hid (HT_5a.out.bel hbd)
  have HR_R8 := Lib.hid (rdUp HR_5a.out hbd)
  have HS_R8 := Lib.hid (HS_5a.out.below hbd)
  have HE_R8 := Lib.hid (rdeUp HE_5a.out hbd)
  have HL_R8 := Lib.hid (HL_5a.out.below hbd)
  have HB_R8 := Lib.hid (HB_5a.out.below hbd)
  have HS8R := Lib.hid (show (fun W9 : World => W9.cell? ⟨g, 0, none⟩ = some (.int .i64 0) ∧ W9.cell? ⟨g, 1, none⟩ = some (.int .i64 0) ∧ W9.cell? ⟨g, 2, none⟩ = some (.int .i64 7) ∧ W9.cell? ⟨g, 3, none⟩ = some (.int .i64 2) ∧ W9.cell? ⟨g, 4, none⟩ = some (.int .i64 (P : Int)) ∧ W9.cell? ⟨g, 5, none⟩ = some (.int .i64 7) ∧ W9.cell? ⟨w1.heap.size, 0, none⟩ = some (.int .i64 0) ∧ W9.cell? ⟨w1.heap.size, 1, none⟩ = some (.slice A1 n1 c1) ∧ W9.cell? ⟨w5.heap.size, 0, none⟩ = some (.int .i64 2)) (w5.alloc (.cells #[.int .i64 2, .int .i64 2, .int .i64 2, .int .i64 0, .int .i64 (-1), .int .i64 0, .int .i64 0, .bool false, .int .i64 0, .slice A5 n5 c5] 36)).drew from ⟨HL_R8.out.2 0 _ rfl, HL_R8.out.2 1 _ rfl, HL_R8.out.2 2 _ rfl, HL_R8.out.2 3 _ rfl, HL_R8.out.2 4 _ rfl, HL_R8.out.2 5 _ rfl, HS_R8.out.cell 0, HS_R8.out.cell 1, HB_R8.out.cell 0⟩)
  clear hbd
  have hlR8_0 : (w5.alloc (.cells #[.int .i64 2, .int .i64 2, .int .i64 2, .int .i64 0, .int .i64 (-1), .int .i64 0, .int .i64 0, .bool false, .int .i64 0, .slice A5 n5 c5] 36)).drew.cell? ⟨g, 0, none⟩ = some (.int .i64 0) := HL_R8.out.2 0 _ rfl
  have hlR8_1 : (w5.alloc (.cells #[.int .i64 2, .int .i64 2, .int .i64 2, .int .i64 0, .int .i64 (-1), .int .i64 0, .int .i64 0, .bool false, .int .i64 0, .slice A5 n5 c5] 36)).drew.cell? ⟨g, 1, none⟩ = some (.int .i64 0) := HL_R8.out.2 1 _ rfl
  have hlR8_2 : (w5.alloc (.cells #[.int .i64 2, .int .i64 2, .int .i64 2, .int .i64 0, .int .i64 (-1), .int .i64 0, .int .i64 0, .bool false, .int .i64 0, .slice A5 n5 c5] 36)).drew.cell? ⟨g, 2, none⟩ = some (.int .i64 7) := HL_R8.out.2 2 _ rfl
  have hlR8_3 : (w5.alloc (.cells #[.int .i64 2, .int .i64 2, .int .i64 2, .int .i64 0, .int .i64 (-1), .int .i64 0, .int .i64 0, .bool false, .int .i64 0, .slice A5 n5 c5] 36)).drew.cell? ⟨g, 3, none⟩ = some (.int .i64 2) := HL_R8.out.2 3 _ rfl
  have hlR8_4 : (w5.alloc (.cells #[.int .i64 2, .int .i64 2, .int .i64 2, .int .i64 0, .int .i64 (-1), .int .i64 0, .int .i64 0, .bool false, .int .i64 0, .slice A5 n5 c5] 36)).drew.cell? ⟨g, 4, none⟩ = some (.int .i64 (P : Int)) := HL_R8.out.2 4 _ rfl
  have hlR8_5 : (w5.alloc (.cells #[.int .i64 2, .int .i64 2, .int .i64 2, .int .i64 0, .int .i64 (-1), .int .i64 0, .int .i64 0, .bool false, .int .i64 0, .slice A5 n5 c5] 36)).drew.cell? ⟨g, 5, none⟩ = some (.int .i64 7) := HL_R8.out.2 5 _ rfl
  have hsR8_0 : (w5.alloc (.cells #[.int .i64 2, .int .i64 2, .int .i64 2, .int .i64 0, .int .i64 (-1), .int .i64 0, .int .i64 0, .bool false, .int .i64 0, .slice A5 n5 c5] 36)).drew.cell? ⟨w1.heap.size, 0, none⟩ = some (.int .i64 0) := HS_R8.out.cell 0
  have hsR8_1 : (w5.alloc (.cells #[.int .i64 2, .int .i64 2, .int .i64 2, .int .i64 0, .int .i64 (-1), .int .i64 0, .int .i64 0, .bool false, .int .i64 0, .slice A5 n5 c5] 36)).drew.cell? ⟨w1.heap.size, 1, none⟩ = some (.slice A1 n1 c1) := HS_R8.out.cell 1
  have hbR8_0 : (w5.alloc (.cells #[.int .i64 2, .int .i64 2, .int .i64 2, .int .i64 0, .int .i64 (-1), .int .i64 0, .int .i64 0, .bool false, .int .i64 0, .slice A5 n5 c5] 36)).drew.cell? ⟨w5.heap.size, 0, none⟩ = some (.int .i64 2) := HB_R8.out.cell 0
  refine region_let (fun W9 : World => W9.cell? ⟨g, 0, none⟩ = some (.int .i64 0) ∧ W9.cell? ⟨g, 1, none⟩ = some (.int .i64 0) ∧ W9.cell? ⟨g, 2, none⟩ = some (.int .i64 7) ∧ W9.cell? ⟨g, 3, none⟩ = some (.int .i64 2) ∧ W9.cell? ⟨g, 4, none⟩ = some (.int .i64 (P : Int)) ∧ W9.cell? ⟨g, 5, none⟩ = some (.int .i64 7) ∧ W9.cell? ⟨w1.heap.size, 0, none⟩ = some (.int .i64 0) ∧ W9.cell? ⟨w1.heap.size, 1, none⟩ = some (.slice A1 n1 c1) ∧ W9.cell? ⟨w5.heap.size, 0, none⟩ = some (.int .i64 2)) 99 87 hmx rfl fun ops Q HOPS HQ => ?_
  have HREG := reg_of HOPS tb_live8 rfl (by kernel_rfl) (by kernel_rfl) (by decide)
  refine sQx HOPS HREG 0 1 (fun w9 ⟨q0, q1, q2, q3, q4, q5, q6, q7, q8⟩ => by go_simp; first | done | with_reducible rfl) rfl HS8R.out ?_
  dsimp only [List.set_cons_zero, List.set_cons_succ]
  refine sQx HOPS HREG 1 3 (fun w9 ⟨q0, q1, q2, q3, q4, q5, q6, q7, q8⟩ => by go_simp; first | done | with_reducible rfl) rfl HS8R.out ?_
  dsimp only [List.set_cons_zero, List.set_cons_succ]
  refine sQx HOPS HREG 2 7 (fun w9 ⟨q0, q1, q2, q3, q4, q5, q6, q7, q8⟩ => by go_simp; first | done | with_reducible rfl) rfl HS8R.out ?_
  dsimp only [List.set_cons_zero, List.set_cons_succ]
  refine sQx HOPS HREG 3 15 (fun w9 ⟨q0, q1, q2, q3, q4, q5, q6, q7, q8⟩ => by go_simp; first | done | with_reducible rfl) rfl HS8R.out ?_
  dsimp only [List.set_cons_zero, List.set_cons_succ]
  refine sQx HOPS HREG 4 31 (fun w9 ⟨q0, q1, q2, q3, q4, q5, q6, q7, q8⟩ => by go_simp; first | done | with_reducible rfl) rfl HS8R.out ?_
  dsimp only [List.set_cons_zero, List.set_cons_succ]
  refine sQx HOPS HREG 5 63 (fun w9 ⟨q0, q1, q2, q3, q4, q5, q6, q7, q8⟩ => by go_simp; first | done | with_reducible rfl) rfl HS8R.out ?_
  dsimp only [List.set_cons_zero, List.set_cons_succ]
  refine sQx HOPS HREG 6 127 (fun w9 ⟨q0, q1, q2, q3, q4, q5, q6, q7, q8⟩ => by go_simp; first | done | with_reducible rfl) rfl HS8R.out ?_
  dsimp only [List.set_cons_zero, List.set_cons_succ]
  refine sQx HOPS HREG 7 255 (fun w9 ⟨q0, q1, q2, q3, q4, q5, q6, q7, q8⟩ => by go_simp; first | done | with_reducible rfl) rfl HS8R.out ?_
  dsimp only [List.set_cons_zero, List.set_cons_succ]
  refine sQx HOPS HREG 8 511 (fun w9 ⟨q0, q1, q2, q3, q4, q5, q6, q7, q8⟩ => by go_simp; first | done | with_reducible rfl) rfl HS8R.out ?_
  dsimp only [List.set_cons_zero, List.set_cons_succ]
  refine sQx HOPS HREG 9 1023 (fun w9 ⟨q0, q1, q2, q3, q4, q5, q6, q7, q8⟩ => by go_simp; first | done | with_reducible rfl) rfl HS8R.out ?_
  dsimp only [List.set_cons_zero, List.set_cons_succ]
  refine sQx HOPS HREG 10 2047 (fun w9 ⟨q0, q1, q2, q3, q4, q5, q6, q7, q8⟩ => by go_simp; first | done | with_reducible rfl) rfl HS8R.out ?_
  dsimp only [List.set_cons_zero, List.set_cons_succ]
  refine sQx HOPS HREG 11 4095 (fun w9 ⟨q0, q1, q2, q3, q4, q5, q6, q7, q8⟩ => by go_simp; first | done | with_reducible rfl) rfl HS8R.out ?_
  dsimp only [List.set_cons_zero, List.set_cons_succ]
  refine sQx HOPS HREG 12 8191 (fun w9 ⟨q0, q1, q2, q3, q4, q5, q6, q7, q8⟩ => by go_simp; first | done | with_reducible rfl) rfl HS8R.out ?_
  dsimp only [List.set_cons_zero, List.set_cons_succ]
  refine sQx HOPS HREG 13 16383 (fun w9 ⟨q0, q1, q2, q3, q4, q5, q6, q7, q8⟩ => by go_simp; first | done | with_reducible rfl) rfl HS8R.out ?_
  dsimp only [List.set_cons_zero, List.set_cons_succ]
  refine sQx HOPS HREG 14 32767 (fun w9 ⟨q0, q1, q2, q3, q4, q5, q6, q7, q8⟩ => by go_simp; first | done | with_reducible rfl) rfl HS8R.out ?_
  dsimp only [List.set_cons_zero, List.set_cons_succ]
  refine sQx HOPS HREG 15 65535 (fun w9 ⟨q0, q1, q2, q3, q4, q5, q6, q7, q8⟩ => by go_simp; first | done | with_reducible rfl) rfl HS8R.out ?_
  dsimp only [List.set_cons_zero, List.set_cons_succ]
  refine sQx HOPS HREG 16 131071 (fun w9 ⟨q0, q1, q2, q3, q4, q5, q6, q7, q8⟩ => by go_simp; first | done | with_reducible rfl) rfl HS8R.out ?_
  dsimp only [List.set_cons_zero, List.set_cons_succ]
  refine sQx HOPS HREG 17 262143 (fun w9 ⟨q0, q1, q2, q3, q4, q5, q6, q7, q8⟩ => by go_simp; first | done | with_reducible rfl) rfl HS8R.out ?_
  dsimp only [List.set_cons_zero, List.set_cons_succ]
  refine sQx HOPS HREG 18 524287 (fun w9 ⟨q0, q1, q2, q3, q4, q5, q6, q7, q8⟩ => by go_simp; first | done | with_reducible rfl) rfl HS8R.out ?_
  dsimp only [List.set_cons_zero, List.set_cons_succ]
  refine sQx HOPS HREG 19 1048575 (fun w9 ⟨q0, q1, q2, q3, q4, q5, q6, q7, q8⟩ => by go_simp; first | done | with_reducible rfl) rfl HS8R.out ?_
  dsimp only [List.set_cons_zero, List.set_cons_succ]
  refine sQx HOPS HREG 20 2097151 (fun w9 ⟨q0, q1, q2, q3, q4, q5, q6, q7, q8⟩ => by go_simp; first | done | with_reducible rfl) rfl HS8R.out ?_
  dsimp only [List.set_cons_zero, List.set_cons_succ]
  refine sQx HOPS HREG 21 4194303 (fun w9 ⟨q0, q1, q2, q3, q4, q5, q6, q7, q8⟩ => by go_simp; first | done | with_reducible rfl) rfl HS8R.out ?_
  dsimp only [List.set_cons_zero, List.set_cons_succ]
  refine sQx HOPS HREG 22 8388607 (fun w9 ⟨q0, q1, q2, q3, q4, q5, q6, q7, q8⟩ => by go_simp; first | done | with_reducible rfl) rfl HS8R.out ?_
  dsimp only [List.set_cons_zero, List.set_cons_succ]
  refine sQx HOPS HREG 23 16777215 (fun w9 ⟨q0, q1, q2, q3, q4, q5, q6, q7, q8⟩ => by go_simp; first | done | with_reducible rfl) rfl HS8R.out ?_
  dsimp only [List.set_cons_zero, List.set_cons_succ]
  refine sQx HOPS HREG 24 33554431 (fun w9 ⟨q0, q1, q2, q3, q4, q5, q6, q7, q8⟩ => by go_simp; first | done | with_reducible rfl) rfl HS8R.out ?_
  dsimp only [List.set_cons_zero, List.set_cons_succ]
  refine sQx HOPS HREG 25 67108863 (fun w9 ⟨q0, q1, q2, q3, q4, q5, q6, q7, q8⟩ => by go_simp; first | done | with_reducible rfl) rfl HS8R.out ?_
  dsimp only [List.set_cons_zero, List.set_cons_succ]
  refine sQx HOPS HREG 26 134217727 (fun w9 ⟨q0, q1, q2, q3, q4, q5, q6, q7, q8⟩ => by go_simp; first | done | with_reducible rfl) rfl HS8R.out ?_
  dsimp only [List.set_cons_zero, List.set_cons_succ]
  refine sQx HOPS HREG 27 268435455 (fun w9 ⟨q0, q1, q2, q3, q4, q5, q6, q7, q8⟩ => by go_simp; first | done | with_reducible rfl) rfl HS8R.out ?_
  dsimp only [List.set_cons_zero, List.set_cons_succ]
  refine sQx HOPS HREG 28 536870911 (fun w9 ⟨q0, q1, q2, q3, q4, q5, q6, q7, q8⟩ => by go_simp; first | done | with_reducible rfl) rfl HS8R.out ?_
  dsimp only [List.set_cons_zero, List.set_cons_succ]
  refine sQx HOPS HREG 29 1073741823 (fun w9 ⟨q0, q1, q2, q3, q4, q5, q6, q7, q8⟩ => by go_simp; first | done | with_reducible rfl) rfl HS8R.out ?_
  dsimp only [List.set_cons_zero, List.set_cons_succ]
  refine sQx HOPS HREG 30 2147483647 (fun w9 ⟨q0, q1, q2, q3, q4, q5, q6, q7, q8⟩ => by go_simp; first | done | with_reducible rfl) rfl HS8R.out ?_
  dsimp only [List.set_cons_zero, List.set_cons_succ]
  refine sQx HOPS HREG 31 4294967295 (fun w9 ⟨q0, q1, q2, q3, q4, q5, q6, q7, q8⟩ => by go_simp; first | done | with_reducible rfl) rfl HS8R.out ?_
  dsimp only [List.set_cons_zero, List.set_cons_succ]
  refine sQx HOPS HREG 32 8589934591 (fun w9 ⟨q0, q1, q2, q3, q4, q5, q6, q7, q8⟩ => by go_simp; first | done | with_reducible rfl) rfl HS8R.out ?_
  dsimp only [List.set_cons_zero, List.set_cons_succ]
  refine sQx HOPS HREG 33 17179869183 (fun w9 ⟨q0, q1, q2, q3, q4, q5, q6, q7, q8⟩ => by go_simp; first | done | with_reducible rfl) rfl HS8R.out ?_
  dsimp only [List.set_cons_zero, List.set_cons_succ]
  refine sQx HOPS HREG 34 34359738367 (fun w9 ⟨q0, q1, q2, q3, q4, q5, q6, q7, q8⟩ => by go_simp; first | done | with_reducible rfl) rfl HS8R.out ?_
  dsimp only [List.set_cons_zero, List.set_cons_succ]
  refine sQx HOPS HREG 35 68719476735 (fun w9 ⟨q0, q1, q2, q3, q4, q5, q6, q7, q8⟩ => by go_simp; first | done | with_reducible rfl) rfl HS8R.out ?_
  dsimp only [List.set_cons_zero, List.set_cons_succ]
  refine sQx HOPS HREG 36 137438953471 (fun w9 ⟨q0, q1, q2, q3, q4, q5, q6, q7, q8⟩ => by go_simp; first | done | with_reducible rfl) rfl HS8R.out ?_
  dsimp only [List.set_cons_zero, List.set_cons_succ]
  refine sQx HOPS HREG 37 274877906943 (fun w9 ⟨q0, q1, q2, q3, q4, q5, q6, q7, q8⟩ => by go_simp; first | done | with_reducible rfl) rfl HS8R.out ?_
  dsimp only [List.set_cons_zero, List.set_cons_succ]
  refine sQx HOPS HREG 38 549755813887 (fun w9 ⟨q0, q1, q2, q3, q4, q5, q6, q7, q8⟩ => by go_simp; first | done | with_reducible rfl) rfl HS8R.out ?_
  dsimp only [List.set_cons_zero, List.set_cons_succ]
  refine sQx HOPS HREG 39 1099511627775 (fun w9 ⟨q0, q1, q2, q3, q4, q5, q6, q7, q8⟩ => by go_simp; first | done | with_reducible rfl) rfl HS8R.out ?_
  dsimp only [List.set_cons_zero, List.set_cons_succ]
  refine sQx HOPS HREG 40 2199023255551 (fun w9 ⟨q0, q1, q2, q3, q4, q5, q6, q7, q8⟩ => by go_simp; first | done | with_reducible rfl) rfl HS8R.out ?_
  dsimp only [List.set_cons_zero, List.set_cons_succ]
  refine sQx HOPS HREG 41 4398046511103 (fun w9 ⟨q0, q1, q2, q3, q4, q5, q6, q7, q8⟩ => by go_simp; first | done | with_reducible rfl) rfl HS8R.out ?_
  dsimp only [List.set_cons_zero, List.set_cons_succ]
  refine sQx HOPS HREG 42 8796093022207 (fun w9 ⟨q0, q1, q2, q3, q4, q5, q6, q7, q8⟩ => by go_simp; first | done | with_reducible rfl) rfl HS8R.out ?_
  dsimp only [List.set_cons_zero, List.set_cons_succ]
  refine sQx HOPS HREG 43 17592186044415 (fun w9 ⟨q0, q1, q2, q3, q4, q5, q6, q7, q8⟩ => by go_simp; first | done | with_reducible rfl) rfl HS8R.out ?_
  dsimp only [List.set_cons_zero, List.set_cons_succ]
  refine sQx HOPS HREG 44 35184372088831 (fun w9 ⟨q0, q1, q2, q3, q4, q5, q6, q7, q8⟩ => by go_simp; first | done | with_reducible rfl) rfl HS8R.out ?_
  dsimp only [List.set_cons_zero, List.set_cons_succ]
  refine sQx HOPS HREG 45 70368744177663 (fun w9 ⟨q0, q1, q2, q3, q4, q5, q6, q7, q8⟩ => by go_simp; first | done | with_reducible rfl) rfl HS8R.out ?_
  dsimp only [List.set_cons_zero, List.set_cons_succ]
  refine sQx HOPS HREG 46 140737488355327 (fun w9 ⟨q0, q1, q2, q3, q4, q5, q6, q7, q8⟩ => by go_simp; first | done | with_reducible rfl) rfl HS8R.out ?_
  dsimp only [List.set_cons_zero, List.set_cons_succ]
  refine sQx HOPS HREG 47 281474976710655 (fun w9 ⟨q0, q1, q2, q3, q4, q5, q6, q7, q8⟩ => by go_simp; first | done | with_reducible rfl) rfl HS8R.out ?_
  dsimp only [List.set_cons_zero, List.set_cons_succ]
  refine sQx HOPS HREG 48 562949953421311 (fun w9 ⟨q0, q1, q2, q3, q4, q5, q6, q7, q8⟩ => by go_simp; first | done | with_reducible rfl) rfl HS8R.out ?_
  dsimp only [List.set_cons_zero, List.set_cons_succ]
  refine sQx HOPS HREG 49 1125899906842623 (fun w9 ⟨q0, q1, q2, q3, q4, q5, q6, q7, q8⟩ => by go_simp; first | done | with_reducible rfl) rfl HS8R.out ?_
  dsimp only [List.set_cons_zero, List.set_cons_succ]
  refine stepC HOPS 50 2251799813685247 (by decide) rfl (by kernel_rfl) (by kernel_rfl) ?_
  go_simp
  with_reducible refine (Check_is A1 n1 c1 0 _ (some ⟨g, 0, none⟩) 2 c2 exE HCK.out _ HR_R8.out hcap1 HE_R8.out (by decide) hI0 HT_R8.out).mono ?_
  rintro e w6 ⟨rfl, hb⟩
  have HW_6 := Lib.hid (bel_trans HW_R8.out hb)
  have HT_6 := Lib.hid (HT_R8.out.bel hb)
  have HR_6 := Lib.hid (rdUp HR_R8.out hb)
  have HS_6 := Lib.hid (HS_R8.out.below hb)
  have HE_6 := Lib.hid (rdeUp HE_R8.out hb)
  have HL_6 := Lib.hid (HL_R8.out.below hb)
  have HB_6 := Lib.hid (HB_R8.out.below hb)
  have HS8w6 := Lib.hid (show (fun W9 : World => W9.cell? ⟨g, 0, none⟩ = some (.int .i64 0) ∧ W9.cell? ⟨g, 1, none⟩ = some (.int .i64 0) ∧ W9.cell? ⟨g, 2, none⟩ = some (.int .i64 7) ∧ W9.cell? ⟨g, 3, none⟩ = some (.int .i64 2) ∧ W9.cell? ⟨g, 4, none⟩ = some (.int .i64 (P : Int)) ∧ W9.cell? ⟨g, 5, none⟩ = some (.int .i64 7) ∧ W9.cell? ⟨w1.heap.size, 0, none⟩ = some (.int .i64 0) ∧ W9.cell? ⟨w1.heap.size, 1, none⟩ = some (.slice A1 n1 c1) ∧ W9.cell? ⟨w5.heap.size, 0, none⟩ = some (.int .i64 2)) w6 from ⟨HL_6.out.2 0 _ rfl, HL_6.out.2 1 _ rfl, HL_6.out.2 2 _ rfl, HL_6.out.2 3 _ rfl, HL_6.out.2 4 _ rfl, HL_6.out.2 5 _ rfl, HS_6.out.cell 0, HS_6.out.cell 1, HB_6.out.cell 0⟩)
  clear hb
  dsimp only
  refine ⟨HS8w6.out, ?_⟩
  try simp only [Act.put, List.setIfInBounds_toArray, List.set_cons_zero, List.set_cons_succ]
  refine sQx HOPS HREG 51 4503599627370495 (fun w9 ⟨q0, q1, q2, q3, q4, q5, q6, q7, q8⟩ => by go_simp; first | done | with_reducible rfl) rfl HS8w6.out ?_
  dsimp only [List.set_cons_zero, List.set_cons_succ]
  refine sQx HOPS HREG 52 9007199254740991 (fun w9 ⟨q0, q1, q2, q3, q4, q5, q6, q7, q8⟩ => by go_simp; first | done | with_reducible rfl) rfl HS8w6.out ?_
  dsimp only [List.set_cons_zero, List.set_cons_succ]
  refine sQx HOPS HREG 53 18014398509481983 (fun w9 ⟨q0, q1, q2, q3, q4, q5, q6, q7, q8⟩ => by go_simp; first | done | with_reducible rfl) rfl HS8w6.out ?_
  dsimp only [List.set_cons_zero, List.set_cons_succ]
  refine sQx HOPS HREG 54 36028797018963967 (fun w9 ⟨q0, q1, q2, q3, q4, q5, q6, q7, q8⟩ => by go_simp; first | done | with_reducible rfl) rfl HS8w6.out ?_
  dsimp only [List.set_cons_zero, List.set_cons_succ]
  refine stepC HOPS 55 72057594037927935 (by decide) rfl (by kernel_rfl) (by kernel_rfl) ?_
  go_simp
  with_reducible refine (Check_is A1 n1 c1 0 _ none 0 0 [] HC0.out _ HR_6.out hcap1 RdF.nil (by decide) hI0 HT_6.out).mono ?_
  rintro e w7 ⟨rfl, hb⟩
  have HW_7 := Lib.hid (bel_trans HW_6.out hb)
  have HT_7 := Lib.hid (HT_6.out.bel hb)
  have HR_7 := Lib.hid (rdUp HR_6.out hb)
  have HS_7 := Lib.hid (HS_6.out.below hb)
  have HE_7 := Lib.hid (rdeUp HE_6.out hb)
  have HL_7 := Lib.hid (HL_6.out.below hb)
  have HB_7 := Lib.hid (HB_6.out.below hb)
  have HS8w7 := Lib.hid (show (fun W9 : World => W9.cell? ⟨g, 0, none⟩ = some (.int .i64 0) ∧ W9.cell? ⟨g, 1, none⟩ = some (.int .i64 0) ∧ W9.cell? ⟨g, 2, none⟩ = some (.int .i64 7) ∧ W9.cell? ⟨g, 3, none⟩ = some (.int .i64 2) ∧ W9.cell? ⟨g, 4, none⟩ = some (.int .i64 (P : Int)) ∧ W9.cell? ⟨g, 5, none⟩ = some (.int .i64 7) ∧ W9.cell? ⟨w1.heap.size, 0, none⟩ = some (.int .i64 0) ∧ W9.cell? ⟨w1.heap.size, 1, none⟩ = some (.slice A1 n1 c1) ∧ W9.cell? ⟨w5.heap.size, 0, none⟩ = some (.int .i64 2)) w7 from ⟨HL_7.out.2 0 _ rfl, HL_7.out.2 1 _ rfl, HL_7.out.2 2 _ rfl, HL_7.out.2 3 _ rfl, HL_7.out.2 4 _ rfl, HL_7.out.2 5 _ rfl, HS_7.out.cell 0, HS_7.out.cell 1, HB_7.out.cell 0⟩)
  clear hb
  dsimp only
  refine ⟨HS8w7.out, ?_⟩
  try simp only [Act.put, List.setIfInBounds_toArray, List.set_cons_zero, List.set_cons_succ]
  refine sQx HOPS HREG 56 144115188075855871 (fun w9 ⟨q0, q1, q2, q3, q4, q5, q6, q7, q8⟩ => by go_simp; first | done | with_reducible rfl) rfl HS8w7.out ?_
  dsimp only [List.set_cons_zero, List.set_cons_succ]
  refine sQx HOPS HREG 57 288230376151711743 (fun w9 ⟨q0, q1, q2, q3, q4, q5, q6, q7, q8⟩ => by go_simp; first | done | with_reducible rfl) rfl HS8w7.out ?_
  dsimp only [List.set_cons_zero, List.set_cons_succ]
  refine sQx HOPS HREG 58 576460752303423487 (fun w9 ⟨q0, q1, q2, q3, q4, q5, q6, q7, q8⟩ => by go_simp; first | done | with_reducible rfl) rfl HS8w7.out ?_
  dsimp only [List.set_cons_zero, List.set_cons_succ]
  refine sQx HOPS HREG 59 1152921504606846975 (fun w9 ⟨q0, q1, q2, q3, q4, q5, q6, q7, q8⟩ => by go_simp; first | done | with_reducible rfl) rfl HS8w7.out ?_
  dsimp only [List.set_cons_zero, List.set_cons_succ]
  refine stepC HOPS 60 2305843009213693951 (by decide) rfl (by kernel_rfl) (by kernel_rfl) ?_
  go_simp
  with_reducible refine (Floor_is (some ⟨g, 0, none⟩) 2 c2 exE 1 HF1.out _ HE_7.out hcap2 (by decide)).mono ?_
  rintro e w8 ⟨rfl, hb⟩
  have HW_8 := Lib.hid (bel_trans HW_7.out hb)
  have HT_8 := Lib.hid (HT_7.out.bel hb)
  have HR_8 := Lib.hid (rdUp HR_7.out hb)
  have HS_8 := Lib.hid (HS_7.out.below hb)
  have HE_8 := Lib.hid (rdeUp HE_7.out hb)
  have HL_8 := Lib.hid (HL_7.out.below hb)
  have HB_8 := Lib.hid (HB_7.out.below hb)
  have HS8w8 := Lib.hid (show (fun W9 : World => W9.cell? ⟨g, 0, none⟩ = some (.int .i64 0) ∧ W9.cell? ⟨g, 1, none⟩ = some (.int .i64 0) ∧ W9.cell? ⟨g, 2, none⟩ = some (.int .i64 7) ∧ W9.cell? ⟨g, 3, none⟩ = some (.int .i64 2) ∧ W9.cell? ⟨g, 4, none⟩ = some (.int .i64 (P : Int)) ∧ W9.cell? ⟨g, 5, none⟩ = some (.int .i64 7) ∧ W9.cell? ⟨w1.heap.size, 0, none⟩ = some (.int .i64 0) ∧ W9.cell? ⟨w1.heap.size, 1, none⟩ = some (.slice A1 n1 c1) ∧ W9.cell? ⟨w5.heap.size, 0, none⟩ = some (.int .i64 2)) w8 from ⟨HL_8.out.2 0 _ rfl, HL_8.out.2 1 _ rfl, HL_8.out.2 2 _ rfl, HL_8.out.2 3 _ rfl, HL_8.out.2 4 _ rfl, HL_8.out.2 5 _ rfl, HS_8.out.cell 0, HS_8.out.cell 1, HB_8.out.cell 0⟩)
  clear hb
  dsimp only
  refine ⟨HS8w8.out, ?_⟩
  try simp only [Act.put, List.setIfInBounds_toArray, List.set_cons_zero, List.set_cons_succ]
  refine sQx HOPS HREG 61 4611686018427387903 (fun w9 ⟨q0, q1, q2, q3, q4, q5, q6, q7, q8⟩ => by go_simp; first | done | with_reducible rfl) rfl HS8w8.out ?_
  dsimp only [List.set_cons_zero, List.set_cons_succ]
  refine sQx HOPS HREG 62 9223372036854775807 (fun w9 ⟨q0, q1, q2, q3, q4, q5, q6, q7, q8⟩ => by go_simp; first | done | with_reducible rfl) rfl HS8w8.out ?_
  dsimp only [List.set_cons_zero, List.set_cons_succ]
  refine sQx HOPS HREG 63 18446744073709551615 (fun w9 ⟨q0, q1, q2, q3, q4, q5, q6, q7, q8⟩ => by go_simp; first | done | with_reducible rfl) rfl HS8w8.out ?_
  dsimp only [List.set_cons_zero, List.set_cons_succ]
  refine sQx HOPS HREG 64 36893488147419103231 (fun w9 ⟨q0, q1, q2, q3, q4, q5, q6, q7, q8⟩ => by go_simp; first | done | with_reducible rfl) rfl HS8w8.out ?_
  dsimp only [List.set_cons_zero, List.set_cons_succ]
  refine sQx HOPS HREG 66 110680464442257309695 (fun w9 ⟨q0, q1, q2, q3, q4, q5, q6, q7, q8⟩ => by go_simp; first | done | with_reducible rfl) rfl HS8w8.out ?_
  dsimp only [List.set_cons_zero, List.set_cons_succ]
  refine sQx HOPS HREG 67 258254417031933722623 (fun w9 ⟨q0, q1, q2, q3, q4, q5, q6, q7, q8⟩ => by go_simp; first | done | with_reducible rfl) rfl HS8w8.out ?_
  dsimp only [List.set_cons_zero, List.set_cons_succ]
  refine sQx HOPS HREG 68 553402322211286548479 (fun w9 ⟨q0, q1, q2, q3, q4, q5, q6, q7, q8⟩ => by go_simp; first | done | with_reducible rfl) rfl HS8w8.out ?_
  dsimp only [List.set_cons_zero, List.set_cons_succ]
  refine sQx HOPS HREG 69 1143698132569992200191 (fun w9 ⟨q0, q1, q2, q3, q4, q5, q6, q7, q8⟩ => by go_simp; first | done | with_reducible rfl) rfl HS8w8.out ?_
  dsimp only [List.set_cons_zero, List.set_cons_succ]
  refine stepC HOPS 65 1180591620717411303423 (by decide) rfl (by kernel_rfl) (by kernel_rfl) ?_
  go_simp
  with_reducible refine (Floor_is (some ⟨g, 0, none⟩) 2 c2 exE 2 HF2.out _ HE_8.out hcap2 (by decide)).mono ?_
  rintro e w9 ⟨rfl, hb⟩
  have HW_9 := Lib.hid (bel_trans HW_8.out hb)
  have HT_9 := Lib.hid (HT_8.out.bel hb)
  have HR_9 := Lib.hid (rdUp HR_8.out hb)
  have HS_9 := Lib.hid (HS_8.out.below hb)
  have HE_9 := Lib.hid (rdeUp HE_8.out hb)
  have HL_9 := Lib.hid (HL_8.out.below hb)
  have HB_9 := Lib.hid (HB_8.out.below hb)
  have HS8w9 := Lib.hid (show (fun W9 : World => W9.cell? ⟨g, 0, none⟩ = some (.int .i64 0) ∧ W9.cell? ⟨g, 1, none⟩ = some (.int .i64 0) ∧ W9.cell? ⟨g, 2, none⟩ = some (.int .i64 7) ∧ W9.cell? ⟨g, 3, none⟩ = some (.int .i64 2) ∧ W9.cell? ⟨g, 4, none⟩ = some (.int .i64 (P : Int)) ∧ W9.cell? ⟨g, 5, none⟩ = some (.int .i64 7) ∧ W9.cell? ⟨w1.heap.size, 0, none⟩ = some (.int .i64 0) ∧ W9.cell? ⟨w1.heap.size, 1, none⟩ = some (.slice A1 n1 c1) ∧ W9.cell? ⟨w5.heap.size, 0, none⟩ = some (.int .i64 2)) w9 from ⟨HL_9.out.2 0 _ rfl, HL_9.out.2 1 _ rfl, HL_9.out.2 2 _ rfl, HL_9.out.2 3 _ rfl, HL_9.out.2 4 _ rfl, HL_9.out.2 5 _ rfl, HS_9.out.cell 0, HS_9.out.cell 1, HB_9.out.cell 0⟩)
  clear hb
  dsimp only
  refine ⟨HS8w9.out, ?_⟩
  try simp only [Act.put, List.setIfInBounds_toArray, List.set_cons_zero, List.set_cons_succ]
  refine sQx HOPS HREG 70 2361183241434822606847 (fun w9 ⟨q0, q1, q2, q3, q4, q5, q6, q7, q8⟩ => by go_simp; first | done | with_reducible rfl) rfl HS8w9.out ?_
  dsimp only [List.set_cons_zero, List.set_cons_succ]
  refine sQx HOPS HREG 71 4722366482869645213695 (fun w9 ⟨q0, q1, q2, q3, q4, q5, q6, q7, q8⟩ => by go_simp; first | done | with_reducible rfl) rfl HS8w9.out ?_
  dsimp only [List.set_cons_zero, List.set_cons_succ]
  refine sQx HOPS HREG 72 9444732965739290427391 (fun w9 ⟨q0, q1, q2, q3, q4, q5, q6, q7, q8⟩ => by go_simp; first | done | with_reducible rfl) rfl HS8w9.out ?_
  dsimp only [List.set_cons_zero, List.set_cons_succ]
  refine sQx HOPS HREG 73 18889465931478580854783 (fun w9 ⟨q0, q1, q2, q3, q4, q5, q6, q7, q8⟩ => by go_simp; first | done | with_reducible rfl) rfl HS8w9.out ?_
  dsimp only [List.set_cons_zero, List.set_cons_succ]
  refine sQx HOPS HREG 75 56668397794435742564351 (fun w9 ⟨q0, q1, q2, q3, q4, q5, q6, q7, q8⟩ => by go_simp; first | done | with_reducible rfl) rfl HS8w9.out ?_
  dsimp only [List.set_cons_zero, List.set_cons_succ]
  refine sQx HOPS HREG 76 132226261520350065983487 (fun w9 ⟨q0, q1, q2, q3, q4, q5, q6, q7, q8⟩ => by go_simp; first | done | with_reducible rfl) rfl HS8w9.out ?_
  dsimp only [List.set_cons_zero, List.set_cons_succ]
  refine sQx HOPS HREG 77 283341988972178712821759 (fun w9 ⟨q0, q1, q2, q3, q4, q5, q6, q7, q8⟩ => by go_simp; first | done | with_reducible rfl) rfl HS8w9.out ?_
  dsimp only [List.set_cons_zero, List.set_cons_succ]
  refine sQx HOPS HREG 78 585573443875836006498303 (fun w9 ⟨q0, q1, q2, q3, q4, q5, q6, q7, q8⟩ => by go_simp; first | done | with_reducible rfl) rfl HS8w9.out ?_
  dsimp only [List.set_cons_zero, List.set_cons_succ]
  refine stepC HOPS 74 604462909807314587353087 (by decide) rfl (by kernel_rfl) (by kernel_rfl) ?_
  go_simp
  with_reducible refine (When_is (some ⟨g, 0, none⟩) 2 c2 exE 8 HW8.out _ HE_9.out hcap2 (by decide)).mono ?_
  rintro e w10 ⟨rfl, hb⟩
  have HW_10 := Lib.hid (bel_trans HW_9.out hb)
  have HT_10 := Lib.hid (HT_9.out.bel hb)
  have HR_10 := Lib.hid (rdUp HR_9.out hb)
  have HS_10 := Lib.hid (HS_9.out.below hb)
  have HE_10 := Lib.hid (rdeUp HE_9.out hb)
  have HL_10 := Lib.hid (HL_9.out.below hb)
  have HB_10 := Lib.hid (HB_9.out.below hb)
  have HS8w10 := Lib.hid (show (fun W9 : World => W9.cell? ⟨g, 0, none⟩ = some (.int .i64 0) ∧ W9.cell? ⟨g, 1, none⟩ = some (.int .i64 0) ∧ W9.cell? ⟨g, 2, none⟩ = some (.int .i64 7) ∧ W9.cell? ⟨g, 3, none⟩ = some (.int .i64 2) ∧ W9.cell? ⟨g, 4, none⟩ = some (.int .i64 (P : Int)) ∧ W9.cell? ⟨g, 5, none⟩ = some (.int .i64 7) ∧ W9.cell? ⟨w1.heap.size, 0, none⟩ = some (.int .i64 0) ∧ W9.cell? ⟨w1.heap.size, 1, none⟩ = some (.slice A1 n1 c1) ∧ W9.cell? ⟨w5.heap.size, 0, none⟩ = some (.int .i64 2)) w10 from ⟨HL_10.out.2 0 _ rfl, HL_10.out.2 1 _ rfl, HL_10.out.2 2 _ rfl, HL_10.out.2 3 _ rfl, HL_10.out.2 4 _ rfl, HL_10.out.2 5 _ rfl, HS_10.out.cell 0, HS_10.out.cell 1, HB_10.out.cell 0⟩)
  clear hb
  dsimp only
  refine ⟨HS8w10.out, ?_⟩
  try simp only [Act.put, List.setIfInBounds_toArray, List.set_cons_zero, List.set_cons_succ]
  refine sQx HOPS HREG 79 1208925819614629174706175 (fun w9 ⟨q0, q1, q2, q3, q4, q5, q6, q7, q8⟩ => by go_simp; first | done | with_reducible rfl) rfl HS8w10.out ?_
  dsimp only [List.set_cons_zero, List.set_cons_succ]
  refine sQx HOPS HREG 80 2417851639229258349412351 (fun w9 ⟨q0, q1, q2, q3, q4, q5, q6, q7, q8⟩ => by go_simp; first | done | with_reducible rfl) rfl HS8w10.out ?_
  dsimp only [List.set_cons_zero, List.set_cons_succ]
  refine sQx HOPS HREG 81 4835703278458516698824703 (fun w9 ⟨q0, q1, q2, q3, q4, q5, q6, q7, q8⟩ => by go_simp; first | done | with_reducible rfl) rfl HS8w10.out ?_
  dsimp only [List.set_cons_zero, List.set_cons_succ]
  refine sQx HOPS HREG 82 9671406556917033397649407 (fun w9 ⟨q0, q1, q2, q3, q4, q5, q6, q7, q8⟩ => by go_simp; first | done | with_reducible rfl) rfl HS8w10.out ?_
  dsimp only [List.set_cons_zero, List.set_cons_succ]
  refine stepC HOPS 83 19342813113834066795298815 (by decide) rfl (by kernel_rfl) (by kernel_rfl) ?_
  go_simp
  with_reducible refine (When_is (some ⟨g, 0, none⟩) 2 c2 exE 7 HW7.out _ HE_10.out hcap2 (by decide)).mono ?_
  rintro e w11 ⟨rfl, hb⟩
  have HW_11 := Lib.hid (bel_trans HW_10.out hb)
  have HT_11 := Lib.hid (HT_10.out.bel hb)
  have HR_11 := Lib.hid (rdUp HR_10.out hb)
  have HS_11 := Lib.hid (HS_10.out.below hb)
  have HE_11 := Lib.hid (rdeUp HE_10.out hb)
  have HL_11 := Lib.hid (HL_10.out.below hb)
  have HB_11 := Lib.hid (HB_10.out.below hb)
  have HS8w11 := Lib.hid (show (fun W9 : World => W9.cell? ⟨g, 0, none⟩ = some (.int .i64 0) ∧ W9.cell? ⟨g, 1, none⟩ = some (.int .i64 0) ∧ W9.cell? ⟨g, 2, none⟩ = some (.int .i64 7) ∧ W9.cell? ⟨g, 3, none⟩ = some (.int .i64 2) ∧ W9.cell? ⟨g, 4, none⟩ = some (.int .i64 (P : Int)) ∧ W9.cell? ⟨g, 5, none⟩ = some (.int .i64 7) ∧ W9.cell? ⟨w1.heap.size, 0, none⟩ = some (.int .i64 0) ∧ W9.cell? ⟨w1.heap.size, 1, none⟩ = some (.slice A1 n1 c1) ∧ W9.cell? ⟨w5.heap.size, 0, none⟩ = some (.int .i64 2)) w11 from ⟨HL_11.out.2 0 _ rfl, HL_11.out.2 1 _ rfl, HL_11.out.2 2 _ rfl, HL_11.out.2 3 _ rfl, HL_11.out.2 4 _ rfl, HL_11.out.2 5 _ rfl, HS_11.out.cell 0, HS_11.out.cell 1, HB_11.out.cell 0⟩)
  clear hb
  dsimp only
  refine ⟨HS8w11.out, ?_⟩
  try simp only [Act.put, List.setIfInBounds_toArray, List.set_cons_zero, List.set_cons_succ]
  refine sQx HOPS HREG 84 38685626227668133590597631 (fun w9 ⟨q0, q1, q2, q3, q4, q5, q6, q7, q8⟩ => by go_simp; first | done | with_reducible rfl) rfl HS8w11.out ?_
  dsimp only [List.set_cons_zero, List.set_cons_succ]
  refine sQx HOPS HREG 85 77371252455336267181195263 (fun w9 ⟨q0, q1, q2, q3, q4, q5, q6, q7, q8⟩ => by go_simp; first | done | with_reducible rfl) rfl HS8w11.out ?_
  dsimp only [List.set_cons_zero, List.set_cons_succ]
  refine sQx HOPS HREG 86 154742504910672534362390527 (fun w9 ⟨q0, q1, q2, q3, q4, q5, q6, q7, q8⟩ => by go_simp; first | done | with_reducible rfl) rfl HS8w11.out ?_
  dsimp only [List.set_cons_zero, List.set_cons_succ]
  refine stepE HOPS (by kernel_rfl) (HQ.out _ _ ?_)
  clear HQ HREG HOPS
  clear Q ops
  skip
  go_wp2
  go_ret
  exact ⟨rfl, HW_11.out⟩
end Go.Proofs.YtbnkfljkojhkoaaGreatDoor.Idx
