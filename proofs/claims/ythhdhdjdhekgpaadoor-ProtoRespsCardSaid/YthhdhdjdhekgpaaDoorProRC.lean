/- Joined: ProRC. -/
import Derived.Test.YthhdhdjdhekgpaaDoorProR1
import Derived.Test.YthhdhdjdhekgpaaDoorProW
import Derived.Test.YthhdhdjdhekgpaaDoorProC
import Derived.Test.YthhdhdjdhekgpaaDoorInT
import Derived.Deep.DeepCutAuto
/- The document's CheckReq. -/
namespace Go.Proofs.YthhdhdjdhekgpaaDoor.Pro
open Go.RowKit Go.Proofs.YthhdhdjdhekgpaaDoor.Oct Go.Proofs.YthhdhdjdhekgpaaDoor.Lay Go.Proofs.YthhdhdjdhekgpaaDoor.InR

/-- a box that is kept -/
def CQ (w : World) (k v i : Int) (s : ByteArray) (a b c : Value) (W : World) : Prop := BoxQ W w.heap.size k v i s a b c ∧ Below w.heap.size w W ∧ w.heap.size < W.heap.size
theorem CQ.step {w W W' : World} {k v i : Int} {s : ByteArray} {a b c : Value} (h : CQ w k v i s a b c W) (hb : Below W.heap.size W W') : CQ w k v i s a b c W' :=
  ⟨BoxQ_below h.1 hb h.2.2, bel_trans h.2.1 hb, Nat.lt_of_lt_of_le h.2.2 hb.size⟩
theorem CQ.bel {w W : World} {k v i : Int} {s : ByteArray} {a b c : Value} (h : CQ w k v i s a b c W) : Below w.heap.size w W := h.2.1
/-- the big region's numbers -/
def tb_ckq : List (Nat × Nat) := [(0, 295147905179352825855), (1, 295147905179352825854), (2, 295147905179352825853), (4, 295147905179352825851), (8, 295147905179352825847), (24, 295147905179352825831), (40, 295147905179352825815), (72, 295147905179352825783), (136, 295147905179352825727), (256, 295147905179352825599), (768, 295147905179352825087), (1280, 295147905179352824575), (2304, 295147905179352823551), (4352, 295147905179352821503), (8448, 295147905179352817663), (16384, 295147905179352809471), (49152, 295147905179352776703), (81920, 295147905179352743935), (147456, 295147905179352678399), (262144, 295147905179352563711), (786432, 295147905179352039423), (1310720, 295147905179351515135), (2375680, 295147905179350450175), (4210688, 295147905179348615167), (8650752, 295147905179344437247), (16777216, 295147905179336048639), (50331648, 295147905179302494207), (83886080, 295147905179268939775), (16777216, 295147905179336048639), (285212672, 295147905179067613183), (553648128, 295147905178799177727), (1224736768, 295147905178128089087), (2164260864, 295147905177188564991), (5368709120, 295147905175057858559), (8589934592, 295147905170762891263), (25769803776, 295147905153583022079), (42949672960, 295147905136403152895), (77309411328, 295147905102043414527), (146028888064, 295147905033323937791), (343597383680, 295147904904474918911), (549755813888, 295147904629597011967), (549755813888, 295147904629597011967), (2748779069440, 295147902430573756415), (4947802324992, 295147900231550500863), (10445360463872, 295147894733992361983), (18141941858304, 295147887037410967551), (43980465111040, 295147869994980737023), (70368744177664, 295147834810608648191), (70368744177664, 295147834810608648191), (351843720888320, 295147553335631937535), (633318697598976, 295147271860655226879), (70368744177664, 295147834810608648191), (3448068464705536, 295144457110888120319), (4714705859903488, 295143190473492922367), (9077567998918656, 295138827611353907199), (19140298416324608, 295129890780843343871), (36028797018963968, 295111876382333861887), (108086391056891904, 295039818788295933951), (180143985094819840, 294967761194258006015), (324259173170675712, 294823646006182150143), (612489549322387456, 294535415630030438399), (1441151880758558720, 293994983674745978879), (2305843009213693952, 292842062170139131903), (6917529027641081856, 288230376151711743999), (11529215046068469760, 283618690133284356095), (2305843009213693952, 292842062170139131903), (57646075230342348800, 237501829949010477055), (76092819304051900416, 219055085875300925439)]
theorem CQ.drew {w W : World} {k v i : Int} {s : ByteArray} {a b c : Value} (h : CQ w k v i s a b c W) : CQ w k v i s a b c W.drew := ⟨h.1, h.2.1.drew, h.2.2⟩
set_option maxRecDepth 100000 in
set_option maxHeartbeats 40000000 in
theorem refCheckReq_any (k v i : Int) (s : ByteArray) (A1 : Option Addr) (n1 c1 : Nat) (l1 : List Int) (A2 : Option Addr) (n2 c2 : Nat) (l2 : List ByteArray) (A3 : Option Addr) (n3 c3 : Nat) (l3 : List UInt8) (w : World)
    (hI : RdL w w.heap.size A1 n1 l1) (hn1 : n1 ≤ 140737488351232) (hT : RdL w w.heap.size A2 n2 l2) (hn2 : n2 ≤ 140737488351232) (hs47 : s.size ≤ 140737488351232) (_hn3 : n3 ≤ 140737488351232) (hl3 : l3.length = n3) :
    Calls Tryd.prog 19 #[.agg #[.int .i64 k, .int .i64 v, .int .i64 i, .string s, .slice A1 n1 c1, .slice A2 n2 c2, .slice A3 n3 c3]] w fun e w' => e = .returned (.int .i64 (ckQ ⟨k, v, i, s, l1, l2, l3⟩)) ∧ Below w.heap.size w w' := by
  have HI := Lib.hid hI
  have HT := Lib.hid hT
  have HL1 := Lib.hid hI.len
  have HL2 := Lib.hid hT.len
  have HL3 := Lib.hid hl3
  have hmx : Tryd.prog.follows .mixedOrders = true := by kernel_rfl
  clear hI hT hl3
  obtain ⟨z, hz⟩ : ∃ z, known k v = z := ⟨_, rfl⟩
  have HKN := Lib.hid hz
  by_cases hz0 : z = 0
  case neg =>
    have HZ := Lib.hid (show ckQ ⟨k, v, i, s, l1, l2, l3⟩ = z from (ckQ_head (r := ⟨k, v, i, s, l1, l2, l3⟩) (by show known k v ≠ 0; omega)).trans hz)
    have hzN : (z != 0) = true := by simp [hz0]
    clear hz hz0
    rw [HZ.out]
    go_enter Tryd.func19, Tryd.ntmps19
    go_wp2_with (go_at_call 65; (with_reducible refine (refknown_any k v _).mono ?_); rw [HKN.out]; rintro e w9 ⟨rfl, rfl⟩)
    go_ret
    exact ⟨rfl, bel_alloc (Below.refl _ _) _⟩
  subst hz0
  have hk := known_iff.1 hz
  have HK12 := Lib.hid hk.1
  have hnT := nT_in (k := k) hk.1
  have hmT := mT_in k
  have hmB := mB_in k
  have hT1 : 1 ≤ nT k := hnT.1
  have hT2 : nT k ≤ 3 := hnT.2.1
  have wp9 : IntKind.i64.wrap (nT k + mT k) = nT k + mT k := IntWalk.i64_in _ (by omega)
  have hv0 : 0 ≤ v := hk.2.1
  have HBAD := Lib.hid (fun h : ¬ OkQ ⟨k, v, i, s, l1, l2, l3⟩ => ckQ_one (r := ⟨k, v, i, s, l1, l2, l3⟩) hz h)
  clear hz hk hmT hnT hmB
  go_enter Tryd.func19, Tryd.ntmps19
  go_upto_if 20 with (go_at_call 65; (with_reducible refine (refknown_any k v _).mono ?_); rw [HKN.out]; rintro e w9 ⟨rfl, rfl⟩)
  go_cut [5] (fun s5 wx => s5 = .int .i64 (mT k) ∧ CQ w k v i s (.slice A1 n1 c1) (.slice A2 n2 c2) (.slice A3 n3 c3) wx)
  case first =>
    by_cases hk7 : k = 7
    · have h7 : (k == 7) = true := by simp [hk7]
      have HM := Lib.hid (show mT k = 12 by unfold mT; rw [if_pos hk7])
      clear hk7
      go_wp2
      go_meet
      exact ⟨by rw [HM.out], BoxQ_new _ _ _ _ _ _ _ _ _, bel_alloc (Below.refl _ _) _, by simp⟩
    · have h7 : (k == 7) = false := by simp [hk7]
      have HM := Lib.hid (show mT k = 0 by unfold mT; rw [if_neg hk7])
      clear hk7
      go_wp2
      go_meet
      exact ⟨by rw [HM.out], BoxQ_new _ _ _ _ _ _ _ _ _, bel_alloc (Below.refl _ _) _, by simp⟩
  case rest =>
    obtain ⟨rfl, hS⟩ := hcut
    obtain ⟨q0, -, -, -, -, -, -⟩ := hS.1
    have HS := Lib.hid hS
    clear hS
    go_upto_if 23 with fail
    go_cut [6] (fun s6 wx => s6 = .int .i64 (mB k) ∧ CQ w k v i s (.slice A1 n1 c1) (.slice A2 n2 c2) (.slice A3 n3 c3) wx)
    case first =>
      by_cases hk2 : k = 2
      · have h2 : (k == 2) = true := by simp [hk2]
        have HM := Lib.hid (show mB k = 2048 by unfold mB; rw [if_pos hk2])
        clear hk2
        go_wp2
        go_meet
        exact ⟨by rw [HM.out], HS.out⟩
      · have h2 : (k == 2) = false := by simp [hk2]
        have HM := Lib.hid (show mB k = 0 by unfold mB; rw [if_neg hk2])
        clear hk2
        go_wp2
        go_meet
        exact ⟨by rw [HM.out], HS.out⟩
    case rest =>
      obtain ⟨rfl, hS⟩ := hcut
      clear HS q0
      rename World => wd
      have HS0 := Lib.hid hS.drew
      clear hS
      go_wp2
      refine region_let (fun W9 : World => CQ w k v i s (.slice A1 n1 c1) (.slice A2 n2 c2) (.slice A3 n3 c3) W9) 99 68 hmx rfl fun ops Q HOPS HQ => ?_
      have HREG := reg_of HOPS tb_ckq rfl (by kernel_rfl) (by kernel_rfl) (by decide)
      refine stepTQ HOPS HREG 0 1 ?_ (by decide) rfl (by kernel_rfl) (by kernel_rfl) rfl ?_ HS0.out ?_
      rotate_left
      · intro w9 hS9; obtain ⟨⟨q0, q1, q2, q3, q4, q5, q6⟩, -, -⟩ := hS9; go_simp; (first | done | with_reducible rfl)
      dsimp only [List.set_cons_zero, List.set_cons_succ]
      refine stepTQ HOPS HREG 1 3 ?_ (by decide) rfl (by kernel_rfl) (by kernel_rfl) rfl ?_ HS0.out ?_
      rotate_left
      · intro w9 hS9; obtain ⟨⟨q0, q1, q2, q3, q4, q5, q6⟩, -, -⟩ := hS9; go_simp; (first | done | with_reducible rfl)
      dsimp only [List.set_cons_zero, List.set_cons_succ]
      rcases y1 : decide (i < 0) with _ | _
      · have y1' := of_decide_eq_false y1
        refine stepTQ HOPS HREG 2 7 ?_ (by decide) rfl (by kernel_rfl) (by kernel_rfl) rfl ?_ HS0.out ?_
        rotate_left
        · intro w9 hS9; obtain ⟨⟨q0, q1, q2, q3, q4, q5, q6⟩, -, -⟩ := hS9; go_simp; (first | done | with_reducible rfl)
        dsimp only [List.set_cons_zero, List.set_cons_succ]
        refine stepTQ HOPS HREG 3 15 ?_ (by decide) rfl (by kernel_rfl) (by kernel_rfl) rfl ?_ HS0.out ?_
        rotate_left
        · intro w9 hS9; obtain ⟨⟨q0, q1, q2, q3, q4, q5, q6⟩, -, -⟩ := hS9; go_simp; (first | done | with_reducible rfl)
        dsimp only [List.set_cons_zero, List.set_cons_succ]
        refine stepTQ HOPS HREG 4 31 ?_ (by decide) rfl (by kernel_rfl) (by kernel_rfl) rfl ?_ HS0.out ?_
        rotate_left
        · intro w9 hS9; obtain ⟨⟨q0, q1, q2, q3, q4, q5, q6⟩, -, -⟩ := hS9; go_simp; (first | done | with_reducible rfl)
        dsimp only [List.set_cons_zero, List.set_cons_succ]
        refine stepTQ HOPS HREG 5 63 ?_ (by decide) rfl (by kernel_rfl) (by kernel_rfl) rfl ?_ HS0.out ?_
        rotate_left
        · intro w9 hS9; obtain ⟨⟨q0, q1, q2, q3, q4, q5, q6⟩, -, -⟩ := hS9; go_simp; (first | done | with_reducible rfl)
        dsimp only [List.set_cons_zero, List.set_cons_succ]
        rcases y2 : decide (1099511627776 < i) with _ | _
        · have y2' := of_decide_eq_false y2
          refine stepTQ HOPS HREG 6 127 ?_ (by decide) rfl (by kernel_rfl) (by kernel_rfl) rfl ?_ HS0.out ?_
          rotate_left
          · intro w9 hS9; obtain ⟨⟨q0, q1, q2, q3, q4, q5, q6⟩, -, -⟩ := hS9; go_simp; (first | done | with_reducible rfl)
          dsimp only [List.set_cons_zero, List.set_cons_succ]
          refine stepTQ HOPS HREG 7 255 ?_ (by decide) rfl (by kernel_rfl) (by kernel_rfl) rfl ?_ HS0.out ?_
          rotate_left
          · intro w9 hS9; obtain ⟨⟨q0, q1, q2, q3, q4, q5, q6⟩, -, -⟩ := hS9; go_simp; (first | done | with_reducible rfl)
          dsimp only [List.set_cons_zero, List.set_cons_succ]
          refine stepTQ HOPS HREG 8 511 ?_ (by decide) rfl (by kernel_rfl) (by kernel_rfl) rfl ?_ HS0.out ?_
          rotate_left
          · intro w9 hS9; obtain ⟨⟨q0, q1, q2, q3, q4, q5, q6⟩, -, -⟩ := hS9; go_simp; (first | done | with_reducible rfl)
          dsimp only [List.set_cons_zero, List.set_cons_succ]
          refine stepTQ HOPS HREG 9 1023 ?_ (by decide) rfl (by kernel_rfl) (by kernel_rfl) rfl ?_ HS0.out ?_
          rotate_left
          · intro w9 hS9; obtain ⟨⟨q0, q1, q2, q3, q4, q5, q6⟩, -, -⟩ := hS9; go_simp; (first | done | with_reducible rfl)
          dsimp only [List.set_cons_zero, List.set_cons_succ]
          refine stepTQ HOPS HREG 10 2047 ?_ (by decide) rfl (by kernel_rfl) (by kernel_rfl) rfl ?_ HS0.out ?_
          rotate_left
          · intro w9 hS9; obtain ⟨⟨q0, q1, q2, q3, q4, q5, q6⟩, -, -⟩ := hS9; go_simp; (first | done | with_reducible rfl)
          dsimp only [List.set_cons_zero, List.set_cons_succ]
          refine stepTQ HOPS HREG 11 4095 ?_ (by decide) rfl (by kernel_rfl) (by kernel_rfl) rfl ?_ HS0.out ?_
          rotate_left
          · intro w9 hS9; obtain ⟨⟨q0, q1, q2, q3, q4, q5, q6⟩, -, -⟩ := hS9; go_simp; (first | done | with_reducible rfl)
          dsimp only [List.set_cons_zero, List.set_cons_succ]
          rcases y3 : decide (64 < (s.size : Int)) with _ | _
          · have y3' := of_decide_eq_false y3
            refine stepTQ HOPS HREG 12 8191 ?_ (by decide) rfl (by kernel_rfl) (by kernel_rfl) rfl ?_ HS0.out ?_
            rotate_left
            · intro w9 hS9; obtain ⟨⟨q0, q1, q2, q3, q4, q5, q6⟩, -, -⟩ := hS9; go_simp; (first | done | with_reducible rfl)
            dsimp only [List.set_cons_zero, List.set_cons_succ]
            refine stepTQ HOPS HREG 13 16383 ?_ (by decide) rfl (by kernel_rfl) (by kernel_rfl) rfl ?_ HS0.out ?_
            rotate_left
            · intro w9 hS9; obtain ⟨⟨q0, q1, q2, q3, q4, q5, q6⟩, -, -⟩ := hS9; go_simp; (first | done | with_reducible rfl)
            dsimp only [List.set_cons_zero, List.set_cons_succ]
            refine stepTQ HOPS HREG 14 32767 ?_ (by decide) rfl (by kernel_rfl) (by kernel_rfl) rfl ?_ HS0.out ?_
            rotate_left
            · intro w9 hS9; obtain ⟨⟨q0, q1, q2, q3, q4, q5, q6⟩, -, -⟩ := hS9; go_simp; (first | done | with_reducible rfl)
            dsimp only [List.set_cons_zero, List.set_cons_succ]
            refine stepTQ HOPS HREG 15 65535 ?_ (by decide) rfl (by kernel_rfl) (by kernel_rfl) rfl ?_ HS0.out ?_
            rotate_left
            · intro w9 hS9; obtain ⟨⟨q0, q1, q2, q3, q4, q5, q6⟩, -, -⟩ := hS9; go_simp; (first | done | with_reducible rfl)
            dsimp only [List.set_cons_zero, List.set_cons_succ]
            refine stepTQ HOPS HREG 16 131071 ?_ (by decide) rfl (by kernel_rfl) (by kernel_rfl) rfl ?_ HS0.out ?_
            rotate_left
            · intro w9 hS9; obtain ⟨⟨q0, q1, q2, q3, q4, q5, q6⟩, -, -⟩ := hS9; go_simp; (first | done | with_reducible rfl)
            dsimp only [List.set_cons_zero, List.set_cons_succ]
            rcases y4 : decide (v < 2) with _ | _
            · have y4' := of_decide_eq_false y4
              have HWH := Lib.hid (show v < 2 → s.size = 0 from fun h => by omega)
              refine stepTQ HOPS HREG 17 262143 ?_ (by decide) rfl (by kernel_rfl) (by kernel_rfl) rfl ?_ HS0.out ?_
              rotate_left
              · intro w9 hS9; obtain ⟨⟨q0, q1, q2, q3, q4, q5, q6⟩, -, -⟩ := hS9; go_simp; (first | done | with_reducible rfl)
              dsimp only [List.set_cons_zero, List.set_cons_succ]
              refine stepTQ HOPS HREG 18 524287 ?_ (by decide) rfl (by kernel_rfl) (by kernel_rfl) rfl ?_ HS0.out ?_
              rotate_left
              · intro w9 hS9; obtain ⟨⟨q0, q1, q2, q3, q4, q5, q6⟩, -, -⟩ := hS9; go_simp; (first | done | with_reducible rfl)
              dsimp only [List.set_cons_zero, List.set_cons_succ]
              refine stepTU HOPS HREG 19 1048575 (by decide) rfl (by kernel_rfl) (by kernel_rfl) rfl HS0.out ?_
              dsimp only [List.set_cons_zero, List.set_cons_succ]
              refine stepTU HOPS HREG 20 2097151 (by decide) rfl (by kernel_rfl) (by kernel_rfl) rfl HS0.out ?_
              dsimp only [List.set_cons_zero, List.set_cons_succ]
              refine stepTU HOPS HREG 21 4194303 (by decide) rfl (by kernel_rfl) (by kernel_rfl) rfl HS0.out ?_
              dsimp only [List.set_cons_zero, List.set_cons_succ]
              refine stepTQ HOPS HREG 22 8388607 ?_ (by decide) rfl (by kernel_rfl) (by kernel_rfl) rfl ?_ HS0.out ?_
              rotate_left
              · intro w9 hS9; obtain ⟨⟨q0, q1, q2, q3, q4, q5, q6⟩, -, -⟩ := hS9; go_simp; (first | done | with_reducible rfl)
              dsimp only [List.set_cons_zero, List.set_cons_succ]
              refine stepTQ HOPS HREG 23 16777215 ?_ (by decide) rfl (by kernel_rfl) (by kernel_rfl) rfl ?_ HS0.out ?_
              rotate_left
              · intro w9 hS9; obtain ⟨⟨q0, q1, q2, q3, q4, q5, q6⟩, -, -⟩ := hS9; go_simp; (first | done | with_reducible rfl)
              dsimp only [List.set_cons_zero, List.set_cons_succ]
              refine stepTQ HOPS HREG 24 33554431 ?_ (by decide) rfl (by kernel_rfl) (by kernel_rfl) rfl ?_ HS0.out ?_
              rotate_left
              · intro w9 hS9; obtain ⟨⟨q0, q1, q2, q3, q4, q5, q6⟩, -, -⟩ := hS9; go_simp; (first | done | with_reducible rfl)
              dsimp only [List.set_cons_zero, List.set_cons_succ]
              refine stepTQ HOPS HREG 25 67108863 ?_ (by decide) rfl (by kernel_rfl) (by kernel_rfl) rfl ?_ HS0.out ?_
              rotate_left
              · intro w9 hS9; obtain ⟨⟨q0, q1, q2, q3, q4, q5, q6⟩, -, -⟩ := hS9; go_simp; (first | done | with_reducible rfl)
              dsimp only [List.set_cons_zero, List.set_cons_succ]
              refine stepTQ HOPS HREG 26 134217727 ?_ (by decide) rfl (by kernel_rfl) (by kernel_rfl) rfl ?_ HS0.out ?_
              rotate_left
              · intro w9 hS9; obtain ⟨⟨q0, q1, q2, q3, q4, q5, q6⟩, -, -⟩ := hS9; go_simp; (first | done | with_reducible rfl)
              dsimp only [List.set_cons_zero, List.set_cons_succ]
              refine stepTQ HOPS HREG 27 268435455 ?_ (by decide) rfl (by kernel_rfl) (by kernel_rfl) rfl ?_ HS0.out ?_
              rotate_left
              · intro w9 hS9; obtain ⟨⟨q0, q1, q2, q3, q4, q5, q6⟩, -, -⟩ := hS9; go_simp; (first | done | with_reducible rfl)
              dsimp only [List.set_cons_zero, List.set_cons_succ]
              refine stepTQ HOPS HREG 28 536870911 ?_ (by decide) rfl (by kernel_rfl) (by kernel_rfl) rfl ?_ HS0.out ?_
              rotate_left
              · intro w9 hS9; obtain ⟨⟨q0, q1, q2, q3, q4, q5, q6⟩, -, -⟩ := hS9; go_simp; (first | done | with_reducible rfl)
              dsimp only [List.set_cons_zero, List.set_cons_succ]
              refine stepTQ HOPS HREG 29 1073741823 ?_ (by decide) rfl (by kernel_rfl) (by kernel_rfl) rfl ?_ HS0.out ?_
              rotate_left
              · intro w9 hS9; obtain ⟨⟨q0, q1, q2, q3, q4, q5, q6⟩, -, -⟩ := hS9; go_simp; (first | done | with_reducible rfl)
              dsimp only [List.set_cons_zero, List.set_cons_succ]
              refine stepC HOPS 30 2147483647 (by decide) rfl (by kernel_rfl) (by kernel_rfl) ?_
              go_simp
              with_reducible refine (refints_any k _ HK12.out).mono ?_
              rintro e w31 ⟨rfl, hb5⟩
              dsimp only
              have HS1 := Lib.hid (HS0.out.step hb5)
              clear hb5
              refine ⟨HS1.out, ?_⟩
              try simp only [Act.put, List.setIfInBounds_toArray, List.set_cons_zero, List.set_cons_succ]
              rcases y6 : ((n1 : Int) != nI k) with _ | _
              · have y6' := Lib.hid (show (n1 : Int) = nI k by simpa using y6)
                refine stepTQ HOPS HREG 31 4294967295 ?_ (by decide) rfl (by kernel_rfl) (by kernel_rfl) rfl ?_ HS1.out ?_
                rotate_left
                · intro w9 hS9; obtain ⟨⟨q0, q1, q2, q3, q4, q5, q6⟩, -, -⟩ := hS9; go_simp; (first | done | with_reducible rfl)
                dsimp only [List.set_cons_zero, List.set_cons_succ]
                refine stepTQ HOPS HREG 32 8589934591 ?_ (by decide) rfl (by kernel_rfl) (by kernel_rfl) rfl ?_ HS1.out ?_
                rotate_left
                · intro w9 hS9; obtain ⟨⟨q0, q1, q2, q3, q4, q5, q6⟩, -, -⟩ := hS9; go_simp; (first | done | with_reducible rfl)
                dsimp only [List.set_cons_zero, List.set_cons_succ]
                refine stepTQ HOPS HREG 33 17179869183 ?_ (by decide) rfl (by kernel_rfl) (by kernel_rfl) rfl ?_ HS1.out ?_
                rotate_left
                · intro w9 hS9; obtain ⟨⟨q0, q1, q2, q3, q4, q5, q6⟩, -, -⟩ := hS9; go_simp; (first | done | with_reducible rfl)
                dsimp only [List.set_cons_zero, List.set_cons_succ]
                refine stepTQ HOPS HREG 34 34359738367 ?_ (by decide) rfl (by kernel_rfl) (by kernel_rfl) rfl ?_ HS1.out ?_
                rotate_left
                · intro w9 hS9; obtain ⟨⟨q0, q1, q2, q3, q4, q5, q6⟩, -, -⟩ := hS9; go_simp; (first | done | with_reducible rfl)
                dsimp only [List.set_cons_zero, List.set_cons_succ]
                refine stepTQ HOPS HREG 35 68719476735 ?_ (by decide) rfl (by kernel_rfl) (by kernel_rfl) rfl ?_ HS1.out ?_
                rotate_left
                · intro w9 hS9; obtain ⟨⟨q0, q1, q2, q3, q4, q5, q6⟩, -, -⟩ := hS9; go_simp; (first | done | with_reducible rfl)
                dsimp only [List.set_cons_zero, List.set_cons_succ]
                rcases y7 : allIn l1 (-1) 1099511627776 with _ | _
                · have HZ := Lib.hid (HBAD.out fun h => by rw [allIn_iff.2 h.2.2.2.2.1] at y7; cases y7)
                  refine stepC HOPS 36 137438953471 (by decide) rfl (by kernel_rfl) (by kernel_rfl) ?_
                  go_simp
                  with_reducible refine (refin_any A1 n1 c1 l1 (-1) 1099511627776 w.heap.size _ (HI.out.below HS1.out.bel (Nat.le_refl _)) hn1).mono ?_
                  rw [y7]
                  rintro e w9 ⟨rfl, rfl⟩
                  dsimp only
                  refine ⟨HS1.out, ?_⟩
                  try simp only [Act.put, List.setIfInBounds_toArray, List.set_cons_zero, List.set_cons_succ]
                  refine stepTQ HOPS HREG 37 274877906943 ?_ (by decide) rfl (by kernel_rfl) (by kernel_rfl) rfl ?_ HS1.out ?_
                  rotate_left
                  · intro w9 hS9; obtain ⟨⟨q0, q1, q2, q3, q4, q5, q6⟩, -, -⟩ := hS9; go_simp; (first | done | with_reducible rfl)
                  dsimp only [List.set_cons_zero, List.set_cons_succ]
                  refine stepTQ HOPS HREG 38 549755813887 ?_ (by decide) rfl (by kernel_rfl) (by kernel_rfl) rfl ?_ HS1.out ?_
                  rotate_left
                  · intro w9 hS9; obtain ⟨⟨q0, q1, q2, q3, q4, q5, q6⟩, -, -⟩ := hS9; go_simp; (first | done | with_reducible rfl)
                  dsimp only [List.set_cons_zero, List.set_cons_succ]
                  refine stepTQ HOPS HREG 39 1099511627775 ?_ (by decide) rfl (by kernel_rfl) (by kernel_rfl) rfl ?_ HS1.out ?_
                  rotate_left
                  · intro w9 hS9; obtain ⟨⟨q0, q1, q2, q3, q4, q5, q6⟩, -, -⟩ := hS9; go_simp; (first | done | with_reducible rfl)
                  dsimp only [List.set_cons_zero, List.set_cons_succ]
                  refine stepTU HOPS HREG 40 2199023255551 (by decide) rfl (by kernel_rfl) (by kernel_rfl) rfl HS1.out ?_
                  dsimp only [List.set_cons_zero, List.set_cons_succ]
                  refine stepTU HOPS HREG 41 4398046511103 (by decide) rfl (by kernel_rfl) (by kernel_rfl) rfl HS1.out ?_
                  dsimp only [List.set_cons_zero, List.set_cons_succ]
                  refine stepTU HOPS HREG 42 8796093022207 (by decide) rfl (by kernel_rfl) (by kernel_rfl) rfl HS1.out ?_
                  dsimp only [List.set_cons_zero, List.set_cons_succ]
                  refine stepTU HOPS HREG 43 17592186044415 (by decide) rfl (by kernel_rfl) (by kernel_rfl) rfl HS1.out ?_
                  dsimp only [List.set_cons_zero, List.set_cons_succ]
                  refine stepTU HOPS HREG 44 35184372088831 (by decide) rfl (by kernel_rfl) (by kernel_rfl) rfl HS1.out ?_
                  dsimp only [List.set_cons_zero, List.set_cons_succ]
                  refine stepTQ HOPS HREG 45 70368744177663 ?_ (by decide) rfl (by kernel_rfl) (by kernel_rfl) rfl ?_ HS1.out ?_
                  rotate_left
                  · intro w9 hS9; obtain ⟨⟨q0, q1, q2, q3, q4, q5, q6⟩, -, -⟩ := hS9; go_simp; (first | done | with_reducible rfl)
                  dsimp only [List.set_cons_zero, List.set_cons_succ]
                  refine stepTQ HOPS HREG 46 140737488355327 ?_ (by decide) rfl (by kernel_rfl) (by kernel_rfl) rfl ?_ HS1.out ?_
                  rotate_left
                  · intro w9 hS9; obtain ⟨⟨q0, q1, q2, q3, q4, q5, q6⟩, -, -⟩ := hS9; go_simp; (first | done | with_reducible rfl)
                  dsimp only [List.set_cons_zero, List.set_cons_succ]
                  refine stepTU HOPS HREG 47 281474976710655 (by decide) rfl (by kernel_rfl) (by kernel_rfl) rfl HS1.out ?_
                  dsimp only [List.set_cons_zero, List.set_cons_succ]
                  refine stepTU HOPS HREG 48 562949953421311 (by decide) rfl (by kernel_rfl) (by kernel_rfl) rfl HS1.out ?_
                  dsimp only [List.set_cons_zero, List.set_cons_succ]
                  refine stepTU HOPS HREG 49 1125899906842623 (by decide) rfl (by kernel_rfl) (by kernel_rfl) rfl HS1.out ?_
                  dsimp only [List.set_cons_zero, List.set_cons_succ]
                  refine stepTU HOPS HREG 50 2251799813685247 (by decide) rfl (by kernel_rfl) (by kernel_rfl) rfl HS1.out ?_
                  dsimp only [List.set_cons_zero, List.set_cons_succ]
                  refine stepTU HOPS HREG 51 4503599627370495 (by decide) rfl (by kernel_rfl) (by kernel_rfl) rfl HS1.out ?_
                  dsimp only [List.set_cons_zero, List.set_cons_succ]
                  refine stepTU HOPS HREG 52 9007199254740991 (by decide) rfl (by kernel_rfl) (by kernel_rfl) rfl HS1.out ?_
                  dsimp only [List.set_cons_zero, List.set_cons_succ]
                  refine stepTU HOPS HREG 53 18014398509481983 (by decide) rfl (by kernel_rfl) (by kernel_rfl) rfl HS1.out ?_
                  dsimp only [List.set_cons_zero, List.set_cons_succ]
                  refine stepTQ HOPS HREG 54 36028797018963967 ?_ (by decide) rfl (by kernel_rfl) (by kernel_rfl) rfl ?_ HS1.out ?_
                  rotate_left
                  · intro w9 hS9; obtain ⟨⟨q0, q1, q2, q3, q4, q5, q6⟩, -, -⟩ := hS9; go_simp; (first | done | with_reducible rfl)
                  dsimp only [List.set_cons_zero, List.set_cons_succ]
                  refine stepTQ HOPS HREG 55 72057594037927935 ?_ (by decide) rfl (by kernel_rfl) (by kernel_rfl) rfl ?_ HS1.out ?_
                  rotate_left
                  · intro w9 hS9; obtain ⟨⟨q0, q1, q2, q3, q4, q5, q6⟩, -, -⟩ := hS9; go_simp; (first | done | with_reducible rfl)
                  dsimp only [List.set_cons_zero, List.set_cons_succ]
                  refine stepTU HOPS HREG 56 144115188075855871 (by decide) rfl (by kernel_rfl) (by kernel_rfl) rfl HS1.out ?_
                  dsimp only [List.set_cons_zero, List.set_cons_succ]
                  refine stepTU HOPS HREG 57 288230376151711743 (by decide) rfl (by kernel_rfl) (by kernel_rfl) rfl HS1.out ?_
                  dsimp only [List.set_cons_zero, List.set_cons_succ]
                  refine stepTU HOPS HREG 58 576460752303423487 (by decide) rfl (by kernel_rfl) (by kernel_rfl) rfl HS1.out ?_
                  dsimp only [List.set_cons_zero, List.set_cons_succ]
                  refine stepTU HOPS HREG 59 1152921504606846975 (by decide) rfl (by kernel_rfl) (by kernel_rfl) rfl HS1.out ?_
                  dsimp only [List.set_cons_zero, List.set_cons_succ]
                  refine stepTQ HOPS HREG 60 2305843009213693951 ?_ (by decide) rfl (by kernel_rfl) (by kernel_rfl) rfl ?_ HS1.out ?_
                  rotate_left
                  · intro w9 hS9; obtain ⟨⟨q0, q1, q2, q3, q4, q5, q6⟩, -, -⟩ := hS9; go_simp; (first | done | with_reducible rfl)
                  dsimp only [List.set_cons_zero, List.set_cons_succ]
                  refine stepTQ HOPS HREG 61 4611686018427387903 ?_ (by decide) rfl (by kernel_rfl) (by kernel_rfl) rfl ?_ HS1.out ?_
                  rotate_left
                  · intro w9 hS9; obtain ⟨⟨q0, q1, q2, q3, q4, q5, q6⟩, -, -⟩ := hS9; go_simp; (first | done | with_reducible rfl)
                  dsimp only [List.set_cons_zero, List.set_cons_succ]
                  refine stepTU HOPS HREG 62 9223372036854775807 (by decide) rfl (by kernel_rfl) (by kernel_rfl) rfl HS1.out ?_
                  dsimp only [List.set_cons_zero, List.set_cons_succ]
                  refine stepTU HOPS HREG 63 18446744073709551615 (by decide) rfl (by kernel_rfl) (by kernel_rfl) rfl HS1.out ?_
                  dsimp only [List.set_cons_zero, List.set_cons_succ]
                  refine stepTU HOPS HREG 64 36893488147419103231 (by decide) rfl (by kernel_rfl) (by kernel_rfl) rfl HS1.out ?_
                  dsimp only [List.set_cons_zero, List.set_cons_succ]
                  refine stepTU HOPS HREG 65 73786976294838206463 (by decide) rfl (by kernel_rfl) (by kernel_rfl) rfl HS1.out ?_
                  dsimp only [List.set_cons_zero, List.set_cons_succ]
                  refine stepTU HOPS HREG 66 147573952589676412927 (by decide) rfl (by kernel_rfl) (by kernel_rfl) rfl HS1.out ?_
                  dsimp only [List.set_cons_zero, List.set_cons_succ]
                  refine stepTQ HOPS HREG 67 295147905179352825855 ?_ (by decide) rfl (by kernel_rfl) (by kernel_rfl) rfl ?_ HS1.out ?_
                  rotate_left
                  · intro w9 hS9; obtain ⟨⟨q0, q1, q2, q3, q4, q5, q6⟩, -, -⟩ := hS9; go_simp; (first | done | with_reducible rfl)
                  dsimp only [List.set_cons_zero, List.set_cons_succ]
                  refine stepE HOPS (by kernel_rfl) (HQ.out _ _ ?_)
                  clear HQ HREG HOPS
                  clear Q ops
                  go_wp2
                  go_ret
                  exact ⟨by rw [HZ.out]; rfl, HS1.out.2.1⟩
                · have y7' := Lib.hid y7
                  refine stepC HOPS 36 137438953471 (by decide) rfl (by kernel_rfl) (by kernel_rfl) ?_
                  go_simp
                  with_reducible refine (refin_any A1 n1 c1 l1 (-1) 1099511627776 w.heap.size _ (HI.out.below HS1.out.bel (Nat.le_refl _)) hn1).mono ?_
                  rw [y7]
                  rintro e w9 ⟨rfl, rfl⟩
                  dsimp only
                  refine ⟨HS1.out, ?_⟩
                  try simp only [Act.put, List.setIfInBounds_toArray, List.set_cons_zero, List.set_cons_succ]
                  refine stepTQ HOPS HREG 37 274877906943 ?_ (by decide) rfl (by kernel_rfl) (by kernel_rfl) rfl ?_ HS1.out ?_
                  rotate_left
                  · intro w9 hS9; obtain ⟨⟨q0, q1, q2, q3, q4, q5, q6⟩, -, -⟩ := hS9; go_simp; (first | done | with_reducible rfl)
                  dsimp only [List.set_cons_zero, List.set_cons_succ]
                  refine stepTQ HOPS HREG 38 549755813887 ?_ (by decide) rfl (by kernel_rfl) (by kernel_rfl) rfl ?_ HS1.out ?_
                  rotate_left
                  · intro w9 hS9; obtain ⟨⟨q0, q1, q2, q3, q4, q5, q6⟩, -, -⟩ := hS9; go_simp; (first | done | with_reducible rfl)
                  dsimp only [List.set_cons_zero, List.set_cons_succ]
                  refine stepTQ HOPS HREG 39 1099511627775 ?_ (by decide) rfl (by kernel_rfl) (by kernel_rfl) rfl ?_ HS1.out ?_
                  rotate_left
                  · intro w9 hS9; obtain ⟨⟨q0, q1, q2, q3, q4, q5, q6⟩, -, -⟩ := hS9; go_simp; (first | done | with_reducible rfl)
                  dsimp only [List.set_cons_zero, List.set_cons_succ]
                  refine stepTQ HOPS HREG 40 2199023255551 ?_ (by decide) rfl (by kernel_rfl) (by kernel_rfl) rfl ?_ HS1.out ?_
                  rotate_left
                  · intro w9 hS9; obtain ⟨⟨q0, q1, q2, q3, q4, q5, q6⟩, -, -⟩ := hS9; go_simp; (first | done | with_reducible rfl)
                  dsimp only [List.set_cons_zero, List.set_cons_succ]
                  refine stepTQ HOPS HREG 41 4398046511103 ?_ (by decide) rfl (by kernel_rfl) (by kernel_rfl) rfl ?_ HS1.out ?_
                  rotate_left
                  · intro w9 hS9; obtain ⟨⟨q0, q1, q2, q3, q4, q5, q6⟩, -, -⟩ := hS9; go_simp; (first | done | with_reducible rfl)
                  dsimp only [List.set_cons_zero, List.set_cons_succ]
                  refine stepTQ HOPS HREG 42 8796093022207 ?_ (by decide) rfl (by kernel_rfl) (by kernel_rfl) rfl ?_ HS1.out ?_
                  rotate_left
                  · intro w9 hS9; obtain ⟨⟨q0, q1, q2, q3, q4, q5, q6⟩, -, -⟩ := hS9; go_simp; (first | done | with_reducible rfl)
                  dsimp only [List.set_cons_zero, List.set_cons_succ]
                  refine stepC HOPS 43 17592186044415 (by decide) rfl (by kernel_rfl) (by kernel_rfl) ?_
                  go_simp
                  with_reducible refine (reftexts_any k _ HK12.out).mono ?_
                  rintro e w34 ⟨rfl, hb5⟩
                  dsimp only
                  have HS4 := Lib.hid (HS1.out.step hb5)
                  clear hb5
                  refine ⟨HS4.out, ?_⟩
                  try simp only [Act.put, List.setIfInBounds_toArray, List.set_cons_zero, List.set_cons_succ]
                  rcases y8 : decide ((n2 : Int) < nT k) with _ | _
                  · have y8' := of_decide_eq_false y8
                    refine stepTQ HOPS HREG 44 35184372088831 ?_ (by decide) rfl (by kernel_rfl) (by kernel_rfl) rfl ?_ HS4.out ?_
                    rotate_left
                    · intro w9 hS9; obtain ⟨⟨q0, q1, q2, q3, q4, q5, q6⟩, -, -⟩ := hS9; go_simp; (first | done | with_reducible rfl)
                    dsimp only [List.set_cons_zero, List.set_cons_succ]
                    refine stepTQ HOPS HREG 45 70368744177663 ?_ (by decide) rfl (by kernel_rfl) (by kernel_rfl) rfl ?_ HS4.out ?_
                    rotate_left
                    · intro w9 hS9; obtain ⟨⟨q0, q1, q2, q3, q4, q5, q6⟩, -, -⟩ := hS9; go_simp; (first | done | with_reducible rfl)
                    dsimp only [List.set_cons_zero, List.set_cons_succ]
                    refine stepTQ HOPS HREG 46 140737488355327 ?_ (by decide) rfl (by kernel_rfl) (by kernel_rfl) rfl ?_ HS4.out ?_
                    rotate_left
                    · intro w9 hS9; obtain ⟨⟨q0, q1, q2, q3, q4, q5, q6⟩, -, -⟩ := hS9; go_simp; (first | done | with_reducible rfl)
                    dsimp only [List.set_cons_zero, List.set_cons_succ]
                    refine stepTQ HOPS HREG 47 281474976710655 ?_ (by decide) rfl (by kernel_rfl) (by kernel_rfl) rfl ?_ HS4.out ?_
                    rotate_left
                    · intro w9 hS9; obtain ⟨⟨q0, q1, q2, q3, q4, q5, q6⟩, -, -⟩ := hS9; go_simp; (first | done | with_reducible rfl)
                    dsimp only [List.set_cons_zero, List.set_cons_succ]
                    refine stepTQ HOPS HREG 48 562949953421311 ?_ (by decide) rfl (by kernel_rfl) (by kernel_rfl) rfl ?_ HS4.out ?_
                    rotate_left
                    · intro w9 hS9; obtain ⟨⟨q0, q1, q2, q3, q4, q5, q6⟩, -, -⟩ := hS9; go_simp; (first | done | with_reducible rfl)
                    dsimp only [List.set_cons_zero, List.set_cons_succ]
                    refine stepTQ HOPS HREG 49 1125899906842623 ?_ (by decide) rfl (by kernel_rfl) (by kernel_rfl) rfl ?_ HS4.out ?_
                    rotate_left
                    · intro w9 hS9; obtain ⟨⟨q0, q1, q2, q3, q4, q5, q6⟩, -, -⟩ := hS9; go_simp; (first | done | with_reducible rfl)
                    dsimp only [List.set_cons_zero, List.set_cons_succ]
                    refine stepTQ HOPS HREG 51 3377699720527871 ?_ (by decide) rfl (by kernel_rfl) (by kernel_rfl) rfl ?_ HS4.out ?_
                    rotate_left
                    · intro w9 hS9; obtain ⟨⟨q0, q1, q2, q3, q4, q5, q6⟩, -, -⟩ := hS9; go_simp; (first | done | with_reducible rfl)
                    dsimp only [List.set_cons_zero, List.set_cons_succ]
                    refine stepC HOPS 50 4503599627370495 (by decide) rfl (by kernel_rfl) (by kernel_rfl) ?_
                    go_simp
                    with_reducible refine (reftexts_any k _ HK12.out).mono ?_
                    rintro e w35 ⟨rfl, hb5⟩
                    dsimp only
                    have HS5 := Lib.hid (HS4.out.step hb5)
                    clear hb5
                    refine ⟨HS5.out, ?_⟩
                    try simp only [Act.put, List.setIfInBounds_toArray, List.set_cons_zero, List.set_cons_succ]
                    refine stepTQ HOPS HREG 52 9007199254740991 ?_ (by decide) rfl (by kernel_rfl) (by kernel_rfl) rfl ?_ HS5.out ?_
                    rotate_left
                    · intro w9 hS9; obtain ⟨⟨q0, q1, q2, q3, q4, q5, q6⟩, -, -⟩ := hS9; go_simp; (first | done | with_reducible rfl)
                    dsimp only [List.set_cons_zero, List.set_cons_succ]
                    rcases y9 : decide (nT k + mT k < (n2 : Int)) with _ | _
                    · have y9' := of_decide_eq_false y9
                      refine stepTQ HOPS HREG 53 18014398509481983 ?_ (by decide) rfl (by kernel_rfl) (by kernel_rfl) rfl ?_ HS5.out ?_
                      rotate_left
                      · intro w9 hS9; obtain ⟨⟨q0, q1, q2, q3, q4, q5, q6⟩, -, -⟩ := hS9; go_simp; (first | done | with_reducible rfl)
                      dsimp only [List.set_cons_zero, List.set_cons_succ]
                      refine stepTQ HOPS HREG 54 36028797018963967 ?_ (by decide) rfl (by kernel_rfl) (by kernel_rfl) rfl ?_ HS5.out ?_
                      rotate_left
                      · intro w9 hS9; obtain ⟨⟨q0, q1, q2, q3, q4, q5, q6⟩, -, -⟩ := hS9; go_simp; (first | done | with_reducible rfl)
                      dsimp only [List.set_cons_zero, List.set_cons_succ]
                      refine stepTQ HOPS HREG 55 72057594037927935 ?_ (by decide) rfl (by kernel_rfl) (by kernel_rfl) rfl ?_ HS5.out ?_
                      rotate_left
                      · intro w9 hS9; obtain ⟨⟨q0, q1, q2, q3, q4, q5, q6⟩, -, -⟩ := hS9; go_simp; (first | done | with_reducible rfl)
                      dsimp only [List.set_cons_zero, List.set_cons_succ]
                      refine stepTQ HOPS HREG 56 144115188075855871 ?_ (by decide) rfl (by kernel_rfl) (by kernel_rfl) rfl ?_ HS5.out ?_
                      rotate_left
                      · intro w9 hS9; obtain ⟨⟨q0, q1, q2, q3, q4, q5, q6⟩, -, -⟩ := hS9; go_simp; (first | done | with_reducible rfl)
                      dsimp only [List.set_cons_zero, List.set_cons_succ]
                      refine stepTQ HOPS HREG 57 288230376151711743 ?_ (by decide) rfl (by kernel_rfl) (by kernel_rfl) rfl ?_ HS5.out ?_
                      rotate_left
                      · intro w9 hS9; obtain ⟨⟨q0, q1, q2, q3, q4, q5, q6⟩, -, -⟩ := hS9; go_simp; (first | done | with_reducible rfl)
                      dsimp only [List.set_cons_zero, List.set_cons_succ]
                      rcases y10 : allShort 64 l2 with _ | _
                      · have HZ := Lib.hid (HBAD.out fun h => by rw [allShort_iff.2 h.2.2.2.2.2.2.1] at y10; cases y10)
                        refine stepC HOPS 58 576460752303423487 (by decide) rfl (by kernel_rfl) (by kernel_rfl) ?_
                        go_simp
                        with_reducible refine (refshort_any A2 n2 c2 l2 w.heap.size _ (HT.out.below HS5.out.bel (Nat.le_refl _)) hn2).mono ?_
                        rw [y10]
                        rintro e w9 ⟨rfl, rfl⟩
                        dsimp only
                        refine ⟨HS5.out, ?_⟩
                        try simp only [Act.put, List.setIfInBounds_toArray, List.set_cons_zero, List.set_cons_succ]
                        refine stepTQ HOPS HREG 59 1152921504606846975 ?_ (by decide) rfl (by kernel_rfl) (by kernel_rfl) rfl ?_ HS5.out ?_
                        rotate_left
                        · intro w9 hS9; obtain ⟨⟨q0, q1, q2, q3, q4, q5, q6⟩, -, -⟩ := hS9; go_simp; (first | done | with_reducible rfl)
                        dsimp only [List.set_cons_zero, List.set_cons_succ]
                        refine stepTQ HOPS HREG 60 2305843009213693951 ?_ (by decide) rfl (by kernel_rfl) (by kernel_rfl) rfl ?_ HS5.out ?_
                        rotate_left
                        · intro w9 hS9; obtain ⟨⟨q0, q1, q2, q3, q4, q5, q6⟩, -, -⟩ := hS9; go_simp; (first | done | with_reducible rfl)
                        dsimp only [List.set_cons_zero, List.set_cons_succ]
                        refine stepTQ HOPS HREG 61 4611686018427387903 ?_ (by decide) rfl (by kernel_rfl) (by kernel_rfl) rfl ?_ HS5.out ?_
                        rotate_left
                        · intro w9 hS9; obtain ⟨⟨q0, q1, q2, q3, q4, q5, q6⟩, -, -⟩ := hS9; go_simp; (first | done | with_reducible rfl)
                        dsimp only [List.set_cons_zero, List.set_cons_succ]
                        refine stepTU HOPS HREG 62 9223372036854775807 (by decide) rfl (by kernel_rfl) (by kernel_rfl) rfl HS5.out ?_
                        dsimp only [List.set_cons_zero, List.set_cons_succ]
                        refine stepTU HOPS HREG 63 18446744073709551615 (by decide) rfl (by kernel_rfl) (by kernel_rfl) rfl HS5.out ?_
                        dsimp only [List.set_cons_zero, List.set_cons_succ]
                        refine stepTU HOPS HREG 64 36893488147419103231 (by decide) rfl (by kernel_rfl) (by kernel_rfl) rfl HS5.out ?_
                        dsimp only [List.set_cons_zero, List.set_cons_succ]
                        refine stepTU HOPS HREG 65 73786976294838206463 (by decide) rfl (by kernel_rfl) (by kernel_rfl) rfl HS5.out ?_
                        dsimp only [List.set_cons_zero, List.set_cons_succ]
                        refine stepTU HOPS HREG 66 147573952589676412927 (by decide) rfl (by kernel_rfl) (by kernel_rfl) rfl HS5.out ?_
                        dsimp only [List.set_cons_zero, List.set_cons_succ]
                        refine stepTQ HOPS HREG 67 295147905179352825855 ?_ (by decide) rfl (by kernel_rfl) (by kernel_rfl) rfl ?_ HS5.out ?_
                        rotate_left
                        · intro w9 hS9; obtain ⟨⟨q0, q1, q2, q3, q4, q5, q6⟩, -, -⟩ := hS9; go_simp; (first | done | with_reducible rfl)
                        dsimp only [List.set_cons_zero, List.set_cons_succ]
                        refine stepE HOPS (by kernel_rfl) (HQ.out _ _ ?_)
                        clear HQ HREG HOPS
                        clear Q ops
                        go_wp2
                        go_ret
                        exact ⟨by rw [HZ.out]; rfl, HS5.out.2.1⟩
                      · have y10' := Lib.hid y10
                        refine stepC HOPS 58 576460752303423487 (by decide) rfl (by kernel_rfl) (by kernel_rfl) ?_
                        go_simp
                        with_reducible refine (refshort_any A2 n2 c2 l2 w.heap.size _ (HT.out.below HS5.out.bel (Nat.le_refl _)) hn2).mono ?_
                        rw [y10]
                        rintro e w9 ⟨rfl, rfl⟩
                        dsimp only
                        refine ⟨HS5.out, ?_⟩
                        try simp only [Act.put, List.setIfInBounds_toArray, List.set_cons_zero, List.set_cons_succ]
                        refine stepTQ HOPS HREG 59 1152921504606846975 ?_ (by decide) rfl (by kernel_rfl) (by kernel_rfl) rfl ?_ HS5.out ?_
                        rotate_left
                        · intro w9 hS9; obtain ⟨⟨q0, q1, q2, q3, q4, q5, q6⟩, -, -⟩ := hS9; go_simp; (first | done | with_reducible rfl)
                        dsimp only [List.set_cons_zero, List.set_cons_succ]
                        refine stepTQ HOPS HREG 60 2305843009213693951 ?_ (by decide) rfl (by kernel_rfl) (by kernel_rfl) rfl ?_ HS5.out ?_
                        rotate_left
                        · intro w9 hS9; obtain ⟨⟨q0, q1, q2, q3, q4, q5, q6⟩, -, -⟩ := hS9; go_simp; (first | done | with_reducible rfl)
                        dsimp only [List.set_cons_zero, List.set_cons_succ]
                        refine stepTQ HOPS HREG 61 4611686018427387903 ?_ (by decide) rfl (by kernel_rfl) (by kernel_rfl) rfl ?_ HS5.out ?_
                        rotate_left
                        · intro w9 hS9; obtain ⟨⟨q0, q1, q2, q3, q4, q5, q6⟩, -, -⟩ := hS9; go_simp; (first | done | with_reducible rfl)
                        dsimp only [List.set_cons_zero, List.set_cons_succ]
                        refine stepTQ HOPS HREG 62 9223372036854775807 ?_ (by decide) rfl (by kernel_rfl) (by kernel_rfl) rfl ?_ HS5.out ?_
                        rotate_left
                        · intro w9 hS9; obtain ⟨⟨q0, q1, q2, q3, q4, q5, q6⟩, -, -⟩ := hS9; go_simp; (first | done | with_reducible rfl)
                        dsimp only [List.set_cons_zero, List.set_cons_succ]
                        refine stepTQ HOPS HREG 63 18446744073709551615 ?_ (by decide) rfl (by kernel_rfl) (by kernel_rfl) rfl ?_ HS5.out ?_
                        rotate_left
                        · intro w9 hS9; obtain ⟨⟨q0, q1, q2, q3, q4, q5, q6⟩, -, -⟩ := hS9; go_simp; (first | done | with_reducible rfl)
                        dsimp only [List.set_cons_zero, List.set_cons_succ]
                        refine stepTQ HOPS HREG 64 36893488147419103231 ?_ (by decide) rfl (by kernel_rfl) (by kernel_rfl) rfl ?_ HS5.out ?_
                        rotate_left
                        · intro w9 hS9; obtain ⟨⟨q0, q1, q2, q3, q4, q5, q6⟩, -, -⟩ := hS9; go_simp; (first | done | with_reducible rfl)
                        dsimp only [List.set_cons_zero, List.set_cons_succ]
                        refine stepTQ HOPS HREG 65 73786976294838206463 ?_ (by decide) rfl (by kernel_rfl) (by kernel_rfl) rfl ?_ HS5.out ?_
                        rotate_left
                        · intro w9 hS9; obtain ⟨⟨q0, q1, q2, q3, q4, q5, q6⟩, -, -⟩ := hS9; go_simp; (first | done | with_reducible rfl)
                        dsimp only [List.set_cons_zero, List.set_cons_succ]
                        rcases y11 : decide (mB k < (n3 : Int)) with _ | _
                        · have y11' := of_decide_eq_false y11
                          have HZ := Lib.hid (show ckQ ⟨k, v, i, s, l1, l2, l3⟩ = 0 from ckQ_iff.2 ⟨HKN.out, ⟨by show 0 ≤ i ∧ i ≤ 1099511627776; omega, by show s.size ≤ 64; omega, HWH.out, by show ((l1.length : Nat) : Int) = nI k; rw [HL1.out]; exact y6'.out, allIn_iff.1 y7'.out, ⟨by show nT k ≤ ((l2.length : Nat) : Int); rw [HL2.out]; omega, by show ((l2.length : Nat) : Int) ≤ nT k + mT k; rw [HL2.out]; omega⟩, allShort_iff.1 y10'.out, by show ((l3.length : Nat) : Int) ≤ mB k; rw [HL3.out]; omega⟩⟩)
                          refine stepTQ HOPS HREG 66 147573952589676412927 ?_ (by decide) rfl (by kernel_rfl) (by kernel_rfl) rfl ?_ HS5.out ?_
                          rotate_left
                          · intro w9 hS9; obtain ⟨⟨q0, q1, q2, q3, q4, q5, q6⟩, -, -⟩ := hS9; go_simp; (first | done | with_reducible rfl)
                          dsimp only [List.set_cons_zero, List.set_cons_succ]
                          refine stepTQ HOPS HREG 67 295147905179352825855 ?_ (by decide) rfl (by kernel_rfl) (by kernel_rfl) rfl ?_ HS5.out ?_
                          rotate_left
                          · intro w9 hS9; obtain ⟨⟨q0, q1, q2, q3, q4, q5, q6⟩, -, -⟩ := hS9; go_simp; (first | done | with_reducible rfl)
                          dsimp only [List.set_cons_zero, List.set_cons_succ]
                          refine stepE HOPS (by kernel_rfl) (HQ.out _ _ ?_)
                          clear HQ HREG HOPS
                          clear Q ops
                          go_wp2
                          go_ret
                          exact ⟨by rw [HZ.out]; rfl, HS5.out.2.1⟩
                        · have y11' := of_decide_eq_true y11
                          have HZ := Lib.hid (HBAD.out fun h => by have h2 : ((l3.length : Nat) : Int) ≤ mB k := h.2.2.2.2.2.2.2; rw [HL3.out] at h2; omega)
                          refine stepTQ HOPS HREG 66 147573952589676412927 ?_ (by decide) rfl (by kernel_rfl) (by kernel_rfl) rfl ?_ HS5.out ?_
                          rotate_left
                          · intro w9 hS9; obtain ⟨⟨q0, q1, q2, q3, q4, q5, q6⟩, -, -⟩ := hS9; go_simp; (first | done | with_reducible rfl)
                          dsimp only [List.set_cons_zero, List.set_cons_succ]
                          refine stepTQ HOPS HREG 67 295147905179352825855 ?_ (by decide) rfl (by kernel_rfl) (by kernel_rfl) rfl ?_ HS5.out ?_
                          rotate_left
                          · intro w9 hS9; obtain ⟨⟨q0, q1, q2, q3, q4, q5, q6⟩, -, -⟩ := hS9; go_simp; (first | done | with_reducible rfl)
                          dsimp only [List.set_cons_zero, List.set_cons_succ]
                          refine stepE HOPS (by kernel_rfl) (HQ.out _ _ ?_)
                          clear HQ HREG HOPS
                          clear Q ops
                          go_wp2
                          go_ret
                          exact ⟨by rw [HZ.out]; rfl, HS5.out.2.1⟩
                    · have y9' := of_decide_eq_true y9
                      have HZ := Lib.hid (HBAD.out fun h => by have h2 : ((l2.length : Nat) : Int) ≤ nT k + mT k := h.2.2.2.2.2.1.2; rw [HL2.out] at h2; omega)
                      refine stepTQ HOPS HREG 53 18014398509481983 ?_ (by decide) rfl (by kernel_rfl) (by kernel_rfl) rfl ?_ HS5.out ?_
                      rotate_left
                      · intro w9 hS9; obtain ⟨⟨q0, q1, q2, q3, q4, q5, q6⟩, -, -⟩ := hS9; go_simp; (first | done | with_reducible rfl)
                      dsimp only [List.set_cons_zero, List.set_cons_succ]
                      refine stepTQ HOPS HREG 54 36028797018963967 ?_ (by decide) rfl (by kernel_rfl) (by kernel_rfl) rfl ?_ HS5.out ?_
                      rotate_left
                      · intro w9 hS9; obtain ⟨⟨q0, q1, q2, q3, q4, q5, q6⟩, -, -⟩ := hS9; go_simp; (first | done | with_reducible rfl)
                      dsimp only [List.set_cons_zero, List.set_cons_succ]
                      refine stepTQ HOPS HREG 55 72057594037927935 ?_ (by decide) rfl (by kernel_rfl) (by kernel_rfl) rfl ?_ HS5.out ?_
                      rotate_left
                      · intro w9 hS9; obtain ⟨⟨q0, q1, q2, q3, q4, q5, q6⟩, -, -⟩ := hS9; go_simp; (first | done | with_reducible rfl)
                      dsimp only [List.set_cons_zero, List.set_cons_succ]
                      refine stepTU HOPS HREG 56 144115188075855871 (by decide) rfl (by kernel_rfl) (by kernel_rfl) rfl HS5.out ?_
                      dsimp only [List.set_cons_zero, List.set_cons_succ]
                      refine stepTU HOPS HREG 57 288230376151711743 (by decide) rfl (by kernel_rfl) (by kernel_rfl) rfl HS5.out ?_
                      dsimp only [List.set_cons_zero, List.set_cons_succ]
                      refine stepTU HOPS HREG 58 576460752303423487 (by decide) rfl (by kernel_rfl) (by kernel_rfl) rfl HS5.out ?_
                      dsimp only [List.set_cons_zero, List.set_cons_succ]
                      refine stepTU HOPS HREG 59 1152921504606846975 (by decide) rfl (by kernel_rfl) (by kernel_rfl) rfl HS5.out ?_
                      dsimp only [List.set_cons_zero, List.set_cons_succ]
                      refine stepTQ HOPS HREG 60 2305843009213693951 ?_ (by decide) rfl (by kernel_rfl) (by kernel_rfl) rfl ?_ HS5.out ?_
                      rotate_left
                      · intro w9 hS9; obtain ⟨⟨q0, q1, q2, q3, q4, q5, q6⟩, -, -⟩ := hS9; go_simp; (first | done | with_reducible rfl)
                      dsimp only [List.set_cons_zero, List.set_cons_succ]
                      refine stepTQ HOPS HREG 61 4611686018427387903 ?_ (by decide) rfl (by kernel_rfl) (by kernel_rfl) rfl ?_ HS5.out ?_
                      rotate_left
                      · intro w9 hS9; obtain ⟨⟨q0, q1, q2, q3, q4, q5, q6⟩, -, -⟩ := hS9; go_simp; (first | done | with_reducible rfl)
                      dsimp only [List.set_cons_zero, List.set_cons_succ]
                      refine stepTU HOPS HREG 62 9223372036854775807 (by decide) rfl (by kernel_rfl) (by kernel_rfl) rfl HS5.out ?_
                      dsimp only [List.set_cons_zero, List.set_cons_succ]
                      refine stepTU HOPS HREG 63 18446744073709551615 (by decide) rfl (by kernel_rfl) (by kernel_rfl) rfl HS5.out ?_
                      dsimp only [List.set_cons_zero, List.set_cons_succ]
                      refine stepTU HOPS HREG 64 36893488147419103231 (by decide) rfl (by kernel_rfl) (by kernel_rfl) rfl HS5.out ?_
                      dsimp only [List.set_cons_zero, List.set_cons_succ]
                      refine stepTU HOPS HREG 65 73786976294838206463 (by decide) rfl (by kernel_rfl) (by kernel_rfl) rfl HS5.out ?_
                      dsimp only [List.set_cons_zero, List.set_cons_succ]
                      refine stepTU HOPS HREG 66 147573952589676412927 (by decide) rfl (by kernel_rfl) (by kernel_rfl) rfl HS5.out ?_
                      dsimp only [List.set_cons_zero, List.set_cons_succ]
                      refine stepTQ HOPS HREG 67 295147905179352825855 ?_ (by decide) rfl (by kernel_rfl) (by kernel_rfl) rfl ?_ HS5.out ?_
                      rotate_left
                      · intro w9 hS9; obtain ⟨⟨q0, q1, q2, q3, q4, q5, q6⟩, -, -⟩ := hS9; go_simp; (first | done | with_reducible rfl)
                      dsimp only [List.set_cons_zero, List.set_cons_succ]
                      refine stepE HOPS (by kernel_rfl) (HQ.out _ _ ?_)
                      clear HQ HREG HOPS
                      clear Q ops
                      go_wp2
                      go_ret
                      exact ⟨by rw [HZ.out]; rfl, HS5.out.2.1⟩
                  · have y8' := of_decide_eq_true y8
                    have HZ := Lib.hid (HBAD.out fun h => by have h2 : nT k ≤ ((l2.length : Nat) : Int) := h.2.2.2.2.2.1.1; rw [HL2.out] at h2; omega)
                    refine stepTQ HOPS HREG 44 35184372088831 ?_ (by decide) rfl (by kernel_rfl) (by kernel_rfl) rfl ?_ HS4.out ?_
                    rotate_left
                    · intro w9 hS9; obtain ⟨⟨q0, q1, q2, q3, q4, q5, q6⟩, -, -⟩ := hS9; go_simp; (first | done | with_reducible rfl)
                    dsimp only [List.set_cons_zero, List.set_cons_succ]
                    refine stepTQ HOPS HREG 45 70368744177663 ?_ (by decide) rfl (by kernel_rfl) (by kernel_rfl) rfl ?_ HS4.out ?_
                    rotate_left
                    · intro w9 hS9; obtain ⟨⟨q0, q1, q2, q3, q4, q5, q6⟩, -, -⟩ := hS9; go_simp; (first | done | with_reducible rfl)
                    dsimp only [List.set_cons_zero, List.set_cons_succ]
                    refine stepTQ HOPS HREG 46 140737488355327 ?_ (by decide) rfl (by kernel_rfl) (by kernel_rfl) rfl ?_ HS4.out ?_
                    rotate_left
                    · intro w9 hS9; obtain ⟨⟨q0, q1, q2, q3, q4, q5, q6⟩, -, -⟩ := hS9; go_simp; (first | done | with_reducible rfl)
                    dsimp only [List.set_cons_zero, List.set_cons_succ]
                    refine stepTU HOPS HREG 47 281474976710655 (by decide) rfl (by kernel_rfl) (by kernel_rfl) rfl HS4.out ?_
                    dsimp only [List.set_cons_zero, List.set_cons_succ]
                    refine stepTU HOPS HREG 48 562949953421311 (by decide) rfl (by kernel_rfl) (by kernel_rfl) rfl HS4.out ?_
                    dsimp only [List.set_cons_zero, List.set_cons_succ]
                    refine stepTU HOPS HREG 49 1125899906842623 (by decide) rfl (by kernel_rfl) (by kernel_rfl) rfl HS4.out ?_
                    dsimp only [List.set_cons_zero, List.set_cons_succ]
                    refine stepTU HOPS HREG 50 2251799813685247 (by decide) rfl (by kernel_rfl) (by kernel_rfl) rfl HS4.out ?_
                    dsimp only [List.set_cons_zero, List.set_cons_succ]
                    refine stepTU HOPS HREG 51 4503599627370495 (by decide) rfl (by kernel_rfl) (by kernel_rfl) rfl HS4.out ?_
                    dsimp only [List.set_cons_zero, List.set_cons_succ]
                    refine stepTU HOPS HREG 52 9007199254740991 (by decide) rfl (by kernel_rfl) (by kernel_rfl) rfl HS4.out ?_
                    dsimp only [List.set_cons_zero, List.set_cons_succ]
                    refine stepTU HOPS HREG 53 18014398509481983 (by decide) rfl (by kernel_rfl) (by kernel_rfl) rfl HS4.out ?_
                    dsimp only [List.set_cons_zero, List.set_cons_succ]
                    refine stepTQ HOPS HREG 54 36028797018963967 ?_ (by decide) rfl (by kernel_rfl) (by kernel_rfl) rfl ?_ HS4.out ?_
                    rotate_left
                    · intro w9 hS9; obtain ⟨⟨q0, q1, q2, q3, q4, q5, q6⟩, -, -⟩ := hS9; go_simp; (first | done | with_reducible rfl)
                    dsimp only [List.set_cons_zero, List.set_cons_succ]
                    refine stepTQ HOPS HREG 55 72057594037927935 ?_ (by decide) rfl (by kernel_rfl) (by kernel_rfl) rfl ?_ HS4.out ?_
                    rotate_left
                    · intro w9 hS9; obtain ⟨⟨q0, q1, q2, q3, q4, q5, q6⟩, -, -⟩ := hS9; go_simp; (first | done | with_reducible rfl)
                    dsimp only [List.set_cons_zero, List.set_cons_succ]
                    refine stepTU HOPS HREG 56 144115188075855871 (by decide) rfl (by kernel_rfl) (by kernel_rfl) rfl HS4.out ?_
                    dsimp only [List.set_cons_zero, List.set_cons_succ]
                    refine stepTU HOPS HREG 57 288230376151711743 (by decide) rfl (by kernel_rfl) (by kernel_rfl) rfl HS4.out ?_
                    dsimp only [List.set_cons_zero, List.set_cons_succ]
                    refine stepTU HOPS HREG 58 576460752303423487 (by decide) rfl (by kernel_rfl) (by kernel_rfl) rfl HS4.out ?_
                    dsimp only [List.set_cons_zero, List.set_cons_succ]
                    refine stepTU HOPS HREG 59 1152921504606846975 (by decide) rfl (by kernel_rfl) (by kernel_rfl) rfl HS4.out ?_
                    dsimp only [List.set_cons_zero, List.set_cons_succ]
                    refine stepTQ HOPS HREG 60 2305843009213693951 ?_ (by decide) rfl (by kernel_rfl) (by kernel_rfl) rfl ?_ HS4.out ?_
                    rotate_left
                    · intro w9 hS9; obtain ⟨⟨q0, q1, q2, q3, q4, q5, q6⟩, -, -⟩ := hS9; go_simp; (first | done | with_reducible rfl)
                    dsimp only [List.set_cons_zero, List.set_cons_succ]
                    refine stepTQ HOPS HREG 61 4611686018427387903 ?_ (by decide) rfl (by kernel_rfl) (by kernel_rfl) rfl ?_ HS4.out ?_
                    rotate_left
                    · intro w9 hS9; obtain ⟨⟨q0, q1, q2, q3, q4, q5, q6⟩, -, -⟩ := hS9; go_simp; (first | done | with_reducible rfl)
                    dsimp only [List.set_cons_zero, List.set_cons_succ]
                    refine stepTU HOPS HREG 62 9223372036854775807 (by decide) rfl (by kernel_rfl) (by kernel_rfl) rfl HS4.out ?_
                    dsimp only [List.set_cons_zero, List.set_cons_succ]
                    refine stepTU HOPS HREG 63 18446744073709551615 (by decide) rfl (by kernel_rfl) (by kernel_rfl) rfl HS4.out ?_
                    dsimp only [List.set_cons_zero, List.set_cons_succ]
                    refine stepTU HOPS HREG 64 36893488147419103231 (by decide) rfl (by kernel_rfl) (by kernel_rfl) rfl HS4.out ?_
                    dsimp only [List.set_cons_zero, List.set_cons_succ]
                    refine stepTU HOPS HREG 65 73786976294838206463 (by decide) rfl (by kernel_rfl) (by kernel_rfl) rfl HS4.out ?_
                    dsimp only [List.set_cons_zero, List.set_cons_succ]
                    refine stepTU HOPS HREG 66 147573952589676412927 (by decide) rfl (by kernel_rfl) (by kernel_rfl) rfl HS4.out ?_
                    dsimp only [List.set_cons_zero, List.set_cons_succ]
                    refine stepTQ HOPS HREG 67 295147905179352825855 ?_ (by decide) rfl (by kernel_rfl) (by kernel_rfl) rfl ?_ HS4.out ?_
                    rotate_left
                    · intro w9 hS9; obtain ⟨⟨q0, q1, q2, q3, q4, q5, q6⟩, -, -⟩ := hS9; go_simp; (first | done | with_reducible rfl)
                    dsimp only [List.set_cons_zero, List.set_cons_succ]
                    refine stepE HOPS (by kernel_rfl) (HQ.out _ _ ?_)
                    clear HQ HREG HOPS
                    clear Q ops
                    go_wp2
                    go_ret
                    exact ⟨by rw [HZ.out]; rfl, HS4.out.2.1⟩
              · have HZ := Lib.hid (HBAD.out fun h => by have h2 : ((l1.length : Nat) : Int) = nI k := h.2.2.2.1; rw [HL1.out] at h2; rw [h2] at y6; simp at y6)
                refine stepTQ HOPS HREG 31 4294967295 ?_ (by decide) rfl (by kernel_rfl) (by kernel_rfl) rfl ?_ HS1.out ?_
                rotate_left
                · intro w9 hS9; obtain ⟨⟨q0, q1, q2, q3, q4, q5, q6⟩, -, -⟩ := hS9; go_simp; (first | done | with_reducible rfl)
                dsimp only [List.set_cons_zero, List.set_cons_succ]
                refine stepTQ HOPS HREG 32 8589934591 ?_ (by decide) rfl (by kernel_rfl) (by kernel_rfl) rfl ?_ HS1.out ?_
                rotate_left
                · intro w9 hS9; obtain ⟨⟨q0, q1, q2, q3, q4, q5, q6⟩, -, -⟩ := hS9; go_simp; (first | done | with_reducible rfl)
                dsimp only [List.set_cons_zero, List.set_cons_succ]
                refine stepTQ HOPS HREG 33 17179869183 ?_ (by decide) rfl (by kernel_rfl) (by kernel_rfl) rfl ?_ HS1.out ?_
                rotate_left
                · intro w9 hS9; obtain ⟨⟨q0, q1, q2, q3, q4, q5, q6⟩, -, -⟩ := hS9; go_simp; (first | done | with_reducible rfl)
                dsimp only [List.set_cons_zero, List.set_cons_succ]
                refine stepTU HOPS HREG 34 34359738367 (by decide) rfl (by kernel_rfl) (by kernel_rfl) rfl HS1.out ?_
                dsimp only [List.set_cons_zero, List.set_cons_succ]
                refine stepTU HOPS HREG 35 68719476735 (by decide) rfl (by kernel_rfl) (by kernel_rfl) rfl HS1.out ?_
                dsimp only [List.set_cons_zero, List.set_cons_succ]
                refine stepTU HOPS HREG 36 137438953471 (by decide) rfl (by kernel_rfl) (by kernel_rfl) rfl HS1.out ?_
                dsimp only [List.set_cons_zero, List.set_cons_succ]
                refine stepTU HOPS HREG 37 274877906943 (by decide) rfl (by kernel_rfl) (by kernel_rfl) rfl HS1.out ?_
                dsimp only [List.set_cons_zero, List.set_cons_succ]
                refine stepTQ HOPS HREG 38 549755813887 ?_ (by decide) rfl (by kernel_rfl) (by kernel_rfl) rfl ?_ HS1.out ?_
                rotate_left
                · intro w9 hS9; obtain ⟨⟨q0, q1, q2, q3, q4, q5, q6⟩, -, -⟩ := hS9; go_simp; (first | done | with_reducible rfl)
                dsimp only [List.set_cons_zero, List.set_cons_succ]
                refine stepTQ HOPS HREG 39 1099511627775 ?_ (by decide) rfl (by kernel_rfl) (by kernel_rfl) rfl ?_ HS1.out ?_
                rotate_left
                · intro w9 hS9; obtain ⟨⟨q0, q1, q2, q3, q4, q5, q6⟩, -, -⟩ := hS9; go_simp; (first | done | with_reducible rfl)
                dsimp only [List.set_cons_zero, List.set_cons_succ]
                refine stepTU HOPS HREG 40 2199023255551 (by decide) rfl (by kernel_rfl) (by kernel_rfl) rfl HS1.out ?_
                dsimp only [List.set_cons_zero, List.set_cons_succ]
                refine stepTU HOPS HREG 41 4398046511103 (by decide) rfl (by kernel_rfl) (by kernel_rfl) rfl HS1.out ?_
                dsimp only [List.set_cons_zero, List.set_cons_succ]
                refine stepTU HOPS HREG 42 8796093022207 (by decide) rfl (by kernel_rfl) (by kernel_rfl) rfl HS1.out ?_
                dsimp only [List.set_cons_zero, List.set_cons_succ]
                refine stepTU HOPS HREG 43 17592186044415 (by decide) rfl (by kernel_rfl) (by kernel_rfl) rfl HS1.out ?_
                dsimp only [List.set_cons_zero, List.set_cons_succ]
                refine stepTU HOPS HREG 44 35184372088831 (by decide) rfl (by kernel_rfl) (by kernel_rfl) rfl HS1.out ?_
                dsimp only [List.set_cons_zero, List.set_cons_succ]
                refine stepTQ HOPS HREG 45 70368744177663 ?_ (by decide) rfl (by kernel_rfl) (by kernel_rfl) rfl ?_ HS1.out ?_
                rotate_left
                · intro w9 hS9; obtain ⟨⟨q0, q1, q2, q3, q4, q5, q6⟩, -, -⟩ := hS9; go_simp; (first | done | with_reducible rfl)
                dsimp only [List.set_cons_zero, List.set_cons_succ]
                refine stepTQ HOPS HREG 46 140737488355327 ?_ (by decide) rfl (by kernel_rfl) (by kernel_rfl) rfl ?_ HS1.out ?_
                rotate_left
                · intro w9 hS9; obtain ⟨⟨q0, q1, q2, q3, q4, q5, q6⟩, -, -⟩ := hS9; go_simp; (first | done | with_reducible rfl)
                dsimp only [List.set_cons_zero, List.set_cons_succ]
                refine stepTU HOPS HREG 47 281474976710655 (by decide) rfl (by kernel_rfl) (by kernel_rfl) rfl HS1.out ?_
                dsimp only [List.set_cons_zero, List.set_cons_succ]
                refine stepTU HOPS HREG 48 562949953421311 (by decide) rfl (by kernel_rfl) (by kernel_rfl) rfl HS1.out ?_
                dsimp only [List.set_cons_zero, List.set_cons_succ]
                refine stepTU HOPS HREG 49 1125899906842623 (by decide) rfl (by kernel_rfl) (by kernel_rfl) rfl HS1.out ?_
                dsimp only [List.set_cons_zero, List.set_cons_succ]
                refine stepTU HOPS HREG 50 2251799813685247 (by decide) rfl (by kernel_rfl) (by kernel_rfl) rfl HS1.out ?_
                dsimp only [List.set_cons_zero, List.set_cons_succ]
                refine stepTU HOPS HREG 51 4503599627370495 (by decide) rfl (by kernel_rfl) (by kernel_rfl) rfl HS1.out ?_
                dsimp only [List.set_cons_zero, List.set_cons_succ]
                refine stepTU HOPS HREG 52 9007199254740991 (by decide) rfl (by kernel_rfl) (by kernel_rfl) rfl HS1.out ?_
                dsimp only [List.set_cons_zero, List.set_cons_succ]
                refine stepTU HOPS HREG 53 18014398509481983 (by decide) rfl (by kernel_rfl) (by kernel_rfl) rfl HS1.out ?_
                dsimp only [List.set_cons_zero, List.set_cons_succ]
                refine stepTQ HOPS HREG 54 36028797018963967 ?_ (by decide) rfl (by kernel_rfl) (by kernel_rfl) rfl ?_ HS1.out ?_
                rotate_left
                · intro w9 hS9; obtain ⟨⟨q0, q1, q2, q3, q4, q5, q6⟩, -, -⟩ := hS9; go_simp; (first | done | with_reducible rfl)
                dsimp only [List.set_cons_zero, List.set_cons_succ]
                refine stepTQ HOPS HREG 55 72057594037927935 ?_ (by decide) rfl (by kernel_rfl) (by kernel_rfl) rfl ?_ HS1.out ?_
                rotate_left
                · intro w9 hS9; obtain ⟨⟨q0, q1, q2, q3, q4, q5, q6⟩, -, -⟩ := hS9; go_simp; (first | done | with_reducible rfl)
                dsimp only [List.set_cons_zero, List.set_cons_succ]
                refine stepTU HOPS HREG 56 144115188075855871 (by decide) rfl (by kernel_rfl) (by kernel_rfl) rfl HS1.out ?_
                dsimp only [List.set_cons_zero, List.set_cons_succ]
                refine stepTU HOPS HREG 57 288230376151711743 (by decide) rfl (by kernel_rfl) (by kernel_rfl) rfl HS1.out ?_
                dsimp only [List.set_cons_zero, List.set_cons_succ]
                refine stepTU HOPS HREG 58 576460752303423487 (by decide) rfl (by kernel_rfl) (by kernel_rfl) rfl HS1.out ?_
                dsimp only [List.set_cons_zero, List.set_cons_succ]
                refine stepTU HOPS HREG 59 1152921504606846975 (by decide) rfl (by kernel_rfl) (by kernel_rfl) rfl HS1.out ?_
                dsimp only [List.set_cons_zero, List.set_cons_succ]
                refine stepTQ HOPS HREG 60 2305843009213693951 ?_ (by decide) rfl (by kernel_rfl) (by kernel_rfl) rfl ?_ HS1.out ?_
                rotate_left
                · intro w9 hS9; obtain ⟨⟨q0, q1, q2, q3, q4, q5, q6⟩, -, -⟩ := hS9; go_simp; (first | done | with_reducible rfl)
                dsimp only [List.set_cons_zero, List.set_cons_succ]
                refine stepTQ HOPS HREG 61 4611686018427387903 ?_ (by decide) rfl (by kernel_rfl) (by kernel_rfl) rfl ?_ HS1.out ?_
                rotate_left
                · intro w9 hS9; obtain ⟨⟨q0, q1, q2, q3, q4, q5, q6⟩, -, -⟩ := hS9; go_simp; (first | done | with_reducible rfl)
                dsimp only [List.set_cons_zero, List.set_cons_succ]
                refine stepTU HOPS HREG 62 9223372036854775807 (by decide) rfl (by kernel_rfl) (by kernel_rfl) rfl HS1.out ?_
                dsimp only [List.set_cons_zero, List.set_cons_succ]
                refine stepTU HOPS HREG 63 18446744073709551615 (by decide) rfl (by kernel_rfl) (by kernel_rfl) rfl HS1.out ?_
                dsimp only [List.set_cons_zero, List.set_cons_succ]
                refine stepTU HOPS HREG 64 36893488147419103231 (by decide) rfl (by kernel_rfl) (by kernel_rfl) rfl HS1.out ?_
                dsimp only [List.set_cons_zero, List.set_cons_succ]
                refine stepTU HOPS HREG 65 73786976294838206463 (by decide) rfl (by kernel_rfl) (by kernel_rfl) rfl HS1.out ?_
                dsimp only [List.set_cons_zero, List.set_cons_succ]
                refine stepTU HOPS HREG 66 147573952589676412927 (by decide) rfl (by kernel_rfl) (by kernel_rfl) rfl HS1.out ?_
                dsimp only [List.set_cons_zero, List.set_cons_succ]
                refine stepTQ HOPS HREG 67 295147905179352825855 ?_ (by decide) rfl (by kernel_rfl) (by kernel_rfl) rfl ?_ HS1.out ?_
                rotate_left
                · intro w9 hS9; obtain ⟨⟨q0, q1, q2, q3, q4, q5, q6⟩, -, -⟩ := hS9; go_simp; (first | done | with_reducible rfl)
                dsimp only [List.set_cons_zero, List.set_cons_succ]
                refine stepE HOPS (by kernel_rfl) (HQ.out _ _ ?_)
                clear HQ HREG HOPS
                clear Q ops
                go_wp2
                go_ret
                exact ⟨by rw [HZ.out]; rfl, HS1.out.2.1⟩
            · have y4' := of_decide_eq_true y4
              refine stepTQ HOPS HREG 17 262143 ?_ (by decide) rfl (by kernel_rfl) (by kernel_rfl) rfl ?_ HS0.out ?_
              rotate_left
              · intro w9 hS9; obtain ⟨⟨q0, q1, q2, q3, q4, q5, q6⟩, -, -⟩ := hS9; go_simp; (first | done | with_reducible rfl)
              dsimp only [List.set_cons_zero, List.set_cons_succ]
              refine stepTQ HOPS HREG 18 524287 ?_ (by decide) rfl (by kernel_rfl) (by kernel_rfl) rfl ?_ HS0.out ?_
              rotate_left
              · intro w9 hS9; obtain ⟨⟨q0, q1, q2, q3, q4, q5, q6⟩, -, -⟩ := hS9; go_simp; (first | done | with_reducible rfl)
              dsimp only [List.set_cons_zero, List.set_cons_succ]
              refine stepTQ HOPS HREG 19 1048575 ?_ (by decide) rfl (by kernel_rfl) (by kernel_rfl) rfl ?_ HS0.out ?_
              rotate_left
              · intro w9 hS9; obtain ⟨⟨q0, q1, q2, q3, q4, q5, q6⟩, -, -⟩ := hS9; go_simp; (first | done | with_reducible rfl)
              dsimp only [List.set_cons_zero, List.set_cons_succ]
              refine stepTQ HOPS HREG 20 2097151 ?_ (by decide) rfl (by kernel_rfl) (by kernel_rfl) rfl ?_ HS0.out ?_
              rotate_left
              · intro w9 hS9; obtain ⟨⟨q0, q1, q2, q3, q4, q5, q6⟩, -, -⟩ := hS9; go_simp; (first | done | with_reducible rfl)
              dsimp only [List.set_cons_zero, List.set_cons_succ]
              rcases y5 : s.toList.isEmpty with _ | _
              · have HZ := Lib.hid (HBAD.out fun h => by rw [isEmpty_iff.2 (h.2.2.1 y4')] at y5; cases y5)
                refine stepTQ HOPS HREG 21 4194303 ?_ (by decide) rfl (by kernel_rfl) (by kernel_rfl) rfl ?_ HS0.out ?_
                rotate_left
                · intro w9 hS9; obtain ⟨⟨q0, q1, q2, q3, q4, q5, q6⟩, -, -⟩ := hS9; go_simp; (first | done | with_reducible rfl)
                dsimp only [List.set_cons_zero, List.set_cons_succ]
                refine stepTQ HOPS HREG 22 8388607 ?_ (by decide) rfl (by kernel_rfl) (by kernel_rfl) rfl ?_ HS0.out ?_
                rotate_left
                · intro w9 hS9; obtain ⟨⟨q0, q1, q2, q3, q4, q5, q6⟩, -, -⟩ := hS9; go_simp; (first | done | with_reducible rfl)
                dsimp only [List.set_cons_zero, List.set_cons_succ]
                refine stepTQ HOPS HREG 23 16777215 ?_ (by decide) rfl (by kernel_rfl) (by kernel_rfl) rfl ?_ HS0.out ?_
                rotate_left
                · intro w9 hS9; obtain ⟨⟨q0, q1, q2, q3, q4, q5, q6⟩, -, -⟩ := hS9; go_simp; (first | done | with_reducible rfl)
                dsimp only [List.set_cons_zero, List.set_cons_succ]
                refine stepTQ HOPS HREG 24 33554431 ?_ (by decide) rfl (by kernel_rfl) (by kernel_rfl) rfl ?_ HS0.out ?_
                rotate_left
                · intro w9 hS9; obtain ⟨⟨q0, q1, q2, q3, q4, q5, q6⟩, -, -⟩ := hS9; go_simp; (first | done | with_reducible rfl)
                dsimp only [List.set_cons_zero, List.set_cons_succ]
                refine stepTU HOPS HREG 25 67108863 (by decide) rfl (by kernel_rfl) (by kernel_rfl) rfl HS0.out ?_
                dsimp only [List.set_cons_zero, List.set_cons_succ]
                refine stepTU HOPS HREG 26 134217727 (by decide) rfl (by kernel_rfl) (by kernel_rfl) rfl HS0.out ?_
                dsimp only [List.set_cons_zero, List.set_cons_succ]
                refine stepTU HOPS HREG 27 268435455 (by decide) rfl (by kernel_rfl) (by kernel_rfl) rfl HS0.out ?_
                dsimp only [List.set_cons_zero, List.set_cons_succ]
                refine stepTU HOPS HREG 28 536870911 (by decide) rfl (by kernel_rfl) (by kernel_rfl) rfl HS0.out ?_
                dsimp only [List.set_cons_zero, List.set_cons_succ]
                refine stepTU HOPS HREG 29 1073741823 (by decide) rfl (by kernel_rfl) (by kernel_rfl) rfl HS0.out ?_
                dsimp only [List.set_cons_zero, List.set_cons_succ]
                refine stepTU HOPS HREG 30 2147483647 (by decide) rfl (by kernel_rfl) (by kernel_rfl) rfl HS0.out ?_
                dsimp only [List.set_cons_zero, List.set_cons_succ]
                refine stepTU HOPS HREG 31 4294967295 (by decide) rfl (by kernel_rfl) (by kernel_rfl) rfl HS0.out ?_
                dsimp only [List.set_cons_zero, List.set_cons_succ]
                refine stepTQ HOPS HREG 32 8589934591 ?_ (by decide) rfl (by kernel_rfl) (by kernel_rfl) rfl ?_ HS0.out ?_
                rotate_left
                · intro w9 hS9; obtain ⟨⟨q0, q1, q2, q3, q4, q5, q6⟩, -, -⟩ := hS9; go_simp; (first | done | with_reducible rfl)
                dsimp only [List.set_cons_zero, List.set_cons_succ]
                refine stepTQ HOPS HREG 33 17179869183 ?_ (by decide) rfl (by kernel_rfl) (by kernel_rfl) rfl ?_ HS0.out ?_
                rotate_left
                · intro w9 hS9; obtain ⟨⟨q0, q1, q2, q3, q4, q5, q6⟩, -, -⟩ := hS9; go_simp; (first | done | with_reducible rfl)
                dsimp only [List.set_cons_zero, List.set_cons_succ]
                refine stepTU HOPS HREG 34 34359738367 (by decide) rfl (by kernel_rfl) (by kernel_rfl) rfl HS0.out ?_
                dsimp only [List.set_cons_zero, List.set_cons_succ]
                refine stepTU HOPS HREG 35 68719476735 (by decide) rfl (by kernel_rfl) (by kernel_rfl) rfl HS0.out ?_
                dsimp only [List.set_cons_zero, List.set_cons_succ]
                refine stepTU HOPS HREG 36 137438953471 (by decide) rfl (by kernel_rfl) (by kernel_rfl) rfl HS0.out ?_
                dsimp only [List.set_cons_zero, List.set_cons_succ]
                refine stepTU HOPS HREG 37 274877906943 (by decide) rfl (by kernel_rfl) (by kernel_rfl) rfl HS0.out ?_
                dsimp only [List.set_cons_zero, List.set_cons_succ]
                refine stepTQ HOPS HREG 38 549755813887 ?_ (by decide) rfl (by kernel_rfl) (by kernel_rfl) rfl ?_ HS0.out ?_
                rotate_left
                · intro w9 hS9; obtain ⟨⟨q0, q1, q2, q3, q4, q5, q6⟩, -, -⟩ := hS9; go_simp; (first | done | with_reducible rfl)
                dsimp only [List.set_cons_zero, List.set_cons_succ]
                refine stepTQ HOPS HREG 39 1099511627775 ?_ (by decide) rfl (by kernel_rfl) (by kernel_rfl) rfl ?_ HS0.out ?_
                rotate_left
                · intro w9 hS9; obtain ⟨⟨q0, q1, q2, q3, q4, q5, q6⟩, -, -⟩ := hS9; go_simp; (first | done | with_reducible rfl)
                dsimp only [List.set_cons_zero, List.set_cons_succ]
                refine stepTU HOPS HREG 40 2199023255551 (by decide) rfl (by kernel_rfl) (by kernel_rfl) rfl HS0.out ?_
                dsimp only [List.set_cons_zero, List.set_cons_succ]
                refine stepTU HOPS HREG 41 4398046511103 (by decide) rfl (by kernel_rfl) (by kernel_rfl) rfl HS0.out ?_
                dsimp only [List.set_cons_zero, List.set_cons_succ]
                refine stepTU HOPS HREG 42 8796093022207 (by decide) rfl (by kernel_rfl) (by kernel_rfl) rfl HS0.out ?_
                dsimp only [List.set_cons_zero, List.set_cons_succ]
                refine stepTU HOPS HREG 43 17592186044415 (by decide) rfl (by kernel_rfl) (by kernel_rfl) rfl HS0.out ?_
                dsimp only [List.set_cons_zero, List.set_cons_succ]
                refine stepTU HOPS HREG 44 35184372088831 (by decide) rfl (by kernel_rfl) (by kernel_rfl) rfl HS0.out ?_
                dsimp only [List.set_cons_zero, List.set_cons_succ]
                refine stepTQ HOPS HREG 45 70368744177663 ?_ (by decide) rfl (by kernel_rfl) (by kernel_rfl) rfl ?_ HS0.out ?_
                rotate_left
                · intro w9 hS9; obtain ⟨⟨q0, q1, q2, q3, q4, q5, q6⟩, -, -⟩ := hS9; go_simp; (first | done | with_reducible rfl)
                dsimp only [List.set_cons_zero, List.set_cons_succ]
                refine stepTQ HOPS HREG 46 140737488355327 ?_ (by decide) rfl (by kernel_rfl) (by kernel_rfl) rfl ?_ HS0.out ?_
                rotate_left
                · intro w9 hS9; obtain ⟨⟨q0, q1, q2, q3, q4, q5, q6⟩, -, -⟩ := hS9; go_simp; (first | done | with_reducible rfl)
                dsimp only [List.set_cons_zero, List.set_cons_succ]
                refine stepTU HOPS HREG 47 281474976710655 (by decide) rfl (by kernel_rfl) (by kernel_rfl) rfl HS0.out ?_
                dsimp only [List.set_cons_zero, List.set_cons_succ]
                refine stepTU HOPS HREG 48 562949953421311 (by decide) rfl (by kernel_rfl) (by kernel_rfl) rfl HS0.out ?_
                dsimp only [List.set_cons_zero, List.set_cons_succ]
                refine stepTU HOPS HREG 49 1125899906842623 (by decide) rfl (by kernel_rfl) (by kernel_rfl) rfl HS0.out ?_
                dsimp only [List.set_cons_zero, List.set_cons_succ]
                refine stepTU HOPS HREG 50 2251799813685247 (by decide) rfl (by kernel_rfl) (by kernel_rfl) rfl HS0.out ?_
                dsimp only [List.set_cons_zero, List.set_cons_succ]
                refine stepTU HOPS HREG 51 4503599627370495 (by decide) rfl (by kernel_rfl) (by kernel_rfl) rfl HS0.out ?_
                dsimp only [List.set_cons_zero, List.set_cons_succ]
                refine stepTU HOPS HREG 52 9007199254740991 (by decide) rfl (by kernel_rfl) (by kernel_rfl) rfl HS0.out ?_
                dsimp only [List.set_cons_zero, List.set_cons_succ]
                refine stepTU HOPS HREG 53 18014398509481983 (by decide) rfl (by kernel_rfl) (by kernel_rfl) rfl HS0.out ?_
                dsimp only [List.set_cons_zero, List.set_cons_succ]
                refine stepTQ HOPS HREG 54 36028797018963967 ?_ (by decide) rfl (by kernel_rfl) (by kernel_rfl) rfl ?_ HS0.out ?_
                rotate_left
                · intro w9 hS9; obtain ⟨⟨q0, q1, q2, q3, q4, q5, q6⟩, -, -⟩ := hS9; go_simp; (first | done | with_reducible rfl)
                dsimp only [List.set_cons_zero, List.set_cons_succ]
                refine stepTQ HOPS HREG 55 72057594037927935 ?_ (by decide) rfl (by kernel_rfl) (by kernel_rfl) rfl ?_ HS0.out ?_
                rotate_left
                · intro w9 hS9; obtain ⟨⟨q0, q1, q2, q3, q4, q5, q6⟩, -, -⟩ := hS9; go_simp; (first | done | with_reducible rfl)
                dsimp only [List.set_cons_zero, List.set_cons_succ]
                refine stepTU HOPS HREG 56 144115188075855871 (by decide) rfl (by kernel_rfl) (by kernel_rfl) rfl HS0.out ?_
                dsimp only [List.set_cons_zero, List.set_cons_succ]
                refine stepTU HOPS HREG 57 288230376151711743 (by decide) rfl (by kernel_rfl) (by kernel_rfl) rfl HS0.out ?_
                dsimp only [List.set_cons_zero, List.set_cons_succ]
                refine stepTU HOPS HREG 58 576460752303423487 (by decide) rfl (by kernel_rfl) (by kernel_rfl) rfl HS0.out ?_
                dsimp only [List.set_cons_zero, List.set_cons_succ]
                refine stepTU HOPS HREG 59 1152921504606846975 (by decide) rfl (by kernel_rfl) (by kernel_rfl) rfl HS0.out ?_
                dsimp only [List.set_cons_zero, List.set_cons_succ]
                refine stepTQ HOPS HREG 60 2305843009213693951 ?_ (by decide) rfl (by kernel_rfl) (by kernel_rfl) rfl ?_ HS0.out ?_
                rotate_left
                · intro w9 hS9; obtain ⟨⟨q0, q1, q2, q3, q4, q5, q6⟩, -, -⟩ := hS9; go_simp; (first | done | with_reducible rfl)
                dsimp only [List.set_cons_zero, List.set_cons_succ]
                refine stepTQ HOPS HREG 61 4611686018427387903 ?_ (by decide) rfl (by kernel_rfl) (by kernel_rfl) rfl ?_ HS0.out ?_
                rotate_left
                · intro w9 hS9; obtain ⟨⟨q0, q1, q2, q3, q4, q5, q6⟩, -, -⟩ := hS9; go_simp; (first | done | with_reducible rfl)
                dsimp only [List.set_cons_zero, List.set_cons_succ]
                refine stepTU HOPS HREG 62 9223372036854775807 (by decide) rfl (by kernel_rfl) (by kernel_rfl) rfl HS0.out ?_
                dsimp only [List.set_cons_zero, List.set_cons_succ]
                refine stepTU HOPS HREG 63 18446744073709551615 (by decide) rfl (by kernel_rfl) (by kernel_rfl) rfl HS0.out ?_
                dsimp only [List.set_cons_zero, List.set_cons_succ]
                refine stepTU HOPS HREG 64 36893488147419103231 (by decide) rfl (by kernel_rfl) (by kernel_rfl) rfl HS0.out ?_
                dsimp only [List.set_cons_zero, List.set_cons_succ]
                refine stepTU HOPS HREG 65 73786976294838206463 (by decide) rfl (by kernel_rfl) (by kernel_rfl) rfl HS0.out ?_
                dsimp only [List.set_cons_zero, List.set_cons_succ]
                refine stepTU HOPS HREG 66 147573952589676412927 (by decide) rfl (by kernel_rfl) (by kernel_rfl) rfl HS0.out ?_
                dsimp only [List.set_cons_zero, List.set_cons_succ]
                refine stepTQ HOPS HREG 67 295147905179352825855 ?_ (by decide) rfl (by kernel_rfl) (by kernel_rfl) rfl ?_ HS0.out ?_
                rotate_left
                · intro w9 hS9; obtain ⟨⟨q0, q1, q2, q3, q4, q5, q6⟩, -, -⟩ := hS9; go_simp; (first | done | with_reducible rfl)
                dsimp only [List.set_cons_zero, List.set_cons_succ]
                refine stepE HOPS (by kernel_rfl) (HQ.out _ _ ?_)
                clear HQ HREG HOPS
                clear Q ops
                go_wp2
                go_ret
                exact ⟨by rw [HZ.out]; rfl, HS0.out.2.1⟩
              · have HWH := Lib.hid (show v < 2 → s.size = 0 from fun _ => isEmpty_iff.1 y5)
                refine stepTQ HOPS HREG 21 4194303 ?_ (by decide) rfl (by kernel_rfl) (by kernel_rfl) rfl ?_ HS0.out ?_
                rotate_left
                · intro w9 hS9; obtain ⟨⟨q0, q1, q2, q3, q4, q5, q6⟩, -, -⟩ := hS9; go_simp; (first | done | with_reducible rfl)
                dsimp only [List.set_cons_zero, List.set_cons_succ]
                refine stepTQ HOPS HREG 22 8388607 ?_ (by decide) rfl (by kernel_rfl) (by kernel_rfl) rfl ?_ HS0.out ?_
                rotate_left
                · intro w9 hS9; obtain ⟨⟨q0, q1, q2, q3, q4, q5, q6⟩, -, -⟩ := hS9; go_simp; (first | done | with_reducible rfl)
                dsimp only [List.set_cons_zero, List.set_cons_succ]
                refine stepTQ HOPS HREG 23 16777215 ?_ (by decide) rfl (by kernel_rfl) (by kernel_rfl) rfl ?_ HS0.out ?_
                rotate_left
                · intro w9 hS9; obtain ⟨⟨q0, q1, q2, q3, q4, q5, q6⟩, -, -⟩ := hS9; go_simp; (first | done | with_reducible rfl)
                dsimp only [List.set_cons_zero, List.set_cons_succ]
                refine stepTQ HOPS HREG 24 33554431 ?_ (by decide) rfl (by kernel_rfl) (by kernel_rfl) rfl ?_ HS0.out ?_
                rotate_left
                · intro w9 hS9; obtain ⟨⟨q0, q1, q2, q3, q4, q5, q6⟩, -, -⟩ := hS9; go_simp; (first | done | with_reducible rfl)
                dsimp only [List.set_cons_zero, List.set_cons_succ]
                refine stepTQ HOPS HREG 25 67108863 ?_ (by decide) rfl (by kernel_rfl) (by kernel_rfl) rfl ?_ HS0.out ?_
                rotate_left
                · intro w9 hS9; obtain ⟨⟨q0, q1, q2, q3, q4, q5, q6⟩, -, -⟩ := hS9; go_simp; (first | done | with_reducible rfl)
                dsimp only [List.set_cons_zero, List.set_cons_succ]
                refine stepTQ HOPS HREG 26 134217727 ?_ (by decide) rfl (by kernel_rfl) (by kernel_rfl) rfl ?_ HS0.out ?_
                rotate_left
                · intro w9 hS9; obtain ⟨⟨q0, q1, q2, q3, q4, q5, q6⟩, -, -⟩ := hS9; go_simp; (first | done | with_reducible rfl)
                dsimp only [List.set_cons_zero, List.set_cons_succ]
                refine stepTQ HOPS HREG 27 268435455 ?_ (by decide) rfl (by kernel_rfl) (by kernel_rfl) rfl ?_ HS0.out ?_
                rotate_left
                · intro w9 hS9; obtain ⟨⟨q0, q1, q2, q3, q4, q5, q6⟩, -, -⟩ := hS9; go_simp; (first | done | with_reducible rfl)
                dsimp only [List.set_cons_zero, List.set_cons_succ]
                refine stepTQ HOPS HREG 28 536870911 ?_ (by decide) rfl (by kernel_rfl) (by kernel_rfl) rfl ?_ HS0.out ?_
                rotate_left
                · intro w9 hS9; obtain ⟨⟨q0, q1, q2, q3, q4, q5, q6⟩, -, -⟩ := hS9; go_simp; (first | done | with_reducible rfl)
                dsimp only [List.set_cons_zero, List.set_cons_succ]
                refine stepTQ HOPS HREG 29 1073741823 ?_ (by decide) rfl (by kernel_rfl) (by kernel_rfl) rfl ?_ HS0.out ?_
                rotate_left
                · intro w9 hS9; obtain ⟨⟨q0, q1, q2, q3, q4, q5, q6⟩, -, -⟩ := hS9; go_simp; (first | done | with_reducible rfl)
                dsimp only [List.set_cons_zero, List.set_cons_succ]
                refine stepC HOPS 30 2147483647 (by decide) rfl (by kernel_rfl) (by kernel_rfl) ?_
                go_simp
                with_reducible refine (refints_any k _ HK12.out).mono ?_
                rintro e w38 ⟨rfl, hb5⟩
                dsimp only
                have HS8 := Lib.hid (HS0.out.step hb5)
                clear hb5
                refine ⟨HS8.out, ?_⟩
                try simp only [Act.put, List.setIfInBounds_toArray, List.set_cons_zero, List.set_cons_succ]
                rcases y6 : ((n1 : Int) != nI k) with _ | _
                · have y6' := Lib.hid (show (n1 : Int) = nI k by simpa using y6)
                  refine stepTQ HOPS HREG 31 4294967295 ?_ (by decide) rfl (by kernel_rfl) (by kernel_rfl) rfl ?_ HS8.out ?_
                  rotate_left
                  · intro w9 hS9; obtain ⟨⟨q0, q1, q2, q3, q4, q5, q6⟩, -, -⟩ := hS9; go_simp; (first | done | with_reducible rfl)
                  dsimp only [List.set_cons_zero, List.set_cons_succ]
                  refine stepTQ HOPS HREG 32 8589934591 ?_ (by decide) rfl (by kernel_rfl) (by kernel_rfl) rfl ?_ HS8.out ?_
                  rotate_left
                  · intro w9 hS9; obtain ⟨⟨q0, q1, q2, q3, q4, q5, q6⟩, -, -⟩ := hS9; go_simp; (first | done | with_reducible rfl)
                  dsimp only [List.set_cons_zero, List.set_cons_succ]
                  refine stepTQ HOPS HREG 33 17179869183 ?_ (by decide) rfl (by kernel_rfl) (by kernel_rfl) rfl ?_ HS8.out ?_
                  rotate_left
                  · intro w9 hS9; obtain ⟨⟨q0, q1, q2, q3, q4, q5, q6⟩, -, -⟩ := hS9; go_simp; (first | done | with_reducible rfl)
                  dsimp only [List.set_cons_zero, List.set_cons_succ]
                  refine stepTQ HOPS HREG 34 34359738367 ?_ (by decide) rfl (by kernel_rfl) (by kernel_rfl) rfl ?_ HS8.out ?_
                  rotate_left
                  · intro w9 hS9; obtain ⟨⟨q0, q1, q2, q3, q4, q5, q6⟩, -, -⟩ := hS9; go_simp; (first | done | with_reducible rfl)
                  dsimp only [List.set_cons_zero, List.set_cons_succ]
                  refine stepTQ HOPS HREG 35 68719476735 ?_ (by decide) rfl (by kernel_rfl) (by kernel_rfl) rfl ?_ HS8.out ?_
                  rotate_left
                  · intro w9 hS9; obtain ⟨⟨q0, q1, q2, q3, q4, q5, q6⟩, -, -⟩ := hS9; go_simp; (first | done | with_reducible rfl)
                  dsimp only [List.set_cons_zero, List.set_cons_succ]
                  rcases y7 : allIn l1 (-1) 1099511627776 with _ | _
                  · have HZ := Lib.hid (HBAD.out fun h => by rw [allIn_iff.2 h.2.2.2.2.1] at y7; cases y7)
                    refine stepC HOPS 36 137438953471 (by decide) rfl (by kernel_rfl) (by kernel_rfl) ?_
                    go_simp
                    with_reducible refine (refin_any A1 n1 c1 l1 (-1) 1099511627776 w.heap.size _ (HI.out.below HS8.out.bel (Nat.le_refl _)) hn1).mono ?_
                    rw [y7]
                    rintro e w9 ⟨rfl, rfl⟩
                    dsimp only
                    refine ⟨HS8.out, ?_⟩
                    try simp only [Act.put, List.setIfInBounds_toArray, List.set_cons_zero, List.set_cons_succ]
                    refine stepTQ HOPS HREG 37 274877906943 ?_ (by decide) rfl (by kernel_rfl) (by kernel_rfl) rfl ?_ HS8.out ?_
                    rotate_left
                    · intro w9 hS9; obtain ⟨⟨q0, q1, q2, q3, q4, q5, q6⟩, -, -⟩ := hS9; go_simp; (first | done | with_reducible rfl)
                    dsimp only [List.set_cons_zero, List.set_cons_succ]
                    refine stepTQ HOPS HREG 38 549755813887 ?_ (by decide) rfl (by kernel_rfl) (by kernel_rfl) rfl ?_ HS8.out ?_
                    rotate_left
                    · intro w9 hS9; obtain ⟨⟨q0, q1, q2, q3, q4, q5, q6⟩, -, -⟩ := hS9; go_simp; (first | done | with_reducible rfl)
                    dsimp only [List.set_cons_zero, List.set_cons_succ]
                    refine stepTQ HOPS HREG 39 1099511627775 ?_ (by decide) rfl (by kernel_rfl) (by kernel_rfl) rfl ?_ HS8.out ?_
                    rotate_left
                    · intro w9 hS9; obtain ⟨⟨q0, q1, q2, q3, q4, q5, q6⟩, -, -⟩ := hS9; go_simp; (first | done | with_reducible rfl)
                    dsimp only [List.set_cons_zero, List.set_cons_succ]
                    refine stepTU HOPS HREG 40 2199023255551 (by decide) rfl (by kernel_rfl) (by kernel_rfl) rfl HS8.out ?_
                    dsimp only [List.set_cons_zero, List.set_cons_succ]
                    refine stepTU HOPS HREG 41 4398046511103 (by decide) rfl (by kernel_rfl) (by kernel_rfl) rfl HS8.out ?_
                    dsimp only [List.set_cons_zero, List.set_cons_succ]
                    refine stepTU HOPS HREG 42 8796093022207 (by decide) rfl (by kernel_rfl) (by kernel_rfl) rfl HS8.out ?_
                    dsimp only [List.set_cons_zero, List.set_cons_succ]
                    refine stepTU HOPS HREG 43 17592186044415 (by decide) rfl (by kernel_rfl) (by kernel_rfl) rfl HS8.out ?_
                    dsimp only [List.set_cons_zero, List.set_cons_succ]
                    refine stepTU HOPS HREG 44 35184372088831 (by decide) rfl (by kernel_rfl) (by kernel_rfl) rfl HS8.out ?_
                    dsimp only [List.set_cons_zero, List.set_cons_succ]
                    refine stepTQ HOPS HREG 45 70368744177663 ?_ (by decide) rfl (by kernel_rfl) (by kernel_rfl) rfl ?_ HS8.out ?_
                    rotate_left
                    · intro w9 hS9; obtain ⟨⟨q0, q1, q2, q3, q4, q5, q6⟩, -, -⟩ := hS9; go_simp; (first | done | with_reducible rfl)
                    dsimp only [List.set_cons_zero, List.set_cons_succ]
                    refine stepTQ HOPS HREG 46 140737488355327 ?_ (by decide) rfl (by kernel_rfl) (by kernel_rfl) rfl ?_ HS8.out ?_
                    rotate_left
                    · intro w9 hS9; obtain ⟨⟨q0, q1, q2, q3, q4, q5, q6⟩, -, -⟩ := hS9; go_simp; (first | done | with_reducible rfl)
                    dsimp only [List.set_cons_zero, List.set_cons_succ]
                    refine stepTU HOPS HREG 47 281474976710655 (by decide) rfl (by kernel_rfl) (by kernel_rfl) rfl HS8.out ?_
                    dsimp only [List.set_cons_zero, List.set_cons_succ]
                    refine stepTU HOPS HREG 48 562949953421311 (by decide) rfl (by kernel_rfl) (by kernel_rfl) rfl HS8.out ?_
                    dsimp only [List.set_cons_zero, List.set_cons_succ]
                    refine stepTU HOPS HREG 49 1125899906842623 (by decide) rfl (by kernel_rfl) (by kernel_rfl) rfl HS8.out ?_
                    dsimp only [List.set_cons_zero, List.set_cons_succ]
                    refine stepTU HOPS HREG 50 2251799813685247 (by decide) rfl (by kernel_rfl) (by kernel_rfl) rfl HS8.out ?_
                    dsimp only [List.set_cons_zero, List.set_cons_succ]
                    refine stepTU HOPS HREG 51 4503599627370495 (by decide) rfl (by kernel_rfl) (by kernel_rfl) rfl HS8.out ?_
                    dsimp only [List.set_cons_zero, List.set_cons_succ]
                    refine stepTU HOPS HREG 52 9007199254740991 (by decide) rfl (by kernel_rfl) (by kernel_rfl) rfl HS8.out ?_
                    dsimp only [List.set_cons_zero, List.set_cons_succ]
                    refine stepTU HOPS HREG 53 18014398509481983 (by decide) rfl (by kernel_rfl) (by kernel_rfl) rfl HS8.out ?_
                    dsimp only [List.set_cons_zero, List.set_cons_succ]
                    refine stepTQ HOPS HREG 54 36028797018963967 ?_ (by decide) rfl (by kernel_rfl) (by kernel_rfl) rfl ?_ HS8.out ?_
                    rotate_left
                    · intro w9 hS9; obtain ⟨⟨q0, q1, q2, q3, q4, q5, q6⟩, -, -⟩ := hS9; go_simp; (first | done | with_reducible rfl)
                    dsimp only [List.set_cons_zero, List.set_cons_succ]
                    refine stepTQ HOPS HREG 55 72057594037927935 ?_ (by decide) rfl (by kernel_rfl) (by kernel_rfl) rfl ?_ HS8.out ?_
                    rotate_left
                    · intro w9 hS9; obtain ⟨⟨q0, q1, q2, q3, q4, q5, q6⟩, -, -⟩ := hS9; go_simp; (first | done | with_reducible rfl)
                    dsimp only [List.set_cons_zero, List.set_cons_succ]
                    refine stepTU HOPS HREG 56 144115188075855871 (by decide) rfl (by kernel_rfl) (by kernel_rfl) rfl HS8.out ?_
                    dsimp only [List.set_cons_zero, List.set_cons_succ]
                    refine stepTU HOPS HREG 57 288230376151711743 (by decide) rfl (by kernel_rfl) (by kernel_rfl) rfl HS8.out ?_
                    dsimp only [List.set_cons_zero, List.set_cons_succ]
                    refine stepTU HOPS HREG 58 576460752303423487 (by decide) rfl (by kernel_rfl) (by kernel_rfl) rfl HS8.out ?_
                    dsimp only [List.set_cons_zero, List.set_cons_succ]
                    refine stepTU HOPS HREG 59 1152921504606846975 (by decide) rfl (by kernel_rfl) (by kernel_rfl) rfl HS8.out ?_
                    dsimp only [List.set_cons_zero, List.set_cons_succ]
                    refine stepTQ HOPS HREG 60 2305843009213693951 ?_ (by decide) rfl (by kernel_rfl) (by kernel_rfl) rfl ?_ HS8.out ?_
                    rotate_left
                    · intro w9 hS9; obtain ⟨⟨q0, q1, q2, q3, q4, q5, q6⟩, -, -⟩ := hS9; go_simp; (first | done | with_reducible rfl)
                    dsimp only [List.set_cons_zero, List.set_cons_succ]
                    refine stepTQ HOPS HREG 61 4611686018427387903 ?_ (by decide) rfl (by kernel_rfl) (by kernel_rfl) rfl ?_ HS8.out ?_
                    rotate_left
                    · intro w9 hS9; obtain ⟨⟨q0, q1, q2, q3, q4, q5, q6⟩, -, -⟩ := hS9; go_simp; (first | done | with_reducible rfl)
                    dsimp only [List.set_cons_zero, List.set_cons_succ]
                    refine stepTU HOPS HREG 62 9223372036854775807 (by decide) rfl (by kernel_rfl) (by kernel_rfl) rfl HS8.out ?_
                    dsimp only [List.set_cons_zero, List.set_cons_succ]
                    refine stepTU HOPS HREG 63 18446744073709551615 (by decide) rfl (by kernel_rfl) (by kernel_rfl) rfl HS8.out ?_
                    dsimp only [List.set_cons_zero, List.set_cons_succ]
                    refine stepTU HOPS HREG 64 36893488147419103231 (by decide) rfl (by kernel_rfl) (by kernel_rfl) rfl HS8.out ?_
                    dsimp only [List.set_cons_zero, List.set_cons_succ]
                    refine stepTU HOPS HREG 65 73786976294838206463 (by decide) rfl (by kernel_rfl) (by kernel_rfl) rfl HS8.out ?_
                    dsimp only [List.set_cons_zero, List.set_cons_succ]
                    refine stepTU HOPS HREG 66 147573952589676412927 (by decide) rfl (by kernel_rfl) (by kernel_rfl) rfl HS8.out ?_
                    dsimp only [List.set_cons_zero, List.set_cons_succ]
                    refine stepTQ HOPS HREG 67 295147905179352825855 ?_ (by decide) rfl (by kernel_rfl) (by kernel_rfl) rfl ?_ HS8.out ?_
                    rotate_left
                    · intro w9 hS9; obtain ⟨⟨q0, q1, q2, q3, q4, q5, q6⟩, -, -⟩ := hS9; go_simp; (first | done | with_reducible rfl)
                    dsimp only [List.set_cons_zero, List.set_cons_succ]
                    refine stepE HOPS (by kernel_rfl) (HQ.out _ _ ?_)
                    clear HQ HREG HOPS
                    clear Q ops
                    go_wp2
                    go_ret
                    exact ⟨by rw [HZ.out]; rfl, HS8.out.2.1⟩
                  · have y7' := Lib.hid y7
                    refine stepC HOPS 36 137438953471 (by decide) rfl (by kernel_rfl) (by kernel_rfl) ?_
                    go_simp
                    with_reducible refine (refin_any A1 n1 c1 l1 (-1) 1099511627776 w.heap.size _ (HI.out.below HS8.out.bel (Nat.le_refl _)) hn1).mono ?_
                    rw [y7]
                    rintro e w9 ⟨rfl, rfl⟩
                    dsimp only
                    refine ⟨HS8.out, ?_⟩
                    try simp only [Act.put, List.setIfInBounds_toArray, List.set_cons_zero, List.set_cons_succ]
                    refine stepTQ HOPS HREG 37 274877906943 ?_ (by decide) rfl (by kernel_rfl) (by kernel_rfl) rfl ?_ HS8.out ?_
                    rotate_left
                    · intro w9 hS9; obtain ⟨⟨q0, q1, q2, q3, q4, q5, q6⟩, -, -⟩ := hS9; go_simp; (first | done | with_reducible rfl)
                    dsimp only [List.set_cons_zero, List.set_cons_succ]
                    refine stepTQ HOPS HREG 38 549755813887 ?_ (by decide) rfl (by kernel_rfl) (by kernel_rfl) rfl ?_ HS8.out ?_
                    rotate_left
                    · intro w9 hS9; obtain ⟨⟨q0, q1, q2, q3, q4, q5, q6⟩, -, -⟩ := hS9; go_simp; (first | done | with_reducible rfl)
                    dsimp only [List.set_cons_zero, List.set_cons_succ]
                    refine stepTQ HOPS HREG 39 1099511627775 ?_ (by decide) rfl (by kernel_rfl) (by kernel_rfl) rfl ?_ HS8.out ?_
                    rotate_left
                    · intro w9 hS9; obtain ⟨⟨q0, q1, q2, q3, q4, q5, q6⟩, -, -⟩ := hS9; go_simp; (first | done | with_reducible rfl)
                    dsimp only [List.set_cons_zero, List.set_cons_succ]
                    refine stepTQ HOPS HREG 40 2199023255551 ?_ (by decide) rfl (by kernel_rfl) (by kernel_rfl) rfl ?_ HS8.out ?_
                    rotate_left
                    · intro w9 hS9; obtain ⟨⟨q0, q1, q2, q3, q4, q5, q6⟩, -, -⟩ := hS9; go_simp; (first | done | with_reducible rfl)
                    dsimp only [List.set_cons_zero, List.set_cons_succ]
                    refine stepTQ HOPS HREG 41 4398046511103 ?_ (by decide) rfl (by kernel_rfl) (by kernel_rfl) rfl ?_ HS8.out ?_
                    rotate_left
                    · intro w9 hS9; obtain ⟨⟨q0, q1, q2, q3, q4, q5, q6⟩, -, -⟩ := hS9; go_simp; (first | done | with_reducible rfl)
                    dsimp only [List.set_cons_zero, List.set_cons_succ]
                    refine stepTQ HOPS HREG 42 8796093022207 ?_ (by decide) rfl (by kernel_rfl) (by kernel_rfl) rfl ?_ HS8.out ?_
                    rotate_left
                    · intro w9 hS9; obtain ⟨⟨q0, q1, q2, q3, q4, q5, q6⟩, -, -⟩ := hS9; go_simp; (first | done | with_reducible rfl)
                    dsimp only [List.set_cons_zero, List.set_cons_succ]
                    refine stepC HOPS 43 17592186044415 (by decide) rfl (by kernel_rfl) (by kernel_rfl) ?_
                    go_simp
                    with_reducible refine (reftexts_any k _ HK12.out).mono ?_
                    rintro e w311 ⟨rfl, hb5⟩
                    dsimp only
                    have HS11 := Lib.hid (HS8.out.step hb5)
                    clear hb5
                    refine ⟨HS11.out, ?_⟩
                    try simp only [Act.put, List.setIfInBounds_toArray, List.set_cons_zero, List.set_cons_succ]
                    rcases y8 : decide ((n2 : Int) < nT k) with _ | _
                    · have y8' := of_decide_eq_false y8
                      refine stepTQ HOPS HREG 44 35184372088831 ?_ (by decide) rfl (by kernel_rfl) (by kernel_rfl) rfl ?_ HS11.out ?_
                      rotate_left
                      · intro w9 hS9; obtain ⟨⟨q0, q1, q2, q3, q4, q5, q6⟩, -, -⟩ := hS9; go_simp; (first | done | with_reducible rfl)
                      dsimp only [List.set_cons_zero, List.set_cons_succ]
                      refine stepTQ HOPS HREG 45 70368744177663 ?_ (by decide) rfl (by kernel_rfl) (by kernel_rfl) rfl ?_ HS11.out ?_
                      rotate_left
                      · intro w9 hS9; obtain ⟨⟨q0, q1, q2, q3, q4, q5, q6⟩, -, -⟩ := hS9; go_simp; (first | done | with_reducible rfl)
                      dsimp only [List.set_cons_zero, List.set_cons_succ]
                      refine stepTQ HOPS HREG 46 140737488355327 ?_ (by decide) rfl (by kernel_rfl) (by kernel_rfl) rfl ?_ HS11.out ?_
                      rotate_left
                      · intro w9 hS9; obtain ⟨⟨q0, q1, q2, q3, q4, q5, q6⟩, -, -⟩ := hS9; go_simp; (first | done | with_reducible rfl)
                      dsimp only [List.set_cons_zero, List.set_cons_succ]
                      refine stepTQ HOPS HREG 47 281474976710655 ?_ (by decide) rfl (by kernel_rfl) (by kernel_rfl) rfl ?_ HS11.out ?_
                      rotate_left
                      · intro w9 hS9; obtain ⟨⟨q0, q1, q2, q3, q4, q5, q6⟩, -, -⟩ := hS9; go_simp; (first | done | with_reducible rfl)
                      dsimp only [List.set_cons_zero, List.set_cons_succ]
                      refine stepTQ HOPS HREG 48 562949953421311 ?_ (by decide) rfl (by kernel_rfl) (by kernel_rfl) rfl ?_ HS11.out ?_
                      rotate_left
                      · intro w9 hS9; obtain ⟨⟨q0, q1, q2, q3, q4, q5, q6⟩, -, -⟩ := hS9; go_simp; (first | done | with_reducible rfl)
                      dsimp only [List.set_cons_zero, List.set_cons_succ]
                      refine stepTQ HOPS HREG 49 1125899906842623 ?_ (by decide) rfl (by kernel_rfl) (by kernel_rfl) rfl ?_ HS11.out ?_
                      rotate_left
                      · intro w9 hS9; obtain ⟨⟨q0, q1, q2, q3, q4, q5, q6⟩, -, -⟩ := hS9; go_simp; (first | done | with_reducible rfl)
                      dsimp only [List.set_cons_zero, List.set_cons_succ]
                      refine stepTQ HOPS HREG 51 3377699720527871 ?_ (by decide) rfl (by kernel_rfl) (by kernel_rfl) rfl ?_ HS11.out ?_
                      rotate_left
                      · intro w9 hS9; obtain ⟨⟨q0, q1, q2, q3, q4, q5, q6⟩, -, -⟩ := hS9; go_simp; (first | done | with_reducible rfl)
                      dsimp only [List.set_cons_zero, List.set_cons_succ]
                      refine stepC HOPS 50 4503599627370495 (by decide) rfl (by kernel_rfl) (by kernel_rfl) ?_
                      go_simp
                      with_reducible refine (reftexts_any k _ HK12.out).mono ?_
                      rintro e w312 ⟨rfl, hb5⟩
                      dsimp only
                      have HS12 := Lib.hid (HS11.out.step hb5)
                      clear hb5
                      refine ⟨HS12.out, ?_⟩
                      try simp only [Act.put, List.setIfInBounds_toArray, List.set_cons_zero, List.set_cons_succ]
                      refine stepTQ HOPS HREG 52 9007199254740991 ?_ (by decide) rfl (by kernel_rfl) (by kernel_rfl) rfl ?_ HS12.out ?_
                      rotate_left
                      · intro w9 hS9; obtain ⟨⟨q0, q1, q2, q3, q4, q5, q6⟩, -, -⟩ := hS9; go_simp; (first | done | with_reducible rfl)
                      dsimp only [List.set_cons_zero, List.set_cons_succ]
                      rcases y9 : decide (nT k + mT k < (n2 : Int)) with _ | _
                      · have y9' := of_decide_eq_false y9
                        refine stepTQ HOPS HREG 53 18014398509481983 ?_ (by decide) rfl (by kernel_rfl) (by kernel_rfl) rfl ?_ HS12.out ?_
                        rotate_left
                        · intro w9 hS9; obtain ⟨⟨q0, q1, q2, q3, q4, q5, q6⟩, -, -⟩ := hS9; go_simp; (first | done | with_reducible rfl)
                        dsimp only [List.set_cons_zero, List.set_cons_succ]
                        refine stepTQ HOPS HREG 54 36028797018963967 ?_ (by decide) rfl (by kernel_rfl) (by kernel_rfl) rfl ?_ HS12.out ?_
                        rotate_left
                        · intro w9 hS9; obtain ⟨⟨q0, q1, q2, q3, q4, q5, q6⟩, -, -⟩ := hS9; go_simp; (first | done | with_reducible rfl)
                        dsimp only [List.set_cons_zero, List.set_cons_succ]
                        refine stepTQ HOPS HREG 55 72057594037927935 ?_ (by decide) rfl (by kernel_rfl) (by kernel_rfl) rfl ?_ HS12.out ?_
                        rotate_left
                        · intro w9 hS9; obtain ⟨⟨q0, q1, q2, q3, q4, q5, q6⟩, -, -⟩ := hS9; go_simp; (first | done | with_reducible rfl)
                        dsimp only [List.set_cons_zero, List.set_cons_succ]
                        refine stepTQ HOPS HREG 56 144115188075855871 ?_ (by decide) rfl (by kernel_rfl) (by kernel_rfl) rfl ?_ HS12.out ?_
                        rotate_left
                        · intro w9 hS9; obtain ⟨⟨q0, q1, q2, q3, q4, q5, q6⟩, -, -⟩ := hS9; go_simp; (first | done | with_reducible rfl)
                        dsimp only [List.set_cons_zero, List.set_cons_succ]
                        refine stepTQ HOPS HREG 57 288230376151711743 ?_ (by decide) rfl (by kernel_rfl) (by kernel_rfl) rfl ?_ HS12.out ?_
                        rotate_left
                        · intro w9 hS9; obtain ⟨⟨q0, q1, q2, q3, q4, q5, q6⟩, -, -⟩ := hS9; go_simp; (first | done | with_reducible rfl)
                        dsimp only [List.set_cons_zero, List.set_cons_succ]
                        rcases y10 : allShort 64 l2 with _ | _
                        · have HZ := Lib.hid (HBAD.out fun h => by rw [allShort_iff.2 h.2.2.2.2.2.2.1] at y10; cases y10)
                          refine stepC HOPS 58 576460752303423487 (by decide) rfl (by kernel_rfl) (by kernel_rfl) ?_
                          go_simp
                          with_reducible refine (refshort_any A2 n2 c2 l2 w.heap.size _ (HT.out.below HS12.out.bel (Nat.le_refl _)) hn2).mono ?_
                          rw [y10]
                          rintro e w9 ⟨rfl, rfl⟩
                          dsimp only
                          refine ⟨HS12.out, ?_⟩
                          try simp only [Act.put, List.setIfInBounds_toArray, List.set_cons_zero, List.set_cons_succ]
                          refine stepTQ HOPS HREG 59 1152921504606846975 ?_ (by decide) rfl (by kernel_rfl) (by kernel_rfl) rfl ?_ HS12.out ?_
                          rotate_left
                          · intro w9 hS9; obtain ⟨⟨q0, q1, q2, q3, q4, q5, q6⟩, -, -⟩ := hS9; go_simp; (first | done | with_reducible rfl)
                          dsimp only [List.set_cons_zero, List.set_cons_succ]
                          refine stepTQ HOPS HREG 60 2305843009213693951 ?_ (by decide) rfl (by kernel_rfl) (by kernel_rfl) rfl ?_ HS12.out ?_
                          rotate_left
                          · intro w9 hS9; obtain ⟨⟨q0, q1, q2, q3, q4, q5, q6⟩, -, -⟩ := hS9; go_simp; (first | done | with_reducible rfl)
                          dsimp only [List.set_cons_zero, List.set_cons_succ]
                          refine stepTQ HOPS HREG 61 4611686018427387903 ?_ (by decide) rfl (by kernel_rfl) (by kernel_rfl) rfl ?_ HS12.out ?_
                          rotate_left
                          · intro w9 hS9; obtain ⟨⟨q0, q1, q2, q3, q4, q5, q6⟩, -, -⟩ := hS9; go_simp; (first | done | with_reducible rfl)
                          dsimp only [List.set_cons_zero, List.set_cons_succ]
                          refine stepTU HOPS HREG 62 9223372036854775807 (by decide) rfl (by kernel_rfl) (by kernel_rfl) rfl HS12.out ?_
                          dsimp only [List.set_cons_zero, List.set_cons_succ]
                          refine stepTU HOPS HREG 63 18446744073709551615 (by decide) rfl (by kernel_rfl) (by kernel_rfl) rfl HS12.out ?_
                          dsimp only [List.set_cons_zero, List.set_cons_succ]
                          refine stepTU HOPS HREG 64 36893488147419103231 (by decide) rfl (by kernel_rfl) (by kernel_rfl) rfl HS12.out ?_
                          dsimp only [List.set_cons_zero, List.set_cons_succ]
                          refine stepTU HOPS HREG 65 73786976294838206463 (by decide) rfl (by kernel_rfl) (by kernel_rfl) rfl HS12.out ?_
                          dsimp only [List.set_cons_zero, List.set_cons_succ]
                          refine stepTU HOPS HREG 66 147573952589676412927 (by decide) rfl (by kernel_rfl) (by kernel_rfl) rfl HS12.out ?_
                          dsimp only [List.set_cons_zero, List.set_cons_succ]
                          refine stepTQ HOPS HREG 67 295147905179352825855 ?_ (by decide) rfl (by kernel_rfl) (by kernel_rfl) rfl ?_ HS12.out ?_
                          rotate_left
                          · intro w9 hS9; obtain ⟨⟨q0, q1, q2, q3, q4, q5, q6⟩, -, -⟩ := hS9; go_simp; (first | done | with_reducible rfl)
                          dsimp only [List.set_cons_zero, List.set_cons_succ]
                          refine stepE HOPS (by kernel_rfl) (HQ.out _ _ ?_)
                          clear HQ HREG HOPS
                          clear Q ops
                          go_wp2
                          go_ret
                          exact ⟨by rw [HZ.out]; rfl, HS12.out.2.1⟩
                        · have y10' := Lib.hid y10
                          refine stepC HOPS 58 576460752303423487 (by decide) rfl (by kernel_rfl) (by kernel_rfl) ?_
                          go_simp
                          with_reducible refine (refshort_any A2 n2 c2 l2 w.heap.size _ (HT.out.below HS12.out.bel (Nat.le_refl _)) hn2).mono ?_
                          rw [y10]
                          rintro e w9 ⟨rfl, rfl⟩
                          dsimp only
                          refine ⟨HS12.out, ?_⟩
                          try simp only [Act.put, List.setIfInBounds_toArray, List.set_cons_zero, List.set_cons_succ]
                          refine stepTQ HOPS HREG 59 1152921504606846975 ?_ (by decide) rfl (by kernel_rfl) (by kernel_rfl) rfl ?_ HS12.out ?_
                          rotate_left
                          · intro w9 hS9; obtain ⟨⟨q0, q1, q2, q3, q4, q5, q6⟩, -, -⟩ := hS9; go_simp; (first | done | with_reducible rfl)
                          dsimp only [List.set_cons_zero, List.set_cons_succ]
                          refine stepTQ HOPS HREG 60 2305843009213693951 ?_ (by decide) rfl (by kernel_rfl) (by kernel_rfl) rfl ?_ HS12.out ?_
                          rotate_left
                          · intro w9 hS9; obtain ⟨⟨q0, q1, q2, q3, q4, q5, q6⟩, -, -⟩ := hS9; go_simp; (first | done | with_reducible rfl)
                          dsimp only [List.set_cons_zero, List.set_cons_succ]
                          refine stepTQ HOPS HREG 61 4611686018427387903 ?_ (by decide) rfl (by kernel_rfl) (by kernel_rfl) rfl ?_ HS12.out ?_
                          rotate_left
                          · intro w9 hS9; obtain ⟨⟨q0, q1, q2, q3, q4, q5, q6⟩, -, -⟩ := hS9; go_simp; (first | done | with_reducible rfl)
                          dsimp only [List.set_cons_zero, List.set_cons_succ]
                          refine stepTQ HOPS HREG 62 9223372036854775807 ?_ (by decide) rfl (by kernel_rfl) (by kernel_rfl) rfl ?_ HS12.out ?_
                          rotate_left
                          · intro w9 hS9; obtain ⟨⟨q0, q1, q2, q3, q4, q5, q6⟩, -, -⟩ := hS9; go_simp; (first | done | with_reducible rfl)
                          dsimp only [List.set_cons_zero, List.set_cons_succ]
                          refine stepTQ HOPS HREG 63 18446744073709551615 ?_ (by decide) rfl (by kernel_rfl) (by kernel_rfl) rfl ?_ HS12.out ?_
                          rotate_left
                          · intro w9 hS9; obtain ⟨⟨q0, q1, q2, q3, q4, q5, q6⟩, -, -⟩ := hS9; go_simp; (first | done | with_reducible rfl)
                          dsimp only [List.set_cons_zero, List.set_cons_succ]
                          refine stepTQ HOPS HREG 64 36893488147419103231 ?_ (by decide) rfl (by kernel_rfl) (by kernel_rfl) rfl ?_ HS12.out ?_
                          rotate_left
                          · intro w9 hS9; obtain ⟨⟨q0, q1, q2, q3, q4, q5, q6⟩, -, -⟩ := hS9; go_simp; (first | done | with_reducible rfl)
                          dsimp only [List.set_cons_zero, List.set_cons_succ]
                          refine stepTQ HOPS HREG 65 73786976294838206463 ?_ (by decide) rfl (by kernel_rfl) (by kernel_rfl) rfl ?_ HS12.out ?_
                          rotate_left
                          · intro w9 hS9; obtain ⟨⟨q0, q1, q2, q3, q4, q5, q6⟩, -, -⟩ := hS9; go_simp; (first | done | with_reducible rfl)
                          dsimp only [List.set_cons_zero, List.set_cons_succ]
                          rcases y11 : decide (mB k < (n3 : Int)) with _ | _
                          · have y11' := of_decide_eq_false y11
                            have HZ := Lib.hid (show ckQ ⟨k, v, i, s, l1, l2, l3⟩ = 0 from ckQ_iff.2 ⟨HKN.out, ⟨by show 0 ≤ i ∧ i ≤ 1099511627776; omega, by show s.size ≤ 64; omega, HWH.out, by show ((l1.length : Nat) : Int) = nI k; rw [HL1.out]; exact y6'.out, allIn_iff.1 y7'.out, ⟨by show nT k ≤ ((l2.length : Nat) : Int); rw [HL2.out]; omega, by show ((l2.length : Nat) : Int) ≤ nT k + mT k; rw [HL2.out]; omega⟩, allShort_iff.1 y10'.out, by show ((l3.length : Nat) : Int) ≤ mB k; rw [HL3.out]; omega⟩⟩)
                            refine stepTQ HOPS HREG 66 147573952589676412927 ?_ (by decide) rfl (by kernel_rfl) (by kernel_rfl) rfl ?_ HS12.out ?_
                            rotate_left
                            · intro w9 hS9; obtain ⟨⟨q0, q1, q2, q3, q4, q5, q6⟩, -, -⟩ := hS9; go_simp; (first | done | with_reducible rfl)
                            dsimp only [List.set_cons_zero, List.set_cons_succ]
                            refine stepTQ HOPS HREG 67 295147905179352825855 ?_ (by decide) rfl (by kernel_rfl) (by kernel_rfl) rfl ?_ HS12.out ?_
                            rotate_left
                            · intro w9 hS9; obtain ⟨⟨q0, q1, q2, q3, q4, q5, q6⟩, -, -⟩ := hS9; go_simp; (first | done | with_reducible rfl)
                            dsimp only [List.set_cons_zero, List.set_cons_succ]
                            refine stepE HOPS (by kernel_rfl) (HQ.out _ _ ?_)
                            clear HQ HREG HOPS
                            clear Q ops
                            go_wp2
                            go_ret
                            exact ⟨by rw [HZ.out]; rfl, HS12.out.2.1⟩
                          · have y11' := of_decide_eq_true y11
                            have HZ := Lib.hid (HBAD.out fun h => by have h2 : ((l3.length : Nat) : Int) ≤ mB k := h.2.2.2.2.2.2.2; rw [HL3.out] at h2; omega)
                            refine stepTQ HOPS HREG 66 147573952589676412927 ?_ (by decide) rfl (by kernel_rfl) (by kernel_rfl) rfl ?_ HS12.out ?_
                            rotate_left
                            · intro w9 hS9; obtain ⟨⟨q0, q1, q2, q3, q4, q5, q6⟩, -, -⟩ := hS9; go_simp; (first | done | with_reducible rfl)
                            dsimp only [List.set_cons_zero, List.set_cons_succ]
                            refine stepTQ HOPS HREG 67 295147905179352825855 ?_ (by decide) rfl (by kernel_rfl) (by kernel_rfl) rfl ?_ HS12.out ?_
                            rotate_left
                            · intro w9 hS9; obtain ⟨⟨q0, q1, q2, q3, q4, q5, q6⟩, -, -⟩ := hS9; go_simp; (first | done | with_reducible rfl)
                            dsimp only [List.set_cons_zero, List.set_cons_succ]
                            refine stepE HOPS (by kernel_rfl) (HQ.out _ _ ?_)
                            clear HQ HREG HOPS
                            clear Q ops
                            go_wp2
                            go_ret
                            exact ⟨by rw [HZ.out]; rfl, HS12.out.2.1⟩
                      · have y9' := of_decide_eq_true y9
                        have HZ := Lib.hid (HBAD.out fun h => by have h2 : ((l2.length : Nat) : Int) ≤ nT k + mT k := h.2.2.2.2.2.1.2; rw [HL2.out] at h2; omega)
                        refine stepTQ HOPS HREG 53 18014398509481983 ?_ (by decide) rfl (by kernel_rfl) (by kernel_rfl) rfl ?_ HS12.out ?_
                        rotate_left
                        · intro w9 hS9; obtain ⟨⟨q0, q1, q2, q3, q4, q5, q6⟩, -, -⟩ := hS9; go_simp; (first | done | with_reducible rfl)
                        dsimp only [List.set_cons_zero, List.set_cons_succ]
                        refine stepTQ HOPS HREG 54 36028797018963967 ?_ (by decide) rfl (by kernel_rfl) (by kernel_rfl) rfl ?_ HS12.out ?_
                        rotate_left
                        · intro w9 hS9; obtain ⟨⟨q0, q1, q2, q3, q4, q5, q6⟩, -, -⟩ := hS9; go_simp; (first | done | with_reducible rfl)
                        dsimp only [List.set_cons_zero, List.set_cons_succ]
                        refine stepTQ HOPS HREG 55 72057594037927935 ?_ (by decide) rfl (by kernel_rfl) (by kernel_rfl) rfl ?_ HS12.out ?_
                        rotate_left
                        · intro w9 hS9; obtain ⟨⟨q0, q1, q2, q3, q4, q5, q6⟩, -, -⟩ := hS9; go_simp; (first | done | with_reducible rfl)
                        dsimp only [List.set_cons_zero, List.set_cons_succ]
                        refine stepTU HOPS HREG 56 144115188075855871 (by decide) rfl (by kernel_rfl) (by kernel_rfl) rfl HS12.out ?_
                        dsimp only [List.set_cons_zero, List.set_cons_succ]
                        refine stepTU HOPS HREG 57 288230376151711743 (by decide) rfl (by kernel_rfl) (by kernel_rfl) rfl HS12.out ?_
                        dsimp only [List.set_cons_zero, List.set_cons_succ]
                        refine stepTU HOPS HREG 58 576460752303423487 (by decide) rfl (by kernel_rfl) (by kernel_rfl) rfl HS12.out ?_
                        dsimp only [List.set_cons_zero, List.set_cons_succ]
                        refine stepTU HOPS HREG 59 1152921504606846975 (by decide) rfl (by kernel_rfl) (by kernel_rfl) rfl HS12.out ?_
                        dsimp only [List.set_cons_zero, List.set_cons_succ]
                        refine stepTQ HOPS HREG 60 2305843009213693951 ?_ (by decide) rfl (by kernel_rfl) (by kernel_rfl) rfl ?_ HS12.out ?_
                        rotate_left
                        · intro w9 hS9; obtain ⟨⟨q0, q1, q2, q3, q4, q5, q6⟩, -, -⟩ := hS9; go_simp; (first | done | with_reducible rfl)
                        dsimp only [List.set_cons_zero, List.set_cons_succ]
                        refine stepTQ HOPS HREG 61 4611686018427387903 ?_ (by decide) rfl (by kernel_rfl) (by kernel_rfl) rfl ?_ HS12.out ?_
                        rotate_left
                        · intro w9 hS9; obtain ⟨⟨q0, q1, q2, q3, q4, q5, q6⟩, -, -⟩ := hS9; go_simp; (first | done | with_reducible rfl)
                        dsimp only [List.set_cons_zero, List.set_cons_succ]
                        refine stepTU HOPS HREG 62 9223372036854775807 (by decide) rfl (by kernel_rfl) (by kernel_rfl) rfl HS12.out ?_
                        dsimp only [List.set_cons_zero, List.set_cons_succ]
                        refine stepTU HOPS HREG 63 18446744073709551615 (by decide) rfl (by kernel_rfl) (by kernel_rfl) rfl HS12.out ?_
                        dsimp only [List.set_cons_zero, List.set_cons_succ]
                        refine stepTU HOPS HREG 64 36893488147419103231 (by decide) rfl (by kernel_rfl) (by kernel_rfl) rfl HS12.out ?_
                        dsimp only [List.set_cons_zero, List.set_cons_succ]
                        refine stepTU HOPS HREG 65 73786976294838206463 (by decide) rfl (by kernel_rfl) (by kernel_rfl) rfl HS12.out ?_
                        dsimp only [List.set_cons_zero, List.set_cons_succ]
                        refine stepTU HOPS HREG 66 147573952589676412927 (by decide) rfl (by kernel_rfl) (by kernel_rfl) rfl HS12.out ?_
                        dsimp only [List.set_cons_zero, List.set_cons_succ]
                        refine stepTQ HOPS HREG 67 295147905179352825855 ?_ (by decide) rfl (by kernel_rfl) (by kernel_rfl) rfl ?_ HS12.out ?_
                        rotate_left
                        · intro w9 hS9; obtain ⟨⟨q0, q1, q2, q3, q4, q5, q6⟩, -, -⟩ := hS9; go_simp; (first | done | with_reducible rfl)
                        dsimp only [List.set_cons_zero, List.set_cons_succ]
                        refine stepE HOPS (by kernel_rfl) (HQ.out _ _ ?_)
                        clear HQ HREG HOPS
                        clear Q ops
                        go_wp2
                        go_ret
                        exact ⟨by rw [HZ.out]; rfl, HS12.out.2.1⟩
                    · have y8' := of_decide_eq_true y8
                      have HZ := Lib.hid (HBAD.out fun h => by have h2 : nT k ≤ ((l2.length : Nat) : Int) := h.2.2.2.2.2.1.1; rw [HL2.out] at h2; omega)
                      refine stepTQ HOPS HREG 44 35184372088831 ?_ (by decide) rfl (by kernel_rfl) (by kernel_rfl) rfl ?_ HS11.out ?_
                      rotate_left
                      · intro w9 hS9; obtain ⟨⟨q0, q1, q2, q3, q4, q5, q6⟩, -, -⟩ := hS9; go_simp; (first | done | with_reducible rfl)
                      dsimp only [List.set_cons_zero, List.set_cons_succ]
                      refine stepTQ HOPS HREG 45 70368744177663 ?_ (by decide) rfl (by kernel_rfl) (by kernel_rfl) rfl ?_ HS11.out ?_
                      rotate_left
                      · intro w9 hS9; obtain ⟨⟨q0, q1, q2, q3, q4, q5, q6⟩, -, -⟩ := hS9; go_simp; (first | done | with_reducible rfl)
                      dsimp only [List.set_cons_zero, List.set_cons_succ]
                      refine stepTQ HOPS HREG 46 140737488355327 ?_ (by decide) rfl (by kernel_rfl) (by kernel_rfl) rfl ?_ HS11.out ?_
                      rotate_left
                      · intro w9 hS9; obtain ⟨⟨q0, q1, q2, q3, q4, q5, q6⟩, -, -⟩ := hS9; go_simp; (first | done | with_reducible rfl)
                      dsimp only [List.set_cons_zero, List.set_cons_succ]
                      refine stepTU HOPS HREG 47 281474976710655 (by decide) rfl (by kernel_rfl) (by kernel_rfl) rfl HS11.out ?_
                      dsimp only [List.set_cons_zero, List.set_cons_succ]
                      refine stepTU HOPS HREG 48 562949953421311 (by decide) rfl (by kernel_rfl) (by kernel_rfl) rfl HS11.out ?_
                      dsimp only [List.set_cons_zero, List.set_cons_succ]
                      refine stepTU HOPS HREG 49 1125899906842623 (by decide) rfl (by kernel_rfl) (by kernel_rfl) rfl HS11.out ?_
                      dsimp only [List.set_cons_zero, List.set_cons_succ]
                      refine stepTU HOPS HREG 50 2251799813685247 (by decide) rfl (by kernel_rfl) (by kernel_rfl) rfl HS11.out ?_
                      dsimp only [List.set_cons_zero, List.set_cons_succ]
                      refine stepTU HOPS HREG 51 4503599627370495 (by decide) rfl (by kernel_rfl) (by kernel_rfl) rfl HS11.out ?_
                      dsimp only [List.set_cons_zero, List.set_cons_succ]
                      refine stepTU HOPS HREG 52 9007199254740991 (by decide) rfl (by kernel_rfl) (by kernel_rfl) rfl HS11.out ?_
                      dsimp only [List.set_cons_zero, List.set_cons_succ]
                      refine stepTU HOPS HREG 53 18014398509481983 (by decide) rfl (by kernel_rfl) (by kernel_rfl) rfl HS11.out ?_
                      dsimp only [List.set_cons_zero, List.set_cons_succ]
                      refine stepTQ HOPS HREG 54 36028797018963967 ?_ (by decide) rfl (by kernel_rfl) (by kernel_rfl) rfl ?_ HS11.out ?_
                      rotate_left
                      · intro w9 hS9; obtain ⟨⟨q0, q1, q2, q3, q4, q5, q6⟩, -, -⟩ := hS9; go_simp; (first | done | with_reducible rfl)
                      dsimp only [List.set_cons_zero, List.set_cons_succ]
                      refine stepTQ HOPS HREG 55 72057594037927935 ?_ (by decide) rfl (by kernel_rfl) (by kernel_rfl) rfl ?_ HS11.out ?_
                      rotate_left
                      · intro w9 hS9; obtain ⟨⟨q0, q1, q2, q3, q4, q5, q6⟩, -, -⟩ := hS9; go_simp; (first | done | with_reducible rfl)
                      dsimp only [List.set_cons_zero, List.set_cons_succ]
                      refine stepTU HOPS HREG 56 144115188075855871 (by decide) rfl (by kernel_rfl) (by kernel_rfl) rfl HS11.out ?_
                      dsimp only [List.set_cons_zero, List.set_cons_succ]
                      refine stepTU HOPS HREG 57 288230376151711743 (by decide) rfl (by kernel_rfl) (by kernel_rfl) rfl HS11.out ?_
                      dsimp only [List.set_cons_zero, List.set_cons_succ]
                      refine stepTU HOPS HREG 58 576460752303423487 (by decide) rfl (by kernel_rfl) (by kernel_rfl) rfl HS11.out ?_
                      dsimp only [List.set_cons_zero, List.set_cons_succ]
                      refine stepTU HOPS HREG 59 1152921504606846975 (by decide) rfl (by kernel_rfl) (by kernel_rfl) rfl HS11.out ?_
                      dsimp only [List.set_cons_zero, List.set_cons_succ]
                      refine stepTQ HOPS HREG 60 2305843009213693951 ?_ (by decide) rfl (by kernel_rfl) (by kernel_rfl) rfl ?_ HS11.out ?_
                      rotate_left
                      · intro w9 hS9; obtain ⟨⟨q0, q1, q2, q3, q4, q5, q6⟩, -, -⟩ := hS9; go_simp; (first | done | with_reducible rfl)
                      dsimp only [List.set_cons_zero, List.set_cons_succ]
                      refine stepTQ HOPS HREG 61 4611686018427387903 ?_ (by decide) rfl (by kernel_rfl) (by kernel_rfl) rfl ?_ HS11.out ?_
                      rotate_left
                      · intro w9 hS9; obtain ⟨⟨q0, q1, q2, q3, q4, q5, q6⟩, -, -⟩ := hS9; go_simp; (first | done | with_reducible rfl)
                      dsimp only [List.set_cons_zero, List.set_cons_succ]
                      refine stepTU HOPS HREG 62 9223372036854775807 (by decide) rfl (by kernel_rfl) (by kernel_rfl) rfl HS11.out ?_
                      dsimp only [List.set_cons_zero, List.set_cons_succ]
                      refine stepTU HOPS HREG 63 18446744073709551615 (by decide) rfl (by kernel_rfl) (by kernel_rfl) rfl HS11.out ?_
                      dsimp only [List.set_cons_zero, List.set_cons_succ]
                      refine stepTU HOPS HREG 64 36893488147419103231 (by decide) rfl (by kernel_rfl) (by kernel_rfl) rfl HS11.out ?_
                      dsimp only [List.set_cons_zero, List.set_cons_succ]
                      refine stepTU HOPS HREG 65 73786976294838206463 (by decide) rfl (by kernel_rfl) (by kernel_rfl) rfl HS11.out ?_
                      dsimp only [List.set_cons_zero, List.set_cons_succ]
                      refine stepTU HOPS HREG 66 147573952589676412927 (by decide) rfl (by kernel_rfl) (by kernel_rfl) rfl HS11.out ?_
                      dsimp only [List.set_cons_zero, List.set_cons_succ]
                      refine stepTQ HOPS HREG 67 295147905179352825855 ?_ (by decide) rfl (by kernel_rfl) (by kernel_rfl) rfl ?_ HS11.out ?_
                      rotate_left
                      · intro w9 hS9; obtain ⟨⟨q0, q1, q2, q3, q4, q5, q6⟩, -, -⟩ := hS9; go_simp; (first | done | with_reducible rfl)
                      dsimp only [List.set_cons_zero, List.set_cons_succ]
                      refine stepE HOPS (by kernel_rfl) (HQ.out _ _ ?_)
                      clear HQ HREG HOPS
                      clear Q ops
                      go_wp2
                      go_ret
                      exact ⟨by rw [HZ.out]; rfl, HS11.out.2.1⟩
                · have HZ := Lib.hid (HBAD.out fun h => by have h2 : ((l1.length : Nat) : Int) = nI k := h.2.2.2.1; rw [HL1.out] at h2; rw [h2] at y6; simp at y6)
                  refine stepTQ HOPS HREG 31 4294967295 ?_ (by decide) rfl (by kernel_rfl) (by kernel_rfl) rfl ?_ HS8.out ?_
                  rotate_left
                  · intro w9 hS9; obtain ⟨⟨q0, q1, q2, q3, q4, q5, q6⟩, -, -⟩ := hS9; go_simp; (first | done | with_reducible rfl)
                  dsimp only [List.set_cons_zero, List.set_cons_succ]
                  refine stepTQ HOPS HREG 32 8589934591 ?_ (by decide) rfl (by kernel_rfl) (by kernel_rfl) rfl ?_ HS8.out ?_
                  rotate_left
                  · intro w9 hS9; obtain ⟨⟨q0, q1, q2, q3, q4, q5, q6⟩, -, -⟩ := hS9; go_simp; (first | done | with_reducible rfl)
                  dsimp only [List.set_cons_zero, List.set_cons_succ]
                  refine stepTQ HOPS HREG 33 17179869183 ?_ (by decide) rfl (by kernel_rfl) (by kernel_rfl) rfl ?_ HS8.out ?_
                  rotate_left
                  · intro w9 hS9; obtain ⟨⟨q0, q1, q2, q3, q4, q5, q6⟩, -, -⟩ := hS9; go_simp; (first | done | with_reducible rfl)
                  dsimp only [List.set_cons_zero, List.set_cons_succ]
                  refine stepTU HOPS HREG 34 34359738367 (by decide) rfl (by kernel_rfl) (by kernel_rfl) rfl HS8.out ?_
                  dsimp only [List.set_cons_zero, List.set_cons_succ]
                  refine stepTU HOPS HREG 35 68719476735 (by decide) rfl (by kernel_rfl) (by kernel_rfl) rfl HS8.out ?_
                  dsimp only [List.set_cons_zero, List.set_cons_succ]
                  refine stepTU HOPS HREG 36 137438953471 (by decide) rfl (by kernel_rfl) (by kernel_rfl) rfl HS8.out ?_
                  dsimp only [List.set_cons_zero, List.set_cons_succ]
                  refine stepTU HOPS HREG 37 274877906943 (by decide) rfl (by kernel_rfl) (by kernel_rfl) rfl HS8.out ?_
                  dsimp only [List.set_cons_zero, List.set_cons_succ]
                  refine stepTQ HOPS HREG 38 549755813887 ?_ (by decide) rfl (by kernel_rfl) (by kernel_rfl) rfl ?_ HS8.out ?_
                  rotate_left
                  · intro w9 hS9; obtain ⟨⟨q0, q1, q2, q3, q4, q5, q6⟩, -, -⟩ := hS9; go_simp; (first | done | with_reducible rfl)
                  dsimp only [List.set_cons_zero, List.set_cons_succ]
                  refine stepTQ HOPS HREG 39 1099511627775 ?_ (by decide) rfl (by kernel_rfl) (by kernel_rfl) rfl ?_ HS8.out ?_
                  rotate_left
                  · intro w9 hS9; obtain ⟨⟨q0, q1, q2, q3, q4, q5, q6⟩, -, -⟩ := hS9; go_simp; (first | done | with_reducible rfl)
                  dsimp only [List.set_cons_zero, List.set_cons_succ]
                  refine stepTU HOPS HREG 40 2199023255551 (by decide) rfl (by kernel_rfl) (by kernel_rfl) rfl HS8.out ?_
                  dsimp only [List.set_cons_zero, List.set_cons_succ]
                  refine stepTU HOPS HREG 41 4398046511103 (by decide) rfl (by kernel_rfl) (by kernel_rfl) rfl HS8.out ?_
                  dsimp only [List.set_cons_zero, List.set_cons_succ]
                  refine stepTU HOPS HREG 42 8796093022207 (by decide) rfl (by kernel_rfl) (by kernel_rfl) rfl HS8.out ?_
                  dsimp only [List.set_cons_zero, List.set_cons_succ]
                  refine stepTU HOPS HREG 43 17592186044415 (by decide) rfl (by kernel_rfl) (by kernel_rfl) rfl HS8.out ?_
                  dsimp only [List.set_cons_zero, List.set_cons_succ]
                  refine stepTU HOPS HREG 44 35184372088831 (by decide) rfl (by kernel_rfl) (by kernel_rfl) rfl HS8.out ?_
                  dsimp only [List.set_cons_zero, List.set_cons_succ]
                  refine stepTQ HOPS HREG 45 70368744177663 ?_ (by decide) rfl (by kernel_rfl) (by kernel_rfl) rfl ?_ HS8.out ?_
                  rotate_left
                  · intro w9 hS9; obtain ⟨⟨q0, q1, q2, q3, q4, q5, q6⟩, -, -⟩ := hS9; go_simp; (first | done | with_reducible rfl)
                  dsimp only [List.set_cons_zero, List.set_cons_succ]
                  refine stepTQ HOPS HREG 46 140737488355327 ?_ (by decide) rfl (by kernel_rfl) (by kernel_rfl) rfl ?_ HS8.out ?_
                  rotate_left
                  · intro w9 hS9; obtain ⟨⟨q0, q1, q2, q3, q4, q5, q6⟩, -, -⟩ := hS9; go_simp; (first | done | with_reducible rfl)
                  dsimp only [List.set_cons_zero, List.set_cons_succ]
                  refine stepTU HOPS HREG 47 281474976710655 (by decide) rfl (by kernel_rfl) (by kernel_rfl) rfl HS8.out ?_
                  dsimp only [List.set_cons_zero, List.set_cons_succ]
                  refine stepTU HOPS HREG 48 562949953421311 (by decide) rfl (by kernel_rfl) (by kernel_rfl) rfl HS8.out ?_
                  dsimp only [List.set_cons_zero, List.set_cons_succ]
                  refine stepTU HOPS HREG 49 1125899906842623 (by decide) rfl (by kernel_rfl) (by kernel_rfl) rfl HS8.out ?_
                  dsimp only [List.set_cons_zero, List.set_cons_succ]
                  refine stepTU HOPS HREG 50 2251799813685247 (by decide) rfl (by kernel_rfl) (by kernel_rfl) rfl HS8.out ?_
                  dsimp only [List.set_cons_zero, List.set_cons_succ]
                  refine stepTU HOPS HREG 51 4503599627370495 (by decide) rfl (by kernel_rfl) (by kernel_rfl) rfl HS8.out ?_
                  dsimp only [List.set_cons_zero, List.set_cons_succ]
                  refine stepTU HOPS HREG 52 9007199254740991 (by decide) rfl (by kernel_rfl) (by kernel_rfl) rfl HS8.out ?_
                  dsimp only [List.set_cons_zero, List.set_cons_succ]
                  refine stepTU HOPS HREG 53 18014398509481983 (by decide) rfl (by kernel_rfl) (by kernel_rfl) rfl HS8.out ?_
                  dsimp only [List.set_cons_zero, List.set_cons_succ]
                  refine stepTQ HOPS HREG 54 36028797018963967 ?_ (by decide) rfl (by kernel_rfl) (by kernel_rfl) rfl ?_ HS8.out ?_
                  rotate_left
                  · intro w9 hS9; obtain ⟨⟨q0, q1, q2, q3, q4, q5, q6⟩, -, -⟩ := hS9; go_simp; (first | done | with_reducible rfl)
                  dsimp only [List.set_cons_zero, List.set_cons_succ]
                  refine stepTQ HOPS HREG 55 72057594037927935 ?_ (by decide) rfl (by kernel_rfl) (by kernel_rfl) rfl ?_ HS8.out ?_
                  rotate_left
                  · intro w9 hS9; obtain ⟨⟨q0, q1, q2, q3, q4, q5, q6⟩, -, -⟩ := hS9; go_simp; (first | done | with_reducible rfl)
                  dsimp only [List.set_cons_zero, List.set_cons_succ]
                  refine stepTU HOPS HREG 56 144115188075855871 (by decide) rfl (by kernel_rfl) (by kernel_rfl) rfl HS8.out ?_
                  dsimp only [List.set_cons_zero, List.set_cons_succ]
                  refine stepTU HOPS HREG 57 288230376151711743 (by decide) rfl (by kernel_rfl) (by kernel_rfl) rfl HS8.out ?_
                  dsimp only [List.set_cons_zero, List.set_cons_succ]
                  refine stepTU HOPS HREG 58 576460752303423487 (by decide) rfl (by kernel_rfl) (by kernel_rfl) rfl HS8.out ?_
                  dsimp only [List.set_cons_zero, List.set_cons_succ]
                  refine stepTU HOPS HREG 59 1152921504606846975 (by decide) rfl (by kernel_rfl) (by kernel_rfl) rfl HS8.out ?_
                  dsimp only [List.set_cons_zero, List.set_cons_succ]
                  refine stepTQ HOPS HREG 60 2305843009213693951 ?_ (by decide) rfl (by kernel_rfl) (by kernel_rfl) rfl ?_ HS8.out ?_
                  rotate_left
                  · intro w9 hS9; obtain ⟨⟨q0, q1, q2, q3, q4, q5, q6⟩, -, -⟩ := hS9; go_simp; (first | done | with_reducible rfl)
                  dsimp only [List.set_cons_zero, List.set_cons_succ]
                  refine stepTQ HOPS HREG 61 4611686018427387903 ?_ (by decide) rfl (by kernel_rfl) (by kernel_rfl) rfl ?_ HS8.out ?_
                  rotate_left
                  · intro w9 hS9; obtain ⟨⟨q0, q1, q2, q3, q4, q5, q6⟩, -, -⟩ := hS9; go_simp; (first | done | with_reducible rfl)
                  dsimp only [List.set_cons_zero, List.set_cons_succ]
                  refine stepTU HOPS HREG 62 9223372036854775807 (by decide) rfl (by kernel_rfl) (by kernel_rfl) rfl HS8.out ?_
                  dsimp only [List.set_cons_zero, List.set_cons_succ]
                  refine stepTU HOPS HREG 63 18446744073709551615 (by decide) rfl (by kernel_rfl) (by kernel_rfl) rfl HS8.out ?_
                  dsimp only [List.set_cons_zero, List.set_cons_succ]
                  refine stepTU HOPS HREG 64 36893488147419103231 (by decide) rfl (by kernel_rfl) (by kernel_rfl) rfl HS8.out ?_
                  dsimp only [List.set_cons_zero, List.set_cons_succ]
                  refine stepTU HOPS HREG 65 73786976294838206463 (by decide) rfl (by kernel_rfl) (by kernel_rfl) rfl HS8.out ?_
                  dsimp only [List.set_cons_zero, List.set_cons_succ]
                  refine stepTU HOPS HREG 66 147573952589676412927 (by decide) rfl (by kernel_rfl) (by kernel_rfl) rfl HS8.out ?_
                  dsimp only [List.set_cons_zero, List.set_cons_succ]
                  refine stepTQ HOPS HREG 67 295147905179352825855 ?_ (by decide) rfl (by kernel_rfl) (by kernel_rfl) rfl ?_ HS8.out ?_
                  rotate_left
                  · intro w9 hS9; obtain ⟨⟨q0, q1, q2, q3, q4, q5, q6⟩, -, -⟩ := hS9; go_simp; (first | done | with_reducible rfl)
                  dsimp only [List.set_cons_zero, List.set_cons_succ]
                  refine stepE HOPS (by kernel_rfl) (HQ.out _ _ ?_)
                  clear HQ HREG HOPS
                  clear Q ops
                  go_wp2
                  go_ret
                  exact ⟨by rw [HZ.out]; rfl, HS8.out.2.1⟩
          · have y3' := of_decide_eq_true y3
            have HZ := Lib.hid (HBAD.out fun h => by have h2 : s.size ≤ 64 := h.2.1; omega)
            refine stepTQ HOPS HREG 12 8191 ?_ (by decide) rfl (by kernel_rfl) (by kernel_rfl) rfl ?_ HS0.out ?_
            rotate_left
            · intro w9 hS9; obtain ⟨⟨q0, q1, q2, q3, q4, q5, q6⟩, -, -⟩ := hS9; go_simp; (first | done | with_reducible rfl)
            dsimp only [List.set_cons_zero, List.set_cons_succ]
            refine stepTQ HOPS HREG 13 16383 ?_ (by decide) rfl (by kernel_rfl) (by kernel_rfl) rfl ?_ HS0.out ?_
            rotate_left
            · intro w9 hS9; obtain ⟨⟨q0, q1, q2, q3, q4, q5, q6⟩, -, -⟩ := hS9; go_simp; (first | done | with_reducible rfl)
            dsimp only [List.set_cons_zero, List.set_cons_succ]
            refine stepTQ HOPS HREG 14 32767 ?_ (by decide) rfl (by kernel_rfl) (by kernel_rfl) rfl ?_ HS0.out ?_
            rotate_left
            · intro w9 hS9; obtain ⟨⟨q0, q1, q2, q3, q4, q5, q6⟩, -, -⟩ := hS9; go_simp; (first | done | with_reducible rfl)
            dsimp only [List.set_cons_zero, List.set_cons_succ]
            refine stepTU HOPS HREG 15 65535 (by decide) rfl (by kernel_rfl) (by kernel_rfl) rfl HS0.out ?_
            dsimp only [List.set_cons_zero, List.set_cons_succ]
            refine stepTU HOPS HREG 16 131071 (by decide) rfl (by kernel_rfl) (by kernel_rfl) rfl HS0.out ?_
            dsimp only [List.set_cons_zero, List.set_cons_succ]
            refine stepTU HOPS HREG 17 262143 (by decide) rfl (by kernel_rfl) (by kernel_rfl) rfl HS0.out ?_
            dsimp only [List.set_cons_zero, List.set_cons_succ]
            refine stepTU HOPS HREG 18 524287 (by decide) rfl (by kernel_rfl) (by kernel_rfl) rfl HS0.out ?_
            dsimp only [List.set_cons_zero, List.set_cons_succ]
            refine stepTU HOPS HREG 19 1048575 (by decide) rfl (by kernel_rfl) (by kernel_rfl) rfl HS0.out ?_
            dsimp only [List.set_cons_zero, List.set_cons_succ]
            refine stepTU HOPS HREG 20 2097151 (by decide) rfl (by kernel_rfl) (by kernel_rfl) rfl HS0.out ?_
            dsimp only [List.set_cons_zero, List.set_cons_succ]
            refine stepTU HOPS HREG 21 4194303 (by decide) rfl (by kernel_rfl) (by kernel_rfl) rfl HS0.out ?_
            dsimp only [List.set_cons_zero, List.set_cons_succ]
            refine stepTU HOPS HREG 22 8388607 (by decide) rfl (by kernel_rfl) (by kernel_rfl) rfl HS0.out ?_
            dsimp only [List.set_cons_zero, List.set_cons_succ]
            refine stepTQ HOPS HREG 23 16777215 ?_ (by decide) rfl (by kernel_rfl) (by kernel_rfl) rfl ?_ HS0.out ?_
            rotate_left
            · intro w9 hS9; obtain ⟨⟨q0, q1, q2, q3, q4, q5, q6⟩, -, -⟩ := hS9; go_simp; (first | done | with_reducible rfl)
            dsimp only [List.set_cons_zero, List.set_cons_succ]
            refine stepTQ HOPS HREG 24 33554431 ?_ (by decide) rfl (by kernel_rfl) (by kernel_rfl) rfl ?_ HS0.out ?_
            rotate_left
            · intro w9 hS9; obtain ⟨⟨q0, q1, q2, q3, q4, q5, q6⟩, -, -⟩ := hS9; go_simp; (first | done | with_reducible rfl)
            dsimp only [List.set_cons_zero, List.set_cons_succ]
            refine stepTU HOPS HREG 25 67108863 (by decide) rfl (by kernel_rfl) (by kernel_rfl) rfl HS0.out ?_
            dsimp only [List.set_cons_zero, List.set_cons_succ]
            refine stepTU HOPS HREG 26 134217727 (by decide) rfl (by kernel_rfl) (by kernel_rfl) rfl HS0.out ?_
            dsimp only [List.set_cons_zero, List.set_cons_succ]
            refine stepTU HOPS HREG 27 268435455 (by decide) rfl (by kernel_rfl) (by kernel_rfl) rfl HS0.out ?_
            dsimp only [List.set_cons_zero, List.set_cons_succ]
            refine stepTU HOPS HREG 28 536870911 (by decide) rfl (by kernel_rfl) (by kernel_rfl) rfl HS0.out ?_
            dsimp only [List.set_cons_zero, List.set_cons_succ]
            refine stepTU HOPS HREG 29 1073741823 (by decide) rfl (by kernel_rfl) (by kernel_rfl) rfl HS0.out ?_
            dsimp only [List.set_cons_zero, List.set_cons_succ]
            refine stepTU HOPS HREG 30 2147483647 (by decide) rfl (by kernel_rfl) (by kernel_rfl) rfl HS0.out ?_
            dsimp only [List.set_cons_zero, List.set_cons_succ]
            refine stepTU HOPS HREG 31 4294967295 (by decide) rfl (by kernel_rfl) (by kernel_rfl) rfl HS0.out ?_
            dsimp only [List.set_cons_zero, List.set_cons_succ]
            refine stepTQ HOPS HREG 32 8589934591 ?_ (by decide) rfl (by kernel_rfl) (by kernel_rfl) rfl ?_ HS0.out ?_
            rotate_left
            · intro w9 hS9; obtain ⟨⟨q0, q1, q2, q3, q4, q5, q6⟩, -, -⟩ := hS9; go_simp; (first | done | with_reducible rfl)
            dsimp only [List.set_cons_zero, List.set_cons_succ]
            refine stepTQ HOPS HREG 33 17179869183 ?_ (by decide) rfl (by kernel_rfl) (by kernel_rfl) rfl ?_ HS0.out ?_
            rotate_left
            · intro w9 hS9; obtain ⟨⟨q0, q1, q2, q3, q4, q5, q6⟩, -, -⟩ := hS9; go_simp; (first | done | with_reducible rfl)
            dsimp only [List.set_cons_zero, List.set_cons_succ]
            refine stepTU HOPS HREG 34 34359738367 (by decide) rfl (by kernel_rfl) (by kernel_rfl) rfl HS0.out ?_
            dsimp only [List.set_cons_zero, List.set_cons_succ]
            refine stepTU HOPS HREG 35 68719476735 (by decide) rfl (by kernel_rfl) (by kernel_rfl) rfl HS0.out ?_
            dsimp only [List.set_cons_zero, List.set_cons_succ]
            refine stepTU HOPS HREG 36 137438953471 (by decide) rfl (by kernel_rfl) (by kernel_rfl) rfl HS0.out ?_
            dsimp only [List.set_cons_zero, List.set_cons_succ]
            refine stepTU HOPS HREG 37 274877906943 (by decide) rfl (by kernel_rfl) (by kernel_rfl) rfl HS0.out ?_
            dsimp only [List.set_cons_zero, List.set_cons_succ]
            refine stepTQ HOPS HREG 38 549755813887 ?_ (by decide) rfl (by kernel_rfl) (by kernel_rfl) rfl ?_ HS0.out ?_
            rotate_left
            · intro w9 hS9; obtain ⟨⟨q0, q1, q2, q3, q4, q5, q6⟩, -, -⟩ := hS9; go_simp; (first | done | with_reducible rfl)
            dsimp only [List.set_cons_zero, List.set_cons_succ]
            refine stepTQ HOPS HREG 39 1099511627775 ?_ (by decide) rfl (by kernel_rfl) (by kernel_rfl) rfl ?_ HS0.out ?_
            rotate_left
            · intro w9 hS9; obtain ⟨⟨q0, q1, q2, q3, q4, q5, q6⟩, -, -⟩ := hS9; go_simp; (first | done | with_reducible rfl)
            dsimp only [List.set_cons_zero, List.set_cons_succ]
            refine stepTU HOPS HREG 40 2199023255551 (by decide) rfl (by kernel_rfl) (by kernel_rfl) rfl HS0.out ?_
            dsimp only [List.set_cons_zero, List.set_cons_succ]
            refine stepTU HOPS HREG 41 4398046511103 (by decide) rfl (by kernel_rfl) (by kernel_rfl) rfl HS0.out ?_
            dsimp only [List.set_cons_zero, List.set_cons_succ]
            refine stepTU HOPS HREG 42 8796093022207 (by decide) rfl (by kernel_rfl) (by kernel_rfl) rfl HS0.out ?_
            dsimp only [List.set_cons_zero, List.set_cons_succ]
            refine stepTU HOPS HREG 43 17592186044415 (by decide) rfl (by kernel_rfl) (by kernel_rfl) rfl HS0.out ?_
            dsimp only [List.set_cons_zero, List.set_cons_succ]
            refine stepTU HOPS HREG 44 35184372088831 (by decide) rfl (by kernel_rfl) (by kernel_rfl) rfl HS0.out ?_
            dsimp only [List.set_cons_zero, List.set_cons_succ]
            refine stepTQ HOPS HREG 45 70368744177663 ?_ (by decide) rfl (by kernel_rfl) (by kernel_rfl) rfl ?_ HS0.out ?_
            rotate_left
            · intro w9 hS9; obtain ⟨⟨q0, q1, q2, q3, q4, q5, q6⟩, -, -⟩ := hS9; go_simp; (first | done | with_reducible rfl)
            dsimp only [List.set_cons_zero, List.set_cons_succ]
            refine stepTQ HOPS HREG 46 140737488355327 ?_ (by decide) rfl (by kernel_rfl) (by kernel_rfl) rfl ?_ HS0.out ?_
            rotate_left
            · intro w9 hS9; obtain ⟨⟨q0, q1, q2, q3, q4, q5, q6⟩, -, -⟩ := hS9; go_simp; (first | done | with_reducible rfl)
            dsimp only [List.set_cons_zero, List.set_cons_succ]
            refine stepTU HOPS HREG 47 281474976710655 (by decide) rfl (by kernel_rfl) (by kernel_rfl) rfl HS0.out ?_
            dsimp only [List.set_cons_zero, List.set_cons_succ]
            refine stepTU HOPS HREG 48 562949953421311 (by decide) rfl (by kernel_rfl) (by kernel_rfl) rfl HS0.out ?_
            dsimp only [List.set_cons_zero, List.set_cons_succ]
            refine stepTU HOPS HREG 49 1125899906842623 (by decide) rfl (by kernel_rfl) (by kernel_rfl) rfl HS0.out ?_
            dsimp only [List.set_cons_zero, List.set_cons_succ]
            refine stepTU HOPS HREG 50 2251799813685247 (by decide) rfl (by kernel_rfl) (by kernel_rfl) rfl HS0.out ?_
            dsimp only [List.set_cons_zero, List.set_cons_succ]
            refine stepTU HOPS HREG 51 4503599627370495 (by decide) rfl (by kernel_rfl) (by kernel_rfl) rfl HS0.out ?_
            dsimp only [List.set_cons_zero, List.set_cons_succ]
            refine stepTU HOPS HREG 52 9007199254740991 (by decide) rfl (by kernel_rfl) (by kernel_rfl) rfl HS0.out ?_
            dsimp only [List.set_cons_zero, List.set_cons_succ]
            refine stepTU HOPS HREG 53 18014398509481983 (by decide) rfl (by kernel_rfl) (by kernel_rfl) rfl HS0.out ?_
            dsimp only [List.set_cons_zero, List.set_cons_succ]
            refine stepTQ HOPS HREG 54 36028797018963967 ?_ (by decide) rfl (by kernel_rfl) (by kernel_rfl) rfl ?_ HS0.out ?_
            rotate_left
            · intro w9 hS9; obtain ⟨⟨q0, q1, q2, q3, q4, q5, q6⟩, -, -⟩ := hS9; go_simp; (first | done | with_reducible rfl)
            dsimp only [List.set_cons_zero, List.set_cons_succ]
            refine stepTQ HOPS HREG 55 72057594037927935 ?_ (by decide) rfl (by kernel_rfl) (by kernel_rfl) rfl ?_ HS0.out ?_
            rotate_left
            · intro w9 hS9; obtain ⟨⟨q0, q1, q2, q3, q4, q5, q6⟩, -, -⟩ := hS9; go_simp; (first | done | with_reducible rfl)
            dsimp only [List.set_cons_zero, List.set_cons_succ]
            refine stepTU HOPS HREG 56 144115188075855871 (by decide) rfl (by kernel_rfl) (by kernel_rfl) rfl HS0.out ?_
            dsimp only [List.set_cons_zero, List.set_cons_succ]
            refine stepTU HOPS HREG 57 288230376151711743 (by decide) rfl (by kernel_rfl) (by kernel_rfl) rfl HS0.out ?_
            dsimp only [List.set_cons_zero, List.set_cons_succ]
            refine stepTU HOPS HREG 58 576460752303423487 (by decide) rfl (by kernel_rfl) (by kernel_rfl) rfl HS0.out ?_
            dsimp only [List.set_cons_zero, List.set_cons_succ]
            refine stepTU HOPS HREG 59 1152921504606846975 (by decide) rfl (by kernel_rfl) (by kernel_rfl) rfl HS0.out ?_
            dsimp only [List.set_cons_zero, List.set_cons_succ]
            refine stepTQ HOPS HREG 60 2305843009213693951 ?_ (by decide) rfl (by kernel_rfl) (by kernel_rfl) rfl ?_ HS0.out ?_
            rotate_left
            · intro w9 hS9; obtain ⟨⟨q0, q1, q2, q3, q4, q5, q6⟩, -, -⟩ := hS9; go_simp; (first | done | with_reducible rfl)
            dsimp only [List.set_cons_zero, List.set_cons_succ]
            refine stepTQ HOPS HREG 61 4611686018427387903 ?_ (by decide) rfl (by kernel_rfl) (by kernel_rfl) rfl ?_ HS0.out ?_
            rotate_left
            · intro w9 hS9; obtain ⟨⟨q0, q1, q2, q3, q4, q5, q6⟩, -, -⟩ := hS9; go_simp; (first | done | with_reducible rfl)
            dsimp only [List.set_cons_zero, List.set_cons_succ]
            refine stepTU HOPS HREG 62 9223372036854775807 (by decide) rfl (by kernel_rfl) (by kernel_rfl) rfl HS0.out ?_
            dsimp only [List.set_cons_zero, List.set_cons_succ]
            refine stepTU HOPS HREG 63 18446744073709551615 (by decide) rfl (by kernel_rfl) (by kernel_rfl) rfl HS0.out ?_
            dsimp only [List.set_cons_zero, List.set_cons_succ]
            refine stepTU HOPS HREG 64 36893488147419103231 (by decide) rfl (by kernel_rfl) (by kernel_rfl) rfl HS0.out ?_
            dsimp only [List.set_cons_zero, List.set_cons_succ]
            refine stepTU HOPS HREG 65 73786976294838206463 (by decide) rfl (by kernel_rfl) (by kernel_rfl) rfl HS0.out ?_
            dsimp only [List.set_cons_zero, List.set_cons_succ]
            refine stepTU HOPS HREG 66 147573952589676412927 (by decide) rfl (by kernel_rfl) (by kernel_rfl) rfl HS0.out ?_
            dsimp only [List.set_cons_zero, List.set_cons_succ]
            refine stepTQ HOPS HREG 67 295147905179352825855 ?_ (by decide) rfl (by kernel_rfl) (by kernel_rfl) rfl ?_ HS0.out ?_
            rotate_left
            · intro w9 hS9; obtain ⟨⟨q0, q1, q2, q3, q4, q5, q6⟩, -, -⟩ := hS9; go_simp; (first | done | with_reducible rfl)
            dsimp only [List.set_cons_zero, List.set_cons_succ]
            refine stepE HOPS (by kernel_rfl) (HQ.out _ _ ?_)
            clear HQ HREG HOPS
            clear Q ops
            go_wp2
            go_ret
            exact ⟨by rw [HZ.out]; rfl, HS0.out.2.1⟩
        · have y2' := of_decide_eq_true y2
          have HZ := Lib.hid (HBAD.out fun h => by have h2 : 0 ≤ i ∧ i ≤ 1099511627776 := h.1; omega)
          refine stepTQ HOPS HREG 6 127 ?_ (by decide) rfl (by kernel_rfl) (by kernel_rfl) rfl ?_ HS0.out ?_
          rotate_left
          · intro w9 hS9; obtain ⟨⟨q0, q1, q2, q3, q4, q5, q6⟩, -, -⟩ := hS9; go_simp; (first | done | with_reducible rfl)
          dsimp only [List.set_cons_zero, List.set_cons_succ]
          refine stepTQ HOPS HREG 7 255 ?_ (by decide) rfl (by kernel_rfl) (by kernel_rfl) rfl ?_ HS0.out ?_
          rotate_left
          · intro w9 hS9; obtain ⟨⟨q0, q1, q2, q3, q4, q5, q6⟩, -, -⟩ := hS9; go_simp; (first | done | with_reducible rfl)
          dsimp only [List.set_cons_zero, List.set_cons_succ]
          refine stepTQ HOPS HREG 8 511 ?_ (by decide) rfl (by kernel_rfl) (by kernel_rfl) rfl ?_ HS0.out ?_
          rotate_left
          · intro w9 hS9; obtain ⟨⟨q0, q1, q2, q3, q4, q5, q6⟩, -, -⟩ := hS9; go_simp; (first | done | with_reducible rfl)
          dsimp only [List.set_cons_zero, List.set_cons_succ]
          refine stepTU HOPS HREG 9 1023 (by decide) rfl (by kernel_rfl) (by kernel_rfl) rfl HS0.out ?_
          dsimp only [List.set_cons_zero, List.set_cons_succ]
          refine stepTU HOPS HREG 10 2047 (by decide) rfl (by kernel_rfl) (by kernel_rfl) rfl HS0.out ?_
          dsimp only [List.set_cons_zero, List.set_cons_succ]
          refine stepTU HOPS HREG 11 4095 (by decide) rfl (by kernel_rfl) (by kernel_rfl) rfl HS0.out ?_
          dsimp only [List.set_cons_zero, List.set_cons_succ]
          refine stepTU HOPS HREG 12 8191 (by decide) rfl (by kernel_rfl) (by kernel_rfl) rfl HS0.out ?_
          dsimp only [List.set_cons_zero, List.set_cons_succ]
          refine stepTQ HOPS HREG 13 16383 ?_ (by decide) rfl (by kernel_rfl) (by kernel_rfl) rfl ?_ HS0.out ?_
          rotate_left
          · intro w9 hS9; obtain ⟨⟨q0, q1, q2, q3, q4, q5, q6⟩, -, -⟩ := hS9; go_simp; (first | done | with_reducible rfl)
          dsimp only [List.set_cons_zero, List.set_cons_succ]
          refine stepTQ HOPS HREG 14 32767 ?_ (by decide) rfl (by kernel_rfl) (by kernel_rfl) rfl ?_ HS0.out ?_
          rotate_left
          · intro w9 hS9; obtain ⟨⟨q0, q1, q2, q3, q4, q5, q6⟩, -, -⟩ := hS9; go_simp; (first | done | with_reducible rfl)
          dsimp only [List.set_cons_zero, List.set_cons_succ]
          refine stepTU HOPS HREG 15 65535 (by decide) rfl (by kernel_rfl) (by kernel_rfl) rfl HS0.out ?_
          dsimp only [List.set_cons_zero, List.set_cons_succ]
          refine stepTU HOPS HREG 16 131071 (by decide) rfl (by kernel_rfl) (by kernel_rfl) rfl HS0.out ?_
          dsimp only [List.set_cons_zero, List.set_cons_succ]
          refine stepTU HOPS HREG 17 262143 (by decide) rfl (by kernel_rfl) (by kernel_rfl) rfl HS0.out ?_
          dsimp only [List.set_cons_zero, List.set_cons_succ]
          refine stepTU HOPS HREG 18 524287 (by decide) rfl (by kernel_rfl) (by kernel_rfl) rfl HS0.out ?_
          dsimp only [List.set_cons_zero, List.set_cons_succ]
          refine stepTU HOPS HREG 19 1048575 (by decide) rfl (by kernel_rfl) (by kernel_rfl) rfl HS0.out ?_
          dsimp only [List.set_cons_zero, List.set_cons_succ]
          refine stepTU HOPS HREG 20 2097151 (by decide) rfl (by kernel_rfl) (by kernel_rfl) rfl HS0.out ?_
          dsimp only [List.set_cons_zero, List.set_cons_succ]
          refine stepTU HOPS HREG 21 4194303 (by decide) rfl (by kernel_rfl) (by kernel_rfl) rfl HS0.out ?_
          dsimp only [List.set_cons_zero, List.set_cons_succ]
          refine stepTU HOPS HREG 22 8388607 (by decide) rfl (by kernel_rfl) (by kernel_rfl) rfl HS0.out ?_
          dsimp only [List.set_cons_zero, List.set_cons_succ]
          refine stepTQ HOPS HREG 23 16777215 ?_ (by decide) rfl (by kernel_rfl) (by kernel_rfl) rfl ?_ HS0.out ?_
          rotate_left
          · intro w9 hS9; obtain ⟨⟨q0, q1, q2, q3, q4, q5, q6⟩, -, -⟩ := hS9; go_simp; (first | done | with_reducible rfl)
          dsimp only [List.set_cons_zero, List.set_cons_succ]
          refine stepTQ HOPS HREG 24 33554431 ?_ (by decide) rfl (by kernel_rfl) (by kernel_rfl) rfl ?_ HS0.out ?_
          rotate_left
          · intro w9 hS9; obtain ⟨⟨q0, q1, q2, q3, q4, q5, q6⟩, -, -⟩ := hS9; go_simp; (first | done | with_reducible rfl)
          dsimp only [List.set_cons_zero, List.set_cons_succ]
          refine stepTU HOPS HREG 25 67108863 (by decide) rfl (by kernel_rfl) (by kernel_rfl) rfl HS0.out ?_
          dsimp only [List.set_cons_zero, List.set_cons_succ]
          refine stepTU HOPS HREG 26 134217727 (by decide) rfl (by kernel_rfl) (by kernel_rfl) rfl HS0.out ?_
          dsimp only [List.set_cons_zero, List.set_cons_succ]
          refine stepTU HOPS HREG 27 268435455 (by decide) rfl (by kernel_rfl) (by kernel_rfl) rfl HS0.out ?_
          dsimp only [List.set_cons_zero, List.set_cons_succ]
          refine stepTU HOPS HREG 28 536870911 (by decide) rfl (by kernel_rfl) (by kernel_rfl) rfl HS0.out ?_
          dsimp only [List.set_cons_zero, List.set_cons_succ]
          refine stepTU HOPS HREG 29 1073741823 (by decide) rfl (by kernel_rfl) (by kernel_rfl) rfl HS0.out ?_
          dsimp only [List.set_cons_zero, List.set_cons_succ]
          refine stepTU HOPS HREG 30 2147483647 (by decide) rfl (by kernel_rfl) (by kernel_rfl) rfl HS0.out ?_
          dsimp only [List.set_cons_zero, List.set_cons_succ]
          refine stepTU HOPS HREG 31 4294967295 (by decide) rfl (by kernel_rfl) (by kernel_rfl) rfl HS0.out ?_
          dsimp only [List.set_cons_zero, List.set_cons_succ]
          refine stepTQ HOPS HREG 32 8589934591 ?_ (by decide) rfl (by kernel_rfl) (by kernel_rfl) rfl ?_ HS0.out ?_
          rotate_left
          · intro w9 hS9; obtain ⟨⟨q0, q1, q2, q3, q4, q5, q6⟩, -, -⟩ := hS9; go_simp; (first | done | with_reducible rfl)
          dsimp only [List.set_cons_zero, List.set_cons_succ]
          refine stepTQ HOPS HREG 33 17179869183 ?_ (by decide) rfl (by kernel_rfl) (by kernel_rfl) rfl ?_ HS0.out ?_
          rotate_left
          · intro w9 hS9; obtain ⟨⟨q0, q1, q2, q3, q4, q5, q6⟩, -, -⟩ := hS9; go_simp; (first | done | with_reducible rfl)
          dsimp only [List.set_cons_zero, List.set_cons_succ]
          refine stepTU HOPS HREG 34 34359738367 (by decide) rfl (by kernel_rfl) (by kernel_rfl) rfl HS0.out ?_
          dsimp only [List.set_cons_zero, List.set_cons_succ]
          refine stepTU HOPS HREG 35 68719476735 (by decide) rfl (by kernel_rfl) (by kernel_rfl) rfl HS0.out ?_
          dsimp only [List.set_cons_zero, List.set_cons_succ]
          refine stepTU HOPS HREG 36 137438953471 (by decide) rfl (by kernel_rfl) (by kernel_rfl) rfl HS0.out ?_
          dsimp only [List.set_cons_zero, List.set_cons_succ]
          refine stepTU HOPS HREG 37 274877906943 (by decide) rfl (by kernel_rfl) (by kernel_rfl) rfl HS0.out ?_
          dsimp only [List.set_cons_zero, List.set_cons_succ]
          refine stepTQ HOPS HREG 38 549755813887 ?_ (by decide) rfl (by kernel_rfl) (by kernel_rfl) rfl ?_ HS0.out ?_
          rotate_left
          · intro w9 hS9; obtain ⟨⟨q0, q1, q2, q3, q4, q5, q6⟩, -, -⟩ := hS9; go_simp; (first | done | with_reducible rfl)
          dsimp only [List.set_cons_zero, List.set_cons_succ]
          refine stepTQ HOPS HREG 39 1099511627775 ?_ (by decide) rfl (by kernel_rfl) (by kernel_rfl) rfl ?_ HS0.out ?_
          rotate_left
          · intro w9 hS9; obtain ⟨⟨q0, q1, q2, q3, q4, q5, q6⟩, -, -⟩ := hS9; go_simp; (first | done | with_reducible rfl)
          dsimp only [List.set_cons_zero, List.set_cons_succ]
          refine stepTU HOPS HREG 40 2199023255551 (by decide) rfl (by kernel_rfl) (by kernel_rfl) rfl HS0.out ?_
          dsimp only [List.set_cons_zero, List.set_cons_succ]
          refine stepTU HOPS HREG 41 4398046511103 (by decide) rfl (by kernel_rfl) (by kernel_rfl) rfl HS0.out ?_
          dsimp only [List.set_cons_zero, List.set_cons_succ]
          refine stepTU HOPS HREG 42 8796093022207 (by decide) rfl (by kernel_rfl) (by kernel_rfl) rfl HS0.out ?_
          dsimp only [List.set_cons_zero, List.set_cons_succ]
          refine stepTU HOPS HREG 43 17592186044415 (by decide) rfl (by kernel_rfl) (by kernel_rfl) rfl HS0.out ?_
          dsimp only [List.set_cons_zero, List.set_cons_succ]
          refine stepTU HOPS HREG 44 35184372088831 (by decide) rfl (by kernel_rfl) (by kernel_rfl) rfl HS0.out ?_
          dsimp only [List.set_cons_zero, List.set_cons_succ]
          refine stepTQ HOPS HREG 45 70368744177663 ?_ (by decide) rfl (by kernel_rfl) (by kernel_rfl) rfl ?_ HS0.out ?_
          rotate_left
          · intro w9 hS9; obtain ⟨⟨q0, q1, q2, q3, q4, q5, q6⟩, -, -⟩ := hS9; go_simp; (first | done | with_reducible rfl)
          dsimp only [List.set_cons_zero, List.set_cons_succ]
          refine stepTQ HOPS HREG 46 140737488355327 ?_ (by decide) rfl (by kernel_rfl) (by kernel_rfl) rfl ?_ HS0.out ?_
          rotate_left
          · intro w9 hS9; obtain ⟨⟨q0, q1, q2, q3, q4, q5, q6⟩, -, -⟩ := hS9; go_simp; (first | done | with_reducible rfl)
          dsimp only [List.set_cons_zero, List.set_cons_succ]
          refine stepTU HOPS HREG 47 281474976710655 (by decide) rfl (by kernel_rfl) (by kernel_rfl) rfl HS0.out ?_
          dsimp only [List.set_cons_zero, List.set_cons_succ]
          refine stepTU HOPS HREG 48 562949953421311 (by decide) rfl (by kernel_rfl) (by kernel_rfl) rfl HS0.out ?_
          dsimp only [List.set_cons_zero, List.set_cons_succ]
          refine stepTU HOPS HREG 49 1125899906842623 (by decide) rfl (by kernel_rfl) (by kernel_rfl) rfl HS0.out ?_
          dsimp only [List.set_cons_zero, List.set_cons_succ]
          refine stepTU HOPS HREG 50 2251799813685247 (by decide) rfl (by kernel_rfl) (by kernel_rfl) rfl HS0.out ?_
          dsimp only [List.set_cons_zero, List.set_cons_succ]
          refine stepTU HOPS HREG 51 4503599627370495 (by decide) rfl (by kernel_rfl) (by kernel_rfl) rfl HS0.out ?_
          dsimp only [List.set_cons_zero, List.set_cons_succ]
          refine stepTU HOPS HREG 52 9007199254740991 (by decide) rfl (by kernel_rfl) (by kernel_rfl) rfl HS0.out ?_
          dsimp only [List.set_cons_zero, List.set_cons_succ]
          refine stepTU HOPS HREG 53 18014398509481983 (by decide) rfl (by kernel_rfl) (by kernel_rfl) rfl HS0.out ?_
          dsimp only [List.set_cons_zero, List.set_cons_succ]
          refine stepTQ HOPS HREG 54 36028797018963967 ?_ (by decide) rfl (by kernel_rfl) (by kernel_rfl) rfl ?_ HS0.out ?_
          rotate_left
          · intro w9 hS9; obtain ⟨⟨q0, q1, q2, q3, q4, q5, q6⟩, -, -⟩ := hS9; go_simp; (first | done | with_reducible rfl)
          dsimp only [List.set_cons_zero, List.set_cons_succ]
          refine stepTQ HOPS HREG 55 72057594037927935 ?_ (by decide) rfl (by kernel_rfl) (by kernel_rfl) rfl ?_ HS0.out ?_
          rotate_left
          · intro w9 hS9; obtain ⟨⟨q0, q1, q2, q3, q4, q5, q6⟩, -, -⟩ := hS9; go_simp; (first | done | with_reducible rfl)
          dsimp only [List.set_cons_zero, List.set_cons_succ]
          refine stepTU HOPS HREG 56 144115188075855871 (by decide) rfl (by kernel_rfl) (by kernel_rfl) rfl HS0.out ?_
          dsimp only [List.set_cons_zero, List.set_cons_succ]
          refine stepTU HOPS HREG 57 288230376151711743 (by decide) rfl (by kernel_rfl) (by kernel_rfl) rfl HS0.out ?_
          dsimp only [List.set_cons_zero, List.set_cons_succ]
          refine stepTU HOPS HREG 58 576460752303423487 (by decide) rfl (by kernel_rfl) (by kernel_rfl) rfl HS0.out ?_
          dsimp only [List.set_cons_zero, List.set_cons_succ]
          refine stepTU HOPS HREG 59 1152921504606846975 (by decide) rfl (by kernel_rfl) (by kernel_rfl) rfl HS0.out ?_
          dsimp only [List.set_cons_zero, List.set_cons_succ]
          refine stepTQ HOPS HREG 60 2305843009213693951 ?_ (by decide) rfl (by kernel_rfl) (by kernel_rfl) rfl ?_ HS0.out ?_
          rotate_left
          · intro w9 hS9; obtain ⟨⟨q0, q1, q2, q3, q4, q5, q6⟩, -, -⟩ := hS9; go_simp; (first | done | with_reducible rfl)
          dsimp only [List.set_cons_zero, List.set_cons_succ]
          refine stepTQ HOPS HREG 61 4611686018427387903 ?_ (by decide) rfl (by kernel_rfl) (by kernel_rfl) rfl ?_ HS0.out ?_
          rotate_left
          · intro w9 hS9; obtain ⟨⟨q0, q1, q2, q3, q4, q5, q6⟩, -, -⟩ := hS9; go_simp; (first | done | with_reducible rfl)
          dsimp only [List.set_cons_zero, List.set_cons_succ]
          refine stepTU HOPS HREG 62 9223372036854775807 (by decide) rfl (by kernel_rfl) (by kernel_rfl) rfl HS0.out ?_
          dsimp only [List.set_cons_zero, List.set_cons_succ]
          refine stepTU HOPS HREG 63 18446744073709551615 (by decide) rfl (by kernel_rfl) (by kernel_rfl) rfl HS0.out ?_
          dsimp only [List.set_cons_zero, List.set_cons_succ]
          refine stepTU HOPS HREG 64 36893488147419103231 (by decide) rfl (by kernel_rfl) (by kernel_rfl) rfl HS0.out ?_
          dsimp only [List.set_cons_zero, List.set_cons_succ]
          refine stepTU HOPS HREG 65 73786976294838206463 (by decide) rfl (by kernel_rfl) (by kernel_rfl) rfl HS0.out ?_
          dsimp only [List.set_cons_zero, List.set_cons_succ]
          refine stepTU HOPS HREG 66 147573952589676412927 (by decide) rfl (by kernel_rfl) (by kernel_rfl) rfl HS0.out ?_
          dsimp only [List.set_cons_zero, List.set_cons_succ]
          refine stepTQ HOPS HREG 67 295147905179352825855 ?_ (by decide) rfl (by kernel_rfl) (by kernel_rfl) rfl ?_ HS0.out ?_
          rotate_left
          · intro w9 hS9; obtain ⟨⟨q0, q1, q2, q3, q4, q5, q6⟩, -, -⟩ := hS9; go_simp; (first | done | with_reducible rfl)
          dsimp only [List.set_cons_zero, List.set_cons_succ]
          refine stepE HOPS (by kernel_rfl) (HQ.out _ _ ?_)
          clear HQ HREG HOPS
          clear Q ops
          go_wp2
          go_ret
          exact ⟨by rw [HZ.out]; rfl, HS0.out.2.1⟩
      · have y1' := of_decide_eq_true y1
        have HZ := Lib.hid (HBAD.out fun h => by have h2 : 0 ≤ i ∧ i ≤ 1099511627776 := h.1; omega)
        refine stepTQ HOPS HREG 2 7 ?_ (by decide) rfl (by kernel_rfl) (by kernel_rfl) rfl ?_ HS0.out ?_
        rotate_left
        · intro w9 hS9; obtain ⟨⟨q0, q1, q2, q3, q4, q5, q6⟩, -, -⟩ := hS9; go_simp; (first | done | with_reducible rfl)
        dsimp only [List.set_cons_zero, List.set_cons_succ]
        refine stepTQ HOPS HREG 3 15 ?_ (by decide) rfl (by kernel_rfl) (by kernel_rfl) rfl ?_ HS0.out ?_
        rotate_left
        · intro w9 hS9; obtain ⟨⟨q0, q1, q2, q3, q4, q5, q6⟩, -, -⟩ := hS9; go_simp; (first | done | with_reducible rfl)
        dsimp only [List.set_cons_zero, List.set_cons_succ]
        refine stepTU HOPS HREG 4 31 (by decide) rfl (by kernel_rfl) (by kernel_rfl) rfl HS0.out ?_
        dsimp only [List.set_cons_zero, List.set_cons_succ]
        refine stepTU HOPS HREG 5 63 (by decide) rfl (by kernel_rfl) (by kernel_rfl) rfl HS0.out ?_
        dsimp only [List.set_cons_zero, List.set_cons_succ]
        refine stepTU HOPS HREG 6 127 (by decide) rfl (by kernel_rfl) (by kernel_rfl) rfl HS0.out ?_
        dsimp only [List.set_cons_zero, List.set_cons_succ]
        refine stepTQ HOPS HREG 7 255 ?_ (by decide) rfl (by kernel_rfl) (by kernel_rfl) rfl ?_ HS0.out ?_
        rotate_left
        · intro w9 hS9; obtain ⟨⟨q0, q1, q2, q3, q4, q5, q6⟩, -, -⟩ := hS9; go_simp; (first | done | with_reducible rfl)
        dsimp only [List.set_cons_zero, List.set_cons_succ]
        refine stepTQ HOPS HREG 8 511 ?_ (by decide) rfl (by kernel_rfl) (by kernel_rfl) rfl ?_ HS0.out ?_
        rotate_left
        · intro w9 hS9; obtain ⟨⟨q0, q1, q2, q3, q4, q5, q6⟩, -, -⟩ := hS9; go_simp; (first | done | with_reducible rfl)
        dsimp only [List.set_cons_zero, List.set_cons_succ]
        refine stepTU HOPS HREG 9 1023 (by decide) rfl (by kernel_rfl) (by kernel_rfl) rfl HS0.out ?_
        dsimp only [List.set_cons_zero, List.set_cons_succ]
        refine stepTU HOPS HREG 10 2047 (by decide) rfl (by kernel_rfl) (by kernel_rfl) rfl HS0.out ?_
        dsimp only [List.set_cons_zero, List.set_cons_succ]
        refine stepTU HOPS HREG 11 4095 (by decide) rfl (by kernel_rfl) (by kernel_rfl) rfl HS0.out ?_
        dsimp only [List.set_cons_zero, List.set_cons_succ]
        refine stepTU HOPS HREG 12 8191 (by decide) rfl (by kernel_rfl) (by kernel_rfl) rfl HS0.out ?_
        dsimp only [List.set_cons_zero, List.set_cons_succ]
        refine stepTQ HOPS HREG 13 16383 ?_ (by decide) rfl (by kernel_rfl) (by kernel_rfl) rfl ?_ HS0.out ?_
        rotate_left
        · intro w9 hS9; obtain ⟨⟨q0, q1, q2, q3, q4, q5, q6⟩, -, -⟩ := hS9; go_simp; (first | done | with_reducible rfl)
        dsimp only [List.set_cons_zero, List.set_cons_succ]
        refine stepTQ HOPS HREG 14 32767 ?_ (by decide) rfl (by kernel_rfl) (by kernel_rfl) rfl ?_ HS0.out ?_
        rotate_left
        · intro w9 hS9; obtain ⟨⟨q0, q1, q2, q3, q4, q5, q6⟩, -, -⟩ := hS9; go_simp; (first | done | with_reducible rfl)
        dsimp only [List.set_cons_zero, List.set_cons_succ]
        refine stepTU HOPS HREG 15 65535 (by decide) rfl (by kernel_rfl) (by kernel_rfl) rfl HS0.out ?_
        dsimp only [List.set_cons_zero, List.set_cons_succ]
        refine stepTU HOPS HREG 16 131071 (by decide) rfl (by kernel_rfl) (by kernel_rfl) rfl HS0.out ?_
        dsimp only [List.set_cons_zero, List.set_cons_succ]
        refine stepTU HOPS HREG 17 262143 (by decide) rfl (by kernel_rfl) (by kernel_rfl) rfl HS0.out ?_
        dsimp only [List.set_cons_zero, List.set_cons_succ]
        refine stepTU HOPS HREG 18 524287 (by decide) rfl (by kernel_rfl) (by kernel_rfl) rfl HS0.out ?_
        dsimp only [List.set_cons_zero, List.set_cons_succ]
        refine stepTU HOPS HREG 19 1048575 (by decide) rfl (by kernel_rfl) (by kernel_rfl) rfl HS0.out ?_
        dsimp only [List.set_cons_zero, List.set_cons_succ]
        refine stepTU HOPS HREG 20 2097151 (by decide) rfl (by kernel_rfl) (by kernel_rfl) rfl HS0.out ?_
        dsimp only [List.set_cons_zero, List.set_cons_succ]
        refine stepTU HOPS HREG 21 4194303 (by decide) rfl (by kernel_rfl) (by kernel_rfl) rfl HS0.out ?_
        dsimp only [List.set_cons_zero, List.set_cons_succ]
        refine stepTU HOPS HREG 22 8388607 (by decide) rfl (by kernel_rfl) (by kernel_rfl) rfl HS0.out ?_
        dsimp only [List.set_cons_zero, List.set_cons_succ]
        refine stepTQ HOPS HREG 23 16777215 ?_ (by decide) rfl (by kernel_rfl) (by kernel_rfl) rfl ?_ HS0.out ?_
        rotate_left
        · intro w9 hS9; obtain ⟨⟨q0, q1, q2, q3, q4, q5, q6⟩, -, -⟩ := hS9; go_simp; (first | done | with_reducible rfl)
        dsimp only [List.set_cons_zero, List.set_cons_succ]
        refine stepTQ HOPS HREG 24 33554431 ?_ (by decide) rfl (by kernel_rfl) (by kernel_rfl) rfl ?_ HS0.out ?_
        rotate_left
        · intro w9 hS9; obtain ⟨⟨q0, q1, q2, q3, q4, q5, q6⟩, -, -⟩ := hS9; go_simp; (first | done | with_reducible rfl)
        dsimp only [List.set_cons_zero, List.set_cons_succ]
        refine stepTU HOPS HREG 25 67108863 (by decide) rfl (by kernel_rfl) (by kernel_rfl) rfl HS0.out ?_
        dsimp only [List.set_cons_zero, List.set_cons_succ]
        refine stepTU HOPS HREG 26 134217727 (by decide) rfl (by kernel_rfl) (by kernel_rfl) rfl HS0.out ?_
        dsimp only [List.set_cons_zero, List.set_cons_succ]
        refine stepTU HOPS HREG 27 268435455 (by decide) rfl (by kernel_rfl) (by kernel_rfl) rfl HS0.out ?_
        dsimp only [List.set_cons_zero, List.set_cons_succ]
        refine stepTU HOPS HREG 28 536870911 (by decide) rfl (by kernel_rfl) (by kernel_rfl) rfl HS0.out ?_
        dsimp only [List.set_cons_zero, List.set_cons_succ]
        refine stepTU HOPS HREG 29 1073741823 (by decide) rfl (by kernel_rfl) (by kernel_rfl) rfl HS0.out ?_
        dsimp only [List.set_cons_zero, List.set_cons_succ]
        refine stepTU HOPS HREG 30 2147483647 (by decide) rfl (by kernel_rfl) (by kernel_rfl) rfl HS0.out ?_
        dsimp only [List.set_cons_zero, List.set_cons_succ]
        refine stepTU HOPS HREG 31 4294967295 (by decide) rfl (by kernel_rfl) (by kernel_rfl) rfl HS0.out ?_
        dsimp only [List.set_cons_zero, List.set_cons_succ]
        refine stepTQ HOPS HREG 32 8589934591 ?_ (by decide) rfl (by kernel_rfl) (by kernel_rfl) rfl ?_ HS0.out ?_
        rotate_left
        · intro w9 hS9; obtain ⟨⟨q0, q1, q2, q3, q4, q5, q6⟩, -, -⟩ := hS9; go_simp; (first | done | with_reducible rfl)
        dsimp only [List.set_cons_zero, List.set_cons_succ]
        refine stepTQ HOPS HREG 33 17179869183 ?_ (by decide) rfl (by kernel_rfl) (by kernel_rfl) rfl ?_ HS0.out ?_
        rotate_left
        · intro w9 hS9; obtain ⟨⟨q0, q1, q2, q3, q4, q5, q6⟩, -, -⟩ := hS9; go_simp; (first | done | with_reducible rfl)
        dsimp only [List.set_cons_zero, List.set_cons_succ]
        refine stepTU HOPS HREG 34 34359738367 (by decide) rfl (by kernel_rfl) (by kernel_rfl) rfl HS0.out ?_
        dsimp only [List.set_cons_zero, List.set_cons_succ]
        refine stepTU HOPS HREG 35 68719476735 (by decide) rfl (by kernel_rfl) (by kernel_rfl) rfl HS0.out ?_
        dsimp only [List.set_cons_zero, List.set_cons_succ]
        refine stepTU HOPS HREG 36 137438953471 (by decide) rfl (by kernel_rfl) (by kernel_rfl) rfl HS0.out ?_
        dsimp only [List.set_cons_zero, List.set_cons_succ]
        refine stepTU HOPS HREG 37 274877906943 (by decide) rfl (by kernel_rfl) (by kernel_rfl) rfl HS0.out ?_
        dsimp only [List.set_cons_zero, List.set_cons_succ]
        refine stepTQ HOPS HREG 38 549755813887 ?_ (by decide) rfl (by kernel_rfl) (by kernel_rfl) rfl ?_ HS0.out ?_
        rotate_left
        · intro w9 hS9; obtain ⟨⟨q0, q1, q2, q3, q4, q5, q6⟩, -, -⟩ := hS9; go_simp; (first | done | with_reducible rfl)
        dsimp only [List.set_cons_zero, List.set_cons_succ]
        refine stepTQ HOPS HREG 39 1099511627775 ?_ (by decide) rfl (by kernel_rfl) (by kernel_rfl) rfl ?_ HS0.out ?_
        rotate_left
        · intro w9 hS9; obtain ⟨⟨q0, q1, q2, q3, q4, q5, q6⟩, -, -⟩ := hS9; go_simp; (first | done | with_reducible rfl)
        dsimp only [List.set_cons_zero, List.set_cons_succ]
        refine stepTU HOPS HREG 40 2199023255551 (by decide) rfl (by kernel_rfl) (by kernel_rfl) rfl HS0.out ?_
        dsimp only [List.set_cons_zero, List.set_cons_succ]
        refine stepTU HOPS HREG 41 4398046511103 (by decide) rfl (by kernel_rfl) (by kernel_rfl) rfl HS0.out ?_
        dsimp only [List.set_cons_zero, List.set_cons_succ]
        refine stepTU HOPS HREG 42 8796093022207 (by decide) rfl (by kernel_rfl) (by kernel_rfl) rfl HS0.out ?_
        dsimp only [List.set_cons_zero, List.set_cons_succ]
        refine stepTU HOPS HREG 43 17592186044415 (by decide) rfl (by kernel_rfl) (by kernel_rfl) rfl HS0.out ?_
        dsimp only [List.set_cons_zero, List.set_cons_succ]
        refine stepTU HOPS HREG 44 35184372088831 (by decide) rfl (by kernel_rfl) (by kernel_rfl) rfl HS0.out ?_
        dsimp only [List.set_cons_zero, List.set_cons_succ]
        refine stepTQ HOPS HREG 45 70368744177663 ?_ (by decide) rfl (by kernel_rfl) (by kernel_rfl) rfl ?_ HS0.out ?_
        rotate_left
        · intro w9 hS9; obtain ⟨⟨q0, q1, q2, q3, q4, q5, q6⟩, -, -⟩ := hS9; go_simp; (first | done | with_reducible rfl)
        dsimp only [List.set_cons_zero, List.set_cons_succ]
        refine stepTQ HOPS HREG 46 140737488355327 ?_ (by decide) rfl (by kernel_rfl) (by kernel_rfl) rfl ?_ HS0.out ?_
        rotate_left
        · intro w9 hS9; obtain ⟨⟨q0, q1, q2, q3, q4, q5, q6⟩, -, -⟩ := hS9; go_simp; (first | done | with_reducible rfl)
        dsimp only [List.set_cons_zero, List.set_cons_succ]
        refine stepTU HOPS HREG 47 281474976710655 (by decide) rfl (by kernel_rfl) (by kernel_rfl) rfl HS0.out ?_
        dsimp only [List.set_cons_zero, List.set_cons_succ]
        refine stepTU HOPS HREG 48 562949953421311 (by decide) rfl (by kernel_rfl) (by kernel_rfl) rfl HS0.out ?_
        dsimp only [List.set_cons_zero, List.set_cons_succ]
        refine stepTU HOPS HREG 49 1125899906842623 (by decide) rfl (by kernel_rfl) (by kernel_rfl) rfl HS0.out ?_
        dsimp only [List.set_cons_zero, List.set_cons_succ]
        refine stepTU HOPS HREG 50 2251799813685247 (by decide) rfl (by kernel_rfl) (by kernel_rfl) rfl HS0.out ?_
        dsimp only [List.set_cons_zero, List.set_cons_succ]
        refine stepTU HOPS HREG 51 4503599627370495 (by decide) rfl (by kernel_rfl) (by kernel_rfl) rfl HS0.out ?_
        dsimp only [List.set_cons_zero, List.set_cons_succ]
        refine stepTU HOPS HREG 52 9007199254740991 (by decide) rfl (by kernel_rfl) (by kernel_rfl) rfl HS0.out ?_
        dsimp only [List.set_cons_zero, List.set_cons_succ]
        refine stepTU HOPS HREG 53 18014398509481983 (by decide) rfl (by kernel_rfl) (by kernel_rfl) rfl HS0.out ?_
        dsimp only [List.set_cons_zero, List.set_cons_succ]
        refine stepTQ HOPS HREG 54 36028797018963967 ?_ (by decide) rfl (by kernel_rfl) (by kernel_rfl) rfl ?_ HS0.out ?_
        rotate_left
        · intro w9 hS9; obtain ⟨⟨q0, q1, q2, q3, q4, q5, q6⟩, -, -⟩ := hS9; go_simp; (first | done | with_reducible rfl)
        dsimp only [List.set_cons_zero, List.set_cons_succ]
        refine stepTQ HOPS HREG 55 72057594037927935 ?_ (by decide) rfl (by kernel_rfl) (by kernel_rfl) rfl ?_ HS0.out ?_
        rotate_left
        · intro w9 hS9; obtain ⟨⟨q0, q1, q2, q3, q4, q5, q6⟩, -, -⟩ := hS9; go_simp; (first | done | with_reducible rfl)
        dsimp only [List.set_cons_zero, List.set_cons_succ]
        refine stepTU HOPS HREG 56 144115188075855871 (by decide) rfl (by kernel_rfl) (by kernel_rfl) rfl HS0.out ?_
        dsimp only [List.set_cons_zero, List.set_cons_succ]
        refine stepTU HOPS HREG 57 288230376151711743 (by decide) rfl (by kernel_rfl) (by kernel_rfl) rfl HS0.out ?_
        dsimp only [List.set_cons_zero, List.set_cons_succ]
        refine stepTU HOPS HREG 58 576460752303423487 (by decide) rfl (by kernel_rfl) (by kernel_rfl) rfl HS0.out ?_
        dsimp only [List.set_cons_zero, List.set_cons_succ]
        refine stepTU HOPS HREG 59 1152921504606846975 (by decide) rfl (by kernel_rfl) (by kernel_rfl) rfl HS0.out ?_
        dsimp only [List.set_cons_zero, List.set_cons_succ]
        refine stepTQ HOPS HREG 60 2305843009213693951 ?_ (by decide) rfl (by kernel_rfl) (by kernel_rfl) rfl ?_ HS0.out ?_
        rotate_left
        · intro w9 hS9; obtain ⟨⟨q0, q1, q2, q3, q4, q5, q6⟩, -, -⟩ := hS9; go_simp; (first | done | with_reducible rfl)
        dsimp only [List.set_cons_zero, List.set_cons_succ]
        refine stepTQ HOPS HREG 61 4611686018427387903 ?_ (by decide) rfl (by kernel_rfl) (by kernel_rfl) rfl ?_ HS0.out ?_
        rotate_left
        · intro w9 hS9; obtain ⟨⟨q0, q1, q2, q3, q4, q5, q6⟩, -, -⟩ := hS9; go_simp; (first | done | with_reducible rfl)
        dsimp only [List.set_cons_zero, List.set_cons_succ]
        refine stepTU HOPS HREG 62 9223372036854775807 (by decide) rfl (by kernel_rfl) (by kernel_rfl) rfl HS0.out ?_
        dsimp only [List.set_cons_zero, List.set_cons_succ]
        refine stepTU HOPS HREG 63 18446744073709551615 (by decide) rfl (by kernel_rfl) (by kernel_rfl) rfl HS0.out ?_
        dsimp only [List.set_cons_zero, List.set_cons_succ]
        refine stepTU HOPS HREG 64 36893488147419103231 (by decide) rfl (by kernel_rfl) (by kernel_rfl) rfl HS0.out ?_
        dsimp only [List.set_cons_zero, List.set_cons_succ]
        refine stepTU HOPS HREG 65 73786976294838206463 (by decide) rfl (by kernel_rfl) (by kernel_rfl) rfl HS0.out ?_
        dsimp only [List.set_cons_zero, List.set_cons_succ]
        refine stepTU HOPS HREG 66 147573952589676412927 (by decide) rfl (by kernel_rfl) (by kernel_rfl) rfl HS0.out ?_
        dsimp only [List.set_cons_zero, List.set_cons_succ]
        refine stepTQ HOPS HREG 67 295147905179352825855 ?_ (by decide) rfl (by kernel_rfl) (by kernel_rfl) rfl ?_ HS0.out ?_
        rotate_left
        · intro w9 hS9; obtain ⟨⟨q0, q1, q2, q3, q4, q5, q6⟩, -, -⟩ := hS9; go_simp; (first | done | with_reducible rfl)
        dsimp only [List.set_cons_zero, List.set_cons_succ]
        refine stepE HOPS (by kernel_rfl) (HQ.out _ _ ?_)
        clear HQ HREG HOPS
        clear Q ops
        go_wp2
        go_ret
        exact ⟨by rw [HZ.out]; rfl, HS0.out.2.1⟩
end Go.Proofs.YthhdhdjdhekgpaaDoor.Pro
