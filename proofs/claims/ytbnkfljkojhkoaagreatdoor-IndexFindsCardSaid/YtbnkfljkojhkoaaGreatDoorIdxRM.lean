/- Joined: IdxRM. -/
import Derived.Test.YtbnkfljkojhkoaaGreatDoorIdxRG
import Derived.Test.YtbnkfljkojhkoaaGreatDoorIdxG
import Derived.Test.YtbnkfljkojhkoaaGreatDoorJIn
/- The document's Make and Check. -/
namespace Go.Proofs.YtbnkfljkojhkoaaGreatDoor.Idx
open Go.RowKit Oct Rec Crc Bat Seg RowF RowL InR

def tb_rMake : List (Nat × Nat) := [(0, 1048575), (1, 1048574), (2, 1048573), (4, 1048571), (8, 1048567), (8, 1048567), (56, 1048519), (72, 1048503), (136, 1048439), (8, 1048567), (8, 1048567), (1032, 1047543), (2056, 1046519), (4616, 1043959), (8200, 1040375), (16392, 1032183), (33032, 1015543), (8, 1048567), (196616, 851959), (262152, 786423)]
def tb_rCheck : List (Nat × Nat) := [(0, 32767), (0, 32767), (2, 32765), (5, 32762), (8, 32759), (16, 32751), (16, 32751), (112, 32655), (144, 32623), (16, 32751), (16, 32751), (1552, 31215), (2064, 30703), (4368, 28399), (8208, 24559)]
theorem lastP_is (every : Int) (o : Option Int) (l : List En) : lastP every o l = match (pick every o l).getLast? with | none => o | some y => some y.pos := by
  induction l generalizing o with
  | nil => cases o <;> rfl
  | cons x l ih =>
    have key : ∀ m : List En, ∀ p : Int, (match m.getLast? with | none => some x.pos | some y => some y.pos) = (match (x :: m).getLast? with | none => o | some y => some y.pos) := fun m p => by
      cases m with
      | nil => rfl
      | cons y m => rw [List.getLast?_cons_cons]; cases h : (y :: m).getLast? with
        | none => simp at h
        | some z => rfl
    cases o with
    | none => exact (ih _).trans (key _ 0)
    | some p =>
      by_cases h : every ≤ x.pos - p
      · have e1 : pick every (some p) (x :: l) = x :: pick every (some x.pos) l := by conv => lhs; unfold pick; rw [if_pos h]
        have e3 : lastP every (some p) (x :: l) = lastP every (some x.pos) l := by conv => lhs; unfold lastP; rw [if_pos h]
        rw [e1, e3]
        exact (ih _).trans (key _ 0)
      · have e1 : pick every (some p) (x :: l) = pick every (some p) l := by conv => lhs; unfold pick; rw [if_neg h]
        have e3 : lastP every (some p) (x :: l) = lastP every (some p) l := by conv => lhs; unfold lastP; rw [if_neg h]
        rw [e1, e3]
        exact ih _
theorem pick_step {every : Int} {all : List En} {i : Nat} {x : En} (hx : all[i]? = some x) :
    (pick every none (all.take i) = [] → pick every none (all.take (i + 1)) = pick every none (all.take i) ++ [x]) ∧
    (∀ m y, (pick every none (all.take i)).length = m + 1 → (pick every none (all.take i))[m]? = some y → pick every none (all.take (i + 1)) = if every ≤ x.pos - y.pos then pick every none (all.take i) ++ [x] else pick every none (all.take i)) := by
  have e : all.take (i + 1) = all.take i ++ [x] := by rw [List.take_add_one, hx]; rfl
  rw [e, pick_snoc, lastP_is]
  constructor
  · intro h
    rw [h]
    rfl
  · intro m y hm hy
    have hl : (pick every none (all.take i)).getLast? = some y := by rw [List.getLast?_eq_getElem?, hm]; exact hy
    rw [hl]
    show _ ++ pick every (some y.pos) [x] = _
    by_cases h : every ≤ x.pos - y.pos
    · rw [if_pos h, show pick every (some y.pos) [x] = [x] by unfold pick; rw [if_pos h]; rfl]
    · rw [if_neg h, show pick every (some y.pos) [x] = [] by unfold pick; rw [if_neg h]; rfl, List.append_nil]
theorem allE_pos {s : Sg} (h : rightX s = true) : ∀ x ∈ allE s, 0 ≤ x.pos ∧ x.pos < 4096 := by
  intro x hx
  obtain ⟨h1, h2, h3⟩ := allE_right h
  have h4 := ents_mem hx
  rw [endP_is, ← h2] at h4
  omega
theorem allE_len {s : Sg} (h : rightX s = true) : (allE s).length ≤ 4096 := by
  obtain ⟨h1, h2, h3⟩ := allE_right h
  have h4 : (allE s).length = (batS s).length := ents_len _ _ _
  have h5 := byR_ge (batS s)
  rw [← h2] at h5
  omega
def rmRel (every : Int) (all : List En) (n N : Nat) (w : World) (vo vi : Value) (wr : World) : Prop :=
  ∃ (i : Nat) (A8 : Option Addr) (n8 c8 : Nat), vo = .slice A8 n8 c8 ∧ vi = .int .i64 (i : Int) ∧ i ≤ n ∧ OwnE wr N (.slice A8 n8 c8) n8 (pick every none (all.take i)) ∧ Below N w wr
set_option maxRecDepth 100000 in
set_option maxHeartbeats 4000000 in
theorem refMake_any (A : Option Addr) (n c : Nat) (base : Int) (bs : List UInt8) (every : Int) (w : World) (hr : Rd w w.heap.size A n bs) (hc : n ≤ c) (hI : I64 base) :
    Calls Tryz.prog 8 #[.agg #[.int .i64 base, .slice A n c], .int .i64 every] w (REn w (makeX ⟨base, bs⟩ every).1 (makeX ⟨base, bs⟩ every).2) := by
  have HB := Lib.hid (belA w (.cells #[.int .i64 base, .slice A n c] 24))
  have HRR := Lib.hid (rdUp hr HB.out)
  have hmx : Tryz.prog.follows .mixedOrders = true := by kernel_rfl
  clear hr
  rcases hrx : rightX ⟨base, bs⟩ with _ | _
  · have HRX := Lib.hid hrx
    rw [show makeX ⟨base, bs⟩ every = ([], 1) by unfold makeX; rw [if_pos (.inl hrx)]]
    clear hrx
    go_enter Tryz.func8, Tryz.ntmps8
    go_wp2_with (first | (go_at_call 22; (with_reducible refine (refRight_any A n c base bs _ HRR.out hc hI).mono ?_); rw [HRX.out]; rintro e w1 ⟨rfl, hb1⟩; have q0 := (hb1.cell (p := ⟨w.heap.size, 0, none⟩) (by simp)).trans (show _ = some (.int .i64 base) by simp [go_sem]); have q1 := (hb1.cell (p := ⟨w.heap.size, 1, none⟩) (by simp)).trans (show _ = some (.slice A n c) by simp [go_sem]); have HB1 := Lib.hid (bel_trans HB.out hb1); have HR1 := Lib.hid (rdUp HRR.out hb1); clear hb1))
    refine bodyPost_ret (v := .tuple #[.slice none 0 0, .int .i64 1]) (by simp [results, Tryz.results8, go_sem]) rfl ?_
    exact ⟨none, 0, 0, rfl, OwnF.nil, HB1.out⟩
  have HRX := Lib.hid hrx
  by_cases he1 : every < 1
  · rw [show makeX ⟨base, bs⟩ every = ([], 1) by unfold makeX; rw [if_pos (.inr (.inl he1))]]
    clear hrx
    go_enter Tryz.func8, Tryz.ntmps8
    go_wp2_with (first | (go_at_call 22; (with_reducible refine (refRight_any A n c base bs _ HRR.out hc hI).mono ?_); rw [HRX.out]; rintro e w1 ⟨rfl, hb1⟩; have q0 := (hb1.cell (p := ⟨w.heap.size, 0, none⟩) (by simp)).trans (show _ = some (.int .i64 base) by simp [go_sem]); have q1 := (hb1.cell (p := ⟨w.heap.size, 1, none⟩) (by simp)).trans (show _ = some (.slice A n c) by simp [go_sem]); have HB1 := Lib.hid (bel_trans HB.out hb1); have HR1 := Lib.hid (rdUp HRR.out hb1); clear hb1))
    refine bodyPost_ret (v := .tuple #[.slice none 0 0, .int .i64 1]) (by simp [results, Tryz.results8, go_sem]) rfl ?_
    exact ⟨none, 0, 0, rfl, OwnF.nil, HB1.out⟩
  by_cases he2 : 4096 < every
  · rw [show makeX ⟨base, bs⟩ every = ([], 1) by unfold makeX; rw [if_pos (.inr (.inr he2))]]
    clear hrx
    go_enter Tryz.func8, Tryz.ntmps8
    go_wp2_with (first | (go_at_call 22; (with_reducible refine (refRight_any A n c base bs _ HRR.out hc hI).mono ?_); rw [HRX.out]; rintro e w1 ⟨rfl, hb1⟩; have q0 := (hb1.cell (p := ⟨w.heap.size, 0, none⟩) (by simp)).trans (show _ = some (.int .i64 base) by simp [go_sem]); have q1 := (hb1.cell (p := ⟨w.heap.size, 1, none⟩) (by simp)).trans (show _ = some (.slice A n c) by simp [go_sem]); have HB1 := Lib.hid (bel_trans HB.out hb1); have HR1 := Lib.hid (rdUp HRR.out hb1); clear hb1))
    refine bodyPost_ret (v := .tuple #[.slice none 0 0, .int .i64 1]) (by simp [results, Tryz.results8, go_sem]) rfl ?_
    exact ⟨none, 0, 0, rfl, OwnF.nil, HB1.out⟩
  rw [show makeX ⟨base, bs⟩ every = (pick every none (allE ⟨base, bs⟩), 0) by unfold makeX; rw [if_neg (by rw [hrx]; simp; omega)]]
  have HAL := Lib.hid (allE_len hrx)
  have HPS := Lib.hid (allE_pos hrx)
  obtain ⟨all, hall⟩ : ∃ all, all = allE ⟨base, bs⟩ := ⟨_, rfl⟩
  have HALL := Lib.hid hall
  rw [← hall] at HAL HPS ⊢
  clear hrx hall
  go_enter Tryz.func8, Tryz.ntmps8
  go_wp2_with (first | (go_at_call 22; (with_reducible refine (refRight_any A n c base bs _ HRR.out hc hI).mono ?_); rw [HRX.out]; rintro e w1 ⟨rfl, hb1⟩; have q0 := (hb1.cell (p := ⟨w.heap.size, 0, none⟩) (by simp)).trans (show _ = some (.int .i64 base) by simp [go_sem]); have q1 := (hb1.cell (p := ⟨w.heap.size, 1, none⟩) (by simp)).trans (show _ = some (.slice A n c) by simp [go_sem]); have HB1 := Lib.hid (bel_trans HB.out hb1); have HR1 := Lib.hid (rdUp HRR.out hb1); clear hb1) | (go_at_call 23; (with_reducible refine (refEntries_any A n c base bs HRX.out _ HR1.out hc hI).mono ?_); rintro e w3 ⟨A3, n3, c3, rfl, ho3, hb3⟩; have HB3 := Lib.hid (bel_trans HB1.out hb3); have HE3 := Lib.hid (OwnF.rd enS ho3); have HN3 := Lib.hid (ho3.len enS); have hcap3 := ho3.cap; have hn3 : n3 ≤ 4096 := (by have h := HN3.out; rw [← HALL.out] at h; have := HAL.out; omega); clear ho3 hb3))
  rw [← HALL.out] at HE3
  go_loopw [7, 8] (fun vo vi wr => rmRel every all n3 w3.heap.size w3 vo vi wr) (fun _ vi _ => n3 - (intOf vi).toNat)
  case atStart => exact ⟨0, none, 0, 0, rfl, rfl, Nat.zero_le _, by rw [List.take_zero]; exact OwnF.nil, Below.refl _ _⟩
  case round =>
    obtain ⟨i, A8, n8, c8, rfl, rfl, hi, ho8, hb⟩ := hrel
    have hsz := hb.size
    have HO8 := Lib.hid ho8
    have HBR := Lib.hid hb
    have HL8 := Lib.hid (ho8.len enS)
    have hn8 : n8 ≤ i := by have h1 := HL8.out; have h2 := pick_len every (all.take i); rw [List.length_take] at h2; omega
    clear ho8
    by_cases hlt : i < n3
    · obtain ⟨b, o, ⟨x0, x1, x2⟩, rfl, hbl, hx, k0', k1', k2'⟩ := en_at (HE3.out.below hb (Nat.le_refl _)) hlt
      have hps := HPS.out _ (List.mem_of_getElem? hx)
      simp only at hps
      have HPK := Lib.hid (pick_step (every := every) hx)
      have k0 : wr.drew.cell? ⟨b, o + i * 3, none⟩ = some (.int .i64 x0) := k0'
      have k1 : wr.drew.cell? ⟨b, o + i * 3 + 1, none⟩ = some (.int .i64 x1) := k1'
      have k2 : wr.drew.cell? ⟨b, o + i * 3 + 2, none⟩ = some (.int .i64 x2) := k2'
      clear k0' k1' k2' hx
      obtain ⟨A7, c7, w7, hrun, ho7, hg7, hbel7⟩ := run_appE (w := wr.drew) w3.heap.size HO8.out ⟨x0, x1, x2⟩ (by omega) hsz
      dsimp only [enC] at hrun hg7
      have HO7 := Lib.hid ho7
      have HB7 := Lib.hid ((bel_drew hb).trans hbel7)
      clear ho7 hg7 hbel7 hb
      by_cases hz : n8 = 0
      · subst hz
        have t2 : ((((0 : Nat) : Int)) == 0) = true := rfl
        have HN := Lib.hid (HPK.out.1 (List.length_eq_zero_iff.1 HL8.out))
        go_wp2
        have HSR := Lib.hid (show (fun W9 : World => W9 = wr.drew) wr.drew from rfl)
        refine region_let (fun W9 : World => W9 = wr.drew) 99 20 hmx rfl fun ops Q HOPS HQ => ?_
        have HREG := reg_of HOPS tb_rMake rfl (by kernel_rfl) (by kernel_rfl) (by decide)
        refine sQ HOPS HREG 0 1 _ rfl HSR.out ?_
        dsimp only [List.set_cons_zero, List.set_cons_succ]
        refine sQ HOPS HREG 1 3 _ rfl HSR.out ?_
        dsimp only [List.set_cons_zero, List.set_cons_succ]
        refine sQ HOPS HREG 2 7 _ rfl HSR.out ?_
        dsimp only [List.set_cons_zero, List.set_cons_succ]
        refine sQ HOPS HREG 3 15 _ rfl HSR.out ?_
        dsimp only [List.set_cons_zero, List.set_cons_succ]
        refine sU HOPS HREG 4 31 rfl HSR.out ?_
        dsimp only [List.set_cons_zero, List.set_cons_succ]
        refine sU HOPS HREG 5 63 rfl HSR.out ?_
        dsimp only [List.set_cons_zero, List.set_cons_succ]
        refine sU HOPS HREG 6 127 rfl HSR.out ?_
        dsimp only [List.set_cons_zero, List.set_cons_succ]
        refine sU HOPS HREG 7 255 rfl HSR.out ?_
        dsimp only [List.set_cons_zero, List.set_cons_succ]
        refine sU HOPS HREG 8 511 rfl HSR.out ?_
        dsimp only [List.set_cons_zero, List.set_cons_succ]
        refine sU HOPS HREG 9 1023 rfl HSR.out ?_
        dsimp only [List.set_cons_zero, List.set_cons_succ]
        refine sU HOPS HREG 10 2047 rfl HSR.out ?_
        dsimp only [List.set_cons_zero, List.set_cons_succ]
        refine sU HOPS HREG 11 4095 rfl HSR.out ?_
        dsimp only [List.set_cons_zero, List.set_cons_succ]
        refine sU HOPS HREG 12 8191 rfl HSR.out ?_
        dsimp only [List.set_cons_zero, List.set_cons_succ]
        refine sU HOPS HREG 13 16383 rfl HSR.out ?_
        dsimp only [List.set_cons_zero, List.set_cons_succ]
        refine sU HOPS HREG 14 32767 rfl HSR.out ?_
        dsimp only [List.set_cons_zero, List.set_cons_succ]
        refine sU HOPS HREG 15 65535 rfl HSR.out ?_
        dsimp only [List.set_cons_zero, List.set_cons_succ]
        refine sU HOPS HREG 16 131071 rfl HSR.out ?_
        dsimp only [List.set_cons_zero, List.set_cons_succ]
        refine sU HOPS HREG 17 262143 rfl HSR.out ?_
        dsimp only [List.set_cons_zero, List.set_cons_succ]
        refine sU HOPS HREG 18 524287 rfl HSR.out ?_
        dsimp only [List.set_cons_zero, List.set_cons_succ]
        refine sQ HOPS HREG 19 1048575 _ rfl HSR.out ?_
        dsimp only [List.set_cons_zero, List.set_cons_succ]
        refine stepE HOPS (by kernel_rfl) (HQ.out _ _ ?_)
        clear HQ HREG HOPS
        clear Q ops
        skip
        go_wp2_with (at_builtin; refine wpList_app_run rfl _ _ 25 rfl rfl rfl hrun ?_)
        go_roundw
        case rel => exact ⟨i + 1, A7, _, c7, rfl, by go_num, by omega, by rw [HN.out]; exact HO7.out, HB7.out⟩
        case measure => simp [intOf]; omega
      · obtain ⟨m, hm⟩ : ∃ m, n8 = m + 1 := ⟨n8 - 1, by omega⟩
        have HM := Lib.hid hm
        have hml : m < n8 := by omega
        have hwm : IntKind.i64.wrap ((n8 : Int) - 1) = (m : Int) := by rw [IntWalk.i64_in _ (by omega)]; omega
        have hmc : (m : Int) < (n8 : Int) := by omega
        have t2 : ((n8 : Int) == 0) = false := beqF (by omega)
        obtain ⟨b8, o8, ⟨y0, y1, y2⟩, hA8, hbl8, hy, m0', m1', m2'⟩ := en_at (OwnF.rd enS HO8.out) hml
        subst hA8
        have m1 : wr.drew.cell? ⟨b8, o8 + m * 3 + 1, none⟩ = some (.int .i64 y1) := m1'
        have hpsy := HPS.out _ (List.mem_of_mem_take ((pick_sub every none _).subset (List.mem_of_getElem? hy)))
        simp only at hpsy
        have hws : IntKind.i64.wrap (x1 - y1) = x1 - y1 := IntWalk.i64_in _ (by omega)
        have HN := Lib.hid (HPK.out.2 m _ (HL8.out.trans hm) hy)
        clear m0' m1' m2' hy hm
        simp only at HN
        by_cases hle : every ≤ x1 - y1
        · have hN' := HN.out
          rw [if_pos hle] at hN'
          have HN' := Lib.hid hN'
          clear hN'
          go_wp2
          have HSR := Lib.hid (show (fun W9 : World => W9 = wr.drew) wr.drew from rfl)
          refine region_let (fun W9 : World => W9 = wr.drew) 99 20 hmx rfl fun ops Q HOPS HQ => ?_
          have HREG := reg_of HOPS tb_rMake rfl (by kernel_rfl) (by kernel_rfl) (by decide)
          refine sQ HOPS HREG 0 1 _ rfl HSR.out ?_
          dsimp only [List.set_cons_zero, List.set_cons_succ]
          refine sQ HOPS HREG 1 3 _ rfl HSR.out ?_
          dsimp only [List.set_cons_zero, List.set_cons_succ]
          refine sQ HOPS HREG 2 7 _ rfl HSR.out ?_
          dsimp only [List.set_cons_zero, List.set_cons_succ]
          refine sQ HOPS HREG 3 15 _ rfl HSR.out ?_
          dsimp only [List.set_cons_zero, List.set_cons_succ]
          refine sQ HOPS HREG 4 31 _ rfl HSR.out ?_
          dsimp only [List.set_cons_zero, List.set_cons_succ]
          refine sQ HOPS HREG 5 63 _ rfl HSR.out ?_
          dsimp only [List.set_cons_zero, List.set_cons_succ]
          refine sQ HOPS HREG 6 127 _ rfl HSR.out ?_
          dsimp only [List.set_cons_zero, List.set_cons_succ]
          refine sQ HOPS HREG 7 255 _ rfl HSR.out ?_
          dsimp only [List.set_cons_zero, List.set_cons_succ]
          refine sQ HOPS HREG 8 511 _ rfl HSR.out ?_
          dsimp only [List.set_cons_zero, List.set_cons_succ]
          refine sQ HOPS HREG 9 1023 _ rfl HSR.out ?_
          dsimp only [List.set_cons_zero, List.set_cons_succ]
          refine sQ HOPS HREG 10 2047 _ rfl HSR.out ?_
          dsimp only [List.set_cons_zero, List.set_cons_succ]
          refine sQ HOPS HREG 11 4095 _ rfl HSR.out ?_
          dsimp only [List.set_cons_zero, List.set_cons_succ]
          refine sQ HOPS HREG 12 8191 _ rfl HSR.out ?_
          dsimp only [List.set_cons_zero, List.set_cons_succ]
          refine sQ HOPS HREG 13 16383 _ rfl HSR.out ?_
          dsimp only [List.set_cons_zero, List.set_cons_succ]
          refine sQ HOPS HREG 14 32767 _ rfl HSR.out ?_
          dsimp only [List.set_cons_zero, List.set_cons_succ]
          refine sQ HOPS HREG 15 65535 _ rfl HSR.out ?_
          dsimp only [List.set_cons_zero, List.set_cons_succ]
          refine sQ HOPS HREG 16 131071 _ rfl HSR.out ?_
          dsimp only [List.set_cons_zero, List.set_cons_succ]
          refine sQ HOPS HREG 17 262143 _ rfl HSR.out ?_
          dsimp only [List.set_cons_zero, List.set_cons_succ]
          refine sQ HOPS HREG 18 524287 _ rfl HSR.out ?_
          dsimp only [List.set_cons_zero, List.set_cons_succ]
          refine sQ HOPS HREG 19 1048575 _ rfl HSR.out ?_
          dsimp only [List.set_cons_zero, List.set_cons_succ]
          refine stepE HOPS (by kernel_rfl) (HQ.out _ _ ?_)
          clear HQ HREG HOPS
          clear Q ops
          skip
          go_wp2_with (at_builtin; refine wpList_app_run rfl _ _ 25 rfl rfl rfl hrun ?_)
          go_roundw
          case rel => exact ⟨i + 1, A7, _, c7, rfl, by go_num, by omega, by rw [HN'.out]; exact HO7.out, HB7.out⟩
          case measure => simp [intOf]; omega
        · have hN' := HN.out
          rw [if_neg hle] at hN'
          have HN' := Lib.hid hN'
          clear hN'
          go_wp2
          have HSR := Lib.hid (show (fun W9 : World => W9 = wr.drew) wr.drew from rfl)
          refine region_let (fun W9 : World => W9 = wr.drew) 99 20 hmx rfl fun ops Q HOPS HQ => ?_
          have HREG := reg_of HOPS tb_rMake rfl (by kernel_rfl) (by kernel_rfl) (by decide)
          refine sQ HOPS HREG 0 1 _ rfl HSR.out ?_
          dsimp only [List.set_cons_zero, List.set_cons_succ]
          refine sQ HOPS HREG 1 3 _ rfl HSR.out ?_
          dsimp only [List.set_cons_zero, List.set_cons_succ]
          refine sQ HOPS HREG 2 7 _ rfl HSR.out ?_
          dsimp only [List.set_cons_zero, List.set_cons_succ]
          refine sQ HOPS HREG 3 15 _ rfl HSR.out ?_
          dsimp only [List.set_cons_zero, List.set_cons_succ]
          refine sQ HOPS HREG 4 31 _ rfl HSR.out ?_
          dsimp only [List.set_cons_zero, List.set_cons_succ]
          refine sQ HOPS HREG 5 63 _ rfl HSR.out ?_
          dsimp only [List.set_cons_zero, List.set_cons_succ]
          refine sQ HOPS HREG 6 127 _ rfl HSR.out ?_
          dsimp only [List.set_cons_zero, List.set_cons_succ]
          refine sQ HOPS HREG 7 255 _ rfl HSR.out ?_
          dsimp only [List.set_cons_zero, List.set_cons_succ]
          refine sQ HOPS HREG 8 511 _ rfl HSR.out ?_
          dsimp only [List.set_cons_zero, List.set_cons_succ]
          refine sQ HOPS HREG 9 1023 _ rfl HSR.out ?_
          dsimp only [List.set_cons_zero, List.set_cons_succ]
          refine sQ HOPS HREG 10 2047 _ rfl HSR.out ?_
          dsimp only [List.set_cons_zero, List.set_cons_succ]
          refine sQ HOPS HREG 11 4095 _ rfl HSR.out ?_
          dsimp only [List.set_cons_zero, List.set_cons_succ]
          refine sQ HOPS HREG 12 8191 _ rfl HSR.out ?_
          dsimp only [List.set_cons_zero, List.set_cons_succ]
          refine sQ HOPS HREG 13 16383 _ rfl HSR.out ?_
          dsimp only [List.set_cons_zero, List.set_cons_succ]
          refine sQ HOPS HREG 14 32767 _ rfl HSR.out ?_
          dsimp only [List.set_cons_zero, List.set_cons_succ]
          refine sQ HOPS HREG 15 65535 _ rfl HSR.out ?_
          dsimp only [List.set_cons_zero, List.set_cons_succ]
          refine sQ HOPS HREG 16 131071 _ rfl HSR.out ?_
          dsimp only [List.set_cons_zero, List.set_cons_succ]
          refine sQ HOPS HREG 17 262143 _ rfl HSR.out ?_
          dsimp only [List.set_cons_zero, List.set_cons_succ]
          refine sQ HOPS HREG 18 524287 _ rfl HSR.out ?_
          dsimp only [List.set_cons_zero, List.set_cons_succ]
          refine sQ HOPS HREG 19 1048575 _ rfl HSR.out ?_
          dsimp only [List.set_cons_zero, List.set_cons_succ]
          refine stepE HOPS (by kernel_rfl) (HQ.out _ _ ?_)
          clear HQ HREG HOPS
          clear Q ops
          skip
          go_wp2
          go_roundw
          case rel => exact ⟨i + 1, _, n8, c8, rfl, by go_num, by omega, by rw [HN'.out]; exact HO8.out, bel_drew HBR.out⟩
          case measure => simp [intOf]; omega
    · obtain rfl : i = n3 := by omega
      have hal : all.take i = all := List.take_of_length_le (by have := HN3.out; rw [← HALL.out] at this; omega)
      rw [hal] at HO8
      clear hb hal
      go_wp2
      refine bodyPost_ret (v := .tuple #[.slice A8 n8 c8, .int .i64 0]) (by simp [results, Tryz.results8, go_sem]) rfl ?_
      exact ⟨A8, n8, c8, rfl, OwnF.more HO8.out (by have := HB3.out.size; omega), HB3.out.trans (HBR.out.mono (by have := HB3.out.size; omega))⟩
def rcRel (all l : List En) (n N : Nat) (w : World) (vn vi : Value) (wr : World) : Prop :=
  ∃ i k : Nat, vn = .int .i64 (k : Int) ∧ vi = .int .i64 (i : Int) ∧ i ≤ n ∧ ixS all l (all.take i) k ∧ Below N w wr
theorem take_nx {all : List En} {i : Nat} {x : En} (h : all[i]? = some x) : (∃ rest, all = all.take i ++ x :: rest) ∧ all.take (i + 1) = all.take i ++ [x] := by
  refine ⟨⟨all.drop (i + 1), ?_⟩, by rw [List.take_add_one, h]; rfl⟩
  have hk := (List.getElem?_eq_some_iff.1 h).1
  have e := List.drop_eq_getElem_cons hk
  rw [(List.getElem?_eq_some_iff.1 h).2] at e
  rw [← e, List.take_append_drop]
set_option maxRecDepth 100000 in
set_option maxHeartbeats 4000000 in
theorem refCheck_any (A : Option Addr) (n c : Nat) (base : Int) (bs : List UInt8) (A2 : Option Addr) (n2 c2 : Nat) (l : List En) (w : World) (hr : Rd w w.heap.size A n bs) (hc : n ≤ c) (hr2 : RdE w w.heap.size A2 n2 l) (hn2 : n2 ≤ 1099511627776) (hI : I64 base) :
    Calls Tryz.prog 11 #[.agg #[.int .i64 base, .slice A n c], .slice A2 n2 c2] w fun e w' => e = .returned (.int .i64 (ckX ⟨base, bs⟩ l)) ∧ Below w.heap.size w w' := by
  have HB := Lib.hid (belA w (.cells #[.int .i64 base, .slice A n c] 24))
  have HRR := Lib.hid (rdUp hr HB.out)
  have HEE := Lib.hid (rdeUp hr2 HB.out)
  have HLL := Lib.hid hr2.len
  have hmx : Tryz.prog.follows .mixedOrders = true := by kernel_rfl
  clear hr hr2
  rcases hrx : rightX ⟨base, bs⟩ with _ | _
  · have HRX := Lib.hid hrx
    rw [show ckX ⟨base, bs⟩ l = 1 by unfold ckX; rw [hrx]; simp]
    clear hrx
    go_enter Tryz.func11, Tryz.ntmps11
    go_wp2_with (first | (go_at_call 22; (with_reducible refine (refRight_any A n c base bs _ HRR.out hc hI).mono ?_); rw [HRX.out]; rintro e w1 ⟨rfl, hb1⟩; have q0 := (hb1.cell (p := ⟨w.heap.size, 0, none⟩) (by simp)).trans (show _ = some (.int .i64 base) by simp [go_sem]); have q1 := (hb1.cell (p := ⟨w.heap.size, 1, none⟩) (by simp)).trans (show _ = some (.slice A n c) by simp [go_sem]); have HB1 := Lib.hid (bel_trans HB.out hb1); have HEE1 := Lib.hid (rdeUp HEE.out hb1); have HR1 := Lib.hid (rdUp HRR.out hb1); clear hb1))
    go_ret
    exact ⟨rfl, HB1.out⟩
  have HRX := Lib.hid hrx
  have HAL := Lib.hid (allE_len hrx)
  obtain ⟨all, hall⟩ : ∃ all, all = allE ⟨base, bs⟩ := ⟨_, rfl⟩
  have HALL := Lib.hid hall
  rw [← hall] at HAL
  have HCK := Lib.hid (show ∀ z : Int, (isIx true all l = true → z = 0) → (isIx true all l = false → z = 1) → ckX ⟨base, bs⟩ l = z from fun z h0 h1 => by
    unfold ckX
    rw [← hall]
    cases h : isIx true all l with
    | true => rw [if_pos ⟨hrx, rfl⟩, h0 h]
    | false => rw [if_neg (by simp), h1 h])
  clear hrx hall
  go_enter Tryz.func11, Tryz.ntmps11
  go_wp2_with (first | (go_at_call 22; (with_reducible refine (refRight_any A n c base bs _ HRR.out hc hI).mono ?_); rw [HRX.out]; rintro e w1 ⟨rfl, hb1⟩; have q0 := (hb1.cell (p := ⟨w.heap.size, 0, none⟩) (by simp)).trans (show _ = some (.int .i64 base) by simp [go_sem]); have q1 := (hb1.cell (p := ⟨w.heap.size, 1, none⟩) (by simp)).trans (show _ = some (.slice A n c) by simp [go_sem]); have HB1 := Lib.hid (bel_trans HB.out hb1); have HEE1 := Lib.hid (rdeUp HEE.out hb1); have HR1 := Lib.hid (rdUp HRR.out hb1); clear hb1) | (go_at_call 23; (with_reducible refine (refEntries_any A n c base bs HRX.out _ HR1.out hc hI).mono ?_); rintro e w3 ⟨A3, n3, c3, rfl, ho3, hb3⟩; have HB3 := Lib.hid (bel_trans HB1.out hb3); have HEE3 := Lib.hid (rdeUp HEE1.out hb3); have HE3 := Lib.hid (OwnF.rd enS ho3); have HN3 := Lib.hid (ho3.len enS); have hcap3 := ho3.cap; have hn3 : n3 ≤ 4096 := (by have h := HN3.out; rw [← HALL.out] at h; have := HAL.out; omega); clear ho3 hb3))
  rw [← HALL.out] at HE3
  go_loopw [6, 7] (fun vn vi wr => rcRel all l n3 w3.heap.size w3 vn vi wr) (fun _ vi _ => n3 - (intOf vi).toNat)
  case atStart => exact ⟨0, 0, rfl, rfl, Nat.zero_le _, by rw [List.take_zero]; exact ⟨Nat.zero_le _, by simp, all, rfl, rfl⟩, Below.refl _ _⟩
  case round =>
    obtain ⟨i, k, rfl, rfl, hi, hix, hb⟩ := hrel
    have HIX := Lib.hid hix
    have HBR := Lib.hid hb
    have HBW := Lib.hid (HB3.out.trans (hb.mono (by have := HB3.out.size; omega)))
    have hkl : k ≤ n2 := by have := hix.1; have := HLL.out; omega
    have HXL := Lib.hid (HEE3.out.below hb (Nat.le_refl _))
    by_cases hlt : i < n3
    · obtain ⟨b, o, ⟨x0, x1, x2⟩, rfl, hbl, hx, m0', m1', m2'⟩ := en_at (HE3.out.below hb (Nat.le_refl _)) hlt
      have m0 : wr.drew.cell? ⟨b, o + i * 3, none⟩ = some (.int .i64 x0) := m0'
      have m1 : wr.drew.cell? ⟨b, o + i * 3 + 1, none⟩ = some (.int .i64 x1) := m1'
      have m2 : wr.drew.cell? ⟨b, o + i * 3 + 2, none⟩ = some (.int .i64 x2) := m2'
      have HNX := Lib.hid (take_nx hx)
      have MISS : l[k]? ≠ some ⟨x0, x1, x2⟩ → k ≠ 0 → ixS all l (all.take (i + 1)) k := fun h h0 => by rw [HNX.out.2]; exact ixS_miss HIX.out HNX.out.1 h h0
      have MISS0 : l[k]? ≠ some ⟨x0, x1, x2⟩ → k = 0 → isIx true all l = false := fun h h0 => by
        have hp : all.take i = [] := HIX.out.2.1.1 h0
        have h1 := HIX.out; have h2 := HNX.out.1
        rw [hp] at h1 h2
        subst h0
        exact ixS_bad h1 h2 h
      have hk0 : k = 0 ↔ i = 0 := HIX.out.2.1.trans ⟨fun h => by rcases Nat.eq_zero_or_pos i with h0 | h0; exact h0; have := (List.getElem?_eq_some_iff.1 hx).1; have h3 := congrArg List.length h; rw [List.length_take, List.length_nil] at h3; omega, fun h => by rw [h]; rfl⟩
      have HM := Lib.hid MISS
      have HM0 := Lib.hid MISS0
      clear m0' m1' m2' hx hix hb MISS MISS0
      by_cases hk : k < n2
      · obtain ⟨b2, o2, ⟨y0, y1, y2⟩, rfl, hbl2, hy, k0', k1', k2'⟩ := en_at HXL.out hk
        have k0 : wr.drew.cell? ⟨b2, o2 + k * 3, none⟩ = some (.int .i64 y0) := k0'
        have k1 : wr.drew.cell? ⟨b2, o2 + k * 3 + 1, none⟩ = some (.int .i64 y1) := k1'
        have k2 : wr.drew.cell? ⟨b2, o2 + k * 3 + 2, none⟩ = some (.int .i64 y2) := k2'
        have HY := Lib.hid hy
        have t3 : decide ((k : Int) < (n2 : Int)) = true := decide_eq_true (by omega)
        clear k0' k1' k2' hy
        by_cases hyx : (⟨y0, y1, y2⟩ : En) = ⟨x0, x1, x2⟩
        · injection hyx with u0 u1 u2
          subst u0 u1 u2
          have HH := Lib.hid (show ixS all l (all.take (i + 1)) (k + 1) by rw [HNX.out.2]; exact ixS_hit HIX.out HNX.out.1 HY.out)
          go_wp2
          have HSR := Lib.hid (show (fun W9 : World => W9 = wr.drew) wr.drew from rfl)
          refine region_let (fun W9 : World => W9 = wr.drew) 99 15 hmx rfl fun ops Q HOPS HQ => ?_
          have HREG := reg_of HOPS tb_rCheck rfl (by kernel_rfl) (by kernel_rfl) (by decide)
          refine sQ HOPS HREG 0 1 _ rfl HSR.out ?_
          dsimp only [List.set_cons_zero, List.set_cons_succ]
          refine sQ HOPS HREG 1 3 _ rfl HSR.out ?_
          dsimp only [List.set_cons_zero, List.set_cons_succ]
          refine sQ HOPS HREG 2 7 _ rfl HSR.out ?_
          dsimp only [List.set_cons_zero, List.set_cons_succ]
          refine sQ HOPS HREG 3 15 _ rfl HSR.out ?_
          dsimp only [List.set_cons_zero, List.set_cons_succ]
          refine sQ HOPS HREG 4 31 _ rfl HSR.out ?_
          dsimp only [List.set_cons_zero, List.set_cons_succ]
          refine sQ HOPS HREG 5 63 _ rfl HSR.out ?_
          dsimp only [List.set_cons_zero, List.set_cons_succ]
          refine sQ HOPS HREG 6 127 _ rfl HSR.out ?_
          dsimp only [List.set_cons_zero, List.set_cons_succ]
          refine sQ HOPS HREG 7 255 _ rfl HSR.out ?_
          dsimp only [List.set_cons_zero, List.set_cons_succ]
          refine sQ HOPS HREG 8 511 _ rfl HSR.out ?_
          dsimp only [List.set_cons_zero, List.set_cons_succ]
          refine sQ HOPS HREG 9 1023 _ rfl HSR.out ?_
          dsimp only [List.set_cons_zero, List.set_cons_succ]
          refine sQ HOPS HREG 10 2047 _ rfl HSR.out ?_
          dsimp only [List.set_cons_zero, List.set_cons_succ]
          refine sQ HOPS HREG 11 4095 _ rfl HSR.out ?_
          dsimp only [List.set_cons_zero, List.set_cons_succ]
          refine sQ HOPS HREG 12 8191 _ rfl HSR.out ?_
          dsimp only [List.set_cons_zero, List.set_cons_succ]
          refine sQ HOPS HREG 13 16383 _ rfl HSR.out ?_
          dsimp only [List.set_cons_zero, List.set_cons_succ]
          refine sQ HOPS HREG 14 32767 _ rfl HSR.out ?_
          dsimp only [List.set_cons_zero, List.set_cons_succ]
          refine stepE HOPS (by kernel_rfl) (HQ.out _ _ ?_)
          clear HQ HREG HOPS
          clear Q ops
          skip
          go_wp2
          go_roundw
          case rel => exact ⟨i + 1, k + 1, by go_num, by go_num, by omega, HH.out, bel_drew HBR.out⟩
          case measure => simp [intOf]; omega
        · have hq3 : ∀ p q : Result Next, (if y0 = x0 then (if y1 = x1 then (if y2 = x2 then p else q) else q) else q) = q := fun p q => by
            by_cases u0 : y0 = x0
            · by_cases u1 : y1 = x1
              · by_cases u2 : y2 = x2
                · exact absurd (by rw [u0, u1, u2]) hyx
                · rw [if_pos u0, if_pos u1, if_neg u2]
              · rw [if_pos u0, if_neg u1]
            · rw [if_neg u0]
          have hmiss : l[k]? ≠ some ⟨x0, x1, x2⟩ := fun e => hyx (Option.some.inj (HY.out.symm.trans e))
          have HMISS := Lib.hid hmiss
          clear hyx hmiss
          by_cases hi0 : i = 0
          · have HR := Lib.hid (HCK.out 1 (fun h => by rw [HM0.out HMISS.out (hk0.2 hi0)] at h; cases h) (fun _ => rfl))
            have hiT : ((i : Int) == 0) = true := by rw [hi0]; rfl
            clear hk0 hi0
            go_wp2
            have HSR := Lib.hid (show (fun W9 : World => W9 = wr.drew) wr.drew from rfl)
            refine region_let (fun W9 : World => W9 = wr.drew) 99 15 hmx rfl fun ops Q HOPS HQ => ?_
            have HREG := reg_of HOPS tb_rCheck rfl (by kernel_rfl) (by kernel_rfl) (by decide)
            refine sQ HOPS HREG 0 1 _ rfl HSR.out ?_
            dsimp only [List.set_cons_zero, List.set_cons_succ]
            refine sQ HOPS HREG 1 3 _ rfl HSR.out ?_
            dsimp only [List.set_cons_zero, List.set_cons_succ]
            refine sQ HOPS HREG 2 7 _ rfl HSR.out ?_
            dsimp only [List.set_cons_zero, List.set_cons_succ]
            refine sQ HOPS HREG 3 15 _ rfl HSR.out ?_
            dsimp only [List.set_cons_zero, List.set_cons_succ]
            refine sQ HOPS HREG 4 31 _ rfl HSR.out ?_
            dsimp only [List.set_cons_zero, List.set_cons_succ]
            refine sQ HOPS HREG 5 63 _ rfl HSR.out ?_
            dsimp only [List.set_cons_zero, List.set_cons_succ]
            refine sQ HOPS HREG 6 127 _ rfl HSR.out ?_
            dsimp only [List.set_cons_zero, List.set_cons_succ]
            refine sQ HOPS HREG 7 255 _ rfl HSR.out ?_
            dsimp only [List.set_cons_zero, List.set_cons_succ]
            refine sQ HOPS HREG 8 511 _ rfl HSR.out ?_
            dsimp only [List.set_cons_zero, List.set_cons_succ]
            refine sQ HOPS HREG 9 1023 _ rfl HSR.out ?_
            dsimp only [List.set_cons_zero, List.set_cons_succ]
            refine sQ HOPS HREG 10 2047 _ rfl HSR.out ?_
            dsimp only [List.set_cons_zero, List.set_cons_succ]
            refine sQ HOPS HREG 11 4095 _ rfl HSR.out ?_
            dsimp only [List.set_cons_zero, List.set_cons_succ]
            refine sQ HOPS HREG 12 8191 _ rfl HSR.out ?_
            dsimp only [List.set_cons_zero, List.set_cons_succ]
            refine sQ HOPS HREG 13 16383 _ rfl HSR.out ?_
            dsimp only [List.set_cons_zero, List.set_cons_succ]
            refine sQ HOPS HREG 14 32767 _ rfl HSR.out ?_
            dsimp only [List.set_cons_zero, List.set_cons_succ]
            refine stepE HOPS (by kernel_rfl) (HQ.out _ _ ?_)
            clear HQ HREG HOPS
            clear Q ops
            skip
            go_wp2
            go_ret
            exact ⟨by rw [HR.out]; rfl, bel_drew HBW.out⟩
          · have HH := Lib.hid (HM.out HMISS.out (fun h => hi0 (hk0.1 h)))
            have hiF : ((i : Int) == 0) = false := beqF (by omega)
            go_wp2
            have HSR := Lib.hid (show (fun W9 : World => W9 = wr.drew) wr.drew from rfl)
            refine region_let (fun W9 : World => W9 = wr.drew) 99 15 hmx rfl fun ops Q HOPS HQ => ?_
            have HREG := reg_of HOPS tb_rCheck rfl (by kernel_rfl) (by kernel_rfl) (by decide)
            refine sQ HOPS HREG 0 1 _ rfl HSR.out ?_
            dsimp only [List.set_cons_zero, List.set_cons_succ]
            refine sQ HOPS HREG 1 3 _ rfl HSR.out ?_
            dsimp only [List.set_cons_zero, List.set_cons_succ]
            refine sQ HOPS HREG 2 7 _ rfl HSR.out ?_
            dsimp only [List.set_cons_zero, List.set_cons_succ]
            refine sQ HOPS HREG 3 15 _ rfl HSR.out ?_
            dsimp only [List.set_cons_zero, List.set_cons_succ]
            refine sQ HOPS HREG 4 31 _ rfl HSR.out ?_
            dsimp only [List.set_cons_zero, List.set_cons_succ]
            refine sQ HOPS HREG 5 63 _ rfl HSR.out ?_
            dsimp only [List.set_cons_zero, List.set_cons_succ]
            refine sQ HOPS HREG 6 127 _ rfl HSR.out ?_
            dsimp only [List.set_cons_zero, List.set_cons_succ]
            refine sQ HOPS HREG 7 255 _ rfl HSR.out ?_
            dsimp only [List.set_cons_zero, List.set_cons_succ]
            refine sQ HOPS HREG 8 511 _ rfl HSR.out ?_
            dsimp only [List.set_cons_zero, List.set_cons_succ]
            refine sQ HOPS HREG 9 1023 _ rfl HSR.out ?_
            dsimp only [List.set_cons_zero, List.set_cons_succ]
            refine sQ HOPS HREG 10 2047 _ rfl HSR.out ?_
            dsimp only [List.set_cons_zero, List.set_cons_succ]
            refine sQ HOPS HREG 11 4095 _ rfl HSR.out ?_
            dsimp only [List.set_cons_zero, List.set_cons_succ]
            refine sQ HOPS HREG 12 8191 _ rfl HSR.out ?_
            dsimp only [List.set_cons_zero, List.set_cons_succ]
            refine sQ HOPS HREG 13 16383 _ rfl HSR.out ?_
            dsimp only [List.set_cons_zero, List.set_cons_succ]
            refine sQ HOPS HREG 14 32767 _ rfl HSR.out ?_
            dsimp only [List.set_cons_zero, List.set_cons_succ]
            refine stepE HOPS (by kernel_rfl) (HQ.out _ _ ?_)
            clear HQ HREG HOPS
            clear Q ops
            skip
            go_wp2
            go_roundw
            case rel => exact ⟨i + 1, k, by go_num, by go_num, by omega, HH.out, bel_drew HBR.out⟩
            case measure => simp [intOf]; omega
      · have HMISS := Lib.hid (show l[k]? ≠ some ⟨x0, x1, x2⟩ from fun e => by have := (List.getElem?_eq_some_iff.1 e).1; have := HLL.out; omega)
        have t3 : decide ((k : Int) < (n2 : Int)) = false := decide_eq_false (by omega)
        by_cases hi0 : i = 0
        · have HR := Lib.hid (HCK.out 1 (fun h => by rw [HM0.out HMISS.out (hk0.2 hi0)] at h; cases h) (fun _ => rfl))
          have hiT : ((i : Int) == 0) = true := by rw [hi0]; rfl
          clear hk0 hi0
          go_wp2
          have HSR := Lib.hid (show (fun W9 : World => W9 = wr.drew) wr.drew from rfl)
          refine region_let (fun W9 : World => W9 = wr.drew) 99 15 hmx rfl fun ops Q HOPS HQ => ?_
          have HREG := reg_of HOPS tb_rCheck rfl (by kernel_rfl) (by kernel_rfl) (by decide)
          refine sQ HOPS HREG 0 1 _ rfl HSR.out ?_
          dsimp only [List.set_cons_zero, List.set_cons_succ]
          refine sQ HOPS HREG 1 3 _ rfl HSR.out ?_
          dsimp only [List.set_cons_zero, List.set_cons_succ]
          refine sQ HOPS HREG 2 7 _ rfl HSR.out ?_
          dsimp only [List.set_cons_zero, List.set_cons_succ]
          refine sQ HOPS HREG 3 15 _ rfl HSR.out ?_
          dsimp only [List.set_cons_zero, List.set_cons_succ]
          refine sQ HOPS HREG 4 31 _ rfl HSR.out ?_
          dsimp only [List.set_cons_zero, List.set_cons_succ]
          refine sU HOPS HREG 5 63 rfl HSR.out ?_
          dsimp only [List.set_cons_zero, List.set_cons_succ]
          refine sU HOPS HREG 6 127 rfl HSR.out ?_
          dsimp only [List.set_cons_zero, List.set_cons_succ]
          refine sU HOPS HREG 7 255 rfl HSR.out ?_
          dsimp only [List.set_cons_zero, List.set_cons_succ]
          refine sU HOPS HREG 8 511 rfl HSR.out ?_
          dsimp only [List.set_cons_zero, List.set_cons_succ]
          refine sU HOPS HREG 9 1023 rfl HSR.out ?_
          dsimp only [List.set_cons_zero, List.set_cons_succ]
          refine sU HOPS HREG 10 2047 rfl HSR.out ?_
          dsimp only [List.set_cons_zero, List.set_cons_succ]
          refine sU HOPS HREG 11 4095 rfl HSR.out ?_
          dsimp only [List.set_cons_zero, List.set_cons_succ]
          refine sU HOPS HREG 12 8191 rfl HSR.out ?_
          dsimp only [List.set_cons_zero, List.set_cons_succ]
          refine sU HOPS HREG 13 16383 rfl HSR.out ?_
          dsimp only [List.set_cons_zero, List.set_cons_succ]
          refine sQ HOPS HREG 14 32767 _ rfl HSR.out ?_
          dsimp only [List.set_cons_zero, List.set_cons_succ]
          refine stepE HOPS (by kernel_rfl) (HQ.out _ _ ?_)
          clear HQ HREG HOPS
          clear Q ops
          skip
          go_wp2
          go_ret
          exact ⟨by rw [HR.out]; rfl, bel_drew HBW.out⟩
        · have HH := Lib.hid (HM.out HMISS.out (fun h => hi0 (hk0.1 h)))
          have hiF : ((i : Int) == 0) = false := beqF (by omega)
          go_wp2
          have HSR := Lib.hid (show (fun W9 : World => W9 = wr.drew) wr.drew from rfl)
          refine region_let (fun W9 : World => W9 = wr.drew) 99 15 hmx rfl fun ops Q HOPS HQ => ?_
          have HREG := reg_of HOPS tb_rCheck rfl (by kernel_rfl) (by kernel_rfl) (by decide)
          refine sQ HOPS HREG 0 1 _ rfl HSR.out ?_
          dsimp only [List.set_cons_zero, List.set_cons_succ]
          refine sQ HOPS HREG 1 3 _ rfl HSR.out ?_
          dsimp only [List.set_cons_zero, List.set_cons_succ]
          refine sQ HOPS HREG 2 7 _ rfl HSR.out ?_
          dsimp only [List.set_cons_zero, List.set_cons_succ]
          refine sQ HOPS HREG 3 15 _ rfl HSR.out ?_
          dsimp only [List.set_cons_zero, List.set_cons_succ]
          refine sQ HOPS HREG 4 31 _ rfl HSR.out ?_
          dsimp only [List.set_cons_zero, List.set_cons_succ]
          refine sU HOPS HREG 5 63 rfl HSR.out ?_
          dsimp only [List.set_cons_zero, List.set_cons_succ]
          refine sU HOPS HREG 6 127 rfl HSR.out ?_
          dsimp only [List.set_cons_zero, List.set_cons_succ]
          refine sU HOPS HREG 7 255 rfl HSR.out ?_
          dsimp only [List.set_cons_zero, List.set_cons_succ]
          refine sU HOPS HREG 8 511 rfl HSR.out ?_
          dsimp only [List.set_cons_zero, List.set_cons_succ]
          refine sU HOPS HREG 9 1023 rfl HSR.out ?_
          dsimp only [List.set_cons_zero, List.set_cons_succ]
          refine sU HOPS HREG 10 2047 rfl HSR.out ?_
          dsimp only [List.set_cons_zero, List.set_cons_succ]
          refine sU HOPS HREG 11 4095 rfl HSR.out ?_
          dsimp only [List.set_cons_zero, List.set_cons_succ]
          refine sU HOPS HREG 12 8191 rfl HSR.out ?_
          dsimp only [List.set_cons_zero, List.set_cons_succ]
          refine sU HOPS HREG 13 16383 rfl HSR.out ?_
          dsimp only [List.set_cons_zero, List.set_cons_succ]
          refine sQ HOPS HREG 14 32767 _ rfl HSR.out ?_
          dsimp only [List.set_cons_zero, List.set_cons_succ]
          refine stepE HOPS (by kernel_rfl) (HQ.out _ _ ?_)
          clear HQ HREG HOPS
          clear Q ops
          skip
          go_wp2
          go_roundw
          case rel => exact ⟨i + 1, k, by go_num, by go_num, by omega, HH.out, bel_drew HBR.out⟩
          case measure => simp [intOf]; omega
    · obtain rfl : i = n3 := by omega
      have hal : all.take i = all := List.take_of_length_le (by have := HN3.out; rw [← HALL.out] at this; omega)
      rw [hal] at hix
      have HE := Lib.hid (ixS_end hix)
      clear hb hix hal
      by_cases hk : k < n2
      · have HR := Lib.hid (HCK.out 1 (fun h => by rw [HE.out] at h; have := HLL.out; simp at h; omega) (fun _ => rfl))
        go_wp2
        go_ret
        exact ⟨by rw [HR.out]; rfl, HBW.out⟩
      · have HR := Lib.hid (HCK.out 0 (fun _ => rfl) (fun h => by rw [HE.out] at h; have := HLL.out; simp at h; omega))
        go_wp2
        go_ret
        exact ⟨by rw [HR.out]; rfl, HBW.out⟩
end Go.Proofs.YtbnkfljkojhkoaaGreatDoor.Idx
