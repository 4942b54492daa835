/- Joined: SqsD1, SqsM3. -/
import Derived.Test.YtllebgadhhgckaaDoorJ14
import Derived.Test.YtllebgadhhgckaaDoorJ10
import Derived.Test.YtllebgadhhgckaaDoorJ08
/- The landed seqs: isWithin, wroteOf, mayBe, follow, Check. -/
namespace Go.Proofs.YtllebgadhhgckaaDoor.Sqs
open Go.RowKit Oct RowF RowK Lay Bat InR
open Epo (At0 belA)

theorem within_is (n a b : Int) (w : World) : Calls Tryd.prog 40 #[.int .i64 n, .int .i64 a, .int .i64 b] w fun e w' => e = .returned (.bool (decide (a ≤ n ∧ n ≤ b))) ∧ w = w' := by
  by_cases h0 : a ≤ n
  · by_cases h1 : n ≤ b
    · rw [decide_eq_true ⟨h0, h1⟩]
      go_enter Tryd.func40, Tryd.ntmps40
      go_wp2
      go_ret
      exact ⟨rfl, rfl⟩
    · rw [decide_eq_false (fun h => h1 h.2)]
      go_enter Tryd.func40, Tryd.ntmps40
      go_wp2
      go_ret
      exact ⟨rfl, rfl⟩
  · rw [decide_eq_false (fun h => h0 h.1)]
    go_enter Tryd.func40, Tryd.ntmps40
    go_wp2
    go_ret
    exact ⟨rfl, rfl⟩
theorem within_at (n a b : Int) (w : World) {z : Bool} (h : decide (a ≤ n ∧ n ≤ b) = z) : Calls Tryd.prog 40 #[.int .i64 n, .int .i64 a, .int .i64 b] w fun e w' => e = .returned (.bool z) ∧ w = w' := by
  subst h; exact within_is n a b w
theorem wroteOf_is (x0 x1 x2 : Int) (w : World) : Calls Tryd.prog 53 #[.agg #[.int .i64 x0, .int .i64 x1, .int .i64 x2]] w fun e w' => e = .returned (.agg #[.int .i64 x0, .int .i64 x1, .int .i64 x2]) ∧ Below w.heap.size w w' := by
  go_enter Tryd.func53, Tryd.ntmps53
  go_wp2
  refine bodyPost_ret (v := .agg #[.int .i64 x0, .int .i64 x1, .int .i64 x2]) (by simp [results, Tryd.results53, go_sem]) rfl ?_
  exact ⟨rfl, bel_trans (belA _ _) (belA _ _)⟩
theorem cel3 {W : World} {g : Nat} {a b c : Value} {e : TypeId} (h : At0 W g [a, b, c] e) : W.cell? ⟨g, 0, none⟩ = some a ∧ W.cell? ⟨g, 1, none⟩ = some b ∧ W.cell? ⟨g, 2, none⟩ = some c := ⟨h.cell 0, h.cell 1, h.cell 2⟩
theorem idx3 (a b c : Value) (k : Nat) (v : Value) (h : #[a, b, c][k]? = some v) (i : Int) (hi : i = (k : Int)) (w : World) : (Instr.index 73 (.agg #[a, b, c]) (.int .i64 i)).run Tryd.prog w = .ok v w := by
  subst hi
  have hk : k < 3 := (Array.getElem?_eq_some_iff.1 h).1
  have hk2 : (k : Int) < 3 := by omega
  have hv := (Array.getElem?_eq_some_iff.1 h).2
  simp [Instr.index, run_underlying Tryd.underlying73, asIntOf, go_sem, hk]
  simpa using hv
def mbRel (x0 x1 x2 : Int) (W0 : World) (iv : Value) (wr : World) : Prop :=
  ∃ k : Nat, iv = .int .i64 (k : Int) ∧ k ≤ 3 ∧ (0 < k → 0 ≤ x0 ∧ x0 ≤ 1048576) ∧ (1 < k → x0 ≤ x1 ∧ x1 ≤ 1048576) ∧ (2 < k → 0 ≤ x2 ∧ x2 ≤ 1099511627776) ∧ Below W0.heap.size W0 wr
set_option maxRecDepth 100000 in
set_option maxHeartbeats 8000000 in
theorem mayBe_is (x0 x1 x2 : Int) (w : World) {z : Bool} (hz : ddOk ⟨x0, x1, x2⟩ = z) : Calls Tryd.prog 68 #[.agg #[.int .i64 x0, .int .i64 x1, .int .i64 x2]] w fun e w' => e = .returned (.bool z) ∧ Below w.heap.size w w' := by
  have HZ := Lib.hid hz
  clear hz
  go_enter Tryd.func68, Tryd.ntmps68
  go_upto_region 3 with fail
  have b1 := belA w (.cells #[.int .i64 x0, .int .i64 x1, .int .i64 x2] 58)
  have b2 := belA (w.alloc (.cells #[.int .i64 x0, .int .i64 x1, .int .i64 x2] 58)) (.cells #[.int .i64 0, .int .i64 x0, .int .i64 0] 73)
  have b3 := belA ((w.alloc (.cells #[.int .i64 x0, .int .i64 x1, .int .i64 x2] 58)).alloc (.cells #[.int .i64 0, .int .i64 x0, .int .i64 0] 73)) (.cells #[.int .i64 1048576, .int .i64 1048576, .int .i64 1099511627776] 73)
  have HD := Lib.hid (((At0.new w [.int .i64 x0, .int .i64 x1, .int .i64 x2] 58).below b2).below b3)
  have h2 := (At0.new (w.alloc (.cells #[.int .i64 x0, .int .i64 x1, .int .i64 x2] 58)) [.int .i64 0, .int .i64 x0, .int .i64 0] 73).below b3
  have h3 := At0.new ((w.alloc (.cells #[.int .i64 x0, .int .i64 x1, .int .i64 x2] 58)).alloc (.cells #[.int .i64 0, .int .i64 x0, .int .i64 0] 73)) [.int .i64 1048576, .int .i64 1048576, .int .i64 1099511627776] 73
  have HB := Lib.hid (bel_trans (bel_trans b1 b2) b3)
  simp only [World.size_alloc] at h2 h3
  have HL := Lib.hid h2
  have HM := Lib.hid h3
  clear b1 b2 b3 h2 h3
  generalize (((w.alloc (.cells #[.int .i64 x0, .int .i64 x1, .int .i64 x2] 58)).alloc (.cells #[.int .i64 0, .int .i64 x0, .int .i64 0] 73)).alloc (.cells #[.int .i64 1048576, .int .i64 1048576, .int .i64 1099511627776] 73)) = W at *
  obtain ⟨c0, c1, c2⟩ := cel3 HD.out
  go_wp2_with (go_at_call 53; (with_reducible refine (wroteOf_is x0 x1 x2 _).mono ?_); rintro e w1 ⟨rfl, hb⟩; have HB1 := Lib.hid hb; clear hb)
  clear c0 c1 c2
  go_loopw [13] (fun iv wr => mbRel x0 x1 x2 W iv wr) (fun iv _ => 3 - (intOf iv).toNat)
  case atStart => exact ⟨0, rfl, by omega, fun h => by omega, fun h => by omega, fun h => by omega, HB1.out⟩
  case round =>
    obtain ⟨k, rfl, hk, hk0, hk1, hk2, hb⟩ := hrel
    have HBR := Lib.hid hb
    have HLR := Lib.hid (HL.out.below hb)
    have HMR := Lib.hid (HM.out.below hb)
    clear hb
    by_cases hlt : k < 3
    · obtain ⟨l0, l1, l2⟩ := cel3 HLR.out
      obtain ⟨m0, m1, m2⟩ := cel3 HMR.out
      obtain rfl | rfl | rfl : k = 0 ∨ k = 1 ∨ k = 2 := by omega
      · rcases h9 : decide (0 ≤ x0 ∧ x0 ≤ 1048576) with _ | _
        · have HT := Lib.hid (show z = false from by rw [← HZ.out]; exact decide_eq_false (by have := of_decide_eq_false h9; simp only; omega))
          have H9 := Lib.hid h9
          clear h9 hk0 hk1 hk2
          have hix := idx3 (.int .i64 x0) (.int .i64 x1) (.int .i64 x2) 0 (.int .i64 x0) rfl 0 rfl
          go_upto_region 6 with fail
          go_region_with (go_at_call 40; (with_reducible refine (within_at x0 0 1048576 _ H9.out).mono ?_); rintro e w2 ⟨rfl, rfl⟩)
          all_goals go_wp2
          all_goals go_ret
          all_goals exact ⟨by rw [HT.out]; rfl, bel_drew (bel_trans HB.out HBR.out)⟩
        · have HG := Lib.hid (of_decide_eq_true h9)
          have H9 := Lib.hid h9
          have HK0 := Lib.hid hk0
          have HK1 := Lib.hid hk1
          have HK2 := Lib.hid hk2
          clear h9 hk0 hk1 hk2
          have hix := idx3 (.int .i64 x0) (.int .i64 x1) (.int .i64 x2) 0 (.int .i64 x0) rfl 0 rfl
          go_upto_region 6 with fail
          go_region_with (go_at_call 40; (with_reducible refine (within_at x0 0 1048576 _ H9.out).mono ?_); rintro e w2 ⟨rfl, rfl⟩)
          all_goals go_wp2
          all_goals go_roundw
          all_goals first | exact ⟨1, by go_num, by omega, fun h => HG.out, fun h => by omega, fun h => by omega, bel_drew HBR.out⟩ | simp [intOf]
      · rcases h9 : decide (x0 ≤ x1 ∧ x1 ≤ 1048576) with _ | _
        · have HT := Lib.hid (show z = false from by rw [← HZ.out]; exact decide_eq_false (by have := of_decide_eq_false h9; simp only; omega))
          have H9 := Lib.hid h9
          clear h9 hk0 hk1 hk2
          have hix := idx3 (.int .i64 x0) (.int .i64 x1) (.int .i64 x2) 1 (.int .i64 x1) rfl 1 rfl
          go_upto_region 6 with fail
          go_region_with (go_at_call 40; (with_reducible refine (within_at x1 x0 1048576 _ H9.out).mono ?_); rintro e w2 ⟨rfl, rfl⟩)
          all_goals go_wp2
          all_goals go_ret
          all_goals exact ⟨by rw [HT.out]; rfl, bel_drew (bel_trans HB.out HBR.out)⟩
        · have HG := Lib.hid (of_decide_eq_true h9)
          have H9 := Lib.hid h9
          have HK0 := Lib.hid hk0
          have HK1 := Lib.hid hk1
          have HK2 := Lib.hid hk2
          clear h9 hk0 hk1 hk2
          have hix := idx3 (.int .i64 x0) (.int .i64 x1) (.int .i64 x2) 1 (.int .i64 x1) rfl 1 rfl
          go_upto_region 6 with fail
          go_region_with (go_at_call 40; (with_reducible refine (within_at x1 x0 1048576 _ H9.out).mono ?_); rintro e w2 ⟨rfl, rfl⟩)
          all_goals go_wp2
          all_goals go_roundw
          all_goals first | exact ⟨2, by go_num, by omega, fun h => HK0.out (by omega), fun h => HG.out, fun h => by omega, bel_drew HBR.out⟩ | simp [intOf]
      · rcases h9 : decide (0 ≤ x2 ∧ x2 ≤ 1099511627776) with _ | _
        · have HT := Lib.hid (show z = false from by rw [← HZ.out]; exact decide_eq_false (by have := of_decide_eq_false h9; simp only; omega))
          have H9 := Lib.hid h9
          clear h9 hk0 hk1 hk2
          have hix := idx3 (.int .i64 x0) (.int .i64 x1) (.int .i64 x2) 2 (.int .i64 x2) rfl 2 rfl
          go_upto_region 6 with fail
          go_region_with (go_at_call 40; (with_reducible refine (within_at x2 0 1099511627776 _ H9.out).mono ?_); rintro e w2 ⟨rfl, rfl⟩)
          all_goals go_wp2
          all_goals go_ret
          all_goals exact ⟨by rw [HT.out]; rfl, bel_drew (bel_trans HB.out HBR.out)⟩
        · have HG := Lib.hid (of_decide_eq_true h9)
          have H9 := Lib.hid h9
          have HK0 := Lib.hid hk0
          have HK1 := Lib.hid hk1
          have HK2 := Lib.hid hk2
          clear h9 hk0 hk1 hk2
          have hix := idx3 (.int .i64 x0) (.int .i64 x1) (.int .i64 x2) 2 (.int .i64 x2) rfl 2 rfl
          go_upto_region 6 with fail
          go_region_with (go_at_call 40; (with_reducible refine (within_at x2 0 1099511627776 _ H9.out).mono ?_); rintro e w2 ⟨rfl, rfl⟩)
          all_goals go_wp2
          all_goals go_roundw
          all_goals first | exact ⟨3, by go_num, by omega, fun h => HK0.out (by omega), fun h => HK1.out (by omega), fun h => HG.out, bel_drew HBR.out⟩ | simp [intOf]
    · obtain rfl : k = 3 := by omega
      have HT := Lib.hid (show z = true from by rw [← HZ.out]; exact decide_eq_true (by have := hk0 (by omega); have := hk1 (by omega); have := hk2 (by omega); simp only; omega))
      clear hk0 hk1 hk2
      go_wp2
      go_ret
      exact ⟨by rw [HT.out]; rfl, bel_trans HB.out HBR.out⟩
end Go.Proofs.YtllebgadhhgckaaDoor.Sqs

/- What Put tells may be. Nothing of the program. -/
namespace Go.Proofs.YtllebgadhhgckaaDoor.Sqs
open Oct Rec Crc Bat Seg

theorem ddOk_b {b : Bt} (h : chB b = 0) : ddOk (didB b) = true := by
  have hf := (chB_form h).1
  have h1 := hf.seq0; have h2 := hf.seq2; have h3 := hf.base0; have h4 := hf.base1; have h5 := hf.le
  unfold ddOk
  exact decide_eq_true (by simp only [didB, lastN]; omega)
theorem five_ok {l : List Dd} (h : chD none l = true) (hl : l.length ≤ 6) : didOk (five l) = true := by
  unfold five
  split
  · cases l with
    | nil => rfl
    | cons d l =>
      show didOk l = true
      unfold didOk
      rw [chD_tail h, decide_eq_true (by rw [List.length_cons] at hl; omega)]
      rfl
  · unfold didOk
    rw [h, decide_eq_true (by omega)]
    rfl
theorem find_ok {l : List Pd} {v : Int} {p : Pd} (hC : ckP l = 0) (h : findP l v = some p) : didOk p.did = true ∧ (0 ≤ p.pid ∧ p.pid ≤ 1099511627776) ∧ (0 ≤ p.gen ∧ p.gen ≤ 1048576) := by
  have h1 := chP_mem (ckP_iff.1 hC).2 p (findP_some h).1
  exact ⟨h1.2.2.2, h1.2.1, h1.2.2.1⟩
theorem look_ok {l : List Pd} {b : Bt} {x : Int} {t : Bool} (h : lookP l b = (x, t, 0)) : ckP l = 0 ∧ chB b = 0 := by
  unfold lookP at h
  by_cases h1 : ckP l = 0
  · rw [if_neg (fun h9 => h9 h1)] at h
    by_cases h2 : chB b = 0
    · exact ⟨h1, h2⟩
    · rw [if_pos h2] at h
      exact absurd (by simpa using congrArg (·.2.2) h) h2
  · rw [if_pos h1] at h
    exact absurd (by simpa using congrArg (·.2.2) h) h1
theorem written_ok {l : List Pd} {b : Bt} {x : Int} (h : lookP l b = (x, false, 0)) (hp : b.pid ≠ -1) : didOk (writtenP l b).did = true := by
  obtain ⟨hC, hB⟩ := look_ok h
  have hd := ddOk_b hB
  show didOk (five _) = true
  cases hf : findP l b.pid with
  | none =>
    have hfr : freshP l b = true := by unfold freshP; rw [hf]
    rw [hfr]
    by_cases hc : b.ctl = 0
    · rw [if_pos rfl, if_pos hc]
      exact five_ok (by show (ddOk (didB b) && nextD none (didB b)) && chD (some (lastN b)) [] = true; rw [hd]; rfl) (by simp)
    · rw [if_pos rfl, if_neg hc]; rfl
  | some p =>
    obtain ⟨hok, _, _⟩ := find_ok hC hf
    have hok2 := hok
    unfold didOk at hok2
    rw [Bool.and_eq_true, decide_eq_true_eq] at hok2
    by_cases hfr : freshP l b = true
    · rw [hfr]
      by_cases hc : b.ctl = 0
      · rw [if_pos rfl, if_pos hc]
        exact five_ok (by show (ddOk (didB b) && nextD none (didB b)) && chD (some (lastN b)) [] = true; rw [hd]; rfl) (by simp)
      · rw [if_pos rfl, if_neg hc]; rfl
    · rw [if_neg hfr]
      by_cases hc : b.ctl = 0
      · rw [if_pos hc]
        refine five_ok (chD_snoc.2 ⟨hok2.1, hd, ?_⟩) (by rw [List.length_append]; simp only [List.length_singleton]; omega)
        unfold lookP at h
        rw [if_neg (fun h9 => h9 hC), if_neg (fun h9 => h9 hB), if_neg hp, hf] at h
        simp only at h
        have hnf : ¬ (p.gen < b.gen ∨ p.did = []) := fun h9 => hfr (by
          unfold freshP; rw [hf]; simp only
          rcases h9 with h9 | h9
          · rw [decide_eq_true h9]; rfl
          · rw [h9]; simp)
        have hng : ¬ b.gen < p.gen := fun h9 => by
          rw [if_pos h9] at h
          exact absurd (congrArg (·.2.2) h) (by simp)
        rw [if_neg hng, if_neg (fun h9 => h9 hc), if_neg hnf] at h
        unfold seqP at h
        cases hfd : p.did.find? fun x => decide (x.sq = b.seq ∧ x.la = lastN b) with
        | some y => rw [hfd] at h; exact absurd (congrArg (·.2.1) h) (by simp)
        | none =>
          rw [hfd] at h
          simp only at h
          cases hg : p.did.getLast? with
          | none => exact absurd (List.getLast?_eq_none_iff.1 hg) (fun h9 => hnf (.inr h9))
          | some y =>
            rw [hg] at h
            simp only at h
            by_cases hs : b.seq = y.la + 1
            · exact decide_eq_true hs
            · rw [if_neg hs] at h
              exact absurd (congrArg (·.2.2) h) (by simp)
      · rw [if_neg hc, List.append_nil]
        exact five_ok hok2.1 (by show p.did.length ≤ 6; omega)
theorem put_ok {l m : List Pd} {b : Bt} (h : putP l b = (m, 0)) : ckP m = 0 := by
  unfold putP at h
  rcases hL : lookP l b with ⟨x, t, e⟩
  rw [hL] at h
  simp only at h
  by_cases he : e = 0
  case neg =>
    rw [if_pos he] at h
    exact absurd (congrArg (·.2) h) he
  subst he
  rw [if_neg (fun h9 => h9 rfl)] at h
  obtain ⟨hC, hB⟩ := look_ok hL
  by_cases hf : fullP l b = true
  · rw [if_pos hf] at h
    exact absurd (congrArg (·.2) h) (by simp)
  rw [if_neg hf] at h
  by_cases ht : t = true ∨ b.pid = -1
  · rw [if_pos ht] at h
    obtain rfl : l = m := congrArg (·.1) h
    exact hC
  rw [if_neg ht] at h
  obtain rfl : withP l (writtenP l b) = m := congrArg (·.1) h
  have hp : b.pid ≠ -1 := fun h9 => ht (.inr h9)
  have htf : t = false := by cases t with | true => exact absurd (.inl rfl) ht | false => rfl
  subst htf
  have hw := written_ok hL hp
  have hc := ckP_iff.1 hC
  have hfm := (chB_form hB).1
  have h1 := hfm.pid0; have h2 := hfm.pid1; have h3 := hfm.gen0; have h4 := hfm.gen1
  rw [ckP_iff]
  refine ⟨?_, with_ch hc.2 ?_⟩
  · cases hfd : findP l b.pid with
    | some q => rw [with_len2 (p := writtenP l b) hc.2 hfd]; exact hc.1
    | none =>
      have h5 := with_len l (writtenP l b)
      have h6 : ¬ 1024 ≤ l.length := fun h9 => hf (by unfold fullP; exact decide_eq_true ⟨hp, hfd, h9⟩)
      omega
  · rw [chP_cons]
    exact ⟨⟨⟨⟨by show 0 ≤ b.pid; omega, h2⟩, ⟨h3, h4⟩, by show -1 < b.pid; omega⟩, hw⟩, rfl⟩
end Go.Proofs.YtllebgadhhgckaaDoor.Sqs
