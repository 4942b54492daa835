/- Joined: EpoL8. -/
import Derived.Test.YtmjnleohchmadaaEpoV
import Derived.Test.YtmjnleohchmadaaEpoD5
import Derived.Test.YtmjnleohchmadaaEpoD6
import Derived.Test.YtmjnleohchmadaaEpoLog
import Derived.Test.YtmjnleohchmadaaSegSA
import Derived.Test.YtmjnleohchmadaaJOct
import Derived.Deep.DeepCutAuto
/- The walk of EpochSafe. -/
namespace Go.Proofs.Ytmjnleohchmadaa.Epo
open Go.RowKit Go.Proofs.Ytmjnleohchmadaa.Oct Go.Proofs.Ytmjnleohchmadaa.RowF Go.Proofs.Ytmjnleohchmadaa.Lay Go.Proofs.Ytmjnleohchmadaa.InR Go.Proofs.Ytmjnleohchmadaa.Bat Go.Proofs.Ytmjnleohchmadaa.Seg

theorem ofE_len (l : List Ep) (ps : List (Int × Int)) : (ofE l ps).length ≤ l.length + ps.length := by
  induction ps generalizing l with
  | nil => exact Nat.le_refl _
  | cons p ps ih =>
    rw [List.length_cons]
    show (ofE (if (putE l p.1 p.2).2 = 0 then (putE l p.1 p.2).1 else l) ps).length ≤ _
    refine Nat.le_trans (ih _) ?_
    have h := putE_len (show putE l p.1 p.2 = ((putE l p.1 p.2).1, (putE l p.1 p.2).2) from rfl)
    split <;> omega
theorem psL_len (l : List Lb) : (psL l).length = l.length := by unfold psL; rw [List.length_map]
theorem rdUp0 {w w' : World} {A : Option Addr} {n : Nat} {l : List UInt8} (h : Rd w w.heap.size A n l) (hb : Below w.heap.size w w') : Rd w' w'.heap.size A n l := (h.below hb (Nat.le_refl _)).more hb.size
theorem rdbUp {w w' : World} {A : Option Addr} {n : Nat} {l : List Lb} (h : RdB w w.heap.size A n l) (hb : Below w.heap.size w w') : RdB w' w'.heap.size A n l := (RdF.below h hb (Nat.le_refl _)).more hb.size
theorem ownB_one (w : World) (c : UInt8) (B : Nat) (hB : B ≤ w.heap.size) : OwnB (w.alloc (.cells #[bv c] 5)) 5 B (.slice (some ⟨w.heap.size, 0, none⟩) 1 1) 1 [c] := by
  have h1 := World.ownsRow_lit (base := B) (e := 5) (size := 1) w #[bv c] 1 hB (by unfold maxLen; omega) (by simp)
  simpa [OwnB] using h1
theorem run_more (w : World) (A : Option Addr) (n c : Nat) (l : List UInt8) (hr : Rd w w.heap.size A n l) (hn : n ≤ 100) :
    ∃ A' m c' w', m = n + 1 ∧ (Builtin.append_ #[42, 42] 42 #[.slice (some ⟨w.heap.size, 0, none⟩) 1 1, .slice A n c]).run Try.prog (w.alloc (.cells #[.int .u8 0] 5)) = .ok (.slice A' m c') w' ∧ Rd w' w'.heap.size A' m (0 :: l) ∧ Below w.heap.size w w' := by
  have hb := belA w (.cells #[.int .u8 0] 5)
  obtain ⟨A', c', w', k1, k2, k3⟩ := run_appB (P := Try.prog) (w := w.alloc (.cells #[.int .u8 0] 5)) w.heap.size 42 42 5 Try.underlying42 u8row _ 1 [0] (ownB_one w 0 w.heap.size (Nat.le_refl _)) w.heap.size A n c l (hr.below hb (Nat.le_refl _)) (by omega) hb.size
  refine ⟨A', n + 1, c', w', rfl, ?_, ?_, hb.trans k3⟩
  · rw [Nat.add_comm n 1]; exact k1
  · rw [Nat.add_comm n 1]; exact OwnB.rd k2
set_option maxRecDepth 100000 in
set_option maxHeartbeats 8000000 in
theorem epochSafe_walk (A B E : Option Addr) (n c n2 c2 n3 c3 : Nat) (sm xs ys : List UInt8) (w : World) (hr : Rd w w.heap.size A n sm) (hr2 : Rd w w.heap.size B n2 xs) (hr3 : Rd w w.heap.size E n3 ys) :
    Calls Try.prog 6 #[.slice A n c, .slice B n2 c2, .slice E n3 c3] w fun e w' => e = .returned (.bool true) ∧ Below w.heap.size w w' := by
  have HR0 := Lib.hid hr
  have HX0 := Lib.hid hr2
  have HY0 := Lib.hid hr3
  have HB0 := Lib.hid (Below.refl w.heap.size w)
  have hl1 := hr.len
  have hl2 := hr2.len
  have hl3 := hr3.len
  clear hr hr2 hr3
  by_cases h1 : ¬ (n : Int) ≤ 30
  case pos =>
    have h1' : (30 : Int) < (n : Int) := by omega
    clear hl1 hl2 hl3
    go_enter Try.func6, Try.ntmps6
    go_wp2_with (go_at_call 11; (with_reducible refine (live_any _).mono ?_); rintro e w1 ⟨rfl, hb⟩; have HB1 := Lib.hid (bel_trans HB0.out hb); have HR1 := Lib.hid (rdUp0 HR0.out hb); have HX1 := Lib.hid (rdUp0 HX0.out hb); have HY1 := Lib.hid (rdUp0 HY0.out hb); clear hb)
    go_ret
    exact ⟨rfl, HB1.out⟩
  have h1' : ¬ (30 : Int) < (n : Int) := by omega
  have h19 : n ≤ 30 := by omega
  clear h1
  by_cases h2 : ¬ (n2 : Int) ≤ 30
  case pos =>
    have h2' : (30 : Int) < (n2 : Int) := by omega
    clear hl1 hl2 hl3
    go_enter Try.func6, Try.ntmps6
    go_wp2_with (go_at_call 11; (with_reducible refine (live_any _).mono ?_); rintro e w1 ⟨rfl, hb⟩; have HB1 := Lib.hid (bel_trans HB0.out hb); have HR1 := Lib.hid (rdUp0 HR0.out hb); have HX1 := Lib.hid (rdUp0 HX0.out hb); have HY1 := Lib.hid (rdUp0 HY0.out hb); clear hb)
    go_ret
    exact ⟨rfl, HB1.out⟩
  have h2' : ¬ (30 : Int) < (n2 : Int) := by omega
  have h29 : n2 ≤ 30 := by omega
  clear h2
  by_cases h3 : ¬ (n3 : Int) ≤ 30
  case pos =>
    have h3' : (30 : Int) < (n3 : Int) := by omega
    clear hl1 hl2 hl3
    go_enter Try.func6, Try.ntmps6
    go_wp2_with (go_at_call 11; (with_reducible refine (live_any _).mono ?_); rintro e w1 ⟨rfl, hb⟩; have HB1 := Lib.hid (bel_trans HB0.out hb); have HR1 := Lib.hid (rdUp0 HR0.out hb); have HX1 := Lib.hid (rdUp0 HX0.out hb); have HY1 := Lib.hid (rdUp0 HY0.out hb); clear hb)
    go_ret
    exact ⟨rfl, HB1.out⟩
  have h3' : ¬ (30 : Int) < (n3 : Int) := by omega
  have h39 : n3 ≤ 30 := by omega
  clear h3
  obtain ⟨bo, hbo⟩ : ∃ bo, logL 0 1 1 0 sm = bo := ⟨_, rfl⟩
  have hbl : bo.length = n := by rw [← hbo, logL_len]; exact hl1
  obtain ⟨la, hla⟩ : ∃ la, lastL bo = la := ⟨_, rfl⟩
  have hlr : 1 ≤ la ∧ la ≤ 61 := by
    rw [← hla, ← hbo]
    unfold lastL
    cases hl : (logL 0 1 1 0 sm).getLast? with
    | none => simp
    | some x => have := logL_high sm 1 0 x hl; simp only [Option.map_some, Option.getD_some]; omega
  obtain ⟨ev, hev⟩ : ∃ ev, la + 2 - la % 2 = ev := ⟨_, rfl⟩
  obtain ⟨od, hod⟩ : ∃ od, la + 1 + la % 2 = od := ⟨_, rfl⟩
  have HBO := Lib.hid hbo
  have HFB := Lib.hid (show ∀ x ∈ bo, I64 x.ba ∧ I64 x.ep by rw [← hbo]; exact logL_fit (.inl rfl) (by omega) sm 1 0 (by omega) (by omega) (by omega))
  obtain ⟨m1, hm1⟩ : ∃ m1, (moreL xs).length = m1 := ⟨_, rfl⟩
  obtain ⟨m2, hm2⟩ : ∃ m2, (moreL ys).length = m2 := ⟨_, rfl⟩
  have hm1' : m1 ≤ 31 := by have := moreL_len xs; omega
  have hm2' : m2 ≤ 31 := by have := moreL_len ys; omega
  have HFA := Lib.hid (show ∀ x ∈ bo ++ logL (n : Int) 2 ev 0 (moreL xs), I64 x.ba ∧ I64 x.ep from fun x hx => by
    rcases List.mem_append.1 hx with h | h
    · exact HFB.out x h
    · exact logL_fit (.inr rfl) (by omega) (moreL xs) ev 0 (by omega) (by omega) (by omega) x h)
  have HFC := Lib.hid (show ∀ x ∈ bo ++ logL (n : Int) 2 od 0 (moreL ys), I64 x.ba ∧ I64 x.ep from fun x hx => by
    rcases List.mem_append.1 hx with h | h
    · exact HFB.out x h
    · exact logL_fit (.inr rfl) (by omega) (moreL ys) od 0 (by omega) (by omega) (by omega) x h)
  have HM := Lib.hid (show meetE (ofE [] (psB ((bo ++ logL (n : Int) 2 ev 0 (moreL xs)).map lbB))) ((n + m1 : Nat) : Int) (ofE [] (psB ((bo ++ logL (n : Int) 2 od 0 (moreL ys)).map lbB))) ((n + m2 : Nat) : Int) = (n : Int) from by
    have h := safe_meet sm xs ys (by omega) (by omega) (by omega) (ev := ev) (od := od) (by rw [hbo, hla]; exact hev.symm) (by rw [hbo, hla]; exact hod.symm)
    rw [hbo, hl1, hm1, hm2] at h
    rw [psB_lb, psB_lb]
    exact h)
  have HLT := Lib.hid (show ∀ x, bo[n - 1]? = some x → 0 < n → la = x.ep from fun x hx h0 => by rw [← hla]; unfold lastL; rw [List.getLast?_eq_getElem?, hbl, hx]; rfl)
  have HL0 := Lib.hid (show n = 0 → la = 1 from fun h0 => by rw [← hla, List.length_eq_zero_iff.1 (hbl.trans h0)]; rfl)
  have hI1 : (n2 = 0 → xs = []) := fun h => List.length_eq_zero_iff.1 (hl2.trans h)
  have hI2 : (n3 = 0 → ys = []) := fun h => List.length_eq_zero_iff.1 (hl3.trans h)
  have HX1E := Lib.hid (show n2 = 0 → moreL xs = xs ∧ m1 = 0 from fun h => by have := hI1 h; subst this; exact ⟨rfl, hm1.symm⟩)
  have HY1E := Lib.hid (show n3 = 0 → moreL ys = ys ∧ m2 = 0 from fun h => by have := hI2 h; subst this; exact ⟨rfl, hm2.symm⟩)
  have HX1M := Lib.hid (show 0 < n2 → moreL xs = 0 :: xs ∧ m1 = n2 + 1 from fun h => by have h9 : moreL xs = 0 :: xs := (by unfold moreL; rw [if_neg (fun h8 => by rw [h8] at hl2; simp only [List.length_nil] at hl2; omega)]); exact ⟨h9, by rw [← hm1, h9, List.length_cons]; omega⟩)
  have HY1M := Lib.hid (show 0 < n3 → moreL ys = 0 :: ys ∧ m2 = n3 + 1 from fun h => by have h9 : moreL ys = 0 :: ys := (by unfold moreL; rw [if_neg (fun h8 => by rw [h8] at hl3; simp only [List.length_nil] at hl3; omega)]); exact ⟨h9, by rw [← hm2, h9, List.length_cons]; omega⟩)
  have HBL := Lib.hid hbl
  have hmod : la.tmod 2 = la % 2 := Int.tmod_eq_emod_of_nonneg (by omega)
  have HEV := Lib.hid hev
  have HOD := Lib.hid hod
  have hxs : xs.length ≤ 30 := by omega
  have hys : ys.length ≤ 30 := by omega
  clear hbo hla hev hod hm1 hm2 hI1 hI2 hl1 hl2 hl3 hbl
  go_enter Try.func6, Try.ntmps6
  go_upto_if 33 with (first
    | (go_at_call 11; (with_reducible refine (live_any _).mono ?_); rintro e w1 ⟨rfl, hb⟩; have HB1 := Lib.hid (bel_trans HB0.out hb); have HR1 := Lib.hid (rdUp0 HR0.out hb); have HX1 := Lib.hid (rdUp0 HX0.out hb); have HY1 := Lib.hid (rdUp0 HY0.out hb); clear hb)
    | (go_at_call 30; (with_reducible refine (log_is 0 1 1 A n c sm _ HR1.out (by omega) (by omega) (by omega) (.inl rfl)).mono ?_); rintro e w2 ⟨A7, m7, c7, rfl, rfl, ho, hb⟩; have HB2 := Lib.hid (bel_trans HB1.out hb); have HX2 := Lib.hid (rdUp0 HX1.out hb); have HY2 := Lib.hid (rdUp0 HY1.out hb); have HO2 := Lib.hid (show RdB w2 w2.heap.size A7 n bo from HBO.out ▸ OwnF.rd lbS ho); clear hb ho))
  go_cut [8] (fun s8 wx => s8 = .int .i64 la ∧ RdB wx wx.heap.size A7 n bo ∧ Rd wx wx.heap.size B n2 xs ∧ Rd wx wx.heap.size E n3 ys ∧ Below w.heap.size w wx)
  case first =>
    by_cases hp : 0 < n
    · obtain ⟨b, o, x, rfl, hbl, hxk, hc⟩ := RdF.at HO2.out (k := n - 1) (by omega)
      have hla : la = x.ep := HLT.out x hxk hp
      have d3 : w2.cell? ⟨b, o + (n - 1) * 10 + 3, none⟩ = some (.int .i64 la) := hla ▸ hc 3 _ rfl
      have hw1 : IntKind.i64.wrap ((n : Int) - 1) = (n : Int) - 1 := IntWalk.i64_in _ (by omega)
      have hp0 : (0 : Int) < (n : Int) := by omega
      have hp1 : (0 : Int) ≤ (n : Int) - 1 := by omega
      have hp2 : (1 : Int) ≤ (n : Int) := by omega
      have hp3 : (n : Int) - 1 < (n : Int) := by omega
      have hp5 : ((n : Int) - 1).toNat = n - 1 := by omega
      clear hc hxk hla
      go_wp2
      go_meet
      exact ⟨rfl, HO2.out, HX2.out, HY2.out, HB2.out⟩
    · have hp0 : ¬ (0 : Int) < (n : Int) := by omega
      have hla : la = 1 := HL0.out (by omega)
      go_wp2
      go_meet
      exact ⟨by rw [hla], HO2.out, HX2.out, HY2.out, HB2.out⟩
  case rest =>
  obtain ⟨rfl, ho3, hx3, hy3, hb3⟩ := hcut
  rename World => w3
  have HB3 := Lib.hid hb3
  have HX3 := Lib.hid hx3
  have HY3 := Lib.hid hy3
  have HO3 := Lib.hid ho3
  clear hb3 hx3 hy3 ho3 HX2 HY2 HO2 HB2
  have he1 : IntKind.i64.wrap (la + 2) = la + 2 := IntWalk.i64_in _ (by omega)
  have he2 : IntKind.i64.wrap (la + 1) = la + 1 := IntWalk.i64_in _ (by omega)
  have he3 : IntKind.i64.wrap (la + 2 - la % 2) = ev := by rw [HEV.out]; exact IntWalk.i64_in _ (by have := HEV.out; omega)
  have he4 : IntKind.i64.wrap (la + 1 + la % 2) = od := by rw [HOD.out]; exact IntWalk.i64_in _ (by have := HOD.out; omega)
  have hevr : 0 ≤ ev ∧ ev ≤ 1000 := by have := HEV.out; omega
  have hodr : 0 ≤ od ∧ od ≤ 1000 := by have := HOD.out; omega
  go_upto_if 53 with fail
  go_cut [1] (fun s wx => ∃ Az cz, s = .slice Az m1 cz ∧ Rd wx wx.heap.size Az m1 (moreL xs) ∧ RdB wx wx.heap.size A7 n bo ∧ Rd wx wx.heap.size E n3 ys ∧ Below w.heap.size w wx)
  case first =>
    by_cases hp : 0 < n2
    · obtain ⟨hx1, hx2⟩ := HX1M.out hp
      obtain ⟨A5, m5, c5, w5, hm5, hrun, hr5, hb5⟩ := run_more w3 B n2 c2 xs HX3.out (by omega)
      obtain rfl : m1 = m5 := by omega
      have HR5 := Lib.hid hr5
      have HBX := Lib.hid hb5
      have HXX := Lib.hid hx1
      have hp0 : (0 : Int) < (n2 : Int) := by omega
      clear hr5 hb5 hx1 hm5 hx2
      go_wp2_with (at_builtin; refine wpList_app_run rfl _ _ 42 rfl rfl rfl hrun ?_)
      go_meet
      exact ⟨A5, c5, rfl, HXX.out ▸ HR5.out, rdbUp HO3.out HBX.out, rdUp0 HY3.out HBX.out, bel_trans HB3.out HBX.out⟩
    · obtain ⟨hx1, hx2⟩ := HX1E.out (by omega)
      have hp0 : ¬ (0 : Int) < (n2 : Int) := by omega
      have HXX := Lib.hid hx1
      obtain rfl : n2 = m1 := by omega
      clear hx1 hx2
      go_wp2
      go_meet
      exact ⟨B, c2, rfl, by rw [HXX.out]; exact HX3.out, HO3.out, HY3.out, HB3.out⟩
  case rest =>
  obtain ⟨Ax, cx, rfl, hx4, ho4, hy4, hb4⟩ := hcut
  rename World => w4
  have HB4 := Lib.hid hb4
  have HX4 := Lib.hid hx4
  have HY4 := Lib.hid hy4
  have HO4 := Lib.hid ho4
  clear hb4 hx4 hy4 ho4 HX3 HY3 HO3 HB3
  go_upto_if 59 with fail
  go_cut [2] (fun s wx => ∃ Az cz, s = .slice Az m2 cz ∧ Rd wx wx.heap.size Az m2 (moreL ys) ∧ RdB wx wx.heap.size A7 n bo ∧ Rd wx wx.heap.size Ax m1 (moreL xs) ∧ Below w.heap.size w wx)
  case first =>
    by_cases hp : 0 < n3
    · obtain ⟨hx1, hx2⟩ := HY1M.out hp
      obtain ⟨A5, m5, c5, w5, hm5, hrun, hr5, hb5⟩ := run_more w4 E n3 c3 ys HY4.out (by omega)
      obtain rfl : m2 = m5 := by omega
      have HR5 := Lib.hid hr5
      have HBX := Lib.hid hb5
      have HXX := Lib.hid hx1
      have hp0 : (0 : Int) < (n3 : Int) := by omega
      clear hr5 hb5 hx1 hm5 hx2
      go_wp2_with (at_builtin; refine wpList_app_run rfl _ _ 42 rfl rfl rfl hrun ?_)
      go_meet
      exact ⟨A5, c5, rfl, HXX.out ▸ HR5.out, rdbUp HO4.out HBX.out, rdUp0 HX4.out HBX.out, bel_trans HB4.out HBX.out⟩
    · obtain ⟨hx1, hx2⟩ := HY1E.out (by omega)
      have hp0 : ¬ (0 : Int) < (n3 : Int) := by omega
      have HXX := Lib.hid hx1
      obtain rfl : n3 = m2 := by omega
      clear hx1 hx2
      go_wp2
      go_meet
      exact ⟨E, c3, rfl, by rw [HXX.out]; exact HY4.out, HO4.out, HX4.out, HB4.out⟩
  case rest =>
  obtain ⟨Ay, cy, rfl, hy5, ho5, hx5, hb5⟩ := hcut
  rename World => w5
  have HB5 := Lib.hid hb5
  have HX5 := Lib.hid hx5
  have HY5 := Lib.hid hy5
  have HO5 := Lib.hid ho5
  clear hb5 hx5 hy5 ho5 HX4 HY4 HO4 HB4
  obtain ⟨Aa0, ka0, ca0, w8, hk0, hruna0, ho0, hb0⟩ := run_appL (w := w5) w5.heap.size OwnF.nil w5.heap.size A7 n c7 bo HO5.out (by omega) (Nat.le_refl _)
  rw [List.nil_append] at ho0
  obtain rfl : n = ka0 := by omega
  have HQa0 := Lib.hid ho0
  have HUa0 := Lib.hid hruna0
  clear hruna0
  have HBa0 := Lib.hid hb0
  have HXa0 := Lib.hid (rdUp0 HX5.out hb0)
  clear ho0 hb0 hk0
  go_upto_region 15 with (first
    | (at_builtin; refine wpList_app_run rfl _ _ 37 rfl rfl rfl HUa2.out ?_)
    | (at_builtin; refine wpList_app_run rfl _ _ 37 rfl rfl rfl HUa0.out ?_)
    | (go_at_call 30; (with_reducible refine (log_is (n : Int) ev 2 Ax m1 cx (moreL xs) w8 HXa0.out (by omega) (by omega) (by omega) (.inr rfl)).mono ?_); rintro e w9 ⟨Aa1, ma1, ca1, rfl, hm9, ho, hb⟩; have hs0 := HBa0.out.size; have hs9 := hb.size; obtain ⟨Aa2, ka2, ca2, w10, hka2, hruna2, ho2, hb2⟩ := run_appL (w := w9) w5.heap.size (OwnF.below HQa0.out hb) w9.heap.size Aa1 ma1 ca1 (logL (n : Int) 2 ev 0 (moreL xs)) (OwnF.rd lbS ho) (by omega) (by omega); have HUa2 := Lib.hid hruna2; clear hruna2; have hcpa2 := OwnF.cap ho2; have HRa2 := Lib.hid (OwnF.rd lbS ho2); have HBBa := Lib.hid ((HBa0.out.trans (hb.mono hs0)).trans hb2); have HKa3 := Lib.hid (show ka2 = n + m1 from (by omega)); clear ho ho2 hb hb2 hs9 hs0 hka2 hm9))
  have HB10 := Lib.hid (bel_trans HB5.out HBBa.out)
  have HO10 := Lib.hid (rdbUp HO5.out HBBa.out)
  have HY10 := Lib.hid (rdUp0 HY5.out HBBa.out)
  obtain ⟨Ab0, kb0, cb0, w13, hk0, hrunb0, ho0, hb0⟩ := run_appL (w := w10) w10.heap.size OwnF.nil w10.heap.size A7 n c7 bo HO10.out (by omega) (Nat.le_refl _)
  rw [List.nil_append] at ho0
  obtain rfl : n = kb0 := by omega
  have HQb0 := Lib.hid ho0
  have HUb0 := Lib.hid hrunb0
  clear hrunb0
  have HBb0 := Lib.hid hb0
  have HXb0 := Lib.hid (rdUp0 HY10.out hb0)
  clear ho0 hb0 hk0
  go_upto_region 16 with (first
    | (at_builtin; refine wpList_app_run rfl _ _ 37 rfl rfl rfl HUb2.out ?_)
    | (at_builtin; refine wpList_app_run rfl _ _ 37 rfl rfl rfl HUb0.out ?_)
    | (go_at_call 30; (with_reducible refine (log_is (n : Int) od 2 Ay m2 cy (moreL ys) w13 HXb0.out (by omega) (by omega) (by omega) (.inr rfl)).mono ?_); rintro e w14 ⟨Ab1, mb1, cb1, rfl, hm9, ho, hb⟩; have hs0 := HBb0.out.size; have hs9 := hb.size; obtain ⟨Ab2, kb2, cb2, w15, hkb2, hrunb2, ho2, hb2⟩ := run_appL (w := w14) w10.heap.size (OwnF.below HQb0.out hb) w14.heap.size Ab1 mb1 cb1 (logL (n : Int) 2 od 0 (moreL ys)) (OwnF.rd lbS ho) (by omega) (by omega); have HUb2 := Lib.hid hrunb2; clear hrunb2; have hcpb2 := OwnF.cap ho2; have HRb2 := Lib.hid (OwnF.rd lbS ho2); have HBBb := Lib.hid ((HBb0.out.trans (hb.mono hs0)).trans hb2); have HKb3 := Lib.hid (show kb2 = n + m2 from (by omega)); clear ho ho2 hb hb2 hs9 hs0 hkb2 hm9))
  have HB15 := Lib.hid (bel_trans HB10.out HBBb.out)
  have HRa3 := Lib.hid (rdbUp HRa2.out HBBb.out)
  have HTa := Lib.hid (rdT_lb HRa3.out HFA.out)
  have HTb := Lib.hid (rdT_lb HRb2.out HFC.out)
  have hka3 := HKa3.out
  have hkb3 := HKb3.out
  have hM := HM.out
  rw [← hka3, ← hkb3] at hM
  have HM2 := Lib.hid hM
  have HSA := Lib.hid (show eqT (((bo ++ logL (n : Int) 2 ev 0 (moreL xs)).map lbB).take n) (((bo ++ logL (n : Int) 2 od 0 (moreL ys)).map lbB).take n) = true from by
    have h : ∀ l : List Lb, ((bo ++ l).map lbB).take n = bo.map lbB := fun l => by rw [List.map_append, List.take_left' (by rw [List.length_map]; exact HBL.out)]
    rw [h, h]; exact eqT_self _)
  have HN16 := Lib.hid (show (ofE [] (psB ((bo ++ logL (n : Int) 2 ev 0 (moreL xs)).map lbB))).length ≤ 1000 from Nat.le_trans (ofE_len _ _) (by rw [psB_lb, psL_len, List.length_append, logL_len, HBL.out, List.length_nil]; have := moreL_len xs; omega))
  have HN17 := Lib.hid (show (ofE [] (psB ((bo ++ logL (n : Int) 2 od 0 (moreL ys)).map lbB))).length ≤ 1000 from Nat.le_trans (ofE_len _ _) (by rw [psB_lb, psL_len, List.length_append, logL_len, HBL.out, List.length_nil]; have := moreL_len ys; omega))
  have hka : ka2 ≤ 1000 := by omega
  have hkb : kb2 ≤ 1000 := by omega
  have g0 : ¬ (n : Int) < 0 := by omega
  have g1 : ¬ (ka2 : Int) < (n : Int) := by omega
  have g2 : ¬ (kb2 : Int) < (n : Int) := by omega
  have g3 : (n : Int) ≤ (ca2 : Int) := by omega
  have g4 : (n : Int) ≤ (cb2 : Int) := by omega
  have g5 : n ≤ ka2 := by omega
  have g6 : n ≤ kb2 := by omega
  have g7 : (0 : Int) ≤ (n : Int) := by omega
  clear hM HM HUa0 HUa2 HUb0 HUb2 HRa2 HRa3 HRb2 hka3 hkb3 HFA HFC HFB HBO HX1E HY1E HX1M HY1M HLT HL0 hmod he1 he2 he3 he4 HX0 HY0
  go_upto_region 17 with (first
    | (go_at_call 28; (with_reducible refine (dOf_is Ab2 kb2 cb2 _ w16 HTb16.out (by omega)).mono ?_); rintro e w17 ⟨A17, n17, c17, rfl, ho, hb⟩; have HB17 := Lib.hid (bel_trans HB16.out hb); have HTa17 := Lib.hid (rdtUp9 HTa16.out hb); have HTb17 := Lib.hid (rdtUp9 HTb16.out hb); have HU17 := Lib.hid (rdeUp HU16.out hb); have HV17 := Lib.hid (OwnF.rd epS ho); have hn17 := OwnF.len epS ho; have hcp17 := OwnF.cap ho; have hn17' : n17 ≤ 1000000 := (by have := HN17.out; omega); clear hb ho hn17)
    | (go_at_call 28; (with_reducible refine (dOf_is Aa2 ka2 ca2 _ w15 HTa.out (by omega)).mono ?_); rintro e w16 ⟨A16, n16, c16, rfl, ho, hb⟩; have HB16 := Lib.hid (bel_trans HB15.out hb); have HTa16 := Lib.hid (rdtUp9 HTa.out hb); have HTb16 := Lib.hid (rdtUp9 HTb.out hb); have HU16 := Lib.hid (OwnF.rd epS ho); have hn16 := OwnF.len epS ho; have hn16' : n16 ≤ 1000000 := (by have := HN16.out; omega); clear hb ho hn16)
    | (go_at_call 26; (with_reducible refine (dMeet_is A16 A17 n16 c16 n17 c17 _ _ (ka2 : Int) (kb2 : Int) w17 HU17.out HV17.out hn16' hn17' hcp17 HM2.out).mono ?_); rintro e w18 ⟨rfl, hb⟩; have HB18 := Lib.hid (bel_trans HB17.out hb); have HTa18 := Lib.hid (rdtUp9 HTa17.out hb); have HTb18 := Lib.hid (rdtUp9 HTb17.out hb); clear hb))
  have hmx : Try.prog.follows .mixedOrders = true := by kernel_rfl
  by_cases hp : (0 : Int) < (n : Int)
  all_goals go_upto_region 19 with fail
  all_goals have hbd := (Below.refl w18.heap.size w18).drew
  all_goals have HTa19 := Lib.hid (RdT.take (rdtUp9 HTa18.out hbd) g5)
  all_goals have HTb19 := Lib.hid (RdT.take (rdtUp9 HTb18.out hbd) g6)
  all_goals have HB19 := Lib.hid (bel_trans HB18.out hbd)
  all_goals clear hbd HTa18 HTb18
  all_goals rcases Aa2 with _ | ⟨ab, ao, al⟩
  all_goals rcases Ab2 with _ | ⟨bb, bo', bl⟩
  all_goals go_region_with (go_at_call 31; (with_reducible refine (SameAll_is _ _ n ca2 n cb2 _ _ w18.drew HTa19.out HTb19.out (by omega) (by omega) HSA.out).mono ?_); rintro e w20 ⟨rfl, hb⟩)
  all_goals go_wp2
  all_goals go_ret
  all_goals exact ⟨rfl, bel_trans HB19.out hb⟩
end Go.Proofs.Ytmjnleohchmadaa.Epo
