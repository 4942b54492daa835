/- Joined: BatDevHe, BatDevRf, BatDevHf, BatDevWr1, BatDevWe, BatDevC, BatDevWr, BatDevK, BatDev, BatLive, BatFew, BatIs, BatDevMv, BatMvIs, BatFewAll. -/
import Derived.Test.YtodklilnmianeaaDoorJBatEa
import Derived.Test.YtodklilnmianeaaDoorJBatEb
import Derived.Test.YtodklilnmianeaaDoorJBatA
import Derived.Test.YtodklilnmianeaaDoorJBatR
import Derived.Test.YtodklilnmianeaaDoorJRec
import Derived.Test.YtodklilnmianeaaDoorJOct
import Derived.Deep.RegionWith
import Derived.Test.YtodklilnmianeaaDoorJBatE
import Derived.Lib.LazyBuf
import Derived.Deep.RegionLaw
import Derived.Deep.DeepCutAuto
import Derived.Test.YtodklilnmianeaaDoorJCrc
import Derived.Test.YtodklilnmianeaaDoorJBatT
import Derived.LoopTactic
import Derived.BigRegion
/- The contract of the landed hasForm: its numbers. -/
namespace Go.Proofs.YtodklilnmianeaaDoor.Bat
open Go.RowKit Go.Proofs.YtodklilnmianeaaDoor.Oct Go.Proofs.YtodklilnmianeaaDoor.Rec Go.Proofs.YtodklilnmianeaaDoor.Crc

theorem inL_iff {v lo hi : Int} : inL v lo hi = true ↔ lo ≤ v ∧ v ≤ hi := by simp [inL]
theorem inL_no {v lo hi : Int} (h : ¬ (lo ≤ v ∧ v ≤ hi)) : inL v lo hi = false := by simp [inL]; omega
/-- are a head's numbers in their ranges? -/
def hdOk (b : Bt) : Bool :=
  decide ((0 ≤ b.base ∧ b.base ≤ 1099511627776) ∧ (0 ≤ wrap64 (b.last - b.base) ∧ wrap64 (b.last - b.base) ≤ 15 ∧ wrap64 (b.last - b.base) ≤ 1099511627776 - b.base) ∧ (0 ≤ b.frm ∧ b.frm ≤ 1099511627776 - wrap64 (b.last - b.base)) ∧
    (0 ≤ b.epoch ∧ b.epoch ≤ 1048576) ∧ (-1 ≤ b.pid ∧ b.pid ≤ 1099511627776) ∧ (0 ≤ b.gen ∧ b.gen ≤ 1048576) ∧ (0 ≤ b.seq ∧ b.seq ≤ 1048576 - wrap64 (b.last - b.base)))
theorem hdOk_iff {b : Bt} (hl : I64 b.last) (hb : I64 b.base) : hdOk b = true ↔ 0 ≤ b.base ∧ b.base ≤ 1099511627776 ∧ b.base ≤ b.last ∧ b.last ≤ 1099511627776 ∧ b.last - b.base < 16 ∧ 0 ≤ b.frm ∧ b.frm + (b.last - b.base) ≤ 1099511627776 ∧
    0 ≤ b.epoch ∧ b.epoch ≤ 1048576 ∧ -1 ≤ b.pid ∧ b.pid ≤ 1099511627776 ∧ 0 ≤ b.gen ∧ b.gen ≤ 1048576 ∧ 0 ≤ b.seq ∧ b.seq + (b.last - b.base) ≤ 1048576 := by
  unfold I64 at hl hb
  unfold hdOk wrap64
  rw [decide_eq_true_eq]
  constructor
  · rintro ⟨h0, h1, h2, h3, h4, h5, h6⟩; omega
  · intro h; refine ⟨?_, ?_, ?_, ?_, ?_, ?_, ?_⟩ <;> omega
theorem least_is {ba v : Int} (h : 0 ≤ ba ∧ ba ≤ 1099511627776) : ∀ h' : Int, (if IntKind.i64.wrap (1099511627776 - ba) < 15 then IntKind.i64.wrap (1099511627776 - ba) else 15) = h' → inL v 0 h' = decide (0 ≤ v ∧ v ≤ 15 ∧ v ≤ 1099511627776 - ba) := by
  rintro h' rfl
  rw [IntWalk.i64_in _ (by omega)]
  unfold inL
  split <;> (apply decide_eq_decide.2; omega)
set_option maxHeartbeats 1000000 in
theorem hfEach (w : World) (g : Nat) (b : Bt) (v : Value) (hbox : BoxB w g b v) (hfz : w.frozen? ⟨g, 1, none⟩ = false) (hg : g < w.heap.size) (hF : Fits b) {y : Bool} (hy : hdOk b = y) :
    Calls Tryd.prog 60 #[.pointer (some ⟨g, 0, none⟩), .func (.func 68) #[] #[]] w fun e w' => e = .returned (.bool y) ∧ BoxB w' g b v ∧ Below g w w' := by
  subst hy
  obtain ⟨c0, c1, c2, c3, c4, c5, c6, c7, c8, c9⟩ := id hbox
  obtain ⟨sp, hsp⟩ : ∃ sp, wrap64 (b.last - b.base) = sp := ⟨_, rfl⟩
  have hsp' : IntKind.i64.wrap (b.last - b.base) = sp := (IntWalk.i64_left _).trans hsp
  have hlast := hF.last
  have hbase := hF.base
  unfold I64 at hlast hbase
  have hback : wrap64 (b.base + sp) = b.last := by rw [← hsp]; unfold wrap64; omega
  have END : ∀ w', ((w.setCell ⟨g, 1, none⟩ (.int .i64 (wrap64 (b.base + sp)))).alloc (.cells #[.int .i64 sp] 3)).drew.drew.drew = w' → BoxB w' g b v ∧ Below g w w' := by
    rintro w' rfl
    rw [hback]
    have h1 : Below g w (w.setCell ⟨g, 1, none⟩ (.int .i64 b.last)) := (Below.refl g w).setCell (by show g ≤ g; omega) _
    have h2 : g < (w.setCell ⟨g, 1, none⟩ (.int .i64 b.last)).heap.size := by simpa [World.setCell] using hg
    have hbx : BoxB (w.setCell ⟨g, 1, none⟩ (.int .i64 b.last)) g b v := hbox.put1
    exact ⟨(hbx.below (bel_alloc (Below.refl _ _) _) h2 : BoxB ((w.setCell ⟨g, 1, none⟩ (.int .i64 b.last)).alloc (.cells #[.int .i64 sp] 3)) g b v), ((h1.alloc (by omega) _).drew.drew.drew)⟩
  have NO : ∀ {p : Prop}, ¬ p → (hdOk b = true → p) → hdOk b = false := fun hn h => by
    cases hh : hdOk b with
    | false => rfl
    | true => exact (hn (h hh)).elim
  have UN : hdOk b = true → _ := fun h => of_decide_eq_true h
  rw [hsp] at UN
  by_cases t0 : 0 ≤ b.base ∧ b.base ≤ 1099511627776
  rotate_left
  · rw [NO t0 fun h => (UN h).1]
    exact (each_E10 g b.base b.last sp b.frm b.epoch b.pid b.gen b.seq w hg hfz c1 c0 hsp' (inL_no t0)).mono fun e w' h => ⟨h.1, END w' h.2⟩
  by_cases t1 : 0 ≤ sp ∧ sp ≤ 15 ∧ sp ≤ 1099511627776 - b.base
  rotate_left
  · rw [NO t1 fun h => (UN h).2.1]
    exact (each_E11 g b.base b.last sp b.frm b.epoch b.pid b.gen b.seq w hg hfz c1 c0 hsp' (inL_iff.2 t0) (fun h hh => (least_is t0 h hh).trans (decide_eq_false t1))).mono fun e w' h => ⟨h.1, END w' h.2⟩
  by_cases t2 : 0 ≤ b.frm ∧ b.frm ≤ 1099511627776 - sp
  rotate_left
  · rw [NO t2 fun h => (UN h).2.2.1]
    exact (each_E12 g b.base b.last sp b.frm b.epoch b.pid b.gen b.seq w hg hfz c1 c0 hsp' (inL_iff.2 t0) (fun h hh => (least_is t0 h hh).trans (decide_eq_true t1)) c2 (by rw [IntWalk.i64_in _ (by omega)]; exact inL_no t2)).mono fun e w' h => ⟨h.1, END w' h.2⟩
  by_cases t3 : 0 ≤ b.epoch ∧ b.epoch ≤ 1048576
  rotate_left
  · rw [NO t3 fun h => (UN h).2.2.2.1]
    exact (each_E13 g b.base b.last sp b.frm b.epoch b.pid b.gen b.seq w hg hfz c1 c0 hsp' (inL_iff.2 t0) (fun h hh => (least_is t0 h hh).trans (decide_eq_true t1)) c2 (by rw [IntWalk.i64_in _ (by omega)]; exact inL_iff.2 t2) c3 (inL_no t3)).mono fun e w' h => ⟨h.1, END w' h.2⟩
  by_cases t4 : -1 ≤ b.pid ∧ b.pid ≤ 1099511627776
  rotate_left
  · rw [NO t4 fun h => (UN h).2.2.2.2.1]
    exact (each_E1b4 g b.base b.last sp b.frm b.epoch b.pid b.gen b.seq w hg hfz c1 c0 hsp' (inL_iff.2 t0) (fun h hh => (least_is t0 h hh).trans (decide_eq_true t1)) c2 (by rw [IntWalk.i64_in _ (by omega)]; exact inL_iff.2 t2) c3 (inL_iff.2 t3) c4 (inL_no t4)).mono fun e w' h => ⟨h.1, END w' h.2⟩
  by_cases t5 : 0 ≤ b.gen ∧ b.gen ≤ 1048576
  rotate_left
  · rw [NO t5 fun h => (UN h).2.2.2.2.2.1]
    exact (each_E1b5 g b.base b.last sp b.frm b.epoch b.pid b.gen b.seq w hg hfz c1 c0 hsp' (inL_iff.2 t0) (fun h hh => (least_is t0 h hh).trans (decide_eq_true t1)) c2 (by rw [IntWalk.i64_in _ (by omega)]; exact inL_iff.2 t2) c3 (inL_iff.2 t3) c4 (inL_iff.2 t4) c5 (inL_no t5)).mono fun e w' h => ⟨h.1, END w' h.2⟩
  by_cases t6 : 0 ≤ b.seq ∧ b.seq ≤ 1048576 - sp
  rotate_left
  · rw [NO t6 fun h => (UN h).2.2.2.2.2.2]
    exact (each_E1b6 g b.base b.last sp b.frm b.epoch b.pid b.gen b.seq w hg hfz c1 c0 hsp' (inL_iff.2 t0) (fun h hh => (least_is t0 h hh).trans (decide_eq_true t1)) c2 (by rw [IntWalk.i64_in _ (by omega)]; exact inL_iff.2 t2) c3 (inL_iff.2 t3) c4 (inL_iff.2 t4) c5 (inL_iff.2 t5) c6 (by rw [IntWalk.i64_in _ (by omega)]; exact inL_no t6)).mono fun e w' h => ⟨h.1, END w' h.2⟩
  rw [show hdOk b = true by unfold hdOk; rw [hsp]; exact decide_eq_true ⟨t0, t1, t2, t3, t4, t5, t6⟩]
  exact (each_E1b7 g b.base b.last sp b.frm b.epoch b.pid b.gen b.seq w hg hfz c1 c0 hsp' (inL_iff.2 t0) (fun h hh => (least_is t0 h hh).trans (decide_eq_true t1)) c2 (by rw [IntWalk.i64_in _ (by omega)]; exact inL_iff.2 t2) c3 (inL_iff.2 t3) c4 (inL_iff.2 t4) c5 (inL_iff.2 t5) c6 (by rw [IntWalk.i64_in _ (by omega)]; exact inL_iff.2 t6)).mono fun e w' h => ⟨h.1, END w' h.2⟩
end Go.Proofs.YtodklilnmianeaaDoor.Bat

/- The contract of the landed recsHaveForm. -/
namespace Go.Proofs.YtodklilnmianeaaDoor.Bat
open Go.RowKit Go.Proofs.YtodklilnmianeaaDoor.Oct Go.Proofs.YtodklilnmianeaaDoor.Rec Go.Proofs.YtodklilnmianeaaDoor.Crc

def rfRel (ba la : Int) (rs : List Rc) (n : Nat) (w : World) (i v : Value) (wr : World) : Prop :=
  ∃ (k : Nat) (lo : Int), i = .int .i64 (k : Int) ∧ k ≤ n ∧ v = .int .i64 (lo + 1) ∧ -1 ≤ lo ∧ lo ≤ 1099511627776 ∧ rise lo la (rs.drop k) = rise (ba - 1) la rs ∧ Below w.heap.size w wr
set_option maxRecDepth 100000 in
set_option maxHeartbeats 4000000 in
theorem recsForm_any (ba la fr ep pi ge se : Int) (tx : Bool) (ct : Int) (rs : List Rc) (A : Option Addr) (n c : Nat) (w : World) (hba : 0 ≤ ba ∧ ba ≤ 1099511627776) (hla : I64 la) (hr : RdR w w.heap.size A n rs) (hfit : ∀ r ∈ rs, I64 r.off ∧ I64 r.stamp ∧ r.key.size ≤ 1099511627776 ∧ r.val.size ≤ 1099511627776) (hn : n ≤ 1099511627776) {y : Bool} (hy : rise (ba - 1) la rs = y) :
    Calls Tryd.prog 69 #[.agg #[.int .i64 ba, .int .i64 la, .int .i64 fr, .int .i64 ep, .int .i64 pi, .int .i64 ge, .int .i64 se, .bool tx, .int .i64 ct, .slice A n c]] w fun e w' => e = .returned (.bool y) ∧ Below w.heap.size w w' := by
  subst hy
  have HB0 := Lib.hid (boxB_new w 24 ⟨ba, la, fr, ep, pi, ge, se, tx, ct, rs⟩ (.slice A n c))
  have hsz : w.heap.size < (w.alloc (.cells #[.int .i64 ba, .int .i64 la, .int .i64 fr, .int .i64 ep, .int .i64 pi, .int .i64 ge, .int .i64 se, .bool tx, .int .i64 ct, .slice A n c] 24)).heap.size := by simp
  have hw0 := Lib.hid (bel_alloc (Below.refl w.heap.size w) (.cells #[.int .i64 ba, .int .i64 la, .int .i64 fr, .int .i64 ep, .int .i64 pi, .int .i64 ge, .int .i64 se, .bool tx, .int .i64 ct, .slice A n c] 24))
  have HR := Lib.hid hr
  have HFIT := Lib.hid hfit
  obtain ⟨hla0, hla1⟩ := hla
  clear hr hfit
  go_enter Tryd.func69, Tryd.ntmps69
  go_wp2
  go_loopw [3, 11] (fun v i wr => rfRel ba la rs n (w.alloc (.cells #[.int .i64 ba, .int .i64 la, .int .i64 fr, .int .i64 ep, .int .i64 pi, .int .i64 ge, .int .i64 se, .bool tx, .int .i64 ct, .slice A n c] 24)) i v wr) (fun _ i _ => n - (intOf i).toNat)
  case atStart => exact ⟨0, ba - 1, rfl, Nat.zero_le _, by rw [show ba - 1 + 1 = ba by omega], by omega, by omega, rfl, Below.refl _ _⟩
  case round =>
    obtain ⟨k, lo, rfl, hk, rfl, hlo0, hlo1, hrise, hbel⟩ := hrel
    have HBW := Lib.hid (HB0.out.below hbel hsz)
    have hs0 := Nat.lt_of_lt_of_le hsz hbel.size
    have hb0r := Lib.hid (bel_trans hw0.out hbel)
    have HBE := Lib.hid hbel
    by_cases hlt : k < n
    · obtain ⟨b, o, r, rfl, hbb, hrk, hat⟩ := (HR.out.below hb0r.out (Nat.le_refl _)).at hlt
      obtain ⟨ro, rk, rv, rd, rt⟩ := r
      obtain ⟨a0, a1, a2, a3, a4⟩ := hat
      obtain ⟨ho, hs, hf1, hf2⟩ := HFIT.out _ (List.mem_of_getElem? hrk)
      simp only at ho hs hf1 hf2 a0 a1 a2 a3 a4
      have hst := (rise_step hrk).symm.trans hrise
      have HX := Lib.hid (box_new wr 43 ⟨ro, rk, rv, rd, rt⟩)
      have hx : wr.heap.size < (wr.alloc (.cells #[.int .i64 ro, .string rk, .string rv, .bool rd, .int .i64 rt] 43)).heap.size := by simp
      clear hrise hbel hrk
      have CHK := fun (w' : World) => Check_any ro rt rk rv rd w' ho hs hf1 hf2
      obtain ⟨ho0, ho1⟩ := ho
      clear hs
      by_cases hm : may ⟨ro, rk, rv, rd, rt⟩ = true
      · rw [chk_t hm] at CHK
        by_cases h1 : lo < ro
        · have h1' : ¬ ro < lo + 1 := by omega
          by_cases h2 : ro ≤ la
          · have HST := Lib.hid (show rise ro la (rs.drop (k + 1)) = rise (ba - 1) la rs by rw [← hst, hm]; simp [h1, h2])
            obtain ⟨m1, -⟩ := may_iff.1 hm
            simp only at m1
            clear hst hm
            go_wp2_with (go_at_call 87; (with_reducible refine (CHK _).mono ?_); rintro e w9 ⟨rfl, hb9⟩; obtain ⟨x0, x1, x2, x3, x4⟩ := HX.out.below hb9 hx; obtain ⟨y0, y1, y2, y3, y4, y5, y6, y7, y8, y9⟩ := (HBW.out.below (bel_trans (bel_alloc (Below.refl wr.heap.size wr) (.cells #[.int .i64 ro, .string rk, .string rv, .bool rd, .int .i64 rt] 43)) hb9) hs0))
            go_roundw
            case rel => exact ⟨k + 1, ro, by go_num, by omega, by first | rfl | go_num, by omega, by omega, HST.out, bel_trans (bel_alloc HBE.out _) hb9⟩
            case measure => simp [intOf]; omega
          · have HF := Lib.hid (show rise (ba - 1) la rs = false by rw [← hst]; simp [h2])
            clear hst hm
            go_wp2_with (go_at_call 87; (with_reducible refine (CHK _).mono ?_); rintro e w9 ⟨rfl, hb9⟩; obtain ⟨x0, x1, x2, x3, x4⟩ := HX.out.below hb9 hx; obtain ⟨y0, y1, y2, y3, y4, y5, y6, y7, y8, y9⟩ := (HBW.out.below (bel_trans (bel_alloc (Below.refl wr.heap.size wr) (.cells #[.int .i64 ro, .string rk, .string rv, .bool rd, .int .i64 rt] 43)) hb9) hs0))
            go_ret
            exact ⟨ret_bool (by first | exact HF.out.symm | (rw [HF.out]; simp; done) | (rw [HF.out]; simp; omega)), bel_trans (bel_alloc hb0r.out _) hb9⟩
        · have h1' : ro < lo + 1 := by omega
          have HF := Lib.hid (show rise (ba - 1) la rs = false by rw [← hst]; simp [h1])
          clear hst hm
          go_wp2_with (go_at_call 87; (with_reducible refine (CHK _).mono ?_); rintro e w9 ⟨rfl, hb9⟩; obtain ⟨x0, x1, x2, x3, x4⟩ := HX.out.below hb9 hx; obtain ⟨y0, y1, y2, y3, y4, y5, y6, y7, y8, y9⟩ := (HBW.out.below (bel_trans (bel_alloc (Below.refl wr.heap.size wr) (.cells #[.int .i64 ro, .string rk, .string rv, .bool rd, .int .i64 rt] 43)) hb9) hs0))
          go_ret
          exact ⟨ret_bool (by first | exact HF.out.symm | (rw [HF.out]; simp; done) | (rw [HF.out]; simp; omega)), bel_trans (bel_alloc hb0r.out _) hb9⟩
      · have HF := Lib.hid (show rise (ba - 1) la rs = false by rw [← hst]; simp [hm])
        rw [chk_f (by simpa using hm)] at CHK
        clear hst hm
        go_wp2_with (go_at_call 87; (with_reducible refine (CHK _).mono ?_); rintro e w9 ⟨rfl, hb9⟩; obtain ⟨x0, x1, x2, x3, x4⟩ := HX.out.below hb9 hx; obtain ⟨y0, y1, y2, y3, y4, y5, y6, y7, y8, y9⟩ := (HBW.out.below (bel_trans (bel_alloc (Below.refl wr.heap.size wr) (.cells #[.int .i64 ro, .string rk, .string rv, .bool rd, .int .i64 rt] 43)) hb9) hs0))
        go_ret
        exact ⟨ret_bool (by first | exact HF.out.symm | (rw [HF.out]; simp; done) | (rw [HF.out]; simp; omega)), bel_trans (bel_alloc hb0r.out _) hb9⟩
    · have hkn : k = n := by omega
      have HF := Lib.hid (show rise (ba - 1) la rs = true by rw [← hrise, List.drop_eq_nil_of_le (by have := HR.out.len; omega)]; rfl)
      clear hrise hkn
      go_wp2
      go_ret
      exact ⟨ret_bool (by first | exact HF.out.symm | (rw [HF.out]; simp; done) | (rw [HF.out]; simp; omega)), hb0r.out⟩
end Go.Proofs.YtodklilnmianeaaDoor.Bat

/- The contract of the landed hasForm. -/
namespace Go.Proofs.YtodklilnmianeaaDoor.Bat
open Go.RowKit Go.Proofs.YtodklilnmianeaaDoor.Oct Go.Proofs.YtodklilnmianeaaDoor.Rec Go.Proofs.YtodklilnmianeaaDoor.Crc

theorem form_of {b : Bt} {h : Bool} (hl : I64 b.last) (hb : I64 b.base) (hh : hdOk b = h) : form b = (h && !(decide (b.pid < 0) && (b.gen != 0 || b.seq != 0 || b.txn || b.ctl != 0)) && (if b.ctl = 0 then rise (b.base - 1) b.last b.recs else decide ((b.ctl = 1 ∨ b.ctl = 2) ∧ b.base = b.last ∧ b.recs = [] ∧ b.txn = true))) := by
  have hi := hdOk_iff hl hb
  rw [← hh]
  unfold form
  cases hok : hdOk b with
  | false =>
    have hn : ¬ (0 ≤ b.base ∧ b.base ≤ 1099511627776 ∧ b.base ≤ b.last ∧ b.last ≤ 1099511627776 ∧ b.last - b.base < 16 ∧ 0 ≤ b.frm ∧ b.frm + (b.last - b.base) ≤ 1099511627776 ∧
    0 ≤ b.epoch ∧ b.epoch ≤ 1048576 ∧ -1 ≤ b.pid ∧ b.pid ≤ 1099511627776 ∧ 0 ≤ b.gen ∧ b.gen ≤ 1048576 ∧ 0 ≤ b.seq ∧ b.seq + (b.last - b.base) ≤ 1048576) := fun h => by have := hi.2 h; rw [hok] at this; cases this
    rw [decide_eq_false]
    · simp
    · rintro ⟨h1, h2, h3, h4, h5, h6, h7, h8, h9, h10, h11, h12, h13, h14, h15, h16, h17⟩
      apply hn
      rcases h17 with ⟨h18, _⟩ | ⟨_, h18, h19⟩ <;> (refine ⟨?_, ?_, ?_, ?_, ?_, ?_, ?_, ?_, ?_, ?_, ?_, ?_, ?_, ?_, ?_⟩ <;> omega)
  | true =>
    obtain ⟨h0, h1, h2, h3, h4, h5, h6, h7, h8, h9, h10, h11, h12, h13, h14⟩ := hi.1 hok
    simp only [Bool.true_and]
    by_cases hp : b.pid < 0
    · have hp1 : b.pid = -1 := by omega
      rw [decide_eq_true hp, Bool.true_and]
      by_cases hq : b.gen = 0 ∧ b.seq = 0 ∧ b.txn = false ∧ b.ctl = 0
      · obtain ⟨q1, q2, q3, q4⟩ := hq
        rw [if_pos q4, if_pos q4, decide_eq_true]
        · simp [q1, q2, q3, q4]
        · refine ⟨?_, ?_, ?_, ?_, ?_, ?_, ?_, ?_, ?_, ?_, ?_, ?_, ?_, ?_, ?_, ?_, .inl ⟨hp1, q1, q2, q3, q4⟩⟩ <;> omega
      · have hz : (b.gen != 0 || b.seq != 0 || b.txn || b.ctl != 0) = true := by
          cases hz : (b.gen != 0 || b.seq != 0 || b.txn || b.ctl != 0) with
          | true => rfl
          | false =>
            simp at hz
            exact (hq ⟨hz.1.1.1, hz.1.1.2, hz.1.2, hz.2⟩).elim
        rw [hz, decide_eq_false]
        · simp
        · rintro ⟨_, _, _, _, _, _, _, _, _, _, _, _, _, _, _, _, h17⟩
          rcases h17 with ⟨_, h18⟩ | ⟨_, h18, _⟩
          · exact hq h18
          · omega
    · rw [decide_eq_false hp, Bool.false_and, Bool.not_false, Bool.true_and, decide_eq_true, Bool.true_and]
      · by_cases hc : b.ctl = 0
        · rw [if_pos hc, if_pos hc]
        · rw [if_neg hc, if_neg hc]
          apply decide_eq_decide.2
          constructor
          · rintro ⟨k1, k2, k3, k4, _⟩; exact ⟨k1, k2.symm, k3, k4⟩
          · rintro ⟨k1, k2, k3, k4⟩; exact ⟨k1, k2.symm, k3, k4, by omega⟩
      · refine ⟨?_, ?_, ?_, ?_, ?_, ?_, ?_, ?_, ?_, ?_, ?_, ?_, ?_, ?_, ?_, ?_, .inr ⟨?_, ?_, ?_⟩⟩ <;> omega
set_option maxRecDepth 100000 in
set_option maxHeartbeats 4000000 in
theorem hasForm_any (ba la fr ep pi ge se : Int) (tx : Bool) (ct : Int) (rs : List Rc) (A : Option Addr) (n c : Nat) (w : World) (hF : Fits ⟨ba, la, fr, ep, pi, ge, se, tx, ct, rs⟩) (hr : RdR w w.heap.size A n rs) (hn : n ≤ 1099511627776) {y : Bool} (hy : form ⟨ba, la, fr, ep, pi, ge, se, tx, ct, rs⟩ = y) :
    Calls Tryd.prog 46 #[.agg #[.int .i64 ba, .int .i64 la, .int .i64 fr, .int .i64 ep, .int .i64 pi, .int .i64 ge, .int .i64 se, .bool tx, .int .i64 ct, .slice A n c]] w fun e w' => e = .returned (.bool y) ∧ Below w.heap.size w w' := by
  subst hy
  have hbx := boxB_new w 24 ⟨ba, la, fr, ep, pi, ge, se, tx, ct, rs⟩ (.slice A n c)
  have hfz : (w.alloc (.cells #[.int .i64 ba, .int .i64 la, .int .i64 fr, .int .i64 ep, .int .i64 pi, .int .i64 ge, .int .i64 se, .bool tx, .int .i64 ct, .slice A n c] 24)).frozen? ⟨w.heap.size, 1, none⟩ = false := by simp [go_sem]
  have hsz : w.heap.size < (w.alloc (.cells #[.int .i64 ba, .int .i64 la, .int .i64 fr, .int .i64 ep, .int .i64 pi, .int .i64 ge, .int .i64 se, .bool tx, .int .i64 ct, .slice A n c] 24)).heap.size := by simp
  have hb0 := bel_alloc (Below.refl w.heap.size w) (.cells #[.int .i64 ba, .int .i64 la, .int .i64 fr, .int .i64 ep, .int .i64 pi, .int .i64 ge, .int .i64 se, .bool tx, .int .i64 ct, .slice A n c] 24)
  obtain ⟨h, hh⟩ : ∃ h, hdOk ⟨ba, la, fr, ep, pi, ge, se, tx, ct, rs⟩ = h := ⟨_, rfl⟩
  have HE := Lib.hid (hfEach _ w.heap.size ⟨ba, la, fr, ep, pi, ge, se, tx, ct, rs⟩ (.slice A n c) hbx hfz hsz hF hh)
  have HB0 := Lib.hid hb0
  have HR := Lib.hid hr
  have hl := hr.len
  have hfo := form_of (b := ⟨ba, la, fr, ep, pi, ge, se, tx, ct, rs⟩) hF.last hF.base hh
  simp only at hfo
  have hix := hdOk_iff (b := ⟨ba, la, fr, ep, pi, ge, se, tx, ct, rs⟩) hF.last hF.base
  simp only at hix
  have HFT := Lib.hid hF
  clear hbx hfz hb0 hr hF
  rcases h with _ | _
  · rw [show form ⟨ba, la, fr, ep, pi, ge, se, tx, ct, rs⟩ = false by rw [hfo]; simp]
    clear hfo
    clear hix
    go_enter Tryd.func46, Tryd.ntmps46
    go_wp2_with (go_at_call 60; (with_reducible refine (HE.out).mono ?_); rintro e w2 ⟨rfl, hbx2, hb2⟩; have HB2 := Lib.hid (HB0.out.trans hb2); obtain ⟨y0, y1, y2, y3, y4, y5, y6, y7, y8, y9⟩ := hbx2; simp only at y0 y1 y2 y3 y4 y5 y6 y7 y8 y9; clear hb2)
    go_ret
    exact ⟨rfl, HB2.out⟩
  have hok := hix.1 hh
  simp only [Bool.true_and] at hfo
  obtain ⟨ri, hri⟩ : ∃ ri, rise (ba - 1) la rs = ri := ⟨_, rfl⟩
  by_cases hp : pi < 0
  · rw [decide_eq_true hp, Bool.true_and] at hfo
    by_cases q1 : ge = 0
    rotate_left
    · have e1 : (ge != 0) = true := by simp [q1]
      rw [show form ⟨ba, la, fr, ep, pi, ge, se, tx, ct, rs⟩ = false by rw [hfo, e1]; simp]
      clear hfo hok
      clear hix
      go_enter Tryd.func46, Tryd.ntmps46
      go_wp2_with (go_at_call 60; (with_reducible refine (HE.out).mono ?_); rintro e w2 ⟨rfl, hbx2, hb2⟩; have HB2 := Lib.hid (HB0.out.trans hb2); obtain ⟨y0, y1, y2, y3, y4, y5, y6, y7, y8, y9⟩ := hbx2; simp only at y0 y1 y2 y3 y4 y5 y6 y7 y8 y9; clear hb2)
      go_ret
      exact ⟨rfl, HB2.out⟩
    subst q1
    by_cases q2 : se = 0
    rotate_left
    · have e1 : (se != 0) = true := by simp [q2]
      rw [show form ⟨ba, la, fr, ep, pi, 0, se, tx, ct, rs⟩ = false by rw [hfo, e1]; simp]
      clear hfo hok
      clear hix
      go_enter Tryd.func46, Tryd.ntmps46
      go_wp2_with (go_at_call 60; (with_reducible refine (HE.out).mono ?_); rintro e w2 ⟨rfl, hbx2, hb2⟩; have HB2 := Lib.hid (HB0.out.trans hb2); obtain ⟨y0, y1, y2, y3, y4, y5, y6, y7, y8, y9⟩ := hbx2; simp only at y0 y1 y2 y3 y4 y5 y6 y7 y8 y9; clear hb2)
      go_ret
      exact ⟨rfl, HB2.out⟩
    subst q2
    rcases tx with _ | _
    rotate_left
    · rw [show form ⟨ba, la, fr, ep, pi, 0, 0, true, ct, rs⟩ = false by rw [hfo]; simp]
      clear hfo hok
      clear hix
      go_enter Tryd.func46, Tryd.ntmps46
      go_wp2_with (go_at_call 60; (with_reducible refine (HE.out).mono ?_); rintro e w2 ⟨rfl, hbx2, hb2⟩; have HB2 := Lib.hid (HB0.out.trans hb2); obtain ⟨y0, y1, y2, y3, y4, y5, y6, y7, y8, y9⟩ := hbx2; simp only at y0 y1 y2 y3 y4 y5 y6 y7 y8 y9; clear hb2)
      go_ret
      exact ⟨rfl, HB2.out⟩
    by_cases q4 : ct = 0
    rotate_left
    · have e1 : (ct != 0) = true := by simp [q4]
      rw [show form ⟨ba, la, fr, ep, pi, 0, 0, false, ct, rs⟩ = false by rw [hfo, e1]; simp]
      clear hfo hok
      clear hix
      go_enter Tryd.func46, Tryd.ntmps46
      go_wp2_with (go_at_call 60; (with_reducible refine (HE.out).mono ?_); rintro e w2 ⟨rfl, hbx2, hb2⟩; have HB2 := Lib.hid (HB0.out.trans hb2); obtain ⟨y0, y1, y2, y3, y4, y5, y6, y7, y8, y9⟩ := hbx2; simp only at y0 y1 y2 y3 y4 y5 y6 y7 y8 y9; clear hb2)
      go_ret
      exact ⟨rfl, HB2.out⟩
    subst q4
    rw [show form ⟨ba, la, fr, ep, pi, 0, 0, false, 0, rs⟩ = ri by rw [hfo, ← hri, if_pos rfl]; simp]
    clear hfo
    have HRF := Lib.hid (fun (w' : World) (hb : Below w.heap.size w w') => recsForm_any ba la fr ep pi 0 0 false 0 rs A n c w' ⟨hok.1, hok.2.1⟩ HFT.out.last ((HR.out.below hb (Nat.le_refl _)).more hb.size) HFT.out.recs hn hri)
    clear hok hl hix
    go_enter Tryd.func46, Tryd.ntmps46
    go_wp2_with (first | (go_at_call 60; (with_reducible refine (HE.out).mono ?_); rintro e w2 ⟨rfl, hbx2, hb2⟩; have HB2 := Lib.hid (HB0.out.trans hb2); obtain ⟨y0, y1, y2, y3, y4, y5, y6, y7, y8, y9⟩ := hbx2; simp only at y0 y1 y2 y3 y4 y5 y6 y7 y8 y9; clear hb2) | (go_at_call 69; (with_reducible refine (HRF.out w2 HB2.out).mono ?_); rintro e w3 ⟨rfl, hb3⟩))
    go_ret
    exact ⟨rfl, bel_trans HB2.out hb3⟩
  · rw [decide_eq_false hp, Bool.false_and, Bool.not_false, Bool.true_and] at hfo
    by_cases k : ct = 0
    · rw [if_pos k] at hfo
      rw [show form ⟨ba, la, fr, ep, pi, ge, se, tx, ct, rs⟩ = ri by rw [hfo, ← hri]]
      clear hfo
      subst k
      have HRF := Lib.hid (fun (w' : World) (hb : Below w.heap.size w w') => recsForm_any ba la fr ep pi ge se tx 0 rs A n c w' ⟨hok.1, hok.2.1⟩ HFT.out.last ((HR.out.below hb (Nat.le_refl _)).more hb.size) HFT.out.recs hn hri)
      clear hok hl hix
      go_enter Tryd.func46, Tryd.ntmps46
      go_wp2_with (first | (go_at_call 60; (with_reducible refine (HE.out).mono ?_); rintro e w2 ⟨rfl, hbx2, hb2⟩; have HB2 := Lib.hid (HB0.out.trans hb2); obtain ⟨y0, y1, y2, y3, y4, y5, y6, y7, y8, y9⟩ := hbx2; simp only at y0 y1 y2 y3 y4 y5 y6 y7 y8 y9; clear hb2) | (go_at_call 69; (with_reducible refine (HRF.out w2 HB2.out).mono ?_); rintro e w3 ⟨rfl, hb3⟩))
      go_ret
      exact ⟨rfl, bel_trans HB2.out hb3⟩
    rw [if_neg k] at hfo
    by_cases k12 : ct = 1 ∨ ct = 2
    rotate_left
    · rw [show form ⟨ba, la, fr, ep, pi, ge, se, tx, ct, rs⟩ = false by rw [hfo]; exact decide_eq_false fun h => k12 h.1]
      have k1 : ¬ ct = 1 := fun h => k12 (.inl h)
      have k2 : ¬ ct = 2 := fun h => k12 (.inr h)
      clear hfo hok k12
      clear hix
      go_enter Tryd.func46, Tryd.ntmps46
      go_wp2_with (go_at_call 60; (with_reducible refine (HE.out).mono ?_); rintro e w2 ⟨rfl, hbx2, hb2⟩; have HB2 := Lib.hid (HB0.out.trans hb2); obtain ⟨y0, y1, y2, y3, y4, y5, y6, y7, y8, y9⟩ := hbx2; simp only at y0 y1 y2 y3 y4 y5 y6 y7 y8 y9; clear hb2)
      go_ret
      exact ⟨rfl, HB2.out⟩
    by_cases m : ba = la
    rotate_left
    · rw [show form ⟨ba, la, fr, ep, pi, ge, se, tx, ct, rs⟩ = false by rw [hfo]; exact decide_eq_false fun h => m h.2.1]
      have e1 : (ba == la) = false := beqF m
      clear hfo hok m
      rcases k12 with k1 | k1
      · subst k1
        clear hix
        go_enter Tryd.func46, Tryd.ntmps46
        go_wp2_with (go_at_call 60; (with_reducible refine (HE.out).mono ?_); rintro e w2 ⟨rfl, hbx2, hb2⟩; have HB2 := Lib.hid (HB0.out.trans hb2); obtain ⟨y0, y1, y2, y3, y4, y5, y6, y7, y8, y9⟩ := hbx2; simp only at y0 y1 y2 y3 y4 y5 y6 y7 y8 y9; clear hb2)
        go_ret
        exact ⟨rfl, HB2.out⟩
      · subst k1
        clear hix
        go_enter Tryd.func46, Tryd.ntmps46
        go_wp2_with (go_at_call 60; (with_reducible refine (HE.out).mono ?_); rintro e w2 ⟨rfl, hbx2, hb2⟩; have HB2 := Lib.hid (HB0.out.trans hb2); obtain ⟨y0, y1, y2, y3, y4, y5, y6, y7, y8, y9⟩ := hbx2; simp only at y0 y1 y2 y3 y4 y5 y6 y7 y8 y9; clear hb2)
        go_ret
        exact ⟨rfl, HB2.out⟩
    subst m
    by_cases m1 : n = 0
    rotate_left
    · rw [show form ⟨ba, ba, fr, ep, pi, ge, se, tx, ct, rs⟩ = false by rw [hfo]; exact decide_eq_false fun h => m1 (by rw [← hl, h.2.2.1]; rfl)]
      have e1 : ((n : Int) == 0) = false := beqF (by omega)
      clear hfo hok
      rcases k12 with k1 | k1
      · subst k1
        clear hix
        go_enter Tryd.func46, Tryd.ntmps46
        go_wp2_with (go_at_call 60; (with_reducible refine (HE.out).mono ?_); rintro e w2 ⟨rfl, hbx2, hb2⟩; have HB2 := Lib.hid (HB0.out.trans hb2); obtain ⟨y0, y1, y2, y3, y4, y5, y6, y7, y8, y9⟩ := hbx2; simp only at y0 y1 y2 y3 y4 y5 y6 y7 y8 y9; clear hb2)
        go_ret
        exact ⟨rfl, HB2.out⟩
      · subst k1
        clear hix
        go_enter Tryd.func46, Tryd.ntmps46
        go_wp2_with (go_at_call 60; (with_reducible refine (HE.out).mono ?_); rintro e w2 ⟨rfl, hbx2, hb2⟩; have HB2 := Lib.hid (HB0.out.trans hb2); obtain ⟨y0, y1, y2, y3, y4, y5, y6, y7, y8, y9⟩ := hbx2; simp only at y0 y1 y2 y3 y4 y5 y6 y7 y8 y9; clear hb2)
        go_ret
        exact ⟨rfl, HB2.out⟩
    have hrs : rs = [] := List.eq_nil_of_length_eq_zero (hl.trans m1)
    rw [show form ⟨ba, ba, fr, ep, pi, ge, se, tx, ct, rs⟩ = tx by rw [hfo]; cases tx with | false => exact decide_eq_false (fun h => by cases h.2.2.2) | true => exact decide_eq_true ⟨k12, rfl, hrs, rfl⟩]
    subst m1
    clear hfo hok hl
    rcases k12 with k1 | k1
    · subst k1
      clear hix
      go_enter Tryd.func46, Tryd.ntmps46
      go_wp2_with (go_at_call 60; (with_reducible refine (HE.out).mono ?_); rintro e w2 ⟨rfl, hbx2, hb2⟩; have HB2 := Lib.hid (HB0.out.trans hb2); obtain ⟨y0, y1, y2, y3, y4, y5, y6, y7, y8, y9⟩ := hbx2; simp only at y0 y1 y2 y3 y4 y5 y6 y7 y8 y9; clear hb2)
      go_ret
      exact ⟨rfl, HB2.out⟩
    · subst k1
      clear hix
      go_enter Tryd.func46, Tryd.ntmps46
      go_wp2_with (go_at_call 60; (with_reducible refine (HE.out).mono ?_); rintro e w2 ⟨rfl, hbx2, hb2⟩; have HB2 := Lib.hid (HB0.out.trans hb2); obtain ⟨y0, y1, y2, y3, y4, y5, y6, y7, y8, y9⟩ := hbx2; simp only at y0 y1 y2 y3 y4 y5 y6 y7 y8 y9; clear hb2)
      go_ret
      exact ⟨rfl, HB2.out⟩
end Go.Proofs.YtodklilnmianeaaDoor.Bat

/- The contract of the landed write's own function: a number is put behind the body. -/
namespace Go.Proofs.YtodklilnmianeaaDoor.Bat
open Go.RowKit Go.Proofs.YtodklilnmianeaaDoor.Oct Go.Proofs.YtodklilnmianeaaDoor.Rec Go.Proofs.YtodklilnmianeaaDoor.Crc

theorem below_undrew {B : Nat} {w w' : World} (h : Below B w.drew w') : Below B w w' := ((Below.refl B w).drew).trans h
/-- new bytes, of which a box of the caller's has the slice -/
def WR1 (e : TypeId) (X : Nat) (w : World) (l : List UInt8) (w' : World) : Prop :=
  ∃ A n c w1, OwnB w1 e w.heap.size (.slice A n c) n l ∧ Below w.heap.size w w1 ∧ w1.setCell ⟨X, 0, none⟩ (.slice A n c) = w'
set_option maxRecDepth 100000 in
theorem wr1_any (a : Addr) (v lo hi : Int) (X : Nat) (A : Option Addr) (n c : Nat) (l : List UInt8) (B : Nat) (w : World) (ha : w.cell? a = some (.int .i64 v)) (hal : a.block < w.heap.size) (hI : I64 v) (hX : w.cell? ⟨X, 0, none⟩ = some (.slice A n c)) (hf : w.frozen? ⟨X, 0, none⟩ = false) (hXl : X < w.heap.size) (hr : Rd w B A n l) (hB : B ≤ w.heap.size) (hn : n ≤ 549755813888) :
    Calls Tryd.prog 70 #[.pointer (some a), .int .i64 lo, .int .i64 hi, .pointer (some ⟨X, 0, none⟩)] w fun e w' => e = .returned (.bool true) ∧ WR1 5 X w (l ++ vb (zz v)) w' := by
  have HR := Lib.hid hr
  obtain ⟨h1, h2⟩ := hI
  have hBd : B ≤ w.drew.heap.size := hB
  clear hr
  go_enter Tryd.func70, Tryd.ntmps70
  go_wp2
  go_region_with (go_at_call 71; (with_reducible refine (PutVar_any A n c v l B _ HR.out.drew hBd hn h1 h2).mono ?_); rintro e w1 ⟨A1, n1, c1, rfl, hown1, hb1⟩; have hX1 := (hb1.cell (p := ⟨X, 0, none⟩) hXl).trans hX; have hf1 := (hb1.frozen (p := ⟨X, 0, none⟩) hXl).trans hf; have ha1 := (hb1.cell (p := a) hal).trans ha; have HO := Lib.hid hown1; have HB := Lib.hid hb1; clear hown1 hb1)
  all_goals go_wp2
  all_goals go_ret
  all_goals exact ⟨rfl, A1, n1, c1, w1, HO.out, below_undrew HB.out, rfl⟩
end Go.Proofs.YtodklilnmianeaaDoor.Bat

/- The contract of the landed eachNumber, handed write's own function: the numbers' bytes. -/
namespace Go.Proofs.YtodklilnmianeaaDoor.Bat
open Go.RowKit Go.Proofs.YtodklilnmianeaaDoor.Oct Go.Proofs.YtodklilnmianeaaDoor.Rec Go.Proofs.YtodklilnmianeaaDoor.Crc

theorem vs_ten {l : List Int} (h : ∀ x ∈ l, W64 x) : (vs l).length ≤ 10 * l.length := by
  induction l with
  | nil => simp [vs]
  | cons x l ih =>
    have h1 := ih fun y hy => h y (List.mem_cons_of_mem _ hy)
    have h2 := h x (by simp)
    unfold W64 at h2
    have h3 := vb_ten (zz_lt (n := x) h2)
    rw [vs, List.length_append, List.length_cons]
    omega
theorem rs_145 {l : List Rc} {ba st : Int} (hm : ∀ r ∈ l, may r = true) (hb : inR ba = true) (hs : inR st = true) : (rs ba st l).length ≤ 145 * l.length := by
  induction l with
  | nil => simp [rs]
  | cons x l ih =>
    have h1 := ih fun y hy => hm y (List.mem_cons_of_mem _ hy)
    have h3 := (rb_size (hm x (by simp)) hb hs).2.1
    rw [rs, List.length_append, List.length_cons]
    omega
/-- what stands while the numbers of a batch are written: k of them are in the slice of the box X -/
structure WJ (e : TypeId) (w2 : World) (g X : Nat) (b : Bt) (v : Value) (sp : Int) (k : Nat) (w' : World) : Prop where
  own : ∃ A n c, OwnB w' e (w2.heap.size + 1) (.slice A n c) n (vs ((hd b).take k)) ∧ w'.cell? ⟨X, 0, none⟩ = some (.slice A n c)
  fx : w'.frozen? ⟨X, 0, none⟩ = false
  box : BoxB w' g b v
  fg : w'.frozen? ⟨g, 1, none⟩ = false
  span : w'.cell? ⟨w2.heap.size, 0, none⟩ = some (.int .i64 sp)
  lt : w2.heap.size < w'.heap.size
  bel : Below g w2 w'
theorem WJ.step {w2 w' : World} {g X : Nat} {b : Bt} {v : Value} {sp lo hi x : Int} {k : Nat} {a : Addr} (h : WJ 5 w2 g X b v sp k w') (hgX : g < X) (hXl : X < w2.heap.size) (hW : ∀ x ∈ hd b, W64 x) (hx : (hd b)[k]? = some x) (ha : w'.cell? a = some (.int .i64 x)) (hal : a.block < w'.heap.size) :
    Calls Tryd.prog 70 #[.pointer (some a), .int .i64 lo, .int .i64 hi, .pointer (some ⟨X, 0, none⟩)] w' fun e w3 => e = .returned (.bool true) ∧ WJ 5 w2 g X b v sp (k + 1) w3 := by
  obtain ⟨⟨A, n, c, hown, hX⟩, fx, box, fg, span, lt, bel⟩ := h
  have hl := hown.len
  have h10 := vs_ten (l := (hd b).take k) fun y hy => hW y (List.mem_of_mem_take hy)
  have hk7 : ((hd b).take k).length ≤ 7 := by rw [List.length_take]; simp [hd]; omega
  have hxw := hW x (List.mem_of_getElem? hx)
  refine (wr1_any a x lo hi X A n c _ _ w' ha hal hxw hX fx (by omega) hown.rd (Nat.le_refl _) (by omega)).mono ?_
  rintro e w3 ⟨rfl, A1, n1, c1, w1, hown1, hb1, rfl⟩
  refine ⟨rfl, ?_⟩
  rw [← vs_take hx] at hown1
  have hs1 := hb1.size
  refine ⟨⟨A1, n1, c1, ?_, World.cell?_setCell_same _ _ _ ((hb1.cell (p := ⟨X, 0, none⟩) (by show X < _; omega)).trans hX)⟩, (frozen_set _ _ _ _).trans ((hb1.frozen (p := ⟨X, 0, none⟩) (by show X < _; omega)).trans fx), (box.below hb1 (by omega)).set (by omega), (frozen_set _ _ _ _).trans ((hb1.frozen (p := ⟨g, 1, none⟩) (by show g < _; omega)).trans fg), ?_, ?_, ?_⟩
  · exact OwnB.more (ownsRow_setCell_below hown1 (by show X < _; omega) _) (by omega)
  · exact (cell_off (by simp; omega)).trans ((hb1.cell (p := ⟨w2.heap.size, 0, none⟩) (by show _ < _; omega)).trans span)
  · simp [World.setCell]; omega
  · exact (bel.trans (hb1.mono (by omega))).setCell (by show g ≤ X; omega) _
/-- what eachNumber leaves -/
def WRE (e : TypeId) (g X : Nat) (w2 : World) (b : Bt) (v : Value) (w' : World) : Prop :=
  ∃ A n c, OwnB w' e w2.heap.size (.slice A n c) n (vs (hd b)) ∧ w'.cell? ⟨X, 0, none⟩ = some (.slice A n c) ∧ w'.frozen? ⟨X, 0, none⟩ = false ∧ BoxB w' g b v ∧ Below g w2 w' ∧ w2.heap.size < w'.heap.size
theorem wrEach (w2 : World) (g X : Nat) (b : Bt) (v : Value) (hbox : BoxB w2 g b v) (hfz : w2.frozen? ⟨g, 1, none⟩ = false) (hX : w2.cell? ⟨X, 0, none⟩ = some (.slice none 0 0)) (hXf : w2.frozen? ⟨X, 0, none⟩ = false) (hgX : g < X) (hXl : X < w2.heap.size) (hF : Form b) :
    Calls Tryd.prog 60 #[.pointer (some ⟨g, 0, none⟩), .func (.func 70) #[] #[.pointer (some ⟨X, 0, none⟩)]] w2 fun e w' => e = .returned (.bool true) ∧ WRE 5 g X w2 b v w' := by
  have hW := hF.heads
  have h1 := hF.base0
  have h2 := hF.base1
  have h3 := hF.le
  have h4 := hF.near
  have hsp : IntKind.i64.wrap (b.last - b.base) = b.last - b.base := IntWalk.i64_in _ (by omega)
  have hla : wrap64 (b.base + (b.last - b.base)) = b.last := by unfold wrap64; omega
  have hbx := hbox
  obtain ⟨c0, c1, c2, c3, c4, c5, c6, c7, c8, c9⟩ := hbx
  have hj0 : WJ 5 w2 g X b v (b.last - b.base) 0 (w2.alloc (.cells #[.int .i64 (b.last - b.base)] 3)).drew.drew := by
    have hbl : Below w2.heap.size w2 (w2.alloc (.cells #[.int .i64 (b.last - b.base)] 3)) := (Below.refl _ _).alloc (Nat.le_refl _) _
    refine ⟨⟨none, 0, 0, OwnB.nil, (hbl.cell (p := ⟨X, 0, none⟩) hXl).trans hX⟩, (hbl.frozen (p := ⟨X, 0, none⟩) hXl).trans hXf, (hbox.below hbl (by omega) : BoxB (w2.alloc _) g b v), (hbl.frozen (p := ⟨g, 1, none⟩) (by show g < _; omega)).trans hfz, ?_, ?_, (hbl.mono (by omega)).drew.drew⟩
    · show (w2.alloc _).cell? _ = _
      simp [go_sem]
    · show _ < (w2.alloc _).heap.size
      simp
  refine (each_E27 X g b.base b.last (b.last - b.base) b.base (b.last - b.base) w2 (by omega) c0 c1 hsp (fun k => WJ 5 w2 g X b v (b.last - b.base) k) hj0 (fun k w1 h => ⟨_, _, h.box.1, h.span⟩) (fun w1 h => ⟨h.box.1, h.span, ⟨_, h.box.2.1⟩, h.fg⟩)
    (fun w1 _ _ h => h.step hgX hXl hW rfl h.box.1 (by show g < _; have := h.lt; omega))
    (fun w1 _ _ h => h.step hgX hXl hW rfl h.span h.lt)
    (fun w1 _ _ h => h.step hgX hXl hW rfl h.box.2.2.1 (by show g < _; have := h.lt; omega))
    (fun w1 _ _ h => h.step hgX hXl hW rfl h.box.2.2.2.1 (by show g < _; have := h.lt; omega))
    (fun w1 _ _ h => h.step hgX hXl hW rfl h.box.2.2.2.2.1 (by show g < _; have := h.lt; omega))
    (fun w1 _ _ h => h.step hgX hXl hW rfl h.box.2.2.2.2.2.1 (by show g < _; have := h.lt; omega))
    (fun w1 _ _ h => h.step hgX hXl hW rfl h.box.2.2.2.2.2.2.1 (by show g < _; have := h.lt; omega))).mono ?_
  rintro e w' ⟨rfl, w1, ⟨⟨A, n, c, hown, hXc⟩, fx, box, fg, span, lt, bel⟩, rfl⟩
  rw [hla]
  refine ⟨rfl, A, n, c, ?_, ?_, (frozen_set _ _ _ _).trans fx, box.put1.drew, (bel.setCell (by show g ≤ g; omega) _).drew, ?_⟩
  · exact OwnB.more (ownsRow_setCell_below hown (by show g < _; omega) _) (by omega)
  · exact (cell_off (p := ⟨X, 0, none⟩) (by simp; omega)).trans hXc
  · show _ < (w1.setCell _ _).heap.size
    simpa [World.setCell] using lt
end Go.Proofs.YtodklilnmianeaaDoor.Bat

/- The contracts of slices.Clone over records, bytes.Equal, and the landed mark. -/
namespace Go.Proofs.YtodklilnmianeaaDoor.Bat
open Go.RowKit Go.Proofs.YtodklilnmianeaaDoor.Oct Go.Proofs.YtodklilnmianeaaDoor.Rec Go.Proofs.YtodklilnmianeaaDoor.Crc Go.Proofs.YtodklilnmianeaaDoor.Lay Go.Proofs.YtodklilnmianeaaDoor.RowF

theorem ownF_empty {α : Type} (f : α → List Value) (size : Nat) (w : World) (e : TypeId) : OwnF f size (w.alloc (.cells #[] e)) e w.heap.size (.slice (some ⟨w.heap.size, 0, none⟩) 0 0) 0 ([] : List α) := by
  have h1 := World.ownsRow_lit (base := w.heap.size) (e := e) (size := size) w #[] 0 (by simp) (by unfold maxLen; omega) (by simp)
  simpa [OwnF] using h1
/-- records of the call's own, handed back -/
def RecsO (e : TypeId) (w : World) (n : Nat) (rs : List Rc) (en : Ending) (w' : World) : Prop :=
  ∃ A' c', en = .returned (.slice A' n c') ∧ OwnF recC 5 w' e w.heap.size (.slice A' n c') n rs ∧ Below w.heap.size w w'
set_option maxRecDepth 100000 in
theorem cloneR_any (A : Option Addr) (n c : Nat) (rs : List Rc) (w : World) (hr : RdR w w.heap.size A n rs) (hn : n ≤ 1099511627776) :
    Calls Tryd.prog 43 #[.slice A n c] w (RecsO 43 w n rs) := by
  have hq := Go.run_eql_slice_nil (P := Tryd.prog) w 22 43 A n c Tryd.underlying22
  have HR := Lib.hid (rdF_of hr)
  cases A with
  | none =>
    obtain ⟨hn0, hl0⟩ := HR.out.isNil
    subst hn0
    subst hl0
    clear hr
    go_enter Tryd.func43, Tryd.ntmps43
    go_wp2
    go_ret
    exact ⟨none, 0, rfl, OwnF.nil, Below.refl _ _⟩
  | some a =>
    clear hr
    go_enter Tryd.func43, Tryd.ntmps43
    go_wp2_with (at_builtin; refine wpList_appF _ recS rfl _ _ 22 rfl 56 w.heap.size 43 Tryd.underlying22 recInfo _ 0 [] rfl (ownF_empty recC 5 w 43) w.heap.size (some a) n c rs rfl (HR.out.alloc (Nat.le_refl _) _) (by omega) (by omega) (by simp) ?_; intro A1 c1 w1 hown1 hb1; simp only [Nat.zero_add, List.nil_append] at hown1 ⊢; have HO := Lib.hid hown1; have HB := Lib.hid hb1; clear hown1 hb1)
    go_ret
    exact ⟨A1, c1, rfl, HO.out, ((Below.refl w.heap.size w).alloc (Nat.le_refl _) (.cells #[] 43)).trans HB.out⟩
theorem eqlB_any (A1 A2 : Option Addr) (n1 c1 n2 c2 : Nat) (l1 l2 : List UInt8) (B1 B2 : Nat) (w : World) (h1 : Rd w B1 A1 n1 l1) (h2 : Rd w B2 A2 n2 l2) :
    Calls Tryd.prog 63 #[.slice A1 n1 c1, .slice A2 n2 c2] w fun e w' => e = .returned (.bool (sameB l1 l2)) ∧ w = w' := by
  have r1 := run_toString (P := Tryd.prog) w 30 9 5 Tryd.underlying30 Tryd.underlying5 Tryd.underlying9 B1 A1 n1 c1 l1 h1
  have r2 := run_toString (P := Tryd.prog) w 30 9 5 Tryd.underlying30 Tryd.underlying5 Tryd.underlying9 B2 A2 n2 c2 l2 h2
  clear h1 h2
  go_enter Tryd.func63, Tryd.ntmps63
  go_wp2
  go_ret
  exact ⟨rfl, rfl⟩
set_option maxRecDepth 100000 in
theorem mark_any (ba la fr ep pi ge se : Int) (tx : Bool) (ct : Int) (rs : List Rc) (A : Option Addr) (n c : Nat) (w : World) (h0 : 0 ≤ ct) (h1 : ct ≤ 2) :
    Calls Tryd.prog 72 #[.agg #[.int .i64 ba, .int .i64 la, .int .i64 fr, .int .i64 ep, .int .i64 pi, .int .i64 ge, .int .i64 se, .bool tx, .int .i64 ct, .slice A n c]] w fun e w' => e = .returned (.int .u8 ((mark ⟨ba, la, fr, ep, pi, ge, se, tx, ct, rs⟩).toNat : Int)) ∧ Below w.heap.size w w' := by
  have hm := mark_num (b := ⟨ba, la, fr, ep, pi, ge, se, tx, ct, rs⟩) h0 (by simp only; omega)
  simp only at hm
  rw [hm]
  rcases tx with _ | _
  · have hv : ((ct.toNat + if false = true then 4 else 0 : Nat) : Int) = ct := by simp; omega
    rw [hv]
    clear hm hv
    go_enter Tryd.func72, Tryd.ntmps72
    go_wp2
    go_ret
    exact ⟨rfl, (Below.refl _ _).alloc (Nat.le_refl _) _⟩
  · have hv : ((ct.toNat + if true = true then 4 else 0 : Nat) : Int) = ct + 4 := by simp; omega
    rw [hv]
    clear hm hv
    go_enter Tryd.func72, Tryd.ntmps72
    go_wp2
    go_ret
    exact ⟨rfl, (Below.refl _ _).alloc (Nat.le_refl _) _⟩
end Go.Proofs.YtodklilnmianeaaDoor.Bat

/- The contract of the landed write: a batch's body. -/
namespace Go.Proofs.YtodklilnmianeaaDoor.Bat
open Go.RowKit Go.Proofs.YtodklilnmianeaaDoor.Oct Go.Proofs.YtodklilnmianeaaDoor.Rec Go.Proofs.YtodklilnmianeaaDoor.Crc Go.Proofs.YtodklilnmianeaaDoor.Lay Go.Proofs.YtodklilnmianeaaDoor.RowF

def wrRel (e : TypeId) (g X B : Nat) (b : Bt) (v : Value) (pre : List UInt8) (st : Int) (n : Nat) (w : World) (i : Value) (wr : World) : Prop :=
  ∃ (k m : Nat) (A : Option Addr) (c : Nat), i = .int .i64 (k : Int) ∧ k ≤ n ∧ OwnB wr e B (.slice A m c) m (pre ++ rs b.base st (b.recs.take k)) ∧ wr.cell? ⟨X, 0, none⟩ = some (.slice A m c) ∧ wr.frozen? ⟨X, 0, none⟩ = false ∧ BoxB wr g b v ∧ Below g w wr ∧ B ≤ wr.heap.size
set_option maxRecDepth 100000 in
set_option maxHeartbeats 8000000 in
theorem write_any (ba la fr ep pi ge se : Int) (tx : Bool) (ct : Int) (rs0 : List Rc) (A : Option Addr) (n c : Nat) (w : World) (hF : Form ⟨ba, la, fr, ep, pi, ge, se, tx, ct, rs0⟩) (hr : RdR w w.heap.size A n rs0) :
    Calls Tryd.prog 47 #[.agg #[.int .i64 ba, .int .i64 la, .int .i64 fr, .int .i64 ep, .int .i64 pi, .int .i64 ge, .int .i64 se, .bool tx, .int .i64 ct, .slice A n c]] w (RB 5 w.heap.size w (body ⟨ba, la, fr, ep, pi, ge, se, tx, ct, rs0⟩)) := by
  have hI := u8row
  obtain ⟨BD, hBD⟩ : ∃ l, body ⟨ba, la, fr, ep, pi, ge, se, tx, ct, rs0⟩ = l := ⟨_, rfl⟩
  rw [hBD]
  have HBD := Lib.hid hBD
  clear hBD
  have hbox := boxB_new w 24 ⟨ba, la, fr, ep, pi, ge, se, tx, ct, rs0⟩ (.slice A n c)
  have hfz : (w.alloc (.cells #[.int .i64 ba, .int .i64 la, .int .i64 fr, .int .i64 ep, .int .i64 pi, .int .i64 ge, .int .i64 se, .bool tx, .int .i64 ct, .slice A n c] 24)).frozen? ⟨w.heap.size, 1, none⟩ = false := by simp [go_sem]
  have hb1 := bel_alloc (Below.refl w.heap.size w) (.cells #[.int .i64 ba, .int .i64 la, .int .i64 fr, .int .i64 ep, .int .i64 pi, .int .i64 ge, .int .i64 se, .bool tx, .int .i64 ct, .slice A n c] 24)
  have hs1 : (w.alloc (.cells #[.int .i64 ba, .int .i64 la, .int .i64 fr, .int .i64 ep, .int .i64 pi, .int .i64 ge, .int .i64 se, .bool tx, .int .i64 ct, .slice A n c] 24)).heap.size = w.heap.size + 1 := by simp
  have HE := Lib.hid (fun (w1 : World) (hb : BoxB w1 w.heap.size ⟨ba, la, fr, ep, pi, ge, se, tx, ct, rs0⟩ (.slice A n c)) (hz : w1.frozen? ⟨w.heap.size, 1, none⟩ = false) (hs : w1.heap.size = w.heap.size + 1) =>
    wrEach (w1.alloc (.cells #[.slice none 0 0] 30)) w.heap.size (w.heap.size + 1) ⟨ba, la, fr, ep, pi, ge, se, tx, ct, rs0⟩ (.slice A n c) (hb.below (bel_alloc (Below.refl _ _) _) (by omega)) ((World.frozen?_alloc_past _ _ _ (by show w.heap.size < w1.heap.size; omega)).trans hz) (by rw [← hs]; simp [go_sem]) (by rw [← hs]; simp [go_sem]) (by omega) (by simp; omega) hF)
  have HF := Lib.hid hF
  have HR := Lib.hid hr
  have HBX := Lib.hid hbox
  have HFZ := Lib.hid hfz
  have HB1 := Lib.hid hb1
  have hn16 := hF.few
  have hlen := hr.len
  have hn : n ≤ 16 := by simp only at hn16; omega
  have hct0 := hF.ctl0
  have hct2 := hF.ctl1
  simp only at hct0 hct2
  clear hF hr hbox hfz hb1 hn16
  go_enter Tryd.func47, Tryd.ntmps47
  generalize hw1 : w.alloc (.cells #[.int .i64 ba, .int .i64 la, .int .i64 fr, .int .i64 ep, .int .i64 pi, .int .i64 ge, .int .i64 se, .bool tx, .int .i64 ct, .slice A n c] 24) = w1 at HBX HFZ HB1 hs1
  have hg3 : w.heap.size < w.heap.size + 1 := by omega
  go_upto_region 3 with (first | (go_at_call 60; (with_reducible refine (HE.out w1 HBX.out HFZ.out hs1).mono ?_); rintro e w3 ⟨rfl, A3, n3, c3, hown3, hX3, fX3, hbox3, hb3, hs3⟩; have HO3 := Lib.hid hown3; have HBX3 := Lib.hid hbox3; have HB3 := Lib.hid hb3; have HS3 := Lib.hid hs3; obtain ⟨y3_0, y3_1, y3_2, y3_3, y3_4, y3_5, y3_6, y3_7, y3_8, y3_9⟩ := HBX3.out; simp only at y3_0 y3_1 y3_2 y3_3 y3_4 y3_5 y3_6 y3_7 y3_8 y3_9; have hl3 := hown3.len; clear hown3 hbox3 hb3 hs3))
  have hw2 : (w1.alloc (.cells #[.slice none 0 0] 30)).heap.size = w.heap.size + 2 := by simp; omega
  rw [hw2] at HO3 HS3
  have hs3 := HS3.out
  have hn3 : n3 ≤ 70 := by
    have h := vs_ten HF.out.heads
    rw [hl3] at h
    simpa [hd] using h
  clear hl3
  obtain ⟨mk, hmk⟩ : ∃ mk, mark ⟨ba, la, fr, ep, pi, ge, se, tx, ct, rs0⟩ = mk := ⟨_, rfl⟩
  have HM := Lib.hid (fun w' : World => (hmk ▸ mark_any ba la fr ep pi ge se tx ct rs0 A n c w' hct0 hct2 : Calls Tryd.prog 72 #[.agg #[.int .i64 ba, .int .i64 la, .int .i64 fr, .int .i64 ep, .int .i64 pi, .int .i64 ge, .int .i64 se, .bool tx, .int .i64 ct, .slice A n c]] w' fun e w'' => e = .returned (.int .u8 (mk.toNat : Int)) ∧ Below w'.heap.size w' w''))
  have HMK := Lib.hid hmk
  clear hmk
  go_cut [] (fun wx => ∃ A5 c5, OwnB wx 5 (w.heap.size + 2) (.slice A5 (n3 + 1) c5) (n3 + 1) (vs (hd ⟨ba, la, fr, ep, pi, ge, se, tx, ct, rs0⟩) ++ [mk]) ∧ wx.cell? ⟨w.heap.size + 1, 0, none⟩ = some (.slice A5 (n3 + 1) c5) ∧ wx.frozen? ⟨w.heap.size + 1, 0, none⟩ = false ∧ BoxB wx w.heap.size ⟨ba, la, fr, ep, pi, ge, se, tx, ct, rs0⟩ (.slice A n c) ∧ Below w.heap.size w3 wx)
  case first =>
    go_region_law (first
      | (refine step_appB _ rfl _ _ 30 rfl (w.heap.size + 2) 5 Tryd.underlying30 hI _ n3 _ rfl (HO4.out.alloc _) _ (some ⟨w4.heap.size, 0, none⟩) 1 1 [mk] rfl (new1 w4 5 mk) (by omega) (by simp; omega) ?_; intro A5 c5 w5 hown5 hb5; have hX5 := (hb5.cell (p := ⟨w.heap.size + 1, 0, none⟩) (show w.heap.size + 1 < w.heap.size + 2 by omega)).trans ((World.cell?_alloc_past _ _ _ (show w.heap.size + 1 < w4.heap.size by omega)).trans hX4); have fX5 := (hb5.frozen (p := ⟨w.heap.size + 1, 0, none⟩) (show w.heap.size + 1 < w.heap.size + 2 by omega)).trans ((World.frozen?_alloc_past _ _ _ (show w.heap.size + 1 < w4.heap.size by omega)).trans fX4); have HO5 := Lib.hid hown5; have HB5 := Lib.hid hb5; clear hown5 hb5)
      | (go_simp; go_at_call 72; (with_reducible refine (HM.out _).mono ?_); rintro e w4 ⟨rfl, hb4⟩; have hb34 := below_undrew hb4; have hs4 : w3.heap.size ≤ w4.heap.size := hb34.size; have hlt4 : w.heap.size + 1 < w4.heap.size := (by omega); have hX4 := (hb34.cell (p := ⟨w.heap.size + 1, 0, none⟩) (show w.heap.size + 1 < w3.heap.size by omega)).trans hX3; have fX4 := (hb34.frozen (p := ⟨w.heap.size + 1, 0, none⟩) (show w.heap.size + 1 < w3.heap.size by omega)).trans fX3; have HB4 := Lib.hid (show Below w3.heap.size w3 w4 from hb34); have HO4 := Lib.hid (HO3.out.below hb34); clear hb4 hb34))
    all_goals (go_wp2_with fail; go_meet)
    all_goals exact ⟨A5, c5, ownsRow_setCell_below HO5.out (show w.heap.size + 1 < w.heap.size + 2 by omega) _, World.cell?_setCell_same _ _ _ hX5, (frozen_set _ _ _ _).trans fX5, ((((HBX3.out.below HB4.out (by omega)).below (bel_alloc (Below.refl _ _) _) (by omega)).below HB5.out (by omega)).set (by omega)), (((HB4.out.mono (by omega)).alloc (by omega) _).trans (HB5.out.mono (by omega))).setCell (show w.heap.size ≤ w.heap.size + 1 by omega) _⟩
  case rest =>
    obtain ⟨A5, c5, hown5, hX5, fX5, hbox5, hb5⟩ := hcut
    have HO5 := Lib.hid hown5
    have HBX5 := Lib.hid hbox5
    have HB5 := Lib.hid ((HB1.out.trans ((bel_alloc (Below.refl _ _) _).mono (by omega))).trans (HB3.out.trans hb5))
    have hs5 : w.heap.size + 2 < wc.heap.size := by
      obtain ⟨g5, cap5, _, hg5, hl5⟩ := World.ownsRow.form hown5 (by omega)
      omega
    clear y3_0 y3_1 y3_2 y3_3 y3_4 y3_5 y3_6 y3_7 y3_8 y3_9
    obtain ⟨y5_0, y5_1, y5_2, y5_3, y5_4, y5_5, y5_6, y5_7, y5_8, y5_9⟩ := hbox5
    simp only at y5_0 y5_1 y5_2 y5_3 y5_4 y5_5 y5_6 y5_7 y5_8 y5_9
    clear hown5 hb5 hX3 fX3
    by_cases hn0 : n = 0
    · have hrs : rs0 = [] := List.eq_nil_of_length_eq_zero (hlen.trans hn0)
      have HB0 := Lib.hid (show vs (hd ⟨ba, la, fr, ep, pi, ge, se, tx, ct, rs0⟩) ++ [mk] ++ vb (zz 0) = BD by
        rw [← HBD.out, ← HMK.out]
        subst hrs
        simp [body, tl])
      subst hn0
      clear hrs
      go_wp2_with (first | (go_at_call 71; (with_reducible refine (PutVar_any A5 (n3 + 1) c5 0 _ _ wc HO5.out.rd (Nat.le_refl _) (by omega) (by omega) (by omega)).mono ?_); rintro e w6 ⟨A6, n6, c6, rfl, hown6, hb6⟩; have HO6 := Lib.hid hown6; have HB6 := Lib.hid hb6; have hs6 := hb6.size; have hX6 := (hb6.cell (p := ⟨w.heap.size + 1, 0, none⟩) (show w.heap.size + 1 < wc.heap.size by omega)).trans hX5; have fX6 := (hb6.frozen (p := ⟨w.heap.size + 1, 0, none⟩) (show w.heap.size + 1 < wc.heap.size by omega)).trans fX5; have y6_9 := (hb6.cell (p := ⟨w.heap.size, 9, none⟩) (show w.heap.size < wc.heap.size by omega)).trans y5_9; have HBX6 := Lib.hid (HBX5.out.below hb6 (by omega)); clear hown6 hb6))
      go_ret
      refine ⟨A6, n6, c6, rfl, ?_, (HB5.out.trans (HB6.out.mono (by omega))).setCell (show w.heap.size ≤ w.heap.size + 1 by omega) _⟩
      rw [← HB0.out]
      exact OwnB.more (ownsRow_setCell_below HO6.out (show w.heap.size + 1 < wc.heap.size by omega) _) (by omega)
    · have hn0' : ((n : Int) == 0) = false := beqF (by omega)
      have hRC := HR.out.below HB5.out (Nat.le_refl _)
      obtain ⟨b0, o0, r0, hA0, hbb0, hr0, hat0⟩ := hRC.at (show 0 < n by omega)
      obtain ⟨st, hst⟩ : ∃ st, r0.stamp = st := ⟨_, rfl⟩
      have g5 := hat0.2.2.2.2
      rw [hst, Nat.zero_mul, Nat.add_zero] at g5
      have hm0 := may_iff.1 (HF.out.mays _ (List.mem_of_getElem? hr0))
      rw [hst] at hm0
      obtain ⟨-, ⟨hst0, hst1⟩, -, -, -⟩ := hm0
      have HBE := Lib.hid (show vs (hd ⟨ba, la, fr, ep, pi, ge, se, tx, ct, rs0⟩) ++ [mk] ++ vb (zz (n : Int)) ++ vb (zz st) ++ rs ba st rs0 = BD by
        rw [← HBD.out, ← HMK.out]
        cases rs0 with
        | nil => simp at hr0
        | cons x l =>
          have hx : x = r0 := by simpa using hr0
          subst hx
          rw [← hst]
          simp only [body, tl]
          rw [show (((x :: l).length : Nat) : Int) = (n : Int) by rw [hlen]]
          simp [List.append_assoc])
      subst hA0
      have hne0 : ¬ b0 = w.heap.size + 1 := by omega
      have hne1 : ¬ w.heap.size + 1 = b0 := by omega
      clear hat0 hr0 hst hRC
      obtain ⟨pre, hpre⟩ : ∃ l, vs (hd ⟨ba, la, fr, ep, pi, ge, se, tx, ct, rs0⟩) ++ [mk] ++ vb (zz (n : Int)) ++ vb (zz st) = l := ⟨_, rfl⟩
      have HPRE := Lib.hid hpre
      have hpl : pre.length ≤ 200 := by
        rw [← hpre]
        have h1 := vs_ten HF.out.heads
        have h2 := vb_ten (zz_lt (n := (n : Int)) (by omega))
        have h3 := vb_ten (zz_lt (n := st) (by omega))
        simp only [List.length_append, List.length_singleton]
        simp only [hd, List.length_cons, List.length_nil] at h1 ⊢
        omega
      clear hpre
      go_wp2_with (first
        | (go_at_call 71; (with_reducible refine (PutVar_any A6 n6 c6 st _ _ _ HO6s.out.rd (Nat.le_refl _) (by omega) (by omega) (by omega)).mono ?_); rintro e w7 ⟨A7, n7, c7, rfl, hown7, hb7⟩; have HO7 := Lib.hid hown7; have HB7 := Lib.hid hb7; have hs7 := hb7.size; have hX7 := (hb7.cell (p := ⟨w.heap.size + 1, 0, none⟩) (show w.heap.size + 1 < _ by omega)).trans (World.cell?_setCell_same _ _ _ hX6); have fX7 := (hb7.frozen (p := ⟨w.heap.size + 1, 0, none⟩) (show w.heap.size + 1 < _ by omega)).trans ((frozen_set _ _ _ _).trans fX6); have HBX7 := Lib.hid (HBX6s.out.below hb7 (by omega)); have hl7 := hown7.len; have hn7 : n7 ≤ 110 := (by rw [List.length_append, HO6s.out.len] at hl7; have := vb_ten (zz_lt (n := st) (by omega)); omega); have y7_9 := (hb7.cell (p := ⟨w.heap.size, 9, none⟩) (show w.heap.size < _ by omega)).trans HBX6s.out.2.2.2.2.2.2.2.2.2; clear hown7 hb7 hl7)
        | (go_at_call 71; (with_reducible refine (PutVar_any A5 (n3 + 1) c5 (n : Int) _ _ wc HO5.out.rd (Nat.le_refl _) (by omega) (by omega) (by omega)).mono ?_); rintro e w6 ⟨A6, n6, c6, rfl, hown6, hb6⟩; have HO6 := Lib.hid hown6; have HB6 := Lib.hid hb6; have hs6 := hb6.size; have hX6 := (hb6.cell (p := ⟨w.heap.size + 1, 0, none⟩) (show w.heap.size + 1 < wc.heap.size by omega)).trans hX5; have fX6 := (hb6.frozen (p := ⟨w.heap.size + 1, 0, none⟩) (show w.heap.size + 1 < wc.heap.size by omega)).trans fX5; have y6_9 := (hb6.cell (p := ⟨w.heap.size, 9, none⟩) (show w.heap.size < wc.heap.size by omega)).trans y5_9; have HBX6 := Lib.hid (HBX5.out.below hb6 (by omega)); have g6 := (hb6.cell (p := ⟨b0, o0 + 4, none⟩) (show b0 < wc.heap.size by omega)).trans g5; have hl6 := hown6.len; have hn6 : n6 ≤ 90 := (by rw [List.length_append, HO5.out.len] at hl6; have := vb_ten (zz_lt (n := (n : Int)) (by omega)); omega); have HO6s := Lib.hid (show OwnB (w6.setCell ⟨w.heap.size + 1, 0, none⟩ (.slice A6 n6 c6)) 5 wc.heap.size (.slice A6 n6 c6) n6 _ from ownsRow_setCell_below hown6 (show w.heap.size + 1 < wc.heap.size by omega) _); have hsz6 : (w6.setCell ⟨w.heap.size + 1, 0, none⟩ (.slice A6 n6 c6)).heap.size = w6.heap.size := (by simp [World.setCell]); have HBX6s := Lib.hid (show BoxB (w6.setCell ⟨w.heap.size + 1, 0, none⟩ (.slice A6 n6 c6)) w.heap.size ⟨ba, la, fr, ep, pi, ge, se, tx, ct, rs0⟩ (.slice (some ⟨b0, o0, none⟩) n c) from HBX6.out.set (by omega)); have HB6s := Lib.hid (show Below w.heap.size w (w6.setCell ⟨w.heap.size + 1, 0, none⟩ (.slice A6 n6 c6)) from (HB5.out.trans (hb6.mono (by omega))).setCell (show w.heap.size ≤ w.heap.size + 1 by omega) _); clear hown6 hb6 hl6))
      have hbr : inR ba = true := inR_iff.2 ⟨HF.out.base0, HF.out.base1⟩
      have hsr : inR st = true := inR_iff.2 ⟨hst0, hst1⟩
      have hb64 := inR_iff.1 hbr
      have HO8 := Lib.hid (show OwnB (w7.setCell ⟨w.heap.size + 1, 0, none⟩ (.slice A7 n7 c7)) 5 wc.heap.size (.slice A7 n7 c7) n7 (pre ++ rs ba st (rs0.take 0)) by
        rw [List.take_zero, rs, List.append_nil, ← HPRE.out]
        exact OwnB.more (ownsRow_setCell_below HO7.out (show w.heap.size + 1 < _ by omega) _) (by omega))
      have HB8 := Lib.hid (show Below w.heap.size w (w7.setCell ⟨w.heap.size + 1, 0, none⟩ (.slice A7 n7 c7)) from (HB6s.out.trans (HB7.out.mono (by omega))).setCell (show w.heap.size ≤ w.heap.size + 1 by omega) _)
      have HBX8 := Lib.hid (show BoxB (w7.setCell ⟨w.heap.size + 1, 0, none⟩ (.slice A7 n7 c7)) w.heap.size ⟨ba, la, fr, ep, pi, ge, se, tx, ct, rs0⟩ (.slice (some ⟨b0, o0, none⟩) n c) from HBX7.out.set (by omega))
      have hX8 : (w7.setCell ⟨w.heap.size + 1, 0, none⟩ (.slice A7 n7 c7)).cell? ⟨w.heap.size + 1, 0, none⟩ = some (.slice A7 n7 c7) := World.cell?_setCell_same _ _ _ hX7
      have fX8 : (w7.setCell ⟨w.heap.size + 1, 0, none⟩ (.slice A7 n7 c7)).frozen? ⟨w.heap.size + 1, 0, none⟩ = false := (frozen_set _ _ _ _).trans fX7
      have hs8 : (w7.setCell ⟨w.heap.size + 1, 0, none⟩ (.slice A7 n7 c7)).heap.size = w7.heap.size := by simp [World.setCell]
      generalize hw8 : w7.setCell ⟨w.heap.size + 1, 0, none⟩ (.slice A7 n7 c7) = w8 at HO8 HB8 HBX8 hX8 fX8 hs8 ⊢
      clear hw8
      clear hX7 fX7 y7_9 hX6 fX6 y6_9 g6 g5
      clear y5_0 y5_1 y5_2 y5_3 y5_4 y5_5 y5_6 y5_7 y5_8 y5_9 hX5 fX5
      have hwc8 : wc.heap.size ≤ w8.heap.size := by omega
      clear hsz6 hs6 hs7 hs8
      go_loopw [37] (fun i wr => wrRel 5 w.heap.size (w.heap.size + 1) wc.heap.size ⟨ba, la, fr, ep, pi, ge, se, tx, ct, rs0⟩ (.slice (some ⟨b0, o0, none⟩) n c) pre st n w i wr) (fun i _ => n - (intOf i).toNat)
      case atStart => exact ⟨0, n7, A7, c7, rfl, Nat.zero_le _, HO8.out, hX8, fX8, HBX8.out, HB8.out, hwc8⟩
      case round =>
        obtain ⟨k, m, A9, c9, rfl, hk, hown9, hX9, fX9, hbox9, hb9, hs9⟩ := hrel
        simp only at hown9
        have hl9 := hown9.len
        have hm9 : m ≤ 2600 := by
          have h1 := rs_145 (l := rs0.take k) (fun r hr => HF.out.mays r (List.mem_of_mem_take hr)) hbr hsr
          rw [List.length_append] at hl9
          rw [List.length_take] at h1
          omega
        have HO9 := Lib.hid hown9
        have HB9 := Lib.hid hb9
        have HBX9 := Lib.hid hbox9
        have hws : w.heap.size + 2 < wr.heap.size := by omega
        clear hl9
        by_cases hlt : k < n
        · obtain ⟨b, o, r, hA, hbb, hrk, hat⟩ := (HR.out.below HB9.out (Nat.le_refl _)).at hlt
          obtain ⟨rfl, rfl⟩ : b0 = b ∧ o0 = o := by simpa using hA
          obtain ⟨ro, rk, rv, rd, rt⟩ := r
          obtain ⟨a0, a1, a2, a3, a4⟩ := hat
          simp only at a0 a1 a2 a3 a4
          have hmay := HF.out.mays _ (List.mem_of_getElem? hrk)
          obtain ⟨mo, mt, mk1, mv1, -⟩ := may_iff.1 hmay
          simp only at mo mt mk1 mv1
          have HP := Lib.hid (fun w' : World => (show Calls Tryd.prog 73 #[.agg #[.int .i64 ro, .string rk, .string rv, .bool rd, .int .i64 rt], .int .i64 ba, .int .i64 st] w' (OPr 5 w'.heap.size w' (rb ⟨ro, rk, rv, rd, rt⟩ ba st) 0) by
            have h := Put_any' ro rt rk rv rd ba st w' (by omega) (by omega) (by omega) (by omega) (by omega) (by omega)
            rw [pt_yes hmay hbr hsr] at h
            exact h))
          have hlb := (rb_size hmay hbr hsr).2.1
          have HST := Lib.hid (rs_take (ba := ba) (st := st) hrk)
          have hb10 := bel_alloc (Below.refl wr.heap.size wr) (.cells #[.int .i64 ro, .string rk, .string rv, .bool rd, .int .i64 rt] 43)
          have hs10 : (wr.alloc (.cells #[.int .i64 ro, .string rk, .string rv, .bool rd, .int .i64 rt] 43)).heap.size = wr.heap.size + 1 := by simp
          have HBX10 := Lib.hid (hbox9.below hb10 (by omega))
          have HO10 := Lib.hid (HO9.out.alloc (.cells #[.int .i64 ro, .string rk, .string rv, .bool rd, .int .i64 rt] 43))
          have hX10 := (hb10.cell (p := ⟨w.heap.size + 1, 0, none⟩) (show w.heap.size + 1 < wr.heap.size by omega)).trans hX9
          have fX10 := (hb10.frozen (p := ⟨w.heap.size + 1, 0, none⟩) (show w.heap.size + 1 < wr.heap.size by omega)).trans fX9
          have HB10 := Lib.hid (HB9.out.trans (hb10.mono (by omega)))
          have HX := Lib.hid (box_new wr 43 ⟨ro, rk, rv, rd, rt⟩)
          obtain ⟨x0, x1, x2, x3, x4⟩ := box_new wr 43 ⟨ro, rk, rv, rd, rt⟩
          obtain ⟨z0, z1, z2, z3, z4, z5, z6, z7, z8, z9⟩ := hbox9
          have u0 := HBX10.out.1
          simp only at z0 z1 z2 z3 z4 z5 z6 z7 z8 z9 u0
          clear hrk hmay hA hbb hown9 hb9 hb10 mo mt mk1 mv1
          go_wp2_with (first
            | (go_at_call 73; (with_reducible refine (HP.out _).mono ?_); rintro e w11 ⟨A11, n11, c11, rfl, hown11, hb11⟩; have HO11 := Lib.hid hown11; have HB11 := Lib.hid hb11; have hs11 := hb11.size; have hX11 := (hb11.cell (p := ⟨w.heap.size + 1, 0, none⟩) (show w.heap.size + 1 < _ by omega)).trans hX10; have fX11 := (hb11.frozen (p := ⟨w.heap.size + 1, 0, none⟩) (show w.heap.size + 1 < _ by omega)).trans fX10; have hl11 := hown11.len; have hn11 : n11 ≤ 145 := (by omega); clear hown11 hb11 hl11)
            | (at_builtin; refine wpList_appB _ rfl _ _ 30 rfl wc.heap.size 5 Tryd.underlying30 hI _ m _ rfl (HO10.out.below HB11.out) _ A11 n11 c11 _ rfl HO11.out.rd (by omega) (by omega) ?_; intro A12 c12 w12 hown12 hb12; have HO12 := Lib.hid hown12; have HB12 := Lib.hid hb12; have hs12 := hb12.size; have hX12 := (hb12.cell (p := ⟨w.heap.size + 1, 0, none⟩) (show w.heap.size + 1 < wc.heap.size by omega)).trans hX11; have fX12 := (hb12.frozen (p := ⟨w.heap.size + 1, 0, none⟩) (show w.heap.size + 1 < wc.heap.size by omega)).trans fX11; clear hown12 hb12))
          go_roundw
          case rel =>
            refine ⟨k + 1, m + n11, A12, c12, by go_num, by omega, ?_, World.cell?_setCell_same _ _ _ hX12, (frozen_set _ _ _ _).trans fX12, (((HBX10.out.below HB11.out (by omega)).below HB12.out (by omega)).set (by omega)), ?_, ?_⟩
            · simp only
              rw [HST.out, ← List.append_assoc]
              exact ownsRow_setCell_below HO12.out (show w.heap.size + 1 < wc.heap.size by omega) _
            · exact ((HB10.out.trans (HB11.out.mono (by omega))).trans (HB12.out.mono (by omega))).setCell (show w.heap.size ≤ w.heap.size + 1 by omega) _
            · simp [World.setCell]; omega
          case measure => simp [intOf]; omega
        · have hkn : k = n := by omega
          clear hown9 hb9 hbox9
          go_wp2
          go_ret
          refine ⟨A9, m, c9, rfl, ?_, HB9.out⟩
          have h := HO9.out
          rw [hkn, List.take_of_length_le (by omega), ← HPRE.out, HBE.out] at h
          exact h.more (by omega)
end Go.Proofs.YtodklilnmianeaaDoor.Bat

/- The contracts of the landed bodyOf, Check, Size and Put. -/
namespace Go.Proofs.YtodklilnmianeaaDoor.Bat
open Go.RowKit Go.Proofs.YtodklilnmianeaaDoor.Oct Go.Proofs.YtodklilnmianeaaDoor.Rec Go.Proofs.YtodklilnmianeaaDoor.Crc

theorem Put4 (x : Nat) (w : World) : Calls Tryd.prog 34 #[.slice none 0 0, .int .u64 (x : Int), .int .i64 4] w (RB 5 w.heap.size w (beN x 4 4)) := by
  have h := Put_yes none 0 0 x 4 [] 0 w Rd.nil (Nat.zero_le _) (by omega) (by omega) (by omega)
  exact h
theorem body_few {b : Bt} (hF : Form b) : (body b).length ≤ 1000000 := by
  have h1 := vs_ten hF.heads
  have h2 := hF.few
  have h3 := vb_ten (zz_lt (n := (b.recs.length : Int)) (by omega))
  have h4 : (tl b.base b.recs).length ≤ 10 + 145 * b.recs.length := by
    cases hr : b.recs with
    | nil => simp [tl]
    | cons x l =>
      have hm := hF.mays
      rw [hr] at hm
      have hx := may_iff.1 (hm x (by simp))
      have h5 := rs_145 (st := x.stamp) hm (inR_iff.2 ⟨hF.base0, hF.base1⟩) (inR_iff.2 hx.2.1)
      have h6 := vb_ten (zz_lt (n := x.stamp) (by omega))
      rw [tl, List.length_append]
      omega
  unfold body
  simp only [List.length_append, List.length_singleton]
  simp only [hd, List.length_cons, List.length_nil] at h1 ⊢
  omega
/-- a body, if there is one -/
def boB (b : Bt) : List UInt8 := if chB b = 0 then body b else []
set_option maxRecDepth 100000 in
set_option maxHeartbeats 4000000 in
theorem bodyOf_any (ba la fr ep pi ge se : Int) (tx : Bool) (ct : Int) (rs : List Rc) (A : Option Addr) (n c : Nat) (w : World) (hF : Fits ⟨ba, la, fr, ep, pi, ge, se, tx, ct, rs⟩) (hr : RdR w w.heap.size A n rs) (hn : n ≤ 1099511627776) :
    Calls Tryd.prog 30 #[.agg #[.int .i64 ba, .int .i64 la, .int .i64 fr, .int .i64 ep, .int .i64 pi, .int .i64 ge, .int .i64 se, .bool tx, .int .i64 ct, .slice A n c]] w (OPr 5 w.heap.size w (boB ⟨ba, la, fr, ep, pi, ge, se, tx, ct, rs⟩) (chB ⟨ba, la, fr, ep, pi, ge, se, tx, ct, rs⟩)) := by
  have hb0 := bel_alloc (Below.refl w.heap.size w) (.cells #[.int .i64 ba, .int .i64 la, .int .i64 fr, .int .i64 ep, .int .i64 pi, .int .i64 ge, .int .i64 se, .bool tx, .int .i64 ct, .slice A n c] 24)
  have hrA : ∀ w', Below w.heap.size w w' → RdR w' w'.heap.size A n rs := fun w' hb => (hr.below hb (Nat.le_refl _)).more hb.size
  have HB0 := Lib.hid hb0
  have HRA := Lib.hid hrA
  have HFT := Lib.hid hF
  have HBX := Lib.hid (boxB_new w 24 ⟨ba, la, fr, ep, pi, ge, se, tx, ct, rs⟩ (.slice A n c))
  have hsz : w.heap.size < (w.alloc (.cells #[.int .i64 ba, .int .i64 la, .int .i64 fr, .int .i64 ep, .int .i64 pi, .int .i64 ge, .int .i64 se, .bool tx, .int .i64 ct, .slice A n c] 24)).heap.size := by simp
  clear hr hF hb0 hrA
  rcases hf : form ⟨ba, la, fr, ep, pi, ge, se, tx, ct, rs⟩ with _ | _
  · have hc : chB ⟨ba, la, fr, ep, pi, ge, se, tx, ct, rs⟩ = 1 := by unfold chB; rw [hf]; rfl
    rw [show boB ⟨ba, la, fr, ep, pi, ge, se, tx, ct, rs⟩ = [] by unfold boB; rw [hc]; rfl, hc]
    clear hc
    go_enter Tryd.func30, Tryd.ntmps30
    go_wp2_with (go_at_call 46; (with_reducible refine (hasForm_any ba la fr ep pi ge se tx ct rs A n c _ HFT.out (HRA.out _ HB0.out) hn hf).mono ?_); rintro e w2 ⟨rfl, hb2⟩; have HB2 := Lib.hid (bel_trans HB0.out hb2); obtain ⟨y0, y1, y2, y3, y4, y5, y6, y7, y8, y9⟩ := HBX.out.below hb2 hsz; simp only at y0 y1 y2 y3 y4 y5 y6 y7 y8 y9; clear hb2)
    go_ret2
    exact ⟨none, 0, 0, rfl, OwnB.nil, HB2.out⟩
  · have HFM := Lib.hid ((form_iff _).1 hf)
    have hbl := byB_length ⟨ba, la, fr, ep, pi, ge, se, tx, ct, rs⟩
    by_cases hlen : 2048 < (byB ⟨ba, la, fr, ep, pi, ge, se, tx, ct, rs⟩).length
    · have hc : chB ⟨ba, la, fr, ep, pi, ge, se, tx, ct, rs⟩ = 2 := by unfold chB; rw [hf, if_pos hlen]; rfl
      rw [show boB ⟨ba, la, fr, ep, pi, ge, se, tx, ct, rs⟩ = [] by unfold boB; rw [hc]; rfl, hc]
      have HL := Lib.hid (show 2040 < (body ⟨ba, la, fr, ep, pi, ge, se, tx, ct, rs⟩).length by omega)
      have HU := Lib.hid (body_few HFM.out)
      clear hc hlen hbl
      go_enter Tryd.func30, Tryd.ntmps30
      go_wp2_with (first | (go_at_call 46; (with_reducible refine (hasForm_any ba la fr ep pi ge se tx ct rs A n c _ HFT.out (HRA.out _ HB0.out) hn hf).mono ?_); rintro e w2 ⟨rfl, hb2⟩; have HB2 := Lib.hid (bel_trans HB0.out hb2); obtain ⟨y0, y1, y2, y3, y4, y5, y6, y7, y8, y9⟩ := HBX.out.below hb2 hsz; simp only at y0 y1 y2 y3 y4 y5 y6 y7 y8 y9; clear hb2) | (go_at_call 47; (with_reducible refine (write_any ba la fr ep pi ge se tx ct rs A n c _ HFM.out (HRA.out _ HB2.out)).mono ?_); rintro e w3 ⟨A3, n3, c3, rfl, hown3, hb3⟩; have hl3 := hown3.len; have HO3 := Lib.hid hown3; have HB3 := Lib.hid (bel_trans HB2.out hb3); have hs23 := HB2.out.size; clear hown3 hb3; have q3 : (2040 : Int) < (n3 : Int) := (by have := HL.out; omega); have q4 : n3 ≤ 1000000 := (by have := HU.out; omega); clear hl3))
      go_ret2
      exact ⟨none, 0, 0, rfl, OwnB.nil, HB3.out⟩
    · have hc : chB ⟨ba, la, fr, ep, pi, ge, se, tx, ct, rs⟩ = 0 := by unfold chB; rw [hf, if_neg hlen]; rfl
      rw [show boB ⟨ba, la, fr, ep, pi, ge, se, tx, ct, rs⟩ = body ⟨ba, la, fr, ep, pi, ge, se, tx, ct, rs⟩ by unfold boB; rw [if_pos hc], hc]
      have HL := Lib.hid (show (body ⟨ba, la, fr, ep, pi, ge, se, tx, ct, rs⟩).length ≤ 2040 by omega)
      clear hc hlen hbl
      go_enter Tryd.func30, Tryd.ntmps30
      go_wp2_with (first | (go_at_call 46; (with_reducible refine (hasForm_any ba la fr ep pi ge se tx ct rs A n c _ HFT.out (HRA.out _ HB0.out) hn hf).mono ?_); rintro e w2 ⟨rfl, hb2⟩; have HB2 := Lib.hid (bel_trans HB0.out hb2); obtain ⟨y0, y1, y2, y3, y4, y5, y6, y7, y8, y9⟩ := HBX.out.below hb2 hsz; simp only at y0 y1 y2 y3 y4 y5 y6 y7 y8 y9; clear hb2) | (go_at_call 47; (with_reducible refine (write_any ba la fr ep pi ge se tx ct rs A n c _ HFM.out (HRA.out _ HB2.out)).mono ?_); rintro e w3 ⟨A3, n3, c3, rfl, hown3, hb3⟩; have hl3 := hown3.len; have HO3 := Lib.hid hown3; have HB3 := Lib.hid (bel_trans HB2.out hb3); have hs23 := HB2.out.size; clear hown3 hb3; have q3 : (n3 : Int) ≤ (2040 : Int) := (by have := HL.out; omega); clear hl3))
      go_ret2
      exact ⟨A3, n3, c3, rfl, HO3.out.more hs23, HB3.out⟩
set_option maxRecDepth 100000 in
set_option maxHeartbeats 4000000 in
theorem BCheck_any (ba la fr ep pi ge se : Int) (tx : Bool) (ct : Int) (rs : List Rc) (A : Option Addr) (n c : Nat) (w : World) (hF : Fits ⟨ba, la, fr, ep, pi, ge, se, tx, ct, rs⟩) (hr : RdR w w.heap.size A n rs) (hn : n ≤ 1099511627776) (ht : Tab w) :
    Calls Tryd.prog 14 #[.agg #[.int .i64 ba, .int .i64 la, .int .i64 fr, .int .i64 ep, .int .i64 pi, .int .i64 ge, .int .i64 se, .bool tx, .int .i64 ct, .slice A n c]] w fun e w' => e = .returned (.int .i64 (chB ⟨ba, la, fr, ep, pi, ge, se, tx, ct, rs⟩)) ∧ Below w.heap.size w w' := by
  have hb0 := bel_alloc (Below.refl w.heap.size w) (.cells #[.int .i64 ba, .int .i64 la, .int .i64 fr, .int .i64 ep, .int .i64 pi, .int .i64 ge, .int .i64 se, .bool tx, .int .i64 ct, .slice A n c] 24)
  have hrA : ∀ w', Below w.heap.size w w' → RdR w' w'.heap.size A n rs := fun w' hb => (hr.below hb (Nat.le_refl _)).more hb.size
  have HB0 := Lib.hid hb0
  have HRA := Lib.hid hrA
  have HFT := Lib.hid hF
  have HBX := Lib.hid (boxB_new w 24 ⟨ba, la, fr, ep, pi, ge, se, tx, ct, rs⟩ (.slice A n c))
  have hsz : w.heap.size < (w.alloc (.cells #[.int .i64 ba, .int .i64 la, .int .i64 fr, .int .i64 ep, .int .i64 pi, .int .i64 ge, .int .i64 se, .bool tx, .int .i64 ct, .slice A n c] 24)).heap.size := by simp
  obtain ⟨z, hz⟩ : ∃ z, chB ⟨ba, la, fr, ep, pi, ge, se, tx, ct, rs⟩ = z := ⟨_, rfl⟩
  obtain ⟨l, hl⟩ : ∃ l, boB ⟨ba, la, fr, ep, pi, ge, se, tx, ct, rs⟩ = l := ⟨_, rfl⟩
  have HC := Lib.hid hz
  have HBO := Lib.hid hl
  have HT := Lib.hid ht
  rw [hz]
  clear hr hF hb0 hrA hz hl ht
  go_enter Tryd.func14, Tryd.ntmps14
  go_wp2_with (go_at_call 30; (with_reducible refine (bodyOf_any ba la fr ep pi ge se tx ct rs A n c _ HFT.out (HRA.out _ HB0.out) hn).mono ?_); rw [HC.out, HBO.out]; rintro e w2 ⟨A2, n2, c2, rfl, hown2, hb2⟩; have HO2 := Lib.hid hown2; have HB2 := Lib.hid (bel_trans HB0.out hb2); have hs2 := hb2.size; have hs0 := HB0.out.size; clear hown2 hb2)
  go_ret
  exact ⟨rfl, HB2.out⟩
set_option maxRecDepth 100000 in
set_option maxHeartbeats 4000000 in
theorem BSize_any (ba la fr ep pi ge se : Int) (tx : Bool) (ct : Int) (rs : List Rc) (A : Option Addr) (n c : Nat) (w : World) (hF : Fits ⟨ba, la, fr, ep, pi, ge, se, tx, ct, rs⟩) (hr : RdR w w.heap.size A n rs) (hn : n ≤ 1099511627776) (ht : Tab w) :
    Calls Tryd.prog 16 #[.agg #[.int .i64 ba, .int .i64 la, .int .i64 fr, .int .i64 ep, .int .i64 pi, .int .i64 ge, .int .i64 se, .bool tx, .int .i64 ct, .slice A n c]] w fun e w' => e = .returned (.int .i64 (szB ⟨ba, la, fr, ep, pi, ge, se, tx, ct, rs⟩)) ∧ Below w.heap.size w w' := by
  have hb0 := bel_alloc (Below.refl w.heap.size w) (.cells #[.int .i64 ba, .int .i64 la, .int .i64 fr, .int .i64 ep, .int .i64 pi, .int .i64 ge, .int .i64 se, .bool tx, .int .i64 ct, .slice A n c] 24)
  have hrA : ∀ w', Below w.heap.size w w' → RdR w' w'.heap.size A n rs := fun w' hb => (hr.below hb (Nat.le_refl _)).more hb.size
  have HB0 := Lib.hid hb0
  have HRA := Lib.hid hrA
  have HFT := Lib.hid hF
  have HBX := Lib.hid (boxB_new w 24 ⟨ba, la, fr, ep, pi, ge, se, tx, ct, rs⟩ (.slice A n c))
  have hsz : w.heap.size < (w.alloc (.cells #[.int .i64 ba, .int .i64 la, .int .i64 fr, .int .i64 ep, .int .i64 pi, .int .i64 ge, .int .i64 se, .bool tx, .int .i64 ct, .slice A n c] 24)).heap.size := by simp
  obtain ⟨z, hz⟩ : ∃ z, chB ⟨ba, la, fr, ep, pi, ge, se, tx, ct, rs⟩ = z := ⟨_, rfl⟩
  obtain ⟨l, hl⟩ : ∃ l, boB ⟨ba, la, fr, ep, pi, ge, se, tx, ct, rs⟩ = l := ⟨_, rfl⟩
  have HC := Lib.hid hz
  have HBO := Lib.hid hl
  have HT := Lib.hid ht
  by_cases h0 : z = 0
  · have hb := byB_length ⟨ba, la, fr, ep, pi, ge, se, tx, ct, rs⟩
    have hll : l = body ⟨ba, la, fr, ep, pi, ge, se, tx, ct, rs⟩ := by rw [← hl]; unfold boB; rw [if_pos (hz.trans h0)]
    have hbig := (chB_form (hz.trans h0)).2
    rw [show szB ⟨ba, la, fr, ep, pi, ge, se, tx, ct, rs⟩ = ((l.length : Nat) : Int) + 8 by unfold szB; rw [if_pos (hz.trans h0), hb, hll]; omega]
    have hl2 : l.length ≤ 2040 := by rw [hll]; omega
    subst h0
    clear hr hF hb0 hrA hz hl ht hb hll hbig
    go_enter Tryd.func16, Tryd.ntmps16
    go_wp2_with (go_at_call 30; (with_reducible refine (bodyOf_any ba la fr ep pi ge se tx ct rs A n c _ HFT.out (HRA.out _ HB0.out) hn).mono ?_); rw [HC.out, HBO.out]; rintro e w2 ⟨A2, n2, c2, rfl, hown2, hb2⟩; have HO2 := Lib.hid hown2; have HB2 := Lib.hid (bel_trans HB0.out hb2); have hs2 := hb2.size; have hs0 := HB0.out.size; clear hown2 hb2; have hl3 := HO2.out.len; have hn2 : n2 ≤ 2040 := (by omega))
    go_ret
    exact ⟨ret_int (by omega), HB2.out⟩
  · rw [show szB ⟨ba, la, fr, ep, pi, ge, se, tx, ct, rs⟩ = 0 by unfold szB; rw [if_neg (by rw [hz]; exact h0)]]
    have e1 : (z != 0) = true := by simp [h0]
    have e2 : (z == 0) = false := beqF h0
    clear hr hF hb0 hrA hz hl ht h0
    go_enter Tryd.func16, Tryd.ntmps16
    go_wp2_with (go_at_call 30; (with_reducible refine (bodyOf_any ba la fr ep pi ge se tx ct rs A n c _ HFT.out (HRA.out _ HB0.out) hn).mono ?_); rw [HC.out, HBO.out]; rintro e w2 ⟨A2, n2, c2, rfl, hown2, hb2⟩; have HO2 := Lib.hid hown2; have HB2 := Lib.hid (bel_trans HB0.out hb2); have hs2 := hb2.size; have hs0 := HB0.out.size; clear hown2 hb2)
    go_ret
    exact ⟨rfl, HB2.out⟩
set_option maxRecDepth 100000 in
set_option maxHeartbeats 4000000 in
theorem BPut_any (ba la fr ep pi ge se : Int) (tx : Bool) (ct : Int) (rs : List Rc) (A : Option Addr) (n c : Nat) (w : World) (hF : Fits ⟨ba, la, fr, ep, pi, ge, se, tx, ct, rs⟩) (hr : RdR w w.heap.size A n rs) (hn : n ≤ 1099511627776) (ht : Tab w) :
    Calls Tryd.prog 18 #[.agg #[.int .i64 ba, .int .i64 la, .int .i64 fr, .int .i64 ep, .int .i64 pi, .int .i64 ge, .int .i64 se, .bool tx, .int .i64 ct, .slice A n c]] w (OPr 5 w.heap.size w (ptB ⟨ba, la, fr, ep, pi, ge, se, tx, ct, rs⟩).1 (ptB ⟨ba, la, fr, ep, pi, ge, se, tx, ct, rs⟩).2) := by
  have hb0 := bel_alloc (Below.refl w.heap.size w) (.cells #[.int .i64 ba, .int .i64 la, .int .i64 fr, .int .i64 ep, .int .i64 pi, .int .i64 ge, .int .i64 se, .bool tx, .int .i64 ct, .slice A n c] 24)
  have hrA : ∀ w', Below w.heap.size w w' → RdR w' w'.heap.size A n rs := fun w' hb => (hr.below hb (Nat.le_refl _)).more hb.size
  have HB0 := Lib.hid hb0
  have HRA := Lib.hid hrA
  have HFT := Lib.hid hF
  have HBX := Lib.hid (boxB_new w 24 ⟨ba, la, fr, ep, pi, ge, se, tx, ct, rs⟩ (.slice A n c))
  have hsz : w.heap.size < (w.alloc (.cells #[.int .i64 ba, .int .i64 la, .int .i64 fr, .int .i64 ep, .int .i64 pi, .int .i64 ge, .int .i64 se, .bool tx, .int .i64 ct, .slice A n c] 24)).heap.size := by simp
  obtain ⟨z, hz⟩ : ∃ z, chB ⟨ba, la, fr, ep, pi, ge, se, tx, ct, rs⟩ = z := ⟨_, rfl⟩
  obtain ⟨l, hl⟩ : ∃ l, boB ⟨ba, la, fr, ep, pi, ge, se, tx, ct, rs⟩ = l := ⟨_, rfl⟩
  have HC := Lib.hid hz
  have HBO := Lib.hid hl
  have HT := Lib.hid ht
  have hI := u8row
  by_cases h0 : z = 0
  · have hll : l = body ⟨ba, la, fr, ep, pi, ge, se, tx, ct, rs⟩ := by rw [← hl]; unfold boB; rw [if_pos (hz.trans h0)]
    have hb := byB_length ⟨ba, la, fr, ep, pi, ge, se, tx, ct, rs⟩
    have hbig := (chB_form (hz.trans h0)).2
    have hl2 : l.length ≤ 2040 := by rw [hll]; omega
    have HP := Lib.hid (show ptB ⟨ba, la, fr, ep, pi, ge, se, tx, ct, rs⟩ = (beN (sealB l).length 4 4 ++ sealB l, 0) by unfold ptB; rw [if_pos (hz.trans h0), byB, hll])
    rw [HP.out]
    simp only
    subst h0
    clear hr hF hb0 hrA hz hl ht hb hll hbig
    go_enter Tryd.func18, Tryd.ntmps18
    go_wp2_with (first
      | (go_at_call 30; (with_reducible refine (bodyOf_any ba la fr ep pi ge se tx ct rs A n c _ HFT.out (HRA.out _ HB0.out) hn).mono ?_); rw [HC.out, HBO.out]; rintro e w2 ⟨A2, n2, c2, rfl, hown2, hb2⟩; have HO2 := Lib.hid hown2; have HB2 := Lib.hid (bel_trans HB0.out hb2); have hs2 := hb2.size; have hs0 := HB0.out.size; clear hown2 hb2; have hl3 := HO2.out.len; have hn2 : n2 ≤ 2040 := (by omega); have HT2 := Lib.hid (HT.out.bel HB2.out))
      | (go_at_call 33; (with_reducible refine (Seal_any A2 n2 c2 _ _ _ HO2.out.rd (Nat.le_refl _) HO2.out.cap (by omega) HT2.out).mono ?_); rintro e w3 ⟨A3, n3, c3, rfl, hown3, hb3⟩; have HL3 := Lib.hid hown3.len; have hn3 : n3 ≤ 2100 := (by have h := HL3.out; rw [sealB_length] at h; omega); have HO3 := Lib.hid hown3; have HB3 := Lib.hid (bel_trans HB2.out hb3); have hs3 := hb3.size; have hwn : IntKind.u64.wrap (n3 : Int) = (n3 : Int) := IntWalk.u64_in _ (by omega); clear hown3 hb3)
      | (go_at_call 34; (with_reducible refine (Put4 n3 _).mono ?_); rintro e w4 ⟨A4, n4, c4, rfl, hown4, hb4⟩; have hn4 : n4 = 4 := (by have h := hown4.len; rw [beN_length] at h; exact h.symm); have HN4 := Lib.hid hn4; have HO4 := Lib.hid hown4; have HB4 := Lib.hid (bel_trans HB3.out hb4); have HO34 := Lib.hid (HO3.out.below hb4); have hs4 := hb4.size; clear hn4 hown4 hb4)
      | (at_builtin; refine wpList_appB _ rfl _ _ 30 rfl w3.heap.size 5 Tryd.underlying30 hI _ n4 _ rfl HO4.out _ A3 n3 c3 _ rfl HO34.out.rd (by have := HN4.out; omega) (by omega) ?_; intro A5 c5 w5 hown5 hb5; have HO5 := Lib.hid hown5; have HB5 := Lib.hid hb5; clear hown5 hb5))
    go_ret2
    refine ⟨A5, _, c5, rfl, ?_, HB4.out.trans (HB5.out.mono (by omega))⟩
    have h := HO5.out
    rw [HL3.out]
    exact h.more (by omega)
  · have HP := Lib.hid (show ptB ⟨ba, la, fr, ep, pi, ge, se, tx, ct, rs⟩ = ([], z) by unfold ptB; rw [if_neg (by rw [hz]; exact h0), hz])
    rw [HP.out]
    simp only
    have e1 : (z != 0) = true := by simp [h0]
    have e2 : (z == 0) = false := beqF h0
    clear hr hF hb0 hrA hz hl ht h0
    go_enter Tryd.func18, Tryd.ntmps18
    go_wp2_with (go_at_call 30; (with_reducible refine (bodyOf_any ba la fr ep pi ge se tx ct rs A n c _ HFT.out (HRA.out _ HB0.out) hn).mono ?_); rw [HC.out, HBO.out]; rintro e w2 ⟨A2, n2, c2, rfl, hown2, hb2⟩; have HO2 := Lib.hid hown2; have HB2 := Lib.hid (bel_trans HB0.out hb2); have hs2 := hb2.size; have hs0 := HB0.out.size; clear hown2 hb2)
    go_ret2
    exact ⟨none, 0, 0, rfl, OwnB.nil, HB2.out⟩
end Go.Proofs.YtodklilnmianeaaDoor.Bat

/- The contracts of the landed Check, Size, Put and Same. -/

/- The law's own live(), and the document's Few. -/
namespace Go.Proofs.YtodklilnmianeaaDoor.Bat
open Go.RowKit Go.Proofs.YtodklilnmianeaaDoor.Oct Go.Proofs.YtodklilnmianeaaDoor.Rec Go.Proofs.YtodklilnmianeaaDoor.Crc Go.Proofs.YtodklilnmianeaaDoor.Lay

section
variable (ba la fr ep pi ge se : Int) (tx : Bool) (ct : Int) (rs : List Rc) (A : Option Addr) (n c : Nat) (w : World)
theorem BCheck_is (hf : Fits ⟨ba, la, fr, ep, pi, ge, se, tx, ct, rs⟩) (hr : RdR w w.heap.size A n rs) (hn : n ≤ 1099511627776) (ht : Tab w) {z : Int} (h : chB ⟨ba, la, fr, ep, pi, ge, se, tx, ct, rs⟩ = z) :
    Calls Tryd.prog 14 #[.agg #[.int .i64 ba, .int .i64 la, .int .i64 fr, .int .i64 ep, .int .i64 pi, .int .i64 ge, .int .i64 se, .bool tx, .int .i64 ct, .slice A n c]] w fun e w' => e = .returned (.int .i64 z) ∧ Below w.heap.size w w' := by
  subst h; exact BCheck_any ba la fr ep pi ge se tx ct rs A n c w hf hr hn ht
theorem BSize_is (hf : Fits ⟨ba, la, fr, ep, pi, ge, se, tx, ct, rs⟩) (hr : RdR w w.heap.size A n rs) (hn : n ≤ 1099511627776) (ht : Tab w) {z : Int} (h : szB ⟨ba, la, fr, ep, pi, ge, se, tx, ct, rs⟩ = z) :
    Calls Tryd.prog 16 #[.agg #[.int .i64 ba, .int .i64 la, .int .i64 fr, .int .i64 ep, .int .i64 pi, .int .i64 ge, .int .i64 se, .bool tx, .int .i64 ct, .slice A n c]] w fun e w' => e = .returned (.int .i64 z) ∧ Below w.heap.size w w' := by
  subst h; exact BSize_any ba la fr ep pi ge se tx ct rs A n c w hf hr hn ht
theorem BPut_is (hf : Fits ⟨ba, la, fr, ep, pi, ge, se, tx, ct, rs⟩) (hr : RdR w w.heap.size A n rs) (hn : n ≤ 1099511627776) (ht : Tab w) {l : List UInt8} {z : Int} (h : ptB ⟨ba, la, fr, ep, pi, ge, se, tx, ct, rs⟩ = (l, z)) :
    Calls Tryd.prog 18 #[.agg #[.int .i64 ba, .int .i64 la, .int .i64 fr, .int .i64 ep, .int .i64 pi, .int .i64 ge, .int .i64 se, .bool tx, .int .i64 ct, .slice A n c]] w (OPr 5 w.heap.size w l z) := by
  have h1 := BPut_any ba la fr ep pi ge se tx ct rs A n c w hf hr hn ht
  rw [h] at h1
  exact h1
end

theorem rdr_one (w : World) (e : TypeId) (r : Rc) : RdR (w.alloc (.cells #[.int .i64 r.off, .string r.key, .string r.val, .bool r.dead, .int .i64 r.stamp] e)) (w.heap.size + 1) (some ⟨w.heap.size, 0, none⟩) 1 [r] := by
  refine ⟨rfl, fun k x hx => ?_⟩
  match k, hx with
  | 0, hx =>
    obtain rfl : r = x := by simpa using hx
    refine ⟨_, _, rfl, Nat.lt_succ_self _, ?_⟩
    refine ⟨?_, ?_, ?_, ?_, ?_⟩ <;> (rw [cell_of_row _ _ _ _ e _ (heap_alloc_new w _)]; rfl)

def exRec : Rc := ⟨0, ⟨#[97]⟩, ⟨#[98]⟩, false, 5⟩
def exB : Bt := ⟨0, 0, 0, 0, -1, 0, 0, false, 0, [exRec]⟩
theorem ex_bform : Bat.form exB = true := by decide +kernel
theorem ex_body : (body exB).length = 17 := by
  have h : body exB = [0, 0, 0, 0, 1, 0, 0, 0, 2, 10, 0, 0, 0, 2, 97, 2, 98] := by
    unfold body exB hd tl
    simp only [vs, rs, rb, tx]
    repeat rw [vb_small (by decide)]
    decide +kernel
  rw [h]; rfl
theorem ex_bsize : (byB exB).length = 25 := by rw [byB_length, ex_body]
theorem ex_chB : chB exB = 0 := by unfold chB; rw [ex_bform, ex_bsize]; rfl
theorem ex_ptB : ptB exB = (byB exB, 0) := by unfold ptB; rw [if_pos ex_chB]
theorem ex_szB : szB exB = 25 := by unfold szB; rw [if_pos ex_chB, ex_bsize]; rfl
theorem ex_fits : Fits exB := by
  refine ⟨?_, ?_, ?_, ?_, ?_, ?_, ?_, ?_, ?_⟩
  case refine_9 =>
    intro r hr
    obtain rfl : r = exRec := by simpa [exB] using hr
    refine ⟨?_, ?_, by decide, by decide⟩ <;> (unfold I64 exRec; simp)
  all_goals (unfold I64 exB; simp)

theorem RdR.alloc {w : World} {B : Nat} {A : Option Addr} {n : Nat} {l : List Rc} (h : RdR w B A n l) (hB : B ≤ w.heap.size) (o : Obj) : RdR (w.alloc o) B A n l := h.keep fun p hp => World.cell?_alloc_lt w o p (by omega)
theorem BPut_ex (A : Option Addr) (c : Nat) (w : World) (hr : RdR w w.heap.size A 1 [exRec]) (ht : Tab w) :
    Calls Tryd.prog 18 #[.agg #[.int .i64 0, .int .i64 0, .int .i64 0, .int .i64 0, .int .i64 (-1), .int .i64 0, .int .i64 0, .bool false, .int .i64 0, .slice A 1 c]] w (OPr 5 w.heap.size w (byB exB) 0) :=
  BPut_is 0 0 0 0 (-1) 0 0 false 0 [exRec] A 1 c w ex_fits hr (by omega) ht ex_ptB
theorem BSize_ex (A : Option Addr) (c : Nat) (w : World) (hr : RdR w w.heap.size A 1 [exRec]) (ht : Tab w) :
    Calls Tryd.prog 16 #[.agg #[.int .i64 0, .int .i64 0, .int .i64 0, .int .i64 0, .int .i64 (-1), .int .i64 0, .int .i64 0, .bool false, .int .i64 0, .slice A 1 c]] w fun e w' => e = .returned (.int .i64 25) ∧ Below w.heap.size w w' :=
  BSize_is 0 0 0 0 (-1) 0 0 false 0 [exRec] A 1 c w ex_fits hr (by omega) ht ex_szB
theorem BSame_is (ba la fr ep pi ge se : Int) (tx : Bool) (ct : Int) (rs : List Rc) (A : Option Addr) (n c : Nat) (ba' la' fr' ep' pi' ge' se' : Int) (tx' : Bool) (ct' : Int) (rs' : List Rc) (A' : Option Addr) (n' c' : Nat) (w : World)
    (hr : RdR w w.heap.size A n rs) (hr' : RdR w w.heap.size A' n' rs') (hn : n ≤ 1099511627776) (hn' : n' ≤ 1099511627776) {z : Bool} (h : eqB ⟨ba, la, fr, ep, pi, ge, se, tx, ct, rs⟩ ⟨ba', la', fr', ep', pi', ge', se', tx', ct', rs'⟩ = z) :
    Calls Tryd.prog 28 #[.agg #[.int .i64 ba, .int .i64 la, .int .i64 fr, .int .i64 ep, .int .i64 pi, .int .i64 ge, .int .i64 se, .bool tx, .int .i64 ct, .slice A n c], .agg #[.int .i64 ba', .int .i64 la', .int .i64 fr', .int .i64 ep', .int .i64 pi', .int .i64 ge', .int .i64 se', .bool tx', .int .i64 ct', .slice A' n' c']] w
      fun e w' => e = .returned (.bool z) ∧ Below w.heap.size w w' := by
  subst h; exact BSame_any ba la fr ep pi ge se tx ct rs A n c ba' la' fr' ep' pi' ge' se' tx' ct' rs' A' n' c' w hr hr' hn hn'
/-- a batch in a box, with its records: what a later world keeps -/
structure BR (w : World) (g : Nat) (b : Bt) (A : Option Addr) (n c : Nat) : Prop where
  box : BoxB w g b (.slice A n c)
  lt : g < w.heap.size
  rd : RdR w w.heap.size A n b.recs
theorem BR.below {w w' : World} {g : Nat} {b : Bt} {A : Option Addr} {n c : Nat} (h : BR w g b A n c) (hb : Below w.heap.size w w') : BR w' g b A n c :=
  ⟨h.box.below hb h.lt, Nat.lt_of_lt_of_le h.lt hb.size, (h.rd.below hb (Nat.le_refl _)).more hb.size⟩
theorem BR.drew {w : World} {g : Nat} {b : Bt} {A : Option Addr} {n c : Nat} (h : BR w g b A n c) : BR w.drew g b A n c := ⟨h.box, h.lt, h.rd⟩
theorem BR.alloc {w : World} {g : Nat} {b : Bt} {A : Option Addr} {n c : Nat} (h : BR w g b A n c) (o : Obj) : BR (w.alloc o) g b A n c := h.below (bel_alloc (Below.refl _ _) o)
theorem BR.new {w : World} {b : Bt} {A : Option Addr} {n c : Nat} (e : TypeId) (h : RdR w w.heap.size A n b.recs) :
    BR (w.alloc (.cells #[.int .i64 b.base, .int .i64 b.last, .int .i64 b.frm, .int .i64 b.epoch, .int .i64 b.pid, .int .i64 b.gen, .int .i64 b.seq, .bool b.txn, .int .i64 b.ctl, .slice A n c] e)) w.heap.size b A n c :=
  ⟨boxB_new w e b _, by simp, (h.alloc (Nat.le_refl _) _).more (by simp)⟩

set_option maxRecDepth 100000 in
set_option maxHeartbeats 1000000 in
theorem live_any (w : World) (ht : Tab w) : Calls Tryd.prog 12 #[] w fun e w' => e = .returned (.bool true) ∧ Below w.heap.size w w' := by
  have hw1 := bel_alloc (bel_alloc (Below.refl w.heap.size w) (.cells #[.int .i64 0, .string ⟨#[97]⟩, .string ⟨#[98]⟩, .bool false, .int .i64 5] 43)) (.cells #[.int .i64 0, .int .i64 0, .int .i64 0, .int .i64 0, .int .i64 (-1), .int .i64 0, .int .i64 0, .bool false, .int .i64 0, .slice (some ⟨w.heap.size, 0, none⟩) 1 1] 24)
  have HT := Lib.hid (ht.bel hw1)
  have HB := Lib.hid (show BR ((w.alloc (.cells #[.int .i64 0, .string ⟨#[97]⟩, .string ⟨#[98]⟩, .bool false, .int .i64 5] 43)).alloc (.cells #[.int .i64 0, .int .i64 0, .int .i64 0, .int .i64 0, .int .i64 (-1), .int .i64 0, .int .i64 0, .bool false, .int .i64 0, .slice (some ⟨w.heap.size, 0, none⟩) 1 1] 24)) (w.heap.size + 1) ⟨0, 0, 0, 0, -1, 0, 0, false, 0, [exRec]⟩ (some ⟨w.heap.size, 0, none⟩) 1 1 by
    have h := BR.new (b := exB) (A := some ⟨w.heap.size, 0, none⟩) (n := 1) (c := 1) 24 ((rdr_one w 43 exRec).more (B' := (w.alloc (.cells #[.int .i64 exRec.off, .string exRec.key, .string exRec.val, .bool exRec.dead, .int .i64 exRec.stamp] 43)).heap.size) (by simp))
    rw [show (w.alloc (.cells #[.int .i64 exRec.off, .string exRec.key, .string exRec.val, .bool exRec.dead, .int .i64 exRec.stamp] 43)).heap.size = w.heap.size + 1 by simp] at h
    exact h)
  have HW1 := Lib.hid hw1
  clear ht hw1
  go_enter Tryd.func12, Tryd.ntmps12
  go_wp2_with (first
    | (go_at_call 18; (with_reducible refine (BPut_ex _ _ _ HB.out.rd HT.out).mono ?_); rintro e w2 ⟨A2, n2, c2, rfl, hown2, hb2⟩; have hl2 := hown2.len; rw [ex_bsize] at hl2; subst hl2; have HB2 := Lib.hid (HB.out.below hb2); obtain ⟨x0, x1, x2, x3, x4, x5, x6, x7, x8, x9⟩ := HB2.out.box; have HT2 := Lib.hid (HT.out.bel hb2))
    | (go_at_call 16; (with_reducible refine (BSize_ex _ _ _ HB2.out.rd HT2.out).mono ?_); rintro e w3 ⟨rfl, hb3⟩; have HB3 := Lib.hid (HB2.out.below hb3); obtain ⟨y0, y1, y2, y3, y4, y5, y6, y7, y8, y9⟩ := HB3.out.box)
    | (go_at_call 28; (with_reducible refine (BSame_is 0 0 0 0 (-1) 0 0 false 0 [exRec] _ _ _ 0 0 0 0 (-1) 0 0 false 0 [exRec] _ _ _ _ HB3.out.rd HB3.out.rd (by omega) (by omega) (eqB_self _)).mono ?_); rintro e w4 ⟨rfl, hb4⟩))
  go_ret
  exact ⟨rfl, bel_trans (bel_trans (bel_trans HW1.out hb2) hb3) hb4⟩
end Go.Proofs.YtodklilnmianeaaDoor.Bat

/- The document's Few, of one batch. -/
namespace Go.Proofs.YtodklilnmianeaaDoor.Bat
open Go.RowKit Go.Proofs.YtodklilnmianeaaDoor.Oct Go.Proofs.YtodklilnmianeaaDoor.Rec Go.Proofs.YtodklilnmianeaaDoor.Crc Go.Proofs.YtodklilnmianeaaDoor.Lay

def fwRel (rs : List Rc) (n : Nat) (w : World) (v i : Value) (wr : World) : Prop :=
  ∃ k m : Nat, v = .int .i64 (m : Int) ∧ i = .int .i64 (k : Int) ∧ k ≤ n ∧ m ≤ 20000 ∧ fewR rs 0 = fewR (rs.drop k) m ∧ Below w.heap.size w wr
theorem fewR_step {rs : List Rc} {k m : Nat} {r : Rc} (h : rs[k]? = some r) : fewR (rs.drop k) m = if 20000 < m + (r.key.size + r.val.size) then false else fewR (rs.drop (k + 1)) (m + (r.key.size + r.val.size)) := by
  have e : rs.drop k = r :: rs.drop (k + 1) := by
    obtain ⟨hlt, hr⟩ := List.getElem?_eq_some_iff.1 h
    rw [List.drop_eq_getElem_cons hlt, hr]
  rw [e]
  rfl
set_option maxRecDepth 100000 in
set_option maxHeartbeats 1000000 in
theorem refFew_is (ba la fr ep pi ge se : Int) (tx : Bool) (ct : Int) (rs : List Rc) (A : Option Addr) (n c : Nat) (w : World) (hr : RdR w w.heap.size A n rs) (hf : ∀ r ∈ rs, Fit r) (hn : n ≤ reach) {z : Bool} (hz : fewT ⟨ba, la, fr, ep, pi, ge, se, tx, ct, rs⟩ = z) :
    Calls Tryd.prog 13 #[.agg #[.int .i64 ba, .int .i64 la, .int .i64 fr, .int .i64 ep, .int .i64 pi, .int .i64 ge, .int .i64 se, .bool tx, .int .i64 ct, .slice A n c]] w fun e w' => e = .returned (.bool z) ∧ Below w.heap.size w w' := by
  have HZ := Lib.hid hz
  have HW1 := Lib.hid (bel_alloc (Below.refl w.heap.size w) (.cells #[.int .i64 ba, .int .i64 la, .int .i64 fr, .int .i64 ep, .int .i64 pi, .int .i64 ge, .int .i64 se, .bool tx, .int .i64 ct, .slice A n c] 24))
  have HB := Lib.hid (BR.new (b := ⟨ba, la, fr, ep, pi, ge, se, tx, ct, rs⟩) (c := c) 24 hr)
  have HF := Lib.hid hf
  have hn2 : n ≤ 140737488351232 := hn
  clear hz hr hf hn
  go_enter Tryd.func13, Tryd.ntmps13
  go_wp2
  generalize hw1 : w.alloc (.cells #[.int .i64 ba, .int .i64 la, .int .i64 fr, .int .i64 ep, .int .i64 pi, .int .i64 ge, .int .i64 se, .bool tx, .int .i64 ct, .slice A n c] 24) = w1 at *
  clear hw1
  go_loopw [3, 9] (fun v i wr => fwRel rs n w1 v i wr) (fun _ i _ => n - (intOf i).toNat)
  case atStart => exact ⟨0, 0, rfl, rfl, Nat.zero_le _, Nat.zero_le _, rfl, Below.refl _ _⟩
  case round =>
    obtain ⟨k, m, rfl, rfl, hk, hm, hR, hb⟩ := hrel
    have HR := Lib.hid hR
    have HBL := Lib.hid hb
    have HBR := Lib.hid (HB.out.below hb)
    clear hR hb
    by_cases hlt : k < n
    · obtain ⟨b, o, r, hA, _, hrk, hat⟩ := HBR.out.rd.at hlt
      have hfit := HF.out r (List.mem_of_getElem? hrk)
      have q1 : r.key.size ≤ 140737488351232 := hfit.2.2.1
      have q2 : r.val.size ≤ 140737488351232 := hfit.2.2.2
      have HS := Lib.hid (fewR_step (m := m) hrk)
      have HA := Lib.hid hA
      obtain ⟨a0, a1, a2, a3, a4⟩ := hat
      obtain ⟨ro, rk, rv, rd, rt⟩ := r
      simp only at a0 a1 a2 a3 a4 q1 q2
      subst hA
      clear hfit hrk HA
      by_cases hbig : 20000 < m + (rk.size + rv.size)
      · have HZF := Lib.hid (show z = false by
          rw [← HZ.out]
          unfold fewT
          simp only
          rw [HR.out, HS.out]
          simp only
          rw [if_pos hbig]
          rfl)
        have hbig2 : (20000 : Int) < (m : Int) + ((rk.size : Int) + (rv.size : Int)) := by omega
        clear hbig
        go_wp2
        go_ret
        exact ⟨by rw [HZF.out]; rfl, HW1.out.trans ((HBL.out.alloc HBL.out.size _).mono HW1.out.size)⟩
      · have HN := Lib.hid (show fewR rs 0 = fewR (rs.drop (k + 1)) (m + (rk.size + rv.size)) by
          rw [HR.out, HS.out]
          simp only
          rw [if_neg hbig])
        have hbig2 : ¬ (20000 : Int) < (m : Int) + ((rk.size : Int) + (rv.size : Int)) := by omega
        have hm2 : m + (rk.size + rv.size) ≤ 20000 := by omega
        clear hbig
        go_wp2
        go_roundw
        case rel => exact ⟨k + 1, m + (rk.size + rv.size), by go_num, by go_num, by omega, hm2, HN.out, HBL.out.alloc HBL.out.size _⟩
        case measure => simp [intOf]; omega
    · have hkn : k = n := by omega
      subst hkn
      obtain ⟨x0, x1, x2, x3, x4, x5, x6, x7, x8, x9⟩ := HBR.out.box
      have HZF := Lib.hid (show z = decide ((k : Int) ≤ 100) by
        rw [← HZ.out]
        have hl := HBR.out.rd.len
        unfold fewT
        simp only at hl ⊢
        rw [HR.out, hl, List.drop_of_length_le (by omega)]
        show (true && _) = _
        rw [Bool.true_and]
        exact decide_eq_decide.2 ⟨fun h => by omega, fun h => by omega⟩)
      go_wp2
      go_ret
      exact ⟨by rw [HZF.out]; rfl, HW1.out.trans (HBL.out.mono HW1.out.size)⟩
end Go.Proofs.YtodklilnmianeaaDoor.Bat

/- Contracts whose values are written out. -/
namespace Go.Proofs.YtodklilnmianeaaDoor.Bat
open Go.RowKit Go.Proofs.YtodklilnmianeaaDoor.Oct Go.Proofs.YtodklilnmianeaaDoor.Rec Go.Proofs.YtodklilnmianeaaDoor.Crc Go.Proofs.YtodklilnmianeaaDoor.Lay

theorem form_fits {b : Bt} (h : Form b) : Fits b := by
  have h0 := h.base0; have h1 := h.base1; have h2 := h.last0; have h3 := h.last1; have h4 := h.frm0; have h5 := h.frm1; have h6 := h.ep0; have h7 := h.ep1; have h8 := h.gen0; have h9 := h.gen1; have h10 := h.seq0; have h11 := h.seq1; have h12 := h.ctl0; have h13 := h.ctl1
  have h14 := h.pid0; have h15 := h.pid1
  refine ⟨?_, ?_, ?_, ?_, ?_, ?_, ?_, ?_, fun r hr => ?_⟩
  case refine_9 =>
    obtain ⟨m1, m2, m3, m4, _⟩ := may_iff.1 (h.mays r hr)
    unfold I64
    omega
  all_goals (unfold I64; omega)
theorem refCheckB_is (ba la fr ep pi ge se : Int) (tx : Bool) (ct : Int) (rs : List Rc) (A : Option Addr) (n c : Nat) (w : World) (hf : Fits ⟨ba, la, fr, ep, pi, ge, se, tx, ct, rs⟩) (hr : RdR w w.heap.size A n rs) (hn : n ≤ 1099511627776) {z : Int} (h : chB ⟨ba, la, fr, ep, pi, ge, se, tx, ct, rs⟩ = z) :
    Calls Tryd.prog 15 #[.agg #[.int .i64 ba, .int .i64 la, .int .i64 fr, .int .i64 ep, .int .i64 pi, .int .i64 ge, .int .i64 se, .bool tx, .int .i64 ct, .slice A n c]] w fun e w' => e = .returned (.int .i64 z) ∧ Below w.heap.size w w' := by
  subst h; exact refBCheck ba la fr ep pi ge se tx ct rs A n c w hf.ctl hr (fun r hr => (hf.recs r hr).2.2) hn
theorem refSizeB_is (ba la fr ep pi ge se : Int) (tx : Bool) (ct : Int) (rs : List Rc) (A : Option Addr) (n c : Nat) (w : World) (hf : Fits ⟨ba, la, fr, ep, pi, ge, se, tx, ct, rs⟩) (hr : RdR w w.heap.size A n rs) (hn : n ≤ 1099511627776) {z : Int} (h : szB ⟨ba, la, fr, ep, pi, ge, se, tx, ct, rs⟩ = z) :
    Calls Tryd.prog 17 #[.agg #[.int .i64 ba, .int .i64 la, .int .i64 fr, .int .i64 ep, .int .i64 pi, .int .i64 ge, .int .i64 se, .bool tx, .int .i64 ct, .slice A n c]] w fun e w' => e = .returned (.int .i64 z) ∧ Below w.heap.size w w' := by
  subst h; exact refBSize ba la fr ep pi ge se tx ct rs A n c w hf.ctl hr (fun r hr => (hf.recs r hr).2.2) hn
end Go.Proofs.YtodklilnmianeaaDoor.Bat

/- The contract of the landed Moved. -/
namespace Go.Proofs.YtodklilnmianeaaDoor.Bat
open Go.RowKit Go.Proofs.YtodklilnmianeaaDoor.Oct Go.Proofs.YtodklilnmianeaaDoor.Rec Go.Proofs.YtodklilnmianeaaDoor.Crc Go.Proofs.YtodklilnmianeaaDoor.Lay Go.Proofs.YtodklilnmianeaaDoor.RowF

/-- a batch's box that may be written -/
structure BO (w : World) (g : Nat) (b : Bt) (v : Value) : Prop where
  box : BoxB w g b v
  fz : ∀ j, w.frozen? ⟨g, j, none⟩ = false
  lt : g < w.heap.size
theorem BO.below {w w' : World} {g B : Nat} {b : Bt} {v : Value} (h : BO w g b v) (hb : Below B w w') (hg : g < B) : BO w' g b v :=
  ⟨h.box.below hb hg, fun j => (hb.frozen (p := ⟨g, j, none⟩) hg).trans (h.fz j), Nat.lt_of_lt_of_le h.lt hb.size⟩
theorem BO.new (w : World) (e : TypeId) (b : Bt) (v : Value) : BO (w.alloc (.cells #[.int .i64 b.base, .int .i64 b.last, .int .i64 b.frm, .int .i64 b.epoch, .int .i64 b.pid, .int .i64 b.gen, .int .i64 b.seq, .bool b.txn, .int .i64 b.ctl, v] e)) w.heap.size b v :=
  ⟨boxB_new w e b v, fun j => World.frozen?_alloc_at _ _ _ _ rfl, by simp⟩
theorem BO.set {w : World} {g X j : Nat} {b : Bt} {v u : Value} (h : BO w X b v) (hg : g ≠ X) : BO (w.setCell ⟨g, j, none⟩ u) X b v :=
  ⟨h.box.set hg, fun j => (frozen_set _ _ _ _).trans (h.fz j), by simpa [World.setCell] using h.lt⟩
theorem BO.put0 {w : World} {g : Nat} {b : Bt} {v : Value} (h : BO w g b v) (x : Int) : BO (w.setCell ⟨g, 0, none⟩ (.int .i64 x)) g { b with base := x } v := by
  obtain ⟨⟨h0, h1, h2, h3, h4, h5, h6, h7, h8, h9⟩, hf, hl⟩ := h
  exact ⟨⟨World.cell?_setCell_same _ _ _ h0, (cell_set_off (by omega)).trans h1, (cell_set_off (by omega)).trans h2, (cell_set_off (by omega)).trans h3, (cell_set_off (by omega)).trans h4, (cell_set_off (by omega)).trans h5, (cell_set_off (by omega)).trans h6, (cell_set_off (by omega)).trans h7, (cell_set_off (by omega)).trans h8, (cell_set_off (by omega)).trans h9⟩, fun j => (frozen_set _ _ _ _).trans (hf j), by simpa [World.setCell] using hl⟩
theorem BO.put1 {w : World} {g : Nat} {b : Bt} {v : Value} (h : BO w g b v) (x : Int) : BO (w.setCell ⟨g, 1, none⟩ (.int .i64 x)) g { b with last := x } v := by
  obtain ⟨⟨h0, h1, h2, h3, h4, h5, h6, h7, h8, h9⟩, hf, hl⟩ := h
  exact ⟨⟨(cell_set_off (by omega)).trans h0, World.cell?_setCell_same _ _ _ h1, (cell_set_off (by omega)).trans h2, (cell_set_off (by omega)).trans h3, (cell_set_off (by omega)).trans h4, (cell_set_off (by omega)).trans h5, (cell_set_off (by omega)).trans h6, (cell_set_off (by omega)).trans h7, (cell_set_off (by omega)).trans h8, (cell_set_off (by omega)).trans h9⟩, fun j => (frozen_set _ _ _ _).trans (hf j), by simpa [World.setCell] using hl⟩
theorem BO.put9 {w : World} {g : Nat} {b : Bt} {v u : Value} (h : BO w g b v) (l : List Rc) : BO (w.setCell ⟨g, 9, none⟩ u) g { b with recs := l } u :=
  ⟨(BoxB.put9 h.box), fun j => (frozen_set _ _ _ _).trans (h.fz j), by simpa [World.setCell] using h.lt⟩
/-- an offset more in each record that was gone through -/
def mdRel (e : TypeId) (b : Bt) (rs : List Rc) (d : Int) (A : Option Addr) (n c X R B : Nat) (w : World) (i : Value) (wr : World) : Prop :=
  ∃ k : Nat, i = .int .i64 (k : Int) ∧ k ≤ n ∧ OwnF recC 5 wr e B (.slice A n c) n ((rs.map (mvR d)).take k ++ rs.drop k) ∧ BO wr X b (.slice A n c) ∧ ZB wr R ∧ Below w.heap.size w wr
set_option maxRecDepth 100000 in
set_option maxHeartbeats 4000000 in
theorem BMoved_any (ba la fr ep pi ge se : Int) (tx : Bool) (ct : Int) (rs : List Rc) (A : Option Addr) (n c : Nat) (w : World) (base : Int) (hf : Fits ⟨ba, la, fr, ep, pi, ge, se, tx, ct, rs⟩) (hr : RdR w w.heap.size A n rs) (_hnc : n ≤ c) (hn : n ≤ 1099511627776) (hb : I64 base) (ht : Tab w) :
    Calls Tryd.prog 26 #[.agg #[.int .i64 ba, .int .i64 la, .int .i64 fr, .int .i64 ep, .int .i64 pi, .int .i64 ge, .int .i64 se, .bool tx, .int .i64 ct, .slice A n c], .int .i64 base] w (RMB w (mvB ⟨ba, la, fr, ep, pi, ge, se, tx, ct, rs⟩ base)) := by
  have HW1 := Lib.hid (show Below w.heap.size w ((w.alloc (.cells #[.int .i64 ba, .int .i64 la, .int .i64 fr, .int .i64 ep, .int .i64 pi, .int .i64 ge, .int .i64 se, .bool tx, .int .i64 ct, .slice A n c] 24)).alloc (.cells #[.int .i64 0, .int .i64 0, .int .i64 0, .int .i64 0, .int .i64 0, .int .i64 0, .int .i64 0, .bool false, .int .i64 0, .slice none 0 0] 24)) from ((Below.refl w.heap.size w).alloc (Nat.le_refl _) _).alloc (by simp) _)
  have HZ1 := Lib.hid (show ZB ((w.alloc (.cells #[.int .i64 ba, .int .i64 la, .int .i64 fr, .int .i64 ep, .int .i64 pi, .int .i64 ge, .int .i64 se, .bool tx, .int .i64 ct, .slice A n c] 24)).alloc (.cells #[.int .i64 0, .int .i64 0, .int .i64 0, .int .i64 0, .int .i64 0, .int .i64 0, .int .i64 0, .bool false, .int .i64 0, .slice none 0 0] 24)) (w.heap.size + 1) by
    have h := ZB.new (w.alloc (.cells #[.int .i64 ba, .int .i64 la, .int .i64 fr, .int .i64 ep, .int .i64 pi, .int .i64 ge, .int .i64 se, .bool tx, .int .i64 ct, .slice A n c] 24))
    rw [show (w.alloc (.cells #[.int .i64 ba, .int .i64 la, .int .i64 fr, .int .i64 ep, .int .i64 pi, .int .i64 ge, .int .i64 se, .bool tx, .int .i64 ct, .slice A n c] 24)).heap.size = w.heap.size + 1 by simp] at h
    exact h)
  have HB1 := Lib.hid (show BO ((w.alloc (.cells #[.int .i64 ba, .int .i64 la, .int .i64 fr, .int .i64 ep, .int .i64 pi, .int .i64 ge, .int .i64 se, .bool tx, .int .i64 ct, .slice A n c] 24)).alloc (.cells #[.int .i64 0, .int .i64 0, .int .i64 0, .int .i64 0, .int .i64 0, .int .i64 0, .int .i64 0, .bool false, .int .i64 0, .slice none 0 0] 24)) w.heap.size ⟨ba, la, fr, ep, pi, ge, se, tx, ct, rs⟩ (.slice A n c) from (BO.new w 24 ⟨ba, la, fr, ep, pi, ge, se, tx, ct, rs⟩ (.slice A n c)).below (bel_alloc (Below.refl _ _) _) (by simp))
  have HT := Lib.hid ht
  have HR := Lib.hid (fun w' (hb : Below w.heap.size w w') => (hr.below hb (Nat.le_refl _)).more hb.size)
  have HFIT := Lib.hid hf
  have hrl := hr.len
  obtain ⟨hb0, hb1⟩ := hb
  clear hr hf ht
  by_cases h1 : inR base = false
  · have hz := Lib.hid (show mvB ⟨ba, la, fr, ep, pi, ge, se, tx, ct, rs⟩ base = (nilB, 1) by unfold mvB; rw [h1]; rfl)
    have h2 : ¬ (0 ≤ base ∧ base ≤ 1099511627776) := fun hh => by have := inR_iff.2 hh; rw [h1] at this; cases this
    obtain ⟨c0, c1, c2, c3, c4, c5, c6, c7, c8, c9, f0, f1, f2, f3, f4, f5, f6, f7, f8, f9, hlt⟩ := HZ1.out
    rw [hz.out]
    by_cases h3 : base < 0
    · clear h1 h2
      go_enter Tryd.func26, Tryd.ntmps26
      go_wp2
      exact bodyPost_ret (v := .tuple #[bval nilB (.slice none 0 0), .int .i64 1]) (by simp [results, Tryd.results26, go_sem, bval, nilB]) rfl ⟨none, 0, 0, rfl, Nat.le_refl _, ⟨RdR.nil, fun _ _ _ h => absurd h (by omega)⟩, HW1.out⟩
    · have h4 : 1099511627776 < base := by omega
      clear h1 h2
      go_enter Tryd.func26, Tryd.ntmps26
      go_wp2
      exact bodyPost_ret (v := .tuple #[bval nilB (.slice none 0 0), .int .i64 1]) (by simp [results, Tryd.results26, go_sem, bval, nilB]) rfl ⟨none, 0, 0, rfl, Nat.le_refl _, ⟨RdR.nil, fun _ _ _ h => absurd h (by omega)⟩, HW1.out⟩
  have h1' : inR base = true := by simpa using h1
  obtain ⟨hbr0, hbr1⟩ := inR_iff.1 h1'
  clear h1 hb0 hb1
  by_cases hc0 : chB ⟨ba, la, fr, ep, pi, ge, se, tx, ct, rs⟩ = 0
  case neg =>
    obtain ⟨z, hp⟩ : ∃ z, chB ⟨ba, la, fr, ep, pi, ge, se, tx, ct, rs⟩ = z := ⟨_, rfl⟩
    have HC := Lib.hid hp
    have hz := Lib.hid (show mvB ⟨ba, la, fr, ep, pi, ge, se, tx, ct, rs⟩ base = (nilB, z) by unfold mvB; rw [h1', if_neg (by simp), if_pos hc0, hp])
    have hz0 : z ≠ 0 := by rw [← hp]; exact hc0
    have hzF : (z == 0) = false := beqF hz0
    have hzN : (z != 0) = true := by simp [hz0]
    clear hp hc0 hz0 h1'
    rw [hz.out]
    go_enter Tryd.func26, Tryd.ntmps26
    go_wp2_with (go_at_call 14; (with_reducible refine (BCheck_any ba la fr ep pi ge se tx ct rs A n c _ HFIT.out (HR.out _ HW1.out) hn (HT.out.bel HW1.out)).mono ?_); rw [HC.out]; rintro e w3 ⟨rfl, hb3⟩; have HW3 := Lib.hid (HW1.out.trans (hb3.mono HW1.out.size)); have HZ3 := Lib.hid (HZ1.out.below hb3 HZ1.out.lt); obtain ⟨zc0, zc1, zc2, zc3, zc4, zc5, zc6, zc7, zc8, zc9, zf0, zf1, zf2, zf3, zf4, zf5, zf6, zf7, zf8, zf9, zlt⟩ := HZ3.out; clear hb3)
    exact bodyPost_ret (v := .tuple #[bval nilB (.slice none 0 0), .int .i64 z]) (by simp [results, Tryd.results26, go_sem, bval, nilB, zc0, zc1, zc2, zc3, zc4, zc5, zc6, zc7, zc8, zc9]) rfl ⟨none, 0, 0, rfl, Nat.le_refl _, ⟨RdR.nil, fun _ _ _ h => absurd h (by omega)⟩, ((((((((((HW3.out.setCell (by first | (simp; done) | (simp; omega)) _).setCell (by first | (simp; done) | (simp; omega)) _).setCell (by first | (simp; done) | (simp; omega)) _).setCell (by first | (simp; done) | (simp; omega)) _).setCell (by first | (simp; done) | (simp; omega)) _).setCell (by first | (simp; done) | (simp; omega)) _).setCell (by first | (simp; done) | (simp; omega)) _).setCell (by first | (simp; done) | (simp; omega)) _).setCell (by first | (simp; done) | (simp; omega)) _).setCell (by first | (simp; done) | (simp; omega)) _)⟩
  have F0 := (chB_form hc0).1
  have f0 := F0.base0
  have f1 := F0.base1
  have f2 := F0.last0
  have f3 := F0.last1
  simp only at f0 f1 f2 f3
  have HMAY := Lib.hid F0.mays
  have HC := Lib.hid hc0
  obtain ⟨d, hd⟩ : ∃ d, base - ba = d := ⟨_, rfl⟩
  obtain ⟨L, hL⟩ : ∃ L, base + la - ba = L := ⟨_, rfl⟩
  obtain ⟨rs2, hrs2⟩ : ∃ l, rs.map (mvR d) = l := ⟨_, rfl⟩
  have hmo : mvO ⟨ba, la, fr, ep, pi, ge, se, tx, ct, rs⟩ base = ⟨base, L, fr, ep, pi, ge, se, tx, ct, rs2⟩ := by unfold mvO; simp only; rw [hL, hd, hrs2]
  have HFIT2 := Lib.hid (show Fits ⟨base, L, fr, ep, pi, ge, se, tx, ct, rs2⟩ by
    have hf := HFIT.out
    refine ⟨?_, ?_, hf.frm, hf.epoch, hf.pid, hf.gen, hf.seq, hf.ctl, fun r hr => ?_⟩
    · unfold I64; simp only; omega
    · unfold I64; simp only; omega
    · simp only [← hrs2, List.mem_map] at hr
      obtain ⟨x, hx, rfl⟩ := hr
      have h5 := may_iff.1 (HMAY.out x hx)
      have h6 := hf.recs x hx
      refine ⟨?_, h6.2.1, h6.2.2⟩
      unfold I64 mvR
      simp only
      omega)
  obtain ⟨z, hp⟩ : ∃ z, chB ⟨base, L, fr, ep, pi, ge, se, tx, ct, rs2⟩ = z := ⟨_, rfl⟩
  have HC2 := Lib.hid hp
  have HRS2 := Lib.hid hrs2
  have HD := Lib.hid hd
  have HLL := Lib.hid hL
  have hrl2 : rs2.length = n := by rw [← hrs2, List.length_map]; exact hrl
  have HRL := Lib.hid hrl
  have HRL2 := Lib.hid hrl2
  have HZM := Lib.hid (show mvB ⟨ba, la, fr, ep, pi, ge, se, tx, ct, rs⟩ base = if z = 0 then (⟨base, L, fr, ep, pi, ge, se, tx, ct, rs2⟩, 0) else (nilB, z) by
    unfold mvB
    rw [h1', if_neg (by simp), if_neg (by simpa using hc0), hmo, hp]
    by_cases hz : z = 0
    · rw [if_neg (by simpa using hz), if_pos hz]
    · rw [if_pos hz, if_neg hz])
  have hd1 : -1099511627776 ≤ d := by omega
  have hd2 : d ≤ 1099511627776 := by omega
  have hw1 : IntKind.i64.wrap (base - ba) = d := by rw [IntWalk.i64_in _ (by omega)]; exact hd
  have hw2 : IntKind.i64.wrap (ba + d) = base := by rw [IntWalk.i64_in _ (by omega)]; omega
  have hw3 : IntKind.i64.wrap (la + d) = L := by rw [IntWalk.i64_in _ (by omega)]; omega
  have hv1 : wrap64 (base - ba) = d := by rw [← IntWalk.i64_left]; exact hw1
  have hv2 : wrap64 (ba + d) = base := by rw [← IntWalk.i64_left]; exact hw2
  have hv3 : wrap64 (la + d) = L := by rw [← IntWalk.i64_left]; exact hw3
  have hu2 : ba + d = base := by omega
  have hu3 : la + d = L := by omega
  clear hc0 F0 hL hrs2 hmo hp h1' hrl hrl2
  go_enter Tryd.func26, Tryd.ntmps26
  go_wp2_with (first
    | (go_at_call 14; (with_reducible refine (BCheck_any ba la fr ep pi ge se tx ct rs A n c _ HFIT.out (HR.out _ HW1.out) hn (HT.out.bel HW1.out)).mono ?_); rw [HC.out]; rintro e w3 ⟨rfl, hb3⟩; have HW3 := Lib.hid (HW1.out.trans (hb3.mono HW1.out.size)); have HZ3 := Lib.hid (HZ1.out.below hb3 HZ1.out.lt); have HB3 := Lib.hid (HB1.out.below hb3 HB1.out.lt); obtain ⟨y3_0, y3_1, y3_2, y3_3, y3_4, y3_5, y3_6, y3_7, y3_8, y3_9⟩ := HB3.out.box; have q0 := HB3.out.fz 0; have q1 := HB3.out.fz 1; have q9 := HB3.out.fz 9; have HB3s := Lib.hid ((HB3.out.put0 base).put1 L); have HZ3s := Lib.hid ((HZ3.out.set (by omega) : ZB (w3.setCell ⟨w.heap.size, 0, none⟩ (.int .i64 base)) (w.heap.size + 1)).set (by omega) : ZB ((w3.setCell ⟨w.heap.size, 0, none⟩ (.int .i64 base)).setCell ⟨w.heap.size, 1, none⟩ (.int .i64 L)) (w.heap.size + 1)); have HW3s := Lib.hid (show Below w.heap.size w ((w3.setCell ⟨w.heap.size, 0, none⟩ (.int .i64 base)).setCell ⟨w.heap.size, 1, none⟩ (.int .i64 L)) from (HW3.out.setCell (by show w.heap.size ≤ w.heap.size; omega) _).setCell (by show w.heap.size ≤ w.heap.size; omega) _); clear hb3)
    | (go_at_call 43; (with_reducible refine (cloneR_any A n c rs _ (HR.out _ HW3s.out) hn).mono ?_); rintro e w4 ⟨A4, c4, rfl, ho4, hb4⟩; have HO4 := Lib.hid ho4; have HW4 := Lib.hid (HW3s.out.trans (hb4.mono HW3s.out.size)); have HB4 := Lib.hid (HB3s.out.below hb4 HB3s.out.lt); have HZ4 := Lib.hid (HZ3s.out.below hb4 HZ3s.out.lt); have hs34 := hb4.size; have hc9 := HB4.out.box.2.2.2.2.2.2.2.2.2; have hq9 := HB4.out.fz 9; clear ho4 hb4))
  have hlt3 := HB3s.out.lt
  have hlz3 := HZ3s.out.lt
  have HO5 := Lib.hid (show OwnF recC 5 (w4.setCell ⟨w.heap.size, 9, none⟩ (.slice A4 n c4)) 43 ((w3.setCell ⟨w.heap.size, 0, none⟩ (.int .i64 base)).setCell ⟨w.heap.size, 1, none⟩ (.int .i64 L)).heap.size (.slice A4 n c4) n rs from HO4.out.setBelow (a := ⟨w.heap.size, 9, none⟩) hlt3 _)
  have HB5 := Lib.hid (show BO (w4.setCell ⟨w.heap.size, 9, none⟩ (.slice A4 n c4)) w.heap.size ⟨base, L, fr, ep, pi, ge, se, tx, ct, rs2⟩ (.slice A4 n c4) from HB4.out.put9 rs2)
  have HZ5 := Lib.hid (show ZB (w4.setCell ⟨w.heap.size, 9, none⟩ (.slice A4 n c4)) (w.heap.size + 1) from HZ4.out.set (by omega))
  have HW5 := Lib.hid (show Below w.heap.size w (w4.setCell ⟨w.heap.size, 9, none⟩ (.slice A4 n c4)) from HW4.out.setCell (by show w.heap.size ≤ w.heap.size; omega) _)
  generalize hw5 : (w4.setCell ⟨w.heap.size, 9, none⟩ (.slice A4 n c4)) = w5 at HO5 HB5 HZ5 HW5 ⊢
  generalize hBB : ((w3.setCell ⟨w.heap.size, 0, none⟩ (.int .i64 base)).setCell ⟨w.heap.size, 1, none⟩ (.int .i64 L)).heap.size = B3 at HO5 hlt3 hlz3 hs34
  clear hw5 hBB hc9 hq9 q0 q1 q9 y3_0 y3_1 y3_2 y3_3 y3_4 y3_5 y3_6 y3_7 y3_8 y3_9 HO4 HW4 HB4 HZ4 hw1 hw2 hw3 hv1 hv2 hv3 hu2 hu3 hs34
  go_loopw [44] (fun i wr => mdRel 43 ⟨base, L, fr, ep, pi, ge, se, tx, ct, rs2⟩ rs d A4 n c4 w.heap.size (w.heap.size + 1) B3 w i wr) (fun i _ => n - (intOf i).toNat)
  case atStart => exact ⟨0, rfl, Nat.zero_le _, by rw [List.take_zero, List.drop_zero, List.nil_append]; exact HO5.out, HB5.out, HZ5.out, HW5.out⟩
  case round =>
    obtain ⟨k, rfl, hk, hor, hxr, hzr, hbr⟩ := hrel
    have HOR := Lib.hid hor
    have HXR := Lib.hid hxr
    have HZR := Lib.hid hzr
    have HBR := Lib.hid hbr
    obtain ⟨q0, q1, q2, q3, q4, q5, q6, q7, q8, q9⟩ := hxr.box
    simp only at q0 q1 q2 q3 q4 q5 q6 q7 q8 q9
    clear hor hbr hxr hzr
    by_cases hlt : k < n
    · obtain ⟨r, hrk⟩ : ∃ r, rs[k]? = some r := ⟨_, List.getElem?_eq_getElem (by have := HRL.out; omega)⟩
      have hmay := (may_iff.1 (HMAY.out r (List.mem_of_getElem? hrk))).1
      obtain ⟨p1, p2⟩ := hmay
      have hmh := mv_here (d := d) hrk
      obtain ⟨g, hA4, hg3, hg4⟩ := HOR.out.form (by omega)
      subst hA4
      have hcell := HOR.out.cellAt recS (i := 0) hmh.1 rfl
      have hfro := HOR.out.frozen (k * 5 + 0)
      rw [Nat.add_zero] at hcell hfro
      have HSET := Lib.hid (HOR.out.set recS hg3 (i := 0) (y := mvR d r) (u := .int .i64 (r.off + d)) hmh.1 (by omega) rfl)
      obtain ⟨ro, rk, rv, rd, rt⟩ := r
      simp only at p1 p2 hcell
      have y1 : (0 : Int) ≤ (k : Int) := by omega
      have y2 : (k : Int) < (n : Int) := by omega
      clear hrk hd
      go_wp2
      go_roundw
      case rel =>
        refine ⟨k + 1, by go_num, by omega, ?_, HXR.out.set (by omega), HZR.out.set (by omega), HBR.out.setCell (by show w.heap.size ≤ g; omega) _⟩
        have h := HSET.out.1
        rw [hmh.2] at h
        exact h
      case measure => simp [intOf]; omega
    · have hkn : k = n := by omega
      subst hkn
      have HO6 := Lib.hid (show OwnF recC 5 wr 43 B3 (.slice A4 k c4) k rs2 by
        have h := HOR.out
        rw [List.take_of_length_le (by rw [List.length_map]; have := HRL.out; omega), List.drop_eq_nil_of_le (by have := HRL.out; omega), List.append_nil, HRS2.out] at h
        exact h)
      have HW6 := Lib.hid HBR.out
      have hcap := HO6.out.cap
      clear hd
      by_cases hz : z = 0
      · subst hz
        go_wp2_with (go_at_call 14; (with_reducible refine (BCheck_any base L fr ep pi ge se tx ct rs2 A4 k c4 _ HFIT2.out (rdR_of (HO6.out.rd recS)) hn (HT.out.bel HW6.out)).mono ?_); rw [HC2.out]; rintro e w9 ⟨rfl, hb9⟩; have HZ9 := Lib.hid (HZR.out.below hb9 HZR.out.lt); have HB9 := Lib.hid (HXR.out.below hb9 HXR.out.lt); obtain ⟨zc0, zc1, zc2, zc3, zc4, zc5, zc6, zc7, zc8, zc9, zf0, zf1, zf2, zf3, zf4, zf5, zf6, zf7, zf8, zf9, zlt⟩ := HZ9.out; obtain ⟨u0, u1, u2, u3, u4, u5, u6, u7, u8, u9⟩ := HB9.out.box; simp only at u0 u1 u2 u3 u4 u5 u6 u7 u8 u9; have HW9 := Lib.hid (HW6.out.trans (hb9.mono HW6.out.size)); have HO9 := Lib.hid (HO6.out.below hb9); clear hb9)
        refine bodyPost_ret (v := .tuple #[bval ⟨base, L, fr, ep, pi, ge, se, tx, ct, rs2⟩ (.slice A4 k c4), .int .i64 0]) (by simp [results, Tryd.results26, go_sem, bval, zc0, zc1, zc2, zc3, zc4, zc5, zc6, zc7, zc8, zc9]) rfl ?_
        rw [HZM.out, if_pos trivial]
        exact ⟨A4, k, c4, rfl, hcap, ownR_of (OwnF.more ((ownsRow_setCell_below (ownsRow_setCell_below (ownsRow_setCell_below (ownsRow_setCell_below (ownsRow_setCell_below (ownsRow_setCell_below (ownsRow_setCell_below (ownsRow_setCell_below (ownsRow_setCell_below (ownsRow_setCell_below HO9.out (by show w.heap.size + 1 < B3; omega) _) (by show w.heap.size + 1 < B3; omega) _) (by show w.heap.size + 1 < B3; omega) _) (by show w.heap.size + 1 < B3; omega) _) (by show w.heap.size + 1 < B3; omega) _) (by show w.heap.size + 1 < B3; omega) _) (by show w.heap.size + 1 < B3; omega) _) (by show w.heap.size + 1 < B3; omega) _) (by show w.heap.size + 1 < B3; omega) _) (by show w.heap.size + 1 < B3; omega) _)) (by omega)), ((((((((((HW9.out.setCell (by first | (simp; done) | (simp; omega)) _).setCell (by first | (simp; done) | (simp; omega)) _).setCell (by first | (simp; done) | (simp; omega)) _).setCell (by first | (simp; done) | (simp; omega)) _).setCell (by first | (simp; done) | (simp; omega)) _).setCell (by first | (simp; done) | (simp; omega)) _).setCell (by first | (simp; done) | (simp; omega)) _).setCell (by first | (simp; done) | (simp; omega)) _).setCell (by first | (simp; done) | (simp; omega)) _).setCell (by first | (simp; done) | (simp; omega)) _)⟩
      · have e1 : (z == 0) = false := beqF hz
        have e2 : (z != 0) = true := by simp [hz]
        have HE := Lib.hid hz
        clear hz
        go_wp2_with (go_at_call 14; (with_reducible refine (BCheck_any base L fr ep pi ge se tx ct rs2 A4 k c4 _ HFIT2.out (rdR_of (HO6.out.rd recS)) hn (HT.out.bel HW6.out)).mono ?_); rw [HC2.out]; rintro e w9 ⟨rfl, hb9⟩; obtain ⟨zc0, zc1, zc2, zc3, zc4, zc5, zc6, zc7, zc8, zc9, zf0, zf1, zf2, zf3, zf4, zf5, zf6, zf7, zf8, zf9, zlt⟩ := HZR.out.below hb9 HZR.out.lt; have HW9 := Lib.hid (HW6.out.trans (hb9.mono HW6.out.size)); clear hb9)
        refine bodyPost_ret (v := .tuple #[bval nilB (.slice none 0 0), .int .i64 z]) (by simp [results, Tryd.results26, go_sem, bval, nilB, zc0, zc1, zc2, zc3, zc4, zc5, zc6, zc7, zc8, zc9]) rfl ?_
        rw [HZM.out, if_neg HE.out]
        exact ⟨none, 0, 0, rfl, Nat.le_refl _, ⟨RdR.nil, fun _ _ _ h => absurd h (by omega)⟩, ((((((((((HW9.out.setCell (by first | (simp; done) | (simp; omega)) _).setCell (by first | (simp; done) | (simp; omega)) _).setCell (by first | (simp; done) | (simp; omega)) _).setCell (by first | (simp; done) | (simp; omega)) _).setCell (by first | (simp; done) | (simp; omega)) _).setCell (by first | (simp; done) | (simp; omega)) _).setCell (by first | (simp; done) | (simp; omega)) _).setCell (by first | (simp; done) | (simp; omega)) _).setCell (by first | (simp; done) | (simp; omega)) _).setCell (by first | (simp; done) | (simp; omega)) _)⟩
end Go.Proofs.YtodklilnmianeaaDoor.Bat

/- The contract of Moved, fields written out. -/
namespace Go.Proofs.YtodklilnmianeaaDoor.Bat
open Go.RowKit Go.Proofs.YtodklilnmianeaaDoor.Oct Go.Proofs.YtodklilnmianeaaDoor.Rec Go.Proofs.YtodklilnmianeaaDoor.Crc Go.Proofs.YtodklilnmianeaaDoor.Lay

theorem BMoved_is (ba la fr ep pi ge se : Int) (tx : Bool) (ct : Int) (rs : List Rc) (A : Option Addr) (n c : Nat) (base : Int) (w : World) (hf : Fits ⟨ba, la, fr, ep, pi, ge, se, tx, ct, rs⟩) (hr : RdR w w.heap.size A n rs) (hc : n ≤ c) (hn : n ≤ 1099511627776) (hb : I64 base) (ht : Tab w) {ba' la' fr' ep' pi' ge' se' : Int} {tx' : Bool} {ct' : Int} {rs' : List Rc} {z : Int} (h : mvB ⟨ba, la, fr, ep, pi, ge, se, tx, ct, rs⟩ base = (⟨ba', la', fr', ep', pi', ge', se', tx', ct', rs'⟩, z)) :
    Calls Tryd.prog 26 #[.agg #[.int .i64 ba, .int .i64 la, .int .i64 fr, .int .i64 ep, .int .i64 pi, .int .i64 ge, .int .i64 se, .bool tx, .int .i64 ct, .slice A n c], .int .i64 base] w fun e w' => ∃ A' n' c', e = .returned (.tuple #[.agg #[.int .i64 ba', .int .i64 la', .int .i64 fr', .int .i64 ep', .int .i64 pi', .int .i64 ge', .int .i64 se', .bool tx', .int .i64 ct', .slice A' n' c'], .int .i64 z]) ∧ n' ≤ c' ∧ OwnR w' w.heap.size A' n' rs' ∧ Below w.heap.size w w' := by
  have h1 := BMoved_any ba la fr ep pi ge se tx ct rs A n c w base hf hr hc hn hb ht
  rw [h] at h1
  exact h1
end Go.Proofs.YtodklilnmianeaaDoor.Bat

/- The document's FewAll. -/
namespace Go.Proofs.YtodklilnmianeaaDoor.Bat
open Go.RowKit Go.Proofs.YtodklilnmianeaaDoor.Oct Go.Proofs.YtodklilnmianeaaDoor.Rec Go.Proofs.YtodklilnmianeaaDoor.Crc Go.Proofs.YtodklilnmianeaaDoor.Lay

def faRel (bs : List Bt) (n : Nat) (w : World) (i : Value) (wr : World) : Prop :=
  ∃ k : Nat, i = .int .i64 (k : Int) ∧ k ≤ n ∧ bs.all fewT = (bs.drop k).all fewT ∧ Below w.heap.size w wr
theorem fewAll_step {bs : List Bt} {k : Nat} {b : Bt} (h : bs[k]? = some b) : (bs.drop k).all fewT = (fewT b && (bs.drop (k + 1)).all fewT) := by
  have e : bs.drop k = b :: bs.drop (k + 1) := by
    obtain ⟨hlt, hr⟩ := List.getElem?_eq_some_iff.1 h
    rw [List.drop_eq_getElem_cons hlt, hr]
  rw [e]
  rfl
set_option maxRecDepth 100000 in
set_option maxHeartbeats 1000000 in
theorem refFewAll_is (bs : List Bt) (A : Option Addr) (n c : Nat) (most : Int) (w : World) (hr : RdL w w.heap.size A n bs) (hn : n ≤ reach) {z : Bool} (hz : (bs.all fewT && decide ((bs.length : Int) ≤ most)) = z) :
    Calls Tryd.prog 29 #[.slice A n c, .int .i64 most] w fun e w' => e = .returned (.bool z) ∧ Below w.heap.size w w' := by
  have HZ := Lib.hid hz
  have HR := Lib.hid hr
  have hn2 : n ≤ 140737488351232 := hn
  clear hz hr hn
  go_enter Tryd.func29, Tryd.ntmps29
  go_wp2
  go_loopw [9] (fun i wr => faRel bs n w i wr) (fun i _ => n - (intOf i).toNat)
  case atStart => exact ⟨0, rfl, Nat.zero_le _, rfl, Below.refl _ _⟩
  case round =>
    obtain ⟨k, rfl, hk, hD, hb⟩ := hrel
    have HD := Lib.hid hD
    have HBL := Lib.hid hb
    have HBR := Lib.hid (HR.out.below hb (Nat.le_refl _))
    clear hD hb
    by_cases hlt : k < n
    · obtain ⟨b, o, x, cs, hA, hbl, hxk, his, hcell⟩ := HBR.out.at hlt
      have HS := Lib.hid (fewAll_step hxk)
      obtain ⟨ba, la, fr, ep, pi, ge, se, tx, ct, rs⟩ := x
      obtain ⟨A1, n1, c1, rfl, hfit, hn1, hc1, hrl⟩ := his
      have a0 : wr.cell? ⟨b, o + k * 10, none⟩ = some (.int .i64 ba) := hcell 0 _ rfl
      have a1 : wr.cell? ⟨b, o + k * 10 + 1, none⟩ = some (.int .i64 la) := hcell 1 _ rfl
      have a2 : wr.cell? ⟨b, o + k * 10 + 2, none⟩ = some (.int .i64 fr) := hcell 2 _ rfl
      have a3 : wr.cell? ⟨b, o + k * 10 + 3, none⟩ = some (.int .i64 ep) := hcell 3 _ rfl
      have a4 : wr.cell? ⟨b, o + k * 10 + 4, none⟩ = some (.int .i64 pi) := hcell 4 _ rfl
      have a5 : wr.cell? ⟨b, o + k * 10 + 5, none⟩ = some (.int .i64 ge) := hcell 5 _ rfl
      have a6 : wr.cell? ⟨b, o + k * 10 + 6, none⟩ = some (.int .i64 se) := hcell 6 _ rfl
      have a7 : wr.cell? ⟨b, o + k * 10 + 7, none⟩ = some (.bool tx) := hcell 7 _ rfl
      have a8 : wr.cell? ⟨b, o + k * 10 + 8, none⟩ = some (.int .i64 ct) := hcell 8 _ rfl
      have a9 : wr.cell? ⟨b, o + k * 10 + 9, none⟩ = some (.slice A1 n1 c1) := hcell 9 _ rfl
      simp only at hrl
      have HFIT := Lib.hid (RdL_fit hrl)
      have HX := Lib.hid (BR.new (b := ⟨ba, la, fr, ep, pi, ge, se, tx, ct, rs⟩) (c := c1) 24 ((RdL_recs hrl).more HBL.out.size))
      obtain ⟨x0, x1, x2, x3, x4, x5, x6, x7, x8, x9⟩ := HX.out.box
      have hn1r := Nat.le_trans hn1 hc1
      subst hA
      clear hcell hxk hfit hrl
      rcases hf : fewT ⟨ba, la, fr, ep, pi, ge, se, tx, ct, rs⟩ with _ | _
      · have HF := Lib.hid hf
        have HZF := Lib.hid (show z = false by rw [← HZ.out, HD.out, HS.out, HF.out]; rfl)
        clear hf
        go_wp2_with (go_at_call 13; (with_reducible refine (refFew_is ba la fr ep pi ge se tx ct rs A1 n1 c1 _ HX.out.rd HFIT.out hn1r HF.out).mono ?_); rintro e w4 ⟨rfl, hb4⟩)
        go_ret
        exact ⟨by rw [HZF.out]; rfl, bel_trans (bel_alloc HBL.out _) hb4⟩
      · have HF := Lib.hid hf
        have HN := Lib.hid (show bs.all fewT = (bs.drop (k + 1)).all fewT by rw [HD.out, HS.out, HF.out]; rfl)
        clear hf
        go_wp2_with (go_at_call 13; (with_reducible refine (refFew_is ba la fr ep pi ge se tx ct rs A1 n1 c1 _ HX.out.rd HFIT.out hn1r HF.out).mono ?_); rintro e w4 ⟨rfl, hb4⟩)
        go_roundw
        case rel => exact ⟨k + 1, by go_num, by omega, HN.out, bel_trans (bel_alloc HBL.out _) hb4⟩
        case measure => simp [intOf]; omega
    · have hkn : k = n := by omega
      subst hkn
      have HZF := Lib.hid (show z = decide ((k : Int) ≤ most) by
        rw [← HZ.out, HD.out]
        have hl := HBR.out.len
        rw [hl, List.drop_of_length_le (by omega)]
        rfl)
      go_wp2
      go_ret
      exact ⟨by rw [HZF.out]; rfl, HBL.out⟩
end Go.Proofs.YtodklilnmianeaaDoor.Bat
