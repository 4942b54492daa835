/- Joined: BatDevHe, BatDevRf, BatDevHf. -/
import Derived.Test.YtejcjmiofidedaaGreatDoorJBatE
import Derived.Test.YtejcjmiofidedaaGreatDoorJBatA
import Derived.Test.YtejcjmiofidedaaGreatDoorJBatR
import Derived.Test.YtejcjmiofidedaaGreatDoorJRec
/- The contract of the landed hasForm: its numbers. -/
namespace Go.Proofs.YtejcjmiofidedaaGreatDoor.Bat
open Go.RowKit Oct Rec Crc

theorem inL_iff {v lo hi : Int} : inL v lo hi = true ↔ lo ≤ v ∧ v ≤ hi := by simp [inL]
def hdOk (b : Bt) : Bool :=
  decide ((0 ≤ b.base ∧ b.base ≤ 1099511627776) ∧ (0 ≤ wrap64 (b.last - b.base) ∧ wrap64 (b.last - b.base) ≤ 15 ∧ wrap64 (b.last - b.base) ≤ 1099511627776 - b.base) ∧ (0 ≤ b.frm ∧ b.frm ≤ 1099511627776 - wrap64 (b.last - b.base)) ∧
    (0 ≤ b.epoch ∧ b.epoch ≤ 1048576) ∧ (-1 ≤ b.pid ∧ b.pid ≤ 1099511627776) ∧ (0 ≤ b.gen ∧ b.gen ≤ 1048576) ∧ (0 ≤ b.seq ∧ b.seq ≤ 1048576 - wrap64 (b.last - b.base)))
theorem hdOk_iff {b : Bt} (hl : I64 b.last) (hb : I64 b.base) : hdOk b = true ↔ 0 ≤ b.base ∧ b.base ≤ 1099511627776 ∧ b.base ≤ b.last ∧ b.last ≤ 1099511627776 ∧ b.last - b.base < 16 ∧ 0 ≤ b.frm ∧ b.frm + (b.last - b.base) ≤ 1099511627776 ∧
    0 ≤ b.epoch ∧ b.epoch ≤ 1048576 ∧ -1 ≤ b.pid ∧ b.pid ≤ 1099511627776 ∧ 0 ≤ b.gen ∧ b.gen ≤ 1048576 ∧ 0 ≤ b.seq ∧ b.seq + (b.last - b.base) ≤ 1048576 := by
  unfold I64 at hl hb
  unfold hdOk wrap64
  rw [decide_eq_true_eq]
  constructor
  · rintro ⟨h0, h1, h2, h3, h4, h5, h6⟩; omega
  · intro h; refine ⟨?_, ?_, ?_, ?_, ?_, ?_, ?_⟩ <;> omega
theorem least_is {ba v : Int} (h : 0 ≤ ba ∧ ba ≤ 1099511627776) : ∀ h' : Int, (if IntKind.i64.wrap (1099511627776 - ba) < 15 then IntKind.i64.wrap (1099511627776 - ba) else 15) = h' → inL v 0 h' = decide (0 ≤ v ∧ v ≤ 15 ∧ v ≤ 1099511627776 - ba) := by
  rintro h' rfl
  rw [IntWalk.i64_in _ (by omega)]
  unfold inL
  split <;> (apply decide_eq_decide.2; omega)
def hdT (b : Bt) (sp : Int) : Nat → Prop
  | 0 => 0 ≤ b.base ∧ b.base ≤ 1099511627776
  | 1 => 0 ≤ sp ∧ sp ≤ 15 ∧ sp ≤ 1099511627776 - b.base
  | 2 => 0 ≤ b.frm ∧ b.frm ≤ 1099511627776 - sp
  | 3 => 0 ≤ b.epoch ∧ b.epoch ≤ 1048576
  | 4 => -1 ≤ b.pid ∧ b.pid ≤ 1099511627776
  | 5 => 0 ≤ b.gen ∧ b.gen ≤ 1048576
  | _ => 0 ≤ b.seq ∧ b.seq ≤ 1048576 - sp
set_option maxHeartbeats 1000000 in
theorem hfEach (w : World) (g : Nat) (b : Bt) (v : Value) (hbox : BoxB w g b v) (hfz : w.frozen? ⟨g, 1, none⟩ = false) (hg : g < w.heap.size) (hF : Fits b) {y : Bool} (hy : hdOk b = y) :
    Calls Tryz.prog 119 #[.pointer (some ⟨g, 0, none⟩), .func (.func 118) #[] #[]] w fun e w' => e = .returned (.bool y) ∧ BoxB w' g b v ∧ Below g w w' := by
  subst hy
  obtain ⟨c0, c1, c2, c3, c4, c5, c6, c7, c8, c9⟩ := id hbox
  obtain ⟨sp, hsp⟩ : ∃ sp, wrap64 (b.last - b.base) = sp := ⟨_, rfl⟩
  have hsp' : IntKind.i64.wrap (b.last - b.base) = sp := (IntWalk.i64_left _).trans hsp
  have hlast := hF.last
  have hbase := hF.base
  unfold I64 at hlast hbase
  have hback : wrap64 (b.base + sp) = b.last := by rw [← hsp]; unfold wrap64; omega
  obtain ⟨W, hW⟩ : ∃ W, (w.alloc (.cells #[.int .i64 sp] 3)).drew.drew = W := ⟨_, rfl⟩
  have hbl : Below w.heap.size w W := by rw [← hW]; exact ((Below.refl _ _).alloc (Nat.le_refl _) _).drew.drew
  have hb0 : BoxB W g b v := hbox.below hbl hg
  have hz1 : W.frozen? ⟨g, 1, none⟩ = false := (hbl.frozen (p := ⟨g, 1, none⟩) hg).trans hfz
  have hS : W.cell? ⟨w.heap.size, 0, none⟩ = some (.int .i64 sp) := by rw [← hW]; simp [go_sem]
  have see : SeeE g w.heap.size W b.base sp := ⟨hb0.1, hS, ⟨_, hb0.2.1⟩, hz1⟩
  have same : ∀ {x y : Int}, SeeE g w.heap.size W x y → b.base = x ∧ sp = y := fun h => by
    have e0 := see.1.symm.trans h.1
    have e1 := see.2.1.symm.trans h.2.1
    injection e0 with e0; injection e0 with _ e0
    injection e1 with e1; injection e1 with _ e1
    exact ⟨e0, e1⟩
  have hall : hdOk b = true ↔ ∀ j, j < 7 → hdT b sp j := by
    unfold hdOk
    rw [hsp, decide_eq_true_eq]
    constructor
    · rintro ⟨h0, h1, h2, h3, h4, h5, h6⟩ j hj
      match j, hj with
      | 0, _ => exact h0
      | 1, _ => exact h1
      | 2, _ => exact h2
      | 3, _ => exact h3
      | 4, _ => exact h4
      | 5, _ => exact h5
      | 6, _ => exact h6
    · intro h
      exact ⟨h 0 (by omega), h 1 (by omega), h 2 (by omega), h 3 (by omega), h 4 (by omega), h 5 (by omega), h 6 (by omega)⟩
  refine (each_any 118 #[] (fun _ _ => by go_simp) g b.base b.last sp w hg c0 c1 hsp' (fun k w1 => W = w1 ∧ ∀ j, j < k → hdT b sp j) (fun k w1 => W = w1 ∧ ¬ hdT b sp k) ⟨hW.symm, fun j h => by omega⟩ (fun k w1 h => h.1 ▸ ⟨_, _, see⟩) (fun k w1 h => h.1 ▸ ⟨_, _, see⟩) (fun k w1 x y hk hh hs => ?_)).mono ?_
  · obtain ⟨rfl, ho⟩ := hh
    obtain ⟨rfl, rfl⟩ := same hs
    rw [app0]
    have st : ∀ u, W.cell? (adE g w.heap.size k) = some (.int .i64 u) → (inL u (loE k) (hiE b.base sp k) = true ↔ hdT b sp k) → Calls Tryz.prog 118 #[.pointer (some (adE g w.heap.size k)), .int .i64 (loE k), .int .i64 (hiE b.base sp k)] W fun e w2 => ∃ y, e = .returned (.bool y) ∧ if y then (W = w2 ∧ ∀ j, j < k + 1 → hdT b sp j) else (W = w2 ∧ ¬ hdT b sp k) := fun u hu hi => (within_any _ u _ _ _ hu rfl).mono fun e w2 h => by
      refine ⟨_, h.1, ?_⟩
      cases hy : inL u (loE k) (hiE b.base sp k)
      · exact ⟨h.2, fun h => by rw [hi.2 h] at hy; cases hy⟩
      · exact ⟨h.2, fun j hj => if hjk : j < k then ho j hjk else by rw [show j = k by omega]; exact hi.1 hy⟩
    match k, hk with
    | 0, _ => exact st _ hb0.1 inL_iff
    | 1, _ => exact st _ hS (by rw [show inL sp (loE 1) (hiE b.base sp 1) = _ from least_is (ho 0 (by omega)) _ rfl, decide_eq_true_eq]; rfl)
    | 2, _ =>
      have h1 : 0 ≤ sp ∧ sp ≤ 15 ∧ sp ≤ 1099511627776 - b.base := ho 1 (by omega)
      exact st _ hb0.2.2.1 (by rw [show hiE b.base sp 2 = 1099511627776 - sp from IntWalk.i64_in _ (by omega)]; exact inL_iff)
    | 3, _ => exact st _ hb0.2.2.2.1 inL_iff
    | 4, _ => exact st _ hb0.2.2.2.2.1 inL_iff
    | 5, _ => exact st _ hb0.2.2.2.2.2.1 inL_iff
    | 6, _ =>
      have h1 : 0 ≤ sp ∧ sp ≤ 15 ∧ sp ≤ 1099511627776 - b.base := ho 1 (by omega)
      exact st _ hb0.2.2.2.2.2.2.1 (by rw [show hiE b.base sp 6 = 1048576 - sp from IntWalk.i64_in _ (by omega)]; exact inL_iff)
  rintro e w' ⟨y, rfl, w1, x0, y0, hs, hj, rfl⟩
  have END : W = w1 → BoxB (w1.setCell ⟨g, 1, none⟩ (.int .i64 (wrap64 (x0 + y0)))).drew g b v ∧ Below g w (w1.setCell ⟨g, 1, none⟩ (.int .i64 (wrap64 (x0 + y0)))).drew := by
    rintro rfl
    obtain ⟨rfl, rfl⟩ := same hs
    rw [hback]
    exact ⟨(hb0.put1 : BoxB (W.setCell _ _) g b v), ((hbl.mono (by omega)).setCell (by show g ≤ g; omega) _).drew⟩
  cases y
  · obtain ⟨k, hk, h1, h2⟩ := hj
    refine ⟨?_, END h1⟩
    cases hh : hdOk b with
    | false => rfl
    | true => exact (h2 (hall.1 hh k hk)).elim
  · rw [hall.2 hj.2]
    exact ⟨rfl, END hj.1⟩
end Go.Proofs.YtejcjmiofidedaaGreatDoor.Bat

/- The contract of the landed recsHaveForm. -/
namespace Go.Proofs.YtejcjmiofidedaaGreatDoor.Bat
open Go.RowKit Oct Rec Crc

def rfRel (ba la : Int) (rs : List Rc) (n : Nat) (w : World) (i v : Value) (wr : World) : Prop :=
  ∃ (k : Nat) (lo : Int), i = .int .i64 (k : Int) ∧ k ≤ n ∧ v = .int .i64 (lo + 1) ∧ -1 ≤ lo ∧ lo ≤ 1099511627776 ∧ rise lo la (rs.drop k) = rise (ba - 1) la rs ∧ Below w.heap.size w wr
set_option maxRecDepth 100000 in
set_option maxHeartbeats 4000000 in
theorem recsForm_any (ba la fr ep pi ge se : Int) (tx : Bool) (ct : Int) (rs : List Rc) (A : Option Addr) (n c : Nat) (w : World) (hba : 0 ≤ ba ∧ ba ≤ 1099511627776) (hla : I64 la) (hr : RdR w w.heap.size A n rs) (hfit : ∀ r ∈ rs, I64 r.off ∧ I64 r.stamp ∧ r.key.size ≤ 1099511627776 ∧ r.val.size ≤ 1099511627776) (hn : n ≤ 1099511627776) {y : Bool} (hy : rise (ba - 1) la rs = y) :
    Calls Tryz.prog 120 #[.agg #[.int .i64 ba, .int .i64 la, .int .i64 fr, .int .i64 ep, .int .i64 pi, .int .i64 ge, .int .i64 se, .bool tx, .int .i64 ct, .slice A n c]] w fun e w' => e = .returned (.bool y) ∧ Below w.heap.size w w' := by
  subst hy
  have HB0 := Lib.hid (boxB_new w 39 ⟨ba, la, fr, ep, pi, ge, se, tx, ct, rs⟩ (.slice A n c))
  have hsz : w.heap.size < (w.alloc (.cells #[.int .i64 ba, .int .i64 la, .int .i64 fr, .int .i64 ep, .int .i64 pi, .int .i64 ge, .int .i64 se, .bool tx, .int .i64 ct, .slice A n c] 39)).heap.size := by simp
  have hw0 := Lib.hid (bel_alloc (Below.refl w.heap.size w) (.cells #[.int .i64 ba, .int .i64 la, .int .i64 fr, .int .i64 ep, .int .i64 pi, .int .i64 ge, .int .i64 se, .bool tx, .int .i64 ct, .slice A n c] 39))
  have HR := Lib.hid hr
  have HFIT := Lib.hid hfit
  obtain ⟨hla0, hla1⟩ := hla
  clear hr hfit
  go_enter Tryz.func120, Tryz.ntmps120
  go_wp2
  go_loopw [3, 11] (fun v i wr => rfRel ba la rs n (w.alloc (.cells #[.int .i64 ba, .int .i64 la, .int .i64 fr, .int .i64 ep, .int .i64 pi, .int .i64 ge, .int .i64 se, .bool tx, .int .i64 ct, .slice A n c] 39)) i v wr) (fun _ i _ => n - (intOf i).toNat)
  case atStart => exact ⟨0, ba - 1, rfl, Nat.zero_le _, by rw [show ba - 1 + 1 = ba by omega], by omega, by omega, rfl, Below.refl _ _⟩
  case round =>
    obtain ⟨k, lo, rfl, hk, rfl, hlo0, hlo1, hrise, hbel⟩ := hrel
    have HBW := Lib.hid (HB0.out.below hbel hsz)
    have hs0 := Nat.lt_of_lt_of_le hsz hbel.size
    have hb0r := Lib.hid (bel_trans hw0.out hbel)
    have HBE := Lib.hid hbel
    by_cases hlt : k < n
    · obtain ⟨b, o, r, rfl, hbb, hrk, hat⟩ := (HR.out.below hb0r.out (Nat.le_refl _)).at hlt
      obtain ⟨ro, rk, rv, rd, rt⟩ := r
      obtain ⟨a0, a1, a2, a3, a4⟩ := hat
      obtain ⟨ho, hs, hf1, hf2⟩ := HFIT.out _ (List.mem_of_getElem? hrk)
      simp only at ho hs hf1 hf2 a0 a1 a2 a3 a4
      have hst := (rise_step hrk).symm.trans hrise
      have HX := Lib.hid (box_new wr 79 ⟨ro, rk, rv, rd, rt⟩)
      have hx : wr.heap.size < (wr.alloc (.cells #[.int .i64 ro, .string rk, .string rv, .bool rd, .int .i64 rt] 79)).heap.size := by simp
      clear hrise hbel hrk
      have CHK := fun (w' : World) => Check_any ro rt rk rv rd w' ho hs hf1 hf2
      obtain ⟨ho0, ho1⟩ := ho
      clear hs
      by_cases hm : may ⟨ro, rk, rv, rd, rt⟩ = true
      · rw [chk_t hm] at CHK
        by_cases h1 : lo < ro
        · have h1' : ¬ ro < lo + 1 := by omega
          by_cases h2 : ro ≤ la
          · have HST := Lib.hid (show rise ro la (rs.drop (k + 1)) = rise (ba - 1) la rs by rw [← hst, hm]; simp [h1, h2])
            obtain ⟨m1, -⟩ := may_iff.1 hm
            simp only at m1
            clear hst hm
            go_wp2_with (go_at_call 139; (with_reducible refine (CHK _).mono ?_); rintro e w9 ⟨rfl, hb9⟩; obtain ⟨x0, x1, x2, x3, x4⟩ := HX.out.below hb9 hx; obtain ⟨y0, y1, y2, y3, y4, y5, y6, y7, y8, y9⟩ := (HBW.out.below (bel_trans (bel_alloc (Below.refl wr.heap.size wr) (.cells #[.int .i64 ro, .string rk, .string rv, .bool rd, .int .i64 rt] 79)) hb9) hs0))
            go_roundw
            case rel => exact ⟨k + 1, ro, by go_num, by omega, by first | rfl | go_num, by omega, by omega, HST.out, bel_trans (bel_alloc HBE.out _) hb9⟩
            case measure => simp [intOf]; omega
          · have HF := Lib.hid (show rise (ba - 1) la rs = false by rw [← hst]; simp [h2])
            clear hst hm
            go_wp2_with (go_at_call 139; (with_reducible refine (CHK _).mono ?_); rintro e w9 ⟨rfl, hb9⟩; obtain ⟨x0, x1, x2, x3, x4⟩ := HX.out.below hb9 hx; obtain ⟨y0, y1, y2, y3, y4, y5, y6, y7, y8, y9⟩ := (HBW.out.below (bel_trans (bel_alloc (Below.refl wr.heap.size wr) (.cells #[.int .i64 ro, .string rk, .string rv, .bool rd, .int .i64 rt] 79)) hb9) hs0))
            go_ret
            exact ⟨ret_bool (by first | exact HF.out.symm | (rw [HF.out]; simp; done) | (rw [HF.out]; simp; omega)), bel_trans (bel_alloc hb0r.out _) hb9⟩
        · have h1' : ro < lo + 1 := by omega
          have HF := Lib.hid (show rise (ba - 1) la rs = false by rw [← hst]; simp [h1])
          clear hst hm
          go_wp2_with (go_at_call 139; (with_reducible refine (CHK _).mono ?_); rintro e w9 ⟨rfl, hb9⟩; obtain ⟨x0, x1, x2, x3, x4⟩ := HX.out.below hb9 hx; obtain ⟨y0, y1, y2, y3, y4, y5, y6, y7, y8, y9⟩ := (HBW.out.below (bel_trans (bel_alloc (Below.refl wr.heap.size wr) (.cells #[.int .i64 ro, .string rk, .string rv, .bool rd, .int .i64 rt] 79)) hb9) hs0))
          go_ret
          exact ⟨ret_bool (by first | exact HF.out.symm | (rw [HF.out]; simp; done) | (rw [HF.out]; simp; omega)), bel_trans (bel_alloc hb0r.out _) hb9⟩
      · have HF := Lib.hid (show rise (ba - 1) la rs = false by rw [← hst]; simp [hm])
        rw [chk_f (by simpa using hm)] at CHK
        clear hst hm
        go_wp2_with (go_at_call 139; (with_reducible refine (CHK _).mono ?_); rintro e w9 ⟨rfl, hb9⟩; obtain ⟨x0, x1, x2, x3, x4⟩ := HX.out.below hb9 hx; obtain ⟨y0, y1, y2, y3, y4, y5, y6, y7, y8, y9⟩ := (HBW.out.below (bel_trans (bel_alloc (Below.refl wr.heap.size wr) (.cells #[.int .i64 ro, .string rk, .string rv, .bool rd, .int .i64 rt] 79)) hb9) hs0))
        go_ret
        exact ⟨ret_bool (by first | exact HF.out.symm | (rw [HF.out]; simp; done) | (rw [HF.out]; simp; omega)), bel_trans (bel_alloc hb0r.out _) hb9⟩
    · have hkn : k = n := by omega
      have HF := Lib.hid (show rise (ba - 1) la rs = true by rw [← hrise, List.drop_eq_nil_of_le (by have := HR.out.len; omega)]; rfl)
      clear hrise hkn
      go_wp2
      go_ret
      exact ⟨ret_bool (by first | exact HF.out.symm | (rw [HF.out]; simp; done) | (rw [HF.out]; simp; omega)), hb0r.out⟩
end Go.Proofs.YtejcjmiofidedaaGreatDoor.Bat

/- The contract of the landed hasForm. -/
namespace Go.Proofs.YtejcjmiofidedaaGreatDoor.Bat
open Go.RowKit Oct Rec Crc

theorem form_of {b : Bt} {h : Bool} (hl : I64 b.last) (hb : I64 b.base) (hh : hdOk b = h) : form b = (h && !(decide (b.pid < 0) && (b.gen != 0 || b.seq != 0 || b.txn || b.ctl != 0)) && (if b.ctl = 0 then rise (b.base - 1) b.last b.recs else decide ((b.ctl = 1 ∨ b.ctl = 2) ∧ b.base = b.last ∧ b.recs = [] ∧ b.txn = true))) := by
  have hi := hdOk_iff hl hb
  rw [← hh]
  unfold form
  cases hok : hdOk b with
  | false =>
    have hn : ¬ (0 ≤ b.base ∧ b.base ≤ 1099511627776 ∧ b.base ≤ b.last ∧ b.last ≤ 1099511627776 ∧ b.last - b.base < 16 ∧ 0 ≤ b.frm ∧ b.frm + (b.last - b.base) ≤ 1099511627776 ∧
    0 ≤ b.epoch ∧ b.epoch ≤ 1048576 ∧ -1 ≤ b.pid ∧ b.pid ≤ 1099511627776 ∧ 0 ≤ b.gen ∧ b.gen ≤ 1048576 ∧ 0 ≤ b.seq ∧ b.seq + (b.last - b.base) ≤ 1048576) := fun h => by have := hi.2 h; rw [hok] at this; cases this
    rw [decide_eq_false]
    · simp
    · rintro ⟨h1, h2, h3, h4, h5, h6, h7, h8, h9, h10, h11, h12, h13, h14, h15, h16, h17⟩
      apply hn
      rcases h17 with ⟨h18, _⟩ | ⟨_, h18, h19⟩ <;> (refine ⟨?_, ?_, ?_, ?_, ?_, ?_, ?_, ?_, ?_, ?_, ?_, ?_, ?_, ?_, ?_⟩ <;> omega)
  | true =>
    obtain ⟨h0, h1, h2, h3, h4, h5, h6, h7, h8, h9, h10, h11, h12, h13, h14⟩ := hi.1 hok
    simp only [Bool.true_and]
    by_cases hp : b.pid < 0
    · have hp1 : b.pid = -1 := by omega
      rw [decide_eq_true hp, Bool.true_and]
      by_cases hq : b.gen = 0 ∧ b.seq = 0 ∧ b.txn = false ∧ b.ctl = 0
      · obtain ⟨q1, q2, q3, q4⟩ := hq
        rw [if_pos q4, if_pos q4, decide_eq_true]
        · simp [q1, q2, q3, q4]
        · refine ⟨?_, ?_, ?_, ?_, ?_, ?_, ?_, ?_, ?_, ?_, ?_, ?_, ?_, ?_, ?_, ?_, .inl ⟨hp1, q1, q2, q3, q4⟩⟩ <;> omega
      · have hz : (b.gen != 0 || b.seq != 0 || b.txn || b.ctl != 0) = true := by
          cases hz : (b.gen != 0 || b.seq != 0 || b.txn || b.ctl != 0) with
          | true => rfl
          | false =>
            simp at hz
            exact (hq ⟨hz.1.1.1, hz.1.1.2, hz.1.2, hz.2⟩).elim
        rw [hz, decide_eq_false]
        · simp
        · rintro ⟨_, _, _, _, _, _, _, _, _, _, _, _, _, _, _, _, h17⟩
          rcases h17 with ⟨_, h18⟩ | ⟨_, h18, _⟩
          · exact hq h18
          · omega
    · rw [decide_eq_false hp, Bool.false_and, Bool.not_false, Bool.true_and, decide_eq_true, Bool.true_and]
      · by_cases hc : b.ctl = 0
        · rw [if_pos hc, if_pos hc]
        · rw [if_neg hc, if_neg hc]
          apply decide_eq_decide.2
          constructor
          · rintro ⟨k1, k2, k3, k4, _⟩; exact ⟨k1, k2.symm, k3, k4⟩
          · rintro ⟨k1, k2, k3, k4⟩; exact ⟨k1, k2.symm, k3, k4, by omega⟩
      · refine ⟨?_, ?_, ?_, ?_, ?_, ?_, ?_, ?_, ?_, ?_, ?_, ?_, ?_, ?_, ?_, ?_, .inr ⟨?_, ?_, ?_⟩⟩ <;> omega
set_option maxRecDepth 100000 in
set_option maxHeartbeats 4000000 in
theorem hasForm_any (ba la fr ep pi ge se : Int) (tx : Bool) (ct : Int) (rs : List Rc) (A : Option Addr) (n c : Nat) (w : World) (hF : Fits ⟨ba, la, fr, ep, pi, ge, se, tx, ct, rs⟩) (hr : RdR w w.heap.size A n rs) (hn : n ≤ 1099511627776) {y : Bool} (hy : form ⟨ba, la, fr, ep, pi, ge, se, tx, ct, rs⟩ = y) :
    Calls Tryz.prog 103 #[.agg #[.int .i64 ba, .int .i64 la, .int .i64 fr, .int .i64 ep, .int .i64 pi, .int .i64 ge, .int .i64 se, .bool tx, .int .i64 ct, .slice A n c]] w fun e w' => e = .returned (.bool y) ∧ Below w.heap.size w w' := by
  subst hy
  have hbx := boxB_new w 39 ⟨ba, la, fr, ep, pi, ge, se, tx, ct, rs⟩ (.slice A n c)
  have hfz : (w.alloc (.cells #[.int .i64 ba, .int .i64 la, .int .i64 fr, .int .i64 ep, .int .i64 pi, .int .i64 ge, .int .i64 se, .bool tx, .int .i64 ct, .slice A n c] 39)).frozen? ⟨w.heap.size, 1, none⟩ = false := by simp [go_sem]
  have hsz : w.heap.size < (w.alloc (.cells #[.int .i64 ba, .int .i64 la, .int .i64 fr, .int .i64 ep, .int .i64 pi, .int .i64 ge, .int .i64 se, .bool tx, .int .i64 ct, .slice A n c] 39)).heap.size := by simp
  have hb0 := bel_alloc (Below.refl w.heap.size w) (.cells #[.int .i64 ba, .int .i64 la, .int .i64 fr, .int .i64 ep, .int .i64 pi, .int .i64 ge, .int .i64 se, .bool tx, .int .i64 ct, .slice A n c] 39)
  obtain ⟨h, hh⟩ : ∃ h, hdOk ⟨ba, la, fr, ep, pi, ge, se, tx, ct, rs⟩ = h := ⟨_, rfl⟩
  have HE := Lib.hid (hfEach _ w.heap.size ⟨ba, la, fr, ep, pi, ge, se, tx, ct, rs⟩ (.slice A n c) hbx hfz hsz hF hh)
  have HB0 := Lib.hid hb0
  have HR := Lib.hid hr
  have hl := hr.len
  have hfo := form_of (b := ⟨ba, la, fr, ep, pi, ge, se, tx, ct, rs⟩) hF.last hF.base hh
  simp only at hfo
  have hix := hdOk_iff (b := ⟨ba, la, fr, ep, pi, ge, se, tx, ct, rs⟩) hF.last hF.base
  simp only at hix
  have HFT := Lib.hid hF
  clear hbx hfz hb0 hr hF
  rcases h with _ | _
  · rw [show form ⟨ba, la, fr, ep, pi, ge, se, tx, ct, rs⟩ = false by rw [hfo]; simp]
    clear hfo
    clear hix
    go_enter Tryz.func103, Tryz.ntmps103
    go_wp2_with (go_at_call 119; (with_reducible refine (HE.out).mono ?_); rintro e w2 ⟨rfl, hbx2, hb2⟩; have HB2 := Lib.hid (HB0.out.trans hb2); obtain ⟨y0, y1, y2, y3, y4, y5, y6, y7, y8, y9⟩ := hbx2; simp only at y0 y1 y2 y3 y4 y5 y6 y7 y8 y9; clear hb2)
    go_ret
    exact ⟨rfl, HB2.out⟩
  have hok := hix.1 hh
  simp only [Bool.true_and] at hfo
  obtain ⟨ri, hri⟩ : ∃ ri, rise (ba - 1) la rs = ri := ⟨_, rfl⟩
  by_cases hp : pi < 0
  · rw [decide_eq_true hp, Bool.true_and] at hfo
    by_cases q1 : ge = 0
    rotate_left
    · have e1 : (ge != 0) = true := by simp [q1]
      rw [show form ⟨ba, la, fr, ep, pi, ge, se, tx, ct, rs⟩ = false by rw [hfo, e1]; simp]
      clear hfo hok
      clear hix
      go_enter Tryz.func103, Tryz.ntmps103
      go_wp2_with (go_at_call 119; (with_reducible refine (HE.out).mono ?_); rintro e w2 ⟨rfl, hbx2, hb2⟩; have HB2 := Lib.hid (HB0.out.trans hb2); obtain ⟨y0, y1, y2, y3, y4, y5, y6, y7, y8, y9⟩ := hbx2; simp only at y0 y1 y2 y3 y4 y5 y6 y7 y8 y9; clear hb2)
      go_ret
      exact ⟨rfl, HB2.out⟩
    subst q1
    by_cases q2 : se = 0
    rotate_left
    · have e1 : (se != 0) = true := by simp [q2]
      rw [show form ⟨ba, la, fr, ep, pi, 0, se, tx, ct, rs⟩ = false by rw [hfo, e1]; simp]
      clear hfo hok
      clear hix
      go_enter Tryz.func103, Tryz.ntmps103
      go_wp2_with (go_at_call 119; (with_reducible refine (HE.out).mono ?_); rintro e w2 ⟨rfl, hbx2, hb2⟩; have HB2 := Lib.hid (HB0.out.trans hb2); obtain ⟨y0, y1, y2, y3, y4, y5, y6, y7, y8, y9⟩ := hbx2; simp only at y0 y1 y2 y3 y4 y5 y6 y7 y8 y9; clear hb2)
      go_ret
      exact ⟨rfl, HB2.out⟩
    subst q2
    rcases tx with _ | _
    rotate_left
    · rw [show form ⟨ba, la, fr, ep, pi, 0, 0, true, ct, rs⟩ = false by rw [hfo]; simp]
      clear hfo hok
      clear hix
      go_enter Tryz.func103, Tryz.ntmps103
      go_wp2_with (go_at_call 119; (with_reducible refine (HE.out).mono ?_); rintro e w2 ⟨rfl, hbx2, hb2⟩; have HB2 := Lib.hid (HB0.out.trans hb2); obtain ⟨y0, y1, y2, y3, y4, y5, y6, y7, y8, y9⟩ := hbx2; simp only at y0 y1 y2 y3 y4 y5 y6 y7 y8 y9; clear hb2)
      go_ret
      exact ⟨rfl, HB2.out⟩
    by_cases q4 : ct = 0
    rotate_left
    · have e1 : (ct != 0) = true := by simp [q4]
      rw [show form ⟨ba, la, fr, ep, pi, 0, 0, false, ct, rs⟩ = false by rw [hfo, e1]; simp]
      clear hfo hok
      clear hix
      go_enter Tryz.func103, Tryz.ntmps103
      go_wp2_with (go_at_call 119; (with_reducible refine (HE.out).mono ?_); rintro e w2 ⟨rfl, hbx2, hb2⟩; have HB2 := Lib.hid (HB0.out.trans hb2); obtain ⟨y0, y1, y2, y3, y4, y5, y6, y7, y8, y9⟩ := hbx2; simp only at y0 y1 y2 y3 y4 y5 y6 y7 y8 y9; clear hb2)
      go_ret
      exact ⟨rfl, HB2.out⟩
    subst q4
    rw [show form ⟨ba, la, fr, ep, pi, 0, 0, false, 0, rs⟩ = ri by rw [hfo, ← hri, if_pos rfl]; simp]
    clear hfo
    have HRF := Lib.hid (fun (w' : World) (hb : Below w.heap.size w w') => recsForm_any ba la fr ep pi 0 0 false 0 rs A n c w' ⟨hok.1, hok.2.1⟩ HFT.out.last ((HR.out.below hb (Nat.le_refl _)).more hb.size) HFT.out.recs hn hri)
    clear hok hl hix
    go_enter Tryz.func103, Tryz.ntmps103
    go_wp2_with (first | (go_at_call 119; (with_reducible refine (HE.out).mono ?_); rintro e w2 ⟨rfl, hbx2, hb2⟩; have HB2 := Lib.hid (HB0.out.trans hb2); obtain ⟨y0, y1, y2, y3, y4, y5, y6, y7, y8, y9⟩ := hbx2; simp only at y0 y1 y2 y3 y4 y5 y6 y7 y8 y9; clear hb2) | (go_at_call 120; (with_reducible refine (HRF.out w2 HB2.out).mono ?_); rintro e w3 ⟨rfl, hb3⟩))
    go_ret
    exact ⟨rfl, bel_trans HB2.out hb3⟩
  · rw [decide_eq_false hp, Bool.false_and, Bool.not_false, Bool.true_and] at hfo
    by_cases k : ct = 0
    · rw [if_pos k] at hfo
      rw [show form ⟨ba, la, fr, ep, pi, ge, se, tx, ct, rs⟩ = ri by rw [hfo, ← hri]]
      clear hfo
      subst k
      have HRF := Lib.hid (fun (w' : World) (hb : Below w.heap.size w w') => recsForm_any ba la fr ep pi ge se tx 0 rs A n c w' ⟨hok.1, hok.2.1⟩ HFT.out.last ((HR.out.below hb (Nat.le_refl _)).more hb.size) HFT.out.recs hn hri)
      clear hok hl hix
      go_enter Tryz.func103, Tryz.ntmps103
      go_wp2_with (first | (go_at_call 119; (with_reducible refine (HE.out).mono ?_); rintro e w2 ⟨rfl, hbx2, hb2⟩; have HB2 := Lib.hid (HB0.out.trans hb2); obtain ⟨y0, y1, y2, y3, y4, y5, y6, y7, y8, y9⟩ := hbx2; simp only at y0 y1 y2 y3 y4 y5 y6 y7 y8 y9; clear hb2) | (go_at_call 120; (with_reducible refine (HRF.out w2 HB2.out).mono ?_); rintro e w3 ⟨rfl, hb3⟩))
      go_ret
      exact ⟨rfl, bel_trans HB2.out hb3⟩
    rw [if_neg k] at hfo
    by_cases k12 : ct = 1 ∨ ct = 2
    rotate_left
    · rw [show form ⟨ba, la, fr, ep, pi, ge, se, tx, ct, rs⟩ = false by rw [hfo]; exact decide_eq_false fun h => k12 h.1]
      have k1 : ¬ ct = 1 := fun h => k12 (.inl h)
      have k2 : ¬ ct = 2 := fun h => k12 (.inr h)
      clear hfo hok k12
      clear hix
      go_enter Tryz.func103, Tryz.ntmps103
      go_wp2_with (go_at_call 119; (with_reducible refine (HE.out).mono ?_); rintro e w2 ⟨rfl, hbx2, hb2⟩; have HB2 := Lib.hid (HB0.out.trans hb2); obtain ⟨y0, y1, y2, y3, y4, y5, y6, y7, y8, y9⟩ := hbx2; simp only at y0 y1 y2 y3 y4 y5 y6 y7 y8 y9; clear hb2)
      go_ret
      exact ⟨rfl, HB2.out⟩
    by_cases m : ba = la
    rotate_left
    · rw [show form ⟨ba, la, fr, ep, pi, ge, se, tx, ct, rs⟩ = false by rw [hfo]; exact decide_eq_false fun h => m h.2.1]
      have e1 : (ba == la) = false := beqF m
      clear hfo hok m
      rcases k12 with k1 | k1
      · subst k1
        clear hix
        go_enter Tryz.func103, Tryz.ntmps103
        go_wp2_with (go_at_call 119; (with_reducible refine (HE.out).mono ?_); rintro e w2 ⟨rfl, hbx2, hb2⟩; have HB2 := Lib.hid (HB0.out.trans hb2); obtain ⟨y0, y1, y2, y3, y4, y5, y6, y7, y8, y9⟩ := hbx2; simp only at y0 y1 y2 y3 y4 y5 y6 y7 y8 y9; clear hb2)
        go_ret
        exact ⟨rfl, HB2.out⟩
      · subst k1
        clear hix
        go_enter Tryz.func103, Tryz.ntmps103
        go_wp2_with (go_at_call 119; (with_reducible refine (HE.out).mono ?_); rintro e w2 ⟨rfl, hbx2, hb2⟩; have HB2 := Lib.hid (HB0.out.trans hb2); obtain ⟨y0, y1, y2, y3, y4, y5, y6, y7, y8, y9⟩ := hbx2; simp only at y0 y1 y2 y3 y4 y5 y6 y7 y8 y9; clear hb2)
        go_ret
        exact ⟨rfl, HB2.out⟩
    subst m
    by_cases m1 : n = 0
    rotate_left
    · rw [show form ⟨ba, ba, fr, ep, pi, ge, se, tx, ct, rs⟩ = false by rw [hfo]; exact decide_eq_false fun h => m1 (by rw [← hl, h.2.2.1]; rfl)]
      have e1 : ((n : Int) == 0) = false := beqF (by omega)
      clear hfo hok
      rcases k12 with k1 | k1
      · subst k1
        clear hix
        go_enter Tryz.func103, Tryz.ntmps103
        go_wp2_with (go_at_call 119; (with_reducible refine (HE.out).mono ?_); rintro e w2 ⟨rfl, hbx2, hb2⟩; have HB2 := Lib.hid (HB0.out.trans hb2); obtain ⟨y0, y1, y2, y3, y4, y5, y6, y7, y8, y9⟩ := hbx2; simp only at y0 y1 y2 y3 y4 y5 y6 y7 y8 y9; clear hb2)
        go_ret
        exact ⟨rfl, HB2.out⟩
      · subst k1
        clear hix
        go_enter Tryz.func103, Tryz.ntmps103
        go_wp2_with (go_at_call 119; (with_reducible refine (HE.out).mono ?_); rintro e w2 ⟨rfl, hbx2, hb2⟩; have HB2 := Lib.hid (HB0.out.trans hb2); obtain ⟨y0, y1, y2, y3, y4, y5, y6, y7, y8, y9⟩ := hbx2; simp only at y0 y1 y2 y3 y4 y5 y6 y7 y8 y9; clear hb2)
        go_ret
        exact ⟨rfl, HB2.out⟩
    have hrs : rs = [] := List.eq_nil_of_length_eq_zero (hl.trans m1)
    rw [show form ⟨ba, ba, fr, ep, pi, ge, se, tx, ct, rs⟩ = tx by rw [hfo]; cases tx with | false => exact decide_eq_false (fun h => by cases h.2.2.2) | true => exact decide_eq_true ⟨k12, rfl, hrs, rfl⟩]
    subst m1
    clear hfo hok hl
    rcases k12 with k1 | k1
    · subst k1
      clear hix
      go_enter Tryz.func103, Tryz.ntmps103
      go_wp2_with (go_at_call 119; (with_reducible refine (HE.out).mono ?_); rintro e w2 ⟨rfl, hbx2, hb2⟩; have HB2 := Lib.hid (HB0.out.trans hb2); obtain ⟨y0, y1, y2, y3, y4, y5, y6, y7, y8, y9⟩ := hbx2; simp only at y0 y1 y2 y3 y4 y5 y6 y7 y8 y9; clear hb2)
      go_ret
      exact ⟨rfl, HB2.out⟩
    · subst k1
      clear hix
      go_enter Tryz.func103, Tryz.ntmps103
      go_wp2_with (go_at_call 119; (with_reducible refine (HE.out).mono ?_); rintro e w2 ⟨rfl, hbx2, hb2⟩; have HB2 := Lib.hid (HB0.out.trans hb2); obtain ⟨y0, y1, y2, y3, y4, y5, y6, y7, y8, y9⟩ := hbx2; simp only at y0 y1 y2 y3 y4 y5 y6 y7 y8 y9; clear hb2)
      go_ret
      exact ⟨rfl, HB2.out⟩
end Go.Proofs.YtejcjmiofidedaaGreatDoor.Bat
