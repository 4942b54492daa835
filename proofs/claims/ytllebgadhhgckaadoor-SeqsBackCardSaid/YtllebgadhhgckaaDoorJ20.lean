/- Joined: BatDevHe, BatRefA, BatRefG. -/
import Derived.Test.YtllebgadhhgckaaDoorJ19
import Derived.Test.YtllebgadhhgckaaDoorJ09
/- The contract of the landed hasForm: its numbers. -/
namespace Go.Proofs.YtllebgadhhgckaaDoor.Bat
open Go.RowKit Oct Rec Crc

theorem inL_iff {v lo hi : Int} : inL v lo hi = true ↔ lo ≤ v ∧ v ≤ hi := by simp [inL]
def hdOk (b : Bt) : Bool :=
  decide ((0 ≤ b.base ∧ b.base ≤ 1099511627776) ∧ (0 ≤ wrap64 (b.last - b.base) ∧ wrap64 (b.last - b.base) ≤ 15 ∧ wrap64 (b.last - b.base) ≤ 1099511627776 - b.base) ∧ (0 ≤ b.frm ∧ b.frm ≤ 1099511627776 - wrap64 (b.last - b.base)) ∧
    (0 ≤ b.epoch ∧ b.epoch ≤ 1048576) ∧ (-1 ≤ b.pid ∧ b.pid ≤ 1099511627776) ∧ (0 ≤ b.gen ∧ b.gen ≤ 1048576) ∧ (0 ≤ b.seq ∧ b.seq ≤ 1048576 - wrap64 (b.last - b.base)))
theorem hdOk_iff {b : Bt} (hl : I64 b.last) (hb : I64 b.base) : hdOk b = true ↔ 0 ≤ b.base ∧ b.base ≤ 1099511627776 ∧ b.base ≤ b.last ∧ b.last ≤ 1099511627776 ∧ b.last - b.base < 16 ∧ 0 ≤ b.frm ∧ b.frm + (b.last - b.base) ≤ 1099511627776 ∧
    0 ≤ b.epoch ∧ b.epoch ≤ 1048576 ∧ -1 ≤ b.pid ∧ b.pid ≤ 1099511627776 ∧ 0 ≤ b.gen ∧ b.gen ≤ 1048576 ∧ 0 ≤ b.seq ∧ b.seq + (b.last - b.base) ≤ 1048576 := by
  unfold I64 at hl hb
  unfold hdOk wrap64
  rw [decide_eq_true_eq]
  constructor
  · rintro ⟨h0, h1, h2, h3, h4, h5, h6⟩; omega
  · intro h; refine ⟨?_, ?_, ?_, ?_, ?_, ?_, ?_⟩ <;> omega
theorem least_is {ba v : Int} (h : 0 ≤ ba ∧ ba ≤ 1099511627776) : ∀ h' : Int, (if IntKind.i64.wrap (1099511627776 - ba) < 15 then IntKind.i64.wrap (1099511627776 - ba) else 15) = h' → inL v 0 h' = decide (0 ≤ v ∧ v ≤ 15 ∧ v ≤ 1099511627776 - ba) := by
  rintro h' rfl
  rw [IntWalk.i64_in _ (by omega)]
  unfold inL
  split <;> (apply decide_eq_decide.2; omega)
def hdT (b : Bt) (sp : Int) : Nat → Prop
  | 0 => 0 ≤ b.base ∧ b.base ≤ 1099511627776
  | 1 => 0 ≤ sp ∧ sp ≤ 15 ∧ sp ≤ 1099511627776 - b.base
  | 2 => 0 ≤ b.frm ∧ b.frm ≤ 1099511627776 - sp
  | 3 => 0 ≤ b.epoch ∧ b.epoch ≤ 1048576
  | 4 => -1 ≤ b.pid ∧ b.pid ≤ 1099511627776
  | 5 => 0 ≤ b.gen ∧ b.gen ≤ 1048576
  | _ => 0 ≤ b.seq ∧ b.seq ≤ 1048576 - sp
set_option maxHeartbeats 1000000 in
theorem hfEach (w : World) (g : Nat) (b : Bt) (v : Value) (hbox : BoxB w g b v) (hfz : w.frozen? ⟨g, 1, none⟩ = false) (hg : g < w.heap.size) (hF : Fits b) {y : Bool} (hy : hdOk b = y) :
    Calls Tryd.prog 104 #[.pointer (some ⟨g, 0, none⟩), .func (.func 103) #[] #[]] w fun e w' => e = .returned (.bool y) ∧ BoxB w' g b v ∧ Below g w w' := by
  subst hy
  obtain ⟨c0, c1, c2, c3, c4, c5, c6, c7, c8, c9⟩ := id hbox
  obtain ⟨sp, hsp⟩ : ∃ sp, wrap64 (b.last - b.base) = sp := ⟨_, rfl⟩
  have hsp' : IntKind.i64.wrap (b.last - b.base) = sp := (IntWalk.i64_left _).trans hsp
  have hlast := hF.last
  have hbase := hF.base
  unfold I64 at hlast hbase
  have hback : wrap64 (b.base + sp) = b.last := by rw [← hsp]; unfold wrap64; omega
  obtain ⟨W, hW⟩ : ∃ W, (w.alloc (.cells #[.int .i64 sp] 3)).drew.drew = W := ⟨_, rfl⟩
  have hbl : Below w.heap.size w W := by rw [← hW]; exact ((Below.refl _ _).alloc (Nat.le_refl _) _).drew.drew
  have hb0 : BoxB W g b v := hbox.below hbl hg
  have hz1 : W.frozen? ⟨g, 1, none⟩ = false := (hbl.frozen (p := ⟨g, 1, none⟩) hg).trans hfz
  have hS : W.cell? ⟨w.heap.size, 0, none⟩ = some (.int .i64 sp) := by rw [← hW]; simp [go_sem]
  have see : SeeE g w.heap.size W b.base sp := ⟨hb0.1, hS, ⟨_, hb0.2.1⟩, hz1⟩
  have same : ∀ {x y : Int}, SeeE g w.heap.size W x y → b.base = x ∧ sp = y := fun h => by
    have e0 := see.1.symm.trans h.1
    have e1 := see.2.1.symm.trans h.2.1
    injection e0 with e0; injection e0 with _ e0
    injection e1 with e1; injection e1 with _ e1
    exact ⟨e0, e1⟩
  have hall : hdOk b = true ↔ ∀ j, j < 7 → hdT b sp j := by
    unfold hdOk
    rw [hsp, decide_eq_true_eq]
    constructor
    · rintro ⟨h0, h1, h2, h3, h4, h5, h6⟩ j hj
      match j, hj with
      | 0, _ => exact h0
      | 1, _ => exact h1
      | 2, _ => exact h2
      | 3, _ => exact h3
      | 4, _ => exact h4
      | 5, _ => exact h5
      | 6, _ => exact h6
    · intro h
      exact ⟨h 0 (by omega), h 1 (by omega), h 2 (by omega), h 3 (by omega), h 4 (by omega), h 5 (by omega), h 6 (by omega)⟩
  refine (each_any 103 #[] (fun _ _ => by go_simp) g b.base b.last sp w hg c0 c1 hsp' (fun k w1 => W = w1 ∧ ∀ j, j < k → hdT b sp j) (fun k w1 => W = w1 ∧ ¬ hdT b sp k) ⟨hW.symm, fun j h => by omega⟩ (fun k w1 h => h.1 ▸ ⟨_, _, see⟩) (fun k w1 h => h.1 ▸ ⟨_, _, see⟩) (fun k w1 x y hk hh hs => ?_)).mono ?_
  · obtain ⟨rfl, ho⟩ := hh
    obtain ⟨rfl, rfl⟩ := same hs
    rw [app0]
    have st : ∀ u, W.cell? (adE g w.heap.size k) = some (.int .i64 u) → (inL u (loE k) (hiE b.base sp k) = true ↔ hdT b sp k) → Calls Tryd.prog 103 #[.pointer (some (adE g w.heap.size k)), .int .i64 (loE k), .int .i64 (hiE b.base sp k)] W fun e w2 => ∃ y, e = .returned (.bool y) ∧ if y then (W = w2 ∧ ∀ j, j < k + 1 → hdT b sp j) else (W = w2 ∧ ¬ hdT b sp k) := fun u hu hi => (within_any _ u _ _ _ hu rfl).mono fun e w2 h => by
      refine ⟨_, h.1, ?_⟩
      cases hy : inL u (loE k) (hiE b.base sp k)
      · exact ⟨h.2, fun h => by rw [hi.2 h] at hy; cases hy⟩
      · exact ⟨h.2, fun j hj => if hjk : j < k then ho j hjk else by rw [show j = k by omega]; exact hi.1 hy⟩
    match k, hk with
    | 0, _ => exact st _ hb0.1 inL_iff
    | 1, _ => exact st _ hS (by rw [show inL sp (loE 1) (hiE b.base sp 1) = _ from least_is (ho 0 (by omega)) _ rfl, decide_eq_true_eq]; rfl)
    | 2, _ =>
      have h1 : 0 ≤ sp ∧ sp ≤ 15 ∧ sp ≤ 1099511627776 - b.base := ho 1 (by omega)
      exact st _ hb0.2.2.1 (by rw [show hiE b.base sp 2 = 1099511627776 - sp from IntWalk.i64_in _ (by omega)]; exact inL_iff)
    | 3, _ => exact st _ hb0.2.2.2.1 inL_iff
    | 4, _ => exact st _ hb0.2.2.2.2.1 inL_iff
    | 5, _ => exact st _ hb0.2.2.2.2.2.1 inL_iff
    | 6, _ =>
      have h1 : 0 ≤ sp ∧ sp ≤ 15 ∧ sp ≤ 1099511627776 - b.base := ho 1 (by omega)
      exact st _ hb0.2.2.2.2.2.2.1 (by rw [show hiE b.base sp 6 = 1048576 - sp from IntWalk.i64_in _ (by omega)]; exact inL_iff)
  rintro e w' ⟨y, rfl, w1, x0, y0, hs, hj, rfl⟩
  have END : W = w1 → BoxB (w1.setCell ⟨g, 1, none⟩ (.int .i64 (wrap64 (x0 + y0)))).drew g b v ∧ Below g w (w1.setCell ⟨g, 1, none⟩ (.int .i64 (wrap64 (x0 + y0)))).drew := by
    rintro rfl
    obtain ⟨rfl, rfl⟩ := same hs
    rw [hback]
    exact ⟨(hb0.put1 : BoxB (W.setCell _ _) g b v), ((hbl.mono (by omega)).setCell (by show g ≤ g; omega) _).drew⟩
  cases y
  · obtain ⟨k, hk, h1, h2⟩ := hj
    refine ⟨?_, END h1⟩
    cases hh : hdOk b with
    | false => rfl
    | true => exact (h2 (hall.1 hh k hk)).elim
  · rw [hall.2 hj.2]
    exact ⟨rfl, END hj.1⟩
end Go.Proofs.YtllebgadhhgckaaDoor.Bat

/- The contracts of the document's own in and form. -/
namespace Go.Proofs.YtllebgadhhgckaaDoor.Bat
open Go.RowKit Oct Rec Crc

theorem refin_any (n most : Int) (w : World) {b : Bool} (hb : inM n most = b) : Calls Tryd.prog 90 #[.int .i64 n, .int .i64 most] w fun e w' => e = .returned (.bool b) ∧ w = w' := by
  subst hb
  go_enter Tryd.func90, Tryd.ntmps90
  go_wp2
  all_goals go_ret
  all_goals refine ⟨?_, rfl⟩
  · rename_i h; exact ret_bool (by simp [inM, h])
  · rename_i h; exact ret_bool (by simp [inM]; omega)

end Go.Proofs.YtllebgadhhgckaaDoor.Bat

/- The contract of the document's own form: the records. -/
namespace Go.Proofs.YtllebgadhhgckaaDoor.Bat
open Go.RowKit Oct Rec Crc

theorem rise_step {lo hi : Int} {l : List Rc} {k : Nat} {r : Rc} (h : l[k]? = some r) : rise lo hi (l.drop k) = (may r && decide (lo < r.off ∧ r.off ≤ hi) && rise r.off hi (l.drop (k + 1))) := by
  rw [drop_one h]; rfl
where
  drop_one {l : List Rc} {k : Nat} {r : Rc} (h : l[k]? = some r) : l.drop k = r :: l.drop (k + 1) := by
    obtain ⟨hk, rfl⟩ := List.getElem?_eq_some_iff.1 h
    exact List.drop_eq_getElem_cons hk
def fmRel (ba la : Int) (rs : List Rc) (n : Nat) (w : World) (i v : Value) (wr : World) : Prop :=
  ∃ (k : Nat) (lo : Int), i = .int .i64 (k : Int) ∧ k ≤ n ∧ v = .int .i64 lo ∧ -1 ≤ lo ∧ lo ≤ 1099511627776 ∧ rise lo la (rs.drop k) = rise (ba - 1) la rs ∧ Below w.heap.size w wr
set_option maxRecDepth 100000 in
set_option maxHeartbeats 4000000 in
theorem reform_d1 (ba la fr ep pi ge se : Int) (tx : Bool) (ct : Int) (rs : List Rc) (A : Option Addr) (n c : Nat) (w : World) (t1 : 0 ≤ ba ∧ ba ≤ 1099511627776) (t2 : 0 ≤ la ∧ la ≤ 1099511627776) (t3 : 0 ≤ fr ∧ fr ≤ 1099511627776) (t4 : ba ≤ la) (t5 : la - ba < 16) (t6 : fr + (la - ba) ≤ 1099511627776) (t7 : 0 ≤ ep ∧ ep ≤ 1048576) (t8 : 0 ≤ ge ∧ ge ≤ 1048576) (t9 : 0 ≤ se ∧ se ≤ 1048576) (t10 : se + (la - ba) ≤ 1048576) (q : pi = -1) (q1 : ge = 0) (q2 : se = 0) (q3 : tx = false) (q4 : ct = 0) (hr : RdR w w.heap.size A n rs) (hfit : ∀ r ∈ rs, r.key.size ≤ 1099511627776 ∧ r.val.size ≤ 1099511627776) (hn : n ≤ 1099511627776) :
    Calls Tryd.prog 66 #[.agg #[.int .i64 ba, .int .i64 la, .int .i64 fr, .int .i64 ep, .int .i64 pi, .int .i64 ge, .int .i64 se, .bool tx, .int .i64 ct, .slice A n c]] w fun e w' => e = .returned (.bool (rise (ba - 1) la rs)) ∧ Below w.heap.size w w' := by
  subst q
  subst q1
  subst q2
  subst q3
  subst q4
  have i1 : inM ba 1099511627776 = true := inM_T t1
  have i2 : inM la 1099511627776 = true := inM_T t2
  have i3 : inM fr 1099511627776 = true := inM_T t3
  have i7 : inM ep 1048576 = true := inM_T t7
  have i8 : inM 0 1048576 = true := inM_T t8
  have i9 : inM 0 1048576 = true := inM_T t9
  have HB0 := Lib.hid (boxB_new w 25 ⟨ba, la, fr, ep, (-1), 0, 0, false, 0, rs⟩ (.slice A n c))
  have hsz : w.heap.size < (w.alloc (.cells #[.int .i64 ba, .int .i64 la, .int .i64 fr, .int .i64 ep, .int .i64 (-1), .int .i64 0, .int .i64 0, .bool false, .int .i64 0, .slice A n c] 25)).heap.size := by simp
  have hw0 := Lib.hid (bel_alloc (Below.refl w.heap.size w) (.cells #[.int .i64 ba, .int .i64 la, .int .i64 fr, .int .i64 ep, .int .i64 (-1), .int .i64 0, .int .i64 0, .bool false, .int .i64 0, .slice A n c] 25))
  have HR := Lib.hid hr
  have HFIT := Lib.hid hfit
  have hla := t2
  have hba := t1
  clear hr hfit
  go_enter Tryd.func66, Tryd.ntmps66
  go_wp2_with (go_at_call 90; refine (refin_any _ _ _ (by first | exact i1 | exact i2 | exact i3 | exact i7 | exact i8 | exact i9)).mono ?_; rintro e w9 ⟨rfl, rfl⟩)
  go_loopw [4, 142] (fun v i wr => fmRel ba la rs n (w.alloc (.cells #[.int .i64 ba, .int .i64 la, .int .i64 fr, .int .i64 ep, .int .i64 (-1), .int .i64 0, .int .i64 0, .bool false, .int .i64 0, .slice A n c] 25)) i v wr) (fun _ i _ => n - (intOf i).toNat)
  case atStart => exact ⟨0, ba - 1, rfl, Nat.zero_le _, rfl, by omega, by omega, rfl, Below.refl _ _⟩
  case round =>
    obtain ⟨k, lo, rfl, hk, rfl, hlo0, hlo1, hrise, hbel⟩ := hrel
    have HBW := Lib.hid (HB0.out.below hbel hsz)
    have hs0 := Nat.lt_of_lt_of_le hsz hbel.size
    have hb0r := Lib.hid (bel_trans hw0.out hbel)
    have HBE := Lib.hid hbel
    by_cases hlt : k < n
    · obtain ⟨b, o, r, rfl, hbb, hrk, hat⟩ := (HR.out.below hb0r.out (Nat.le_refl _)).at hlt
      obtain ⟨ro, rk, rv, rd, rt⟩ := r
      obtain ⟨a0, a1, a2, a3, a4⟩ := hat
      obtain ⟨hf1, hf2⟩ := HFIT.out _ (List.mem_of_getElem? hrk)
      simp only at hf1 hf2 a0 a1 a2 a3 a4
      have hst := (rise_step hrk).symm.trans hrise
      have HX := Lib.hid (box_new wr 88 ⟨ro, rk, rv, rd, rt⟩)
      have hx : wr.heap.size < (wr.alloc (.cells #[.int .i64 ro, .string rk, .string rv, .bool rd, .int .i64 rt] 88)).heap.size := by simp
      clear hrise hbel hrk
      have CHK := fun (w' : World) => refCheck_any ro rt rk rv rd w' hf1 hf2
      by_cases hm : may ⟨ro, rk, rv, rd, rt⟩ = true
      · rw [if_pos hm] at CHK
        by_cases h1 : lo < ro
        · by_cases h2 : ro ≤ la
          · have HST := Lib.hid (show rise ro la (rs.drop (k + 1)) = rise (ba - 1) la rs by rw [← hst, hm]; simp [h1, h2])
            obtain ⟨m1, -⟩ := may_iff.1 hm
            simp only at m1
            clear hst hm
            go_wp2_with (go_at_call 91; refine (CHK _).mono ?_; rintro e w9 ⟨rfl, hb9⟩; obtain ⟨x0, x1, x2, x3, x4⟩ := HX.out.below hb9 hx; obtain ⟨y0, y1, y2, y3, y4, y5, y6, y7, y8, y9⟩ := (HBW.out.below (bel_trans (bel_alloc (Below.refl wr.heap.size wr) (.cells #[.int .i64 ro, .string rk, .string rv, .bool rd, .int .i64 rt] 88)) hb9) hs0))
            go_roundw
            case rel => exact ⟨k + 1, ro, by go_num, by omega, rfl, by omega, by omega, HST.out, bel_trans (bel_alloc HBE.out _) hb9⟩
            case measure => simp [intOf]; omega
          · have HF := Lib.hid (show rise (ba - 1) la rs = false by rw [← hst]; simp [h2])
            clear hst hm
            go_wp2_with (go_at_call 91; refine (CHK _).mono ?_; rintro e w9 ⟨rfl, hb9⟩; obtain ⟨x0, x1, x2, x3, x4⟩ := HX.out.below hb9 hx; obtain ⟨y0, y1, y2, y3, y4, y5, y6, y7, y8, y9⟩ := (HBW.out.below (bel_trans (bel_alloc (Below.refl wr.heap.size wr) (.cells #[.int .i64 ro, .string rk, .string rv, .bool rd, .int .i64 rt] 88)) hb9) hs0))
            go_ret
            exact ⟨ret_bool (by first | exact HF.out.symm | (rw [HF.out]; simp; done) | (rw [HF.out]; simp; omega)), bel_trans (bel_alloc hb0r.out _) hb9⟩
        · have HF := Lib.hid (show rise (ba - 1) la rs = false by rw [← hst]; simp [h1])
          clear hst hm
          go_wp2_with (go_at_call 91; refine (CHK _).mono ?_; rintro e w9 ⟨rfl, hb9⟩; obtain ⟨x0, x1, x2, x3, x4⟩ := HX.out.below hb9 hx; obtain ⟨y0, y1, y2, y3, y4, y5, y6, y7, y8, y9⟩ := (HBW.out.below (bel_trans (bel_alloc (Below.refl wr.heap.size wr) (.cells #[.int .i64 ro, .string rk, .string rv, .bool rd, .int .i64 rt] 88)) hb9) hs0))
          go_ret
          exact ⟨ret_bool (by first | exact HF.out.symm | (rw [HF.out]; simp; done) | (rw [HF.out]; simp; omega)), bel_trans (bel_alloc hb0r.out _) hb9⟩
      · have HF := Lib.hid (show rise (ba - 1) la rs = false by rw [← hst]; simp [hm])
        rw [if_neg hm] at CHK
        clear hst hm
        go_wp2_with (go_at_call 91; refine (CHK _).mono ?_; rintro e w9 ⟨rfl, hb9⟩; obtain ⟨x0, x1, x2, x3, x4⟩ := HX.out.below hb9 hx; obtain ⟨y0, y1, y2, y3, y4, y5, y6, y7, y8, y9⟩ := (HBW.out.below (bel_trans (bel_alloc (Below.refl wr.heap.size wr) (.cells #[.int .i64 ro, .string rk, .string rv, .bool rd, .int .i64 rt] 88)) hb9) hs0))
        go_ret
        exact ⟨ret_bool (by first | exact HF.out.symm | (rw [HF.out]; simp; done) | (rw [HF.out]; simp; omega)), bel_trans (bel_alloc hb0r.out _) hb9⟩
    · have hkn : k = n := by omega
      have HF := Lib.hid (show rise (ba - 1) la rs = true by rw [← hrise, List.drop_eq_nil_of_le (by have := HR.out.len; omega)]; rfl)
      clear hrise hkn
      go_wp2
      go_ret
      exact ⟨ret_bool (by first | exact HF.out.symm | (rw [HF.out]; simp; done) | (rw [HF.out]; simp; omega)), hb0r.out⟩
set_option maxRecDepth 100000 in
set_option maxHeartbeats 4000000 in
theorem reform_d2 (ba la fr ep pi ge se : Int) (tx : Bool) (ct : Int) (rs : List Rc) (A : Option Addr) (n c : Nat) (w : World) (t1 : 0 ≤ ba ∧ ba ≤ 1099511627776) (t2 : 0 ≤ la ∧ la ≤ 1099511627776) (t3 : 0 ≤ fr ∧ fr ≤ 1099511627776) (t4 : ba ≤ la) (t5 : la - ba < 16) (t6 : fr + (la - ba) ≤ 1099511627776) (t7 : 0 ≤ ep ∧ ep ≤ 1048576) (t8 : 0 ≤ ge ∧ ge ≤ 1048576) (t9 : 0 ≤ se ∧ se ≤ 1048576) (t10 : se + (la - ba) ≤ 1048576) (q : pi ≠ -1) (q1 : 0 ≤ pi ∧ pi ≤ 1099511627776) (q4 : ct = 0) (hr : RdR w w.heap.size A n rs) (hfit : ∀ r ∈ rs, r.key.size ≤ 1099511627776 ∧ r.val.size ≤ 1099511627776) (hn : n ≤ 1099511627776) :
    Calls Tryd.prog 66 #[.agg #[.int .i64 ba, .int .i64 la, .int .i64 fr, .int .i64 ep, .int .i64 pi, .int .i64 ge, .int .i64 se, .bool tx, .int .i64 ct, .slice A n c]] w fun e w' => e = .returned (.bool (rise (ba - 1) la rs)) ∧ Below w.heap.size w w' := by
  subst q4
  have i1 : inM ba 1099511627776 = true := inM_T t1
  have i2 : inM la 1099511627776 = true := inM_T t2
  have i3 : inM fr 1099511627776 = true := inM_T t3
  have i7 : inM ep 1048576 = true := inM_T t7
  have i8 : inM ge 1048576 = true := inM_T t8
  have i9 : inM se 1048576 = true := inM_T t9
  have ip : inM pi 1099511627776 = true := inM_T q1
  have HB0 := Lib.hid (boxB_new w 25 ⟨ba, la, fr, ep, pi, ge, se, tx, 0, rs⟩ (.slice A n c))
  have hsz : w.heap.size < (w.alloc (.cells #[.int .i64 ba, .int .i64 la, .int .i64 fr, .int .i64 ep, .int .i64 pi, .int .i64 ge, .int .i64 se, .bool tx, .int .i64 0, .slice A n c] 25)).heap.size := by simp
  have hw0 := Lib.hid (bel_alloc (Below.refl w.heap.size w) (.cells #[.int .i64 ba, .int .i64 la, .int .i64 fr, .int .i64 ep, .int .i64 pi, .int .i64 ge, .int .i64 se, .bool tx, .int .i64 0, .slice A n c] 25))
  have HR := Lib.hid hr
  have HFIT := Lib.hid hfit
  have hla := t2
  have hba := t1
  clear hr hfit
  go_enter Tryd.func66, Tryd.ntmps66
  go_wp2_with (go_at_call 90; refine (refin_any _ _ _ (by first | exact i1 | exact i2 | exact i3 | exact i7 | exact i8 | exact i9 | exact ip)).mono ?_; rintro e w9 ⟨rfl, rfl⟩)
  go_loopw [4, 142] (fun v i wr => fmRel ba la rs n (w.alloc (.cells #[.int .i64 ba, .int .i64 la, .int .i64 fr, .int .i64 ep, .int .i64 pi, .int .i64 ge, .int .i64 se, .bool tx, .int .i64 0, .slice A n c] 25)) i v wr) (fun _ i _ => n - (intOf i).toNat)
  case atStart => exact ⟨0, ba - 1, rfl, Nat.zero_le _, rfl, by omega, by omega, rfl, Below.refl _ _⟩
  case round =>
    obtain ⟨k, lo, rfl, hk, rfl, hlo0, hlo1, hrise, hbel⟩ := hrel
    have HBW := Lib.hid (HB0.out.below hbel hsz)
    have hs0 := Nat.lt_of_lt_of_le hsz hbel.size
    have hb0r := Lib.hid (bel_trans hw0.out hbel)
    have HBE := Lib.hid hbel
    by_cases hlt : k < n
    · obtain ⟨b, o, r, rfl, hbb, hrk, hat⟩ := (HR.out.below hb0r.out (Nat.le_refl _)).at hlt
      obtain ⟨ro, rk, rv, rd, rt⟩ := r
      obtain ⟨a0, a1, a2, a3, a4⟩ := hat
      obtain ⟨hf1, hf2⟩ := HFIT.out _ (List.mem_of_getElem? hrk)
      simp only at hf1 hf2 a0 a1 a2 a3 a4
      have hst := (rise_step hrk).symm.trans hrise
      have HX := Lib.hid (box_new wr 88 ⟨ro, rk, rv, rd, rt⟩)
      have hx : wr.heap.size < (wr.alloc (.cells #[.int .i64 ro, .string rk, .string rv, .bool rd, .int .i64 rt] 88)).heap.size := by simp
      clear hrise hbel hrk
      have CHK := fun (w' : World) => refCheck_any ro rt rk rv rd w' hf1 hf2
      by_cases hm : may ⟨ro, rk, rv, rd, rt⟩ = true
      · rw [if_pos hm] at CHK
        by_cases h1 : lo < ro
        · by_cases h2 : ro ≤ la
          · have HST := Lib.hid (show rise ro la (rs.drop (k + 1)) = rise (ba - 1) la rs by rw [← hst, hm]; simp [h1, h2])
            obtain ⟨m1, -⟩ := may_iff.1 hm
            simp only at m1
            clear hst hm
            go_wp2_with (go_at_call 91; refine (CHK _).mono ?_; rintro e w9 ⟨rfl, hb9⟩; obtain ⟨x0, x1, x2, x3, x4⟩ := HX.out.below hb9 hx; obtain ⟨y0, y1, y2, y3, y4, y5, y6, y7, y8, y9⟩ := (HBW.out.below (bel_trans (bel_alloc (Below.refl wr.heap.size wr) (.cells #[.int .i64 ro, .string rk, .string rv, .bool rd, .int .i64 rt] 88)) hb9) hs0))
            go_roundw
            case rel => exact ⟨k + 1, ro, by go_num, by omega, rfl, by omega, by omega, HST.out, bel_trans (bel_alloc HBE.out _) hb9⟩
            case measure => simp [intOf]; omega
          · have HF := Lib.hid (show rise (ba - 1) la rs = false by rw [← hst]; simp [h2])
            clear hst hm
            go_wp2_with (go_at_call 91; refine (CHK _).mono ?_; rintro e w9 ⟨rfl, hb9⟩; obtain ⟨x0, x1, x2, x3, x4⟩ := HX.out.below hb9 hx; obtain ⟨y0, y1, y2, y3, y4, y5, y6, y7, y8, y9⟩ := (HBW.out.below (bel_trans (bel_alloc (Below.refl wr.heap.size wr) (.cells #[.int .i64 ro, .string rk, .string rv, .bool rd, .int .i64 rt] 88)) hb9) hs0))
            go_ret
            exact ⟨ret_bool (by first | exact HF.out.symm | (rw [HF.out]; simp; done) | (rw [HF.out]; simp; omega)), bel_trans (bel_alloc hb0r.out _) hb9⟩
        · have HF := Lib.hid (show rise (ba - 1) la rs = false by rw [← hst]; simp [h1])
          clear hst hm
          go_wp2_with (go_at_call 91; refine (CHK _).mono ?_; rintro e w9 ⟨rfl, hb9⟩; obtain ⟨x0, x1, x2, x3, x4⟩ := HX.out.below hb9 hx; obtain ⟨y0, y1, y2, y3, y4, y5, y6, y7, y8, y9⟩ := (HBW.out.below (bel_trans (bel_alloc (Below.refl wr.heap.size wr) (.cells #[.int .i64 ro, .string rk, .string rv, .bool rd, .int .i64 rt] 88)) hb9) hs0))
          go_ret
          exact ⟨ret_bool (by first | exact HF.out.symm | (rw [HF.out]; simp; done) | (rw [HF.out]; simp; omega)), bel_trans (bel_alloc hb0r.out _) hb9⟩
      · have HF := Lib.hid (show rise (ba - 1) la rs = false by rw [← hst]; simp [hm])
        rw [if_neg hm] at CHK
        clear hst hm
        go_wp2_with (go_at_call 91; refine (CHK _).mono ?_; rintro e w9 ⟨rfl, hb9⟩; obtain ⟨x0, x1, x2, x3, x4⟩ := HX.out.below hb9 hx; obtain ⟨y0, y1, y2, y3, y4, y5, y6, y7, y8, y9⟩ := (HBW.out.below (bel_trans (bel_alloc (Below.refl wr.heap.size wr) (.cells #[.int .i64 ro, .string rk, .string rv, .bool rd, .int .i64 rt] 88)) hb9) hs0))
        go_ret
        exact ⟨ret_bool (by first | exact HF.out.symm | (rw [HF.out]; simp; done) | (rw [HF.out]; simp; omega)), bel_trans (bel_alloc hb0r.out _) hb9⟩
    · have hkn : k = n := by omega
      have HF := Lib.hid (show rise (ba - 1) la rs = true by rw [← hrise, List.drop_eq_nil_of_le (by have := HR.out.len; omega)]; rfl)
      clear hrise hkn
      go_wp2
      go_ret
      exact ⟨ret_bool (by first | exact HF.out.symm | (rw [HF.out]; simp; done) | (rw [HF.out]; simp; omega)), hb0r.out⟩
end Go.Proofs.YtllebgadhhgckaaDoor.Bat
