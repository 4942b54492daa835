/- Joined: BatRefG, RecDevA, OctFCopied, OctFIsWidth, OctFPut, OctFFold. -/
import Derived.Test.YtlfbagkonckffaaGreatJ21
import Derived.Test.YtlfbagkonckffaaGreatJ07
/- The contract of the document's own form: the records. -/
namespace Go.Proofs.YtlfbagkonckffaaGreat.Bat
open Go.RowKit Oct Rec Crc

theorem rise_step {lo hi : Int} {l : List Rc} {k : Nat} {r : Rc} (h : l[k]? = some r) : rise lo hi (l.drop k) = (may r && decide (lo < r.off ∧ r.off ≤ hi) && rise r.off hi (l.drop (k + 1))) := by
  rw [drop_one h]; rfl
where
  drop_one {l : List Rc} {k : Nat} {r : Rc} (h : l[k]? = some r) : l.drop k = r :: l.drop (k + 1) := by
    obtain ⟨hk, rfl⟩ := List.getElem?_eq_some_iff.1 h
    exact List.drop_eq_getElem_cons hk
def fmRel (ba la : Int) (rs : List Rc) (n : Nat) (w : World) (i v : Value) (wr : World) : Prop :=
  ∃ (k : Nat) (lo : Int), i = .int .i64 (k : Int) ∧ k ≤ n ∧ v = .int .i64 lo ∧ -1 ≤ lo ∧ lo ≤ 1099511627776 ∧ rise lo la (rs.drop k) = rise (ba - 1) la rs ∧ Below w.heap.size w wr
set_option maxRecDepth 100000 in
set_option maxHeartbeats 4000000 in
theorem reform_d1 (ba la fr ep pi ge se : Int) (tx : Bool) (ct : Int) (rs : List Rc) (A : Option Addr) (n c : Nat) (w : World) (t1 : 0 ≤ ba ∧ ba ≤ 1099511627776) (t2 : 0 ≤ la ∧ la ≤ 1099511627776) (t3 : 0 ≤ fr ∧ fr ≤ 1099511627776) (t4 : ba ≤ la) (t5 : la - ba < 16) (t6 : fr + (la - ba) ≤ 1099511627776) (t7 : 0 ≤ ep ∧ ep ≤ 1048576) (t8 : 0 ≤ ge ∧ ge ≤ 1048576) (t9 : 0 ≤ se ∧ se ≤ 1048576) (t10 : se + (la - ba) ≤ 1048576) (q : pi = -1) (q1 : ge = 0) (q2 : se = 0) (q3 : tx = false) (q4 : ct = 0) (hr : RdR w w.heap.size A n rs) (hfit : ∀ r ∈ rs, r.key.size ≤ 1099511627776 ∧ r.val.size ≤ 1099511627776) (hn : n ≤ 1099511627776) :
    Calls Tryz.prog 76 #[.agg #[.int .i64 ba, .int .i64 la, .int .i64 fr, .int .i64 ep, .int .i64 pi, .int .i64 ge, .int .i64 se, .bool tx, .int .i64 ct, .slice A n c]] w fun e w' => e = .returned (.bool (rise (ba - 1) la rs)) ∧ Below w.heap.size w w' := by
  subst q
  subst q1
  subst q2
  subst q3
  subst q4
  have i1 : inM ba 1099511627776 = true := inM_T t1
  have i2 : inM la 1099511627776 = true := inM_T t2
  have i3 : inM fr 1099511627776 = true := inM_T t3
  have i7 : inM ep 1048576 = true := inM_T t7
  have i8 : inM 0 1048576 = true := inM_T t8
  have i9 : inM 0 1048576 = true := inM_T t9
  have HB0 := Lib.hid (boxB_new w 28 ⟨ba, la, fr, ep, (-1), 0, 0, false, 0, rs⟩ (.slice A n c))
  have hsz : w.heap.size < (w.alloc (.cells #[.int .i64 ba, .int .i64 la, .int .i64 fr, .int .i64 ep, .int .i64 (-1), .int .i64 0, .int .i64 0, .bool false, .int .i64 0, .slice A n c] 28)).heap.size := by simp
  have hw0 := Lib.hid (bel_alloc (Below.refl w.heap.size w) (.cells #[.int .i64 ba, .int .i64 la, .int .i64 fr, .int .i64 ep, .int .i64 (-1), .int .i64 0, .int .i64 0, .bool false, .int .i64 0, .slice A n c] 28))
  have HR := Lib.hid hr
  have HFIT := Lib.hid hfit
  have hla := t2
  have hba := t1
  clear hr hfit
  go_enter Tryz.func76, Tryz.ntmps76
  go_wp2_with (go_at_call 97; refine (refin_any _ _ _ (by first | exact i1 | exact i2 | exact i3 | exact i7 | exact i8 | exact i9)).mono ?_; rintro e w9 ⟨rfl, rfl⟩)
  go_loopw [4, 142] (fun v i wr => fmRel ba la rs n (w.alloc (.cells #[.int .i64 ba, .int .i64 la, .int .i64 fr, .int .i64 ep, .int .i64 (-1), .int .i64 0, .int .i64 0, .bool false, .int .i64 0, .slice A n c] 28)) i v wr) (fun _ i _ => n - (intOf i).toNat)
  case atStart => exact ⟨0, ba - 1, rfl, Nat.zero_le _, rfl, by omega, by omega, rfl, Below.refl _ _⟩
  case round =>
    obtain ⟨k, lo, rfl, hk, rfl, hlo0, hlo1, hrise, hbel⟩ := hrel
    have HBW := Lib.hid (HB0.out.below hbel hsz)
    have hs0 := Nat.lt_of_lt_of_le hsz hbel.size
    have hb0r := Lib.hid (bel_trans hw0.out hbel)
    have HBE := Lib.hid hbel
    by_cases hlt : k < n
    · obtain ⟨b, o, r, rfl, hbb, hrk, hat⟩ := (HR.out.below hb0r.out (Nat.le_refl _)).at hlt
      obtain ⟨ro, rk, rv, rd, rt⟩ := r
      obtain ⟨a0, a1, a2, a3, a4⟩ := hat
      obtain ⟨hf1, hf2⟩ := HFIT.out _ (List.mem_of_getElem? hrk)
      simp only at hf1 hf2 a0 a1 a2 a3 a4
      have hst := (rise_step hrk).symm.trans hrise
      have HX := Lib.hid (box_new wr 61 ⟨ro, rk, rv, rd, rt⟩)
      have hx : wr.heap.size < (wr.alloc (.cells #[.int .i64 ro, .string rk, .string rv, .bool rd, .int .i64 rt] 61)).heap.size := by simp
      clear hrise hbel hrk
      have CHK := fun (w' : World) => refCheck_any ro rt rk rv rd w' hf1 hf2
      by_cases hm : may ⟨ro, rk, rv, rd, rt⟩ = true
      · rw [if_pos hm] at CHK
        by_cases h1 : lo < ro
        · by_cases h2 : ro ≤ la
          · have HST := Lib.hid (show rise ro la (rs.drop (k + 1)) = rise (ba - 1) la rs by rw [← hst, hm]; simp [h1, h2])
            obtain ⟨m1, -⟩ := may_iff.1 hm
            simp only at m1
            clear hst hm
            go_wp2_with (go_at_call 98; refine (CHK _).mono ?_; rintro e w9 ⟨rfl, hb9⟩; obtain ⟨x0, x1, x2, x3, x4⟩ := HX.out.below hb9 hx; obtain ⟨y0, y1, y2, y3, y4, y5, y6, y7, y8, y9⟩ := (HBW.out.below (bel_trans (bel_alloc (Below.refl wr.heap.size wr) (.cells #[.int .i64 ro, .string rk, .string rv, .bool rd, .int .i64 rt] 61)) hb9) hs0))
            go_roundw
            case rel => exact ⟨k + 1, ro, by go_num, by omega, rfl, by omega, by omega, HST.out, bel_trans (bel_alloc HBE.out _) hb9⟩
            case measure => simp [intOf]; omega
          · have HF := Lib.hid (show rise (ba - 1) la rs = false by rw [← hst]; simp [h2])
            clear hst hm
            go_wp2_with (go_at_call 98; refine (CHK _).mono ?_; rintro e w9 ⟨rfl, hb9⟩; obtain ⟨x0, x1, x2, x3, x4⟩ := HX.out.below hb9 hx; obtain ⟨y0, y1, y2, y3, y4, y5, y6, y7, y8, y9⟩ := (HBW.out.below (bel_trans (bel_alloc (Below.refl wr.heap.size wr) (.cells #[.int .i64 ro, .string rk, .string rv, .bool rd, .int .i64 rt] 61)) hb9) hs0))
            go_ret
            exact ⟨ret_bool (by first | exact HF.out.symm | (rw [HF.out]; simp; done) | (rw [HF.out]; simp; omega)), bel_trans (bel_alloc hb0r.out _) hb9⟩
        · have HF := Lib.hid (show rise (ba - 1) la rs = false by rw [← hst]; simp [h1])
          clear hst hm
          go_wp2_with (go_at_call 98; refine (CHK _).mono ?_; rintro e w9 ⟨rfl, hb9⟩; obtain ⟨x0, x1, x2, x3, x4⟩ := HX.out.below hb9 hx; obtain ⟨y0, y1, y2, y3, y4, y5, y6, y7, y8, y9⟩ := (HBW.out.below (bel_trans (bel_alloc (Below.refl wr.heap.size wr) (.cells #[.int .i64 ro, .string rk, .string rv, .bool rd, .int .i64 rt] 61)) hb9) hs0))
          go_ret
          exact ⟨ret_bool (by first | exact HF.out.symm | (rw [HF.out]; simp; done) | (rw [HF.out]; simp; omega)), bel_trans (bel_alloc hb0r.out _) hb9⟩
      · have HF := Lib.hid (show rise (ba - 1) la rs = false by rw [← hst]; simp [hm])
        rw [if_neg hm] at CHK
        clear hst hm
        go_wp2_with (go_at_call 98; refine (CHK _).mono ?_; rintro e w9 ⟨rfl, hb9⟩; obtain ⟨x0, x1, x2, x3, x4⟩ := HX.out.below hb9 hx; obtain ⟨y0, y1, y2, y3, y4, y5, y6, y7, y8, y9⟩ := (HBW.out.below (bel_trans (bel_alloc (Below.refl wr.heap.size wr) (.cells #[.int .i64 ro, .string rk, .string rv, .bool rd, .int .i64 rt] 61)) hb9) hs0))
        go_ret
        exact ⟨ret_bool (by first | exact HF.out.symm | (rw [HF.out]; simp; done) | (rw [HF.out]; simp; omega)), bel_trans (bel_alloc hb0r.out _) hb9⟩
    · have hkn : k = n := by omega
      have HF := Lib.hid (show rise (ba - 1) la rs = true by rw [← hrise, List.drop_eq_nil_of_le (by have := HR.out.len; omega)]; rfl)
      clear hrise hkn
      go_wp2
      go_ret
      exact ⟨ret_bool (by first | exact HF.out.symm | (rw [HF.out]; simp; done) | (rw [HF.out]; simp; omega)), hb0r.out⟩
set_option maxRecDepth 100000 in
set_option maxHeartbeats 4000000 in
theorem reform_d2 (ba la fr ep pi ge se : Int) (tx : Bool) (ct : Int) (rs : List Rc) (A : Option Addr) (n c : Nat) (w : World) (t1 : 0 ≤ ba ∧ ba ≤ 1099511627776) (t2 : 0 ≤ la ∧ la ≤ 1099511627776) (t3 : 0 ≤ fr ∧ fr ≤ 1099511627776) (t4 : ba ≤ la) (t5 : la - ba < 16) (t6 : fr + (la - ba) ≤ 1099511627776) (t7 : 0 ≤ ep ∧ ep ≤ 1048576) (t8 : 0 ≤ ge ∧ ge ≤ 1048576) (t9 : 0 ≤ se ∧ se ≤ 1048576) (t10 : se + (la - ba) ≤ 1048576) (q : pi ≠ -1) (q1 : 0 ≤ pi ∧ pi ≤ 1099511627776) (q4 : ct = 0) (hr : RdR w w.heap.size A n rs) (hfit : ∀ r ∈ rs, r.key.size ≤ 1099511627776 ∧ r.val.size ≤ 1099511627776) (hn : n ≤ 1099511627776) :
    Calls Tryz.prog 76 #[.agg #[.int .i64 ba, .int .i64 la, .int .i64 fr, .int .i64 ep, .int .i64 pi, .int .i64 ge, .int .i64 se, .bool tx, .int .i64 ct, .slice A n c]] w fun e w' => e = .returned (.bool (rise (ba - 1) la rs)) ∧ Below w.heap.size w w' := by
  subst q4
  have i1 : inM ba 1099511627776 = true := inM_T t1
  have i2 : inM la 1099511627776 = true := inM_T t2
  have i3 : inM fr 1099511627776 = true := inM_T t3
  have i7 : inM ep 1048576 = true := inM_T t7
  have i8 : inM ge 1048576 = true := inM_T t8
  have i9 : inM se 1048576 = true := inM_T t9
  have ip : inM pi 1099511627776 = true := inM_T q1
  have HB0 := Lib.hid (boxB_new w 28 ⟨ba, la, fr, ep, pi, ge, se, tx, 0, rs⟩ (.slice A n c))
  have hsz : w.heap.size < (w.alloc (.cells #[.int .i64 ba, .int .i64 la, .int .i64 fr, .int .i64 ep, .int .i64 pi, .int .i64 ge, .int .i64 se, .bool tx, .int .i64 0, .slice A n c] 28)).heap.size := by simp
  have hw0 := Lib.hid (bel_alloc (Below.refl w.heap.size w) (.cells #[.int .i64 ba, .int .i64 la, .int .i64 fr, .int .i64 ep, .int .i64 pi, .int .i64 ge, .int .i64 se, .bool tx, .int .i64 0, .slice A n c] 28))
  have HR := Lib.hid hr
  have HFIT := Lib.hid hfit
  have hla := t2
  have hba := t1
  clear hr hfit
  go_enter Tryz.func76, Tryz.ntmps76
  go_wp2_with (go_at_call 97; refine (refin_any _ _ _ (by first | exact i1 | exact i2 | exact i3 | exact i7 | exact i8 | exact i9 | exact ip)).mono ?_; rintro e w9 ⟨rfl, rfl⟩)
  go_loopw [4, 142] (fun v i wr => fmRel ba la rs n (w.alloc (.cells #[.int .i64 ba, .int .i64 la, .int .i64 fr, .int .i64 ep, .int .i64 pi, .int .i64 ge, .int .i64 se, .bool tx, .int .i64 0, .slice A n c] 28)) i v wr) (fun _ i _ => n - (intOf i).toNat)
  case atStart => exact ⟨0, ba - 1, rfl, Nat.zero_le _, rfl, by omega, by omega, rfl, Below.refl _ _⟩
  case round =>
    obtain ⟨k, lo, rfl, hk, rfl, hlo0, hlo1, hrise, hbel⟩ := hrel
    have HBW := Lib.hid (HB0.out.below hbel hsz)
    have hs0 := Nat.lt_of_lt_of_le hsz hbel.size
    have hb0r := Lib.hid (bel_trans hw0.out hbel)
    have HBE := Lib.hid hbel
    by_cases hlt : k < n
    · obtain ⟨b, o, r, rfl, hbb, hrk, hat⟩ := (HR.out.below hb0r.out (Nat.le_refl _)).at hlt
      obtain ⟨ro, rk, rv, rd, rt⟩ := r
      obtain ⟨a0, a1, a2, a3, a4⟩ := hat
      obtain ⟨hf1, hf2⟩ := HFIT.out _ (List.mem_of_getElem? hrk)
      simp only at hf1 hf2 a0 a1 a2 a3 a4
      have hst := (rise_step hrk).symm.trans hrise
      have HX := Lib.hid (box_new wr 61 ⟨ro, rk, rv, rd, rt⟩)
      have hx : wr.heap.size < (wr.alloc (.cells #[.int .i64 ro, .string rk, .string rv, .bool rd, .int .i64 rt] 61)).heap.size := by simp
      clear hrise hbel hrk
      have CHK := fun (w' : World) => refCheck_any ro rt rk rv rd w' hf1 hf2
      by_cases hm : may ⟨ro, rk, rv, rd, rt⟩ = true
      · rw [if_pos hm] at CHK
        by_cases h1 : lo < ro
        · by_cases h2 : ro ≤ la
          · have HST := Lib.hid (show rise ro la (rs.drop (k + 1)) = rise (ba - 1) la rs by rw [← hst, hm]; simp [h1, h2])
            obtain ⟨m1, -⟩ := may_iff.1 hm
            simp only at m1
            clear hst hm
            go_wp2_with (go_at_call 98; refine (CHK _).mono ?_; rintro e w9 ⟨rfl, hb9⟩; obtain ⟨x0, x1, x2, x3, x4⟩ := HX.out.below hb9 hx; obtain ⟨y0, y1, y2, y3, y4, y5, y6, y7, y8, y9⟩ := (HBW.out.below (bel_trans (bel_alloc (Below.refl wr.heap.size wr) (.cells #[.int .i64 ro, .string rk, .string rv, .bool rd, .int .i64 rt] 61)) hb9) hs0))
            go_roundw
            case rel => exact ⟨k + 1, ro, by go_num, by omega, rfl, by omega, by omega, HST.out, bel_trans (bel_alloc HBE.out _) hb9⟩
            case measure => simp [intOf]; omega
          · have HF := Lib.hid (show rise (ba - 1) la rs = false by rw [← hst]; simp [h2])
            clear hst hm
            go_wp2_with (go_at_call 98; refine (CHK _).mono ?_; rintro e w9 ⟨rfl, hb9⟩; obtain ⟨x0, x1, x2, x3, x4⟩ := HX.out.below hb9 hx; obtain ⟨y0, y1, y2, y3, y4, y5, y6, y7, y8, y9⟩ := (HBW.out.below (bel_trans (bel_alloc (Below.refl wr.heap.size wr) (.cells #[.int .i64 ro, .string rk, .string rv, .bool rd, .int .i64 rt] 61)) hb9) hs0))
            go_ret
            exact ⟨ret_bool (by first | exact HF.out.symm | (rw [HF.out]; simp; done) | (rw [HF.out]; simp; omega)), bel_trans (bel_alloc hb0r.out _) hb9⟩
        · have HF := Lib.hid (show rise (ba - 1) la rs = false by rw [← hst]; simp [h1])
          clear hst hm
          go_wp2_with (go_at_call 98; refine (CHK _).mono ?_; rintro e w9 ⟨rfl, hb9⟩; obtain ⟨x0, x1, x2, x3, x4⟩ := HX.out.below hb9 hx; obtain ⟨y0, y1, y2, y3, y4, y5, y6, y7, y8, y9⟩ := (HBW.out.below (bel_trans (bel_alloc (Below.refl wr.heap.size wr) (.cells #[.int .i64 ro, .string rk, .string rv, .bool rd, .int .i64 rt] 61)) hb9) hs0))
          go_ret
          exact ⟨ret_bool (by first | exact HF.out.symm | (rw [HF.out]; simp; done) | (rw [HF.out]; simp; omega)), bel_trans (bel_alloc hb0r.out _) hb9⟩
      · have HF := Lib.hid (show rise (ba - 1) la rs = false by rw [← hst]; simp [hm])
        rw [if_neg hm] at CHK
        clear hst hm
        go_wp2_with (go_at_call 98; refine (CHK _).mono ?_; rintro e w9 ⟨rfl, hb9⟩; obtain ⟨x0, x1, x2, x3, x4⟩ := HX.out.below hb9 hx; obtain ⟨y0, y1, y2, y3, y4, y5, y6, y7, y8, y9⟩ := (HBW.out.below (bel_trans (bel_alloc (Below.refl wr.heap.size wr) (.cells #[.int .i64 ro, .string rk, .string rv, .bool rd, .int .i64 rt] 61)) hb9) hs0))
        go_ret
        exact ⟨ret_bool (by first | exact HF.out.symm | (rw [HF.out]; simp; done) | (rw [HF.out]; simp; omega)), bel_trans (bel_alloc hb0r.out _) hb9⟩
    · have hkn : k = n := by omega
      have HF := Lib.hid (show rise (ba - 1) la rs = true by rw [← hrise, List.drop_eq_nil_of_le (by have := HR.out.len; omega)]; rfl)
      clear hrise hkn
      go_wp2
      go_ret
      exact ⟨ret_bool (by first | exact HF.out.symm | (rw [HF.out]; simp; done) | (rw [HF.out]; simp; omega)), hb0r.out⟩
end Go.Proofs.YtlfbagkonckffaaGreat.Bat

/- The contracts of the landed rec's Check, and of what it calls. -/
namespace Go.Proofs.YtlfbagkonckffaaGreat.Rec
open Go.RowKit Oct

def chk (r : Rc) : Int := if may r then 0 else 1
theorem chk_open (r : Rc) : chk r = if may r then 0 else 1 := rfl
def tx64 (s : ByteArray) : Bool := decide ((s.size : Int) ≤ 64)
theorem tx64_no {s : ByteArray} (h : 64 < s.size) : tx64 s = false := by unfold tx64; simp; omega
theorem tx64_yes {s : ByteArray} (h : ¬ 64 < s.size) : tx64 s = true := by unfold tx64; simp; omega

theorem inRange_any (n : Int) (w : World) {b : Bool} (hb : inR n = b) : Calls Tryz.prog 143 #[.int .i64 n] w fun e w' => e = .returned (.bool b) ∧ w = w' := by
  subst hb
  go_enter Tryz.func143, Tryz.ntmps143
  go_wp2
  all_goals go_ret
  all_goals refine ⟨?_, rfl⟩
  · rename_i h; exact ret_bool (by simp [inR, h])
  · rename_i h; exact ret_bool (by simp [inR]; omega)

theorem isText_any (s : ByteArray) (w : World) {b : Bool} (hb : tx64 s = b) : Calls Tryz.prog 156 #[.string s] w fun e w' => e = .returned (.bool b) ∧ w = w' := by
  subst hb
  go_enter Tryz.func156, Tryz.ntmps156
  go_wp2
  go_ret
  exact ⟨rfl, rfl⟩

theorem flag_any (d : Bool) (w : World) : Calls Tryz.prog 145 #[.bool d] w fun e w' => e = .returned (.int .u64 ((fl d).toNat : Int)) ∧ w = w' := by
  rcases d with _ | _
  all_goals
    go_enter Tryz.func145, Tryz.ntmps145
    go_wp2
    go_ret
    exact ⟨rfl, rfl⟩

set_option maxRecDepth 100000 in
theorem Check_we (o s : Int) (k v : ByteArray) (d : Bool) (w : World) (hk : k.size ≤ 1099511627776) (hv : v.size ≤ 1099511627776) : Calls Tryz.prog 140 #[.agg #[.int .i64 o, .string k, .string v, .bool d, .int .i64 s]] w fun e w' => e = .returned (.int .i64 (chk ⟨o, k, v, d, s⟩)) ∧ w.alloc (.cells #[.int .i64 o, .string k, .string v, .bool d, .int .i64 s] 61) = w' := by
  rcases h1 : inR o with _ | _
  · have hm := Lib.hid (chk_no (r := ⟨o, k, v, d, s⟩) fun hh => by have := inR_iff.2 (may_iff.1 hh).1; simp only [h1] at this; cases this)
    first | rw [show chk _ = _ from hm.out] | rw [chk_open, hm.out]
    go_enter Tryz.func140, Tryz.ntmps140
    go_wp2_with (go_at_call 143; refine (inRange_any _ _ h1).mono ?_; rintro e w9 ⟨rfl, rfl⟩)
    go_ret
    exact ⟨rfl, rfl⟩
  rcases h2 : inR s with _ | _
  · have hm := Lib.hid (chk_no (r := ⟨o, k, v, d, s⟩) fun hh => by have := inR_iff.2 (may_iff.1 hh).2.1; simp only [h2] at this; cases this)
    first | rw [show chk _ = _ from hm.out] | rw [chk_open, hm.out]
    go_enter Tryz.func140, Tryz.ntmps140
    go_wp2_with (first | (go_at_call 143; refine (inRange_any _ _ (by first | exact h1 | exact h2)).mono ?_; rintro e w9 ⟨rfl, rfl⟩) | (go_at_call 156; refine (isText_any _ _ (by first | exact t3 | exact t4)).mono ?_; rintro e w8 ⟨rfl, rfl⟩))
    go_ret
    exact ⟨rfl, rfl⟩
  have g1 := inR_iff.1 h1
  have g2 := inR_iff.1 h2
  by_cases h3 : 64 < k.size
  · have t3 := tx64_no h3
    have hm := Lib.hid (chk_no (r := ⟨o, k, v, d, s⟩) fun hh => by have := (may_iff.1 hh).2.2.1; simp only at this; omega)
    clear h3
    first | rw [show chk _ = _ from hm.out] | rw [chk_open, hm.out]
    go_enter Tryz.func140, Tryz.ntmps140
    go_wp2_with (first | (go_at_call 143; refine (inRange_any _ _ (by first | exact h1 | exact h2)).mono ?_; rintro e w9 ⟨rfl, rfl⟩) | (go_at_call 156; refine (isText_any _ _ (by first | exact t3 | exact t4)).mono ?_; rintro e w8 ⟨rfl, rfl⟩))
    go_ret
    exact ⟨rfl, rfl⟩
  have t3 := tx64_yes h3
  by_cases h4 : 64 < v.size
  · have t4 := tx64_no h4
    have hm := Lib.hid (chk_no (r := ⟨o, k, v, d, s⟩) fun hh => by have := (may_iff.1 hh).2.2.2.1; simp only at this; omega)
    clear h4
    first | rw [show chk _ = _ from hm.out] | rw [chk_open, hm.out]
    go_enter Tryz.func140, Tryz.ntmps140
    go_wp2_with (first | (go_at_call 143; refine (inRange_any _ _ (by first | exact h1 | exact h2)).mono ?_; rintro e w9 ⟨rfl, rfl⟩) | (go_at_call 156; refine (isText_any _ _ (by first | exact t3 | exact t4)).mono ?_; rintro e w8 ⟨rfl, rfl⟩))
    go_ret
    exact ⟨rfl, rfl⟩
  have t4 := tx64_yes h4
  rcases d with _ | _
  · have hm := Lib.hid (chk_yes (r := ⟨o, k, v, false, s⟩) (may_iff.2 ⟨g1, g2, by simp only; omega, by simp only; omega, fun hh => by cases hh⟩))
    first | rw [show chk _ = _ from hm.out] | rw [chk_open, hm.out]
    go_enter Tryz.func140, Tryz.ntmps140
    go_wp2_with (first | (go_at_call 143; refine (inRange_any _ _ (by first | exact h1 | exact h2)).mono ?_; rintro e w9 ⟨rfl, rfl⟩) | (go_at_call 156; refine (isText_any _ _ (by first | exact t3 | exact t4)).mono ?_; rintro e w8 ⟨rfl, rfl⟩))
    go_ret
    exact ⟨rfl, rfl⟩
  by_cases h5 : k = ByteArray.empty
  · have hm := Lib.hid (chk_no (r := ⟨o, k, v, true, s⟩) fun hh => ((may_iff.1 hh).2.2.2.2 rfl).1 (empty_iff.2 h5))
    first | rw [show chk _ = _ from hm.out] | rw [chk_open, hm.out]
    subst h5
    go_enter Tryz.func140, Tryz.ntmps140
    go_wp2_with (first | (go_at_call 143; refine (inRange_any _ _ (by first | exact h1 | exact h2)).mono ?_; rintro e w9 ⟨rfl, rfl⟩) | (go_at_call 156; refine (isText_any _ _ (by first | exact t3 | exact t4)).mono ?_; rintro e w8 ⟨rfl, rfl⟩))
    go_ret
    exact ⟨rfl, rfl⟩
  by_cases h6 : v = ByteArray.empty
  · have hm := Lib.hid (chk_yes (r := ⟨o, k, v, true, s⟩) (may_iff.2 ⟨g1, g2, by simp only; omega, by simp only; omega, fun _ => ⟨fun hz => h5 (empty_iff.1 hz), empty_iff.2 h6⟩⟩))
    first | rw [show chk _ = _ from hm.out] | rw [chk_open, hm.out]
    subst h6
    have hk5 := empty_tests h5
    go_enter Tryz.func140, Tryz.ntmps140
    go_wp2_with (first | (go_at_call 143; refine (inRange_any _ _ (by first | exact h1 | exact h2)).mono ?_; rintro e w9 ⟨rfl, rfl⟩) | (go_at_call 156; refine (isText_any _ _ (by first | exact t3 | exact t4)).mono ?_; rintro e w8 ⟨rfl, rfl⟩))
    go_ret
    exact ⟨rfl, rfl⟩
  · have hm := Lib.hid (chk_no (r := ⟨o, k, v, true, s⟩) fun hh => h6 (empty_iff.1 ((may_iff.1 hh).2.2.2.2 rfl).2))
    first | rw [show chk _ = _ from hm.out] | rw [chk_open, hm.out]
    have hk5 := empty_tests h5
    have hk6 := empty_tests h6
    go_enter Tryz.func140, Tryz.ntmps140
    go_wp2_with (first | (go_at_call 143; refine (inRange_any _ _ (by first | exact h1 | exact h2)).mono ?_; rintro e w9 ⟨rfl, rfl⟩) | (go_at_call 156; refine (isText_any _ _ (by first | exact t3 | exact t4)).mono ?_; rintro e w8 ⟨rfl, rfl⟩))
    go_ret
    exact ⟨rfl, rfl⟩
theorem Check_at (o s : Int) (k v : ByteArray) (d : Bool) (w : World) (hk : k.size ≤ 1099511627776) (hv : v.size ≤ 1099511627776) : Calls Tryz.prog 140 #[.agg #[.int .i64 o, .string k, .string v, .bool d, .int .i64 s]] w fun e w' => e = .returned (.int .i64 (chk ⟨o, k, v, d, s⟩)) ∧ Below w.heap.size w w' :=
  (Check_we o s k v d w hk hv).mono fun _ _ h => ⟨h.1, h.2 ▸ (Below.refl _ _).alloc (Nat.le_refl _) _⟩
end Go.Proofs.YtlfbagkonckffaaGreat.Rec

/- The contract of octet.Copied. -/
namespace Go.Proofs.YtlfbagkonckffaaGreat.Oct
open Go.RowKit

theorem copied_any (A : Option Addr) (n c : Nat) (k : Int) (l : List UInt8) (B : Nat) (w : World) (hr : Rd w B A n l) (hB : B ≤ w.heap.size) (hn : n ≤ 549755813888) (hk0 : 0 ≤ k) (hk : k ≤ 549755813888) :
    Calls Tryz.prog 142 #[.slice A n c, .int .i64 k] w (RB 5 w.heap.size w l) := by
  have hI := u8row
  obtain ⟨m, rfl⟩ : ∃ m : Nat, k = (m : Int) := ⟨k.toNat, by omega⟩
  go_enter Tryz.func142, Tryz.ntmps142
  go_wp2_with (first | (at_make; refine wpList_mkB _ rfl _ _ 94 rfl 5 Tryz.underlying94 hI _ _ _ (n + m) rfl rfl (by omega) (by omega) ?_; intro A1 c1 w1 hown1 hb1) | (at_builtin; refine wpList_appB _ rfl _ _ 94 rfl w.heap.size 5 Tryz.underlying94 hI _ 0 [] rfl hown1 B A n c l rfl (hr.below hb1 hB) (by omega) hb1.size ?_; intro A2 c2 w2 hown2 hb2))
  go_ret
  exact ⟨A2, n, c2, rfl, by simpa using hown2, hb1.trans hb2⟩

end Go.Proofs.YtlfbagkonckffaaGreat.Oct

/- The contract of octet.IsWidth. -/
namespace Go.Proofs.YtlfbagkonckffaaGreat.Oct
open Go.RowKit

theorem isWidth_any (k : Int) (w : World) : Calls Tryz.prog 158 #[.int .i64 k] w fun e w' => e = .returned (.bool (isW k)) ∧ w = w' := by
  go_enter Tryz.func158, Tryz.ntmps158
  go_wp2
  all_goals go_ret
  all_goals refine ⟨?_, rfl⟩
  · rename_i h; exact ret_bool (by simp [isW, h])
  · rename_i h; exact ret_bool (by simp [isW]; omega)

end Go.Proofs.YtlfbagkonckffaaGreat.Oct

/- The contract of octet.Put. -/
namespace Go.Proofs.YtlfbagkonckffaaGreat.Oct
open Go.RowKit

set_option maxRecDepth 100000 in
set_option maxHeartbeats 400000 in
theorem Put_yes (A : Option Addr) (n c : Nat) (x k : Nat) (l : List UInt8) (B : Nat) (w : World) (hr : Rd w B A n l) (hB : B ≤ w.heap.size) (hn : n ≤ 274877906944) (hk1 : 1 ≤ k) (hk8 : k ≤ 8) :
    Calls Tryz.prog 144 #[.slice A n c, .int .u64 (x : Int), .int .i64 (k : Int)] w (RB 5 w.heap.size w (l ++ beN x k k)) := by
  have hI := u8row
  have hw : isW (k : Int) = true := by simp [isW]; omega
  have hlen := Lib.hid hr.len
  have HN := Lib.hid hn
  clear hn
  go_enter Tryz.func144, Tryz.ntmps144
  go_wp2_with (first | (go_at_call 158; refine (isWidth_any _ _).mono ?_; rintro e w1 ⟨rfl, rfl⟩) | (go_at_call 142; refine (copied_any A n c _ l B w hr hB (by have := HN.out; omega) (by omega) (by omega)).mono ?_; rintro e w1 ⟨A1, n1, c1, rfl, hown1, hb1⟩))
  have hsz := hb1.size
  go_loopw [7, 18] (fun v i wr => putRel w.heap.size l x k w v i wr) (fun _ i _ => k - (intOf i).toNat)
  case atStart => exact ⟨A1, n1, c1, 0, rfl, rfl, Nat.zero_le _, by simpa [beN_zero] using hown1, hb1⟩
  case round =>
    clear hown1
    obtain ⟨A2, n2, c2, j, rfl, rfl, hj, hown2, hb2⟩ := hrel
    have hn2 : n2 ≤ n + 8 := by
      have a1 := hown2.len
      have a3 := hlen.out
      rw [List.length_append, beN_length] at a1
      omega
    have hbs := hb2.size
    by_cases hlt : j < k
    · go_wp2_with (at_builtin; refine wpList_app1 _ rfl _ _ 94 rfl w.heap.size 5 Tryz.underlying94 hI _ n2 _ rfl hown2 _ _ rfl (putByte x (k - 1 - j)) (by have := HN.out; omega) (by omega) ?_; intro A3 c3 w3 hown3 hb3)
      go_roundw
      case rel =>
        refine ⟨A3, n2 + 1, c3, j + 1, rfl, by go_num, by omega, ?_, hb2.trans hb3⟩
        rw [beN_succ, ← List.append_assoc]
        exact hown3
      case measure => simp [intOf]; omega
    · have hjk : j = k := by omega
      subst hjk
      go_wp2
      go_ret
      exact ⟨A2, n2, c2, rfl, hown2, hb2⟩

theorem Put_any (A : Option Addr) (n c : Nat) (x : Nat) (k : Int) (l : List UInt8) (B : Nat) (w : World) (hr : Rd w B A n l) (hB : B ≤ w.heap.size) (hn : n ≤ 274877906944) :
    Calls Tryz.prog 144 #[.slice A n c, .int .u64 (x : Int), .int .i64 k] w (RB 5 w.heap.size w (l ++ if isW k then beN x k.toNat k.toNat else [])) := by
  by_cases hk : isW k = true
  · obtain ⟨m, rfl⟩ : ∃ m : Nat, k = (m : Int) := ⟨k.toNat, by simp [isW] at hk; omega⟩
    have h := hk
    simp [isW] at h
    rw [if_pos hk, Int.toNat_natCast]
    exact Put_yes A n c x m l B w hr hB hn (by omega) (by omega)
  · rw [if_neg hk, List.append_nil]
    have hk' : isW k = false := by simpa using hk
    clear hk
    go_enter Tryz.func144, Tryz.ntmps144
    go_wp2_with (first | (go_at_call 158; refine (isWidth_any _ _).mono ?_; rintro e w1 ⟨rfl, rfl⟩) | (go_at_call 142; refine (copied_any A n c _ l B w hr hB (by omega) (by omega) (by omega)).mono ?_; rintro e w1 ⟨A1, n1, c1, rfl, hown1, hb1⟩))
    go_ret
    exact ⟨A1, n1, c1, rfl, hown1, hb1⟩

end Go.Proofs.YtlfbagkonckffaaGreat.Oct

/- The contract of octet.Fold. -/
namespace Go.Proofs.YtlfbagkonckffaaGreat.Oct
open Go.RowKit

theorem fold_any (n : Int) (w : World) (h1 : -9223372036854775808 ≤ n) (h2 : n ≤ 9223372036854775807) :
    Calls Tryz.prog 157 #[.int .i64 n] w fun e w' => e = .returned (.int .u64 (zz n)) ∧ w = w' := by
  have H := Lib.hid (fold_num n ⟨h1, h2⟩)
  go_enter Tryz.func157, Tryz.ntmps157
  go_wp2
  go_ret
  exact ⟨ret_int H.out, rfl⟩

end Go.Proofs.YtlfbagkonckffaaGreat.Oct
