/- Joined: BatRefB. -/
import Derived.Test.YtlfbagkonckffaaGreatJ21
import Derived.Test.YtlfbagkonckffaaGreatJ24
import Derived.Test.YtlfbagkonckffaaGreatJ25
import Derived.Deep.RegionHeldLaw
/- The contract of the document's own bytes. -/
namespace Go.Proofs.YtlfbagkonckffaaGreat.Bat
open Go.RowKit Oct Rec Crc

theorem vs_take {l : List Int} {j : Nat} {x : Int} (h : l[j]? = some x) : vs (l.take (j + 1)) = vs (l.take j) ++ vb (zz x) := by
  rw [List.take_add_one, h]
  generalize l.take j = m
  induction m with
  | nil => simp [vs]
  | cons y m ih => simp only [Option.toList_some] at ih ⊢; simp [vs, ih, List.append_assoc]
theorem rs_take {l : List Rc} {j : Nat} {r : Rc} {ba st : Int} (h : l[j]? = some r) : rs ba st (l.take (j + 1)) = rs ba st (l.take j) ++ rb r ba st := by
  rw [List.take_add_one, h]
  generalize l.take j = m
  induction m with
  | nil => simp [rs]
  | cons y m ih => simp only [Option.toList_some] at ih ⊢; simp [rs, ih, List.append_assoc]
theorem seven_cells (w : World) (e : TypeId) (a b c d f g h : Int) : ∀ j x, [a, b, c, d, f, g, h][j]? = some x → (w.alloc (.cells #[.int .i64 a, .int .i64 b, .int .i64 c, .int .i64 d, .int .i64 f, .int .i64 g, .int .i64 h] e)).cell? ⟨w.heap.size, j, none⟩ = some (.int .i64 x) := by
  intro j x hx
  rw [cell_of_row _ _ _ _ e _ (heap_alloc_new w _)]
  match j, hx with
  | 0, hx => simpa using hx
  | 1, hx => simpa using hx
  | 2, hx => simpa using hx
  | 3, hx => simpa using hx
  | 4, hx => simpa using hx
  | 5, hx => simpa using hx
  | 6, hx => simpa using hx
  | j + 7, hx => simp at hx
def mid (pre : List UInt8) (ba st : Int) (l : List Rc) (k : Nat) : List UInt8 := pre ++ (if k = 0 then [] else vb (zz st) ++ rs ba st (l.take k))
theorem mid_zero {pre : List UInt8} {ba st : Int} {l : List Rc} : mid pre ba st l 0 = pre := by simp [mid]
theorem mid_one {pre : List UInt8} {ba : Int} {l : List Rc} {r : Rc} (h : l[0]? = some r) : mid pre ba r.stamp l 1 = pre ++ vb (zz r.stamp) ++ rb r ba r.stamp := by
  unfold mid
  rw [if_neg (by omega)]
  have h1 := rs_take (ba := ba) (st := r.stamp) h
  rw [List.take_zero] at h1
  rw [h1]
  simp [rs, List.append_assoc]
theorem mid_more {pre : List UInt8} {ba st : Int} {l : List Rc} {r : Rc} {k : Nat} (h : l[k]? = some r) (hk : k ≠ 0) : mid pre ba st l (k + 1) = mid pre ba st l k ++ rb r ba st := by
  unfold mid
  rw [if_neg (by omega), if_neg hk, rs_take h]
  simp [List.append_assoc]
theorem mid_end {b : Bt} {st : Int} {n : Nat} {pre : List UInt8} {mk : UInt8} (hmk : mk = mark b) (hpre : pre = vs (hd b) ++ [mk] ++ vb (zz (n : Int))) (hn : b.recs.length = n) (hst : ∀ r, b.recs[0]? = some r → st = r.stamp) : mid pre b.base st b.recs n = body b := by
  subst hn
  subst hmk
  unfold mid body
  rw [List.take_length, hpre]
  cases h : b.recs with
  | nil => simp [tl, List.append_assoc]
  | cons r l =>
    have h2 := hst r (by rw [h]; rfl)
    rw [if_neg (by simp), h2]
    simp [tl, List.append_assoc]
def by2Rel (base : Nat) (pre : List UInt8) (ba st : Int) (l : List Rc) (n : Nat) (w : World) (v i : Value) (wr : World) : Prop :=
  ∃ (k m : Nat) (A : Option Addr) (c : Nat), i = .int .i64 (k : Int) ∧ k ≤ n ∧ v = .slice A m c ∧ m ≤ 81 + 155 * k ∧ OwnB wr 5 base (.slice A m c) m (mid pre ba st l k) ∧ Below base w wr
def by1Rel (base : Nat) (l : List Int) (w : World) (v i : Value) (wr : World) : Prop :=
  ∃ (j m : Nat) (A : Option Addr) (c : Nat), i = .int .i64 (j : Int) ∧ j ≤ 7 ∧ v = .slice A m c ∧ m ≤ 10 * j ∧ OwnB wr 5 base (.slice A m c) m (vs (l.take j)) ∧ Below base w wr
set_option maxRecDepth 100000 in
set_option maxHeartbeats 4000000 in
theorem refbytes_any (ba la fr ep pi ge se : Int) (tx : Bool) (ct : Int) (rs : List Rc) (A : Option Addr) (n c : Nat) (w : World) (hf : Form ⟨ba, la, fr, ep, pi, ge, se, tx, ct, rs⟩) (hr : RdR w w.heap.size A n rs) (hn : n ≤ 1099511627776) :
    Calls Tryz.prog 77 #[.agg #[.int .i64 ba, .int .i64 la, .int .i64 fr, .int .i64 ep, .int .i64 pi, .int .i64 ge, .int .i64 se, .bool tx, .int .i64 ct, .slice A n c]] w (RB 5 w.heap.size w (byB ⟨ba, la, fr, ep, pi, ge, se, tx, ct, rs⟩)) := by
  have hI := u8row
  have HF := Lib.hid hf
  have HR := Lib.hid hr
  have HB0 := Lib.hid (boxB_new w 28 ⟨ba, la, fr, ep, pi, ge, se, tx, ct, rs⟩ (.slice A n c))
  have hsz : w.heap.size < (w.alloc (.cells #[.int .i64 ba, .int .i64 la, .int .i64 fr, .int .i64 ep, .int .i64 pi, .int .i64 ge, .int .i64 se, .bool tx, .int .i64 ct, .slice A n c] 28)).heap.size := by simp
  have hw0 := Lib.hid (bel_alloc (Below.refl w.heap.size w) (.cells #[.int .i64 ba, .int .i64 la, .int .i64 fr, .int .i64 ep, .int .i64 pi, .int .i64 ge, .int .i64 se, .bool tx, .int .i64 ct, .slice A n c] 28))
  have H7 := Lib.hid hf.heads
  have hsub : IntKind.i64.wrap (la - ba) = la - ba := IntWalk.i64_in _ (by have := hf.le; have := hf.near; simp only at *; omega)
  have hb1 := hf.le
  have hb2 := hf.near
  simp only at hb1 hb2
  clear hf hr
  go_enter Tryz.func77, Tryz.ntmps77
  go_wp2
  obtain ⟨w2, hw2⟩ : ∃ w2, w2 = (w.alloc (.cells #[.int .i64 ba, .int .i64 la, .int .i64 fr, .int .i64 ep, .int .i64 pi, .int .i64 ge, .int .i64 se, .bool tx, .int .i64 ct, .slice A n c] 28)).alloc (.cells #[.int .i64 ba, .int .i64 (la - ba), .int .i64 fr, .int .i64 ep, .int .i64 pi, .int .i64 ge, .int .i64 se] 3) := ⟨_, rfl⟩
  rw [← hw2]
  have H8 := Lib.hid (show ∀ j x, (hd ⟨ba, la, fr, ep, pi, ge, se, tx, ct, rs⟩)[j]? = some x → w2.cell? ⟨w.heap.size + 1, j, none⟩ = some (.int .i64 x) by
    intro j x hx
    rw [hw2]
    have h := seven_cells (w.alloc (.cells #[.int .i64 ba, .int .i64 la, .int .i64 fr, .int .i64 ep, .int .i64 pi, .int .i64 ge, .int .i64 se, .bool tx, .int .i64 ct, .slice A n c] 28)) 3 ba (la - ba) fr ep pi ge se j x hx
    rw [show (w.alloc (.cells #[.int .i64 ba, .int .i64 la, .int .i64 fr, .int .i64 ep, .int .i64 pi, .int .i64 ge, .int .i64 se, .bool tx, .int .i64 ct, .slice A n c] 28)).heap.size = w.heap.size + 1 by simp] at h
    exact h)
  have hs2 : w2.heap.size = w.heap.size + 1 + 1 := by rw [hw2]; simp
  have HB2 := Lib.hid (show BoxB w2 w.heap.size ⟨ba, la, fr, ep, pi, ge, se, tx, ct, rs⟩ (.slice A n c) by rw [hw2]; exact HB0.out.below (bel_alloc (Below.refl _ _) _) hsz)
  have hw02 := Lib.hid (show Below w.heap.size w w2 by rw [hw2]; exact bel_alloc hw0.out _)
  clear hw2 HB0 hsz hw0
  go_loopw [3, 30] (fun v i wr => by1Rel w2.heap.size (hd ⟨ba, la, fr, ep, pi, ge, se, tx, ct, rs⟩) w2 v i wr) (fun _ i _ => 7 - (intOf i).toNat)
  case atStart => exact ⟨0, 0, none, 0, rfl, by omega, rfl, by omega, OwnB.nil, Below.refl _ _⟩
  case round =>
    obtain ⟨j, m, A1, c1, rfl, hj, rfl, hm, hown, hbel⟩ := hrel
    have HOWN := Lib.hid hown
    have HBEL := Lib.hid hbel
    clear hown hbel
    by_cases hlt : j < 7
    · obtain ⟨x, hx⟩ : ∃ x, (hd ⟨ba, la, fr, ep, pi, ge, se, tx, ct, rs⟩)[j]? = some x := ⟨_, List.getElem?_eq_getElem (by show j < 7; exact hlt)⟩
      have hcell := (HBEL.out.cell (p := ⟨w.heap.size + 1, j, none⟩) (by show w.heap.size + 1 < w2.heap.size; omega)).trans (H8.out j x hx)
      have HX := Lib.hid (H7.out x (List.mem_of_getElem? hx))
      have HV := Lib.hid (vs_take hx)
      clear hx
      go_wp2_with (go_at_call 99; refine (refPutVar_any A1 m c1 x _ _ _ HOWN.out.rd (by omega) HX.out.1 HX.out.2).mono ?_; rintro e w9 ⟨A9, n9, c9, rfl, hown9, hb9⟩)
      have hlen : n9 ≤ m + 10 := by
        have h1 := hown9.len
        have h2 := HOWN.out.len
        have h3 := vb_ten (zz_lt ⟨HX.out.1, HX.out.2⟩)
        rw [List.length_append] at h1
        omega
      go_roundw
      case rel => exact ⟨j + 1, n9, A9, c9, by go_num, by omega, rfl, by omega, by rw [HV.out]; exact hown9.more HBEL.out.size, HBEL.out.trans (hb9.mono HBEL.out.size)⟩
      case measure => simp [intOf]; omega
    · have hj7 : j = 7 := by omega
      have HO := Lib.hid (show OwnB wr 5 w2.heap.size (.slice A1 m c1) m (vs (hd ⟨ba, la, fr, ep, pi, ge, se, tx, ct, rs⟩)) by have h := HOWN.out; rw [hj7, List.take_of_length_le (by show 7 ≤ 7; omega)] at h; exact h)
      have hm70 : m ≤ 70 := by omega
      obtain ⟨z0, z1, z2, z3, z4, z5, z6, z7, z8, z9⟩ := HB2.out.below HBEL.out (show w.heap.size < w2.heap.size by omega)
      clear hj7 HOWN
      have hc0 := HF.out.ctl0
      have hc1 := HF.out.ctl1
      simp only at hc0 hc1
      obtain ⟨mk, hmk⟩ : ∃ mk, mk = mark ⟨ba, la, fr, ep, pi, ge, se, tx, ct, rs⟩ := ⟨_, rfl⟩
      have hmk2 := mark_num (b := ⟨ba, la, fr, ep, pi, ge, se, tx, ct, rs⟩) hc0 (by show ct ≤ 3; omega)
      rw [← hmk] at hmk2
      simp only at hmk2
      have HMK := Lib.hid hmk
      clear hmk
      have hsz2 := HBEL.out.size
      have hwr : IntKind.u8.wrap (mk.toNat : Int) = (mk.toNat : Int) := (low8 mk.toNat).trans (by rw [UInt8.ofNat_toNat])
      cases tx
      · have hm4 : ct = (mk.toNat : Int) := by simp at hmk2; omega
        clear hmk2
        go_wp2
        go_region_held_law (fun w' => w'.cell? ⟨w.heap.size, 9, none⟩ = some (.slice A n c)) (first | exact z10 | exact zz9 | go_keep) (first
          | (refine step_appB _ rfl _ _ 94 rfl w2.heap.size 5 Tryz.underlying94 hI _ m _ rfl ((HO.out.alloc _).drew) _ (some ⟨wr.heap.size, 0, none⟩) 1 1 [mk] rfl (new1 wr 5 mk).drew (by omega) (by first | (simp; done) | (simp; omega)) ?_; intro A' c' w9 hown9 hbel9; have hb9 := (((Below.refl w2.heap.size wr).alloc HBEL.out.size _).drew).trans hbel9; have hb29 := HBEL.out.trans hb9; have zz9 := (HB2.out.below hb29 (by omega)).2.2.2.2.2.2.2.2.2)
          | (go_at_call 99; refine (refPutVar_any A' (m + 1) c' (n : Int) _ _ w9 hown9.rd (by omega) (by omega) (by omega)).mono ?_; rintro e w10 ⟨A10, n10, c10, rfl, hown10, hb10⟩; have hb210 := hb29.trans (hb10.mono (hb29.size)); have z10 := (HB2.out.below hb210 (by omega)).2.2.2.2.2.2.2.2.2))
        have hl10 := hown10.len
        obtain ⟨pre, hpre⟩ : ∃ p, p = vs (hd ⟨ba, la, fr, ep, pi, ge, se, false, ct, rs⟩) ++ [mk] ++ vb (zz (n : Int)) := ⟨_, rfl⟩
        have hpl : pre.length ≤ 81 := by
          have h1 := HO.out.len
          have h2 := vb_ten (zz_lt (n := (n : Int)) (by omega))
          rw [hpre, List.length_append, List.length_append, List.length_singleton]
          omega
        have HO10 := Lib.hid (show OwnB w10 5 w2.heap.size (.slice A10 n10 c10) n10 pre by rw [hpre]; exact hown10.more (by have := hb29.size; omega))
        have HPRE := Lib.hid hpre
        have HB210 := Lib.hid hb210
        have hn10 : n10 ≤ 81 := by have := HO10.out.len; omega
        obtain ⟨st, hst⟩ : ∃ st : Int, ∀ r, rs[0]? = some r → st = r.stamp := by
          cases hr0 : rs[0]? with
          | none => exact ⟨0, fun r h => by cases h⟩
          | some r => exact ⟨r.stamp, fun r' h => by injection h with h; rw [h]⟩
        have HST := Lib.hid hst
        have hfew := HF.out.few
        have hrl := HR.out.len
        have hn16 : n ≤ 16 := by simp only at hfew; omega
        obtain ⟨z0, z1, z2, z3, z4, z5, z6, z7, z8, z9⟩ := HB2.out.below HB210.out (show w.heap.size < w2.heap.size by omega)
        clear hl10 hown10 hown9 hbel9 hb9 hb29 hb10 hb210 zz9 z10 hpre HO HBEL hst hsz2
        go_wp2
        go_loopw [3, 56] (fun v i wr => by2Rel w2.heap.size pre ba st rs n w2 v i wr) (fun _ i _ => n - (intOf i).toNat)
        case atStart => exact ⟨0, n10, A10, c10, rfl, Nat.zero_le _, rfl, by omega, by rw [mid_zero]; exact HO10.out, HB210.out⟩
        case round =>
          obtain ⟨k, m2, A2, c2, rfl, hk, rfl, hm2, hown, hbel⟩ := hrel
          have HOWN := Lib.hid hown
          have HBE := Lib.hid hbel
          have hsr := HBE.out.size
          have hwr2 := Lib.hid (hw02.out.trans (HBE.out.mono (show w.heap.size ≤ w2.heap.size by omega)))
          obtain ⟨y0, y1, y2, y3, y4, y5, y6, y7, y8, y9⟩ := HB2.out.below HBE.out (show w.heap.size < w2.heap.size by omega)
          clear hown hbel z0 z1 z2 z3 z4 z5 z6 z7 z8 z9
          by_cases hlt : k < n
          · obtain ⟨b, o, r, rfl, hbb, hrk, hat⟩ := (HR.out.below hwr2.out (Nat.le_refl _)).at hlt
            obtain ⟨b', o', r0, hA0, -, hr0, hat0⟩ := (HR.out.below hwr2.out (Nat.le_refl _)).at (k := 0) (by omega)
            simp only [Option.some.injEq, Addr.mk.injEq, and_true] at hA0
            obtain ⟨rfl, rfl⟩ := hA0
            have hst := HST.out r0 hr0
            have g40 := hat0.2.2.2.2
            rw [← hst, Nat.zero_mul, Nat.add_zero] at g40
            obtain ⟨ro, rk, rv, rd, rt⟩ := r
            obtain ⟨a0, a1, a2, a3, a4⟩ := hat
            simp only at a0 a1 a2 a3 a4
            have hmay := HF.out.mays _ (List.mem_of_getElem? hrk)
            have hmay0 := HF.out.mays _ (List.mem_of_getElem? hr0)
            obtain ⟨-, ms0, -, -, -⟩ := may_iff.1 hmay0
            rw [← hst] at ms0
            obtain ⟨mo, mt, mk1, mv1, -⟩ := may_iff.1 hmay
            simp only at mo mt mk1 mv1
            have hba0 := HF.out.base0
            have hba1 := HF.out.base1
            simp only at hba0 hba1
            have HP := Lib.hid (pt_yes hmay (inR_iff.2 ⟨hba0, hba1⟩) (inR_iff.2 ms0))
            have HLEN := Lib.hid (rb_size hmay (inR_iff.2 ⟨hba0, hba1⟩) (inR_iff.2 ms0)).2.1
            have HX := Lib.hid (box_new wr 61 ⟨ro, rk, rv, rd, rt⟩)
            have hx : wr.heap.size < (wr.alloc (.cells #[.int .i64 ro, .string rk, .string rv, .bool rd, .int .i64 rt] 61)).heap.size := by simp
            have W1 := bel_alloc (Below.refl wr.heap.size wr) (.cells #[.int .i64 ro, .string rk, .string rv, .bool rd, .int .i64 rt] 61)
            have g0 := (W1.cell (p := ⟨w.heap.size, 0, none⟩) (by show w.heap.size < wr.heap.size; omega)).trans y0
            have g9 := (W1.cell (p := ⟨w.heap.size, 9, none⟩) (by show w.heap.size < wr.heap.size; omega)).trans y9
            have g4 := (W1.cell (p := ⟨b, o + 4, none⟩) (by show b < wr.heap.size; omega)).trans g40
            have CALL := fun (w' : World) => (show Calls Tryz.prog 100 #[.agg #[.int .i64 ro, .string rk, .string rv, .bool rd, .int .i64 rt], .int .i64 ba, .int .i64 st] w' (OPr 5 w'.heap.size w' (rb ⟨ro, rk, rv, rd, rt⟩ ba st) 0) by have h := refPut_any ro rt rk rv rd ba st w' (by omega) (by omega) (by omega) (by omega) (by omega) (by omega); rw [HP.out] at h; exact h)
            have bk1 : Below (wr.alloc (.cells #[.int .i64 ro, .string rk, .string rv, .bool rd, .int .i64 rt] 61)).heap.size (wr.alloc (.cells #[.int .i64 ro, .string rk, .string rv, .bool rd, .int .i64 rt] 61)) (wr.alloc (.cells #[.int .i64 ro, .string rk, .string rv, .bool rd, .int .i64 rt] 61)) := Below.refl _ _
            have HSS := Lib.hid (show ∀ w' : World, Below (wr.alloc (.cells #[.int .i64 ro, .string rk, .string rv, .bool rd, .int .i64 rt] 61)).heap.size (wr.alloc (.cells #[.int .i64 ro, .string rk, .string rv, .bool rd, .int .i64 rt] 61)) w' → (w'.cell? ⟨wr.heap.size, 0, none⟩ = some (.int .i64 ro) ∧ w'.cell? ⟨wr.heap.size, 1, none⟩ = some (.string rk) ∧ w'.cell? ⟨wr.heap.size, 2, none⟩ = some (.string rv) ∧ w'.cell? ⟨wr.heap.size, 3, none⟩ = some (.bool rd) ∧ w'.cell? ⟨wr.heap.size, 4, none⟩ = some (.int .i64 rt) ∧ w'.cell? ⟨w.heap.size, 0, none⟩ = some (.int .i64 ba) ∧ w'.cell? ⟨w.heap.size, 9, none⟩ = some (.slice (some ⟨b, o, none⟩) n c) ∧ w'.cell? ⟨b, o + 4, none⟩ = some (.int .i64 st)) from fun w' hq => by
              have hz : (wr.alloc (.cells #[.int .i64 ro, .string rk, .string rv, .bool rd, .int .i64 rt] 61)).heap.size = wr.heap.size + 1 := by simp
              obtain ⟨e0, e1, e2, e3, e4⟩ := HX.out.below hq hx
              exact ⟨e0, e1, e2, e3, e4, (hq.cell (by show w.heap.size < _; omega)).trans g0, (hq.cell (by show w.heap.size < _; omega)).trans g9, (hq.cell (by show b < _; omega)).trans g4⟩)
            by_cases hk0 : k = 0
            · have hkk : ((k : Int) == 0) = true := beqT (by omega)
              have hrt : st = rt := by
                have h : some r0 = some (⟨ro, rk, rv, rd, rt⟩ : Rc) := by rw [← hr0, ← hrk, hk0]
                injection h with h
                rw [hst, h]
              have HM := Lib.hid (show mid pre ba st rs (k + 1) = mid pre ba st rs k ++ vb (zz rt) ++ rb ⟨ro, rk, rv, rd, rt⟩ ba st by
                subst hk0
                have h := mid_one (pre := pre) (ba := ba) hrk
                simp only at h
                rw [mid_zero, hrt]
                exact h)
              have hm81 : m2 ≤ 81 := by omega
              have HWB := Lib.hid (bel_alloc (Below.refl wr.heap.size wr) (.cells #[.int .i64 ro, .string rk, .string rv, .bool rd, .int .i64 rt] 61))
              have HO1 := Lib.hid (HOWN.out.below HWB.out)
              have K0 := Lib.hid hk0
              clear hk0 hrk hr0 hat0 hmay hmay0 g0 g9 g4 W1 g40 hst hrt
              clear y0 y1 y2 y3 y4 y5 y6 y7 y8 y9 z0 z1 z2 z3 z4 z5 z6 z7 z8 z9
              go_wp2_with (first | (go_at_call 99; refine (refPutVar_any A2 m2 c2 rt _ _ _ HO1.out.rd (by omega) (by omega) (by omega)).mono ?_; rintro e w10' ⟨A10', n10', c10', rfl, hown10, hb10⟩))
              have hl10 := hown10.len
              have hl10b := HOWN.out.len
              have hl10c := vb_ten (zz_lt (n := rt) (by omega))
              rw [List.length_append] at hl10
              have hn10' : n10' ≤ 91 := by omega
              have HO10' := Lib.hid hown10
              clear hl10 hl10b hl10c hown10 HP HX HMK H7 H8 HPRE HB2 HR HO10 HB210 HO1 bk1 a0 a1 a2 a3 a4
              generalize hW1 : World.alloc wr _ = W1 at HSS hb10 hx HWB HO10'
              clear hW1
              have h16 := HSS.out _ hb10.drew
              go_region_held (fun w' => w'.cell? ⟨wr.heap.size, 0, none⟩ = some (.int .i64 ro) ∧ w'.cell? ⟨wr.heap.size, 1, none⟩ = some (.string rk) ∧ w'.cell? ⟨wr.heap.size, 2, none⟩ = some (.string rv) ∧ w'.cell? ⟨wr.heap.size, 3, none⟩ = some (.bool rd) ∧ w'.cell? ⟨wr.heap.size, 4, none⟩ = some (.int .i64 rt) ∧ w'.cell? ⟨w.heap.size, 0, none⟩ = some (.int .i64 ba) ∧ w'.cell? ⟨w.heap.size, 9, none⟩ = some (.slice (some ⟨b, o, none⟩) n c) ∧ w'.cell? ⟨b, o + 4, none⟩ = some (.int .i64 st)) (first | with_reducible exact h17 | with_reducible exact h16 | (trace_state; fail)) (first | (go_at_call 100; (with_reducible refine (CALL _).mono ?_); rintro e w11 ⟨A11, n11, c11, rfl, hown11, hb11⟩; have bk3 := bel_trans (hb10.drew) hb11; have h17 := HSS.out _ bk3))
              have hl11 := hown11.len
              have hl145 := HLEN.out
              have hn11 : n11 ≤ 145 := by omega
              have hb31 := bel_trans HWB.out bk3
              have HO11 := Lib.hid ((HO10'.out.drew.below hb11).more (show w2.heap.size ≤ W1.heap.size by omega))
              have hs11 : w2.heap.size ≤ w11.heap.size := by have := hb31.size; omega
              have HO12 := Lib.hid hown11
              have HB31 := Lib.hid (HBE.out.trans (hb31.mono hsr))
              clear hl11 hl145 hb31 hown11 hb11 bk3 h17 hb10 HSS CALL
              go_wp2_with (first | (at_builtin; refine wpList_appB _ rfl _ _ 94 rfl w2.heap.size 5 Tryz.underlying94 hI _ n10' _ rfl HO11.out _ A11 n11 c11 _ rfl HO12.out.rd (by omega) hs11 ?_; intro A12 c12 w12 hown12 hb12))
              go_roundw
              case rel => exact ⟨k + 1, n10' + n11, A12, c12, by go_num, by omega, rfl, by have := K0.out; omega, by rw [HM.out]; exact hown12, HB31.out.trans hb12⟩
              case measure => simp [intOf]; omega
            · have hkk : ((k : Int) == 0) = false := beqF (by omega)
              have HM := Lib.hid (mid_more (pre := pre) (ba := ba) (st := st) hrk hk0)
              clear hk0 hrk hr0 hat0 hmay hmay0 g0 g9 g4 W1 g40 hst
              go_wp2
              clear a0 a1 a2 a3 a4 y0 y1 y2 y3 y4 y5 y6 y7 y8 y9 z0 z1 z2 z3 z4 z5 z6 z7 z8 z9
              clear HP HX HMK H7 H8 HPRE HB2 HR HO10 HB210
              have HWB := Lib.hid (bel_alloc (Below.refl wr.heap.size wr) (.cells #[.int .i64 ro, .string rk, .string rv, .bool rd, .int .i64 rt] 61))
              generalize hW1 : World.alloc wr _ = W1 at HSS bk1 hx HWB ⊢
              have hW1s : wr.heap.size < W1.heap.size := hx
              clear hx hW1
              have h16 := HSS.out _ bk1.drew
              go_region_held (fun w' => w'.cell? ⟨wr.heap.size, 0, none⟩ = some (.int .i64 ro) ∧ w'.cell? ⟨wr.heap.size, 1, none⟩ = some (.string rk) ∧ w'.cell? ⟨wr.heap.size, 2, none⟩ = some (.string rv) ∧ w'.cell? ⟨wr.heap.size, 3, none⟩ = some (.bool rd) ∧ w'.cell? ⟨wr.heap.size, 4, none⟩ = some (.int .i64 rt) ∧ w'.cell? ⟨w.heap.size, 0, none⟩ = some (.int .i64 ba) ∧ w'.cell? ⟨w.heap.size, 9, none⟩ = some (.slice (some ⟨b, o, none⟩) n c) ∧ w'.cell? ⟨b, o + 4, none⟩ = some (.int .i64 st)) (first | with_reducible exact h17 | with_reducible exact h16 | (trace_state; fail)) (first | (go_at_call 100; (with_reducible refine (CALL _).mono ?_); rintro e w11 ⟨A11, n11, c11, rfl, hown11, hb11⟩; have bk3 := bel_trans (bk1.drew) hb11; have h17 := HSS.out _ bk3))
              have hl11 := hown11.len
              have hl145 := HLEN.out
              have hn11 : n11 ≤ 145 := by omega
              have hb31 := bel_trans HWB.out bk3
              have HO11 := Lib.hid (HOWN.out.below hb31)
              have hs11 : w2.heap.size ≤ w11.heap.size := by have := hb31.size; omega
              have HO12 := Lib.hid hown11
              have HB31 := Lib.hid (HBE.out.trans (hb31.mono hsr))
              clear hl11 hl145 hb31 hown11 hb11 bk3 h17 bk1 HSS CALL
              go_wp2_with (first | (at_builtin; refine wpList_appB _ rfl _ _ 94 rfl w2.heap.size 5 Tryz.underlying94 hI _ m2 _ rfl HO11.out _ A11 n11 c11 _ rfl HO12.out.rd (by omega) hs11 ?_; intro A12 c12 w12 hown12 hb12))
              go_roundw
              case rel => exact ⟨k + 1, m2 + n11, A12, c12, by go_num, by omega, rfl, by omega, by rw [HM.out]; exact hown12, HB31.out.trans hb12⟩
              case measure => simp [intOf]; omega
          · have hkn : k = n := by omega
            have HB := Lib.hid (show OwnB wr 5 w2.heap.size (.slice A2 m2 c2) m2 (body ⟨ba, la, fr, ep, pi, ge, se, false, ct, rs⟩) by
              have h := HOWN.out
              rw [hkn, mid_end (b := ⟨ba, la, fr, ep, pi, ge, se, false, ct, rs⟩) HMK.out HPRE.out hrl HST.out] at h
              exact h)
            have hm2k : m2 ≤ 2561 := by omega
            clear hkn
            go_wp2_with (first
              | (go_at_call 101; refine (refSeal_any A2 m2 c2 _ _ _ HB.out.rd (Nat.le_refl _) (by omega)).mono ?_; rintro e w13 ⟨A13, n13, c13, rfl, hown13, hb13⟩; have hl13 := hown13.len; have HL13 := Lib.hid hown13.len; have hl13b := HB.out.len; rw [sealB_length] at hl13; have hn13 : n13 ≤ 2600 := (by omega); have hwn : IntKind.u64.wrap (n13 : Int) = (n13 : Int) := IntWalk.u64_in _ (by omega))
              | (go_at_call 102; refine (refPut_yes none 0 0 n13 4 [] 0 _ Rd.nil (by omega) (by omega) (by omega) (by omega)).mono ?_; rintro e w14 ⟨A14, n14, c14, rfl, hown14, hb14⟩; have hn14 : n14 = 4 := (by have h := hown14.len; rw [List.nil_append, beN_length] at h; exact h.symm); have HN14 := Lib.hid hn14; clear hn14)
              | (at_builtin; refine wpList_appB _ rfl _ _ 94 rfl w13.heap.size 5 Tryz.underlying94 hI _ n14 _ rfl hown14 _ A13 n13 c13 _ rfl (hown13.below hb14).rd (by have := HN14.out; omega) hb14.size ?_; intro A15 c15 w15 hown15 hb15))
            go_ret
            have hsz13 := (bel_trans hwr2.out hb13).size
            exact ⟨A15, _, c15, rfl, by rw [byB, HL13.out]; exact hown15.more hsz13, (bel_trans (bel_trans hwr2.out hb13) hb14).trans (hb15.mono hsz13)⟩
      · have hm4 : ct + 4 = (mk.toNat : Int) := by simp at hmk2; omega
        clear hmk2
        go_wp2
        go_region_held_law (fun w' => w'.cell? ⟨w.heap.size, 9, none⟩ = some (.slice A n c)) (first | exact z10 | exact zz9 | go_keep) (first
          | (refine step_appB _ rfl _ _ 94 rfl w2.heap.size 5 Tryz.underlying94 hI _ m _ rfl ((HO.out.alloc _).drew) _ (some ⟨wr.heap.size, 0, none⟩) 1 1 [mk] rfl (new1 wr 5 mk).drew (by omega) (by first | (simp; done) | (simp; omega)) ?_; intro A' c' w9 hown9 hbel9; have hb9 := (((Below.refl w2.heap.size wr).alloc HBEL.out.size _).drew).trans hbel9; have hb29 := HBEL.out.trans hb9; have zz9 := (HB2.out.below hb29 (by omega)).2.2.2.2.2.2.2.2.2)
          | (go_at_call 99; refine (refPutVar_any A' (m + 1) c' (n : Int) _ _ w9 hown9.rd (by omega) (by omega) (by omega)).mono ?_; rintro e w10 ⟨A10, n10, c10, rfl, hown10, hb10⟩; have hb210 := hb29.trans (hb10.mono (hb29.size)); have z10 := (HB2.out.below hb210 (by omega)).2.2.2.2.2.2.2.2.2))
        have hl10 := hown10.len
        obtain ⟨pre, hpre⟩ : ∃ p, p = vs (hd ⟨ba, la, fr, ep, pi, ge, se, true, ct, rs⟩) ++ [mk] ++ vb (zz (n : Int)) := ⟨_, rfl⟩
        have hpl : pre.length ≤ 81 := by
          have h1 := HO.out.len
          have h2 := vb_ten (zz_lt (n := (n : Int)) (by omega))
          rw [hpre, List.length_append, List.length_append, List.length_singleton]
          omega
        have HO10 := Lib.hid (show OwnB w10 5 w2.heap.size (.slice A10 n10 c10) n10 pre by rw [hpre]; exact hown10.more (by have := hb29.size; omega))
        have HPRE := Lib.hid hpre
        have HB210 := Lib.hid hb210
        have hn10 : n10 ≤ 81 := by have := HO10.out.len; omega
        obtain ⟨st, hst⟩ : ∃ st : Int, ∀ r, rs[0]? = some r → st = r.stamp := by
          cases hr0 : rs[0]? with
          | none => exact ⟨0, fun r h => by cases h⟩
          | some r => exact ⟨r.stamp, fun r' h => by injection h with h; rw [h]⟩
        have HST := Lib.hid hst
        have hfew := HF.out.few
        have hrl := HR.out.len
        have hn16 : n ≤ 16 := by simp only at hfew; omega
        obtain ⟨z0, z1, z2, z3, z4, z5, z6, z7, z8, z9⟩ := HB2.out.below HB210.out (show w.heap.size < w2.heap.size by omega)
        clear hl10 hown10 hown9 hbel9 hb9 hb29 hb10 hb210 zz9 z10 hpre HO HBEL hst hsz2
        go_wp2
        go_loopw [3, 56] (fun v i wr => by2Rel w2.heap.size pre ba st rs n w2 v i wr) (fun _ i _ => n - (intOf i).toNat)
        case atStart => exact ⟨0, n10, A10, c10, rfl, Nat.zero_le _, rfl, by omega, by rw [mid_zero]; exact HO10.out, HB210.out⟩
        case round =>
          obtain ⟨k, m2, A2, c2, rfl, hk, rfl, hm2, hown, hbel⟩ := hrel
          have HOWN := Lib.hid hown
          have HBE := Lib.hid hbel
          have hsr := HBE.out.size
          have hwr2 := Lib.hid (hw02.out.trans (HBE.out.mono (show w.heap.size ≤ w2.heap.size by omega)))
          obtain ⟨y0, y1, y2, y3, y4, y5, y6, y7, y8, y9⟩ := HB2.out.below HBE.out (show w.heap.size < w2.heap.size by omega)
          clear hown hbel z0 z1 z2 z3 z4 z5 z6 z7 z8 z9
          by_cases hlt : k < n
          · obtain ⟨b, o, r, rfl, hbb, hrk, hat⟩ := (HR.out.below hwr2.out (Nat.le_refl _)).at hlt
            obtain ⟨b', o', r0, hA0, -, hr0, hat0⟩ := (HR.out.below hwr2.out (Nat.le_refl _)).at (k := 0) (by omega)
            simp only [Option.some.injEq, Addr.mk.injEq, and_true] at hA0
            obtain ⟨rfl, rfl⟩ := hA0
            have hst := HST.out r0 hr0
            have g40 := hat0.2.2.2.2
            rw [← hst, Nat.zero_mul, Nat.add_zero] at g40
            obtain ⟨ro, rk, rv, rd, rt⟩ := r
            obtain ⟨a0, a1, a2, a3, a4⟩ := hat
            simp only at a0 a1 a2 a3 a4
            have hmay := HF.out.mays _ (List.mem_of_getElem? hrk)
            have hmay0 := HF.out.mays _ (List.mem_of_getElem? hr0)
            obtain ⟨-, ms0, -, -, -⟩ := may_iff.1 hmay0
            rw [← hst] at ms0
            obtain ⟨mo, mt, mk1, mv1, -⟩ := may_iff.1 hmay
            simp only at mo mt mk1 mv1
            have hba0 := HF.out.base0
            have hba1 := HF.out.base1
            simp only at hba0 hba1
            have HP := Lib.hid (pt_yes hmay (inR_iff.2 ⟨hba0, hba1⟩) (inR_iff.2 ms0))
            have HLEN := Lib.hid (rb_size hmay (inR_iff.2 ⟨hba0, hba1⟩) (inR_iff.2 ms0)).2.1
            have HX := Lib.hid (box_new wr 61 ⟨ro, rk, rv, rd, rt⟩)
            have hx : wr.heap.size < (wr.alloc (.cells #[.int .i64 ro, .string rk, .string rv, .bool rd, .int .i64 rt] 61)).heap.size := by simp
            have W1 := bel_alloc (Below.refl wr.heap.size wr) (.cells #[.int .i64 ro, .string rk, .string rv, .bool rd, .int .i64 rt] 61)
            have g0 := (W1.cell (p := ⟨w.heap.size, 0, none⟩) (by show w.heap.size < wr.heap.size; omega)).trans y0
            have g9 := (W1.cell (p := ⟨w.heap.size, 9, none⟩) (by show w.heap.size < wr.heap.size; omega)).trans y9
            have g4 := (W1.cell (p := ⟨b, o + 4, none⟩) (by show b < wr.heap.size; omega)).trans g40
            have CALL := fun (w' : World) => (show Calls Tryz.prog 100 #[.agg #[.int .i64 ro, .string rk, .string rv, .bool rd, .int .i64 rt], .int .i64 ba, .int .i64 st] w' (OPr 5 w'.heap.size w' (rb ⟨ro, rk, rv, rd, rt⟩ ba st) 0) by have h := refPut_any ro rt rk rv rd ba st w' (by omega) (by omega) (by omega) (by omega) (by omega) (by omega); rw [HP.out] at h; exact h)
            have bk1 : Below (wr.alloc (.cells #[.int .i64 ro, .string rk, .string rv, .bool rd, .int .i64 rt] 61)).heap.size (wr.alloc (.cells #[.int .i64 ro, .string rk, .string rv, .bool rd, .int .i64 rt] 61)) (wr.alloc (.cells #[.int .i64 ro, .string rk, .string rv, .bool rd, .int .i64 rt] 61)) := Below.refl _ _
            have HSS := Lib.hid (show ∀ w' : World, Below (wr.alloc (.cells #[.int .i64 ro, .string rk, .string rv, .bool rd, .int .i64 rt] 61)).heap.size (wr.alloc (.cells #[.int .i64 ro, .string rk, .string rv, .bool rd, .int .i64 rt] 61)) w' → (w'.cell? ⟨wr.heap.size, 0, none⟩ = some (.int .i64 ro) ∧ w'.cell? ⟨wr.heap.size, 1, none⟩ = some (.string rk) ∧ w'.cell? ⟨wr.heap.size, 2, none⟩ = some (.string rv) ∧ w'.cell? ⟨wr.heap.size, 3, none⟩ = some (.bool rd) ∧ w'.cell? ⟨wr.heap.size, 4, none⟩ = some (.int .i64 rt) ∧ w'.cell? ⟨w.heap.size, 0, none⟩ = some (.int .i64 ba) ∧ w'.cell? ⟨w.heap.size, 9, none⟩ = some (.slice (some ⟨b, o, none⟩) n c) ∧ w'.cell? ⟨b, o + 4, none⟩ = some (.int .i64 st)) from fun w' hq => by
              have hz : (wr.alloc (.cells #[.int .i64 ro, .string rk, .string rv, .bool rd, .int .i64 rt] 61)).heap.size = wr.heap.size + 1 := by simp
              obtain ⟨e0, e1, e2, e3, e4⟩ := HX.out.below hq hx
              exact ⟨e0, e1, e2, e3, e4, (hq.cell (by show w.heap.size < _; omega)).trans g0, (hq.cell (by show w.heap.size < _; omega)).trans g9, (hq.cell (by show b < _; omega)).trans g4⟩)
            by_cases hk0 : k = 0
            · have hkk : ((k : Int) == 0) = true := beqT (by omega)
              have hrt : st = rt := by
                have h : some r0 = some (⟨ro, rk, rv, rd, rt⟩ : Rc) := by rw [← hr0, ← hrk, hk0]
                injection h with h
                rw [hst, h]
              have HM := Lib.hid (show mid pre ba st rs (k + 1) = mid pre ba st rs k ++ vb (zz rt) ++ rb ⟨ro, rk, rv, rd, rt⟩ ba st by
                subst hk0
                have h := mid_one (pre := pre) (ba := ba) hrk
                simp only at h
                rw [mid_zero, hrt]
                exact h)
              have hm81 : m2 ≤ 81 := by omega
              have HWB := Lib.hid (bel_alloc (Below.refl wr.heap.size wr) (.cells #[.int .i64 ro, .string rk, .string rv, .bool rd, .int .i64 rt] 61))
              have HO1 := Lib.hid (HOWN.out.below HWB.out)
              have K0 := Lib.hid hk0
              clear hk0 hrk hr0 hat0 hmay hmay0 g0 g9 g4 W1 g40 hst hrt
              clear y0 y1 y2 y3 y4 y5 y6 y7 y8 y9 z0 z1 z2 z3 z4 z5 z6 z7 z8 z9
              go_wp2_with (first | (go_at_call 99; refine (refPutVar_any A2 m2 c2 rt _ _ _ HO1.out.rd (by omega) (by omega) (by omega)).mono ?_; rintro e w10' ⟨A10', n10', c10', rfl, hown10, hb10⟩))
              have hl10 := hown10.len
              have hl10b := HOWN.out.len
              have hl10c := vb_ten (zz_lt (n := rt) (by omega))
              rw [List.length_append] at hl10
              have hn10' : n10' ≤ 91 := by omega
              have HO10' := Lib.hid hown10
              clear hl10 hl10b hl10c hown10 HP HX HMK H7 H8 HPRE HB2 HR HO10 HB210 HO1 bk1 a0 a1 a2 a3 a4
              generalize hW1 : World.alloc wr _ = W1 at HSS hb10 hx HWB HO10'
              clear hW1
              have h16 := HSS.out _ hb10.drew
              go_region_held (fun w' => w'.cell? ⟨wr.heap.size, 0, none⟩ = some (.int .i64 ro) ∧ w'.cell? ⟨wr.heap.size, 1, none⟩ = some (.string rk) ∧ w'.cell? ⟨wr.heap.size, 2, none⟩ = some (.string rv) ∧ w'.cell? ⟨wr.heap.size, 3, none⟩ = some (.bool rd) ∧ w'.cell? ⟨wr.heap.size, 4, none⟩ = some (.int .i64 rt) ∧ w'.cell? ⟨w.heap.size, 0, none⟩ = some (.int .i64 ba) ∧ w'.cell? ⟨w.heap.size, 9, none⟩ = some (.slice (some ⟨b, o, none⟩) n c) ∧ w'.cell? ⟨b, o + 4, none⟩ = some (.int .i64 st)) (first | with_reducible exact h17 | with_reducible exact h16 | (trace_state; fail)) (first | (go_at_call 100; (with_reducible refine (CALL _).mono ?_); rintro e w11 ⟨A11, n11, c11, rfl, hown11, hb11⟩; have bk3 := bel_trans (hb10.drew) hb11; have h17 := HSS.out _ bk3))
              have hl11 := hown11.len
              have hl145 := HLEN.out
              have hn11 : n11 ≤ 145 := by omega
              have hb31 := bel_trans HWB.out bk3
              have HO11 := Lib.hid ((HO10'.out.drew.below hb11).more (show w2.heap.size ≤ W1.heap.size by omega))
              have hs11 : w2.heap.size ≤ w11.heap.size := by have := hb31.size; omega
              have HO12 := Lib.hid hown11
              have HB31 := Lib.hid (HBE.out.trans (hb31.mono hsr))
              clear hl11 hl145 hb31 hown11 hb11 bk3 h17 hb10 HSS CALL
              go_wp2_with (first | (at_builtin; refine wpList_appB _ rfl _ _ 94 rfl w2.heap.size 5 Tryz.underlying94 hI _ n10' _ rfl HO11.out _ A11 n11 c11 _ rfl HO12.out.rd (by omega) hs11 ?_; intro A12 c12 w12 hown12 hb12))
              go_roundw
              case rel => exact ⟨k + 1, n10' + n11, A12, c12, by go_num, by omega, rfl, by have := K0.out; omega, by rw [HM.out]; exact hown12, HB31.out.trans hb12⟩
              case measure => simp [intOf]; omega
            · have hkk : ((k : Int) == 0) = false := beqF (by omega)
              have HM := Lib.hid (mid_more (pre := pre) (ba := ba) (st := st) hrk hk0)
              clear hk0 hrk hr0 hat0 hmay hmay0 g0 g9 g4 W1 g40 hst
              go_wp2
              clear a0 a1 a2 a3 a4 y0 y1 y2 y3 y4 y5 y6 y7 y8 y9 z0 z1 z2 z3 z4 z5 z6 z7 z8 z9
              clear HP HX HMK H7 H8 HPRE HB2 HR HO10 HB210
              have HWB := Lib.hid (bel_alloc (Below.refl wr.heap.size wr) (.cells #[.int .i64 ro, .string rk, .string rv, .bool rd, .int .i64 rt] 61))
              generalize hW1 : World.alloc wr _ = W1 at HSS bk1 hx HWB ⊢
              have hW1s : wr.heap.size < W1.heap.size := hx
              clear hx hW1
              have h16 := HSS.out _ bk1.drew
              go_region_held (fun w' => w'.cell? ⟨wr.heap.size, 0, none⟩ = some (.int .i64 ro) ∧ w'.cell? ⟨wr.heap.size, 1, none⟩ = some (.string rk) ∧ w'.cell? ⟨wr.heap.size, 2, none⟩ = some (.string rv) ∧ w'.cell? ⟨wr.heap.size, 3, none⟩ = some (.bool rd) ∧ w'.cell? ⟨wr.heap.size, 4, none⟩ = some (.int .i64 rt) ∧ w'.cell? ⟨w.heap.size, 0, none⟩ = some (.int .i64 ba) ∧ w'.cell? ⟨w.heap.size, 9, none⟩ = some (.slice (some ⟨b, o, none⟩) n c) ∧ w'.cell? ⟨b, o + 4, none⟩ = some (.int .i64 st)) (first | with_reducible exact h17 | with_reducible exact h16 | (trace_state; fail)) (first | (go_at_call 100; (with_reducible refine (CALL _).mono ?_); rintro e w11 ⟨A11, n11, c11, rfl, hown11, hb11⟩; have bk3 := bel_trans (bk1.drew) hb11; have h17 := HSS.out _ bk3))
              have hl11 := hown11.len
              have hl145 := HLEN.out
              have hn11 : n11 ≤ 145 := by omega
              have hb31 := bel_trans HWB.out bk3
              have HO11 := Lib.hid (HOWN.out.below hb31)
              have hs11 : w2.heap.size ≤ w11.heap.size := by have := hb31.size; omega
              have HO12 := Lib.hid hown11
              have HB31 := Lib.hid (HBE.out.trans (hb31.mono hsr))
              clear hl11 hl145 hb31 hown11 hb11 bk3 h17 bk1 HSS CALL
              go_wp2_with (first | (at_builtin; refine wpList_appB _ rfl _ _ 94 rfl w2.heap.size 5 Tryz.underlying94 hI _ m2 _ rfl HO11.out _ A11 n11 c11 _ rfl HO12.out.rd (by omega) hs11 ?_; intro A12 c12 w12 hown12 hb12))
              go_roundw
              case rel => exact ⟨k + 1, m2 + n11, A12, c12, by go_num, by omega, rfl, by omega, by rw [HM.out]; exact hown12, HB31.out.trans hb12⟩
              case measure => simp [intOf]; omega
          · have hkn : k = n := by omega
            have HB := Lib.hid (show OwnB wr 5 w2.heap.size (.slice A2 m2 c2) m2 (body ⟨ba, la, fr, ep, pi, ge, se, true, ct, rs⟩) by
              have h := HOWN.out
              rw [hkn, mid_end (b := ⟨ba, la, fr, ep, pi, ge, se, true, ct, rs⟩) HMK.out HPRE.out hrl HST.out] at h
              exact h)
            have hm2k : m2 ≤ 2561 := by omega
            clear hkn
            go_wp2_with (first
              | (go_at_call 101; refine (refSeal_any A2 m2 c2 _ _ _ HB.out.rd (Nat.le_refl _) (by omega)).mono ?_; rintro e w13 ⟨A13, n13, c13, rfl, hown13, hb13⟩; have hl13 := hown13.len; have HL13 := Lib.hid hown13.len; have hl13b := HB.out.len; rw [sealB_length] at hl13; have hn13 : n13 ≤ 2600 := (by omega); have hwn : IntKind.u64.wrap (n13 : Int) = (n13 : Int) := IntWalk.u64_in _ (by omega))
              | (go_at_call 102; refine (refPut_yes none 0 0 n13 4 [] 0 _ Rd.nil (by omega) (by omega) (by omega) (by omega)).mono ?_; rintro e w14 ⟨A14, n14, c14, rfl, hown14, hb14⟩; have hn14 : n14 = 4 := (by have h := hown14.len; rw [List.nil_append, beN_length] at h; exact h.symm); have HN14 := Lib.hid hn14; clear hn14)
              | (at_builtin; refine wpList_appB _ rfl _ _ 94 rfl w13.heap.size 5 Tryz.underlying94 hI _ n14 _ rfl hown14 _ A13 n13 c13 _ rfl (hown13.below hb14).rd (by have := HN14.out; omega) hb14.size ?_; intro A15 c15 w15 hown15 hb15))
            go_ret
            have hsz13 := (bel_trans hwr2.out hb13).size
            exact ⟨A15, _, c15, rfl, by rw [byB, HL13.out]; exact hown15.more hsz13, (bel_trans (bel_trans hwr2.out hb13) hb14).trans (hb15.mono hsz13)⟩
end Go.Proofs.YtlfbagkonckffaaGreat.Bat
