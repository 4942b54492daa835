/- Joined: OctFAppendVar, OctFPutText, OctFPutVar, RecDevP, BatDevRf. -/
import Derived.Test.YtlfbagkonckffaaGreatJ22
import Derived.Test.YtlfbagkonckffaaGreatJ08
import Derived.Test.YtlfbagkonckffaaGreatJ06
/- The contract of octet.AppendVar. -/
namespace Go.Proofs.YtlfbagkonckffaaGreat.Oct
open Go.RowKit

set_option maxRecDepth 100000 in
set_option maxHeartbeats 400000 in
theorem appendVar_any (A : Option Addr) (n c : Nat) (x : Int) (l : List UInt8) (base : Nat) (w : World) (hown : OwnB w 5 base (.slice A n c) n l) (hbase : base ≤ w.heap.size) (hn : n ≤ 1099511620000)
    (h1 : -9223372036854775808 ≤ x) (h2 : x ≤ 9223372036854775807) :
    Calls Tryz.prog 141 #[.slice A n c, .int .i64 x] w (RB 5 base w (l ++ vb (zz x))) := by
  have hI := u8row
  have hz := zz_lt ⟨h1, h2⟩
  have hten := vb_ten hz
  have hlen := Lib.hid hown.len
  have HN := Lib.hid hn
  clear hn
  go_enter Tryz.func141, Tryz.ntmps141
  go_wp2_with (go_at_call 157; refine (fold_any _ _ h1 h2).mono ?_; rintro e w1 ⟨rfl, rfl⟩)
  obtain ⟨z, hzz⟩ : ∃ z, z = zz x := ⟨_, rfl⟩
  rw [← hzz] at hz hten ⊢
  have HZ := Lib.hid hz
  have HZZ := Lib.hid hzz
  clear hzz h1 h2 hz
  go_loopw [0, 5] (fun v i wr => avRel base l z w v i wr)
    (fun _ i _ => (intOf i).toNat)
  case atStart => exact ⟨A, n, c, z, [], rfl, rfl, by simpa using hown, by simp, HZ.out, Below.refl _ _⟩
  case round =>
    obtain ⟨A1, n1, c1, u, l1, rfl, rfl, hown1, hv, hu, hb⟩ := hrel
    have hl1 : n1 ≤ n + 10 := by
      have a1 := hown1.len
      have a2 := congrArg List.length hv
      have a3 := hlen.out
      simp only [List.length_append] at a1 a2
      omega
    have hor := Lib.hid (or128 u)
    have hbs := hb.size
    have hpos := vb_pos u
    have hV := Lib.hid hv
    have HU := Lib.hid hu
    clear hv hown hu
    by_cases hlt : u < 128
    · have hlow := Lib.hid (ofNat_toNat' (q := u) (by omega))
      go_wp2_with (at_builtin; refine wpList_app1 _ rfl _ _ 94 rfl base 5 Tryz.underlying94 hI _ n1 _ rfl hown1 _ (UInt8.ofNat u) rfl (congrArg Nat.cast hlow.out.symm) (by have := HN.out; omega) (by omega) ?_; intro A2 c2 w2 hown2 hb2)
      go_ret
      refine ⟨A2, n1 + 1, c2, rfl, ?_, hb.trans hb2⟩
      try rw [← HZZ.out]
      rw [← hV.out, vb_small hlt, ← List.append_assoc]
      exact hown2
    · go_wp2_with (at_builtin; refine wpList_app1 _ rfl _ _ 94 rfl base 5 Tryz.underlying94 hI _ n1 _ rfl hown1 _ _ rfl hor.out (by have := HN.out; omega) (by omega) ?_; intro A2 c2 w2 hown2 hb2)
      go_roundw
      case rel =>
        refine ⟨A2, n1 + 1, c2, u / 128, l1 ++ [UInt8.ofNat (u % 128 + 128)], rfl, by go_num, ?_, ?_, Nat.lt_of_le_of_lt (Nat.div_le_self _ _) HU.out, hb.trans hb2⟩
        · rw [← List.append_assoc]; exact hown2
        · rw [← hV.out, vb_big (u := u) (by omega)]; simp
      case measure => simp [intOf]; omega

end Go.Proofs.YtlfbagkonckffaaGreat.Oct

/- The contract of octet.PutText. -/
namespace Go.Proofs.YtlfbagkonckffaaGreat.Oct
open Go.RowKit

theorem PutText_any (A : Option Addr) (n c : Nat) (s : ByteArray) (l : List UInt8) (B : Nat) (w : World) (hr : Rd w B A n l) (hB : B ≤ w.heap.size) (hn : n ≤ 274877906944) (hs : s.size ≤ 274877906944) :
    Calls Tryz.prog 146 #[.slice A n c, .string s] w (RB 5 w.heap.size w (l ++ vb (zz s.size) ++ s.data.toList)) := by
  have hI := u8row
  go_enter Tryz.func146, Tryz.ntmps146
  go_wp2_with (first | (go_at_call 142; refine (copied_any A n c _ l B w hr hB (by omega) (by omega) (by omega)).mono ?_; rintro e w1 ⟨A1, n1, c1, rfl, hown1, hb1⟩; have hn1 : n1 = n := hown1.len.symm.trans hr.len; have HN1 := Lib.hid hn1; clear hn1) | (go_at_call 141; refine (appendVar_any A1 n1 c1 _ l w.heap.size w1 hown1 hb1.size (by have := HN1.out; omega) (by omega) (by omega)).mono ?_; rintro e w2 ⟨A2, n2, c2, rfl, hown2, hb2⟩; have hn2 : n2 ≤ n + 10 := (by have a1 := hown2.len; have a2 := vb_ten (zz_lt (n := (s.size : Int)) (by omega)); have a3 := hr.len; simp only [List.length_append] at a1; omega)) | (at_builtin; refine wpList_appS _ rfl _ _ 94 9 rfl w.heap.size 5 Tryz.underlying94 Tryz.underlying9 hI _ n2 _ rfl hown2 s rfl (by omega) (by have a1 := hb1.size; have a2 := hb2.size; omega) ?_; intro A3 c3 w3 hown3 hb3))
  go_ret
  exact ⟨A3, n2 + s.size, c3, rfl, hown3, (hb1.trans hb2).trans hb3⟩

end Go.Proofs.YtlfbagkonckffaaGreat.Oct

/- The contract of octet.PutVar. -/
namespace Go.Proofs.YtlfbagkonckffaaGreat.Oct
open Go.RowKit

theorem PutVar_any (A : Option Addr) (n c : Nat) (x : Int) (l : List UInt8) (B : Nat) (w : World) (hr : Rd w B A n l) (hB : B ≤ w.heap.size) (hn : n ≤ 549755813888) (h1 : -9223372036854775808 ≤ x) (h2 : x ≤ 9223372036854775807) :
    Calls Tryz.prog 112 #[.slice A n c, .int .i64 x] w (RB 5 w.heap.size w (l ++ vb (zz x))) := by
  go_enter Tryz.func112, Tryz.ntmps112
  go_wp2_with (first | (go_at_call 142; refine (copied_any A n c 10 l B w hr hB hn (by omega) (by omega)).mono ?_; rintro e w1 ⟨A1, n1, c1, rfl, hown1, hb1⟩; have hn1 : n1 = n := hown1.len.symm.trans hr.len; have HN1 := Lib.hid hn1; clear hn1) | (go_at_call 141; refine (appendVar_any A1 n1 c1 x l w.heap.size w1 hown1 hb1.size (by have := HN1.out; omega) h1 h2).mono ?_; rintro e w2 ⟨A2, n2, c2, rfl, hown2, hb2⟩))
  go_ret
  exact ⟨A2, n2, c2, rfl, hown2, hb1.trans hb2⟩

end Go.Proofs.YtlfbagkonckffaaGreat.Oct

/- The contracts of the landed rec's Put and Size. -/
namespace Go.Proofs.YtlfbagkonckffaaGreat.Rec
open Go.RowKit Oct Crc

theorem chk_f {r : Rc} (h : may r = false) : chk r = 1 := by unfold chk; rw [h]; rfl
theorem chk_t {r : Rc} (h : may r = true) : chk r = 0 := by unfold chk; rw [h]; rfl
theorem fl_be (d : Bool) : (if isW 1 = true then beN (fl d).toNat (1 : Int).toNat (1 : Int).toNat else []) = [fl d] := by
  rw [if_pos (by decide)]; cases d <;> rfl
theorem lens4 {n m : Nat} {l : List UInt8} {x : UInt8} (h : (l ++ [x]).length = n) (hl : l.length = m) : n = m + 1 := by
  rw [List.length_append, List.length_singleton] at h; omega

set_option maxRecDepth 100000 in
set_option maxHeartbeats 1000000 in
theorem Put_any' (o s : Int) (k v : ByteArray) (d : Bool) (b t : Int) (w : World) (hk : k.size ≤ 1099511627776) (hv : v.size ≤ 1099511627776) (hb0 : -9223372036854775808 ≤ b) (hb1 : b ≤ 9223372036854775807) (ht0 : -9223372036854775808 ≤ t) (ht1 : t ≤ 9223372036854775807) :
    Calls Tryz.prog 114 #[.agg #[.int .i64 o, .string k, .string v, .bool d, .int .i64 s], .int .i64 b, .int .i64 t] w (OPr 5 w.heap.size w (pt ⟨o, k, v, d, s⟩ b t).1 (pt ⟨o, k, v, d, s⟩ b t).2) := by
  have hI := u8row
  rcases hm : may ⟨o, k, v, d, s⟩ with _ | _
  · have hm0 := chk_f hm
    have hz := pt_no (r := ⟨o, k, v, d, s⟩) (b := b) (t := t) (fun hh => by have := hh.1; simp only [hm] at this; cases this)
    rw [hz]
    clear hz hb0 hb1 ht0 ht1
    go_enter Tryz.func114, Tryz.ntmps114
    go_wp2_with (go_at_call 140; refine (Check_at o s k v d _ hk hv).mono ?_; rw [hm0]; rintro e w9 ⟨rfl, hb9⟩)
    go_ret2
    exact ⟨none, 0, 0, rfl, OwnB.nil, bel_trans ((Below.refl _ _).alloc (Nat.le_refl _) _) hb9⟩
  have hm0 := chk_t hm
  rcases h1 : inR b with _ | _
  · have hz := pt_no (r := ⟨o, k, v, d, s⟩) (b := b) (t := t) (fun hh => by have := hh.2.1; simp only [h1] at this; cases this)
    rw [hz]
    clear hz hb0 hb1 ht0 ht1
    go_enter Tryz.func114, Tryz.ntmps114
    go_wp2_with (first
      | (go_at_call 140; refine (Check_at o s k v d _ hk hv).mono ?_; rw [hm0]; rintro e w9 ⟨rfl, hb9⟩)
      | (go_at_call 143; refine (inRange_any _ _ h1).mono ?_; rintro e w8 ⟨rfl, rfl⟩))
    go_ret2
    exact ⟨none, 0, 0, rfl, OwnB.nil, bel_trans ((Below.refl _ _).alloc (Nat.le_refl _) _) hb9⟩
  rcases h2 : inR t with _ | _
  · have hz := pt_no (r := ⟨o, k, v, d, s⟩) (b := b) (t := t) (fun hh => by have := hh.2.2; simp only [h2] at this; cases this)
    rw [hz]
    clear hz hb0 hb1 ht0 ht1
    go_enter Tryz.func114, Tryz.ntmps114
    go_wp2_with (first
      | (go_at_call 140; refine (Check_at o s k v d _ hk hv).mono ?_; rw [hm0]; rintro e w9 ⟨rfl, hb9⟩)
      | (go_at_call 143; refine (inRange_any _ _ (by first | exact h1 | exact h2)).mono ?_; rintro e w8 ⟨rfl, rfl⟩))
    go_ret2
    exact ⟨none, 0, 0, rfl, OwnB.nil, bel_trans ((Below.refl _ _).alloc (Nat.le_refl _) _) hb9⟩
  have hz := pt_yes (r := ⟨o, k, v, d, s⟩) (b := b) (t := t) hm h1 h2
  rw [hz]
  clear hz
  obtain ⟨m1, m2, m3, m4, m5⟩ := may_iff.1 hm
  simp only at m1 m2 m3 m4 m5
  have b1 := inR_iff.1 h1
  have b2 := inR_iff.1 h2
  have HFL := Lib.hid (fl_be d)
  have HBX := Lib.hid (box_new w 61 ⟨o, k, v, d, s⟩)
  have hsz : w.heap.size < (w.alloc (.cells #[.int .i64 o, .string k, .string v, .bool d, .int .i64 s] 61)).heap.size := by simp
  go_enter Tryz.func114, Tryz.ntmps114
  go_wp2_with (first
    | (go_at_call 140; (with_reducible refine (Check_at o s k v d _ hk hv).mono ?_); rw [hm0]; rintro e w9 ⟨rfl, hb9⟩; obtain ⟨p0, p1, p2, p3, p4⟩ := HBX.out.below hb9 hsz)
    | (go_at_call 143; refine (inRange_any _ _ (by first | exact h1 | exact h2)).mono ?_; rintro e w8 ⟨rfl, rfl⟩)
    | (go_at_call 145; refine (flag_any d _).mono ?_; rintro e w8 ⟨rfl, rfl⟩)
    | (go_at_call 146; (with_reducible refine (PutText_any A5 n5 c5 v _ _ _ HO5.out.rd (Nat.le_refl _) (by have := HN5.out; omega) (by omega)).mono ?_); rintro e w6 ⟨A6, n6, c6, rfl, hown6, hb6⟩; have HO6 := Lib.hid hown6; clear hown6)
    | (go_at_call 146; (with_reducible refine (PutText_any A4 n4 c4 k _ _ _ HO4.out.rd (Nat.le_refl _) (by have := HN4.out; have := HN3.out; omega) (by omega)).mono ?_); rintro e w5 ⟨A5, n5, c5, rfl, hown5, hb5⟩; have hs5 := Nat.lt_of_lt_of_le hs4 hb5.size; obtain ⟨u0, u1, u2, u3, u4⟩ := HB4.out.below hb5 hs4; have HO5 := Lib.hid hown5; have HN5 := Lib.hid (lens5 hown5.len (HO4.out.len.trans HN4.out) HN3.out m3); clear hown5)
    | (go_at_call 144; (with_reducible refine (Oct.Put_any A3 n3 c3 (fl d).toNat 1 _ _ _ HO3.out.rd (Nat.le_refl _) (by have := HN3.out; omega)).mono ?_); rw [HFL.out]; rintro e w4 ⟨A4, n4, c4, rfl, hown4, hb4⟩; have hs4 := Nat.lt_of_lt_of_le hs3 hb4.size; have HB4 := Lib.hid (HB3.out.below hb4 hs3); obtain ⟨t0, t1, t2, t3, t4⟩ := HB4.out; have HN4 := Lib.hid (lens4 hown4.len HO3.out.len); have HO4 := Lib.hid hown4; clear hown4)
    | (go_at_call 112; (with_reducible refine (PutVar_any A2 n2 c2 _ _ _ _ HO2.out.rd (Nat.le_refl _) (by have := HN2.out; omega) (by omega) (by omega)).mono ?_); rintro e w3 ⟨A3, n3, c3, rfl, hown3, hb3⟩; have hs3 := Nat.lt_of_lt_of_le hs2 hb3.size; have HB3 := Lib.hid (HB2.out.below hb3 hs2); obtain ⟨r0, r1, r2, r3, r4⟩ := HB3.out; have HO3 := Lib.hid hown3; have HN3 := Lib.hid (lens3 hown3.len HO2.out.len HN2.out (show -1099511627776 ≤ s - t ∧ s - t ≤ 1099511627776 by omega)); clear hown3)
    | (go_at_call 112; (with_reducible refine (PutVar_any none 0 0 _ [] 0 _ Rd.nil (Nat.zero_le _) (by omega) (by omega) (by omega)).mono ?_); rintro e w2 ⟨A2, n2, c2, rfl, hown2, hb2⟩; have hs9 := Nat.lt_of_lt_of_le hsz hb9.size; have hs2 := Nat.lt_of_lt_of_le hs9 hb2.size; have HB2 := Lib.hid ((HBX.out.below hb9 hsz).below hb2 hs9); obtain ⟨q0, q1, q2, q3, q4⟩ := HB2.out; have HO2 := Lib.hid hown2; have HN2 := Lib.hid (lens2 hown2.len (show -1099511627776 ≤ o - b ∧ o - b ≤ 1099511627776 by omega)); clear hown2))
  go_ret2
  have hfin := HO6.out.more (Nat.le_of_lt hs5)
  rw [rb_list] at hfin
  have hle := Nat.le_of_lt hsz
  refine ⟨A6, n6, c6, rfl, hfin, ?_⟩
  exact (((((((Below.refl _ _).alloc (Nat.le_refl _) _).trans (hb9.mono hle)).trans (hb2.mono (Nat.le_of_lt hs9))).trans (hb3.mono (Nat.le_of_lt hs2))).trans (hb4.mono (Nat.le_of_lt hs3))).trans (hb5.mono (Nat.le_of_lt hs4))).trans (hb6.mono (Nat.le_of_lt hs5))

theorem Put_any (o s : Int) (k v : ByteArray) (d : Bool) (b t : Int) (w : World) (_ho : I64 o) (_hs : I64 s) (hk : k.size ≤ 1099511627776) (hv : v.size ≤ 1099511627776) (hb : I64 b) (ht : I64 t) :
    Calls Tryz.prog 114 #[.agg #[.int .i64 o, .string k, .string v, .bool d, .int .i64 s], .int .i64 b, .int .i64 t] w (OPr 5 w.heap.size w (pt ⟨o, k, v, d, s⟩ b t).1 (pt ⟨o, k, v, d, s⟩ b t).2) :=
  Put_any' o s k v d b t w hk hv hb.1 hb.2 ht.1 ht.2
theorem Check_any (o s : Int) (k v : ByteArray) (d : Bool) (w : World) (_ho : I64 o) (_hs : I64 s) (hk : k.size ≤ 1099511627776) (hv : v.size ≤ 1099511627776) :
    Calls Tryz.prog 140 #[.agg #[.int .i64 o, .string k, .string v, .bool d, .int .i64 s]] w fun e w' => e = .returned (.int .i64 (chk ⟨o, k, v, d, s⟩)) ∧ Below w.heap.size w w' := Check_at o s k v d w hk hv
end Go.Proofs.YtlfbagkonckffaaGreat.Rec

/- The contract of the landed recsHaveForm. -/
namespace Go.Proofs.YtlfbagkonckffaaGreat.Bat
open Go.RowKit Oct Rec Crc

def rfRel (ba la : Int) (rs : List Rc) (n : Nat) (w : World) (i v : Value) (wr : World) : Prop :=
  ∃ (k : Nat) (lo : Int), i = .int .i64 (k : Int) ∧ k ≤ n ∧ v = .int .i64 (lo + 1) ∧ -1 ≤ lo ∧ lo ≤ 1099511627776 ∧ rise lo la (rs.drop k) = rise (ba - 1) la rs ∧ Below w.heap.size w wr
set_option maxRecDepth 100000 in
set_option maxHeartbeats 4000000 in
theorem recsForm_any (ba la fr ep pi ge se : Int) (tx : Bool) (ct : Int) (rs : List Rc) (A : Option Addr) (n c : Nat) (w : World) (hba : 0 ≤ ba ∧ ba ≤ 1099511627776) (hla : I64 la) (hr : RdR w w.heap.size A n rs) (hfit : ∀ r ∈ rs, I64 r.off ∧ I64 r.stamp ∧ r.key.size ≤ 1099511627776 ∧ r.val.size ≤ 1099511627776) (hn : n ≤ 1099511627776) {y : Bool} (hy : rise (ba - 1) la rs = y) :
    Calls Tryz.prog 110 #[.agg #[.int .i64 ba, .int .i64 la, .int .i64 fr, .int .i64 ep, .int .i64 pi, .int .i64 ge, .int .i64 se, .bool tx, .int .i64 ct, .slice A n c]] w fun e w' => e = .returned (.bool y) ∧ Below w.heap.size w w' := by
  subst hy
  have HB0 := Lib.hid (boxB_new w 28 ⟨ba, la, fr, ep, pi, ge, se, tx, ct, rs⟩ (.slice A n c))
  have hsz : w.heap.size < (w.alloc (.cells #[.int .i64 ba, .int .i64 la, .int .i64 fr, .int .i64 ep, .int .i64 pi, .int .i64 ge, .int .i64 se, .bool tx, .int .i64 ct, .slice A n c] 28)).heap.size := by simp
  have hw0 := Lib.hid (bel_alloc (Below.refl w.heap.size w) (.cells #[.int .i64 ba, .int .i64 la, .int .i64 fr, .int .i64 ep, .int .i64 pi, .int .i64 ge, .int .i64 se, .bool tx, .int .i64 ct, .slice A n c] 28))
  have HR := Lib.hid hr
  have HFIT := Lib.hid hfit
  obtain ⟨hla0, hla1⟩ := hla
  clear hr hfit
  go_enter Tryz.func110, Tryz.ntmps110
  go_wp2
  go_loopw [3, 11] (fun v i wr => rfRel ba la rs n (w.alloc (.cells #[.int .i64 ba, .int .i64 la, .int .i64 fr, .int .i64 ep, .int .i64 pi, .int .i64 ge, .int .i64 se, .bool tx, .int .i64 ct, .slice A n c] 28)) i v wr) (fun _ i _ => n - (intOf i).toNat)
  case atStart => exact ⟨0, ba - 1, rfl, Nat.zero_le _, by rw [show ba - 1 + 1 = ba by omega], by omega, by omega, rfl, Below.refl _ _⟩
  case round =>
    obtain ⟨k, lo, rfl, hk, rfl, hlo0, hlo1, hrise, hbel⟩ := hrel
    have HBW := Lib.hid (HB0.out.below hbel hsz)
    have hs0 := Nat.lt_of_lt_of_le hsz hbel.size
    have hb0r := Lib.hid (bel_trans hw0.out hbel)
    have HBE := Lib.hid hbel
    by_cases hlt : k < n
    · obtain ⟨b, o, r, rfl, hbb, hrk, hat⟩ := (HR.out.below hb0r.out (Nat.le_refl _)).at hlt
      obtain ⟨ro, rk, rv, rd, rt⟩ := r
      obtain ⟨a0, a1, a2, a3, a4⟩ := hat
      obtain ⟨ho, hs, hf1, hf2⟩ := HFIT.out _ (List.mem_of_getElem? hrk)
      simp only at ho hs hf1 hf2 a0 a1 a2 a3 a4
      have hst := (rise_step hrk).symm.trans hrise
      have HX := Lib.hid (box_new wr 61 ⟨ro, rk, rv, rd, rt⟩)
      have hx : wr.heap.size < (wr.alloc (.cells #[.int .i64 ro, .string rk, .string rv, .bool rd, .int .i64 rt] 61)).heap.size := by simp
      clear hrise hbel hrk
      have CHK := fun (w' : World) => Check_any ro rt rk rv rd w' ho hs hf1 hf2
      obtain ⟨ho0, ho1⟩ := ho
      clear hs
      by_cases hm : may ⟨ro, rk, rv, rd, rt⟩ = true
      · rw [chk_t hm] at CHK
        by_cases h1 : lo < ro
        · have h1' : ¬ ro < lo + 1 := by omega
          by_cases h2 : ro ≤ la
          · have HST := Lib.hid (show rise ro la (rs.drop (k + 1)) = rise (ba - 1) la rs by rw [← hst, hm]; simp [h1, h2])
            obtain ⟨m1, -⟩ := may_iff.1 hm
            simp only at m1
            clear hst hm
            go_wp2_with (go_at_call 140; (with_reducible refine (CHK _).mono ?_); rintro e w9 ⟨rfl, hb9⟩; obtain ⟨x0, x1, x2, x3, x4⟩ := HX.out.below hb9 hx; obtain ⟨y0, y1, y2, y3, y4, y5, y6, y7, y8, y9⟩ := (HBW.out.below (bel_trans (bel_alloc (Below.refl wr.heap.size wr) (.cells #[.int .i64 ro, .string rk, .string rv, .bool rd, .int .i64 rt] 61)) hb9) hs0))
            go_roundw
            case rel => exact ⟨k + 1, ro, by go_num, by omega, by first | rfl | go_num, by omega, by omega, HST.out, bel_trans (bel_alloc HBE.out _) hb9⟩
            case measure => simp [intOf]; omega
          · have HF := Lib.hid (show rise (ba - 1) la rs = false by rw [← hst]; simp [h2])
            clear hst hm
            go_wp2_with (go_at_call 140; (with_reducible refine (CHK _).mono ?_); rintro e w9 ⟨rfl, hb9⟩; obtain ⟨x0, x1, x2, x3, x4⟩ := HX.out.below hb9 hx; obtain ⟨y0, y1, y2, y3, y4, y5, y6, y7, y8, y9⟩ := (HBW.out.below (bel_trans (bel_alloc (Below.refl wr.heap.size wr) (.cells #[.int .i64 ro, .string rk, .string rv, .bool rd, .int .i64 rt] 61)) hb9) hs0))
            go_ret
            exact ⟨ret_bool (by first | exact HF.out.symm | (rw [HF.out]; simp; done) | (rw [HF.out]; simp; omega)), bel_trans (bel_alloc hb0r.out _) hb9⟩
        · have h1' : ro < lo + 1 := by omega
          have HF := Lib.hid (show rise (ba - 1) la rs = false by rw [← hst]; simp [h1])
          clear hst hm
          go_wp2_with (go_at_call 140; (with_reducible refine (CHK _).mono ?_); rintro e w9 ⟨rfl, hb9⟩; obtain ⟨x0, x1, x2, x3, x4⟩ := HX.out.below hb9 hx; obtain ⟨y0, y1, y2, y3, y4, y5, y6, y7, y8, y9⟩ := (HBW.out.below (bel_trans (bel_alloc (Below.refl wr.heap.size wr) (.cells #[.int .i64 ro, .string rk, .string rv, .bool rd, .int .i64 rt] 61)) hb9) hs0))
          go_ret
          exact ⟨ret_bool (by first | exact HF.out.symm | (rw [HF.out]; simp; done) | (rw [HF.out]; simp; omega)), bel_trans (bel_alloc hb0r.out _) hb9⟩
      · have HF := Lib.hid (show rise (ba - 1) la rs = false by rw [← hst]; simp [hm])
        rw [chk_f (by simpa using hm)] at CHK
        clear hst hm
        go_wp2_with (go_at_call 140; (with_reducible refine (CHK _).mono ?_); rintro e w9 ⟨rfl, hb9⟩; obtain ⟨x0, x1, x2, x3, x4⟩ := HX.out.below hb9 hx; obtain ⟨y0, y1, y2, y3, y4, y5, y6, y7, y8, y9⟩ := (HBW.out.below (bel_trans (bel_alloc (Below.refl wr.heap.size wr) (.cells #[.int .i64 ro, .string rk, .string rv, .bool rd, .int .i64 rt] 61)) hb9) hs0))
        go_ret
        exact ⟨ret_bool (by first | exact HF.out.symm | (rw [HF.out]; simp; done) | (rw [HF.out]; simp; omega)), bel_trans (bel_alloc hb0r.out _) hb9⟩
    · have hkn : k = n := by omega
      have HF := Lib.hid (show rise (ba - 1) la rs = true by rw [← hrise, List.drop_eq_nil_of_le (by have := HR.out.len; omega)]; rfl)
      clear hrise hkn
      go_wp2
      go_ret
      exact ⟨ret_bool (by first | exact HF.out.symm | (rw [HF.out]; simp; done) | (rw [HF.out]; simp; omega)), hb0r.out⟩
end Go.Proofs.YtlfbagkonckffaaGreat.Bat
