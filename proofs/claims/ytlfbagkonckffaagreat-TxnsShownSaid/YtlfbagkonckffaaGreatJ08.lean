/- Joined: OctRPutVar, OctRPutText, RecRefB, BatMath4, BatW, BatArg. -/
import Derived.Test.YtlfbagkonckffaaGreatJ07
import Derived.Test.YtlfbagkonckffaaGreatJ03
import Derived.Test.YtlfbagkonckffaaGreatJ06
/- The contract of the document's PutVar. -/
namespace Go.Proofs.YtlfbagkonckffaaGreat.Oct
open Go.RowKit

set_option maxRecDepth 100000 in
set_option maxHeartbeats 400000 in
theorem refPutVar_any (A : Option Addr) (n c : Nat) (x : Int) (l : List UInt8) (B : Nat) (w : World) (hr : Rd w B A n l) (hn : n ≤ 274877906944)
    (h1 : -9223372036854775808 ≤ x) (h2 : x ≤ 9223372036854775807) :
    Calls Tryz.prog 99 #[.slice A n c, .int .i64 x] w (RB 5 w.heap.size w (l ++ vb (zz x))) := by
  have hI := u8row
  have hz := zz_lt ⟨h1, h2⟩
  have hten := vb_ten hz
  have hlen := Lib.hid hr.len
  have HN := Lib.hid hn
  clear hn
  rcases (show 0 ≤ x ∨ x < 0 by omega) with hx | hx
  all_goals
    go_enter Tryz.func99, Tryz.ntmps99
    go_wp2_with (go_at_call 117; refine (Copy_any A n c l B w hr (by have := HN.out; omega)).mono ?_; rintro e w1 ⟨A0, n0, c0, rfl, hown0, hb0⟩)
    have hl0 := hown0.len
    have hb0s := hb0.size
    have HV := Lib.hid (show _ = Value.int .u64 (zz x : Int) from congrArg (Value.int .u64) (by first | exact zz_pos hx | exact zz_neg hx))
    go_loopw [6, 5] (fun v i wr => avRel w.heap.size l (zz x) w v i wr) (fun _ i _ => (intOf i).toNat)
    case atStart => exact ⟨A0, n0, c0, zz x, [], rfl, HV.out, by simpa using hown0, by simp, hz, hb0⟩
    case round =>
      obtain ⟨A1, n1, c1, u, l1, rfl, rfl, hown1, hv, hu, hb⟩ := hrel
      have hl1 : n1 ≤ n + 10 := by
        have a1 := hown1.len
        have a2 := congrArg List.length hv
        have a3 := hlen.out
        simp only [List.length_append] at a1 a2
        omega
      have hor := Lib.hid (mod128 u)
      have hbs := hb.size
      have hpos := vb_pos u
      have hV := Lib.hid hv
      have HU := Lib.hid hu
      clear hv hown0 hu hl0 hz hten h1 h2 hx
      by_cases hlt : u < 128
      · have hlow := Lib.hid (ofNat_toNat' (q := u) (by omega))
        go_wp2_with (at_builtin; refine wpList_app1 _ rfl _ _ 94 rfl w.heap.size 5 Tryz.underlying94 hI _ n1 _ rfl hown1 _ (UInt8.ofNat u) rfl (congrArg Nat.cast hlow.out.symm) (by have := HN.out; omega) (by omega) ?_; intro A2 c2 w2 hown2 hb2)
        go_ret
        refine ⟨A2, n1 + 1, c2, rfl, ?_, hb.trans hb2⟩
        rw [← hV.out, vb_small hlt, ← List.append_assoc]
        exact hown2
      · go_wp2_with (at_builtin; refine wpList_app1 _ rfl _ _ 94 rfl w.heap.size 5 Tryz.underlying94 hI _ n1 _ rfl hown1 _ _ rfl hor.out (by have := HN.out; omega) (by omega) ?_; intro A2 c2 w2 hown2 hb2)
        go_roundw
        case rel =>
          refine ⟨A2, n1 + 1, c2, u / 128, l1 ++ [UInt8.ofNat (u % 128 + 128)], rfl, congrArg (Value.int .u64) (div_u64 u 128 HU.out), ?_, ?_, Nat.lt_of_le_of_lt (Nat.div_le_self _ _) HU.out, hb.trans hb2⟩
          · rw [← List.append_assoc]; exact hown2
          · rw [← hV.out, vb_big (u := u) (by omega)]; simp
        case measure =>
          have hq : IntKind.u64.wrap ((u : Int) / 128) = ((u / 128 : Nat) : Int) := div_u64 u 128 HU.out
          simp only [intOf, hq]
          omega

end Go.Proofs.YtlfbagkonckffaaGreat.Oct

/- The contract of the document's PutText. -/
namespace Go.Proofs.YtlfbagkonckffaaGreat.Oct
open Go.RowKit

theorem refPutText_any (A : Option Addr) (n c : Nat) (s : ByteArray) (l : List UInt8) (B : Nat) (w : World) (hr : Rd w B A n l) (hn : n ≤ 137438953472) (hs : s.size ≤ 274877906944) :
    Calls Tryz.prog 118 #[.slice A n c, .string s] w (RB 5 w.heap.size w (l ++ vb (zz s.size) ++ s.data.toList)) := by
  have hI := u8row
  go_enter Tryz.func118, Tryz.ntmps118
  go_wp2_with (first | (go_at_call 99; refine (refPutVar_any A n c _ l B w hr (by omega) (by omega) (by omega)).mono ?_; rintro e w2 ⟨A2, n2, c2, rfl, hown2, hb2⟩; have hn2 : n2 ≤ n + 10 := (by have a1 := hown2.len; have a2 := vb_ten (zz_lt (n := (s.size : Int)) (by omega)); have a3 := hr.len; simp only [List.length_append] at a1; omega)) | (at_builtin; refine wpList_appS _ rfl _ _ 94 9 rfl w.heap.size 5 Tryz.underlying94 Tryz.underlying9 hI _ n2 _ rfl hown2 s rfl (by omega) (by have a2 := hb2.size; omega) ?_; intro A3 c3 w3 hown3 hb3))
  go_ret
  exact ⟨A3, n2 + s.size, c3, rfl, hown3, hb2.trans hb3⟩

end Go.Proofs.YtlfbagkonckffaaGreat.Oct

/- The contracts of the document's own answers of layer 3: Put. -/
namespace Go.Proofs.YtlfbagkonckffaaGreat.Rec
open Go.RowKit Oct Crc

def Box (w : World) (g : Nat) (r : Rc) : Prop :=
  w.cell? ⟨g, 0, none⟩ = some (.int .i64 r.off) ∧ w.cell? ⟨g, 1, none⟩ = some (.string r.key) ∧ w.cell? ⟨g, 2, none⟩ = some (.string r.val) ∧ w.cell? ⟨g, 3, none⟩ = some (.bool r.dead) ∧ w.cell? ⟨g, 4, none⟩ = some (.int .i64 r.stamp)
theorem Box.below {w w' : World} {g B : Nat} {r : Rc} (h : Box w g r) (hb : Below B w w') (hg : g < B) : Box w' g r := by
  obtain ⟨h0, h1, h2, h3, h4⟩ := h
  exact ⟨(hb.cell hg).trans h0, (hb.cell hg).trans h1, (hb.cell hg).trans h2, (hb.cell hg).trans h3, (hb.cell hg).trans h4⟩
theorem box_new (w : World) (e : TypeId) (r : Rc) : Box (w.alloc (.cells #[.int .i64 r.off, .string r.key, .string r.val, .bool r.dead, .int .i64 r.stamp] e)) w.heap.size r := by
  refine ⟨?_, ?_, ?_, ?_, ?_⟩ <;> (rw [cell_of_row _ _ _ _ e _ (heap_alloc_new w _)]; rfl)

theorem lens2 {n : Nat} {x : Int} (h : ([] ++ vb (zz x)).length = n) (hx : -1099511627776 ≤ x ∧ x ≤ 1099511627776) : n ≤ 6 := by
  have := (vb_len hx).2
  simpa [← h] using this
theorem lens3 {n m : Nat} {x : Int} {l : List UInt8} (h : (l ++ vb (zz x)).length = n) (hl : l.length = m) (hm : m ≤ 6) (hx : -1099511627776 ≤ x ∧ x ≤ 1099511627776) : n ≤ 12 := by
  have := (vb_len hx).2
  rw [List.length_append] at h
  omega
theorem lens5 {n m : Nat} {k : ByteArray} {l : List UInt8} (h : (l ++ vb (zz k.size) ++ k.data.toList).length = n) (hl : l.length = m + 1) (hm : m ≤ 12) (hk : k.size ≤ 64) : n ≤ 100 := by
  have h1 := (tx_len hk).2
  rw [tx_length] at h1
  rw [List.length_append, List.length_append, size_list] at h
  omega

theorem rb_list (o s : Int) (k v : ByteArray) (d : Bool) (b t : Int) : [] ++ vb (zz (o - b)) ++ vb (zz (s - t)) ++ [fl d] ++ vb (zz k.size) ++ k.data.toList ++ vb (zz v.size) ++ v.data.toList = rb ⟨o, k, v, d, s⟩ b t := by
  simp [rb, tx, List.append_assoc]

theorem pt_no {r : Rc} {b t : Int} (h : ¬ (may r = true ∧ inR b = true ∧ inR t = true)) : pt r b t = ([], 1) := by
  unfold pt; rw [if_neg]; intro hh; simp only [Bool.and_eq_true] at hh; exact h ⟨hh.1.1, hh.1.2, hh.2⟩
theorem pt_yes {r : Rc} {b t : Int} (h : may r = true) (h1 : inR b = true) (h2 : inR t = true) : pt r b t = (rb r b t, 0) := by
  unfold pt; rw [if_pos]; simp only [Bool.and_eq_true]; exact ⟨⟨h, h1⟩, h2⟩

set_option maxRecDepth 100000 in
set_option maxHeartbeats 1000000 in
theorem refPut_any (o s : Int) (k v : ByteArray) (d : Bool) (b t : Int) (w : World) (hk : k.size ≤ 1099511627776) (hv : v.size ≤ 1099511627776) (hb0 : -9223372036854775808 ≤ b) (hb1 : b ≤ 9223372036854775807) (ht0 : -9223372036854775808 ≤ t) (ht1 : t ≤ 9223372036854775807) :
    Calls Tryz.prog 100 #[.agg #[.int .i64 o, .string k, .string v, .bool d, .int .i64 s], .int .i64 b, .int .i64 t] w (OPr 5 w.heap.size w (pt ⟨o, k, v, d, s⟩ b t).1 (pt ⟨o, k, v, d, s⟩ b t).2) := by
  have hI := u8row
  rcases hm : may ⟨o, k, v, d, s⟩ with _ | _
  · have hz := pt_no (r := ⟨o, k, v, d, s⟩) (b := b) (t := t) (fun hh => by have := hh.1; simp only [hm] at this; cases this)
    rw [hz]
    clear hz hb0 hb1 ht0 ht1
    go_enter Tryz.func100, Tryz.ntmps100
    go_wp2_with (go_at_call 98; refine (refCheck_any o s k v d _ hk hv).mono ?_; rw [hm]; rintro e w9 ⟨rfl, hb9⟩)
    go_ret2
    exact ⟨none, 0, 0, rfl, OwnB.nil, bel_trans ((Below.refl _ _).alloc (Nat.le_refl _) _) hb9⟩
  rcases h1 : inR b with _ | _
  · have hz := pt_no (r := ⟨o, k, v, d, s⟩) (b := b) (t := t) (fun hh => by have := hh.2.1; simp only [h1] at this; cases this)
    rw [hz]
    clear hz hb0 hb1 ht0 ht1
    go_enter Tryz.func100, Tryz.ntmps100
    go_wp2_with (first
      | (go_at_call 98; refine (refCheck_any o s k v d _ hk hv).mono ?_; rw [hm]; rintro e w9 ⟨rfl, hb9⟩)
      | (go_at_call 116; refine (refIn_any _ _ h1).mono ?_; rintro e w8 ⟨rfl, rfl⟩))
    go_ret2
    exact ⟨none, 0, 0, rfl, OwnB.nil, bel_trans ((Below.refl _ _).alloc (Nat.le_refl _) _) hb9⟩
  rcases h2 : inR t with _ | _
  · have hz := pt_no (r := ⟨o, k, v, d, s⟩) (b := b) (t := t) (fun hh => by have := hh.2.2; simp only [h2] at this; cases this)
    rw [hz]
    clear hz hb0 hb1 ht0 ht1
    go_enter Tryz.func100, Tryz.ntmps100
    go_wp2_with (first
      | (go_at_call 98; refine (refCheck_any o s k v d _ hk hv).mono ?_; rw [hm]; rintro e w9 ⟨rfl, hb9⟩)
      | (go_at_call 116; refine (refIn_any _ _ (by first | exact h1 | exact h2)).mono ?_; rintro e w8 ⟨rfl, rfl⟩))
    go_ret2
    exact ⟨none, 0, 0, rfl, OwnB.nil, bel_trans ((Below.refl _ _).alloc (Nat.le_refl _) _) hb9⟩
  have hz := pt_yes (r := ⟨o, k, v, d, s⟩) (b := b) (t := t) hm h1 h2
  rw [hz]
  clear hz
  obtain ⟨m1, m2, m3, m4, m5⟩ := may_iff.1 hm
  simp only at m1 m2 m3 m4 m5
  have b1 := inR_iff.1 h1
  have b2 := inR_iff.1 h2
  have HBX := Lib.hid (box_new w 61 ⟨o, k, v, d, s⟩)
  have hsz : w.heap.size < (w.alloc (.cells #[.int .i64 o, .string k, .string v, .bool d, .int .i64 s] 61)).heap.size := by simp
  rcases d with _ | _
  all_goals
    go_enter Tryz.func100, Tryz.ntmps100
    go_wp2_with (first
      | (go_at_call 98; refine (refCheck_any o s k v _ _ hk hv).mono ?_; rw [hm]; rintro e w9 ⟨rfl, hb9⟩; obtain ⟨p0, p1, p2, p3, p4⟩ := HBX.out.below hb9 hsz)
      | (go_at_call 116; refine (refIn_any _ _ (by first | exact h1 | exact h2)).mono ?_; rintro e w8 ⟨rfl, rfl⟩)
      | (go_at_call 118; refine (refPutText_any A5 n5 c5 v _ _ _ HO5.out.rd (by have := HN5.out; omega) (by omega)).mono ?_; rintro e w6 ⟨A6, n6, c6, rfl, hown6, hb6⟩; have HO6 := Lib.hid hown6; clear hown6)
      | (go_at_call 118; refine (refPutText_any A4 (n3 + 1) c4 k _ _ _ HO4.out.rd (by have := HN3.out; omega) (by omega)).mono ?_; rintro e w5 ⟨A5, n5, c5, rfl, hown5, hb5⟩; have hs5 := Nat.lt_of_lt_of_le hs4 hb5.size; obtain ⟨u0, u1, u2, u3, u4⟩ := HB4.out.below hb5 hs4; have HO5 := Lib.hid hown5; have HN5 := Lib.hid (lens5 hown5.len HO4.out.len HN3.out m3); clear hown5)
      | (go_at_call 99; refine (refPutVar_any A2 n2 c2 _ _ _ _ HO2.out.rd (by have := HN2.out; omega) (by omega) (by omega)).mono ?_; rintro e w3 ⟨A3, n3, c3, rfl, hown3, hb3⟩; have hs3 := Nat.lt_of_lt_of_le hs2 hb3.size; have HB3 := Lib.hid (HB2.out.below hb3 hs2); obtain ⟨r0, r1, r2, r3, r4⟩ := HB3.out; have HO3 := Lib.hid hown3; have HN3 := Lib.hid (lens3 hown3.len HO2.out.len HN2.out (show -1099511627776 ≤ s - t ∧ s - t ≤ 1099511627776 by omega)); clear hown3)
      | (go_at_call 99; refine (refPutVar_any none 0 0 _ [] 0 _ Rd.nil (by omega) (by omega) (by omega)).mono ?_; rintro e w2 ⟨A2, n2, c2, rfl, hown2, hb2⟩; have hs9 := Nat.lt_of_lt_of_le hsz hb9.size; have hs2 := Nat.lt_of_lt_of_le hs9 hb2.size; have HB2 := Lib.hid ((HBX.out.below hb9 hsz).below hb2 hs9); obtain ⟨q0, q1, q2, q3, q4⟩ := HB2.out; have HO2 := Lib.hid hown2; have HN2 := Lib.hid (lens2 hown2.len (show -1099511627776 ≤ o - b ∧ o - b ≤ 1099511627776 by omega)); clear hown2)
      | (at_builtin; refine wpList_app1 _ rfl _ _ 94 rfl w2.heap.size 5 Tryz.underlying94 hI _ n3 _ rfl HO3.out _ (fl false) rfl rfl (by have := HN3.out; omega) hb3.size ?_; intro A4 c4 w4 hown4 hb4; have hs4 := Nat.lt_of_lt_of_le hs3 hb4.size; have HB4 := Lib.hid (HB3.out.below hb4 hs2); obtain ⟨t0, t1, t2, t3, t4⟩ := HB4.out; have HO4 := Lib.hid hown4; clear hown4)
      | (at_builtin; refine wpList_app1 _ rfl _ _ 94 rfl w2.heap.size 5 Tryz.underlying94 hI _ n3 _ rfl HO3.out _ (fl true) rfl rfl (by have := HN3.out; omega) hb3.size ?_; intro A4 c4 w4 hown4 hb4; have hs4 := Nat.lt_of_lt_of_le hs3 hb4.size; have HB4 := Lib.hid (HB3.out.below hb4 hs2); obtain ⟨t0, t1, t2, t3, t4⟩ := HB4.out; have HO4 := Lib.hid hown4; clear hown4))
    go_ret2
    have hfin := HO6.out.more (Nat.le_of_lt hs5)
    rw [rb_list] at hfin
    have hle := Nat.le_of_lt hsz
    refine ⟨A6, n6, c6, rfl, hfin, ?_⟩
    exact (((((((Below.refl _ _).alloc (Nat.le_refl _) _).trans (hb9.mono hle)).trans (hb2.mono (Nat.le_of_lt hs9))).trans (hb3.mono (Nat.le_of_lt hs2))).trans (hb4.mono (Nat.le_of_lt hs2))).trans (hb5.mono (Nat.le_of_lt hs4))).trans (hb6.mono (Nat.le_of_lt hs5))

end Go.Proofs.YtlfbagkonckffaaGreat.Rec

/- More plain mathematics of layer 4: a batch's bytes with one changed; a batch at other offsets. Nothing of the program. -/
namespace Go.Proofs.YtlfbagkonckffaaGreat.Bat
open Oct Rec Crc

/-! ### a batch at other offsets -/
def mvR (by_ : Int) (r : Rc) : Rc := { r with off := r.off + by_ }
def mvO (b : Bt) (base : Int) : Bt := { b with base := base, last := base + b.last - b.base, recs := b.recs.map (mvR (base - b.base)) }
def mvB (b : Bt) (base : Int) : Bt × Int :=
  if inR base = false then (nilB, 1) else if chB b ≠ 0 then (nilB, chB b) else if chB (mvO b base) ≠ 0 then (nilB, chB (mvO b base)) else (mvO b base, 0)
end Go.Proofs.YtlfbagkonckffaaGreat.Bat

/- Batches and lists of records in memory. -/
namespace Go.Proofs.YtlfbagkonckffaaGreat.Bat
open Go.RowKit Oct Rec Crc

def At (w : World) (b o : Nat) (r : Rc) : Prop :=
  w.cell? ⟨b, o, none⟩ = some (.int .i64 r.off) ∧ w.cell? ⟨b, o + 1, none⟩ = some (.string r.key) ∧ w.cell? ⟨b, o + 2, none⟩ = some (.string r.val) ∧ w.cell? ⟨b, o + 3, none⟩ = some (.bool r.dead) ∧ w.cell? ⟨b, o + 4, none⟩ = some (.int .i64 r.stamp)
def RdR (w : World) (B : Nat) (A : Option Addr) (n : Nat) (l : List Rc) : Prop :=
  l.length = n ∧ ∀ k r, l[k]? = some r → ∃ b o, A = some ⟨b, o, none⟩ ∧ b < B ∧ At w b (o + k * 5) r
theorem RdR.len {w : World} {B : Nat} {A : Option Addr} {n : Nat} {l : List Rc} (h : RdR w B A n l) : l.length = n := h.1
theorem RdR.nil {w : World} {B : Nat} {A : Option Addr} : RdR w B A 0 [] := ⟨rfl, by simp⟩
theorem At.keep {w w' : World} {b o : Nat} {r : Rc} (h : At w b o r) (hk : ∀ p : Addr, p.block = b → w'.cell? p = w.cell? p) : At w' b o r := by
  obtain ⟨h0, h1, h2, h3, h4⟩ := h
  exact ⟨(hk _ rfl).trans h0, (hk _ rfl).trans h1, (hk _ rfl).trans h2, (hk _ rfl).trans h3, (hk _ rfl).trans h4⟩
theorem RdR.keep {w w' : World} {B : Nat} {A : Option Addr} {n : Nat} {l : List Rc} (h : RdR w B A n l) (hk : ∀ p : Addr, p.block < B → w'.cell? p = w.cell? p) : RdR w' B A n l :=
  ⟨h.1, fun k r hr => by
    obtain ⟨b, o, hA, hb, hat⟩ := h.2 k r hr
    exact ⟨b, o, hA, hb, hat.keep fun p hp => hk p (by omega)⟩⟩
theorem RdR.more {w : World} {B B' : Nat} {A : Option Addr} {n : Nat} {l : List Rc} (h : RdR w B A n l) (hB : B ≤ B') : RdR w B' A n l :=
  ⟨h.1, fun k r hr => by
    obtain ⟨b, o, hA, hb, hat⟩ := h.2 k r hr
    exact ⟨b, o, hA, by omega, hat⟩⟩
theorem RdR.below {w w' : World} {B B' : Nat} {A : Option Addr} {n : Nat} {l : List Rc} (h : RdR w B A n l) (hb : Below B' w w') (hB : B ≤ B') : RdR w' B A n l := h.keep fun _ hp => hb.cell (by omega)
theorem RdR.at {w : World} {B : Nat} {A : Option Addr} {n k : Nat} {l : List Rc} (h : RdR w B A n l) (hk : k < n) : ∃ b o r, A = some ⟨b, o, none⟩ ∧ b < B ∧ l[k]? = some r ∧ At w b (o + k * 5) r := by
  have hl : k < l.length := by have := h.1; omega
  obtain ⟨b, o, hA, hb, hat⟩ := h.2 k l[k] (List.getElem?_eq_getElem hl)
  exact ⟨b, o, l[k], hA, hb, List.getElem?_eq_getElem hl, hat⟩
def BoxB (w : World) (g : Nat) (b : Bt) (v : Value) : Prop :=
  w.cell? ⟨g, 0, none⟩ = some (.int .i64 b.base) ∧ w.cell? ⟨g, 1, none⟩ = some (.int .i64 b.last) ∧ w.cell? ⟨g, 2, none⟩ = some (.int .i64 b.frm) ∧ w.cell? ⟨g, 3, none⟩ = some (.int .i64 b.epoch) ∧ w.cell? ⟨g, 4, none⟩ = some (.int .i64 b.pid) ∧
  w.cell? ⟨g, 5, none⟩ = some (.int .i64 b.gen) ∧ w.cell? ⟨g, 6, none⟩ = some (.int .i64 b.seq) ∧ w.cell? ⟨g, 7, none⟩ = some (.bool b.txn) ∧ w.cell? ⟨g, 8, none⟩ = some (.int .i64 b.ctl) ∧ w.cell? ⟨g, 9, none⟩ = some v
theorem BoxB.below {w w' : World} {g B : Nat} {b : Bt} {v : Value} (h : BoxB w g b v) (hb : Below B w w') (hg : g < B) : BoxB w' g b v := by
  obtain ⟨h0, h1, h2, h3, h4, h5, h6, h7, h8, h9⟩ := h
  exact ⟨(hb.cell hg).trans h0, (hb.cell hg).trans h1, (hb.cell hg).trans h2, (hb.cell hg).trans h3, (hb.cell hg).trans h4, (hb.cell hg).trans h5, (hb.cell hg).trans h6, (hb.cell hg).trans h7, (hb.cell hg).trans h8, (hb.cell hg).trans h9⟩
theorem boxB_new (w : World) (e : TypeId) (b : Bt) (v : Value) : BoxB (w.alloc (.cells #[.int .i64 b.base, .int .i64 b.last, .int .i64 b.frm, .int .i64 b.epoch, .int .i64 b.pid, .int .i64 b.gen, .int .i64 b.seq, .bool b.txn, .int .i64 b.ctl, v] e)) w.heap.size b v := by
  refine ⟨?_, ?_, ?_, ?_, ?_, ?_, ?_, ?_, ?_, ?_⟩ <;> (rw [cell_of_row _ _ _ _ e _ (heap_alloc_new w _)]; rfl)
structure Fits (b : Bt) : Prop where
  base : I64 b.base
  last : I64 b.last
  frm : I64 b.frm
  epoch : I64 b.epoch
  pid : I64 b.pid
  gen : I64 b.gen
  seq : I64 b.seq
  ctl : I64 b.ctl
  recs : ∀ r ∈ b.recs, I64 r.off ∧ I64 r.stamp ∧ r.key.size ≤ 1099511627776 ∧ r.val.size ≤ 1099511627776
def bval (b : Bt) (v : Value) : Value := .agg #[.int .i64 b.base, .int .i64 b.last, .int .i64 b.frm, .int .i64 b.epoch, .int .i64 b.pid, .int .i64 b.gen, .int .i64 b.seq, .bool b.txn, .int .i64 b.ctl, v]
def inM (n most : Int) : Bool := decide (0 ≤ n ∧ n ≤ most)
theorem inM_iff {n most : Int} : inM n most = true ↔ 0 ≤ n ∧ n ≤ most := by simp [inM]
theorem inM_F {n most : Int} (h : ¬ (0 ≤ n ∧ n ≤ most)) : inM n most = false := by simp [inM]; omega
theorem inM_T {n most : Int} (h : 0 ≤ n ∧ n ≤ most) : inM n most = true := inM_iff.2 h
end Go.Proofs.YtlfbagkonckffaaGreat.Bat

/- Records and batches as a law is handed them. -/
namespace Go.Proofs.YtlfbagkonckffaaGreat.Bat
open Go.RowKit Go.ChangeShapes Go.WideShapes Go.Deep Oct Rec Lay

instance : Lay Rc where
  sz := 5
  pos := by decide
  is _ _ cs r := cs = [.int .i64 r.off, .string r.key, .string r.val, .bool r.dead, .int .i64 r.stamp] ∧ I64 r.off ∧ I64 r.stamp ∧ r.key.size ≤ reach ∧ r.val.size ≤ reach
  len h := by rw [h.1]; rfl
  keep h _ := h
  more h _ := h
def Fit (r : Rc) : Prop := I64 r.off ∧ I64 r.stamp ∧ r.key.size ≤ reach ∧ r.val.size ≤ reach
def FitN (b : Bt) : Prop := I64 b.base ∧ I64 b.last ∧ I64 b.frm ∧ I64 b.epoch ∧ I64 b.pid ∧ I64 b.gen ∧ I64 b.seq ∧ I64 b.ctl
instance : Lay Bt where
  sz := 10
  pos := by decide
  is w B cs b := ∃ A n c, cs = [.int .i64 b.base, .int .i64 b.last, .int .i64 b.frm, .int .i64 b.epoch, .int .i64 b.pid, .int .i64 b.gen, .int .i64 b.seq, .bool b.txn, .int .i64 b.ctl, .slice A n c] ∧ FitN b ∧ n ≤ c ∧ c ≤ reach ∧ RdL w B A n b.recs
  len h := by obtain ⟨A, n, c, h, _⟩ := h; rw [h]; rfl
  keep h hk := by obtain ⟨A, n, c, h, hf, hc, hr, hl⟩ := h; exact ⟨A, n, c, h, hf, hc, hr, hl.keep hk⟩
  more h hB := by obtain ⟨A, n, c, h, hf, hc, hr, hl⟩ := h; exact ⟨A, n, c, h, hf, hc, hr, hl.more hB⟩

theorem at_of_row {w : World} {b o : Nat} {r : Rc} {cs : List Value} (hc : cs = [.int .i64 r.off, .string r.key, .string r.val, .bool r.dead, .int .i64 r.stamp]) (h : ∀ i v, cs[i]? = some v → w.cell? ⟨b, o + i, none⟩ = some v) : At w b o r := by
  subst hc
  exact ⟨h 0 _ rfl, h 1 _ rfl, h 2 _ rfl, h 3 _ rfl, h 4 _ rfl⟩
theorem RdL_recs {w : World} {B n : Nat} {A : Option Addr} {l : List Rc} (h : RdL w B A n l) : RdR w B A n l :=
  ⟨h.1, fun k r hr => by
    obtain ⟨b, o, cs, hA, hb, his, hc⟩ := h.2 k r hr
    exact ⟨b, o, hA, hb, at_of_row his.1 hc⟩⟩
theorem RdL_fit {w : World} {B n : Nat} {A : Option Addr} {l : List Rc} (h : RdL w B A n l) : ∀ r ∈ l, Fit r := by
  intro r hr
  obtain ⟨k, hk⟩ := List.mem_iff_getElem?.1 hr
  obtain ⟨_, _, _, _, _, his, _⟩ := h.2 k r hk
  exact his.2

theorem opens_rec : Opens Tryz.prog 61 Rc := by
  intro H enc w fuel cs d pl h hl hz
  obtain ⟨n, hat⟩ := opens_fields Tryz.underlying61 (by kernel_rfl) h hz hl
  obtain ⟨u0, d0, p0, c0, t0, z0⟩ := hat 0 _ rfl
  obtain ⟨u1, d1, p1, c1, t1, z1⟩ := hat 1 _ rfl
  obtain ⟨u2, d2, p2, c2, t2, z2⟩ := hat 2 _ rfl
  obtain ⟨u3, d3, p3, c3, t3, z3⟩ := hat 3 _ rfl
  obtain ⟨u4, d4, p4, c4, t4, z4⟩ := hat 4 _ rfl
  obtain ⟨o, rfl, ho⟩ := opens_int Tryz.underlying3 H enc w n u0 d0 p0 t0 z0
  obtain ⟨k, rfl, hk⟩ := opens_string Tryz.underlying9 H enc w n u1 d1 p1 t1 z1
  obtain ⟨x, rfl, hx⟩ := opens_string Tryz.underlying9 H enc w n u2 d2 p2 t2 z2
  obtain ⟨b, rfl⟩ := opens_bool Tryz.underlying4 H enc w n u3 d3 p3 t3 z3
  obtain ⟨s, rfl, hs⟩ := opens_int Tryz.underlying3 H enc w n u4 d4 p4 t4 z4
  match cs, hl with
  | [_, _, _, _, _], _ =>
    simp only [List.getElem?_cons_zero, List.getElem?_cons_succ, Option.some.injEq] at c0 c1 c2 c3 c4
    exact ⟨⟨o, k, x, b, s⟩, by rw [c0, c1, c2, c3, c4], ho, hs, hk, hx⟩
theorem opens_recs : Opens1 Tryz.prog 26 (List Rc) := opens_slice Tryz.underlying26 (by kernel_rfl) (of_decide_eq_true (by kernel_rfl)) opens_rec
theorem opens_batch : Opens Tryz.prog 28 Bt := by
  intro H enc w fuel cs d pl h hl hz
  obtain ⟨n, hat⟩ := opens_fields Tryz.underlying28 (by kernel_rfl) h hz hl
  obtain ⟨u0, d0, p0, c0, t0, z0⟩ := hat 0 _ rfl
  obtain ⟨u1, d1, p1, c1, t1, z1⟩ := hat 1 _ rfl
  obtain ⟨u2, d2, p2, c2, t2, z2⟩ := hat 2 _ rfl
  obtain ⟨u3, d3, p3, c3, t3, z3⟩ := hat 3 _ rfl
  obtain ⟨u4, d4, p4, c4, t4, z4⟩ := hat 4 _ rfl
  obtain ⟨u5, d5, p5, c5, t5, z5⟩ := hat 5 _ rfl
  obtain ⟨u6, d6, p6, c6, t6, z6⟩ := hat 6 _ rfl
  obtain ⟨u7, d7, p7, c7, t7, z7⟩ := hat 7 _ rfl
  obtain ⟨u8, d8, p8, c8, t8, z8⟩ := hat 8 _ rfl
  obtain ⟨u9, d9, p9, c9, t9, z9⟩ := hat 9 _ rfl
  obtain ⟨x0, rfl, h0⟩ := opens_int Tryz.underlying3 H enc w n u0 d0 p0 t0 z0
  obtain ⟨x1, rfl, h1⟩ := opens_int Tryz.underlying3 H enc w n u1 d1 p1 t1 z1
  obtain ⟨x2, rfl, h2⟩ := opens_int Tryz.underlying3 H enc w n u2 d2 p2 t2 z2
  obtain ⟨x3, rfl, h3⟩ := opens_int Tryz.underlying3 H enc w n u3 d3 p3 t3 z3
  obtain ⟨x4, rfl, h4⟩ := opens_int Tryz.underlying3 H enc w n u4 d4 p4 t4 z4
  obtain ⟨x5, rfl, h5⟩ := opens_int Tryz.underlying3 H enc w n u5 d5 p5 t5 z5
  obtain ⟨x6, rfl, h6⟩ := opens_int Tryz.underlying3 H enc w n u6 d6 p6 t6 z6
  obtain ⟨x7, rfl⟩ := opens_bool Tryz.underlying4 H enc w n u7 d7 p7 t7 z7
  obtain ⟨x8, rfl, h8⟩ := opens_int Tryz.underlying3 H enc w n u8 d8 p8 t8 z8
  obtain ⟨x9, A, m, c, rfl, hc, hr, hR⟩ := opens_recs H enc w n u9 d9 p9 t9 z9
  match cs, hl with
  | [_, _, _, _, _, _, _, _, _, _], _ =>
    simp only [List.getElem?_cons_zero, List.getElem?_cons_succ, Option.some.injEq] at c0 c1 c2 c3 c4 c5 c6 c7 c8 c9
    exact ⟨⟨x0, x1, x2, x3, x4, x5, x6, x7, x8, x9⟩, A, m, c, by rw [c0, c1, c2, c3, c4, c5, c6, c7, c8, c9], ⟨h0, h1, h2, h3, h4, h5, h6, h8⟩, hc, hr, hR⟩
theorem opens_batches : Opens1 Tryz.prog 38 (List Bt) := opens_slice Tryz.underlying38 (by kernel_rfl) (of_decide_eq_true (by kernel_rfl)) opens_batch

section
variable {H : Type} {enc : TypeId × Value → H} {W : World} {base : Nat} {v : Value} {d : DataW H} {p : List MemPlace}
set_option maxRecDepth 100000 in
theorem open_batch (hv : Value.okWide Tryz.prog W .any base 28 v) (h : DataW.Trod enc Tryz.prog W 0 (fun _ => true) true 28 v d p) (hz : ∀ z ∈ DataW.weights Tryz.prog 28 d, z ≤ reachBytes) :
    ∃ (ba la fr ep pi ge se : Int) (tx : Bool) (ct : Int) (A : Option Addr) (n c : Nat) (rs : List Rc), v = .agg #[.int .i64 ba, .int .i64 la, .int .i64 fr, .int .i64 ep, .int .i64 pi, .int .i64 ge, .int .i64 se, .bool tx, .int .i64 ct, .slice A n c] ∧
      FitN ⟨ba, la, fr, ep, pi, ge, se, tx, ct, rs⟩ ∧ n ≤ c ∧ c ≤ reach ∧ RdL W W.heap.size A n rs := by
  obtain ⟨cs, rfl, hsz⟩ := okWide_struct Tryz.underlying28 hv
  obtain ⟨fuel, hf⟩ := h
  have h10 : Tryz.prog.cellsOf 28 = 10 := by kernel_rfl
  obtain ⟨b, A, n, c, hcs, hfit, hc, hr, hR⟩ := opens_batch H enc W fuel _ d p hf (by show cs.toList.length = 10; rw [Array.length_toList, hsz, h10]) hz
  refine ⟨b.base, b.last, b.frm, b.epoch, b.pid, b.gen, b.seq, b.txn, b.ctl, A, n, c, b.recs, ?_, hfit, hc, hr, hR⟩
  congr 1
  exact Array.toList_inj.1 hcs
set_option maxRecDepth 100000 in
theorem open_batches (hv : Value.okWide Tryz.prog W .any base 38 v) (h : DataW.Trod enc Tryz.prog W 0 (fun _ => true) true 38 v d p) (hz : ∀ z ∈ DataW.weights Tryz.prog 38 d, z ≤ reachBytes) :
    ∃ (A : Option Addr) (n c : Nat) (l : List Bt), v = .slice A n c ∧ n ≤ c ∧ c ≤ reach ∧ RdL W W.heap.size A n l := by
  obtain ⟨A, n, c, rfl⟩ := okWide_slice Tryz.underlying38 hv
  obtain ⟨fuel, hf⟩ := h
  obtain ⟨l, A', n', c', e, hc, hr, hR⟩ := opens_batches H enc W fuel _ d p hf hz
  exact ⟨A', n', c', l, e, hc, hr, hR⟩
theorem weights_arg {P : Program} {ts : List TypeId} {ds : List (DataW H)} (h : (DataW.weightsEach P ts ds).all (· ≤ reachBytes) = true) {j : Nat} {t : TypeId} (ht : ts[j]? = some t) (hd : ds[j]? = some d) : ∀ z ∈ DataW.weights P t d, z ≤ reachBytes := by
  intro z hz
  simpa using List.all_eq_true.1 h z (DataW.weights_mem_each ht hd z hz)
end
end Go.Proofs.YtlfbagkonckffaaGreat.Bat
