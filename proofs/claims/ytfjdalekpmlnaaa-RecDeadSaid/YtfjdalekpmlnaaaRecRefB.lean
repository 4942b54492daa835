/- The contracts of the document's own answers of layer 3: Put. -/
import Derived.Test.YtfjdalekpmlnaaaRecRefA
import Derived.Test.YtfjdalekpmlnaaaCrcSpec
import Derived.Test.YtfjdalekpmlnaaaOctRPutText
namespace Go.Proofs.Ytfjdalekpmlnaaa.Rec
open Go.RowKit Go.Proofs.Ytfjdalekpmlnaaa.Oct Go.Proofs.Ytfjdalekpmlnaaa.Crc

/-- a record that lies in a box -/
def Box (w : World) (g : Nat) (r : Rc) : Prop :=
  w.cell? ⟨g, 0, none⟩ = some (.int .i64 r.off) ∧ w.cell? ⟨g, 1, none⟩ = some (.string r.key) ∧ w.cell? ⟨g, 2, none⟩ = some (.string r.val) ∧ w.cell? ⟨g, 3, none⟩ = some (.bool r.dead) ∧ w.cell? ⟨g, 4, none⟩ = some (.int .i64 r.stamp)
theorem Box.below {w w' : World} {g B : Nat} {r : Rc} (h : Box w g r) (hb : Below B w w') (hg : g < B) : Box w' g r := by
  obtain ⟨h0, h1, h2, h3, h4⟩ := h
  exact ⟨(hb.cell hg).trans h0, (hb.cell hg).trans h1, (hb.cell hg).trans h2, (hb.cell hg).trans h3, (hb.cell hg).trans h4⟩
theorem box_new (w : World) (e : TypeId) (r : Rc) : Box (w.alloc (.cells #[.int .i64 r.off, .string r.key, .string r.val, .bool r.dead, .int .i64 r.stamp] e)) w.heap.size r := by
  refine ⟨?_, ?_, ?_, ?_, ?_⟩ <;> (rw [cell_of_row _ _ _ _ e _ (heap_alloc_new w _)]; rfl)

theorem lens2 {n : Nat} {x : Int} (h : ([] ++ vb (zz x)).length = n) (hx : -1099511627776 ≤ x ∧ x ≤ 1099511627776) : n ≤ 6 := by
  have := (vb_len hx).2
  simpa [← h] using this
theorem lens3 {n m : Nat} {x : Int} {l : List UInt8} (h : (l ++ vb (zz x)).length = n) (hl : l.length = m) (hm : m ≤ 6) (hx : -1099511627776 ≤ x ∧ x ≤ 1099511627776) : n ≤ 12 := by
  have := (vb_len hx).2
  rw [List.length_append] at h
  omega
theorem lens5 {n m : Nat} {k : ByteArray} {l : List UInt8} (h : (l ++ vb (zz k.size) ++ k.data.toList).length = n) (hl : l.length = m + 1) (hm : m ≤ 12) (hk : k.size ≤ 64) : n ≤ 100 := by
  have h1 := (tx_len hk).2
  rw [tx_length] at h1
  rw [List.length_append, List.length_append, size_list] at h
  omega

theorem rb_list (o s : Int) (k v : ByteArray) (d : Bool) (b t : Int) : [] ++ vb (zz (o - b)) ++ vb (zz (s - t)) ++ [fl d] ++ vb (zz k.size) ++ k.data.toList ++ vb (zz v.size) ++ v.data.toList = rb ⟨o, k, v, d, s⟩ b t := by
  simp [rb, tx, List.append_assoc]

theorem pt_no {r : Rc} {b t : Int} (h : ¬ (may r = true ∧ inR b = true ∧ inR t = true)) : pt r b t = ([], 1) := by
  unfold pt; rw [if_neg]; intro hh; simp only [Bool.and_eq_true] at hh; exact h ⟨hh.1.1, hh.1.2, hh.2⟩
theorem pt_yes {r : Rc} {b t : Int} (h : may r = true) (h1 : inR b = true) (h2 : inR t = true) : pt r b t = (rb r b t, 0) := by
  unfold pt; rw [if_pos]; simp only [Bool.and_eq_true]; exact ⟨⟨h, h1⟩, h2⟩

set_option maxRecDepth 100000 in
set_option maxHeartbeats 1000000 in
theorem refPut_any (o s : Int) (k v : ByteArray) (d : Bool) (b t : Int) (w : World) (hk : k.size ≤ 1099511627776) (hv : v.size ≤ 1099511627776) (hb0 : -9223372036854775808 ≤ b) (hb1 : b ≤ 9223372036854775807) (ht0 : -9223372036854775808 ≤ t) (ht1 : t ≤ 9223372036854775807) :
    Calls Try.prog 15 #[.agg #[.int .i64 o, .string k, .string v, .bool d, .int .i64 s], .int .i64 b, .int .i64 t] w (OPr 5 w.heap.size w (pt ⟨o, k, v, d, s⟩ b t).1 (pt ⟨o, k, v, d, s⟩ b t).2) := by
  have hI := u8row
  rcases hm : may ⟨o, k, v, d, s⟩ with _ | _
  · have hz := pt_no (r := ⟨o, k, v, d, s⟩) (b := b) (t := t) (fun hh => by have := hh.1; simp only [hm] at this; cases this)
    rw [hz]
    clear hz hb0 hb1 ht0 ht1
    go_enter Try.func15, Try.ntmps15
    go_wp2_with (go_at_call 17; refine (refCheck_any o s k v d _ hk hv).mono ?_; rw [hm]; rintro e w9 ⟨rfl, hb9⟩)
    go_ret2
    exact ⟨none, 0, 0, rfl, OwnB.nil, bel_trans ((Below.refl _ _).alloc (Nat.le_refl _) _) hb9⟩
  rcases h1 : inR b with _ | _
  · have hz := pt_no (r := ⟨o, k, v, d, s⟩) (b := b) (t := t) (fun hh => by have := hh.2.1; simp only [h1] at this; cases this)
    rw [hz]
    clear hz hb0 hb1 ht0 ht1
    go_enter Try.func15, Try.ntmps15
    go_wp2_with (first
      | (go_at_call 17; refine (refCheck_any o s k v d _ hk hv).mono ?_; rw [hm]; rintro e w9 ⟨rfl, hb9⟩)
      | (go_at_call 27; refine (refIn_any _ _ h1).mono ?_; rintro e w8 ⟨rfl, rfl⟩))
    go_ret2
    exact ⟨none, 0, 0, rfl, OwnB.nil, bel_trans ((Below.refl _ _).alloc (Nat.le_refl _) _) hb9⟩
  rcases h2 : inR t with _ | _
  · have hz := pt_no (r := ⟨o, k, v, d, s⟩) (b := b) (t := t) (fun hh => by have := hh.2.2; simp only [h2] at this; cases this)
    rw [hz]
    clear hz hb0 hb1 ht0 ht1
    go_enter Try.func15, Try.ntmps15
    go_wp2_with (first
      | (go_at_call 17; refine (refCheck_any o s k v d _ hk hv).mono ?_; rw [hm]; rintro e w9 ⟨rfl, hb9⟩)
      | (go_at_call 27; refine (refIn_any _ _ (by first | exact h1 | exact h2)).mono ?_; rintro e w8 ⟨rfl, rfl⟩))
    go_ret2
    exact ⟨none, 0, 0, rfl, OwnB.nil, bel_trans ((Below.refl _ _).alloc (Nat.le_refl _) _) hb9⟩
  have hz := pt_yes (r := ⟨o, k, v, d, s⟩) (b := b) (t := t) hm h1 h2
  rw [hz]
  clear hz
  obtain ⟨m1, m2, m3, m4, m5⟩ := may_iff.1 hm
  simp only at m1 m2 m3 m4 m5
  have b1 := inR_iff.1 h1
  have b2 := inR_iff.1 h2
  have HBX := Lib.hid (box_new w 23 ⟨o, k, v, d, s⟩)
  have hsz : w.heap.size < (w.alloc (.cells #[.int .i64 o, .string k, .string v, .bool d, .int .i64 s] 23)).heap.size := by simp
  rcases d with _ | _
  all_goals
    go_enter Try.func15, Try.ntmps15
    go_wp2_with (first
      | (go_at_call 17; refine (refCheck_any o s k v _ _ hk hv).mono ?_; rw [hm]; rintro e w9 ⟨rfl, hb9⟩; obtain ⟨p0, p1, p2, p3, p4⟩ := HBX.out.below hb9 hsz)
      | (go_at_call 27; refine (refIn_any _ _ (by first | exact h1 | exact h2)).mono ?_; rintro e w8 ⟨rfl, rfl⟩)
      | (go_at_call 29; refine (refPutText_any A5 n5 c5 v _ _ _ HO5.out.rd (by have := HN5.out; omega) (by omega)).mono ?_; rintro e w6 ⟨A6, n6, c6, rfl, hown6, hb6⟩; have HO6 := Lib.hid hown6; clear hown6)
      | (go_at_call 29; refine (refPutText_any A4 (n3 + 1) c4 k _ _ _ HO4.out.rd (by have := HN3.out; omega) (by omega)).mono ?_; rintro e w5 ⟨A5, n5, c5, rfl, hown5, hb5⟩; have hs5 := Nat.lt_of_lt_of_le hs4 hb5.size; obtain ⟨u0, u1, u2, u3, u4⟩ := HB4.out.below hb5 hs4; have HO5 := Lib.hid hown5; have HN5 := Lib.hid (lens5 hown5.len HO4.out.len HN3.out m3); clear hown5)
      | (go_at_call 28; refine (refPutVar_any A2 n2 c2 _ _ _ _ HO2.out.rd (by have := HN2.out; omega) (by omega) (by omega)).mono ?_; rintro e w3 ⟨A3, n3, c3, rfl, hown3, hb3⟩; have hs3 := Nat.lt_of_lt_of_le hs2 hb3.size; have HB3 := Lib.hid (HB2.out.below hb3 hs2); obtain ⟨r0, r1, r2, r3, r4⟩ := HB3.out; have HO3 := Lib.hid hown3; have HN3 := Lib.hid (lens3 hown3.len HO2.out.len HN2.out (show -1099511627776 ≤ s - t ∧ s - t ≤ 1099511627776 by omega)); clear hown3)
      | (go_at_call 28; refine (refPutVar_any none 0 0 _ [] 0 _ Rd.nil (by omega) (by omega) (by omega)).mono ?_; rintro e w2 ⟨A2, n2, c2, rfl, hown2, hb2⟩; have hs9 := Nat.lt_of_lt_of_le hsz hb9.size; have hs2 := Nat.lt_of_lt_of_le hs9 hb2.size; have HB2 := Lib.hid ((HBX.out.below hb9 hsz).below hb2 hs9); obtain ⟨q0, q1, q2, q3, q4⟩ := HB2.out; have HO2 := Lib.hid hown2; have HN2 := Lib.hid (lens2 hown2.len (show -1099511627776 ≤ o - b ∧ o - b ≤ 1099511627776 by omega)); clear hown2)
      | (at_builtin; refine wpList_app1 _ rfl _ _ 26 rfl w2.heap.size 5 Try.underlying26 hI _ n3 _ rfl HO3.out _ (fl false) rfl rfl (by have := HN3.out; omega) hb3.size ?_; intro A4 c4 w4 hown4 hb4; have hs4 := Nat.lt_of_lt_of_le hs3 hb4.size; have HB4 := Lib.hid (HB3.out.below hb4 hs2); obtain ⟨t0, t1, t2, t3, t4⟩ := HB4.out; have HO4 := Lib.hid hown4; clear hown4)
      | (at_builtin; refine wpList_app1 _ rfl _ _ 26 rfl w2.heap.size 5 Try.underlying26 hI _ n3 _ rfl HO3.out _ (fl true) rfl rfl (by have := HN3.out; omega) hb3.size ?_; intro A4 c4 w4 hown4 hb4; have hs4 := Nat.lt_of_lt_of_le hs3 hb4.size; have HB4 := Lib.hid (HB3.out.below hb4 hs2); obtain ⟨t0, t1, t2, t3, t4⟩ := HB4.out; have HO4 := Lib.hid hown4; clear hown4))
    go_ret2
    have hfin := HO6.out.more (Nat.le_of_lt hs5)
    rw [rb_list] at hfin
    have hle := Nat.le_of_lt hsz
    refine ⟨A6, n6, c6, rfl, hfin, ?_⟩
    exact (((((((Below.refl _ _).alloc (Nat.le_refl _) _).trans (hb9.mono hle)).trans (hb2.mono (Nat.le_of_lt hs9))).trans (hb3.mono (Nat.le_of_lt hs2))).trans (hb4.mono (Nat.le_of_lt hs2))).trans (hb5.mono (Nat.le_of_lt hs4))).trans (hb6.mono (Nat.le_of_lt hs5))

end Go.Proofs.Ytfjdalekpmlnaaa.Rec
