/- The law's own live(), and the document's Few. -/
import Derived.Test.YtfjdalekpmlnaaaRecDev
import Derived.Test.YtfjdalekpmlnaaaRecDevZ
namespace Go.Proofs.Ytfjdalekpmlnaaa.Rec
open Go.RowKit Go.Proofs.Ytfjdalekpmlnaaa.Oct Go.Proofs.Ytfjdalekpmlnaaa.Crc

theorem Put_is (o s : Int) (k v : ByteArray) (d : Bool) (b t : Int) (w : World) (ho : I64 o) (hs : I64 s) (hk : k.size ≤ 1099511627776) (hv : v.size ≤ 1099511627776) (hb : I64 b) (ht : I64 t) {x : List UInt8} {z : Int} (h : pt ⟨o, k, v, d, s⟩ b t = (x, z)) :
    Calls Try.prog 14 #[.agg #[.int .i64 o, .string k, .string v, .bool d, .int .i64 s], .int .i64 b, .int .i64 t] w (OPr 5 w.heap.size w x z) := by
  have h1 := Put_any o s k v d b t w ho hs hk hv hb ht
  rw [h] at h1
  exact h1
theorem Size_is (o s : Int) (k v : ByteArray) (d : Bool) (b t : Int) (w : World) (ho : I64 o) (hs : I64 s) (hk : k.size ≤ 1099511627776) (hv : v.size ≤ 1099511627776) (hb : I64 b) (ht : I64 t) {x : List UInt8} {z : Int} {n : Nat} (h : pt ⟨o, k, v, d, s⟩ b t = (x, z)) (hn : x.length = n) :
    Calls Try.prog 18 #[.agg #[.int .i64 o, .string k, .string v, .bool d, .int .i64 s], .int .i64 b, .int .i64 t] w fun e w' => e = .returned (.int .i64 (n : Int)) ∧ Below w.heap.size w w' := by
  have h1 := Size_any o s k v d b t w ho hs hk hv hb ht
  rw [h] at h1
  subst hn
  exact h1
theorem Check_is (o s : Int) (k v : ByteArray) (d : Bool) (w : World) (ho : I64 o) (hs : I64 s) (hk : k.size ≤ 1099511627776) (hv : v.size ≤ 1099511627776) {z : Int} (h : chk ⟨o, k, v, d, s⟩ = z) :
    Calls Try.prog 16 #[.agg #[.int .i64 o, .string k, .string v, .bool d, .int .i64 s]] w fun e w' => e = .returned (.int .i64 z) ∧ Below w.heap.size w w' := by
  subst h
  exact Check_any o s k v d w ho hs hk hv
theorem Get_is (A : Option Addr) (n c : Nat) (l : List UInt8) (B : Nat) (p b t : Int) (w : World) (hr : Rd w B A n l) (hB : B ≤ w.heap.size) (hc : n ≤ c) (hn : n ≤ 137438953472) (hp : I64 p) (hb : I64 b) (ht : I64 t) {r : Rc} {q z : Int} (h : gr l p b t = (r, q, z)) :
    Calls Try.prog 20 #[.slice A n c, .int .i64 p, .int .i64 b, .int .i64 t] w (RG w (r, q, z)) := by
  have h1 := Get_any A n c l B p b t w hr hB hc hn hp hb ht
  rw [h] at h1
  exact h1

def exK : ByteArray := ⟨#[107]⟩
def exV : ByteArray := ⟨#[118]⟩
def exR : Rc := ⟨12, exK, exV, false, 99⟩
theorem ex_may : may exR = true := by decide +kernel
theorem ex_put : pt exR 10 100 = ([4, 1, 0, 2, 107, 2, 118], 0) := by
  have h := pt_yes (r := exR) (b := 10) (t := 100) ex_may (by decide) (by decide)
  rw [h]
  have : rb exR 10 100 = [4, 1, 0, 2, 107, 2, 118] := by
    unfold rb tx
    rw [vb_small (by decide), vb_small (by decide), vb_small (by decide), vb_small (by decide)]
    decide +kernel
  rw [this]
theorem ex_get : gr [4, 1, 0, 2, 107, 2, 118] 0 10 100 = (exR, 7, 0) := by
  have h := gr_rb (r := exR) (base := 10) (stamp := 100) ex_may (by decide) (by decide) [] []
  have e := ex_put
  rw [pt_yes (r := exR) (b := 10) (t := 100) ex_may (by decide) (by decide)] at e
  have e2 : rb exR 10 100 = [4, 1, 0, 2, 107, 2, 118] := congrArg Prod.fst e
  rw [e2] at h
  exact h
theorem ex_none : gr [] 0 10 100 = (nil, 0, 10) := gr_end (l := []) (by decide) (by decide)
theorem ex_dead : chk ⟨0, ByteArray.empty, ByteArray.empty, true, 0⟩ = 1 := by decide +kernel
theorem ex_neg : chk ⟨-1, ByteArray.empty, ByteArray.empty, false, 0⟩ = 1 := by decide +kernel
theorem ex_chk : chk exR = 0 := by unfold chk; rw [ex_may]; rfl

theorem i12 : I64 12 := by unfold I64; omega
theorem i99 : I64 99 := by unfold I64; omega
theorem i10 : I64 10 := by unfold I64; omega
theorem i100 : I64 100 := by unfold I64; omega
theorem i0 : I64 0 := by unfold I64; omega
theorem i1 : I64 (-1) := by unfold I64; omega
theorem Put_ex (w : World) : Calls Try.prog 14 #[.agg #[.int .i64 12, .string ⟨#[107]⟩, .string ⟨#[118]⟩, .bool false, .int .i64 99], .int .i64 10, .int .i64 100] w (OPr 5 w.heap.size w [4, 1, 0, 2, 107, 2, 118] 0) :=
  Put_is 12 99 exK exV false 10 100 w i12 i99 (by decide) (by decide) i10 i100 ex_put
theorem Size_ex (w : World) : Calls Try.prog 18 #[.agg #[.int .i64 12, .string ⟨#[107]⟩, .string ⟨#[118]⟩, .bool false, .int .i64 99], .int .i64 10, .int .i64 100] w fun e w' => e = .returned (.int .i64 7) ∧ Below w.heap.size w w' :=
  Size_is 12 99 exK exV false 10 100 w i12 i99 (by decide) (by decide) i10 i100 ex_put rfl
theorem Check_ex (w : World) : Calls Try.prog 16 #[.agg #[.int .i64 12, .string ⟨#[107]⟩, .string ⟨#[118]⟩, .bool false, .int .i64 99]] w fun e w' => e = .returned (.int .i64 0) ∧ Below w.heap.size w w' :=
  Check_is 12 99 exK exV false w i12 i99 (by decide) (by decide) ex_chk
theorem Check_dead (w : World) : Calls Try.prog 16 #[.agg #[.int .i64 0, .string ⟨#[]⟩, .string ⟨#[]⟩, .bool true, .int .i64 0]] w fun e w' => e = .returned (.int .i64 1) ∧ Below w.heap.size w w' :=
  Check_is 0 0 _ _ true w i0 i0 (by decide) (by decide) ex_dead
theorem Check_neg (w : World) : Calls Try.prog 16 #[.agg #[.int .i64 (-1), .string ⟨#[]⟩, .string ⟨#[]⟩, .bool false, .int .i64 0]] w fun e w' => e = .returned (.int .i64 1) ∧ Below w.heap.size w w' :=
  Check_is (-1) 0 _ _ false w i1 i0 (by decide) (by decide) ex_neg
theorem Get_ex (A : Option Addr) (c : Nat) (B : Nat) (w : World) (hr : Rd w B A 7 [4, 1, 0, 2, 107, 2, 118]) (hB : B ≤ w.heap.size) (hc : 7 ≤ c) : Calls Try.prog 20 #[.slice A 7 c, .int .i64 0, .int .i64 10, .int .i64 100] w fun e w' =>
    e = .returned (.tuple #[.agg #[.int .i64 12, .string ⟨#[107]⟩, .string ⟨#[118]⟩, .bool false, .int .i64 99], .int .i64 7, .int .i64 0]) ∧ Below w.heap.size w w' :=
  Get_is A 7 c _ B 0 10 100 w hr hB hc (by omega) i0 i10 i100 ex_get
theorem Get_none (w : World) : Calls Try.prog 20 #[.slice none 0 0, .int .i64 0, .int .i64 10, .int .i64 100] w fun e w' =>
    e = .returned (.tuple #[.agg #[.int .i64 0, .string ByteArray.empty, .string ByteArray.empty, .bool false, .int .i64 0], .int .i64 0, .int .i64 10]) ∧ Below w.heap.size w w' :=
  Get_is none 0 0 [] 0 0 10 100 w Rd.nil (Nat.zero_le _) (Nat.le_refl _) (by omega) i0 i10 i100 ex_none

set_option maxRecDepth 100000 in
set_option maxHeartbeats 1000000 in
theorem live_any (w : World) : Calls Try.prog 12 #[] w fun e w' => e = .returned (.bool true) ∧ Below w.heap.size w w' := by
  have HBX := Lib.hid (box_new w 23 ⟨12, ⟨#[107]⟩, ⟨#[118]⟩, false, 99⟩)
  have hsz : w.heap.size < (w.alloc (.cells #[.int .i64 12, .string ⟨#[107]⟩, .string ⟨#[118]⟩, .bool false, .int .i64 99] 23)).heap.size := by simp
  go_enter Try.func12, Try.ntmps12
  go_wp2_with (first
    | (go_at_call 20; (with_reducible refine (Get_none _).mono ?_); rintro e w4 ⟨rfl, hb4⟩)
    | (go_at_call 20; (with_reducible refine (Get_ex A2 c2 _ w2 hown2.rd (Nat.le_refl _) hown2.cap).mono ?_); rintro e w3 ⟨rfl, hb3⟩)
    | (go_at_call 14; (with_reducible refine (Put_ex _).mono ?_); rintro e w2 ⟨A2, n2, c2, rfl, hown2, hb2⟩; have hn2 : n2 = 7 := hown2.len.symm; subst hn2))
  have hb12 := bel_trans (bel_alloc (Below.refl _ _) _) hb2
  have hb13 := bel_trans hb12 hb3
  have hb14 := bel_trans (bel_alloc hb13 (.cells #[.int .i64 12, .string ⟨#[107]⟩, .string ⟨#[118]⟩, .bool false, .int .i64 99] 23)) hb4
  have hs3 : w3.heap.size < (w3.alloc (.cells #[.int .i64 12, .string ⟨#[107]⟩, .string ⟨#[118]⟩, .bool false, .int .i64 99] 23)).heap.size := by simp
  have hs4 : w3.heap.size < w4.heap.size := Nat.lt_of_lt_of_le hs3 hb4.size
  have hs2 : w.heap.size < w2.heap.size := Nat.lt_of_lt_of_le hsz hb2.size
  have hb34 : Below w2.heap.size w2 w4 := (bel_alloc hb3 _).trans (hb4.mono (Nat.le_trans hb3.size (Nat.le_of_lt hs3)))
  have HX4 := Lib.hid ((box_new w3 23 ⟨12, ⟨#[107]⟩, ⟨#[118]⟩, false, 99⟩).below hb4 hs3)
  have HR4 := Lib.hid ((HBX.out.below hb2 hsz).below hb34 hs2)
  have HRD := Lib.hid (hown2.rd.below hb34 (Nat.le_refl _))
  obtain ⟨w5, hw5⟩ : ∃ w5, w5 = w4.alloc (.cells #[.int .i64 0, .string ByteArray.empty, .string ByteArray.empty, .bool false, .int .i64 0] 23) := ⟨_, rfl⟩
  rw [← hw5]
  have hb5 : Below w4.heap.size w4 w5 := by rw [hw5]; exact bel_alloc (Below.refl _ _) _
  have hb15 := Lib.hid (bel_trans hb14 hb5)
  obtain ⟨x0, x1, x2, x3, x4⟩ := HX4.out.below hb5 hs4
  have hs24 : w.heap.size < w4.heap.size := Nat.lt_of_lt_of_le hs2 hb34.size
  have HR5 := Lib.hid (HR4.out.below hb5 hs24)
  obtain ⟨p0, p1, p2, p3, p4⟩ := HR5.out
  have hs5 : w.heap.size < w5.heap.size := Nat.lt_of_lt_of_le hs24 hb5.size
  have r1 := str_of w5 _ A2 7 c2 [4, 1, 0, 2, 107, 2, 118] (HRD.out.below hb5 hb34.size)
  clear hb12 hb13 hb14 hb34 hb2 hb3 hb4 hown2 hw5 hb5 hs3
  rw [r1]
  go_wp2_with (first
    | (go_at_call 16; (with_reducible refine (Check_neg _).mono ?_); rintro e w9 ⟨rfl, hb9⟩)
    | (go_at_call 16; (with_reducible refine (Check_dead _).mono ?_); rintro e w8 ⟨rfl, hb8⟩)
    | (go_at_call 16; (with_reducible refine (Check_ex w6).mono ?_); rintro e w7 ⟨rfl, hb7⟩)
    | (go_at_call 18; (with_reducible refine (Size_ex w5).mono ?_); rintro e w6 ⟨rfl, hb6⟩; obtain ⟨q0, q1, q2, q3, q4⟩ := HR5.out.below hb6 hs5))
  go_ret
  exact ⟨rfl, bel_trans (bel_trans (bel_trans (bel_trans hb15.out hb6) hb7) hb8) hb9⟩
end Go.Proofs.Ytfjdalekpmlnaaa.Rec
