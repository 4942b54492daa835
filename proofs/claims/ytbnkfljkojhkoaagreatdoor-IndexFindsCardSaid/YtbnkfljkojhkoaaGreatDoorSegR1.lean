/- Joined: SegR1. -/
import Derived.Test.YtbnkfljkojhkoaaGreatDoorJSegM
import Derived.Test.YtbnkfljkojhkoaaGreatDoorBatRow
import Derived.Test.YtbnkfljkojhkoaaGreatDoorJBatDc
import Derived.Test.YtbnkfljkojhkoaaGreatDoorJSegS
import Derived.Test.YtbnkfljkojhkoaaGreatDoorJIn
/- The document's Scan of a segment. -/
namespace Go.Proofs.YtbnkfljkojhkoaaGreatDoor.Seg
open Go.RowKit Oct Rec Crc Bat InR

theorem refBGet_is (A : Option Addr) (n c : Nat) (l : List UInt8) (p : Int) (w : World) (hr : Rd w w.heap.size A n l) (hc : n ≤ c) (hn : n ≤ 137438953472) (hp : I64 p) {ba la fr ep pi ge se : Int} {tx : Bool} {ct : Int} {rs : List Rc} {q z : Int} (h : grB l p = (⟨ba, la, fr, ep, pi, ge, se, tx, ct, rs⟩, q, z)) :
    Calls Tryz.prog 38 #[.slice A n c, .int .i64 p] w fun e w' => ∃ A' n' c', e = .returned (.tuple #[.agg #[.int .i64 ba, .int .i64 la, .int .i64 fr, .int .i64 ep, .int .i64 pi, .int .i64 ge, .int .i64 se, .bool tx, .int .i64 ct, .slice A' n' c'], .int .i64 q, .int .i64 z]) ∧ n' ≤ c' ∧ OwnR w' w.heap.size A' n' rs ∧ Below w.heap.size w w' := by
  have h1 := refBGet_any A n c l p w hr hc hn hp
  rw [h] at h1
  exact h1
theorem endR_le {lo : Int} {l : List Bt} (h : ris lo l = true) : lo ≤ endR lo l := by
  induction l generalizing lo with
  | nil => exact Int.le_refl _
  | cons b l ih =>
    obtain ⟨⟨h1, h2⟩, h3⟩ := ris_cons.1 h
    have h4 := ih h3
    have h5 := chB_last h1
    show lo ≤ endR (b.last + 1) l
    omega
theorem endR_last {lo : Int} {l : List Bt} (h : l ≠ []) : ∃ y, l[l.length - 1]? = some y ∧ endR lo l = y.last + 1 := by
  obtain ⟨l', y, rfl⟩ : ∃ l' y, l = l' ++ [y] := ⟨l.dropLast, l.getLast h, (List.dropLast_concat_getLast h).symm⟩
  refine ⟨y, ?_, endR_snoc⟩
  rw [List.length_append, List.length_singleton, Nat.add_sub_cancel, List.getElem?_append_right (Nat.le_refl _), Nat.sub_self]
  rfl
def rsRel (base : Int) (bs : List UInt8) (N : Nat) (w : World) (vo vg : Value) (wr : World) : Prop :=
  ∃ (l : List Bt) (A1 : Option Addr) (n1 c1 : Nat), vo = .slice A1 n1 c1 ∧ vg = .int .i64 ((byR l).length : Int) ∧ OwnT wr 36 (fun b => N ≤ b) N (.slice A1 n1 c1) n1 l ∧ (sc base bs).1 = l ++ (sc (endR base l) (bs.drop (byR l).length)).1 ∧ (byR l).length ≤ bs.length ∧ Below N w wr
def tb_rscan : List (Nat × Nat) := [(0, 67108863), (1, 67108862), (2, 67108861), (4, 67108859), (12, 67108851), (4, 67108859), (36, 67108827), (84, 67108779), (132, 67108731), (260, 67108607), (512, 67108351), (1536, 67107327), (2560, 67106303), (4608, 67104255), (8192, 67100671), (24576, 67084287), (8192, 67100671), (8192, 67100671), (139264, 66969599), (270336, 66838527), (598016, 66510847), (1056768, 66052095), (2105344, 65003519), (4235264, 62873599), (8397312, 58711551), (16777728, 50331135)]
set_option maxRecDepth 100000 in
set_option maxHeartbeats 16000000 in
theorem refScan_any (A : Option Addr) (n c : Nat) (base : Int) (bs : List UInt8) (w : World) (hr : Rd w w.heap.size A n bs) (hc : n ≤ c) (hn : n ≤ 137438953472) (_hI : I64 base) :
    Calls Tryz.prog 26 #[.agg #[.int .i64 base, .slice A n c]] w (RSc w (sc base bs).1 (sc base bs).2) := by
  have HR := Lib.hid hr
  have hlen := hr.len
  have HSC := Lib.hid (sc_good base bs)
  have hmx : Tryz.prog.follows .mixedOrders = true := by kernel_rfl
  clear hr
  go_enter Tryz.func26, Tryz.ntmps26
  go_wp2
  obtain ⟨w1, hw1⟩ : ∃ w1, w.alloc (.cells #[.int .i64 base, .slice A n c] 24) = w1 := ⟨_, rfl⟩
  rw [hw1]
  obtain ⟨N, hN⟩ : ∃ N, N = w.heap.size := ⟨_, rfl⟩
  rw [← hN]
  have hw1s : w1.heap.size = N + 1 := by rw [← hw1, hN]; simp
  have HB1 := Lib.hid (show Below N w w1 by rw [← hw1, hN]; exact bel_alloc (Below.refl _ _) _)
  have hs0 : w1.cell? ⟨N, 0, none⟩ = some (.int .i64 base) := by rw [← hw1, hN]; simp [go_sem]
  have hs1 : w1.cell? ⟨N, 1, none⟩ = some (.slice A n c) := by rw [← hw1, hN]; simp [go_sem]
  rw [← hN] at HR
  have HNN := Lib.hid hN
  clear hw1 hN
  go_loopw [4, 5] (fun vo vg wr => rsRel base bs (N + 1) w1 vo vg wr) (fun _ vg _ => n - (intOf vg).toNat)
  case atStart => exact ⟨[], none, 0, 0, rfl, rfl, OwnT.nil, by rw [byR_nil]; rfl, by rw [byR_nil]; simp, Below.refl _ _⟩
  case round =>
    obtain ⟨l, A1, n1, c1, rfl, rfl, ho, hx, hkl, hB⟩ := hrel
    obtain ⟨G, hG⟩ : ∃ G, G = (byR l).length := ⟨_, rfl⟩
    rw [← hG] at hx hkl ⊢
    have HGE := Lib.hid hG
    have HX := Lib.hid hx
    have HO := Lib.hid ho
    have HBL := Lib.hid hB
    have hsz : N + 1 ≤ wr.heap.size := by have := hB.size; omega
    have HRR := Lib.hid (((HR.out.below HB1.out (Nat.le_refl _)).more (by omega : N ≤ N + 1)).below hB (Nat.le_refl _) |>.more (by omega : N + 1 ≤ wr.heap.size))
    have hNl : N < wr.heap.size := by omega
    have hX0 := (hB.cell (p := ⟨N, 0, none⟩) (Nat.lt_succ_self N)).trans hs0
    have hX1 := (hB.cell (p := ⟨N, 1, none⟩) (Nat.lt_succ_self N)).trans hs1
    have hn1 := ho.len
    have hn1s : n1 ≤ 137438953472 := by have := byR_ge l; omega
    have HRI := Lib.hid (show ris base l = true by have h1 := HSC.out.1; rw [hx, ris_app] at h1; exact h1.1)
    clear hx ho hB hG
    rcases grB_here (endR base l) hkl with ⟨hs0', hsT⟩ | ⟨b, hb, hlb, hG', hkl2, hsx⟩
    · rcases hG : grB bs (G : Int) with ⟨b, q, z⟩
      have hsz' := hsT b q z hG
      have HFIN := Lib.hid (show (sc base bs).1 = l ∧ (sc base bs).2 = G by
        have h1 := HX.out
        rw [hs0', List.append_nil] at h1
        exact ⟨h1, by rw [HSC.out.2.1, h1, HGE.out]⟩)
      clear hs0' hsT
      obtain ⟨ba, la, fr, ep, pi, ge, se, tx, ct, rs⟩ := b
      have HG := Lib.hid hG
      clear hG
      by_cases hz : z = 0
      case neg =>
        have hzF : (z != 0) = true := by simp [hz]
        clear hsz' hn1
        go_wp2_with (first | (go_at_call 38; refine (refBGet_is A n c bs (G : Int) _ HRR.out hc hn (by unfold I64; omega) HG.out).mono ?_; rintro e w2 ⟨A4, n4, c4, rfl, hc4, ho4, hb2⟩))
        obtain ⟨w3, hw3⟩ : ∃ w3, w2.alloc (.cells #[.int .i64 ba, .int .i64 la, .int .i64 fr, .int .i64 ep, .int .i64 pi, .int .i64 ge, .int .i64 se, .bool tx, .int .i64 ct, .slice A4 n4 c4] 36) = w3 := ⟨_, rfl⟩
        rw [hw3]
        have HB3 := Lib.hid (show Below wr.heap.size wr w3 by rw [← hw3]; exact bel_alloc hb2 _)
        have x0 : w3.cell? ⟨w2.heap.size, 0, none⟩ = some (.int .i64 ba) := by rw [← hw3]; simp [go_sem]
        have hX3 := (HB3.out.cell (p := ⟨N, 0, none⟩) hNl).trans hX0
        have HS0 := Lib.hid (rfl : w3.drew = w3.drew)
        refine region_let (fun W9 : World => W9 = w3.drew) 99 26 hmx rfl fun ops Q HOPS HQ => ?_
        have HREG := reg_of HOPS tb_rscan rfl (by kernel_rfl) (by kernel_rfl) (by decide)
        refine sQ HOPS HREG 0 1 _ rfl HS0.out ?_
        dsimp only [List.set_cons_zero, List.set_cons_succ]
        refine sQ HOPS HREG 1 3 _ rfl HS0.out ?_
        dsimp only [List.set_cons_zero, List.set_cons_succ]
        refine sQ HOPS HREG 2 7 _ rfl HS0.out ?_
        dsimp only [List.set_cons_zero, List.set_cons_succ]
        refine sU HOPS HREG 3 15 rfl HS0.out ?_
        dsimp only [List.set_cons_zero, List.set_cons_succ]
        refine sU HOPS HREG 4 31 rfl HS0.out ?_
        dsimp only [List.set_cons_zero, List.set_cons_succ]
        refine sU HOPS HREG 5 63 rfl HS0.out ?_
        dsimp only [List.set_cons_zero, List.set_cons_succ]
        refine sU HOPS HREG 6 127 rfl HS0.out ?_
        dsimp only [List.set_cons_zero, List.set_cons_succ]
        refine sU HOPS HREG 7 255 rfl HS0.out ?_
        dsimp only [List.set_cons_zero, List.set_cons_succ]
        refine sQ HOPS HREG 8 511 _ rfl HS0.out ?_
        dsimp only [List.set_cons_zero, List.set_cons_succ]
        refine sQ HOPS HREG 9 1023 _ rfl HS0.out ?_
        dsimp only [List.set_cons_zero, List.set_cons_succ]
        refine sU HOPS HREG 10 2047 rfl HS0.out ?_
        dsimp only [List.set_cons_zero, List.set_cons_succ]
        refine sU HOPS HREG 11 4095 rfl HS0.out ?_
        dsimp only [List.set_cons_zero, List.set_cons_succ]
        refine sU HOPS HREG 12 8191 rfl HS0.out ?_
        dsimp only [List.set_cons_zero, List.set_cons_succ]
        refine sU HOPS HREG 13 16383 rfl HS0.out ?_
        dsimp only [List.set_cons_zero, List.set_cons_succ]
        refine sU HOPS HREG 14 32767 rfl HS0.out ?_
        dsimp only [List.set_cons_zero, List.set_cons_succ]
        refine sU HOPS HREG 15 65535 rfl HS0.out ?_
        dsimp only [List.set_cons_zero, List.set_cons_succ]
        refine sU HOPS HREG 16 131071 rfl HS0.out ?_
        dsimp only [List.set_cons_zero, List.set_cons_succ]
        refine sU HOPS HREG 17 262143 rfl HS0.out ?_
        dsimp only [List.set_cons_zero, List.set_cons_succ]
        refine sU HOPS HREG 18 524287 rfl HS0.out ?_
        dsimp only [List.set_cons_zero, List.set_cons_succ]
        refine sU HOPS HREG 19 1048575 rfl HS0.out ?_
        dsimp only [List.set_cons_zero, List.set_cons_succ]
        refine sU HOPS HREG 20 2097151 rfl HS0.out ?_
        dsimp only [List.set_cons_zero, List.set_cons_succ]
        refine sU HOPS HREG 21 4194303 rfl HS0.out ?_
        dsimp only [List.set_cons_zero, List.set_cons_succ]
        refine sU HOPS HREG 22 8388607 rfl HS0.out ?_
        dsimp only [List.set_cons_zero, List.set_cons_succ]
        refine sU HOPS HREG 23 16777215 rfl HS0.out ?_
        dsimp only [List.set_cons_zero, List.set_cons_succ]
        refine sU HOPS HREG 24 33554431 rfl HS0.out ?_
        dsimp only [List.set_cons_zero, List.set_cons_succ]
        refine sQ HOPS HREG 25 67108863 _ rfl HS0.out ?_
        dsimp only [List.set_cons_zero, List.set_cons_succ]
        refine stepE HOPS (by kernel_rfl) (HQ.out _ _ ?_)
        clear HQ HREG HOPS
        clear Q ops
        go_wp2
        refine bodyPost_ret (v := .tuple #[.slice A1 n1 c1, .int .i64 (G : Int)]) (by simp [results, Tryz.results26, go_sem]) rfl ?_
        exact ⟨_, n1, c1, by rw [HFIN.out.2], by rw [HFIN.out.1, ← HNN.out]; exact OwnT.drew (OwnT.more (HO.out.below HB3.out) (by omega) (fun b hb => by omega)), by rw [← HNN.out]; exact (HB1.out.trans ((HBL.out.trans (HB3.out.mono hsz)).mono (by omega))).drew⟩
      subst hz
      have hlo : ba < endR base l := hsz' rfl
      clear hsz'
      by_cases hbb : ba < base
      · clear hlo hn1
        go_wp2_with (first | (go_at_call 38; refine (refBGet_is A n c bs (G : Int) _ HRR.out hc hn (by unfold I64; omega) HG.out).mono ?_; rintro e w2 ⟨A4, n4, c4, rfl, hc4, ho4, hb2⟩))
        obtain ⟨w3, hw3⟩ : ∃ w3, w2.alloc (.cells #[.int .i64 ba, .int .i64 la, .int .i64 fr, .int .i64 ep, .int .i64 pi, .int .i64 ge, .int .i64 se, .bool tx, .int .i64 ct, .slice A4 n4 c4] 36) = w3 := ⟨_, rfl⟩
        rw [hw3]
        have HB3 := Lib.hid (show Below wr.heap.size wr w3 by rw [← hw3]; exact bel_alloc hb2 _)
        have x0 : w3.cell? ⟨w2.heap.size, 0, none⟩ = some (.int .i64 ba) := by rw [← hw3]; simp [go_sem]
        have hX3 := (HB3.out.cell (p := ⟨N, 0, none⟩) hNl).trans hX0
        have u7 : decide (ba < base) = true := decide_eq_true (by omega)
        have HS0 := Lib.hid (rfl : w3.drew = w3.drew)
        refine region_let (fun W9 : World => W9 = w3.drew) 99 26 hmx rfl fun ops Q HOPS HQ => ?_
        have HREG := reg_of HOPS tb_rscan rfl (by kernel_rfl) (by kernel_rfl) (by decide)
        refine sQ HOPS HREG 0 1 _ rfl HS0.out ?_
        dsimp only [List.set_cons_zero, List.set_cons_succ]
        refine sQ HOPS HREG 1 3 _ rfl HS0.out ?_
        dsimp only [List.set_cons_zero, List.set_cons_succ]
        refine sQ HOPS HREG 2 7 _ rfl HS0.out ?_
        dsimp only [List.set_cons_zero, List.set_cons_succ]
        refine sQ HOPS HREG 3 15 _ rfl HS0.out ?_
        dsimp only [List.set_cons_zero, List.set_cons_succ]
        refine sQ HOPS HREG 4 31 _ rfl HS0.out ?_
        dsimp only [List.set_cons_zero, List.set_cons_succ]
        refine sQ HOPS HREG 5 63 _ rfl HS0.out ?_
        dsimp only [List.set_cons_zero, List.set_cons_succ]
        refine sQ HOPS HREG 6 127 _ rfl HS0.out ?_
        dsimp only [List.set_cons_zero, List.set_cons_succ]
        refine sQ HOPS HREG 7 255 _ rfl HS0.out ?_
        dsimp only [List.set_cons_zero, List.set_cons_succ]
        refine sQ HOPS HREG 8 511 _ rfl HS0.out ?_
        dsimp only [List.set_cons_zero, List.set_cons_succ]
        refine sQ HOPS HREG 9 1023 _ rfl HS0.out ?_
        dsimp only [List.set_cons_zero, List.set_cons_succ]
        refine sU HOPS HREG 10 2047 rfl HS0.out ?_
        dsimp only [List.set_cons_zero, List.set_cons_succ]
        refine sU HOPS HREG 11 4095 rfl HS0.out ?_
        dsimp only [List.set_cons_zero, List.set_cons_succ]
        refine sU HOPS HREG 12 8191 rfl HS0.out ?_
        dsimp only [List.set_cons_zero, List.set_cons_succ]
        refine sU HOPS HREG 13 16383 rfl HS0.out ?_
        dsimp only [List.set_cons_zero, List.set_cons_succ]
        refine sU HOPS HREG 14 32767 rfl HS0.out ?_
        dsimp only [List.set_cons_zero, List.set_cons_succ]
        refine sU HOPS HREG 15 65535 rfl HS0.out ?_
        dsimp only [List.set_cons_zero, List.set_cons_succ]
        refine sU HOPS HREG 16 131071 rfl HS0.out ?_
        dsimp only [List.set_cons_zero, List.set_cons_succ]
        refine sU HOPS HREG 17 262143 rfl HS0.out ?_
        dsimp only [List.set_cons_zero, List.set_cons_succ]
        refine sU HOPS HREG 18 524287 rfl HS0.out ?_
        dsimp only [List.set_cons_zero, List.set_cons_succ]
        refine sU HOPS HREG 19 1048575 rfl HS0.out ?_
        dsimp only [List.set_cons_zero, List.set_cons_succ]
        refine sU HOPS HREG 20 2097151 rfl HS0.out ?_
        dsimp only [List.set_cons_zero, List.set_cons_succ]
        refine sU HOPS HREG 21 4194303 rfl HS0.out ?_
        dsimp only [List.set_cons_zero, List.set_cons_succ]
        refine sU HOPS HREG 22 8388607 rfl HS0.out ?_
        dsimp only [List.set_cons_zero, List.set_cons_succ]
        refine sU HOPS HREG 23 16777215 rfl HS0.out ?_
        dsimp only [List.set_cons_zero, List.set_cons_succ]
        refine sU HOPS HREG 24 33554431 rfl HS0.out ?_
        dsimp only [List.set_cons_zero, List.set_cons_succ]
        refine sQ HOPS HREG 25 67108863 _ rfl HS0.out ?_
        dsimp only [List.set_cons_zero, List.set_cons_succ]
        refine stepE HOPS (by kernel_rfl) (HQ.out _ _ ?_)
        clear HQ HREG HOPS
        clear Q ops
        go_wp2
        refine bodyPost_ret (v := .tuple #[.slice A1 n1 c1, .int .i64 (G : Int)]) (by simp [results, Tryz.results26, go_sem]) rfl ?_
        exact ⟨_, n1, c1, by rw [HFIN.out.2], by rw [HFIN.out.1, ← HNN.out]; exact OwnT.drew (OwnT.more (HO.out.below HB3.out) (by omega) (fun b hb => by omega)), by rw [← HNN.out]; exact (HB1.out.trans ((HBL.out.trans (HB3.out.mono hsz)).mono (by omega))).drew⟩
      · by_cases hl0 : l = []
        · subst hl0
          exact absurd hlo hbb
        · obtain ⟨y, hy, hye⟩ := endR_last (lo := base) hl0
          have hne : 0 < l.length := List.length_pos_iff.2 hl0
          obtain ⟨yl, hyL⟩ : ∃ yl, yl = y.last := ⟨_, rfl⟩
          have hcmp : ba ≤ yl := by omega
          clear hlo hye hl0
          go_wp2_with (first | (go_at_call 38; refine (refBGet_is A n c bs (G : Int) _ HRR.out hc hn (by unfold I64; omega) HG.out).mono ?_; rintro e w2 ⟨A4, n4, c4, rfl, hc4, ho4, hb2⟩))
          obtain ⟨w3, hw3⟩ : ∃ w3, w2.alloc (.cells #[.int .i64 ba, .int .i64 la, .int .i64 fr, .int .i64 ep, .int .i64 pi, .int .i64 ge, .int .i64 se, .bool tx, .int .i64 ct, .slice A4 n4 c4] 36) = w3 := ⟨_, rfl⟩
          rw [hw3]
          have HB3 := Lib.hid (show Below wr.heap.size wr w3 by rw [← hw3]; exact bel_alloc hb2 _)
          have x0 : w3.cell? ⟨w2.heap.size, 0, none⟩ = some (.int .i64 ba) := by rw [← hw3]; simp [go_sem]
          have hX3 := (HB3.out.cell (p := ⟨N, 0, none⟩) hNl).trans hX0
          have hn1p : 0 < n1 := by omega
          obtain ⟨yb, yo, yx, yA, yn, yc, rfl, hyl, hyk, _, _, _, _, hyc⟩ := (HO.out.below HB3.out).rd.at (k := n1 - 1) (by omega)
          have hyy : yx = y := by have h1 := hyk; rw [← hn1] at h1; rw [hy] at h1; exact (Option.some.inj h1).symm
          have hwp : IntKind.i64.wrap ((n1 : Int) - 1) = (n1 : Int) - 1 := IntWalk.i64_in _ (by omega)
          have hq0 : 0 ≤ (n1 : Int) - 1 := by omega
          have hq2 : (1 : Int) ≤ (n1 : Int) := by omega
          have hq1 : (n1 : Int) - 1 < (n1 : Int) := by omega
          have htn : ((n1 : Int) - 1).toNat = n1 - 1 := by omega
          have hy1 : w3.cell? ⟨yb, yo + (n1 - 1) * 10 + 1, none⟩ = some (.int .i64 yl) := by have h1 := hyc 1 _ rfl; rw [hyy] at h1; rw [hyL]; exact h1
          clear hyc hyk hyy hy hyL hn1 hne
          have u7 : decide (ba < base) = false := decide_eq_false (by omega)
          have u12 : decide ((0 : Int) < (n1 : Int)) = true := decide_eq_true (by omega)
          have u23 : decide (ba ≤ yl) = true := decide_eq_true (by omega)
          have HS0 := Lib.hid (rfl : w3.drew = w3.drew)
          refine region_let (fun W9 : World => W9 = w3.drew) 99 26 hmx rfl fun ops Q HOPS HQ => ?_
          have HREG := reg_of HOPS tb_rscan rfl (by kernel_rfl) (by kernel_rfl) (by decide)
          refine sQ HOPS HREG 0 1 _ rfl HS0.out ?_
          dsimp only [List.set_cons_zero, List.set_cons_succ]
          refine sQ HOPS HREG 1 3 _ rfl HS0.out ?_
          dsimp only [List.set_cons_zero, List.set_cons_succ]
          refine sQ HOPS HREG 2 7 _ rfl HS0.out ?_
          dsimp only [List.set_cons_zero, List.set_cons_succ]
          refine sQ HOPS HREG 3 15 _ rfl HS0.out ?_
          dsimp only [List.set_cons_zero, List.set_cons_succ]
          refine sQ HOPS HREG 4 31 _ rfl HS0.out ?_
          dsimp only [List.set_cons_zero, List.set_cons_succ]
          refine sQ HOPS HREG 5 63 _ rfl HS0.out ?_
          dsimp only [List.set_cons_zero, List.set_cons_succ]
          refine sQ HOPS HREG 6 127 _ rfl HS0.out ?_
          dsimp only [List.set_cons_zero, List.set_cons_succ]
          refine sQ HOPS HREG 7 255 _ rfl HS0.out ?_
          dsimp only [List.set_cons_zero, List.set_cons_succ]
          refine sQ HOPS HREG 8 511 _ rfl HS0.out ?_
          dsimp only [List.set_cons_zero, List.set_cons_succ]
          refine sQ HOPS HREG 9 1023 _ rfl HS0.out ?_
          dsimp only [List.set_cons_zero, List.set_cons_succ]
          refine sQ HOPS HREG 10 2047 _ rfl HS0.out ?_
          dsimp only [List.set_cons_zero, List.set_cons_succ]
          refine sQ HOPS HREG 11 4095 _ rfl HS0.out ?_
          dsimp only [List.set_cons_zero, List.set_cons_succ]
          refine sQ HOPS HREG 12 8191 _ rfl HS0.out ?_
          dsimp only [List.set_cons_zero, List.set_cons_succ]
          refine sQ HOPS HREG 13 16383 _ rfl HS0.out ?_
          dsimp only [List.set_cons_zero, List.set_cons_succ]
          refine sQ HOPS HREG 14 32767 _ rfl HS0.out ?_
          dsimp only [List.set_cons_zero, List.set_cons_succ]
          refine sQ HOPS HREG 15 65535 _ rfl HS0.out ?_
          dsimp only [List.set_cons_zero, List.set_cons_succ]
          refine sQ HOPS HREG 16 131071 _ rfl HS0.out ?_
          dsimp only [List.set_cons_zero, List.set_cons_succ]
          refine sQ HOPS HREG 17 262143 _ rfl HS0.out ?_
          dsimp only [List.set_cons_zero, List.set_cons_succ]
          refine sQ HOPS HREG 18 524287 _ rfl HS0.out ?_
          dsimp only [List.set_cons_zero, List.set_cons_succ]
          refine sQ HOPS HREG 19 1048575 _ rfl HS0.out ?_
          dsimp only [List.set_cons_zero, List.set_cons_succ]
          refine sQ HOPS HREG 20 2097151 _ rfl HS0.out ?_
          dsimp only [List.set_cons_zero, List.set_cons_succ]
          refine sQ HOPS HREG 21 4194303 _ rfl HS0.out ?_
          dsimp only [List.set_cons_zero, List.set_cons_succ]
          refine sQ HOPS HREG 22 8388607 _ rfl HS0.out ?_
          dsimp only [List.set_cons_zero, List.set_cons_succ]
          refine sQ HOPS HREG 23 16777215 _ rfl HS0.out ?_
          dsimp only [List.set_cons_zero, List.set_cons_succ]
          refine sQ HOPS HREG 24 33554431 _ rfl HS0.out ?_
          dsimp only [List.set_cons_zero, List.set_cons_succ]
          refine sQ HOPS HREG 25 67108863 _ rfl HS0.out ?_
          dsimp only [List.set_cons_zero, List.set_cons_succ]
          refine stepE HOPS (by kernel_rfl) (HQ.out _ _ ?_)
          clear HQ HREG HOPS
          clear Q ops
          go_wp2
          refine bodyPost_ret (v := .tuple #[.slice (some ⟨yb, yo, none⟩) n1 c1, .int .i64 (G : Int)]) (by simp [results, Tryz.results26, go_sem]) rfl ?_
          exact ⟨_, n1, c1, by rw [HFIN.out.2], by rw [HFIN.out.1, ← HNN.out]; exact OwnT.drew (OwnT.more (HO.out.below HB3.out) (by omega) (fun b hb => by omega)), by rw [← HNN.out]; exact (HB1.out.trans ((HBL.out.trans (HB3.out.mono hsz)).mono (by omega))).drew⟩
    · obtain ⟨kn, hkn⟩ : ∃ kn, kn = G + (byB b).length := ⟨_, rfl⟩
      rw [← hkn] at hG' hkl2 hsx
      have hlast := chB_last hb
      have hlen17 := byB_length b
      have HKN := Lib.hid (show (byR (l ++ [b])).length = kn by rw [byR_snoc, List.length_append, hkn, HGE.out])
      have HS := Lib.hid (show (sc base bs).1 = (l ++ [b]) ++ (sc (endR base (l ++ [b])) (bs.drop (byR (l ++ [b])).length)).1 by rw [endR_snoc, HKN.out, HX.out, hsx, List.append_assoc]; rfl)
      have hkk : G < kn := by omega
      have HCH := Lib.hid hb
      have hle := endR_le HRI.out
      clear hkn hsx hlen17 hb
      obtain ⟨ba, la, fr, ep, pi, ge, se, tx, ct, rs⟩ := b
      simp only at hlb hlast
      have HG := Lib.hid hG'
      clear hG'
      have hbb : ¬ ba < base := by omega
      by_cases hl0 : l = []
      · subst hl0
        obtain rfl : n1 = 0 := by simpa using hn1.symm
        clear hlb hle hn1
        go_wp2_with (first | (go_at_call 38; refine (refBGet_is A n c bs (G : Int) _ HRR.out hc hn (by unfold I64; omega) HG.out).mono ?_; rintro e w2 ⟨A4, n4, c4, rfl, hc4, ho4, hb2⟩))
        obtain ⟨w3, hw3⟩ : ∃ w3, w2.alloc (.cells #[.int .i64 ba, .int .i64 la, .int .i64 fr, .int .i64 ep, .int .i64 pi, .int .i64 ge, .int .i64 se, .bool tx, .int .i64 ct, .slice A4 n4 c4] 36) = w3 := ⟨_, rfl⟩
        rw [hw3]
        have HB3 := Lib.hid (show Below wr.heap.size wr w3 by rw [← hw3]; exact bel_alloc hb2 _)
        have x0 : w3.cell? ⟨w2.heap.size, 0, none⟩ = some (.int .i64 ba) := by rw [← hw3]; simp [go_sem]
        have hX3 := (HB3.out.cell (p := ⟨N, 0, none⟩) hNl).trans hX0
        have x1 : w3.cell? ⟨w2.heap.size, 1, none⟩ = some (.int .i64 la) := by rw [← hw3]; simp [go_sem]
        have x2 : w3.cell? ⟨w2.heap.size, 2, none⟩ = some (.int .i64 fr) := by rw [← hw3]; simp [go_sem]
        have x3 : w3.cell? ⟨w2.heap.size, 3, none⟩ = some (.int .i64 ep) := by rw [← hw3]; simp [go_sem]
        have x4 : w3.cell? ⟨w2.heap.size, 4, none⟩ = some (.int .i64 pi) := by rw [← hw3]; simp [go_sem]
        have x5 : w3.cell? ⟨w2.heap.size, 5, none⟩ = some (.int .i64 ge) := by rw [← hw3]; simp [go_sem]
        have x6 : w3.cell? ⟨w2.heap.size, 6, none⟩ = some (.int .i64 se) := by rw [← hw3]; simp [go_sem]
        have x7 : w3.cell? ⟨w2.heap.size, 7, none⟩ = some (.bool tx) := by rw [← hw3]; simp [go_sem]
        have x8 : w3.cell? ⟨w2.heap.size, 8, none⟩ = some (.int .i64 ct) := by rw [← hw3]; simp [go_sem]
        have x9 : w3.cell? ⟨w2.heap.size, 9, none⟩ = some (.slice A4 n4 c4) := by rw [← hw3]; simp [go_sem]
        have hs3 := HB3.out.size
        obtain ⟨A6, c6, w6, hrun, ho6, hg6, hat6, hb6⟩ := run_appT (P := Tryz.prog) (w := w3.drew) (N + 1) 56 56 36 Tryz.underlying56 batInfo (OwnT.drew (HO.out.below HB3.out)) (x := (⟨ba, la, fr, ep, pi, ge, se, tx, ct, rs⟩, A4, n4, c4)) (LeadT.away (m := wr.heap.size) ((lead_new (x := ((⟨ba, la, fr, ep, pi, ge, se, tx, ct, rs⟩, A4, n4, c4), 0)) ho4 hc4 HCH.out).below (show Below w2.heap.size w2 w3.drew by rw [← hw3]; exact (bel_alloc (Below.refl _ _) _).drew)) (by omega) (fun g hg => (OwnT.lt HO.out g hg).2)) (by omega) (show N + 1 ≤ w3.heap.size by omega)
        dsimp only [batC] at hrun
        have HO6 := Lib.hid ho6
        have HB6 := Lib.hid (HBL.out.trans (((HB3.out.mono hsz).drew).trans (hb6.mono (by omega))))
        clear ho6 hg6 hat6 hb6 ho4
        have u7 : decide (ba < base) = false := decide_eq_false (by omega)
        have HS0 := Lib.hid (rfl : w3.drew = w3.drew)
        refine region_let (fun W9 : World => W9 = w3.drew) 99 26 hmx rfl fun ops Q HOPS HQ => ?_
        have HREG := reg_of HOPS tb_rscan rfl (by kernel_rfl) (by kernel_rfl) (by decide)
        refine sQ HOPS HREG 0 1 _ rfl HS0.out ?_
        dsimp only [List.set_cons_zero, List.set_cons_succ]
        refine sQ HOPS HREG 1 3 _ rfl HS0.out ?_
        dsimp only [List.set_cons_zero, List.set_cons_succ]
        refine sQ HOPS HREG 2 7 _ rfl HS0.out ?_
        dsimp only [List.set_cons_zero, List.set_cons_succ]
        refine sQ HOPS HREG 3 15 _ rfl HS0.out ?_
        dsimp only [List.set_cons_zero, List.set_cons_succ]
        refine sQ HOPS HREG 4 31 _ rfl HS0.out ?_
        dsimp only [List.set_cons_zero, List.set_cons_succ]
        refine sQ HOPS HREG 5 63 _ rfl HS0.out ?_
        dsimp only [List.set_cons_zero, List.set_cons_succ]
        refine sQ HOPS HREG 6 127 _ rfl HS0.out ?_
        dsimp only [List.set_cons_zero, List.set_cons_succ]
        refine sQ HOPS HREG 7 255 _ rfl HS0.out ?_
        dsimp only [List.set_cons_zero, List.set_cons_succ]
        refine sQ HOPS HREG 8 511 _ rfl HS0.out ?_
        dsimp only [List.set_cons_zero, List.set_cons_succ]
        refine sQ HOPS HREG 9 1023 _ rfl HS0.out ?_
        dsimp only [List.set_cons_zero, List.set_cons_succ]
        refine sQ HOPS HREG 10 2047 _ rfl HS0.out ?_
        dsimp only [List.set_cons_zero, List.set_cons_succ]
        refine sQ HOPS HREG 11 4095 _ rfl HS0.out ?_
        dsimp only [List.set_cons_zero, List.set_cons_succ]
        refine sQ HOPS HREG 12 8191 _ rfl HS0.out ?_
        dsimp only [List.set_cons_zero, List.set_cons_succ]
        refine sQ HOPS HREG 13 16383 _ rfl HS0.out ?_
        dsimp only [List.set_cons_zero, List.set_cons_succ]
        refine sU HOPS HREG 14 32767 rfl HS0.out ?_
        dsimp only [List.set_cons_zero, List.set_cons_succ]
        refine sU HOPS HREG 15 65535 rfl HS0.out ?_
        dsimp only [List.set_cons_zero, List.set_cons_succ]
        refine sU HOPS HREG 16 131071 rfl HS0.out ?_
        dsimp only [List.set_cons_zero, List.set_cons_succ]
        refine sU HOPS HREG 17 262143 rfl HS0.out ?_
        dsimp only [List.set_cons_zero, List.set_cons_succ]
        refine sU HOPS HREG 18 524287 rfl HS0.out ?_
        dsimp only [List.set_cons_zero, List.set_cons_succ]
        refine sU HOPS HREG 19 1048575 rfl HS0.out ?_
        dsimp only [List.set_cons_zero, List.set_cons_succ]
        refine sU HOPS HREG 20 2097151 rfl HS0.out ?_
        dsimp only [List.set_cons_zero, List.set_cons_succ]
        refine sU HOPS HREG 21 4194303 rfl HS0.out ?_
        dsimp only [List.set_cons_zero, List.set_cons_succ]
        refine sU HOPS HREG 22 8388607 rfl HS0.out ?_
        dsimp only [List.set_cons_zero, List.set_cons_succ]
        refine sU HOPS HREG 23 16777215 rfl HS0.out ?_
        dsimp only [List.set_cons_zero, List.set_cons_succ]
        refine sQ HOPS HREG 24 33554431 _ rfl HS0.out ?_
        dsimp only [List.set_cons_zero, List.set_cons_succ]
        refine sQ HOPS HREG 25 67108863 _ rfl HS0.out ?_
        dsimp only [List.set_cons_zero, List.set_cons_succ]
        refine stepE HOPS (by kernel_rfl) (HQ.out _ _ ?_)
        clear HQ HREG HOPS
        clear Q ops
        go_wp2_with (at_builtin; refine wpList_app_run rfl _ _ 56 rfl rfl rfl hrun ?_)
        go_roundw
        case rel => exact ⟨[] ++ [_], A6, 0 + 1, c6, by go_num, by rw [HKN.out], HO6.out, HS.out, by rw [HKN.out]; exact hkl2, HB6.out⟩
        case measure => simp [intOf]; omega
      · obtain ⟨y, hy, hye⟩ := endR_last (lo := base) hl0
        have hne : 0 < l.length := List.length_pos_iff.2 hl0
        obtain ⟨yl, hyL⟩ : ∃ yl, yl = y.last := ⟨_, rfl⟩
        have hcmp : ¬ ba ≤ yl := by omega
        have HL0 := Lib.hid hl0
        clear hlb hle hye hl0
        go_wp2_with (first | (go_at_call 38; refine (refBGet_is A n c bs (G : Int) _ HRR.out hc hn (by unfold I64; omega) HG.out).mono ?_; rintro e w2 ⟨A4, n4, c4, rfl, hc4, ho4, hb2⟩))
        obtain ⟨w3, hw3⟩ : ∃ w3, w2.alloc (.cells #[.int .i64 ba, .int .i64 la, .int .i64 fr, .int .i64 ep, .int .i64 pi, .int .i64 ge, .int .i64 se, .bool tx, .int .i64 ct, .slice A4 n4 c4] 36) = w3 := ⟨_, rfl⟩
        rw [hw3]
        have HB3 := Lib.hid (show Below wr.heap.size wr w3 by rw [← hw3]; exact bel_alloc hb2 _)
        have x0 : w3.cell? ⟨w2.heap.size, 0, none⟩ = some (.int .i64 ba) := by rw [← hw3]; simp [go_sem]
        have hX3 := (HB3.out.cell (p := ⟨N, 0, none⟩) hNl).trans hX0
        have x1 : w3.cell? ⟨w2.heap.size, 1, none⟩ = some (.int .i64 la) := by rw [← hw3]; simp [go_sem]
        have x2 : w3.cell? ⟨w2.heap.size, 2, none⟩ = some (.int .i64 fr) := by rw [← hw3]; simp [go_sem]
        have x3 : w3.cell? ⟨w2.heap.size, 3, none⟩ = some (.int .i64 ep) := by rw [← hw3]; simp [go_sem]
        have x4 : w3.cell? ⟨w2.heap.size, 4, none⟩ = some (.int .i64 pi) := by rw [← hw3]; simp [go_sem]
        have x5 : w3.cell? ⟨w2.heap.size, 5, none⟩ = some (.int .i64 ge) := by rw [← hw3]; simp [go_sem]
        have x6 : w3.cell? ⟨w2.heap.size, 6, none⟩ = some (.int .i64 se) := by rw [← hw3]; simp [go_sem]
        have x7 : w3.cell? ⟨w2.heap.size, 7, none⟩ = some (.bool tx) := by rw [← hw3]; simp [go_sem]
        have x8 : w3.cell? ⟨w2.heap.size, 8, none⟩ = some (.int .i64 ct) := by rw [← hw3]; simp [go_sem]
        have x9 : w3.cell? ⟨w2.heap.size, 9, none⟩ = some (.slice A4 n4 c4) := by rw [← hw3]; simp [go_sem]
        have hs3 := HB3.out.size
        obtain ⟨A6, c6, w6, hrun, ho6, hg6, hat6, hb6⟩ := run_appT (P := Tryz.prog) (w := w3.drew) (N + 1) 56 56 36 Tryz.underlying56 batInfo (OwnT.drew (HO.out.below HB3.out)) (x := (⟨ba, la, fr, ep, pi, ge, se, tx, ct, rs⟩, A4, n4, c4)) (LeadT.away (m := wr.heap.size) ((lead_new (x := ((⟨ba, la, fr, ep, pi, ge, se, tx, ct, rs⟩, A4, n4, c4), 0)) ho4 hc4 HCH.out).below (show Below w2.heap.size w2 w3.drew by rw [← hw3]; exact (bel_alloc (Below.refl _ _) _).drew)) (by omega) (fun g hg => (OwnT.lt HO.out g hg).2)) (by omega) (show N + 1 ≤ w3.heap.size by omega)
        dsimp only [batC] at hrun
        have HO6 := Lib.hid ho6
        have HB6 := Lib.hid (HBL.out.trans (((HB3.out.mono hsz).drew).trans (hb6.mono (by omega))))
        clear ho6 hg6 hat6 hb6 ho4
        have hn1p : 0 < n1 := by omega
        obtain ⟨yb, yo, yx, yA, yn, yc, rfl, hyl, hyk, _, _, _, _, hyc⟩ := (HO.out.below HB3.out).rd.at (k := n1 - 1) (by omega)
        have hyy : yx = y := by have h1 := hyk; rw [← hn1] at h1; rw [hy] at h1; exact (Option.some.inj h1).symm
        have hwp : IntKind.i64.wrap ((n1 : Int) - 1) = (n1 : Int) - 1 := IntWalk.i64_in _ (by omega)
        have hq0 : 0 ≤ (n1 : Int) - 1 := by omega
        have hq2 : (1 : Int) ≤ (n1 : Int) := by omega
        have hq1 : (n1 : Int) - 1 < (n1 : Int) := by omega
        have htn : ((n1 : Int) - 1).toNat = n1 - 1 := by omega
        have hy1 : w3.cell? ⟨yb, yo + (n1 - 1) * 10 + 1, none⟩ = some (.int .i64 yl) := by have h1 := hyc 1 _ rfl; rw [hyy] at h1; rw [hyL]; exact h1
        clear hyc hyk hyy hy hyL hn1 hne
        have u7 : decide (ba < base) = false := decide_eq_false (by omega)
        have u12 : decide ((0 : Int) < (n1 : Int)) = true := decide_eq_true (by omega)
        have u23 : decide (ba ≤ yl) = false := decide_eq_false (by omega)
        have HS0 := Lib.hid (rfl : w3.drew = w3.drew)
        refine region_let (fun W9 : World => W9 = w3.drew) 99 26 hmx rfl fun ops Q HOPS HQ => ?_
        have HREG := reg_of HOPS tb_rscan rfl (by kernel_rfl) (by kernel_rfl) (by decide)
        refine sQ HOPS HREG 0 1 _ rfl HS0.out ?_
        dsimp only [List.set_cons_zero, List.set_cons_succ]
        refine sQ HOPS HREG 1 3 _ rfl HS0.out ?_
        dsimp only [List.set_cons_zero, List.set_cons_succ]
        refine sQ HOPS HREG 2 7 _ rfl HS0.out ?_
        dsimp only [List.set_cons_zero, List.set_cons_succ]
        refine sQ HOPS HREG 3 15 _ rfl HS0.out ?_
        dsimp only [List.set_cons_zero, List.set_cons_succ]
        refine sQ HOPS HREG 4 31 _ rfl HS0.out ?_
        dsimp only [List.set_cons_zero, List.set_cons_succ]
        refine sQ HOPS HREG 5 63 _ rfl HS0.out ?_
        dsimp only [List.set_cons_zero, List.set_cons_succ]
        refine sQ HOPS HREG 6 127 _ rfl HS0.out ?_
        dsimp only [List.set_cons_zero, List.set_cons_succ]
        refine sQ HOPS HREG 7 255 _ rfl HS0.out ?_
        dsimp only [List.set_cons_zero, List.set_cons_succ]
        refine sQ HOPS HREG 8 511 _ rfl HS0.out ?_
        dsimp only [List.set_cons_zero, List.set_cons_succ]
        refine sQ HOPS HREG 9 1023 _ rfl HS0.out ?_
        dsimp only [List.set_cons_zero, List.set_cons_succ]
        refine sQ HOPS HREG 10 2047 _ rfl HS0.out ?_
        dsimp only [List.set_cons_zero, List.set_cons_succ]
        refine sQ HOPS HREG 11 4095 _ rfl HS0.out ?_
        dsimp only [List.set_cons_zero, List.set_cons_succ]
        refine sQ HOPS HREG 12 8191 _ rfl HS0.out ?_
        dsimp only [List.set_cons_zero, List.set_cons_succ]
        refine sQ HOPS HREG 13 16383 _ rfl HS0.out ?_
        dsimp only [List.set_cons_zero, List.set_cons_succ]
        refine sQ HOPS HREG 14 32767 _ rfl HS0.out ?_
        dsimp only [List.set_cons_zero, List.set_cons_succ]
        refine sQ HOPS HREG 15 65535 _ rfl HS0.out ?_
        dsimp only [List.set_cons_zero, List.set_cons_succ]
        refine sQ HOPS HREG 16 131071 _ rfl HS0.out ?_
        dsimp only [List.set_cons_zero, List.set_cons_succ]
        refine sQ HOPS HREG 17 262143 _ rfl HS0.out ?_
        dsimp only [List.set_cons_zero, List.set_cons_succ]
        refine sQ HOPS HREG 18 524287 _ rfl HS0.out ?_
        dsimp only [List.set_cons_zero, List.set_cons_succ]
        refine sQ HOPS HREG 19 1048575 _ rfl HS0.out ?_
        dsimp only [List.set_cons_zero, List.set_cons_succ]
        refine sQ HOPS HREG 20 2097151 _ rfl HS0.out ?_
        dsimp only [List.set_cons_zero, List.set_cons_succ]
        refine sQ HOPS HREG 21 4194303 _ rfl HS0.out ?_
        dsimp only [List.set_cons_zero, List.set_cons_succ]
        refine sQ HOPS HREG 22 8388607 _ rfl HS0.out ?_
        dsimp only [List.set_cons_zero, List.set_cons_succ]
        refine sQ HOPS HREG 23 16777215 _ rfl HS0.out ?_
        dsimp only [List.set_cons_zero, List.set_cons_succ]
        refine sQ HOPS HREG 24 33554431 _ rfl HS0.out ?_
        dsimp only [List.set_cons_zero, List.set_cons_succ]
        refine sQ HOPS HREG 25 67108863 _ rfl HS0.out ?_
        dsimp only [List.set_cons_zero, List.set_cons_succ]
        refine stepE HOPS (by kernel_rfl) (HQ.out _ _ ?_)
        clear HQ HREG HOPS
        clear Q ops
        go_wp2_with (at_builtin; refine wpList_app_run rfl _ _ 56 rfl rfl rfl hrun ?_)
        go_roundw
        case rel => exact ⟨l ++ [_], A6, n1 + 1, c6, by go_num, by rw [HKN.out], HO6.out, HS.out, by rw [HKN.out]; exact hkl2, HB6.out⟩
        case measure => simp [intOf]; omega
end Go.Proofs.YtbnkfljkojhkoaaGreatDoor.Seg
