/- Joined: SqsDK, SqsV3, SqsLm. -/
import Derived.Test.YtllebgadhhgckaaDoorJ46
import Derived.Test.YtllebgadhhgckaaDoorJ38
import Derived.Defers
import Derived.Recover
import Derived.Test.YtllebgadhhgckaaDoorJ19
import Derived.Test.YtllebgadhhgckaaDoorJ13
import Derived.Test.YtllebgadhhgckaaDoorJ43
import Derived.Test.YtllebgadhhgckaaDoorJ44
import Derived.Test.YtllebgadhhgckaaDoorJ33
/- The landed seqs: read and Load of numbers that are there. -/
namespace Go.Proofs.YtllebgadhhgckaaDoor.Sqs
open Go.RowKit Oct Rec Crc RowF RowK RowO Lay Bat InR
open Epo (At0 AtO belA)

theorem catch_idle (p q : Addr) (w : World) :
    CallsD Tryd.prog 77 #[.pointer (some p), .pointer (some q)] .returning w fun e u' w' => e = .returned (.tuple #[]) ∧ u' = .returning ∧ w' = w := by
  refine callsD_of_wpS Tryd.func77 rfl fun c₀ cs hu => ?_
  apply wpS_seq
  apply wpS_region
  simp [wpOpsS, go_sem, recoverD, hu, Tryd.ntmps77, Exit.thenS]
  refine wpS_cond (t := false) (by simp [Act.eval, Array.replicate]) ?_
  simp only [Bool.false_eq_true, if_false]
  refine wpS_of_wp (wp_skip ?_)
  cases c₀
  simp_all [bodyPostS, results, Tryd.results77]
set_option maxRecDepth 100000 in
set_option maxHeartbeats 8000000 in
theorem read_ok (A : Option Addr) (n c B : Nat) (l : List Pd) (w : World) (hr : Rd w B A n (nb (numL l))) (hB : B ≤ w.heap.size) (hC : ckP l = 0) (hn : n ≤ 1000000) {m : Nat} (hm : l.length = m) :
    Calls Tryd.prog 56 #[.slice A n c] w fun e w' => ∃ A' c' hs, e = .returned (.tuple #[.slice A' m c', .int .i64 0]) ∧ OwnQ w' w.heap.size (.slice A' m c') m hs (fun _ => True) ∧ hs.map (·.1) = l ∧ Below w.heap.size w w' := by
  have hmf : ∀ (fn : Fn) (first cap : Array Value) (w : World), (Instr.makeFunc fn first cap).run Tryd.prog w = .ok (.func fn first cap) w := fun _ _ _ _ => rfl
  have b1 := belA w (.cells #[.slice none 0 0] 22)
  have b2 := belA (w.alloc (.cells #[.slice none 0 0] 22)) (.cells #[.int .i64 0] 28)
  have b3 := belA ((w.alloc (.cells #[.slice none 0 0] 22)).alloc (.cells #[.int .i64 0] 28)) (.cells #[.slice A n c, .int .i64 0] 101)
  have HB := Lib.hid (Epo.bel_trans (Epo.bel_trans b1 b2) b3)
  have HL := Lib.hid (((At0.new w [.slice none 0 0] 22).below b2).below b3)
  have h2 := (At0.new (w.alloc (.cells #[.slice none 0 0] 22)) [.int .i64 0] 28).below b3
  have h3 := At0.new ((w.alloc (.cells #[.slice none 0 0] 22)).alloc (.cells #[.int .i64 0] 28)) [.slice A n c, .int .i64 0] 101
  simp only [World.size_alloc] at h2 h3
  have HE := Lib.hid h2
  have HX := Lib.hid h3
  have HR := Lib.hid hr
  have HC := Lib.hid hC
  clear b1 b2 b3 h2 h3 hr hC
  go_enter_defers Tryd.func56, Tryd.ntmps56
  go_upto_region 3 with fail
  generalize (((w.alloc (.cells #[.slice none 0 0] 22)).alloc (.cells #[.int .i64 0] 28)).alloc (.cells #[.slice A n c, .int .i64 0] 101)) = W at *
  have hW : w.heap.size + 1 + 1 < W.heap.size := HX.out.lt
  have HRN := Lib.hid (show RdrN W (w.heap.size + 1 + 1) A n c (numL l) 0 from ⟨HX.out, (HR.out.below HB.out hB).more (by omega)⟩)
  have HPR := Lib.hid (prods_ok (w.heap.size + 1 + 1) A n c l W HRN.out HC.out hn)
  rw [hm] at HPR
  have HPOS := Lib.hid (show posN (numL l) (posP l m) = n from by
    have h1 : posP l m = (numL l).length := by
      unfold posP numL
      rw [List.take_of_length_le (by omega), List.length_cons]
      omega
    unfold posN
    rw [h1, List.take_length, HR.out.len])
  have HM := Lib.hid hm
  clear hm
  obtain ⟨l0, _⟩ : ∃ l0, l0 = W.cell? ⟨w.heap.size, 0, none⟩ := ⟨_, rfl⟩
  go_upto_region 4 with (go_at_call 78; (with_reducible refine HPR.out.mono ?_); rintro e w4 ⟨A4, c4, hs4, rfl, ho, hl, hr4, hg⟩; have HO4 := Lib.hid ho; have HL4 := Lib.hid hl; have HR4 := Lib.hid hr4; have HG4 := Lib.hid hg; have HLL := Lib.hid (at0_grown HL.out hg (fun e => by have := Option.some.inj e; omega)); have HEE := Lib.hid (at0_grown HE.out hg (fun e => by have := Option.some.inj e; omega)); have x0 := HLL.out.cell 0; have y0 := HLL.out.frozen 0; simp only [List.getElem?_cons_zero] at x0; clear ho hl hr4 hg)
  have HO5 := Lib.hid (HO4.out.setOld (p := ⟨w.heap.size, 0, none⟩) (by show w.heap.size < W.heap.size; omega) (.slice A4 m c4))
  have HL5 := Lib.hid (at0_set9 HLL.out 0 (.slice A4 m c4))
  have HE5 := Lib.hid (at0_grown HEE.out (grown_set9 (a := ⟨w.heap.size, 0, none⟩) (.slice A4 m c4)) (fun e => by have h1 := Option.some.inj e; simp only at h1; omega))
  have HR5 := Lib.hid (RdrN.box HR4.out)
  have HX5 := Lib.hid (at0_grown HR5.out (grown_set9 (a := ⟨w.heap.size, 0, none⟩) (.slice A4 m c4)) (fun e => by have h1 := Option.some.inj e; simp only at h1; omega))
  have HB5 := Lib.hid (show Below w.heap.size w (w4.setCell ⟨w.heap.size, 0, none⟩ (.slice A4 m c4)) from (HB.out.trans (below_grown9 HG4.out (by omega) (by omega))).setCell (Nat.le_refl _) _)
  clear x0 y0
  generalize w4.setCell ⟨w.heap.size, 0, none⟩ (.slice A4 m c4) = w5 at *
  have x0 := HL5.out.cell 0
  have r1 := HX5.out.cell 1
  simp only [List.set_cons_zero, List.getElem?_cons_zero, List.getElem?_cons_succ] at x0 r1
  rw [HPOS.out] at r1
  have HRP := Lib.hid (show RdP w5 w5.heap.size A4 m l from by have h9 := HO5.out.rd; rw [HL4.out] at h9; exact h9)
  have hmr : m ≤ reach := by have h1 := (ckP_iff.1 HC.out).1; rw [HM.out] at h1; exact Nat.le_trans h1 (by decide)
  go_upto_region 6 with (go_at_call 16; (with_reducible refine (dCheckP_is A4 m c4 l _ HRP.out hmr HC.out).mono ?_); rintro e w6 ⟨rfl, hb⟩; have HO6 := Lib.hid (HO5.out.below hb); have HL6 := Lib.hid (HL5.out.below hb); have HE6 := Lib.hid (HE5.out.below hb); have HB6 := Lib.hid (Epo.bel_trans HB5.out hb); clear hb)
  clear x0 r1
  have x0 := HL6.out.cell 0
  have y0 := HL6.out.frozen 0
  have x1 := HE6.out.cell 0
  have y1 := HE6.out.frozen 0
  simp only [List.set_cons_zero, List.getElem?_cons_zero] at x0 x1
  go_wp2
  refine leaves_cons (f := 77) (args := #[.pointer (some ⟨w.heap.size, 0, none⟩), .pointer (some ⟨w.heap.size + 1, 0, none⟩)]) (by simp) (by simp [go_sem]) ?_
  refine (catch_idle ⟨w.heap.size, 0, none⟩ ⟨w.heap.size + 1, 0, none⟩ _).mono ?_
  rintro e u' w'' ⟨rfl, rfl, rfl⟩
  have HO7 := Lib.hid ((HO6.out.setOld (p := ⟨w.heap.size, 0, none⟩) (by show w.heap.size < W.heap.size; omega) (.slice A4 m c4)).setOld (p := ⟨w.heap.size + 1, 0, none⟩) (by show w.heap.size + 1 < W.heap.size; omega) (.int .i64 0))
  have HB7 := Lib.hid (show Below w.heap.size w ((w6.setCell ⟨w.heap.size, 0, none⟩ (.slice A4 m c4)).setCell ⟨w.heap.size + 1, 0, none⟩ (.int .i64 0)) from (HB6.out.setCell (Nat.le_refl _) _).setCell (Nat.le_succ _) _)
  have HQ7 := Lib.hid (show ∃ A' c' hs, (.returned (.tuple #[.slice A4 m c4, .int .i64 0]) : Ending) = .returned (.tuple #[.slice A' m c', .int .i64 0]) ∧ OwnQ _ w.heap.size (.slice A' m c') m hs (fun _ => True) ∧ hs.map (·.1) = l ∧ Below w.heap.size w _ from ⟨A4, c4, hs4, rfl, HO7.out.more (by omega), HL4.out, HB7.out⟩)
  simp [Leaves, settle, results, Tryd.results56, go_sem, x0, x1]
  exact ⟨A4, c4, ⟨rfl, rfl⟩, hs4, HO7.out.more (by omega), HL4.out, HB7.out⟩
def LoadO (w : World) (m : List Pd) (z : Int) (e : Ending) (w' : World) : Prop :=
  ∃ A' n' c' hs', e = .returned (.tuple #[.slice A' n' c', .int .i64 z]) ∧ OwnQ w' w.heap.size (.slice A' n' c') n' hs' (fun _ => True) ∧ hs'.map (·.1) = m ∧ Below w.heap.size w w'
set_option maxRecDepth 100000 in
set_option maxHeartbeats 8000000 in
theorem load_ok (A : Option Addr) (n c : Nat) (l : List Pd) (bs : List UInt8) (B : Nat) (w : World) (hr : Rd w B A n bs) (hB : B ≤ w.heap.size) (hc : n ≤ c) (hn : n ≤ 1000000) (ht : Tab w) (hC : ckP l = 0) (hb : bs = sealB (nb (numL l))) :
    Calls Tryd.prog 27 #[.slice A n c] w (LoadO w l 0) := by
  have HOP := Lib.hid (Open_any A n c bs B w hr hB hc (by omega) ht)
  have hob : openB bs = (nb (numL l), 0) := by rw [hb]; exact openB_sealB _
  rw [hob] at HOP
  have hlb := hr.len
  have HLB := Lib.hid (show (nb (numL l)).length ≤ n from by rw [hb, sealB_length] at hlb; omega)
  have HC := Lib.hid hC
  clear hr ht hC hb hob hlb
  go_enter Tryd.func27, Tryd.ntmps27
  go_wp2_with (first
    | (go_at_call 29; (with_reducible refine HOP.out.mono ?_); rintro e w2 ⟨A2, n2, c2, rfl, hr2, hb2⟩; have HB2 := Lib.hid hb2; have hn2 : n2 ≤ 1000000 := (by have h1 := hr2.len; have h2 := HLB.out; omega); have HRD := Lib.hid (read_ok A2 n2 c2 w2.heap.size l w2 hr2.rd (Nat.le_refl _) HC.out hn2 rfl); clear hr2 hb2)
    | (go_at_call 56; (with_reducible refine HRD.out.mono ?_); rintro e w3 ⟨A3, c3, hs3, rfl, ho, hl, hb⟩; have HO3 := Lib.hid ho; have HL3 := Lib.hid hl; have HB3 := Lib.hid (HB2.out.trans (hb.mono HB2.out.size)); clear ho hl hb))
  go_ret2
  exact ⟨A3, _, c3, hs3, rfl, HO3.out.more HB2.out.size, HL3.out, HB3.out⟩
set_option maxRecDepth 100000 in
set_option maxHeartbeats 8000000 in
theorem load_err (A : Option Addr) (n c : Nat) (bs x : List UInt8) (B : Nat) (w : World) (hr : Rd w B A n bs) (hB : B ≤ w.heap.size) (hc : n ≤ c) (hn : n ≤ 1000000) (ht : Tab w) {E : Int} (ho : openB bs = (x, E)) (hE : ¬ E = 0) :
    Calls Tryd.prog 27 #[.slice A n c] w (LoadO w [] E) := by
  have HOP := Lib.hid (Open_any A n c bs B w hr hB hc (by omega) ht)
  rw [ho] at HOP
  have g1 : (E == 0) = false := beq_eq_false_iff_ne.2 hE
  clear hr ht ho hE
  go_enter Tryd.func27, Tryd.ntmps27
  go_wp2_with (go_at_call 29; (with_reducible refine HOP.out.mono ?_); rintro e w2 ⟨A2, n2, c2, rfl, hr2, hb2⟩; have HB2 := Lib.hid hb2; clear hr2 hb2)
  go_ret2
  exact ⟨none, 0, 0, [], rfl, OwnO.nil, rfl, HB2.out⟩
end Go.Proofs.YtllebgadhhgckaaDoor.Sqs

/- The laws' sent of layer 11. -/
namespace Go.Proofs.YtllebgadhhgckaaDoor.Sqs
open Go.RowKit Oct Rec RowF Lay Bat
open Epo (At0 belA)

def sentR (ba b1 : Int) : List Rc := [⟨ba, ByteArray.empty, ⟨#[97]⟩, false, 0⟩, ⟨b1, ByteArray.empty, ⟨#[98]⟩, false, 0⟩]
set_option maxRecDepth 100000 in
theorem sent_is (ge se ba : Int) (w : World) {b1 : Int} (hb : IntKind.i64.wrap (ba + 1) = b1) :
    Calls Tryd.prog 32 #[.int .i64 ge, .int .i64 se, .int .i64 ba] w fun e w' => ∃ AR, e = .returned (.agg #[.int .i64 ba, .int .i64 b1, .int .i64 ba, .int .i64 0, .int .i64 3, .int .i64 ge, .int .i64 se, .bool false, .int .i64 0, .slice AR 2 2]) ∧ RdR w' w'.heap.size AR 2 (sentR ba b1) ∧ Below w.heap.size w w' := by
  go_enter Tryd.func32, Tryd.ntmps32
  go_wp2
  have hb1 := belA w (.cells #[.int .i64 ba, .int .i64 b1, .int .i64 ba, .int .i64 0, .int .i64 3, .int .i64 ge, .int .i64 se, .bool false, .int .i64 0, .slice (some ⟨w.heap.size + 1, 0, none⟩) 2 2] 25)
  have hw1 : (w.alloc (.cells #[.int .i64 ba, .int .i64 b1, .int .i64 ba, .int .i64 0, .int .i64 3, .int .i64 ge, .int .i64 se, .bool false, .int .i64 0, .slice (some ⟨w.heap.size + 1, 0, none⟩) 2 2] 25)).heap.size = w.heap.size + 1 := by simp
  refine bodyPost_ret (v := .agg #[.int .i64 ba, .int .i64 b1, .int .i64 ba, .int .i64 0, .int .i64 3, .int .i64 ge, .int .i64 se, .bool false, .int .i64 0, .slice (some ⟨w.heap.size + 1, 0, none⟩) 2 2]) (by simp [results, Tryd.results32, go_sem]) rfl ?_
  refine ⟨some ⟨w.heap.size + 1, 0, none⟩, rfl, ?_, bel_trans hb1 (belA _ _)⟩
  generalize (w.alloc (.cells #[.int .i64 ba, .int .i64 b1, .int .i64 ba, .int .i64 0, .int .i64 3, .int .i64 ge, .int .i64 se, .bool false, .int .i64 0, .slice (some ⟨w.heap.size + 1, 0, none⟩) 2 2] 25)) = W at *
  rw [← hw1]
  have hat := At0.new W [.int .i64 ba, .string ByteArray.empty, .string ⟨#[97]⟩, .bool false, .int .i64 0, .int .i64 b1, .string ByteArray.empty, .string ⟨#[98]⟩, .bool false, .int .i64 0] 88
  refine rdR_of ⟨rfl, fun k x hx => ⟨W.heap.size, 0, rfl, by simp, fun i u hu => ?_⟩⟩
  match k, hx with
  | 0, hx =>
    obtain rfl : (⟨ba, ByteArray.empty, ⟨#[97]⟩, false, 0⟩ : Rc) = x := Option.some.inj hx
    have hi : i < 5 := (List.getElem?_eq_some_iff.1 hu).1
    match i, hi, hu with
    | 0, _, hu => obtain rfl := Option.some.inj hu; exact hat.cell 0
    | 1, _, hu => obtain rfl := Option.some.inj hu; exact hat.cell 1
    | 2, _, hu => obtain rfl := Option.some.inj hu; exact hat.cell 2
    | 3, _, hu => obtain rfl := Option.some.inj hu; exact hat.cell 3
    | 4, _, hu => obtain rfl := Option.some.inj hu; exact hat.cell 4
  | 1, hx =>
    obtain rfl : (⟨b1, ByteArray.empty, ⟨#[98]⟩, false, 0⟩ : Rc) = x := Option.some.inj hx
    have hi : i < 5 := (List.getElem?_eq_some_iff.1 hu).1
    match i, hi, hu with
    | 0, _, hu => obtain rfl := Option.some.inj hu; exact hat.cell 5
    | 1, _, hu => obtain rfl := Option.some.inj hu; exact hat.cell 6
    | 2, _, hu => obtain rfl := Option.some.inj hu; exact hat.cell 7
    | 3, _, hu => obtain rfl := Option.some.inj hu; exact hat.cell 8
    | 4, _, hu => obtain rfl := Option.some.inj hu; exact hat.cell 9
end Go.Proofs.YtllebgadhhgckaaDoor.Sqs

/- What the laws' live needs: numbers, and memory. -/
namespace Go.Proofs.YtllebgadhhgckaaDoor.Sqs
open Go.RowKit Oct Rec Crc RowF RowK RowO Lay Bat InR
open Epo (At0 AtO belA)

def sB (ge se ba b1 : Int) : Bt := ⟨ba, b1, ba, 0, 3, ge, se, false, 0, sentR ba b1⟩
def l1 : List Pd := [⟨3, 0, [⟨0, 1, 7⟩]⟩]
def l2 : List Pd := [⟨3, 1, [⟨0, 1, 9⟩]⟩]
theorem ck_l1 : ckP l1 = 0 := by decide +kernel
theorem ck_l2 : ckP l2 = 0 := by decide +kernel
theorem s1_len : (body (sB 0 0 7 8)).length ≤ 100 := by
  unfold body sB hd tl sentR
  simp only [vs, rs, rb, tx]
  repeat rw [vb_small (by decide)]
  decide +kernel
theorem s1_ch : chB (sB 0 0 7 8) = 0 := by
  unfold chB
  rw [show Bat.form (sB 0 0 7 8) = true from by decide +kernel, byB_length, if_pos rfl, if_neg (by have := s1_len; omega)]
theorem s1_fits : Fits (sB 0 0 7 8) := by
  refine ⟨?_, ?_, ?_, ?_, ?_, ?_, ?_, ?_, ?_⟩
  case refine_9 =>
    intro r hr
    have hr9 : r = (⟨7, ByteArray.empty, ⟨#[97]⟩, false, 0⟩ : Rc) ∨ r = ⟨8, ByteArray.empty, ⟨#[98]⟩, false, 0⟩ := by simpa [sB, sentR] using hr
    rcases hr9 with rfl | rfl <;> (refine ⟨?_, ?_, by decide, by decide⟩ <;> (unfold I64; simp))
  all_goals (unfold I64 sB; simp)
theorem s2_len : (body (sB 0 0 9 10)).length ≤ 100 := by
  unfold body sB hd tl sentR
  simp only [vs, rs, rb, tx]
  repeat rw [vb_small (by decide)]
  decide +kernel
theorem s2_ch : chB (sB 0 0 9 10) = 0 := by
  unfold chB
  rw [show Bat.form (sB 0 0 9 10) = true from by decide +kernel, byB_length, if_pos rfl, if_neg (by have := s2_len; omega)]
theorem s2_fits : Fits (sB 0 0 9 10) := by
  refine ⟨?_, ?_, ?_, ?_, ?_, ?_, ?_, ?_, ?_⟩
  case refine_9 =>
    intro r hr
    have hr9 : r = (⟨9, ByteArray.empty, ⟨#[97]⟩, false, 0⟩ : Rc) ∨ r = ⟨10, ByteArray.empty, ⟨#[98]⟩, false, 0⟩ := by simpa [sB, sentR] using hr
    rcases hr9 with rfl | rfl <;> (refine ⟨?_, ?_, by decide, by decide⟩ <;> (unfold I64; simp))
  all_goals (unfold I64 sB; simp)
theorem s3_len : (body (sB 0 2 9 10)).length ≤ 100 := by
  unfold body sB hd tl sentR
  simp only [vs, rs, rb, tx]
  repeat rw [vb_small (by decide)]
  decide +kernel
theorem s3_ch : chB (sB 0 2 9 10) = 0 := by
  unfold chB
  rw [show Bat.form (sB 0 2 9 10) = true from by decide +kernel, byB_length, if_pos rfl, if_neg (by have := s3_len; omega)]
theorem s3_fits : Fits (sB 0 2 9 10) := by
  refine ⟨?_, ?_, ?_, ?_, ?_, ?_, ?_, ?_, ?_⟩
  case refine_9 =>
    intro r hr
    have hr9 : r = (⟨9, ByteArray.empty, ⟨#[97]⟩, false, 0⟩ : Rc) ∨ r = ⟨10, ByteArray.empty, ⟨#[98]⟩, false, 0⟩ := by simpa [sB, sentR] using hr
    rcases hr9 with rfl | rfl <;> (refine ⟨?_, ?_, by decide, by decide⟩ <;> (unfold I64; simp))
  all_goals (unfold I64 sB; simp)
theorem s4_len : (body (sB 0 3 9 10)).length ≤ 100 := by
  unfold body sB hd tl sentR
  simp only [vs, rs, rb, tx]
  repeat rw [vb_small (by decide)]
  decide +kernel
theorem s4_ch : chB (sB 0 3 9 10) = 0 := by
  unfold chB
  rw [show Bat.form (sB 0 3 9 10) = true from by decide +kernel, byB_length, if_pos rfl, if_neg (by have := s4_len; omega)]
theorem s4_fits : Fits (sB 0 3 9 10) := by
  refine ⟨?_, ?_, ?_, ?_, ?_, ?_, ?_, ?_, ?_⟩
  case refine_9 =>
    intro r hr
    have hr9 : r = (⟨9, ByteArray.empty, ⟨#[97]⟩, false, 0⟩ : Rc) ∨ r = ⟨10, ByteArray.empty, ⟨#[98]⟩, false, 0⟩ := by simpa [sB, sentR] using hr
    rcases hr9 with rfl | rfl <;> (refine ⟨?_, ?_, by decide, by decide⟩ <;> (unfold I64; simp))
  all_goals (unfold I64 sB; simp)
theorem s5_len : (body (sB 1 0 9 10)).length ≤ 100 := by
  unfold body sB hd tl sentR
  simp only [vs, rs, rb, tx]
  repeat rw [vb_small (by decide)]
  decide +kernel
theorem s5_ch : chB (sB 1 0 9 10) = 0 := by
  unfold chB
  rw [show Bat.form (sB 1 0 9 10) = true from by decide +kernel, byB_length, if_pos rfl, if_neg (by have := s5_len; omega)]
theorem s5_fits : Fits (sB 1 0 9 10) := by
  refine ⟨?_, ?_, ?_, ?_, ?_, ?_, ?_, ?_, ?_⟩
  case refine_9 =>
    intro r hr
    have hr9 : r = (⟨9, ByteArray.empty, ⟨#[97]⟩, false, 0⟩ : Rc) ∨ r = ⟨10, ByteArray.empty, ⟨#[98]⟩, false, 0⟩ := by simpa [sB, sentR] using hr
    rcases hr9 with rfl | rfl <;> (refine ⟨?_, ?_, by decide, by decide⟩ <;> (unfold I64; simp))
  all_goals (unfold I64 sB; simp)
theorem look1 : lookP [] (sB 0 0 7 8) = (0, false, 0) := by
  unfold lookP
  rw [show ckP [] = 0 from rfl, s1_ch]
  decide +kernel
theorem look2 : lookP l1 (sB 0 0 9 10) = (7, true, 0) := by
  unfold lookP
  rw [ck_l1, s2_ch]
  decide +kernel
theorem look3 : lookP l1 (sB 0 2 9 10) = (0, false, 0) := by
  unfold lookP
  rw [ck_l1, s3_ch]
  decide +kernel
theorem look4 : lookP l1 (sB 0 3 9 10) = (0, false, 111) := by
  unfold lookP
  rw [ck_l1, s4_ch]
  decide +kernel
theorem look5 : lookP l2 (sB 0 2 9 10) = (0, false, 110) := by
  unfold lookP
  rw [ck_l2, s3_ch]
  decide +kernel
theorem look6 : lookP l1 (sB 1 0 9 10) = (0, false, 0) := by
  unfold lookP
  rw [ck_l1, s5_ch]
  decide +kernel
theorem put1 : putP [] (sB 0 0 7 8) = (l1, 0) := by unfold putP; rw [look1]; decide +kernel
theorem put2 : putP l1 (sB 1 0 9 10) = (l2, 0) := by unfold putP; rw [look6]; decide +kernel
theorem of1 : ofP [] [sB 0 0 7 8] = l1 := by
  unfold ofP
  rw [put1, if_pos rfl]
  rfl
theorem save1 : saveP l1 = (sealB (nb (numL l1)), 0) := by unfold saveP; rw [if_pos ck_l1]
theorem save1_len : (sealB (nb (numL l1))).length ≤ 1000 := by
  rw [sealB_length]
  have h := nb_ten (l := numL l1) (by intro x hx; simp only [l1, numL, numP, numD, List.flatMap_cons, List.flatMap_nil, List.append_nil, List.length_cons, List.length_nil, List.cons_append, List.nil_append, List.mem_cons, List.not_mem_nil, or_false] at hx; unfold W63; omega)
  have h2 : (numL l1).length = 7 := by decide +kernel
  omega
theorem rdL_of {w : World} {B n : Nat} {A : Option Addr} {l : List Rc} (h : RdR w B A n l) (hf : ∀ r ∈ l, Fit r) : RdL w B A n l :=
  ⟨h.1, fun k r hr => by
    obtain ⟨b, o, hA, hb, h0, h1, h2, h3, h4⟩ := h.2 k r hr
    refine ⟨b, o, [.int .i64 r.off, .string r.key, .string r.val, .bool r.dead, .int .i64 r.stamp], hA, hb, ⟨rfl, hf r (List.mem_of_getElem? hr)⟩, fun i v hv => ?_⟩
    have hi : i < 5 := (List.getElem?_eq_some_iff.1 hv).1
    match i, hi, hv with
    | 0, _, hv => obtain rfl := Option.some.inj hv; exact h0
    | 1, _, hv => obtain rfl := Option.some.inj hv; exact h1
    | 2, _, hv => obtain rfl := Option.some.inj hv; exact h2
    | 3, _, hv => obtain rfl := Option.some.inj hv; exact h3
    | 4, _, hv => obtain rfl := Option.some.inj hv; exact h4⟩
theorem want_rd (w : World) : RdP ((w.alloc (.cells #[.int .i64 0, .int .i64 1, .int .i64 7] 58)).alloc (.cells #[.int .i64 3, .int .i64 0, .slice (some ⟨w.heap.size, 0, none⟩) 1 1] 55))
    ((w.alloc (.cells #[.int .i64 0, .int .i64 1, .int .i64 7] 58)).alloc (.cells #[.int .i64 3, .int .i64 0, .slice (some ⟨w.heap.size, 0, none⟩) 1 1] 55)).heap.size (some ⟨w.heap.size + 1, 0, none⟩) 1 l1 := by
  have h0 : RdD (w.alloc (.cells #[.int .i64 0, .int .i64 1, .int .i64 7] 58)) (w.heap.size + 1) (some ⟨w.heap.size, 0, none⟩) 1 [⟨0, 1, 7⟩] := rdF_new (w := w) didS 58 (⟨0, 1, 7⟩ : Dd)
  have hs : (w.alloc (.cells #[.int .i64 0, .int .i64 1, .int .i64 7] 58)).heap.size = w.heap.size + 1 := by simp
  generalize (w.alloc (.cells #[.int .i64 0, .int .i64 1, .int .i64 7] 58)) = W at *
  have h1 := At0.new W [.int .i64 3, .int .i64 0, .slice (some ⟨w.heap.size, 0, none⟩) 1 1] 55
  rw [hs] at h1
  refine ⟨rfl, fun k x hx => ?_⟩
  match k, hx with
  | 0, hx =>
    obtain rfl : (⟨3, 0, [⟨0, 1, 7⟩]⟩ : Pd) = x := Option.some.inj hx
    refine ⟨w.heap.size + 1, 0, some ⟨w.heap.size, 0, none⟩, 1, 1, rfl, by simp [hs], Nat.le_refl _, by decide, ?_, fun i u hu => ?_⟩
    · exact (h0.below (B' := W.heap.size) (belA W _) (by omega)).more (by simp [hs])
    have hi : i < 3 := (List.getElem?_eq_some_iff.1 hu).1
    match i, hi, hu with
    | 0, _, hu => obtain rfl := Option.some.inj hu; exact h1.cell 0
    | 1, _, hu => obtain rfl := Option.some.inj hu; exact h1.cell 1
    | 2, _, hu => obtain rfl := Option.some.inj hu; exact h1.cell 2
theorem want_bel {w0 w : World} (h : Below w0.heap.size w0 w) (x y : Obj) : Below w0.heap.size w0 ((w.alloc x).alloc y) := Epo.bel_trans (Epo.bel_trans h (belA w x)) (belA _ y)
theorem sent_rd (w : World) (AR : Option Addr) (h : RdR w w.heap.size AR 2 (sentR 7 8)) :
    RdL (w.alloc (.cells #[.int .i64 7, .int .i64 8, .int .i64 7, .int .i64 0, .int .i64 3, .int .i64 0, .int .i64 0, .bool false, .int .i64 0, .slice AR 2 2] 25)) (w.alloc (.cells #[.int .i64 7, .int .i64 8, .int .i64 7, .int .i64 0, .int .i64 3, .int .i64 0, .int .i64 0, .bool false, .int .i64 0, .slice AR 2 2] 25)).heap.size (some ⟨w.heap.size, 0, none⟩) 1 [sB 0 0 7 8] := by
  have h1 := At0.new w [.int .i64 7, .int .i64 8, .int .i64 7, .int .i64 0, .int .i64 3, .int .i64 0, .int .i64 0, .bool false, .int .i64 0, .slice AR 2 2] 25
  have h2 := rdL_of (rdrUp9 h (belA w (.cells #[.int .i64 7, .int .i64 8, .int .i64 7, .int .i64 0, .int .i64 3, .int .i64 0, .int .i64 0, .bool false, .int .i64 0, .slice AR 2 2] 25))) (by obtain ⟨_, _, _, _, _, _, _, _, f9⟩ := s1_fits; exact fun r hr => ⟨(f9 r hr).1, (f9 r hr).2.1, Nat.le_trans (f9 r hr).2.2.1 (by decide), Nat.le_trans (f9 r hr).2.2.2 (by decide)⟩)
  refine ⟨rfl, fun k x hx => ?_⟩
  match k, hx with
  | 0, hx =>
    obtain rfl : sB 0 0 7 8 = x := Option.some.inj hx
    refine ⟨w.heap.size, 0, [.int .i64 7, .int .i64 8, .int .i64 7, .int .i64 0, .int .i64 3, .int .i64 0, .int .i64 0, .bool false, .int .i64 0, .slice AR 2 2], rfl, by simp, ⟨AR, 2, 2, rfl, ?_, Nat.le_refl _, by decide, h2⟩, fun i v hv => ?_⟩
    · obtain ⟨f1, f2, f3, f4, f5, f6, f7, f8, _⟩ := s1_fits
      exact ⟨f1, f2, f3, f4, f5, f6, f7, f8⟩
    · have h3 := h1.cell i
      rw [hv] at h3
      have h4 : (0 : Nat) + 0 * 10 + i = i := by omega
      rw [show (⟨w.heap.size, 0 + 0 * Lay.sz Bt + i, none⟩ : Addr) = ⟨w.heap.size, i, none⟩ from by show (⟨w.heap.size, 0 + 0 * 10 + i, none⟩ : Addr) = _; rw [h4]]
      exact h3
end Go.Proofs.YtllebgadhhgckaaDoor.Sqs
