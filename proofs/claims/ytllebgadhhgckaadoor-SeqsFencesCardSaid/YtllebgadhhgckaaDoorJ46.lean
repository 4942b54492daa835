/- Joined: SqsLm. -/
import Derived.Test.YtllebgadhhgckaaDoorJ40
import Derived.Test.YtllebgadhhgckaaDoorJ45
import Derived.Test.YtllebgadhhgckaaDoorJ42
import Derived.Test.YtllebgadhhgckaaDoorJ29
/- What the laws' live needs: numbers, and memory. -/
namespace Go.Proofs.YtllebgadhhgckaaDoor.Sqs
open Go.RowKit Oct Rec Crc RowF RowK RowO Lay Bat InR
open Epo (At0 AtO belA)

def sB (ge se ba b1 : Int) : Bt := ⟨ba, b1, ba, 0, 3, ge, se, false, 0, sentR ba b1⟩
def l1 : List Pd := [⟨3, 0, [⟨0, 1, 7⟩]⟩]
def l2 : List Pd := [⟨3, 1, [⟨0, 1, 9⟩]⟩]
theorem ck_l1 : ckP l1 = 0 := by decide +kernel
theorem ck_l2 : ckP l2 = 0 := by decide +kernel
theorem s1_len : (body (sB 0 0 7 8)).length ≤ 100 := by
  unfold body sB hd tl sentR
  simp only [vs, rs, rb, tx]
  repeat rw [vb_small (by decide)]
  decide +kernel
theorem s1_ch : chB (sB 0 0 7 8) = 0 := by
  unfold chB
  rw [show Bat.form (sB 0 0 7 8) = true from by decide +kernel, byB_length, if_pos rfl, if_neg (by have := s1_len; omega)]
theorem s1_fits : Fits (sB 0 0 7 8) := by
  refine ⟨?_, ?_, ?_, ?_, ?_, ?_, ?_, ?_, ?_⟩
  case refine_9 =>
    intro r hr
    have hr9 : r = (⟨7, ByteArray.empty, ⟨#[97]⟩, false, 0⟩ : Rc) ∨ r = ⟨8, ByteArray.empty, ⟨#[98]⟩, false, 0⟩ := by simpa [sB, sentR] using hr
    rcases hr9 with rfl | rfl <;> (refine ⟨?_, ?_, by decide, by decide⟩ <;> (unfold I64; simp))
  all_goals (unfold I64 sB; simp)
theorem s2_len : (body (sB 0 0 9 10)).length ≤ 100 := by
  unfold body sB hd tl sentR
  simp only [vs, rs, rb, tx]
  repeat rw [vb_small (by decide)]
  decide +kernel
theorem s2_ch : chB (sB 0 0 9 10) = 0 := by
  unfold chB
  rw [show Bat.form (sB 0 0 9 10) = true from by decide +kernel, byB_length, if_pos rfl, if_neg (by have := s2_len; omega)]
theorem s2_fits : Fits (sB 0 0 9 10) := by
  refine ⟨?_, ?_, ?_, ?_, ?_, ?_, ?_, ?_, ?_⟩
  case refine_9 =>
    intro r hr
    have hr9 : r = (⟨9, ByteArray.empty, ⟨#[97]⟩, false, 0⟩ : Rc) ∨ r = ⟨10, ByteArray.empty, ⟨#[98]⟩, false, 0⟩ := by simpa [sB, sentR] using hr
    rcases hr9 with rfl | rfl <;> (refine ⟨?_, ?_, by decide, by decide⟩ <;> (unfold I64; simp))
  all_goals (unfold I64 sB; simp)
theorem s3_len : (body (sB 0 2 9 10)).length ≤ 100 := by
  unfold body sB hd tl sentR
  simp only [vs, rs, rb, tx]
  repeat rw [vb_small (by decide)]
  decide +kernel
theorem s3_ch : chB (sB 0 2 9 10) = 0 := by
  unfold chB
  rw [show Bat.form (sB 0 2 9 10) = true from by decide +kernel, byB_length, if_pos rfl, if_neg (by have := s3_len; omega)]
theorem s3_fits : Fits (sB 0 2 9 10) := by
  refine ⟨?_, ?_, ?_, ?_, ?_, ?_, ?_, ?_, ?_⟩
  case refine_9 =>
    intro r hr
    have hr9 : r = (⟨9, ByteArray.empty, ⟨#[97]⟩, false, 0⟩ : Rc) ∨ r = ⟨10, ByteArray.empty, ⟨#[98]⟩, false, 0⟩ := by simpa [sB, sentR] using hr
    rcases hr9 with rfl | rfl <;> (refine ⟨?_, ?_, by decide, by decide⟩ <;> (unfold I64; simp))
  all_goals (unfold I64 sB; simp)
theorem s4_len : (body (sB 0 3 9 10)).length ≤ 100 := by
  unfold body sB hd tl sentR
  simp only [vs, rs, rb, tx]
  repeat rw [vb_small (by decide)]
  decide +kernel
theorem s4_ch : chB (sB 0 3 9 10) = 0 := by
  unfold chB
  rw [show Bat.form (sB 0 3 9 10) = true from by decide +kernel, byB_length, if_pos rfl, if_neg (by have := s4_len; omega)]
theorem s4_fits : Fits (sB 0 3 9 10) := by
  refine ⟨?_, ?_, ?_, ?_, ?_, ?_, ?_, ?_, ?_⟩
  case refine_9 =>
    intro r hr
    have hr9 : r = (⟨9, ByteArray.empty, ⟨#[97]⟩, false, 0⟩ : Rc) ∨ r = ⟨10, ByteArray.empty, ⟨#[98]⟩, false, 0⟩ := by simpa [sB, sentR] using hr
    rcases hr9 with rfl | rfl <;> (refine ⟨?_, ?_, by decide, by decide⟩ <;> (unfold I64; simp))
  all_goals (unfold I64 sB; simp)
theorem s5_len : (body (sB 1 0 9 10)).length ≤ 100 := by
  unfold body sB hd tl sentR
  simp only [vs, rs, rb, tx]
  repeat rw [vb_small (by decide)]
  decide +kernel
theorem s5_ch : chB (sB 1 0 9 10) = 0 := by
  unfold chB
  rw [show Bat.form (sB 1 0 9 10) = true from by decide +kernel, byB_length, if_pos rfl, if_neg (by have := s5_len; omega)]
theorem s5_fits : Fits (sB 1 0 9 10) := by
  refine ⟨?_, ?_, ?_, ?_, ?_, ?_, ?_, ?_, ?_⟩
  case refine_9 =>
    intro r hr
    have hr9 : r = (⟨9, ByteArray.empty, ⟨#[97]⟩, false, 0⟩ : Rc) ∨ r = ⟨10, ByteArray.empty, ⟨#[98]⟩, false, 0⟩ := by simpa [sB, sentR] using hr
    rcases hr9 with rfl | rfl <;> (refine ⟨?_, ?_, by decide, by decide⟩ <;> (unfold I64; simp))
  all_goals (unfold I64 sB; simp)
theorem look1 : lookP [] (sB 0 0 7 8) = (0, false, 0) := by
  unfold lookP
  rw [show ckP [] = 0 from rfl, s1_ch]
  decide +kernel
theorem look2 : lookP l1 (sB 0 0 9 10) = (7, true, 0) := by
  unfold lookP
  rw [ck_l1, s2_ch]
  decide +kernel
theorem look3 : lookP l1 (sB 0 2 9 10) = (0, false, 0) := by
  unfold lookP
  rw [ck_l1, s3_ch]
  decide +kernel
theorem look4 : lookP l1 (sB 0 3 9 10) = (0, false, 111) := by
  unfold lookP
  rw [ck_l1, s4_ch]
  decide +kernel
theorem look5 : lookP l2 (sB 0 2 9 10) = (0, false, 110) := by
  unfold lookP
  rw [ck_l2, s3_ch]
  decide +kernel
theorem look6 : lookP l1 (sB 1 0 9 10) = (0, false, 0) := by
  unfold lookP
  rw [ck_l1, s5_ch]
  decide +kernel
theorem put1 : putP [] (sB 0 0 7 8) = (l1, 0) := by unfold putP; rw [look1]; decide +kernel
theorem put2 : putP l1 (sB 1 0 9 10) = (l2, 0) := by unfold putP; rw [look6]; decide +kernel
theorem of1 : ofP [] [sB 0 0 7 8] = l1 := by
  unfold ofP
  rw [put1, if_pos rfl]
  rfl
theorem save1 : saveP l1 = (sealB (nb (numL l1)), 0) := by unfold saveP; rw [if_pos ck_l1]
theorem save1_len : (sealB (nb (numL l1))).length ≤ 1000 := by
  rw [sealB_length]
  have h := nb_ten (l := numL l1) (by intro x hx; simp only [l1, numL, numP, numD, List.flatMap_cons, List.flatMap_nil, List.append_nil, List.length_cons, List.length_nil, List.cons_append, List.nil_append, List.mem_cons, List.not_mem_nil, or_false] at hx; unfold W63; omega)
  have h2 : (numL l1).length = 7 := by decide +kernel
  omega
theorem rdL_of {w : World} {B n : Nat} {A : Option Addr} {l : List Rc} (h : RdR w B A n l) (hf : ∀ r ∈ l, Fit r) : RdL w B A n l :=
  ⟨h.1, fun k r hr => by
    obtain ⟨b, o, hA, hb, h0, h1, h2, h3, h4⟩ := h.2 k r hr
    refine ⟨b, o, [.int .i64 r.off, .string r.key, .string r.val, .bool r.dead, .int .i64 r.stamp], hA, hb, ⟨rfl, hf r (List.mem_of_getElem? hr)⟩, fun i v hv => ?_⟩
    have hi : i < 5 := (List.getElem?_eq_some_iff.1 hv).1
    match i, hi, hv with
    | 0, _, hv => obtain rfl := Option.some.inj hv; exact h0
    | 1, _, hv => obtain rfl := Option.some.inj hv; exact h1
    | 2, _, hv => obtain rfl := Option.some.inj hv; exact h2
    | 3, _, hv => obtain rfl := Option.some.inj hv; exact h3
    | 4, _, hv => obtain rfl := Option.some.inj hv; exact h4⟩
theorem want_rd (w : World) : RdP ((w.alloc (.cells #[.int .i64 0, .int .i64 1, .int .i64 7] 58)).alloc (.cells #[.int .i64 3, .int .i64 0, .slice (some ⟨w.heap.size, 0, none⟩) 1 1] 55))
    ((w.alloc (.cells #[.int .i64 0, .int .i64 1, .int .i64 7] 58)).alloc (.cells #[.int .i64 3, .int .i64 0, .slice (some ⟨w.heap.size, 0, none⟩) 1 1] 55)).heap.size (some ⟨w.heap.size + 1, 0, none⟩) 1 l1 := by
  have h0 : RdD (w.alloc (.cells #[.int .i64 0, .int .i64 1, .int .i64 7] 58)) (w.heap.size + 1) (some ⟨w.heap.size, 0, none⟩) 1 [⟨0, 1, 7⟩] := rdF_new (w := w) didS 58 (⟨0, 1, 7⟩ : Dd)
  have hs : (w.alloc (.cells #[.int .i64 0, .int .i64 1, .int .i64 7] 58)).heap.size = w.heap.size + 1 := by simp
  generalize (w.alloc (.cells #[.int .i64 0, .int .i64 1, .int .i64 7] 58)) = W at *
  have h1 := At0.new W [.int .i64 3, .int .i64 0, .slice (some ⟨w.heap.size, 0, none⟩) 1 1] 55
  rw [hs] at h1
  refine ⟨rfl, fun k x hx => ?_⟩
  match k, hx with
  | 0, hx =>
    obtain rfl : (⟨3, 0, [⟨0, 1, 7⟩]⟩ : Pd) = x := Option.some.inj hx
    refine ⟨w.heap.size + 1, 0, some ⟨w.heap.size, 0, none⟩, 1, 1, rfl, by simp [hs], Nat.le_refl _, by decide, ?_, fun i u hu => ?_⟩
    · exact (h0.below (B' := W.heap.size) (belA W _) (by omega)).more (by simp [hs])
    have hi : i < 3 := (List.getElem?_eq_some_iff.1 hu).1
    match i, hi, hu with
    | 0, _, hu => obtain rfl := Option.some.inj hu; exact h1.cell 0
    | 1, _, hu => obtain rfl := Option.some.inj hu; exact h1.cell 1
    | 2, _, hu => obtain rfl := Option.some.inj hu; exact h1.cell 2
theorem want_bel {w0 w : World} (h : Below w0.heap.size w0 w) (x y : Obj) : Below w0.heap.size w0 ((w.alloc x).alloc y) := Epo.bel_trans (Epo.bel_trans h (belA w x)) (belA _ y)
theorem sent_rd (w : World) (AR : Option Addr) (h : RdR w w.heap.size AR 2 (sentR 7 8)) :
    RdL (w.alloc (.cells #[.int .i64 7, .int .i64 8, .int .i64 7, .int .i64 0, .int .i64 3, .int .i64 0, .int .i64 0, .bool false, .int .i64 0, .slice AR 2 2] 25)) (w.alloc (.cells #[.int .i64 7, .int .i64 8, .int .i64 7, .int .i64 0, .int .i64 3, .int .i64 0, .int .i64 0, .bool false, .int .i64 0, .slice AR 2 2] 25)).heap.size (some ⟨w.heap.size, 0, none⟩) 1 [sB 0 0 7 8] := by
  have h1 := At0.new w [.int .i64 7, .int .i64 8, .int .i64 7, .int .i64 0, .int .i64 3, .int .i64 0, .int .i64 0, .bool false, .int .i64 0, .slice AR 2 2] 25
  have h2 := rdL_of (rdrUp9 h (belA w (.cells #[.int .i64 7, .int .i64 8, .int .i64 7, .int .i64 0, .int .i64 3, .int .i64 0, .int .i64 0, .bool false, .int .i64 0, .slice AR 2 2] 25))) (by obtain ⟨_, _, _, _, _, _, _, _, f9⟩ := s1_fits; exact fun r hr => ⟨(f9 r hr).1, (f9 r hr).2.1, Nat.le_trans (f9 r hr).2.2.1 (by decide), Nat.le_trans (f9 r hr).2.2.2 (by decide)⟩)
  refine ⟨rfl, fun k x hx => ?_⟩
  match k, hx with
  | 0, hx =>
    obtain rfl : sB 0 0 7 8 = x := Option.some.inj hx
    refine ⟨w.heap.size, 0, [.int .i64 7, .int .i64 8, .int .i64 7, .int .i64 0, .int .i64 3, .int .i64 0, .int .i64 0, .bool false, .int .i64 0, .slice AR 2 2], rfl, by simp, ⟨AR, 2, 2, rfl, ?_, Nat.le_refl _, by decide, h2⟩, fun i v hv => ?_⟩
    · obtain ⟨f1, f2, f3, f4, f5, f6, f7, f8, _⟩ := s1_fits
      exact ⟨f1, f2, f3, f4, f5, f6, f7, f8⟩
    · have h3 := h1.cell i
      rw [hv] at h3
      have h4 : (0 : Nat) + 0 * 10 + i = i := by omega
      rw [show (⟨w.heap.size, 0 + 0 * Lay.sz Bt + i, none⟩ : Addr) = ⟨w.heap.size, i, none⟩ from by show (⟨w.heap.size, 0 + 0 * 10 + i, none⟩ : Addr) = _; rw [h4]]
      exact h3
end Go.Proofs.YtllebgadhhgckaaDoor.Sqs
