/- Joined: ProAlone. -/
import Derived.Test.YthhdhdjdhekgpaaDoorProIs
import Derived.Test.YthhdhdjdhekgpaaDoorJOct
/- The laws' own alone, where it holds. -/
namespace Go.Proofs.YthhdhdjdhekgpaaDoor.Pro
open Go.RowKit Go.Proofs.YthhdhdjdhekgpaaDoor.Oct Go.Proofs.YthhdhdjdhekgpaaDoor.Rec Go.Proofs.YthhdhdjdhekgpaaDoor.Cod Go.Proofs.YthhdhdjdhekgpaaDoor.Lay Go.Proofs.YthhdhdjdhekgpaaDoor.RowF

theorem i64_and65535 (n : Int) : bits .and .i64 n 65535 = n % 65536 := by
  have h127 : (BitVec.ofInt 64 65535).toNat = 2 ^ 16 - 1 := by decide
  have key : (BitVec.ofInt 64 n &&& BitVec.ofInt 64 65535).toNat = (n % ((2 ^ 64 : Nat) : Int)).toNat % 2 ^ 16 := by
    rw [BitVec.toNat_and, BitVec.toNat_ofInt, h127, Nat.and_two_pow_sub_one_eq_mod]
  show IntKind.i64.wrap ((BitVec.ofInt 64 n &&& BitVec.ofInt 64 65535).toNat : Nat) = n % 65536
  rw [key, IntKind.wrap_i64]
  omega
set_option maxRecDepth 100000 in
set_option maxHeartbeats 8000000 in
theorem alone_req (A : Option Addr) (n c : Nat) (x : List UInt8) (cut : Int) (more : UInt8) (w : World) (hr : Rd w w.heap.size A n x) (hc : n ≤ c) (hn1 : 1 ≤ n) (hn2 : n ≤ 100000) (ht : Tab w) (hs : ∀ j, j < n → gtQ (x.take j) = (⟨0, 0, 0, ByteArray.empty, [], [], []⟩, 10)) (hl : gtQ (x ++ [more]) = (⟨0, 0, 0, ByteArray.empty, [], [], []⟩, 11)) :
    Calls Tryd.prog 32 #[.slice A n c, .int .i64 cut, .int .u8 (more.toNat : Int), .bool true] w fun e w' => e = .returned (.bool true) ∧ Below w.heap.size w w' := by
  have HT := Lib.hid ht
  have HR := Lib.hid hr
  have hI := u8row
  obtain ⟨C, hC⟩ : ∃ C : Nat, cut % 65536 = (C : Int) := ⟨(cut % 65536).toNat, by omega⟩
  have hand : bits .and .i64 cut 65535 = (C : Int) := by rw [i64_and65535, hC]
  have hne3 : ((n : Int) == 0) = false := beqF (by omega)
  obtain ⟨y1, y2, y3, y4⟩ := cut_facts (C := C) (n := n) (c := c) hn1 hc
  have HS := Lib.hid (hs (C % n) (by omega))
  have HL := Lib.hid hl
  clear hs hl
  clear ht hr hC
  go_enter Tryd.func32, Tryd.ntmps32
  go_wp2_with (first
    | (go_at_call 16; (with_reducible refine (GetReq_is M1 (n + 1) M3 _ w3 (w4.alloc (.cells #[.int .i64 0, .int .i64 0, .int .i64 0, .string ByteArray.empty, .slice P1 P2 P3, .slice P4 P5 P6, .slice P7 P8 P9] 26)) HO3.out.rd (HP.out) HM.out (by omega) (HT.out.bel HB3.out) HL.out).mono ?_); rintro e w5 ⟨Q1, Q2, Q3, Q4, Q5, Q6, Q7, Q8, Q9, rfl, _, _, hb9⟩; have HQ := Lib.hid (bel_alloc ((HP.out).trans (hb9.mono (Below.size (HP.out)))) (.cells #[.int .i64 0, .int .i64 0, .int .i64 0, .string ByteArray.empty, .slice Q1 Q2 Q3, .slice Q4 Q5 Q6, .slice Q7 Q8 Q9] 26)); clear hb9)
    | (go_at_call 16; (with_reducible refine (GetReq_is A (C % n) c _ w3 w3 ((HR.out.below HB3.out (Nat.le_refl _)).more HB3.out.size |>.take (m := C % n) (by omega)) (Below.refl w3.heap.size w3) (by omega) (by omega) (HT.out.bel HB3.out) HS.out).mono ?_); rintro e w4 ⟨P1, P2, P3, P4, P5, P6, P7, P8, P9, rfl, _, _, hb9⟩; have HP := Lib.hid (bel_alloc ((Below.refl w3.heap.size w3).trans (hb9.mono (Below.size (Below.refl w3.heap.size w3)))) (.cells #[.int .i64 0, .int .i64 0, .int .i64 0, .string ByteArray.empty, .slice P1 P2 P3, .slice P4 P5 P6, .slice P7 P8 P9] 26)); clear hb9)
    | (at_builtin; refine wpList_app0 (w.alloc (.cells #[] 5)) rfl (.tmp 29) (.tmp 30) 24 rfl w.heap.size 5 Tryd.underlying24 hI _ rfl (Crc.own_lit w 5 [] 0 rfl (by omega)) w.heap.size A n c x rfl (HR.out.alloc (Nat.le_refl _) _) (by omega) (by simp) ?_; intro L1 L3 w2 hown2 hb2; have HO2 := Lib.hid hown2; have HB2 := Lib.hid (((Below.refl w.heap.size w).alloc (Nat.le_refl _) (.cells #[] 5)).trans hb2); clear hb2 hown2)
    | (at_builtin; refine wpList_app1 _ rfl _ _ 24 rfl w.heap.size 5 Tryd.underlying24 hI _ n _ rfl (by exact HO2.out) _ more rfl rfl (by omega) HB2.out.size ?_; intro M1 M3 w3 hown3 hb3; have HO3 := Lib.hid hown3; have HM := Lib.hid (show n + 1 ≤ M3 from hown3.cap); have HB3 := Lib.hid (HB2.out.trans hb3); clear hb3 hown3))
  go_ret
  exact ⟨rfl, HB3.out.trans (HQ.out.mono HB3.out.size)⟩
set_option maxRecDepth 100000 in
set_option maxHeartbeats 8000000 in
theorem alone_resp (A : Option Addr) (n c : Nat) (x : List UInt8) (cut : Int) (more : UInt8) (w : World) (hr : Rd w w.heap.size A n x) (hc : n ≤ c) (hn1 : 1 ≤ n) (hn2 : n ≤ 100000) (ht : Tab w) (hs : ∀ j, j < n → gtP (x.take j) = (⟨0, 0, 0, 0, 0, [], [], []⟩, 10)) (hl : gtP (x ++ [more]) = (⟨0, 0, 0, 0, 0, [], [], []⟩, 11)) :
    Calls Tryd.prog 32 #[.slice A n c, .int .i64 cut, .int .u8 (more.toNat : Int), .bool false] w fun e w' => e = .returned (.bool true) ∧ Below w.heap.size w w' := by
  have HT := Lib.hid ht
  have HR := Lib.hid hr
  have hI := u8row
  obtain ⟨C, hC⟩ : ∃ C : Nat, cut % 65536 = (C : Int) := ⟨(cut % 65536).toNat, by omega⟩
  have hand : bits .and .i64 cut 65535 = (C : Int) := by rw [i64_and65535, hC]
  have hne3 : ((n : Int) == 0) = false := beqF (by omega)
  obtain ⟨y1, y2, y3, y4⟩ := cut_facts (C := C) (n := n) (c := c) hn1 hc
  have HS := Lib.hid (hs (C % n) (by omega))
  have HL := Lib.hid hl
  clear hs hl
  rcases h1 : gtQ (x.take (C % n)) with ⟨⟨k1, v1, i1, s1, a1, a2, a3⟩, e1⟩
  rcases h2 : gtQ (x ++ [more]) with ⟨⟨k2, v2, i2, s2, b1, b2, b3⟩, e2⟩
  have HS1 := Lib.hid h1
  have HS2 := Lib.hid h2
  clear h1 h2
  clear ht hr hC
  go_enter Tryd.func32, Tryd.ntmps32
  go_wp2_with (first
    | (go_at_call 24; (with_reducible refine (GetResp_is M1 (n + 1) M3 _ w3 (w6.alloc (.cells #[.int .i64 0, .int .i64 0, .int .i64 0, .int .i64 0, .int .i64 0, .slice R1 R2 R3, .slice R4 R5 R6, .slice R7 R8 R9] 38)) HO3.out.rd (HR0.out) HM.out (by omega) HL.out).mono ?_); rintro e w7 ⟨T1, T2, T3, T4, T5, T6, T7, T8, T9, rfl, _, hb9⟩; have HTZ := Lib.hid (bel_alloc ((HR0.out).trans (hb9.mono (Below.size (HR0.out)))) (.cells #[.int .i64 0, .int .i64 0, .int .i64 0, .int .i64 0, .int .i64 0, .slice T1 T2 T3, .slice T4 T5 T6, .slice T7 T8 T9] 38)); clear hb9)
    | (go_at_call 24; (with_reducible refine (GetResp_is A (C % n) c _ w3 (w5.alloc (.cells #[.int .i64 k2, .int .i64 v2, .int .i64 i2, .string s2, .slice Q1 Q2 Q3, .slice Q4 Q5 Q6, .slice Q7 Q8 Q9] 26)) ((HR.out.below HB3.out (Nat.le_refl _)).more HB3.out.size |>.take (m := C % n) (by omega)) (HQ.out) (by omega) (by omega) HS.out).mono ?_); rintro e w6 ⟨R1, R2, R3, R4, R5, R6, R7, R8, R9, rfl, _, hb9⟩; have HR0 := Lib.hid (bel_alloc ((HQ.out).trans (hb9.mono (Below.size (HQ.out)))) (.cells #[.int .i64 0, .int .i64 0, .int .i64 0, .int .i64 0, .int .i64 0, .slice R1 R2 R3, .slice R4 R5 R6, .slice R7 R8 R9] 38)); clear hb9)
    | (go_at_call 16; (with_reducible refine (GetReq_is M1 (n + 1) M3 _ w3 (w4.alloc (.cells #[.int .i64 k1, .int .i64 v1, .int .i64 i1, .string s1, .slice P1 P2 P3, .slice P4 P5 P6, .slice P7 P8 P9] 26)) HO3.out.rd (HP.out) HM.out (by omega) (HT.out.bel HB3.out) HS2.out).mono ?_); rintro e w5 ⟨Q1, Q2, Q3, Q4, Q5, Q6, Q7, Q8, Q9, rfl, _, _, hb9⟩; have HQ := Lib.hid (bel_alloc ((HP.out).trans (hb9.mono (Below.size (HP.out)))) (.cells #[.int .i64 k2, .int .i64 v2, .int .i64 i2, .string s2, .slice Q1 Q2 Q3, .slice Q4 Q5 Q6, .slice Q7 Q8 Q9] 26)); clear hb9)
    | (go_at_call 16; (with_reducible refine (GetReq_is A (C % n) c _ w3 w3 ((HR.out.below HB3.out (Nat.le_refl _)).more HB3.out.size |>.take (m := C % n) (by omega)) (Below.refl w3.heap.size w3) (by omega) (by omega) (HT.out.bel HB3.out) HS1.out).mono ?_); rintro e w4 ⟨P1, P2, P3, P4, P5, P6, P7, P8, P9, rfl, _, _, hb9⟩; have HP := Lib.hid (bel_alloc ((Below.refl w3.heap.size w3).trans (hb9.mono (Below.size (Below.refl w3.heap.size w3)))) (.cells #[.int .i64 k1, .int .i64 v1, .int .i64 i1, .string s1, .slice P1 P2 P3, .slice P4 P5 P6, .slice P7 P8 P9] 26)); clear hb9)
    | (at_builtin; refine wpList_app0 (w.alloc (.cells #[] 5)) rfl (.tmp 29) (.tmp 30) 24 rfl w.heap.size 5 Tryd.underlying24 hI _ rfl (Crc.own_lit w 5 [] 0 rfl (by omega)) w.heap.size A n c x rfl (HR.out.alloc (Nat.le_refl _) _) (by omega) (by simp) ?_; intro L1 L3 w2 hown2 hb2; have HO2 := Lib.hid hown2; have HB2 := Lib.hid (((Below.refl w.heap.size w).alloc (Nat.le_refl _) (.cells #[] 5)).trans hb2); clear hb2 hown2)
    | (at_builtin; refine wpList_app1 _ rfl _ _ 24 rfl w.heap.size 5 Tryd.underlying24 hI _ n _ rfl (by exact HO2.out) _ more rfl rfl (by omega) HB2.out.size ?_; intro M1 M3 w3 hown3 hb3; have HO3 := Lib.hid hown3; have HM := Lib.hid (show n + 1 ≤ M3 from hown3.cap); have HB3 := Lib.hid (HB2.out.trans hb3); clear hb3 hown3))
  go_ret
  exact ⟨rfl, HB3.out.trans (HTZ.out.mono HB3.out.size)⟩
end Go.Proofs.YthhdhdjdhekgpaaDoor.Pro
