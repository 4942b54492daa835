/- Joined: ProRd2. -/
import Derived.Test.YthhdhdjdhekgpaaDoorProRd
/- The landed reader's methods: head, count, numbers, texts, end. -/
namespace Go.Proofs.YthhdhdjdhekgpaaDoor.Pro
open Go.RowKit Go.Proofs.YthhdhdjdhekgpaaDoor.Oct Go.Proofs.YthhdhdjdhekgpaaDoor.Rec Go.Proofs.YthhdhdjdhekgpaaDoor.Cod Go.Proofs.YthhdhdjdhekgpaaDoor.Lay Go.Proofs.YthhdhdjdhekgpaaDoor.RowF

/-- what a head tells -/
def hdE (l : List UInt8) : Int := if (l.length : Int) < 2 then 10 else known (kv l 0).1 (kv l 0).2
def hdV (l : List UInt8) : Int × Int := if hdE l = 0 then kv l 0 else (0, 0)
theorem steps_head {l : List UInt8} {q : Int} (hq : hdE l = 0 → q = 2) : Steps chead l 0 0 (hdV l) q (hdE l) := by
  by_cases h : hdE l = 0
  · obtain rfl := hq h
    refine .inr (.inr ⟨rfl, h, ?_⟩)
    have h2 := h
    unfold hdE at h2
    by_cases h3 : (l.length : Int) < 2
    · rw [if_pos h3] at h2; cases h2
    · rw [if_neg h3] at h2
      show (if (l.length : Int) < 0 + 2 then Except.error 10 else if known (kv l 0).1 (kv l 0).2 ≠ 0 then .error (known (kv l 0).1 (kv l 0).2) else .ok (kv l 0, 0 + 2)) = _
      rw [if_neg (by omega), if_neg (by omega)]
      unfold hdV
      rw [if_pos h]
      rfl
  · refine .inr (.inl ⟨rfl, h, ?_⟩)
    unfold hdE at h ⊢
    show (if (l.length : Int) < 0 + 2 then Except.error 10 else if known (kv l 0).1 (kv l 0).2 ≠ 0 then .error (known (kv l 0).1 (kv l 0).2) else .ok (kv l 0, 0 + 2)) = _
    by_cases h3 : (l.length : Int) < 2
    · rw [if_pos h3, if_pos (by omega)]
    · rw [if_neg h3] at h ⊢
      rw [if_neg (by omega), if_pos h]
theorem stO_none {l : List UInt8} {p : Int} (hp : 0 ≤ p) (h : l[p.toNat]? = none) : stO l p 0 = (0, p + 1, 10) := by unfold stO; rw [if_neg (by simp), gt_one_none hp h]
theorem stO_some {l : List UInt8} {p : Int} {c : UInt8} (hp : 0 ≤ p) (h : l[p.toNat]? = some c) : stO l p 0 = (c.toNat, p + 1, 0) := by unfold stO; rw [if_neg (by simp), gt_one_some hp h]
theorem stO_err {l : List UInt8} {p e : Int} (h : e ≠ 0) : stO l p e = (0, p, e) := by unfold stO; rw [if_pos h]
set_option maxRecDepth 100000 in
set_option maxHeartbeats 1000000 in
theorem head_any (g : Nat) (A : Option Addr) (n c : Nat) (l : List UInt8) (B : Nat) (w : World) (hR : Rdr 65 w g (.slice A n c) 0 0) (hr : Rd w B A n l) (hc : n ≤ c) (hn : n ≤ 1099511627776) (hB : B ≤ g) :
    Calls Tryd.prog 44 #[.pointer (some ⟨g, 0, none⟩)] w fun en w' => ∃ q, en = .returned (.tuple #[.int .i64 (hdV l).1, .int .i64 (hdV l).2]) ∧ (hdE l = 0 → q = 2) ∧ 0 ≤ q ∧ q ≤ 2 ∧ Rdr 65 w' g (.slice A n c) q (hdE l) ∧ w.grownBy w' (some g) := by
  have HR := Lib.hid hr
  have hlt := hR.lt
  have HRD := Lib.hid hR
  have HLEN := Lib.hid hr.len
  clear hr hR
  rcases h0 : l[0]? with _ | b0
  · have hn0 : n = 0 := by have h1 := List.getElem?_eq_none_iff.1 h0; have := HLEN.out; omega
    have HE := Lib.hid (show hdE l = 10 by unfold hdE; rw [if_pos (by have := HLEN.out; omega)])
    have HV := Lib.hid (show hdV l = (0, 0) by unfold hdV; rw [if_neg (by rw [HE.out]; decide)])
    have HS := Lib.hid (stO_none (l := l) (p := 0) (by omega) h0)
    have HS2 := Lib.hid (stO_err (l := l) (p := 0 + 1) (e := 10) (by decide))
    rw [HE.out, HV.out]
    clear h0 hn0
    go_enter Tryd.func44, Tryd.ntmps44
    go_wp2_with (first
      | (go_at_call 81; (with_reducible refine (oneByte_any g A n c 0 0 l B w HRD.out HR.out hc hn (by omega) (x := 0) (by omega) HS.out).mono ?_); rintro e w8 ⟨rfl, hr8, hg8⟩; have HR8 := Lib.hid hr8; have HG8 := Lib.hid hg8; clear hr8 hg8)
      | (go_at_call 81; (with_reducible refine (oneByte_any g A n c (0 + 1) 10 l B w8 HR8.out (gb_rd HR.out hB (by omega) HG8.out) hc hn (by omega) (x := 0) (by omega) HS2.out).mono ?_); rintro e w9 ⟨rfl, hr9, hg9⟩; have HR9 := Lib.hid hr9; have HG9 := Lib.hid (gb_trans HG8.out hg9); have c2 := hr9.c2; clear hr9 hg9))
    go_ret2
    exact ⟨_, rfl, fun h => absurd h (by decide), by omega, by omega, HR9.out, HG9.out⟩
  rcases h1 : l[1]? with _ | b1
  · have hn1 : n ≤ 1 := by have h2 := List.getElem?_eq_none_iff.1 h1; have := HLEN.out; omega
    have HE := Lib.hid (show hdE l = 10 by unfold hdE; rw [if_pos (by have := HLEN.out; omega)])
    have HV := Lib.hid (show hdV l = (0, 0) by unfold hdV; rw [if_neg (by rw [HE.out]; decide)])
    have HS := Lib.hid (stO_some (l := l) (p := 0) (by omega) h0)
    have HS2 := Lib.hid (stO_none (l := l) (p := 0 + 1) (by omega) (by simpa using h1))
    have hb0 : b0.toNat ≤ 255 := by have := b0.toNat_lt; omega
    rw [HE.out, HV.out]
    clear h0 h1 hn1
    go_enter Tryd.func44, Tryd.ntmps44
    go_wp2_with (first
      | (go_at_call 81; (with_reducible refine (oneByte_any g A n c 0 0 l B w HRD.out HR.out hc hn (by omega) hb0 HS.out).mono ?_); rintro e w8 ⟨rfl, hr8, hg8⟩; have HR8 := Lib.hid hr8; have HG8 := Lib.hid hg8; clear hr8 hg8)
      | (go_at_call 81; (with_reducible refine (oneByte_any g A n c (0 + 1) 0 l B w8 HR8.out (gb_rd HR.out hB (by omega) HG8.out) hc hn (by omega) (x := 0) (by omega) HS2.out).mono ?_); rintro e w9 ⟨rfl, hr9, hg9⟩; have HR9 := Lib.hid hr9; have HG9 := Lib.hid (gb_trans HG8.out hg9); have c2 := hr9.c2; clear hr9 hg9))
    go_ret2
    exact ⟨_, rfl, fun h => absurd h (by decide), by omega, by omega, HR9.out, HG9.out⟩
  have hlen2 : 2 ≤ l.length := by have := (List.getElem?_eq_some_iff.1 h1).1; omega
  have hkv : kv l 0 = ((b0.toNat : Int), (b1.toNat : Int)) := by unfold kv; simp only [Int.toNat_zero, Nat.zero_add]; rw [h0, h1]; rfl
  obtain ⟨z, hz⟩ : ∃ z, known (b0.toNat : Int) (b1.toNat : Int) = z := ⟨_, rfl⟩
  have HE := Lib.hid (show hdE l = z by unfold hdE; rw [if_neg (by omega), hkv]; exact hz)
  have HZ := Lib.hid hz
  have HS := Lib.hid (stO_some (l := l) (p := 0) (by omega) h0)
  have HS2 := Lib.hid (stO_some (l := l) (p := 0 + 1) (by omega) (by simpa using h1))
  have hb0 : b0.toNat ≤ 255 := by have := b0.toNat_lt; omega
  have hb1 : b1.toNat ≤ 255 := by have := b1.toNat_lt; omega
  have HKV := Lib.hid hkv
  clear h0 h1 hlen2 hkv hz
  by_cases hz0 : z = 0
  · subst hz0
    have HV := Lib.hid (show hdV l = ((b0.toNat : Int), (b1.toNat : Int)) by unfold hdV; rw [if_pos HE.out]; exact HKV.out)
    rw [HE.out, HV.out]
    go_enter Tryd.func44, Tryd.ntmps44
    go_wp2_with (first
      | (go_at_call 81; (with_reducible refine (oneByte_any g A n c 0 0 l B w HRD.out HR.out hc hn (by omega) hb0 HS.out).mono ?_); rintro e w8 ⟨rfl, hr8, hg8⟩; have HR8 := Lib.hid hr8; have HG8 := Lib.hid hg8; clear hr8 hg8)
      | (go_at_call 81; (with_reducible refine (oneByte_any g A n c (0 + 1) 0 l B w8 HR8.out (gb_rd HR.out hB (by omega) HG8.out) hc hn (by omega) hb1 HS2.out).mono ?_); rintro e w9 ⟨rfl, hr9, hg9⟩; have HR9 := Lib.hid hr9; have HG9 := Lib.hid (gb_trans HG8.out hg9); have c2 := hr9.c2; have f2 := hr9.f 2; clear hr9 hg9)
      | (go_at_call 60; (with_reducible refine (checkHead_any _ _ _).mono ?_); rw [HZ.out]; rintro e w7 ⟨rfl, rfl⟩))
    go_ret2
    exact ⟨_, rfl, fun _ => rfl, by omega, by omega, HR9.out.set2 _, gb_trans HG9.out (gb_set _ _ _ _)⟩
  · have HV := Lib.hid (show hdV l = (0, 0) by unfold hdV; rw [if_neg (by rw [HE.out]; exact hz0)])
    have hzN : (z != 0) = true := by simp [hz0]
    have HZ0 := Lib.hid hz0
    clear hz0
    rw [HE.out, HV.out]
    go_enter Tryd.func44, Tryd.ntmps44
    go_wp2_with (first
      | (go_at_call 81; (with_reducible refine (oneByte_any g A n c 0 0 l B w HRD.out HR.out hc hn (by omega) hb0 HS.out).mono ?_); rintro e w8 ⟨rfl, hr8, hg8⟩; have HR8 := Lib.hid hr8; have HG8 := Lib.hid hg8; clear hr8 hg8)
      | (go_at_call 81; (with_reducible refine (oneByte_any g A n c (0 + 1) 0 l B w8 HR8.out (gb_rd HR.out hB (by omega) HG8.out) hc hn (by omega) hb1 HS2.out).mono ?_); rintro e w9 ⟨rfl, hr9, hg9⟩; have HR9 := Lib.hid hr9; have HG9 := Lib.hid (gb_trans HG8.out hg9); have c2 := hr9.c2; have f2 := hr9.f 2; clear hr9 hg9)
      | (go_at_call 60; (with_reducible refine (checkHead_any _ _ _).mono ?_); rw [HZ.out]; rintro e w7 ⟨rfl, rfl⟩))
    go_ret2
    exact ⟨_, rfl, fun h => absurd h HZ0.out, by omega, by omega, HR9.out.set2 _, gb_trans HG9.out (gb_set _ _ _ _)⟩
/-- how many there are, between two numbers -/
def ckB (lo hi ab n : Int) : Int := if n < lo then 11 else if hi < n then ab else 0
set_option maxRecDepth 100000 in
set_option maxHeartbeats 1000000 in
theorem count_any (lo hi ab : Int) (hab : ab ≠ 0) (g : Nat) (A : Option Addr) (n c : Nat) (p e : Int) (l : List UInt8) (B : Nat) (w : World) (hR : Rdr 65 w g (.slice A n c) p e) (hr : Rd w B A n l) (hn : n ≤ 1099511627776) (ha : At n p e) (_hB : B ≤ g) :
    Calls Tryd.prog 48 #[.pointer (some ⟨g, 0, none⟩), .int .i64 lo, .int .i64 hi, .int .i64 ab] w (NumR (cthat cvar (ckB lo hi ab)) mkI (fun x => I64 x ∧ (x = 0 ∨ lo ≤ x ∧ x ≤ hi)) 65 g (.slice A n c) l n p e w) := by
  rcases h : stN l p e with ⟨x, q, z⟩
  obtain ⟨h1, h2, h3⟩ := stN_steps hr.len hn ha h
  have HS := Lib.hid h
  have HST := Lib.hid h2
  have HAT := Lib.hid h3
  have HI := Lib.hid h1
  have HR := Lib.hid hr
  have HRD := Lib.hid hR
  have hp63 : p ≤ 9223372036854775807 := by have := ha.2.1; omega
  have HAB := Lib.hid hab
  clear h h1 h2 h3 hr hR ha hab
  by_cases hz : z = 0
  · subst hz
    by_cases hlo : x < lo
    · have HC := Lib.hid (show ckB lo hi ab x = 11 by unfold ckB; rw [if_pos hlo])
      go_enter Tryd.func48, Tryd.ntmps48
      go_wp2_with (go_at_call 45; (with_reducible refine (number_is g A n c p e l B _ HRD.out HR.out hn hp63 HS.out).mono ?_); rintro e w8 ⟨rfl, hr8, hg8⟩; have HR8 := Lib.hid hr8; have HG8 := Lib.hid hg8; have c2 := hr8.c2; have f2 := hr8.f 2; clear hr8 hg8)
      go_ret
      exact ⟨0, q, 11, rfl, ⟨⟨by omega, by omega⟩, .inl rfl⟩, (HST.out.that (fun h => absurd rfl h) (fun _ => HC.out)).other (by decide), ⟨HAT.out.1, HAT.out.2.1, fun h => absurd h (by decide)⟩, HR8.out.set2 _, gb_trans HG8.out (gb_set _ _ _ _)⟩
    · by_cases hhi : hi < x
      · have HC := Lib.hid (show ckB lo hi ab x = ab by unfold ckB; rw [if_neg hlo, if_pos hhi])
        go_enter Tryd.func48, Tryd.ntmps48
        go_wp2_with (go_at_call 45; (with_reducible refine (number_is g A n c p e l B _ HRD.out HR.out hn hp63 HS.out).mono ?_); rintro e w8 ⟨rfl, hr8, hg8⟩; have HR8 := Lib.hid hr8; have HG8 := Lib.hid hg8; have c2 := hr8.c2; have f2 := hr8.f 2; clear hr8 hg8)
        go_ret
        exact ⟨0, q, ab, rfl, ⟨⟨by omega, by omega⟩, .inl rfl⟩, (HST.out.that (fun h => absurd rfl h) (fun _ => HC.out)).other HAB.out, ⟨HAT.out.1, HAT.out.2.1, fun h => absurd h HAB.out⟩, HR8.out.set2 _, gb_trans HG8.out (gb_set _ _ _ _)⟩
      · have HC := Lib.hid (show ckB lo hi ab x = 0 by unfold ckB; rw [if_neg hlo, if_neg hhi])
        have HLH := Lib.hid (show lo ≤ x ∧ x ≤ hi by omega)
        go_enter Tryd.func48, Tryd.ntmps48
        go_wp2_with (go_at_call 45; (with_reducible refine (number_is g A n c p e l B _ HRD.out HR.out hn hp63 HS.out).mono ?_); rintro e w8 ⟨rfl, hr8, hg8⟩; have HR8 := Lib.hid hr8; have HG8 := Lib.hid hg8; have c2 := hr8.c2; have f2 := hr8.f 2; clear hr8 hg8)
        go_ret
        exact ⟨x, q, 0, rfl, ⟨HI.out, .inr HLH.out⟩, HST.out.that (fun h => absurd rfl h) (fun _ => HC.out), HAT.out, HR8.out, HG8.out⟩
  · have hzN : (z != 0) = true := by simp [hz]
    have HZ := Lib.hid hz
    clear hz
    go_enter Tryd.func48, Tryd.ntmps48
    go_wp2_with (go_at_call 45; (with_reducible refine (number_is g A n c p e l B _ HRD.out HR.out hn hp63 HS.out).mono ?_); rintro e w8 ⟨rfl, hr8, hg8⟩; have HR8 := Lib.hid hr8; have HG8 := Lib.hid hg8; have c2 := hr8.c2; have f2 := hr8.f 2; clear hr8 hg8)
    go_ret
    exact ⟨0, q, z, rfl, ⟨⟨by omega, by omega⟩, .inl rfl⟩, (HST.out.that (fun _ => rfl) (fun h => absurd h HZ.out)).other HZ.out, HAT.out, HR8.out, HG8.out⟩
theorem intRow : Info Tryd.prog 3 1 8 := by
  obtain ⟨i, h1, h2, h3, h4⟩ := info_parts (P := Tryd.prog) (e := 3) (z := .int .i64 0) (size := 1) (bytes := 8) (by kernel_rfl)
  exact ⟨i, _, h1, h2, h3, h4, rfl⟩
theorem strRow : Info Tryd.prog 9 1 16 := by
  obtain ⟨i, h1, h2, h3, h4⟩ := info_parts (P := Tryd.prog) (e := 9) (z := .string ByteArray.empty) (size := 1) (bytes := 16) (by kernel_rfl)
  exact ⟨i, _, h1, h2, h3, h4, rfl⟩
set_option maxRecDepth 100000 in
set_option maxHeartbeats 2000000 in
theorem numbers_any (k : Int) (hk : k ≤ 1099511627776) (g : Nat) (A : Option Addr) (n c : Nat) (p e : Int) (l : List UInt8) (B : Nat) (w : World) (hR : Rdr 65 w g (.slice A n c) p e) (hr : Rd w B A n l) (hn : n ≤ 1099511627776) (ha : At n p e) (hB : B ≤ g) :
    Calls Tryd.prog 47 #[.pointer (some ⟨g, 0, none⟩), .int .i64 k] w (RowR numc I64 cvar k.toNat 3 65 g (.slice A n c) l n p e w) := by
  have HR := Lib.hid hr
  have hlt := hR.lt
  have HRD := Lib.hid hR
  have HA := Lib.hid ha
  clear hr hR ha
  go_enter Tryd.func47, Tryd.ntmps47
  go_wp2
  go_loopw [5, 7] (fun vl vi wr => rowRel numc I64 cvar k.toNat 3 65 g (.slice A n c) l n p e w vl vi wr) (fun _ vi _ => k.toNat - (intOf vi).toNat)
  case atStart => exact ⟨0, none, 0, [], p, e, rfl, Nat.zero_le _, rfl, OwnF.nil, by simp, .many0, HA.out, HRD.out, grown_refl _ _⟩
  case round =>
    obtain ⟨j, A1, c1, L, q, z, rfl, hj, rfl, hO, hLi, hS, hAt, hRd, hG⟩ := hrel
    have HO := Lib.hid hO
    have HLI := Lib.hid hLi
    have HS := Lib.hid hS
    have HAT := Lib.hid hAt
    have HRD1 := Lib.hid hRd
    have HG := Lib.hid hG
    have hsz := hG.size
    have HX := Lib.hid (gb_rd HR.out hB (by omega) hG)
    clear hO hLi hS hAt hRd hG
    by_cases hlt2 : (j : Int) < k
    · go_wp2_with (first
        | (go_at_call 45; (with_reducible refine (number_any g A n c q z l B _ HRD1.out HX.out hn HAT.out).mono ?_); rintro e w9 ⟨x, q9, z9, rfl, hI9, hS9, hA9, hR9, hG9⟩; have HI9 := Lib.hid hI9; have HS9 := Lib.hid hS9; have HA9 := Lib.hid hA9; have HR9 := Lib.hid hR9; have HO9 := Lib.hid (own_row HO.out hG9 hlt); have HG9 := Lib.hid (gb_trans HG.out hG9); have hs9 := HG9.out.size; clear hI9 hS9 hA9 hR9 hG9; dsimp only [mkI])
        | (at_builtin; refine wpList_appF _ nS rfl _ _ 22 rfl 8 w.heap.size 3 Tryd.underlying22 intRow _ j L rfl (HO9.out.alloc _) _ _ 1 1 [x] rfl (rdF_new w9 nS 3 x) (by omega) (by omega) (by simp; omega) ?_; intro A7 c7 w7 hO7 hb7))
      have hb97 : Below w.heap.size w9 w7 := ((Below.refl _ _).alloc hs9 _).trans hb7
      go_roundw
      case rel => exact ⟨j + 1, A7, c7, L ++ [x], q9, z9, by go_num, by omega, rfl, hO7, by intro y hy; rcases List.mem_append.1 hy with h | h; exact HLI.out y h; rw [List.mem_singleton] at h; subst h; exact HI9.out, HS.out.snoc HS9.out, HA9.out, HR9.out.below hb97 hlt, gb_below HG9.out hb97⟩
      case measure => simp [intOf]; omega
    · have HJK := Lib.hid (show j = k.toNat by omega)
      go_wp2
      go_ret
      exact ⟨A1, j, c1, L, q, z, rfl, by omega, HO.out, HLI.out, HJK.out ▸ HS.out, HAT.out, HRD1.out, HG.out⟩
set_option maxRecDepth 100000 in
set_option maxHeartbeats 2000000 in
theorem texts_any (k : Int) (hk : k ≤ 1099511627776) (g : Nat) (A : Option Addr) (n c : Nat) (p e : Int) (l : List UInt8) (B : Nat) (w : World) (hR : Rdr 65 w g (.slice A n c) p e) (hr : Rd w B A n l) (hc : n ≤ c) (hn : n ≤ 1099511627776) (ha : At n p e) (hB : B ≤ g) :
    Calls Tryd.prog 49 #[.pointer (some ⟨g, 0, none⟩), .int .i64 k] w (RowR strc (fun x => x.size ≤ 64) txt64 k.toNat 9 65 g (.slice A n c) l n p e w) := by
  have HR := Lib.hid hr
  have hlt := hR.lt
  have HRD := Lib.hid hR
  have HA := Lib.hid ha
  clear hr hR ha
  go_enter Tryd.func49, Tryd.ntmps49
  go_wp2
  go_loopw [5, 7] (fun vl vi wr => rowRel strc (fun x => x.size ≤ 64) txt64 k.toNat 9 65 g (.slice A n c) l n p e w vl vi wr) (fun _ vi _ => k.toNat - (intOf vi).toNat)
  case atStart => exact ⟨0, none, 0, [], p, e, rfl, Nat.zero_le _, rfl, OwnF.nil, by simp, .many0, HA.out, HRD.out, grown_refl _ _⟩
  case round =>
    obtain ⟨j, A1, c1, L, q, z, rfl, hj, rfl, hO, hLi, hS, hAt, hRd, hG⟩ := hrel
    have HO := Lib.hid hO
    have HLI := Lib.hid hLi
    have HS := Lib.hid hS
    have HAT := Lib.hid hAt
    have HRD1 := Lib.hid hRd
    have HG := Lib.hid hG
    have hsz := hG.size
    have HX := Lib.hid (gb_rd HR.out hB (by omega) hG)
    clear hO hLi hS hAt hRd hG
    by_cases hlt2 : (j : Int) < k
    · go_wp2_with (first
        | (go_at_call 46; (refine (text_any g A n c 64 q z l B _ (by omega) HRD1.out HX.out hc hn HAT.out).mono ?_); rintro e w9 ⟨x, q9, z9, rfl, hI9, hS9, hA9, hR9, hG9⟩; have HI9 := Lib.hid hI9; have HS9 := Lib.hid hS9; have HA9 := Lib.hid hA9; have HR9 := Lib.hid hR9; have HO9 := Lib.hid (own_row HO.out hG9 hlt); have HG9 := Lib.hid (gb_trans HG.out hG9); have hs9 := HG9.out.size; clear hI9 hS9 hA9 hR9 hG9; dsimp only [mkS])
        | (at_builtin; refine wpList_appF _ sS rfl _ _ 23 rfl 16 w.heap.size 9 Tryd.underlying23 strRow _ j L rfl (HO9.out.alloc _) _ _ 1 1 [x] rfl (rdF_new w9 sS 9 x) (by omega) (by omega) (by simp; omega) ?_; intro A7 c7 w7 hO7 hb7))
      have hb97 : Below w.heap.size w9 w7 := ((Below.refl _ _).alloc hs9 _).trans hb7
      go_roundw
      case rel => exact ⟨j + 1, A7, c7, L ++ [x], q9, z9, by go_num, by omega, rfl, hO7, by intro y hy; rcases List.mem_append.1 hy with h | h; exact HLI.out y h; rw [List.mem_singleton] at h; subst h; exact HI9.out, HS.out.snoc HS9.out, HA9.out, HR9.out.below hb97 hlt, gb_below HG9.out hb97⟩
      case measure => simp [intOf]; omega
    · have HJK := Lib.hid (show j = k.toNat by omega)
      go_wp2
      go_ret
      exact ⟨A1, j, c1, L, q, z, rfl, by omega, HO.out, HLI.out, HJK.out ▸ HS.out, HAT.out, HRD1.out, HG.out⟩
end Go.Proofs.YthhdhdjdhekgpaaDoor.Pro
