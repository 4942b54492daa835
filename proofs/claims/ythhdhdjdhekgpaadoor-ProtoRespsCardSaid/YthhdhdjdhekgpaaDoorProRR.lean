/- Joined: ProRR. -/
import Derived.Test.YthhdhdjdhekgpaaDoorProRd2
import Derived.Test.YthhdhdjdhekgpaaDoorJOct
import Derived.Test.YthhdhdjdhekgpaaDoorInL
/- The document's reader: num, text, nums, texts. -/
namespace Go.Proofs.YthhdhdjdhekgpaaDoor.Pro
open Go.RowKit Go.Proofs.YthhdhdjdhekgpaaDoor.Oct Go.Proofs.YthhdhdjdhekgpaaDoor.Rec Go.Proofs.YthhdhdjdhekgpaaDoor.Cod Go.Proofs.YthhdhdjdhekgpaaDoor.Lay Go.Proofs.YthhdhdjdhekgpaaDoor.RowF Go.Proofs.YthhdhdjdhekgpaaDoor.InR

set_option maxRecDepth 100000 in
set_option maxHeartbeats 1000000 in
theorem rnum_is (g : Nat) (A : Option Addr) (n c : Nat) (p e : Int) (l : List UInt8) (B : Nat) (w : World) (hR : Rdr 79 w g (.slice A n c) p e) (hr : Rd w B A n l) (hn : n ≤ 1099511627776) (hp63 : p ≤ 9223372036854775807) {x q z : Int} (h : stN l p e = (x, q, z)) :
    Calls Tryd.prog 52 #[.pointer (some ⟨g, 0, none⟩)] w fun en w' => en = .returned (.int .i64 x) ∧ Rdr 79 w' g (.slice A n c) q z ∧ w.grownBy w' (some g) := by
  have HR := Lib.hid hr
  have HRD := Lib.hid hR
  have hmx : Tryd.prog.follows .mixedOrders = true := by kernel_rfl
  have k0 := hR.c0
  have k1 := hR.c1
  have k2 := hR.c2
  have f1 := hR.f 1
  have f2 := hR.f 2
  clear hr hR
  by_cases he : e = 0
  · subst he
    have HG := Lib.hid (stN_ok.symm.trans h)
    clear h
    have d0 : w.drew.cell? ⟨g, 0, none⟩ = some (.slice A n c) := k0
    have d1 : w.drew.cell? ⟨g, 1, none⟩ = some (.int .i64 p) := k1
    go_enter Tryd.func52, Tryd.ntmps52
    go_wp2
    go_region_with (go_at_call 84; (with_reducible refine (refGetVar_is A n c p l B _ HR.out.drew hn hp63 HG.out).mono ?_); rintro e w8 ⟨rfl, rfl⟩)
    all_goals go_wp2
    all_goals go_ret
    all_goals exact ⟨rfl, ((HRD.out.set1 _).set2 _).drew, gb_trans (gb_trans (gb_set _ _ _ _) (gb_set _ _ _ _)) (gb_drew _ _)⟩
  · have heN : (e != 0) = true := by simp [he]
    rw [stN_err he] at h
    simp only [Prod.mk.injEq] at h
    obtain ⟨rfl, rfl, rfl⟩ := h
    clear he
    go_enter Tryd.func52, Tryd.ntmps52
    go_wp2
    go_ret
    exact ⟨rfl, HRD.out, grown_refl _ _⟩
theorem rnum_any (g : Nat) (A : Option Addr) (n c : Nat) (p e : Int) (l : List UInt8) (B : Nat) (w : World) (hR : Rdr 79 w g (.slice A n c) p e) (hr : Rd w B A n l) (hn : n ≤ 1099511627776) (ha : At n p e) :
    Calls Tryd.prog 52 #[.pointer (some ⟨g, 0, none⟩)] w (NumR cvar mkI I64 79 g (.slice A n c) l n p e w) := by
  rcases h : stN l p e with ⟨x, q, z⟩
  obtain ⟨h1, h2, h3⟩ := stN_steps hr.len hn ha h
  exact (rnum_is g A n c p e l B w hR hr hn (by have := ha.2.1; omega) h).mono fun en w' ⟨k1, k2, k3⟩ => ⟨x, q, z, k1, h1, h2, h3, k2, k3⟩
set_option maxRecDepth 100000 in
set_option maxHeartbeats 1000000 in
theorem rtext_any (g : Nat) (A : Option Addr) (n c : Nat) (p e : Int) (l : List UInt8) (B : Nat) (w : World) (hR : Rdr 79 w g (.slice A n c) p e) (hr : Rd w B A n l) (hc : n ≤ c) (hn : n ≤ 1099511627776) (ha : At n p e) :
    Calls Tryd.prog 53 #[.pointer (some ⟨g, 0, none⟩)] w (NumR txt64 mkS (fun x => x.size ≤ 64) 79 g (.slice A n c) l n p e w) := by
  have HR := Lib.hid hr
  have HRD := Lib.hid hR
  have hp63 : p ≤ 9223372036854775807 := by have := ha.2.1; omega
  have HA := Lib.hid ha
  have hmx : Tryd.prog.follows .mixedOrders = true := by kernel_rfl
  have k0 := hR.c0
  have k1 := hR.c1
  have k2 := hR.c2
  have f1 := hR.f 1
  have f2 := hR.f 2
  clear hr hR ha
  by_cases he : e = 0
  · subst he
    obtain ⟨x, y, z, hg⟩ : ∃ x y z, gx l p ((64 : Nat) : Int) = (x, y, z) := ⟨_, _, _, rfl⟩
    have HAT := Lib.hid (show At n y z ∧ x.size ≤ 64 by have h := gx_at' (l := l) (p := p) (m := 64) HR.out.len hn; rw [hg] at h; exact h)
    have HST := Lib.hid (show Steps txt64 l p 0 x y z by have h := steps_text (l := l) (p := p) (m := 64) (hm := by omega); rw [hg] at h; exact h)
    have HG := Lib.hid hg
    clear hg
    have d0 : w.drew.cell? ⟨g, 0, none⟩ = some (.slice A n c) := k0
    have d1 : w.drew.cell? ⟨g, 1, none⟩ = some (.int .i64 p) := k1
    go_enter Tryd.func53, Tryd.ntmps53
    go_wp2
    go_region_with (go_at_call 85; (refine (refGetText_is A n c p 64 l B _ HR.out.drew hc hn hp63 HG.out).mono ?_); rintro e w8 ⟨rfl, rfl⟩)
    all_goals go_wp2
    all_goals go_ret
    all_goals exact ⟨_, _, _, rfl, HAT.out.2, HST.out, HAT.out.1, ((HRD.out.set1 _).set2 _).drew, gb_trans (gb_trans (gb_set _ _ _ _) (gb_set _ _ _ _)) (gb_drew _ _)⟩
  · have heN : (e != 0) = true := by simp [he]
    have HE := Lib.hid he
    clear he
    go_enter Tryd.func53, Tryd.ntmps53
    go_wp2
    go_ret
    exact ⟨ByteArray.empty, p, e, rfl, Nat.zero_le _, .err HE.out, HA.out, HRD.out, grown_refl _ _⟩
set_option maxRecDepth 100000 in
set_option maxHeartbeats 2000000 in
theorem rnums_any (k : Int) (g : Nat) (A : Option Addr) (n c : Nat) (p e : Int) (hk : e = 0 → k ≤ 1099511627776) (l : List UInt8) (B : Nat) (w : World) (hR : Rdr 79 w g (.slice A n c) p e) (hr : Rd w B A n l) (hn : n ≤ 1099511627776) (ha : At n p e) (hB : B ≤ g) :
    Calls Tryd.prog 54 #[.pointer (some ⟨g, 0, none⟩), .int .i64 k] w (RowR numc I64 cvar k.toNat 3 79 g (.slice A n c) l n p e w) := by
  have HR := Lib.hid hr
  have hlt := hR.lt
  have HRD := Lib.hid hR
  have HA := Lib.hid ha
  clear hr hR ha
  go_enter Tryd.func54, Tryd.ntmps54
  go_wp2
  go_loopw [5, 6] (fun vl vi wr => rowRel numc I64 cvar k.toNat 3 79 g (.slice A n c) l n p e w vl vi wr) (fun _ vi _ => k.toNat - (intOf vi).toNat)
  case atStart => exact ⟨0, none, 0, [], p, e, rfl, Nat.zero_le _, rfl, OwnF.nil, by simp, .many0, HA.out, HRD.out, grown_refl _ _⟩
  case round =>
    obtain ⟨j, A1, c1, L, q, z, rfl, hj, rfl, hO, hLi, hS, hAt, hRd, hG⟩ := hrel
    have HO := Lib.hid hO
    have HLI := Lib.hid hLi
    have HS := Lib.hid hS
    have HAT := Lib.hid hAt
    have HRD1 := Lib.hid hRd
    have HG := Lib.hid hG
    have hsz := hG.size
    have HX := Lib.hid (gb_rd HR.out hB (by omega) hG)
    have k2 := hRd.c2
    clear hO hLi hS hAt hRd hG
    by_cases hlt2 : (j : Int) < k
    · by_cases hz : z = 0
      · subst hz
        have he0 : e = 0 := HS.out.was
        have hk1 := hk he0
        clear he0
        go_wp2_with (first
          | (go_at_call 52; (with_reducible refine (rnum_any g A n c q 0 l B _ HRD1.out HX.out hn HAT.out).mono ?_); rintro e w9 ⟨x, q9, z9, rfl, hI9, hS9, hA9, hR9, hG9⟩; have HI9 := Lib.hid hI9; have HS9 := Lib.hid hS9; have HA9 := Lib.hid hA9; have HR9 := Lib.hid hR9; have HO9 := Lib.hid (own_row HO.out hG9 hlt); have HG9 := Lib.hid (gb_trans HG.out hG9); have hs9 := HG9.out.size; clear hI9 hS9 hA9 hR9 hG9; dsimp only [mkI])
          | (at_builtin; refine wpList_appF _ nS rfl _ _ 22 rfl 8 w.heap.size 3 Tryd.underlying22 intRow _ j L rfl (HO9.out.alloc _) _ _ 1 1 [x] rfl (rdF_new w9 nS 3 x) (by omega) (by omega) (by simp; omega) ?_; intro A7 c7 w7 hO7 hb7))
        have hb97 : Below w.heap.size w9 w7 := ((Below.refl _ _).alloc hs9 _).trans hb7
        go_roundw
        case rel => exact ⟨j + 1, A7, c7, L ++ [x], q9, z9, by go_num, by omega, rfl, hO7, by intro y hy; rcases List.mem_append.1 hy with h | h; exact HLI.out y h; rw [List.mem_singleton] at h; subst h; exact HI9.out, HS.out.snoc HS9.out, HA9.out, HR9.out.below hb97 hlt, gb_below HG9.out hb97⟩
        case measure => simp [intOf]; omega
      · have hzN : (z == 0) = false := beqF hz
        have HZ := Lib.hid hz
        clear hz
        go_wp2
        go_ret
        exact ⟨A1, j, c1, L, q, z, rfl, by omega, HO.out, HLI.out, HS.out.more HZ.out (by omega), HAT.out, HRD1.out, HG.out⟩
    · have HJK := Lib.hid (show j = k.toNat by omega)
      go_wp2
      go_ret
      exact ⟨A1, j, c1, L, q, z, rfl, by omega, HO.out, HLI.out, HJK.out ▸ HS.out, HAT.out, HRD1.out, HG.out⟩
set_option maxRecDepth 100000 in
set_option maxHeartbeats 2000000 in
theorem rtexts_any (k : Int) (g : Nat) (A : Option Addr) (n c : Nat) (p e : Int) (hk : e = 0 → k ≤ 1099511627776) (l : List UInt8) (B : Nat) (w : World) (hR : Rdr 79 w g (.slice A n c) p e) (hr : Rd w B A n l) (hc : n ≤ c) (hn : n ≤ 1099511627776) (ha : At n p e) (hB : B ≤ g) :
    Calls Tryd.prog 57 #[.pointer (some ⟨g, 0, none⟩), .int .i64 k] w (RowR strc (fun x => x.size ≤ 64) txt64 k.toNat 9 79 g (.slice A n c) l n p e w) := by
  have HR := Lib.hid hr
  have hlt := hR.lt
  have HRD := Lib.hid hR
  have HA := Lib.hid ha
  clear hr hR ha
  go_enter Tryd.func57, Tryd.ntmps57
  go_wp2
  go_loopw [5, 6] (fun vl vi wr => rowRel strc (fun x => x.size ≤ 64) txt64 k.toNat 9 79 g (.slice A n c) l n p e w vl vi wr) (fun _ vi _ => k.toNat - (intOf vi).toNat)
  case atStart => exact ⟨0, none, 0, [], p, e, rfl, Nat.zero_le _, rfl, OwnF.nil, by simp, .many0, HA.out, HRD.out, grown_refl _ _⟩
  case round =>
    obtain ⟨j, A1, c1, L, q, z, rfl, hj, rfl, hO, hLi, hS, hAt, hRd, hG⟩ := hrel
    have HO := Lib.hid hO
    have HLI := Lib.hid hLi
    have HS := Lib.hid hS
    have HAT := Lib.hid hAt
    have HRD1 := Lib.hid hRd
    have HG := Lib.hid hG
    have hsz := hG.size
    have HX := Lib.hid (gb_rd HR.out hB (by omega) hG)
    have k2 := hRd.c2
    clear hO hLi hS hAt hRd hG
    by_cases hlt2 : (j : Int) < k
    · by_cases hz : z = 0
      · subst hz
        have he0 : e = 0 := HS.out.was
        have hk1 := hk he0
        clear he0
        go_wp2_with (first
          | (go_at_call 53; (with_reducible refine (rtext_any g A n c q 0 l B _ HRD1.out HX.out hc hn HAT.out).mono ?_); rintro e w9 ⟨x, q9, z9, rfl, hI9, hS9, hA9, hR9, hG9⟩; have HI9 := Lib.hid hI9; have HS9 := Lib.hid hS9; have HA9 := Lib.hid hA9; have HR9 := Lib.hid hR9; have HO9 := Lib.hid (own_row HO.out hG9 hlt); have HG9 := Lib.hid (gb_trans HG.out hG9); have hs9 := HG9.out.size; clear hI9 hS9 hA9 hR9 hG9; dsimp only [mkS])
          | (at_builtin; refine wpList_appF _ sS rfl _ _ 23 rfl 16 w.heap.size 9 Tryd.underlying23 strRow _ j L rfl (HO9.out.alloc _) _ _ 1 1 [x] rfl (rdF_new w9 sS 9 x) (by omega) (by omega) (by simp; omega) ?_; intro A7 c7 w7 hO7 hb7))
        have hb97 : Below w.heap.size w9 w7 := ((Below.refl _ _).alloc hs9 _).trans hb7
        go_roundw
        case rel => exact ⟨j + 1, A7, c7, L ++ [x], q9, z9, by go_num, by omega, rfl, hO7, by intro y hy; rcases List.mem_append.1 hy with h | h; exact HLI.out y h; rw [List.mem_singleton] at h; subst h; exact HI9.out, HS.out.snoc HS9.out, HA9.out, HR9.out.below hb97 hlt, gb_below HG9.out hb97⟩
        case measure => simp [intOf]; omega
      · have hzN : (z == 0) = false := beqF hz
        have HZ := Lib.hid hz
        clear hz
        go_wp2
        go_ret
        exact ⟨A1, j, c1, L, q, z, rfl, by omega, HO.out, HLI.out, HS.out.more HZ.out (by omega), HAT.out, HRD1.out, HG.out⟩
    · have HJK := Lib.hid (show j = k.toNat by omega)
      go_wp2
      go_ret
      exact ⟨A1, j, c1, L, q, z, rfl, by omega, HO.out, HLI.out, HJK.out ▸ HS.out, HAT.out, HRD1.out, HG.out⟩
end Go.Proofs.YthhdhdjdhekgpaaDoor.Pro
