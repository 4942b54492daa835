/- Joined: ProRd. -/
import Derived.Test.YthhdhdjdhekgpaaDoorProA
import Derived.Test.YthhdhdjdhekgpaaDoorProS
import Derived.Test.YthhdhdjdhekgpaaDoorJOct
import Derived.Deep.RegionHeld
/- The landed reader's methods. -/
namespace Go.Proofs.YthhdhdjdhekgpaaDoor.Pro
open Go.RowKit Go.Proofs.YthhdhdjdhekgpaaDoor.Oct Go.Proofs.YthhdhdjdhekgpaaDoor.Rec Go.Proofs.YthhdhdjdhekgpaaDoor.Cod Go.Proofs.YthhdhdjdhekgpaaDoor.Lay Go.Proofs.YthhdhdjdhekgpaaDoor.RowF

set_option maxRecDepth 100000 in
set_option maxHeartbeats 1000000 in
theorem number_is (g : Nat) (A : Option Addr) (n c : Nat) (p e : Int) (l : List UInt8) (B : Nat) (w : World) (hR : Rdr 65 w g (.slice A n c) p e) (hr : Rd w B A n l) (hn : n ≤ 1099511627776) (hp63 : p ≤ 9223372036854775807) {x q z : Int} (h : stN l p e = (x, q, z)) :
    Calls Tryd.prog 45 #[.pointer (some ⟨g, 0, none⟩)] w fun en w' => en = .returned (.int .i64 x) ∧ Rdr 65 w' g (.slice A n c) q z ∧ w.grownBy w' (some g) := by
  have HR := Lib.hid hr
  have HRD := Lib.hid hR
  have hmx : Tryd.prog.follows .mixedOrders = true := by kernel_rfl
  have k0 := hR.c0
  have k1 := hR.c1
  have k2 := hR.c2
  have f1 := hR.f 1
  have f2 := hR.f 2
  clear hr hR
  by_cases he : e = 0
  · subst he
    have HG := Lib.hid (stN_ok.symm.trans h)
    clear h
    have d0 : w.drew.cell? ⟨g, 0, none⟩ = some (.slice A n c) := k0
    have d1 : w.drew.cell? ⟨g, 1, none⟩ = some (.int .i64 p) := k1
    go_enter Tryd.func45, Tryd.ntmps45
    go_wp2
    go_region_with (go_at_call 82; (with_reducible refine (GetVar_is A n c p l B _ HR.out.drew hn hp63 HG.out).mono ?_); rintro e w8 ⟨rfl, rfl⟩)
    all_goals go_wp2
    all_goals go_ret
    all_goals exact ⟨rfl, ((HRD.out.set1 _).set2 _).drew, gb_trans (gb_trans (gb_set _ _ _ _) (gb_set _ _ _ _)) (gb_drew _ _)⟩
  · have heN : (e == 0) = false := beqF he
    rw [stN_err he] at h
    simp only [Prod.mk.injEq] at h
    obtain ⟨rfl, rfl, rfl⟩ := h
    clear he
    go_enter Tryd.func45, Tryd.ntmps45
    go_wp2
    go_ret
    exact ⟨rfl, HRD.out, grown_refl _ _⟩
theorem number_any (g : Nat) (A : Option Addr) (n c : Nat) (p e : Int) (l : List UInt8) (B : Nat) (w : World) (hR : Rdr 65 w g (.slice A n c) p e) (hr : Rd w B A n l) (hn : n ≤ 1099511627776) (ha : At n p e) :
    Calls Tryd.prog 45 #[.pointer (some ⟨g, 0, none⟩)] w (NumR cvar mkI I64 65 g (.slice A n c) l n p e w) := by
  rcases h : stN l p e with ⟨x, q, z⟩
  obtain ⟨h1, h2, h3⟩ := stN_steps hr.len hn ha h
  exact (number_is g A n c p e l B w hR hr hn (by have := ha.2.1; omega) h).mono fun en w' ⟨k1, k2, k3⟩ => ⟨x, q, z, k1, h1, h2, h3, k2, k3⟩
set_option maxRecDepth 100000 in
set_option maxHeartbeats 1000000 in
/-- the text, in octet's words -/
theorem text_raw (g : Nat) (A : Option Addr) (n c m : Nat) (p e : Int) (l : List UInt8) (B : Nat) (w : World) (hR : Rdr 65 w g (.slice A n c) p e) (hr : Rd w B A n l) (hc : n ≤ c) (hn : n ≤ 1099511627776) (ha : At n p e) :
    Calls Tryd.prog 46 #[.pointer (some ⟨g, 0, none⟩), .int .i64 (m : Int)] w fun en w' => ∃ x q z, en = .returned (.string x) ∧ x.size ≤ m ∧ ((e ≠ 0 ∧ z = e) ∨ (e = 0 ∧ gx l p m = (x, q, z))) ∧ At n q z ∧ Rdr 65 w' g (.slice A n c) q z ∧ w.grownBy w' (some g) := by
  have HR := Lib.hid hr
  have HRD := Lib.hid hR
  have hp63 : p ≤ 9223372036854775807 := by have := ha.2.1; omega
  have HA := Lib.hid ha
  have hmx : Tryd.prog.follows .mixedOrders = true := by kernel_rfl
  have k0 := hR.c0
  have k1 := hR.c1
  have k2 := hR.c2
  have f1 := hR.f 1
  have f2 := hR.f 2
  clear hr hR ha
  by_cases he : e = 0
  · subst he
    obtain ⟨x, y, z, hg⟩ : ∃ x y z, gx l p (m : Int) = (x, y, z) := ⟨_, _, _, rfl⟩
    have HAT := Lib.hid (show At n y z ∧ x.size ≤ m by have h := gx_at' (l := l) (p := p) (m := m) HR.out.len hn; rw [hg] at h; exact h)
    have HG := Lib.hid hg
    clear hg
    have d0 : w.drew.cell? ⟨g, 0, none⟩ = some (.slice A n c) := k0
    have d1 : w.drew.cell? ⟨g, 1, none⟩ = some (.int .i64 p) := k1
    go_enter Tryd.func46, Tryd.ntmps46
    go_wp2
    go_region_with (go_at_call 83; (with_reducible refine (GetText_is A n c p m l B _ HR.out.drew hc hn hp63 HG.out).mono ?_); rintro e w8 ⟨rfl, rfl⟩)
    all_goals go_wp2
    all_goals go_ret
    all_goals exact ⟨_, _, _, rfl, HAT.out.2, .inr ⟨by first | exact rfl | trivial, HG.out⟩, HAT.out.1, ((HRD.out.set1 _).set2 _).drew, gb_trans (gb_trans (gb_set _ _ _ _) (gb_set _ _ _ _)) (gb_drew _ _)⟩
  · have heN : (e == 0) = false := beqF he
    have HE := Lib.hid he
    clear he
    go_enter Tryd.func46, Tryd.ntmps46
    go_wp2
    go_ret
    exact ⟨ByteArray.empty, p, e, rfl, Nat.zero_le _, .inl ⟨HE.out, rfl⟩, HA.out, HRD.out, grown_refl _ _⟩
theorem text_any (g : Nat) (A : Option Addr) (n c m : Nat) (p e : Int) (l : List UInt8) (B : Nat) (w : World) (hm : m ≤ 1099511627776) (hR : Rdr 65 w g (.slice A n c) p e) (hr : Rd w B A n l) (hc : n ≤ c) (hn : n ≤ 1099511627776) (ha : At n p e) :
    Calls Tryd.prog 46 #[.pointer (some ⟨g, 0, none⟩), .int .i64 (m : Int)] w (NumR (ctext m hm) mkS (fun x => x.size ≤ m) 65 g (.slice A n c) l n p e w) :=
  (text_raw g A n c m p e l B w hR hr hc hn ha).mono fun en w' ⟨x, q, z, h1, h2, h3, h4⟩ => ⟨x, q, z, h1, h2, by
    rcases h3 with h3 | ⟨rfl, h3⟩
    · exact .inl h3
    · have h := steps_text (l := l) (p := p) (hm := hm); rw [h3] at h; exact h, h4⟩
/-- so many bytes, as a text -/
theorem blob_any (g : Nat) (A : Option Addr) (n c m : Nat) (p e : Int) (l : List UInt8) (B : Nat) (w : World) (hR : Rdr 65 w g (.slice A n c) p e) (hr : Rd w B A n l) (hc : n ≤ c) (hn : n ≤ 1099511627776) (ha : At n p e) :
    Calls Tryd.prog 46 #[.pointer (some ⟨g, 0, none⟩), .int .i64 (m : Int)] w fun en w' => ∃ x q z, en = .returned (.string x) ∧ x.size ≤ m ∧ Steps (cblob (ckM m) (ckM_pos m)) l p e x.data.toList q z ∧ At n q z ∧ Rdr 65 w' g (.slice A n c) q z ∧ w.grownBy w' (some g) :=
  (text_raw g A n c m p e l B w hR hr hc hn ha).mono fun en w' ⟨x, q, z, h1, h2, h3, h4⟩ => ⟨x, q, z, h1, h2, by
    rcases h3 with h3 | ⟨rfl, h3⟩
    · exact .inl h3
    · have h := steps_blob (l := l) (p := p) (m := m); rw [h3] at h; exact h, h4⟩
/-- one byte -/
def stO (l : List UInt8) (p e : Int) : Nat × Int × Int := if e ≠ 0 then (0, p, e) else ((gt l p 1).1, p + 1, (gt l p 1).2)
set_option maxRecDepth 100000 in
set_option maxHeartbeats 1000000 in
theorem oneByte_any (g : Nat) (A : Option Addr) (n c : Nat) (p e : Int) (l : List UInt8) (B : Nat) (w : World) (hR : Rdr 65 w g (.slice A n c) p e) (hr : Rd w B A n l) (hc : n ≤ c) (hn : n ≤ 1099511627776) (hp : 0 ≤ p ∧ p ≤ 1099511627776) {x : Nat} {q z : Int} (hx : x ≤ 255) (h : stO l p e = (x, q, z)) :
    Calls Tryd.prog 81 #[.pointer (some ⟨g, 0, none⟩)] w fun en w' => en = .returned (.int .i64 (x : Int)) ∧ Rdr 65 w' g (.slice A n c) q z ∧ w.grownBy w' (some g) := by
  have HR := Lib.hid hr
  have HRD := Lib.hid hR
  have hmx : Tryd.prog.follows .mixedOrders = true := by kernel_rfl
  have k0 := hR.c0
  have k1 := hR.c1
  have k2 := hR.c2
  have f1 := hR.f 1
  have f2 := hR.f 2
  clear hr hR
  by_cases he : e = 0
  · subst he
    obtain ⟨x', z', hg⟩ : ∃ x z, gt l p 1 = (x, z) := ⟨_, _, rfl⟩
    have HG := Lib.hid hg
    unfold stO at h
    rw [if_neg (by simp), hg] at h
    simp only [Prod.mk.injEq] at h
    obtain ⟨rfl, rfl, rfl⟩ := h
    clear hg
    have hw1 : IntKind.i64.wrap (p + 1) = p + 1 := IntWalk.i64_in _ (by omega)
    have hw2 : IntKind.i64.wrap (x' : Int) = (x' : Int) := IntWalk.i64_in _ (by omega)
    have d0 : w.drew.cell? ⟨g, 0, none⟩ = some (.slice A n c) := k0
    have d1 : w.drew.cell? ⟨g, 1, none⟩ = some (.int .i64 p) := k1
    go_enter Tryd.func81, Tryd.ntmps81
    go_wp2
    go_region_with (go_at_call 92; (with_reducible refine (Get_is A n c p 1 l B _ HR.out.drew hc hn HG.out).mono ?_); rintro e w8 ⟨rfl, rfl⟩)
    all_goals go_wp2
    all_goals go_ret
    all_goals exact ⟨rfl, (HRD.out.set1 _).set2 _, gb_trans (gb_drew _ _) (gb_trans (gb_set _ _ _ _) (gb_set _ _ _ _))⟩
  · have heN : (e != 0) = true := by simp [he]
    unfold stO at h
    rw [if_pos he] at h
    simp only [Prod.mk.injEq] at h
    obtain ⟨rfl, rfl, rfl⟩ := h
    clear he
    go_enter Tryd.func81, Tryd.ntmps81
    go_wp2
    go_ret
    exact ⟨rfl, HRD.out, grown_refl _ _⟩
end Go.Proofs.YthhdhdjdhekgpaaDoor.Pro
