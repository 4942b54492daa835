/- The contracts of the landed rec's getFlag, of the closures in Get, and of field at three types. -/
import Derived.Test.YtfjdalekpmlnaaaRecDevA
import Derived.Test.YtfjdalekpmlnaaaOctFGet
import Derived.Test.YtfjdalekpmlnaaaOctFGetText
namespace Go.Proofs.Ytfjdalekpmlnaaa.Rec
open Go.RowKit Go.Proofs.Ytfjdalekpmlnaaa.Oct

/-- the flag that stands at p -/
def gf (l : List UInt8) (p : Int) : Bool × Int × Int :=
  if (gt l p 1).2 ≠ 0 then (false, 0, (gt l p 1).2) else if 1 < (gt l p 1).1 then (false, 0, 11) else ((gt l p 1).1 == 1, p + 1, 0)
/-- a field of a walk that stands at p, e being the first error -/
def st {α : Type} (z : α) (g : α × Int × Int) (p e : Int) : α × Int × Int :=
  if e ≠ 0 then (z, p, e) else if g.2.2 ≠ 0 then (z, p, g.2.2) else (g.1, g.2.1, 0)
theorem st_e {α : Type} (z : α) (g : α × Int × Int) (p : Int) {e : Int} (h : e ≠ 0) : st z g p e = (z, p, e) := by unfold st; rw [if_pos h]
theorem st_b {α : Type} (z : α) {g : α × Int × Int} (p : Int) (h : g.2.2 ≠ 0) : st z g p 0 = (z, p, g.2.2) := by unfold st; rw [if_neg (by simp), if_pos h]
theorem st_g {α : Type} (z : α) {g : α × Int × Int} (p : Int) (h : g.2.2 = 0) : st z g p 0 = (g.1, g.2.1, 0) := by unfold st; rw [if_neg (by simp), if_neg (by simpa using h)]

theorem gt_in {l : List UInt8} {p : Int} (h : (gt l p 1).2 = 0) : 0 ≤ p ∧ p < l.length := by
  unfold gt at h
  by_cases h1 : isW 1 = false ∨ p < 0
  · rw [if_pos h1] at h; simp at h
  · rw [if_neg h1] at h
    by_cases h2 : hasB l.length p 1 = false
    · rw [if_pos h2] at h; simp at h
    · have h3 : hasB l.length p 1 = true := by simpa using h2
      simp [hasB] at h3
      have : ¬ p < 0 := fun hh => h1 (.inr hh)
      omega

set_option maxRecDepth 100000 in
theorem getFlag_any (A : Option Addr) (n c : Nat) (p : Int) (l : List UInt8) (B : Nat) (w : World) (hr : Rd w B A n l) (hc : n ≤ c) (hn : n ≤ 1099511627776) :
    Calls Try.prog 34 #[.slice A n c, .int .i64 p] w fun e w' => e = .returned (.tuple #[.bool (gf l p).1, .int .i64 (gf l p).2.1, .int .i64 (gf l p).2.2]) ∧ w = w' := by
  rcases hg : gt l p 1 with ⟨x, z⟩
  have hl := hr.len
  have HR := Lib.hid hr
  have HG := Lib.hid hg
  by_cases h1 : z = 0
  · subst h1
    have hin := gt_in (l := l) (p := p) (by rw [hg])
    by_cases h2 : 1 < x
    · have hz := Lib.hid (show gf l p = (false, 0, 11) by unfold gf; rw [hg, if_neg (by simp), if_pos h2])
      have h2' : (1 : Int) < (x : Int) := by omega
      rw [hz.out]
      clear hr hg hl h2
      go_enter Try.func34, Try.ntmps34
      go_wp2_with (go_at_call 49; refine (Get_is A n c p 1 l B _ HR.out hc hn HG.out).mono ?_; rintro e w8 ⟨rfl, rfl⟩)
      go_ret3
      exact ⟨rfl, rfl⟩
    · have hz := Lib.hid (show gf l p = (x == 1, p + 1, 0) by unfold gf; rw [hg, if_neg (by simp), if_neg h2])
      have h2' : ¬ (1 : Int) < (x : Int) := by omega
      have hp0 : 0 ≤ p := hin.1
      have hp1 : p ≤ 1099511627776 := by omega
      have hx : ((x : Int) == 1) = (x == 1) := by
        by_cases hh : x = 1
        · subst hh; rfl
        · rw [beq_false_of_ne hh]; exact beq_false_of_ne (by omega)
      rw [hz.out]
      obtain ⟨D, hD⟩ : ∃ D, (x == 1) = D := ⟨_, rfl⟩
      rw [hD] at hx ⊢
      clear hr hg hl h2 hD hin
      go_enter Try.func34, Try.ntmps34
      go_wp2_with (go_at_call 49; refine (Get_is A n c p 1 l B _ HR.out hc hn HG.out).mono ?_; rintro e w8 ⟨rfl, rfl⟩)
      go_ret3
      exact ⟨rfl, rfl⟩
  · have hz := Lib.hid (show gf l p = (false, 0, z) by unfold gf; rw [hg, if_pos h1])
    have h1' : (z != 0) = true := by simp [h1]
    have h1'' : (z == 0) = false := beqF h1
    rw [hz.out]
    clear hr hg hl h1
    go_enter Try.func34, Try.ntmps34
    go_wp2_with (go_at_call 49; refine (Get_is A n c p 1 l B _ HR.out hc hn HG.out).mono ?_; rintro e w8 ⟨rfl, rfl⟩)
    go_ret3
    exact ⟨rfl, rfl⟩

theorem number_is (A : Option Addr) (n c X : Nat) (p : Int) (l : List UInt8) (B : Nat) (w : World) (hX : w.cell? ⟨X, 0, none⟩ = some (.slice A n c)) (hr : Rd w B A n l) (hn : n ≤ 137438953472) (hp : p ≤ 9223372036854775807) {x y z : Int} (h : gv l p = (x, y, z)) :
    Calls Try.prog 31 #[.int .i64 p, .pointer (some ⟨X, 0, none⟩)] w fun e w' => e = .returned (.tuple #[.int .i64 x, .int .i64 y, .int .i64 z]) ∧ w = w' := by
  have HR := Lib.hid hr
  have HG := Lib.hid h
  clear hr h
  go_enter Try.func31, Try.ntmps31
  go_wp2_with (go_at_call 32; refine (GetVar_is A n c p l B _ HR.out (by omega) hp HG.out).mono ?_; rintro e w8 ⟨rfl, rfl⟩)
  go_ret3
  exact ⟨rfl, rfl⟩
theorem dead_is (A : Option Addr) (n c X : Nat) (p : Int) (l : List UInt8) (B : Nat) (w : World) (hX : w.cell? ⟨X, 0, none⟩ = some (.slice A n c)) (hr : Rd w B A n l) (hc : n ≤ c) (hn : n ≤ 137438953472) {x : Bool} {y z : Int} (h : gf l p = (x, y, z)) :
    Calls Try.prog 33 #[.int .i64 p, .pointer (some ⟨X, 0, none⟩)] w fun e w' => e = .returned (.tuple #[.bool x, .int .i64 y, .int .i64 z]) ∧ w = w' := by
  have HR := Lib.hid hr
  have HG := Lib.hid h
  clear hr h
  go_enter Try.func33, Try.ntmps33
  go_wp2_with (go_at_call 34; refine (getFlag_any A n c p l B _ HR.out hc (by omega)).mono ?_; rw [HG.out]; rintro e w8 ⟨rfl, rfl⟩)
  go_ret3
  exact ⟨rfl, rfl⟩
theorem text_is (A : Option Addr) (n c X : Nat) (p : Int) (l : List UInt8) (B : Nat) (w : World) (hX : w.cell? ⟨X, 0, none⟩ = some (.slice A n c)) (hr : Rd w B A n l) (hc : n ≤ c) (hn : n ≤ 137438953472) (hp : p ≤ 9223372036854775807) {x : ByteArray} {y z : Int} (h : gx l p 64 = (x, y, z)) :
    Calls Try.prog 35 #[.int .i64 p, .pointer (some ⟨X, 0, none⟩)] w fun e w' => e = .returned (.tuple #[.string x, .int .i64 y, .int .i64 z]) ∧ w = w' := by
  have HR := Lib.hid hr
  have HG := Lib.hid h
  clear hr h
  go_enter Try.func35, Try.ntmps35
  go_wp2_with (go_at_call 36; refine (GetText_is A n c p 64 l B _ HR.out hc (by omega) hp HG.out).mono ?_; rintro e w8 ⟨rfl, rfl⟩)
  go_ret3
  exact ⟨rfl, rfl⟩

set_option maxRecDepth 100000 in
theorem fieldInt_any (A : Option Addr) (n c X g : Nat) (p e : Int) (l : List UInt8) (B : Nat) (w : World) (hg : g = w.heap.size) (hX : w.cell? ⟨X, 0, none⟩ = some (.slice A n c)) (hXl : X < w.heap.size) (hr : Rd w B A n l) (hB : B ≤ w.heap.size) (_hc : n ≤ c) (hn : n ≤ 137438953472) (hp : p ≤ 9223372036854775807) :
    Calls Try.prog 37 #[.pointer (some ⟨g, 0, none⟩), .func (.func 31) #[] #[.pointer (some ⟨X, 0, none⟩)]] (w.alloc (.cells #[.int .i64 p, .int .i64 e] 57)) fun en w' => en = .returned (.int .i64 (st 0 (gv l p) p e).1) ∧ w.alloc (.cells #[.int .i64 (st 0 (gv l p) p e).2.1, .int .i64 (st 0 (gv l p) p e).2.2] 57) = w' := by
  subst hg
  have HR := Lib.hid (hr.alloc hB (.cells #[.int .i64 p, .int .i64 e] 57))
  have HX : (w.alloc (.cells #[.int .i64 p, .int .i64 e] 57)).cell? ⟨X, 0, none⟩ = some (.slice A n c) := (World.cell?_alloc_past _ _ _ hXl).trans hX
  by_cases h1 : e = 0
  · subst h1
    rcases hv : gv l p with ⟨x, y, z⟩
    have HV := Lib.hid hv
    by_cases h2 : z = 0
    · subst h2
      rw [st_g _ _ rfl]
      clear hv hr
      go_enter Try.func37, Try.ntmps37
      go_wp2_with (go_at_call 31; refine (number_is A n c X p l B _ HX HR.out hn hp HV.out).mono ?_; rintro e w8 ⟨rfl, rfl⟩)
      go_ret
      exact ⟨rfl, rfl⟩
    · have h2' : (z != 0) = true := by simp [h2]
      have h2'' : (z == 0) = false := beqF h2
      rw [st_b _ _ (by exact h2)]
      clear hv hr h2
      go_enter Try.func37, Try.ntmps37
      go_wp2_with (go_at_call 31; refine (number_is A n c X p l B _ HX HR.out hn hp HV.out).mono ?_; rintro e w8 ⟨rfl, rfl⟩)
      go_ret
      exact ⟨rfl, rfl⟩
  · have h1' : (e != 0) = true := by simp [h1]
    have h1'' : (e == 0) = false := beqF h1
    rw [st_e _ _ _ h1]
    clear hr h1
    go_enter Try.func37, Try.ntmps37
    go_wp2
    go_ret
    exact ⟨rfl, rfl⟩
set_option maxRecDepth 100000 in
theorem fieldBool_any (A : Option Addr) (n c X g : Nat) (p e : Int) (l : List UInt8) (B : Nat) (w : World) (hg : g = w.heap.size) (hX : w.cell? ⟨X, 0, none⟩ = some (.slice A n c)) (hXl : X < w.heap.size) (hr : Rd w B A n l) (hB : B ≤ w.heap.size) (hc : n ≤ c) (hn : n ≤ 137438953472) (_hp : p ≤ 9223372036854775807) :
    Calls Try.prog 38 #[.pointer (some ⟨g, 0, none⟩), .func (.func 33) #[] #[.pointer (some ⟨X, 0, none⟩)]] (w.alloc (.cells #[.int .i64 p, .int .i64 e] 57)) fun en w' => en = .returned (.bool (st false (gf l p) p e).1) ∧ w.alloc (.cells #[.int .i64 (st false (gf l p) p e).2.1, .int .i64 (st false (gf l p) p e).2.2] 57) = w' := by
  subst hg
  have HR := Lib.hid (hr.alloc hB (.cells #[.int .i64 p, .int .i64 e] 57))
  have HX : (w.alloc (.cells #[.int .i64 p, .int .i64 e] 57)).cell? ⟨X, 0, none⟩ = some (.slice A n c) := (World.cell?_alloc_past _ _ _ hXl).trans hX
  by_cases h1 : e = 0
  · subst h1
    rcases hv : gf l p with ⟨x, y, z⟩
    have HV := Lib.hid hv
    by_cases h2 : z = 0
    · subst h2
      rw [st_g _ _ rfl]
      clear hv hr
      go_enter Try.func38, Try.ntmps38
      go_wp2_with (go_at_call 33; refine (dead_is A n c X p l B _ HX HR.out hc hn HV.out).mono ?_; rintro e w8 ⟨rfl, rfl⟩)
      go_ret
      exact ⟨rfl, rfl⟩
    · have h2' : (z != 0) = true := by simp [h2]
      have h2'' : (z == 0) = false := beqF h2
      rw [st_b _ _ (by exact h2)]
      clear hv hr h2
      go_enter Try.func38, Try.ntmps38
      go_wp2_with (go_at_call 33; refine (dead_is A n c X p l B _ HX HR.out hc hn HV.out).mono ?_; rintro e w8 ⟨rfl, rfl⟩)
      go_ret
      exact ⟨rfl, rfl⟩
  · have h1' : (e != 0) = true := by simp [h1]
    have h1'' : (e == 0) = false := beqF h1
    rw [st_e _ _ _ h1]
    clear hr h1
    go_enter Try.func38, Try.ntmps38
    go_wp2
    go_ret
    exact ⟨rfl, rfl⟩
set_option maxRecDepth 100000 in
theorem fieldText_any (A : Option Addr) (n c X g : Nat) (p e : Int) (l : List UInt8) (B : Nat) (w : World) (hg : g = w.heap.size) (hX : w.cell? ⟨X, 0, none⟩ = some (.slice A n c)) (hXl : X < w.heap.size) (hr : Rd w B A n l) (hB : B ≤ w.heap.size) (hc : n ≤ c) (hn : n ≤ 137438953472) (hp : p ≤ 9223372036854775807) :
    Calls Try.prog 39 #[.pointer (some ⟨g, 0, none⟩), .func (.func 35) #[] #[.pointer (some ⟨X, 0, none⟩)]] (w.alloc (.cells #[.int .i64 p, .int .i64 e] 57)) fun en w' => en = .returned (.string (st ByteArray.empty (gx l p 64) p e).1) ∧ w.alloc (.cells #[.int .i64 (st ByteArray.empty (gx l p 64) p e).2.1, .int .i64 (st ByteArray.empty (gx l p 64) p e).2.2] 57) = w' := by
  subst hg
  have HR := Lib.hid (hr.alloc hB (.cells #[.int .i64 p, .int .i64 e] 57))
  have HX : (w.alloc (.cells #[.int .i64 p, .int .i64 e] 57)).cell? ⟨X, 0, none⟩ = some (.slice A n c) := (World.cell?_alloc_past _ _ _ hXl).trans hX
  by_cases h1 : e = 0
  · subst h1
    rcases hv : gx l p 64 with ⟨x, y, z⟩
    have HV := Lib.hid hv
    by_cases h2 : z = 0
    · subst h2
      rw [st_g _ _ rfl]
      clear hv hr
      go_enter Try.func39, Try.ntmps39
      go_wp2_with (go_at_call 35; refine (text_is A n c X p l B _ HX HR.out hc hn hp HV.out).mono ?_; rintro e w8 ⟨rfl, rfl⟩)
      go_ret
      exact ⟨rfl, rfl⟩
    · have h2' : (z != 0) = true := by simp [h2]
      have h2'' : (z == 0) = false := beqF h2
      rw [st_b _ _ (by exact h2)]
      clear hv hr h2
      go_enter Try.func39, Try.ntmps39
      go_wp2_with (go_at_call 35; refine (text_is A n c X p l B _ HX HR.out hc hn hp HV.out).mono ?_; rintro e w8 ⟨rfl, rfl⟩)
      go_ret
      exact ⟨rfl, rfl⟩
  · have h1' : (e != 0) = true := by simp [h1]
    have h1'' : (e == 0) = false := beqF h1
    rw [st_e _ _ _ h1]
    clear hr h1
    go_enter Try.func39, Try.ntmps39
    go_wp2
    go_ret
    exact ⟨rfl, rfl⟩
end Go.Proofs.Ytfjdalekpmlnaaa.Rec
