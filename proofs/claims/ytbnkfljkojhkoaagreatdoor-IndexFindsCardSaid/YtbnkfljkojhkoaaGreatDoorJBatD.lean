/- Joined: BatRefD0, BatRefD1, BatRefD2, BatRefD3, BatRefD4. -/
import Derived.Test.YtbnkfljkojhkoaaGreatDoorJBatA
import Derived.Test.YtbnkfljkojhkoaaGreatDoorJBatR
import Derived.Test.YtbnkfljkojhkoaaGreatDoorJBatK
import Derived.BigRegion
import Derived.Test.YtbnkfljkojhkoaaGreatDoorJRec
import Derived.Test.YtbnkfljkojhkoaaGreatDoorJOct
import Derived.Deep.QuietTactic
import Derived.BigQuiet
import Derived.Outline
/- The contract of the document's own body. -/
namespace Go.Proofs.YtbnkfljkojhkoaaGreatDoor.Bat
open Go.RowKit Oct Rec Crc Lay RowF

structure AR (w : World) (g : Nat) (xs : List Int) : Prop where
  c : ∀ j x, xs[j]? = some x → w.cell? ⟨g, j, none⟩ = some (.int .i64 x)
  f : ∀ j, w.frozen? ⟨g, j, none⟩ = false
  len : xs.length = 7
  lt : g < w.heap.size
theorem AR.below {w w' : World} {g B : Nat} {xs : List Int} (h : AR w g xs) (hb : Below B w w') (hg : g < B) : AR w' g xs :=
  ⟨fun j x hx => (hb.cell (p := ⟨g, j, none⟩) hg).trans (h.c j x hx), fun j => (hb.frozen (p := ⟨g, j, none⟩) hg).trans (h.f j), h.len, Nat.lt_of_lt_of_le h.lt hb.size⟩
theorem AR.set {w : World} {g j : Nat} {xs : List Int} (h : AR w g xs) (hj : j < 7) (x : Int) : AR (w.setCell ⟨g, j, none⟩ (.int .i64 x)) g (xs.set j x) := by
  refine ⟨fun i y hy => ?_, fun i => (frozen_set _ _ _ _).trans (h.f i), by rw [List.length_set]; exact h.len, by simpa [World.setCell] using h.lt⟩
  have hl := h.len
  rw [List.getElem?_set] at hy
  by_cases hij : j = i
  · subst hij
    rw [if_pos rfl, if_pos (by omega)] at hy
    obtain rfl := Option.some.inj hy
    exact World.cell?_setCell_same _ _ _ (h.c j _ (List.getElem?_eq_getElem (by omega)))
  · rw [if_neg hij] at hy
    exact (cell_set_off hij).trans (h.c i y hy)
theorem AR.new (w : World) : AR (w.alloc (.cells #[.int .i64 0, .int .i64 0, .int .i64 0, .int .i64 0, .int .i64 0, .int .i64 0, .int .i64 0] 113)) w.heap.size [0, 0, 0, 0, 0, 0, 0] :=
  ⟨seven_cells w _ 0 0 0 0 0 0 0, fun j => World.frozen?_alloc_at _ _ _ _ rfl, rfl, by simp⟩
def BDY (w : World) (l : List UInt8) (en : Ending) (w' : World) : Prop :=
  Below w.heap.size w w' ∧ ∃ b A n c ok, en = .returned (.tuple #[bval b (.slice A n c), .bool ok]) ∧ n ≤ c ∧ OwnR w' w.heap.size A n b.recs ∧ (ok = true → rdB l = some (b, (l.length : Int))) ∧ (ok = false → ¬ ∃ b', rdB l = some (b', (l.length : Int)))
def b1Rel (l : List UInt8) (R : Nat) (w : World) (a i : Value) (wr : World) : Prop :=
  ∃ (k : Nat) (arr : List Int) (p : Int), i = .int .i64 (k : Int) ∧ a = .int .i64 p ∧ k ≤ 7 ∧ 0 ≤ p ∧ p ≤ (l.length : Int) ∧ AR wr (R + 2) arr ∧ (∀ x ∈ arr, W64 x) ∧ rdV 7 l 0 = (rdV (7 - k) l p).map (fun y => (arr.take k ++ y.1, y.2)) ∧ ZB wr R ∧ ZB wr (R + 1) ∧ Below R w wr
theorem refGetR_is (A : Option Addr) (n c : Nat) (l : List UInt8) (B : Nat) (p b t : Int) (w : World) (hr : Rd w B A n l) (hB : B ≤ w.heap.size) (hc : n ≤ c) (hn : n ≤ 1099511627776) (hp : I64 p) {o s : Int} {k v : ByteArray} {d : Bool} {q z : Int} (h : gr l p b t = (⟨o, k, v, d, s⟩, q, z)) :
    Calls Tryz.prog 77 #[.slice A n c, .int .i64 p, .int .i64 b, .int .i64 t] w fun e w' => e = .returned (.tuple #[.agg #[.int .i64 o, .string k, .string v, .bool d, .int .i64 s], .int .i64 q, .int .i64 z]) ∧ Below w.heap.size w w' := by
  have h1 := Rec.refGet_any A n c l B p b t w hr hB hc hn hp.1 hp.2
  rw [h] at h1
  exact h1
def b2Rel (e : TypeId) (l : List UInt8) (R : Nat) (b : Bt) (st p3 : Int) (m Bs : Nat) (w : World) (a i : Value) (wr : World) : Prop :=
  ∃ (k : Nat) (xs : List Rc) (p : Int) (A : Option Addr) (c : Nat), i = .int .i64 (k : Int) ∧ a = .int .i64 p ∧ k ≤ m ∧ 0 ≤ p ∧ p ≤ (l.length : Int) ∧ rdR m l p3 b.base st = (rdR (m - k) l p b.base st).map (fun y => (xs ++ y.1, y.2)) ∧
    OwnF recC 5 wr e Bs (.slice A k c) k xs ∧ BoxB wr (R + 1) b (.slice A k c) ∧ wr.frozen? ⟨R + 1, 9, none⟩ = false ∧ ZB wr R ∧ Below R w wr ∧ Bs ≤ wr.heap.size
end Go.Proofs.YtbnkfljkojhkoaaGreatDoor.Bat

/- The document's body: fewer than seven numbers. -/
namespace Go.Proofs.YtbnkfljkojhkoaaGreatDoor.Bat
open Go.RowKit Oct Rec Crc Lay RowF

set_option maxRecDepth 100000 in
set_option maxHeartbeats 8000000 in
theorem refBody_1 (A : Option Addr) (n c : Nat) (l : List UInt8) (w : World) (hr : Rd w w.heap.size A n l) (_hc : n ≤ c) (hn : n ≤ 1099511627776) (hV : rdV 7 l 0 = none) :
    Calls Tryz.prog 53 #[.slice A n c] w (BDY w l) := by
  have HNO := Lib.hid (show ¬ ∃ b', rdB l = some (b', (l.length : Int)) by
    rintro ⟨b', hb'⟩
    unfold rdB at hb'
    rw [hV] at hb'
    cases hb')
  have HVs := Lib.hid hV
  clear hV
  have HW1 := Lib.hid (show Below w.heap.size w (((w.alloc (.cells #[.int .i64 0, .int .i64 0, .int .i64 0, .int .i64 0, .int .i64 0, .int .i64 0, .int .i64 0, .bool false, .int .i64 0, .slice none 0 0] 36)).alloc (.cells #[.int .i64 0, .int .i64 0, .int .i64 0, .int .i64 0, .int .i64 0, .int .i64 0, .int .i64 0, .bool false, .int .i64 0, .slice none 0 0] 36)).alloc (.cells #[.int .i64 0, .int .i64 0, .int .i64 0, .int .i64 0, .int .i64 0, .int .i64 0, .int .i64 0] 113)) from (((Below.refl w.heap.size w).alloc (Nat.le_refl _) _).alloc (by simp) _).alloc (by simp; omega) _)
  have HZ1 := Lib.hid (show ZB (((w.alloc (.cells #[.int .i64 0, .int .i64 0, .int .i64 0, .int .i64 0, .int .i64 0, .int .i64 0, .int .i64 0, .bool false, .int .i64 0, .slice none 0 0] 36)).alloc (.cells #[.int .i64 0, .int .i64 0, .int .i64 0, .int .i64 0, .int .i64 0, .int .i64 0, .int .i64 0, .bool false, .int .i64 0, .slice none 0 0] 36)).alloc (.cells #[.int .i64 0, .int .i64 0, .int .i64 0, .int .i64 0, .int .i64 0, .int .i64 0, .int .i64 0] 113)) w.heap.size from ((ZB.new w).below (bel_alloc (Below.refl _ _) _) (by simp)).below (bel_alloc (Below.refl _ _) _) (by simp; omega))
  have HZ2 := Lib.hid (show ZB (((w.alloc (.cells #[.int .i64 0, .int .i64 0, .int .i64 0, .int .i64 0, .int .i64 0, .int .i64 0, .int .i64 0, .bool false, .int .i64 0, .slice none 0 0] 36)).alloc (.cells #[.int .i64 0, .int .i64 0, .int .i64 0, .int .i64 0, .int .i64 0, .int .i64 0, .int .i64 0, .bool false, .int .i64 0, .slice none 0 0] 36)).alloc (.cells #[.int .i64 0, .int .i64 0, .int .i64 0, .int .i64 0, .int .i64 0, .int .i64 0, .int .i64 0] 113)) (w.heap.size + 1) by
    have h := (ZB.new (w.alloc (.cells #[.int .i64 0, .int .i64 0, .int .i64 0, .int .i64 0, .int .i64 0, .int .i64 0, .int .i64 0, .bool false, .int .i64 0, .slice none 0 0] 36))).below (bel_alloc (Below.refl _ _) (.cells #[.int .i64 0, .int .i64 0, .int .i64 0, .int .i64 0, .int .i64 0, .int .i64 0, .int .i64 0] 113)) (by simp)
    rw [show (w.alloc (.cells #[.int .i64 0, .int .i64 0, .int .i64 0, .int .i64 0, .int .i64 0, .int .i64 0, .int .i64 0, .bool false, .int .i64 0, .slice none 0 0] 36)).heap.size = w.heap.size + 1 by simp] at h
    exact h)
  have HA1 := Lib.hid (show AR (((w.alloc (.cells #[.int .i64 0, .int .i64 0, .int .i64 0, .int .i64 0, .int .i64 0, .int .i64 0, .int .i64 0, .bool false, .int .i64 0, .slice none 0 0] 36)).alloc (.cells #[.int .i64 0, .int .i64 0, .int .i64 0, .int .i64 0, .int .i64 0, .int .i64 0, .int .i64 0, .bool false, .int .i64 0, .slice none 0 0] 36)).alloc (.cells #[.int .i64 0, .int .i64 0, .int .i64 0, .int .i64 0, .int .i64 0, .int .i64 0, .int .i64 0] 113)) (w.heap.size + 2) [0, 0, 0, 0, 0, 0, 0] by
    have h := AR.new ((w.alloc (.cells #[.int .i64 0, .int .i64 0, .int .i64 0, .int .i64 0, .int .i64 0, .int .i64 0, .int .i64 0, .bool false, .int .i64 0, .slice none 0 0] 36)).alloc (.cells #[.int .i64 0, .int .i64 0, .int .i64 0, .int .i64 0, .int .i64 0, .int .i64 0, .int .i64 0, .bool false, .int .i64 0, .slice none 0 0] 36))
    rw [show ((w.alloc (.cells #[.int .i64 0, .int .i64 0, .int .i64 0, .int .i64 0, .int .i64 0, .int .i64 0, .int .i64 0, .bool false, .int .i64 0, .slice none 0 0] 36)).alloc (.cells #[.int .i64 0, .int .i64 0, .int .i64 0, .int .i64 0, .int .i64 0, .int .i64 0, .int .i64 0, .bool false, .int .i64 0, .slice none 0 0] 36)).heap.size = w.heap.size + 2 by simp] at h
    exact h)
  have HR := Lib.hid hr
  have hl := hr.len
  clear hr
  go_enter Tryz.func53, Tryz.ntmps53
  go_wp2
  generalize hw1 : (((w.alloc (.cells #[.int .i64 0, .int .i64 0, .int .i64 0, .int .i64 0, .int .i64 0, .int .i64 0, .int .i64 0, .bool false, .int .i64 0, .slice none 0 0] 36)).alloc (.cells #[.int .i64 0, .int .i64 0, .int .i64 0, .int .i64 0, .int .i64 0, .int .i64 0, .int .i64 0, .bool false, .int .i64 0, .slice none 0 0] 36)).alloc (.cells #[.int .i64 0, .int .i64 0, .int .i64 0, .int .i64 0, .int .i64 0, .int .i64 0, .int .i64 0] 113)) = w1 at *
  clear hw1
  go_loopw [5, 22] (fun a i wr => b1Rel l w.heap.size w1 a i wr) (fun _ i _ => 7 - (intOf i).toNat)
  case atStart => exact ⟨0, _, 0, rfl, rfl, by omega, by omega, by omega, HA1.out, (by intro x hx; simp only [List.mem_cons, List.not_mem_nil, or_false, or_self] at hx; subst hx; unfold W64; omega), (by cases rdV 7 l 0 <;> rfl), HZ1.out, HZ2.out, Below.refl _ _⟩
  case round =>
    obtain ⟨k, arr, pp, rfl, rfl, hk, hp0, hp1, har, hw64, hR, hz1, hz2, hbr⟩ := hrel
    have HAR := Lib.hid har
    have H64 := Lib.hid hw64
    have HRV := Lib.hid hR
    have HBR := Lib.hid hbr
    have HZA := Lib.hid hz1
    have HZB := Lib.hid hz2
    have HRD := Lib.hid (HR.out.below (HW1.out.trans hbr) (Nat.le_refl _))
    have hp9 : pp ≤ 9223372036854775807 := by omega
    clear har hw64 hR hbr
    by_cases hlt : k < 7
    · rcases hg9 : gv l pp with ⟨x, q, z⟩
      have HG9 := Lib.hid hg9
      by_cases hzz : z = 0
      · subst hzz
        have hgg := gv_good hg9
        have HS := Lib.hid (rdV_step hlt HAR.out.len HRV.out hg9)
        obtain ⟨ox, hox⟩ : ∃ ox, arr[k]? = some ox := ⟨_, List.getElem?_eq_getElem (by have := HAR.out.len; omega)⟩
        have hcell := HAR.out.c k ox hox
        have hfro := HAR.out.f k
        have y1 : (0 : Int) ≤ (k : Int) := by omega
        have y2 : (k : Int) < 7 := by omega
        clear hg9 hox hz1 hz2
        go_wp2_with (go_at_call 76; (with_reducible refine (refGetVar_is A n c pp l _ _ HRD.out hn hp9 HG9.out).mono ?_); rintro e w9 ⟨rfl, rfl⟩)
        go_roundw
        case rel =>
          refine ⟨k + 1, arr.set k x, q, by go_num, rfl, by omega, by omega, by omega, HAR.out.set hlt x, fun y hy => ?_, HS.out, HZA.out.set (by omega), HZB.out.set (by omega), HBR.out.setCell (by show w.heap.size ≤ w.heap.size + 2; omega) _⟩
          rcases List.mem_or_eq_of_mem_set hy with h | rfl
          · exact H64.out y h
          · exact ⟨hgg.2.2.2.2.2.1, hgg.2.2.2.2.2.2⟩
        case measure => simp [intOf]; omega
      · have hzF : (z == 0) = false := beqF hzz
        have hzN : (z != 0) = true := by simp [hzz]
        clear hg9 hzz
        obtain ⟨zc0, zc1, zc2, zc3, zc4, zc5, zc6, zc7, zc8, zc9, zf0, zf1, zf2, zf3, zf4, zf5, zf6, zf7, zf8, zf9, zlt⟩ := hz1
        obtain ⟨yc0, yc1, yc2, yc3, yc4, yc5, yc6, yc7, yc8, yc9, yf0, yf1, yf2, yf3, yf4, yf5, yf6, yf7, yf8, yf9, ylt⟩ := hz2
        go_wp2_with (go_at_call 76; (with_reducible refine (refGetVar_is A n c pp l _ _ HRD.out hn hp9 HG9.out).mono ?_); rintro e w9 ⟨rfl, rfl⟩)
        exact bodyPost_ret (v := .tuple #[bval nilB (.slice none 0 0), .bool false]) (by simp [results, Tryz.results53, go_sem, bval, nilB, zc0, zc1, zc2, zc3, zc4, zc5, zc6, zc7, zc8, zc9]) rfl ⟨(((((((((((HW1.out.trans HBR.out).setCell (by first | (simp; done) | (simp; omega)) _).setCell (by first | (simp; done) | (simp; omega)) _).setCell (by first | (simp; done) | (simp; omega)) _).setCell (by first | (simp; done) | (simp; omega)) _).setCell (by first | (simp; done) | (simp; omega)) _).setCell (by first | (simp; done) | (simp; omega)) _).setCell (by first | (simp; done) | (simp; omega)) _).setCell (by first | (simp; done) | (simp; omega)) _).setCell (by first | (simp; done) | (simp; omega)) _).setCell (by first | (simp; done) | (simp; omega)) _), nilB, none, 0, 0, false, rfl, Nat.le_refl _, ⟨RdR.nil, fun _ _ _ h => absurd h (by omega)⟩, fun h => (by cases h), fun _ => HNO.out⟩
    · have hk7 : k = 7 := by omega
      subst hk7
      have h9 := HRV.out
      rw [HVs.out] at h9
      simp [rdV] at h9
end Go.Proofs.YtbnkfljkojhkoaaGreatDoor.Bat

/- The document's body: what stands behind seven numbers is none. -/
namespace Go.Proofs.YtbnkfljkojhkoaaGreatDoor.Bat
open Go.RowKit Oct Rec Crc Lay RowF

def Early (l : List UInt8) (p n0 n1 : Int) : Prop :=
  l[p.toNat]? = none ∨ ∃ fc, l[p.toNat]? = some fc ∧ (7 < fc.toNat ∨ (gv l (p + 1)).2.2 ≠ 0 ∨ (gv l (p + 1)).1 < 0 ∨ 16 < (gv l (p + 1)).1 ∨ n1 < 0 ∨ 16 < n1 ∨ n0 < 0 ∨ 1099511627776 < n0)
set_option maxRecDepth 100000 in
set_option maxHeartbeats 8000000 in
theorem refBody_2 (A : Option Addr) (n c : Nat) (l : List UInt8) (w : World) (hr : Rd w w.heap.size A n l) (_hc : n ≤ c) (hn : n ≤ 1099511627776) (n0 n1 n2 n3 n4 n5 n6 p : Int) (hV : rdV 7 l 0 = some ([n0, n1, n2, n3, n4, n5, n6], p)) (hE : Early l p n0 n1) :
    Calls Tryz.prog 53 #[.slice A n c] w (BDY w l) := by
  have HVs := Lib.hid hV
  have HE := Lib.hid hE
  clear hV hE
  have HW1 := Lib.hid (show Below w.heap.size w (((w.alloc (.cells #[.int .i64 0, .int .i64 0, .int .i64 0, .int .i64 0, .int .i64 0, .int .i64 0, .int .i64 0, .bool false, .int .i64 0, .slice none 0 0] 36)).alloc (.cells #[.int .i64 0, .int .i64 0, .int .i64 0, .int .i64 0, .int .i64 0, .int .i64 0, .int .i64 0, .bool false, .int .i64 0, .slice none 0 0] 36)).alloc (.cells #[.int .i64 0, .int .i64 0, .int .i64 0, .int .i64 0, .int .i64 0, .int .i64 0, .int .i64 0] 113)) from (((Below.refl w.heap.size w).alloc (Nat.le_refl _) _).alloc (by simp) _).alloc (by simp; omega) _)
  have HZ1 := Lib.hid (show ZB (((w.alloc (.cells #[.int .i64 0, .int .i64 0, .int .i64 0, .int .i64 0, .int .i64 0, .int .i64 0, .int .i64 0, .bool false, .int .i64 0, .slice none 0 0] 36)).alloc (.cells #[.int .i64 0, .int .i64 0, .int .i64 0, .int .i64 0, .int .i64 0, .int .i64 0, .int .i64 0, .bool false, .int .i64 0, .slice none 0 0] 36)).alloc (.cells #[.int .i64 0, .int .i64 0, .int .i64 0, .int .i64 0, .int .i64 0, .int .i64 0, .int .i64 0] 113)) w.heap.size from ((ZB.new w).below (bel_alloc (Below.refl _ _) _) (by simp)).below (bel_alloc (Below.refl _ _) _) (by simp; omega))
  have HZ2 := Lib.hid (show ZB (((w.alloc (.cells #[.int .i64 0, .int .i64 0, .int .i64 0, .int .i64 0, .int .i64 0, .int .i64 0, .int .i64 0, .bool false, .int .i64 0, .slice none 0 0] 36)).alloc (.cells #[.int .i64 0, .int .i64 0, .int .i64 0, .int .i64 0, .int .i64 0, .int .i64 0, .int .i64 0, .bool false, .int .i64 0, .slice none 0 0] 36)).alloc (.cells #[.int .i64 0, .int .i64 0, .int .i64 0, .int .i64 0, .int .i64 0, .int .i64 0, .int .i64 0] 113)) (w.heap.size + 1) by
    have h := (ZB.new (w.alloc (.cells #[.int .i64 0, .int .i64 0, .int .i64 0, .int .i64 0, .int .i64 0, .int .i64 0, .int .i64 0, .bool false, .int .i64 0, .slice none 0 0] 36))).below (bel_alloc (Below.refl _ _) (.cells #[.int .i64 0, .int .i64 0, .int .i64 0, .int .i64 0, .int .i64 0, .int .i64 0, .int .i64 0] 113)) (by simp)
    rw [show (w.alloc (.cells #[.int .i64 0, .int .i64 0, .int .i64 0, .int .i64 0, .int .i64 0, .int .i64 0, .int .i64 0, .bool false, .int .i64 0, .slice none 0 0] 36)).heap.size = w.heap.size + 1 by simp] at h
    exact h)
  have HA1 := Lib.hid (show AR (((w.alloc (.cells #[.int .i64 0, .int .i64 0, .int .i64 0, .int .i64 0, .int .i64 0, .int .i64 0, .int .i64 0, .bool false, .int .i64 0, .slice none 0 0] 36)).alloc (.cells #[.int .i64 0, .int .i64 0, .int .i64 0, .int .i64 0, .int .i64 0, .int .i64 0, .int .i64 0, .bool false, .int .i64 0, .slice none 0 0] 36)).alloc (.cells #[.int .i64 0, .int .i64 0, .int .i64 0, .int .i64 0, .int .i64 0, .int .i64 0, .int .i64 0] 113)) (w.heap.size + 2) [0, 0, 0, 0, 0, 0, 0] by
    have h := AR.new ((w.alloc (.cells #[.int .i64 0, .int .i64 0, .int .i64 0, .int .i64 0, .int .i64 0, .int .i64 0, .int .i64 0, .bool false, .int .i64 0, .slice none 0 0] 36)).alloc (.cells #[.int .i64 0, .int .i64 0, .int .i64 0, .int .i64 0, .int .i64 0, .int .i64 0, .int .i64 0, .bool false, .int .i64 0, .slice none 0 0] 36))
    rw [show ((w.alloc (.cells #[.int .i64 0, .int .i64 0, .int .i64 0, .int .i64 0, .int .i64 0, .int .i64 0, .int .i64 0, .bool false, .int .i64 0, .slice none 0 0] 36)).alloc (.cells #[.int .i64 0, .int .i64 0, .int .i64 0, .int .i64 0, .int .i64 0, .int .i64 0, .int .i64 0, .bool false, .int .i64 0, .slice none 0 0] 36)).heap.size = w.heap.size + 2 by simp] at h
    exact h)
  have HR := Lib.hid hr
  have hl := hr.len
  clear hr
  go_enter Tryz.func53, Tryz.ntmps53
  go_wp2
  generalize hw1 : (((w.alloc (.cells #[.int .i64 0, .int .i64 0, .int .i64 0, .int .i64 0, .int .i64 0, .int .i64 0, .int .i64 0, .bool false, .int .i64 0, .slice none 0 0] 36)).alloc (.cells #[.int .i64 0, .int .i64 0, .int .i64 0, .int .i64 0, .int .i64 0, .int .i64 0, .int .i64 0, .bool false, .int .i64 0, .slice none 0 0] 36)).alloc (.cells #[.int .i64 0, .int .i64 0, .int .i64 0, .int .i64 0, .int .i64 0, .int .i64 0, .int .i64 0] 113)) = w1 at *
  clear hw1
  go_loopw [5, 22] (fun a i wr => b1Rel l w.heap.size w1 a i wr) (fun _ i _ => 7 - (intOf i).toNat)
  case atStart => exact ⟨0, _, 0, rfl, rfl, by omega, by omega, by omega, HA1.out, (by intro x hx; simp only [List.mem_cons, List.not_mem_nil, or_false, or_self] at hx; subst hx; unfold W64; omega), (by cases rdV 7 l 0 <;> rfl), HZ1.out, HZ2.out, Below.refl _ _⟩
  case round =>
    obtain ⟨k, arr, pp, rfl, rfl, hk, hp0, hp1, har, hw64, hR, hz1, hz2, hbr⟩ := hrel
    have HAR := Lib.hid har
    have H64 := Lib.hid hw64
    have HRV := Lib.hid hR
    have HBR := Lib.hid hbr
    have HZA := Lib.hid hz1
    have HZB := Lib.hid hz2
    have HRD := Lib.hid (HR.out.below (HW1.out.trans hbr) (Nat.le_refl _))
    have hp9 : pp ≤ 9223372036854775807 := by omega
    clear har hw64 hR hbr
    by_cases hlt : k < 7
    · rcases hg9 : gv l pp with ⟨x, q, z⟩
      have HG9 := Lib.hid hg9
      by_cases hzz : z = 0
      · subst hzz
        have hgg := gv_good hg9
        have HS := Lib.hid (rdV_step hlt HAR.out.len HRV.out hg9)
        obtain ⟨ox, hox⟩ : ∃ ox, arr[k]? = some ox := ⟨_, List.getElem?_eq_getElem (by have := HAR.out.len; omega)⟩
        have hcell := HAR.out.c k ox hox
        have hfro := HAR.out.f k
        have y1 : (0 : Int) ≤ (k : Int) := by omega
        have y2 : (k : Int) < 7 := by omega
        clear hg9 hox hz1 hz2
        go_wp2_with (go_at_call 76; (with_reducible refine (refGetVar_is A n c pp l _ _ HRD.out hn hp9 HG9.out).mono ?_); rintro e w9 ⟨rfl, rfl⟩)
        go_roundw
        case rel =>
          refine ⟨k + 1, arr.set k x, q, by go_num, rfl, by omega, by omega, by omega, HAR.out.set hlt x, fun y hy => ?_, HS.out, HZA.out.set (by omega), HZB.out.set (by omega), HBR.out.setCell (by show w.heap.size ≤ w.heap.size + 2; omega) _⟩
          rcases List.mem_or_eq_of_mem_set hy with h | rfl
          · exact H64.out y h
          · exact ⟨hgg.2.2.2.2.2.1, hgg.2.2.2.2.2.2⟩
        case measure => simp [intOf]; omega
      · have hf : rdV (7 - k) l pp = none := rdV_fail (by omega) (by rw [hg9]; exact hzz)
        have h9 := HRV.out
        rw [hf, HVs.out] at h9
        cases h9
    · have hk7 : k = 7 := by omega
      subst hk7
      have hsr : w.heap.size + 2 < wr.heap.size := HAR.out.lt
      have HWR := Lib.hid (HW1.out.trans HBR.out)
      obtain ⟨rfl, rfl⟩ : arr = [n0, n1, n2, n3, n4, n5, n6] ∧ p = pp := by
        have h9 := HRV.out
        rw [HVs.out] at h9
        have hla := HAR.out.len
        simp [rdV] at h9
        exact ⟨by rw [h9.1, List.take_of_length_le (by omega)], h9.2⟩
      have a0 := HAR.out.c 0 n0 rfl
      have a1 := HAR.out.c 1 n1 rfl
      have a2 := HAR.out.c 2 n2 rfl
      have a3 := HAR.out.c 3 n3 rfl
      have a4 := HAR.out.c 4 n4 rfl
      have a5 := HAR.out.c 5 n5 rfl
      have a6 := HAR.out.c 6 n6 rfl
      obtain ⟨zc0, zc1, zc2, zc3, zc4, zc5, zc6, zc7, zc8, zc9, zf0, zf1, zf2, zf3, zf4, zf5, zf6, zf7, zf8, zf9, zlt⟩ := hz1
      obtain ⟨yc0, yc1, yc2, yc3, yc4, yc5, yc6, yc7, yc8, yc9, yf0, yf1, yf2, yf3, yf4, yf5, yf6, yf7, yf8, yf9, ylt⟩ := hz2
      cases hlp : l[p.toNat]? with
      | none =>
        have HNO := Lib.hid (show ¬ ∃ b', rdB l = some (b', (l.length : Int)) by
          rintro ⟨b', hb'⟩
          unfold rdB at hb'
          rw [HVs.out] at hb'
          simp only [hlp] at hb'
          cases hb')
        have HF := Lib.hid (gt_one_none hp0 hlp)
        clear hlp
        go_wp2_with (go_at_call 51; (with_reducible refine (Oct.refGet_is A n c p 1 l _ _ HRD.out hn HF.out).mono ?_); rintro e w9 ⟨rfl, rfl⟩)
        exact bodyPost_ret (v := .tuple #[bval nilB (.slice none 0 0), .bool false]) (by simp [results, Tryz.results53, go_sem, bval, nilB, zc0, zc1, zc2, zc3, zc4, zc5, zc6, zc7, zc8, zc9]) rfl ⟨((((((((((HWR.out.setCell (by first | (simp; done) | (simp; omega)) _).setCell (by first | (simp; done) | (simp; omega)) _).setCell (by first | (simp; done) | (simp; omega)) _).setCell (by first | (simp; done) | (simp; omega)) _).setCell (by first | (simp; done) | (simp; omega)) _).setCell (by first | (simp; done) | (simp; omega)) _).setCell (by first | (simp; done) | (simp; omega)) _).setCell (by first | (simp; done) | (simp; omega)) _).setCell (by first | (simp; done) | (simp; omega)) _).setCell (by first | (simp; done) | (simp; omega)) _), nilB, none, 0, 0, false, rfl, Nat.le_refl _, ⟨RdR.nil, fun _ _ _ h => absurd h (by omega)⟩, fun h => (by cases h), fun _ => HNO.out⟩
      | some fc =>
        have hplt : p < (l.length : Int) := by have := (List.getElem?_eq_some_iff.1 hlp).1; omega
        have HF := Lib.hid (gt_one_some hp0 hlp)
        have HLP := Lib.hid hlp
        clear hlp
        by_cases hf7 : 7 < fc.toNat
        · have HNO := Lib.hid (show ¬ ∃ b', rdB l = some (b', (l.length : Int)) by
            rintro ⟨b', hb'⟩
            unfold rdB at hb'
            rw [HVs.out] at hb'
            simp only [HLP.out] at hb'
            rw [if_pos hf7] at hb'
            cases hb')
          have hf8 : (7 : Int) < (fc.toNat : Int) := by omega
          clear hf7
          go_wp2_with (go_at_call 51; (with_reducible refine (Oct.refGet_is A n c p 1 l _ _ HRD.out hn HF.out).mono ?_); rintro e w9 ⟨rfl, rfl⟩)
          exact bodyPost_ret (v := .tuple #[bval nilB (.slice none 0 0), .bool false]) (by simp [results, Tryz.results53, go_sem, bval, nilB, zc0, zc1, zc2, zc3, zc4, zc5, zc6, zc7, zc8, zc9]) rfl ⟨((((((((((HWR.out.setCell (by first | (simp; done) | (simp; omega)) _).setCell (by first | (simp; done) | (simp; omega)) _).setCell (by first | (simp; done) | (simp; omega)) _).setCell (by first | (simp; done) | (simp; omega)) _).setCell (by first | (simp; done) | (simp; omega)) _).setCell (by first | (simp; done) | (simp; omega)) _).setCell (by first | (simp; done) | (simp; omega)) _).setCell (by first | (simp; done) | (simp; omega)) _).setCell (by first | (simp; done) | (simp; omega)) _).setCell (by first | (simp; done) | (simp; omega)) _), nilB, none, 0, 0, false, rfl, Nat.le_refl _, ⟨RdR.nil, fun _ _ _ h => absurd h (by omega)⟩, fun h => (by cases h), fun _ => HNO.out⟩
        have hf8 : ¬ (7 : Int) < (fc.toNat : Int) := by omega
        rcases hg : gv l (p + 1) with ⟨many, p2, z2⟩
        have HG := Lib.hid hg
        have hp19 : p + 1 ≤ 9223372036854775807 := by omega
        by_cases hz2 : z2 = 0
        case neg =>
          have HNO := Lib.hid (show ¬ ∃ b', rdB l = some (b', (l.length : Int)) by
            rintro ⟨b', hb'⟩
            unfold rdB at hb'
            rw [HVs.out] at hb'
            simp only [HLP.out, hg] at hb'
            rw [if_neg hf7, if_pos hz2] at hb'
            cases hb')
          have hzF : (z2 == 0) = false := beqF hz2
          have hzN : (z2 != 0) = true := by simp [hz2]
          clear hg hz2 hf7
          go_wp2_with (first | (go_at_call 51; (with_reducible refine (Oct.refGet_is A n c p 1 l _ _ HRD.out hn HF.out).mono ?_); rintro e w9 ⟨rfl, rfl⟩) | (go_at_call 76; (with_reducible refine (refGetVar_is A n c (p + 1) l _ _ HRD.out hn hp19 HG.out).mono ?_); rintro e w8 ⟨rfl, rfl⟩))
          exact bodyPost_ret (v := .tuple #[bval nilB (.slice none 0 0), .bool false]) (by simp [results, Tryz.results53, go_sem, bval, nilB, zc0, zc1, zc2, zc3, zc4, zc5, zc6, zc7, zc8, zc9]) rfl ⟨((((((((((HWR.out.setCell (by first | (simp; done) | (simp; omega)) _).setCell (by first | (simp; done) | (simp; omega)) _).setCell (by first | (simp; done) | (simp; omega)) _).setCell (by first | (simp; done) | (simp; omega)) _).setCell (by first | (simp; done) | (simp; omega)) _).setCell (by first | (simp; done) | (simp; omega)) _).setCell (by first | (simp; done) | (simp; omega)) _).setCell (by first | (simp; done) | (simp; omega)) _).setCell (by first | (simp; done) | (simp; omega)) _).setCell (by first | (simp; done) | (simp; omega)) _), nilB, none, 0, 0, false, rfl, Nat.le_refl _, ⟨RdR.nil, fun _ _ _ h => absurd h (by omega)⟩, fun h => (by cases h), fun _ => HNO.out⟩
        subst hz2
        have hgg := gv_good hg
        have hq0 : 0 ≤ p2 := by omega
        have hq1 : p2 ≤ (l.length : Int) := by omega
        by_cases hrng : many < 0 ∨ 16 < many ∨ n1 < 0 ∨ 16 < n1 ∨ n0 < 0 ∨ 1099511627776 < n0
        · have HNO := Lib.hid (show ¬ ∃ b', rdB l = some (b', (l.length : Int)) by
            rintro ⟨b', hb'⟩
            unfold rdB at hb'
            rw [HVs.out] at hb'
            simp only [HLP.out, hg] at hb'
            rw [if_neg hf7, if_neg (by simp), if_pos hrng] at hb'
            cases hb')
          clear hg hgg hf7
          by_cases r1 : many < 0
          · clear hrng
            go_wp2_with (first | (go_at_call 51; (with_reducible refine (Oct.refGet_is A n c p 1 l _ _ HRD.out hn HF.out).mono ?_); rintro e w9 ⟨rfl, rfl⟩) | (go_at_call 76; (with_reducible refine (refGetVar_is A n c (p + 1) l _ _ HRD.out hn hp19 HG.out).mono ?_); rintro e w8 ⟨rfl, rfl⟩))
            exact bodyPost_ret (v := .tuple #[bval nilB (.slice none 0 0), .bool false]) (by simp [results, Tryz.results53, go_sem, bval, nilB, zc0, zc1, zc2, zc3, zc4, zc5, zc6, zc7, zc8, zc9]) rfl ⟨((((((((((HWR.out.setCell (by first | (simp; done) | (simp; omega)) _).setCell (by first | (simp; done) | (simp; omega)) _).setCell (by first | (simp; done) | (simp; omega)) _).setCell (by first | (simp; done) | (simp; omega)) _).setCell (by first | (simp; done) | (simp; omega)) _).setCell (by first | (simp; done) | (simp; omega)) _).setCell (by first | (simp; done) | (simp; omega)) _).setCell (by first | (simp; done) | (simp; omega)) _).setCell (by first | (simp; done) | (simp; omega)) _).setCell (by first | (simp; done) | (simp; omega)) _), nilB, none, 0, 0, false, rfl, Nat.le_refl _, ⟨RdR.nil, fun _ _ _ h => absurd h (by omega)⟩, fun h => (by cases h), fun _ => HNO.out⟩
          by_cases r2 : 16 < many
          · clear hrng
            go_wp2_with (first | (go_at_call 51; (with_reducible refine (Oct.refGet_is A n c p 1 l _ _ HRD.out hn HF.out).mono ?_); rintro e w9 ⟨rfl, rfl⟩) | (go_at_call 76; (with_reducible refine (refGetVar_is A n c (p + 1) l _ _ HRD.out hn hp19 HG.out).mono ?_); rintro e w8 ⟨rfl, rfl⟩))
            exact bodyPost_ret (v := .tuple #[bval nilB (.slice none 0 0), .bool false]) (by simp [results, Tryz.results53, go_sem, bval, nilB, zc0, zc1, zc2, zc3, zc4, zc5, zc6, zc7, zc8, zc9]) rfl ⟨((((((((((HWR.out.setCell (by first | (simp; done) | (simp; omega)) _).setCell (by first | (simp; done) | (simp; omega)) _).setCell (by first | (simp; done) | (simp; omega)) _).setCell (by first | (simp; done) | (simp; omega)) _).setCell (by first | (simp; done) | (simp; omega)) _).setCell (by first | (simp; done) | (simp; omega)) _).setCell (by first | (simp; done) | (simp; omega)) _).setCell (by first | (simp; done) | (simp; omega)) _).setCell (by first | (simp; done) | (simp; omega)) _).setCell (by first | (simp; done) | (simp; omega)) _), nilB, none, 0, 0, false, rfl, Nat.le_refl _, ⟨RdR.nil, fun _ _ _ h => absurd h (by omega)⟩, fun h => (by cases h), fun _ => HNO.out⟩
          by_cases r3 : n1 < 0
          · clear hrng
            go_wp2_with (first | (go_at_call 51; (with_reducible refine (Oct.refGet_is A n c p 1 l _ _ HRD.out hn HF.out).mono ?_); rintro e w9 ⟨rfl, rfl⟩) | (go_at_call 76; (with_reducible refine (refGetVar_is A n c (p + 1) l _ _ HRD.out hn hp19 HG.out).mono ?_); rintro e w8 ⟨rfl, rfl⟩))
            exact bodyPost_ret (v := .tuple #[bval nilB (.slice none 0 0), .bool false]) (by simp [results, Tryz.results53, go_sem, bval, nilB, zc0, zc1, zc2, zc3, zc4, zc5, zc6, zc7, zc8, zc9]) rfl ⟨((((((((((HWR.out.setCell (by first | (simp; done) | (simp; omega)) _).setCell (by first | (simp; done) | (simp; omega)) _).setCell (by first | (simp; done) | (simp; omega)) _).setCell (by first | (simp; done) | (simp; omega)) _).setCell (by first | (simp; done) | (simp; omega)) _).setCell (by first | (simp; done) | (simp; omega)) _).setCell (by first | (simp; done) | (simp; omega)) _).setCell (by first | (simp; done) | (simp; omega)) _).setCell (by first | (simp; done) | (simp; omega)) _).setCell (by first | (simp; done) | (simp; omega)) _), nilB, none, 0, 0, false, rfl, Nat.le_refl _, ⟨RdR.nil, fun _ _ _ h => absurd h (by omega)⟩, fun h => (by cases h), fun _ => HNO.out⟩
          by_cases r4 : 16 < n1
          · clear hrng
            go_wp2_with (first | (go_at_call 51; (with_reducible refine (Oct.refGet_is A n c p 1 l _ _ HRD.out hn HF.out).mono ?_); rintro e w9 ⟨rfl, rfl⟩) | (go_at_call 76; (with_reducible refine (refGetVar_is A n c (p + 1) l _ _ HRD.out hn hp19 HG.out).mono ?_); rintro e w8 ⟨rfl, rfl⟩))
            exact bodyPost_ret (v := .tuple #[bval nilB (.slice none 0 0), .bool false]) (by simp [results, Tryz.results53, go_sem, bval, nilB, zc0, zc1, zc2, zc3, zc4, zc5, zc6, zc7, zc8, zc9]) rfl ⟨((((((((((HWR.out.setCell (by first | (simp; done) | (simp; omega)) _).setCell (by first | (simp; done) | (simp; omega)) _).setCell (by first | (simp; done) | (simp; omega)) _).setCell (by first | (simp; done) | (simp; omega)) _).setCell (by first | (simp; done) | (simp; omega)) _).setCell (by first | (simp; done) | (simp; omega)) _).setCell (by first | (simp; done) | (simp; omega)) _).setCell (by first | (simp; done) | (simp; omega)) _).setCell (by first | (simp; done) | (simp; omega)) _).setCell (by first | (simp; done) | (simp; omega)) _), nilB, none, 0, 0, false, rfl, Nat.le_refl _, ⟨RdR.nil, fun _ _ _ h => absurd h (by omega)⟩, fun h => (by cases h), fun _ => HNO.out⟩
          by_cases r5 : n0 < 0
          · clear hrng
            go_wp2_with (first | (go_at_call 51; (with_reducible refine (Oct.refGet_is A n c p 1 l _ _ HRD.out hn HF.out).mono ?_); rintro e w9 ⟨rfl, rfl⟩) | (go_at_call 76; (with_reducible refine (refGetVar_is A n c (p + 1) l _ _ HRD.out hn hp19 HG.out).mono ?_); rintro e w8 ⟨rfl, rfl⟩))
            exact bodyPost_ret (v := .tuple #[bval nilB (.slice none 0 0), .bool false]) (by simp [results, Tryz.results53, go_sem, bval, nilB, zc0, zc1, zc2, zc3, zc4, zc5, zc6, zc7, zc8, zc9]) rfl ⟨((((((((((HWR.out.setCell (by first | (simp; done) | (simp; omega)) _).setCell (by first | (simp; done) | (simp; omega)) _).setCell (by first | (simp; done) | (simp; omega)) _).setCell (by first | (simp; done) | (simp; omega)) _).setCell (by first | (simp; done) | (simp; omega)) _).setCell (by first | (simp; done) | (simp; omega)) _).setCell (by first | (simp; done) | (simp; omega)) _).setCell (by first | (simp; done) | (simp; omega)) _).setCell (by first | (simp; done) | (simp; omega)) _).setCell (by first | (simp; done) | (simp; omega)) _), nilB, none, 0, 0, false, rfl, Nat.le_refl _, ⟨RdR.nil, fun _ _ _ h => absurd h (by omega)⟩, fun h => (by cases h), fun _ => HNO.out⟩
          have r6 : 1099511627776 < n0 := by omega
          clear hrng
          go_wp2_with (first | (go_at_call 51; (with_reducible refine (Oct.refGet_is A n c p 1 l _ _ HRD.out hn HF.out).mono ?_); rintro e w9 ⟨rfl, rfl⟩) | (go_at_call 76; (with_reducible refine (refGetVar_is A n c (p + 1) l _ _ HRD.out hn hp19 HG.out).mono ?_); rintro e w8 ⟨rfl, rfl⟩))
          exact bodyPost_ret (v := .tuple #[bval nilB (.slice none 0 0), .bool false]) (by simp [results, Tryz.results53, go_sem, bval, nilB, zc0, zc1, zc2, zc3, zc4, zc5, zc6, zc7, zc8, zc9]) rfl ⟨((((((((((HWR.out.setCell (by first | (simp; done) | (simp; omega)) _).setCell (by first | (simp; done) | (simp; omega)) _).setCell (by first | (simp; done) | (simp; omega)) _).setCell (by first | (simp; done) | (simp; omega)) _).setCell (by first | (simp; done) | (simp; omega)) _).setCell (by first | (simp; done) | (simp; omega)) _).setCell (by first | (simp; done) | (simp; omega)) _).setCell (by first | (simp; done) | (simp; omega)) _).setCell (by first | (simp; done) | (simp; omega)) _).setCell (by first | (simp; done) | (simp; omega)) _), nilB, none, 0, 0, false, rfl, Nat.le_refl _, ⟨RdR.nil, fun _ _ _ h => absurd h (by omega)⟩, fun h => (by cases h), fun _ => HNO.out⟩
        exfalso
        rcases HE.out with h | ⟨fc', h, h2⟩
        · rw [HLP.out] at h; cases h
        · rw [HLP.out] at h
          obtain rfl := Option.some.inj h
          rw [hg] at h2
          simp only at h2
          rcases h2 with h2 | h2 | h2
          · exact hf7 h2
          · exact h2 rfl
          · exact hrng h2
end Go.Proofs.YtbnkfljkojhkoaaGreatDoor.Bat

/- The document's body: no stamp. -/
namespace Go.Proofs.YtbnkfljkojhkoaaGreatDoor.Bat
open Go.RowKit Oct Rec Crc Lay RowF

set_option maxRecDepth 100000 in
set_option maxHeartbeats 8000000 in
theorem refBody_3 (A : Option Addr) (n c : Nat) (l : List UInt8) (w : World) (hr : Rd w w.heap.size A n l) (_hc : n ≤ c) (hn : n ≤ 1099511627776) (n0 n1 n2 n3 n4 n5 n6 p : Int) (hV : rdV 7 l 0 = some ([n0, n1, n2, n3, n4, n5, n6], p)) (fc : UInt8) (hlp : l[p.toNat]? = some fc) (hf7 : ¬ 7 < fc.toNat) (m : Nat) (p2 : Int) (hg : gv l (p + 1) = ((m : Int), p2, 0)) (hm16 : m ≤ 16) (r3 : ¬ n1 < 0) (r4 : ¬ 16 < n1) (r5 : ¬ n0 < 0) (r6 : ¬ 1099511627776 < n0) (hm0 : 0 < m) (st p3 z3 : Int) (hg3 : gv l p2 = (st, p3, z3)) (hz3 : z3 ≠ 0) :
    Calls Tryz.prog 53 #[.slice A n c] w (BDY w l) := by
  have HVs := Lib.hid hV
  have HF := Lib.hid (gt_one_some (rdV_at_least hV).1 hlp)
  have HG := Lib.hid hg
  have hgg0 := gv_good hg
  have hplt := (rdV_at_least hV).2
  have hf8 : ¬ (7 : Int) < (fc.toNat : Int) := by omega
  have hlp' := (List.getElem?_eq_some_iff.1 hlp).1
  have hp20 : 0 ≤ p2 := by omega
  have hp21 : p2 ≤ (l.length : Int) := by omega
  obtain ⟨tx, htx⟩ : ∃ tx, decide ((4 : Int) ≤ (fc.toNat : Int)) = tx := ⟨_, rfl⟩
  obtain ⟨ct, hct⟩ : ∃ ct, (fc.toNat : Int) % 4 = ct := ⟨_, rfl⟩
  obtain ⟨L, hL⟩ : ∃ L, n0 + n1 = L := ⟨_, rfl⟩
  have HRB := Lib.hid (show rdB l = match rdT m l p2 n0 with | none => none | some (xs, q) => some (⟨n0, L, n2, n3, n4, n5, n6, tx, ct, xs⟩, q) by
    unfold rdB
    rw [hV]
    simp only [hlp, hg]
    rw [if_neg hf7, if_neg (by simp), if_neg (by omega), Int.toNat_natCast, hL, ← htx, ← hct]
    have e1 : decide (4 ≤ fc.toNat) = decide ((4 : Int) ≤ (fc.toNat : Int)) := decide_eq_decide.2 ⟨fun h => by omega, fun h => by omega⟩
    rw [e1]
    cases rdT m l p2 n0 with
    | none => rfl
    | some y => simp only [Int.natCast_emod]; rfl)
  have hfc255 : (fc.toNat : Int) ≤ 255 := by have := fc.toNat_lt; omega
  have hr1 : ¬ (m : Int) < 0 := by omega
  have hr2 : ¬ (16 : Int) < (m : Int) := by omega
  have hp19 : p + 1 ≤ 9223372036854775807 := by have := hr.len; omega
  have hzF : (z3 == 0) = false := beqF hz3
  have hzN : (z3 != 0) = true := by simp [hz3]
  have hmz : ((m : Int) == 0) = false := beqF (by omega)
  have hm1 : (0 : Int) < (m : Int) := by omega
  have HNO := Lib.hid (show ¬ ∃ b', rdB l = some (b', (l.length : Int)) by
    rintro ⟨b', hb'⟩
    rw [HRB.out] at hb'
    have hT : rdT m l p2 n0 = none := by unfold rdT; rw [if_neg (by omega), hg3]; simp only; rw [if_pos hz3]
    rw [hT] at hb'
    cases hb')
  have HTX := Lib.hid htx
  have HCT := Lib.hid hct
  have HLL := Lib.hid hL
  clear hV hg hgg0 htx hct hL hlp hlp' hf7
  have HW1 := Lib.hid (show Below w.heap.size w (((w.alloc (.cells #[.int .i64 0, .int .i64 0, .int .i64 0, .int .i64 0, .int .i64 0, .int .i64 0, .int .i64 0, .bool false, .int .i64 0, .slice none 0 0] 36)).alloc (.cells #[.int .i64 0, .int .i64 0, .int .i64 0, .int .i64 0, .int .i64 0, .int .i64 0, .int .i64 0, .bool false, .int .i64 0, .slice none 0 0] 36)).alloc (.cells #[.int .i64 0, .int .i64 0, .int .i64 0, .int .i64 0, .int .i64 0, .int .i64 0, .int .i64 0] 113)) from (((Below.refl w.heap.size w).alloc (Nat.le_refl _) _).alloc (by simp) _).alloc (by simp; omega) _)
  have HZ1 := Lib.hid (show ZB (((w.alloc (.cells #[.int .i64 0, .int .i64 0, .int .i64 0, .int .i64 0, .int .i64 0, .int .i64 0, .int .i64 0, .bool false, .int .i64 0, .slice none 0 0] 36)).alloc (.cells #[.int .i64 0, .int .i64 0, .int .i64 0, .int .i64 0, .int .i64 0, .int .i64 0, .int .i64 0, .bool false, .int .i64 0, .slice none 0 0] 36)).alloc (.cells #[.int .i64 0, .int .i64 0, .int .i64 0, .int .i64 0, .int .i64 0, .int .i64 0, .int .i64 0] 113)) w.heap.size from ((ZB.new w).below (bel_alloc (Below.refl _ _) _) (by simp)).below (bel_alloc (Below.refl _ _) _) (by simp; omega))
  have HZ2 := Lib.hid (show ZB (((w.alloc (.cells #[.int .i64 0, .int .i64 0, .int .i64 0, .int .i64 0, .int .i64 0, .int .i64 0, .int .i64 0, .bool false, .int .i64 0, .slice none 0 0] 36)).alloc (.cells #[.int .i64 0, .int .i64 0, .int .i64 0, .int .i64 0, .int .i64 0, .int .i64 0, .int .i64 0, .bool false, .int .i64 0, .slice none 0 0] 36)).alloc (.cells #[.int .i64 0, .int .i64 0, .int .i64 0, .int .i64 0, .int .i64 0, .int .i64 0, .int .i64 0] 113)) (w.heap.size + 1) by
    have h := (ZB.new (w.alloc (.cells #[.int .i64 0, .int .i64 0, .int .i64 0, .int .i64 0, .int .i64 0, .int .i64 0, .int .i64 0, .bool false, .int .i64 0, .slice none 0 0] 36))).below (bel_alloc (Below.refl _ _) (.cells #[.int .i64 0, .int .i64 0, .int .i64 0, .int .i64 0, .int .i64 0, .int .i64 0, .int .i64 0] 113)) (by simp)
    rw [show (w.alloc (.cells #[.int .i64 0, .int .i64 0, .int .i64 0, .int .i64 0, .int .i64 0, .int .i64 0, .int .i64 0, .bool false, .int .i64 0, .slice none 0 0] 36)).heap.size = w.heap.size + 1 by simp] at h
    exact h)
  have HA1 := Lib.hid (show AR (((w.alloc (.cells #[.int .i64 0, .int .i64 0, .int .i64 0, .int .i64 0, .int .i64 0, .int .i64 0, .int .i64 0, .bool false, .int .i64 0, .slice none 0 0] 36)).alloc (.cells #[.int .i64 0, .int .i64 0, .int .i64 0, .int .i64 0, .int .i64 0, .int .i64 0, .int .i64 0, .bool false, .int .i64 0, .slice none 0 0] 36)).alloc (.cells #[.int .i64 0, .int .i64 0, .int .i64 0, .int .i64 0, .int .i64 0, .int .i64 0, .int .i64 0] 113)) (w.heap.size + 2) [0, 0, 0, 0, 0, 0, 0] by
    have h := AR.new ((w.alloc (.cells #[.int .i64 0, .int .i64 0, .int .i64 0, .int .i64 0, .int .i64 0, .int .i64 0, .int .i64 0, .bool false, .int .i64 0, .slice none 0 0] 36)).alloc (.cells #[.int .i64 0, .int .i64 0, .int .i64 0, .int .i64 0, .int .i64 0, .int .i64 0, .int .i64 0, .bool false, .int .i64 0, .slice none 0 0] 36))
    rw [show ((w.alloc (.cells #[.int .i64 0, .int .i64 0, .int .i64 0, .int .i64 0, .int .i64 0, .int .i64 0, .int .i64 0, .bool false, .int .i64 0, .slice none 0 0] 36)).alloc (.cells #[.int .i64 0, .int .i64 0, .int .i64 0, .int .i64 0, .int .i64 0, .int .i64 0, .int .i64 0, .bool false, .int .i64 0, .slice none 0 0] 36)).heap.size = w.heap.size + 2 by simp] at h
    exact h)
  have HR := Lib.hid hr
  have hl := hr.len
  clear hr
  go_enter Tryz.func53, Tryz.ntmps53
  go_wp2
  generalize hw1 : (((w.alloc (.cells #[.int .i64 0, .int .i64 0, .int .i64 0, .int .i64 0, .int .i64 0, .int .i64 0, .int .i64 0, .bool false, .int .i64 0, .slice none 0 0] 36)).alloc (.cells #[.int .i64 0, .int .i64 0, .int .i64 0, .int .i64 0, .int .i64 0, .int .i64 0, .int .i64 0, .bool false, .int .i64 0, .slice none 0 0] 36)).alloc (.cells #[.int .i64 0, .int .i64 0, .int .i64 0, .int .i64 0, .int .i64 0, .int .i64 0, .int .i64 0] 113)) = w1 at *
  clear hw1
  go_loopw [5, 22] (fun a i wr => b1Rel l w.heap.size w1 a i wr) (fun _ i _ => 7 - (intOf i).toNat)
  case atStart => exact ⟨0, _, 0, rfl, rfl, by omega, by omega, by omega, HA1.out, (by intro x hx; simp only [List.mem_cons, List.not_mem_nil, or_false, or_self] at hx; subst hx; unfold W64; omega), (by cases rdV 7 l 0 <;> rfl), HZ1.out, HZ2.out, Below.refl _ _⟩
  case round =>
    obtain ⟨k, arr, pp, rfl, rfl, hk, hp0, hp1, har, hw64, hR, hz1, hz2, hbr⟩ := hrel
    have HAR := Lib.hid har
    have H64 := Lib.hid hw64
    have HRV := Lib.hid hR
    have HBR := Lib.hid hbr
    have HZA := Lib.hid hz1
    have HZB := Lib.hid hz2
    have HRD := Lib.hid (HR.out.below (HW1.out.trans hbr) (Nat.le_refl _))
    have hp9 : pp ≤ 9223372036854775807 := by omega
    clear har hw64 hR hbr
    by_cases hlt : k < 7
    · rcases hg9 : gv l pp with ⟨x, q, z⟩
      have HG9 := Lib.hid hg9
      by_cases hzz : z = 0
      · subst hzz
        have hgg := gv_good hg9
        have HS := Lib.hid (rdV_step hlt HAR.out.len HRV.out hg9)
        obtain ⟨ox, hox⟩ : ∃ ox, arr[k]? = some ox := ⟨_, List.getElem?_eq_getElem (by have := HAR.out.len; omega)⟩
        have hcell := HAR.out.c k ox hox
        have hfro := HAR.out.f k
        have y1 : (0 : Int) ≤ (k : Int) := by omega
        have y2 : (k : Int) < 7 := by omega
        clear hg3
        clear hg9 hox hz1 hz2
        go_wp2_with (go_at_call 76; (with_reducible refine (refGetVar_is A n c pp l _ _ HRD.out hn hp9 HG9.out).mono ?_); rintro e w9 ⟨rfl, rfl⟩)
        go_roundw
        case rel =>
          refine ⟨k + 1, arr.set k x, q, by go_num, rfl, by omega, by omega, by omega, HAR.out.set hlt x, fun y hy => ?_, HS.out, HZA.out.set (by omega), HZB.out.set (by omega), HBR.out.setCell (by show w.heap.size ≤ w.heap.size + 2; omega) _⟩
          rcases List.mem_or_eq_of_mem_set hy with h | rfl
          · exact H64.out y h
          · exact ⟨hgg.2.2.2.2.2.1, hgg.2.2.2.2.2.2⟩
        case measure => simp [intOf]; omega
      · have hf : rdV (7 - k) l pp = none := rdV_fail (by omega) (by rw [hg9]; exact hzz)
        have h9 := HRV.out
        rw [hf, HVs.out] at h9
        cases h9
    · have hk7 : k = 7 := by omega
      subst hk7
      have hsr : w.heap.size + 2 < wr.heap.size := HAR.out.lt
      have HWR := Lib.hid (HW1.out.trans HBR.out)
      obtain ⟨rfl, rfl⟩ : arr = [n0, n1, n2, n3, n4, n5, n6] ∧ p = pp := by
        have h9 := HRV.out
        rw [HVs.out] at h9
        have hla := HAR.out.len
        simp [rdV] at h9
        exact ⟨by rw [h9.1, List.take_of_length_le (by omega)], h9.2⟩
      have a0 := HAR.out.c 0 n0 rfl
      have a1 := HAR.out.c 1 n1 rfl
      have a2 := HAR.out.c 2 n2 rfl
      have a3 := HAR.out.c 3 n3 rfl
      have a4 := HAR.out.c 4 n4 rfl
      have a5 := HAR.out.c 5 n5 rfl
      have a6 := HAR.out.c 6 n6 rfl
      obtain ⟨zc0, zc1, zc2, zc3, zc4, zc5, zc6, zc7, zc8, zc9, zf0, zf1, zf2, zf3, zf4, zf5, zf6, zf7, zf8, zf9, zlt⟩ := hz1
      obtain ⟨yc0, yc1, yc2, yc3, yc4, yc5, yc6, yc7, yc8, yc9, yf0, yf1, yf2, yf3, yf4, yf5, yf6, yf7, yf8, yf9, ylt⟩ := hz2
      have htx := HTX.out
      have hct := HCT.out
      have hL := HLL.out
      have HPUT := Lib.hid (show BoxB ((((((((((wr.setCell ⟨w.heap.size + 1, 0, none⟩ (.int .i64 n0)).setCell ⟨w.heap.size + 1, 1, none⟩ (.int .i64 L)).setCell ⟨w.heap.size + 1, 2, none⟩ (.int .i64 n2)).setCell ⟨w.heap.size + 1, 3, none⟩ (.int .i64 n3)).setCell ⟨w.heap.size + 1, 4, none⟩ (.int .i64 n4)).setCell ⟨w.heap.size + 1, 5, none⟩ (.int .i64 n5)).setCell ⟨w.heap.size + 1, 6, none⟩ (.int .i64 n6)).setCell ⟨w.heap.size + 1, 7, none⟩ (.bool tx)).setCell ⟨w.heap.size + 1, 8, none⟩ (.int .i64 ct)).setCell ⟨w.heap.size + 1, 9, none⟩ (.slice none 0 0)) (w.heap.size + 1) ⟨n0, L, n2, n3, n4, n5, n6, tx, ct, []⟩ (.slice none 0 0) ∧ ((((((((((wr.setCell ⟨w.heap.size + 1, 0, none⟩ (.int .i64 n0)).setCell ⟨w.heap.size + 1, 1, none⟩ (.int .i64 L)).setCell ⟨w.heap.size + 1, 2, none⟩ (.int .i64 n2)).setCell ⟨w.heap.size + 1, 3, none⟩ (.int .i64 n3)).setCell ⟨w.heap.size + 1, 4, none⟩ (.int .i64 n4)).setCell ⟨w.heap.size + 1, 5, none⟩ (.int .i64 n5)).setCell ⟨w.heap.size + 1, 6, none⟩ (.int .i64 n6)).setCell ⟨w.heap.size + 1, 7, none⟩ (.bool tx)).setCell ⟨w.heap.size + 1, 8, none⟩ (.int .i64 ct)).setCell ⟨w.heap.size + 1, 9, none⟩ (.slice none 0 0)).heap.size = wr.heap.size ∧ ∀ j, ((((((((((wr.setCell ⟨w.heap.size + 1, 0, none⟩ (.int .i64 n0)).setCell ⟨w.heap.size + 1, 1, none⟩ (.int .i64 L)).setCell ⟨w.heap.size + 1, 2, none⟩ (.int .i64 n2)).setCell ⟨w.heap.size + 1, 3, none⟩ (.int .i64 n3)).setCell ⟨w.heap.size + 1, 4, none⟩ (.int .i64 n4)).setCell ⟨w.heap.size + 1, 5, none⟩ (.int .i64 n5)).setCell ⟨w.heap.size + 1, 6, none⟩ (.int .i64 n6)).setCell ⟨w.heap.size + 1, 7, none⟩ (.bool tx)).setCell ⟨w.heap.size + 1, 8, none⟩ (.int .i64 ct)).setCell ⟨w.heap.size + 1, 9, none⟩ (.slice none 0 0)).frozen? ⟨w.heap.size + 1, j, none⟩ = wr.frozen? ⟨w.heap.size + 1, j, none⟩ from box_put HZB.out ⟨n0, L, n2, n3, n4, n5, n6, tx, ct, []⟩ (.slice none 0 0))
      have HW20 := Lib.hid (show Below w.heap.size w ((((((((((wr.setCell ⟨w.heap.size + 1, 0, none⟩ (.int .i64 n0)).setCell ⟨w.heap.size + 1, 1, none⟩ (.int .i64 L)).setCell ⟨w.heap.size + 1, 2, none⟩ (.int .i64 n2)).setCell ⟨w.heap.size + 1, 3, none⟩ (.int .i64 n3)).setCell ⟨w.heap.size + 1, 4, none⟩ (.int .i64 n4)).setCell ⟨w.heap.size + 1, 5, none⟩ (.int .i64 n5)).setCell ⟨w.heap.size + 1, 6, none⟩ (.int .i64 n6)).setCell ⟨w.heap.size + 1, 7, none⟩ (.bool tx)).setCell ⟨w.heap.size + 1, 8, none⟩ (.int .i64 ct)).setCell ⟨w.heap.size + 1, 9, none⟩ (.slice none 0 0)) from ((((((((((HWR.out.setCell (by first | (simp; done) | (simp; omega)) _).setCell (by first | (simp; done) | (simp; omega)) _).setCell (by first | (simp; done) | (simp; omega)) _).setCell (by first | (simp; done) | (simp; omega)) _).setCell (by first | (simp; done) | (simp; omega)) _).setCell (by first | (simp; done) | (simp; omega)) _).setCell (by first | (simp; done) | (simp; omega)) _).setCell (by first | (simp; done) | (simp; omega)) _).setCell (by first | (simp; done) | (simp; omega)) _).setCell (by first | (simp; done) | (simp; omega)) _))
      have HZ20 := Lib.hid (show ZB ((((((((((wr.setCell ⟨w.heap.size + 1, 0, none⟩ (.int .i64 n0)).setCell ⟨w.heap.size + 1, 1, none⟩ (.int .i64 L)).setCell ⟨w.heap.size + 1, 2, none⟩ (.int .i64 n2)).setCell ⟨w.heap.size + 1, 3, none⟩ (.int .i64 n3)).setCell ⟨w.heap.size + 1, 4, none⟩ (.int .i64 n4)).setCell ⟨w.heap.size + 1, 5, none⟩ (.int .i64 n5)).setCell ⟨w.heap.size + 1, 6, none⟩ (.int .i64 n6)).setCell ⟨w.heap.size + 1, 7, none⟩ (.bool tx)).setCell ⟨w.heap.size + 1, 8, none⟩ (.int .i64 ct)).setCell ⟨w.heap.size + 1, 9, none⟩ (.slice none 0 0)) w.heap.size from ((((((((((HZA.out.set (by omega)).set (by omega)).set (by omega)).set (by omega)).set (by omega)).set (by omega)).set (by omega)).set (by omega)).set (by omega)).set (by omega)))
      have hf20 : Hid (wr.frozen? ⟨w.heap.size + 1, 9, none⟩ = false) := Lib.hid HZB.out.f9
      go_wp2_with (first | (go_at_call 51; (with_reducible refine (Oct.refGet_is A n c p 1 l _ _ HRD.out hn HF.out).mono ?_); rintro e w9 ⟨rfl, rfl⟩) | (go_at_call 76; (with_reducible refine (refGetVar_is A n c (p + 1) l _ _ HRD.out hn hp19 HG.out).mono ?_); rintro e w8 ⟨rfl, rfl⟩))
      have HX20 := Lib.hid HPUT.out.1
      have hs20 : w.heap.size + 2 < ((((((((((wr.setCell ⟨w.heap.size + 1, 0, none⟩ (.int .i64 n0)).setCell ⟨w.heap.size + 1, 1, none⟩ (.int .i64 L)).setCell ⟨w.heap.size + 1, 2, none⟩ (.int .i64 n2)).setCell ⟨w.heap.size + 1, 3, none⟩ (.int .i64 n3)).setCell ⟨w.heap.size + 1, 4, none⟩ (.int .i64 n4)).setCell ⟨w.heap.size + 1, 5, none⟩ (.int .i64 n5)).setCell ⟨w.heap.size + 1, 6, none⟩ (.int .i64 n6)).setCell ⟨w.heap.size + 1, 7, none⟩ (.bool tx)).setCell ⟨w.heap.size + 1, 8, none⟩ (.int .i64 ct)).setCell ⟨w.heap.size + 1, 9, none⟩ (.slice none 0 0)).heap.size := by rw [HPUT.out.2.1]; exact hsr
      have HF20 := Lib.hid ((HPUT.out.2.2 9).trans hf20.out)
      have HRD20 := Lib.hid (HR.out.below HW20.out (Nat.le_refl _))
      clear HPUT htx hct hL a0 a1 a2 a3 a4 a5 a6
      generalize hw20 : ((((((((((wr.setCell ⟨w.heap.size + 1, 0, none⟩ (.int .i64 n0)).setCell ⟨w.heap.size + 1, 1, none⟩ (.int .i64 L)).setCell ⟨w.heap.size + 1, 2, none⟩ (.int .i64 n2)).setCell ⟨w.heap.size + 1, 3, none⟩ (.int .i64 n3)).setCell ⟨w.heap.size + 1, 4, none⟩ (.int .i64 n4)).setCell ⟨w.heap.size + 1, 5, none⟩ (.int .i64 n5)).setCell ⟨w.heap.size + 1, 6, none⟩ (.int .i64 n6)).setCell ⟨w.heap.size + 1, 7, none⟩ (.bool tx)).setCell ⟨w.heap.size + 1, 8, none⟩ (.int .i64 ct)).setCell ⟨w.heap.size + 1, 9, none⟩ (.slice none 0 0)) = w20 at *
      clear hw20
      have hp29 : p2 ≤ 9223372036854775807 := by omega
      have HG3 := Lib.hid hg3
      clear hg3 hz3
      (with_reducible refine (refGetVar_is A n c p2 l _ _ HRD20.out hn hp29 HG3.out).mono ?_)
      rintro e w8 ⟨rfl, rfl⟩
      obtain ⟨vc0, vc1, vc2, vc3, vc4, vc5, vc6, vc7, vc8, vc9, vf0, vf1, vf2, vf3, vf4, vf5, vf6, vf7, vf8, vf9, vlt⟩ := HZ20.out
      obtain ⟨x0, x1, x2, x3, x4, x5, x6, x7, x8, x9⟩ := HX20.out
      go_wp2
      exact bodyPost_ret (v := .tuple #[bval ⟨n0, L, n2, n3, n4, n5, n6, tx, ct, []⟩ (.slice none 0 0), .bool false]) (by simp [results, Tryz.results53, go_sem, bval, vc0, vc1, vc2, vc3, vc4, vc5, vc6, vc7, vc8, vc9]) rfl ⟨((((((((((HW20.out.setCell (by first | (simp; done) | (simp; omega)) _).setCell (by first | (simp; done) | (simp; omega)) _).setCell (by first | (simp; done) | (simp; omega)) _).setCell (by first | (simp; done) | (simp; omega)) _).setCell (by first | (simp; done) | (simp; omega)) _).setCell (by first | (simp; done) | (simp; omega)) _).setCell (by first | (simp; done) | (simp; omega)) _).setCell (by first | (simp; done) | (simp; omega)) _).setCell (by first | (simp; done) | (simp; omega)) _).setCell (by first | (simp; done) | (simp; omega)) _), _, none, 0, 0, false, rfl, Nat.le_refl _, ⟨RdR.nil, fun _ _ _ h => absurd h (by omega)⟩, fun h => (by cases h), fun _ => HNO.out⟩
end Go.Proofs.YtbnkfljkojhkoaaGreatDoor.Bat

/- The document's body: no records said. -/
namespace Go.Proofs.YtbnkfljkojhkoaaGreatDoor.Bat
open Go.RowKit Oct Rec Crc Lay RowF

set_option maxRecDepth 100000 in
set_option maxHeartbeats 8000000 in
theorem refBody_4 (A : Option Addr) (n c : Nat) (l : List UInt8) (w : World) (hr : Rd w w.heap.size A n l) (_hc : n ≤ c) (hn : n ≤ 1099511627776) (n0 n1 n2 n3 n4 n5 n6 p : Int) (hV : rdV 7 l 0 = some ([n0, n1, n2, n3, n4, n5, n6], p)) (fc : UInt8) (hlp : l[p.toNat]? = some fc) (hf7 : ¬ 7 < fc.toNat) (p2 : Int) (hg : gv l (p + 1) = (0, p2, 0)) (r3 : ¬ n1 < 0) (r4 : ¬ 16 < n1) (r5 : ¬ n0 < 0) (r6 : ¬ 1099511627776 < n0) (hpe : p2 = (n : Int)) :
    Calls Tryz.prog 53 #[.slice A n c] w (BDY w l) := by
  have HVs := Lib.hid hV
  have HF := Lib.hid (gt_one_some (rdV_at_least hV).1 hlp)
  have HG := Lib.hid hg
  have hgg0 := gv_good hg
  have hplt := (rdV_at_least hV).2
  have hf8 : ¬ (7 : Int) < (fc.toNat : Int) := by omega
  have hlp' := (List.getElem?_eq_some_iff.1 hlp).1
  have hp20 : 0 ≤ p2 := by omega
  have hp21 : p2 ≤ (l.length : Int) := by omega
  obtain ⟨tx, htx⟩ : ∃ tx, decide ((4 : Int) ≤ (fc.toNat : Int)) = tx := ⟨_, rfl⟩
  obtain ⟨ct, hct⟩ : ∃ ct, (fc.toNat : Int) % 4 = ct := ⟨_, rfl⟩
  obtain ⟨L, hL⟩ : ∃ L, n0 + n1 = L := ⟨_, rfl⟩
  have HRB := Lib.hid (show rdB l = match rdT 0 l p2 n0 with | none => none | some (xs, q) => some (⟨n0, L, n2, n3, n4, n5, n6, tx, ct, xs⟩, q) by
    unfold rdB
    rw [hV]
    simp only [hlp, hg]
    rw [if_neg hf7, if_neg (by simp), if_neg (by omega), show (0 : Int).toNat = 0 from rfl, hL, ← htx, ← hct]
    have e1 : decide (4 ≤ fc.toNat) = decide ((4 : Int) ≤ (fc.toNat : Int)) := decide_eq_decide.2 ⟨fun h => by omega, fun h => by omega⟩
    rw [e1]
    cases rdT 0 l p2 n0 with
    | none => rfl
    | some y => simp only [Int.natCast_emod]; rfl)
  have hfc255 : (fc.toNat : Int) ≤ 255 := by have := fc.toNat_lt; omega
  have hp19 : p + 1 ≤ 9223372036854775807 := by have := hr.len; omega
  have hb1 : (p2 == (n : Int)) = true := beqT hpe
  have HYES := Lib.hid (show rdB l = some (⟨n0, L, n2, n3, n4, n5, n6, tx, ct, []⟩, (l.length : Int)) by rw [HRB.out, hr.len, ← hpe]; rfl)
  clear hpe
  have HTX := Lib.hid htx
  have HCT := Lib.hid hct
  have HLL := Lib.hid hL
  clear hV hg hgg0 htx hct hL hlp hlp' hf7
  have HW1 := Lib.hid (show Below w.heap.size w (((w.alloc (.cells #[.int .i64 0, .int .i64 0, .int .i64 0, .int .i64 0, .int .i64 0, .int .i64 0, .int .i64 0, .bool false, .int .i64 0, .slice none 0 0] 36)).alloc (.cells #[.int .i64 0, .int .i64 0, .int .i64 0, .int .i64 0, .int .i64 0, .int .i64 0, .int .i64 0, .bool false, .int .i64 0, .slice none 0 0] 36)).alloc (.cells #[.int .i64 0, .int .i64 0, .int .i64 0, .int .i64 0, .int .i64 0, .int .i64 0, .int .i64 0] 113)) from (((Below.refl w.heap.size w).alloc (Nat.le_refl _) _).alloc (by simp) _).alloc (by simp; omega) _)
  have HZ1 := Lib.hid (show ZB (((w.alloc (.cells #[.int .i64 0, .int .i64 0, .int .i64 0, .int .i64 0, .int .i64 0, .int .i64 0, .int .i64 0, .bool false, .int .i64 0, .slice none 0 0] 36)).alloc (.cells #[.int .i64 0, .int .i64 0, .int .i64 0, .int .i64 0, .int .i64 0, .int .i64 0, .int .i64 0, .bool false, .int .i64 0, .slice none 0 0] 36)).alloc (.cells #[.int .i64 0, .int .i64 0, .int .i64 0, .int .i64 0, .int .i64 0, .int .i64 0, .int .i64 0] 113)) w.heap.size from ((ZB.new w).below (bel_alloc (Below.refl _ _) _) (by simp)).below (bel_alloc (Below.refl _ _) _) (by simp; omega))
  have HZ2 := Lib.hid (show ZB (((w.alloc (.cells #[.int .i64 0, .int .i64 0, .int .i64 0, .int .i64 0, .int .i64 0, .int .i64 0, .int .i64 0, .bool false, .int .i64 0, .slice none 0 0] 36)).alloc (.cells #[.int .i64 0, .int .i64 0, .int .i64 0, .int .i64 0, .int .i64 0, .int .i64 0, .int .i64 0, .bool false, .int .i64 0, .slice none 0 0] 36)).alloc (.cells #[.int .i64 0, .int .i64 0, .int .i64 0, .int .i64 0, .int .i64 0, .int .i64 0, .int .i64 0] 113)) (w.heap.size + 1) by
    have h := (ZB.new (w.alloc (.cells #[.int .i64 0, .int .i64 0, .int .i64 0, .int .i64 0, .int .i64 0, .int .i64 0, .int .i64 0, .bool false, .int .i64 0, .slice none 0 0] 36))).below (bel_alloc (Below.refl _ _) (.cells #[.int .i64 0, .int .i64 0, .int .i64 0, .int .i64 0, .int .i64 0, .int .i64 0, .int .i64 0] 113)) (by simp)
    rw [show (w.alloc (.cells #[.int .i64 0, .int .i64 0, .int .i64 0, .int .i64 0, .int .i64 0, .int .i64 0, .int .i64 0, .bool false, .int .i64 0, .slice none 0 0] 36)).heap.size = w.heap.size + 1 by simp] at h
    exact h)
  have HA1 := Lib.hid (show AR (((w.alloc (.cells #[.int .i64 0, .int .i64 0, .int .i64 0, .int .i64 0, .int .i64 0, .int .i64 0, .int .i64 0, .bool false, .int .i64 0, .slice none 0 0] 36)).alloc (.cells #[.int .i64 0, .int .i64 0, .int .i64 0, .int .i64 0, .int .i64 0, .int .i64 0, .int .i64 0, .bool false, .int .i64 0, .slice none 0 0] 36)).alloc (.cells #[.int .i64 0, .int .i64 0, .int .i64 0, .int .i64 0, .int .i64 0, .int .i64 0, .int .i64 0] 113)) (w.heap.size + 2) [0, 0, 0, 0, 0, 0, 0] by
    have h := AR.new ((w.alloc (.cells #[.int .i64 0, .int .i64 0, .int .i64 0, .int .i64 0, .int .i64 0, .int .i64 0, .int .i64 0, .bool false, .int .i64 0, .slice none 0 0] 36)).alloc (.cells #[.int .i64 0, .int .i64 0, .int .i64 0, .int .i64 0, .int .i64 0, .int .i64 0, .int .i64 0, .bool false, .int .i64 0, .slice none 0 0] 36))
    rw [show ((w.alloc (.cells #[.int .i64 0, .int .i64 0, .int .i64 0, .int .i64 0, .int .i64 0, .int .i64 0, .int .i64 0, .bool false, .int .i64 0, .slice none 0 0] 36)).alloc (.cells #[.int .i64 0, .int .i64 0, .int .i64 0, .int .i64 0, .int .i64 0, .int .i64 0, .int .i64 0, .bool false, .int .i64 0, .slice none 0 0] 36)).heap.size = w.heap.size + 2 by simp] at h
    exact h)
  have HR := Lib.hid hr
  have hl := hr.len
  clear hr
  go_enter Tryz.func53, Tryz.ntmps53
  go_wp2
  generalize hw1 : (((w.alloc (.cells #[.int .i64 0, .int .i64 0, .int .i64 0, .int .i64 0, .int .i64 0, .int .i64 0, .int .i64 0, .bool false, .int .i64 0, .slice none 0 0] 36)).alloc (.cells #[.int .i64 0, .int .i64 0, .int .i64 0, .int .i64 0, .int .i64 0, .int .i64 0, .int .i64 0, .bool false, .int .i64 0, .slice none 0 0] 36)).alloc (.cells #[.int .i64 0, .int .i64 0, .int .i64 0, .int .i64 0, .int .i64 0, .int .i64 0, .int .i64 0] 113)) = w1 at *
  clear hw1
  go_loopw [5, 22] (fun a i wr => b1Rel l w.heap.size w1 a i wr) (fun _ i _ => 7 - (intOf i).toNat)
  case atStart => exact ⟨0, _, 0, rfl, rfl, by omega, by omega, by omega, HA1.out, (by intro x hx; simp only [List.mem_cons, List.not_mem_nil, or_false, or_self] at hx; subst hx; unfold W64; omega), (by cases rdV 7 l 0 <;> rfl), HZ1.out, HZ2.out, Below.refl _ _⟩
  case round =>
    obtain ⟨k, arr, pp, rfl, rfl, hk, hp0, hp1, har, hw64, hR, hz1, hz2, hbr⟩ := hrel
    have HAR := Lib.hid har
    have H64 := Lib.hid hw64
    have HRV := Lib.hid hR
    have HBR := Lib.hid hbr
    have HZA := Lib.hid hz1
    have HZB := Lib.hid hz2
    have HRD := Lib.hid (HR.out.below (HW1.out.trans hbr) (Nat.le_refl _))
    have hp9 : pp ≤ 9223372036854775807 := by omega
    clear har hw64 hR hbr
    by_cases hlt : k < 7
    · rcases hg9 : gv l pp with ⟨x, q, z⟩
      have HG9 := Lib.hid hg9
      by_cases hzz : z = 0
      · subst hzz
        have hgg := gv_good hg9
        have HS := Lib.hid (rdV_step hlt HAR.out.len HRV.out hg9)
        obtain ⟨ox, hox⟩ : ∃ ox, arr[k]? = some ox := ⟨_, List.getElem?_eq_getElem (by have := HAR.out.len; omega)⟩
        have hcell := HAR.out.c k ox hox
        have hfro := HAR.out.f k
        have y1 : (0 : Int) ≤ (k : Int) := by omega
        have y2 : (k : Int) < 7 := by omega
        clear hg9 hox hz1 hz2
        go_wp2_with (go_at_call 76; (with_reducible refine (refGetVar_is A n c pp l _ _ HRD.out hn hp9 HG9.out).mono ?_); rintro e w9 ⟨rfl, rfl⟩)
        go_roundw
        case rel =>
          refine ⟨k + 1, arr.set k x, q, by go_num, rfl, by omega, by omega, by omega, HAR.out.set hlt x, fun y hy => ?_, HS.out, HZA.out.set (by omega), HZB.out.set (by omega), HBR.out.setCell (by show w.heap.size ≤ w.heap.size + 2; omega) _⟩
          rcases List.mem_or_eq_of_mem_set hy with h | rfl
          · exact H64.out y h
          · exact ⟨hgg.2.2.2.2.2.1, hgg.2.2.2.2.2.2⟩
        case measure => simp [intOf]; omega
      · have hf : rdV (7 - k) l pp = none := rdV_fail (by omega) (by rw [hg9]; exact hzz)
        have h9 := HRV.out
        rw [hf, HVs.out] at h9
        cases h9
    · have hk7 : k = 7 := by omega
      subst hk7
      have hsr : w.heap.size + 2 < wr.heap.size := HAR.out.lt
      have HWR := Lib.hid (HW1.out.trans HBR.out)
      obtain ⟨rfl, rfl⟩ : arr = [n0, n1, n2, n3, n4, n5, n6] ∧ p = pp := by
        have h9 := HRV.out
        rw [HVs.out] at h9
        have hla := HAR.out.len
        simp [rdV] at h9
        exact ⟨by rw [h9.1, List.take_of_length_le (by omega)], h9.2⟩
      have a0 := HAR.out.c 0 n0 rfl
      have a1 := HAR.out.c 1 n1 rfl
      have a2 := HAR.out.c 2 n2 rfl
      have a3 := HAR.out.c 3 n3 rfl
      have a4 := HAR.out.c 4 n4 rfl
      have a5 := HAR.out.c 5 n5 rfl
      have a6 := HAR.out.c 6 n6 rfl
      obtain ⟨zc0, zc1, zc2, zc3, zc4, zc5, zc6, zc7, zc8, zc9, zf0, zf1, zf2, zf3, zf4, zf5, zf6, zf7, zf8, zf9, zlt⟩ := hz1
      obtain ⟨yc0, yc1, yc2, yc3, yc4, yc5, yc6, yc7, yc8, yc9, yf0, yf1, yf2, yf3, yf4, yf5, yf6, yf7, yf8, yf9, ylt⟩ := hz2
      have htx := HTX.out
      have hct := HCT.out
      have hL := HLL.out
      have HPUT := Lib.hid (show BoxB ((((((((((wr.setCell ⟨w.heap.size + 1, 0, none⟩ (.int .i64 n0)).setCell ⟨w.heap.size + 1, 1, none⟩ (.int .i64 L)).setCell ⟨w.heap.size + 1, 2, none⟩ (.int .i64 n2)).setCell ⟨w.heap.size + 1, 3, none⟩ (.int .i64 n3)).setCell ⟨w.heap.size + 1, 4, none⟩ (.int .i64 n4)).setCell ⟨w.heap.size + 1, 5, none⟩ (.int .i64 n5)).setCell ⟨w.heap.size + 1, 6, none⟩ (.int .i64 n6)).setCell ⟨w.heap.size + 1, 7, none⟩ (.bool tx)).setCell ⟨w.heap.size + 1, 8, none⟩ (.int .i64 ct)).setCell ⟨w.heap.size + 1, 9, none⟩ (.slice none 0 0)) (w.heap.size + 1) ⟨n0, L, n2, n3, n4, n5, n6, tx, ct, []⟩ (.slice none 0 0) ∧ ((((((((((wr.setCell ⟨w.heap.size + 1, 0, none⟩ (.int .i64 n0)).setCell ⟨w.heap.size + 1, 1, none⟩ (.int .i64 L)).setCell ⟨w.heap.size + 1, 2, none⟩ (.int .i64 n2)).setCell ⟨w.heap.size + 1, 3, none⟩ (.int .i64 n3)).setCell ⟨w.heap.size + 1, 4, none⟩ (.int .i64 n4)).setCell ⟨w.heap.size + 1, 5, none⟩ (.int .i64 n5)).setCell ⟨w.heap.size + 1, 6, none⟩ (.int .i64 n6)).setCell ⟨w.heap.size + 1, 7, none⟩ (.bool tx)).setCell ⟨w.heap.size + 1, 8, none⟩ (.int .i64 ct)).setCell ⟨w.heap.size + 1, 9, none⟩ (.slice none 0 0)).heap.size = wr.heap.size ∧ ∀ j, ((((((((((wr.setCell ⟨w.heap.size + 1, 0, none⟩ (.int .i64 n0)).setCell ⟨w.heap.size + 1, 1, none⟩ (.int .i64 L)).setCell ⟨w.heap.size + 1, 2, none⟩ (.int .i64 n2)).setCell ⟨w.heap.size + 1, 3, none⟩ (.int .i64 n3)).setCell ⟨w.heap.size + 1, 4, none⟩ (.int .i64 n4)).setCell ⟨w.heap.size + 1, 5, none⟩ (.int .i64 n5)).setCell ⟨w.heap.size + 1, 6, none⟩ (.int .i64 n6)).setCell ⟨w.heap.size + 1, 7, none⟩ (.bool tx)).setCell ⟨w.heap.size + 1, 8, none⟩ (.int .i64 ct)).setCell ⟨w.heap.size + 1, 9, none⟩ (.slice none 0 0)).frozen? ⟨w.heap.size + 1, j, none⟩ = wr.frozen? ⟨w.heap.size + 1, j, none⟩ from box_put HZB.out ⟨n0, L, n2, n3, n4, n5, n6, tx, ct, []⟩ (.slice none 0 0))
      have HW20 := Lib.hid (show Below w.heap.size w ((((((((((wr.setCell ⟨w.heap.size + 1, 0, none⟩ (.int .i64 n0)).setCell ⟨w.heap.size + 1, 1, none⟩ (.int .i64 L)).setCell ⟨w.heap.size + 1, 2, none⟩ (.int .i64 n2)).setCell ⟨w.heap.size + 1, 3, none⟩ (.int .i64 n3)).setCell ⟨w.heap.size + 1, 4, none⟩ (.int .i64 n4)).setCell ⟨w.heap.size + 1, 5, none⟩ (.int .i64 n5)).setCell ⟨w.heap.size + 1, 6, none⟩ (.int .i64 n6)).setCell ⟨w.heap.size + 1, 7, none⟩ (.bool tx)).setCell ⟨w.heap.size + 1, 8, none⟩ (.int .i64 ct)).setCell ⟨w.heap.size + 1, 9, none⟩ (.slice none 0 0)) from ((((((((((HWR.out.setCell (by first | (simp; done) | (simp; omega)) _).setCell (by first | (simp; done) | (simp; omega)) _).setCell (by first | (simp; done) | (simp; omega)) _).setCell (by first | (simp; done) | (simp; omega)) _).setCell (by first | (simp; done) | (simp; omega)) _).setCell (by first | (simp; done) | (simp; omega)) _).setCell (by first | (simp; done) | (simp; omega)) _).setCell (by first | (simp; done) | (simp; omega)) _).setCell (by first | (simp; done) | (simp; omega)) _).setCell (by first | (simp; done) | (simp; omega)) _))
      have HZ20 := Lib.hid (show ZB ((((((((((wr.setCell ⟨w.heap.size + 1, 0, none⟩ (.int .i64 n0)).setCell ⟨w.heap.size + 1, 1, none⟩ (.int .i64 L)).setCell ⟨w.heap.size + 1, 2, none⟩ (.int .i64 n2)).setCell ⟨w.heap.size + 1, 3, none⟩ (.int .i64 n3)).setCell ⟨w.heap.size + 1, 4, none⟩ (.int .i64 n4)).setCell ⟨w.heap.size + 1, 5, none⟩ (.int .i64 n5)).setCell ⟨w.heap.size + 1, 6, none⟩ (.int .i64 n6)).setCell ⟨w.heap.size + 1, 7, none⟩ (.bool tx)).setCell ⟨w.heap.size + 1, 8, none⟩ (.int .i64 ct)).setCell ⟨w.heap.size + 1, 9, none⟩ (.slice none 0 0)) w.heap.size from ((((((((((HZA.out.set (by omega)).set (by omega)).set (by omega)).set (by omega)).set (by omega)).set (by omega)).set (by omega)).set (by omega)).set (by omega)).set (by omega)))
      have hf20 : Hid (wr.frozen? ⟨w.heap.size + 1, 9, none⟩ = false) := Lib.hid HZB.out.f9
      go_wp2_with (first | (go_at_call 51; (with_reducible refine (Oct.refGet_is A n c p 1 l _ _ HRD.out hn HF.out).mono ?_); rintro e w9 ⟨rfl, rfl⟩) | (go_at_call 76; (with_reducible refine (refGetVar_is A n c (p + 1) l _ _ HRD.out hn hp19 HG.out).mono ?_); rintro e w8 ⟨rfl, rfl⟩))
      have HX20 := Lib.hid HPUT.out.1
      have hs20 : w.heap.size + 2 < ((((((((((wr.setCell ⟨w.heap.size + 1, 0, none⟩ (.int .i64 n0)).setCell ⟨w.heap.size + 1, 1, none⟩ (.int .i64 L)).setCell ⟨w.heap.size + 1, 2, none⟩ (.int .i64 n2)).setCell ⟨w.heap.size + 1, 3, none⟩ (.int .i64 n3)).setCell ⟨w.heap.size + 1, 4, none⟩ (.int .i64 n4)).setCell ⟨w.heap.size + 1, 5, none⟩ (.int .i64 n5)).setCell ⟨w.heap.size + 1, 6, none⟩ (.int .i64 n6)).setCell ⟨w.heap.size + 1, 7, none⟩ (.bool tx)).setCell ⟨w.heap.size + 1, 8, none⟩ (.int .i64 ct)).setCell ⟨w.heap.size + 1, 9, none⟩ (.slice none 0 0)).heap.size := by rw [HPUT.out.2.1]; exact hsr
      have HF20 := Lib.hid ((HPUT.out.2.2 9).trans hf20.out)
      have HRD20 := Lib.hid (HR.out.below HW20.out (Nat.le_refl _))
      clear HPUT htx hct hL a0 a1 a2 a3 a4 a5 a6
      generalize hw20 : ((((((((((wr.setCell ⟨w.heap.size + 1, 0, none⟩ (.int .i64 n0)).setCell ⟨w.heap.size + 1, 1, none⟩ (.int .i64 L)).setCell ⟨w.heap.size + 1, 2, none⟩ (.int .i64 n2)).setCell ⟨w.heap.size + 1, 3, none⟩ (.int .i64 n3)).setCell ⟨w.heap.size + 1, 4, none⟩ (.int .i64 n4)).setCell ⟨w.heap.size + 1, 5, none⟩ (.int .i64 n5)).setCell ⟨w.heap.size + 1, 6, none⟩ (.int .i64 n6)).setCell ⟨w.heap.size + 1, 7, none⟩ (.bool tx)).setCell ⟨w.heap.size + 1, 8, none⟩ (.int .i64 ct)).setCell ⟨w.heap.size + 1, 9, none⟩ (.slice none 0 0)) = w20 at *
      clear hw20
      have hs21 : w.heap.size + 1 < w20.heap.size := by omega
      go_loopw [5, 130] (fun a i wr => b2Rel 60 l w.heap.size ⟨n0, L, n2, n3, n4, n5, n6, tx, ct, []⟩ 0 p2 0 w20.heap.size w20 a i wr) (fun _ i _ => 0 - (intOf i).toNat)
      case atStart => exact ⟨0, [], _, none, 0, rfl, rfl, by omega, by omega, by omega, (by cases rdR 0 l p2 n0 0 <;> rfl), OwnF.nil, HX20.out, HF20.out, HZ20.out, Below.refl _ _, Nat.le_refl _⟩
      case round =>
        obtain ⟨k, xs, pq, A2, c2, rfl, rfl, hk2, hpp0, hpp1, hR2, ho2, hbx2, hf92, hzb2, hbr2, hbs2⟩ := hrel
        have HRV2 := Lib.hid hR2
        have HOr := Lib.hid ho2
        have HXr := Lib.hid hbx2
        have HFr := Lib.hid hf92
        have HZr := Lib.hid hzb2
        have HBr := Lib.hid hbr2
        have HRDr := Lib.hid (HRD20.out.below hbr2 (Nat.le_refl _))
        have hsz2 : w.heap.size ≤ w20.heap.size := by omega
        clear hR2 ho2 hbx2 hf92 hzb2 hbr2
        by_cases hlt2 : k < 0
        · rcases hgr : gr l pq n0 0 with ⟨⟨ro, rk, rv, rd, rt⟩, q, z⟩
          have HGR := Lib.hid hgr
          by_cases hzz : z = 0
          · exact absurd hlt2 (by omega)
          · exact absurd hlt2 (by omega)
        · have hkm : k = 0 := by omega
          subst hkm
          have HRX := Lib.hid (show rdR 0 l p2 n0 0 = some (xs, pq) by rw [HRV2.out, Nat.sub_self]; simp [rdR])
          obtain ⟨hxs, hpq⟩ : xs = [] ∧ pq = p2 := by
            have h := HRX.out
            simp only [rdR, Option.some.injEq, Prod.mk.injEq] at h
            exact ⟨h.1.symm, h.2.symm⟩
          subst hxs
          subst hpq
          have hcap2 := HOr.out.cap
          obtain ⟨x0, x1, x2, x3, x4, x5, x6, x7, x8, x9⟩ := HXr.out
          obtain ⟨vc0, vc1, vc2, vc3, vc4, vc5, vc6, vc7, vc8, vc9, vf0, vf1, vf2, vf3, vf4, vf5, vf6, vf7, vf8, vf9, vlt⟩ := HZr.out
          have hx9l : w.heap.size + 1 < wr.heap.size := by omega
          have hx9m : w.heap.size < wr.heap.size := by omega
          obtain ⟨HWF, hHWF⟩ : ∃ _ : Hid (Below w.heap.size w wr), True := ⟨Lib.hid (HW20.out.trans HBr.out), trivial⟩
          go_wp2
          go_region
          all_goals go_wp2
          all_goals exact bodyPost_ret (v := .tuple #[bval ⟨n0, L, n2, n3, n4, n5, n6, tx, ct, []⟩ (.slice A2 0 c2), .bool true]) (by simp [results, Tryz.results53, go_sem, bval, vc0, vc1, vc2, vc3, vc4, vc5, vc6, vc7, vc8, vc9]) rfl ⟨bel_drew (((((((((((HWF.out.setCell (by first | (simp; done) | (simp; omega)) _).setCell (by first | (simp; done) | (simp; omega)) _).setCell (by first | (simp; done) | (simp; omega)) _).setCell (by first | (simp; done) | (simp; omega)) _).setCell (by first | (simp; done) | (simp; omega)) _).setCell (by first | (simp; done) | (simp; omega)) _).setCell (by first | (simp; done) | (simp; omega)) _).setCell (by first | (simp; done) | (simp; omega)) _).setCell (by first | (simp; done) | (simp; omega)) _).setCell (by first | (simp; done) | (simp; omega)) _)), ⟨n0, L, n2, n3, n4, n5, n6, tx, ct, []⟩, A2, 0, c2, true, rfl, hcap2, ownR_of (OwnF.drew ((OwnF.more (ownsRow_setCell_below (ownsRow_setCell_below (ownsRow_setCell_below (ownsRow_setCell_below (ownsRow_setCell_below (ownsRow_setCell_below (ownsRow_setCell_below (ownsRow_setCell_below (ownsRow_setCell_below (ownsRow_setCell_below HOr.out (by show w.heap.size < w20.heap.size; omega) _) (by show w.heap.size < w20.heap.size; omega) _) (by show w.heap.size < w20.heap.size; omega) _) (by show w.heap.size < w20.heap.size; omega) _) (by show w.heap.size < w20.heap.size; omega) _) (by show w.heap.size < w20.heap.size; omega) _) (by show w.heap.size < w20.heap.size; omega) _) (by show w.heap.size < w20.heap.size; omega) _) (by show w.heap.size < w20.heap.size; omega) _) (by show w.heap.size < w20.heap.size; omega) _) (by omega)))), fun _ => HYES.out, fun h => (by cases h)⟩

end Go.Proofs.YtbnkfljkojhkoaaGreatDoor.Bat
