/- Joined: SqsB1, OpenU8. -/
import Derived.Test.YtllebgadhhgckaaDoorJ08
import Derived.Test.YtllebgadhhgckaaDoorJ49
import Derived.Test.YtllebgadhhgckaaDoorJ28
import Derived.Test.YtllebgadhhgckaaDoorJ36
import Derived.Test.YtllebgadhhgckaaDoorJ01
/- Bytes copied into a block of one's own, and one of them spoilt. -/
namespace Go.Proofs.YtllebgadhhgckaaDoor.Sqs
open Go.RowKit Oct Rec Crc Bat Lay RowF InR
open Epo (At0 AtO belA)

theorem xor_u8 (a b : UInt8) : bits .xor .u8 (a.toNat : Int) (b.toNat : Int) = ((a ^^^ b).toNat : Int) := by
  have ha := a.toNat_lt
  have hb := b.toNat_lt
  rw [u8_xor_nat _ _ (by omega) (by omega), UInt8.toNat_xor]
theorem xor_ne {a b : UInt8} (h : b ≠ 0) : a ≠ a ^^^ b := fun h9 => h (by have h8 := congrArg (fun x => a ^^^ x) h9; simpa [← UInt8.xor_assoc] using h8.symm)
theorem bform {w : World} {e : TypeId} {base : Nat} {A : Option Addr} {n c : Nat} {l : List UInt8} (h : OwnB w e base (.slice A n c) n l) (hn : 0 < n) : ∃ g, A = some ⟨g, 0, none⟩ ∧ base ≤ g := by
  obtain ⟨g, cap, hv, hb, _⟩ := World.ownsRow.form h hn
  injection hv with h1
  exact ⟨g, h1, hb⟩
theorem bput {w : World} {e : TypeId} {base g n c j : Nat} {l : List UInt8} (h : OwnB w e base (.slice (some ⟨g, 0, none⟩) n c) n l) (hg : base ≤ g) (d : UInt8) :
    OwnB (w.setCell ⟨g, j, none⟩ (.int .u8 (d.toNat : Int))) e base (.slice (some ⟨g, 0, none⟩) n c) n (l.set j d) ∧ Below base w (w.setCell ⟨g, j, none⟩ (.int .u8 (d.toNat : Int))) := by
  refine ⟨?_, (Below.refl base w).setCell hg _⟩
  have h1 := (World.ownsRow.stored h j (.int .u8 (d.toNat : Int))).1
  unfold OwnB
  rw [List.map_set]
  exact h1
theorem bcell {w : World} {e : TypeId} {base g n c j : Nat} {l : List UInt8} {d : UInt8} (h : OwnB w e base (.slice (some ⟨g, 0, none⟩) n c) n l) (hd : l[j]? = some d) :
    w.cell? ⟨g, j, none⟩ = some (.int .u8 (d.toNat : Int)) ∧ w.frozen? ⟨g, j, none⟩ = false := by
  have hl := h.len
  have hj := (List.getElem?_eq_some_iff.1 hd).1
  refine ⟨?_, World.ownsRow.frozenAt h j⟩
  rw [World.ownsRow.cellAt h j (by omega), List.getElem?_map, hd]
  rfl
theorem copyB_run {B0 n c : Nat} {A : Option Addr} {l : List UInt8} (w : World) (hr : Rd w B0 A n l) (hB : B0 ≤ w.heap.size) (hn : n ≤ 1000000) :
    ∃ A7 c7 w7, (Builtin.append_ #[39, 39] 39 #[.slice (some ⟨w.heap.size, 0, none⟩) 0 0, .slice A n c]).run Tryd.prog (w.alloc (.cells #[] 5)) = .ok (.slice A7 n c7) w7 ∧ OwnB w7 5 w.heap.size (.slice A7 n c7) n l ∧ Below w.heap.size w w7 := by
  have hbel := belA w (.cells #[] 5)
  have h0 : OwnB (w.alloc (.cells #[] 5)) 5 w.heap.size (.slice (some ⟨w.heap.size, 0, none⟩) 0 0) 0 [] := World.ownsRow_lit w _ 0 (Nat.le_refl _) (by unfold maxLen; omega) (by simp)
  obtain ⟨A7, c7, w7, k1, k2, k3, k4⟩ := run_appBG (P := Tryd.prog) (w.alloc (.cells #[] 5)) w.heap.size 39 39 5 Tryd.underlying39 u8row _ 0 [] h0 _ A n c l (hr.below hbel hB) (by omega) hbel.size
  rw [Nat.zero_add] at k1 k2 k4
  exact ⟨A7, c7, w7, k1, k2, hbel.trans (below_of_grown _ h0 k3 hbel.size)⟩
theorem spoilt_open {x : List UInt8} {j : Nat} {d e : UInt8} (hd : (sealB x)[j]? = some d) (hne : d ≠ e) : openB ((sealB x).set j e) = ([], 20) := by
  rcases openB_cases ((sealB x).set j e) with ⟨_, h⟩ | ⟨h, _⟩ | ⟨h, _⟩
  · rw [List.length_set, sealB_length] at h; omega
  · exact h
  · exact absurd (seal_set hd (openB_ok h).1) hne
end Go.Proofs.YtllebgadhhgckaaDoor.Sqs

/- What a law's frame opens: a byte. -/
namespace Go.Proofs.YtllebgadhhgckaaDoor.Oct
open Go.RowKit Go.ChangeShapes Go.WideShapes Go.Deep
section
variable {H : Type} {enc : TypeId × Value → H} {P : Program} {W : World} {base : Nat} {v : Value} {d : DataW H} {p : List MemPlace} {t e : TypeId}
theorem open_u8 (ht : P.underlying t = some (.int .u8)) (hv : Value.okWide P W .any base t v) (h : DataW.Trod enc P W 0 (fun _ => true) true t v d p) : ∃ b : UInt8, v = .int .u8 (b.toNat : Int) := by
  obtain ⟨a, rfl, _, _, hw⟩ := open_int ht hv h
  have hb := bounds_u8 hw
  refine ⟨UInt8.ofNat a.toNat, ?_⟩
  have : ((UInt8.ofNat a.toNat).toNat : Int) = a := by
    rw [UInt8.toNat_ofNat']
    omega
  rw [this]
end
end Go.Proofs.YtllebgadhhgckaaDoor.Oct
