/- Joined: CrcRef2. -/
import Derived.Test.YtlfbagkonckffaaGreatJ24
import Derived.Laws.OwnMore
import Derived.Deep.QuietTactic
import Derived.BigQuiet
/- The contracts of the document's own answers of layer 2: four, Seal, Open. -/
namespace Go.Proofs.YtlfbagkonckffaaGreat.Crc
open Go.RowKit Oct

theorem beN_four (v : Nat) : beN v 4 4 = [UInt8.ofNat (v / 16777216), UInt8.ofNat (v / 65536), UInt8.ofNat (v / 256), UInt8.ofNat v] := by
  simp [beN, List.range_succ]

theorem four_cells (v : Nat) (h : v < 4294967296) :
    (#[Value.int .u8 ((v : Int) / 16777216), Value.int .u8 ((v : Int) / 65536 % 256), Value.int .u8 ((v : Int) / 256 % 256), Value.int .u8 ((v : Int) % 256)] : Array Value) = ((beN v 4 4).map bv).toArray := by
  rw [beN_four]
  simp only [List.map_cons, List.map_nil, bv, UInt8.toNat_ofNat']
  have e1 : (v : Int) / 16777216 = ((v / 16777216 % 2 ^ 8 : Nat) : Int) := by omega
  have e2 : (v : Int) / 65536 % 256 = ((v / 65536 % 2 ^ 8 : Nat) : Int) := by omega
  have e3 : (v : Int) / 256 % 256 = ((v / 256 % 2 ^ 8 : Nat) : Int) := by omega
  have e4 : (v : Int) % 256 = ((v % 2 ^ 8 : Nat) : Int) := by omega
  rw [e1, e2, e3, e4]

theorem refFour_any (v : Nat) (w : World) (h : v < 4294967296) :
    Calls Tryz.prog 119 #[.int .u32 (v : Int)] w (RB 5 w.heap.size w (beN v 4 4)) := by
  have HC := Lib.hid (four_cells v h)
  have hb : (v : Int) ≤ 4294967295 := by omega
  clear h
  go_enter Tryz.func119, Tryz.ntmps119
  go_wp2
  go_ret
  rw [HC.out]
  exact ⟨_, 4, 4, rfl, own_lit w 5 (beN v 4 4) 4 (beN_length _ _ _) (by omega), (Below.refl _ _).alloc (Nat.le_refl _) _⟩

theorem refSeal_any (A : Option Addr) (n c : Nat) (l : List UInt8) (B : Nat) (w : World) (hr : Rd w B A n l) (hB : B ≤ w.heap.size) (hn : n ≤ 549755813888) :
    Calls Tryz.prog 101 #[.slice A n c] w (RB 5 w.heap.size w (sealB l)) := by
  have hI := u8row
  have HS := Lib.hid (sum_lt l)
  go_enter Tryz.func101, Tryz.ntmps101
  go_wp2_with (first
    | (at_builtin; refine wpList_app0 (w.alloc (.cells #[] 5)) rfl (.tmp 3) (.tmp 4) 94 rfl w.heap.size 5 Tryz.underlying94 hI _ rfl (own_lit w 5 [] 0 rfl (by omega)) B A n c l rfl (hr.alloc hB _) (by omega) (by simp) ?_; intro A1 c1 w1 hown1 hb1; have hb01 := ((Below.refl w.heap.size w).alloc (Nat.le_refl _) (.cells #[] 5)).trans hb1)
    | (go_at_call 120; refine (refSum_any A n c l B _ (hr.below hb01 hB) (by omega)).mono ?_; rintro e w9 ⟨rfl, rfl⟩)
    | (go_at_call 119; refine (refFour_any (sum l) _ HS.out).mono ?_; rintro e w2 ⟨A2, n2, c2, rfl, hown2, hb2⟩; have hn2 : n2 = 4 := (by have := hown2.len; rw [beN_length] at this; omega); subst hn2; have hb02 := bel_trans hb01 hb2)
    | (at_builtin; refine wpList_appB w2 rfl (.tmp 5) (.tmp 8) 94 rfl w.heap.size 5 Tryz.underlying94 hI _ n _ rfl (hown1.below hb2) _ A2 4 c2 (beN (sum l) 4 4) rfl hown2.rd (by omega) hb02.size ?_; intro A3 c3 w3 hown3 hb3))
  go_ret
  exact ⟨A3, _, c3, rfl, by simpa [sealB] using hown3, hb02.trans hb3⟩

def ropRel (l f : List UInt8) (N : Nat) (w2 : World) (i : Value) (wr : World) : Prop :=
  ∃ j, i = .int .i64 ((j : Nat) : Int) ∧ j ≤ 4 ∧ (l.drop N).take j = f.take j ∧ Below w2.heap.size w2 wr
end Go.Proofs.YtlfbagkonckffaaGreat.Crc
