/- The contract of octet.GetText. -/
import Derived.Test.YtjjokjgakenhlaaOctGet
namespace Go.Proofs.Ytjjokjgakenhlaa.Oct
open Go.RowKit

theorem wpList_toStr {P : Program} (w : World) {ops : Array Oper} {rest : List Oper} {o : Oper} {a : Act} {Q : Exit → Act → World → Prop} (hgd : o.guard = none) (x : Operand) (src dst e : TypeId)
    (ho : o.op = .convert src dst x) (hs : P.underlying src = some (.slice e)) (he : P.underlying e = some (.int .u8)) (hd : P.underlying dst = some .string)
    (B : Nat) (A : Option Addr) (n c : Nat) (l : List UInt8) (hx : a.eval x = .slice A n c) (hr : Rd w B A n l)
    (h : wpList P ops Q rest (a.put o.dst (.string ⟨l.toArray⟩)) w) : wpList P ops Q (o :: rest) a w := by
  refine wpList_plain hgd fun K hK => ?_
  have hrun := run_toString (P := P) w src dst e hs he hd B A n c l hr
  unfold Oper.wp execOp
  simp only [ho, hx, hrun, Sem.run_bind, Sem.run_pure, Result.andThen_ok]
  exact hK _ _ h

def gx (l : List UInt8) (p most : Int) : ByteArray × Int × Int :=
  if (gv l p).2.2 ≠ 0 then (ByteArray.empty, 0, (gv l p).2.2)
  else if (gv l p).1 < 0 then (ByteArray.empty, 0, 11)
  else if most < (gv l p).1 then (ByteArray.empty, 0, 2)
  else if hasB l.length (gv l p).2.1 (gv l p).1 = false then (ByteArray.empty, 0, 10)
  else (⟨((l.drop (gv l p).2.1.toNat).take (gv l p).1.toNat).toArray⟩, (gv l p).2.1 + (gv l p).1, 0)
def GX (l : List UInt8) (p most : Int) (e : Ending) : Prop := e = .returned (.tuple #[.string (gx l p most).1, .int .i64 (gx l p most).2.1, .int .i64 (gx l p most).2.2])

/-- where the number ends lies in the bytes -/
theorem gv_next {l : List UInt8} {p : Int} (h : (gv l p).2.2 = 0) : 0 ≤ p ∧ p < (gv l p).2.1 ∧ (gv l p).2.1 ≤ l.length := by
  unfold gv at h ⊢
  by_cases h0 : p < 0
  · rw [if_pos h0] at h; simp at h
  · rw [if_neg h0] at h ⊢
    cases hs : scan (l.drop p.toNat) 0 0 with
    | short => rw [hs] at h; simp at h
    | form => rw [hs] at h; simp at h
    | ok u n =>
      obtain ⟨z, r, hl, _, hk, _⟩ := scan_ok _ 0 0 u n (by omega) hs
      have h1 := congrArg List.length hl
      have h2 := vb_pos z
      simp only [List.length_drop, List.length_append] at h1
      simp only
      omega

set_option maxRecDepth 100000 in
set_option maxHeartbeats 800000 in
theorem GetText_any (A : Option Addr) (n c : Nat) (p most : Int) (l : List UInt8) (B : Nat) (w : World) (hr : Rd w B A n l) (hc : n ≤ c) (hn : n ≤ 1099511627776) (hp : p ≤ 9223372036854775807) :
    Calls Try.prog 23 #[.slice A n c, .int .i64 p, .int .i64 most] w fun e w' => GX l p most e ∧ w = w' := by
  have hl := hr.len
  have hnx := gv_next (l := l) (p := p)
  have HG := GetVar_any A n c p l B w hr hn hp
  unfold GX gx
  unfold GV at HG
  rw [hl] at hnx ⊢
  generalize hx : (gv l p).1 = x at *
  generalize hy : (gv l p).2.1 = y at *
  generalize hz : (gv l p).2.2 = z at *
  have HG2 := Lib.hid HG
  clear hx hy hz HG
  by_cases h1 : z = 0
  · subst h1
    obtain ⟨g1, g2, g3⟩ := hnx rfl
    rw [if_neg (by simp)]
    by_cases h2 : x < 0
    · rw [if_pos h2]
      clear hr hl hnx
      go_enter Try.func23, Try.ntmps23
      go_wp2_with (go_at_call 19; refine HG2.out.mono ?_; rintro e w1 ⟨rfl, rfl⟩)
      go_ret3
      exact ⟨rfl, rfl⟩
    · rw [if_neg h2]
      by_cases h3 : most < x
      · rw [if_pos h3]
        clear hr hl hnx
        go_enter Try.func23, Try.ntmps23
        go_wp2_with (go_at_call 19; refine HG2.out.mono ?_; rintro e w1 ⟨rfl, rfl⟩)
        go_ret3
        exact ⟨rfl, rfl⟩
      · rw [if_neg h3]
        by_cases h4 : hasB n y x = true
        · rw [if_neg (by simp [h4])]
          have h5 : y + x ≤ n := by simp [hasB] at h4; omega
          obtain ⟨Y, rfl⟩ : ∃ m : Nat, y = (m : Int) := ⟨y.toNat, by omega⟩
          obtain ⟨X, rfl⟩ : ∃ m : Nat, x = (m : Int) := ⟨x.toNat, by omega⟩
          clear hl hnx
          go_enter Try.func23, Try.ntmps23
          go_wp2_with (first | (go_at_call 19; refine HG2.out.mono ?_; rintro e w1 ⟨rfl, rfl⟩) | (go_at_call 28; refine (has_any _ _ _ _ _ _ (by omega) (by omega)).mono ?_; rintro e w1 ⟨rfl, rfl⟩) | (refine wpList_toStr _ rfl (.tmp 35) 22 9 5 rfl Try.underlying22 Try.underlying5 Try.underlying9 _ _ _ _ ((l.drop Y).take X) rfl (hr.cut' (i := Y) (m := X) (by omega) (by omega) (by intro h0; first | rfl | exact if_neg (by omega) | (exfalso; omega))) ?_))
          all_goals go_ret3
          all_goals exact ⟨rfl, rfl⟩
        · have h4' : hasB n y x = false := by simpa using h4
          rw [if_pos h4']
          clear hr hl hnx h4
          go_enter Try.func23, Try.ntmps23
          go_wp2_with (first | (go_at_call 19; refine HG2.out.mono ?_; rintro e w1 ⟨rfl, rfl⟩) | (go_at_call 28; refine (has_any _ _ _ _ _ _ (by omega) (by omega)).mono ?_; rintro e w1 ⟨rfl, rfl⟩))
          go_ret3
          exact ⟨rfl, rfl⟩
  · rw [if_pos h1]
    have h1' : (z == 0) = false := beqF h1
    have h1'' : (z != 0) = true := by simp [h1]
    clear hr hl hnx h1
    go_enter Try.func23, Try.ntmps23
    go_wp2_with (go_at_call 19; refine HG2.out.mono ?_; rintro e w1 ⟨rfl, rfl⟩)
    go_ret3
    exact ⟨rfl, rfl⟩

theorem GetText_is (A : Option Addr) (n c : Nat) (p most : Int) (l : List UInt8) (B : Nat) (w : World) (hr : Rd w B A n l) (hc : n ≤ c) (hn : n ≤ 1099511627776) (hp : p ≤ 9223372036854775807) {t : ByteArray} {y z : Int} (h : gx l p most = (t, y, z)) :
    Calls Try.prog 23 #[.slice A n c, .int .i64 p, .int .i64 most] w fun e w' => e = .returned (.tuple #[.string t, .int .i64 y, .int .i64 z]) ∧ w = w' := by
  have h1 := GetText_any A n c p most l B w hr hc hn hp
  unfold GX at h1
  rw [h] at h1
  exact h1
end Go.Proofs.Ytjjokjgakenhlaa.Oct
