/- Joined: BatEach, BatDevW, BatRecF. -/
import Derived.Test.YtllebgadhhgckaaDoorJ11
import Derived.RegionTactic
import Derived.BigRegion
import Derived.Test.YtllebgadhhgckaaDoorJ14
import Derived.Test.YtllebgadhhgckaaDoorJ03
/- The contract of the landed eachNumber, handed any function: it is called number by number till it answers false. -/
namespace Go.Proofs.YtllebgadhhgckaaDoor.Bat
open Go.RowKit Oct Rec Crc
def adE (g s : Nat) : Nat → Addr
  | 1 => ⟨s, 0, none⟩
  | k => ⟨g, k, none⟩
def loE : Nat → Int
  | 4 => -1
  | _ => 0
def hiE (x y : Int) : Nat → Int
  | 1 => if IntKind.i64.wrap (1099511627776 - x) < 15 then IntKind.i64.wrap (1099511627776 - x) else 15
  | 2 => IntKind.i64.wrap (1099511627776 - y)
  | 3 => 1048576
  | 5 => 1048576
  | 6 => IntKind.i64.wrap (1048576 - y)
  | _ => 1099511627776
def SeeE (g s : Nat) (w : World) (x y : Int) : Prop := w.cell? ⟨g, 0, none⟩ = some (.int .i64 x) ∧ w.cell? ⟨s, 0, none⟩ = some (.int .i64 y) ∧ (∃ z, w.cell? ⟨g, 1, none⟩ = some (.int .i64 z)) ∧ w.frozen? ⟨g, 1, none⟩ = false
theorem app0 (a b c : Value) : (#[a, b, c] ++ #[] : Array Value) = #[a, b, c] := rfl
theorem app1 (a b c d : Value) : (#[a, b, c] ++ #[d] : Array Value) = #[a, b, c, d] := rfl
set_option maxRecDepth 100000 in
set_option maxHeartbeats 8000000 in
theorem each_any (F : Nat) (xs : Array Value) (hF : ∀ (ys : Array Value) (w : World), (callFunc F ys).run Tryd.prog w = .ok (.enter F ys) w) (g : Nat) (ba la sp : Int) (w : World) (hg : g < w.heap.size) (c0 : w.cell? ⟨g, 0, none⟩ = some (.int .i64 ba)) (c1 : w.cell? ⟨g, 1, none⟩ = some (.int .i64 la)) (hsp : IntKind.i64.wrap (la - ba) = sp) (J N : Nat → World → Prop)
    (h0 : J 0 (w.alloc (.cells #[.int .i64 sp] 3)).drew.drew) (jS : ∀ k w1, J k w1 → ∃ x y, SeeE g w.heap.size w1 x y) (nS : ∀ k w1, N k w1 → ∃ x y, SeeE g w.heap.size w1 x y)
    (hc : ∀ k w1 x y, k < 7 → J k w1 → SeeE g w.heap.size w1 x y → Calls Tryd.prog F (#[.pointer (some (adE g w.heap.size k)), .int .i64 (loE k), .int .i64 (hiE x y k)] ++ xs) w1 fun e w2 => ∃ b, e = .returned (.bool b) ∧ if b then J (k + 1) w2 else N k w2) :
    Calls Tryd.prog 104 #[.pointer (some ⟨g, 0, none⟩), .func (.func F) #[] xs] w fun e w2 => ∃ b, e = .returned (.bool b) ∧ ∃ w1 x y, SeeE g w.heap.size w1 x y ∧ (if b then J 7 w1 else ∃ k, k < 7 ∧ N k w1) ∧ (w1.setCell ⟨g, 1, none⟩ (.int .i64 (wrap64 (x + y)))).drew = w2 := by
  obtain ⟨x0, y0, hs0⟩ := jS _ _ h0
  have HC0 := Lib.hid (hc 0 _ x0 y0 (by omega) h0 hs0)
  clear h0 hs0
  go_enter Tryd.func104, Tryd.ntmps104
  go_wp2
  go_region
  go_wp2
  refine regN 55 (by kernel_rfl) ?_
  repeat (first | (refine uN 54 16 rfl ?_; simp only [tpu, tsa, Nat.reduceSub, Nat.reduceAdd, ts0, ts1]) | (refine pN 54 16 _ rfl ?_; simp only [tpu, tsa, Nat.reduceSub, Nat.reduceAdd, ts0, ts1]))
  refine takeB 4 _ (by kernel_rfl) rfl (fun K hK => ?_)
  simp only [List.getElem_toArray, List.getElem_cons_succ, List.getElem_cons_zero]
  go_simp
  refine (HC0.out).mono ?_
  clear HC0
  rintro e w1 ⟨b, rfl, hb⟩
  dsimp only
  cases b
  case false =>
    obtain ⟨x1, y1, hs1⟩ := nS _ _ hb
    have HE := Lib.hid (And.intro hs1 (⟨0, by omega, hb⟩ : ∃ k, k < 7 ∧ N k w1))
    obtain ⟨d0, d1, ⟨z, d2⟩, d3⟩ := hs1
    clear hb
    refine hK.out _ _ trivial (fun hHeld => ?_)
    clear hK K hHeld
    try simp only [tpu, tsa, ts0, ts1]
    repeat (first | (refine uN 54 16 rfl ?_; simp only [tpu, tsa, Nat.reduceSub, Nat.reduceAdd, ts0, ts1]) | (refine pN 54 16 _ rfl ?_; simp only [tpu, tsa, Nat.reduceSub, Nat.reduceAdd, ts0, ts1]))
    refine tP 54 6 _ rfl ?_
    try simp only [tpu, tsa, ts0, ts1]
    refine wpAnyH_done (by kernel_rfl) ?_ _
    go_wp2
    go_region
    go_wp2
    go_ret
    exact ⟨_, rfl, _, _, _, HE.out.1, HE.out.2, rfl⟩
  obtain ⟨x1, y1, hs1⟩ := jS _ _ hb
  have HC1 := Lib.hid (hc 1 _ x1 y1 (by omega) hb hs1)
  obtain ⟨d0, d1, -, -⟩ := hs1
  clear hb
  refine hK.out _ _ trivial (fun hHeld => ?_)
  clear hK K hHeld
  try simp only [tpu, tsa, ts0, ts1]
  repeat (first | (refine uN 54 16 rfl ?_; simp only [tpu, tsa, Nat.reduceSub, Nat.reduceAdd, ts0, ts1]) | (refine pN 54 16 _ rfl ?_; simp only [tpu, tsa, Nat.reduceSub, Nat.reduceAdd, ts0, ts1]))
  refine takeB 10 _ (by kernel_rfl) rfl (fun K hK => ?_)
  simp only [List.getElem_toArray, List.getElem_cons_succ, List.getElem_cons_zero]
  go_simp
  refine hK.out _ _ trivial (fun hHeld => ?_)
  clear hK K hHeld
  try simp only [tpu, tsa, ts0, ts1]
  repeat (first | (refine uN 54 16 rfl ?_; simp only [tpu, tsa, Nat.reduceSub, Nat.reduceAdd, ts0, ts1]) | (refine pN 54 16 _ rfl ?_; simp only [tpu, tsa, Nat.reduceSub, Nat.reduceAdd, ts0, ts1]))
  refine takeB 13 _ (by kernel_rfl) rfl (fun K hK => ?_)
  simp only [List.getElem_toArray, List.getElem_cons_succ, List.getElem_cons_zero]
  go_simp
  have HC9 := HC1.out
  simp only [adE, loE, hiE] at HC9
  generalize (if IntKind.i64.wrap (1099511627776 - x1) < 15 then IntKind.i64.wrap (1099511627776 - x1) else 15) = h1 at HC9 ⊢
  refine HC9.mono ?_
  clear HC1 HC9
  rintro e w2 ⟨b, rfl, hb⟩
  dsimp only
  cases b
  case false =>
    obtain ⟨x2, y2, hs2⟩ := nS _ _ hb
    have HE := Lib.hid (And.intro hs2 (⟨1, by omega, hb⟩ : ∃ k, k < 7 ∧ N k w2))
    obtain ⟨d0, d1, ⟨z, d2⟩, d3⟩ := hs2
    clear hb
    refine hK.out _ _ trivial (fun hHeld => ?_)
    clear hK K hHeld
    try simp only [tpu, tsa, ts0, ts1]
    repeat (first | (refine uN 54 16 rfl ?_; simp only [tpu, tsa, Nat.reduceSub, Nat.reduceAdd, ts0, ts1]) | (refine pN 54 16 _ rfl ?_; simp only [tpu, tsa, Nat.reduceSub, Nat.reduceAdd, ts0, ts1]))
    refine tP 54 6 _ rfl ?_
    try simp only [tpu, tsa, ts0, ts1]
    refine wpAnyH_done (by kernel_rfl) ?_ _
    go_wp2
    go_region
    go_wp2
    go_ret
    exact ⟨_, rfl, _, _, _, HE.out.1, HE.out.2, rfl⟩
  obtain ⟨x2, y2, hs2⟩ := jS _ _ hb
  have HC2 := Lib.hid (hc 2 _ x2 y2 (by omega) hb hs2)
  obtain ⟨d0, d1, -, -⟩ := hs2
  clear hb
  refine hK.out _ _ trivial (fun hHeld => ?_)
  clear hK K hHeld
  try simp only [tpu, tsa, ts0, ts1]
  repeat (first | (refine uN 54 16 rfl ?_; simp only [tpu, tsa, Nat.reduceSub, Nat.reduceAdd, ts0, ts1]) | (refine pN 54 16 _ rfl ?_; simp only [tpu, tsa, Nat.reduceSub, Nat.reduceAdd, ts0, ts1]))
  refine takeB 20 _ (by kernel_rfl) rfl (fun K hK => ?_)
  simp only [List.getElem_toArray, List.getElem_cons_succ, List.getElem_cons_zero]
  go_simp
  refine hK.out _ _ trivial (fun hHeld => ?_)
  clear hK K hHeld
  try simp only [tpu, tsa, ts0, ts1]
  repeat (first | (refine uN 54 16 rfl ?_; simp only [tpu, tsa, Nat.reduceSub, Nat.reduceAdd, ts0, ts1]) | (refine pN 54 16 _ rfl ?_; simp only [tpu, tsa, Nat.reduceSub, Nat.reduceAdd, ts0, ts1]))
  refine takeB 22 _ (by kernel_rfl) rfl (fun K hK => ?_)
  simp only [List.getElem_toArray, List.getElem_cons_succ, List.getElem_cons_zero]
  go_simp
  refine (HC2.out).mono ?_
  clear HC2
  rintro e w3 ⟨b, rfl, hb⟩
  dsimp only
  cases b
  case false =>
    obtain ⟨x3, y3, hs3⟩ := nS _ _ hb
    have HE := Lib.hid (And.intro hs3 (⟨2, by omega, hb⟩ : ∃ k, k < 7 ∧ N k w3))
    obtain ⟨d0, d1, ⟨z, d2⟩, d3⟩ := hs3
    clear hb
    refine hK.out _ _ trivial (fun hHeld => ?_)
    clear hK K hHeld
    try simp only [tpu, tsa, ts0, ts1]
    repeat (first | (refine uN 54 16 rfl ?_; simp only [tpu, tsa, Nat.reduceSub, Nat.reduceAdd, ts0, ts1]) | (refine pN 54 16 _ rfl ?_; simp only [tpu, tsa, Nat.reduceSub, Nat.reduceAdd, ts0, ts1]))
    refine tP 54 6 _ rfl ?_
    try simp only [tpu, tsa, ts0, ts1]
    refine wpAnyH_done (by kernel_rfl) ?_ _
    go_wp2
    go_region
    go_wp2
    go_ret
    exact ⟨_, rfl, _, _, _, HE.out.1, HE.out.2, rfl⟩
  obtain ⟨x3, y3, hs3⟩ := jS _ _ hb
  have HC3 := Lib.hid (hc 3 _ x3 y3 (by omega) hb hs3)
  obtain ⟨d0, d1, -, -⟩ := hs3
  clear hb
  refine hK.out _ _ trivial (fun hHeld => ?_)
  clear hK K hHeld
  try simp only [tpu, tsa, ts0, ts1]
  repeat (first | (refine uN 54 16 rfl ?_; simp only [tpu, tsa, Nat.reduceSub, Nat.reduceAdd, ts0, ts1]) | (refine pN 54 16 _ rfl ?_; simp only [tpu, tsa, Nat.reduceSub, Nat.reduceAdd, ts0, ts1]))
  refine takeB 29 _ (by kernel_rfl) rfl (fun K hK => ?_)
  simp only [List.getElem_toArray, List.getElem_cons_succ, List.getElem_cons_zero]
  go_simp
  refine (HC3.out).mono ?_
  clear HC3
  rintro e w4 ⟨b, rfl, hb⟩
  dsimp only
  cases b
  case false =>
    obtain ⟨x4, y4, hs4⟩ := nS _ _ hb
    have HE := Lib.hid (And.intro hs4 (⟨3, by omega, hb⟩ : ∃ k, k < 7 ∧ N k w4))
    obtain ⟨d0, d1, ⟨z, d2⟩, d3⟩ := hs4
    clear hb
    refine hK.out _ _ trivial (fun hHeld => ?_)
    clear hK K hHeld
    try simp only [tpu, tsa, ts0, ts1]
    repeat (first | (refine uN 54 16 rfl ?_; simp only [tpu, tsa, Nat.reduceSub, Nat.reduceAdd, ts0, ts1]) | (refine pN 54 16 _ rfl ?_; simp only [tpu, tsa, Nat.reduceSub, Nat.reduceAdd, ts0, ts1]))
    refine tP 54 6 _ rfl ?_
    try simp only [tpu, tsa, ts0, ts1]
    refine wpAnyH_done (by kernel_rfl) ?_ _
    go_wp2
    go_region
    go_wp2
    go_ret
    exact ⟨_, rfl, _, _, _, HE.out.1, HE.out.2, rfl⟩
  obtain ⟨x4, y4, hs4⟩ := jS _ _ hb
  have HC4 := Lib.hid (hc 4 _ x4 y4 (by omega) hb hs4)
  obtain ⟨d0, d1, -, -⟩ := hs4
  clear hb
  refine hK.out _ _ trivial (fun hHeld => ?_)
  clear hK K hHeld
  try simp only [tpu, tsa, ts0, ts1]
  repeat (first | (refine uN 54 16 rfl ?_; simp only [tpu, tsa, Nat.reduceSub, Nat.reduceAdd, ts0, ts1]) | (refine pN 54 16 _ rfl ?_; simp only [tpu, tsa, Nat.reduceSub, Nat.reduceAdd, ts0, ts1]))
  refine takeB 36 _ (by kernel_rfl) rfl (fun K hK => ?_)
  simp only [List.getElem_toArray, List.getElem_cons_succ, List.getElem_cons_zero]
  go_simp
  refine (HC4.out).mono ?_
  clear HC4
  rintro e w5 ⟨b, rfl, hb⟩
  dsimp only
  cases b
  case false =>
    obtain ⟨x5, y5, hs5⟩ := nS _ _ hb
    have HE := Lib.hid (And.intro hs5 (⟨4, by omega, hb⟩ : ∃ k, k < 7 ∧ N k w5))
    obtain ⟨d0, d1, ⟨z, d2⟩, d3⟩ := hs5
    clear hb
    refine hK.out _ _ trivial (fun hHeld => ?_)
    clear hK K hHeld
    try simp only [tpu, tsa, ts0, ts1]
    repeat (first | (refine uN 54 16 rfl ?_; simp only [tpu, tsa, Nat.reduceSub, Nat.reduceAdd, ts0, ts1]) | (refine pN 54 16 _ rfl ?_; simp only [tpu, tsa, Nat.reduceSub, Nat.reduceAdd, ts0, ts1]))
    refine tP 54 6 _ rfl ?_
    try simp only [tpu, tsa, ts0, ts1]
    refine wpAnyH_done (by kernel_rfl) ?_ _
    go_wp2
    go_region
    go_wp2
    go_ret
    exact ⟨_, rfl, _, _, _, HE.out.1, HE.out.2, rfl⟩
  obtain ⟨x5, y5, hs5⟩ := jS _ _ hb
  have HC5 := Lib.hid (hc 5 _ x5 y5 (by omega) hb hs5)
  obtain ⟨d0, d1, -, -⟩ := hs5
  clear hb
  refine hK.out _ _ trivial (fun hHeld => ?_)
  clear hK K hHeld
  try simp only [tpu, tsa, ts0, ts1]
  repeat (first | (refine uN 54 16 rfl ?_; simp only [tpu, tsa, Nat.reduceSub, Nat.reduceAdd, ts0, ts1]) | (refine pN 54 16 _ rfl ?_; simp only [tpu, tsa, Nat.reduceSub, Nat.reduceAdd, ts0, ts1]))
  refine takeB 43 _ (by kernel_rfl) rfl (fun K hK => ?_)
  simp only [List.getElem_toArray, List.getElem_cons_succ, List.getElem_cons_zero]
  go_simp
  refine (HC5.out).mono ?_
  clear HC5
  rintro e w6 ⟨b, rfl, hb⟩
  dsimp only
  cases b
  case false =>
    obtain ⟨x6, y6, hs6⟩ := nS _ _ hb
    have HE := Lib.hid (And.intro hs6 (⟨5, by omega, hb⟩ : ∃ k, k < 7 ∧ N k w6))
    obtain ⟨d0, d1, ⟨z, d2⟩, d3⟩ := hs6
    clear hb
    refine hK.out _ _ trivial (fun hHeld => ?_)
    clear hK K hHeld
    try simp only [tpu, tsa, ts0, ts1]
    repeat (first | (refine uN 54 16 rfl ?_; simp only [tpu, tsa, Nat.reduceSub, Nat.reduceAdd, ts0, ts1]) | (refine pN 54 16 _ rfl ?_; simp only [tpu, tsa, Nat.reduceSub, Nat.reduceAdd, ts0, ts1]))
    refine tP 54 6 _ rfl ?_
    try simp only [tpu, tsa, ts0, ts1]
    refine wpAnyH_done (by kernel_rfl) ?_ _
    go_wp2
    go_region
    go_wp2
    go_ret
    exact ⟨_, rfl, _, _, _, HE.out.1, HE.out.2, rfl⟩
  obtain ⟨x6, y6, hs6⟩ := jS _ _ hb
  have HC6 := Lib.hid (hc 6 _ x6 y6 (by omega) hb hs6)
  obtain ⟨d0, d1, -, -⟩ := hs6
  clear hb
  refine hK.out _ _ trivial (fun hHeld => ?_)
  clear hK K hHeld
  try simp only [tpu, tsa, ts0, ts1]
  repeat (first | (refine uN 54 16 rfl ?_; simp only [tpu, tsa, Nat.reduceSub, Nat.reduceAdd, ts0, ts1]) | (refine pN 54 16 _ rfl ?_; simp only [tpu, tsa, Nat.reduceSub, Nat.reduceAdd, ts0, ts1]))
  refine takeB 50 _ (by kernel_rfl) rfl (fun K hK => ?_)
  simp only [List.getElem_toArray, List.getElem_cons_succ, List.getElem_cons_zero]
  go_simp
  refine hK.out _ _ trivial (fun hHeld => ?_)
  clear hK K hHeld
  try simp only [tpu, tsa, ts0, ts1]
  repeat (first | (refine uN 54 16 rfl ?_; simp only [tpu, tsa, Nat.reduceSub, Nat.reduceAdd, ts0, ts1]) | (refine pN 54 16 _ rfl ?_; simp only [tpu, tsa, Nat.reduceSub, Nat.reduceAdd, ts0, ts1]))
  refine takeB 52 _ (by kernel_rfl) rfl (fun K hK => ?_)
  simp only [List.getElem_toArray, List.getElem_cons_succ, List.getElem_cons_zero]
  go_simp
  refine (HC6.out).mono ?_
  clear HC6
  rintro e w7 ⟨b, rfl, hb⟩
  dsimp only
  cases b
  case false =>
    obtain ⟨x7, y7, hs7⟩ := nS _ _ hb
    have HE := Lib.hid (And.intro hs7 (⟨6, by omega, hb⟩ : ∃ k, k < 7 ∧ N k w7))
    obtain ⟨d0, d1, ⟨z, d2⟩, d3⟩ := hs7
    clear hb
    refine hK.out _ _ trivial (fun hHeld => ?_)
    clear hK K hHeld
    try simp only [tpu, tsa, ts0, ts1]
    repeat (first | (refine uN 54 16 rfl ?_; simp only [tpu, tsa, Nat.reduceSub, Nat.reduceAdd, ts0, ts1]) | (refine pN 54 16 _ rfl ?_; simp only [tpu, tsa, Nat.reduceSub, Nat.reduceAdd, ts0, ts1]))
    refine tP 54 6 _ rfl ?_
    try simp only [tpu, tsa, ts0, ts1]
    refine wpAnyH_done (by kernel_rfl) ?_ _
    go_wp2
    go_region
    go_wp2
    go_ret
    exact ⟨_, rfl, _, _, _, HE.out.1, HE.out.2, rfl⟩
  obtain ⟨x7, y7, hs7⟩ := jS _ _ hb
  have HE := Lib.hid (And.intro hs7 hb)
  obtain ⟨d0, d1, ⟨z, d2⟩, d3⟩ := hs7
  clear hb
  refine hK.out _ _ trivial (fun hHeld => ?_)
  clear hK K hHeld
  try simp only [tpu, tsa, ts0, ts1]
  repeat (first | (refine uN 54 16 rfl ?_; simp only [tpu, tsa, Nat.reduceSub, Nat.reduceAdd, ts0, ts1]) | (refine pN 54 16 _ rfl ?_; simp only [tpu, tsa, Nat.reduceSub, Nat.reduceAdd, ts0, ts1]))
  refine tP 54 6 _ rfl ?_
  try simp only [tpu, tsa, ts0, ts1]
  refine wpAnyH_done (by kernel_rfl) ?_ _
  go_wp2
  go_region
  go_wp2
  go_ret
  exact ⟨_, rfl, _, _, _, HE.out.1, HE.out.2, rfl⟩
end Go.Proofs.YtllebgadhhgckaaDoor.Bat

/- The contract of the landed hasForm's own function: is a number from one to another? -/
namespace Go.Proofs.YtllebgadhhgckaaDoor.Bat
open Go.RowKit Oct Rec Crc
def inL (v lo hi : Int) : Bool := decide (lo ≤ v ∧ v ≤ hi)
theorem within_any (a : Addr) (v lo hi : Int) (w : World) (hv : w.cell? a = some (.int .i64 v)) {b : Bool} (hb : inL v lo hi = b) :
    Calls Tryd.prog 103 #[.pointer (some a), .int .i64 lo, .int .i64 hi] w fun e w' => e = .returned (.bool b) ∧ w = w' := by
  subst hb
  go_enter Tryd.func103, Tryd.ntmps103
  go_wp2
  all_goals go_ret
  all_goals refine ⟨?_, rfl⟩
  · rename_i h; exact ret_bool (by simp [inL]; omega)
  · rename_i h; exact ret_bool (by simp [inL]; omega)
end Go.Proofs.YtllebgadhhgckaaDoor.Bat

/- Records as rows of structs. -/
namespace Go.Proofs.YtllebgadhhgckaaDoor.Bat
open Go.RowKit Oct Rec Crc Lay RowF

def recC (r : Rc) : List Value := [.int .i64 r.off, .string r.key, .string r.val, .bool r.dead, .int .i64 r.stamp]
theorem rdR_of {w : World} {B n : Nat} {A : Option Addr} {l : List Rc} (h : RdF recC 5 w B A n l) : RdR w B A n l :=
  ⟨h.1, fun k x hk => by
    obtain ⟨b, o, hA, hb, hc⟩ := h.2 k x hk
    exact ⟨b, o, hA, hb, at_of_row rfl hc⟩⟩
section
variable {u0 u1 u2 u3 u4 u5 u6 u7 u8 u9 : Value}
end
end Go.Proofs.YtllebgadhhgckaaDoor.Bat
