/- Joined: BatEach, BatDevW, BatRecF, BatMem. -/
import Derived.Test.YtllebgadhhgckaaDoorJ10
import Derived.RegionTactic
import Derived.BigRegion
import Derived.Test.YtllebgadhhgckaaDoorJ13
import Derived.Test.YtllebgadhhgckaaDoorJ03
/- The contract of the landed eachNumber, handed any function: it is called number by number till it answers false. -/
namespace Go.Proofs.YtllebgadhhgckaaDoor.Bat
open Go.RowKit Oct Rec Crc
def adE (g s : Nat) : Nat → Addr
  | 1 => ⟨s, 0, none⟩
  | k => ⟨g, k, none⟩
def loE : Nat → Int
  | 4 => -1
  | _ => 0
def hiE (x y : Int) : Nat → Int
  | 1 => if IntKind.i64.wrap (1099511627776 - x) < 15 then IntKind.i64.wrap (1099511627776 - x) else 15
  | 2 => IntKind.i64.wrap (1099511627776 - y)
  | 3 => 1048576
  | 5 => 1048576
  | 6 => IntKind.i64.wrap (1048576 - y)
  | _ => 1099511627776
def SeeE (g s : Nat) (w : World) (x y : Int) : Prop := w.cell? ⟨g, 0, none⟩ = some (.int .i64 x) ∧ w.cell? ⟨s, 0, none⟩ = some (.int .i64 y) ∧ (∃ z, w.cell? ⟨g, 1, none⟩ = some (.int .i64 z)) ∧ w.frozen? ⟨g, 1, none⟩ = false
theorem app0 (a b c : Value) : (#[a, b, c] ++ #[] : Array Value) = #[a, b, c] := rfl
theorem app1 (a b c d : Value) : (#[a, b, c] ++ #[d] : Array Value) = #[a, b, c, d] := rfl
set_option maxRecDepth 100000 in
set_option maxHeartbeats 8000000 in
theorem each_any (F : Nat) (xs : Array Value) (hF : ∀ (ys : Array Value) (w : World), (callFunc F ys).run Tryd.prog w = .ok (.enter F ys) w) (g : Nat) (ba la sp : Int) (w : World) (hg : g < w.heap.size) (c0 : w.cell? ⟨g, 0, none⟩ = some (.int .i64 ba)) (c1 : w.cell? ⟨g, 1, none⟩ = some (.int .i64 la)) (hsp : IntKind.i64.wrap (la - ba) = sp) (J N : Nat → World → Prop)
    (h0 : J 0 (w.alloc (.cells #[.int .i64 sp] 3)).drew.drew) (jS : ∀ k w1, J k w1 → ∃ x y, SeeE g w.heap.size w1 x y) (nS : ∀ k w1, N k w1 → ∃ x y, SeeE g w.heap.size w1 x y)
    (hc : ∀ k w1 x y, k < 7 → J k w1 → SeeE g w.heap.size w1 x y → Calls Tryd.prog F (#[.pointer (some (adE g w.heap.size k)), .int .i64 (loE k), .int .i64 (hiE x y k)] ++ xs) w1 fun e w2 => ∃ b, e = .returned (.bool b) ∧ if b then J (k + 1) w2 else N k w2) :
    Calls Tryd.prog 104 #[.pointer (some ⟨g, 0, none⟩), .func (.func F) #[] xs] w fun e w2 => ∃ b, e = .returned (.bool b) ∧ ∃ w1 x y, SeeE g w.heap.size w1 x y ∧ (if b then J 7 w1 else ∃ k, k < 7 ∧ N k w1) ∧ (w1.setCell ⟨g, 1, none⟩ (.int .i64 (wrap64 (x + y)))).drew = w2 := by
  obtain ⟨x0, y0, hs0⟩ := jS _ _ h0
  have HC0 := Lib.hid (hc 0 _ x0 y0 (by omega) h0 hs0)
  clear h0 hs0
  go_enter Tryd.func104, Tryd.ntmps104
  go_wp2
  go_region
  go_wp2
  refine regN 55 (by kernel_rfl) ?_
  repeat (first | (refine uN 54 16 rfl ?_; simp only [tpu, tsa, Nat.reduceSub, Nat.reduceAdd, ts0, ts1]) | (refine pN 54 16 _ rfl ?_; simp only [tpu, tsa, Nat.reduceSub, Nat.reduceAdd, ts0, ts1]))
  refine takeB 4 _ (by kernel_rfl) rfl (fun K hK => ?_)
  simp only [List.getElem_toArray, List.getElem_cons_succ, List.getElem_cons_zero]
  go_simp
  refine (HC0.out).mono ?_
  clear HC0
  rintro e w1 ⟨b, rfl, hb⟩
  dsimp only
  cases b
  case false =>
    obtain ⟨x1, y1, hs1⟩ := nS _ _ hb
    have HE := Lib.hid (And.intro hs1 (⟨0, by omega, hb⟩ : ∃ k, k < 7 ∧ N k w1))
    obtain ⟨d0, d1, ⟨z, d2⟩, d3⟩ := hs1
    clear hb
    refine hK.out _ _ trivial (fun hHeld => ?_)
    clear hK K hHeld
    try simp only [tpu, tsa, ts0, ts1]
    repeat (first | (refine uN 54 16 rfl ?_; simp only [tpu, tsa, Nat.reduceSub, Nat.reduceAdd, ts0, ts1]) | (refine pN 54 16 _ rfl ?_; simp only [tpu, tsa, Nat.reduceSub, Nat.reduceAdd, ts0, ts1]))
    refine tP 54 6 _ rfl ?_
    try simp only [tpu, tsa, ts0, ts1]
    refine wpAnyH_done (by kernel_rfl) ?_ _
    go_wp2
    go_region
    go_wp2
    go_ret
    exact ⟨_, rfl, _, _, _, HE.out.1, HE.out.2, rfl⟩
  obtain ⟨x1, y1, hs1⟩ := jS _ _ hb
  have HC1 := Lib.hid (hc 1 _ x1 y1 (by omega) hb hs1)
  obtain ⟨d0, d1, -, -⟩ := hs1
  clear hb
  refine hK.out _ _ trivial (fun hHeld => ?_)
  clear hK K hHeld
  try simp only [tpu, tsa, ts0, ts1]
  repeat (first | (refine uN 54 16 rfl ?_; simp only [tpu, tsa, Nat.reduceSub, Nat.reduceAdd, ts0, ts1]) | (refine pN 54 16 _ rfl ?_; simp only [tpu, tsa, Nat.reduceSub, Nat.reduceAdd, ts0, ts1]))
  refine takeB 10 _ (by kernel_rfl) rfl (fun K hK => ?_)
  simp only [List.getElem_toArray, List.getElem_cons_succ, List.getElem_cons_zero]
  go_simp
  refine hK.out _ _ trivial (fun hHeld => ?_)
  clear hK K hHeld
  try simp only [tpu, tsa, ts0, ts1]
  repeat (first | (refine uN 54 16 rfl ?_; simp only [tpu, tsa, Nat.reduceSub, Nat.reduceAdd, ts0, ts1]) | (refine pN 54 16 _ rfl ?_; simp only [tpu, tsa, Nat.reduceSub, Nat.reduceAdd, ts0, ts1]))
  refine takeB 13 _ (by kernel_rfl) rfl (fun K hK => ?_)
  simp only [List.getElem_toArray, List.getElem_cons_succ, List.getElem_cons_zero]
  go_simp
  have HC9 := HC1.out
  simp only [adE, loE, hiE] at HC9
  generalize (if IntKind.i64.wrap (1099511627776 - x1) < 15 then IntKind.i64.wrap (1099511627776 - x1) else 15) = h1 at HC9 ⊢
  refine HC9.mono ?_
  clear HC1 HC9
  rintro e w2 ⟨b, rfl, hb⟩
  dsimp only
  cases b
  case false =>
    obtain ⟨x2, y2, hs2⟩ := nS _ _ hb
    have HE := Lib.hid (And.intro hs2 (⟨1, by omega, hb⟩ : ∃ k, k < 7 ∧ N k w2))
    obtain ⟨d0, d1, ⟨z, d2⟩, d3⟩ := hs2
    clear hb
    refine hK.out _ _ trivial (fun hHeld => ?_)
    clear hK K hHeld
    try simp only [tpu, tsa, ts0, ts1]
    repeat (first | (refine uN 54 16 rfl ?_; simp only [tpu, tsa, Nat.reduceSub, Nat.reduceAdd, ts0, ts1]) | (refine pN 54 16 _ rfl ?_; simp only [tpu, tsa, Nat.reduceSub, Nat.reduceAdd, ts0, ts1]))
    refine tP 54 6 _ rfl ?_
    try simp only [tpu, tsa, ts0, ts1]
    refine wpAnyH_done (by kernel_rfl) ?_ _
    go_wp2
    go_region
    go_wp2
    go_ret
    exact ⟨_, rfl, _, _, _, HE.out.1, HE.out.2, rfl⟩
  obtain ⟨x2, y2, hs2⟩ := jS _ _ hb
  have HC2 := Lib.hid (hc 2 _ x2 y2 (by omega) hb hs2)
  obtain ⟨d0, d1, -, -⟩ := hs2
  clear hb
  refine hK.out _ _ trivial (fun hHeld => ?_)
  clear hK K hHeld
  try simp only [tpu, tsa, ts0, ts1]
  repeat (first | (refine uN 54 16 rfl ?_; simp only [tpu, tsa, Nat.reduceSub, Nat.reduceAdd, ts0, ts1]) | (refine pN 54 16 _ rfl ?_; simp only [tpu, tsa, Nat.reduceSub, Nat.reduceAdd, ts0, ts1]))
  refine takeB 20 _ (by kernel_rfl) rfl (fun K hK => ?_)
  simp only [List.getElem_toArray, List.getElem_cons_succ, List.getElem_cons_zero]
  go_simp
  refine hK.out _ _ trivial (fun hHeld => ?_)
  clear hK K hHeld
  try simp only [tpu, tsa, ts0, ts1]
  repeat (first | (refine uN 54 16 rfl ?_; simp only [tpu, tsa, Nat.reduceSub, Nat.reduceAdd, ts0, ts1]) | (refine pN 54 16 _ rfl ?_; simp only [tpu, tsa, Nat.reduceSub, Nat.reduceAdd, ts0, ts1]))
  refine takeB 22 _ (by kernel_rfl) rfl (fun K hK => ?_)
  simp only [List.getElem_toArray, List.getElem_cons_succ, List.getElem_cons_zero]
  go_simp
  refine (HC2.out).mono ?_
  clear HC2
  rintro e w3 ⟨b, rfl, hb⟩
  dsimp only
  cases b
  case false =>
    obtain ⟨x3, y3, hs3⟩ := nS _ _ hb
    have HE := Lib.hid (And.intro hs3 (⟨2, by omega, hb⟩ : ∃ k, k < 7 ∧ N k w3))
    obtain ⟨d0, d1, ⟨z, d2⟩, d3⟩ := hs3
    clear hb
    refine hK.out _ _ trivial (fun hHeld => ?_)
    clear hK K hHeld
    try simp only [tpu, tsa, ts0, ts1]
    repeat (first | (refine uN 54 16 rfl ?_; simp only [tpu, tsa, Nat.reduceSub, Nat.reduceAdd, ts0, ts1]) | (refine pN 54 16 _ rfl ?_; simp only [tpu, tsa, Nat.reduceSub, Nat.reduceAdd, ts0, ts1]))
    refine tP 54 6 _ rfl ?_
    try simp only [tpu, tsa, ts0, ts1]
    refine wpAnyH_done (by kernel_rfl) ?_ _
    go_wp2
    go_region
    go_wp2
    go_ret
    exact ⟨_, rfl, _, _, _, HE.out.1, HE.out.2, rfl⟩
  obtain ⟨x3, y3, hs3⟩ := jS _ _ hb
  have HC3 := Lib.hid (hc 3 _ x3 y3 (by omega) hb hs3)
  obtain ⟨d0, d1, -, -⟩ := hs3
  clear hb
  refine hK.out _ _ trivial (fun hHeld => ?_)
  clear hK K hHeld
  try simp only [tpu, tsa, ts0, ts1]
  repeat (first | (refine uN 54 16 rfl ?_; simp only [tpu, tsa, Nat.reduceSub, Nat.reduceAdd, ts0, ts1]) | (refine pN 54 16 _ rfl ?_; simp only [tpu, tsa, Nat.reduceSub, Nat.reduceAdd, ts0, ts1]))
  refine takeB 29 _ (by kernel_rfl) rfl (fun K hK => ?_)
  simp only [List.getElem_toArray, List.getElem_cons_succ, List.getElem_cons_zero]
  go_simp
  refine (HC3.out).mono ?_
  clear HC3
  rintro e w4 ⟨b, rfl, hb⟩
  dsimp only
  cases b
  case false =>
    obtain ⟨x4, y4, hs4⟩ := nS _ _ hb
    have HE := Lib.hid (And.intro hs4 (⟨3, by omega, hb⟩ : ∃ k, k < 7 ∧ N k w4))
    obtain ⟨d0, d1, ⟨z, d2⟩, d3⟩ := hs4
    clear hb
    refine hK.out _ _ trivial (fun hHeld => ?_)
    clear hK K hHeld
    try simp only [tpu, tsa, ts0, ts1]
    repeat (first | (refine uN 54 16 rfl ?_; simp only [tpu, tsa, Nat.reduceSub, Nat.reduceAdd, ts0, ts1]) | (refine pN 54 16 _ rfl ?_; simp only [tpu, tsa, Nat.reduceSub, Nat.reduceAdd, ts0, ts1]))
    refine tP 54 6 _ rfl ?_
    try simp only [tpu, tsa, ts0, ts1]
    refine wpAnyH_done (by kernel_rfl) ?_ _
    go_wp2
    go_region
    go_wp2
    go_ret
    exact ⟨_, rfl, _, _, _, HE.out.1, HE.out.2, rfl⟩
  obtain ⟨x4, y4, hs4⟩ := jS _ _ hb
  have HC4 := Lib.hid (hc 4 _ x4 y4 (by omega) hb hs4)
  obtain ⟨d0, d1, -, -⟩ := hs4
  clear hb
  refine hK.out _ _ trivial (fun hHeld => ?_)
  clear hK K hHeld
  try simp only [tpu, tsa, ts0, ts1]
  repeat (first | (refine uN 54 16 rfl ?_; simp only [tpu, tsa, Nat.reduceSub, Nat.reduceAdd, ts0, ts1]) | (refine pN 54 16 _ rfl ?_; simp only [tpu, tsa, Nat.reduceSub, Nat.reduceAdd, ts0, ts1]))
  refine takeB 36 _ (by kernel_rfl) rfl (fun K hK => ?_)
  simp only [List.getElem_toArray, List.getElem_cons_succ, List.getElem_cons_zero]
  go_simp
  refine (HC4.out).mono ?_
  clear HC4
  rintro e w5 ⟨b, rfl, hb⟩
  dsimp only
  cases b
  case false =>
    obtain ⟨x5, y5, hs5⟩ := nS _ _ hb
    have HE := Lib.hid (And.intro hs5 (⟨4, by omega, hb⟩ : ∃ k, k < 7 ∧ N k w5))
    obtain ⟨d0, d1, ⟨z, d2⟩, d3⟩ := hs5
    clear hb
    refine hK.out _ _ trivial (fun hHeld => ?_)
    clear hK K hHeld
    try simp only [tpu, tsa, ts0, ts1]
    repeat (first | (refine uN 54 16 rfl ?_; simp only [tpu, tsa, Nat.reduceSub, Nat.reduceAdd, ts0, ts1]) | (refine pN 54 16 _ rfl ?_; simp only [tpu, tsa, Nat.reduceSub, Nat.reduceAdd, ts0, ts1]))
    refine tP 54 6 _ rfl ?_
    try simp only [tpu, tsa, ts0, ts1]
    refine wpAnyH_done (by kernel_rfl) ?_ _
    go_wp2
    go_region
    go_wp2
    go_ret
    exact ⟨_, rfl, _, _, _, HE.out.1, HE.out.2, rfl⟩
  obtain ⟨x5, y5, hs5⟩ := jS _ _ hb
  have HC5 := Lib.hid (hc 5 _ x5 y5 (by omega) hb hs5)
  obtain ⟨d0, d1, -, -⟩ := hs5
  clear hb
  refine hK.out _ _ trivial (fun hHeld => ?_)
  clear hK K hHeld
  try simp only [tpu, tsa, ts0, ts1]
  repeat (first | (refine uN 54 16 rfl ?_; simp only [tpu, tsa, Nat.reduceSub, Nat.reduceAdd, ts0, ts1]) | (refine pN 54 16 _ rfl ?_; simp only [tpu, tsa, Nat.reduceSub, Nat.reduceAdd, ts0, ts1]))
  refine takeB 43 _ (by kernel_rfl) rfl (fun K hK => ?_)
  simp only [List.getElem_toArray, List.getElem_cons_succ, List.getElem_cons_zero]
  go_simp
  refine (HC5.out).mono ?_
  clear HC5
  rintro e w6 ⟨b, rfl, hb⟩
  dsimp only
  cases b
  case false =>
    obtain ⟨x6, y6, hs6⟩ := nS _ _ hb
    have HE := Lib.hid (And.intro hs6 (⟨5, by omega, hb⟩ : ∃ k, k < 7 ∧ N k w6))
    obtain ⟨d0, d1, ⟨z, d2⟩, d3⟩ := hs6
    clear hb
    refine hK.out _ _ trivial (fun hHeld => ?_)
    clear hK K hHeld
    try simp only [tpu, tsa, ts0, ts1]
    repeat (first | (refine uN 54 16 rfl ?_; simp only [tpu, tsa, Nat.reduceSub, Nat.reduceAdd, ts0, ts1]) | (refine pN 54 16 _ rfl ?_; simp only [tpu, tsa, Nat.reduceSub, Nat.reduceAdd, ts0, ts1]))
    refine tP 54 6 _ rfl ?_
    try simp only [tpu, tsa, ts0, ts1]
    refine wpAnyH_done (by kernel_rfl) ?_ _
    go_wp2
    go_region
    go_wp2
    go_ret
    exact ⟨_, rfl, _, _, _, HE.out.1, HE.out.2, rfl⟩
  obtain ⟨x6, y6, hs6⟩ := jS _ _ hb
  have HC6 := Lib.hid (hc 6 _ x6 y6 (by omega) hb hs6)
  obtain ⟨d0, d1, -, -⟩ := hs6
  clear hb
  refine hK.out _ _ trivial (fun hHeld => ?_)
  clear hK K hHeld
  try simp only [tpu, tsa, ts0, ts1]
  repeat (first | (refine uN 54 16 rfl ?_; simp only [tpu, tsa, Nat.reduceSub, Nat.reduceAdd, ts0, ts1]) | (refine pN 54 16 _ rfl ?_; simp only [tpu, tsa, Nat.reduceSub, Nat.reduceAdd, ts0, ts1]))
  refine takeB 50 _ (by kernel_rfl) rfl (fun K hK => ?_)
  simp only [List.getElem_toArray, List.getElem_cons_succ, List.getElem_cons_zero]
  go_simp
  refine hK.out _ _ trivial (fun hHeld => ?_)
  clear hK K hHeld
  try simp only [tpu, tsa, ts0, ts1]
  repeat (first | (refine uN 54 16 rfl ?_; simp only [tpu, tsa, Nat.reduceSub, Nat.reduceAdd, ts0, ts1]) | (refine pN 54 16 _ rfl ?_; simp only [tpu, tsa, Nat.reduceSub, Nat.reduceAdd, ts0, ts1]))
  refine takeB 52 _ (by kernel_rfl) rfl (fun K hK => ?_)
  simp only [List.getElem_toArray, List.getElem_cons_succ, List.getElem_cons_zero]
  go_simp
  refine (HC6.out).mono ?_
  clear HC6
  rintro e w7 ⟨b, rfl, hb⟩
  dsimp only
  cases b
  case false =>
    obtain ⟨x7, y7, hs7⟩ := nS _ _ hb
    have HE := Lib.hid (And.intro hs7 (⟨6, by omega, hb⟩ : ∃ k, k < 7 ∧ N k w7))
    obtain ⟨d0, d1, ⟨z, d2⟩, d3⟩ := hs7
    clear hb
    refine hK.out _ _ trivial (fun hHeld => ?_)
    clear hK K hHeld
    try simp only [tpu, tsa, ts0, ts1]
    repeat (first | (refine uN 54 16 rfl ?_; simp only [tpu, tsa, Nat.reduceSub, Nat.reduceAdd, ts0, ts1]) | (refine pN 54 16 _ rfl ?_; simp only [tpu, tsa, Nat.reduceSub, Nat.reduceAdd, ts0, ts1]))
    refine tP 54 6 _ rfl ?_
    try simp only [tpu, tsa, ts0, ts1]
    refine wpAnyH_done (by kernel_rfl) ?_ _
    go_wp2
    go_region
    go_wp2
    go_ret
    exact ⟨_, rfl, _, _, _, HE.out.1, HE.out.2, rfl⟩
  obtain ⟨x7, y7, hs7⟩ := jS _ _ hb
  have HE := Lib.hid (And.intro hs7 hb)
  obtain ⟨d0, d1, ⟨z, d2⟩, d3⟩ := hs7
  clear hb
  refine hK.out _ _ trivial (fun hHeld => ?_)
  clear hK K hHeld
  try simp only [tpu, tsa, ts0, ts1]
  repeat (first | (refine uN 54 16 rfl ?_; simp only [tpu, tsa, Nat.reduceSub, Nat.reduceAdd, ts0, ts1]) | (refine pN 54 16 _ rfl ?_; simp only [tpu, tsa, Nat.reduceSub, Nat.reduceAdd, ts0, ts1]))
  refine tP 54 6 _ rfl ?_
  try simp only [tpu, tsa, ts0, ts1]
  refine wpAnyH_done (by kernel_rfl) ?_ _
  go_wp2
  go_region
  go_wp2
  go_ret
  exact ⟨_, rfl, _, _, _, HE.out.1, HE.out.2, rfl⟩
end Go.Proofs.YtllebgadhhgckaaDoor.Bat

/- The contract of the landed hasForm's own function: is a number from one to another? -/
namespace Go.Proofs.YtllebgadhhgckaaDoor.Bat
open Go.RowKit Oct Rec Crc
def inL (v lo hi : Int) : Bool := decide (lo ≤ v ∧ v ≤ hi)
theorem within_any (a : Addr) (v lo hi : Int) (w : World) (hv : w.cell? a = some (.int .i64 v)) {b : Bool} (hb : inL v lo hi = b) :
    Calls Tryd.prog 103 #[.pointer (some a), .int .i64 lo, .int .i64 hi] w fun e w' => e = .returned (.bool b) ∧ w = w' := by
  subst hb
  go_enter Tryd.func103, Tryd.ntmps103
  go_wp2
  all_goals go_ret
  all_goals refine ⟨?_, rfl⟩
  · rename_i h; exact ret_bool (by simp [inL]; omega)
  · rename_i h; exact ret_bool (by simp [inL]; omega)
end Go.Proofs.YtllebgadhhgckaaDoor.Bat

/- Records as rows of structs. -/
namespace Go.Proofs.YtllebgadhhgckaaDoor.Bat
open Go.RowKit Oct Rec Crc Lay RowF

def recC (r : Rc) : List Value := [.int .i64 r.off, .string r.key, .string r.val, .bool r.dead, .int .i64 r.stamp]
theorem rdR_of {w : World} {B n : Nat} {A : Option Addr} {l : List Rc} (h : RdF recC 5 w B A n l) : RdR w B A n l :=
  ⟨h.1, fun k x hk => by
    obtain ⟨b, o, hA, hb, hc⟩ := h.2 k x hk
    exact ⟨b, o, hA, hb, at_of_row rfl hc⟩⟩
section
variable {u0 u1 u2 u3 u4 u5 u6 u7 u8 u9 : Value}
end
end Go.Proofs.YtllebgadhhgckaaDoor.Bat

/- Boxes of batches in memory, stores into them; what so many numbers and records are, step by step. -/
namespace Go.Proofs.YtllebgadhhgckaaDoor.Bat
open Go.RowKit Oct Rec Crc Lay RowF

theorem frozen_set (w : World) (a p : Addr) (u : Value) : (w.setCell a u).frozen? p = w.frozen? p := by simp [go_sem]
theorem cell_set_off {w : World} {g o o' : Nat} {u : Value} (h : o ≠ o') : (w.setCell ⟨g, o, none⟩ u).cell? ⟨g, o', none⟩ = w.cell? ⟨g, o', none⟩ := by
  have := h
  simp [go_sem, *]
structure ZB (w : World) (g : Nat) : Prop where
  c0 : w.cell? ⟨g, 0, none⟩ = some (.int .i64 0)
  c1 : w.cell? ⟨g, 1, none⟩ = some (.int .i64 0)
  c2 : w.cell? ⟨g, 2, none⟩ = some (.int .i64 0)
  c3 : w.cell? ⟨g, 3, none⟩ = some (.int .i64 0)
  c4 : w.cell? ⟨g, 4, none⟩ = some (.int .i64 0)
  c5 : w.cell? ⟨g, 5, none⟩ = some (.int .i64 0)
  c6 : w.cell? ⟨g, 6, none⟩ = some (.int .i64 0)
  c7 : w.cell? ⟨g, 7, none⟩ = some (.bool false)
  c8 : w.cell? ⟨g, 8, none⟩ = some (.int .i64 0)
  c9 : w.cell? ⟨g, 9, none⟩ = some (.slice none 0 0)
  f0 : w.frozen? ⟨g, 0, none⟩ = false
  f1 : w.frozen? ⟨g, 1, none⟩ = false
  f2 : w.frozen? ⟨g, 2, none⟩ = false
  f3 : w.frozen? ⟨g, 3, none⟩ = false
  f4 : w.frozen? ⟨g, 4, none⟩ = false
  f5 : w.frozen? ⟨g, 5, none⟩ = false
  f6 : w.frozen? ⟨g, 6, none⟩ = false
  f7 : w.frozen? ⟨g, 7, none⟩ = false
  f8 : w.frozen? ⟨g, 8, none⟩ = false
  f9 : w.frozen? ⟨g, 9, none⟩ = false
  lt : g < w.heap.size
theorem ZB.below {w w' : World} {g B : Nat} (h : ZB w g) (hb : Below B w w') (hg : g < B) : ZB w' g :=
  ⟨(hb.cell (p := ⟨g, 0, none⟩) hg).trans h.c0, (hb.cell (p := ⟨g, 1, none⟩) hg).trans h.c1, (hb.cell (p := ⟨g, 2, none⟩) hg).trans h.c2, (hb.cell (p := ⟨g, 3, none⟩) hg).trans h.c3, (hb.cell (p := ⟨g, 4, none⟩) hg).trans h.c4, (hb.cell (p := ⟨g, 5, none⟩) hg).trans h.c5, (hb.cell (p := ⟨g, 6, none⟩) hg).trans h.c6, (hb.cell (p := ⟨g, 7, none⟩) hg).trans h.c7, (hb.cell (p := ⟨g, 8, none⟩) hg).trans h.c8, (hb.cell (p := ⟨g, 9, none⟩) hg).trans h.c9, (hb.frozen (p := ⟨g, 0, none⟩) hg).trans h.f0, (hb.frozen (p := ⟨g, 1, none⟩) hg).trans h.f1, (hb.frozen (p := ⟨g, 2, none⟩) hg).trans h.f2, (hb.frozen (p := ⟨g, 3, none⟩) hg).trans h.f3, (hb.frozen (p := ⟨g, 4, none⟩) hg).trans h.f4, (hb.frozen (p := ⟨g, 5, none⟩) hg).trans h.f5, (hb.frozen (p := ⟨g, 6, none⟩) hg).trans h.f6, (hb.frozen (p := ⟨g, 7, none⟩) hg).trans h.f7, (hb.frozen (p := ⟨g, 8, none⟩) hg).trans h.f8, (hb.frozen (p := ⟨g, 9, none⟩) hg).trans h.f9, Nat.lt_of_lt_of_le h.lt hb.size⟩
theorem ZB.new (w : World) : ZB (w.alloc (.cells #[.int .i64 0, .int .i64 0, .int .i64 0, .int .i64 0, .int .i64 0, .int .i64 0, .int .i64 0, .bool false, .int .i64 0, .slice none 0 0] 25)) w.heap.size := by
  refine ⟨?_, ?_, ?_, ?_, ?_, ?_, ?_, ?_, ?_, ?_, ?_, ?_, ?_, ?_, ?_, ?_, ?_, ?_, ?_, ?_, ?_⟩
  case refine_21 => simp
  all_goals simp [go_sem]
theorem BoxB.set {w : World} {X g j : Nat} {b : Bt} {v u : Value} (h : BoxB w X b v) (hg : g ≠ X) : BoxB (w.setCell ⟨g, j, none⟩ u) X b v := by
  obtain ⟨h0, h1, h2, h3, h4, h5, h6, h7, h8, h9⟩ := h
  have e : ∀ k, (w.setCell ⟨g, j, none⟩ u).cell? ⟨X, k, none⟩ = w.cell? ⟨X, k, none⟩ := fun k => by unfold World.cell?; rw [Below.heap_setCell _ _ _ _ (by simp; omega)]
  exact ⟨(e _).trans h0, (e _).trans h1, (e _).trans h2, (e _).trans h3, (e _).trans h4, (e _).trans h5, (e _).trans h6, (e _).trans h7, (e _).trans h8, (e _).trans h9⟩
theorem ZB.set {w : World} {g X j : Nat} {u : Value} (h : ZB w X) (hg : g ≠ X) : ZB (w.setCell ⟨g, j, none⟩ u) X := by
  have e : ∀ k, (w.setCell ⟨g, j, none⟩ u).cell? ⟨X, k, none⟩ = w.cell? ⟨X, k, none⟩ := fun k => by unfold World.cell?; rw [Below.heap_setCell _ _ _ _ (by simp; omega)]
  exact ⟨(e _).trans h.c0, (e _).trans h.c1, (e _).trans h.c2, (e _).trans h.c3, (e _).trans h.c4, (e _).trans h.c5, (e _).trans h.c6, (e _).trans h.c7, (e _).trans h.c8, (e _).trans h.c9, (frozen_set _ _ _ _).trans h.f0, (frozen_set _ _ _ _).trans h.f1, (frozen_set _ _ _ _).trans h.f2, (frozen_set _ _ _ _).trans h.f3, (frozen_set _ _ _ _).trans h.f4, (frozen_set _ _ _ _).trans h.f5, (frozen_set _ _ _ _).trans h.f6, (frozen_set _ _ _ _).trans h.f7, (frozen_set _ _ _ _).trans h.f8, (frozen_set _ _ _ _).trans h.f9, by simpa [World.setCell] using h.lt⟩
theorem BoxB.recs {w : World} {g : Nat} {a b : Bt} {v : Value} (h : BoxB w g a v) (hb : b = { a with recs := b.recs }) : BoxB w g b v := by
  rw [hb]; exact h
theorem cell_off {w : World} {a p : Addr} {u : Value} (h : p.block ≠ a.block) : (w.setCell a u).cell? p = w.cell? p := by
  unfold World.cell?; rw [Below.heap_setCell _ _ _ _ (by omega)]
theorem BoxB.put1 {w : World} {g : Nat} {b : Bt} {v : Value} (h : BoxB w g b v) : BoxB (w.setCell ⟨g, 1, none⟩ (.int .i64 b.last)) g b v := by
  obtain ⟨h0, h1, h2, h3, h4, h5, h6, h7, h8, h9⟩ := h
  exact ⟨(cell_set_off (by omega)).trans h0, World.cell?_setCell_same _ _ _ h1, (cell_set_off (by omega)).trans h2, (cell_set_off (by omega)).trans h3, (cell_set_off (by omega)).trans h4, (cell_set_off (by omega)).trans h5, (cell_set_off (by omega)).trans h6, (cell_set_off (by omega)).trans h7, (cell_set_off (by omega)).trans h8, (cell_set_off (by omega)).trans h9⟩
theorem BoxB.drew {w : World} {g : Nat} {b : Bt} {v : Value} (h : BoxB w g b v) : BoxB w.drew g b v := h

theorem OwnR.lt {w : World} {B : Nat} {A : Option Addr} {n : Nat} {l : List Rc} (h : OwnR w B A n l) {g o : Nat} (hA : A = some ⟨g, o, none⟩) (hn : 0 < n) : g < w.heap.size := by
  obtain ⟨b, o', _, hA', hlt, _⟩ := h.1.at hn
  rw [hA] at hA'
  simp only [Option.some.injEq, Addr.mk.injEq, and_true] at hA'
  rw [hA'.1]; exact hlt
theorem OwnR.below {w w' : World} {B : Nat} {A : Option Addr} {n : Nat} {l : List Rc} (h : OwnR w B A n l) (hb : Below w.heap.size w w') : OwnR w' B A n l :=
  ⟨(h.1.below hb (Nat.le_refl _)).more hb.size, fun g o hA hn => ⟨(h.2 g o hA hn).1, fun i hi => (hb.frozen (p := ⟨g, o + i, none⟩) (h.lt hA hn)).trans ((h.2 g o hA hn).2 i hi)⟩⟩
theorem OwnR.set {w : World} {B X j : Nat} {A : Option Addr} {n : Nat} {l : List Rc} {u : Value} (h : OwnR w B A n l) (hX : X < B) : OwnR (w.setCell ⟨X, j, none⟩ u) B A n l := by
  refine ⟨⟨h.1.1, fun k r hr => ?_⟩, fun g o hA hn => ⟨(h.2 g o hA hn).1, fun i hi => (frozen_set _ _ _ _).trans ((h.2 g o hA hn).2 i hi)⟩⟩
  obtain ⟨b, o, hA, hlt, hat⟩ := h.1.2 k r hr
  have hn : 0 < n := by have := (List.getElem?_eq_some_iff.1 hr).1; have := h.1.1; omega
  have hg := (h.2 b o hA hn).1
  refine ⟨b, o, hA, by rw [World.size_setCell]; exact hlt, hat.keep fun p hp => ?_⟩
  unfold World.cell?
  rw [Below.heap_setCell _ _ _ _ (by show p.block ≠ X; omega)]
theorem OwnR.rd {w : World} {B : Nat} {A : Option Addr} {n : Nat} {l : List Rc} (h : OwnR w B A n l) : RdR w w.heap.size A n l := h.1
section
variable {u0 u1 u2 u3 u4 u5 u6 u7 u8 u9 : Value}
end
end Go.Proofs.YtllebgadhhgckaaDoor.Bat
