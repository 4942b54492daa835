/- Joined: InX. -/
import Derived.Test.YtmjnleohchmadaaJIn
import Derived.Test.YtmjnleohchmadaaJBatE
/- A region that draws its order, in few letters: each operation by its number; what can be reckoned is left to default arguments. Nothing of the program. -/
namespace Go.Proofs.Ytmjnleohchmadaa.InR
open Go.RowKit

section
variable {P : Program} {md : Region.Mode} {ops L : Array Oper} {Q : Act → World → Prop} {S : World → Prop} {k d fuel m n i : Nat} {w : World} {oi : Oper} {tbl : List (Nat × Nat)} {v : Value}
theorem yq (i : Nat) {l : List Value} {ds} (hL : Hid (ops = L)) (hS : S w) (h : chn P md ops Q S k fuel (m ||| 2 ^ i) (Act.mk (l.set d v).toArray ds) w) (hi : L[i]? = some oi := by rfl) (hok : okQ md L k m i = true := by kernel_rfl) (hw : Region.wanted oi (yielded L l.toArray) = true := by kernel_rfl) (hd : oi.dst = some d := by rfl)
    (hy : ∀ w, S w → (execOp (Act.mk l.toArray ds).eval oi).run P w = .ok (.value v) w := by (intro w9 hS9; go_simp; (first | done | with_reducible rfl))) : chn P md ops Q S k (fuel + 1) m (Act.mk l.toArray ds) w := stepQL hL i _ v rfl hi hok hw hd hy hS h
theorem xc (i : Nat) {a : Act} (hL : Hid (ops = L)) (h : Oper.wp P oi a w (fun a' w' => S w' ∧ chn P md ops Q S k fuel (m ||| 2 ^ i) a' w') (Nrm (lift Q))) (hi : L[i]? = some oi := by rfl) (hok : okC md L m i = true := by kernel_rfl) (hw : Region.wanted oi (yielded L a.tmps) = true := by kernel_rfl) : chn P md ops Q S k (fuel + 1) m a w :=
  stepC hL i _ rfl hi hok hw (Oper.wp_mono (fun _ _ h => ⟨fun _ => h.1, h.2⟩) h)
theorem xl (i : Nat) {a : Act} (hL : Hid (ops = L)) (h : Oper.wp P oi a w (fun a' w' => chn P md ops Q S i fuel (m ||| 2 ^ i) a' w') (Nrm (lift Q))) (hi : L[i]? = some oi := by rfl) (hok : okC md L m i = true := by kernel_rfl) (hw : Region.wanted oi (yielded L a.tmps) = true := by kernel_rfl) : chn P md ops Q S i (fuel + 1) m a w :=
  stepC hL i _ rfl hi hok hw (Oper.wp_mono (fun _ _ h => ⟨fun h9 => absurd rfl h9, h⟩) h)
theorem ls0 {x y : Value} {l : List Value} : (x :: l).set 0 y = y :: l := rfl
theorem ls1 {x y : Value} {l : List Value} {i : Nat} : (x :: l).set (i + 1) y = x :: l.set i y := rfl
end
theorem region_lr {P : Program} {ops : Array Oper} {l m : Nat} {a : Act} {w : World} {id : Nat} {Q : Exit → Act → World → Prop} (S : World → Prop) (k n : Nat) (hm : P.follows .mixedOrders = true) (hd : noDefer ops = true) (hn : ops.size = n)
    (h : ∀ (ops' : Array Oper) (Q' : Act → World → Prop), Hid (ops' = ops) → Hid (∀ a w, Q .normal a w → Q' a w) → chn P .any ops' Q' S k n 0 a w.drew) : (Code.region id ops true).wpIn (Fence.wide.inRound l) m P Q a w := by
  have h1 := h ops (fun a w => Q .normal a w) (Lib.hid rfl) (Lib.hid fun _ _ h => h)
  unfold chn at h1
  rw [bitsA_zero, ← hn] at h1
  refine wpIn_mono (region_round (Q := lift fun a w => Q .normal a w) S k hm hd h1) fun e a w h => ?_
  cases e <;> first | exact h | exact (h : False).elim
end Go.Proofs.Ytmjnleohchmadaa.InR
