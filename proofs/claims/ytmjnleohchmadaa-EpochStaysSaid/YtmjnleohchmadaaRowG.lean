/- Two rows of the call's own side by side: append to one leaves the other alone. Nothing of the program. -/
import Derived.Test.YtmjnleohchmadaaRowF
import Derived.Maps.AppendAt
namespace Go.Proofs.Ytmjnleohchmadaa.RowF
open Go.RowKit Go.Proofs.Ytmjnleohchmadaa.Oct

theorem grown_refl (w : World) (r : Option Nat) : w.grownBy w r := ⟨rfl, rfl, rfl, Nat.le_refl _, fun _ _ _ => rfl⟩
/-- two slices lie in different blocks -/
def Apart (v u : Value) : Prop := ∀ g, v.ownBlock = some g → u.ownBlock ≠ some g
theorem Apart.symm {v u : Value} (h : Apart v u) : Apart u v := fun g hu hv => h g hv hu
theorem Apart.ne {v u : Value} (h : Apart v u) : u.ownBlock = none ∨ u.ownBlock ≠ v.ownBlock := by
  cases hu : u.ownBlock with
  | none => exact .inl rfl
  | some g => exact .inr fun e => h g e.symm hu
theorem Apart.nil (u : Value) (c : Nat) : Apart (.slice none 0 c) u := fun g h => by cases h
theorem own_far {w w' : World} {e : TypeId} {B size n : Nat} {u v : Value} {xs : List Value} (h : w.ownsRow B e size u n xs) (ha : Apart v u) (hg : w.grownBy w' v.ownBlock) : w'.ownsRow B e size u n xs := World.ownsRow.kept h hg ha.ne
theorem apart_after {w : World} {e : TypeId} {B size n : Nat} {u v v' : Value} {xs : List Value} (h : w.ownsRow B e size u n xs) (ha : Apart v u) (hv : v'.ownBlock = v.ownBlock ∨ v'.ownBlock = some w.heap.size) : Apart v' u := by
  intro g hg hu
  rcases hv with hv | hv
  · exact ha g (hv ▸ hg) hu
  · have h1 := (World.ownsRow.lt h g hu).2
    rw [hv] at hg
    injection hg with hg
    omega
section
variable {α : Type} {f : α → List Value} {size : Nat} {P : Program} (w : World)
theorem run_appFG (hs : Shape f size) (bytes : Nat) (base : Nat) (t ty e : TypeId) (ht : P.underlying t = some (.slice e)) (hI : Info P e size bytes)
    (v : Value) (n : Nat) (l : List α) (hown : OwnF f size w e base v n l) (B : Nat) (A : Option Addr) (m c : Nat) (news : List α) (hr : RdF f size w B A m news)
    (hb : (n + m) * bytes ≤ 140737488355328) (h63 : n + m ≤ 140737488355328) (hbase : base ≤ w.heap.size) :
    ∃ A' c' w', (Builtin.append_ #[t, t] ty #[v, .slice A m c]).run P w = .ok (.slice A' (n + m) c') w' ∧ OwnF f size w' e base (.slice A' (n + m) c') (n + m) (l ++ news) ∧ w.grownBy w' v.ownBlock ∧ ((Value.slice A' (n + m) c').ownBlock = v.ownBlock ∨ (Value.slice A' (n + m) c').ownBlock = some w.heap.size) := by
  obtain ⟨i, z, hi, hz, hsz, hby, hzs⟩ := hI
  cases A with
  | none =>
    obtain ⟨rfl, rfl⟩ := hr.isNil
    obtain ⟨A', c', rfl⟩ := ownsRow_slice w hown
    exact ⟨A', c', w, run_append_nilF w base t ty e i ht hi size _ n _ hown c, by simpa using hown, grown_refl _ _, .inl (by cases A' <;> rfl)⟩
  | some ad =>
    obtain ⟨v', w', hrun, h2, h3, _, h5⟩ := run_append_own_at (P := P) w base t ty e i z size bytes ht hi hz hsz hby hzs hs.pos v n _ hown ad m c (news.flatMap f) (by rw [hs.flat, hr.len]) (hr.cells hs) (hs.ones _)
      (by unfold maxLen; omega) hb hbase
    obtain ⟨A', c', rfl⟩ := ownsRow_slice w' h2
    exact ⟨A', c', w', hrun, by unfold OwnF; rw [List.flatMap_append]; exact h2, h3, h5⟩
theorem wpList_appFG {ops : Array Oper} {rest : List Oper} {o : Oper} {a : Act} {Q : Exit → Act → World → Prop} (hs : Shape f size) (hgd : o.guard = none) (s x : Operand) (t : TypeId)
    (ho : o.op = .call { callee := .builtin .append, args := #[s, x], argTypes := #[t, t] })
    (bytes base : Nat) (e : TypeId) (ht : P.underlying t = some (.slice e)) (hI : Info P e size bytes)
    (v : Value) (n : Nat) (l : List α) (hsv : a.eval s = v) (hown : OwnF f size w e base v n l)
    (B : Nat) (A : Option Addr) (m c : Nat) (news : List α) (hx : a.eval x = .slice A m c) (hr : RdF f size w B A m news)
    (hb : (n + m) * bytes ≤ 140737488355328) (h63 : n + m ≤ 140737488355328) (hbase : base ≤ w.heap.size)
    (h : ∀ A' c' w', OwnF f size w' e base (.slice A' (n + m) c') (n + m) (l ++ news) → w.grownBy w' v.ownBlock → ((Value.slice A' (n + m) c').ownBlock = v.ownBlock ∨ (Value.slice A' (n + m) c').ownBlock = some w.heap.size) → wpList P ops Q rest (a.put o.dst (.slice A' (n + m) c')) w') : wpList P ops Q (o :: rest) a w := by
  refine wpList_plain hgd fun K hK => ?_
  obtain ⟨A', c', w', hrun, h2, h3, h4⟩ := run_appFG (P := P) w hs bytes base t o.type e ht hI v n l hown B A m c news hr hb h63 hbase
  unfold Oper.wp execOp
  simp only [ho, resolve, invoke, builtin, Sem.run_bind, Sem.run_pure, Result.andThen_ok, List.map_toArray, List.map_cons, List.map_nil, hsv, hx, hrun]
  exact hK _ _ (h A' c' w' h2 h3 h4)
theorem run_appBG (base : Nat) (t ty e : TypeId) (ht : P.underlying t = some (.slice e)) (hI : U8 P e)
    (v : Value) (n : Nat) (l : List UInt8) (hown : OwnB w e base v n l) (B : Nat) (A : Option Addr) (m c : Nat) (news : List UInt8) (hr : Rd w B A m news)
    (hb : n + m ≤ 1099511627776) (hbase : base ≤ w.heap.size) :
    ∃ A' c' w', (Builtin.append_ #[t, t] ty #[v, .slice A m c]).run P w = .ok (.slice A' (n + m) c') w' ∧ OwnB w' e base (.slice A' (n + m) c') (n + m) (l ++ news) ∧ w.grownBy w' v.ownBlock ∧ ((Value.slice A' (n + m) c').ownBlock = v.ownBlock ∨ (Value.slice A' (n + m) c').ownBlock = some w.heap.size) := by
  obtain ⟨i, hi, hz, hs, hby⟩ := hI
  cases A with
  | none =>
    obtain ⟨rfl, rfl⟩ := hr.isNil
    obtain ⟨A', c', rfl⟩ := ownsRow_slice w hown
    exact ⟨A', c', w, run_append_nilB w base t ty e i ht hi _ n _ hown c, by simpa using hown, grown_refl _ _, .inl (by cases A' <;> rfl)⟩
  | some ad =>
    obtain ⟨v', w', hrun, h2, h3, _, h5⟩ := run_append_own_at (P := P) w base t ty e i (.int .u8 0) 1 1 ht hi hz hs hby rfl (by decide) v n _ hown ad m c (news.map bv) (by simp [hr.len]) hr.cells (oneCell_bv _)
      (by unfold maxLen; omega) (by omega) hbase
    obtain ⟨A', c', rfl⟩ := ownsRow_slice w' h2
    exact ⟨A', c', w', hrun, by unfold OwnB; rw [List.map_append]; exact h2, h3, h5⟩
theorem wpList_appBG {ops : Array Oper} {rest : List Oper} {o : Oper} {a : Act} {Q : Exit → Act → World → Prop} (hgd : o.guard = none) (s x : Operand) (t : TypeId)
    (ho : o.op = .call { callee := .builtin .append, args := #[s, x], argTypes := #[t, t] })
    (base : Nat) (e : TypeId) (ht : P.underlying t = some (.slice e)) (hI : U8 P e)
    (v : Value) (n : Nat) (l : List UInt8) (hs : a.eval s = v) (hown : OwnB w e base v n l)
    (B : Nat) (A : Option Addr) (m c : Nat) (news : List UInt8) (hx : a.eval x = .slice A m c) (hr : Rd w B A m news)
    (hb : n + m ≤ 1099511627776) (hbase : base ≤ w.heap.size)
    (h : ∀ A' c' w', OwnB w' e base (.slice A' (n + m) c') (n + m) (l ++ news) → w.grownBy w' v.ownBlock → ((Value.slice A' (n + m) c').ownBlock = v.ownBlock ∨ (Value.slice A' (n + m) c').ownBlock = some w.heap.size) → wpList P ops Q rest (a.put o.dst (.slice A' (n + m) c')) w') : wpList P ops Q (o :: rest) a w := by
  refine wpList_plain hgd fun K hK => ?_
  obtain ⟨A', c', w', hrun, h2, h3, h4⟩ := run_appBG (P := P) w base t o.type e ht hI v n l hown B A m c news hr hb hbase
  unfold Oper.wp execOp
  simp only [ho, resolve, invoke, builtin, Sem.run_bind, Sem.run_pure, Result.andThen_ok, List.map_toArray, List.map_cons, List.map_nil, hs, hx, hrun]
  exact hK _ _ (h A' c' w' h2 h3 h4)
end
end Go.Proofs.Ytmjnleohchmadaa.RowF
