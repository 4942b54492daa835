/- Joined: RowF, RowG, OctU8, RecRefA, CrcSpec, OctRCopy. -/
import Derived.Test.YtlfbagkonckffaaGreatJ01
import Derived.Maps.AppendAt
import Derived.Test.YtlfbagkonckffaaGreatRows
import Derived.Test.YtlfbagkonckffaaGreatJ02
/- Rows of structs: what a slice of structs of so many cells holds, and one of the call's own; the laws of append in these words. Nothing of the program: P, the types' numbers, the struct's cells and the worlds are letters. -/
namespace Go.Proofs.YtlfbagkonckffaaGreat.RowF
open Go.RowKit Oct

structure Shape {α : Type} (f : α → List Value) (size : Nat) : Prop where
  len : ∀ x, (f x).length = size
  one : ∀ x, ∀ u ∈ f x, u.oneCell' = true
  pos : 0 < size
section
variable {α : Type} {f : α → List Value} {size : Nat}
theorem Shape.at (h : Shape f size) {l : List α} {k i : Nat} {x : α} (hk : l[k]? = some x) (hi : i < size) : (l.flatMap f)[k * size + i]? = (f x)[i]? := by
  induction l generalizing k with
  | nil => simp at hk
  | cons y l ih =>
    rw [List.flatMap_cons]
    cases k with
    | zero =>
      obtain rfl : y = x := by simpa using hk
      rw [Nat.zero_mul, Nat.zero_add, List.getElem?_append_left (by rw [h.len]; exact hi)]
    | succ k =>
      rw [List.getElem?_cons_succ] at hk
      rw [List.getElem?_append_right (by rw [h.len, Nat.succ_mul]; omega), h.len, show (k + 1) * size + i - size = k * size + i by rw [Nat.succ_mul]; omega]
      exact ih hk
theorem Shape.flat (h : Shape f size) (l : List α) : (l.flatMap f).length = l.length * size := by
  induction l with
  | nil => simp
  | cons y l ih => rw [List.flatMap_cons, List.length_append, ih, h.len, List.length_cons, Nat.succ_mul, Nat.add_comm]
theorem Shape.inv (h : Shape f size) {l : List α} {j : Nat} {u : Value} (hj : (l.flatMap f)[j]? = some u) : ∃ k x i, l[k]? = some x ∧ i < size ∧ j = k * size + i ∧ (f x)[i]? = some u := by
  have hlt := (List.getElem?_eq_some_iff.1 hj).1
  rw [h.flat] at hlt
  have hk : j / size < l.length := Nat.div_lt_of_lt_mul (by rw [Nat.mul_comm]; exact hlt)
  have hi := Nat.mod_lt j h.pos
  have he : j = j / size * size + j % size := by rw [Nat.mul_comm]; exact (Nat.div_add_mod j size).symm
  refine ⟨j / size, l[j / size], j % size, List.getElem?_eq_getElem hk, hi, he, ?_⟩
  rw [← h.at (List.getElem?_eq_getElem hk) hi, ← he, hj]
theorem Shape.set (h : Shape f size) {l : List α} {k i : Nat} {x y : α} {u : Value} (hk : l[k]? = some x) (hi : i < size) (hy : f y = (f x).set i u) : (l.flatMap f).set (k * size + i) u = (l.set k y).flatMap f := by
  have hlt := (List.getElem?_eq_some_iff.1 hk).1
  apply List.ext_getElem?
  intro j
  by_cases hj : j < l.length * size
  · have hkk : j / size < l.length := Nat.div_lt_of_lt_mul (by rw [Nat.mul_comm]; exact hj)
    have hii := Nat.mod_lt j h.pos
    have he : j = j / size * size + j % size := by rw [Nat.mul_comm]; exact (Nat.div_add_mod j size).symm
    obtain ⟨a, ha⟩ : ∃ a, j / size = a := ⟨_, rfl⟩
    obtain ⟨b, hb⟩ : ∃ b, j % size = b := ⟨_, rfl⟩
    rw [ha, hb] at he
    rw [ha] at hkk
    rw [hb] at hii
    subst he
    have hla : l[a]? = some l[a] := List.getElem?_eq_getElem hkk
    rw [List.getElem?_set]
    by_cases hka : k = a
    · subst hka
      have hs : (l.set k y)[k]? = some y := by rw [List.getElem?_set, if_pos rfl, if_pos hlt]
      rw [h.at hs hii, hy, List.getElem?_set, h.flat, h.len]
      by_cases hib : i = b
      · subst hib; rw [if_pos rfl, if_pos rfl, if_pos hj, if_pos hi]
      · rw [if_neg (by omega), if_neg hib, h.at hk hii]
    · have hs : (l.set k y)[a]? = some l[a] := by rw [List.getElem?_set, if_neg hka, hla]
      rw [h.at hs hii, h.at hla hii, if_neg]
      intro he
      have h1 : (k * size + i) / size = (a * size + b) / size := by rw [he]
      rw [Nat.mul_comm k, Nat.mul_comm a, Nat.mul_add_div h.pos, Nat.mul_add_div h.pos, Nat.div_eq_of_lt hi, Nat.div_eq_of_lt hii] at h1
      exact hka h1
  · rw [List.getElem?_eq_none (by rw [List.length_set, h.flat]; omega), List.getElem?_eq_none (by rw [h.flat, List.length_set]; omega)]
theorem Shape.ones (h : Shape f size) (l : List α) : ∀ u ∈ l.flatMap f, u.oneCell' = true := by
  intro u hu
  obtain ⟨x, _, hx⟩ := List.mem_flatMap.1 hu
  exact h.one x u hx
end

def RdF {α : Type} (f : α → List Value) (size : Nat) (w : World) (B : Nat) (A : Option Addr) (n : Nat) (l : List α) : Prop :=
  l.length = n ∧ ∀ k x, l[k]? = some x → ∃ b o, A = some ⟨b, o, none⟩ ∧ b < B ∧ ∀ i v, (f x)[i]? = some v → w.cell? ⟨b, o + k * size + i, none⟩ = some v
def OwnF {α : Type} (f : α → List Value) (size : Nat) (w : World) (e : TypeId) (B : Nat) (v : Value) (n : Nat) (l : List α) : Prop := w.ownsRow B e size v n (l.flatMap f)
section
variable {α : Type} {f : α → List Value} {size : Nat} {w w' : World} {e : TypeId} {B B' n c : Nat} {A : Option Addr} {v : Value} {l : List α}
theorem RdF.len (h : RdF f size w B A n l) : l.length = n := h.1
theorem RdF.nil : RdF f size w B A 0 [] := ⟨rfl, by simp⟩
theorem RdF.keep (h : RdF f size w B A n l) (hk : ∀ p : Addr, p.block < B → w'.cell? p = w.cell? p) : RdF f size w' B A n l :=
  ⟨h.1, fun k x hx => by
    obtain ⟨b, o, hA, hb, hc⟩ := h.2 k x hx
    exact ⟨b, o, hA, hb, fun i v hv => (hk _ hb).trans (hc i v hv)⟩⟩
theorem RdF.more (h : RdF f size w B A n l) (hB : B ≤ B') : RdF f size w B' A n l :=
  ⟨h.1, fun k x hx => by
    obtain ⟨b, o, hA, hb, hc⟩ := h.2 k x hx
    exact ⟨b, o, hA, by omega, hc⟩⟩
theorem RdF.below (h : RdF f size w B A n l) (hb : Below B' w w') (hB : B ≤ B') : RdF f size w' B A n l := h.keep fun _ hp => hb.cell (by omega)
theorem RdF.alloc (h : RdF f size w B A n l) (hB : B ≤ w.heap.size) (o : Obj) : RdF f size (w.alloc o) B A n l := h.keep fun p hp => World.cell?_alloc_lt w o p (by omega)
theorem RdF.at {k : Nat} (h : RdF f size w B A n l) (hk : k < n) : ∃ b o x, A = some ⟨b, o, none⟩ ∧ b < B ∧ l[k]? = some x ∧ ∀ i v, (f x)[i]? = some v → w.cell? ⟨b, o + k * size + i, none⟩ = some v := by
  have hl : k < l.length := by have := h.1; omega
  obtain ⟨b, o, hA, hb, hc⟩ := h.2 k l[k] (List.getElem?_eq_getElem hl)
  exact ⟨b, o, l[k], hA, hb, List.getElem?_eq_getElem hl, hc⟩
theorem RdF.isNil (h : RdF f size w B none n l) : n = 0 ∧ l = [] := by
  have hl : l = [] := by
    cases l with
    | nil => rfl
    | cons c l => obtain ⟨b, o, hA, _⟩ := h.2 0 c rfl; cases hA
  subst hl
  exact ⟨h.1.symm, rfl⟩
theorem RdF.cells (hs : Shape f size) {ad : Addr} (h : RdF f size w B (some ad) n l) : ∀ j u, (l.flatMap f)[j]? = some u → w.cell? (ad.add j) = some u := by
  intro j u hu
  obtain ⟨k, x, i, hk, hi, rfl, hx⟩ := hs.inv hu
  obtain ⟨b, o, hA, _, hc⟩ := h.2 k x hk
  obtain rfl := Option.some.inj hA
  rw [Addr.add_lit, ← Nat.add_assoc]
  exact hc i u hx
theorem OwnF.len (hs : Shape f size) (h : OwnF f size w e B v n l) : l.length = n := by
  have h1 := h.1
  rw [hs.flat] at h1
  exact Nat.eq_of_mul_eq_mul_right hs.pos h1
theorem OwnF.nil : OwnF f size w e B (.slice none 0 0) 0 [] := World.ownsRow_nil _ _ _ _
theorem OwnF.alloc (h : OwnF f size w e B v n l) (o : Obj) : OwnF f size (w.alloc o) e B v n l := World.ownsRow.alloc h o
theorem OwnF.drew (h : OwnF f size w e B v n l) : OwnF f size w.drew e B v n l := h
theorem OwnF.drewN (h : OwnF f size w e B v n l) (k : Nat) : OwnF f size (w.drewN k) e B v n l := h
theorem OwnF.more (h : OwnF f size w e B v n l) (hB : B' ≤ B) : OwnF f size w e B' v n l := by
  refine ⟨h.1, ?_⟩
  rcases h.2 with h2 | ⟨g, cap, cur, h3, h4, h5⟩
  · exact .inl h2
  · exact .inr ⟨g, cap, cur, h3, by omega, h5⟩
theorem OwnF.below (h : OwnF f size w e B v n l) (hb : Below w.heap.size w w') : OwnF f size w' e B v n l := by
  refine World.ownsRow.kept (row := none) h ⟨hb.os, hb.tape, hb.output, hb.size, fun k hk _ => hb.block k hk⟩ ?_
  cases v.ownBlock <;> simp
theorem OwnF.setBelow (h : OwnF f size w e B v n l) {a : Addr} (ha : a.block < B) (u : Value) : OwnF f size (w.setCell a u) e B v n l := ownsRow_setCell_below h ha u
theorem OwnF.cap (h : OwnF f size w e B (.slice A n c) n l) : n ≤ c := by
  rcases h.2 with ⟨hv, hn⟩ | ⟨g, cap, cur, hv, _, _, hc, _⟩
  · omega
  · injection hv with _ _ h3
    omega
theorem OwnF.form (h : OwnF f size w e B (.slice A n c) n l) (hn : 0 < n) : ∃ g, A = some ⟨g, 0, none⟩ ∧ B ≤ g ∧ g < w.heap.size := by
  obtain ⟨g, cap, hv, hb, hl⟩ := World.ownsRow.form h hn
  injection hv with h1
  exact ⟨g, h1, hb, hl⟩
theorem OwnF.rd (hs : Shape f size) (h : OwnF f size w e B (.slice A n c) n l) : RdF f size w w.heap.size A n l := by
  refine ⟨h.len hs, fun k x hk => ?_⟩
  have hkn : k < n := by have := (List.getElem?_eq_some_iff.1 hk).1; have := h.len hs; omega
  obtain ⟨g, rfl, _, hlt⟩ := h.form (by omega)
  refine ⟨g, 0, rfl, hlt, fun i u hu => ?_⟩
  have hi : i < size := by have := (List.getElem?_eq_some_iff.1 hu).1; rw [hs.len] at this; exact this
  have hcell := World.ownsRow.cells h (g := g) rfl (k * size + i) u (by rw [hs.at hk hi, hu])
  rw [Addr.add_lit, ← Nat.add_assoc] at hcell
  exact hcell
theorem OwnF.frozen {g : Nat} (h : OwnF f size w e B (.slice (some ⟨g, 0, none⟩) n c) n l) (j : Nat) : w.frozen? ⟨g, j, none⟩ = false := World.ownsRow.frozenAt h j
end

section
variable {α : Type} {f : α → List Value} {size : Nat} {w : World} {e : TypeId} {B g n c : Nat} {l : List α}
theorem OwnF.set (hs : Shape f size) (h : OwnF f size w e B (.slice (some ⟨g, 0, none⟩) n c) n l) (hg : B ≤ g) {k i : Nat} {x y : α} {u : Value} (hk : l[k]? = some x) (hi : i < size) (hy : f y = (f x).set i u) :
    OwnF f size (w.setCell ⟨g, k * size + i, none⟩ u) e B (.slice (some ⟨g, 0, none⟩) n c) n (l.set k y) ∧ Below B w (w.setCell ⟨g, k * size + i, none⟩ u) := by
  refine ⟨?_, (Below.refl B w).setCell hg _⟩
  have h1 := (World.ownsRow.stored h (k * size + i) u).1
  rw [hs.set hk hi hy] at h1
  exact h1
theorem OwnF.cellAt (hs : Shape f size) (h : OwnF f size w e B (.slice (some ⟨g, 0, none⟩) n c) n l) {k i : Nat} {x : α} {u : Value} (hk : l[k]? = some x) (hu : (f x)[i]? = some u) : w.cell? ⟨g, k * size + i, none⟩ = some u := by
  have hi : i < size := by have := (List.getElem?_eq_some_iff.1 hu).1; rw [hs.len] at this; exact this
  have hkn : k < n := by have := (List.getElem?_eq_some_iff.1 hk).1; have := h.len hs; omega
  have hlt : k * size + i < n * size := by
    have : (k + 1) * size ≤ n * size := Nat.mul_le_mul_right size hkn
    rw [Nat.succ_mul] at this
    omega
  rw [World.ownsRow.cellAt h _ hlt, hs.at hk hi, hu]
end

section
variable {α : Type} {f : α → List Value} {size : Nat} {P : Program} (w : World)
def Info (P : Program) (e : TypeId) (size bytes : Nat) : Prop := ∃ i z, P.info? e = some i ∧ i.zero = some z ∧ i.size = size ∧ i.bytes = bytes ∧ z.cells.size = size
theorem run_append_nilF (base : Nat) (t ty e : TypeId) (i : TypeInfo) (ht : P.underlying t = some (.slice e)) (hi : P.info? e = some i) (size : Nat)
    (v : Value) (n : Nat) (xs : List Value) (hown : w.ownsRow base e size v n xs) (c : Nat) : (Builtin.append_ #[t, t] ty #[v, .slice none 0 c]).run P w = .ok v w := by
  rcases hown.2 with ⟨rfl, rfl⟩ | ⟨g, cap, cur, rfl, _, _, hnc, _⟩
  · simp [Builtin.append_, run_underlying ht, sizeOf, typeInfo, hi, Builtin.lenOf, Builtin.firstCells]
  · simp [Builtin.append_, run_underlying ht, sizeOf, typeInfo, hi, Builtin.lenOf, Builtin.firstCells, hnc, storeCells]
theorem run_appF (hs : Shape f size) (bytes : Nat) (base : Nat) (t ty e : TypeId) (ht : P.underlying t = some (.slice e)) (hI : Info P e size bytes)
    (v : Value) (n : Nat) (l : List α) (hown : OwnF f size w e base v n l) (B : Nat) (A : Option Addr) (m c : Nat) (news : List α) (hr : RdF f size w B A m news)
    (hb : (n + m) * bytes ≤ 140737488355328) (h63 : n + m ≤ 140737488355328) (hbase : base ≤ w.heap.size) :
    ∃ A' c' w', (Builtin.append_ #[t, t] ty #[v, .slice A m c]).run P w = .ok (.slice A' (n + m) c') w' ∧ OwnF f size w' e base (.slice A' (n + m) c') (n + m) (l ++ news) ∧ Below base w w' := by
  obtain ⟨i, z, hi, hz, hsz, hby, hzs⟩ := hI
  cases A with
  | none =>
    obtain ⟨rfl, rfl⟩ := hr.isNil
    obtain ⟨A', c', rfl⟩ := ownsRow_slice w hown
    exact ⟨A', c', w, run_append_nilF w base t ty e i ht hi size _ n _ hown c, by simpa using hown, Below.refl _ _⟩
  | some ad =>
    obtain ⟨v', w', hrun, h2, h3, _⟩ := run_append_own (P := P) w base t ty e i z size bytes ht hi hz hsz hby hzs hs.pos v n _ hown ad m c (news.flatMap f) (by rw [hs.flat, hr.len]) (hr.cells hs) (hs.ones _)
      (by unfold maxLen; omega) hb hbase
    obtain ⟨A', c', rfl⟩ := ownsRow_slice w' h2
    exact ⟨A', c', w', hrun, by unfold OwnF; rw [List.flatMap_append]; exact h2, below_of_grown w hown h3 hbase⟩
theorem wpList_appF {ops : Array Oper} {rest : List Oper} {o : Oper} {a : Act} {Q : Exit → Act → World → Prop} (hs : Shape f size) (hgd : o.guard = none) (s x : Operand) (t : TypeId)
    (ho : o.op = .call { callee := .builtin .append, args := #[s, x], argTypes := #[t, t] })
    (bytes base : Nat) (e : TypeId) (ht : P.underlying t = some (.slice e)) (hI : Info P e size bytes)
    (v : Value) (n : Nat) (l : List α) (hsv : a.eval s = v) (hown : OwnF f size w e base v n l)
    (B : Nat) (A : Option Addr) (m c : Nat) (news : List α) (hx : a.eval x = .slice A m c) (hr : RdF f size w B A m news)
    (hb : (n + m) * bytes ≤ 140737488355328) (h63 : n + m ≤ 140737488355328) (hbase : base ≤ w.heap.size)
    (h : ∀ A' c' w', OwnF f size w' e base (.slice A' (n + m) c') (n + m) (l ++ news) → Below base w w' → wpList P ops Q rest (a.put o.dst (.slice A' (n + m) c')) w') : wpList P ops Q (o :: rest) a w := by
  refine wpList_plain hgd fun K hK => ?_
  obtain ⟨A', c', w', hrun, h2, h3⟩ := run_appF (P := P) w hs bytes base t o.type e ht hI v n l hown B A m c news hr hb h63 hbase
  unfold Oper.wp execOp
  simp only [ho, resolve, invoke, builtin, Sem.run_bind, Sem.run_pure, Result.andThen_ok, List.map_toArray, List.map_cons, List.map_nil, hsv, hx, hrun]
  exact hK _ _ (h A' c' w' h2 h3)
theorem rdF_new (_hs : Shape f size) (e : TypeId) (x : α) : RdF f size (w.alloc (.cells (f x).toArray e)) (w.heap.size + 1) (some ⟨w.heap.size, 0, none⟩) 1 [x] := by
  refine ⟨rfl, fun k y hk => ?_⟩
  match k, hk with
  | 0, hk =>
    obtain rfl : x = y := by simpa using hk
    refine ⟨_, _, rfl, Nat.lt_succ_self _, fun i u hu => ?_⟩
    rw [cell_of_row _ _ _ _ e _ (heap_alloc_new w _)]
    simpa using hu
end
end Go.Proofs.YtlfbagkonckffaaGreat.RowF

/- Two rows of the call's own side by side: append to one leaves the other alone. Nothing of the program. -/
namespace Go.Proofs.YtlfbagkonckffaaGreat.RowF
open Go.RowKit Oct

theorem grown_refl (w : World) (r : Option Nat) : w.grownBy w r := ⟨rfl, rfl, rfl, Nat.le_refl _, fun _ _ _ => rfl⟩
def Apart (v u : Value) : Prop := ∀ g, v.ownBlock = some g → u.ownBlock ≠ some g
theorem Apart.symm {v u : Value} (h : Apart v u) : Apart u v := fun g hu hv => h g hv hu
theorem Apart.ne {v u : Value} (h : Apart v u) : u.ownBlock = none ∨ u.ownBlock ≠ v.ownBlock := by
  cases hu : u.ownBlock with
  | none => exact .inl rfl
  | some g => exact .inr fun e => h g e.symm hu
theorem Apart.nil (u : Value) (c : Nat) : Apart (.slice none 0 c) u := fun g h => by cases h
theorem own_far {w w' : World} {e : TypeId} {B size n : Nat} {u v : Value} {xs : List Value} (h : w.ownsRow B e size u n xs) (ha : Apart v u) (hg : w.grownBy w' v.ownBlock) : w'.ownsRow B e size u n xs := World.ownsRow.kept h hg ha.ne
theorem apart_after {w : World} {e : TypeId} {B size n : Nat} {u v v' : Value} {xs : List Value} (h : w.ownsRow B e size u n xs) (ha : Apart v u) (hv : v'.ownBlock = v.ownBlock ∨ v'.ownBlock = some w.heap.size) : Apart v' u := by
  intro g hg hu
  rcases hv with hv | hv
  · exact ha g (hv ▸ hg) hu
  · have h1 := (World.ownsRow.lt h g hu).2
    rw [hv] at hg
    injection hg with hg
    omega
section
variable {α : Type} {f : α → List Value} {size : Nat} {P : Program} (w : World)
theorem run_appFG (hs : Shape f size) (bytes : Nat) (base : Nat) (t ty e : TypeId) (ht : P.underlying t = some (.slice e)) (hI : Info P e size bytes)
    (v : Value) (n : Nat) (l : List α) (hown : OwnF f size w e base v n l) (B : Nat) (A : Option Addr) (m c : Nat) (news : List α) (hr : RdF f size w B A m news)
    (hb : (n + m) * bytes ≤ 140737488355328) (h63 : n + m ≤ 140737488355328) (hbase : base ≤ w.heap.size) :
    ∃ A' c' w', (Builtin.append_ #[t, t] ty #[v, .slice A m c]).run P w = .ok (.slice A' (n + m) c') w' ∧ OwnF f size w' e base (.slice A' (n + m) c') (n + m) (l ++ news) ∧ w.grownBy w' v.ownBlock ∧ ((Value.slice A' (n + m) c').ownBlock = v.ownBlock ∨ (Value.slice A' (n + m) c').ownBlock = some w.heap.size) := by
  obtain ⟨i, z, hi, hz, hsz, hby, hzs⟩ := hI
  cases A with
  | none =>
    obtain ⟨rfl, rfl⟩ := hr.isNil
    obtain ⟨A', c', rfl⟩ := ownsRow_slice w hown
    exact ⟨A', c', w, run_append_nilF w base t ty e i ht hi size _ n _ hown c, by simpa using hown, grown_refl _ _, .inl (by cases A' <;> rfl)⟩
  | some ad =>
    obtain ⟨v', w', hrun, h2, h3, _, h5⟩ := run_append_own_at (P := P) w base t ty e i z size bytes ht hi hz hsz hby hzs hs.pos v n _ hown ad m c (news.flatMap f) (by rw [hs.flat, hr.len]) (hr.cells hs) (hs.ones _)
      (by unfold maxLen; omega) hb hbase
    obtain ⟨A', c', rfl⟩ := ownsRow_slice w' h2
    exact ⟨A', c', w', hrun, by unfold OwnF; rw [List.flatMap_append]; exact h2, h3, h5⟩
theorem wpList_appFG {ops : Array Oper} {rest : List Oper} {o : Oper} {a : Act} {Q : Exit → Act → World → Prop} (hs : Shape f size) (hgd : o.guard = none) (s x : Operand) (t : TypeId)
    (ho : o.op = .call { callee := .builtin .append, args := #[s, x], argTypes := #[t, t] })
    (bytes base : Nat) (e : TypeId) (ht : P.underlying t = some (.slice e)) (hI : Info P e size bytes)
    (v : Value) (n : Nat) (l : List α) (hsv : a.eval s = v) (hown : OwnF f size w e base v n l)
    (B : Nat) (A : Option Addr) (m c : Nat) (news : List α) (hx : a.eval x = .slice A m c) (hr : RdF f size w B A m news)
    (hb : (n + m) * bytes ≤ 140737488355328) (h63 : n + m ≤ 140737488355328) (hbase : base ≤ w.heap.size)
    (h : ∀ A' c' w', OwnF f size w' e base (.slice A' (n + m) c') (n + m) (l ++ news) → w.grownBy w' v.ownBlock → ((Value.slice A' (n + m) c').ownBlock = v.ownBlock ∨ (Value.slice A' (n + m) c').ownBlock = some w.heap.size) → wpList P ops Q rest (a.put o.dst (.slice A' (n + m) c')) w') : wpList P ops Q (o :: rest) a w := by
  refine wpList_plain hgd fun K hK => ?_
  obtain ⟨A', c', w', hrun, h2, h3, h4⟩ := run_appFG (P := P) w hs bytes base t o.type e ht hI v n l hown B A m c news hr hb h63 hbase
  unfold Oper.wp execOp
  simp only [ho, resolve, invoke, builtin, Sem.run_bind, Sem.run_pure, Result.andThen_ok, List.map_toArray, List.map_cons, List.map_nil, hsv, hx, hrun]
  exact hK _ _ (h A' c' w' h2 h3 h4)
end
end Go.Proofs.YtlfbagkonckffaaGreat.RowF

/- The byte's row of the table, and a slice of bytes as a string. -/
namespace Go.Proofs.YtlfbagkonckffaaGreat.Oct
open Go.RowKit

theorem u8row : U8 Tryz.prog 5 := by
  obtain ⟨i, h1, h2, h3, h4⟩ := info_parts (P := Tryz.prog) (e := 5) (z := .int .u8 0) (size := 1) (bytes := 1) (by kernel_rfl)
  exact ⟨i, h1, h2, h3, h4⟩

end Go.Proofs.YtlfbagkonckffaaGreat.Oct

/- The contracts of the document's own answers of layer 3: In, Check. -/
namespace Go.Proofs.YtlfbagkonckffaaGreat.Rec
open Go.RowKit Oct

theorem refIn_any (n : Int) (w : World) {b : Bool} (hb : inR n = b) : Calls Tryz.prog 116 #[.int .i64 n] w fun e w' => e = .returned (.bool b) ∧ w = w' := by
  subst hb
  go_enter Tryz.func116, Tryz.ntmps116
  go_wp2
  all_goals go_ret
  all_goals refine ⟨?_, rfl⟩
  · rename_i h; exact ret_bool (by simp [inR, h])
  · rename_i h; exact ret_bool (by simp [inR]; omega)

theorem chk_no {r : Rc} (h : ¬ may r = true) : (if may r then (0 : Int) else 1) = 1 := if_neg h
theorem chk_yes {r : Rc} (h : may r = true) : (if may r then (0 : Int) else 1) = 0 := if_pos h
theorem empty_iff {k : ByteArray} : k.size = 0 ↔ k = ByteArray.empty := ByteArray.size_eq_zero_iff

theorem empty_tests {k : ByteArray} (h : k ≠ ByteArray.empty) : k.toList.isEmpty = false := by
  cases hb : k.toList.isEmpty with
  | false => rfl
  | true =>
    rw [Go.ByteArray.toList_eq, List.isEmpty_iff] at hb
    exact absurd (empty_iff.1 (by rw [← size_list, hb]; rfl)) h

set_option maxRecDepth 100000 in
theorem refCheck_any (o s : Int) (k v : ByteArray) (d : Bool) (w : World) (hk : k.size ≤ 1099511627776) (hv : v.size ≤ 1099511627776) : Calls Tryz.prog 98 #[.agg #[.int .i64 o, .string k, .string v, .bool d, .int .i64 s]] w fun e w' => e = .returned (.int .i64 (if may ⟨o, k, v, d, s⟩ then 0 else 1)) ∧ Below w.heap.size w w' := by
  rcases h1 : inR o with _ | _
  · have hm := Lib.hid (chk_no (r := ⟨o, k, v, d, s⟩) fun hh => by have := inR_iff.2 (may_iff.1 hh).1; simp only [h1] at this; cases this)
    rw [hm.out]
    go_enter Tryz.func98, Tryz.ntmps98
    go_wp2_with (go_at_call 116; refine (refIn_any _ _ h1).mono ?_; rintro e w9 ⟨rfl, rfl⟩)
    go_ret
    exact ⟨rfl, (Below.refl _ _).alloc (Nat.le_refl _) _⟩
  rcases h2 : inR s with _ | _
  · have hm := Lib.hid (chk_no (r := ⟨o, k, v, d, s⟩) fun hh => by have := inR_iff.2 (may_iff.1 hh).2.1; simp only [h2] at this; cases this)
    rw [hm.out]
    go_enter Tryz.func98, Tryz.ntmps98
    go_wp2_with (go_at_call 116; refine (refIn_any _ _ (by first | exact h1 | exact h2)).mono ?_; rintro e w9 ⟨rfl, rfl⟩)
    go_ret
    exact ⟨rfl, (Below.refl _ _).alloc (Nat.le_refl _) _⟩
  have g1 := inR_iff.1 h1
  have g2 := inR_iff.1 h2
  have c3 : ∀ n : Nat, ¬ 64 < n → decide (64 < (n : Int)) = false := fun n hn => by simp; omega
  by_cases h3 : 64 < k.size
  · have hm := Lib.hid (chk_no (r := ⟨o, k, v, d, s⟩) fun hh => by have := (may_iff.1 hh).2.2.1; simp only at this; omega)
    rw [hm.out]
    go_enter Tryz.func98, Tryz.ntmps98
    go_wp2_with (go_at_call 116; refine (refIn_any _ _ (by first | exact h1 | exact h2)).mono ?_; rintro e w9 ⟨rfl, rfl⟩)
    go_ret
    exact ⟨rfl, (Below.refl _ _).alloc (Nat.le_refl _) _⟩
  by_cases h4 : 64 < v.size
  · have hm := Lib.hid (chk_no (r := ⟨o, k, v, d, s⟩) fun hh => by have := (may_iff.1 hh).2.2.2.1; simp only at this; omega)
    rw [hm.out]
    go_enter Tryz.func98, Tryz.ntmps98
    go_wp2_with (go_at_call 116; refine (refIn_any _ _ (by first | exact h1 | exact h2)).mono ?_; rintro e w9 ⟨rfl, rfl⟩)
    go_ret
    exact ⟨rfl, (Below.refl _ _).alloc (Nat.le_refl _) _⟩
  have d3 := c3 _ h3
  have d4 := c3 _ h4
  clear c3
  rcases d with _ | _
  · have hm := Lib.hid (chk_yes (r := ⟨o, k, v, false, s⟩) (may_iff.2 ⟨g1, g2, by simp only; omega, by simp only; omega, fun hh => by cases hh⟩))
    rw [hm.out]
    go_enter Tryz.func98, Tryz.ntmps98
    go_wp2_with (go_at_call 116; refine (refIn_any _ _ (by first | exact h1 | exact h2)).mono ?_; rintro e w9 ⟨rfl, rfl⟩)
    go_ret
    exact ⟨rfl, (Below.refl _ _).alloc (Nat.le_refl _) _⟩
  by_cases h5 : k = ByteArray.empty
  · have hm := Lib.hid (chk_no (r := ⟨o, k, v, true, s⟩) fun hh => ((may_iff.1 hh).2.2.2.2 rfl).1 (empty_iff.2 h5))
    rw [hm.out]
    subst h5
    go_enter Tryz.func98, Tryz.ntmps98
    go_wp2_with (go_at_call 116; refine (refIn_any _ _ (by first | exact h1 | exact h2)).mono ?_; rintro e w9 ⟨rfl, rfl⟩)
    go_ret
    exact ⟨rfl, (Below.refl _ _).alloc (Nat.le_refl _) _⟩
  by_cases h6 : v = ByteArray.empty
  · have hm := Lib.hid (chk_yes (r := ⟨o, k, v, true, s⟩) (may_iff.2 ⟨g1, g2, by simp only; omega, by simp only; omega, fun _ => ⟨fun hz => h5 (empty_iff.1 hz), empty_iff.2 h6⟩⟩))
    rw [hm.out]
    subst h6
    have hk5 := empty_tests h5
    go_enter Tryz.func98, Tryz.ntmps98
    go_wp2_with (go_at_call 116; refine (refIn_any _ _ (by first | exact h1 | exact h2)).mono ?_; rintro e w9 ⟨rfl, rfl⟩)
    go_ret
    exact ⟨rfl, (Below.refl _ _).alloc (Nat.le_refl _) _⟩
  · have hm := Lib.hid (chk_no (r := ⟨o, k, v, true, s⟩) fun hh => h6 (empty_iff.1 ((may_iff.1 hh).2.2.2.2 rfl).2))
    rw [hm.out]
    have hk5 := empty_tests h5
    have hk6 := empty_tests h6
    go_enter Tryz.func98, Tryz.ntmps98
    go_wp2_with (go_at_call 116; refine (refIn_any _ _ (by first | exact h1 | exact h2)).mono ?_; rintro e w9 ⟨rfl, rfl⟩)
    go_ret
    exact ⟨rfl, (Below.refl _ _).alloc (Nat.le_refl _) _⟩
end Go.Proofs.YtlfbagkonckffaaGreat.Rec

/- What a call of layer 2 leaves, in the words of layer 1. -/
namespace Go.Proofs.YtlfbagkonckffaaGreat.Crc
open Go.RowKit Oct

def OPr (e : TypeId) (base : Nat) (w : World) (l : List UInt8) (z : Int) (en : Ending) (w' : World) : Prop :=
  ∃ A n c, en = .returned (.tuple #[.slice A n c, .int .i64 z]) ∧ OwnB w' e base (.slice A n c) n l ∧ Below base w w'
def N32 (w : World) (v : Nat) (en : Ending) (w' : World) : Prop := en = .returned (.int .u32 (v : Int)) ∧ Below w.heap.size w w'
theorem own_lit (w : World) (e : TypeId) (l : List UInt8) (n : Nat) (hn : l.length = n) (h : n ≤ 1099511627776) : OwnB (w.alloc (.cells (l.map bv).toArray e)) e w.heap.size (.slice (some ⟨w.heap.size, 0, none⟩) n n) n l := by
  subst hn
  have h1 := World.ownsRow_lit (base := w.heap.size) (e := e) (size := 1) w (l.map bv).toArray l.length (Nat.le_refl _) (by unfold maxLen; omega) (by simp)
  simpa [OwnB] using h1
end Go.Proofs.YtlfbagkonckffaaGreat.Crc

/- The contract of the document's Copy. -/
namespace Go.Proofs.YtlfbagkonckffaaGreat.Oct
open Go.RowKit

theorem Copy_any (A : Option Addr) (n c : Nat) (l : List UInt8) (B : Nat) (w : World) (hr : Rd w B A n l) (hn : n ≤ 549755813888) :
    Calls Tryz.prog 117 #[.slice A n c] w (RB 5 w.heap.size w l) := by
  have hI := u8row
  go_enter Tryz.func117, Tryz.ntmps117
  go_wp2_with (at_builtin; refine wpList_appB _ rfl _ _ 94 rfl w.heap.size 5 Tryz.underlying94 hI _ 0 [] rfl OwnB.nil B A n c l rfl hr (by omega) (Nat.le_refl _) ?_; intro A2 c2 w2 hown2 hb2)
  go_ret
  exact ⟨A2, n, c2, rfl, by simpa using hown2, hb2⟩

end Go.Proofs.YtlfbagkonckffaaGreat.Oct
