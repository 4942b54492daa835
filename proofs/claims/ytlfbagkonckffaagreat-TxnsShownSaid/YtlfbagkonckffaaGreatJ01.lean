/- Joined: OctWords. -/
import Derived.WalkKit
import Derived.Deep.AppendLies
import Derived.Lib.AppendStr
import Derived.Deep.Draws
/- Words for slices of bytes: one that reads as a list, one that the call itself made; the laws of append and of the conversion to a string in these words. Nothing of the program: P, the types' numbers and the worlds are letters. -/
namespace Go.Proofs.YtlfbagkonckffaaGreat.Oct
open Go.RowKit

def bv (c : UInt8) : Value := .int .u8 (c.toNat : Int)

def Rd (w : World) (B : Nat) (A : Option Addr) (n : Nat) (l : List UInt8) : Prop :=
  l.length = n ∧ ∀ k c, l[k]? = some c → ∃ b o, A = some ⟨b, o, none⟩ ∧ b < B ∧ w.cell? ⟨b, o + k, none⟩ = some (.int .u8 (c.toNat : Int))
def OwnB (w : World) (e : TypeId) (B : Nat) (v : Value) (n : Nat) (l : List UInt8) : Prop := w.ownsRow B e 1 v n (l.map bv)
def RB (e : TypeId) (base : Nat) (w : World) (l : List UInt8) (en : Ending) (w' : World) : Prop :=
  ∃ A n c, en = .returned (.slice A n c) ∧ OwnB w' e base (.slice A n c) n l ∧ Below base w w'
def U8 (P : Program) (e : TypeId) : Prop := ∃ i, P.info? e = some i ∧ i.zero = some (.int .u8 0) ∧ i.size = 1 ∧ i.bytes = 1

theorem ret_int {k : IntKind} {a b : Int} (h : a = b) : Ending.returned (.int k a) = .returned (.int k b) := by rw [h]
theorem ret_bool {a b : Bool} (h : a = b) : Ending.returned (.bool a) = .returned (.bool b) := by rw [h]
theorem beqT {a b : Int} (h : a = b) : (a == b) = true := by simp [h]
theorem beqF {a b : Int} (h : a ≠ b) : (a == b) = false := by simp [h]
theorem oneCell_bv (l : List UInt8) : ∀ u ∈ l.map bv, u.oneCell' = true := by
  intro u hu
  obtain ⟨c, _, rfl⟩ := List.mem_map.1 hu
  rfl

section
variable {w w' : World} {B B' n : Nat} {A : Option Addr} {l : List UInt8} {e : TypeId} {v : Value} {c : Nat}
theorem Rd.len (h : Rd w B A n l) : l.length = n := h.1
theorem Rd.nil : Rd w B A 0 [] := ⟨rfl, by simp⟩
theorem Rd.keep (h : Rd w B A n l) (hk : ∀ p : Addr, p.block < B → w'.cell? p = w.cell? p) : Rd w' B A n l :=
  ⟨h.1, fun k c hc => by
    obtain ⟨b, o, hA, hb, hcell⟩ := h.2 k c hc
    exact ⟨b, o, hA, hb, (hk _ hb).trans hcell⟩⟩
theorem Rd.more (h : Rd w B A n l) (hB : B ≤ B') : Rd w B' A n l :=
  ⟨h.1, fun k c hc => by
    obtain ⟨b, o, hA, hb, hcell⟩ := h.2 k c hc
    exact ⟨b, o, hA, by omega, hcell⟩⟩
theorem Rd.below (h : Rd w B A n l) (hb : Below B' w w') (hB : B ≤ B') : Rd w' B A n l := h.keep fun _ hp => hb.cell (by omega)
theorem Rd.alloc (h : Rd w B A n l) (hB : B ≤ w.heap.size) (o : Obj) : Rd (w.alloc o) B A n l := h.keep fun p hp => World.cell?_alloc_lt w o p (by omega)
theorem Rd.at {k : Nat} (h : Rd w B A n l) (hk : k < n) : ∃ b o c, A = some ⟨b, o, none⟩ ∧ b < B ∧ l[k]? = some c ∧ w.cell? ⟨b, o + k, none⟩ = some (.int .u8 (c.toNat : Int)) := by
  have hl : k < l.length := by have := h.1; omega
  obtain ⟨b, o, hA, hb, hcell⟩ := h.2 k l[k] (List.getElem?_eq_getElem hl)
  exact ⟨b, o, l[k], hA, hb, List.getElem?_eq_getElem hl, hcell⟩
theorem Rd.cells {ad : Addr} (h : Rd w B (some ad) n l) : ∀ j u, (l.map bv)[j]? = some u → w.cell? (ad.add j) = some u := by
  intro j u hu
  rw [List.getElem?_map] at hu
  obtain ⟨c, hc, rfl⟩ := Option.map_eq_some_iff.1 hu
  obtain ⟨b, o, hA, _, hcell⟩ := h.2 j c hc
  obtain rfl := Option.some.inj hA
  rw [Addr.add_lit]
  exact hcell
theorem Rd.isNil (h : Rd w B none n l) : n = 0 ∧ l = [] := by
  have hl : l = [] := by
    cases l with
    | nil => rfl
    | cons c l =>
      obtain ⟨b, o, hA, _⟩ := h.2 0 c rfl
      cases hA
  subst hl
  exact ⟨h.1.symm, rfl⟩
theorem Rd.cut {i m : Nat} (h : Rd w B A n l) (hi : i + m ≤ n) (A' : Option Addr) (hA : 0 < m → A' = A.map fun a => a.add i) : Rd w B A' m ((l.drop i).take m) := by
  refine ⟨by have := h.1; simp; omega, fun k c hc => ?_⟩
  have hk : k < m := by
    have := (List.getElem?_eq_some_iff.1 hc).1
    simp at this
    omega
  rw [List.getElem?_take, if_pos hk, List.getElem?_drop] at hc
  obtain ⟨b, o, rfl, hb, hcell⟩ := h.2 _ c hc
  refine ⟨b, o + i, ?_, hb, by rw [Nat.add_assoc]; exact hcell⟩
  rw [hA (by omega)]
  simp [Addr.add_lit]
theorem Rd.pre {m : Nat} {r : List UInt8} (h : Rd w B A n (l ++ r)) (hm : l.length = m) : Rd w B A m l := by
  refine ⟨hm, fun k c hc => h.2 k c ?_⟩
  rw [List.getElem?_append_left (List.getElem?_eq_some_iff.1 hc).1]
  exact hc
theorem Rd.take {m : Nat} (h : Rd w B A n l) (hm : m ≤ n) : Rd w B A m (l.take m) := by
  refine ⟨by have := h.1; rw [List.length_take]; omega, fun k c hc => h.2 k c ?_⟩
  rw [List.getElem?_take] at hc
  split at hc
  · exact hc
  · cases hc
theorem OwnB.len (h : OwnB w e B v n l) : l.length = n := by have := h.1; simpa using this
theorem OwnB.cap (h : OwnB w e B (.slice A n c) n l) : n ≤ c := by
  rcases h.2 with ⟨hv, hn⟩ | ⟨g, cap, cur, hv, _, _, hc, _⟩
  · omega
  · injection hv with _ _ h3
    omega
theorem OwnB.rd (h : OwnB w e B (.slice A n c) n l) : Rd w w.heap.size A n l := by
  refine ⟨h.len, fun k d hd => ?_⟩
  have hk : k < n := by have := (List.getElem?_eq_some_iff.1 hd).1; have := h.len; omega
  obtain ⟨g, cap, hv, _, hlt⟩ := World.ownsRow.form h (by omega)
  have hA : A = some ⟨g, 0, none⟩ := by injection hv
  subst hA
  refine ⟨g, 0, rfl, hlt, ?_⟩
  have hcell := World.ownsRow.cells h (g := g) rfl k (bv d) (by rw [List.getElem?_map, hd]; rfl)
  rw [Addr.add_lit] at hcell
  exact hcell
theorem OwnB.alloc (h : OwnB w e B v n l) (o : Obj) : OwnB (w.alloc o) e B v n l := World.ownsRow.alloc h o
theorem OwnB.more (h : OwnB w e B v n l) (hB : B' ≤ B) : OwnB w e B' v n l := by
  refine ⟨h.1, ?_⟩
  rcases h.2 with h2 | ⟨g, cap, cur, h3, h4, h5⟩
  · exact .inl h2
  · exact .inr ⟨g, cap, cur, h3, by omega, h5⟩
theorem OwnB.nil : OwnB w e B (.slice none 0 0) 0 [] := World.ownsRow_nil _ _ _ _
theorem OwnB.below (h : OwnB w e B v n l) (hb : Below w.heap.size w w') : OwnB w' e B v n l := by
  refine World.ownsRow.kept (row := none) h ⟨hb.os, hb.tape, hb.output, hb.size, fun k hk _ => hb.block k hk⟩ ?_
  cases v.ownBlock <;> simp
theorem bel_trans {a b c : World} (h : Below a.heap.size a b) (k : Below b.heap.size b c) : Below a.heap.size a c := h.trans (k.mono h.size)
theorem bel_alloc {a b : World} (h : Below a.heap.size a b) (o : Obj) : Below a.heap.size a (b.alloc o) := h.alloc h.size o
theorem bel_drew {a b : World} (h : Below a.heap.size a b) : Below a.heap.size a b.drew := h.drew
theorem bel_drewN {a b : World} (h : Below B a b) (k : Nat) : Below B a (b.drewN k) := ⟨h.os, h.tape, h.output, h.size, h.block⟩
theorem Rd.drewN (h : Rd w B A n l) (k : Nat) : Rd (w.drewN k) B A n l := h
theorem Rd.drew (h : Rd w B A n l) : Rd w.drew B A n l := h
theorem OwnB.drew (h : OwnB w e B v n l) : OwnB w.drew e B v n l := h
theorem RB.below {en : Ending} (h : RB e B w l en w') : Below B w w' := by
  obtain ⟨_, _, _, _, _, hb⟩ := h
  exact hb
end

section
variable {P : Program} (w : World)

theorem run_append_nilB (base : Nat) (t ty e : TypeId) (i : TypeInfo) (ht : P.underlying t = some (.slice e)) (hi : P.info? e = some i)
    (v : Value) (n : Nat) (xs : List Value) (hown : w.ownsRow base e 1 v n xs) (c : Nat) : (Builtin.append_ #[t, t] ty #[v, .slice none 0 c]).run P w = .ok v w := by
  rcases hown.2 with ⟨rfl, rfl⟩ | ⟨g, cap, cur, rfl, _, _, hnc, _⟩
  · simp [Builtin.append_, run_underlying ht, sizeOf, typeInfo, hi, Builtin.lenOf, Builtin.firstCells]
  · simp [Builtin.append_, run_underlying ht, sizeOf, typeInfo, hi, Builtin.lenOf, Builtin.firstCells, hnc, storeCells]

theorem ownsRow_slice {base : Nat} {e : TypeId} {size : Nat} {v : Value} {n : Nat} {xs : List Value} (h : w.ownsRow base e size v n xs) : ∃ A c, v = .slice A n c := by
  rcases h.2 with ⟨rfl, rfl⟩ | ⟨g, cap, cur, rfl, _⟩
  · exact ⟨_, _, rfl⟩
  · exact ⟨_, _, rfl⟩

theorem below_of_grown {base : Nat} {e : TypeId} {size : Nat} {v : Value} {n : Nat} {xs : List Value} {w' : World} (h : w.ownsRow base e size v n xs) (hg : w.grownBy w' v.ownBlock) (hb : base ≤ w.heap.size) : Below base w w' :=
  (Below.refl base w).grown hg hb fun k hk => (h.lt k hk).1

theorem run_appB (base : Nat) (t ty e : TypeId) (ht : P.underlying t = some (.slice e)) (hI : U8 P e)
    (v : Value) (n : Nat) (l : List UInt8) (hown : OwnB w e base v n l) (B : Nat) (A : Option Addr) (m c : Nat) (news : List UInt8) (hr : Rd w B A m news)
    (hb : n + m ≤ 1099511627776) (hbase : base ≤ w.heap.size) :
    ∃ A' c' w', (Builtin.append_ #[t, t] ty #[v, .slice A m c]).run P w = .ok (.slice A' (n + m) c') w' ∧ OwnB w' e base (.slice A' (n + m) c') (n + m) (l ++ news) ∧ Below base w w' := by
  obtain ⟨i, hi, hz, hs, hby⟩ := hI
  cases A with
  | none =>
    obtain ⟨rfl, rfl⟩ := hr.isNil
    obtain ⟨A', c', rfl⟩ := ownsRow_slice w hown
    exact ⟨A', c', w, run_append_nilB w base t ty e i ht hi _ n _ hown c, by simpa using hown, Below.refl _ _⟩
  | some ad =>
    obtain ⟨v', w', hrun, h2, h3, _⟩ := run_append_own (P := P) w base t ty e i (.int .u8 0) 1 1 ht hi hz hs hby rfl (by decide) v n _ hown ad m c (news.map bv) (by simp [hr.len]) hr.cells (oneCell_bv _)
      (by unfold maxLen; omega) (by omega) hbase
    obtain ⟨A', c', rfl⟩ := ownsRow_slice w' h2
    exact ⟨A', c', w', hrun, by unfold OwnB; rw [List.map_append]; exact h2, below_of_grown w hown h3 hbase⟩

theorem wpList_appB {ops : Array Oper} {rest : List Oper} {o : Oper} {a : Act} {Q : Exit → Act → World → Prop} (hgd : o.guard = none) (s x : Operand) (t : TypeId)
    (ho : o.op = .call { callee := .builtin .append, args := #[s, x], argTypes := #[t, t] })
    (base : Nat) (e : TypeId) (ht : P.underlying t = some (.slice e)) (hI : U8 P e)
    (v : Value) (n : Nat) (l : List UInt8) (hs : a.eval s = v) (hown : OwnB w e base v n l)
    (B : Nat) (A : Option Addr) (m c : Nat) (news : List UInt8) (hx : a.eval x = .slice A m c) (hr : Rd w B A m news)
    (hb : n + m ≤ 1099511627776) (hbase : base ≤ w.heap.size)
    (h : ∀ A' c' w', OwnB w' e base (.slice A' (n + m) c') (n + m) (l ++ news) → Below base w w' → wpList P ops Q rest (a.put o.dst (.slice A' (n + m) c')) w') : wpList P ops Q (o :: rest) a w := by
  refine wpList_plain hgd fun K hK => ?_
  obtain ⟨A', c', w', hrun, h2, h3⟩ := run_appB (P := P) w base t o.type e ht hI v n l hown B A m c news hr hb hbase
  unfold Oper.wp execOp
  simp only [ho, resolve, invoke, builtin, Sem.run_bind, Sem.run_pure, Result.andThen_ok, List.map_toArray, List.map_cons, List.map_nil, hs, hx, hrun]
  exact hK _ _ (h A' c' w' h2 h3)

theorem step_appB {ops : Array Oper} {o : Oper} {a : Act} {K : Act → World → Prop} {Q : Exit → Act → World → Prop} {E : Prop} (hgd : o.guard = none) (s x : Operand) (t : TypeId)
    (ho : o.op = .call { callee := .builtin .append, args := #[s, x], argTypes := #[t, t] })
    (base : Nat) (e : TypeId) (ht : P.underlying t = some (.slice e)) (hI : U8 P e)
    (v : Value) (n : Nat) (l : List UInt8) (hs : a.eval s = v) (hown : OwnB w e base v n l)
    (B : Nat) (A : Option Addr) (m c : Nat) (news : List UInt8) (hx : a.eval x = .slice A m c) (hr : Rd w B A m news)
    (hb : n + m ≤ 1099511627776) (hbase : base ≤ w.heap.size)
    (h : ∀ A' c' w', OwnB w' e base (.slice A' (n + m) c') (n + m) (l ++ news) → Below base w w' → K (a.put o.dst (.slice A' (n + m) c')) w') :
    if Region.wanted o (yielded ops a.tmps) = true then Oper.wp P o a w K Q else E := by
  have hw : Region.wanted o (yielded ops a.tmps) = true := by simp [Region.wanted, hgd]
  rw [if_pos hw]
  obtain ⟨A', c', w', hrun, h2, h3⟩ := run_appB (P := P) w base t o.type e ht hI v n l hown B A m c news hr hb hbase
  unfold Oper.wp execOp
  simp only [ho, resolve, invoke, builtin, Sem.run_bind, Sem.run_pure, Result.andThen_ok, List.map_toArray, List.map_cons, List.map_nil, hs, hx, hrun]
  exact h A' c' w' h2 h3

theorem wpList_app0 {ops : Array Oper} {rest : List Oper} {o : Oper} {a : Act} {Q : Exit → Act → World → Prop} (hgd : o.guard = none) (s x : Operand) (t : TypeId)
    (ho : o.op = .call { callee := .builtin .append, args := #[s, x], argTypes := #[t, t] })
    (base : Nat) (e : TypeId) (ht : P.underlying t = some (.slice e)) (hI : U8 P e)
    (v : Value) (hs : a.eval s = v) (hown : OwnB w e base v 0 [])
    (B : Nat) (A : Option Addr) (m c : Nat) (news : List UInt8) (hx : a.eval x = .slice A m c) (hr : Rd w B A m news)
    (hb : m ≤ 1099511627776) (hbase : base ≤ w.heap.size)
    (h : ∀ A' c' w', OwnB w' e base (.slice A' m c') m news → Below base w w' → wpList P ops Q rest (a.put o.dst (.slice A' m c')) w') : wpList P ops Q (o :: rest) a w :=
  wpList_appB w hgd s x t ho base e ht hI v 0 [] hs hown B A m c news hx hr (by omega) hbase fun A' c' w' h1 h2 => by
    simp only [Nat.zero_add, List.nil_append] at h1 ⊢
    exact h A' c' w' h1 h2

theorem wpList_app1 {ops : Array Oper} {rest : List Oper} {o : Oper} {a : Act} {Q : Exit → Act → World → Prop} (hgd : o.guard = none) (s x : Operand) (t : TypeId)
    (ho : o.op = .call { callee := .builtin .append, args := #[s, x], argTypes := #[t, t] })
    (base : Nat) (e : TypeId) (ht : P.underlying t = some (.slice e)) (hI : U8 P e)
    (v : Value) (n : Nat) (l : List UInt8) (hs : a.eval s = v) (hown : OwnB w e base v n l)
    (y : Int) (c : UInt8) (hx : a.eval x = .slice (some ⟨w.heap.size, 0, none⟩) 1 1) (hy : y = (c.toNat : Int))
    (hb : n + 1 ≤ 1099511627776) (hbase : base ≤ w.heap.size)
    (h : ∀ A' c' w', OwnB w' e base (.slice A' (n + 1) c') (n + 1) (l ++ [c]) → Below base w w' → wpList P ops Q rest (a.put o.dst (.slice A' (n + 1) c')) w') : wpList P ops Q (o :: rest) a (w.alloc (.cells #[.int .u8 y] e)) := by
  subst hy
  have hr : Rd (w.alloc (.cells #[.int .u8 (c.toNat : Int)] e)) (w.heap.size + 1) (some ⟨w.heap.size, 0, none⟩) 1 [c] := by
    refine ⟨rfl, fun k d hd => ⟨w.heap.size, 0, rfl, by omega, ?_⟩⟩
    cases k with
    | zero =>
      simp at hd
      subst hd
      rw [cell_of_row _ _ _ _ e (0, 0) (heap_alloc_new w _)]
      simp
    | succ k => simp at hd
  refine wpList_appB (P := P) (w.alloc (.cells #[.int .u8 (c.toNat : Int)] e)) hgd s x t ho base e ht hI v n l hs (hown.alloc _) _ _ 1 1 [c] hx hr hb (by simp; omega) fun A' c' w' h1 h2 => h A' c' w' h1 ?_
  exact ((Below.refl base w).alloc hbase _).trans h2

theorem wpList_mkB {ops : Array Oper} {rest : List Oper} {o : Oper} {a : Act} {Q : Exit → Act → World → Prop} (hg : o.guard = none) (l c : Operand) (t : TypeId) (hop : o.op = Op.makeSlice t l c)
    (e : TypeId) (ht : P.underlying t = some (.slice e)) (hI : U8 P e) (kl kc : IntKind) (C : Int) (n : Nat) (hl : a.eval l = .int kl 0) (hc : a.eval c = .int kc C) (hC : C = (n : Int)) (hn : n ≤ 140737488355328)
    (h : ∀ A' c' w', OwnB w' e w.heap.size (.slice A' 0 c') 0 [] → Below w.heap.size w w' → wpList P ops Q rest (a.put o.dst (.slice A' 0 c')) w') : wpList P ops Q (o :: rest) a w := by
  obtain ⟨i, hi, hz, hs, hby⟩ := hI
  refine wpList_make_own w hg l c t hop w.heap.size e i _ 1 ht hi hz hs kl kc C n hl hc hC (by rw [hby]; omega) (by unfold maxLen; omega) (Nat.le_refl _) fun w' h1 h2 => ?_
  exact h _ _ w' h1 ⟨h2.os, h2.tape, h2.output, h2.size, fun k hk => h2.block k hk (by simp)⟩

theorem wpList_appS {ops : Array Oper} {rest : List Oper} {o : Oper} {a : Act} {Q : Exit → Act → World → Prop} (hgd : o.guard = none) (s x : Operand) (t u : TypeId)
    (ho : o.op = .call { callee := .builtin .append, args := #[s, x], argTypes := #[t, u] })
    (base : Nat) (e : TypeId) (ht : P.underlying t = some (.slice e)) (hu : P.underlying u = some .string) (hI : U8 P e)
    (v : Value) (n : Nat) (l : List UInt8) (hs : a.eval s = v) (hown : OwnB w e base v n l)
    (st : ByteArray) (hx : a.eval x = .string st) (hb : n + st.size ≤ 1099511627776) (hbase : base ≤ w.heap.size)
    (h : ∀ A' c' w', OwnB w' e base (.slice A' (n + st.size) c') (n + st.size) (l ++ st.data.toList) → Below base w w' → wpList P ops Q rest (a.put o.dst (.slice A' (n + st.size) c')) w') : wpList P ops Q (o :: rest) a w := by
  obtain ⟨i, hi, hz, hsz, hby⟩ := hI
  refine Lib.wpList_append_own_string (P := P) w hgd s x t u ho base e i ht hu hi hz hsz hby v n _ hs hown st hx (by unfold maxLen; omega) (by omega) hbase fun v' w' h2 h3 _ => ?_
  obtain ⟨A', c', rfl⟩ := ownsRow_slice w' h2
  refine h A' c' w' ?_ (below_of_grown w hown h3 hbase)
  unfold OwnB
  rw [List.map_append]
  exact h2

end
end Go.Proofs.YtlfbagkonckffaaGreat.Oct
