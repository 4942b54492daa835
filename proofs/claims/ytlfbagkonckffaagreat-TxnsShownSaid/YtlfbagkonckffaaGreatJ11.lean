/- Joined: InR, InC, InT. -/
import Derived.OrdersHeld
import Derived.OrdersIn
import Derived.RangeFuncCalls
import Derived.Deep.RegionHeld3
import Derived.Lib.Hide
import Derived.WalkKit
/- A region that draws its order, inside a round of a loop over a function: its loads are taken first where nobody but its last store writes their cells; what is left comes up one by one. Nothing of the program: P, the operations and the worlds are letters. -/
namespace Go.Proofs.YtlfbagkonckffaaGreat.InR
open Go.RowKit

def Nrm (Q : Exit → Act → World → Prop) : Exit → Act → World → Prop
  | .normal, a, w => Q .normal a w
  | _, _, _ => False
section
variable {P : Program} {ops : Array Oper} {Q : Exit → Act → World → Prop} {md : Region.Mode} {S : World → Prop} {k n l : Nat}
theorem nrm_out (h : LetsOut (Nrm Q)) : False := by
  obtain ⟨a, w, h⟩ := h
  exact h
def anyK (P : Program) (md : Region.Mode) (ops : Array Oper) (Q : Exit → Act → World → Prop) (S : World → Prop) (k : Nat) : Nat → Array Bool → Act → World → Prop
  | 0, listed, a, w => Region.ready md ops listed = [] ∧ Q .normal a w
  | fuel + 1, listed, a, w => (Region.ready md ops listed = [] → Q .normal a w) ∧
      ∀ i ∈ Region.ready md ops listed, wpOp P ops (Nrm Q) i (fun a' w' => (i ≠ k → S w') ∧ anyK P md ops Q S k fuel (listed.setIfInBounds i true) a' w') a w
def waits (md : Region.Mode) (ops : Array Oper) (k i : Nat) : Bool :=
  match ops[k]? with
  | none => true
  | some o => o.after.any fun e => Region.binds md e && e.on == i
theorem waits_spec {i : Nat} (h : waits md ops k i = true) {o : Oper} (ho : ops[k]? = some o) : ∃ e ∈ o.after, Region.binds md e = true ∧ e.on = i := by
  unfold waits at h
  rw [ho] at h
  obtain ⟨e, he, h2⟩ := Array.any_eq_true'.1 h
  rw [Bool.and_eq_true] at h2
  exact ⟨e, he, h2.1, by simpa using h2.2⟩
theorem listed_of {listed : Array Bool} {i : Nat} (h0 : listed.getD i true = false) (h1 : listed.getD i false = true) : False := by
  rcases Nat.lt_or_ge i listed.size with h' | h'
  · simp [h'] at h0 h1; rw [h0] at h1; cases h1
  · simp [Array.getElem?_eq_none h'] at h1
theorem anyK_first {i : Nat} {oi : Oper} {v : Value} (hi : ops[i]? = some oi) (hsel : ∀ (j : Nat) (o : Oper) cs b, ops[j]? = some o → o.op ≠ .select cs b) (hk : waits md ops k i = true) :
    ∀ (fuel : Nat) (listed : Array Bool) (a : Act) (w : World),
      (∀ j oj, ops[j]? = some oj → j ≠ i → listed.getD j true = false → (∀ e ∈ oj.after, Region.binds md e = true → e.on ≠ i) → oi.apart ops oj = true) →
      i ∈ Region.ready md ops listed → YieldsIf P ops S oi v a → S w →
      anyK P md ops Q S k fuel (listed.setIfInBounds i true) (a.put oi.dst v) w → anyK P md ops Q S k (fuel + 1) listed a w := by
  intro fuel
  induction fuel with
  | zero =>
    intro listed a w _ hr hy hS H
    refine ⟨fun h => (by rw [h] at hr; cases hr), fun j hj => ?_⟩
    by_cases hji : j = i
    · subst hji
      exact hy.wpOp hi hS ⟨fun _ => hS, H⟩
    · have h2 := ready_mono hj hji
      rw [H.1] at h2
      cases h2
  | succ fuel ih =>
    intro listed a w hfree hr hy hS H
    refine ⟨fun h => (by rw [h] at hr; cases hr), fun j hj => ?_⟩
    by_cases hji : j = i
    · subst hji
      exact hy.wpOp hi hS ⟨fun _ => hS, H⟩
    · obtain ⟨hjun, oj, hoj, hall⟩ := mem_ready.1 hj
      have h0 := (mem_ready.1 hr).1
      have hnot : ∀ e ∈ oj.after, Region.binds md e = true → e.on ≠ i := fun e he hb heq => by
        have h1 := hall e he hb
        rw [heq] at h1
        exact listed_of h0 h1
      have hjk : j ≠ k := by
        rintro rfl
        obtain ⟨e, he, hb, heq⟩ := waits_spec hk hoj
        exact hnot e he hb heq
      have h2 := wpOp_putIf hoj (hfree j oj hoj hji hjun hnot) (fun cs b => hsel i oi cs b hi) (fun cs b => hsel j oj cs b hoj) (fun _ _ _ h => h) hy (H.2 j (ready_mono hj hji))
      have hfree' : ∀ m om, ops[m]? = some om → m ≠ i → (listed.setIfInBounds j true).getD m true = false → (∀ e ∈ om.after, Region.binds md e = true → e.on ≠ i) → oi.apart ops om = true := fun m om hm hmi hun hno => by
        refine hfree m om hm hmi ?_ hno
        by_cases hjm : j = m
        · subst hjm; exact hjun
        · rw [getD_set_ne true hjm] at hun; exact hun
      refine wpOp_mono (fun a' w' h3 => ⟨h3.2.1, ih (listed.setIfInBounds j true) a' w' hfree' (ready_mono hr (Ne.symm hji)) h3.1 (h3.2.1 hjk) ?_⟩) h2
      rw [Array.setIfInBounds_comm _ _ hji]
      exact h3.2.2
theorem takeK (i : Nat) (oi : Oper) (v : Value) {fuel : Nat} {listed : Array Bool} {a : Act} {w : World} (hi : ops[i]? = some oi) (hs : Region.noSelect ops = true) (hf : Region.free md ops listed i = true) (hr : (Region.ready md ops listed).contains i = true) (hk : waits md ops k i = true)
    (hw : Region.wanted oi (yielded ops a.tmps) = true) (hy : ∀ w, S w → (execOp a.eval oi).run P w = .ok (.value v) w) (hS : S w) (h : anyK P md ops Q S k fuel (listed.setIfInBounds i true) (a.put oi.dst v) w) : anyK P md ops Q S k (fuel + 1) listed a w :=
  anyK_first hi (Region.noSelect_spec hs) hk fuel listed a w (Region.free_spec hi hf) (by simpa using hr) (.inl ⟨hw, hy⟩) hS h
theorem takeKU (i : Nat) (oi : Oper) {fuel : Nat} {listed : Array Bool} {a : Act} {w : World} (hi : ops[i]? = some oi) (hs : Region.noSelect ops = true) (hf : Region.free md ops listed i = true) (hr : (Region.ready md ops listed).contains i = true) (hk : waits md ops k i = true)
    (hw : Region.wanted oi (yielded ops a.tmps) = false) (hS : S w) (h : anyK P md ops Q S k fuel (listed.setIfInBounds i true) (a.put oi.dst undef) w) : anyK P md ops Q S k (fuel + 1) listed a w :=
  anyK_first hi (Region.noSelect_spec hs) hk fuel listed a w (Region.free_spec hi hf) (by simpa using hr) (.inr ⟨hw, rfl⟩) hS h
theorem doneK {listed : Array Bool} {a : Act} {w : World} (hr : Region.ready md ops listed = []) (h : Q .normal a w) : ∀ fuel, anyK P md ops Q S k fuel listed a w
  | 0 => ⟨hr, h⟩
  | _ + 1 => ⟨fun _ => h, by rw [hr]; simp⟩
def noDefer (ops : Array Oper) : Bool := ops.all fun o => match o.op with | .defer _ => false | _ => true
theorem noDefer_spec (h : noDefer ops = true) {j : Nat} {o : Oper} (ho : ops[j]? = some o) : ∀ c, o.op ≠ .defer c := by
  intro c heq
  have h2 := Array.all_eq_true_iff_forall_mem.1 h o (Array.mem_of_getElem? ho)
  simp [heq] at h2
theorem rows_wide {row : String} {args : Array Value} {w : World} {R : Value → World → Prop} (h : Rows P row args w R) : RowsIn (Fence.wide.inRound l) n P row args w R :=
  fun c cs _ => let ⟨v, w', r, s⟩ := h c cs; ⟨v, w', r, stepsIn_wide.2 s⟩
theorem oper_in {o : Oper} {a : Act} {w : World} {K : Act → World → Prop} (hd : ∀ c, o.op ≠ .defer c) (h : o.wp P a w K (Nrm Q)) : o.wpIn (Fence.wide.inRound l) n P a w K Q := by
  refine ⟨fun _ _ => trivial, ?_⟩
  show o.uponIn (Fence.wide.inRound l) n P a K Q ((o.semAt (some l) a.eval).run P w)
  rw [Oper.semAt_eq (some l) a.eval o hd]
  unfold Oper.wp at h
  generalize (execOp a.eval o).run P w = r at h
  cases r with
  | ok x w' =>
    cases x with
    | value u => exact h
    | skip => exact h
    | defer d => exact h
    | enter f args =>
      refine ⟨fun h0 => (by cases h0), CallsIn.inRound l ((callsIn_wide.2 h).mono ?_)⟩
      intro e w2 he
      cases e with
      | returned u => exact he
      | panicked c => exact (he : False).elim
      | outgrown => exact (nrm_out he).elim
    | row row args => exact ⟨fun h0 => (by cases h0), rows_wide h⟩
    | _ => exact (h : False).elim
  | halt x w' => cases x <;> first | exact (h : False).elim | exact h.elim
theorem any_in (hd : noDefer ops = true) : ∀ (fuel : Nat) (listed : Array Bool) (a : Act) (w : World), anyK P md ops Q S k fuel listed a w → wpAnyIn (Fence.wide.inRound l) n P md ops Q fuel listed a w
  | 0, _, _, _, h => h
  | fuel + 1, listed, a, w, h => by
    refine ⟨h.1, fun i hi => ?_⟩
    have h2 := h.2 i hi
    have h3 : wpOp P ops (Nrm Q) i (wpAnyIn (Fence.wide.inRound l) n P md ops Q fuel (listed.setIfInBounds i true)) a w := wpOp_mono (fun a' w' h4 => any_in hd fuel _ a' w' h4.2) h2
    unfold wpOp at h3
    unfold wpOpIn
    cases ho : ops[i]? with
    | none => rw [ho] at h3; exact h3
    | some o =>
      rw [ho] at h3
      simp only at h3 ⊢
      by_cases hw : Region.wanted o (yielded ops a.tmps) = true
      · rw [if_pos hw] at h3 ⊢
        rcases h3 with h3 | h3
        · exact oper_in (noDefer_spec hd ho) h3
        · exact (nrm_out h3.2).elim
      · rw [if_neg hw] at h3 ⊢
        exact ⟨fun _ _ => trivial, h3⟩
theorem nrm_imp : ∀ (e : Exit) (a : Act) (w : World), Nrm Q e a w → Q e a w := fun e a w h => by cases e <;> first | exact h | exact (h : False).elim
theorem any_plain : ∀ (fuel : Nat) (listed : Array Bool) (a : Act) (w : World), anyK P md ops Q S k fuel listed a w → wpAny P md ops (Nrm Q) fuel listed a w
  | 0, _, _, _, h => h
  | fuel + 1, _, _, _, h => ⟨h.1, fun i hi => wpOp_mono (fun a' w' h4 => any_plain fuel _ a' w' h4.2) (h.2 i hi)⟩
theorem region_plain {id : Nat} {a : Act} {w : World} (S : World → Prop) (k : Nat) (hm : P.follows .mixedOrders = true) (h : anyK P .any ops Q S k ops.size (Array.replicate ops.size false) a w.drew) : (Code.region id ops true).wp P Q a w :=
  wp_mono (wp_region_any hm (any_plain _ _ _ _ h)) nrm_imp
theorem step_append {o : Oper} {a : Act} {w w' : World} {K : Act → World → Prop} {Q : Exit → Act → World → Prop} {E : Prop} {vs vx v : Value} (hgd : o.guard = none) (s x : Operand) (t : TypeId)
    (ho : o.op = .call { callee := .builtin .append, args := #[s, x], argTypes := #[t, t] }) (hs : a.eval s = vs) (hx : a.eval x = vx) (hrun : (Builtin.append_ #[t, t] o.type #[vs, vx]).run P w = .ok v w') (h : K (a.put o.dst v) w') :
    if Region.wanted o (yielded ops a.tmps) = true then Oper.wp P o a w K Q else E := by
  have hw : Region.wanted o (yielded ops a.tmps) = true := by simp [Region.wanted, hgd]
  rw [if_pos hw]
  unfold Oper.wp execOp
  simp only [ho, resolve, invoke, builtin, Sem.run_bind, Sem.run_pure, Result.andThen_ok, List.map_toArray, List.map_cons, List.map_nil, hs, hx, hrun]
  exact h
theorem region_round {id : Nat} {a : Act} {w : World} (S : World → Prop) (k : Nat) (hm : P.follows .mixedOrders = true) (hd : noDefer ops = true) (h : anyK P .any ops Q S k ops.size (Array.replicate ops.size false) a w.drew) : (Code.region id ops true).wpIn (Fence.wide.inRound l) n P Q a w :=
  wpIn_region_any hm (any_in hd _ _ _ _ h)
end
end Go.Proofs.YtlfbagkonckffaaGreat.InR

/- A region that draws its order, walked in an order of one's own choice: the operations and the way on are letters, so that a step's goal stays small; what is listed is a number's bits. Nothing of the program. -/
namespace Go.Proofs.YtlfbagkonckffaaGreat.InR
open Go.RowKit

def bitsA (n m : Nat) : Array Bool := ((List.range n).map fun j => m.testBit j).toArray
theorem bitsA_zero (n : Nat) : bitsA n 0 = Array.replicate n false := by
  unfold bitsA
  apply Array.ext
  · simp
  · intro j h1 h2; simp
theorem bitsA_at (n m j : Nat) : (bitsA n m)[j]? = if j < n then some (m.testBit j) else none := by
  unfold bitsA
  rw [List.getElem?_toArray, List.getElem?_map]
  by_cases h : j < n
  · rw [List.getElem?_range h, if_pos h]; rfl
  · rw [List.getElem?_eq_none (by simpa using h), if_neg h]; rfl
theorem bitsA_set {n m i : Nat} (hi : i < n) : (bitsA n m).setIfInBounds i true = bitsA n (m ||| 2 ^ i) := by
  apply Array.ext_getElem?
  intro j
  have hs : (bitsA n m).size = n := by simp [bitsA]
  rw [Array.getElem?_setIfInBounds, bitsA_at, bitsA_at, hs]
  by_cases hj : i = j
  · subst hj; rw [if_pos rfl, if_pos hi, if_pos hi, Nat.testBit_or, Nat.testBit_two_pow_self]; simp
  · rw [if_neg hj]
    by_cases h : j < n
    · rw [if_pos h, if_pos h, Nat.testBit_or, Nat.testBit_two_pow_of_ne hj]; simp
    · rw [if_neg h, if_neg h]
def lift (Q : Act → World → Prop) : Exit → Act → World → Prop
  | .normal, a, w => Q a w
  | _, _, _ => False
section
variable {P : Program} {md : Region.Mode} {ops L : Array Oper} {Q : Act → World → Prop} {S : World → Prop} {k d fuel m : Nat} {a : Act} {w w' : World} {oi : Oper}
def chn (P : Program) (md : Region.Mode) (ops : Array Oper) (Q : Act → World → Prop) (S : World → Prop) (k fuel m : Nat) (a : Act) (w : World) : Prop :=
  anyK P md ops (lift Q) S k fuel (bitsA ops.size m) a w
def okQ (md : Region.Mode) (ops : Array Oper) (k m i : Nat) : Bool := Region.noSelect ops && Region.free md ops (bitsA ops.size m) i && (Region.ready md ops (bitsA ops.size m)).contains i && waits md ops k i
def okC (md : Region.Mode) (ops : Array Oper) (m i : Nat) : Bool := Region.ready md ops (bitsA ops.size m) == [i]
theorem lt_of {i : Nat} {x : Option Oper} (h : ops[i]? = x) (hx : x = some oi) : i < ops.size := by
  subst hx; exact (Array.getElem?_eq_some_iff.1 h).1
theorem stepQ (hL : Hid (ops = L)) (i m' : Nat) (v : Value) (hm : m' = m ||| 2 ^ i) (hi : L[i]? = some oi) (hok : okQ md L k m i = true) (hw : Region.wanted oi (yielded L a.tmps) = true) (hd : oi.dst = some d) (hy : ∀ w, S w → (execOp a.eval oi).run P w = .ok (.value v) w) (hS : S w)
    (h : chn P md ops Q S k fuel m' (a.put (some d) v) w) : chn P md ops Q S k (fuel + 1) m a w := by
  obtain rfl := hL.out
  subst hm
  have hlt := lt_of hi rfl
  simp only [okQ, Bool.and_eq_true] at hok
  obtain ⟨⟨⟨h1, h2⟩, h3⟩, h4⟩ := hok
  unfold chn at h ⊢
  refine takeK i oi v hi h1 h2 h3 h4 hw hy hS ?_
  rw [bitsA_set hlt, hd]
  exact h
theorem stepU (hL : Hid (ops = L)) (i m' : Nat) (hm : m' = m ||| 2 ^ i) (hi : L[i]? = some oi) (hok : okQ md L k m i = true) (hw : Region.wanted oi (yielded L a.tmps) = false) (hd : oi.dst = some d) (hS : S w)
    (h : chn P md ops Q S k fuel m' (a.put (some d) undef) w) : chn P md ops Q S k (fuel + 1) m a w := by
  obtain rfl := hL.out
  subst hm
  have hlt := lt_of hi rfl
  simp only [okQ, Bool.and_eq_true] at hok
  obtain ⟨⟨⟨h1, h2⟩, h3⟩, h4⟩ := hok
  unfold chn at h ⊢
  refine takeKU i oi hi h1 h2 h3 h4 hw hS ?_
  rw [bitsA_set hlt, hd]
  exact h
theorem stepC (hL : Hid (ops = L)) (i m' : Nat) (hm : m' = m ||| 2 ^ i) (hi : L[i]? = some oi) (hok : okC md L m i = true) (hw : Region.wanted oi (yielded L a.tmps) = true)
    (h : Oper.wp P oi a w (fun a' w' => (i ≠ k → S w') ∧ chn P md ops Q S k fuel m' a' w') (Nrm (lift Q))) : chn P md ops Q S k (fuel + 1) m a w := by
  obtain rfl := hL.out
  subst hm
  have hlt := lt_of hi rfl
  have hr : Region.ready md ops (bitsA ops.size m) = [i] := by simpa [okC] using hok
  unfold chn at h ⊢
  refine ⟨fun h0 => by (rw [hr] at h0; cases h0), fun j hj => ?_⟩
  rw [hr, List.mem_singleton] at hj
  subst hj
  refine wpOp_step hi fun K' hK => ?_
  rw [if_pos hw]
  refine Oper.wp_mono (fun a' w' h2 => hK a' w' ?_) h
  rw [bitsA_set hlt]
  exact h2
theorem stepE (hL : Hid (ops = L)) (hr : Region.ready md L (bitsA L.size m) = []) (h : Q a w) : chn P md ops Q S k fuel m a w := by
  obtain rfl := hL.out
  unfold chn
  exact doneK hr h _
theorem region_let {id : Nat} {Q : Exit → Act → World → Prop} (S : World → Prop) (k n : Nat) (hm : P.follows .mixedOrders = true) (hn : ops.size = n)
    (h : ∀ (ops' : Array Oper) (Q' : Act → World → Prop), Hid (ops' = ops) → Hid (∀ a w, Q .normal a w → Q' a w) → chn P .any ops' Q' S k n 0 a w.drew) : (Code.region id ops true).wp P Q a w := by
  have h1 := h ops (fun a w => Q .normal a w) (Lib.hid rfl) (Lib.hid fun _ _ h => h)
  unfold chn at h1
  rw [bitsA_zero, ← hn] at h1
  refine wp_mono (region_plain (Q := lift fun a w => Q .normal a w) S k hm h1) fun e a w h => ?_
  cases e <;> first | exact h | exact (h : False).elim
end
end Go.Proofs.YtlfbagkonckffaaGreat.InR

/- A region that draws its order: what may be taken next is read off the bits of numbers that are reckoned once for the region. Nothing of the program. -/
namespace Go.Proofs.YtlfbagkonckffaaGreat.InR
open Go.RowKit

theorem fold_bit {α : Type} (l : List α) (p : α → Bool) (f : α → Nat) (j : Nat) :
    (l.foldr (fun e m => if p e then m ||| 2 ^ f e else m) 0).testBit j = true ↔ ∃ e ∈ l, p e = true ∧ f e = j := by
  induction l with
  | nil => simp
  | cons x l ih =>
    rw [List.foldr_cons]
    by_cases hp : p x = true
    · rw [if_pos hp, Nat.testBit_or, Bool.or_eq_true, ih, Nat.testBit_two_pow]
      constructor
      · rintro (⟨e, he, h1, h2⟩ | h)
        · exact ⟨e, List.mem_cons_of_mem _ he, h1, h2⟩
        · exact ⟨x, List.mem_cons_self, hp, of_decide_eq_true h⟩
      · rintro ⟨e, he, h1, h2⟩
        rcases List.mem_cons.1 he with rfl | he
        · exact .inr (decide_eq_true h2)
        · exact .inl ⟨e, he, h1, h2⟩
    · rw [if_neg hp, ih]
      constructor
      · rintro ⟨e, he, h1, h2⟩; exact ⟨e, List.mem_cons_of_mem _ he, h1, h2⟩
      · rintro ⟨e, he, h1, h2⟩
        rcases List.mem_cons.1 he with rfl | he
        · exact absurd h1 hp
        · exact ⟨e, he, h1, h2⟩
def depM (md : Region.Mode) (o : Oper) : Nat := o.after.toList.foldr (fun e m => if Region.binds md e then m ||| 2 ^ e.on else m) 0
def saB (md : Region.Mode) (ops : Array Oper) (oi : Oper) (i j : Nat) : Bool := j == i || (match ops[j]? with | some oj => oj.after.any (fun e => Region.binds md e && e.on == i) || oi.apart ops oj | none => true)
def saM (md : Region.Mode) (ops : Array Oper) (oi : Oper) (i : Nat) : Nat := (List.range ops.size).foldr (fun j m => if saB md ops oi i j then m ||| 2 ^ j else m) 0
def masks (md : Region.Mode) (ops : Array Oper) : List (Nat × Nat) := (List.range ops.size).map fun i => match ops[i]? with | some o => (depM md o, saM md ops o i) | none => (0, 0)
def okT (n : Nat) (tbl : List (Nat × Nat)) (m i : Nat) : Bool :=
  !(m.testBit i) && decide (i < n) && ((tbl.getD i (0, 0)).1 &&& (m % 2 ^ n) == (tbl.getD i (0, 0)).1) && ((m ||| (tbl.getD i (0, 0)).2) &&& (2 ^ n - 1) == 2 ^ n - 1)
structure Reg (md : Region.Mode) (ops : Array Oper) (k n : Nat) (tbl : List (Nat × Nat)) : Prop where
  size : ops.size = n
  sel : Region.noSelect ops = true
  tab : masks md ops = tbl
  le : n ≤ k
theorem bitsA_getD (n m j : Nat) (b : Bool) : (bitsA n m).getD j b = if j < n then m.testBit j else b := by
  rw [Array.getD_eq_getD_getElem?, bitsA_at]
  split <;> rfl
section
variable {P : Program} {md : Region.Mode} {ops L : Array Oper} {Q : Act → World → Prop} {S : World → Prop} {k d fuel m n : Nat} {w w' : World} {oi : Oper} {tbl : List (Nat × Nat)}
theorem okT_ok {i : Nat} (hR : Reg md ops k n tbl) (h : okT n tbl m i = true) : okQ md ops k m i = true := by
  obtain ⟨rfl, hs, ht, hk⟩ := hR
  unfold okT at h
  simp only [Bool.and_eq_true, Bool.not_eq_true', decide_eq_true_eq, beq_iff_eq] at h
  obtain ⟨⟨⟨h1, h2⟩, h3⟩, h4⟩ := h
  have hoi : ops[i]? = some (ops[i]'h2) := Array.getElem?_eq_getElem h2
  have hti : tbl.getD i (0, 0) = (depM md (ops[i]'h2), saM md ops (ops[i]'h2) i) := by
    rw [← ht, List.getD_eq_getElem?_getD]
    unfold masks
    rw [List.getElem?_map, List.getElem?_range h2]
    simp [hoi]
  rw [hti] at h3 h4
  simp only at h3 h4
  unfold okQ
  rw [hs, Bool.true_and]
  have a1 : Region.free md ops (bitsA ops.size m) i = true := by
    unfold Region.free
    rw [hoi]
    simp only
    rw [List.all_eq_true]
    intro j hj
    rw [List.mem_range] at hj
    have hb := congrArg (fun x => Nat.testBit x j) h4
    simp only [Nat.testBit_and, Nat.testBit_two_pow_sub_one, hj, decide_true, Bool.and_true, Nat.testBit_or] at hb
    rw [bitsA_getD, if_pos hj]
    rcases hm : m.testBit j with _ | _
    · rw [hm, Bool.false_or] at hb
      obtain ⟨j', _, h5, rfl⟩ := (fold_bit (List.range ops.size) (saB md ops (ops[i]'h2) i) id j).1 hb
      simp only [id] at hj ⊢
      unfold saB at h5
      cases hj' : ops[j']? with
      | none => simp
      | some oj => rw [hj'] at h5; simpa using h5
    · simp
  have a2 : (Region.ready md ops (bitsA ops.size m)).contains i = true := by
    rw [List.contains_iff_mem]
    unfold Region.ready
    rw [List.mem_filter, List.mem_range]
    refine ⟨h2, ?_⟩
    rw [bitsA_getD, if_pos h2, h1, hoi]
    simp only [Bool.not_false, Bool.true_and, Option.map_some, Option.getD_some]
    rw [Array.all_eq_true_iff_forall_mem]
    intro e he
    rcases hb : Region.binds md e with _ | _
    · rfl
    · have h5 : (depM md (ops[i]'h2)).testBit e.on = true := (fold_bit _ _ _ _).2 ⟨e, by simpa using he, hb, rfl⟩
      rw [← h3, Nat.testBit_and, Bool.and_eq_true, Nat.testBit_mod_two_pow, Bool.and_eq_true] at h5
      rw [bitsA_getD, if_pos (of_decide_eq_true h5.2.1), h5.2.2]
      rfl
  have a3 : waits md ops k i = true := by
    unfold waits
    rw [Array.getElem?_eq_none hk]
  rw [a1, a2, a3]
  rfl
/-! the frame written out: no rewriting is needed behind a step -/
theorem put_lit {l : List Value} {ds} {v : Value} : (Act.mk l.toArray ds).put (some d) v = Act.mk (l.set d v).toArray ds := by simp [Act.put]
theorem stepQL {l : List Value} {ds} (hL : Hid (ops = L)) (i m' : Nat) (v : Value) (hm : m' = m ||| 2 ^ i) (hi : L[i]? = some oi) (hok : okQ md L k m i = true) (hw : Region.wanted oi (yielded L l.toArray) = true) (hd : oi.dst = some d) (hy : ∀ w, S w → (execOp (Act.mk l.toArray ds).eval oi).run P w = .ok (.value v) w) (hS : S w)
    (h : chn P md ops Q S k fuel m' (Act.mk (l.set d v).toArray ds) w) : chn P md ops Q S k (fuel + 1) m (Act.mk l.toArray ds) w :=
  stepQ hL i m' v hm hi hok hw hd hy hS (put_lit (d := d) ▸ h)
theorem stepUL {l : List Value} {ds} (hL : Hid (ops = L)) (i m' : Nat) (hm : m' = m ||| 2 ^ i) (hi : L[i]? = some oi) (hok : okQ md L k m i = true) (hw : Region.wanted oi (yielded L l.toArray) = false) (hd : oi.dst = some d) (hS : S w)
    (h : chn P md ops Q S k fuel m' (Act.mk (l.set d undef).toArray ds) w) : chn P md ops Q S k (fuel + 1) m (Act.mk l.toArray ds) w :=
  stepU hL i m' hm hi hok hw hd hS (put_lit (d := d) ▸ h)
theorem stepTQ {l : List Value} {ds} (hL : Hid (ops = L)) (hR : Hid (Reg md L k n tbl)) (i m' : Nat) (v : Value) (hm : m' = m ||| 2 ^ i) (hi : L[i]? = some oi) (hok : okT n tbl m i = true) (hw : Region.wanted oi (yielded L l.toArray) = true) (hd : oi.dst = some d) (hy : ∀ w, S w → (execOp (Act.mk l.toArray ds).eval oi).run P w = .ok (.value v) w) (hS : S w)
    (h : chn P md ops Q S k fuel m' (Act.mk (l.set d v).toArray ds) w) : chn P md ops Q S k (fuel + 1) m (Act.mk l.toArray ds) w :=
  stepQL hL i m' v hm hi (okT_ok hR.out hok) hw hd hy hS h
theorem stepTU {l : List Value} {ds} (hL : Hid (ops = L)) (hR : Hid (Reg md L k n tbl)) (i m' : Nat) (hm : m' = m ||| 2 ^ i) (hi : L[i]? = some oi) (hok : okT n tbl m i = true) (hw : Region.wanted oi (yielded L l.toArray) = false) (hd : oi.dst = some d) (hS : S w)
    (h : chn P md ops Q S k fuel m' (Act.mk (l.set d undef).toArray ds) w) : chn P md ops Q S k (fuel + 1) m (Act.mk l.toArray ds) w :=
  stepUL hL i m' hm hi (okT_ok hR.out hok) hw hd hS h
theorem reg_of (_ : Hid (ops = L)) (tbl : List (Nat × Nat)) (h1 : L.size = n) (h2 : Region.noSelect L = true) (h3 : masks .any L = tbl) (h4 : n ≤ 99) : Hid (Reg .any L 99 n tbl) := Lib.hid ⟨h1, h2, h3, h4⟩
end
end Go.Proofs.YtlfbagkonckffaaGreat.InR
