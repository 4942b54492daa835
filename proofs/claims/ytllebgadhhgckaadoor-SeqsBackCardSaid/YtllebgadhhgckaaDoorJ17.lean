/- Joined: RowO, SqsD9. -/
import Derived.Test.YtllebgadhhgckaaDoorJ04
import Derived.Test.YtllebgadhhgckaaDoorJ16
import Derived.Lib.LazyBuf
/- Rows of structs each of which leads to a row of the call's own: all in blocks of their own. Nothing of the program. -/
namespace Go.Proofs.YtllebgadhhgckaaDoor.RowO
open Go.RowKit Oct RowF RowK RowL

variable {α β : Type}
abbrev kidV (x : KX α) : Value := .slice x.2.1 x.2.2.1 x.2.2.2
structure OwnO (T : Two α β) (w : World) (er ek : TypeId) (B : Nat) (v : Value) (n : Nat) (hs : List (KX α)) (S : Nat → Prop) : Prop where
  row : OwnF T.enc T.sz w er B v n hs
  kid : ∀ i x, S i → hs[i]? = some x → OwnF T.sub T.isz w ek B (kidV x) x.2.2.1 (T.kids x.1)
  most : ∀ i x, S i → hs[i]? = some x → x.2.2.1 ≤ T.most
  far : ∀ i x, S i → hs[i]? = some x → Apart v (kidV x)
  two : ∀ i j x y, S i → S j → i ≠ j → hs[i]? = some x → hs[j]? = some y → Apart (kidV x) (kidV y)
def Off (u v : Value) (hs : List (KX α)) (S : Nat → Prop) : Prop := Apart u v ∧ ∀ i x, S i → hs[i]? = some x → Apart u (kidV x)
section
variable {T : Two α β} {w w' : World} {er ek : TypeId} {B B' n m c : Nat} {A : Option Addr} {u u' v v' : Value} {hs : List (KX α)} {S S' : Nat → Prop} {x y : KX α} {i : Nat} {row : Option Nat}
theorem OwnO.nil : OwnO T w er ek B (.slice none 0 0) 0 ([] : List (KX α)) S := ⟨OwnF.nil, by simp, by simp, by simp, by simp⟩
theorem OwnO.ofRow (h : OwnF T.enc T.sz w er B v n hs) : OwnO T w er ek B v n hs (fun _ => False) := ⟨h, fun _ _ h => h.elim, fun _ _ h => h.elim, fun _ _ h => h.elim, fun _ _ _ _ h => h.elim⟩
theorem OwnO.len (h : OwnO T w er ek B v n hs S) : hs.length = n := h.row.len T.sh
theorem OwnO.less (h : OwnO T w er ek B v n hs S) (hS : ∀ i, S' i → S i) : OwnO T w er ek B v n hs S' :=
  ⟨h.row, fun i x hi => h.kid i x (hS i hi), fun i x hi => h.most i x (hS i hi), fun i x hi => h.far i x (hS i hi), fun i j x y hi hj => h.two i j x y (hS i hi) (hS j hj)⟩
theorem OwnO.lessAt (h : OwnO T w er ek B v n hs S) (hS : ∀ i, i < n → S' i → S i) : OwnO T w er ek B v n hs S' := by
  have hl := h.len
  have hlt : ∀ {i : Nat} {x : KX α}, hs[i]? = some x → i < n := fun hx => hl ▸ (List.getElem?_eq_some_iff.1 hx).1
  exact ⟨h.row, fun i x hi hx => h.kid i x (hS i (hlt hx) hi) hx, fun i x hi hx => h.most i x (hS i (hlt hx) hi) hx, fun i x hi hx => h.far i x (hS i (hlt hx) hi) hx,
    fun i j x y hi hj hij hx hy => h.two i j x y (hS i (hlt hx) hi) (hS j (hlt hy) hj) hij hx hy⟩
theorem OwnO.kept (h : OwnO T w er ek B v n hs S) (hg : w.grownBy w' row) (h1 : v.ownBlock = none ∨ v.ownBlock ≠ row) (h2 : ∀ i x, S i → hs[i]? = some x → (kidV x).ownBlock = none ∨ (kidV x).ownBlock ≠ row) : OwnO T w' er ek B v n hs S :=
  ⟨World.ownsRow.kept h.row hg h1, fun i x hi hx => World.ownsRow.kept (h.kid i x hi hx) hg (h2 i x hi hx), h.most, h.far, h.two⟩
theorem OwnO.below (h : OwnO T w er ek B v n hs S) (hb : Below w.heap.size w w') : OwnO T w' er ek B v n hs S :=
  ⟨h.row.below hb, fun i x hi hx => (h.kid i x hi hx).below hb, h.most, h.far, h.two⟩
theorem OwnO.drew (h : OwnO T w er ek B v n hs S) : OwnO T w.drew er ek B v n hs S := ⟨h.row, h.kid, h.most, h.far, h.two⟩
theorem OwnO.alloc (h : OwnO T w er ek B v n hs S) (o : Obj) : OwnO T (w.alloc o) er ek B v n hs S := h.below ((Below.refl _ _).alloc (Nat.le_refl _) o)
theorem OwnO.more (h : OwnO T w er ek B v n hs S) (hB : B' ≤ B) : OwnO T w er ek B' v n hs S :=
  ⟨h.row.more hB, fun i x hi hx => (h.kid i x hi hx).more hB, h.most, h.far, h.two⟩
theorem OwnO.setOld (h : OwnO T w er ek B v n hs S) {p : Addr} (hp : p.block < B) (q : Value) : OwnO T (w.setCell p q) er ek B v n hs S :=
  ⟨h.row.setBelow hp q, fun i x hi hx => (h.kid i x hi hx).setBelow hp q, h.most, h.far, h.two⟩
theorem OwnO.cap (h : OwnO T w er ek B (.slice A n c) n hs S) : n ≤ c := h.row.cap
theorem OwnO.rd (h : OwnO T w er ek B (.slice A n c) n hs (fun _ => True)) : RdK T w w.heap.size A n (hs.map (·.1)) := by
  refine ⟨by rw [List.length_map]; exact h.len, fun i l hl => ?_⟩
  rw [List.getElem?_map] at hl
  cases hx : hs[i]? with
  | none => rw [hx] at hl; cases hl
  | some x =>
    rw [hx] at hl
    obtain rfl : x.1 = l := Option.some.inj hl
    obtain ⟨b, o, hA, hb, hcell⟩ := (h.row.rd T.sh).2 i _ hx
    have hk := h.kid i x trivial hx
    exact ⟨b, o, x.2.1, x.2.2.1, x.2.2.2, hA, hb, hk.cap, h.most i x trivial hx, hk.rd T.ish, hcell⟩
theorem OwnO.out (h : OwnO T w er ek B v n hs S) (hi : S i) (hx : hs[i]? = some x) : OwnO T w er ek B v n hs (fun j => S j ∧ j ≠ i) ∧ OwnF T.sub T.isz w ek B (kidV x) x.2.2.1 (T.kids x.1) ∧ Off (kidV x) v hs (fun j => S j ∧ j ≠ i) :=
  ⟨h.less fun _ h => h.1, h.kid i x hi hx, (h.far i x hi hx).symm, fun j y hj hy => h.two i j x y hi hj.1 (fun e => hj.2 e.symm) hx hy⟩
theorem Off.nil : Off (.slice none 0 c) v hs S := ⟨Apart.nil _ _, fun _ _ _ _ => Apart.nil _ _⟩
theorem Off.new (h : OwnO T w er ek B v n hs S) {g : Nat} (hu : u.ownBlock = some g) (hg : w.heap.size ≤ g) : Off u v hs S := by
  refine ⟨fun k hk hv => ?_, fun i x hi hx k hk hv => ?_⟩
  · obtain rfl : g = k := Option.some.inj (hu.symm.trans hk)
    have := (World.ownsRow.lt h.row g hv).2
    omega
  · obtain rfl : g = k := Option.some.inj (hu.symm.trans hk)
    have := (World.ownsRow.lt (h.kid i x hi hx) g hv).2
    omega
theorem Off.fresh {γ : Type} {f : γ → List Value} {sz k : Nat} {e : TypeId} {l : List γ} (h : OwnO T w er ek B v n hs S) (hk : OwnF f sz w' e w.heap.size u k l) : Off u v hs S := by
  refine ⟨fun g hu hv => ?_, fun i x hi hx g hu hv => ?_⟩
  · have h1 := (World.ownsRow.lt h.row g hv).2
    have h2 := (World.ownsRow.lt hk g hu).1
    omega
  · have h1 := (World.ownsRow.lt (h.kid i x hi hx) g hv).2
    have h2 := (World.ownsRow.lt hk g hu).1
    omega
theorem Off.same (ho : Off u v hs S) (hu : u'.ownBlock = u.ownBlock) : Off u' v hs S :=
  ⟨fun k hk => ho.1 k (hu ▸ hk), fun i x hi hx k hk => ho.2 i x hi hx k (hu ▸ hk)⟩
theorem Off.after (h : OwnO T w er ek B v n hs S) (ho : Off u v hs S) (hu : u'.ownBlock = u.ownBlock ∨ u'.ownBlock = some w.heap.size) : Off u' v hs S :=
  hu.elim (fun e => ho.same e) (fun e => Off.new h e (Nat.le_refl _))
theorem Off.less (ho : Off u v hs S) (hS : ∀ i, S' i → S i) : Off u v hs S' := ⟨ho.1, fun i x hi => ho.2 i x (hS i hi)⟩
theorem OwnO.by (h : OwnO T w er ek B v n hs S) (ho : Off u v hs S) (hg : w.grownBy w' u.ownBlock) : OwnO T w' er ek B v n hs S :=
  h.kept hg ho.1.ne fun i x hi hx => (ho.2 i x hi hx).ne
theorem OwnO.put (h : OwnO T w er ek B v n hs S) (hi : i < n) (hr : OwnF T.enc T.sz w' er B v n (hs.set i y)) (hg : w.grownBy w' v.ownBlock) (hk : OwnF T.sub T.isz w ek B (kidV y) y.2.2.1 (T.kids y.1)) (hm : y.2.2.1 ≤ T.most)
    (ho : Off (kidV y) v hs (fun j => S j ∧ j ≠ i)) : OwnO T w' er ek B v n (hs.set i y) (fun j => S j ∨ j = i) := by
  have hl := h.len
  have key : ∀ {j : Nat} {x : KX α}, (hs.set i y)[j]? = some x → (j = i ∧ x = y) ∨ (j ≠ i ∧ hs[j]? = some x) := fun {j x} hx => by
    rw [List.getElem?_set] at hx
    by_cases hj : i = j
    · rw [if_pos hj, if_pos (by omega)] at hx
      exact .inl ⟨hj.symm, (Option.some.inj hx).symm⟩
    · rw [if_neg hj] at hx
      exact .inr ⟨fun e => hj e.symm, hx⟩
  have hS : ∀ {j : Nat}, (S j ∨ j = i) → j ≠ i → S j := fun h h2 => h.elim id fun e => absurd e h2
  refine ⟨hr, fun j x hj hx => ?_, fun j x hj hx => ?_, fun j x hj hx => ?_, fun j k x z hj hp hjk hx hz => ?_⟩
  · rcases key hx with ⟨rfl, rfl⟩ | ⟨hji, hx⟩
    · exact own_far hk ho.1.symm hg
    · exact own_far (h.kid j x (hS hj hji) hx) (h.far j x (hS hj hji) hx) hg
  · rcases key hx with ⟨rfl, rfl⟩ | ⟨hji, hx⟩
    · exact hm
    · exact h.most j x (hS hj hji) hx
  · rcases key hx with ⟨rfl, rfl⟩ | ⟨hji, hx⟩
    · exact ho.1.symm
    · exact h.far j x (hS hj hji) hx
  · rcases key hx with ⟨ej, ex⟩ | ⟨hji, hx2⟩
    · rcases key hz with ⟨ek, ez⟩ | ⟨hki, hz2⟩
      · exact absurd (ej.trans ek.symm) hjk
      · rw [ex]; exact ho.2 k z ⟨hS hp hki, hki⟩ hz2
    · rcases key hz with ⟨ek, ez⟩ | ⟨hki, hz2⟩
      · rw [ez]; exact (ho.2 j x ⟨hS hj hji, hji⟩ hx2).symm
      · exact h.two j k x z (hS hj hji) (hS hp hki) hjk hx2 hz2
theorem getElem?_ins (l : List α) (i : Nat) (y : α) (hi : i ≤ l.length) (j : Nat) : (l.take i ++ y :: l.drop i)[j]? = if j < i then l[j]? else if j = i then some y else l[j - 1]? := by
  by_cases h1 : j < i
  · rw [if_pos h1, List.getElem?_append_left (by rw [List.length_take]; omega), List.getElem?_take, if_pos h1]
  · rw [if_neg h1, List.getElem?_append_right (by rw [List.length_take]; omega), List.length_take, Nat.min_eq_left hi]
    by_cases h2 : j = i
    · rw [if_pos h2, h2, Nat.sub_self]; rfl
    · rw [if_neg h2, show j - i = (j - i - 1) + 1 by omega, List.getElem?_cons_succ, List.getElem?_drop]
      congr 1
      omega
theorem OwnO.ins (h : OwnO T w er ek B v n hs (fun _ => True)) (hi : i ≤ n) (hr : OwnF T.enc T.sz w' er B v' (n + 1) (hs.take i ++ y :: hs.drop i)) (hg : w.grownBy w' v.ownBlock) (hv : v'.ownBlock = v.ownBlock ∨ ∃ g, v'.ownBlock = some g ∧ w.heap.size ≤ g)
    (hk : OwnF T.sub T.isz w ek B (kidV y) y.2.2.1 (T.kids y.1)) (hm : y.2.2.1 ≤ T.most) (ho : Off (kidV y) v hs (fun _ => True)) : OwnO T w' er ek B v' (n + 1) (hs.take i ++ y :: hs.drop i) (fun _ => True) := by
  have hl := h.len
  have far : ∀ {u : Value} {k : Nat} {xs : List Value} {e : TypeId} {sz : Nat}, w.ownsRow B e sz u k xs → Apart v u → Apart v' u := fun {u k xs e sz} hu ha g hg hug => by
    rcases hv with hv | ⟨g', hv, hge⟩
    · exact ha g (hv ▸ hg) hug
    · obtain rfl : g' = g := Option.some.inj (hv.symm.trans hg)
      have := (World.ownsRow.lt hu g' hug).2
      omega
  have key : ∀ {j : Nat} {x : KX α}, (hs.take i ++ y :: hs.drop i)[j]? = some x → (j = i ∧ x = y) ∨ (j ≠ i ∧ hs[if j < i then j else j - 1]? = some x) := fun {j x} hx => by
    rw [getElem?_ins hs i y (by omega)] at hx
    by_cases h1 : j < i
    · rw [if_pos h1] at hx
      exact .inr ⟨by omega, by rw [if_pos h1]; exact hx⟩
    · rw [if_neg h1] at hx
      by_cases h2 : j = i
      · rw [if_pos h2] at hx
        exact .inl ⟨h2, (Option.some.inj hx).symm⟩
      · rw [if_neg h2] at hx
        exact .inr ⟨h2, by rw [if_neg h1]; exact hx⟩
  refine ⟨hr, fun j x _ hx => ?_, fun j x _ hx => ?_, fun j x _ hx => ?_, fun j k x z _ _ hjk hx hz => ?_⟩
  · rcases key hx with ⟨rfl, rfl⟩ | ⟨_, hx⟩
    · exact own_far hk ho.1.symm hg
    · exact own_far (h.kid _ x trivial hx) (h.far _ x trivial hx) hg
  · rcases key hx with ⟨rfl, rfl⟩ | ⟨_, hx⟩
    · exact hm
    · exact h.most _ x trivial hx
  · rcases key hx with ⟨rfl, rfl⟩ | ⟨_, hx⟩
    · exact far hk ho.1.symm
    · exact far (h.kid _ x trivial hx) (h.far _ x trivial hx)
  · rcases key hx with ⟨ej, ex⟩ | ⟨hji, hx2⟩
    · rcases key hz with ⟨ek, ez⟩ | ⟨_, hz2⟩
      · exact absurd (ej.trans ek.symm) hjk
      · rw [ex]; exact ho.2 _ z trivial hz2
    · rcases key hz with ⟨ek, ez⟩ | ⟨hki, hz2⟩
      · rw [ez]; exact (ho.2 _ x trivial hx2).symm
      · exact h.two _ _ x z trivial trivial (by split <;> split <;> omega) hx2 hz2
end
end Go.Proofs.YtllebgadhhgckaaDoor.RowO

/- The landed seqs: slices.Clone, copies. -/
namespace Go.Proofs.YtllebgadhhgckaaDoor.Sqs
open Go.RowKit Oct Rec RowF RowK RowO Lay Bat InR
open Epo (At0 AtO belA)

theorem set_same9 {α : Type} {l : List α} {k : Nat} {x : α} (h : l[k]? = some x) : l.set k x = l := by
  obtain ⟨h1, rfl⟩ := List.getElem?_eq_some_iff.1 h
  exact List.set_getElem_self h1
theorem ownE_empty9 {α : Type} (f : α → List Value) (size : Nat) (w : World) (e : TypeId) : OwnF f size (w.alloc (.cells #[] e)) e w.heap.size (.slice (some ⟨w.heap.size, 0, none⟩) 0 0) 0 ([] : List α) := by
  have h1 := World.ownsRow_made (base := w.heap.size) (e := e) (size := size) w #[] 0 (Nat.le_refl _) (by unfold maxLen; omega) (by simp)
  exact h1
set_option maxRecDepth 100000 in
set_option maxHeartbeats 8000000 in
theorem cloneD_is (A : Option Addr) (n c : Nat) (l : List Dd) (w : World) (hr : RdD w w.heap.size A n l) (hn : n ≤ 1000000) :
    Calls Tryd.prog 70 #[.slice A n c] w fun e w' => ∃ A' c', e = .returned (.slice A' n c') ∧ OwnF didC 3 w' 58 w.heap.size (.slice A' n c') n l ∧ Below w.heap.size w w' := by
  have hq := Go.run_eql_slice_nil (P := Tryd.prog) w 53 58 A n c Tryd.underlying53
  have HR := Lib.hid hr
  cases A with
  | none =>
    obtain ⟨hn0, hl0⟩ := HR.out.isNil
    subst hn0
    subst hl0
    clear hr
    go_enter Tryd.func70, Tryd.ntmps70
    go_wp2
    go_ret
    exact ⟨none, 0, rfl, OwnF.nil, Below.refl _ _⟩
  | some a =>
    clear hr
    go_enter Tryd.func70, Tryd.ntmps70
    go_wp2_with (at_builtin; refine wpList_appF _ didS rfl _ _ 53 rfl 24 w.heap.size 58 Tryd.underlying53 didInfo _ 0 [] rfl (ownE_empty9 didC 3 w 58) w.heap.size (some a) n c l rfl (HR.out.alloc (Nat.le_refl _) _) (by omega) (by omega) (by simp) ?_; intro A1 c1 w1 hown1 hb1; simp only [Nat.zero_add, List.nil_append] at hown1 ⊢; have HO := Lib.hid hown1; have HB := Lib.hid hb1; clear hown1 hb1)
    go_ret
    exact ⟨A1, c1, rfl, HO.out, ((Below.refl w.heap.size w).alloc (Nat.le_refl _) (.cells #[] 58)).trans HB.out⟩
set_option maxRecDepth 100000 in
set_option maxHeartbeats 8000000 in
theorem cloneP_is (A : Option Addr) (n c : Nat) (l : List (KX Pd)) (w : World) (hr : RdH w w.heap.size A n l) (hn : n ≤ 1000000) :
    Calls Tryd.prog 69 #[.slice A n c] w fun e w' => ∃ A' c', e = .returned (.slice A' n c') ∧ OwnF prC 3 w' 55 w.heap.size (.slice A' n c') n l ∧ Below w.heap.size w w' := by
  have hq := Go.run_eql_slice_nil (P := Tryd.prog) w 22 55 A n c Tryd.underlying22
  have HR := Lib.hid hr
  cases A with
  | none =>
    obtain ⟨hn0, hl0⟩ := HR.out.isNil
    subst hn0
    subst hl0
    clear hr
    go_enter Tryd.func69, Tryd.ntmps69
    go_wp2
    go_ret
    exact ⟨none, 0, rfl, OwnF.nil, Below.refl _ _⟩
  | some a =>
    clear hr
    go_enter Tryd.func69, Tryd.ntmps69
    go_wp2_with (at_builtin; refine wpList_appF _ prS rfl _ _ 22 rfl 40 w.heap.size 55 Tryd.underlying22 prInfo _ 0 [] rfl (ownE_empty9 prC 3 w 55) w.heap.size (some a) n c l rfl (HR.out.alloc (Nat.le_refl _) _) (by omega) (by omega) (by simp) ?_; intro A1 c1 w1 hown1 hb1; simp only [Nat.zero_add, List.nil_append] at hown1 ⊢; have HO := Lib.hid hown1; have HB := Lib.hid hb1; clear hown1 hb1)
    go_ret
    exact ⟨A1, c1, rfl, HO.out, ((Below.refl w.heap.size w).alloc (Nat.le_refl _) (.cells #[] 55)).trans HB.out⟩
abbrev OwnQ (w : World) (B : Nat) (v : Value) (n : Nat) (hs : List (KX Pd)) (S : Nat → Prop) : Prop := OwnO prT w 55 58 B v n hs S
def cpRel (l : List Pd) (hs0 : List (KX Pd)) (A1 : Option Addr) (n c1 : Nat) (w : World) (iv : Value) (wr : World) : Prop :=
  ∃ (k : Nat) (hs : List (KX Pd)), iv = .int .i64 (k : Int) ∧ k ≤ n ∧ OwnQ wr w.heap.size (.slice A1 n c1) n hs (fun j => j < k) ∧ hs.map (·.1) = l ∧ (∀ j, k ≤ j → hs[j]? = hs0[j]?) ∧ Below w.heap.size w wr
set_option maxRecDepth 100000 in
set_option maxHeartbeats 8000000 in
theorem copies_is (A : Option Addr) (n c : Nat) (l : List Pd) (w : World) (hr : RdP w w.heap.size A n l) (hn : n ≤ 1024) (hd : ∀ p ∈ l, p.did.length ≤ 5) :
    Calls Tryd.prog 43 #[.slice A n c] w fun e w' => ∃ A' c' hs, e = .returned (.slice A' n c') ∧ OwnQ w' w.heap.size (.slice A' n c') n hs (fun _ => True) ∧ hs.map (·.1) = l ∧ Below w.heap.size w w' := by
  obtain ⟨hs0, hh, hls, hkid⟩ := hr.lift
  have HH := Lib.hid (show RdH w w.heap.size A n hs0 from hh)
  have HLS := Lib.hid hls
  have HK := Lib.hid hkid
  have HDL := Lib.hid hd
  clear hr hh hls hkid hd
  go_enter Tryd.func43, Tryd.ntmps43
  go_wp2_with (go_at_call 69; (with_reducible refine (cloneP_is A n c hs0 _ HH.out (by omega)).mono ?_); rintro e w1 ⟨A1, c1, rfl, ho, hb⟩; have HO1 := Lib.hid ho; have HB1 := Lib.hid hb; clear ho hb)
  go_loopw [9] (fun iv wr => cpRel l hs0 A1 n c1 w iv wr) (fun iv _ => n - (intOf iv).toNat)
  case atStart => exact ⟨0, hs0, rfl, Nat.zero_le _, (OwnO.ofRow HO1.out).less (fun i h => absurd h (Nat.not_lt_zero _)), HLS.out, fun _ _ => rfl, HB1.out⟩
  case round =>
    obtain ⟨k, hs, rfl, hk, ho, hl, hsame, hb⟩ := hrel
    have HO := Lib.hid ho
    have HL := Lib.hid hl
    have HS := Lib.hid hsame
    have HB := Lib.hid hb
    clear ho hl hsame hb
    by_cases hlt : k < n
    · obtain ⟨g, rfl, hg, hgl⟩ := OwnF.form HO.out.row (by omega)
      obtain ⟨x, hx⟩ : ∃ x, hs[k]? = some x := ⟨hs[k]'(by have := HO.out.len; omega), List.getElem?_eq_getElem _⟩
      obtain ⟨p, A', n', c'⟩ := x
      have d2 := OwnF.cellAt (i := 2) prS HO.out.row hx rfl
      have fz := OwnF.frozen HO.out.row (k * 3 + 2)
      have hx0 : hs0[k]? = some (p, A', n', c') := (HS.out k (Nat.le_refl _)).symm.trans hx
      have hkd := HK.out _ (List.mem_of_getElem? hx0)
      have HKD := Lib.hid (show RdD wr wr.heap.size A' n' p.did from (RdF.below hkd.2.2 HB.out (Nat.le_refl _)).more HB.out.size)
      have hp : p ∈ l := by rw [← HL.out]; exact List.mem_map.2 ⟨_, List.mem_of_getElem? hx, rfl⟩
      have hn5 : n' ≤ 5 := by have h1 := HKD.out.len; have h2 := HDL.out p hp; omega
      have HX := Lib.hid hx
      have hw1 : IntKind.i64.wrap ((k : Int) + 1) = (k : Int) + 1 := IntWalk.i64_in _ (by omega)
      have hkl : (k : Int) < (n : Int) := by omega
      have hk0 : (0 : Int) ≤ (k : Int) := by omega
      clear hx hx0 hkd hp hgl
      go_wp2_with (go_at_call 70; (with_reducible refine (cloneD_is A' n' c' p.did _ HKD.out (by omega)).mono ?_); rintro e w2 ⟨A2, c2, rfl, ho, hb⟩; have HO2 := Lib.hid ho; have HB2 := Lib.hid hb; have HR2 := Lib.hid (HO.out.below hb); clear d2 fz; have d2 := OwnF.cellAt (i := 2) prS HR2.out.row HX.out rfl; have fz := OwnF.frozen HR2.out.row (k * 3 + 2); clear ho hb)
      have HST := Lib.hid (OwnF.set prS HR2.out.row hg (i := 2) (u := .slice A2 n' c2) (y := (p, A2, n', c2)) HX.out (by decide) rfl)
      have HGR := Lib.hid (World.ownsRow.stored HR2.out.row (k * 3 + 2) (.slice A2 n' c2)).2
      have HPT := Lib.hid (OwnO.put HR2.out hlt HST.out.1 HGR.out (y := (p, A2, n', c2)) (HO2.out.more HB.out.size) (by show n' ≤ reach; exact Nat.le_trans hn5 (by decide)) ((Off.fresh HO.out HO2.out).less fun i h => h.1))
      go_roundw
      case rel => exact ⟨k + 1, hs.set k (p, A2, n', c2), by go_num, by omega, HPT.out.less (fun j h => by omega), by rw [List.map_set, HL.out]; exact set_same9 (by rw [← HL.out, List.getElem?_map, HX.out]; rfl), fun j hj => by rw [List.getElem?_set, if_neg (by omega)]; exact HS.out j (by omega), (HB.out.trans (HB2.out.mono HB.out.size)).trans HST.out.2⟩
      case measure => simp [intOf]; omega
    · obtain rfl : k = n := by omega
      go_wp2
      go_ret
      exact ⟨A1, c1, hs, rfl, HO.out.lessAt (fun i hi _ => hi), HL.out, HB.out⟩
end Go.Proofs.YtllebgadhhgckaaDoor.Sqs
