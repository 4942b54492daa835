/- Joined: TxnDO. -/
import Derived.Test.YtlfbagkonckffaaGreatJ35
import Derived.Test.YtlfbagkonckffaaGreatJ17
import Derived.Test.YtlfbagkonckffaaGreatJ18
/- The landed txns: Of: what is open, put in order in the end. -/
namespace Go.Proofs.YtlfbagkonckffaaGreat.Txn
open Go.RowKit Go.Shelf Go.Sort Oct Rec RowF Lay InR RngQ Bat RowL
open Epo (At0 AtO belA cel2)
open Sqs (at0_grown at0_set9 grown_set9 grown_bel grown_then)

attribute [local go_sem] Oper.semAt_some

def pidC (o : Opn) : List Value := [.int .i64 o.pid]
theorem pidS : Shape pidC 1 := ⟨fun _ => rfl, fun _ u hu => by obtain rfl := List.mem_singleton.1 hu; rfl, by decide⟩
theorem sortsI (m : Nat) : AnyZI.SortsIn Tryz.prog Lays.sorted_ren Fence.wide m :=
  ⟨fun blk off cap ss W hH hblk hsz => callsIn_wide.2 (AnyM.slices_Sort_int Lays.sort blk off cap ss W hH hblk hsz), fun p cap W => callsIn_wide.2 (AnyM.slices_Sort_int_none Lays.sort p cap W)⟩
theorem keysC (mb : Option Nat) (W : World) : Calls Tryz.prog 68 #[.map mb] W fun e w' => e = .returned (.func (.func 92) #[] #[.pointer (some ⟨W.heap.size, 0, none⟩)]) ∧ w' = W.alloc (.cells #[.map mb] 85) :=
  (callsIn_wide (n := 5)).1 (AnyZI.keys_in Lays.keys Fence.wide 5 trivial rfl mb W)
set_option maxHeartbeats 1000000 in
theorem sortedC {nn b : Nat} {l : List Opn} (W : World) (hown : W.ownsMap Tryz.prog 3 (plainElem Tryz.prog 3) b nn (dOp l)) {m : Nat} (hm : l.length = m) (hl : m ≤ 1000) (h : chO 0 l = true) :
    Calls Tryz.prog 67 #[.func (.func 92) #[] #[.pointer (some ⟨W.heap.size, 0, none⟩)]] (W.alloc (.cells #[.map (some b)] 85)) fun e w' =>
      ∃ A c, e = .returned (.slice A m c) ∧ OwnF pidC 1 w' 3 W.heap.size (.slice A m c) m l ∧ Below W.heap.size W w' := by
  subst hm
  have hbl := hown.lt
  have hseq : SeqGives Fence.wide 2 Tryz.prog 92 #[.pointer (some ⟨W.heap.size, 0, none⟩)] encZ (fun ss => ss.Perm (intKeys (dOp l))) (Maps.size (dOp l)) (W.alloc (.cells #[.map (some b)] 85)) :=
    AnyZI.keys_gives (ρ := Lays.keys_ren) { Lays.keys with } Fence.wide _ trivial rfl (by omega) W.heap.size b nn (dOp l) _ (by simp) (by simp) (by
      obtain ⟨es, clock, hb, Ft, hs, hD⟩ := hown
      exact ⟨es, clock, (Below.heap_alloc _ _ b hbl).trans hb, Ft, hs, hD⟩)
  have cS := AnyZI.sorted_in Lays.sorted Fence.wide 5 trivial trivial trivial trivial rfl (by omega) (sortsI _) (enters_of Tryz.func91 (by kernel_rfl) rfl) 92 #[.pointer (some ⟨W.heap.size, 0, none⟩)] trivial (enters_of Tryz.func92 (by kernel_rfl) rfl) _ _ (by rw [size_d]; unfold maxLen; omega) (by rw [size_d]; omega) _ hseq
  change CallsIn _ _ Tryz.prog 67 _ _ _ at cS
  refine ((callsIn_wide (n := 5)).1 cS).mono ?_
  rintro e w' ⟨v, ss, rfl, hS, hrow, -, hb⟩
  rw [keys_d] at hS
  have hlen : ss.length = l.length := by rw [hS.length_eq, List.length_map]
  rw [sort_d h hS, hlen, List.map_map] at hrow
  obtain ⟨A, c, rfl⟩ := ownsRow_slice w' hrow
  have hfl : l.flatMap pidC = l.map (encZ ∘ fun o => o.pid) := by
    clear hown hseq cS hS hrow hlen h hl
    induction l with
    | nil => rfl
    | cons o l ih => rw [List.flatMap_cons, ih]; rfl
  refine ⟨A, c, rfl, ?_, ((Below.refl _ W).alloc (Nat.le_refl _) _).trans (hb.mono (by simp))⟩
  exact OwnF.more (show OwnF pidC 1 w' 3 _ (.slice A l.length c) l.length l from by unfold OwnF; rw [hfl]; exact hrow) (by simp)
structure OfK (W : World) (s B : Nat) (A : Option Addr) (k c : Nat) (A2 : Option Addr) (n2 c2 : Nat) (A3 : Option Addr) (n3 c3 cnt : Nat) (T : Tx) (KA : Option Addr) (m kc D : Nat) : Prop where
  t2 : At0 W s [.slice none 0 0, .slice none 0 0, .slice none 0 0] 25
  t3 : At0 W (s + 1) [.slice A k c, .slice A2 n2 c2, .slice A3 n3 c3] 25
  t4 : At0 W (s + 1 + 1 + 1) [.map (some (s + 1 + 1))] 85
  op : OwnOp W B (.slice A k c) k (T.op.take k)
  gone : OwnGn W (s + 7) (.slice A2 n2 c2) n2 T.gone
  done : OwnGn W (s + 7) (.slice A3 n3 c3) n3 T.done
  apart : Apart (.slice A2 n2 c2) (.slice A3 n3 c3)
  lo2 : ∀ g, (Value.slice A2 n2 c2).ownBlock = some g → g < B
  lo3 : ∀ g, (Value.slice A3 n3 c3).ownBlock = some g → g < B
  mp : W.ownsMap Tryz.prog 3 (plainElem Tryz.prog 3) (s + 1 + 1) cnt (dOp T.op)
  key : OwnF pidC 1 W 3 (s + 7) (.slice KA m kc) m T.op
  lok : ∀ g, (Value.slice KA m kc).ownBlock = some g → g < B
  df : W.heap[D]? = some (.deferred (some []))
  dlo : s + 7 ≤ D ∧ D < B
  size : B ≤ W.heap.size
section
variable {W V : World} {s B : Nat} {A : Option Addr} {k c : Nat} {A2 : Option Addr} {n2 c2 : Nat} {A3 : Option Addr} {n3 c3 cnt : Nat} {T : Tx} {KA : Option Addr} {m kc D : Nat}
theorem OfK.step (h : OfK W s B A k c A2 n2 c2 A3 n3 c3 cnt T KA m kc D) {y : Opn} (hy : T.op[k]? = some y) {o : Obj} {A5 : Option Addr} {c5 : Nat} (hg : (W.alloc o).grownBy V (Value.slice A k c).ownBlock) (ho : OwnOp V B (.slice A5 (k + 1) c5) (k + 1) (T.op.take k ++ [y])) :
    OfK (V.setCell ⟨s + 1, 0, none⟩ (.slice A5 (k + 1) c5)) s B A5 (k + 1) c5 A2 n2 c2 A3 n3 c3 cnt T KA m kc D := by
  have hb := belA W o
  have hd := h.dlo
  have hlt := h.size
  have hne : ∀ {g : Nat}, g < B → some g ≠ (Value.slice A k c).ownBlock := fun h9 e => by have := (World.ownsRow.lt h.op _ e.symm).1; omega
  have hlo : ∀ {α : Type} {f : α → List Value} {q m' b' : Nat} {e : TypeId} {u : Value} {x : List α}, OwnF f q W e b' u m' x → (∀ g, u.ownBlock = some g → g < B) → s + 7 ≤ b' → OwnF f q (V.setCell ⟨s + 1, 0, none⟩ (.slice A5 (k + 1) c5)) e b' u m' x := fun hu hl hs9 => by
    refine own_set (own_far (hu.alloc o) (fun g hv hu' => ?_) hg) (fun e => ?_) 0 _
    · have h1 := (World.ownsRow.lt h.op _ hv).1
      have h2 := hl g hu'
      omega
    · have h1 := (World.ownsRow.lt hu _ e).1
      omega
  refine ⟨at_set (at0_grown (h.t2.below hb) hg (hne (by omega))) (by omega) _ _, at0_set9 (at0_grown (h.t3.below hb) hg (hne (by omega))) 0 _, at_set (at0_grown (h.t4.below hb) hg (hne (by omega))) (by omega) _ _, ?_, hlo h.gone h.lo2 (Nat.le_refl _), hlo h.done h.lo3 (Nat.le_refl _), h.apart, h.lo2, h.lo3, ?_, hlo h.key h.lok (Nat.le_refl _), h.lok, ?_, hd, ?_⟩
  · rw [List.take_add_one, hy]
    exact own_set ho (fun e => by have := (World.ownsRow.lt ho _ e).1; omega) 0 _
  · exact ((h.mp.kept (row := none) (grown_bel hb) (by simp)).kept hg (hne (by omega))).setCell (by simp only; omega) _
  · have h1 := hb.block D (by omega)
    have h2 := hg.block D (by rw [World.size_alloc]; omega) (hne hd.2)
    exact (Below.heap_setCell _ _ _ _ (by simp only; omega)).trans (h2.trans (h1.trans h.df))
  · have h1 := hg.size
    rw [World.size_alloc] at h1
    rw [World.size_setCell]
    omega
theorem OfS.start {N : Nat} (h : OfS W s N A2 n2 c2 A3 n3 c3 cnt T) (hN : N = s + 7) (hB : Below W.heap.size W V) (hk : OwnF pidC 1 V 3 W.heap.size (.slice KA m kc) m T.op) (hD : N ≤ D) (hK : W.heap[D]? = some (.deferred (some []))) : OfK V s V.heap.size none 0 0 A2 n2 c2 A3 n3 c3 cnt T KA m kc D := by
  subst hN
  have h9 := h.below hB
  have h4 := (Array.getElem?_eq_some_iff.1 hK).1
  have h5 := hB.size
  exact ⟨h9.t2, h9.t3, h9.t4, by rw [List.take_zero]; exact OwnF.nil, h9.own.gone, h9.own.done, h9.own.apart, fun g e => (World.ownsRow.lt h9.own.gone g e).2, fun g e => (World.ownsRow.lt h9.own.done g e).2, h9.mp, hk.more (by have := h.t5.lt; have := h.t2.lt; omega), fun g e => (World.ownsRow.lt hk g e).2, (hB.block D h4).trans hK, ⟨hD, by omega⟩, Nat.le_refl _⟩
theorem OfK.fin {X : World} (h : OfK W s B A m c A2 n2 c2 A3 n3 c3 cnt T KA m kc D) (hm : T.op.length = m) (hX : ((W.setCell ⟨s, 0, none⟩ (.slice A m c)).setCell ⟨s, 1, none⟩ (.slice A2 n2 c2)).setCell ⟨s, 2, none⟩ (.slice A3 n3 c3) = X) :
    X.heap[D]? = some (.deferred (some [])) ∧ At0 (X.putObj D (.deferred none)) s [.slice A m c, .slice A2 n2 c2, .slice A3 n3 c3] 25 ∧ OwnTx (X.putObj D (.deferred none)) s A m c A2 n2 c2 A3 n3 c3 T := by
  have hd := h.dlo
  have hlt := h.size
  have hK : X.heap[D]? = some (.deferred (some [])) := by
    rw [← hX]
    exact (Below.heap_setCell _ _ _ _ (by simp only; omega)).trans ((Below.heap_setCell _ _ _ _ (by simp only; omega)).trans ((Below.heap_setCell _ _ _ _ (by simp only; omega)).trans h.df))
  have hF : At0 X s [.slice A m c, .slice A2 n2 c2, .slice A3 n3 c3] 25 := by
    rw [← hX]
    exact at0_set9 (at0_set9 (at0_set9 h.t2 0 _) 1 _) 2 _
  have hrow : ∀ {α : Type} {f : α → List Value} {q m' b' : Nat} {e : TypeId} {u : Value} {x : List α}, OwnF f q W e b' u m' x → s < b' → OwnF f q (X.putObj D (.deferred none)) e b' u m' x := fun {α f q m' b' e u x} hu hs => by
    have h9 : OwnF f q X e b' u m' x := by
      have hn : u.ownBlock ≠ some s := fun e9 => by have := (World.ownsRow.lt hu _ e9).1; omega
      rw [← hX]
      exact own_set (own_set (own_set hu hn _ _) hn _ _) hn _ _
    exact row_own (N := 0) h9 (grownBy_putObj' X D (.deferred none)) (fun r e9 => by injection e9 with e9; subst e9; exact ⟨Nat.zero_le _, _, hK, rfl⟩)
  refine ⟨hK, (World.putObj_heap_other (by omega)).trans hF, ?_, (hrow h.gone (by omega)).more (by omega), (hrow h.done (by omega)).more (by omega), h.apart⟩
  have h9 := h.op
  rw [List.take_of_length_le (by omega)] at h9
  exact (hrow h9 (by omega)).more (by omega)
theorem wf64 {x : Int} (h : I64 x) : (Lit.int .i64 x).wf = true := by
  show (decide (IntKind.i64.min ≤ x) && decide (x ≤ IntKind.i64.max)) = true
  rw [show IntKind.i64.min = -9223372036854775808 by decide, show IntKind.i64.max = 9223372036854775807 by decide, decide_eq_true h.1, decide_eq_true h.2]
  rfl
theorem zero_int (W : World) : (zeroValue 3).run Tryz.prog W = .ok (.int .i64 0) W := Tryz.zeroValue3 W
end
end Go.Proofs.YtlfbagkonckffaaGreat.Txn
