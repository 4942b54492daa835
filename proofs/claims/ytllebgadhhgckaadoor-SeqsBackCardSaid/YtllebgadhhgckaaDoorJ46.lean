/- Joined: SqsDJ. -/
import Derived.Test.YtllebgadhhgckaaDoorJ45
import Derived.Test.YtllebgadhhgckaaDoorJ38
/- The landed seqs: prods of numbers that are there. -/
namespace Go.Proofs.YtllebgadhhgckaaDoor.Sqs
open Go.RowKit Oct Rec Crc RowF RowK RowO Lay Bat InR
open Epo (At0 AtO belA)

def posP (l : List Pd) (k : Nat) : Nat := 1 + ((l.take k).flatMap numP).length
theorem num_at {l : List Pd} {k i : Nat} {p : Pd} {v : Int} (hp : l[k]? = some p) (hv : (numP p)[i]? = some v) : (numL l)[posP l k + i]? = some v := by
  unfold numL posP
  rw [show 1 + ((l.take k).flatMap numP).length + i = (((l.take k).flatMap numP).length + i) + 1 by omega, List.getElem?_cons_succ]
  have h1 : l.flatMap numP = (l.take k).flatMap numP ++ (numP p ++ (l.drop (k + 1)).flatMap numP) := by
    obtain ⟨hk, rfl⟩ := List.getElem?_eq_some_iff.1 hp
    rw [← List.flatMap_cons, ← List.drop_eq_getElem_cons hk, ← List.flatMap_append, List.take_append_drop]
  rw [h1, List.getElem?_append_right (by omega), Nat.add_sub_cancel_left, List.getElem?_append_left (List.getElem?_eq_some_iff.1 hv).1]
  exact hv
theorem posP_next {l : List Pd} {k : Nat} {p : Pd} (hp : l[k]? = some p) : posP l (k + 1) = posP l k + 3 + 3 * p.did.length := by
  unfold posP
  rw [take_flat hp, List.length_append, numP_len]
  omega
theorem numP_did {p : Pd} {m i : Nat} {d : Dd} {v : Int} (hd : p.did[m]? = some d) (hv : (numD d)[i]? = some v) : (numP p)[3 + 3 * m + i]? = some v := by
  unfold numP
  rw [List.getElem?_append_right (by simp; omega)]
  show (p.did.flatMap numD)[3 + 3 * m + i - 3]? = some v
  have h1 : p.did.flatMap numD = (p.did.take m).flatMap numD ++ (numD d ++ (p.did.drop (m + 1)).flatMap numD) := by
    obtain ⟨hk, rfl⟩ := List.getElem?_eq_some_iff.1 hd
    rw [← List.flatMap_cons, ← List.drop_eq_getElem_cons hk, ← List.flatMap_append, List.take_append_drop]
  have h2 : ((p.did.take m).flatMap numD).length = 3 * m := by
    rw [flatD_len, List.length_take, Nat.min_eq_left (Nat.le_of_lt (List.getElem?_eq_some_iff.1 hd).1)]
  rw [h1, List.getElem?_append_right (by omega), h2, show 3 + 3 * m + i - 3 - 3 * m = i by omega, List.getElem?_append_left (List.getElem?_eq_some_iff.1 hv).1]
  exact hv
def arrD (d : Dd) : Nat → List Value
  | 0 => [.int .i64 0, .int .i64 0, .int .i64 0]
  | 1 => [.int .i64 d.sq, .int .i64 0, .int .i64 0]
  | 2 => [.int .i64 d.sq, .int .i64 d.la, .int .i64 0]
  | _ => [.int .i64 d.sq, .int .i64 d.la, .int .i64 d.ba]
def p1Rel (rb : Nat) (A : Option Addr) (n c : Nat) (l : List Pd) (w : World) (lv iv : Value) (wr : World) : Prop :=
  ∃ (k : Nat) (A' : Option Addr) (c' : Nat) (hs : List (KX Pd)), iv = .int .i64 (k : Int) ∧ lv = .slice A' k c' ∧ k ≤ l.length ∧ OwnQ wr w.heap.size (.slice A' k c') k hs (fun _ => True) ∧ hs.map (·.1) = l.take k ∧ RdrN wr rb A n c (numL l) (posP l k) ∧ w.grownBy wr (some rb)
def p2Rel (rb : Nat) (A : Option Addr) (n c : Nat) (ns : List Int) (j pb : Nat) (pid gen : Int) (xd : List Dd) (V : World) (iv : Value) (wr : World) : Prop :=
  ∃ (m : Nat) (A' : Option Addr) (c' : Nat), iv = .int .i64 (m : Int) ∧ m ≤ xd.length ∧ OwnD wr V.heap.size (.slice A' m c') m (xd.take m) ∧ At0 wr pb [.int .i64 pid, .int .i64 gen, .slice A' m c'] 55 ∧ RdrN wr rb A n c ns (j + 3 + 3 * m) ∧ V.grownBy wr (some rb)
def p3Rel (rb : Nat) (A : Option Addr) (n c : Nat) (ns : List Int) (j wb : Nat) (d : Dd) (V : World) (iv : Value) (wr : World) : Prop :=
  ∃ (i : Nat), iv = .int .i64 (i : Int) ∧ i ≤ 3 ∧ At0 wr wb (arrD d i) 73 ∧ RdrN wr rb A n c ns (j + i) ∧ V.grownBy wr (some rb)
theorem take_snoc9 {α : Type} {l : List α} {k : Nat} {x : α} (h : l[k]? = some x) : l.take (k + 1) = l.take k ++ [x] := by
  rw [List.take_add_one, h]; rfl
theorem own_box9 {w : World} {B sz n k : Nat} {v : Value} {e e' : TypeId} {xs cs : List Value} (ho : w.ownsRow B e sz v n xs) (ha : At0 w k cs e') (he : e ≠ e') : v.ownBlock ≠ some k := by
  rcases ho.2 with ⟨rfl, _⟩ | ⟨g, cap, cur, rfl, hb, hg, h1, h2, h3, h4⟩
  · intro h; cases h
  · intro h
    injection h with h
    exact own_ne9 (w := w) (B := B) (n := n) ⟨ho.1, .inr ⟨g, cap, cur, rfl, hb, hg, h1, h2, h3, h4⟩⟩ ha he h
theorem prods_cut {V w w9 w5 : World} {rb pb n n' q : Nat} {A : Option Addr} {na ca : Nat} {ns : List Int} {v u x0 x1 : Value} {o : Obj} {l l' : List Dd} (hrb : rb < V.heap.size) (hpb : V.heap.size ≤ pb) (gv : V.grownBy w (some rb)) (ho : OwnD w V.heap.size v n l) (hp : At0 w pb [x0, x1, v] 55) (hr : RdrN w rb A na ca ns q)
    (h9 : Below w.heap.size w w9) (hg : (w9.alloc o).grownBy w5 v.ownBlock) (ho5 : OwnD w5 V.heap.size u n' l') (hv : u.ownBlock = v.ownBlock ∨ u.ownBlock = some (w9.alloc o).heap.size) :
    OwnD (w5.setCell ⟨pb, 2, none⟩ u) V.heap.size u n' l' ∧ At0 (w5.setCell ⟨pb, 2, none⟩ u) pb [x0, x1, u] 55 ∧ RdrN (w5.setCell ⟨pb, 2, none⟩ u) rb A na ca ns q ∧ V.grownBy (w5.setCell ⟨pb, 2, none⟩ u) (some rb) := by
  have hpl := hp.lt
  have hs : pb < (w9.alloc o).heap.size := by have h1 := h9.size; rw [World.size_alloc]; omega
  have hvp : v.ownBlock ≠ some pb := own_box9 ho hp (by decide)
  have hvl : ∀ g, v.ownBlock = some g → V.heap.size ≤ g := fun g e => (World.ownsRow.lt ho g e).1
  have hup : u.ownBlock ≠ some pb := fun e => by
    rcases hv with hv | hv
    · exact hvp (hv ▸ e)
    · rw [hv] at e; injection e with e; omega
  have h9a : Below w.heap.size w (w9.alloc o) := Epo.bel_trans h9 (belA w9 o)
  refine ⟨World.ownsRow.kept ho5 (grown_set9 u) (.inr hup), at0_set9 (at0_grown (hp.below h9a) hg (fun e => hvp e.symm)) 2 u, ?_, ?_⟩
  · exact RdrN.grown (RdrN.grown (RdrN.below hr h9a) hg (fun g e => by have := hvl g e; omega)) (grown_set9 (a := ⟨pb, 2, none⟩) u) (fun g e => by injection e with e; simp only at e; omega)
  · have g4 := grown_then gv (grown_bel (r := some rb) h9a) (.inl rfl)
    have g5 : V.grownBy w5 (some rb) := by
      cases hvb : v.ownBlock with
      | none => rw [hvb] at hg; exact grown_then g4 (r' := some rb) ⟨hg.os, hg.tape, hg.output, hg.size, fun i hi _ => hg.block i hi (by simp)⟩ (.inl rfl)
      | some g => rw [hvb] at hg; exact grown_then g4 hg (.inr ⟨g, rfl, hvl g hvb⟩)
    exact grown_then g5 (grown_set9 (a := ⟨pb, 2, none⟩) u) (.inr ⟨pb, rfl, hpb⟩)
theorem ownQ_far {w w' : World} {B n rb : Nat} {v : Value} {hs : List (KX Pd)} {S : Nat → Prop} (h : OwnQ w B v n hs S) (hg : w.grownBy w' (some rb)) (hrb : rb < B) : OwnQ w' B v n hs S :=
  h.kept hg (.inr fun e => by have := (World.ownsRow.lt h.row rb e).1; omega) fun i x hi hx => .inr fun e => by have := (World.ownsRow.lt (h.kid i x hi hx) rb e).1; omega
theorem grown_any {a b c : World} {rb : Nat} {v : Value} (h : a.grownBy b (some rb)) (hg : b.grownBy c v.ownBlock) (hv : ∀ g, v.ownBlock = some g → a.heap.size ≤ g) : a.grownBy c (some rb) := by
  cases hvb : v.ownBlock with
  | none => rw [hvb] at hg; exact grown_then h (r' := some rb) ⟨hg.os, hg.tape, hg.output, hg.size, fun i hi _ => hg.block i hi (by simp)⟩ (.inl rfl)
  | some g => rw [hvb] at hg; exact grown_then h hg (.inr ⟨g, rfl, hv g hvb⟩)
theorem prods_end {w w1 w2 w5 : World} {rb k q : Nat} {A : Option Addr} {na ca : Nat} {ns : List Int} {v u : Value} {o : Obj} {hs : List (KX Pd)} {y : KX Pd} (hrb : rb < w.heap.size) (ho : OwnQ w1 w.heap.size v k hs (fun _ => True)) (g1 : w.grownBy w1 (some rb)) (g2 : w1.grownBy w2 (some rb)) (hk : OwnD w2 w1.heap.size (kidV y) y.2.2.1 y.1.did) (hy : y.2.2.1 ≤ reach) (hr : RdrN w2 rb A na ca ns q)
    (hg : (w2.alloc o).grownBy w5 v.ownBlock) (ho5 : OwnH w5 w.heap.size u (k + 1) (hs ++ [y])) (hv : u.ownBlock = v.ownBlock ∨ u.ownBlock = some (w2.alloc o).heap.size) :
    OwnQ w5 w.heap.size u (k + 1) (hs ++ [y]) (fun _ => True) ∧ RdrN w5 rb A na ca ns q ∧ w.grownBy w5 (some rb) := by
  have hlen := ho.len
  have hvl : ∀ g, v.ownBlock = some g → w.heap.size ≤ g := fun g e => (World.ownsRow.lt ho.row g e).1
  have ho2 := (ownQ_far ho g2 hrb).alloc o
  have e1 : hs.take k ++ y :: hs.drop k = hs ++ [y] := by rw [List.take_of_length_le (by omega), List.drop_of_length_le (by omega)]
  refine ⟨?_, RdrN.grown (RdrN.below hr (belA w2 o)) hg (fun g e => by have := hvl g e; omega), grown_any (grown_then (grown_trans9 g1 g2) (grown_bel (belA w2 o)) (.inl rfl)) hg hvl⟩
  have h9 := OwnO.ins ho2 (i := k) (Nat.le_refl _) (y := y) (w' := w5) (v' := u) (by rw [e1]; exact ho5) hg (hv.elim .inl fun h => .inr ⟨_, h, Nat.le_refl _⟩) (OwnF.more (OwnF.alloc hk o) g1.size) hy (Off.fresh ho hk)
  rw [e1] at h9
  exact h9
set_option maxRecDepth 100000 in
set_option maxHeartbeats 8000000 in
theorem prods_ok (rb : Nat) (A : Option Addr) (n c : Nat) (l : List Pd) (w : World) (h : RdrN w rb A n c (numL l) 0) (hC : ckP l = 0) (hn : n ≤ 1000000) :
    Calls Tryd.prog 78 #[numF rb] w fun e w' => ∃ A' c' hs, e = .returned (.slice A' l.length c') ∧ OwnQ w' w.heap.size (.slice A' l.length c') l.length hs (fun _ => True) ∧ hs.map (·.1) = l ∧ RdrN w' rb A n c (numL l) (posP l l.length) ∧ w.grownBy w' (some rb) := by
  have HC := Lib.hid hC
  have hl1024 := (ckP_iff.1 hC).1
  have HWW := Lib.hid (show ∀ x ∈ numL l, W63 x from by
    intro x hx
    rcases List.mem_cons.1 hx with rfl | hx
    · unfold W63; omega
    · obtain ⟨p, hp, hx⟩ := List.mem_flatMap.1 hx
      have h9 := pd_parts hC hp
      exact w63_p h9.1 h9.2.1 h9.2.2.1 h9.2.2.2 x hx)
  obtain ⟨m, hm⟩ : ∃ m, l.length = m := ⟨_, rfl⟩
  have HM := Lib.hid hm
  have HH := Lib.hid (howMany_ok rb A n c (numL l) 0 (m : Int) 1024 w h (by rw [← hm]; rfl) HWW.out (by omega) (by omega))
  have HRB := Lib.hid (show rb < w.heap.size from h.box.lt)
  rw [hm] at hl1024 ⊢
  clear h hC hm
  go_enter Tryd.func78, Tryd.ntmps78
  go_wp2_with (go_at_call 99; (with_reducible refine HH.out.mono ?_); rintro e w1 ⟨rfl, hr1, hg1⟩; have HR1 := Lib.hid hr1; have HG1 := Lib.hid hg1; clear hr1 hg1)
  go_loopw [3, 9] (fun lv iv wr => p1Rel rb A n c l w lv iv wr) (fun _ iv _ => m - (intOf iv).toNat)
  case atStart => exact ⟨0, none, 0, [], rfl, rfl, Nat.zero_le _, OwnO.nil, rfl, HR1.out, HG1.out⟩
  case round =>
    rename World => wr1
    obtain ⟨k, A2, c2, hs, rfl, rfl, hk, ho, hls, hr, hg⟩ := hrel
    have HO := Lib.hid ho
    have HLS := Lib.hid hls
    have HR := Lib.hid hr
    have HG := Lib.hid hg
    clear ho hls hr hg
    by_cases hlt : k < m
    · obtain ⟨⟨x0, x1, xd⟩, hp⟩ : ∃ p, l[k]? = some p := ⟨l[k]'(by have := HM.out; omega), List.getElem?_eq_getElem _⟩
      have HP := Lib.hid hp
      have hpp := pd_parts HC.out (List.mem_of_getElem? hp)
      simp only at hpp
      obtain ⟨m2, hm2⟩ : ∃ m2, xd.length = m2 := ⟨_, rfl⟩
      have HM2 := Lib.hid hm2
      have hm25 : m2 ≤ 5 := by rw [← hm2]; exact hpp.2.2.1
      have HN1 := Lib.hid (number_ok rb A n c (numL l) (posP l k) x0 wr1 HR.out (num_at (i := 0) hp rfl) HWW.out (by omega))
      have HV2 := Lib.hid (show (numL l)[posP l k + 1]? = some x1 from num_at (i := 1) hp rfl)
      have HV3 := Lib.hid (show (numL l)[posP l k + 1 + 1]? = some (m2 : Int) from by rw [← hm2]; exact num_at (i := 2) hp rfl)
      have hw1 : IntKind.i64.wrap ((k : Int) + 1) = (k : Int) + 1 := IntWalk.i64_in _ (by omega)
      have hkl : (k : Int) < (m : Int) := by omega
      clear hp hpp hm2
      go_upto_region 5 with (first
        | (go_at_call 79; (with_reducible refine HN2.out.mono ?_); rintro e w3 ⟨rfl, hr3, hg3⟩; have HR3 := Lib.hid hr3; have HG3 := Lib.hid (grown_trans9 HG2.out hg3); clear hr3 hg3)
        | (go_at_call 79; (with_reducible refine HN1.out.mono ?_); rintro e w2 ⟨rfl, hr2, hg2⟩; have HG2 := Lib.hid hg2; have HN2 := Lib.hid (number_ok rb A n c (numL l) (posP l k + 1) x1 w2 hr2 HV2.out HWW.out (by omega)); clear hr2 hg2))
      have hbw := belA w3 (.cells #[.int .i64 x0, .int .i64 x1, .slice none 0 0] 55)
      have HPB := Lib.hid (At0.new w3 [.int .i64 x0, .int .i64 x1, .slice none 0 0] 55)
      have HRW := Lib.hid (RdrN.below HR3.out hbw)
      have HGW := Lib.hid (grown_then HG3.out (grown_bel hbw) (.inl rfl))
      have HPG := Lib.hid (show wr1.heap.size ≤ w3.heap.size from HG3.out.size)
      have HRBR := Lib.hid (show rb < wr1.heap.size from Nat.lt_of_lt_of_le HRB.out HG.out.size)
      clear hbw
      generalize (w3.alloc (.cells #[.int .i64 x0, .int .i64 x1, .slice none 0 0] 55)) = W at *
      obtain ⟨pb, hpb⟩ : ∃ pb, w3.heap.size = pb := ⟨_, rfl⟩
      rw [hpb] at HPB HPG
      simp only [hpb]
      clear hpb
      have HHM := Lib.hid (howMany_ok rb A n c (numL l) (posP l k + 1 + 1) (m2 : Int) 5 W HRW.out HV3.out HWW.out (by omega) (by omega))
      go_wp2_with (go_at_call 99; (with_reducible refine HHM.out.mono ?_); rintro e w5 ⟨rfl, hr5, hg5⟩; have HR5 := Lib.hid hr5; have HG5 := Lib.hid (grown_trans9 HGW.out hg5); have HPB5 := Lib.hid (at0_grown HPB.out hg5 (fun e => by have h1 := Option.some.inj e; have h2 := HRBR.out; have h3 := HPG.out; omega)); clear hr5 hg5)
      go_loopw [18] (fun iv wq => p2Rel rb A n c (numL l) (posP l k) pb x0 x1 xd wr1 iv wq) (fun iv _ => m2 - (intOf iv).toNat)
      case atStart => exact ⟨0, none, 0, rfl, Nat.zero_le _, OwnF.nil, HPB5.out, HR5.out, HG5.out⟩
      case round =>
        rename World => wr2
        obtain ⟨j, A4, c4, rfl, hj, ho, hp, hr, hg⟩ := hrel
        have HOj := Lib.hid ho
        have HPj := Lib.hid hp
        have HRj := Lib.hid hr
        have HGj := Lib.hid hg
        have hjl := ho.len didS
        clear ho hp hr hg
        have HRBV := Lib.hid (show rb < wr2.heap.size from Nat.lt_of_lt_of_le HRBR.out HGj.out.size)
        by_cases hlj : j < m2
        · obtain ⟨⟨y0, y1, y2⟩, hd⟩ : ∃ d, xd[j]? = some d := ⟨xd[j]'(by have := HM2.out; omega), List.getElem?_eq_getElem _⟩
          have HD := Lib.hid hd
          have HVi := Lib.hid (show ∀ i v, (numD ⟨y0, y1, y2⟩)[i]? = some v → (numL l)[posP l k + 3 + 3 * j + i]? = some v from fun i v hv => by
            have h9 := num_at HP.out (numP_did (p := ⟨x0, x1, xd⟩) hd hv)
            rw [show posP l k + 3 + 3 * j + i = posP l k + (3 + 3 * j + i) by omega]
            exact h9)
          have hw3 : IntKind.i64.wrap ((j : Int) + 1) = (j : Int) + 1 := IntWalk.i64_in _ (by omega)
          have hjl2 : (j : Int) < (m2 : Int) := by omega
          clear hd
          go_upto_region 8 with fail
          have hba := belA wr2 (.cells #[.int .i64 0, .int .i64 0, .int .i64 0] 73)
          have HAR := Lib.hid (show At0 (wr2.alloc (.cells #[.int .i64 0, .int .i64 0, .int .i64 0] 73)) wr2.heap.size (arrD ⟨y0, y1, y2⟩ 0) 73 from At0.new wr2 [.int .i64 0, .int .i64 0, .int .i64 0] 73)
          have HRA := Lib.hid (RdrN.below HRj.out hba)
          have HGA := Lib.hid (show wr2.grownBy _ (some rb) from grown_bel hba)
          clear hba
          generalize (wr2.alloc (.cells #[.int .i64 0, .int .i64 0, .int .i64 0] 73)) = W2 at *
          go_wp2
          go_loopw [20] (fun iv wr3 => p3Rel rb A n c (numL l) (posP l k + 3 + 3 * j) wr2.heap.size ⟨y0, y1, y2⟩ wr2 iv wr3) (fun iv _ => 3 - (intOf iv).toNat)
          case atStart => exact ⟨0, rfl, by omega, HAR.out, HRA.out, HGA.out⟩
          case round =>
            obtain ⟨i, rfl, hi, ha, hr, hg⟩ := hrel
            have HAi := Lib.hid ha
            have HRi := Lib.hid hr
            have HGi := Lib.hid hg
            clear ha hr hg
            obtain rfl | rfl | rfl | rfl : i = 0 ∨ i = 1 ∨ i = 2 ∨ i = 3 := by omega
            · have HNi := Lib.hid (number_ok rb A n c (numL l) (posP l k + 3 + 3 * j + 0) y0 wr HRi.out (HVi.out 0 _ rfl) HWW.out (by omega))
              have e0 : 0 < 3 := by omega
              go_wp2_with (go_at_call 79; (with_reducible refine HNi.out.mono ?_); rintro e w8 ⟨rfl, hr8, hg8⟩; have HR8 := Lib.hid hr8; have HG8 := Lib.hid hg8; have HA8 := Lib.hid (at0_grown HAi.out hg8 (fun e => by have h1 := Option.some.inj e; have h2 := HRBV.out; omega)); clear hr8 hg8; obtain ⟨a0, a1, a2⟩ := cel3 (show At0 w8 wr2.heap.size (arrD ⟨y0, y1, y2⟩ 0) 73 from HA8.out); obtain ⟨f0, f1, f2⟩ := frz3 (show At0 w8 wr2.heap.size (arrD ⟨y0, y1, y2⟩ 0) 73 from HA8.out))
              go_roundw
              case rel => exact ⟨1, by go_num, by omega, at0_set9 HA8.out 0 (.int .i64 y0), RdrN.grown HR8.out (grown_set9 (a := ⟨wr2.heap.size, 0, none⟩) _) (fun g e => by have h1 := Option.some.inj e; have h2 := HRBV.out; simp only at h1; omega), grown_then (grown_then HGi.out HG8.out (.inl rfl)) (grown_set9 (a := ⟨wr2.heap.size, 0, none⟩) _) (.inr ⟨_, rfl, Nat.le_refl _⟩)⟩
              case measure => simp [intOf]
            · have HNi := Lib.hid (number_ok rb A n c (numL l) (posP l k + 3 + 3 * j + 1) y1 wr HRi.out (HVi.out 1 _ rfl) HWW.out (by omega))
              have e0 : 1 < 3 := by omega
              go_wp2_with (go_at_call 79; (with_reducible refine HNi.out.mono ?_); rintro e w8 ⟨rfl, hr8, hg8⟩; have HR8 := Lib.hid hr8; have HG8 := Lib.hid hg8; have HA8 := Lib.hid (at0_grown HAi.out hg8 (fun e => by have h1 := Option.some.inj e; have h2 := HRBV.out; omega)); clear hr8 hg8; obtain ⟨a0, a1, a2⟩ := cel3 (show At0 w8 wr2.heap.size (arrD ⟨y0, y1, y2⟩ 1) 73 from HA8.out); obtain ⟨f0, f1, f2⟩ := frz3 (show At0 w8 wr2.heap.size (arrD ⟨y0, y1, y2⟩ 1) 73 from HA8.out))
              go_roundw
              case rel => exact ⟨2, by go_num, by omega, at0_set9 HA8.out 1 (.int .i64 y1), RdrN.grown HR8.out (grown_set9 (a := ⟨wr2.heap.size, 1, none⟩) _) (fun g e => by have h1 := Option.some.inj e; have h2 := HRBV.out; simp only at h1; omega), grown_then (grown_then HGi.out HG8.out (.inl rfl)) (grown_set9 (a := ⟨wr2.heap.size, 1, none⟩) _) (.inr ⟨_, rfl, Nat.le_refl _⟩)⟩
              case measure => simp [intOf]
            · have HNi := Lib.hid (number_ok rb A n c (numL l) (posP l k + 3 + 3 * j + 2) y2 wr HRi.out (HVi.out 2 _ rfl) HWW.out (by omega))
              have e0 : 2 < 3 := by omega
              go_wp2_with (go_at_call 79; (with_reducible refine HNi.out.mono ?_); rintro e w8 ⟨rfl, hr8, hg8⟩; have HR8 := Lib.hid hr8; have HG8 := Lib.hid hg8; have HA8 := Lib.hid (at0_grown HAi.out hg8 (fun e => by have h1 := Option.some.inj e; have h2 := HRBV.out; omega)); clear hr8 hg8; obtain ⟨a0, a1, a2⟩ := cel3 (show At0 w8 wr2.heap.size (arrD ⟨y0, y1, y2⟩ 2) 73 from HA8.out); obtain ⟨f0, f1, f2⟩ := frz3 (show At0 w8 wr2.heap.size (arrD ⟨y0, y1, y2⟩ 2) 73 from HA8.out))
              go_roundw
              case rel => exact ⟨3, by go_num, by omega, at0_set9 HA8.out 2 (.int .i64 y2), RdrN.grown HR8.out (grown_set9 (a := ⟨wr2.heap.size, 2, none⟩) _) (fun g e => by have h1 := Option.some.inj e; have h2 := HRBV.out; simp only at h1; omega), grown_then (grown_then HGi.out HG8.out (.inl rfl)) (grown_set9 (a := ⟨wr2.heap.size, 2, none⟩) _) (.inr ⟨_, rfl, Nat.le_refl _⟩)⟩
              case measure => simp [intOf]
            · have HPi := Lib.hid (at0_grown HPj.out HGi.out (fun e => by have h1 := Option.some.inj e; have h2 := HRBR.out; have h3 := HPG.out; omega))
              have HOi := Lib.hid (World.ownsRow.kept HOj.out HGi.out (.inr (fun e => by have h1 := (World.ownsRow.lt HOj.out rb e).1; have h2 := HRBR.out; omega)))
              have HGV := Lib.hid (grown_trans9 HGj.out HGi.out)
              have NEP := Lib.hid (show some pb ≠ (Value.slice A4 j c4).ownBlock from fun e => own_box9 HOi.out HPi.out (by decide) e.symm)
              obtain ⟨p0, p1, p2⟩ := cel3 HPi.out
              obtain ⟨f0, f1, f2⟩ := frz3 HPi.out
              obtain ⟨a0, a1, a2⟩ := cel3 (show At0 wr wr2.heap.size [.int .i64 y0, .int .i64 y1, .int .i64 y2] 73 from HAi.out)
              go_upto_region 13 with fail
              have HPD := Lib.hid (show At0 wr.drew pb [.int .i64 x0, .int .i64 x1, .slice A4 j c4] 55 from HPi.out)
              go_region_law (first
                | (obtain ⟨A5, c5, w5, hrun, ho5, hg5, hv5⟩ := run_appFG (P := Tryd.prog) (w9.alloc (.cells (didC ⟨y0, y1, y2⟩).toArray 58)) didS 24 wr1.heap.size 53 53 58 Tryd.underlying53 didInfo (.slice A4 j c4) j (xd.take j) (HO9.out.alloc _) (w9.heap.size + 1) (some ⟨w9.heap.size, 0, none⟩) 1 1 [⟨y0, y1, y2⟩] (rdF_new w9 didS 58 ⟨y0, y1, y2⟩) (by omega) (by omega) HS9.out; dsimp only [didC] at hrun; refine step_append rfl _ _ 53 rfl rfl rfl hrun ?_; have HO5 := Lib.hid ho5; have HG5 := Lib.hid hg5; have HV5 := Lib.hid hv5; clear hrun ho5 hg5 hv5; have HP5 := Lib.hid (at0_grown (HP9.out.below (belA w9 _)) HG5.out (NEP.out)); obtain ⟨p0, p1, p2⟩ := cel3 HP5.out; obtain ⟨f0, f1, f2⟩ := frz3 HP5.out)
                | (go_simp; go_at_call 100; (with_reducible refine (wdid_is y0 y1 y2 _).mono ?_); rintro e w9 ⟨rfl, hb⟩; have hb9 := (bel_drew (Below.refl wr.heap.size wr)).trans (show Below wr.heap.size wr.drew w9 from hb); have HB9 := Lib.hid hb9; have HO9 := Lib.hid (OwnF.below HOi.out hb9); have HS9 := Lib.hid (show wr1.heap.size ≤ (w9.alloc (.cells (didC ⟨y0, y1, y2⟩).toArray 58)).heap.size from by have h1 := HGV.out.size; have h2 := hb9.size; rw [World.size_alloc]; omega); have HP9 := Lib.hid (HPi.out.below hb9); obtain ⟨p0, p1, p2⟩ := cel3 HP9.out; have hlt9 : pb < w9.heap.size := HP9.out.lt; clear hb hb9))
              all_goals have HCT := Lib.hid (prods_cut HRBR.out HPG.out HGV.out HOi.out HPi.out HRi.out HB9.out HG5.out (by have h9 := HO5.out; rw [← take_snoc9 HD.out] at h9; exact h9) HV5.out)
              all_goals go_wp2
              all_goals go_roundw
              all_goals first | exact ⟨j + 1, A5, c5, by go_num, by have := HM2.out; omega, by rw [show posP l k + 3 + 3 * (j + 1) = posP l k + 3 + 3 * j + 3 by omega]; exact HCT.out⟩ | (simp [intOf]; omega)
        · obtain rfl : j = m2 := by have := HM2.out; omega
          have HTX := Lib.hid (show xd.take j = xd from List.take_of_length_le (by have := HM2.out; omega))
          have HKY := Lib.hid (show OwnD wr2 wr1.heap.size (.slice A4 j c4) j xd from by have h9 := HOj.out; rw [HTX.out] at h9; exact h9)
          have HO2 := Lib.hid ((ownQ_far HO.out HGj.out HRB.out).alloc (.cells #[.int .i64 x0, .int .i64 x1, .slice A4 j c4] 55))
          have HSZ := Lib.hid (show w.heap.size ≤ (wr2.alloc (.cells #[.int .i64 x0, .int .i64 x1, .slice A4 j c4] 55)).heap.size from by have h1 := HG.out.size; have h2 := HGj.out.size; rw [World.size_alloc]; omega)
          obtain ⟨A5, c5, w5, hrun, ho5, hg5, hv5⟩ := run_appFG (P := Tryd.prog) (wr2.alloc (.cells #[.int .i64 x0, .int .i64 x1, .slice A4 j c4] 55)) prS 40 w.heap.size 22 22 55 Tryd.underlying22 prInfo (.slice A2 k c2) k hs HO2.out.row (wr2.heap.size + 1) (some ⟨wr2.heap.size, 0, none⟩) 1 1 [((⟨x0, x1, xd⟩ : Pd), A4, j, c4)] (rdF_new wr2 prS 55 ((⟨x0, x1, xd⟩ : Pd), A4, j, c4)) (by omega) (by omega) HSZ.out
          have HEND := Lib.hid (prods_end (y := ((⟨x0, x1, xd⟩ : Pd), A4, j, c4)) HRB.out HO.out HG.out HGj.out HKY.out (by show j ≤ reach; exact Nat.le_trans hm25 (by decide)) HRj.out hg5 ho5 hv5)
          obtain ⟨p0, p1, p2⟩ := cel3 HPj.out
          clear ho5 hg5 hv5
          go_wp2_with (at_builtin; refine wpList_app9 rfl _ _ 22 _ rfl rfl rfl hrun ?_)
          go_roundw
          case rel => exact ⟨k + 1, A5, c5, hs ++ [((⟨x0, x1, xd⟩ : Pd), A4, j, c4)], by go_num, rfl, by have := HM.out; omega, HEND.out.1, by rw [List.map_append, HLS.out, take_snoc9 HP.out]; rfl, by rw [posP_next HP.out]; show RdrN w5 rb A n c _ (posP l k + 3 + 3 * xd.length); rw [HM2.out]; exact HEND.out.2.1, HEND.out.2.2⟩
          case measure => simp [intOf]; omega
    · obtain rfl : k = m := by have := HM.out; omega
      have HTK := Lib.hid (show l.take k = l from List.take_of_length_le (by have := HM.out; omega))
      go_wp2
      go_ret
      exact ⟨A2, c2, hs, rfl, HO.out, by rw [HLS.out, HTK.out], HR.out, HG.out⟩
end Go.Proofs.YtllebgadhhgckaaDoor.Sqs
