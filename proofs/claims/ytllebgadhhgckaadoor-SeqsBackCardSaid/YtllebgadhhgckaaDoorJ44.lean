/- Joined: SqsM6, SqsDF, SqsDG. -/
import Derived.Test.YtllebgadhhgckaaDoorJ16
import Derived.Test.YtllebgadhhgckaaDoorJ06
import Derived.Test.YtllebgadhhgckaaDoorJ05
import Derived.Test.YtllebgadhhgckaaDoorJ36
import Derived.Test.YtllebgadhhgckaaDoorJ40
import Derived.Test.YtllebgadhhgckaaDoorJ37
import Derived.Test.YtllebgadhhgckaaDoorJ21
import Derived.Test.YtllebgadhhgckaaDoorJ08
import Derived.Test.YtllebgadhhgckaaDoorJ28
/- Producers as numbers, and as bytes. Nothing of the program. -/
namespace Go.Proofs.YtllebgadhhgckaaDoor.Sqs
open Oct Rec Crc Bat Seg

def nb (l : List Int) : List UInt8 := l.flatMap fun x => vb (zz x)
def W63 (x : Int) : Prop := -9223372036854775808 ≤ x ∧ x ≤ 9223372036854775807
theorem nb_app (a b : List Int) : nb (a ++ b) = nb a ++ nb b := List.flatMap_append
theorem nb_ten {l : List Int} (h : ∀ x ∈ l, W63 x) : (nb l).length ≤ 10 * l.length := by
  induction l with
  | nil => simp [nb]
  | cons x l ih =>
    have h1 := ih fun y hy => h y (by simp [hy])
    have h2 := vb_ten (zz_lt (h x (by simp)))
    show (vb (zz x) ++ nb l).length ≤ _
    rw [List.length_append, List.length_cons]
    omega
theorem nb_snoc {l : List Int} {j : Nat} {x : Int} (h : l[j]? = some x) : nb (l.take (j + 1)) = nb (l.take j) ++ vb (zz x) := by
  rw [List.take_add_one, h]
  show nb (l.take j ++ [x]) = _
  rw [nb_app]
  show _ ++ (vb (zz x) ++ []) = _
  rw [List.append_nil]
def numD (d : Dd) : List Int := [d.sq, d.la, d.ba]
def numP (p : Pd) : List Int := [p.pid, p.gen, (p.did.length : Int)] ++ p.did.flatMap numD
def numL (l : List Pd) : List Int := (l.length : Int) :: l.flatMap numP
def saveP (l : List Pd) : List UInt8 × Int := if ckP l = 0 then (sealB (nb (numL l)), 0) else ([], ckP l)
theorem numP_len (p : Pd) : (numP p).length = 3 + 3 * p.did.length := by
  unfold numP
  rw [List.length_append]
  have h : ∀ l : List Dd, (l.flatMap numD).length = 3 * l.length := by
    intro l
    induction l with
    | nil => rfl
    | cons d l ih => rw [List.flatMap_cons, List.length_append, ih]; simp [numD]; omega
  rw [h]
  simp
theorem w63_d {d : Dd} (h : ddOk d = true) : ∀ x ∈ numD d, W63 x := by
  have h1 := of_decide_eq_true h
  intro x hx
  simp only [numD, List.mem_cons, List.not_mem_nil, or_false] at hx
  unfold W63
  rcases hx with rfl | rfl | rfl <;> omega
theorem ddOk_all {o : Option Int} {l : List Dd} (h : chD o l = true) : ∀ d ∈ l, ddOk d = true := by
  induction l generalizing o with
  | nil => intro d hd; cases hd
  | cons y l ih =>
    rw [chD, Bool.and_eq_true, Bool.and_eq_true] at h
    intro d hd
    rcases List.mem_cons.1 hd with rfl | hd
    · exact h.1.1
    · exact ih h.2 d hd
theorem did_parts {l : List Dd} (h : didOk l = true) : l.length ≤ 5 ∧ (∀ d ∈ l, ddOk d = true) := by
  unfold didOk at h
  rw [Bool.and_eq_true, decide_eq_true_eq] at h
  exact ⟨h.2, ddOk_all h.1⟩
theorem pd_parts {l : List Pd} (hC : ckP l = 0) {p : Pd} (hp : p ∈ l) : (0 ≤ p.pid ∧ p.pid ≤ 1099511627776) ∧ (0 ≤ p.gen ∧ p.gen ≤ 1048576) ∧ p.did.length ≤ 5 ∧ (∀ d ∈ p.did, ddOk d = true) := by
  have h := chP_mem (ckP_iff.1 hC).2 p hp
  have h2 := did_parts h.2.2.2
  exact ⟨h.2.1, h.2.2.1, h2.1, h2.2⟩
theorem w63_p {p : Pd} (h1 : 0 ≤ p.pid ∧ p.pid ≤ 1099511627776) (h2 : 0 ≤ p.gen ∧ p.gen ≤ 1048576) (h3 : p.did.length ≤ 5) (h4 : ∀ d ∈ p.did, ddOk d = true) : ∀ x ∈ numP p, W63 x := by
  intro x hx
  unfold numP at hx
  rcases List.mem_append.1 hx with hx | hx
  · simp only [List.mem_cons, List.not_mem_nil, or_false] at hx
    unfold W63
    rcases hx with rfl | rfl | rfl <;> omega
  · obtain ⟨d, hd, hx⟩ := List.mem_flatMap.1 hx
    exact w63_d (h4 d hd) x hx
theorem flat_len {l : List Pd} (h : ∀ p ∈ l, p.did.length ≤ 5) : (l.flatMap numP).length ≤ 18 * l.length := by
  induction l with
  | nil => simp
  | cons p l ih =>
    have h1 := ih fun q hq => h q (by simp [hq])
    have h2 := h p (by simp)
    rw [List.flatMap_cons, List.length_append, numP_len, List.length_cons]
    omega
end Go.Proofs.YtllebgadhhgckaaDoor.Sqs

/- The landed seqs: putNumbers, Save. -/
namespace Go.Proofs.YtllebgadhhgckaaDoor.Sqs
open Go.RowKit Oct Rec Crc RowF RowK RowO Lay Bat InR
open Epo (At0 AtO belA)

theorem stays_row {w : World} {v u : Value} (h : Stays w v u) : u.ownBlock = v.ownBlock ∨ ∃ g, u.ownBlock = some g ∧ w.heap.size ≤ g := h
theorem stays_then {w w1 w2 : World} {v u u' : Value} (h : Stays w v u) (hg : w.grownBy w1 v.ownBlock) (h2 : w1.heap.size ≤ w2.heap.size) (hu : u'.ownBlock = u.ownBlock ∨ u'.ownBlock = some w2.heap.size) : Stays w v u' := by
  rcases hu with hu | hu
  · rcases h with h | ⟨g, h, hge⟩
    · exact .inl (hu.trans h)
    · exact .inr ⟨g, hu.trans h, hge⟩
  · exact .inr ⟨_, hu, Nat.le_trans hg.size h2⟩
def RdN (w : World) (B : Nat) (kb vo n : Nat) (ns : List Int) : Prop := ns.length = n ∧ kb < B ∧ ∀ k x, ns[k]? = some x → w.cell? ⟨kb, vo + k, none⟩ = some (.int .i64 x)
def NumO (w : World) (B : Nat) (v : Value) (l : List UInt8) (e : Ending) (w' : World) : Prop :=
  ∃ A' n' c', e = .returned (.slice A' n' c') ∧ OwnB w' 5 B (.slice A' n' c') n' l ∧ Stays w v (.slice A' n' c') ∧ w.grownBy w' v.ownBlock
def pnRel (bs : List UInt8) (ns : List Int) (B : Nat) (v : Value) (w : World) (bv iv : Value) (wr : World) : Prop :=
  ∃ (k : Nat) (A' : Option Addr) (n' c' : Nat), iv = .int .i64 (k : Int) ∧ bv = .slice A' n' c' ∧ k ≤ ns.length ∧ OwnB wr 5 B (.slice A' n' c') n' (bs ++ nb (ns.take k)) ∧ Stays w v (.slice A' n' c') ∧ w.grownBy wr v.ownBlock
set_option maxRecDepth 100000 in
set_option maxHeartbeats 8000000 in
theorem putNums_is (A : Option Addr) (n c B : Nat) (bs : List UInt8) (kb vo nn cc : Nat) (ns : List Int) (w : World) (ho : OwnB w 5 B (.slice A n c) n bs) (hB : B ≤ w.heap.size) (hv : RdN w w.heap.size kb vo nn ns) (hne : some kb ≠ (Value.slice A n c).ownBlock) (hw : ∀ x ∈ ns, W63 x) (hn : n ≤ 1000000) (hm : nn ≤ 1000) :
    Calls Tryd.prog 52 #[.slice A n c, .slice (some ⟨kb, vo, none⟩) nn cc] w (NumO w B (.slice A n c) (bs ++ nb ns)) := by
  have HLEN := Lib.hid ho.len
  have hnn : ns.length = nn := hv.1
  have HV := Lib.hid hv
  have HNE := Lib.hid hne
  have HW := Lib.hid hw
  have HO := Lib.hid ho
  have HU := Lib.hid (u8row : U8 Tryd.prog 5)
  clear ho hv hne hw
  go_enter Tryd.func52, Tryd.ntmps52
  go_wp2
  go_loopw [0, 9] (fun bv iv wr => pnRel bs ns B (.slice A n c) w bv iv wr) (fun _ iv _ => nn - (intOf iv).toNat)
  case atStart => exact ⟨0, A, n, c, rfl, rfl, Nat.zero_le _, by rw [List.take_zero]; show OwnB w _ B _ n (bs ++ []); rw [List.append_nil]; exact HO.out, .inl rfl, grown_bel (Below.refl _ _)⟩
  case round =>
    obtain ⟨k, A', n', c', rfl, rfl, hk, ho, hs, hg⟩ := hrel
    have HO1 := Lib.hid ho
    have HS1 := Lib.hid hs
    have HG1 := Lib.hid hg
    have hln := ho.len
    clear ho hs hg
    by_cases hlt : k < nn
    · obtain ⟨x, hx⟩ : ∃ x, ns[k]? = some x := ⟨ns[k]'(by omega), List.getElem?_eq_getElem _⟩
      have d0 : wr.cell? ⟨kb, vo + k, none⟩ = some (.int .i64 x) := (World.cell?_of_block (HG1.out.block kb HV.out.2.1 HNE.out)).trans (HV.out.2.2 k x hx)
      have hxw := HW.out x (List.mem_of_getElem? hx)
      have HX := Lib.hid hx
      have hn9 : n' ≤ 1000000 + 10 * 1000 := by
        have h1 := nb_ten (l := ns.take k) (fun y hy => HW.out y (List.mem_of_mem_take hy))
        have h2 := HLEN.out
        rw [List.length_append] at hln
        rw [List.length_take] at h1
        omega
      have hw1 : IntKind.i64.wrap ((k : Int) + 1) = (k : Int) + 1 := IntWalk.i64_in _ (by omega)
      have hkl : (k : Int) < (nn : Int) := by omega
      have hk0 : (0 : Int) ≤ (k : Int) := by omega
      have HBR := Lib.hid (Nat.le_trans hB HG1.out.size)
      have HPV := Lib.hid (PutVar_nil x wr hxw.1 hxw.2)
      clear hx hxw hln
      go_wp2_with (first
        | (go_at_call 73; (with_reducible refine HPV.out.mono ?_); rintro e w2 ⟨A2, n2, c2, rfl, ho2, hb2⟩; have HO2 := Lib.hid ho2; have HB2 := Lib.hid hb2; have HR2 := Lib.hid (OwnB.below HO1.out hb2); have hn2 : n2 ≤ 10 := (by have h1 := ho2.len; have h2 := vb_ten (zz_lt (HW.out x (List.mem_of_getElem? HX.out))); omega); obtain ⟨A5, c5, w5, hrun, ho5, hg5, hv5⟩ := run_appBG (P := Tryd.prog) w2 B 39 39 5 Tryd.underlying39 HU.out (.slice A' n' c') n' _ HR2.out w2.heap.size A2 n2 c2 (vb (zz x)) ho2.rd (by omega) (Nat.le_trans HBR.out hb2.size); clear ho2 hb2)
        | (at_builtin; refine wpList_app9 rfl _ _ 39 _ rfl rfl rfl hrun ?_))
      go_roundw
      case rel => exact ⟨k + 1, A5, n' + n2, c5, by go_num, rfl, by omega, by rw [nb_snoc HX.out, ← List.append_assoc]; exact ho5, stays_then HS1.out HG1.out (HB2.out.size) hv5, grown_then (grown_then HG1.out (grown_bel HB2.out) (.inl rfl)) hg5 (stays_row HS1.out)⟩
      case measure => simp [intOf]; omega
    · obtain rfl : k = nn := by omega
      have HE := Lib.hid (show ns.take k = ns from List.take_of_length_le (by omega))
      go_wp2
      go_ret
      exact ⟨A', n', c', rfl, by have h9 := HO1.out; rw [HE.out] at h9; exact h9, HS1.out, HG1.out⟩
end Go.Proofs.YtllebgadhhgckaaDoor.Sqs

/- The landed seqs: Save. -/
namespace Go.Proofs.YtllebgadhhgckaaDoor.Sqs
open Go.RowKit Oct Rec Crc RowF RowK RowO Lay Bat InR
open Epo (At0 AtO belA)

def SaveO (w : World) (X : List UInt8) (E : Int) (e : Ending) (w' : World) : Prop :=
  ∃ A' n' c', e = .returned (.tuple #[.slice A' n' c', .int .i64 E]) ∧ OwnB w' 5 w.heap.size (.slice A' n' c') n' X ∧ Below w.heap.size w w'
def svRel (pre : List UInt8) (l : List Pd) (w : World) (bv iv : Value) (wr : World) : Prop :=
  ∃ (k : Nat) (A' : Option Addr) (n' c' : Nat), iv = .int .i64 (k : Int) ∧ bv = .slice A' n' c' ∧ k ≤ l.length ∧ OwnB wr 5 w.heap.size (.slice A' n' c') n' (pre ++ nb ((l.take k).flatMap numP)) ∧ Below w.heap.size w wr
def siRel (pre : List UInt8) (l : List Dd) (w : World) (bv iv : Value) (wr : World) : Prop :=
  ∃ (k : Nat) (A' : Option Addr) (n' c' : Nat), iv = .int .i64 (k : Int) ∧ bv = .slice A' n' c' ∧ k ≤ l.length ∧ OwnB wr 5 w.heap.size (.slice A' n' c') n' (pre ++ nb ((l.take k).flatMap numD)) ∧ Below w.heap.size w wr
theorem take_flat {α : Type} {f : α → List Int} {l : List α} {k : Nat} {x : α} (h : l[k]? = some x) : (l.take (k + 1)).flatMap f = (l.take k).flatMap f ++ f x := by
  rw [List.take_add_one, h]
  show (_ ++ [x]).flatMap f = _
  rw [List.flatMap_append, List.flatMap_cons, List.flatMap_nil, List.append_nil]
theorem rdN_new (w : World) (ns : List Int) (e : TypeId) : RdN (w.alloc (.cells (ns.map (Value.int .i64)).toArray e)) (w.alloc (.cells (ns.map (Value.int .i64)).toArray e)).heap.size w.heap.size 0 ns.length ns :=
  ⟨rfl, by simp, fun k x hx => by
    rw [Nat.zero_add, (At0.new w (ns.map (Value.int .i64)) e).cell, List.getElem?_map, hx]; rfl⟩
theorem own_low {w : World} {B n : Nat} {v : Value} {l : List UInt8} {e : TypeId} (h : OwnB w e B v n l) : some w.heap.size ≠ v.ownBlock := fun e => by have := (World.ownsRow.lt h _ e.symm).2; omega
theorem below_rowB {w w' : World} {B n : Nat} {v : Value} {l : List UInt8} {e : TypeId} (h : OwnB w e B v n l) (hg : w.grownBy w' v.ownBlock) (hB : B ≤ w.heap.size) : Below B w w' :=
  ⟨hg.os, hg.tape, hg.output, hg.size, fun i hi => hg.block i (Nat.lt_of_lt_of_le hi hB) (fun e => by have := (World.ownsRow.lt h i e.symm).1; omega)⟩
theorem flatD_len (l : List Dd) : (l.flatMap numD).length = 3 * l.length := by
  induction l with
  | nil => rfl
  | cons d l ih => rw [List.flatMap_cons, List.length_append, ih]; simp [numD]; omega
set_option maxRecDepth 100000 in
set_option maxHeartbeats 8000000 in
theorem dSave_is (A : Option Addr) (n c : Nat) (l : List Pd) (w : World) (hr : RdP w w.heap.size A n l) (hn : n ≤ reach) (ht : Tab w) {X : List UInt8} {E : Int} (hX : saveP l = (X, E)) :
    Calls Tryd.prog 25 #[.slice A n c] w (SaveO w X E) := by
  have HR := Lib.hid hr
  have HT := Lib.hid ht
  have HLN := Lib.hid hr.len
  obtain ⟨C, hC⟩ : ∃ C, ckP l = C := ⟨_, rfl⟩
  have HCK := Lib.hid (dCheckP_is A n c l w hr hn hC)
  unfold saveP at hX
  rw [hC] at hX
  clear hr ht
  by_cases h1 : C = 0
  case neg =>
    rw [if_neg h1] at hX
    injection hX with e1 e2
    subst e1; subst e2
    have g1 : (C == 0) = false := beq_eq_false_iff_ne.2 h1
    clear hC h1
    go_enter Tryd.func25, Tryd.ntmps25
    go_wp2_with (go_at_call 16; (with_reducible refine HCK.out.mono ?_); rintro e w2 ⟨rfl, hb⟩; have HB2 := Lib.hid hb; clear hb)
    go_ret2
    exact ⟨none, 0, 0, rfl, OwnB.nil, HB2.out⟩
  subst h1
  rw [if_pos rfl] at hX
  injection hX with e1 e2
  subst e1; subst e2
  have hn1024 := (ckP_iff.1 hC).1
  rw [HLN.out] at hn1024
  have HC := Lib.hid hC
  have HD5 := Lib.hid (show ∀ p ∈ l, p.did.length ≤ 5 from fun p hp => (pd_parts HC.out hp).2.2.1)
  have HBD := Lib.hid (show ∀ k, (nb [(n : Int)] ++ nb ((l.take k).flatMap numP)).length ≤ 200000 from fun k => by
    have h1 := nb_ten (l := (l.take k).flatMap numP) (fun y hy => by
      obtain ⟨p, hp, hy⟩ := List.mem_flatMap.1 hy
      have h9 := pd_parts HC.out (List.mem_of_mem_take hp)
      exact w63_p h9.1 h9.2.1 h9.2.2.1 h9.2.2.2 y hy)
    have h2 := flat_len (l := l.take k) (fun p hp => HD5.out p (List.mem_of_mem_take hp))
    have h4 := nb_ten (l := [(n : Int)]) (by intro x hx; simp only [List.mem_singleton] at hx; unfold W63; omega)
    have h5 := HLN.out
    rw [List.length_take] at h2
    rw [List.length_append]
    simp only [List.length_singleton] at h4
    omega)
  clear hC
  go_enter Tryd.func25, Tryd.ntmps25
  go_wp2_with (first
    | (go_at_call 16; (with_reducible refine HCK.out.mono ?_); rintro e w2 ⟨rfl, hb⟩; have HB2 := Lib.hid hb; clear hb)
    | (go_at_call 52; have HPN := Lib.hid (putNums_is none 0 0 w.heap.size [] w2.heap.size 0 1 1 [(n : Int)] (w2.alloc (.cells #[.int .i64 (n : Int)] 3)) OwnB.nil (Nat.le_trans HB2.out.size (belA w2 _).size) (rdN_new w2 [(n : Int)] 3) (fun e => by cases e) (by intro x hx; simp only [List.mem_singleton] at hx; unfold W63; omega) (by omega) (by omega)); (with_reducible refine HPN.out.mono ?_); rintro e w3 ⟨A3, n3, c3, rfl, ho, hs, hg⟩; have HO3 := Lib.hid ho; have HB3 := Lib.hid (HB2.out.trans (((belA w2 _).mono HB2.out.size).trans ((show Below w.heap.size _ w3 from ⟨hg.os, hg.tape, hg.output, hg.size, fun i hi => hg.block i (Nat.lt_of_lt_of_le hi (Nat.le_trans HB2.out.size (belA w2 _).size)) (fun e => by cases e)⟩)))); clear ho hs hg))
  go_loopw [5, 22] (fun bv iv wr => svRel (nb [(n : Int)]) l w bv iv wr) (fun _ iv _ => n - (intOf iv).toNat)
  case atStart => exact ⟨0, A3, n3, c3, rfl, rfl, Nat.zero_le _, by rw [List.take_zero]; show OwnB w3 _ _ _ n3 (_ ++ []); rw [List.append_nil]; exact HO3.out, HB3.out⟩
  case round =>
    obtain ⟨k, A4, n4, c4, rfl, rfl, hk, ho, hb⟩ := hrel
    have HO4 := Lib.hid ho
    have HB4 := Lib.hid hb
    have HN4 := Lib.hid ho.len
    clear ho hb
    by_cases hlt : k < n
    · obtain ⟨b, o, ⟨x0, x1, xd⟩, A', n', c', rfl, hbl, hxk, hc', hn', hrd, d0', d1', d2'⟩ := pr_at HR.out hlt
      have d0 := (HB4.out.cell (p := ⟨b, o + k * 3, none⟩) hbl).trans d0'
      have d1 := (HB4.out.cell (p := ⟨b, o + k * 3 + 1, none⟩) hbl).trans d1'
      have d2 := (HB4.out.cell (p := ⟨b, o + k * 3 + 2, none⟩) hbl).trans d2'
      simp only at d0 d1 hrd
      clear d0' d1' d2'
      have hpp := pd_parts HC.out (List.mem_of_getElem? hxk)
      simp only at hpp
      have HX := Lib.hid hxk
      have HPP := Lib.hid hpp
      have hn5 : n' ≤ 5 := by have := hrd.len; omega
      have hw1 : IntKind.i64.wrap ((k : Int) + 1) = (k : Int) + 1 := IntWalk.i64_in _ (by omega)
      have hkl : (k : Int) < (n : Int) := by omega
      have hk0 : (0 : Int) ≤ (k : Int) := by omega
      have hn49 : n4 ≤ 200000 := by have h1 := HBD.out k; have h2 := HN4.out; omega
      go_upto_region 8 with fail
      have hba := belA wr (.cells #[.int .i64 x0, .int .i64 x1, .slice A' n' c'] 55)
      have HB5 := Lib.hid (Epo.bel_trans HB4.out hba)
      have HO5 := Lib.hid (OwnB.below HO4.out hba)
      have HDW := Lib.hid hrd
      have HAT := Lib.hid (At0.new wr [.int .i64 x0, .int .i64 x1, .slice A' n' c'] 55)
      have HNB := Lib.hid (own_low HO4.out)
      clear hba d0 d1 d2 hxk hbl hrd hpp
      generalize (wr.alloc (.cells #[.int .i64 x0, .int .i64 x1, .slice A' n' c'] 55)) = W at *
      obtain ⟨q0, q1, q2⟩ := cel3 HAT.out
      go_upto_region 9 with (go_at_call 52; have HPN := Lib.hid (putNums_is A4 n4 c4 w.heap.size (nb [(n : Int)] ++ nb ((l.take k).flatMap numP)) W.heap.size 0 3 3 [x0, x1, (n' : Int)] (W.alloc (.cells #[.int .i64 x0, .int .i64 x1, .int .i64 (n' : Int)] 3)) (OwnB.alloc HO5.out _) (Nat.le_trans HB5.out.size (belA W _).size) (rdN_new W [x0, x1, (n' : Int)] 3) (own_low HO5.out) (by have h9 := HPP.out; intro x hx; simp only [List.mem_cons, List.not_mem_nil, or_false] at hx; unfold W63; rcases hx with rfl | rfl | rfl <;> omega) (by omega) (by omega)); (with_reducible refine HPN.out.mono ?_); rintro e w6 ⟨A6, n6, c6, rfl, ho, hs, hg⟩; have HO6 := Lib.hid ho; have HB6 := Lib.hid (HB5.out.trans (((belA W _).mono HB5.out.size).trans (below_rowB (OwnB.alloc HO5.out _) hg (Nat.le_trans HB5.out.size (belA W _).size)))); have HAT6 := Lib.hid (at0_grown (HAT.out.below (belA W _)) hg HNB.out); clear ho hs hg; clear q0 q1 q2; obtain ⟨q0, q1, q2⟩ := cel3 HAT6.out)
      obtain ⟨pre, hpre⟩ : ∃ pre, nb [(n : Int)] ++ nb ((l.take k).flatMap numP) ++ nb [x0, x1, (n' : Int)] = pre := ⟨_, rfl⟩
      have HPRE := Lib.hid hpre
      have HO7 := Lib.hid (show OwnB w6 5 w.heap.size (.slice A6 n6 c6) n6 pre from by rw [← hpre]; exact HO6.out)
      have HPL := Lib.hid (show pre.length ≤ 200030 from by
        have h1 := HBD.out k
        have h2 := nb_ten (l := [x0, x1, (n' : Int)]) (by have h9 := HPP.out; intro x hx; simp only [List.mem_cons, List.not_mem_nil, or_false] at hx; unfold W63; rcases hx with rfl | rfl | rfl <;> omega)
        rw [← hpre, List.length_append]
        simp only [List.length_cons, List.length_nil] at h2
        omega)
      clear hpre
      go_wp2
      clear q0 q1 q2
      go_loopw [5, 39] (fun bv iv wr => siRel pre xd w bv iv wr) (fun _ iv _ => n' - (intOf iv).toNat)
      case atStart => exact ⟨0, A6, n6, c6, rfl, rfl, Nat.zero_le _, by rw [List.take_zero]; show OwnB w6 _ _ _ n6 (_ ++ []); rw [List.append_nil]; exact HO7.out, HB6.out⟩
      case round =>
        obtain ⟨j, A8, n8, c8, rfl, rfl, hj, ho, hb⟩ := hrel
        have HO8 := Lib.hid ho
        have HB8 := Lib.hid hb
        have HN8 := Lib.hid ho.len
        have HLX := Lib.hid HDW.out.len
        clear ho hb
        by_cases hlj : j < n'
        · obtain ⟨b9, o9, ⟨y0, y1, y2⟩, rfl, hbl9, hyk, e0', e1', e2'⟩ := did_at HDW.out hlj
          have e0 := (HB8.out.cell (p := ⟨b9, o9 + j * 3, none⟩) hbl9).trans e0'
          have e1 := (HB8.out.cell (p := ⟨b9, o9 + j * 3 + 1, none⟩) hbl9).trans e1'
          have e2 := (HB8.out.cell (p := ⟨b9, o9 + j * 3 + 2, none⟩) hbl9).trans e2'
          simp only at e0 e1 e2
          have HY := Lib.hid hyk
          have HW3 := Lib.hid (w63_d (HPP.out.2.2.2 _ (List.mem_of_getElem? hyk)))
          have hw3 : IntKind.i64.wrap ((j : Int) + 1) = (j : Int) + 1 := IntWalk.i64_in _ (by omega)
          have hjl : (j : Int) < (n' : Int) := by omega
          have hj0 : (0 : Int) ≤ (j : Int) := by omega
          have hn89 : n8 ≤ 300000 := by
            have h1 := nb_ten (l := (xd.take j).flatMap numD) (fun y hy => by
              obtain ⟨d, hd, hy⟩ := List.mem_flatMap.1 hy
              exact w63_d (HPP.out.2.2.2 d (List.mem_of_mem_take hd)) y hy)
            have h2 := flatD_len (xd.take j)
            have h3 := HN8.out
            have h4 := HPL.out
            rw [List.length_take] at h2
            rw [List.length_append] at h3
            omega
          clear e0' e1' e2' hyk hbl9
          go_upto_region 12 with fail
          have hba := belA wr (.cells #[.int .i64 y0, .int .i64 y1, .int .i64 y2] 58)
          have HB9 := Lib.hid (Epo.bel_trans HB8.out hba)
          have HO9 := Lib.hid (OwnB.below HO8.out hba)
          have HY9 := Lib.hid (At0.new wr [.int .i64 y0, .int .i64 y1, .int .i64 y2] 58)
          clear hba e0 e1 e2
          generalize (wr.alloc (.cells #[.int .i64 y0, .int .i64 y1, .int .i64 y2] 58)) = V at *
          obtain ⟨e0, e1, e2⟩ := cel3 HY9.out
          go_upto_region 13 with (go_at_call 53; (with_reducible refine (wroteOf_is y0 y1 y2 _).mono ?_); rintro e wa ⟨rfl, hb⟩; have HBa := Lib.hid (Epo.bel_trans HB9.out hb); have HOa := Lib.hid (OwnB.below HO9.out hb); clear hb)
          have HWR := Lib.hid (show ∀ x ∈ [y0, y1, y2], W63 x from HW3.out)
          have HPN := Lib.hid (putNums_is A8 n8 c8 w.heap.size (pre ++ nb ((xd.take j).flatMap numD)) wa.heap.size 0 3 3 [y0, y1, y2] (wa.alloc (.cells #[.int .i64 y0, .int .i64 y1, .int .i64 y2] 73)) (OwnB.alloc HOa.out _) (Nat.le_trans HBa.out.size (belA wa _).size) (rdN_new wa [y0, y1, y2] 73) (own_low HOa.out) HWR.out (by omega) (by omega))
          go_wp2_with (go_at_call 52; (with_reducible refine HPN.out.mono ?_); rintro e wb ⟨Ab, nb9, cb, rfl, ho, hs, hg⟩; have HOb := Lib.hid ho; have HBb := Lib.hid (HBa.out.trans (((belA wa _).mono HBa.out.size).trans (below_rowB (OwnB.alloc HOa.out _) hg (Nat.le_trans HBa.out.size (belA wa _).size)))); clear ho hs hg)
          go_roundw
          case rel => exact ⟨j + 1, Ab, nb9, cb, by go_num, rfl, by have := HLX.out; omega, by rw [take_flat HY.out, nb_app, ← List.append_assoc]; exact HOb.out, HBb.out⟩
          case measure => simp [intOf]; omega
        · obtain rfl : j = n' := by have := HLX.out; omega
          have HPV := Lib.hid (show pre ++ nb ((xd.take j).flatMap numD) = nb [(n : Int)] ++ nb ((l.take (k + 1)).flatMap numP) from by
            rw [List.take_of_length_le (by have := HLX.out; omega), ← HPRE.out, take_flat HX.out, nb_app, List.append_assoc, List.append_assoc]
            congr 1
            congr 1
            rw [← nb_app]
            congr 1
            show [x0, x1, (j : Int)] ++ _ = [x0, x1, (xd.length : Int)] ++ _
            rw [HLX.out])
          go_wp2
          go_roundw
          case rel => exact ⟨k + 1, A8, n8, c8, by go_num, rfl, by have := HLN.out; omega, by rw [← HPV.out]; exact HO8.out, HB8.out⟩
          case measure => simp [intOf]; omega
    · obtain rfl : k = n := by have := HLN.out; omega
      have HTK := Lib.hid (show nb [((k : Nat) : Int)] ++ nb ((l.take k).flatMap numP) = nb (numL l) from by
        rw [List.take_of_length_le (by have := HLN.out; omega), ← nb_app]
        show nb ((k : Int) :: l.flatMap numP) = nb ((l.length : Int) :: l.flatMap numP)
        rw [HLN.out])
      have HSL := Lib.hid (Seal_any A4 n4 c4 (nb (numL l)) wr.heap.size wr (by have h9 := HO4.out.rd; rw [HTK.out] at h9; exact h9) (Nat.le_refl _) HO4.out.cap (by have h1 := HBD.out k; have h2 := HN4.out; omega) (HT.out.bel HB4.out))
      go_wp2_with (go_at_call 54; (with_reducible refine HSL.out.mono ?_); rintro e w7 ⟨A7, n7, c7, rfl, ho, hb⟩; have HO7 := Lib.hid ho; have HB7 := Lib.hid (Epo.bel_trans HB4.out hb); have HS4 := Lib.hid HB4.out.size; clear ho hb)
      go_ret2
      exact ⟨A7, n7, c7, rfl, OwnB.more HO7.out HS4.out, HB7.out⟩
end Go.Proofs.YtllebgadhhgckaaDoor.Sqs
