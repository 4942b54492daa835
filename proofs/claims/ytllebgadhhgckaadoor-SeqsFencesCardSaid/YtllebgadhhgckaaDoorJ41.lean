/- Joined: SqsM6, SqsDF. -/
import Derived.Test.YtllebgadhhgckaaDoorJ16
import Derived.Test.YtllebgadhhgckaaDoorJ07
import Derived.Test.YtllebgadhhgckaaDoorJ06
import Derived.Test.YtllebgadhhgckaaDoorJ31
import Derived.Test.YtllebgadhhgckaaDoorJ36
import Derived.Test.YtllebgadhhgckaaDoorJ32
import Derived.Test.YtllebgadhhgckaaDoorJ22
import Derived.Test.YtllebgadhhgckaaDoorJ09
import Derived.Test.YtllebgadhhgckaaDoorJ27
/- Producers as numbers, and as bytes. Nothing of the program. -/
namespace Go.Proofs.YtllebgadhhgckaaDoor.Sqs
open Oct Rec Crc Bat Seg

def nb (l : List Int) : List UInt8 := l.flatMap fun x => vb (zz x)
def W63 (x : Int) : Prop := -9223372036854775808 ≤ x ∧ x ≤ 9223372036854775807
theorem nb_app (a b : List Int) : nb (a ++ b) = nb a ++ nb b := List.flatMap_append
theorem nb_ten {l : List Int} (h : ∀ x ∈ l, W63 x) : (nb l).length ≤ 10 * l.length := by
  induction l with
  | nil => simp [nb]
  | cons x l ih =>
    have h1 := ih fun y hy => h y (by simp [hy])
    have h2 := vb_ten (zz_lt (h x (by simp)))
    show (vb (zz x) ++ nb l).length ≤ _
    rw [List.length_append, List.length_cons]
    omega
theorem nb_snoc {l : List Int} {j : Nat} {x : Int} (h : l[j]? = some x) : nb (l.take (j + 1)) = nb (l.take j) ++ vb (zz x) := by
  rw [List.take_add_one, h]
  show nb (l.take j ++ [x]) = _
  rw [nb_app]
  show _ ++ (vb (zz x) ++ []) = _
  rw [List.append_nil]
def numD (d : Dd) : List Int := [d.sq, d.la, d.ba]
def numP (p : Pd) : List Int := [p.pid, p.gen, (p.did.length : Int)] ++ p.did.flatMap numD
def numL (l : List Pd) : List Int := (l.length : Int) :: l.flatMap numP
def saveP (l : List Pd) : List UInt8 × Int := if ckP l = 0 then (sealB (nb (numL l)), 0) else ([], ckP l)
theorem numP_len (p : Pd) : (numP p).length = 3 + 3 * p.did.length := by
  unfold numP
  rw [List.length_append]
  have h : ∀ l : List Dd, (l.flatMap numD).length = 3 * l.length := by
    intro l
    induction l with
    | nil => rfl
    | cons d l ih => rw [List.flatMap_cons, List.length_append, ih]; simp [numD]; omega
  rw [h]
  simp
theorem w63_d {d : Dd} (h : ddOk d = true) : ∀ x ∈ numD d, W63 x := by
  have h1 := of_decide_eq_true h
  intro x hx
  simp only [numD, List.mem_cons, List.not_mem_nil, or_false] at hx
  unfold W63
  rcases hx with rfl | rfl | rfl <;> omega
theorem ddOk_all {o : Option Int} {l : List Dd} (h : chD o l = true) : ∀ d ∈ l, ddOk d = true := by
  induction l generalizing o with
  | nil => intro d hd; cases hd
  | cons y l ih =>
    rw [chD, Bool.and_eq_true, Bool.and_eq_true] at h
    intro d hd
    rcases List.mem_cons.1 hd with rfl | hd
    · exact h.1.1
    · exact ih h.2 d hd
theorem did_parts {l : List Dd} (h : didOk l = true) : l.length ≤ 5 ∧ (∀ d ∈ l, ddOk d = true) := by
  unfold didOk at h
  rw [Bool.and_eq_true, decide_eq_true_eq] at h
  exact ⟨h.2, ddOk_all h.1⟩
theorem pd_parts {l : List Pd} (hC : ckP l = 0) {p : Pd} (hp : p ∈ l) : (0 ≤ p.pid ∧ p.pid ≤ 1099511627776) ∧ (0 ≤ p.gen ∧ p.gen ≤ 1048576) ∧ p.did.length ≤ 5 ∧ (∀ d ∈ p.did, ddOk d = true) := by
  have h := chP_mem (ckP_iff.1 hC).2 p hp
  have h2 := did_parts h.2.2.2
  exact ⟨h.2.1, h.2.2.1, h2.1, h2.2⟩
theorem w63_p {p : Pd} (h1 : 0 ≤ p.pid ∧ p.pid ≤ 1099511627776) (h2 : 0 ≤ p.gen ∧ p.gen ≤ 1048576) (h3 : p.did.length ≤ 5) (h4 : ∀ d ∈ p.did, ddOk d = true) : ∀ x ∈ numP p, W63 x := by
  intro x hx
  unfold numP at hx
  rcases List.mem_append.1 hx with hx | hx
  · simp only [List.mem_cons, List.not_mem_nil, or_false] at hx
    unfold W63
    rcases hx with rfl | rfl | rfl <;> omega
  · obtain ⟨d, hd, hx⟩ := List.mem_flatMap.1 hx
    exact w63_d (h4 d hd) x hx
theorem flat_len {l : List Pd} (h : ∀ p ∈ l, p.did.length ≤ 5) : (l.flatMap numP).length ≤ 18 * l.length := by
  induction l with
  | nil => simp
  | cons p l ih =>
    have h1 := ih fun q hq => h q (by simp [hq])
    have h2 := h p (by simp)
    rw [List.flatMap_cons, List.length_append, numP_len, List.length_cons]
    omega
end Go.Proofs.YtllebgadhhgckaaDoor.Sqs

/- The landed seqs: putNumbers, Save. -/
namespace Go.Proofs.YtllebgadhhgckaaDoor.Sqs
open Go.RowKit Oct Rec Crc RowF RowK RowO Lay Bat InR
open Epo (At0 AtO belA)

theorem stays_row {w : World} {v u : Value} (h : Stays w v u) : u.ownBlock = v.ownBlock ∨ ∃ g, u.ownBlock = some g ∧ w.heap.size ≤ g := h
theorem stays_then {w w1 w2 : World} {v u u' : Value} (h : Stays w v u) (hg : w.grownBy w1 v.ownBlock) (h2 : w1.heap.size ≤ w2.heap.size) (hu : u'.ownBlock = u.ownBlock ∨ u'.ownBlock = some w2.heap.size) : Stays w v u' := by
  rcases hu with hu | hu
  · rcases h with h | ⟨g, h, hge⟩
    · exact .inl (hu.trans h)
    · exact .inr ⟨g, hu.trans h, hge⟩
  · exact .inr ⟨_, hu, Nat.le_trans hg.size h2⟩
def RdN (w : World) (B : Nat) (kb vo n : Nat) (ns : List Int) : Prop := ns.length = n ∧ kb < B ∧ ∀ k x, ns[k]? = some x → w.cell? ⟨kb, vo + k, none⟩ = some (.int .i64 x)
def NumO (w : World) (B : Nat) (v : Value) (l : List UInt8) (e : Ending) (w' : World) : Prop :=
  ∃ A' n' c', e = .returned (.slice A' n' c') ∧ OwnB w' 5 B (.slice A' n' c') n' l ∧ Stays w v (.slice A' n' c') ∧ w.grownBy w' v.ownBlock
def pnRel (bs : List UInt8) (ns : List Int) (B : Nat) (v : Value) (w : World) (bv iv : Value) (wr : World) : Prop :=
  ∃ (k : Nat) (A' : Option Addr) (n' c' : Nat), iv = .int .i64 (k : Int) ∧ bv = .slice A' n' c' ∧ k ≤ ns.length ∧ OwnB wr 5 B (.slice A' n' c') n' (bs ++ nb (ns.take k)) ∧ Stays w v (.slice A' n' c') ∧ w.grownBy wr v.ownBlock
set_option maxRecDepth 100000 in
set_option maxHeartbeats 8000000 in
theorem putNums_is (A : Option Addr) (n c B : Nat) (bs : List UInt8) (kb vo nn cc : Nat) (ns : List Int) (w : World) (ho : OwnB w 5 B (.slice A n c) n bs) (hB : B ≤ w.heap.size) (hv : RdN w w.heap.size kb vo nn ns) (hne : some kb ≠ (Value.slice A n c).ownBlock) (hw : ∀ x ∈ ns, W63 x) (hn : n ≤ 1000000) (hm : nn ≤ 1000) :
    Calls Tryd.prog 52 #[.slice A n c, .slice (some ⟨kb, vo, none⟩) nn cc] w (NumO w B (.slice A n c) (bs ++ nb ns)) := by
  have HLEN := Lib.hid ho.len
  have hnn : ns.length = nn := hv.1
  have HV := Lib.hid hv
  have HNE := Lib.hid hne
  have HW := Lib.hid hw
  have HO := Lib.hid ho
  have HU := Lib.hid (u8row : U8 Tryd.prog 5)
  clear ho hv hne hw
  go_enter Tryd.func52, Tryd.ntmps52
  go_wp2
  go_loopw [0, 9] (fun bv iv wr => pnRel bs ns B (.slice A n c) w bv iv wr) (fun _ iv _ => nn - (intOf iv).toNat)
  case atStart => exact ⟨0, A, n, c, rfl, rfl, Nat.zero_le _, by rw [List.take_zero]; show OwnB w _ B _ n (bs ++ []); rw [List.append_nil]; exact HO.out, .inl rfl, grown_bel (Below.refl _ _)⟩
  case round =>
    obtain ⟨k, A', n', c', rfl, rfl, hk, ho, hs, hg⟩ := hrel
    have HO1 := Lib.hid ho
    have HS1 := Lib.hid hs
    have HG1 := Lib.hid hg
    have hln := ho.len
    clear ho hs hg
    by_cases hlt : k < nn
    · obtain ⟨x, hx⟩ : ∃ x, ns[k]? = some x := ⟨ns[k]'(by omega), List.getElem?_eq_getElem _⟩
      have d0 : wr.cell? ⟨kb, vo + k, none⟩ = some (.int .i64 x) := (World.cell?_of_block (HG1.out.block kb HV.out.2.1 HNE.out)).trans (HV.out.2.2 k x hx)
      have hxw := HW.out x (List.mem_of_getElem? hx)
      have HX := Lib.hid hx
      have hn9 : n' ≤ 1000000 + 10 * 1000 := by
        have h1 := nb_ten (l := ns.take k) (fun y hy => HW.out y (List.mem_of_mem_take hy))
        have h2 := HLEN.out
        rw [List.length_append] at hln
        rw [List.length_take] at h1
        omega
      have hw1 : IntKind.i64.wrap ((k : Int) + 1) = (k : Int) + 1 := IntWalk.i64_in _ (by omega)
      have hkl : (k : Int) < (nn : Int) := by omega
      have hk0 : (0 : Int) ≤ (k : Int) := by omega
      have HBR := Lib.hid (Nat.le_trans hB HG1.out.size)
      have HPV := Lib.hid (PutVar_nil x wr hxw.1 hxw.2)
      clear hx hxw hln
      go_wp2_with (first
        | (go_at_call 73; (with_reducible refine HPV.out.mono ?_); rintro e w2 ⟨A2, n2, c2, rfl, ho2, hb2⟩; have HO2 := Lib.hid ho2; have HB2 := Lib.hid hb2; have HR2 := Lib.hid (OwnB.below HO1.out hb2); have hn2 : n2 ≤ 10 := (by have h1 := ho2.len; have h2 := vb_ten (zz_lt (HW.out x (List.mem_of_getElem? HX.out))); omega); obtain ⟨A5, c5, w5, hrun, ho5, hg5, hv5⟩ := run_appBG (P := Tryd.prog) w2 B 39 39 5 Tryd.underlying39 HU.out (.slice A' n' c') n' _ HR2.out w2.heap.size A2 n2 c2 (vb (zz x)) ho2.rd (by omega) (Nat.le_trans HBR.out hb2.size); clear ho2 hb2)
        | (at_builtin; refine wpList_app9 rfl _ _ 39 _ rfl rfl rfl hrun ?_))
      go_roundw
      case rel => exact ⟨k + 1, A5, n' + n2, c5, by go_num, rfl, by omega, by rw [nb_snoc HX.out, ← List.append_assoc]; exact ho5, stays_then HS1.out HG1.out (HB2.out.size) hv5, grown_then (grown_then HG1.out (grown_bel HB2.out) (.inl rfl)) hg5 (stays_row HS1.out)⟩
      case measure => simp [intOf]; omega
    · obtain rfl : k = nn := by omega
      have HE := Lib.hid (show ns.take k = ns from List.take_of_length_le (by omega))
      go_wp2
      go_ret
      exact ⟨A', n', c', rfl, by have h9 := HO1.out; rw [HE.out] at h9; exact h9, HS1.out, HG1.out⟩
end Go.Proofs.YtllebgadhhgckaaDoor.Sqs
