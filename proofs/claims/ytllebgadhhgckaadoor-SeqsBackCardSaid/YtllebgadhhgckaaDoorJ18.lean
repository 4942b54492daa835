/- Joined: SqsDA, SqsR3, SqsR4. -/
import Derived.Test.YtllebgadhhgckaaDoorJ17
import Derived.Deep.RegionLaw
import Derived.Laws.OwnMore
import Derived.Test.YtllebgadhhgckaaDoorJ13
import Derived.Deep.DeepCutAuto
/- The landed seqs: slices.Delete. -/
namespace Go.Proofs.YtllebgadhhgckaaDoor.Sqs
open Go.RowKit Oct Rec RowF RowK RowO Lay Bat InR
open Epo (At0 AtO belA)

theorem grown_trans9 {a b c : World} {r : Option Nat} (h : a.grownBy b r) (k : b.grownBy c r) : a.grownBy c r := ⟨k.os.trans h.os, k.tape.trans h.tape, k.output.trans h.output, Nat.le_trans h.size k.size, fun i hi hr => (k.block i (Nat.lt_of_lt_of_le hi h.size) hr).trans (h.block i hi hr)⟩
theorem ownF_take {α : Type} {f : α → List Value} {size : Nat} {w : World} {e : TypeId} {B g n cap m : Nat} {l : List α} (hs : Shape f size) (h : OwnF f size w e B (.slice (some ⟨g, 0, none⟩) n cap) n l) (hm : m ≤ n) : OwnF f size w e B (.slice (some ⟨g, 0, none⟩) m cap) m (l.take m) := by
  have hl := h.len hs
  rcases h.2 with ⟨h', _⟩ | ⟨g', cap', cur, h', hb, hg, hnc, hcm, hcs, ht⟩
  · simp at h'
  · refine ⟨by rw [hs.flat, List.length_take, Nat.min_eq_left (by omega)], .inr ⟨g, cap, cur, rfl, ?_⟩⟩
    simp only [Value.slice.injEq, Option.some.injEq, Addr.mk.injEq, and_true, true_and] at h'
    obtain ⟨rfl, rfl⟩ := h'
    refine ⟨hb, hg, by omega, hcm, hcs, ?_⟩
    have e1 : (l.take m).flatMap f = (l.flatMap f).take (m * size) := by
      have e2 : l.flatMap f = (l.take m).flatMap f ++ (l.drop m).flatMap f := by rw [← List.flatMap_append, List.take_append_drop]
      rw [e2, List.take_left' (by rw [hs.flat, List.length_take, Nat.min_eq_left (by omega)])]
    rw [e1, ← ht, List.take_take, Nat.min_eq_left (Nat.mul_le_mul_right _ hm)]
theorem run_clear1 {α : Type} {f : α → List Value} {size : Nat} {P : Program} {w : World} {t e : TypeId} {B g n cap c' : Nat} {l : List α} (h : OwnF f size w e B (.slice (some ⟨g, 0, none⟩) n cap) n l) (ht : P.underlying t = some (.slice e)) {z : Value} (hz : ∀ w, (zeroValue e).run P w = .ok z w) {vs : List Value} (hv : (Builtin.zeroCells z.cells 1).toList = vs) (hl : vs.length = size) (h1 : ∀ v ∈ vs, v.oneCell' = true) (hn : n + 1 ≤ cap) (ty : TypeId) :
    ∃ w', (Builtin.clear_ #[t] ty #[.slice (some ⟨g, n * size, none⟩) 1 c']).run P w = .ok (.tuple #[]) w' ∧ OwnF f size w' e B (.slice (some ⟨g, 0, none⟩) n cap) n l ∧ w.grownBy w' (some g) := by
  rcases h.2 with ⟨h', _⟩ | ⟨g', cap', cur, h', hb, hg, hnc, hcm, hcs, htk⟩
  · simp at h'
  · simp only [Value.slice.injEq, Option.some.injEq, Addr.mk.injEq, and_true, true_and] at h'
    obtain ⟨rfl, rfl⟩ := h'
    have hfit : n * size + 0 + vs.length ≤ cur.size := by
      rw [hl, hcs, Nat.add_zero, ← Nat.succ_mul]
      exact Nat.mul_le_mul_right _ hn
    have hst := run_storeCells_at P g (n * size) e vs 0 cur w hg hfit h1
    refine ⟨w.setRow g (cur.toList.take (n * size + 0) ++ vs ++ cur.toList.drop (n * size + 0 + vs.length)).toArray, ?_, ⟨h.1, .inr ⟨g, cap, _, rfl, hb, setRow_heap w g cur _ e _ hg, hnc, hcm, ?_, ?_⟩⟩, ⟨rfl, rfl, rfl, by simp, fun k _ hk => setRow_other w g k _ (fun e => hk (by simp [e]))⟩⟩
    · simp [Builtin.clear_, run_underlying ht, hz, hv, hst]
    · simp only [List.size_toArray, List.length_append, List.length_take, List.length_drop, Array.length_toList]
      omega
    · rw [List.append_assoc, Nat.add_zero, List.take_left' (by rw [List.length_take, Array.length_toList]; omega)]
      exact htk
set_option maxRecDepth 100000 in
set_option maxHeartbeats 8000000 in
theorem delete1_is (g n cap B : Nat) (l : List Dd) (w : World) (ho : OwnD w B (.slice (some ⟨g, 0, none⟩) n cap) n l) (hn : 2 ≤ n) (hn9 : n ≤ 1000) :
    Calls Tryd.prog 72 #[.slice (some ⟨g, 0, none⟩) n cap, .int .i64 0, .int .i64 1] w fun e w' => e = .returned (.slice (some ⟨g, 0, none⟩) (n - 1) cap) ∧ OwnD w' B (.slice (some ⟨g, 0, none⟩) (n - 1) cap) (n - 1) (l.drop 1) ∧ w.grownBy w' (some g) := by
  have hcp := OwnF.cap ho
  have hlen := ho.len didS
  have hrd := (OwnF.rd didS ho).cells didS
  have h0 : w.drew.ownsRow B 58 3 (.slice (some ⟨g, 0, none⟩) 0 cap) 0 [] := ownF_take didS ho (Nat.zero_le _)
  have hfl : l.flatMap didC = (l.take 1).flatMap didC ++ (l.drop 1).flatMap didC := by rw [← List.flatMap_append, List.take_append_drop]
  have ht1 : ((l.take 1).flatMap didC).length = 3 := by rw [didS.flat, List.length_take, Nat.min_eq_left (by omega)]
  have hnews : ∀ j u, ((l.drop 1).flatMap didC)[j]? = some u → w.drew.cell? ((⟨g, 3, none⟩ : Addr).add j) = some u := fun j u hu => by
    have h1 := hrd (3 + j) u (by rw [hfl, List.getElem?_append_right (by omega), ht1, Nat.add_sub_cancel_left]; exact hu)
    rw [Addr.add_lit] at h1 ⊢
    rw [show 3 + j = 0 + (3 + j) by omega]
    exact h1
  obtain ⟨i, z, hi, hz, hsz, hby, hzs⟩ := didInfo
  have hrun : ∀ ty c', ∃ w', (Builtin.append_ #[53, 53] ty #[.slice (some ⟨g, 0, none⟩) 0 cap, .slice (some ⟨g, 3, none⟩) (n - 1) c']).run Tryd.prog w.drew = .ok (.slice (some ⟨g, 0, none⟩) (n - 1) cap) w' ∧ OwnD w' B (.slice (some ⟨g, 0, none⟩) (n - 1) cap) (n - 1) (l.drop 1) ∧ w.grownBy w' (some g) := fun ty c' => by
    obtain ⟨w', h1, h2, h3⟩ := run_append_fits (P := Tryd.prog) w.drew B 53 ty 58 i 3 Tryd.underlying53 hi hsz g 0 cap [] h0 ⟨g, 3, none⟩ (n - 1) c' ((l.drop 1).flatMap didC) (by rw [didS.flat, List.length_drop, hlen]) hnews (didS.ones _) (by omega)
    rw [Nat.zero_add] at h1 h2
    exact ⟨w', h1, h2, ⟨h3.os, h3.tape, h3.output, h3.size, h3.block⟩⟩
  clear h0 hfl ht1 hnews hrd hi hz hsz hby hzs hlen ho
  have hn1 : ¬ cap = 1 := by omega
  have hn2 : (1 : Int) ≤ (n : Int) := by omega
  go_enter Tryd.func72, Tryd.ntmps72
  go_upto_region 5 with fail
  obtain ⟨w5, hr5, ho5, hg5⟩ := hrun 53 (cap - 1)
  have HO5 := Lib.hid ho5
  have HG5 := Lib.hid hg5
  clear hrun ho5 hg5
  go_region_law (refine step_append rfl _ _ 53 rfl (by simp [Act.eval, Act.put]) (by simp [Act.eval, Act.put]) hr5 ?_)
  obtain ⟨m, hm⟩ : ∃ m, n - 1 = m := ⟨_, rfl⟩
  have HM := Lib.hid (show n = m + 1 by omega)
  rw [hm] at HO5 hr5
  simp only [hm]
  have hzv : ∀ w, (zeroValue 58).run Tryd.prog w = .ok (.agg #[.int .i64 0, .int .i64 0, .int .i64 0]) w := fun w => by
    obtain ⟨i, z, hi, hz, _, _, _⟩ := didInfo
    have h9 : (Tryd.prog.info? 58).map (fun i => i.zero) = some (some (.agg #[.int .i64 0, .int .i64 0, .int .i64 0])) := by kernel_rfl
    rw [hi] at h9
    simp only [Option.map_some, Option.some.injEq] at h9
    simp [zeroValue, typeInfo, hi, h9]
  have hcl : ∀ ty c', ∃ w', (Builtin.clear_ #[53] ty #[.slice (some ⟨g, m * 3, none⟩) 1 c']).run Tryd.prog w5 = .ok (.tuple #[]) w' ∧ OwnD w' B (.slice (some ⟨g, 0, none⟩) m cap) m (l.drop 1) ∧ w5.grownBy w' (some g) := fun ty c' =>
    run_clear1 HO5.out Tryd.underlying53 hzv (vs := [.int .i64 0, .int .i64 0, .int .i64 0]) (by kernel_rfl) rfl (by simp [Value.oneCell']) (by have := HM.out; omega) ty
  obtain ⟨w6, hr6, ho6, hg6⟩ := hcl 0 (cap - m)
  have hr7 : (Builtin.clear_ #[53] 0 #[.slice (some ⟨g, m * 3, none⟩) (n - m) (cap - m)]).run Tryd.prog w5 = .ok (.tuple #[]) w6 := by rw [show n - m = 1 by have := HM.out; omega]; exact hr6
  have HO6 := Lib.hid ho6
  have HG6 := Lib.hid hg6
  have hcm : ¬ cap = m := by have := HM.out; omega
  have hmn : (m : Int) ≤ (n : Int) := by have := HM.out; omega
  clear hm hzv hr5 hcl hr6 ho6 hg6
  go_wp2
  go_ret
  rw [show n - 1 = m by have := HM.out; omega]
  exact ⟨rfl, HO6.out, grown_trans9 HG5.out HG6.out⟩
end Go.Proofs.YtllebgadhhgckaaDoor.Sqs

/- The document's last and Find. -/
namespace Go.Proofs.YtllebgadhhgckaaDoor.Sqs
open Go.RowKit Oct RowF RowK Lay Bat InR
open Epo (At0 AtO belA)

theorem rlast_is (ba la fr ep pi ge se : Int) (tx : Bool) (ct : Int) (A : Option Addr) (n c : Nat) (w : World) {z1 z : Int} (h1 : IntKind.i64.wrap (se + la) = z1) (h2 : IntKind.i64.wrap (z1 - ba) = z) :
    Calls Tryd.prog 39 #[.agg #[.int .i64 ba, .int .i64 la, .int .i64 fr, .int .i64 ep, .int .i64 pi, .int .i64 ge, .int .i64 se, .bool tx, .int .i64 ct, .slice A n c]] w fun e w' => e = .returned (.int .i64 z) ∧ Below w.heap.size w w' := by
  go_enter Tryd.func39, Tryd.ntmps39
  go_wp2
  go_ret
  exact ⟨rfl, belA w _⟩
def plV : Option Nat → Int
  | none => -1
  | some k => (k : Int)
def plP (l : List Pd) (pid : Int) : Option Nat := l.findIdx? fun p => decide (p.pid = pid)
def fnRel (l : List Pd) (pid : Int) (n : Nat) (w : World) (iv : Value) (wr : World) : Prop :=
  ∃ k : Nat, iv = .int .i64 (k : Int) ∧ k ≤ n ∧ (∀ j x, j < k → l[j]? = some x → x.pid ≠ pid) ∧ w = wr
theorem plP_at {l : List Pd} {pid : Int} {k : Nat} {x : Pd} (hx : l[k]? = some x) (he : x.pid = pid) (h : ∀ j y, j < k → l[j]? = some y → y.pid ≠ pid) : plP l pid = some k := by
  unfold plP
  rw [List.findIdx?_eq_some_iff_getElem]
  obtain ⟨hk, rfl⟩ := List.getElem?_eq_some_iff.1 hx
  exact ⟨hk, decide_eq_true he, fun j hj => by simpa using h j l[j] hj (List.getElem?_eq_getElem _)⟩
theorem plP_no {l : List Pd} {pid : Int} (h : ∀ x ∈ l, x.pid ≠ pid) : plP l pid = none := by
  unfold plP
  rw [List.findIdx?_eq_none_iff]
  exact fun x hx => decide_eq_false (h x hx)
set_option maxRecDepth 100000 in
set_option maxHeartbeats 8000000 in
theorem rFind_is (A : Option Addr) (n c : Nat) (l : List Pd) (pid : Int) (w : World) (hr : RdP w w.heap.size A n l) (hn : n ≤ reach) {P : Option Nat} (hP : plP l pid = P) :
    Calls Tryd.prog 37 #[.slice A n c, .int .i64 pid] w fun e w' => e = .returned (.int .i64 (plV P)) ∧ w = w' := by
  have HR := Lib.hid hr
  have HLEN := Lib.hid hr.len
  have HP := Lib.hid hP
  have hn9 : n ≤ 140737488351232 := hn
  clear hr hP hn
  go_enter Tryd.func37, Tryd.ntmps37
  go_wp2
  go_loopw [5] (fun iv wr => fnRel l pid n w iv wr) (fun iv _ => n - (intOf iv).toNat)
  case atStart => exact ⟨0, rfl, Nat.zero_le _, fun j x h => absurd h (Nat.not_lt_zero _), rfl⟩
  case round =>
    obtain ⟨k, rfl, hk, hno, rfl⟩ := hrel
    have HNO := Lib.hid hno
    clear hno
    by_cases hlt : k < n
    · obtain ⟨b, o, ⟨x0, x1, xd⟩, A', n', c', rfl, hbl, hxk, _, _, _, d0, _, _⟩ := pr_at HR.out hlt
      simp only at d0
      have HX := Lib.hid hxk
      have hw1 : IntKind.i64.wrap ((k : Int) + 1) = (k : Int) + 1 := IntWalk.i64_in _ (by omega)
      have hkl : (k : Int) < (n : Int) := by omega
      have hk0 : (0 : Int) ≤ (k : Int) := by omega
      clear hxk
      by_cases he : x0 = pid
      · have hq : (x0 == pid) = true := beq_iff_eq.2 he
        have HE := Lib.hid (HP.out.symm.trans (plP_at HX.out he HNO.out))
        clear he
        go_wp2
        go_ret
        exact ⟨by rw [HE.out]; rfl, rfl⟩
      · have hq : (x0 == pid) = false := beq_eq_false_iff_ne.2 he
        have HN := Lib.hid (show ∀ j y, j < k + 1 → l[j]? = some y → y.pid ≠ pid from fun j y hj hy => by
          by_cases h : j < k
          · exact HNO.out j y h hy
          · obtain rfl : j = k := by omega
            rw [HX.out] at hy
            obtain rfl := Option.some.inj hy
            exact he)
        clear he
        go_wp2
        go_roundw
        case rel => exact ⟨k + 1, by go_num, by omega, HN.out, rfl⟩
        case measure => simp [intOf]; omega
    · have hkn : k = n := by omega
      subst hkn
      have HE := Lib.hid (HP.out.symm.trans (plP_no fun x hx => by
        obtain ⟨j, hj⟩ := List.mem_iff_getElem?.1 hx
        exact HNO.out j x (by have := (List.getElem?_eq_some_iff.1 hj).1; have := HLEN.out; omega) hj))
      go_wp2
      go_ret
      exact ⟨by rw [HE.out]; rfl, rfl⟩
end Go.Proofs.YtllebgadhhgckaaDoor.Sqs

/- The document's fresh. -/
namespace Go.Proofs.YtllebgadhhgckaaDoor.Sqs
open Go.RowKit Oct Rec RowF RowK Lay Bat InR
open Epo (At0 AtO belA)

theorem find_none {l : List Pd} {pid : Int} (h : plP l pid = none) : findP l pid = none := by
  unfold plP at h
  rw [List.findIdx?_eq_none_iff] at h
  unfold findP
  rw [List.find?_eq_none]
  exact fun x hx => by rw [h x hx]; exact Bool.false_ne_true
theorem find_at {l : List Pd} {pid : Int} {k : Nat} (h : plP l pid = some k) : ∃ p, l[k]? = some p ∧ findP l pid = some p ∧ p.pid = pid := by
  unfold plP at h
  rw [List.findIdx?_eq_some_iff_getElem] at h
  obtain ⟨hk, h1, h2⟩ := h
  refine ⟨l[k], List.getElem?_eq_getElem _, ?_, of_decide_eq_true h1⟩
  unfold findP
  rw [List.find?_eq_some_iff_getElem]
  exact ⟨h1, k, hk, rfl, fun j hj => by have := h2 j hj; simpa using this⟩
theorem prK3 {w : World} {B n k b o : Nat} {l : List Pd} {x : Pd} (h : RdP w B (some ⟨b, o, none⟩) n l) (hx : l[k]? = some x) : ∃ A' n' c', n' ≤ c' ∧ n' ≤ reach ∧ RdD w B A' n' x.did ∧ w.cell? ⟨b, o + k * 3, none⟩ = some (.int .i64 x.pid) ∧ w.cell? ⟨b, o + k * 3 + 1, none⟩ = some (.int .i64 x.gen) ∧ w.cell? ⟨b, o + k * 3 + 2, none⟩ = some (.slice A' n' c') := by
  obtain ⟨b', o', A', n', c', hA, hb, h1, h2, h3, hc⟩ := h.2 k x hx
  obtain ⟨rfl, rfl⟩ : b = b' ∧ o = o' := by simpa using hA
  exact ⟨A', n', c', h1, h2, h3, hc 0 _ rfl, hc 1 _ rfl, hc 2 _ rfl⟩
theorem pr_form {w : World} {B n k : Nat} {A : Option Addr} {l : List Pd} {x : Pd} (h : RdP w B A n l) (hx : l[k]? = some x) : ∃ b o, A = some ⟨b, o, none⟩ ∧ b < B ∧ k < n := by
  obtain ⟨b', o', A', n', c', hA, hb, _⟩ := h.2 k x hx
  exact ⟨b', o', hA, hb, by have := (List.getElem?_eq_some_iff.1 hx).1; have := h.len; omega⟩
set_option maxRecDepth 100000 in
set_option maxHeartbeats 8000000 in
theorem rfresh_is (A : Option Addr) (n c : Nat) (l : List Pd) (ba la fr ep pi ge se : Int) (tx : Bool) (ct : Int) (rs : List Rc) (AR : Option Addr) (nR cR : Nat) (w : World) (hr : RdP w w.heap.size A n l) (hn : n ≤ reach) {z : Bool} (hz : freshP l ⟨ba, la, fr, ep, pi, ge, se, tx, ct, rs⟩ = z) :
    Calls Tryd.prog 38 #[.slice A n c, .agg #[.int .i64 ba, .int .i64 la, .int .i64 fr, .int .i64 ep, .int .i64 pi, .int .i64 ge, .int .i64 se, .bool tx, .int .i64 ct, .slice AR nR cR]] w fun e w' => e = .returned (.bool z) ∧ Below w.heap.size w w' := by
  have hba := belA w (.cells #[.int .i64 ba, .int .i64 la, .int .i64 fr, .int .i64 ep, .int .i64 pi, .int .i64 ge, .int .i64 se, .bool tx, .int .i64 ct, .slice AR nR cR] 25)
  have HB1 := Lib.hid hba
  have HR1 := Lib.hid (rdkUp hr hba)
  have HAT1 := Lib.hid (At0.new w [.int .i64 ba, .int .i64 la, .int .i64 fr, .int .i64 ep, .int .i64 pi, .int .i64 ge, .int .i64 se, .bool tx, .int .i64 ct, .slice AR nR cR] 25)
  have hn9 : n ≤ 140737488351232 := hn
  unfold freshP at hz
  simp only at hz
  obtain ⟨P, hP⟩ : ∃ P, plP l pi = P := ⟨_, rfl⟩
  have HP := Lib.hid hP
  cases P with
  | none =>
    rw [find_none hP] at hz
    simp only at hz
    subst hz
    clear hr hba hP
    go_enter Tryd.func38, Tryd.ntmps38
    go_upto_region 2 with (go_at_call 37; (with_reducible refine (rFind_is A n c l pi _ HR1.out hn HP.out).mono ?_); rintro e w9 ⟨rfl, rfl⟩; dsimp only [plV])
    generalize (w.alloc (.cells #[.int .i64 ba, .int .i64 la, .int .i64 fr, .int .i64 ep, .int .i64 pi, .int .i64 ge, .int .i64 se, .bool tx, .int .i64 ct, .slice AR nR cR] 25)) = W at *
    go_big_region
    go_wp2
    go_ret
    exact ⟨rfl, bel_drew HB1.out⟩
  | some k =>
    obtain ⟨⟨x0, x1, xd⟩, hx, hf, hxp⟩ := find_at hP
    rw [hf] at hz
    simp only at hz
    obtain ⟨b, o, rfl, hbl, hk⟩ := pr_form hr hx
    have HX := Lib.hid hx
    have HZ := Lib.hid hz
    have hkl : (k : Int) < (n : Int) := by omega
    have hk0 : (0 : Int) ≤ (k : Int) := by omega
    have hk1 : ¬ (k : Int) < 0 := by omega
    clear hr hba hP hz hx hxp hf
    go_enter Tryd.func38, Tryd.ntmps38
    go_upto_region 2 with (go_at_call 37; (with_reducible refine (rFind_is (some ⟨b, o, none⟩) n c l pi _ HR1.out hn HP.out).mono ?_); rintro e w9 ⟨rfl, rfl⟩; dsimp only [plV])
    generalize (w.alloc (.cells #[.int .i64 ba, .int .i64 la, .int .i64 fr, .int .i64 ep, .int .i64 pi, .int .i64 ge, .int .i64 se, .bool tx, .int .i64 ct, .slice AR nR cR] 25)) = W at *
    obtain ⟨A', n', c', _, hn', hrd, _, d1, d2⟩ := prK3 HR1.out HX.out
    have hrl : xd.length = n' := hrd.len
    have q5 := HAT1.out.cell 5
    simp only [List.getElem?_cons_zero, List.getElem?_cons_succ] at q5 d1
    clear hrd
    by_cases h1 : x1 < ge
    · have HZ2 := Lib.hid (show true = z by rw [← HZ.out, decide_eq_true h1]; rfl)
      clear hrl
      go_big_region
      go_wp2
      go_ret
      exact ⟨by rw [HZ2.out]; rfl, bel_drew HB1.out⟩
    · by_cases h2 : n' = 0
      · have HZ2 := Lib.hid (show true = z by rw [← HZ.out, decide_eq_false h1, List.length_eq_zero_iff.1 (hrl.trans h2)]; rfl)
        subst h2
        clear hrl
        go_big_region
        go_wp2
        go_ret
        exact ⟨by rw [HZ2.out]; rfl, bel_drew HB1.out⟩
      · have HZ2 := Lib.hid (show false = z by rw [← HZ.out, decide_eq_false h1, Bool.false_or]; cases xd with | nil => exact absurd hrl.symm h2 | cons x l => rfl)
        have h3 : ((n' : Int) == 0) = false := beq_eq_false_iff_ne.2 (by omega)
        clear hrl h2
        go_big_region
        go_wp2
        go_ret
        exact ⟨by rw [HZ2.out]; rfl, bel_drew HB1.out⟩
end Go.Proofs.YtllebgadhhgckaaDoor.Sqs
