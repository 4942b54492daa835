/- Joined: SqsDC, SqsDD. -/
import Derived.Test.YtllebgadhhgckaaDoorJ36
import Derived.Test.YtllebgadhhgckaaDoorJ37
import Derived.Lib.Overlaps
import Derived.Laws.Externs
/- The landed seqs: slices.Insert. -/
namespace Go.Proofs.YtllebgadhhgckaaDoor.Sqs
open Go.RowKit Oct Rec RowF RowK RowO Lay Bat InR
open Epo (At0 AtO belA)

abbrev OwnH (w : World) (B : Nat) (v : Value) (n : Nat) (hs : List (KX Pd)) : Prop := OwnF prC 3 w 55 B v n hs
def InsO (w : World) (B : Nat) (v : Value) (n : Nat) (l : List (KX Pd)) (e : Ending) (w' : World) : Prop :=
  ∃ A' c', e = .returned (.slice A' (n + 1) c') ∧ OwnH w' B (.slice A' (n + 1) c') (n + 1) l ∧ Stays w v (.slice A' (n + 1) c') ∧ w.grownBy w' v.ownBlock
set_option maxRecDepth 100000 in
set_option maxHeartbeats 8000000 in
theorem insert_end (A : Option Addr) (n c B : Nat) (hs : List (KX Pd)) (y : KX Pd) (vb : Nat) (w : World) (ho : OwnH w B (.slice A n c) n hs) (hB : B ≤ w.heap.size) (hn : n ≤ 1024) (hy : RdF prC 3 w (vb + 1) (some ⟨vb, 0, none⟩) 1 [y]) :
    Calls Tryd.prog 71 #[.slice A n c, .int .i64 (n : Int), .slice (some ⟨vb, 0, none⟩) 1 1] w (InsO w B (.slice A n c) n (hs.take n ++ y :: hs.drop n)) := by
  have hlen := ho.len prS
  have hcp := ho.cap
  obtain ⟨A5, c5, w5, hrun, ho5, hg5, hv5⟩ := run_appFG (P := Tryd.prog) w prS 40 B 22 22 55 Tryd.underlying22 prInfo (.slice A n c) n hs ho (vb + 1) (some ⟨vb, 0, none⟩) 1 1 [y] hy (by omega) (by omega) hB
  have HO5 := Lib.hid (show OwnH w5 B (.slice A5 (n + 1) c5) (n + 1) (hs.take n ++ y :: hs.drop n) from by rw [List.take_of_length_le (by omega), List.drop_of_length_le (by omega)]; exact ho5)
  have HG5 := Lib.hid hg5
  have HS5 := Lib.hid (show Stays w (.slice A n c) (.slice A5 (n + 1) c5) from hv5.elim .inl (fun h => .inr ⟨_, h, Nat.le_refl _⟩))
  have HOO := Lib.hid ho
  obtain ⟨m, hm⟩ : ∃ m, n + 1 = m := ⟨_, rfl⟩
  rw [hm] at hrun
  have hcn : n ≤ c := hcp
  clear ho hy ho5 hg5 hv5 hlen hcp
  unfold InsO
  rw [hm] at HO5 HS5 ⊢
  have hAn : A = none → n = 0 ∧ c = 0 := fun h => by
    subst h
    rcases HOO.out.2 with ⟨h1, h2⟩ | ⟨g, cap, cur, h1, _⟩
    · injection h1 with _ _ h3; exact ⟨h2, h3⟩
    · simp at h1
  cases A with
  | none =>
    obtain ⟨rfl, rfl⟩ := hAn rfl
    clear hAn
    go_enter Tryd.func71, Tryd.ntmps71
    go_wp2_with (at_builtin; refine wpList_app9 rfl _ _ 22 _ rfl rfl rfl hrun ?_)
    go_ret
    exact ⟨A5, c5, rfl, HO5.out, HS5.out, HG5.out⟩
  | some a =>
    clear hAn
    by_cases hcn2 : c = n
    · subst hcn2
      go_enter Tryd.func71, Tryd.ntmps71
      go_wp2_with (at_builtin; refine wpList_app9 rfl _ _ 22 _ rfl rfl rfl hrun ?_)
      go_ret
      exact ⟨A5, c5, rfl, HO5.out, HS5.out, HG5.out⟩
    · go_enter Tryd.func71, Tryd.ntmps71
      go_wp2_with (at_builtin; refine wpList_app9 rfl _ _ 22 _ rfl rfl rfl hrun ?_)
      go_ret
      exact ⟨A5, c5, rfl, HO5.out, HS5.out, HG5.out⟩
theorem ovl_no {w : World} {g o vb n c lb cb B cap : Nat} {hs : List (KX Pd)} (ho : OwnH w B (.slice (some ⟨g, 0, none⟩) n cap) n hs) (hn : 0 < cap) (hv : At0 w vb [.int .i64 0, .int .i64 0, .int .i64 0] 55 ∨ ∃ a b c, At0 w vb [a, b, c] 55) (hne : vb ≠ g) :
    (callFunc 94 #[.slice (some ⟨vb, 0, none⟩) 1 c, .slice (some ⟨g, o, none⟩) lb cb]).run Tryd.prog w = .ok (.value (.bool false)) w := by
  obtain ⟨x, y, z, hat⟩ : ∃ a b c, At0 w vb [a, b, c] 55 := hv.elim (fun h => ⟨_, _, _, h⟩) id
  have hsz : ∀ w, (Go.sizeOf 55).run Tryd.prog w = .ok 3 w := fun w => by
    obtain ⟨i, z, hi, _, hs, _, _⟩ := prInfo
    simp [sizeOf, typeInfo, hi, hs]
  rcases ho.2 with ⟨h', _⟩ | ⟨g', cap', cur, h', _, hg, _, _, hcs, _⟩
  · simp at h'
  simp only [Value.slice.injEq, Option.some.injEq, Addr.mk.injEq, and_true, true_and] at h'
  obtain ⟨rfl, rfl⟩ := h'
  have hsa : w.shape? vb = some (55, 3) := by
    unfold World.shape?
    rw [show w.heap[vb]? = some (.cells [x, y, z].toArray 55 (0, 0)) from hat]
    rfl
  have hsb : w.shape? g = some (55, cap * 3) := by
    unfold World.shape?
    rw [hg]
    simp [hcs]
  rw [run_callFunc_extern Tryd.func94 (by kernel_rfl) (by kernel_rfl) (by kernel_rfl) (e := Extern.SlicesOverlaps.overlaps #[22, 22] #[4]) (by kernel_rfl),
    Lib.run_overlaps_apart w 22 4 55 Tryd.underlying22 3 hsz ⟨vb, 0, none⟩ ⟨g, o, none⟩ 1 c lb cb hne 55 55 3 (cap * 3) hsa hsb (by omega) (hat.frozen 0) (hat.frozen 3)]
  rfl
set_option maxRecDepth 100000 in
set_option maxHeartbeats 8000000 in
theorem insert_shift (g n c i B : Nat) (hs : List (KX Pd)) (y : KX Pd) (vb : Nat) (w : World) (ho : OwnH w B (.slice (some ⟨g, 0, none⟩) n c) n hs) (hi : i < n) (hroom : n + 1 ≤ c) (hn : n ≤ 1024) (hy : At0 w vb (prC y) 55) (hne : vb ≠ g) :
    Calls Tryd.prog 71 #[.slice (some ⟨g, 0, none⟩) n c, .int .i64 (i : Int), .slice (some ⟨vb, 0, none⟩) 1 1] w (InsO w B (.slice (some ⟨g, 0, none⟩) n c) n (hs.take i ++ y :: hs.drop i)) := by
  have hov : ∀ lb cb, (callFunc 94 #[.slice (some ⟨vb, 0, none⟩) 1 1, .slice (some ⟨g, (i + 1) * 3, none⟩) lb cb]).run Tryd.prog w = .ok (.value (.bool false)) w := fun lb cb => ovl_no ho (by omega) (.inr ⟨_, _, _, hy⟩) hne
  obtain ⟨w1, w2, r1, r2, ho2, hg2⟩ := ins_shift (P := Tryd.prog) (w := w.drew) (y := y) prS ho hi hroom hne (fun j v hj => by show w.cell? _ = _; rw [hy.cell]; exact hj) Tryd.underlying22 prInfo
  have HO2 := Lib.hid ho2
  have HG2 := Lib.hid (show w.grownBy w2 (some g) from ⟨hg2.os, hg2.tape, hg2.output, hg2.size, hg2.block⟩)
  have hz2 : ¬ (i : Int) = (n : Int) := by omega
  have hz3 : ¬ (c : Int) < (n : Int) + 1 := by omega
  have hw1 : IntKind.i64.wrap ((i : Int) + 1) = (i : Int) + 1 := IntWalk.i64_in _ (by omega)
  have hw2 : IntKind.i64.wrap ((n : Int) + 1) = (n : Int) + 1 := IntWalk.i64_in _ (by omega)
  have hb1 : (0 : Int) ≤ (i : Int) + 1 := by omega
  have hb0 : (0 : Int) ≤ (n : Int) + 1 := by omega
  have htn : ((i : Int) + 1).toNat = i + 1 := by omega
  have htm : ((n : Int) + 1).toNat = n + 1 := by omega
  have hb2 : ¬ c = i + 1 := by omega
  have hb4 : ¬ c = i := by omega
  have hb5 : (n : Int) + 1 ≤ (c : Int) := by omega
  have hb6 : (i : Int) ≤ (n : Int) := by omega
  have hb7 : (i : Int) ≤ (n : Int) + 1 := by omega
  clear ho hy ho2 hg2
  go_enter Tryd.func71, Tryd.ntmps71
  go_wp2_with (simp only [hov])
  go_region_law (refine step_copy9 rfl _ _ 22 rfl (by simp [Act.eval, Act.put]) (by simp [Act.eval, Act.put]) (r1 3 (c - (i + 1)) (c - i)) ?_)
  go_wp2_with (at_builtin; refine wpList_copy9 rfl _ _ 22 rfl rfl rfl (r2 _ _ _) ?_)
  go_ret
  exact ⟨_, c, rfl, HO2.out, .inl rfl, HG2.out⟩
set_option maxRecDepth 100000 in
set_option maxHeartbeats 8000000 in
theorem insert_grow (g n c i B : Nat) (hs : List (KX Pd)) (y : KX Pd) (vb : Nat) (w : World) (ho : OwnH w B (.slice (some ⟨g, 0, none⟩) n c) n hs) (hB : B ≤ w.heap.size) (hi : i < n) (hroom : c < n + 1) (hn : n ≤ 1024) (hy : At0 w vb (prC y) 55) :
    Calls Tryd.prog 71 #[.slice (some ⟨g, 0, none⟩) n c, .int .i64 (i : Int), .slice (some ⟨vb, 0, none⟩) 1 1] w (InsO w B (.slice (some ⟨g, 0, none⟩) n c) n (hs.take i ++ y :: hs.drop i)) := by
  have hcp := ho.cap
  obtain ⟨G, w1, w2, w3, r0, r1, r2, ho3, hb3, hG1, hG2⟩ := ins_grow (P := Tryd.prog) (y := y) prS ho hi hroom (bytes := 40) (by omega) (by omega) hy.lt (fun j v hj => by rw [hy.cell]; exact hj) Tryd.underlying22 Tryd.underlying3 prInfo hB
  have HO3 := Lib.hid ho3
  have HB3 := Lib.hid hb3
  obtain ⟨N, hN⟩ : ∃ N, w.heap.size = N := ⟨_, rfl⟩
  rw [hN] at HO3 r0 r1 r2
  have HN := Lib.hid hN
  obtain ⟨q, hq⟩ : ∃ q, n + 1 - i = q := ⟨_, rfl⟩
  have hkk : (n : Int) + 1 - (i : Int) = (q : Int) := by omega
  have hwk : IntKind.i64.wrap (q : Int) = (q : Int) := IntWalk.i64_in _ (by omega)
  rw [hq] at r0 r1
  have hz2 : ¬ (i : Int) = (n : Int) := by omega
  have hz3 : (c : Int) < (n : Int) + 1 := by omega
  have hw1 : IntKind.i64.wrap ((i : Int) + 1) = (i : Int) + 1 := IntWalk.i64_in _ (by omega)
  have hw2 : IntKind.i64.wrap ((n : Int) + 1) = (n : Int) + 1 := IntWalk.i64_in _ (by omega)
  have hb1 : (0 : Int) ≤ (i : Int) + 1 := by omega
  have htn : ((i : Int) + 1).toNat = i + 1 := by omega
  have hb4 : ¬ c = i := by omega
  have hb6 : (i : Int) ≤ (n : Int) := by omega
  have hb7 : (i : Int) ≤ (c : Int) := by omega
  have hg4 : ¬ G = i := by omega
  have hg5 : ¬ G = i + 1 := by omega
  clear ho hy ho3 hb3 hN hB hcp
  go_enter Tryd.func71, Tryd.ntmps71
  go_wp2_with (at_builtin; refine wpList_app9 rfl _ _ _ _ rfl rfl rfl (r0 _) ?_)
  go_region_law (refine step_copy9 rfl _ _ 22 rfl (by simp [Act.eval, Act.put]) (by simp [Act.eval, Act.put]) (r2 3 (G - (i + 1)) (c - i)) ?_)
  go_wp2
  go_ret
  exact ⟨_, G, rfl, HO3.out, .inr ⟨N, rfl, Nat.le_of_eq HN.out⟩, grown_bel HB3.out⟩
theorem insert_is (A : Option Addr) (n c i B : Nat) (hs : List (KX Pd)) (y : KX Pd) (vb : Nat) (w : World) (ho : OwnH w B (.slice A n c) n hs) (hB : B ≤ w.heap.size) (hi : i ≤ n) (hn : n ≤ 1024) (hy : At0 w vb (prC y) 55) (hne : ∀ g, A = some ⟨g, 0, none⟩ → vb ≠ g) :
    Calls Tryd.prog 71 #[.slice A n c, .int .i64 (i : Int), .slice (some ⟨vb, 0, none⟩) 1 1] w (InsO w B (.slice A n c) n (hs.take i ++ y :: hs.drop i)) := by
  by_cases hin : i = n
  · subst hin
    exact insert_end A i c B hs y vb w ho hB hn ⟨rfl, fun k x hx => by
      match k, hx with
      | 0, hx =>
        obtain rfl : y = x := by simpa using hx
        exact ⟨vb, 0, rfl, Nat.lt_succ_self _, fun j v hj => by rw [show 0 + 0 * 3 + j = j by omega, hy.cell]; exact hj⟩⟩
  · obtain ⟨g, rfl, _, _⟩ := OwnF.form ho (by omega)
    by_cases hr : n + 1 ≤ c
    · exact insert_shift g n c i B hs y vb w ho (by omega) hr hn hy (hne g rfl)
    · exact insert_grow g n c i B hs y vb w ho hB (by omega) (by omega) hn hy
end Go.Proofs.YtllebgadhhgckaaDoor.Sqs

/- The landed seqs: put. -/
namespace Go.Proofs.YtllebgadhhgckaaDoor.Sqs
open Go.RowKit Oct Rec RowF RowK RowO Lay Bat InR
open Epo (At0 AtO belA)

theorem own_put3 {w : World} {B g n c k : Nat} {hs : List (KX Pd)} {x : KX Pd} (h : OwnH w B (.slice (some ⟨g, 0, none⟩) n c) n hs) (hg : B ≤ g) (hk : hs[k]? = some x) (y : KX Pd) :
    OwnH (((w.setCell ⟨g, k * 3, none⟩ (.int .i64 y.1.pid)).setCell ⟨g, k * 3 + 1, none⟩ (.int .i64 y.1.gen)).setCell ⟨g, k * 3 + 2, none⟩ (kidV y)) B (.slice (some ⟨g, 0, none⟩) n c) n (hs.set k y) ∧ w.grownBy (((w.setCell ⟨g, k * 3, none⟩ (.int .i64 y.1.pid)).setCell ⟨g, k * 3 + 1, none⟩ (.int .i64 y.1.gen)).setCell ⟨g, k * 3 + 2, none⟩ (kidV y)) (some g) := by
  have hkl := (List.getElem?_eq_some_iff.1 hk).1
  have h1 := (OwnF.set prS h hg (i := 0) (u := .int .i64 y.1.pid) (y := (⟨y.1.pid, x.1.gen, x.1.did⟩, x.2)) hk (by decide) rfl).1
  have h2 := (OwnF.set prS h1 hg (k := k) (i := 1) (u := .int .i64 y.1.gen) (x := (⟨y.1.pid, x.1.gen, x.1.did⟩, x.2)) (y := (⟨y.1.pid, y.1.gen, x.1.did⟩, x.2)) (by rw [List.getElem?_set, if_pos rfl, if_pos hkl]) (by decide) rfl).1
  have h3 := (OwnF.set prS h2 hg (k := k) (i := 2) (u := kidV y) (x := (⟨y.1.pid, y.1.gen, x.1.did⟩, x.2)) (y := y) (by rw [List.getElem?_set, if_pos rfl, if_pos (by rw [List.length_set]; exact hkl)]) (by decide) rfl).1
  rw [List.set_set, List.set_set] at h3
  exact ⟨h3, grown_trans9 (grown_trans9 (grown_set9 (a := ⟨g, k * 3, none⟩) _) (grown_set9 (a := ⟨g, k * 3 + 1, none⟩) _)) (grown_set9 (a := ⟨g, k * 3 + 2, none⟩) _)⟩
theorem below_grown9 {w w' : World} {B g : Nat} (h : w.grownBy w' (some g)) (hg : B ≤ g) (hB : B ≤ w.heap.size) : Below B w w' := ⟨h.os, h.tape, h.output, h.size, fun i hi => h.block i (by omega) (fun e => by injection e with e; omega)⟩
def PutO (w : World) (B : Nat) (m : List Pd) (z : Int) (e : Ending) (w' : World) : Prop :=
  ∃ A' n' c' hs', e = .returned (.tuple #[.slice A' n' c', .int .i64 z]) ∧ OwnQ w' B (.slice A' n' c') n' hs' (fun _ => True) ∧ hs'.map (·.1) = m ∧ Below B w w'
set_option maxRecDepth 100000 in
set_option maxHeartbeats 8000000 in
theorem put_there (A : Option Addr) (n c B : Nat) (hs : List (KX Pd)) (l : List Pd) (hls : hs.map (·.1) = l) (v0 p0 p1 : Int) (pd : List Dd) (A2 : Option Addr) (n2 c2 : Nat) (w : World) {k : Nat} {x : Pd} (ho : OwnQ w B (.slice A n c) n hs (fun j => j ≠ k)) (hB : B ≤ w.heap.size) (hn : n ≤ 1024) (hc : chP v0 l = true) (hk : atP l p0 = k) (hx : l[k]? = some x) (hp : x.pid = p0) (hkid : OwnD w B (.slice A2 n2 c2) n2 pd) (hn2 : n2 ≤ 1000) (hoff : Off (.slice A2 n2 c2) (.slice A n c) hs (fun j => j ≠ k)) :
    Calls Tryd.prog 45 #[.slice A n c, .agg #[.int .i64 p0, .int .i64 p1, .slice A2 n2 c2]] w (PutO w B (withP l ⟨p0, p1, pd⟩) 0) := by
  have hz : (match l[k]? with | some x => decide (x.pid = p0) | none => false) = true := by rw [hx]; exact decide_eq_true hp
  have b1 := belA w (.cells #[.int .i64 p0, .int .i64 p1, .slice A2 n2 c2] 55)
  have HB := Lib.hid b1
  have HP := Lib.hid (At0.new w [.int .i64 p0, .int .i64 p1, .slice A2 n2 c2] 55)
  have HO := Lib.hid (ho.below b1)
  have HRH := Lib.hid (show RdH (w.alloc (.cells #[.int .i64 p0, .int .i64 p1, .slice A2 n2 c2] 55)) (w.alloc (.cells #[.int .i64 p0, .int .i64 p1, .slice A2 n2 c2] 55)).heap.size A n hs from OwnF.rd prS HO.out.row)
  have HK := Lib.hid (OwnF.below hkid b1)
  have HF := Lib.hid hoff
  have HLS := Lib.hid hls
  have HC := Lib.hid hc
  have HAT := Lib.hid hk
  have hlen := row_len HRH.out hls
  have hle := atP_le l p0
  rw [hk, hlen] at hle
  have HZ := Lib.hid hz
  have HW := Lib.hid (show withP l ⟨p0, p1, pd⟩ = l.set k ⟨p0, p1, pd⟩ from by rw [with_set (p := ⟨p0, p1, pd⟩) (x := x) (by show l[atP l p0]? = _; rw [hk]; exact hx) hp]; show l.set (atP l p0) _ = _; rw [hk])
  have hkn : k < n := by have := (List.getElem?_eq_some_iff.1 hx).1; omega
  obtain ⟨xh, hxh⟩ : ∃ xh, hs[k]? = some xh := ⟨hs[k]'(by have := ho.len; omega), List.getElem?_eq_getElem _⟩
  have HXH := Lib.hid hxh
  obtain ⟨g, rfl, hgB, _⟩ := OwnF.form ho.row (by omega)
  have hkl : (k : Int) < (n : Int) := by omega
  have hk0 : (0 : Int) ≤ (k : Int) := by omega
  clear ho hkid hoff hls hc hk hx hp hz hlen hxh b1
  go_enter Tryd.func45, Tryd.ntmps45
  go_upto_region 1 with fail
  generalize (w.alloc (.cells #[.int .i64 p0, .int .i64 p1, .slice A2 n2 c2] 55)) = W at *
  obtain ⟨q0, q1, q2⟩ := cel3 HP.out
  have HFD := Lib.hid (find_is _ n c hs l HLS.out p0 v0 _ HRH.out (by omega) HC.out HAT.out HZ.out)
  go_upto_region 4 with (go_at_call 65; (with_reducible refine HFD.out.mono ?_); rintro e w2 ⟨rfl, hb⟩; have HB2 := Lib.hid (Epo.bel_trans HB.out hb); have HO2 := Lib.hid (HO.out.below hb); have HP2 := Lib.hid (HP.out.below hb); have HK2 := Lib.hid (OwnF.below HK.out hb); obtain ⟨q0, q1, q2⟩ := cel3 HP2.out; clear hb)
  have d0 := OwnF.cellAt (i := 0) prS HO2.out.row HXH.out rfl
  have d1 := OwnF.cellAt (i := 1) prS HO2.out.row HXH.out rfl
  have d2 := OwnF.cellAt (i := 2) prS HO2.out.row HXH.out rfl
  have f0 := OwnF.frozen HO2.out.row (k * 3)
  have f1 := OwnF.frozen HO2.out.row (k * 3 + 1)
  have f2 := OwnF.frozen HO2.out.row (k * 3 + 2)
  rw [Nat.add_zero] at d0
  go_wp2
  go_ret2
  obtain ⟨h1, h2⟩ := own_put3 HO2.out.row hgB HXH.out (⟨p0, p1, pd⟩, A2, n2, c2)
  have hf := OwnO.put HO2.out hkn h1 h2 (y := ((⟨p0, p1, pd⟩ : Pd), A2, n2, c2)) HK2.out (by show n2 ≤ reach; exact Nat.le_trans hn2 (by decide)) (HF.out.less fun i h => h.1)
  rw [HW.out]
  refine ⟨_, n, c, hs.set k (⟨p0, p1, pd⟩, A2, n2, c2), rfl, hf.less (fun j _ => by by_cases h : j = k; exact .inr h; exact .inl h), by rw [List.map_set, HLS.out], ?_⟩
  exact (HB2.out.mono hB).trans (below_grown9 h2 hgB (Nat.le_trans hB HB2.out.size))
set_option maxRecDepth 100000 in
set_option maxHeartbeats 8000000 in
theorem put_new (A : Option Addr) (n c B : Nat) (hs : List (KX Pd)) (l : List Pd) (hls : hs.map (·.1) = l) (v0 p0 p1 : Int) (pd : List Dd) (A2 : Option Addr) (n2 c2 : Nat) (w : World) {k : Nat} (ho : OwnQ w B (.slice A n c) n hs (fun _ => True)) (hB : B ≤ w.heap.size) (hn : n < 1024) (hc : chP v0 l = true) (hk : atP l p0 = k) (hx : ∀ x, l[k]? = some x → x.pid ≠ p0) (hkid : OwnD w B (.slice A2 n2 c2) n2 pd) (hn2 : n2 ≤ 1000) (hoff : Off (.slice A2 n2 c2) (.slice A n c) hs (fun _ => True)) :
    Calls Tryd.prog 45 #[.slice A n c, .agg #[.int .i64 p0, .int .i64 p1, .slice A2 n2 c2]] w (PutO w B (withP l ⟨p0, p1, pd⟩) 0) := by
  have hz : (match l[k]? with | some x => decide (x.pid = p0) | none => false) = false := by
    cases hl : l[k]? with
    | none => rfl
    | some x => exact decide_eq_false (hx x hl)
  have b1 := belA w (.cells #[.int .i64 p0, .int .i64 p1, .slice A2 n2 c2] 55)
  have HB := Lib.hid b1
  have HP := Lib.hid (At0.new w [.int .i64 p0, .int .i64 p1, .slice A2 n2 c2] 55)
  have HO := Lib.hid (ho.below b1)
  have HRH := Lib.hid (show RdH (w.alloc (.cells #[.int .i64 p0, .int .i64 p1, .slice A2 n2 c2] 55)) (w.alloc (.cells #[.int .i64 p0, .int .i64 p1, .slice A2 n2 c2] 55)).heap.size A n hs from OwnF.rd prS HO.out.row)
  have HK := Lib.hid (OwnF.below hkid b1)
  have HF := Lib.hid hoff
  have HLS := Lib.hid hls
  have HC := Lib.hid hc
  have HAT := Lib.hid hk
  have hlen := row_len HRH.out hls
  have hle := atP_le l p0
  rw [hk, hlen] at hle
  have HZ := Lib.hid hz
  have HW := Lib.hid (show withP l ⟨p0, p1, pd⟩ = l.take k ++ ⟨p0, p1, pd⟩ :: l.drop k from by rw [with_ins (p := ⟨p0, p1, pd⟩) (by intro x h; exact hx x (by rw [← hk]; exact h))]; show l.take (atP l p0) ++ _ :: l.drop (atP l p0) = _; rw [hk])
  have hlg : ∀ g, A = some ⟨g, 0, none⟩ → g < w.heap.size := fun g h => (World.ownsRow.lt ho.row g (by rw [h]; rfl)).2
  have hne : ((n : Int) == 1024) = false := beq_eq_false_iff_ne.2 (by omega)
  clear ho hkid hoff hls hc hk hx hz hlen b1
  go_enter Tryd.func45, Tryd.ntmps45
  go_upto_region 1 with fail
  generalize (w.alloc (.cells #[.int .i64 p0, .int .i64 p1, .slice A2 n2 c2] 55)) = W at *
  obtain ⟨q0, q1, q2⟩ := cel3 HP.out
  have HFD := Lib.hid (find_is _ n c hs l HLS.out p0 v0 _ HRH.out (by omega) HC.out HAT.out HZ.out)
  go_wp2_with (first
    | (go_at_call 65; (with_reducible refine HFD.out.mono ?_); rintro e w2 ⟨rfl, hb⟩; have HB2 := Lib.hid (Epo.bel_trans HB.out hb); have HO2 := Lib.hid (HO.out.below hb); have HP2 := Lib.hid (HP.out.below hb); have HK2 := Lib.hid (OwnF.below HK.out hb); obtain ⟨q0, q1, q2⟩ := cel3 HP2.out; clear hb)
    | (go_at_call 71; have HO3 := Lib.hid (HO2.out.alloc (.cells #[.int .i64 p0, .int .i64 p1, .slice A2 n2 c2] 55)); have HIN := Lib.hid (insert_is A n c k B hs ((⟨p0, p1, pd⟩ : Pd), A2, n2, c2) w2.heap.size (w2.alloc (.cells #[.int .i64 p0, .int .i64 p1, .slice A2 n2 c2] 55)) HO3.out.row (Nat.le_trans hB (Nat.le_trans HB2.out.size (belA w2 (.cells #[.int .i64 p0, .int .i64 p1, .slice A2 n2 c2] 55)).size)) hle (by omega) (At0.new w2 [.int .i64 p0, .int .i64 p1, .slice A2 n2 c2] 55) (fun g h e => by have := hlg g h; have := HB2.out.size; omega)); (with_reducible refine HIN.out.mono ?_); rintro e w4 ⟨A5, c5, rfl, ho5, hs5, hg5⟩; have HO5 := Lib.hid ho5; have HS5 := Lib.hid hs5; have HG5 := Lib.hid hg5; clear ho5 hs5 hg5))
  go_ret2
  have hf := OwnO.ins HO3.out hle HO5.out HG5.out HS5.out (y := ((⟨p0, p1, pd⟩ : Pd), A2, n2, c2)) (OwnF.alloc HK2.out _) (by show n2 ≤ reach; exact Nat.le_trans hn2 (by decide)) HF.out
  rw [HW.out]
  refine ⟨A5, n + 1, c5, _, rfl, hf, by rw [List.map_append, List.map_cons, List.map_take, List.map_drop, HLS.out], ?_⟩
  refine (HB2.out.mono hB).trans (((belA w2 (.cells #[.int .i64 p0, .int .i64 p1, .slice A2 n2 c2] 55)).mono (Nat.le_trans hB HB2.out.size)).trans ?_)
  exact ⟨HG5.out.os, HG5.out.tape, HG5.out.output, HG5.out.size, fun i hi => HG5.out.block i (Nat.lt_of_lt_of_le hi (Nat.le_trans hB (Nat.le_trans HB2.out.size (belA w2 (.cells #[.int .i64 p0, .int .i64 p1, .slice A2 n2 c2] 55)).size))) (fun e => by have := (World.ownsRow.lt HO3.out.row i e.symm).1; omega)⟩
set_option maxRecDepth 100000 in
set_option maxHeartbeats 8000000 in
theorem put_full (A : Option Addr) (n c B : Nat) (hs : List (KX Pd)) (l : List Pd) (hls : hs.map (·.1) = l) (v0 p0 p1 : Int) (pd : List Dd) (A2 : Option Addr) (n2 c2 : Nat) (w : World) {k : Nat} (ho : OwnQ w B (.slice A n c) n hs (fun _ => True)) (hn : n = 1024) (hc : chP v0 l = true) (hk : atP l p0 = k) (hx : ∀ x, l[k]? = some x → x.pid ≠ p0) (hkid : OwnD w B (.slice A2 n2 c2) n2 pd) (hoff : Off (.slice A2 n2 c2) (.slice A n c) hs (fun _ => True)) :
    Calls Tryd.prog 45 #[.slice A n c, .agg #[.int .i64 p0, .int .i64 p1, .slice A2 n2 c2]] w fun e w' => e = .returned (.tuple #[.slice none 0 0, .int .i64 2]) ∧ Below w.heap.size w w' := by
  have hz : (match l[k]? with | some x => decide (x.pid = p0) | none => false) = false := by
    cases hl : l[k]? with
    | none => rfl
    | some x => exact decide_eq_false (hx x hl)
  have b1 := belA w (.cells #[.int .i64 p0, .int .i64 p1, .slice A2 n2 c2] 55)
  have HB := Lib.hid b1
  have HP := Lib.hid (At0.new w [.int .i64 p0, .int .i64 p1, .slice A2 n2 c2] 55)
  have HO := Lib.hid (ho.below b1)
  have HRH := Lib.hid (show RdH (w.alloc (.cells #[.int .i64 p0, .int .i64 p1, .slice A2 n2 c2] 55)) (w.alloc (.cells #[.int .i64 p0, .int .i64 p1, .slice A2 n2 c2] 55)).heap.size A n hs from OwnF.rd prS HO.out.row)
  have HK := Lib.hid (OwnF.below hkid b1)
  have HF := Lib.hid hoff
  have HLS := Lib.hid hls
  have HC := Lib.hid hc
  have HAT := Lib.hid hk
  have hlen := row_len HRH.out hls
  have hle := atP_le l p0
  rw [hk, hlen] at hle
  have HZ := Lib.hid hz
  have hne : ((n : Int) == 1024) = true := beq_iff_eq.2 (by omega)
  have hn9 : n ≤ 1024 := Nat.le_of_eq hn
  clear hn
  clear ho hkid hoff hls hc hk hx hz hlen b1
  go_enter Tryd.func45, Tryd.ntmps45
  go_upto_region 1 with fail
  generalize (w.alloc (.cells #[.int .i64 p0, .int .i64 p1, .slice A2 n2 c2] 55)) = W at *
  obtain ⟨q0, q1, q2⟩ := cel3 HP.out
  have HFD := Lib.hid (find_is _ n c hs l HLS.out p0 v0 _ HRH.out (by omega) HC.out HAT.out HZ.out)
  go_wp2_with (go_at_call 65; (with_reducible refine HFD.out.mono ?_); rintro e w2 ⟨rfl, hb⟩; have HB2 := Lib.hid (Epo.bel_trans HB.out hb); have HO2 := Lib.hid (HO.out.below hb); have HP2 := Lib.hid (HP.out.below hb); have HK2 := Lib.hid (OwnF.below HK.out hb); obtain ⟨q0, q1, q2⟩ := cel3 HP2.out; clear hb)
  go_ret2
  exact ⟨rfl, HB2.out⟩
end Go.Proofs.YtllebgadhhgckaaDoor.Sqs
