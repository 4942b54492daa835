/- Joined: SqsDC. -/
import Derived.Test.YtllebgadhhgckaaDoorJ31
import Derived.Test.YtllebgadhhgckaaDoorJ32
import Derived.Lib.Overlaps
import Derived.Laws.Externs
/- The landed seqs: slices.Insert. -/
namespace Go.Proofs.YtllebgadhhgckaaDoor.Sqs
open Go.RowKit Oct Rec RowF RowK RowO Lay Bat InR
open Epo (At0 AtO belA)

abbrev OwnH (w : World) (B : Nat) (v : Value) (n : Nat) (hs : List (KX Pd)) : Prop := OwnF prC 3 w 55 B v n hs
def InsO (w : World) (B : Nat) (v : Value) (n : Nat) (l : List (KX Pd)) (e : Ending) (w' : World) : Prop :=
  ∃ A' c', e = .returned (.slice A' (n + 1) c') ∧ OwnH w' B (.slice A' (n + 1) c') (n + 1) l ∧ Stays w v (.slice A' (n + 1) c') ∧ w.grownBy w' v.ownBlock
set_option maxRecDepth 100000 in
set_option maxHeartbeats 8000000 in
theorem insert_end (A : Option Addr) (n c B : Nat) (hs : List (KX Pd)) (y : KX Pd) (vb : Nat) (w : World) (ho : OwnH w B (.slice A n c) n hs) (hB : B ≤ w.heap.size) (hn : n ≤ 1024) (hy : RdF prC 3 w (vb + 1) (some ⟨vb, 0, none⟩) 1 [y]) :
    Calls Tryd.prog 71 #[.slice A n c, .int .i64 (n : Int), .slice (some ⟨vb, 0, none⟩) 1 1] w (InsO w B (.slice A n c) n (hs.take n ++ y :: hs.drop n)) := by
  have hlen := ho.len prS
  have hcp := ho.cap
  obtain ⟨A5, c5, w5, hrun, ho5, hg5, hv5⟩ := run_appFG (P := Tryd.prog) w prS 40 B 22 22 55 Tryd.underlying22 prInfo (.slice A n c) n hs ho (vb + 1) (some ⟨vb, 0, none⟩) 1 1 [y] hy (by omega) (by omega) hB
  have HO5 := Lib.hid (show OwnH w5 B (.slice A5 (n + 1) c5) (n + 1) (hs.take n ++ y :: hs.drop n) from by rw [List.take_of_length_le (by omega), List.drop_of_length_le (by omega)]; exact ho5)
  have HG5 := Lib.hid hg5
  have HS5 := Lib.hid (show Stays w (.slice A n c) (.slice A5 (n + 1) c5) from hv5.elim .inl (fun h => .inr ⟨_, h, Nat.le_refl _⟩))
  have HOO := Lib.hid ho
  obtain ⟨m, hm⟩ : ∃ m, n + 1 = m := ⟨_, rfl⟩
  rw [hm] at hrun
  have hcn : n ≤ c := hcp
  clear ho hy ho5 hg5 hv5 hlen hcp
  unfold InsO
  rw [hm] at HO5 HS5 ⊢
  have hAn : A = none → n = 0 ∧ c = 0 := fun h => by
    subst h
    rcases HOO.out.2 with ⟨h1, h2⟩ | ⟨g, cap, cur, h1, _⟩
    · injection h1 with _ _ h3; exact ⟨h2, h3⟩
    · simp at h1
  cases A with
  | none =>
    obtain ⟨rfl, rfl⟩ := hAn rfl
    clear hAn
    go_enter Tryd.func71, Tryd.ntmps71
    go_wp2_with (at_builtin; refine wpList_app9 rfl _ _ 22 _ rfl rfl rfl hrun ?_)
    go_ret
    exact ⟨A5, c5, rfl, HO5.out, HS5.out, HG5.out⟩
  | some a =>
    clear hAn
    by_cases hcn2 : c = n
    · subst hcn2
      go_enter Tryd.func71, Tryd.ntmps71
      go_wp2_with (at_builtin; refine wpList_app9 rfl _ _ 22 _ rfl rfl rfl hrun ?_)
      go_ret
      exact ⟨A5, c5, rfl, HO5.out, HS5.out, HG5.out⟩
    · go_enter Tryd.func71, Tryd.ntmps71
      go_wp2_with (at_builtin; refine wpList_app9 rfl _ _ 22 _ rfl rfl rfl hrun ?_)
      go_ret
      exact ⟨A5, c5, rfl, HO5.out, HS5.out, HG5.out⟩
theorem ovl_no {w : World} {g o vb n c lb cb B cap : Nat} {hs : List (KX Pd)} (ho : OwnH w B (.slice (some ⟨g, 0, none⟩) n cap) n hs) (hn : 0 < cap) (hv : At0 w vb [.int .i64 0, .int .i64 0, .int .i64 0] 55 ∨ ∃ a b c, At0 w vb [a, b, c] 55) (hne : vb ≠ g) :
    (callFunc 94 #[.slice (some ⟨vb, 0, none⟩) 1 c, .slice (some ⟨g, o, none⟩) lb cb]).run Tryd.prog w = .ok (.value (.bool false)) w := by
  obtain ⟨x, y, z, hat⟩ : ∃ a b c, At0 w vb [a, b, c] 55 := hv.elim (fun h => ⟨_, _, _, h⟩) id
  have hsz : ∀ w, (Go.sizeOf 55).run Tryd.prog w = .ok 3 w := fun w => by
    obtain ⟨i, z, hi, _, hs, _, _⟩ := prInfo
    simp [sizeOf, typeInfo, hi, hs]
  rcases ho.2 with ⟨h', _⟩ | ⟨g', cap', cur, h', _, hg, _, _, hcs, _⟩
  · simp at h'
  simp only [Value.slice.injEq, Option.some.injEq, Addr.mk.injEq, and_true, true_and] at h'
  obtain ⟨rfl, rfl⟩ := h'
  have hsa : w.shape? vb = some (55, 3) := by
    unfold World.shape?
    rw [show w.heap[vb]? = some (.cells [x, y, z].toArray 55 (0, 0)) from hat]
    rfl
  have hsb : w.shape? g = some (55, cap * 3) := by
    unfold World.shape?
    rw [hg]
    simp [hcs]
  rw [run_callFunc_extern Tryd.func94 (by kernel_rfl) (by kernel_rfl) (by kernel_rfl) (e := Extern.SlicesOverlaps.overlaps #[22, 22] #[4]) (by kernel_rfl),
    Lib.run_overlaps_apart w 22 4 55 Tryd.underlying22 3 hsz ⟨vb, 0, none⟩ ⟨g, o, none⟩ 1 c lb cb hne 55 55 3 (cap * 3) hsa hsb (by omega) (hat.frozen 0) (hat.frozen 3)]
  rfl
set_option maxRecDepth 100000 in
set_option maxHeartbeats 8000000 in
theorem insert_shift (g n c i B : Nat) (hs : List (KX Pd)) (y : KX Pd) (vb : Nat) (w : World) (ho : OwnH w B (.slice (some ⟨g, 0, none⟩) n c) n hs) (hi : i < n) (hroom : n + 1 ≤ c) (hn : n ≤ 1024) (hy : At0 w vb (prC y) 55) (hne : vb ≠ g) :
    Calls Tryd.prog 71 #[.slice (some ⟨g, 0, none⟩) n c, .int .i64 (i : Int), .slice (some ⟨vb, 0, none⟩) 1 1] w (InsO w B (.slice (some ⟨g, 0, none⟩) n c) n (hs.take i ++ y :: hs.drop i)) := by
  have hov : ∀ lb cb, (callFunc 94 #[.slice (some ⟨vb, 0, none⟩) 1 1, .slice (some ⟨g, (i + 1) * 3, none⟩) lb cb]).run Tryd.prog w = .ok (.value (.bool false)) w := fun lb cb => ovl_no ho (by omega) (.inr ⟨_, _, _, hy⟩) hne
  obtain ⟨w1, w2, r1, r2, ho2, hg2⟩ := ins_shift (P := Tryd.prog) (w := w.drew) (y := y) prS ho hi hroom hne (fun j v hj => by show w.cell? _ = _; rw [hy.cell]; exact hj) Tryd.underlying22 prInfo
  have HO2 := Lib.hid ho2
  have HG2 := Lib.hid (show w.grownBy w2 (some g) from ⟨hg2.os, hg2.tape, hg2.output, hg2.size, hg2.block⟩)
  have hz2 : ¬ (i : Int) = (n : Int) := by omega
  have hz3 : ¬ (c : Int) < (n : Int) + 1 := by omega
  have hw1 : IntKind.i64.wrap ((i : Int) + 1) = (i : Int) + 1 := IntWalk.i64_in _ (by omega)
  have hw2 : IntKind.i64.wrap ((n : Int) + 1) = (n : Int) + 1 := IntWalk.i64_in _ (by omega)
  have hb1 : (0 : Int) ≤ (i : Int) + 1 := by omega
  have hb0 : (0 : Int) ≤ (n : Int) + 1 := by omega
  have htn : ((i : Int) + 1).toNat = i + 1 := by omega
  have htm : ((n : Int) + 1).toNat = n + 1 := by omega
  have hb2 : ¬ c = i + 1 := by omega
  have hb4 : ¬ c = i := by omega
  have hb5 : (n : Int) + 1 ≤ (c : Int) := by omega
  have hb6 : (i : Int) ≤ (n : Int) := by omega
  have hb7 : (i : Int) ≤ (n : Int) + 1 := by omega
  clear ho hy ho2 hg2
  go_enter Tryd.func71, Tryd.ntmps71
  go_wp2_with (simp only [hov])
  go_region_law (refine step_copy9 rfl _ _ 22 rfl (by simp [Act.eval, Act.put]) (by simp [Act.eval, Act.put]) (r1 3 (c - (i + 1)) (c - i)) ?_)
  go_wp2_with (at_builtin; refine wpList_copy9 rfl _ _ 22 rfl rfl rfl (r2 _ _ _) ?_)
  go_ret
  exact ⟨_, c, rfl, HO2.out, .inl rfl, HG2.out⟩
set_option maxRecDepth 100000 in
set_option maxHeartbeats 8000000 in
theorem insert_grow (g n c i B : Nat) (hs : List (KX Pd)) (y : KX Pd) (vb : Nat) (w : World) (ho : OwnH w B (.slice (some ⟨g, 0, none⟩) n c) n hs) (hB : B ≤ w.heap.size) (hi : i < n) (hroom : c < n + 1) (hn : n ≤ 1024) (hy : At0 w vb (prC y) 55) :
    Calls Tryd.prog 71 #[.slice (some ⟨g, 0, none⟩) n c, .int .i64 (i : Int), .slice (some ⟨vb, 0, none⟩) 1 1] w (InsO w B (.slice (some ⟨g, 0, none⟩) n c) n (hs.take i ++ y :: hs.drop i)) := by
  have hcp := ho.cap
  obtain ⟨G, w1, w2, w3, r0, r1, r2, ho3, hb3, hG1, hG2⟩ := ins_grow (P := Tryd.prog) (y := y) prS ho hi hroom (bytes := 40) (by omega) (by omega) hy.lt (fun j v hj => by rw [hy.cell]; exact hj) Tryd.underlying22 Tryd.underlying3 prInfo hB
  have HO3 := Lib.hid ho3
  have HB3 := Lib.hid hb3
  obtain ⟨N, hN⟩ : ∃ N, w.heap.size = N := ⟨_, rfl⟩
  rw [hN] at HO3 r0 r1 r2
  have HN := Lib.hid hN
  obtain ⟨q, hq⟩ : ∃ q, n + 1 - i = q := ⟨_, rfl⟩
  have hkk : (n : Int) + 1 - (i : Int) = (q : Int) := by omega
  have hwk : IntKind.i64.wrap (q : Int) = (q : Int) := IntWalk.i64_in _ (by omega)
  rw [hq] at r0 r1
  have hz2 : ¬ (i : Int) = (n : Int) := by omega
  have hz3 : (c : Int) < (n : Int) + 1 := by omega
  have hw1 : IntKind.i64.wrap ((i : Int) + 1) = (i : Int) + 1 := IntWalk.i64_in _ (by omega)
  have hw2 : IntKind.i64.wrap ((n : Int) + 1) = (n : Int) + 1 := IntWalk.i64_in _ (by omega)
  have hb1 : (0 : Int) ≤ (i : Int) + 1 := by omega
  have htn : ((i : Int) + 1).toNat = i + 1 := by omega
  have hb4 : ¬ c = i := by omega
  have hb6 : (i : Int) ≤ (n : Int) := by omega
  have hb7 : (i : Int) ≤ (c : Int) := by omega
  have hg4 : ¬ G = i := by omega
  have hg5 : ¬ G = i + 1 := by omega
  clear ho hy ho3 hb3 hN hB hcp
  go_enter Tryd.func71, Tryd.ntmps71
  go_wp2_with (at_builtin; refine wpList_app9 rfl _ _ _ _ rfl rfl rfl (r0 _) ?_)
  go_region_law (refine step_copy9 rfl _ _ 22 rfl (by simp [Act.eval, Act.put]) (by simp [Act.eval, Act.put]) (r2 3 (G - (i + 1)) (c - i)) ?_)
  go_wp2
  go_ret
  exact ⟨_, G, rfl, HO3.out, .inr ⟨N, rfl, Nat.le_of_eq HN.out⟩, grown_bel HB3.out⟩
theorem insert_is (A : Option Addr) (n c i B : Nat) (hs : List (KX Pd)) (y : KX Pd) (vb : Nat) (w : World) (ho : OwnH w B (.slice A n c) n hs) (hB : B ≤ w.heap.size) (hi : i ≤ n) (hn : n ≤ 1024) (hy : At0 w vb (prC y) 55) (hne : ∀ g, A = some ⟨g, 0, none⟩ → vb ≠ g) :
    Calls Tryd.prog 71 #[.slice A n c, .int .i64 (i : Int), .slice (some ⟨vb, 0, none⟩) 1 1] w (InsO w B (.slice A n c) n (hs.take i ++ y :: hs.drop i)) := by
  by_cases hin : i = n
  · subst hin
    exact insert_end A i c B hs y vb w ho hB hn ⟨rfl, fun k x hx => by
      match k, hx with
      | 0, hx =>
        obtain rfl : y = x := by simpa using hx
        exact ⟨vb, 0, rfl, Nat.lt_succ_self _, fun j v hj => by rw [show 0 + 0 * 3 + j = j by omega, hy.cell]; exact hj⟩⟩
  · obtain ⟨g, rfl, _, _⟩ := OwnF.form ho (by omega)
    by_cases hr : n + 1 ≤ c
    · exact insert_shift g n c i B hs y vb w ho (by omega) hr hn hy (hne g rfl)
    · exact insert_grow g n c i B hs y vb w ho hB (by omega) (by omega) hn hy
end Go.Proofs.YtllebgadhhgckaaDoor.Sqs
