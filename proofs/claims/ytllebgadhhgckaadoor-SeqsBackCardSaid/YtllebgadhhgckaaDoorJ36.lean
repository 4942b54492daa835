/- Joined: SqsDB. -/
import Derived.Test.YtllebgadhhgckaaDoorJ18
import Derived.Test.YtllebgadhhgckaaDoorJ35
import Derived.Deep.DeepCutAuto
/- The landed seqs: behind. -/
namespace Go.Proofs.YtllebgadhhgckaaDoor.Sqs
open Go.RowKit Oct Rec RowF RowK RowO Lay Bat InR
open Epo (At0 AtO belA)

theorem grown_bel {w w' : World} {r : Option Nat} (h : Below w.heap.size w w') : w.grownBy w' r := ⟨h.os, h.tape, h.output, h.size, fun i hi _ => h.block i hi⟩
theorem grown_then {a b c : World} {r r' : Option Nat} (h : a.grownBy b r) (k : b.grownBy c r') (hr : r' = r ∨ ∃ g, r' = some g ∧ a.heap.size ≤ g) : a.grownBy c r :=
  ⟨k.os.trans h.os, k.tape.trans h.tape, k.output.trans h.output, Nat.le_trans h.size k.size, fun i hi hne => (k.block i (Nat.lt_of_lt_of_le hi h.size) (by
    rcases hr with rfl | ⟨g, rfl, hg⟩
    · exact hne
    · intro e; injection e with e; omega)).trans (h.block i hi hne)⟩
theorem grown_set9 {w : World} {a : Addr} (u : Value) : w.grownBy (w.setCell a u) (some a.block) := ⟨rfl, rfl, rfl, by simp, fun i _ hi => by
  simp only [World.setCell, Array.getElem?_modify]
  rw [if_neg (fun e => hi (by rw [e]))]⟩
theorem at0_grown {w w' : World} {g : Nat} {cs : List Value} {e : TypeId} {r : Option Nat} (h : At0 w g cs e) (hg : w.grownBy w' r) (hr : some g ≠ r) : At0 w' g cs e := (hg.block g h.lt hr).trans h
theorem at0_set9 {W : World} {g : Nat} {e : TypeId} {cs : List Value} (h : At0 W g cs e) (j : Nat) (u : Value) : At0 (W.setCell ⟨g, j, none⟩ u) g (cs.set j u) e := by
  have h1 := heap_setCell_same W g j cs.toArray e u h
  unfold At0
  rw [h1]
  simp
def Stays (w : World) (v u : Value) : Prop := u.ownBlock = v.ownBlock ∨ ∃ g, u.ownBlock = some g ∧ w.heap.size ≤ g
def BehindO (w : World) (B : Nat) (v : Value) (x0 x1 : Int) (l : List Dd) (e : Ending) (w' : World) : Prop :=
  ∃ A' n' c', e = .returned (.agg #[.int .i64 x0, .int .i64 x1, .slice A' n' c']) ∧ OwnD w' B (.slice A' n' c') n' l ∧ Stays w v (.slice A' n' c') ∧ w.grownBy w' v.ownBlock
theorem behind_cut {w W w4 w5 : World} {B n : Nat} {v u x0 x1 : Value} {o : Obj} {e er : TypeId} {xs : List Value} (hB : Below w.heap.size w W) (h4 : Below W.heap.size W w4) (hg : (w4.alloc o).grownBy w5 v.ownBlock) (ho : w5.ownsRow B e 3 u n xs) (hv : u.ownBlock = v.ownBlock ∨ u.ownBlock = some (w4.alloc o).heap.size)
    (hown : ∀ g, w.heap.size ≤ g → some g ≠ v.ownBlock) (hp : At0 w5 w.heap.size [x0, x1, v] er) (hr : At0 W (w.heap.size + 1 + 1) [.int .i64 0, .int .i64 0, .slice none 0 0] er) :
    (w5.setCell ⟨w.heap.size, 2, none⟩ u).ownsRow B e 3 u n xs ∧ At0 (w5.setCell ⟨w.heap.size, 2, none⟩ u) w.heap.size [x0, x1, u] er ∧ At0 (w5.setCell ⟨w.heap.size, 2, none⟩ u) (w.heap.size + 1 + 1) [.int .i64 0, .int .i64 0, .slice none 0 0] er ∧ w.grownBy (w5.setCell ⟨w.heap.size, 2, none⟩ u) v.ownBlock ∧ Stays w v u := by
  have hs : w.heap.size + 1 + 1 < (w4.alloc o).heap.size := by have h1 := hr.lt; have h2 := h4.size; rw [World.size_alloc]; omega
  have hne : ∀ g, g < (w4.alloc o).heap.size → w.heap.size ≤ g → some g ≠ u.ownBlock := fun g h1 h2 e => by
    rcases hv with hv | hv
    · exact hown g h2 (e.trans hv)
    · rw [hv] at e; injection e with e; omega
  have g0 : w.grownBy (w4.alloc o) v.ownBlock := grown_bel (Epo.bel_trans (Epo.bel_trans hB h4) (belA w4 o))
  have g5 := grown_then g0 hg (.inl rfl)
  refine ⟨World.ownsRow.kept ho (grown_set9 u) (.inr (hne _ (by omega) (Nat.le_refl _)).symm), at0_set9 hp 2 u, ?_, grown_then g5 (grown_set9 u) (.inr ⟨_, rfl, Nat.le_refl _⟩), ?_⟩
  · refine at0_grown (at0_grown ((hr.below h4).below (belA w4 o)) hg (hown _ (by omega))) (grown_set9 u) (fun e => ?_)
    injection e with e
    simp only at e
    omega
  · rcases hv with hv | hv
    · exact .inl hv
    · exact .inr ⟨_, hv, by omega⟩
theorem own_ne9 {w : World} {B sz g n c k : Nat} {e e' : TypeId} {xs cs : List Value} (ho : w.ownsRow B e sz (.slice (some ⟨g, 0, none⟩) n c) n xs) (ha : At0 w k cs e') (he : e ≠ e') : g ≠ k := by
  rintro rfl
  rcases ho.2 with ⟨h, _⟩ | ⟨g', cap, cur, h, _, hg, _⟩
  · simp at h
  · simp only [Value.slice.injEq, Option.some.injEq, Addr.mk.injEq, and_true, true_and] at h
    obtain ⟨rfl, rfl⟩ := h
    have h9 := hg.symm.trans (show w.heap[g]? = some (.cells cs.toArray e' (0, 0)) from ha)
    injection h9 with hg
    injection hg with _ h2 _
    exact he h2
theorem stays_of {w : World} {v : Value} {g n c : Nat} (h : Stays w v (.slice (some ⟨g, 0, none⟩) n c)) : some g = v.ownBlock ∨ ∃ k, some g = some k ∧ w.heap.size ≤ k := h
theorem stays_cap {w : World} {v : Value} {g n c n' c' : Nat} (h : Stays w v (.slice (some ⟨g, 0, none⟩) n c)) : Stays w v (.slice (some ⟨g, 0, none⟩) n' c') := h
theorem grown_set3 {w : World} {g : Nat} (u0 u1 u2 : Value) : w.grownBy (((w.setCell ⟨g, 0, none⟩ u0).setCell ⟨g, 1, none⟩ u1).setCell ⟨g, 2, none⟩ u2) (some g) :=
  grown_trans9 (grown_trans9 (grown_set9 (a := ⟨g, 0, none⟩) u0) (grown_set9 (a := ⟨g, 1, none⟩) u1)) (grown_set9 (a := ⟨g, 2, none⟩) u2)
theorem own_set3 {w : World} {B sz g n c k : Nat} {e : TypeId} {xs : List Value} (ho : w.ownsRow B e sz (.slice (some ⟨g, 0, none⟩) n c) n xs) (hk : g ≠ k) (u0 u1 u2 : Value) : (((w.setCell ⟨k, 0, none⟩ u0).setCell ⟨k, 1, none⟩ u1).setCell ⟨k, 2, none⟩ u2).ownsRow B e sz (.slice (some ⟨g, 0, none⟩) n c) n xs :=
  World.ownsRow.kept ho (grown_set3 u0 u1 u2) (.inr (fun e => hk (Option.some.inj e)))
set_option maxRecDepth 100000 in
set_option maxHeartbeats 8000000 in
theorem behind_no (x0 x1 : Int) (xd : List Dd) (A : Option Addr) (n c B : Nat) (ba la fr ep pi ge se : Int) (tx : Bool) (ct : Int) (AR : Option Addr) (nR cR : Nat) (w : World) (ho : OwnD w B (.slice A n c) n xd) (hct : ¬ ct = 0) :
    Calls Tryd.prog 46 #[.agg #[.int .i64 x0, .int .i64 x1, .slice A n c], .agg #[.int .i64 ba, .int .i64 la, .int .i64 fr, .int .i64 ep, .int .i64 pi, .int .i64 ge, .int .i64 se, .bool tx, .int .i64 ct, .slice AR nR cR]] w (BehindO w B (.slice A n c) x0 x1 xd) := by
  have b1 := belA w (.cells #[.int .i64 x0, .int .i64 x1, .slice A n c] 55)
  have b2 := belA (w.alloc (.cells #[.int .i64 x0, .int .i64 x1, .slice A n c] 55)) (.cells #[.int .i64 ba, .int .i64 la, .int .i64 fr, .int .i64 ep, .int .i64 pi, .int .i64 ge, .int .i64 se, .bool tx, .int .i64 ct, .slice AR nR cR] 25)
  have b3 := belA ((w.alloc (.cells #[.int .i64 x0, .int .i64 x1, .slice A n c] 55)).alloc (.cells #[.int .i64 ba, .int .i64 la, .int .i64 fr, .int .i64 ep, .int .i64 pi, .int .i64 ge, .int .i64 se, .bool tx, .int .i64 ct, .slice AR nR cR] 25)) (.cells #[.int .i64 0, .int .i64 0, .slice none 0 0] 55)
  have HB := Lib.hid (Epo.bel_trans (Epo.bel_trans b1 b2) b3)
  have HP := Lib.hid (((At0.new w [.int .i64 x0, .int .i64 x1, .slice A n c] 55).below b2).below b3)
  have h2 := (At0.new (w.alloc (.cells #[.int .i64 x0, .int .i64 x1, .slice A n c] 55)) [.int .i64 ba, .int .i64 la, .int .i64 fr, .int .i64 ep, .int .i64 pi, .int .i64 ge, .int .i64 se, .bool tx, .int .i64 ct, .slice AR nR cR] 25).below b3
  have h3 := At0.new ((w.alloc (.cells #[.int .i64 x0, .int .i64 x1, .slice A n c] 55)).alloc (.cells #[.int .i64 ba, .int .i64 la, .int .i64 fr, .int .i64 ep, .int .i64 pi, .int .i64 ge, .int .i64 se, .bool tx, .int .i64 ct, .slice AR nR cR] 25)) [.int .i64 0, .int .i64 0, .slice none 0 0] 55
  simp only [World.size_alloc] at h2 h3
  have HAT := Lib.hid h2
  have HR := Lib.hid h3
  clear b1 b2 b3 h2 h3
  have HO := Lib.hid ho
  have hq : (ct == 0) = false := beq_eq_false_iff_ne.2 hct
  clear ho hct
  go_enter Tryd.func46, Tryd.ntmps46
  go_upto_region 1 with fail
  generalize (((w.alloc (.cells #[.int .i64 x0, .int .i64 x1, .slice A n c] 55)).alloc (.cells #[.int .i64 ba, .int .i64 la, .int .i64 fr, .int .i64 ep, .int .i64 pi, .int .i64 ge, .int .i64 se, .bool tx, .int .i64 ct, .slice AR nR cR] 25)).alloc (.cells #[.int .i64 0, .int .i64 0, .slice none 0 0] 55)) = W at *
  obtain ⟨q0, q1, q2, q3, q4, q5, q6, q7, q8, q9⟩ := cel10 HAT.out
  obtain ⟨p0, p1, p2⟩ := cel3 HP.out
  obtain ⟨r0, r1, r2⟩ := cel3 HR.out
  obtain ⟨f0, f1, f2⟩ := frz3 HR.out
  have HS := Lib.hid (bel_set3 HB.out (show w.heap.size ≤ w.heap.size + 1 + 1 by omega) (.int .i64 x0) (.int .i64 x1) (.slice A n c))
  go_wp2
  refine bodyPost_ret (v := .agg #[.int .i64 x0, .int .i64 x1, .slice A n c]) (by simp [results, Tryd.results46, go_sem, r0, r1, r2]) rfl ?_
  exact ⟨A, n, c, rfl, HO.out.below HS.out, .inl rfl, grown_bel HS.out⟩
set_option maxRecDepth 100000 in
set_option maxHeartbeats 8000000 in
theorem behind_data (x0 x1 : Int) (xd : List Dd) (A : Option Addr) (n c B : Nat) (ba la fr ep pi ge se : Int) (tx : Bool) (AR : Option Addr) (nR cR : Nat) (w : World) (ho : OwnD w B (.slice A n c) n xd) (hB : B ≤ w.heap.size) (hn : n ≤ 5) {ls : Int} (hw1 : IntKind.i64.wrap (la - ba) = la - ba) (hw2 : IntKind.i64.wrap (se + (la - ba)) = ls) :
    Calls Tryd.prog 46 #[.agg #[.int .i64 x0, .int .i64 x1, .slice A n c], .agg #[.int .i64 ba, .int .i64 la, .int .i64 fr, .int .i64 ep, .int .i64 pi, .int .i64 ge, .int .i64 se, .bool tx, .int .i64 0, .slice AR nR cR]] w (BehindO w B (.slice A n c) x0 x1 (five (xd ++ [⟨se, ls, ba⟩]))) := by
  have b1 := belA w (.cells #[.int .i64 x0, .int .i64 x1, .slice A n c] 55)
  have b2 := belA (w.alloc (.cells #[.int .i64 x0, .int .i64 x1, .slice A n c] 55)) (.cells #[.int .i64 ba, .int .i64 la, .int .i64 fr, .int .i64 ep, .int .i64 pi, .int .i64 ge, .int .i64 se, .bool tx, .int .i64 0, .slice AR nR cR] 25)
  have b3 := belA ((w.alloc (.cells #[.int .i64 x0, .int .i64 x1, .slice A n c] 55)).alloc (.cells #[.int .i64 ba, .int .i64 la, .int .i64 fr, .int .i64 ep, .int .i64 pi, .int .i64 ge, .int .i64 se, .bool tx, .int .i64 0, .slice AR nR cR] 25)) (.cells #[.int .i64 0, .int .i64 0, .slice none 0 0] 55)
  have HB := Lib.hid (Epo.bel_trans (Epo.bel_trans b1 b2) b3)
  have HP := Lib.hid (((At0.new w [.int .i64 x0, .int .i64 x1, .slice A n c] 55).below b2).below b3)
  have h2 := (At0.new (w.alloc (.cells #[.int .i64 x0, .int .i64 x1, .slice A n c] 55)) [.int .i64 ba, .int .i64 la, .int .i64 fr, .int .i64 ep, .int .i64 pi, .int .i64 ge, .int .i64 se, .bool tx, .int .i64 0, .slice AR nR cR] 25).below b3
  have h3 := At0.new ((w.alloc (.cells #[.int .i64 x0, .int .i64 x1, .slice A n c] 55)).alloc (.cells #[.int .i64 ba, .int .i64 la, .int .i64 fr, .int .i64 ep, .int .i64 pi, .int .i64 ge, .int .i64 se, .bool tx, .int .i64 0, .slice AR nR cR] 25)) [.int .i64 0, .int .i64 0, .slice none 0 0] 55
  simp only [World.size_alloc] at h2 h3
  have HAT := Lib.hid h2
  have HR := Lib.hid h3
  clear b1 b2 b3 h2 h3
  have HO := Lib.hid ho
  have HO1 := Lib.hid (ho.below HB.out)
  have hlen := ho.len didS
  have hown : ∀ g, (Value.slice A n c).ownBlock = some g → B ≤ g ∧ g < w.heap.size := fun g hg => World.ownsRow.lt ho g hg
  have HOWN := Lib.hid hown
  have NE0 := Lib.hid (fun (g : Nat) (hg : w.heap.size ≤ g) => (show some g ≠ (Value.slice A n c).ownBlock from fun e => by have := (HOWN.out g e.symm).2; omega))
  clear ho hown
  go_enter Tryd.func46, Tryd.ntmps46
  go_upto_region 1 with fail
  generalize (((w.alloc (.cells #[.int .i64 x0, .int .i64 x1, .slice A n c] 55)).alloc (.cells #[.int .i64 ba, .int .i64 la, .int .i64 fr, .int .i64 ep, .int .i64 pi, .int .i64 ge, .int .i64 se, .bool tx, .int .i64 0, .slice AR nR cR] 25)).alloc (.cells #[.int .i64 0, .int .i64 0, .slice none 0 0] 55)) = W at *
  have hWl : w.heap.size + 1 + 1 < W.heap.size := HR.out.lt
  obtain ⟨q0, q1, q2, q3, q4, q5, q6, q7, q8, q9⟩ := cel10 HAT.out
  go_upto_region 3 with fail
  obtain ⟨p0, p1, p2⟩ := cel3 HP.out
  obtain ⟨f0, f1, f2⟩ := frz3 HP.out
  go_cut [] (fun wx => ∃ A5 c5 m, m = n + 1 ∧ OwnD wx B (.slice A5 m c5) m (xd ++ [⟨se, ls, ba⟩]) ∧ At0 wx w.heap.size [.int .i64 x0, .int .i64 x1, .slice A5 m c5] 55 ∧ At0 wx (w.heap.size + 1 + 1) [.int .i64 0, .int .i64 0, .slice none 0 0] 55 ∧ w.grownBy wx (Value.slice A n c).ownBlock ∧ Stays w (.slice A n c) (.slice A5 m c5))
  case first =>
    have HD := Lib.hid (show Below W.heap.size W W.drew from bel_drew (Below.refl _ _))
    go_region_law (first
      | (obtain ⟨A5, c5, w5, hrun, ho5, hg5, hv5⟩ := run_appFG (P := Tryd.prog) (w4.alloc (.cells (didC ⟨se, ls, ba⟩).toArray 58)) didS 24 B 53 53 58 Tryd.underlying53 didInfo (.slice A n c) n xd (HO4.out.alloc _) (w4.heap.size + 1) (some ⟨w4.heap.size, 0, none⟩) 1 1 [⟨se, ls, ba⟩] (rdF_new w4 didS 58 ⟨se, ls, ba⟩) (by omega) (by omega) (by have := HS4.out; simp only [World.size_alloc]; omega); dsimp only [didC] at hrun; refine step_append rfl _ _ 53 rfl rfl rfl hrun ?_; have HO5 := Lib.hid ho5; have HG5 := Lib.hid hg5; have HV5 := Lib.hid hv5; clear hrun ho5 hg5 hv5; have HP5 := Lib.hid (at0_grown (HP4.out.below (belA w4 _)) HG5.out (NE0.out _ (by omega))); obtain ⟨p0, p1, p2⟩ := cel3 HP5.out; obtain ⟨f0, f1, f2⟩ := frz3 HP5.out)
      | (go_simp; go_at_call 64; (with_reducible refine (didOf_is ba la fr ep pi ge se tx 0 AR nR cR _ hw1 hw2).mono ?_); rintro e w4 ⟨rfl, hb⟩; have hb4 := HD.out.trans (hb.mono HD.out.size); have HB4 := Lib.hid hb4; have HO4 := Lib.hid (OwnF.below HO1.out hb4); have HS4 := Lib.hid (show W.heap.size ≤ w4.heap.size from hb4.size); have HP4 := Lib.hid (HP.out.below hb4); obtain ⟨p0, p1, p2⟩ := cel3 HP4.out; have hlt4 : w.heap.size < w4.heap.size := HP4.out.lt; clear hb hb4))
    all_goals (go_wp2_with fail; go_meet)
    all_goals exact ⟨A5, c5, n + 1, rfl, behind_cut HB.out HB4.out HG5.out HO5.out HV5.out NE0.out HP5.out HR.out⟩
  case rest =>
    obtain ⟨A5, c5, m, hm, ho5, hp5, hr5, hg5, hs5⟩ := hcut
    obtain ⟨g, rfl, hgB, _⟩ := OwnF.form ho5 (by omega)
    have HO5 := Lib.hid ho5
    have HG5 := Lib.hid hg5
    have HS5 := Lib.hid hs5
    have HR5 := Lib.hid hr5
    have hwl : w.heap.size + 1 + 1 < wc.heap.size := hr5.lt
    have hgk := own_ne9 ho5 hp5 (by decide)
    have hgr := own_ne9 ho5 hr5 (by decide)
    have HLX := Lib.hid (show (xd ++ [(⟨se, ls, ba⟩ : Dd)]).length = m from by rw [List.length_append, hlen, hm]; rfl)
    clear q0 q1 q2 q3 q4 q5 q6 q7 q8 q9 p0 p1 p2 f0 f1 f2
    obtain ⟨p0, p1, p2⟩ := cel3 hp5
    obtain ⟨f0, f1, f2⟩ := frz3 hp5
    obtain ⟨r0, r1, r2⟩ := cel3 hr5
    obtain ⟨h0, h1, h2⟩ := frz3 hr5
    by_cases h6 : m = 6
    · have HF := Lib.hid (show five (xd ++ [(⟨se, ls, ba⟩ : Dd)]) = (xd ++ [(⟨se, ls, ba⟩ : Dd)]).drop 1 from if_pos (by rw [HLX.out]; omega))
      obtain rfl : 6 = m := h6.symm
      have HP5 := Lib.hid hp5
      have HDL := Lib.hid (show Calls Tryd.prog 72 #[.slice (some ⟨g, 0, none⟩) 6 c5, .int .i64 0, .int .i64 1] wc fun e w' => e = .returned (.slice (some ⟨g, 0, none⟩) 5 c5) ∧ OwnD w' B (.slice (some ⟨g, 0, none⟩) 5 c5) 5 ((xd ++ [(⟨se, ls, ba⟩ : Dd)]).drop 1) ∧ wc.grownBy w' (some g) from delete1_is g 6 c5 B _ wc HO5.out (by omega) (by omega))
      clear ho5 hp5 hr5 hg5 hs5 hm
      go_upto_region 6 with (go_at_call 72; (with_reducible refine HDL.out.mono ?_); rintro e w6 ⟨rfl, ho6, hg6⟩; have HO6 := Lib.hid ho6; have HG6 := Lib.hid hg6; have HP6 := Lib.hid (at0_grown HP5.out hg6 (fun e => hgk (Option.some.inj e).symm)); have HR6 := Lib.hid (at0_grown HR5.out hg6 (fun e => hgr (Option.some.inj e).symm)); clear ho6 hg6 p0 p1 p2 f0 f1 f2; obtain ⟨p0, p1, p2⟩ := cel3 HP6.out; obtain ⟨f0, f1, f2⟩ := frz3 HP6.out)
      have HO7 := Lib.hid (World.ownsRow.kept HO6.out (grown_set9 (a := ⟨w.heap.size, 2, none⟩) (.slice (some ⟨g, 0, none⟩) 5 c5)) (.inr (fun e => hgk (Option.some.inj e))))
      have HP7 := Lib.hid (at0_set9 HP6.out 2 (.slice (some ⟨g, 0, none⟩) 5 c5))
      have HR7 := Lib.hid (at0_grown HR6.out (grown_set9 (a := ⟨w.heap.size, 2, none⟩) (.slice (some ⟨g, 0, none⟩) 5 c5)) (fun e => by injection e with e; simp only at e; omega))
      have HG7 := Lib.hid (grown_then (grown_then HG5.out HG6.out (stays_of HS5.out)) (grown_set9 (a := ⟨w.heap.size, 2, none⟩) (.slice (some ⟨g, 0, none⟩) 5 c5)) (.inr ⟨_, rfl, Nat.le_refl _⟩))
      clear r0 r1 r2 h0 h1 h2 p0 p1 p2 f0 f1 f2
      generalize w6.setCell ⟨w.heap.size, 2, none⟩ (.slice (some ⟨g, 0, none⟩) 5 c5) = w7 at *
      obtain ⟨p0, p1, p2⟩ := cel3 HP7.out
      obtain ⟨r0, r1, r2⟩ := cel3 HR7.out
      obtain ⟨h0, h1, h2⟩ := frz3 HR7.out
      go_wp2
      refine bodyPost_ret (v := .agg #[.int .i64 x0, .int .i64 x1, .slice (some ⟨g, 0, none⟩) 5 c5]) (by simp [results, Tryd.results46, go_sem, r0, r1, r2]) rfl ?_
      rw [HF.out]
      exact ⟨_, 5, c5, rfl, own_set3 HO7.out (fun e => hgr e) _ _ _, stays_cap HS5.out, grown_then HG7.out (grown_set3 _ _ _) (.inr ⟨_, rfl, by omega⟩)⟩
    · have HF := Lib.hid (show five (xd ++ [(⟨se, ls, ba⟩ : Dd)]) = xd ++ [(⟨se, ls, ba⟩ : Dd)] from if_neg (by rw [HLX.out]; omega))
      have hq : ¬ (5 : Int) < (m : Int) := by omega
      clear ho5 hp5 hr5 hg5 hs5 hm h6
      go_wp2
      refine bodyPost_ret (v := .agg #[.int .i64 x0, .int .i64 x1, .slice (some ⟨g, 0, none⟩) m c5]) (by simp [results, Tryd.results46, go_sem, r0, r1, r2]) rfl ?_
      rw [HF.out]
      exact ⟨_, m, c5, rfl, own_set3 HO5.out (fun e => hgr e) _ _ _, HS5.out, grown_then HG5.out (grown_set3 _ _ _) (.inr ⟨_, rfl, by omega⟩)⟩
end Go.Proofs.YtllebgadhhgckaaDoor.Sqs
