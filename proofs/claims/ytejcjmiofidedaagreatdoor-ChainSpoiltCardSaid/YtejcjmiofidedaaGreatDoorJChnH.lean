/- Joined: ChnHb, ChnHp. -/
import Derived.Test.YtejcjmiofidedaaGreatDoorJChnW
import Derived.Test.YtejcjmiofidedaaGreatDoorChnA
import Derived.Test.YtejcjmiofidedaaGreatDoorJSegW
import Derived.Test.YtejcjmiofidedaaGreatDoorJSegS
import Derived.Test.YtejcjmiofidedaaGreatDoorJChnM
/- The laws' own behind. -/
namespace Go.Proofs.YtejcjmiofidedaaGreatDoor.Chn
open Go.RowKit Oct Rec Crc Bat Lay Seg RowF InR

def Far (X : Nat → Prop) (w : World) (B : Nat) (A : Option Addr) (n : Nat) (l : List Sg) : Prop := ∀ w' : World, (∀ p : Addr, p.block < B → ¬ X p.block → w'.cell? p = w.cell? p) → RdG w' B A n l
section
variable {X X' : Nat → Prop} {w w' : World} {B B' n : Nat} {A : Option Addr} {l : List Sg}
theorem Far.rd (h : Far X w B A n l) : RdG w B A n l := h w fun _ _ _ => rfl
theorem Far.keep (h : Far X w B A n l) (hk : ∀ p : Addr, p.block < B → ¬ X p.block → w'.cell? p = w.cell? p) : Far X w' B A n l := fun v hv => h v fun p hp hx => (hv p hp hx).trans (hk p hp hx)
theorem Far.below (h : Far X w B A n l) (hb : Below B' w w') (hB : B ≤ B') : Far X w' B A n l := h.keep fun _ hp _ => hb.cell (by omega)
theorem Far.more (h : Far X w B A n l) (hB : B ≤ B') : Far X w B' A n l := fun v hv => (h v fun p hp hx => hv p (by omega) hx).more hB
theorem Far.new (h : Far X w B A n l) (hX : ∀ b, X' b → X b ∨ B ≤ b) : Far X' w B A n l := fun v hv => h v fun p hp hx => hv p hp fun h9 => (hX _ h9).elim hx fun h8 => absurd h8 (by omega)
theorem Far.of (h : RdG w B A n l) (hX : ∀ b, X b → B ≤ b) : Far X w B A n l := fun _ hv => h.keep fun p hp => hv p hp fun h9 => absurd (hX _ h9) (by omega)
theorem Far.off (h : Far X w B A n l) {p : Addr} (hp : X p.block) (u : Value) : Far X (w.setCell p u) B A n l := h.keep fun q _ hq => World.cell?_setCell_other _ _ _ _ (fun he => hq (by rw [← he]; exact hp))
theorem Far.grown {row : Option Nat} (h : Far X w B A n l) (hg : w.grownBy w' row) (hB : B ≤ w.heap.size) (hr : ∀ g, row = some g → X g) : Far X w' B A n l := h.keep fun p hp hx => World.cell?_of_block (hg.block p.block (by omega) (fun h9 => hx (hr _ h9.symm)))
theorem Far.own {e : TypeId} {c M : Nat} (k : OwnG w e (fun b => M ≤ b) M (.slice A n c) n l) (hX : ∀ b, X b → b < M) : Far X w w.heap.size A n l := by
  obtain ⟨hs, h1, rfl, h3⟩ := k
  intro v hv
  refine ⟨by rw [List.length_map]; exact h1.len segSh, fun i s hl => ?_⟩
  rw [List.getElem?_map] at hl
  cases hx : hs[i]? with
  | none => rw [hx] at hl; cases hl
  | some x =>
    rw [hx] at hl
    obtain rfl : x.1 = s := Option.some.inj hl
    obtain ⟨b, o, hA, hb, hcell⟩ := (h1.rd segSh).2 i _ hx
    obtain ⟨k1, k2, k3, k4, k5⟩ := h3 x (List.mem_of_getElem? hx)
    have hbM : M ≤ b := (World.ownsRow.lt h1 b (by rw [hA]; rfl)).1
    have hbX : ¬ X b := fun h9 => absurd (hX b h9) (by omega)
    refine ⟨b, o, x.2.1, x.2.2.1, x.2.2.2, hA, hb, k2, k3, ⟨k1.1, fun j r hr => ?_⟩, k4, (hv ⟨b, _, none⟩ hb hbX).trans (hcell 0 _ rfl), (hv ⟨b, _, none⟩ hb hbX).trans (hcell 1 _ rfl)⟩
    obtain ⟨b2, o2, hA2, hb2, h0⟩ := k1.2 j r hr
    have hn : 0 < x.2.2.1 := by have := (List.getElem?_eq_some_iff.1 hr).1; have := k1.1; omega
    have hP : M ≤ b2 := (k5 _ hA2 hn).1
    exact ⟨b2, o2, hA2, hb2, (hv ⟨b2, _, none⟩ hb2 fun h9 => absurd (hX b2 h9) (by omega)).trans h0⟩
end
def tb_behind5 : List (Nat × Nat) := [(0, 4095), (0, 4095), (0, 4095), (6, 4089), (8, 4087), (17, 4078), (32, 4063), (64, 4031), (64, 4031), (0, 4095), (767, 3455), (2047, 3839)]
theorem at0_off3 {W : World} {x g : Nat} {cs : List Value} {e : TypeId} (h : At0 W x cs e) (hg : x ≠ g) (a b c : Value) : At0 (((W.setCell ⟨g, 0, none⟩ a).setCell ⟨g, 1, none⟩ b).setCell ⟨g, 2, none⟩ c) x cs e := ((h.set (p := ⟨g, 0, none⟩) hg.symm a).set (p := ⟨g, 1, none⟩) hg.symm b).set (p := ⟨g, 2, none⟩) hg.symm c
theorem ownT_off3 {w : World} {e : TypeId} {R : Nat → Prop} {B g : Nat} {v : Value} {n : Nat} {L : List Bt} (h : OwnT w e R B v n L) (hg : g < B) (hR : ∀ b, R b → b ≠ g) (a b c : Value) : OwnT (((w.setCell ⟨g, 0, none⟩ a).setCell ⟨g, 1, none⟩ b).setCell ⟨g, 2, none⟩ c) e R B v n L := by
  have hv : v.ownBlock ≠ some g := fun h9 => absurd (h.lt g h9).1 (by omega)
  exact ownT_off (p := ⟨g, 2, none⟩) (ownT_off (p := ⟨g, 1, none⟩) (ownT_off (p := ⟨g, 0, none⟩) h hv hR a) hv hR b) hv hR c
theorem ato_off3 {W : World} {x g o : Nat} {cs : List Value} (h : AtO W x o cs) (hg : x ≠ g) (a b c : Value) : AtO (((W.setCell ⟨g, 0, none⟩ a).setCell ⟨g, 1, none⟩ b).setCell ⟨g, 2, none⟩ c) x o cs :=
  ⟨by simpa using h.1, fun j v hv => (cell_off hg).trans ((cell_off hg).trans ((cell_off hg).trans (h.2 j v hv)))⟩
theorem At0.kept9 {W X : World} {g : Nat} {cs : List Value} {e : TypeId} {row : Option Nat} (h : At0 W g cs e) (hg : W.grownBy X row) (hne : row ≠ some g) : At0 X g cs e := (hg.block g h.lt (fun h9 => hne h9.symm)).trans h
def bhX (N : Nat) (v : Value) (b : Nat) : Prop := (N ≤ b ∧ b < N + 2) ∨ v.ownBlock = some b
def bhRel (lim start : Int) (l0 : List Sg) (bs : List Bt) (n0 n1 : Nat) (w : World) (vo iv : Value) (wr : World) : Prop :=
  ∃ (k : Nat) (A : Option Addr) (n c : Nat) (x : List Sg) (A2 : Option Addr) (n2 c2 : Nat) (ws : List Bt), vo = .slice A2 n2 c2 ∧ iv = .int .i64 (k : Int) ∧ k ≤ n1 ∧ n2 ≤ k ∧ n ≤ c ∧ n ≤ n0 + k ∧
    behindL ⟨lim, start, l0⟩ bs = ((behindL ⟨lim, start, x⟩ (bs.drop k)).1, ws ++ (behindL ⟨lim, start, x⟩ (bs.drop k)).2) ∧ At0 wr w.heap.size [.int .i64 lim, .int .i64 start, .slice A n c] 24 ∧ At0 wr (w.heap.size + 1) [.int .i64 0, .int .i64 0, .slice none 0 0] 24 ∧
    Far (bhX w.heap.size (.slice A2 n2 c2)) wr wr.heap.size A n x ∧ OwnT wr 39 (fun b => b < w.heap.size) (w.heap.size + 2) (.slice A2 n2 c2) n2 ws ∧ Below w.heap.size w wr
theorem behind_step {l : Lg} {bs : List Bt} {k : Nat} {b : Bt} (h : bs[k]? = some b) : behindL l (bs.drop k) = if (apL l b).2 = 0 then ((behindL (apL l b).1 (bs.drop (k + 1))).1, b :: (behindL (apL l b).1 (bs.drop (k + 1))).2) else behindL l (bs.drop (k + 1)) := by
  have hl := (List.getElem?_eq_some_iff.1 h).1
  rw [List.drop_eq_getElem_cons hl, (List.getElem?_eq_some_iff.1 h).2]
  rfl
theorem apL_more {lim start : Int} {l : List Sg} {b : Bt} {x : Lg} (h : apL ⟨lim, start, l⟩ b = (x, 0)) : x.limit = lim ∧ x.start = start ∧ x.segs.length ≤ l.length + 1 := by
  obtain ⟨_, _, _, _, _, _, _, h1, h2, h3⟩ := apL_good h
  simp only at h1 h2 h3
  exact ⟨h1, h2, by omega⟩
set_option maxRecDepth 100000 in
set_option maxHeartbeats 16000000 in
theorem behind9_is (lim start : Int) (A : Option Addr) (n c : Nat) (l : List Sg) (A1 : Option Addr) (n1 c1 : Nat) (bs : List Bt) (w : World) (hr : RdG w w.heap.size A n l) (ht : Tab w) (hc : n ≤ c) (hn : n ≤ 300) (hx : RdT w w.heap.size A1 n1 bs) (hn1 : n1 ≤ 1000) {xl xs : Int} {x ws : _} (h : behindL ⟨lim, start, l⟩ bs = (⟨xl, xs, x⟩, ws)) :
    Calls Tryz.prog 38 #[.agg #[.int .i64 lim, .int .i64 start, .slice A n c], .slice A1 n1 c1] w fun e w' => ∃ A3 n3 c3 A2 n2 c2, e = .returned (.tuple #[.agg #[.int .i64 xl, .int .i64 xs, .slice A3 n3 c3], .slice A2 n2 c2]) ∧ n3 ≤ c3 ∧ n3 ≤ n + n1 ∧ RdG w' w'.heap.size A3 n3 x ∧ OwnT w' 39 (fun b => b < w.heap.size) w.heap.size (.slice A2 n2 c2) n2 ws ∧ Below w.heap.size w w' := by
  have hba : Below w.heap.size w ((w.alloc (.cells #[.int .i64 lim, .int .i64 start, .slice A n c] 24)).alloc (.cells #[.int .i64 0, .int .i64 0, .slice none 0 0] 24)) := bel_alloc (belA w _) _
  have HL_0 := Lib.hid ((At0.new w [.int .i64 lim, .int .i64 start, .slice A n c] 24).alloc (.cells #[.int .i64 0, .int .i64 0, .slice none 0 0] 24))
  have HZ_0 := Lib.hid (at0_1 w (.cells #[.int .i64 lim, .int .i64 start, .slice A n c] 24) [.int .i64 0, .int .i64 0, .slice none 0 0] 24)
  have HW_0 := Lib.hid hba
  have HFR_0 := Lib.hid (show Far (bhX w.heap.size (.slice none 0 0)) ((w.alloc (.cells #[.int .i64 lim, .int .i64 start, .slice A n c] 24)).alloc (.cells #[.int .i64 0, .int .i64 0, .slice none 0 0] 24)) ((w.alloc (.cells #[.int .i64 lim, .int .i64 start, .slice A n c] 24)).alloc (.cells #[.int .i64 0, .int .i64 0, .slice none 0 0] 24)).heap.size A n l from ((Far.of (X := bhX w.heap.size (.slice none 0 0)) hr (fun b h9 => by rcases h9 with h9 | h9; exact h9.1; cases h9)).below hba (Nat.le_refl _)).more hba.size)
  have HT0 := Lib.hid ht
  have HX := Lib.hid hx
  have HLEN := Lib.hid hx.len
  have HH := Lib.hid h
  have hmx : Tryz.prog.follows .mixedOrders = true := by kernel_rfl
  have hsz0 : ((w.alloc (.cells #[.int .i64 lim, .int .i64 start, .slice A n c] 24)).alloc (.cells #[.int .i64 0, .int .i64 0, .slice none 0 0] 24)).heap.size = w.heap.size + 2 := by simp
  clear hr ht hx hba h
  go_enter Tryz.func38, Tryz.ntmps38
  go_wp2
  generalize ((w.alloc (.cells #[.int .i64 lim, .int .i64 start, .slice A n c] 24)).alloc (.cells #[.int .i64 0, .int .i64 0, .slice none 0 0] 24)) = W at *
  go_loopw [6, 7] (fun vo iv wr => bhRel lim start l bs n n1 w vo iv wr) (fun _ iv _ => n1 - (intOf iv).toNat)
  case atStart => exact ⟨0, A, n, c, l, none, 0, 0, [], rfl, rfl, Nat.zero_le _, Nat.le_refl _, hc, by omega, by simp, HL_0.out, HZ_0.out, HFR_0.out, OwnT.nil, HW_0.out⟩
  case round =>
    obtain ⟨k, A4, n4, c4, y, A2, n2, c2, vs, rfl, rfl, hk, hn2, hc4, hn4, hbh, hL, hZ, hfr, ho, hb⟩ := hrel
    have HBH := Lib.hid hbh
    have HL_r := Lib.hid hL
    have HZ_r := Lib.hid hZ
    have HFR := Lib.hid hfr
    have HO_r := Lib.hid ho
    have HW_r := Lib.hid hb
    have HM := Lib.hid (show w.heap.size + 2 ≤ wr.heap.size by have h9 := hZ.lt; omega)
    have HG_r := Lib.hid hfr.rd
    have HT_r := Lib.hid (HT0.out.bel hb)
    have HXR := Lib.hid (HX.out.below hb (Nat.le_refl _))
    clear hbh hL hZ hfr ho hb
    by_cases hlt : k < n1
    · obtain ⟨b, o, ⟨ba, la, fr, ep, pi, ge, se, tx, ct, rs⟩, A5, n5, c5, rfl, hbl, hxk, hc5, hn5, hrd, hf, hce⟩ := HXR.out.at hlt
      have HXK := Lib.hid hxk
      have HBLR := Lib.hid (show b < wr.heap.size from Nat.lt_of_lt_of_le hbl HW_r.out.size)
      have HS_r := Lib.hid (show AtO wr b (o + k * 10) [.int .i64 ba, .int .i64 la, .int .i64 fr, .int .i64 ep, .int .i64 pi, .int .i64 ge, .int .i64 se, .bool tx, .int .i64 ct, .slice A5 n5 c5] from ⟨HBLR.out, fun j v hv => hce j v hv⟩)
      have HRR_r := Lib.hid (hrd.more HW_r.out.size)
      have HRB := Lib.hid hrd
      have HF := Lib.hid hf
      have hw1 : IntKind.i64.wrap ((k : Int) + 1) = (k : Int) + 1 := IntWalk.i64_in _ (by omega)
      have hkl : (k : Int) < (n1 : Int) := by omega
      have hk0 : (0 : Int) ≤ (k : Int) := by omega
      have hn4' : n4 ≤ 1000000 := by omega
      rcases hap : apL ⟨lim, start, y⟩ ⟨ba, la, fr, ep, pi, ge, se, tx, ct, rs⟩ with ⟨⟨yl, ys, z⟩, e⟩
      have HAP := Lib.hid hap
      have HST := Lib.hid (behind_step (l := ⟨lim, start, y⟩) hxk)
      clear hxk hrd hf hce hap
      go_wp2
      have HBW_r := Lib.hid (Below.refl wr.heap.size wr)
      go_cut [8, 9] (fun s8 s9 wx => ∃ P A6 n6 c6, s8 = .pointer (some ⟨P, 0, none⟩) ∧ s9 = .int .i64 e ∧ At0 wx P [.int .i64 yl, .int .i64 ys, .slice A6 n6 c6] 24 ∧ OwnG wx 59 (fun b => wr.heap.size ≤ b) wr.heap.size (.slice A6 n6 c6) n6 z ∧ Below wr.heap.size wr wx)
      case first =>
        have hbd := (Below.refl wr.heap.size wr).drew
        have HW_R5 := Lib.hid (bel_trans HW_r.out hbd)
        have HL_R5 := Lib.hid (HL_r.out.below hbd)
        have HZ_R5 := Lib.hid (HZ_r.out.below hbd)
        have HS_R5 := Lib.hid (HS_r.out.below hbd)
        have HG_R5 := Lib.hid (rdgUp HG_r.out hbd)
        have HT_R5 := Lib.hid (HT_r.out.bel hbd)
        have HRR_R5 := Lib.hid (rdrUp HRR_r.out hbd)
        have HBW_R5 := Lib.hid (bel_trans HBW_r.out hbd)
        have HSR5 := Lib.hid (show (fun W9 : World => W9.cell? ⟨w.heap.size, 0, none⟩ = some (.int .i64 lim) ∧ W9.cell? ⟨w.heap.size, 1, none⟩ = some (.int .i64 start) ∧ W9.cell? ⟨w.heap.size, 2, none⟩ = some (.slice A4 n4 c4) ∧ W9.cell? ⟨b, o + k * 10, none⟩ = some (.int .i64 ba) ∧ W9.cell? ⟨b, o + k * 10 + 1, none⟩ = some (.int .i64 la) ∧ W9.cell? ⟨b, o + k * 10 + 2, none⟩ = some (.int .i64 fr) ∧ W9.cell? ⟨b, o + k * 10 + 3, none⟩ = some (.int .i64 ep) ∧ W9.cell? ⟨b, o + k * 10 + 4, none⟩ = some (.int .i64 pi) ∧ W9.cell? ⟨b, o + k * 10 + 5, none⟩ = some (.int .i64 ge) ∧ W9.cell? ⟨b, o + k * 10 + 6, none⟩ = some (.int .i64 se) ∧ W9.cell? ⟨b, o + k * 10 + 7, none⟩ = some (.bool tx) ∧ W9.cell? ⟨b, o + k * 10 + 8, none⟩ = some (.int .i64 ct) ∧ W9.cell? ⟨b, o + k * 10 + 9, none⟩ = some (.slice A5 n5 c5)) wr.drew from ⟨HL_R5.out.cell 0, HL_R5.out.cell 1, HL_R5.out.cell 2, HS_R5.out.2 0 _ rfl, HS_R5.out.2 1 _ rfl, HS_R5.out.2 2 _ rfl, HS_R5.out.2 3 _ rfl, HS_R5.out.2 4 _ rfl, HS_R5.out.2 5 _ rfl, HS_R5.out.2 6 _ rfl, HS_R5.out.2 7 _ rfl, HS_R5.out.2 8 _ rfl, HS_R5.out.2 9 _ rfl⟩)
        clear hbd
        refine region_let (fun W9 : World => W9.cell? ⟨w.heap.size, 0, none⟩ = some (.int .i64 lim) ∧ W9.cell? ⟨w.heap.size, 1, none⟩ = some (.int .i64 start) ∧ W9.cell? ⟨w.heap.size, 2, none⟩ = some (.slice A4 n4 c4) ∧ W9.cell? ⟨b, o + k * 10, none⟩ = some (.int .i64 ba) ∧ W9.cell? ⟨b, o + k * 10 + 1, none⟩ = some (.int .i64 la) ∧ W9.cell? ⟨b, o + k * 10 + 2, none⟩ = some (.int .i64 fr) ∧ W9.cell? ⟨b, o + k * 10 + 3, none⟩ = some (.int .i64 ep) ∧ W9.cell? ⟨b, o + k * 10 + 4, none⟩ = some (.int .i64 pi) ∧ W9.cell? ⟨b, o + k * 10 + 5, none⟩ = some (.int .i64 ge) ∧ W9.cell? ⟨b, o + k * 10 + 6, none⟩ = some (.int .i64 se) ∧ W9.cell? ⟨b, o + k * 10 + 7, none⟩ = some (.bool tx) ∧ W9.cell? ⟨b, o + k * 10 + 8, none⟩ = some (.int .i64 ct) ∧ W9.cell? ⟨b, o + k * 10 + 9, none⟩ = some (.slice A5 n5 c5)) 99 12 hmx rfl fun ops Q HOPS HQ => ?_
        have HREG := reg_of HOPS tb_behind5 rfl (by kernel_rfl) (by kernel_rfl) (by decide)
        refine xq 0 HOPS HREG HSR5.out ?_; simp only [ls0, ls1]; refine xq 1 HOPS HREG HSR5.out ?_; simp only [ls0, ls1]; refine xq 2 HOPS HREG HSR5.out ?_; simp only [ls0, ls1]; refine xq 3 HOPS HREG HSR5.out ?_; simp only [ls0, ls1]; refine xq 4 HOPS HREG HSR5.out ?_; simp only [ls0, ls1]
        refine xc2 5 9 HOPS ?_ ?_
        · go_simp
          with_reducible refine (Append_is lim start A4 n4 c4 y ba la fr ep pi ge se tx ct rs A5 n5 c5 _ HG_R5.out HT_R5.out hc4 hn4' HF.out HRR_R5.out hc5 hn5 HAP.out).mono ?_
          rintro e wR5_1 ⟨A6, n6, c6, rfl, ho, hb⟩
          have HW_R5_1 := Lib.hid (bel_trans HW_R5.out hb)
          have HL_R5_1 := Lib.hid (HL_R5.out.below hb)
          have HZ_R5_1 := Lib.hid (HZ_R5.out.below hb)
          have HS_R5_1 := Lib.hid (HS_R5.out.below hb)
          have HG_R5_1 := Lib.hid (rdgUp HG_R5.out hb)
          have HT_R5_1 := Lib.hid (HT_R5.out.bel hb)
          have HRR_R5_1 := Lib.hid (rdrUp HRR_R5.out hb)
          have HBW_R5_1 := Lib.hid (bel_trans HBW_R5.out hb)
          have HO_R5_1 := Lib.hid (ho)
          clear ho
          have HSR5_2 := Lib.hid (show (fun W9 : World => W9.cell? ⟨w.heap.size, 0, none⟩ = some (.int .i64 lim) ∧ W9.cell? ⟨w.heap.size, 1, none⟩ = some (.int .i64 start) ∧ W9.cell? ⟨w.heap.size, 2, none⟩ = some (.slice A4 n4 c4) ∧ W9.cell? ⟨b, o + k * 10, none⟩ = some (.int .i64 ba) ∧ W9.cell? ⟨b, o + k * 10 + 1, none⟩ = some (.int .i64 la) ∧ W9.cell? ⟨b, o + k * 10 + 2, none⟩ = some (.int .i64 fr) ∧ W9.cell? ⟨b, o + k * 10 + 3, none⟩ = some (.int .i64 ep) ∧ W9.cell? ⟨b, o + k * 10 + 4, none⟩ = some (.int .i64 pi) ∧ W9.cell? ⟨b, o + k * 10 + 5, none⟩ = some (.int .i64 ge) ∧ W9.cell? ⟨b, o + k * 10 + 6, none⟩ = some (.int .i64 se) ∧ W9.cell? ⟨b, o + k * 10 + 7, none⟩ = some (.bool tx) ∧ W9.cell? ⟨b, o + k * 10 + 8, none⟩ = some (.int .i64 ct) ∧ W9.cell? ⟨b, o + k * 10 + 9, none⟩ = some (.slice A5 n5 c5)) wR5_1 from ⟨HL_R5_1.out.cell 0, HL_R5_1.out.cell 1, HL_R5_1.out.cell 2, HS_R5_1.out.2 0 _ rfl, HS_R5_1.out.2 1 _ rfl, HS_R5_1.out.2 2 _ rfl, HS_R5_1.out.2 3 _ rfl, HS_R5_1.out.2 4 _ rfl, HS_R5_1.out.2 5 _ rfl, HS_R5_1.out.2 6 _ rfl, HS_R5_1.out.2 7 _ rfl, HS_R5_1.out.2 8 _ rfl, HS_R5_1.out.2 9 _ rfl⟩)
          clear hb
          refine ⟨HSR5_2.out, ?_⟩
          refine xq 6 HOPS HREG HSR5_2.out ?_; simp only [ls0, ls1]; refine xq 7 HOPS HREG HSR5_2.out ?_; simp only [ls0, ls1]; refine xq 8 HOPS HREG HSR5_2.out ?_; simp only [ls0, ls1]
          refine xc 9 HOPS ?_
          go_simp
          have hb := belA wR5_1 (.cells #[.int .i64 0, .int .i64 0, .slice none 0 0] 24)
          have HW_R5_y3 := Lib.hid (bel_trans HW_R5_1.out hb)
          have HL_R5_y3 := Lib.hid (HL_R5_1.out.below hb)
          have HZ_R5_y3 := Lib.hid (HZ_R5_1.out.below hb)
          have HS_R5_y3 := Lib.hid (HS_R5_1.out.below hb)
          have HG_R5_y3 := Lib.hid (rdgUp HG_R5_1.out hb)
          have HT_R5_y3 := Lib.hid (HT_R5_1.out.bel hb)
          have HRR_R5_y3 := Lib.hid (rdrUp HRR_R5_1.out hb)
          have HBW_R5_y3 := Lib.hid (bel_trans HBW_R5_1.out hb)
          have HO_R5_y3 := Lib.hid (HO_R5_1.out.below hb)
          have HP_R5_y3 := Lib.hid (At0.new wR5_1 [.int .i64 0, .int .i64 0, .slice none 0 0] 24)
          have HSR5_4 := Lib.hid (show (fun W9 : World => W9.cell? ⟨w.heap.size, 0, none⟩ = some (.int .i64 lim) ∧ W9.cell? ⟨w.heap.size, 1, none⟩ = some (.int .i64 start) ∧ W9.cell? ⟨w.heap.size, 2, none⟩ = some (.slice A4 n4 c4) ∧ W9.cell? ⟨b, o + k * 10, none⟩ = some (.int .i64 ba) ∧ W9.cell? ⟨b, o + k * 10 + 1, none⟩ = some (.int .i64 la) ∧ W9.cell? ⟨b, o + k * 10 + 2, none⟩ = some (.int .i64 fr) ∧ W9.cell? ⟨b, o + k * 10 + 3, none⟩ = some (.int .i64 ep) ∧ W9.cell? ⟨b, o + k * 10 + 4, none⟩ = some (.int .i64 pi) ∧ W9.cell? ⟨b, o + k * 10 + 5, none⟩ = some (.int .i64 ge) ∧ W9.cell? ⟨b, o + k * 10 + 6, none⟩ = some (.int .i64 se) ∧ W9.cell? ⟨b, o + k * 10 + 7, none⟩ = some (.bool tx) ∧ W9.cell? ⟨b, o + k * 10 + 8, none⟩ = some (.int .i64 ct) ∧ W9.cell? ⟨b, o + k * 10 + 9, none⟩ = some (.slice A5 n5 c5)) (wR5_1.alloc (.cells #[.int .i64 0, .int .i64 0, .slice none 0 0] 24)) from ⟨HL_R5_y3.out.cell 0, HL_R5_y3.out.cell 1, HL_R5_y3.out.cell 2, HS_R5_y3.out.2 0 _ rfl, HS_R5_y3.out.2 1 _ rfl, HS_R5_y3.out.2 2 _ rfl, HS_R5_y3.out.2 3 _ rfl, HS_R5_y3.out.2 4 _ rfl, HS_R5_y3.out.2 5 _ rfl, HS_R5_y3.out.2 6 _ rfl, HS_R5_y3.out.2 7 _ rfl, HS_R5_y3.out.2 8 _ rfl, HS_R5_y3.out.2 9 _ rfl⟩)
          clear hb
          refine ⟨by exact HSR5_4.out, ?_⟩
          refine xc 10 HOPS ?_
          go_simp
          have hb := belA wR5_1 (.cells #[.int .i64 yl, .int .i64 ys, .slice A6 n6 c6] 24)
          have HW_R5_x5 := Lib.hid (bel_trans HW_R5_1.out hb)
          have HL_R5_x5 := Lib.hid (HL_R5_1.out.below hb)
          have HZ_R5_x5 := Lib.hid (HZ_R5_1.out.below hb)
          have HS_R5_x5 := Lib.hid (HS_R5_1.out.below hb)
          have HG_R5_x5 := Lib.hid (rdgUp HG_R5_1.out hb)
          have HT_R5_x5 := Lib.hid (HT_R5_1.out.bel hb)
          have HRR_R5_x5 := Lib.hid (rdrUp HRR_R5_1.out hb)
          have HBW_R5_x5 := Lib.hid (bel_trans HBW_R5_1.out hb)
          have HO_R5_x5 := Lib.hid (HO_R5_1.out.below hb)
          have HP_R5_x5 := Lib.hid (At0.new wR5_1 [.int .i64 yl, .int .i64 ys, .slice A6 n6 c6] 24)
          have HSR5_6 := Lib.hid (show (fun W9 : World => W9.cell? ⟨w.heap.size, 0, none⟩ = some (.int .i64 lim) ∧ W9.cell? ⟨w.heap.size, 1, none⟩ = some (.int .i64 start) ∧ W9.cell? ⟨w.heap.size, 2, none⟩ = some (.slice A4 n4 c4) ∧ W9.cell? ⟨b, o + k * 10, none⟩ = some (.int .i64 ba) ∧ W9.cell? ⟨b, o + k * 10 + 1, none⟩ = some (.int .i64 la) ∧ W9.cell? ⟨b, o + k * 10 + 2, none⟩ = some (.int .i64 fr) ∧ W9.cell? ⟨b, o + k * 10 + 3, none⟩ = some (.int .i64 ep) ∧ W9.cell? ⟨b, o + k * 10 + 4, none⟩ = some (.int .i64 pi) ∧ W9.cell? ⟨b, o + k * 10 + 5, none⟩ = some (.int .i64 ge) ∧ W9.cell? ⟨b, o + k * 10 + 6, none⟩ = some (.int .i64 se) ∧ W9.cell? ⟨b, o + k * 10 + 7, none⟩ = some (.bool tx) ∧ W9.cell? ⟨b, o + k * 10 + 8, none⟩ = some (.int .i64 ct) ∧ W9.cell? ⟨b, o + k * 10 + 9, none⟩ = some (.slice A5 n5 c5)) (wR5_1.alloc (.cells #[.int .i64 yl, .int .i64 ys, .slice A6 n6 c6] 24)) from ⟨HL_R5_x5.out.cell 0, HL_R5_x5.out.cell 1, HL_R5_x5.out.cell 2, HS_R5_x5.out.2 0 _ rfl, HS_R5_x5.out.2 1 _ rfl, HS_R5_x5.out.2 2 _ rfl, HS_R5_x5.out.2 3 _ rfl, HS_R5_x5.out.2 4 _ rfl, HS_R5_x5.out.2 5 _ rfl, HS_R5_x5.out.2 6 _ rfl, HS_R5_x5.out.2 7 _ rfl, HS_R5_x5.out.2 8 _ rfl, HS_R5_x5.out.2 9 _ rfl⟩)
          clear hb
          refine ⟨HSR5_6.out, ?_⟩
          refine xq 11 HOPS HREG HSR5_6.out ?_; simp only [ls0, ls1]
          refine stepE HOPS (by kernel_rfl) (HQ.out _ _ ?_)
          clear HQ HREG HOPS
          clear Q ops
          go_wp2
          go_meet
          exact ⟨wR5_1.heap.size, A6, n6, c6, rfl, rfl, HP_R5_x5.out, OwnG.more HO_R5_x5.out (Nat.le_refl _) (fun b hb => Nat.le_trans (Nat.le_refl _) hb), HBW_R5_x5.out⟩
        · go_simp
          have hb := (show Below wr.heap.size wr (wr.alloc (.cells #[.int .i64 0, .int .i64 0, .slice none 0 0] 24)).drew from (belA _ _).drew)
          have HW_R5_z7 := Lib.hid (bel_trans HW_r.out hb)
          have HL_R5_z7 := Lib.hid (HL_r.out.below hb)
          have HZ_R5_z7 := Lib.hid (HZ_r.out.below hb)
          have HS_R5_z7 := Lib.hid (HS_r.out.below hb)
          have HG_R5_z7 := Lib.hid (rdgUp HG_r.out hb)
          have HT_R5_z7 := Lib.hid (HT_r.out.bel hb)
          have HRR_R5_z7 := Lib.hid (rdrUp HRR_r.out hb)
          have HBW_R5_z7 := Lib.hid (bel_trans HBW_r.out hb)
          have HP_R5_z7 := Lib.hid (show At0 (wr.alloc (.cells #[.int .i64 0, .int .i64 0, .slice none 0 0] 24)).drew wr.heap.size [.int .i64 0, .int .i64 0, .slice none 0 0] 24 from At0.new wr _ _)
          have HSR5_8 := Lib.hid (show (fun W9 : World => W9.cell? ⟨w.heap.size, 0, none⟩ = some (.int .i64 lim) ∧ W9.cell? ⟨w.heap.size, 1, none⟩ = some (.int .i64 start) ∧ W9.cell? ⟨w.heap.size, 2, none⟩ = some (.slice A4 n4 c4) ∧ W9.cell? ⟨b, o + k * 10, none⟩ = some (.int .i64 ba) ∧ W9.cell? ⟨b, o + k * 10 + 1, none⟩ = some (.int .i64 la) ∧ W9.cell? ⟨b, o + k * 10 + 2, none⟩ = some (.int .i64 fr) ∧ W9.cell? ⟨b, o + k * 10 + 3, none⟩ = some (.int .i64 ep) ∧ W9.cell? ⟨b, o + k * 10 + 4, none⟩ = some (.int .i64 pi) ∧ W9.cell? ⟨b, o + k * 10 + 5, none⟩ = some (.int .i64 ge) ∧ W9.cell? ⟨b, o + k * 10 + 6, none⟩ = some (.int .i64 se) ∧ W9.cell? ⟨b, o + k * 10 + 7, none⟩ = some (.bool tx) ∧ W9.cell? ⟨b, o + k * 10 + 8, none⟩ = some (.int .i64 ct) ∧ W9.cell? ⟨b, o + k * 10 + 9, none⟩ = some (.slice A5 n5 c5)) (wr.alloc (.cells #[.int .i64 0, .int .i64 0, .slice none 0 0] 24)).drew from ⟨HL_R5_z7.out.cell 0, HL_R5_z7.out.cell 1, HL_R5_z7.out.cell 2, HS_R5_z7.out.2 0 _ rfl, HS_R5_z7.out.2 1 _ rfl, HS_R5_z7.out.2 2 _ rfl, HS_R5_z7.out.2 3 _ rfl, HS_R5_z7.out.2 4 _ rfl, HS_R5_z7.out.2 5 _ rfl, HS_R5_z7.out.2 6 _ rfl, HS_R5_z7.out.2 7 _ rfl, HS_R5_z7.out.2 8 _ rfl, HS_R5_z7.out.2 9 _ rfl⟩)
          clear hb
          refine ⟨by exact HSR5_8.out, ?_⟩
          refine xc 5 HOPS ?_
          go_simp
          with_reducible refine (Append_is lim start A4 n4 c4 y ba la fr ep pi ge se tx ct rs A5 n5 c5 _ HG_R5_z7.out HT_R5_z7.out hc4 hn4' HF.out HRR_R5_z7.out hc5 hn5 HAP.out).mono ?_
          rintro e wR5_9 ⟨A6, n6, c6, rfl, ho, hb⟩
          have HW_R5_9 := Lib.hid (bel_trans HW_R5_z7.out hb)
          have HL_R5_9 := Lib.hid (HL_R5_z7.out.below hb)
          have HZ_R5_9 := Lib.hid (HZ_R5_z7.out.below hb)
          have HS_R5_9 := Lib.hid (HS_R5_z7.out.below hb)
          have HG_R5_9 := Lib.hid (rdgUp HG_R5_z7.out hb)
          have HT_R5_9 := Lib.hid (HT_R5_z7.out.bel hb)
          have HRR_R5_9 := Lib.hid (rdrUp HRR_R5_z7.out hb)
          have HBW_R5_9 := Lib.hid (bel_trans HBW_R5_z7.out hb)
          have HP_R5_9 := Lib.hid (HP_R5_z7.out.below hb)
          have HO_R5_9 := Lib.hid (ho)
          clear ho
          have HSR5_10 := Lib.hid (show (fun W9 : World => W9.cell? ⟨w.heap.size, 0, none⟩ = some (.int .i64 lim) ∧ W9.cell? ⟨w.heap.size, 1, none⟩ = some (.int .i64 start) ∧ W9.cell? ⟨w.heap.size, 2, none⟩ = some (.slice A4 n4 c4) ∧ W9.cell? ⟨b, o + k * 10, none⟩ = some (.int .i64 ba) ∧ W9.cell? ⟨b, o + k * 10 + 1, none⟩ = some (.int .i64 la) ∧ W9.cell? ⟨b, o + k * 10 + 2, none⟩ = some (.int .i64 fr) ∧ W9.cell? ⟨b, o + k * 10 + 3, none⟩ = some (.int .i64 ep) ∧ W9.cell? ⟨b, o + k * 10 + 4, none⟩ = some (.int .i64 pi) ∧ W9.cell? ⟨b, o + k * 10 + 5, none⟩ = some (.int .i64 ge) ∧ W9.cell? ⟨b, o + k * 10 + 6, none⟩ = some (.int .i64 se) ∧ W9.cell? ⟨b, o + k * 10 + 7, none⟩ = some (.bool tx) ∧ W9.cell? ⟨b, o + k * 10 + 8, none⟩ = some (.int .i64 ct) ∧ W9.cell? ⟨b, o + k * 10 + 9, none⟩ = some (.slice A5 n5 c5)) wR5_9 from ⟨HL_R5_9.out.cell 0, HL_R5_9.out.cell 1, HL_R5_9.out.cell 2, HS_R5_9.out.2 0 _ rfl, HS_R5_9.out.2 1 _ rfl, HS_R5_9.out.2 2 _ rfl, HS_R5_9.out.2 3 _ rfl, HS_R5_9.out.2 4 _ rfl, HS_R5_9.out.2 5 _ rfl, HS_R5_9.out.2 6 _ rfl, HS_R5_9.out.2 7 _ rfl, HS_R5_9.out.2 8 _ rfl, HS_R5_9.out.2 9 _ rfl⟩)
          clear hb
          refine ⟨HSR5_10.out, ?_⟩
          refine xq 6 HOPS HREG HSR5_10.out ?_; simp only [ls0, ls1]; refine xq 7 HOPS HREG HSR5_10.out ?_; simp only [ls0, ls1]; refine xq 8 HOPS HREG HSR5_10.out ?_; simp only [ls0, ls1]
          refine xc 10 HOPS ?_
          have hp := HP_R5_9.out
          have hpl := hp.lt
          have hp0 := hp.cell 0
          have hp1 := hp.cell 1
          have hp2 := hp.cell 2
          have hpf0 := hp.frozen 0
          have hpf1 := hp.frozen 1
          have hpf2 := hp.frozen 2
          simp only [List.getElem?_cons_zero, List.getElem?_cons_succ] at hp0 hp1 hp2
          go_simp
          have hblHL := HL_r.out.lt
          have hblHS := HS_r.out.1
          obtain ⟨hlB11_0, hlB11_1, hlB11_2⟩ := cel3 HL_R5_9.out
          have hsB11_0 : wR5_9.cell? ⟨b, o + k * 10, none⟩ = some (.int .i64 ba) := HS_R5_9.out.2 0 _ rfl
          have hsB11_1 : wR5_9.cell? ⟨b, o + k * 10 + 1, none⟩ = some (.int .i64 la) := HS_R5_9.out.2 1 _ rfl
          have hsB11_2 : wR5_9.cell? ⟨b, o + k * 10 + 2, none⟩ = some (.int .i64 fr) := HS_R5_9.out.2 2 _ rfl
          have hsB11_3 : wR5_9.cell? ⟨b, o + k * 10 + 3, none⟩ = some (.int .i64 ep) := HS_R5_9.out.2 3 _ rfl
          have hsB11_4 : wR5_9.cell? ⟨b, o + k * 10 + 4, none⟩ = some (.int .i64 pi) := HS_R5_9.out.2 4 _ rfl
          have hsB11_5 : wR5_9.cell? ⟨b, o + k * 10 + 5, none⟩ = some (.int .i64 ge) := HS_R5_9.out.2 5 _ rfl
          have hsB11_6 : wR5_9.cell? ⟨b, o + k * 10 + 6, none⟩ = some (.int .i64 se) := HS_R5_9.out.2 6 _ rfl
          have hsB11_7 : wR5_9.cell? ⟨b, o + k * 10 + 7, none⟩ = some (.bool tx) := HS_R5_9.out.2 7 _ rfl
          have hsB11_8 : wR5_9.cell? ⟨b, o + k * 10 + 8, none⟩ = some (.int .i64 ct) := HS_R5_9.out.2 8 _ rfl
          have hsB11_9 : wR5_9.cell? ⟨b, o + k * 10 + 9, none⟩ = some (.slice A5 n5 c5) := HS_R5_9.out.2 9 _ rfl
          have HSR5_12 := Lib.hid (show (fun W9 : World => W9.cell? ⟨w.heap.size, 0, none⟩ = some (.int .i64 lim) ∧ W9.cell? ⟨w.heap.size, 1, none⟩ = some (.int .i64 start) ∧ W9.cell? ⟨w.heap.size, 2, none⟩ = some (.slice A4 n4 c4) ∧ W9.cell? ⟨b, o + k * 10, none⟩ = some (.int .i64 ba) ∧ W9.cell? ⟨b, o + k * 10 + 1, none⟩ = some (.int .i64 la) ∧ W9.cell? ⟨b, o + k * 10 + 2, none⟩ = some (.int .i64 fr) ∧ W9.cell? ⟨b, o + k * 10 + 3, none⟩ = some (.int .i64 ep) ∧ W9.cell? ⟨b, o + k * 10 + 4, none⟩ = some (.int .i64 pi) ∧ W9.cell? ⟨b, o + k * 10 + 5, none⟩ = some (.int .i64 ge) ∧ W9.cell? ⟨b, o + k * 10 + 6, none⟩ = some (.int .i64 se) ∧ W9.cell? ⟨b, o + k * 10 + 7, none⟩ = some (.bool tx) ∧ W9.cell? ⟨b, o + k * 10 + 8, none⟩ = some (.int .i64 ct) ∧ W9.cell? ⟨b, o + k * 10 + 9, none⟩ = some (.slice A5 n5 c5)) (((wR5_9.setCell ⟨wr.heap.size, 0, none⟩ (.int .i64 yl)).setCell ⟨wr.heap.size, 1, none⟩ (.int .i64 ys)).setCell ⟨wr.heap.size, 2, none⟩ (.slice A6 n6 c6)) from ⟨(cell_off (by simp only; omega)).trans ((cell_off (by simp only; omega)).trans ((cell_off (by simp only; omega)).trans (HL_R5_9.out.cell 0))), (cell_off (by simp only; omega)).trans ((cell_off (by simp only; omega)).trans ((cell_off (by simp only; omega)).trans (HL_R5_9.out.cell 1))), (cell_off (by simp only; omega)).trans ((cell_off (by simp only; omega)).trans ((cell_off (by simp only; omega)).trans (HL_R5_9.out.cell 2))), (cell_off (by simp only; omega)).trans ((cell_off (by simp only; omega)).trans ((cell_off (by simp only; omega)).trans (HS_R5_9.out.2 0 _ rfl))), (cell_off (by simp only; omega)).trans ((cell_off (by simp only; omega)).trans ((cell_off (by simp only; omega)).trans (HS_R5_9.out.2 1 _ rfl))), (cell_off (by simp only; omega)).trans ((cell_off (by simp only; omega)).trans ((cell_off (by simp only; omega)).trans (HS_R5_9.out.2 2 _ rfl))), (cell_off (by simp only; omega)).trans ((cell_off (by simp only; omega)).trans ((cell_off (by simp only; omega)).trans (HS_R5_9.out.2 3 _ rfl))), (cell_off (by simp only; omega)).trans ((cell_off (by simp only; omega)).trans ((cell_off (by simp only; omega)).trans (HS_R5_9.out.2 4 _ rfl))), (cell_off (by simp only; omega)).trans ((cell_off (by simp only; omega)).trans ((cell_off (by simp only; omega)).trans (HS_R5_9.out.2 5 _ rfl))), (cell_off (by simp only; omega)).trans ((cell_off (by simp only; omega)).trans ((cell_off (by simp only; omega)).trans (HS_R5_9.out.2 6 _ rfl))), (cell_off (by simp only; omega)).trans ((cell_off (by simp only; omega)).trans ((cell_off (by simp only; omega)).trans (HS_R5_9.out.2 7 _ rfl))), (cell_off (by simp only; omega)).trans ((cell_off (by simp only; omega)).trans ((cell_off (by simp only; omega)).trans (HS_R5_9.out.2 8 _ rfl))), (cell_off (by simp only; omega)).trans ((cell_off (by simp only; omega)).trans ((cell_off (by simp only; omega)).trans (HS_R5_9.out.2 9 _ rfl)))⟩)
          refine ⟨by (repeat' apply And.intro) <;> first | assumption | exact (cell_off (by simp only; omega)).trans (by assumption) | exact (cell_off (by simp only; omega)).trans ((cell_off (by simp only; omega)).trans (by assumption)) | exact (cell_off (by simp only; omega)).trans ((cell_off (by simp only; omega)).trans ((cell_off (by simp only; omega)).trans (by assumption))), ?_⟩
          clear hlB11_0 hlB11_1 hlB11_2 hsB11_0 hsB11_1 hsB11_2 hsB11_3 hsB11_4 hsB11_5 hsB11_6 hsB11_7 hsB11_8 hsB11_9
          refine xq 11 HOPS HREG HSR5_12.out ?_; simp only [ls0, ls1]
          refine stepE HOPS (by kernel_rfl) (HQ.out _ _ ?_)
          clear HQ HREG HOPS
          clear Q ops
          go_wp2
          go_meet
          exact ⟨wr.heap.size, A6, n6, c6, rfl, rfl, put3 HP_R5_9.out _ _ _, OwnG.more (OwnG.off3 HO_R5_9.out (g := wr.heap.size) HP_R5_z7.out.lt _ _ _) (Nat.le_of_lt HP_R5_z7.out.lt) (fun b hb => Nat.le_trans (Nat.le_of_lt HP_R5_z7.out.lt) hb), bel3 HBW_R5_9.out (Nat.le_refl _) _ _ _⟩
      case rest =>
        obtain ⟨P, A6, n6, c6, rfl, rfl, hbx, ho, hb⟩ := hcut
        rename World => w5
        have HP_5 := Lib.hid hbx
        have HO5 := Lib.hid ho
        have HB5 := Lib.hid hb
        have HM5 := Lib.hid (Nat.le_trans HM.out hb.size)
        have HW_5 := Lib.hid (bel_trans HW_r.out hb)
        have HL_5 := Lib.hid (HL_r.out.below hb)
        have HZ_5 := Lib.hid (HZ_r.out.below hb)
        have HS_5 := Lib.hid (HS_r.out.below hb)
        have HO2_5 := Lib.hid (HO_r.out.below hb)
        clear hbx ho hb
        by_cases he : e = 0
        · subst he
          have hcq : ((0 : Int) == 0) = true := rfl
          obtain ⟨hq1, hq2, hq3⟩ := apL_more HAP.out
          simp only at hq1 hq2 hq3
          obtain rfl : lim = yl := hq1.symm
          obtain rfl : start = ys := hq2.symm
          have HQ3 := Lib.hid hq3
          clear hq3
          have hlL := HL_5.out.lt
          obtain ⟨hl5_0, hl5_1, hl5_2⟩ := cel3 HL_5.out
          obtain ⟨fhl5_0, fhl5_1, fhl5_2⟩ := frz3 HL_5.out
          obtain ⟨hp5_0, hp5_1, hp5_2⟩ := cel3 HP_5.out
          go_upto_region 8 with fail
          have HW_6 := Lib.hid (bel3 HW_5.out (Nat.le_refl _) (.int .i64 lim) (.int .i64 start) (.slice A6 n6 c6))
          have HL_6 := Lib.hid (put3 HL_5.out (.int .i64 lim) (.int .i64 start) (.slice A6 n6 c6))
          have HZ_6 := Lib.hid (at0_off3 HZ_5.out (g := w.heap.size) (by omega) (.int .i64 lim) (.int .i64 start) (.slice A6 n6 c6))
          have HFR6 := Lib.hid (show Far (bhX w.heap.size (.slice A2 n2 c2)) (((w5.setCell ⟨w.heap.size, 0, none⟩ (.int .i64 lim)).setCell ⟨w.heap.size, 1, none⟩ (.int .i64 start)).setCell ⟨w.heap.size, 2, none⟩ (.slice A6 n6 c6)) w5.heap.size A6 n6 z from (((Far.own (X := bhX w.heap.size (.slice A2 n2 c2)) HO5.out (fun b h9 => by rcases h9 with h9 | h9; (have := HM.out; omega); exact (OwnT.lt HO_r.out b h9).2)).off (p := ⟨w.heap.size, 0, none⟩) (.inl ⟨Nat.le_refl _, by simp⟩) _).off (p := ⟨w.heap.size, 1, none⟩) (.inl ⟨Nat.le_refl _, by simp⟩) _).off (p := ⟨w.heap.size, 2, none⟩) (.inl ⟨Nat.le_refl _, by simp⟩) _)
          have HO2_6 := Lib.hid (ownT_off3 HO2_5.out (g := w.heap.size) (by omega) (fun b (h9 : b < w.heap.size) => by omega) (.int .i64 lim) (.int .i64 start) (.slice A6 n6 c6))
          have HS_6 := Lib.hid (show AtO (((w5.setCell ⟨w.heap.size, 0, none⟩ (.int .i64 lim)).setCell ⟨w.heap.size, 1, none⟩ (.int .i64 start)).setCell ⟨w.heap.size, 2, none⟩ (.slice A6 n6 c6)) b (o + k * 10) [.int .i64 ba, .int .i64 la, .int .i64 fr, .int .i64 ep, .int .i64 pi, .int .i64 ge, .int .i64 se, .bool tx, .int .i64 ct, .slice A5 n5 c5] from ato_off3 HS_5.out (by omega) _ _ _)
          have HBR6 := Lib.hid (show Below w.heap.size wr (((w5.setCell ⟨w.heap.size, 0, none⟩ (.int .i64 lim)).setCell ⟨w.heap.size, 1, none⟩ (.int .i64 start)).setCell ⟨w.heap.size, 2, none⟩ (.slice A6 n6 c6)) from (((HB5.out.mono HW_r.out.size).setCell (Nat.le_refl _) _).setCell (Nat.le_refl _) _).setCell (Nat.le_refl _) _)
          have hsz6 : (((w5.setCell ⟨w.heap.size, 0, none⟩ (.int .i64 lim)).setCell ⟨w.heap.size, 1, none⟩ (.int .i64 start)).setCell ⟨w.heap.size, 2, none⟩ (.slice A6 n6 c6)).heap.size = w5.heap.size := by simp
          clear hl5_0 hl5_1 hl5_2 fhl5_0 fhl5_1 fhl5_2 hp5_0 hp5_1 hp5_2
          generalize (((w5.setCell ⟨w.heap.size, 0, none⟩ (.int .i64 lim)).setCell ⟨w.heap.size, 1, none⟩ (.int .i64 start)).setCell ⟨w.heap.size, 2, none⟩ (.slice A6 n6 c6)) = w6 at HW_6 HL_6 HZ_6 HFR6 HO2_6 HS_6 HBR6 hsz6 ⊢
          have HM6 := Lib.hid (show w.heap.size + 2 ≤ w6.heap.size by rw [hsz6]; exact HM5.out)
          rw [← hsz6] at HFR6
          have hB6 : b < w6.heap.size := HS_6.out.1
          clear hsz6
          have hs6_0 : w6.cell? ⟨b, o + k * 10, none⟩ = some (.int .i64 ba) := HS_6.out.2 0 _ rfl
          have hs6_1 : w6.cell? ⟨b, o + k * 10 + 1, none⟩ = some (.int .i64 la) := HS_6.out.2 1 _ rfl
          have hs6_2 : w6.cell? ⟨b, o + k * 10 + 2, none⟩ = some (.int .i64 fr) := HS_6.out.2 2 _ rfl
          have hs6_3 : w6.cell? ⟨b, o + k * 10 + 3, none⟩ = some (.int .i64 ep) := HS_6.out.2 3 _ rfl
          have hs6_4 : w6.cell? ⟨b, o + k * 10 + 4, none⟩ = some (.int .i64 pi) := HS_6.out.2 4 _ rfl
          have hs6_5 : w6.cell? ⟨b, o + k * 10 + 5, none⟩ = some (.int .i64 ge) := HS_6.out.2 5 _ rfl
          have hs6_6 : w6.cell? ⟨b, o + k * 10 + 6, none⟩ = some (.int .i64 se) := HS_6.out.2 6 _ rfl
          have hs6_7 : w6.cell? ⟨b, o + k * 10 + 7, none⟩ = some (.bool tx) := HS_6.out.2 7 _ rfl
          have hs6_8 : w6.cell? ⟨b, o + k * 10 + 8, none⟩ = some (.int .i64 ct) := HS_6.out.2 8 _ rfl
          have hs6_9 : w6.cell? ⟨b, o + k * 10 + 9, none⟩ = some (.slice A5 n5 c5) := HS_6.out.2 9 _ rfl
          have HLD := Lib.hid (lead_rd (w := w6) (c := c5) (row := (Value.slice A2 n2 c2).ownBlock) (HRB.out.below HBR6.out (Nat.le_refl _)) HW_6.out.size hc5 hn5 HF.out (fun g hg => by have := (OwnT.lt HO_r.out g hg).1; omega))
          obtain ⟨A8, c8, w8, hrun, ho8, hg8, hat8, hb8⟩ := run_appT (P := Tryz.prog) (w := w6) (w.heap.size + 2) 33 33 39 Tryz.underlying33 batInfo HO2_6.out (x := (⟨ba, la, fr, ep, pi, ge, se, tx, ct, rs⟩, A5, n5, c5)) HLD.out (by omega) HM6.out
          dsimp only [batC] at hrun hg8
          have HO8 := Lib.hid ho8
          have HL8 := Lib.hid (At0.kept9 (HL_6.out.alloc _) hg8 (fun h9 => by have := (OwnT.lt HO2_6.out _ h9).1; omega))
          have HZ8 := Lib.hid (At0.kept9 (HZ_6.out.alloc _) hg8 (fun h9 => by have := (OwnT.lt HO2_6.out _ h9).1; omega))
          have HF8 := Lib.hid (show Far (bhX w.heap.size (.slice A8 (n2 + 1) c8)) w8 w6.heap.size A6 n6 z from ((HFR6.out.below (belA w6 _) (Nat.le_refl _)).grown hg8 (by simp) (fun g hg => .inr hg)).new (fun b h9 => by rcases h9 with h9 | h9; exact .inl (.inl h9); (rcases hat8 with h7 | h7; exact .inl (.inr (h7 ▸ h9)); (rw [h7] at h9; injection h9 with h9; exact .inr (by omega)))))
          have HB8 := Lib.hid (HW_6.out.trans (hb8.mono (by omega)))
          have HS8 := Lib.hid (show w6.heap.size ≤ w8.heap.size by have h9 := hg8.size; simp at h9; omega)
          have HST2 := Lib.hid (show behindL ⟨lim, start, l⟩ bs = ((behindL ⟨lim, start, z⟩ (bs.drop (k + 1))).1, (vs ++ [⟨ba, la, fr, ep, pi, ge, se, tx, ct, rs⟩]) ++ (behindL ⟨lim, start, z⟩ (bs.drop (k + 1))).2) by rw [HBH.out, HST.out, HAP.out, if_pos rfl, List.append_assoc]; rfl)
          have HLZ := Lib.hid (show n6 ≤ n4 + 1 by have h1 := HO5.out.len; have h2 := HG_r.out.len; have h3 := HQ3.out; omega)
          have hcp6 := OwnG.cap HO5.out
          clear ho8 hg8 hat8 hb8
          go_wp2_with (at_builtin; refine wpList_app_run rfl _ _ 33 rfl rfl rfl hrun ?_)
          go_roundw
          case rel => exact ⟨k + 1, A6, n6, c6, z, A8, n2 + 1, c8, _, rfl, by go_num, by omega, by omega, hcp6, by have := HLZ.out; omega, HST2.out, HL8.out, HZ8.out, HF8.out.more HS8.out, HO8.out, HB8.out⟩
          case measure => simp [intOf]; omega
        · have hcq : (e == 0) = false := beqF he
          have HST2 := Lib.hid (show behindL ⟨lim, start, l⟩ bs = ((behindL ⟨lim, start, y⟩ (bs.drop (k + 1))).1, vs ++ (behindL ⟨lim, start, y⟩ (bs.drop (k + 1))).2) by rw [HBH.out, HST.out, HAP.out, if_neg he])
          have HF5 := Lib.hid ((HFR.out.below HB5.out (Nat.le_refl _)).more HB5.out.size)
          clear he
          go_wp2
          go_roundw
          case rel => exact ⟨k + 1, A4, n4, c4, y, A2, n2, c2, vs, rfl, by go_num, by omega, by omega, hc4, by omega, HST2.out, HL_5.out, HZ_5.out, HF5.out, HO2_5.out, HW_5.out⟩
          case measure => simp [intOf]; omega
    · obtain rfl : k = n1 := by omega
      have hdn : bs.drop k = [] := List.drop_of_length_le (by rw [HLEN.out]; exact Nat.le_refl _)
      have hend := HBH.out
      rw [hdn] at hend
      have he2 := HH.out.symm.trans hend
      unfold behindL at he2
      simp only [List.append_nil, Prod.mk.injEq, Lg.mk.injEq] at he2
      obtain ⟨⟨rfl, rfl, rfl⟩, rfl⟩ := he2
      obtain ⟨l0, l1, l2⟩ := cel3 HL_r.out
      obtain ⟨z0, z1, z2⟩ := cel3 HZ_r.out
      obtain ⟨fz0, fz1, fz2⟩ := frz3 HZ_r.out
      have HRE := Lib.hid ((((HFR.out.off (p := ⟨w.heap.size + 1, 0, none⟩) (.inl ⟨by simp, by simp⟩) (.int .i64 xl)).off (p := ⟨w.heap.size + 1, 1, none⟩) (.inl ⟨by simp, by simp⟩) (.int .i64 xs)).off (p := ⟨w.heap.size + 1, 2, none⟩) (.inl ⟨by simp, by simp⟩) (.slice A4 n4 c4)).rd)
      have HOE := Lib.hid (ownT_off3 HO_r.out (g := w.heap.size + 1) (by omega) (fun b (h9 : b < w.heap.size) => by omega) (.int .i64 xl) (.int .i64 xs) (.slice A4 n4 c4))
      have HWE := Lib.hid (bel3 HW_r.out (g := w.heap.size + 1) (by omega) (.int .i64 xl) (.int .i64 xs) (.slice A4 n4 c4))
      clear hend hdn
      go_wp2
      exact bodyPost_ret (v := .tuple #[.agg #[.int .i64 xl, .int .i64 xs, .slice A4 n4 c4], .slice A2 n2 c2]) (by simp [results, Tryz.results38, go_sem, z0, z1, z2]) rfl ⟨A4, n4, c4, A2, n2, c2, rfl, hc4, hn4, HRE.out.more (by simp), HOE.out.more (by omega) (fun _ h => h), HWE.out⟩
end Go.Proofs.YtejcjmiofidedaaGreatDoor.Chn

/- The laws' own bytes, from and among. -/
namespace Go.Proofs.YtejcjmiofidedaaGreatDoor.Chn
open Go.RowKit Oct Rec Crc Bat Lay Seg RowF InR

def byRel9 (l : List Sg) (n : Nat) (w : World) (nv iv : Value) (wr : World) : Prop := ∃ k m : Nat, nv = .int .i64 (m : Int) ∧ iv = .int .i64 (k : Int) ∧ (m : Int) = bytesL (l.take k) ∧ m ≤ k * 1000000 ∧ k ≤ n ∧ w = wr
set_option maxRecDepth 100000 in
set_option maxHeartbeats 8000000 in
theorem bytes9_is (lim start : Int) (A : Option Addr) (n c : Nat) (l : List Sg) (w : World) (hr : RdG w w.heap.size A n l) (hn : n ≤ 1000000) {Z : Int} (hz : bytesL l = Z) :
    Calls Tryz.prog 79 #[.agg #[.int .i64 lim, .int .i64 start, .slice A n c]] w fun e w' => e = .returned (.int .i64 Z) ∧ Below w.heap.size w w' := by
  have hba := belA w (.cells #[.int .i64 lim, .int .i64 start, .slice A n c] 24)
  have HL := Lib.hid (At0.new w [.int .i64 lim, .int .i64 start, .slice A n c] 24)
  have HR := Lib.hid (rdgUp hr hba)
  have HW := Lib.hid hba
  have HLEN := Lib.hid hr.len
  obtain ⟨l0, l1, l2⟩ := cel3 HL.out
  subst hz
  clear hr hba
  go_enter Tryz.func79, Tryz.ntmps79
  go_wp2
  generalize (w.alloc (.cells #[.int .i64 lim, .int .i64 start, .slice A n c] 24)) = W at *
  go_loopw [3, 4] (fun nv iv wr => byRel9 l n W nv iv wr) (fun _ iv _ => n - (intOf iv).toNat)
  case atStart => exact ⟨0, 0, rfl, rfl, rfl, Nat.zero_le _, Nat.zero_le _, rfl⟩
  case round =>
    obtain ⟨k, m, rfl, rfl, hm, hm2, hk, rfl⟩ := hrel
    have HM := Lib.hid hm
    clear hm
    by_cases hlt : k < n
    · obtain ⟨b, o, x, A1, n1, c1, rfl, hbl, hxk, hc1, hn1, hrd, hI, d0, d1⟩ := HR.out.at hlt
      have HX := Lib.hid hxk
      have HXL := Lib.hid hrd.len
      have hn1' : n1 ≤ 1000000 := hn1
      have hw1 : IntKind.i64.wrap ((k : Int) + 1) = (k : Int) + 1 := IntWalk.i64_in _ (by omega)
      have hw2 : IntKind.i64.wrap ((m : Int) + (n1 : Int)) = (m : Int) + (n1 : Int) := IntWalk.i64_in _ (by omega)
      have hkl : (k : Int) < (n : Int) := by omega
      have hk0 : (0 : Int) ≤ (k : Int) := by omega
      clear hxk hrd hI d0 hn1
      go_wp2
      go_roundw
      case rel =>
        refine ⟨k + 1, m + n1, by go_num, by go_num, ?_, by omega, by omega, rfl⟩
        rw [List.take_add_one, HX.out, Option.toList_some, bytesL_one, ← HM.out, HXL.out]
        omega
      case measure => simp [intOf]; omega
    · obtain rfl : k = n := by omega
      have hmm := HM.out
      rw [List.take_of_length_le (by rw [HLEN.out]; exact Nat.le_refl _)] at hmm
      have HMM := Lib.hid hmm
      clear hmm
      go_wp2
      exact bodyPost_ret (v := .int .i64 (m : Int)) (by simp [results, Tryz.results79, go_sem]) rfl ⟨by rw [HMM.out], HW.out⟩
def tb_among4 : List (Nat × Nat) := [(0, 255), (0, 255), (3, 252), (4, 251), (8, 247), (0, 255), (32, 223), (80, 175)]
def At1' (W : World) (g o : Nat) (u : Value) : Prop := g < W.heap.size ∧ W.cell? ⟨g, o, none⟩ = some u
theorem At1'.below {W X : World} {g o : Nat} {u : Value} (h : At1' W g o u) (hb : Below W.heap.size W X) : At1' X g o u := ⟨Nat.lt_of_lt_of_le h.1 hb.size, (hb.cell (p := ⟨g, o, none⟩) h.1).trans h.2⟩
def amRel9 (bs : List Bt) (ba : Int) (n : Nat) (w : World) (iv : Value) (wr : World) : Prop := ∃ k : Nat, iv = .int .i64 (k : Int) ∧ k ≤ n ∧ (bs.take k).any (fun x => decide (x.base = ba)) = false ∧ Below w.heap.size w wr
set_option maxRecDepth 100000 in
set_option maxHeartbeats 8000000 in
theorem among9_is (A : Option Addr) (n c : Nat) (bs : List Bt) (ba la fr ep pi ge se : Int) (tx : Bool) (ct : Int) (A4 : Option Addr) (n4 c4 : Nat) (w : World) (hx : RdT w w.heap.size A n bs) (hn : n ≤ 1000000) {z : Bool} (hz : bs.any (fun x => decide (x.base = ba)) = z) :
    Calls Tryz.prog 44 #[.slice A n c, .agg #[.int .i64 ba, .int .i64 la, .int .i64 fr, .int .i64 ep, .int .i64 pi, .int .i64 ge, .int .i64 se, .bool tx, .int .i64 ct, .slice A4 n4 c4]] w fun e w' => e = .returned (.bool z) ∧ Below w.heap.size w w' := by
  have hba := belA w (.cells #[.int .i64 ba, .int .i64 la, .int .i64 fr, .int .i64 ep, .int .i64 pi, .int .i64 ge, .int .i64 se, .bool tx, .int .i64 ct, .slice A4 n4 c4] 39)
  have HB_0 := Lib.hid (At0.new w [.int .i64 ba, .int .i64 la, .int .i64 fr, .int .i64 ep, .int .i64 pi, .int .i64 ge, .int .i64 se, .bool tx, .int .i64 ct, .slice A4 n4 c4] 39)
  have HX := Lib.hid (rdtUp hx hba)
  have HW := Lib.hid hba
  have HLEN := Lib.hid hx.len
  have HZ := Lib.hid hz
  have hmx : Tryz.prog.follows .mixedOrders = true := by kernel_rfl
  clear hx hba hz
  go_enter Tryz.func44, Tryz.ntmps44
  go_wp2
  generalize (w.alloc (.cells #[.int .i64 ba, .int .i64 la, .int .i64 fr, .int .i64 ep, .int .i64 pi, .int .i64 ge, .int .i64 se, .bool tx, .int .i64 ct, .slice A4 n4 c4] 39)) = W at *
  go_loopw [5] (fun iv wr => amRel9 bs ba n W iv wr) (fun iv _ => n - (intOf iv).toNat)
  case atStart => exact ⟨0, rfl, Nat.zero_le _, rfl, Below.refl _ _⟩
  case round =>
    obtain ⟨k, rfl, hk, hal, hb⟩ := hrel
    have HAL := Lib.hid hal
    have HBR_r := Lib.hid hb
    have HB_r := Lib.hid (HB_0.out.below hb)
    have HXR := Lib.hid (rdtUp HX.out hb)
    clear hal hb
    by_cases hlt : k < n
    · obtain ⟨b, o, x, A1, n1, c1, rfl, hbl, hxk, hc1, hn1, hrd, hf, hce⟩ := HXR.out.at hlt
      have HXK := Lib.hid hxk
      have d0 : wr.cell? ⟨b, o + k * 10, none⟩ = some (.int .i64 x.base) := hce 0 _ rfl
      obtain ⟨xb, hxb⟩ : ∃ y, x.base = y := ⟨_, rfl⟩
      rw [hxb] at d0
      have HXB := Lib.hid hxb
      have HS_r := Lib.hid (show At1' wr b (o + k * 10) (.int .i64 xb) from ⟨hbl, d0⟩)
      have hw1 : IntKind.i64.wrap ((k : Int) + 1) = (k : Int) + 1 := IntWalk.i64_in _ (by omega)
      have hkl : (k : Int) < (n : Int) := by omega
      have hk0 : (0 : Int) ≤ (k : Int) := by omega
      clear hxk hrd hf hce d0 hxb
      go_wp2
      by_cases hq : xb = ba
      · have hqq : (xb == ba) = true := by simp [hq]
        have HQ := Lib.hid hq
        clear hq
        have hbd := (Below.refl wr.heap.size wr).drew
        have HB_d := Lib.hid (HB_r.out.below hbd)
        have HS_d := Lib.hid (HS_r.out.below hbd)
        have HBR_d := Lib.hid (bel_trans HBR_r.out hbd)
        have HSS := Lib.hid (show (fun W9 : World => W9.cell? ⟨w.heap.size, 0, none⟩ = some (.int .i64 ba) ∧ W9.cell? ⟨b, o + k * 10, none⟩ = some (.int .i64 xb)) wr.drew from ⟨HB_d.out.cell 0, HS_d.out.2⟩)
        clear hbd
        refine region_let (fun W9 : World => W9.cell? ⟨w.heap.size, 0, none⟩ = some (.int .i64 ba) ∧ W9.cell? ⟨b, o + k * 10, none⟩ = some (.int .i64 xb)) 99 8 hmx rfl fun ops Q HOPS HQ => ?_
        have HREG := reg_of HOPS tb_among4 rfl (by kernel_rfl) (by kernel_rfl) (by decide)
        refine xq 0 HOPS HREG HSS.out ?_; simp only [ls0, ls1]; refine xq 1 HOPS HREG HSS.out ?_; simp only [ls0, ls1]; refine xq 2 HOPS HREG HSS.out ?_; simp only [ls0, ls1]; refine xq 3 HOPS HREG HSS.out ?_; simp only [ls0, ls1]; refine xq 4 HOPS HREG HSS.out ?_; simp only [ls0, ls1]; refine xq 5 HOPS HREG HSS.out ?_; simp only [ls0, ls1]; refine xq 6 HOPS HREG HSS.out ?_; simp only [ls0, ls1]; refine xq 7 HOPS HREG HSS.out ?_; simp only [ls0, ls1]
        refine stepE HOPS (by kernel_rfl) (HQ.out _ _ ?_)
        clear HQ HREG HOPS
        clear Q ops
        go_wp2
        have hzt : z = true := by rw [← HZ.out]; exact List.any_eq_true.2 ⟨x, List.mem_of_getElem? HXK.out, decide_eq_true (HXB.out.trans HQ.out)⟩
        subst hzt
        exact bodyPost_ret (v := .bool true) (by simp [results, Tryz.results44, go_sem]) rfl ⟨rfl, bel_trans HW.out HBR_d.out⟩
      · have hqq : (xb == ba) = false := beqF hq
        have HQ := Lib.hid hq
        clear hq
        have hbd := (Below.refl wr.heap.size wr).drew
        have HB_d := Lib.hid (HB_r.out.below hbd)
        have HS_d := Lib.hid (HS_r.out.below hbd)
        have HBR_d := Lib.hid (bel_trans HBR_r.out hbd)
        have HSS := Lib.hid (show (fun W9 : World => W9.cell? ⟨w.heap.size, 0, none⟩ = some (.int .i64 ba) ∧ W9.cell? ⟨b, o + k * 10, none⟩ = some (.int .i64 xb)) wr.drew from ⟨HB_d.out.cell 0, HS_d.out.2⟩)
        clear hbd
        refine region_let (fun W9 : World => W9.cell? ⟨w.heap.size, 0, none⟩ = some (.int .i64 ba) ∧ W9.cell? ⟨b, o + k * 10, none⟩ = some (.int .i64 xb)) 99 8 hmx rfl fun ops Q HOPS HQ => ?_
        have HREG := reg_of HOPS tb_among4 rfl (by kernel_rfl) (by kernel_rfl) (by decide)
        refine xq 0 HOPS HREG HSS.out ?_; simp only [ls0, ls1]; refine xq 1 HOPS HREG HSS.out ?_; simp only [ls0, ls1]; refine xq 2 HOPS HREG HSS.out ?_; simp only [ls0, ls1]; refine xq 3 HOPS HREG HSS.out ?_; simp only [ls0, ls1]; refine xq 4 HOPS HREG HSS.out ?_; simp only [ls0, ls1]; refine xq 5 HOPS HREG HSS.out ?_; simp only [ls0, ls1]; refine xq 6 HOPS HREG HSS.out ?_; simp only [ls0, ls1]; refine xq 7 HOPS HREG HSS.out ?_; simp only [ls0, ls1]
        refine stepE HOPS (by kernel_rfl) (HQ.out _ _ ?_)
        clear HQ HREG HOPS
        clear Q ops
        go_wp2
        go_roundw
        case rel =>
          refine ⟨k + 1, by go_num, by omega, ?_, HBR_d.out⟩
          rw [List.take_add_one, HXK.out, Option.toList_some, List.any_append, HAL.out, List.any_cons, List.any_nil, HXB.out, decide_eq_false HQ.out]; rfl
        case measure => simp [intOf]; omega
    · obtain rfl : k = n := by omega
      have hzf : z = false := by rw [← HZ.out, ← HAL.out, List.take_of_length_le (by rw [HLEN.out]; exact Nat.le_refl _)]
      subst hzf
      go_wp2
      exact bodyPost_ret (v := .bool false) (by simp [results, Tryz.results44, go_sem]) rfl ⟨rfl, bel_trans HW.out HBR_r.out⟩
def frP (lo hi : Int) (b : Bt) : Bool := decide (lo ≤ b.last) && decide (b.last < hi)
def frRel9 (bs : List Bt) (lo hi : Int) (n : Nat) (w : World) (vo iv : Value) (wr : World) : Prop :=
  ∃ (k : Nat) (A2 : Option Addr) (n2 c2 : Nat), vo = .slice A2 n2 c2 ∧ iv = .int .i64 (k : Int) ∧ k ≤ n ∧ n2 ≤ k ∧ OwnT wr 39 (fun b => b < w.heap.size) w.heap.size (.slice A2 n2 c2) n2 ((bs.take k).filter (frP lo hi)) ∧ Below w.heap.size w wr
set_option maxRecDepth 100000 in
set_option maxHeartbeats 8000000 in
theorem from9_is (A : Option Addr) (n c : Nat) (bs : List Bt) (lo hi : Int) (w : World) (hx : RdT w w.heap.size A n bs) (hn : n ≤ 1000000) {T : List Bt} (hT : bs.filter (frP lo hi) = T) :
    Calls Tryz.prog 39 #[.slice A n c, .int .i64 lo, .int .i64 hi] w fun e w' => ∃ A2 n2 c2, e = .returned (.slice A2 n2 c2) ∧ OwnT w' 39 (fun b => b < w.heap.size) w.heap.size (.slice A2 n2 c2) n2 T ∧ Below w.heap.size w w' := by
  have HX := Lib.hid hx
  have HLEN := Lib.hid hx.len
  subst hT
  clear hx
  go_enter Tryz.func39, Tryz.ntmps39
  go_wp2
  go_loopw [7, 8] (fun vo iv wr => frRel9 bs lo hi n w vo iv wr) (fun _ iv _ => n - (intOf iv).toNat)
  case atStart => exact ⟨0, none, 0, 0, rfl, rfl, Nat.zero_le _, Nat.le_refl _, OwnT.nil, Below.refl _ _⟩
  case round =>
    obtain ⟨k, A2, n2, c2, rfl, rfl, hk, hn2, ho, hb⟩ := hrel
    have HO := Lib.hid ho
    have HBR := Lib.hid hb
    have HSZ := Lib.hid hb.size
    have HXR := Lib.hid (HX.out.below hb (Nat.le_refl _))
    clear ho hb
    by_cases hlt : k < n
    · obtain ⟨b, o, ⟨ba, la, fr, ep, pi, ge, se, tx, ct, rs⟩, A1, n1, c1, rfl, hbl, hxk, hc1, hn1, hrd, hf, hce⟩ := HXR.out.at hlt
      have HXK := Lib.hid hxk
      have HLD := Lib.hid (lead_rd (c := c1) (row := (Value.slice A2 n2 c2).ownBlock) hrd HSZ.out hc1 hn1 hf (fun g hg => (OwnT.lt HO.out g hg).1))
      have hblr : b < wr.heap.size := Nat.lt_of_lt_of_le hbl HSZ.out
      have d0 : wr.cell? ⟨b, o + k * 10, none⟩ = some (.int .i64 ba) := hce 0 _ rfl
      have d1 : wr.cell? ⟨b, o + k * 10 + 1, none⟩ = some (.int .i64 la) := hce 1 _ rfl
      have d2 : wr.cell? ⟨b, o + k * 10 + 2, none⟩ = some (.int .i64 fr) := hce 2 _ rfl
      have d3 : wr.cell? ⟨b, o + k * 10 + 3, none⟩ = some (.int .i64 ep) := hce 3 _ rfl
      have d4 : wr.cell? ⟨b, o + k * 10 + 4, none⟩ = some (.int .i64 pi) := hce 4 _ rfl
      have d5 : wr.cell? ⟨b, o + k * 10 + 5, none⟩ = some (.int .i64 ge) := hce 5 _ rfl
      have d6 : wr.cell? ⟨b, o + k * 10 + 6, none⟩ = some (.int .i64 se) := hce 6 _ rfl
      have d7 : wr.cell? ⟨b, o + k * 10 + 7, none⟩ = some (.bool tx) := hce 7 _ rfl
      have d8 : wr.cell? ⟨b, o + k * 10 + 8, none⟩ = some (.int .i64 ct) := hce 8 _ rfl
      have d9 : wr.cell? ⟨b, o + k * 10 + 9, none⟩ = some (.slice A1 n1 c1) := hce 9 _ rfl
      have hw1 : IntKind.i64.wrap ((k : Int) + 1) = (k : Int) + 1 := IntWalk.i64_in _ (by omega)
      have hkl : (k : Int) < (n : Int) := by omega
      have hk0 : (0 : Int) ≤ (k : Int) := by omega
      clear hxk hrd hf hce
      by_cases hq : lo ≤ la ∧ la < hi
      · obtain ⟨hq1, hq2⟩ := hq
        have HFL := Lib.hid (show (bs.take (k + 1)).filter (frP lo hi) = (bs.take k).filter (frP lo hi) ++ [⟨ba, la, fr, ep, pi, ge, se, tx, ct, rs⟩] by rw [List.take_add_one, HXK.out, Option.toList_some, List.filter_append, List.filter_cons_of_pos (by simp [frP, hq1, hq2]), List.filter_nil])
        obtain ⟨A7, c7, w7, hrun, ho7, hg7, hat7, hbel7⟩ := run_appT (P := Tryz.prog) (w := wr) w.heap.size 33 33 39 Tryz.underlying33 batInfo HO.out (x := (⟨ba, la, fr, ep, pi, ge, se, tx, ct, rs⟩, A1, n1, c1)) HLD.out (by omega) HSZ.out
        dsimp only [batC] at hrun
        have HO7 := Lib.hid ho7
        have HB7 := Lib.hid (HBR.out.trans hbel7)
        clear ho7 hg7 hat7 hbel7
        go_wp2_with (at_builtin; refine wpList_app_run rfl _ _ 33 rfl rfl rfl hrun ?_)
        go_roundw
        case rel => exact ⟨k + 1, A7, n2 + 1, c7, rfl, by go_num, by omega, by omega, by rw [HFL.out]; exact HO7.out, HB7.out⟩
        case measure => simp [intOf]; omega
      · have HFL := Lib.hid (show (bs.take (k + 1)).filter (frP lo hi) = (bs.take k).filter (frP lo hi) by rw [List.take_add_one, HXK.out, Option.toList_some, List.filter_append, List.filter_cons_of_neg (by simp [frP]; omega), List.filter_nil, List.append_nil])
        have hqq : (decide (lo ≤ la) && decide (la < hi)) = false := by simp; omega
        by_cases hq1 : lo ≤ la
        · have hq2 : ¬ la < hi := fun h => hq ⟨hq1, h⟩
          clear hq hqq
          go_wp2
          go_roundw
          case rel => exact ⟨k + 1, A2, n2, c2, rfl, by go_num, by omega, by omega, by rw [HFL.out]; exact HO.out, HBR.out⟩
          case measure => simp [intOf]; omega
        · clear hq hqq
          go_wp2
          go_roundw
          case rel => exact ⟨k + 1, A2, n2, c2, rfl, by go_num, by omega, by omega, by rw [HFL.out]; exact HO.out, HBR.out⟩
          case measure => simp [intOf]; omega
    · obtain rfl : k = n := by omega
      go_wp2
      refine bodyPost_ret (v := .slice A2 n2 c2) (by simp [results, Tryz.results39, go_sem]) rfl ⟨A2, n2, c2, rfl, ?_, HBR.out⟩
      have h9 := HO.out
      rw [List.take_of_length_le (by rw [HLEN.out]; exact Nat.le_refl _)] at h9
      exact h9
end Go.Proofs.YtejcjmiofidedaaGreatDoor.Chn
