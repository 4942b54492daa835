/- Joined: BatCopy, BatRefM, BatIs2. -/
import Derived.Test.YtodklilnmianeaaDoorJBatA
import Derived.Test.YtodklilnmianeaaDoorJBatK
import Derived.Test.YtodklilnmianeaaDoorJBatR
import Derived.BigRegion
import Derived.Test.YtodklilnmianeaaDoorJBatS
/- The document's Copy of a batch; records and batches as rows of structs. -/
namespace Go.Proofs.YtodklilnmianeaaDoor.Bat
open Go.RowKit Go.Proofs.YtodklilnmianeaaDoor.Oct Go.Proofs.YtodklilnmianeaaDoor.Rec Go.Proofs.YtodklilnmianeaaDoor.Crc Go.Proofs.YtodklilnmianeaaDoor.Lay Go.Proofs.YtodklilnmianeaaDoor.RowF

def CPB (e : TypeId) (w : World) (b : Bt) (n : Nat) (en : Ending) (w' : World) : Prop :=
  ∃ A' c', en = .returned (bval b (.slice A' n c')) ∧ OwnF recC 5 w' e w.heap.size (.slice A' n c') n b.recs ∧ Below w.heap.size w w'
set_option maxRecDepth 100000 in
set_option maxHeartbeats 1000000 in
theorem refCopyB (ba la fr ep pi ge se : Int) (tx : Bool) (ct : Int) (rs : List Rc) (A : Option Addr) (n c : Nat) (w : World) (hr : RdR w w.heap.size A n rs) (hn : n ≤ 1099511627776) :
    Calls Tryd.prog 25 #[.agg #[.int .i64 ba, .int .i64 la, .int .i64 fr, .int .i64 ep, .int .i64 pi, .int .i64 ge, .int .i64 se, .bool tx, .int .i64 ct, .slice A n c]] w (CPB 43 w ⟨ba, la, fr, ep, pi, ge, se, tx, ct, rs⟩ n) := by
  have HR := Lib.hid (rdF_of hr)
  clear hr
  go_enter Tryd.func25, Tryd.ntmps25
  go_wp2_with (at_builtin; refine wpList_appF _ recS rfl _ _ 22 rfl 56 (w.heap.size + 1 + 1) 43 Tryd.underlying22 recInfo _ 0 [] rfl OwnF.nil w.heap.size A n c rs rfl ((HR.out.alloc (Nat.le_refl _) _).alloc (by simp) _) (by omega) (by omega) (by simp) ?_; intro A' c' w' hown hbel; simp only [Nat.zero_add, List.nil_append] at hown; have HO := Lib.hid hown; clear hown; have b0 : w'.cell? ⟨w.heap.size, 0, none⟩ = some (.int .i64 ba) := (hbel.cell (p := ⟨w.heap.size, 0, none⟩) (by first | (simp; done) | (simp; omega))).trans (by simp [go_sem]); have z0 : w'.cell? ⟨w.heap.size + 1, 0, none⟩ = some (.int .i64 0) := (hbel.cell (p := ⟨w.heap.size + 1, 0, none⟩) (by simp)).trans (by simp [go_sem]); have fz0 : w'.frozen? ⟨w.heap.size + 1, 0, none⟩ = false := (hbel.frozen (p := ⟨w.heap.size + 1, 0, none⟩) (by simp)).trans (by simp [go_sem]); have b1 : w'.cell? ⟨w.heap.size, 1, none⟩ = some (.int .i64 la) := (hbel.cell (p := ⟨w.heap.size, 1, none⟩) (by first | (simp; done) | (simp; omega))).trans (by simp [go_sem]); have z1 : w'.cell? ⟨w.heap.size + 1, 1, none⟩ = some (.int .i64 0) := (hbel.cell (p := ⟨w.heap.size + 1, 1, none⟩) (by simp)).trans (by simp [go_sem]); have fz1 : w'.frozen? ⟨w.heap.size + 1, 1, none⟩ = false := (hbel.frozen (p := ⟨w.heap.size + 1, 1, none⟩) (by simp)).trans (by simp [go_sem]); have b2 : w'.cell? ⟨w.heap.size, 2, none⟩ = some (.int .i64 fr) := (hbel.cell (p := ⟨w.heap.size, 2, none⟩) (by first | (simp; done) | (simp; omega))).trans (by simp [go_sem]); have z2 : w'.cell? ⟨w.heap.size + 1, 2, none⟩ = some (.int .i64 0) := (hbel.cell (p := ⟨w.heap.size + 1, 2, none⟩) (by simp)).trans (by simp [go_sem]); have fz2 : w'.frozen? ⟨w.heap.size + 1, 2, none⟩ = false := (hbel.frozen (p := ⟨w.heap.size + 1, 2, none⟩) (by simp)).trans (by simp [go_sem]); have b3 : w'.cell? ⟨w.heap.size, 3, none⟩ = some (.int .i64 ep) := (hbel.cell (p := ⟨w.heap.size, 3, none⟩) (by first | (simp; done) | (simp; omega))).trans (by simp [go_sem]); have z3 : w'.cell? ⟨w.heap.size + 1, 3, none⟩ = some (.int .i64 0) := (hbel.cell (p := ⟨w.heap.size + 1, 3, none⟩) (by simp)).trans (by simp [go_sem]); have fz3 : w'.frozen? ⟨w.heap.size + 1, 3, none⟩ = false := (hbel.frozen (p := ⟨w.heap.size + 1, 3, none⟩) (by simp)).trans (by simp [go_sem]); have b4 : w'.cell? ⟨w.heap.size, 4, none⟩ = some (.int .i64 pi) := (hbel.cell (p := ⟨w.heap.size, 4, none⟩) (by first | (simp; done) | (simp; omega))).trans (by simp [go_sem]); have z4 : w'.cell? ⟨w.heap.size + 1, 4, none⟩ = some (.int .i64 0) := (hbel.cell (p := ⟨w.heap.size + 1, 4, none⟩) (by simp)).trans (by simp [go_sem]); have fz4 : w'.frozen? ⟨w.heap.size + 1, 4, none⟩ = false := (hbel.frozen (p := ⟨w.heap.size + 1, 4, none⟩) (by simp)).trans (by simp [go_sem]); have b5 : w'.cell? ⟨w.heap.size, 5, none⟩ = some (.int .i64 ge) := (hbel.cell (p := ⟨w.heap.size, 5, none⟩) (by first | (simp; done) | (simp; omega))).trans (by simp [go_sem]); have z5 : w'.cell? ⟨w.heap.size + 1, 5, none⟩ = some (.int .i64 0) := (hbel.cell (p := ⟨w.heap.size + 1, 5, none⟩) (by simp)).trans (by simp [go_sem]); have fz5 : w'.frozen? ⟨w.heap.size + 1, 5, none⟩ = false := (hbel.frozen (p := ⟨w.heap.size + 1, 5, none⟩) (by simp)).trans (by simp [go_sem]); have b6 : w'.cell? ⟨w.heap.size, 6, none⟩ = some (.int .i64 se) := (hbel.cell (p := ⟨w.heap.size, 6, none⟩) (by first | (simp; done) | (simp; omega))).trans (by simp [go_sem]); have z6 : w'.cell? ⟨w.heap.size + 1, 6, none⟩ = some (.int .i64 0) := (hbel.cell (p := ⟨w.heap.size + 1, 6, none⟩) (by simp)).trans (by simp [go_sem]); have fz6 : w'.frozen? ⟨w.heap.size + 1, 6, none⟩ = false := (hbel.frozen (p := ⟨w.heap.size + 1, 6, none⟩) (by simp)).trans (by simp [go_sem]); have b7 : w'.cell? ⟨w.heap.size, 7, none⟩ = some (.bool tx) := (hbel.cell (p := ⟨w.heap.size, 7, none⟩) (by first | (simp; done) | (simp; omega))).trans (by simp [go_sem]); have z7 : w'.cell? ⟨w.heap.size + 1, 7, none⟩ = some (.bool false) := (hbel.cell (p := ⟨w.heap.size + 1, 7, none⟩) (by simp)).trans (by simp [go_sem]); have fz7 : w'.frozen? ⟨w.heap.size + 1, 7, none⟩ = false := (hbel.frozen (p := ⟨w.heap.size + 1, 7, none⟩) (by simp)).trans (by simp [go_sem]); have b8 : w'.cell? ⟨w.heap.size, 8, none⟩ = some (.int .i64 ct) := (hbel.cell (p := ⟨w.heap.size, 8, none⟩) (by first | (simp; done) | (simp; omega))).trans (by simp [go_sem]); have z8 : w'.cell? ⟨w.heap.size + 1, 8, none⟩ = some (.int .i64 0) := (hbel.cell (p := ⟨w.heap.size + 1, 8, none⟩) (by simp)).trans (by simp [go_sem]); have fz8 : w'.frozen? ⟨w.heap.size + 1, 8, none⟩ = false := (hbel.frozen (p := ⟨w.heap.size + 1, 8, none⟩) (by simp)).trans (by simp [go_sem]); have b9 : w'.cell? ⟨w.heap.size, 9, none⟩ = some (.slice A n c) := (hbel.cell (p := ⟨w.heap.size, 9, none⟩) (by first | (simp; done) | (simp; omega))).trans (by simp [go_sem]); have z9 : w'.cell? ⟨w.heap.size + 1, 9, none⟩ = some (.slice none 0 0) := (hbel.cell (p := ⟨w.heap.size + 1, 9, none⟩) (by simp)).trans (by simp [go_sem]); have fz9 : w'.frozen? ⟨w.heap.size + 1, 9, none⟩ = false := (hbel.frozen (p := ⟨w.heap.size + 1, 9, none⟩) (by simp)).trans (by simp [go_sem]); have fb9 : w'.frozen? ⟨w.heap.size, 9, none⟩ = false := (hbel.frozen (p := ⟨w.heap.size, 9, none⟩) (by first | (simp; done) | (simp; omega))).trans (by simp [go_sem]))
  refine bodyPost_ret (v := bval ⟨ba, la, fr, ep, pi, ge, se, tx, ct, rs⟩ (.slice A' n c')) (by simp [results, Tryd.results25, go_sem, bval, z0, z1, z2, z3, z4, z5, z6, z7, z8, z9]) rfl ?_
  exact ⟨A', c', rfl, (OwnF.more (ownsRow_setCell_below (ownsRow_setCell_below (ownsRow_setCell_below (ownsRow_setCell_below (ownsRow_setCell_below (ownsRow_setCell_below (ownsRow_setCell_below (ownsRow_setCell_below (ownsRow_setCell_below (ownsRow_setCell_below (ownsRow_setCell_below HO.out (by first | (simp; done) | (simp; omega)) _) (by first | (simp; done) | (simp; omega)) _) (by first | (simp; done) | (simp; omega)) _) (by first | (simp; done) | (simp; omega)) _) (by first | (simp; done) | (simp; omega)) _) (by first | (simp; done) | (simp; omega)) _) (by first | (simp; done) | (simp; omega)) _) (by first | (simp; done) | (simp; omega)) _) (by first | (simp; done) | (simp; omega)) _) (by first | (simp; done) | (simp; omega)) _) (by first | (simp; done) | (simp; omega)) _) (by omega)), (((((((((((((((Below.refl w.heap.size w).alloc (Nat.le_refl _) _).alloc (by simp) _).trans (hbel.mono (by omega))).setCell (by simp) _).setCell (by simp) _).setCell (by simp) _).setCell (by simp) _).setCell (by simp) _).setCell (by simp) _).setCell (by simp) _).setCell (by simp) _).setCell (by simp) _).setCell (by simp) _).setCell (by simp) _)⟩
end Go.Proofs.YtodklilnmianeaaDoor.Bat

/- The contract of the document's own Moved. -/
namespace Go.Proofs.YtodklilnmianeaaDoor.Bat
open Go.RowKit Go.Proofs.YtodklilnmianeaaDoor.Oct Go.Proofs.YtodklilnmianeaaDoor.Rec Go.Proofs.YtodklilnmianeaaDoor.Crc Go.Proofs.YtodklilnmianeaaDoor.Lay Go.Proofs.YtodklilnmianeaaDoor.RowF

def mvRel (e : TypeId) (b : Bt) (rs : List Rc) (d : Int) (A : Option Addr) (n c X B : Nat) (w : World) (i : Value) (wr : World) : Prop :=
  ∃ k : Nat, i = .int .i64 (k : Int) ∧ k ≤ n ∧ OwnF recC 5 wr e B (.slice A n c) n ((rs.map (mvR d)).take k ++ rs.drop k) ∧ BoxB wr X b (.slice A n c) ∧ Below B w wr
set_option maxRecDepth 100000 in
set_option maxHeartbeats 4000000 in
theorem refMovedB (ba la fr ep pi ge se : Int) (tx : Bool) (ct : Int) (A : Option Addr) (n c : Nat) (rs : List Rc) (base : Int) (w : World) (hf : Fits ⟨ba, la, fr, ep, pi, ge, se, tx, ct, rs⟩) (hr : RdR w w.heap.size A n rs) (hnc : n ≤ c) (hn : n ≤ 1099511627776) (_hb : I64 base) :
    Calls Tryd.prog 27 #[.agg #[.int .i64 ba, .int .i64 la, .int .i64 fr, .int .i64 ep, .int .i64 pi, .int .i64 ge, .int .i64 se, .bool tx, .int .i64 ct, .slice A n c], .int .i64 base] w (RMB w (mvB ⟨ba, la, fr, ep, pi, ge, se, tx, ct, rs⟩ base)) := by
  have HW1 := Lib.hid (show Below w.heap.size w ((w.alloc (.cells #[.int .i64 ba, .int .i64 la, .int .i64 fr, .int .i64 ep, .int .i64 pi, .int .i64 ge, .int .i64 se, .bool tx, .int .i64 ct, .slice A n c] 24)).alloc (.cells #[.int .i64 0, .int .i64 0, .int .i64 0, .int .i64 0, .int .i64 0, .int .i64 0, .int .i64 0, .bool false, .int .i64 0, .slice none 0 0] 24)) from ((Below.refl w.heap.size w).alloc (Nat.le_refl _) _).alloc (by simp) _)
  have HZ1 := Lib.hid (show ZB ((w.alloc (.cells #[.int .i64 ba, .int .i64 la, .int .i64 fr, .int .i64 ep, .int .i64 pi, .int .i64 ge, .int .i64 se, .bool tx, .int .i64 ct, .slice A n c] 24)).alloc (.cells #[.int .i64 0, .int .i64 0, .int .i64 0, .int .i64 0, .int .i64 0, .int .i64 0, .int .i64 0, .bool false, .int .i64 0, .slice none 0 0] 24)) (w.heap.size + 1) by
    have h := ZB.new (w.alloc (.cells #[.int .i64 ba, .int .i64 la, .int .i64 fr, .int .i64 ep, .int .i64 pi, .int .i64 ge, .int .i64 se, .bool tx, .int .i64 ct, .slice A n c] 24))
    rw [show (w.alloc (.cells #[.int .i64 ba, .int .i64 la, .int .i64 fr, .int .i64 ep, .int .i64 pi, .int .i64 ge, .int .i64 se, .bool tx, .int .i64 ct, .slice A n c] 24)).heap.size = w.heap.size + 1 by simp] at h
    exact h)
  have HB1 := Lib.hid (show BR ((w.alloc (.cells #[.int .i64 ba, .int .i64 la, .int .i64 fr, .int .i64 ep, .int .i64 pi, .int .i64 ge, .int .i64 se, .bool tx, .int .i64 ct, .slice A n c] 24)).alloc (.cells #[.int .i64 0, .int .i64 0, .int .i64 0, .int .i64 0, .int .i64 0, .int .i64 0, .int .i64 0, .bool false, .int .i64 0, .slice none 0 0] 24)) w.heap.size ⟨ba, la, fr, ep, pi, ge, se, tx, ct, rs⟩ A n c from (BR.new (b := ⟨ba, la, fr, ep, pi, ge, se, tx, ct, rs⟩) (c := c) 24 hr).alloc _)
  have HFIT := Lib.hid hf
  have hrl := hr.len
  clear hr hf
  rcases h1 : inR base with _ | _
  · have hz := Lib.hid (show mvB ⟨ba, la, fr, ep, pi, ge, se, tx, ct, rs⟩ base = (nilB, 1) by unfold mvB; rw [h1]; rfl)
    have h2 : inM base 1099511627776 = false := by unfold inR at h1; unfold inM; exact h1
    obtain ⟨c0, c1, c2, c3, c4, c5, c6, c7, c8, c9, f0, f1, f2, f3, f4, f5, f6, f7, f8, f9, hlt⟩ := HZ1.out
    rw [hz.out]
    go_enter Tryd.func27, Tryd.ntmps27
    go_wp2_with (go_at_call 44; refine (refin_any _ _ _ h2).mono ?_; rintro e w9 ⟨rfl, rfl⟩)
    exact bodyPost_ret (v := .tuple #[bval nilB (.slice none 0 0), .int .i64 1]) (by simp [results, Tryd.results27, go_sem, bval, nilB]) rfl ⟨none, 0, 0, rfl, Nat.le_refl _, ⟨RdR.nil, fun _ _ _ h => absurd h (by omega)⟩, HW1.out⟩
  have h2 : inM base 1099511627776 = true := by unfold inR at h1; unfold inM; exact h1
  have hbr := inR_iff.1 h1
  by_cases hc0 : chB ⟨ba, la, fr, ep, pi, ge, se, tx, ct, rs⟩ = 0
  case neg =>
    obtain ⟨z, hp⟩ : ∃ z, chB ⟨ba, la, fr, ep, pi, ge, se, tx, ct, rs⟩ = z := ⟨_, rfl⟩
    have HC := Lib.hid hp
    have hz := Lib.hid (show mvB ⟨ba, la, fr, ep, pi, ge, se, tx, ct, rs⟩ base = (nilB, z) by unfold mvB; rw [h1, if_neg (by simp), if_pos hc0, hp])
    have hz0 : z ≠ 0 := by rw [← hp]; exact hc0
    have hzF : (z == 0) = false := beqF hz0
    have hzN : (z != 0) = true := by simp [hz0]
    clear hp hc0 hz0 h1 hbr
    rw [hz.out]
    go_enter Tryd.func27, Tryd.ntmps27
    go_wp2_with (first
      | (go_at_call 44; refine (refin_any _ _ _ h2).mono ?_; rintro e w9 ⟨rfl, rfl⟩)
      | (go_at_call 15; (with_reducible refine (refCheckB_is ba la fr ep pi ge se tx ct rs A n c _ HFIT.out HB1.out.rd hn HC.out).mono ?_); rintro e w3 ⟨rfl, hb3⟩; have HW3 := Lib.hid (HW1.out.trans (hb3.mono HW1.out.size)); have HB3 := Lib.hid (HB1.out.below hb3); have HZ3 := Lib.hid (HZ1.out.below hb3 HZ1.out.lt); obtain ⟨y3_0, y3_1, y3_2, y3_3, y3_4, y3_5, y3_6, y3_7, y3_8, y3_9⟩ := HB3.out.box; obtain ⟨zc0, zc1, zc2, zc3, zc4, zc5, zc6, zc7, zc8, zc9, zf0, zf1, zf2, zf3, zf4, zf5, zf6, zf7, zf8, zf9, zlt⟩ := HZ3.out))
    exact bodyPost_ret (v := .tuple #[bval nilB (.slice none 0 0), .int .i64 z]) (by simp [results, Tryd.results27, go_sem, bval, nilB, zc0, zc1, zc2, zc3, zc4, zc5, zc6, zc7, zc8, zc9]) rfl ⟨none, 0, 0, rfl, Nat.le_refl _, ⟨RdR.nil, fun _ _ _ h => absurd h (by omega)⟩, ((((((((((HW3.out.setCell (by first | (simp; done) | (simp; omega)) _).setCell (by first | (simp; done) | (simp; omega)) _).setCell (by first | (simp; done) | (simp; omega)) _).setCell (by first | (simp; done) | (simp; omega)) _).setCell (by first | (simp; done) | (simp; omega)) _).setCell (by first | (simp; done) | (simp; omega)) _).setCell (by first | (simp; done) | (simp; omega)) _).setCell (by first | (simp; done) | (simp; omega)) _).setCell (by first | (simp; done) | (simp; omega)) _).setCell (by first | (simp; done) | (simp; omega)) _)⟩
  have F0 := (chB_form hc0).1
  have f0 := F0.base0
  have f1 := F0.base1
  have f2 := F0.last0
  have f3 := F0.last1
  simp only at f0 f1 f2 f3
  have HMAY := Lib.hid F0.mays
  have HC := Lib.hid hc0
  obtain ⟨d, hd⟩ : ∃ d, base - ba = d := ⟨_, rfl⟩
  obtain ⟨L, hL⟩ : ∃ L, base + la - ba = L := ⟨_, rfl⟩
  obtain ⟨rs2, hrs2⟩ : ∃ l, rs.map (mvR d) = l := ⟨_, rfl⟩
  have hmo : mvO ⟨ba, la, fr, ep, pi, ge, se, tx, ct, rs⟩ base = ⟨base, L, fr, ep, pi, ge, se, tx, ct, rs2⟩ := by unfold mvO; simp only; rw [hL, hd, hrs2]
  have HFIT2 := Lib.hid (show Fits ⟨base, L, fr, ep, pi, ge, se, tx, ct, rs2⟩ by
    have hf := HFIT.out
    refine ⟨?_, ?_, hf.frm, hf.epoch, hf.pid, hf.gen, hf.seq, hf.ctl, fun r hr => ?_⟩
    · unfold I64; simp only; omega
    · unfold I64; simp only; omega
    · simp only [← hrs2, List.mem_map] at hr
      obtain ⟨x, hx, rfl⟩ := hr
      have h5 := may_iff.1 (HMAY.out x hx)
      have h6 := hf.recs x hx
      refine ⟨?_, h6.2.1, h6.2.2⟩
      unfold I64 mvR
      simp only
      omega)
  obtain ⟨z, hp⟩ : ∃ z, chB ⟨base, L, fr, ep, pi, ge, se, tx, ct, rs2⟩ = z := ⟨_, rfl⟩
  have HC2 := Lib.hid hp
  have HRS2 := Lib.hid hrs2
  have HD := Lib.hid hd
  have hl2 : base + la - ba = L := hL
  have hl3 : -1099511627776 ≤ L ∧ L ≤ 2199023255552 := by omega
  have hl4 := hl3.1
  have hl5 := hl3.2
  have hrl2 : rs2.length = n := by rw [← hrs2, List.length_map]; exact hrl
  have HRL := Lib.hid hrl
  have HRL2 := Lib.hid hrl2
  have HZM := Lib.hid (show mvB ⟨ba, la, fr, ep, pi, ge, se, tx, ct, rs⟩ base = if z = 0 then (⟨base, L, fr, ep, pi, ge, se, tx, ct, rs2⟩, 0) else (nilB, z) by
    unfold mvB
    rw [h1, if_neg (by simp), if_neg (by simpa using hc0), hmo, hp]
    by_cases hz : z = 0
    · rw [if_neg (by simpa using hz), if_pos hz]
    · rw [if_pos hz, if_neg hz])
  clear hc0 F0 hd hL hrs2 hmo hp h1 hrl hrl2 hl3
  go_enter Tryd.func27, Tryd.ntmps27
  go_wp2_with (first
    | (go_at_call 44; refine (refin_any _ _ _ h2).mono ?_; rintro e w9 ⟨rfl, rfl⟩)
    | (go_at_call 15; (with_reducible refine (refCheckB_is ba la fr ep pi ge se tx ct rs A n c _ HFIT.out HB1.out.rd hn HC.out).mono ?_); rintro e w3 ⟨rfl, hb3⟩; have HW3 := Lib.hid (HW1.out.trans (hb3.mono HW1.out.size)); have HB3 := Lib.hid (HB1.out.below hb3); have HZ3 := Lib.hid (HZ1.out.below hb3 HZ1.out.lt); obtain ⟨y3_0, y3_1, y3_2, y3_3, y3_4, y3_5, y3_6, y3_7, y3_8, y3_9⟩ := HB3.out.box)
    | (go_at_call 25; (with_reducible refine (refCopyB ba la fr ep pi ge se tx ct rs A n c _ HB3.out.rd hn).mono ?_); rintro e w4 ⟨A4, c4, rfl, ho4, hb4⟩; have HO4 := Lib.hid ho4; have HW4 := Lib.hid (HW3.out.trans (hb4.mono HW3.out.size)); have HB4 := Lib.hid (HB3.out.below hb4); have HZ4 := Lib.hid (HZ3.out.below hb4 HZ3.out.lt); obtain ⟨y4_0, y4_1, y4_2, y4_3, y4_4, y4_5, y4_6, y4_7, y4_8, y4_9⟩ := HB4.out.box; have hlt4 := HB4.out.lt; have hs34 := hb4.size; have HB34 := Lib.hid hb4; simp only [bval]))
  have HX5 := Lib.hid (boxB_new w4 24 ⟨base, L, fr, ep, pi, ge, se, tx, ct, rs2⟩ (.slice A4 n c4))
  have HO5 := Lib.hid (HO4.out.alloc (.cells #[.int .i64 base, .int .i64 L, .int .i64 fr, .int .i64 ep, .int .i64 pi, .int .i64 ge, .int .i64 se, .bool tx, .int .i64 ct, .slice A4 n c4] 24))
  have HW5 := Lib.hid (bel_alloc HW4.out (.cells #[.int .i64 base, .int .i64 L, .int .i64 fr, .int .i64 ep, .int .i64 pi, .int .i64 ge, .int .i64 se, .bool tx, .int .i64 ct, .slice A4 n c4] 24))
  have HB5 := Lib.hid (HB4.out.alloc (.cells #[.int .i64 base, .int .i64 L, .int .i64 fr, .int .i64 ep, .int .i64 pi, .int .i64 ge, .int .i64 se, .bool tx, .int .i64 ct, .slice A4 n c4] 24))
  have HZ5 := Lib.hid (HZ4.out.below (bel_alloc (Below.refl w4.heap.size w4) (.cells #[.int .i64 base, .int .i64 L, .int .i64 fr, .int .i64 ep, .int .i64 pi, .int .i64 ge, .int .i64 se, .bool tx, .int .i64 ct, .slice A4 n c4] 24)) HZ4.out.lt)
  have hs5 : (w4.alloc (.cells #[.int .i64 base, .int .i64 L, .int .i64 fr, .int .i64 ep, .int .i64 pi, .int .i64 ge, .int .i64 se, .bool tx, .int .i64 ct, .slice A4 n c4] 24)).heap.size = w4.heap.size + 1 := by simp
  generalize hw5 : w4.alloc (.cells #[.int .i64 base, .int .i64 L, .int .i64 fr, .int .i64 ep, .int .i64 pi, .int .i64 ge, .int .i64 se, .bool tx, .int .i64 ct, .slice A4 n c4] 24) = w5 at *
  clear hw5
  go_loopw [35] (fun i wr => mvRel 43 ⟨base, L, fr, ep, pi, ge, se, tx, ct, rs2⟩ rs d A4 n c4 w4.heap.size w3.heap.size w5 i wr) (fun i _ => n - (intOf i).toNat)
  case atStart => exact ⟨0, rfl, Nat.zero_le _, by rw [List.take_zero, List.drop_zero, List.nil_append]; exact HO5.out, HX5.out, Below.refl _ _⟩
  case round =>
    obtain ⟨k, rfl, hk, hor, hxr, hbr⟩ := hrel
    have HOR := Lib.hid hor
    have HXR := Lib.hid hxr
    have HBR := Lib.hid hbr
    obtain ⟨q0, q1, q2, q3, q4, q5, q6, q7, q8, q9⟩ := hxr
    have hsr := hbr.size
    clear hor hbr
    by_cases hlt : k < n
    · obtain ⟨r, hrk⟩ : ∃ r, rs[k]? = some r := ⟨_, List.getElem?_eq_getElem (by have := HRL.out; omega)⟩
      have hmay := (may_iff.1 (HMAY.out r (List.mem_of_getElem? hrk))).1
      obtain ⟨p1, p2⟩ := hmay
      have hmh := mv_here (d := d) hrk
      obtain ⟨g, hA4, hg3, hg4⟩ := HO4.out.form (by omega)
      subst hA4
      have hcell := HOR.out.cellAt recS (i := 0) hmh.1 rfl
      have hfro := HOR.out.frozen (k * 5 + 0)
      rw [Nat.add_zero] at hcell hfro
      have HSET := Lib.hid (HOR.out.set recS hg3 (i := 0) (y := mvR d r) (u := .int .i64 (r.off + d)) hmh.1 (by omega) rfl)
      obtain ⟨b0, b1, b2, b3, b4, b5, b6, b7, b8, b9⟩ := HB5.out.box
      obtain ⟨ro, rk, rv, rd, rt⟩ := r
      simp only at p1 p2 hcell
      have v0 : wr.cell? ⟨w.heap.size, 0, none⟩ = some (.int .i64 ba) := (HBR.out.cell (p := ⟨w.heap.size, 0, none⟩) (by show w.heap.size < w3.heap.size; exact HB3.out.lt)).trans b0
      have y1 : (0 : Int) ≤ (k : Int) := by omega
      have y2 : (k : Int) < (n : Int) := by omega
      have hdd : base - ba = d := HD.out
      have hd1 : -1099511627776 ≤ d := by omega
      have hd2 : d ≤ 1099511627776 := by omega
      clear hrk b0 b1 b2 b3 b4 b5 b6 b7 b8 b9
      go_wp2
      go_region
      all_goals
        go_wp2
        go_roundw
        case rel =>
          refine ⟨k + 1, by go_num, by omega, ?_, ?_, ?_⟩
          · have h := HSET.out.1
            rw [hmh.2] at h
            exact h.drew
          · exact HXR.out.set (by omega)
          · exact (HBR.out.trans HSET.out.2).drew
        case measure => simp [intOf]; omega
    · have hkn : k = n := by omega
      subst hkn
      have HO6 := Lib.hid (show OwnF recC 5 wr 43 w3.heap.size (.slice A4 k c4) k rs2 by
        have h := HOR.out
        rw [HRS2.out, List.take_of_length_le (by have := HRL2.out; omega), List.drop_of_length_le (by have := HRL.out; omega), List.append_nil] at h
        exact h)
      have HZ6 := Lib.hid (HZ5.out.below HBR.out (by show w.heap.size + 1 < w3.heap.size; have := HZ3.out.lt; omega))
      have HW6 := Lib.hid (HW5.out.trans (HBR.out.mono HW3.out.size))
      have hz3 : w.heap.size + 1 < w3.heap.size := HZ3.out.lt
      have hX6 : w4.heap.size < wr.heap.size := by omega
      have hcap4 := HO4.out.cap
      by_cases hz : z = 0
      · have e1 : (z == 0) = true := beqT hz
        have e2 : (z != 0) = false := by simp [hz]
        have HE := Lib.hid hz
        clear hz
        go_wp2_with (go_at_call 15; (with_reducible refine (refCheckB_is base L fr ep pi ge se tx ct rs2 A4 k c4 _ HFIT2.out (rdR_of (HO6.out.rd recS)) hn HC2.out).mono ?_); rintro e w9 ⟨rfl, hb9⟩; obtain ⟨zc0, zc1, zc2, zc3, zc4, zc5, zc6, zc7, zc8, zc9, zf0, zf1, zf2, zf3, zf4, zf5, zf6, zf7, zf8, zf9, zlt⟩ := HZ6.out.below hb9 HZ6.out.lt; have HX9 := Lib.hid (HXR.out.below hb9 hX6); obtain ⟨r0, r1, r2, r3, r4, r5, r6, r7, r8, r9⟩ := HX9.out; have HO9 := Lib.hid (HO6.out.below hb9); have HW9 := Lib.hid (HW6.out.trans (hb9.mono HW6.out.size)); have hlt9 := hb9.size)
        refine bodyPost_ret (v := .tuple #[bval ⟨base, L, fr, ep, pi, ge, se, tx, ct, rs2⟩ (.slice A4 k c4), .int .i64 0]) (by simp [results, Tryd.results27, go_sem, bval, zc0, zc1, zc2, zc3, zc4, zc5, zc6, zc7, zc8, zc9]) rfl ?_
        rw [HZM.out, if_pos HE.out]
        exact ⟨A4, k, c4, rfl, hcap4, ownR_of (OwnF.more (ownsRow_setCell_below (ownsRow_setCell_below (ownsRow_setCell_below (ownsRow_setCell_below (ownsRow_setCell_below (ownsRow_setCell_below (ownsRow_setCell_below (ownsRow_setCell_below (ownsRow_setCell_below (ownsRow_setCell_below HO9.out (by show w.heap.size + 1 < w3.heap.size; omega) _) (by show w.heap.size + 1 < w3.heap.size; omega) _) (by show w.heap.size + 1 < w3.heap.size; omega) _) (by show w.heap.size + 1 < w3.heap.size; omega) _) (by show w.heap.size + 1 < w3.heap.size; omega) _) (by show w.heap.size + 1 < w3.heap.size; omega) _) (by show w.heap.size + 1 < w3.heap.size; omega) _) (by show w.heap.size + 1 < w3.heap.size; omega) _) (by show w.heap.size + 1 < w3.heap.size; omega) _) (by show w.heap.size + 1 < w3.heap.size; omega) _) HW3.out.size), ((((((((((HW9.out.setCell (by first | (simp; done) | (simp; omega)) _).setCell (by first | (simp; done) | (simp; omega)) _).setCell (by first | (simp; done) | (simp; omega)) _).setCell (by first | (simp; done) | (simp; omega)) _).setCell (by first | (simp; done) | (simp; omega)) _).setCell (by first | (simp; done) | (simp; omega)) _).setCell (by first | (simp; done) | (simp; omega)) _).setCell (by first | (simp; done) | (simp; omega)) _).setCell (by first | (simp; done) | (simp; omega)) _).setCell (by first | (simp; done) | (simp; omega)) _)⟩
      · have e1 : (z == 0) = false := beqF hz
        have e2 : (z != 0) = true := by simp [hz]
        have HE := Lib.hid hz
        clear hz
        go_wp2_with (go_at_call 15; (with_reducible refine (refCheckB_is base L fr ep pi ge se tx ct rs2 A4 k c4 _ HFIT2.out (rdR_of (HO6.out.rd recS)) hn HC2.out).mono ?_); rintro e w9 ⟨rfl, hb9⟩; obtain ⟨zc0, zc1, zc2, zc3, zc4, zc5, zc6, zc7, zc8, zc9, zf0, zf1, zf2, zf3, zf4, zf5, zf6, zf7, zf8, zf9, zlt⟩ := HZ6.out.below hb9 HZ6.out.lt; have HW9 := Lib.hid (HW6.out.trans (hb9.mono HW6.out.size)))
        refine bodyPost_ret (v := .tuple #[bval nilB (.slice none 0 0), .int .i64 z]) (by simp [results, Tryd.results27, go_sem, bval, nilB, zc0, zc1, zc2, zc3, zc4, zc5, zc6, zc7, zc8, zc9]) rfl ?_
        rw [HZM.out, if_neg HE.out]
        exact ⟨none, 0, 0, rfl, Nat.le_refl _, ⟨RdR.nil, fun _ _ _ h => absurd h (by omega)⟩, ((((((((((HW9.out.setCell (by first | (simp; done) | (simp; omega)) _).setCell (by first | (simp; done) | (simp; omega)) _).setCell (by first | (simp; done) | (simp; omega)) _).setCell (by first | (simp; done) | (simp; omega)) _).setCell (by first | (simp; done) | (simp; omega)) _).setCell (by first | (simp; done) | (simp; omega)) _).setCell (by first | (simp; done) | (simp; omega)) _).setCell (by first | (simp; done) | (simp; omega)) _).setCell (by first | (simp; done) | (simp; omega)) _).setCell (by first | (simp; done) | (simp; omega)) _)⟩
end Go.Proofs.YtodklilnmianeaaDoor.Bat

/- The document's Copy and Same, values written out. -/
namespace Go.Proofs.YtodklilnmianeaaDoor.Bat
open Go.RowKit Go.Proofs.YtodklilnmianeaaDoor.Oct Go.Proofs.YtodklilnmianeaaDoor.Rec Go.Proofs.YtodklilnmianeaaDoor.Crc Go.Proofs.YtodklilnmianeaaDoor.Lay Go.Proofs.YtodklilnmianeaaDoor.RowF

theorem refCopyB_is (ba la fr ep pi ge se : Int) (tx : Bool) (ct : Int) (rs : List Rc) (A : Option Addr) (n c : Nat) (w : World) (hr : RdR w w.heap.size A n rs) (hn : n ≤ 1099511627776) :
    Calls Tryd.prog 25 #[.agg #[.int .i64 ba, .int .i64 la, .int .i64 fr, .int .i64 ep, .int .i64 pi, .int .i64 ge, .int .i64 se, .bool tx, .int .i64 ct, .slice A n c]] w
      fun e w' => ∃ A' c', e = .returned (.agg #[.int .i64 ba, .int .i64 la, .int .i64 fr, .int .i64 ep, .int .i64 pi, .int .i64 ge, .int .i64 se, .bool tx, .int .i64 ct, .slice A' n c']) ∧ RdR w' w'.heap.size A' n rs ∧ Below w.heap.size w w' :=
  (refCopyB ba la fr ep pi ge se tx ct rs A n c w hr hn).mono fun _ _ ⟨A', c', h1, h2, h3⟩ => ⟨A', c', h1, rdR_of (h2.rd recS), h3⟩
theorem refSameB_is (ba la fr ep pi ge se : Int) (tx : Bool) (ct : Int) (rs : List Rc) (A : Option Addr) (n c : Nat) (ba' la' fr' ep' pi' ge' se' : Int) (tx' : Bool) (ct' : Int) (rs' : List Rc) (A' : Option Addr) (n' c' : Nat) (w : World)
    (hr : RdR w w.heap.size A n rs) (hr' : RdR w w.heap.size A' n' rs') (hn : n ≤ 1099511627776) (hn' : n' ≤ 1099511627776) {z : Bool} (h : eqB ⟨ba, la, fr, ep, pi, ge, se, tx, ct, rs⟩ ⟨ba', la', fr', ep', pi', ge', se', tx', ct', rs'⟩ = z) :
    Calls Tryd.prog 24 #[.agg #[.int .i64 ba, .int .i64 la, .int .i64 fr, .int .i64 ep, .int .i64 pi, .int .i64 ge, .int .i64 se, .bool tx, .int .i64 ct, .slice A n c], .agg #[.int .i64 ba', .int .i64 la', .int .i64 fr', .int .i64 ep', .int .i64 pi', .int .i64 ge', .int .i64 se', .bool tx', .int .i64 ct', .slice A' n' c']] w
      fun e w' => e = .returned (.bool z) ∧ Below w.heap.size w w' := by
  subst h; exact refSameB_any ba la fr ep pi ge se tx ct rs A n c ba' la' fr' ep' pi' ge' se' tx' ct' rs' A' n' c' w hr hr' hn hn'
end Go.Proofs.YtodklilnmianeaaDoor.Bat
