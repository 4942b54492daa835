/- Joined: BatDevWr1, BatDevWe, BatDevC, BatDevWr, BatDevK, BatBox, BatFew, BatFewAll. -/
import Derived.Test.YtmjnleohchmadaaJBatA
import Derived.Test.YtmjnleohchmadaaJOct
import Derived.Deep.RegionWith
import Derived.Test.YtmjnleohchmadaaJBatE
import Derived.Test.YtmjnleohchmadaaJBatR
import Derived.Lib.LazyBuf
import Derived.Test.YtmjnleohchmadaaJRec
import Derived.Deep.RegionLaw
import Derived.Deep.DeepCutAuto
import Derived.Test.YtmjnleohchmadaaJBatH
import Derived.Test.YtmjnleohchmadaaJCrc
import Derived.LoopTactic
/- The contract of the landed write's own function: a number is put behind the body. -/
namespace Go.Proofs.Ytmjnleohchmadaa.Bat
open Go.RowKit Go.Proofs.Ytmjnleohchmadaa.Oct Go.Proofs.Ytmjnleohchmadaa.Rec Go.Proofs.Ytmjnleohchmadaa.Crc

def WR1 (e : TypeId) (X : Nat) (w : World) (l : List UInt8) (w' : World) : Prop :=
  ∃ A n c w1, OwnB w1 e w.heap.size (.slice A n c) n l ∧ Below w.heap.size w w1 ∧ w1.setCell ⟨X, 0, none⟩ (.slice A n c) = w'
end Go.Proofs.Ytmjnleohchmadaa.Bat

/- The contract of the landed eachNumber, handed write's own function: the numbers' bytes. -/
namespace Go.Proofs.Ytmjnleohchmadaa.Bat
open Go.RowKit Go.Proofs.Ytmjnleohchmadaa.Oct Go.Proofs.Ytmjnleohchmadaa.Rec Go.Proofs.Ytmjnleohchmadaa.Crc

structure WJ (e : TypeId) (w2 : World) (g X : Nat) (b : Bt) (v : Value) (sp : Int) (k : Nat) (w' : World) : Prop where
  own : ∃ A n c, OwnB w' e (w2.heap.size + 1) (.slice A n c) n (vs ((hd b).take k)) ∧ w'.cell? ⟨X, 0, none⟩ = some (.slice A n c)
  fx : w'.frozen? ⟨X, 0, none⟩ = false
  box : BoxB w' g b v
  fg : w'.frozen? ⟨g, 1, none⟩ = false
  span : w'.cell? ⟨w2.heap.size, 0, none⟩ = some (.int .i64 sp)
  lt : w2.heap.size < w'.heap.size
  bel : Below g w2 w'
def WRE (e : TypeId) (g X : Nat) (w2 : World) (b : Bt) (v : Value) (w' : World) : Prop :=
  ∃ A n c, OwnB w' e w2.heap.size (.slice A n c) n (vs (hd b)) ∧ w'.cell? ⟨X, 0, none⟩ = some (.slice A n c) ∧ w'.frozen? ⟨X, 0, none⟩ = false ∧ BoxB w' g b v ∧ Below g w2 w' ∧ w2.heap.size < w'.heap.size
end Go.Proofs.Ytmjnleohchmadaa.Bat

/- The contracts of bytes.Equal, and the landed mark. -/
namespace Go.Proofs.Ytmjnleohchmadaa.Bat
open Go.RowKit Go.Proofs.Ytmjnleohchmadaa.Oct Go.Proofs.Ytmjnleohchmadaa.Rec Go.Proofs.Ytmjnleohchmadaa.Crc Go.Proofs.Ytmjnleohchmadaa.Lay Go.Proofs.Ytmjnleohchmadaa.RowF

end Go.Proofs.Ytmjnleohchmadaa.Bat

/- The contract of the landed write: a batch's body. -/
namespace Go.Proofs.Ytmjnleohchmadaa.Bat
open Go.RowKit Go.Proofs.Ytmjnleohchmadaa.Oct Go.Proofs.Ytmjnleohchmadaa.Rec Go.Proofs.Ytmjnleohchmadaa.Crc Go.Proofs.Ytmjnleohchmadaa.Lay Go.Proofs.Ytmjnleohchmadaa.RowF

def wrRel (e : TypeId) (g X B : Nat) (b : Bt) (v : Value) (pre : List UInt8) (st : Int) (n : Nat) (w : World) (i : Value) (wr : World) : Prop :=
  ∃ (k m : Nat) (A : Option Addr) (c : Nat), i = .int .i64 (k : Int) ∧ k ≤ n ∧ OwnB wr e B (.slice A m c) m (pre ++ rs b.base st (b.recs.take k)) ∧ wr.cell? ⟨X, 0, none⟩ = some (.slice A m c) ∧ wr.frozen? ⟨X, 0, none⟩ = false ∧ BoxB wr g b v ∧ Below g w wr ∧ B ≤ wr.heap.size
end Go.Proofs.Ytmjnleohchmadaa.Bat

/- The contracts of the landed bodyOf, Check, Size and Put. -/
namespace Go.Proofs.Ytmjnleohchmadaa.Bat
open Go.RowKit Go.Proofs.Ytmjnleohchmadaa.Oct Go.Proofs.Ytmjnleohchmadaa.Rec Go.Proofs.Ytmjnleohchmadaa.Crc

def boB (b : Bt) : List UInt8 := if chB b = 0 then body b else []
end Go.Proofs.Ytmjnleohchmadaa.Bat

/- The contracts of the landed Check, Size and Put, their values written out; a batch in a box. -/
namespace Go.Proofs.Ytmjnleohchmadaa.Bat
open Go.RowKit Go.Proofs.Ytmjnleohchmadaa.Oct Go.Proofs.Ytmjnleohchmadaa.Rec Go.Proofs.Ytmjnleohchmadaa.Crc Go.Proofs.Ytmjnleohchmadaa.Lay

section
variable (ba la fr ep pi ge se : Int) (tx : Bool) (ct : Int) (rs : List Rc) (A : Option Addr) (n c : Nat) (w : World)
end

theorem RdR.alloc {w : World} {B : Nat} {A : Option Addr} {n : Nat} {l : List Rc} (h : RdR w B A n l) (hB : B ≤ w.heap.size) (o : Obj) : RdR (w.alloc o) B A n l := h.keep fun p hp => World.cell?_alloc_lt w o p (by omega)
structure BR (w : World) (g : Nat) (b : Bt) (A : Option Addr) (n c : Nat) : Prop where
  box : BoxB w g b (.slice A n c)
  lt : g < w.heap.size
  rd : RdR w w.heap.size A n b.recs
theorem BR.below {w w' : World} {g : Nat} {b : Bt} {A : Option Addr} {n c : Nat} (h : BR w g b A n c) (hb : Below w.heap.size w w') : BR w' g b A n c :=
  ⟨h.box.below hb h.lt, Nat.lt_of_lt_of_le h.lt hb.size, (h.rd.below hb (Nat.le_refl _)).more hb.size⟩
theorem BR.drew {w : World} {g : Nat} {b : Bt} {A : Option Addr} {n c : Nat} (h : BR w g b A n c) : BR w.drew g b A n c := ⟨h.box, h.lt, h.rd⟩
theorem BR.alloc {w : World} {g : Nat} {b : Bt} {A : Option Addr} {n c : Nat} (h : BR w g b A n c) (o : Obj) : BR (w.alloc o) g b A n c := h.below (bel_alloc (Below.refl _ _) o)
theorem BR.new {w : World} {b : Bt} {A : Option Addr} {n c : Nat} (e : TypeId) (h : RdR w w.heap.size A n b.recs) :
    BR (w.alloc (.cells #[.int .i64 b.base, .int .i64 b.last, .int .i64 b.frm, .int .i64 b.epoch, .int .i64 b.pid, .int .i64 b.gen, .int .i64 b.seq, .bool b.txn, .int .i64 b.ctl, .slice A n c] e)) w.heap.size b A n c :=
  ⟨boxB_new w e b _, by simp, (h.alloc (Nat.le_refl _) _).more (by simp)⟩

end Go.Proofs.Ytmjnleohchmadaa.Bat

/- The document's Few, of one batch. -/
namespace Go.Proofs.Ytmjnleohchmadaa.Bat
open Go.RowKit Go.Proofs.Ytmjnleohchmadaa.Oct Go.Proofs.Ytmjnleohchmadaa.Rec Go.Proofs.Ytmjnleohchmadaa.Crc Go.Proofs.Ytmjnleohchmadaa.Lay

def fwRel (rs : List Rc) (n : Nat) (w : World) (v i : Value) (wr : World) : Prop :=
  ∃ k m : Nat, v = .int .i64 (m : Int) ∧ i = .int .i64 (k : Int) ∧ k ≤ n ∧ m ≤ 20000 ∧ fewR rs 0 = fewR (rs.drop k) m ∧ Below w.heap.size w wr
theorem fewR_step {rs : List Rc} {k m : Nat} {r : Rc} (h : rs[k]? = some r) : fewR (rs.drop k) m = if 20000 < m + (r.key.size + r.val.size) then false else fewR (rs.drop (k + 1)) (m + (r.key.size + r.val.size)) := by
  have e : rs.drop k = r :: rs.drop (k + 1) := by
    obtain ⟨hlt, hr⟩ := List.getElem?_eq_some_iff.1 h
    rw [List.drop_eq_getElem_cons hlt, hr]
  rw [e]
  rfl
set_option maxRecDepth 100000 in
set_option maxHeartbeats 1000000 in
theorem refFew_is (ba la fr ep pi ge se : Int) (tx : Bool) (ct : Int) (rs : List Rc) (A : Option Addr) (n c : Nat) (w : World) (hr : RdR w w.heap.size A n rs) (hf : ∀ r ∈ rs, Fit r) (hn : n ≤ reach) {z : Bool} (hz : fewT ⟨ba, la, fr, ep, pi, ge, se, tx, ct, rs⟩ = z) :
    Calls Try.prog 41 #[.agg #[.int .i64 ba, .int .i64 la, .int .i64 fr, .int .i64 ep, .int .i64 pi, .int .i64 ge, .int .i64 se, .bool tx, .int .i64 ct, .slice A n c]] w fun e w' => e = .returned (.bool z) ∧ Below w.heap.size w w' := by
  have HZ := Lib.hid hz
  have HW1 := Lib.hid (bel_alloc (Below.refl w.heap.size w) (.cells #[.int .i64 ba, .int .i64 la, .int .i64 fr, .int .i64 ep, .int .i64 pi, .int .i64 ge, .int .i64 se, .bool tx, .int .i64 ct, .slice A n c] 46))
  have HB := Lib.hid (BR.new (b := ⟨ba, la, fr, ep, pi, ge, se, tx, ct, rs⟩) (c := c) 46 hr)
  have HF := Lib.hid hf
  have hn2 : n ≤ 140737488351232 := hn
  clear hz hr hf hn
  go_enter Try.func41, Try.ntmps41
  go_wp2
  generalize hw1 : w.alloc (.cells #[.int .i64 ba, .int .i64 la, .int .i64 fr, .int .i64 ep, .int .i64 pi, .int .i64 ge, .int .i64 se, .bool tx, .int .i64 ct, .slice A n c] 46) = w1 at *
  clear hw1
  go_loopw [3, 9] (fun v i wr => fwRel rs n w1 v i wr) (fun _ i _ => n - (intOf i).toNat)
  case atStart => exact ⟨0, 0, rfl, rfl, Nat.zero_le _, Nat.zero_le _, rfl, Below.refl _ _⟩
  case round =>
    obtain ⟨k, m, rfl, rfl, hk, hm, hR, hb⟩ := hrel
    have HR := Lib.hid hR
    have HBL := Lib.hid hb
    have HBR := Lib.hid (HB.out.below hb)
    clear hR hb
    by_cases hlt : k < n
    · obtain ⟨b, o, r, hA, _, hrk, hat⟩ := HBR.out.rd.at hlt
      have hfit := HF.out r (List.mem_of_getElem? hrk)
      have q1 : r.key.size ≤ 140737488351232 := hfit.2.2.1
      have q2 : r.val.size ≤ 140737488351232 := hfit.2.2.2
      have HS := Lib.hid (fewR_step (m := m) hrk)
      have HA := Lib.hid hA
      obtain ⟨a0, a1, a2, a3, a4⟩ := hat
      obtain ⟨ro, rk, rv, rd, rt⟩ := r
      simp only at a0 a1 a2 a3 a4 q1 q2
      subst hA
      clear hfit hrk HA
      by_cases hbig : 20000 < m + (rk.size + rv.size)
      · have HZF := Lib.hid (show z = false by
          rw [← HZ.out]
          unfold fewT
          simp only
          rw [HR.out, HS.out]
          simp only
          rw [if_pos hbig]
          rfl)
        have hbig2 : (20000 : Int) < (m : Int) + ((rk.size : Int) + (rv.size : Int)) := by omega
        clear hbig
        go_wp2
        go_ret
        exact ⟨by rw [HZF.out]; rfl, HW1.out.trans ((HBL.out.alloc HBL.out.size _).mono HW1.out.size)⟩
      · have HN := Lib.hid (show fewR rs 0 = fewR (rs.drop (k + 1)) (m + (rk.size + rv.size)) by
          rw [HR.out, HS.out]
          simp only
          rw [if_neg hbig])
        have hbig2 : ¬ (20000 : Int) < (m : Int) + ((rk.size : Int) + (rv.size : Int)) := by omega
        have hm2 : m + (rk.size + rv.size) ≤ 20000 := by omega
        clear hbig
        go_wp2
        go_roundw
        case rel => exact ⟨k + 1, m + (rk.size + rv.size), by go_num, by go_num, by omega, hm2, HN.out, HBL.out.alloc HBL.out.size _⟩
        case measure => simp [intOf]; omega
    · have hkn : k = n := by omega
      subst hkn
      obtain ⟨x0, x1, x2, x3, x4, x5, x6, x7, x8, x9⟩ := HBR.out.box
      have HZF := Lib.hid (show z = decide ((k : Int) ≤ 100) by
        rw [← HZ.out]
        have hl := HBR.out.rd.len
        unfold fewT
        simp only at hl ⊢
        rw [HR.out, hl, List.drop_of_length_le (by omega)]
        show (true && _) = _
        rw [Bool.true_and]
        exact decide_eq_decide.2 ⟨fun h => by omega, fun h => by omega⟩)
      go_wp2
      go_ret
      exact ⟨by rw [HZF.out]; rfl, HW1.out.trans (HBL.out.mono HW1.out.size)⟩
end Go.Proofs.Ytmjnleohchmadaa.Bat

/- The document's FewAll. -/
namespace Go.Proofs.Ytmjnleohchmadaa.Bat
open Go.RowKit Go.Proofs.Ytmjnleohchmadaa.Oct Go.Proofs.Ytmjnleohchmadaa.Rec Go.Proofs.Ytmjnleohchmadaa.Crc Go.Proofs.Ytmjnleohchmadaa.Lay

def faRel (bs : List Bt) (n : Nat) (w : World) (i : Value) (wr : World) : Prop :=
  ∃ k : Nat, i = .int .i64 (k : Int) ∧ k ≤ n ∧ bs.all fewT = (bs.drop k).all fewT ∧ Below w.heap.size w wr
theorem fewAll_step {bs : List Bt} {k : Nat} {b : Bt} (h : bs[k]? = some b) : (bs.drop k).all fewT = (fewT b && (bs.drop (k + 1)).all fewT) := by
  have e : bs.drop k = b :: bs.drop (k + 1) := by
    obtain ⟨hlt, hr⟩ := List.getElem?_eq_some_iff.1 h
    rw [List.drop_eq_getElem_cons hlt, hr]
  rw [e]
  rfl
set_option maxRecDepth 100000 in
set_option maxHeartbeats 1000000 in
theorem refFewAll_is (bs : List Bt) (A : Option Addr) (n c : Nat) (most : Int) (w : World) (hr : RdL w w.heap.size A n bs) (hn : n ≤ reach) {z : Bool} (hz : (bs.all fewT && decide ((bs.length : Int) ≤ most)) = z) :
    Calls Try.prog 25 #[.slice A n c, .int .i64 most] w fun e w' => e = .returned (.bool z) ∧ Below w.heap.size w w' := by
  have HZ := Lib.hid hz
  have HR := Lib.hid hr
  have hn2 : n ≤ 140737488351232 := hn
  clear hz hr hn
  go_enter Try.func25, Try.ntmps25
  go_wp2
  go_loopw [9] (fun i wr => faRel bs n w i wr) (fun i _ => n - (intOf i).toNat)
  case atStart => exact ⟨0, rfl, Nat.zero_le _, rfl, Below.refl _ _⟩
  case round =>
    obtain ⟨k, rfl, hk, hD, hb⟩ := hrel
    have HD := Lib.hid hD
    have HBL := Lib.hid hb
    have HBR := Lib.hid (HR.out.below hb (Nat.le_refl _))
    clear hD hb
    by_cases hlt : k < n
    · obtain ⟨b, o, x, cs, hA, hbl, hxk, his, hcell⟩ := HBR.out.at hlt
      have HS := Lib.hid (fewAll_step hxk)
      obtain ⟨ba, la, fr, ep, pi, ge, se, tx, ct, rs⟩ := x
      obtain ⟨A1, n1, c1, rfl, hfit, hn1, hc1, hrl⟩ := his
      have a0 : wr.cell? ⟨b, o + k * 10, none⟩ = some (.int .i64 ba) := hcell 0 _ rfl
      have a1 : wr.cell? ⟨b, o + k * 10 + 1, none⟩ = some (.int .i64 la) := hcell 1 _ rfl
      have a2 : wr.cell? ⟨b, o + k * 10 + 2, none⟩ = some (.int .i64 fr) := hcell 2 _ rfl
      have a3 : wr.cell? ⟨b, o + k * 10 + 3, none⟩ = some (.int .i64 ep) := hcell 3 _ rfl
      have a4 : wr.cell? ⟨b, o + k * 10 + 4, none⟩ = some (.int .i64 pi) := hcell 4 _ rfl
      have a5 : wr.cell? ⟨b, o + k * 10 + 5, none⟩ = some (.int .i64 ge) := hcell 5 _ rfl
      have a6 : wr.cell? ⟨b, o + k * 10 + 6, none⟩ = some (.int .i64 se) := hcell 6 _ rfl
      have a7 : wr.cell? ⟨b, o + k * 10 + 7, none⟩ = some (.bool tx) := hcell 7 _ rfl
      have a8 : wr.cell? ⟨b, o + k * 10 + 8, none⟩ = some (.int .i64 ct) := hcell 8 _ rfl
      have a9 : wr.cell? ⟨b, o + k * 10 + 9, none⟩ = some (.slice A1 n1 c1) := hcell 9 _ rfl
      simp only at hrl
      have HFIT := Lib.hid (RdL_fit hrl)
      have HX := Lib.hid (BR.new (b := ⟨ba, la, fr, ep, pi, ge, se, tx, ct, rs⟩) (c := c1) 46 ((RdL_recs hrl).more HBL.out.size))
      obtain ⟨x0, x1, x2, x3, x4, x5, x6, x7, x8, x9⟩ := HX.out.box
      have hn1r := Nat.le_trans hn1 hc1
      subst hA
      clear hcell hxk hfit hrl
      rcases hf : fewT ⟨ba, la, fr, ep, pi, ge, se, tx, ct, rs⟩ with _ | _
      · have HF := Lib.hid hf
        have HZF := Lib.hid (show z = false by rw [← HZ.out, HD.out, HS.out, HF.out]; rfl)
        clear hf
        go_wp2_with (go_at_call 41; (with_reducible refine (refFew_is ba la fr ep pi ge se tx ct rs A1 n1 c1 _ HX.out.rd HFIT.out hn1r HF.out).mono ?_); rintro e w4 ⟨rfl, hb4⟩)
        go_ret
        exact ⟨by rw [HZF.out]; rfl, bel_trans (bel_alloc HBL.out _) hb4⟩
      · have HF := Lib.hid hf
        have HN := Lib.hid (show bs.all fewT = (bs.drop (k + 1)).all fewT by rw [HD.out, HS.out, HF.out]; rfl)
        clear hf
        go_wp2_with (go_at_call 41; (with_reducible refine (refFew_is ba la fr ep pi ge se tx ct rs A1 n1 c1 _ HX.out.rd HFIT.out hn1r HF.out).mono ?_); rintro e w4 ⟨rfl, hb4⟩)
        go_roundw
        case rel => exact ⟨k + 1, by go_num, by omega, HN.out, bel_trans (bel_alloc HBL.out _) hb4⟩
        case measure => simp [intOf]; omega
    · have hkn : k = n := by omega
      subst hkn
      have HZF := Lib.hid (show z = decide ((k : Int) ≤ most) by
        rw [← HZ.out, HD.out]
        have hl := HBR.out.len
        rw [hl, List.drop_of_length_le (by omega)]
        rfl)
      go_wp2
      go_ret
      exact ⟨by rw [HZF.out]; rfl, HBL.out⟩
end Go.Proofs.Ytmjnleohchmadaa.Bat
