/- Joined: BatBox, BatFew. -/
import Derived.Test.YtllebgadhhgckaaDoorJ28
import Derived.LoopTactic
/- The contracts of the landed Check, Size and Put, their values written out; a batch in a box. -/
namespace Go.Proofs.YtllebgadhhgckaaDoor.Bat
open Go.RowKit Oct Rec Crc Lay

section
variable (ba la fr ep pi ge se : Int) (tx : Bool) (ct : Int) (rs : List Rc) (A : Option Addr) (n c : Nat) (w : World)
theorem BCheck_is (hf : Fits ⟨ba, la, fr, ep, pi, ge, se, tx, ct, rs⟩) (hr : RdR w w.heap.size A n rs) (hn : n ≤ 1099511627776) (ht : Tab w) {z : Int} (h : chB ⟨ba, la, fr, ep, pi, ge, se, tx, ct, rs⟩ = z) :
    Calls Tryd.prog 31 #[.agg #[.int .i64 ba, .int .i64 la, .int .i64 fr, .int .i64 ep, .int .i64 pi, .int .i64 ge, .int .i64 se, .bool tx, .int .i64 ct, .slice A n c]] w fun e w' => e = .returned (.int .i64 z) ∧ Below w.heap.size w w' := by
  subst h; exact BCheck_any ba la fr ep pi ge se tx ct rs A n c w hf hr hn ht
end

theorem RdR.alloc {w : World} {B : Nat} {A : Option Addr} {n : Nat} {l : List Rc} (h : RdR w B A n l) (hB : B ≤ w.heap.size) (o : Obj) : RdR (w.alloc o) B A n l := h.keep fun p hp => World.cell?_alloc_lt w o p (by omega)
structure BR (w : World) (g : Nat) (b : Bt) (A : Option Addr) (n c : Nat) : Prop where
  box : BoxB w g b (.slice A n c)
  lt : g < w.heap.size
  rd : RdR w w.heap.size A n b.recs
theorem BR.below {w w' : World} {g : Nat} {b : Bt} {A : Option Addr} {n c : Nat} (h : BR w g b A n c) (hb : Below w.heap.size w w') : BR w' g b A n c :=
  ⟨h.box.below hb h.lt, Nat.lt_of_lt_of_le h.lt hb.size, (h.rd.below hb (Nat.le_refl _)).more hb.size⟩
theorem BR.drew {w : World} {g : Nat} {b : Bt} {A : Option Addr} {n c : Nat} (h : BR w g b A n c) : BR w.drew g b A n c := ⟨h.box, h.lt, h.rd⟩
theorem BR.alloc {w : World} {g : Nat} {b : Bt} {A : Option Addr} {n c : Nat} (h : BR w g b A n c) (o : Obj) : BR (w.alloc o) g b A n c := h.below (bel_alloc (Below.refl _ _) o)
theorem BR.new {w : World} {b : Bt} {A : Option Addr} {n c : Nat} (e : TypeId) (h : RdR w w.heap.size A n b.recs) :
    BR (w.alloc (.cells #[.int .i64 b.base, .int .i64 b.last, .int .i64 b.frm, .int .i64 b.epoch, .int .i64 b.pid, .int .i64 b.gen, .int .i64 b.seq, .bool b.txn, .int .i64 b.ctl, .slice A n c] e)) w.heap.size b A n c :=
  ⟨boxB_new w e b _, by simp, (h.alloc (Nat.le_refl _) _).more (by simp)⟩

end Go.Proofs.YtllebgadhhgckaaDoor.Bat

/- The document's Few, of one batch. -/
namespace Go.Proofs.YtllebgadhhgckaaDoor.Bat
open Go.RowKit Oct Rec Crc Lay

def fwRel (rs : List Rc) (n : Nat) (w : World) (v i : Value) (wr : World) : Prop :=
  ∃ k m : Nat, v = .int .i64 (m : Int) ∧ i = .int .i64 (k : Int) ∧ k ≤ n ∧ m ≤ 20000 ∧ fewR rs 0 = fewR (rs.drop k) m ∧ Below w.heap.size w wr
theorem fewR_step {rs : List Rc} {k m : Nat} {r : Rc} (h : rs[k]? = some r) : fewR (rs.drop k) m = if 20000 < m + (r.key.size + r.val.size) then false else fewR (rs.drop (k + 1)) (m + (r.key.size + r.val.size)) := by
  have e : rs.drop k = r :: rs.drop (k + 1) := by
    obtain ⟨hlt, hr⟩ := List.getElem?_eq_some_iff.1 h
    rw [List.drop_eq_getElem_cons hlt, hr]
  rw [e]
  rfl
set_option maxRecDepth 100000 in
set_option maxHeartbeats 1000000 in
theorem refFew_is (ba la fr ep pi ge se : Int) (tx : Bool) (ct : Int) (rs : List Rc) (A : Option Addr) (n c : Nat) (w : World) (hr : RdR w w.heap.size A n rs) (hf : ∀ r ∈ rs, Fit r) (hn : n ≤ reach) {z : Bool} (hz : fewT ⟨ba, la, fr, ep, pi, ge, se, tx, ct, rs⟩ = z) :
    Calls Tryd.prog 33 #[.agg #[.int .i64 ba, .int .i64 la, .int .i64 fr, .int .i64 ep, .int .i64 pi, .int .i64 ge, .int .i64 se, .bool tx, .int .i64 ct, .slice A n c]] w fun e w' => e = .returned (.bool z) ∧ Below w.heap.size w w' := by
  have HZ := Lib.hid hz
  have HW1 := Lib.hid (bel_alloc (Below.refl w.heap.size w) (.cells #[.int .i64 ba, .int .i64 la, .int .i64 fr, .int .i64 ep, .int .i64 pi, .int .i64 ge, .int .i64 se, .bool tx, .int .i64 ct, .slice A n c] 25))
  have HB := Lib.hid (BR.new (b := ⟨ba, la, fr, ep, pi, ge, se, tx, ct, rs⟩) (c := c) 25 hr)
  have HF := Lib.hid hf
  have hn2 : n ≤ 140737488351232 := hn
  clear hz hr hf hn
  go_enter Tryd.func33, Tryd.ntmps33
  go_wp2
  generalize hw1 : w.alloc (.cells #[.int .i64 ba, .int .i64 la, .int .i64 fr, .int .i64 ep, .int .i64 pi, .int .i64 ge, .int .i64 se, .bool tx, .int .i64 ct, .slice A n c] 25) = w1 at *
  clear hw1
  go_loopw [3, 9] (fun v i wr => fwRel rs n w1 v i wr) (fun _ i _ => n - (intOf i).toNat)
  case atStart => exact ⟨0, 0, rfl, rfl, Nat.zero_le _, Nat.zero_le _, rfl, Below.refl _ _⟩
  case round =>
    obtain ⟨k, m, rfl, rfl, hk, hm, hR, hb⟩ := hrel
    have HR := Lib.hid hR
    have HBL := Lib.hid hb
    have HBR := Lib.hid (HB.out.below hb)
    clear hR hb
    by_cases hlt : k < n
    · obtain ⟨b, o, r, hA, _, hrk, hat⟩ := HBR.out.rd.at hlt
      have hfit := HF.out r (List.mem_of_getElem? hrk)
      have q1 : r.key.size ≤ 140737488351232 := hfit.2.2.1
      have q2 : r.val.size ≤ 140737488351232 := hfit.2.2.2
      have HS := Lib.hid (fewR_step (m := m) hrk)
      have HA := Lib.hid hA
      obtain ⟨a0, a1, a2, a3, a4⟩ := hat
      obtain ⟨ro, rk, rv, rd, rt⟩ := r
      simp only at a0 a1 a2 a3 a4 q1 q2
      subst hA
      clear hfit hrk HA
      by_cases hbig : 20000 < m + (rk.size + rv.size)
      · have HZF := Lib.hid (show z = false by
          rw [← HZ.out]
          unfold fewT
          simp only
          rw [HR.out, HS.out]
          simp only
          rw [if_pos hbig]
          rfl)
        have hbig2 : (20000 : Int) < (m : Int) + ((rk.size : Int) + (rv.size : Int)) := by omega
        clear hbig
        go_wp2
        go_ret
        exact ⟨by rw [HZF.out]; rfl, HW1.out.trans ((HBL.out.alloc HBL.out.size _).mono HW1.out.size)⟩
      · have HN := Lib.hid (show fewR rs 0 = fewR (rs.drop (k + 1)) (m + (rk.size + rv.size)) by
          rw [HR.out, HS.out]
          simp only
          rw [if_neg hbig])
        have hbig2 : ¬ (20000 : Int) < (m : Int) + ((rk.size : Int) + (rv.size : Int)) := by omega
        have hm2 : m + (rk.size + rv.size) ≤ 20000 := by omega
        clear hbig
        go_wp2
        go_roundw
        case rel => exact ⟨k + 1, m + (rk.size + rv.size), by go_num, by go_num, by omega, hm2, HN.out, HBL.out.alloc HBL.out.size _⟩
        case measure => simp [intOf]; omega
    · have hkn : k = n := by omega
      subst hkn
      obtain ⟨x0, x1, x2, x3, x4, x5, x6, x7, x8, x9⟩ := HBR.out.box
      have HZF := Lib.hid (show z = decide ((k : Int) ≤ 100) by
        rw [← HZ.out]
        have hl := HBR.out.rd.len
        unfold fewT
        simp only at hl ⊢
        rw [HR.out, hl, List.drop_of_length_le (by omega)]
        show (true && _) = _
        rw [Bool.true_and]
        exact decide_eq_decide.2 ⟨fun h => by omega, fun h => by omega⟩)
      go_wp2
      go_ret
      exact ⟨by rw [HZF.out]; rfl, HW1.out.trans (HBL.out.mono HW1.out.size)⟩
end Go.Proofs.YtllebgadhhgckaaDoor.Bat
