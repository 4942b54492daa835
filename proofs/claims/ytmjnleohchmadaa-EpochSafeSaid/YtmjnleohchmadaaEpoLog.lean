/- Joined: EpoLog. -/
import Derived.Test.YtmjnleohchmadaaEpoLogM
import Derived.Test.YtmjnleohchmadaaEpoOfW
import Derived.Test.YtmjnleohchmadaaEpoR1
import Derived.Deep.DeepCutAuto
/- The log of EpochSafe: a row of batches without records. -/
namespace Go.Proofs.Ytmjnleohchmadaa.Epo
open Go.RowKit Go.Proofs.Ytmjnleohchmadaa.Oct Go.Proofs.Ytmjnleohchmadaa.RowF Go.Proofs.Ytmjnleohchmadaa.Lay Go.Proofs.Ytmjnleohchmadaa.InR Go.Proofs.Ytmjnleohchmadaa.Bat

def lbC (x : Lb) : List Value := [.int .i64 x.ba, .int .i64 x.ba, .int .i64 0, .int .i64 x.ep, .int .i64 (-1), .int .i64 0, .int .i64 0, .bool false, .int .i64 0, .slice none 0 0]
theorem lbS : Shape lbC 10 := ⟨fun _ => rfl, fun x u hu => by
  simp only [lbC, List.mem_cons, List.not_mem_nil, or_false] at hu
  rcases hu with rfl | rfl | rfl | rfl | rfl | rfl | rfl | rfl | rfl | rfl <;> rfl, by decide⟩
def lbB (x : Lb) : Bt := ⟨x.ba, x.ba, 0, x.ep, -1, 0, 0, false, 0, []⟩
abbrev RdB (w : World) (B : Nat) (A : Option Addr) (n : Nat) (l : List Lb) : Prop := RdF lbC 10 w B A n l
abbrev OwnB' (w : World) (B : Nat) (v : Value) (n : Nat) (l : List Lb) : Prop := OwnF lbC 10 w 46 B v n l
theorem psB_lb (l : List Lb) : psB (l.map lbB) = psL l := by unfold psB psL; rw [List.map_map]; rfl
theorem run_appL {w : World} (base : Nat) {v : Value} {n : Nat} {l : List Lb} (hown : OwnB' w base v n l) (B : Nat) (A : Option Addr) (m c : Nat) (news : List Lb) (hr : RdB w B A m news) (hb : n + m < 1000000) (hbase : base ≤ w.heap.size) :
    ∃ A' k c' w', k = n + m ∧ (Builtin.append_ #[37, 37] 37 #[v, .slice A m c]).run Try.prog w = .ok (.slice A' k c') w' ∧ OwnB' w' base (.slice A' k c') k (l ++ news) ∧ Below base w w' := by
  obtain ⟨A', c', w', k1, k2, k3, k4⟩ := run_appFG (P := Try.prog) w lbS 96 base 37 37 46 Try.underlying37 batInfo v n l hown B A m c news hr (by omega) (by omega) hbase
  exact ⟨A', _, c', w', rfl, k1, k2, below_of_grown _ hown k3 hbase⟩
theorem logL_fit {st by' : Int} (h : by' = 1 ∨ by' = 2) (h0 : 0 ≤ st ∧ st ≤ 1000) : ∀ (rs : List UInt8) (f : Int) (i : Nat), 0 ≤ f → f + 4 * rs.length ≤ 1048576 → i + rs.length ≤ 1000 → ∀ x ∈ logL st by' f i rs, I64 x.ba ∧ I64 x.ep := by
  intro rs
  induction rs with
  | nil => intro f i _ _ _ x hx; cases hx
  | cons r rs ih =>
    intro f i h1 h2 h3 x hx
    have hr := rise h r
    rw [List.length_cons] at h2 h3
    have hx' : x ∈ (⟨st + i, f + by' * ((r.toNat % 3 : Nat) : Int)⟩ : Lb) :: logL st by' (f + by' * ((r.toNat % 3 : Nat) : Int)) (i + 1) rs := hx
    rcases List.mem_cons.1 hx' with rfl | hx
    · unfold I64; simp only; omega
    · exact ih _ _ (by omega) (by omega) (by omega) x hx
theorem rdT_lb {w : World} {B n : Nat} {A : Option Addr} {l : List Lb} (h : RdB w B A n l) (hf : ∀ x ∈ l, I64 x.ba ∧ I64 x.ep) : RdT w B A n (l.map lbB) := by
  refine ⟨by rw [List.length_map]; exact h.1, fun k x hx => ?_⟩
  rw [List.getElem?_map] at hx
  cases hy : l[k]? with
  | none => rw [hy] at hx; cases hx
  | some y =>
    rw [hy] at hx
    obtain rfl : lbB y = x := Option.some.inj hx
    obtain ⟨b, o, hA, hb, hc⟩ := h.2 k y hy
    have hyf := hf y (List.mem_of_getElem? hy)
    exact ⟨b, o, none, 0, 0, hA, hb, Nat.le_refl _, Nat.zero_le _, RdR.nil, ⟨hyf.1, hyf.1, show I64 0 by unfold I64; omega, hyf.2, show I64 (-1) by unfold I64; omega, show I64 0 by unfold I64; omega, show I64 0 by unfold I64; omega, show I64 0 by unfold I64; omega, by simp [lbB]⟩, fun i u hu => hc i u hu⟩
def logRel (st by' : Int) (X : List Lb) (rs : List UInt8) (n : Nat) (f0 : Int) (w : World) (vf vo vi : Value) (wr : World) : Prop :=
  ∃ (k : Nat) (f : Int) (A : Option Addr) (c : Nat) (out : List Lb), vi = .int .i64 (k : Int) ∧ vf = .int .i64 f ∧ vo = .slice A k c ∧ k ≤ n ∧ f0 ≤ f ∧ f ≤ f0 + 4 * k ∧ out ++ logL st by' f k (rs.drop k) = X ∧ OwnB' wr w.heap.size (.slice A k c) k out ∧ Below w.heap.size w wr
set_option maxRecDepth 100000 in
set_option maxHeartbeats 8000000 in
theorem log_is (st f0 by' : Int) (A : Option Addr) (n c : Nat) (rs : List UInt8) (w : World) (hr : Rd w w.heap.size A n rs) (hn : n ≤ 100) (hst : 0 ≤ st ∧ st ≤ 1000) (hf : 0 ≤ f0 ∧ f0 ≤ 1000) (hby : by' = 1 ∨ by' = 2) :
    Calls Try.prog 30 #[.int .i64 st, .int .i64 f0, .int .i64 by', .slice A n c] w fun e w' => ∃ A' m c', e = .returned (.slice A' m c') ∧ n = m ∧ OwnB' w' w.heap.size (.slice A' m c') m (logL st by' f0 0 rs) ∧ Below w.heap.size w w' := by
  have HR := Lib.hid hr
  have HLEN := Lib.hid hr.len
  clear hr
  go_enter Try.func30, Try.ntmps30
  go_wp2
  go_loopw [1, 9, 14] (fun vf vo vi wr => logRel st by' (logL st by' f0 0 rs) rs n f0 w vf vo vi wr) (fun _ _ vi _ => n - (intOf vi).toNat)
  case atStart => exact ⟨0, f0, none, 0, [], rfl, rfl, rfl, Nat.zero_le _, Int.le_refl _, by omega, rfl, OwnF.nil, Below.refl _ _⟩
  case round =>
    obtain ⟨k, f, A1, c1, out, rfl, rfl, rfl, hk, hf1, hf2, he, ho, hb⟩ := hrel
    have HE := Lib.hid he
    have HB2 := Lib.hid hb
    have HO2 := Lib.hid ho
    have HR2 := Lib.hid (HR.out.below hb (Nat.le_refl _))
    clear ho hb he
    by_cases hlt : k < n
    · obtain ⟨b, o, r, rfl, hbl, hrk, d0⟩ := HR2.out.at hlt
      have hri := rise hby r
      obtain ⟨M, hM⟩ : ∃ M : Int, ((r.toNat % 3 : Nat) : Int) = M := ⟨_, rfl⟩
      rw [hM] at hri
      have hm : (r.toNat : Int).tmod 3 = M := by rw [← hM]; exact Int.ofNat_tmod _ _
      obtain ⟨G, hG⟩ : ∃ G : Int, by' * M = G := ⟨_, rfl⟩
      rw [hG] at hri
      have hw0 : IntKind.i64.wrap (r.toNat : Int) = (r.toNat : Int) := IntWalk.i64_in _ (by have := r.toNat_lt; omega)
      have hw1 : IntKind.i64.wrap (by' * M) = G := by rw [hG]; exact IntWalk.i64_in _ (by omega)
      obtain ⟨f2, hf3⟩ : ∃ f2 : Int, f + G = f2 := ⟨_, rfl⟩
      have hw2 : IntKind.i64.wrap (f + G) = f2 := by rw [hf3]; exact IntWalk.i64_in _ (by omega)
      obtain ⟨ba, hba⟩ : ∃ ba : Int, st + (k : Int) = ba := ⟨_, rfl⟩
      have hw3 : IntKind.i64.wrap (st + (k : Int)) = ba := by rw [hba]; exact IntWalk.i64_in _ (by omega)
      have hw4 : IntKind.i64.wrap ((k : Int) + 1) = (k : Int) + 1 := IntWalk.i64_in _ (by omega)
      have hkl : (k : Int) < (n : Int) := by omega
      have hk0 : (0 : Int) ≤ (k : Int) := by omega
      have HS := Lib.hid (show (out ++ [(⟨ba, f2⟩ : Lb)]) ++ logL st by' f2 (k + 1) (rs.drop (k + 1)) = logL st by' f0 0 rs from by
        rw [← HE.out, List.drop_eq_getElem_cons (List.getElem?_eq_some_iff.1 hrk).1, (List.getElem?_eq_some_iff.1 hrk).2, List.append_assoc]
        show out ++ (⟨ba, f2⟩ :: logL st by' f2 (k + 1) (rs.drop (k + 1))) = out ++ (⟨st + (k : Int), f + by' * ((r.toNat % 3 : Nat) : Int)⟩ :: logL st by' (f + by' * ((r.toNat % 3 : Nat) : Int)) (k + 1) (rs.drop (k + 1)))
        rw [hM, hG, hf3, hba])
      have hbel := belA wr (.cells (lbC ⟨ba, f2⟩).toArray 46)
      obtain ⟨A7, k7, c7, w7, hk7, hrun, ho7, hb7⟩ := run_appL (w := wr.alloc (.cells (lbC ⟨ba, f2⟩).toArray 46)) w.heap.size (OwnF.below HO2.out hbel) (wr.heap.size + 1) (some ⟨wr.heap.size, 0, none⟩) 1 1 [⟨ba, f2⟩] (rdF_new _ lbS _ _) (by omega) (Nat.le_trans HB2.out.size hbel.size)
      dsimp only [lbC] at hrun
      have HO7 := Lib.hid ho7
      have HB7 := Lib.hid ((HB2.out.trans (hbel.mono HB2.out.size)).trans hb7)
      have hfr : f0 ≤ f2 ∧ f2 ≤ f0 + 4 * ((k : Int) + 1) := by omega
      subst hk7
      clear ho7 hb7 hbel hM hG hf3 hba hrk hri
      go_wp2_with (at_builtin; refine wpList_app_run rfl _ _ 37 rfl rfl rfl hrun ?_)
      go_roundw
      case rel => exact ⟨k + 1, f2, A7, c7, _, by go_num, rfl, rfl, by omega, hfr.1, by omega, HS.out, HO7.out, HB7.out⟩
      case measure => simp [intOf]; omega
    · obtain rfl : k = n := by omega
      have HE2 := Lib.hid (show out = logL st by' f0 0 rs by rw [← HE.out, List.drop_of_length_le (by rw [HLEN.out]; exact Nat.le_refl _)]; exact (List.append_nil _).symm)
      clear hlt
      go_wp2
      go_ret
      exact ⟨A1, k, c1, rfl, rfl, HE2.out ▸ HO2.out, HB2.out⟩
end Go.Proofs.Ytmjnleohchmadaa.Epo
