/- Joined: ProRR2. -/
import Derived.Test.YthhdhdjdhekgpaaDoorProRR
import Derived.Test.YthhdhdjdhekgpaaDoorProR1
import Derived.Test.YthhdhdjdhekgpaaDoorProRd3
import Derived.Test.YthhdhdjdhekgpaaDoorProG
import Derived.Test.YthhdhdjdhekgpaaDoorJCrc
import Derived.Deep.DeepCutAuto
/- The document's reader: count, blob, begin, end. -/
namespace Go.Proofs.YthhdhdjdhekgpaaDoor.Pro
open Go.RowKit Go.Proofs.YthhdhdjdhekgpaaDoor.Oct Go.Proofs.YthhdhdjdhekgpaaDoor.Rec Go.Proofs.YthhdhdjdhekgpaaDoor.Cod Go.Proofs.YthhdhdjdhekgpaaDoor.Lay Go.Proofs.YthhdhdjdhekgpaaDoor.RowF Go.Proofs.YthhdhdjdhekgpaaDoor.InR

theorem stepC2 {P : Program} {md : Region.Mode} {ops L : Array Oper} {Q : Act → World → Prop} {S : World → Prop} {k fuel m : Nat} {a : Act} {w : World} {oi oj : Oper} (hL : Hid (ops = L)) (i j m1 m2 : Nat) (hm1 : m1 = m ||| 2 ^ i) (hm2 : m2 = m ||| 2 ^ j) (hi : L[i]? = some oi) (hj : L[j]? = some oj)
    (hok : (Region.ready md L (bitsA L.size m) == [i, j]) = true) (hw : Region.wanted oi (yielded L a.tmps) = true) (hw2 : Region.wanted oj (yielded L a.tmps) = true)
    (h : Oper.wp P oi a w (fun a' w' => (i ≠ k → S w') ∧ chn P md ops Q S k fuel m1 a' w') (Nrm (lift Q))) (h2 : Oper.wp P oj a w (fun a' w' => (j ≠ k → S w') ∧ chn P md ops Q S k fuel m2 a' w') (Nrm (lift Q))) : chn P md ops Q S k (fuel + 1) m a w := by
  obtain rfl := hL.out
  subst hm1
  subst hm2
  have hr : Region.ready md ops (bitsA ops.size m) = [i, j] := by simpa using hok
  unfold chn at h h2 ⊢
  refine ⟨fun h0 => by (rw [hr] at h0; cases h0), fun x hx => ?_⟩
  rw [hr] at hx
  rcases List.mem_cons.1 hx with rfl | hx
  · refine wpOp_step hi fun K' hK => ?_
    rw [if_pos hw]
    refine Oper.wp_mono (fun a' w' h2 => hK a' w' ?_) h
    rw [bitsA_set (lt_of hi rfl)]
    exact h2
  · rw [List.mem_singleton] at hx
    subst hx
    refine wpOp_step hj fun K' hK => ?_
    rw [if_pos hw2]
    refine Oper.wp_mono (fun a' w' h3 => hK a' w' ?_) h2
    rw [bitsA_set (lt_of hj rfl)]
    exact h3
theorem wp_append {P : Program} {o : Oper} {a : Act} {w w' : World} {K : Act → World → Prop} {Q : Exit → Act → World → Prop} {vs vx v : Value} (s x : Operand) (t : TypeId)
    (ho : o.op = .call { callee := .builtin .append, args := #[s, x], argTypes := #[t, t] }) (hs : a.eval s = vs) (hx : a.eval x = vx) (hrun : (Builtin.append_ #[t, t] o.type #[vs, vx]).run P w = .ok v w') (h : K (a.put o.dst v) w') : Oper.wp P o a w K Q := by
  unfold Oper.wp execOp
  simp only [ho, resolve, invoke, builtin, Sem.run_bind, Sem.run_pure, Result.andThen_ok, List.map_toArray, List.map_cons, List.map_nil, hs, hx, hrun]
  exact h
set_option maxRecDepth 100000 in
set_option maxHeartbeats 1000000 in
theorem rcount_any (hi : Int) (g : Nat) (A : Option Addr) (n c : Nat) (p e : Int) (l : List UInt8) (B : Nat) (w : World) (hR : Rdr 79 w g (.slice A n c) p e) (hr : Rd w B A n l) (hn : n ≤ 1099511627776) (ha : At n p e) (_hB : B ≤ g) :
    Calls Tryd.prog 72 #[.pointer (some ⟨g, 0, none⟩), .int .i64 hi] w (NumR (cthat cvar (ckM hi)) mkI (fun x => I64 x ∧ (x = 0 ∨ 0 ≤ x ∧ x ≤ hi)) 79 g (.slice A n c) l n p e w) := by
  rcases h : stN l p e with ⟨x, q, z⟩
  obtain ⟨h1, h2, h3⟩ := stN_steps hr.len hn ha h
  have HS := Lib.hid h
  have HST := Lib.hid h2
  have HAT := Lib.hid h3
  have HI := Lib.hid h1
  have HR := Lib.hid hr
  have HRD := Lib.hid hR
  have hp63 : p ≤ 9223372036854775807 := by have := ha.2.1; omega
  clear h h1 h2 h3 hr hR ha
  by_cases hz : z = 0
  · subst hz
    by_cases hlo : x < 0
    · have HC := Lib.hid (show ckM hi x = 11 by unfold ckM; rw [if_pos hlo])
      go_enter Tryd.func72, Tryd.ntmps72
      go_wp2_with (go_at_call 52; (with_reducible refine (rnum_is g A n c p e l B _ HRD.out HR.out hn hp63 HS.out).mono ?_); rintro e w8 ⟨rfl, hr8, hg8⟩; have HR8 := Lib.hid hr8; have HG8 := Lib.hid hg8; have c2 := hr8.c2; have f2 := hr8.f 2; clear hr8 hg8)
      go_ret
      exact ⟨0, q, 11, rfl, ⟨⟨by omega, by omega⟩, .inl rfl⟩, (HST.out.that (fun h => absurd rfl h) (fun _ => HC.out)).other (by decide), ⟨HAT.out.1, HAT.out.2.1, fun h => absurd h (by decide)⟩, HR8.out.set2 _, gb_trans HG8.out (gb_set _ _ _ _)⟩
    · by_cases hhi : hi < x
      · have HC := Lib.hid (show ckM hi x = 2 by unfold ckM; rw [if_neg hlo, if_pos hhi])
        go_enter Tryd.func72, Tryd.ntmps72
        go_wp2_with (go_at_call 52; (with_reducible refine (rnum_is g A n c p e l B _ HRD.out HR.out hn hp63 HS.out).mono ?_); rintro e w8 ⟨rfl, hr8, hg8⟩; have HR8 := Lib.hid hr8; have HG8 := Lib.hid hg8; have c2 := hr8.c2; have f2 := hr8.f 2; clear hr8 hg8)
        go_ret
        exact ⟨0, q, 2, rfl, ⟨⟨by omega, by omega⟩, .inl rfl⟩, (HST.out.that (fun h => absurd rfl h) (fun _ => HC.out)).other (by decide), ⟨HAT.out.1, HAT.out.2.1, fun h => absurd h (by decide)⟩, HR8.out.set2 _, gb_trans HG8.out (gb_set _ _ _ _)⟩
      · have HC := Lib.hid (show ckM hi x = 0 by unfold ckM; rw [if_neg hlo, if_neg hhi])
        have HLH := Lib.hid (show 0 ≤ x ∧ x ≤ hi by omega)
        go_enter Tryd.func72, Tryd.ntmps72
        go_wp2_with (go_at_call 52; (with_reducible refine (rnum_is g A n c p e l B _ HRD.out HR.out hn hp63 HS.out).mono ?_); rintro e w8 ⟨rfl, hr8, hg8⟩; have HR8 := Lib.hid hr8; have HG8 := Lib.hid hg8; have c2 := hr8.c2; have f2 := hr8.f 2; clear hr8 hg8)
        go_ret
        exact ⟨x, q, 0, rfl, ⟨HI.out, .inr HLH.out⟩, HST.out.that (fun h => absurd rfl h) (fun _ => HC.out), HAT.out, HR8.out, HG8.out⟩
  · have hzN : (z == 0) = false := beqF hz
    have hzM : (z != 0) = true := by simp [hz]
    have HZ := Lib.hid hz
    clear hz
    go_enter Tryd.func72, Tryd.ntmps72
    go_wp2_with (go_at_call 52; (with_reducible refine (rnum_is g A n c p e l B _ HRD.out HR.out hn hp63 HS.out).mono ?_); rintro e w8 ⟨rfl, hr8, hg8⟩; have HR8 := Lib.hid hr8; have HG8 := Lib.hid hg8; have c2 := hr8.c2; have f2 := hr8.f 2; clear hr8 hg8)
    go_ret
    exact ⟨0, q, z, rfl, ⟨⟨by omega, by omega⟩, .inl rfl⟩, (HST.out.that (fun _ => rfl) (fun h => absurd h HZ.out)).other HZ.out, HAT.out, HR8.out, HG8.out⟩
/-- the numbers of end's and blob's regions -/
def tb_rend : List (Nat × Nat) := [(0, 131071), (1, 131070), (2, 131069), (4, 131067), (8, 131063), (16, 131055), (32, 131039), (96, 130975), (160, 130911), (288, 130783), (32, 131039), (1056, 130015), (2080, 128991), (4128, 126943), (8224, 122847), (16928, 114143), (32800, 98271)]
def tb_rbl2 : List (Nat × Nat) := [(0, 524287), (1, 524286), (2, 524285), (4, 524283), (8, 524279), (16, 524271), (32, 524255), (32, 524255), (160, 524127), (288, 523999), (544, 523743), (1056, 523231), (32, 524255), (4128, 520159), (8224, 516063), (16416, 507871), (34848, 489439), (65632, 458655), (131104, 393183)]
def tb_rbl7 : List (Nat × Nat) := [(0, 262143), (0, 262143), (2, 262141), (4, 262139), (8, 262135), (0, 262143), (32, 262111), (64, 262079), (128, 262015), (0, 262143), (768, 261375), (0, 262143), (2048, 260095), (4096, 258047), (8192, 253951), (17424, 244719), (32769, 229374), (131071, 196607)]
set_option maxRecDepth 100000 in
set_option maxHeartbeats 2000000 in
theorem rend_any (g : Nat) (A : Option Addr) (n c : Nat) (p e : Int) (w : World) (hR : Rdr 79 w g (.slice A n c) p e) (ha : At n p e) :
    Calls Tryd.prog 59 #[.pointer (some ⟨g, 0, none⟩)] w fun en w' => en = .returned (.int .i64 (enE n p e)) ∧ Rdr 79 w' g (.slice A n c) p e ∧ w.grownBy w' (some g) := by
  have HRD := Lib.hid hR
  have hmx : Tryd.prog.follows .mixedOrders = true := by kernel_rfl
  have HS0 := Lib.hid (show Rdr 79 w.drew g (.slice A n c) p e from hR.drew)
  have ha3 := ha.2.2
  clear hR ha
  rcases h1 : (e == 0) with _ | _
  · have HE := Lib.hid (show enE n p e = e by unfold enE; rw [if_pos (by intro h; rw [h] at h1; cases h1)])
    go_enter Tryd.func59, Tryd.ntmps59
    go_wp2
    refine region_let (fun W9 : World => Rdr 79 W9 g (.slice A n c) p e) 99 17 hmx rfl fun ops Q HOPS HQ => ?_
    have HREG := reg_of HOPS tb_rend rfl (by kernel_rfl) (by kernel_rfl) (by decide)
    refine stepTQ HOPS HREG 0 1 ?_ (by decide) rfl (by kernel_rfl) (by kernel_rfl) rfl ?_ HS0.out ?_
    rotate_left
    · intro w9 hS9; have q0 := hS9.c0; have q1 := hS9.c1; have q2 := hS9.c2; go_simp; (first | done | with_reducible rfl)
    dsimp only [List.set_cons_zero, List.set_cons_succ]
    refine stepTQ HOPS HREG 1 3 ?_ (by decide) rfl (by kernel_rfl) (by kernel_rfl) rfl ?_ HS0.out ?_
    rotate_left
    · intro w9 hS9; have q0 := hS9.c0; have q1 := hS9.c1; have q2 := hS9.c2; go_simp; (first | done | with_reducible rfl)
    dsimp only [List.set_cons_zero, List.set_cons_succ]
    refine stepTQ HOPS HREG 2 7 ?_ (by decide) rfl (by kernel_rfl) (by kernel_rfl) rfl ?_ HS0.out ?_
    rotate_left
    · intro w9 hS9; have q0 := hS9.c0; have q1 := hS9.c1; have q2 := hS9.c2; go_simp; (first | done | with_reducible rfl)
    dsimp only [List.set_cons_zero, List.set_cons_succ]
    refine stepTQ HOPS HREG 3 15 ?_ (by decide) rfl (by kernel_rfl) (by kernel_rfl) rfl ?_ HS0.out ?_
    rotate_left
    · intro w9 hS9; have q0 := hS9.c0; have q1 := hS9.c1; have q2 := hS9.c2; go_simp; (first | done | with_reducible rfl)
    dsimp only [List.set_cons_zero, List.set_cons_succ]
    refine stepTQ HOPS HREG 4 31 ?_ (by decide) rfl (by kernel_rfl) (by kernel_rfl) rfl ?_ HS0.out ?_
    rotate_left
    · intro w9 hS9; have q0 := hS9.c0; have q1 := hS9.c1; have q2 := hS9.c2; go_simp; (first | done | with_reducible rfl)
    dsimp only [List.set_cons_zero, List.set_cons_succ]
    refine stepTQ HOPS HREG 5 63 ?_ (by decide) rfl (by kernel_rfl) (by kernel_rfl) rfl ?_ HS0.out ?_
    rotate_left
    · intro w9 hS9; have q0 := hS9.c0; have q1 := hS9.c1; have q2 := hS9.c2; go_simp; (first | done | with_reducible rfl)
    dsimp only [List.set_cons_zero, List.set_cons_succ]
    refine stepTU HOPS HREG 6 127 (by decide) rfl (by kernel_rfl) (by kernel_rfl) rfl HS0.out ?_
    dsimp only [List.set_cons_zero, List.set_cons_succ]
    refine stepTU HOPS HREG 7 255 (by decide) rfl (by kernel_rfl) (by kernel_rfl) rfl HS0.out ?_
    dsimp only [List.set_cons_zero, List.set_cons_succ]
    refine stepTU HOPS HREG 8 511 (by decide) rfl (by kernel_rfl) (by kernel_rfl) rfl HS0.out ?_
    dsimp only [List.set_cons_zero, List.set_cons_succ]
    refine stepTU HOPS HREG 9 1023 (by decide) rfl (by kernel_rfl) (by kernel_rfl) rfl HS0.out ?_
    dsimp only [List.set_cons_zero, List.set_cons_succ]
    refine stepTU HOPS HREG 10 2047 (by decide) rfl (by kernel_rfl) (by kernel_rfl) rfl HS0.out ?_
    dsimp only [List.set_cons_zero, List.set_cons_succ]
    refine stepTU HOPS HREG 11 4095 (by decide) rfl (by kernel_rfl) (by kernel_rfl) rfl HS0.out ?_
    dsimp only [List.set_cons_zero, List.set_cons_succ]
    refine stepTU HOPS HREG 12 8191 (by decide) rfl (by kernel_rfl) (by kernel_rfl) rfl HS0.out ?_
    dsimp only [List.set_cons_zero, List.set_cons_succ]
    refine stepTU HOPS HREG 13 16383 (by decide) rfl (by kernel_rfl) (by kernel_rfl) rfl HS0.out ?_
    dsimp only [List.set_cons_zero, List.set_cons_succ]
    refine stepTU HOPS HREG 14 32767 (by decide) rfl (by kernel_rfl) (by kernel_rfl) rfl HS0.out ?_
    dsimp only [List.set_cons_zero, List.set_cons_succ]
    refine stepTU HOPS HREG 15 65535 (by decide) rfl (by kernel_rfl) (by kernel_rfl) rfl HS0.out ?_
    dsimp only [List.set_cons_zero, List.set_cons_succ]
    refine stepTQ HOPS HREG 16 131071 ?_ (by decide) rfl (by kernel_rfl) (by kernel_rfl) rfl ?_ HS0.out ?_
    rotate_left
    · intro w9 hS9; have q0 := hS9.c0; have q1 := hS9.c1; have q2 := hS9.c2; go_simp; (first | done | with_reducible rfl)
    dsimp only [List.set_cons_zero, List.set_cons_succ]
    refine stepE HOPS (by kernel_rfl) (HQ.out _ _ ?_)
    clear HQ HREG HOPS
    clear Q ops
    have k2 := HRD.out.drew.c2
    go_wp2
    go_ret
    exact ⟨by rw [HE.out]; rfl, HRD.out.drew, gb_drew _ _⟩
  · obtain rfl : e = 0 := by simpa using h1
    have hpn := ha3 rfl
    clear ha3
    rcases h2 : (p != (n : Int)) with _ | _
    · have HE := Lib.hid (show enE n p 0 = 0 by unfold enE; have : p = (n : Int) := (by simpa using h2); rw [if_neg (by simp), if_neg (by omega)])
      go_enter Tryd.func59, Tryd.ntmps59
      go_wp2
      refine region_let (fun W9 : World => Rdr 79 W9 g (.slice A n c) p 0) 99 17 hmx rfl fun ops Q HOPS HQ => ?_
      have HREG := reg_of HOPS tb_rend rfl (by kernel_rfl) (by kernel_rfl) (by decide)
      refine stepTQ HOPS HREG 0 1 ?_ (by decide) rfl (by kernel_rfl) (by kernel_rfl) rfl ?_ HS0.out ?_
      rotate_left
      · intro w9 hS9; have q0 := hS9.c0; have q1 := hS9.c1; have q2 := hS9.c2; go_simp; (first | done | with_reducible rfl)
      dsimp only [List.set_cons_zero, List.set_cons_succ]
      refine stepTQ HOPS HREG 1 3 ?_ (by decide) rfl (by kernel_rfl) (by kernel_rfl) rfl ?_ HS0.out ?_
      rotate_left
      · intro w9 hS9; have q0 := hS9.c0; have q1 := hS9.c1; have q2 := hS9.c2; go_simp; (first | done | with_reducible rfl)
      dsimp only [List.set_cons_zero, List.set_cons_succ]
      refine stepTQ HOPS HREG 2 7 ?_ (by decide) rfl (by kernel_rfl) (by kernel_rfl) rfl ?_ HS0.out ?_
      rotate_left
      · intro w9 hS9; have q0 := hS9.c0; have q1 := hS9.c1; have q2 := hS9.c2; go_simp; (first | done | with_reducible rfl)
      dsimp only [List.set_cons_zero, List.set_cons_succ]
      refine stepTQ HOPS HREG 3 15 ?_ (by decide) rfl (by kernel_rfl) (by kernel_rfl) rfl ?_ HS0.out ?_
      rotate_left
      · intro w9 hS9; have q0 := hS9.c0; have q1 := hS9.c1; have q2 := hS9.c2; go_simp; (first | done | with_reducible rfl)
      dsimp only [List.set_cons_zero, List.set_cons_succ]
      refine stepTQ HOPS HREG 4 31 ?_ (by decide) rfl (by kernel_rfl) (by kernel_rfl) rfl ?_ HS0.out ?_
      rotate_left
      · intro w9 hS9; have q0 := hS9.c0; have q1 := hS9.c1; have q2 := hS9.c2; go_simp; (first | done | with_reducible rfl)
      dsimp only [List.set_cons_zero, List.set_cons_succ]
      refine stepTQ HOPS HREG 5 63 ?_ (by decide) rfl (by kernel_rfl) (by kernel_rfl) rfl ?_ HS0.out ?_
      rotate_left
      · intro w9 hS9; have q0 := hS9.c0; have q1 := hS9.c1; have q2 := hS9.c2; go_simp; (first | done | with_reducible rfl)
      dsimp only [List.set_cons_zero, List.set_cons_succ]
      refine stepTQ HOPS HREG 6 127 ?_ (by decide) rfl (by kernel_rfl) (by kernel_rfl) rfl ?_ HS0.out ?_
      rotate_left
      · intro w9 hS9; have q0 := hS9.c0; have q1 := hS9.c1; have q2 := hS9.c2; go_simp; (first | done | with_reducible rfl)
      dsimp only [List.set_cons_zero, List.set_cons_succ]
      refine stepTQ HOPS HREG 7 255 ?_ (by decide) rfl (by kernel_rfl) (by kernel_rfl) rfl ?_ HS0.out ?_
      rotate_left
      · intro w9 hS9; have q0 := hS9.c0; have q1 := hS9.c1; have q2 := hS9.c2; go_simp; (first | done | with_reducible rfl)
      dsimp only [List.set_cons_zero, List.set_cons_succ]
      refine stepTQ HOPS HREG 8 511 ?_ (by decide) rfl (by kernel_rfl) (by kernel_rfl) rfl ?_ HS0.out ?_
      rotate_left
      · intro w9 hS9; have q0 := hS9.c0; have q1 := hS9.c1; have q2 := hS9.c2; go_simp; (first | done | with_reducible rfl)
      dsimp only [List.set_cons_zero, List.set_cons_succ]
      refine stepTQ HOPS HREG 9 1023 ?_ (by decide) rfl (by kernel_rfl) (by kernel_rfl) rfl ?_ HS0.out ?_
      rotate_left
      · intro w9 hS9; have q0 := hS9.c0; have q1 := hS9.c1; have q2 := hS9.c2; go_simp; (first | done | with_reducible rfl)
      dsimp only [List.set_cons_zero, List.set_cons_succ]
      refine stepTQ HOPS HREG 10 2047 ?_ (by decide) rfl (by kernel_rfl) (by kernel_rfl) rfl ?_ HS0.out ?_
      rotate_left
      · intro w9 hS9; have q0 := hS9.c0; have q1 := hS9.c1; have q2 := hS9.c2; go_simp; (first | done | with_reducible rfl)
      dsimp only [List.set_cons_zero, List.set_cons_succ]
      refine stepTQ HOPS HREG 11 4095 ?_ (by decide) rfl (by kernel_rfl) (by kernel_rfl) rfl ?_ HS0.out ?_
      rotate_left
      · intro w9 hS9; have q0 := hS9.c0; have q1 := hS9.c1; have q2 := hS9.c2; go_simp; (first | done | with_reducible rfl)
      dsimp only [List.set_cons_zero, List.set_cons_succ]
      refine stepTQ HOPS HREG 12 8191 ?_ (by decide) rfl (by kernel_rfl) (by kernel_rfl) rfl ?_ HS0.out ?_
      rotate_left
      · intro w9 hS9; have q0 := hS9.c0; have q1 := hS9.c1; have q2 := hS9.c2; go_simp; (first | done | with_reducible rfl)
      dsimp only [List.set_cons_zero, List.set_cons_succ]
      refine stepTQ HOPS HREG 13 16383 ?_ (by decide) rfl (by kernel_rfl) (by kernel_rfl) rfl ?_ HS0.out ?_
      rotate_left
      · intro w9 hS9; have q0 := hS9.c0; have q1 := hS9.c1; have q2 := hS9.c2; go_simp; (first | done | with_reducible rfl)
      dsimp only [List.set_cons_zero, List.set_cons_succ]
      refine stepTQ HOPS HREG 14 32767 ?_ (by decide) rfl (by kernel_rfl) (by kernel_rfl) rfl ?_ HS0.out ?_
      rotate_left
      · intro w9 hS9; have q0 := hS9.c0; have q1 := hS9.c1; have q2 := hS9.c2; go_simp; (first | done | with_reducible rfl)
      dsimp only [List.set_cons_zero, List.set_cons_succ]
      refine stepTQ HOPS HREG 15 65535 ?_ (by decide) rfl (by kernel_rfl) (by kernel_rfl) rfl ?_ HS0.out ?_
      rotate_left
      · intro w9 hS9; have q0 := hS9.c0; have q1 := hS9.c1; have q2 := hS9.c2; go_simp; (first | done | with_reducible rfl)
      dsimp only [List.set_cons_zero, List.set_cons_succ]
      refine stepTQ HOPS HREG 16 131071 ?_ (by decide) rfl (by kernel_rfl) (by kernel_rfl) rfl ?_ HS0.out ?_
      rotate_left
      · intro w9 hS9; have q0 := hS9.c0; have q1 := hS9.c1; have q2 := hS9.c2; go_simp; (first | done | with_reducible rfl)
      dsimp only [List.set_cons_zero, List.set_cons_succ]
      refine stepE HOPS (by kernel_rfl) (HQ.out _ _ ?_)
      clear HQ HREG HOPS
      clear Q ops
      have k2 := HRD.out.drew.c2
      go_wp2
      go_ret
      exact ⟨by rw [HE.out]; rfl, HRD.out.drew, gb_drew _ _⟩
    · have HE := Lib.hid (show enE n p 0 = 11 by unfold enE; have : p ≠ (n : Int) := (by simpa using h2); rw [if_neg (by simp), if_pos (by omega)])
      go_enter Tryd.func59, Tryd.ntmps59
      go_wp2
      refine region_let (fun W9 : World => Rdr 79 W9 g (.slice A n c) p 0) 99 17 hmx rfl fun ops Q HOPS HQ => ?_
      have HREG := reg_of HOPS tb_rend rfl (by kernel_rfl) (by kernel_rfl) (by decide)
      refine stepTQ HOPS HREG 0 1 ?_ (by decide) rfl (by kernel_rfl) (by kernel_rfl) rfl ?_ HS0.out ?_
      rotate_left
      · intro w9 hS9; have q0 := hS9.c0; have q1 := hS9.c1; have q2 := hS9.c2; go_simp; (first | done | with_reducible rfl)
      dsimp only [List.set_cons_zero, List.set_cons_succ]
      refine stepTQ HOPS HREG 1 3 ?_ (by decide) rfl (by kernel_rfl) (by kernel_rfl) rfl ?_ HS0.out ?_
      rotate_left
      · intro w9 hS9; have q0 := hS9.c0; have q1 := hS9.c1; have q2 := hS9.c2; go_simp; (first | done | with_reducible rfl)
      dsimp only [List.set_cons_zero, List.set_cons_succ]
      refine stepTQ HOPS HREG 2 7 ?_ (by decide) rfl (by kernel_rfl) (by kernel_rfl) rfl ?_ HS0.out ?_
      rotate_left
      · intro w9 hS9; have q0 := hS9.c0; have q1 := hS9.c1; have q2 := hS9.c2; go_simp; (first | done | with_reducible rfl)
      dsimp only [List.set_cons_zero, List.set_cons_succ]
      refine stepTQ HOPS HREG 3 15 ?_ (by decide) rfl (by kernel_rfl) (by kernel_rfl) rfl ?_ HS0.out ?_
      rotate_left
      · intro w9 hS9; have q0 := hS9.c0; have q1 := hS9.c1; have q2 := hS9.c2; go_simp; (first | done | with_reducible rfl)
      dsimp only [List.set_cons_zero, List.set_cons_succ]
      refine stepTQ HOPS HREG 4 31 ?_ (by decide) rfl (by kernel_rfl) (by kernel_rfl) rfl ?_ HS0.out ?_
      rotate_left
      · intro w9 hS9; have q0 := hS9.c0; have q1 := hS9.c1; have q2 := hS9.c2; go_simp; (first | done | with_reducible rfl)
      dsimp only [List.set_cons_zero, List.set_cons_succ]
      refine stepTQ HOPS HREG 5 63 ?_ (by decide) rfl (by kernel_rfl) (by kernel_rfl) rfl ?_ HS0.out ?_
      rotate_left
      · intro w9 hS9; have q0 := hS9.c0; have q1 := hS9.c1; have q2 := hS9.c2; go_simp; (first | done | with_reducible rfl)
      dsimp only [List.set_cons_zero, List.set_cons_succ]
      refine stepTQ HOPS HREG 6 127 ?_ (by decide) rfl (by kernel_rfl) (by kernel_rfl) rfl ?_ HS0.out ?_
      rotate_left
      · intro w9 hS9; have q0 := hS9.c0; have q1 := hS9.c1; have q2 := hS9.c2; go_simp; (first | done | with_reducible rfl)
      dsimp only [List.set_cons_zero, List.set_cons_succ]
      refine stepTQ HOPS HREG 7 255 ?_ (by decide) rfl (by kernel_rfl) (by kernel_rfl) rfl ?_ HS0.out ?_
      rotate_left
      · intro w9 hS9; have q0 := hS9.c0; have q1 := hS9.c1; have q2 := hS9.c2; go_simp; (first | done | with_reducible rfl)
      dsimp only [List.set_cons_zero, List.set_cons_succ]
      refine stepTQ HOPS HREG 8 511 ?_ (by decide) rfl (by kernel_rfl) (by kernel_rfl) rfl ?_ HS0.out ?_
      rotate_left
      · intro w9 hS9; have q0 := hS9.c0; have q1 := hS9.c1; have q2 := hS9.c2; go_simp; (first | done | with_reducible rfl)
      dsimp only [List.set_cons_zero, List.set_cons_succ]
      refine stepTQ HOPS HREG 9 1023 ?_ (by decide) rfl (by kernel_rfl) (by kernel_rfl) rfl ?_ HS0.out ?_
      rotate_left
      · intro w9 hS9; have q0 := hS9.c0; have q1 := hS9.c1; have q2 := hS9.c2; go_simp; (first | done | with_reducible rfl)
      dsimp only [List.set_cons_zero, List.set_cons_succ]
      refine stepTQ HOPS HREG 10 2047 ?_ (by decide) rfl (by kernel_rfl) (by kernel_rfl) rfl ?_ HS0.out ?_
      rotate_left
      · intro w9 hS9; have q0 := hS9.c0; have q1 := hS9.c1; have q2 := hS9.c2; go_simp; (first | done | with_reducible rfl)
      dsimp only [List.set_cons_zero, List.set_cons_succ]
      refine stepTQ HOPS HREG 11 4095 ?_ (by decide) rfl (by kernel_rfl) (by kernel_rfl) rfl ?_ HS0.out ?_
      rotate_left
      · intro w9 hS9; have q0 := hS9.c0; have q1 := hS9.c1; have q2 := hS9.c2; go_simp; (first | done | with_reducible rfl)
      dsimp only [List.set_cons_zero, List.set_cons_succ]
      refine stepTQ HOPS HREG 12 8191 ?_ (by decide) rfl (by kernel_rfl) (by kernel_rfl) rfl ?_ HS0.out ?_
      rotate_left
      · intro w9 hS9; have q0 := hS9.c0; have q1 := hS9.c1; have q2 := hS9.c2; go_simp; (first | done | with_reducible rfl)
      dsimp only [List.set_cons_zero, List.set_cons_succ]
      refine stepTQ HOPS HREG 13 16383 ?_ (by decide) rfl (by kernel_rfl) (by kernel_rfl) rfl ?_ HS0.out ?_
      rotate_left
      · intro w9 hS9; have q0 := hS9.c0; have q1 := hS9.c1; have q2 := hS9.c2; go_simp; (first | done | with_reducible rfl)
      dsimp only [List.set_cons_zero, List.set_cons_succ]
      refine stepTQ HOPS HREG 14 32767 ?_ (by decide) rfl (by kernel_rfl) (by kernel_rfl) rfl ?_ HS0.out ?_
      rotate_left
      · intro w9 hS9; have q0 := hS9.c0; have q1 := hS9.c1; have q2 := hS9.c2; go_simp; (first | done | with_reducible rfl)
      dsimp only [List.set_cons_zero, List.set_cons_succ]
      refine stepTQ HOPS HREG 15 65535 ?_ (by decide) rfl (by kernel_rfl) (by kernel_rfl) rfl ?_ HS0.out ?_
      rotate_left
      · intro w9 hS9; have q0 := hS9.c0; have q1 := hS9.c1; have q2 := hS9.c2; go_simp; (first | done | with_reducible rfl)
      dsimp only [List.set_cons_zero, List.set_cons_succ]
      refine stepTQ HOPS HREG 16 131071 ?_ (by decide) rfl (by kernel_rfl) (by kernel_rfl) rfl ?_ HS0.out ?_
      rotate_left
      · intro w9 hS9; have q0 := hS9.c0; have q1 := hS9.c1; have q2 := hS9.c2; go_simp; (first | done | with_reducible rfl)
      dsimp only [List.set_cons_zero, List.set_cons_succ]
      refine stepE HOPS (by kernel_rfl) (HQ.out _ _ ?_)
      clear HQ HREG HOPS
      clear Q ops
      have k2 := HRD.out.drew.c2
      go_wp2
      go_ret
      exact ⟨by rw [HE.out]; rfl, HRD.out.drew, gb_drew _ _⟩
def tb_rbeg : List (Nat × Nat) := [(0, 16383), (1, 16382), (2, 16381), (0, 16383), (8, 16375), (16, 16367), (32, 16351), (0, 16383), (128, 16255), (256, 16127), (512, 15871), (1088, 15295), (2055, 16379), (8191, 14335)]
set_option maxRecDepth 100000 in
set_option maxHeartbeats 2000000 in
theorem rbegin_short (A : Option Addr) (n c : Nat) (w : World) (hn : n < 2) :
    Calls Tryd.prog 51 #[.slice A n c] w fun en w' => en = .returned (.tuple #[.pointer none, .int .i64 10]) ∧ w = w' := by
  go_enter Tryd.func51, Tryd.ntmps51
  go_wp2
  go_ret2
  exact ⟨rfl, rfl⟩
set_option maxRecDepth 100000 in
set_option maxHeartbeats 4000000 in
theorem rbegin_any (A : Option Addr) (n c : Nat) (l : List UInt8) (w : World) (hr : Rd w w.heap.size A n l) (hn : 2 ≤ n) {z : Int} (hz : known (kv l 0).1 (kv l 0).2 = z) :
    Calls Tryd.prog 51 #[.slice A n c] w fun en w' => en = .returned (.tuple #[.pointer (some ⟨w.heap.size, 0, none⟩), .int .i64 z]) ∧ Rdr 79 w' w.heap.size (.slice A n c) 2 0 ∧ Below w.heap.size w w' ∧ w'.heap.size = w.heap.size + 1 := by
  obtain ⟨b, o, c0, rfl, hb, h0, x0⟩ := hr.at (k := 0) (by omega)
  obtain ⟨b', o', c1, e', hb', h1, x1⟩ := hr.at (k := 1) (by omega)
  obtain ⟨rfl, rfl⟩ : b = b' ∧ o = o' := by simpa using e'
  rw [Nat.add_zero] at x0
  have hkv : kv l 0 = ((c0.toNat : Int), (c1.toNat : Int)) := by unfold kv; simp only [Int.toNat_zero, Nat.zero_add]; rw [h0, h1]; rfl
  rw [hkv] at hz
  have HZ := Lib.hid hz
  have hw0 : IntKind.i64.wrap (c0.toNat : Int) = (c0.toNat : Int) := IntWalk.i64_in _ (by have := c0.toNat_lt; omega)
  have hw1 : IntKind.i64.wrap (c1.toNat : Int) = (c1.toNat : Int) := IntWalk.i64_in _ (by have := c1.toNat_lt; omega)
  have hmx : Tryd.prog.follows .mixedOrders = true := by kernel_rfl
  have hn0 : 0 < n := by omega
  have hn1 : (1 : Int) < (n : Int) := by omega
  have d0 : w.drew.cell? ⟨b, o, none⟩ = some (.int .u8 (c0.toNat : Int)) := x0
  have d1 : w.drew.cell? ⟨b, o + 1, none⟩ = some (.int .u8 (c1.toNat : Int)) := x1
  clear hz hkv h0 h1 e' hb' hr
  go_enter Tryd.func51, Tryd.ntmps51
  go_wp2
  refine region_let (fun W9 : World => W9.cell? ⟨b, o, none⟩ = some (.int .u8 (c0.toNat : Int)) ∧ W9.cell? ⟨b, o + 1, none⟩ = some (.int .u8 (c1.toNat : Int))) 99 14 hmx rfl fun ops Q HOPS HQ => ?_
  have HREG := reg_of HOPS tb_rbeg rfl (by kernel_rfl) (by kernel_rfl) (by decide)
  have HS0 := Lib.hid (show w.drew.cell? ⟨b, o, none⟩ = some (.int .u8 (c0.toNat : Int)) ∧ w.drew.cell? ⟨b, o + 1, none⟩ = some (.int .u8 (c1.toNat : Int)) from ⟨d0, d1⟩)
  have HS1 := Lib.hid (show (w.alloc (.cells #[.slice (some ⟨b, o, none⟩) n c, .int .i64 2, .int .i64 0] 79)).drew.cell? ⟨b, o, none⟩ = some (.int .u8 (c0.toNat : Int)) ∧ (w.alloc (.cells #[.slice (some ⟨b, o, none⟩) n c, .int .i64 2, .int .i64 0] 79)).drew.cell? ⟨b, o + 1, none⟩ = some (.int .u8 (c1.toNat : Int)) from by constructor <;> go_simp)
  refine stepTQ HOPS HREG 0 1 ?_ (by decide) rfl (by kernel_rfl) (by kernel_rfl) rfl ?_ HS0.out ?_
  rotate_left
  · intro w9 hS9; obtain ⟨q0, q1⟩ := hS9; go_simp; (first | done | with_reducible rfl)
  dsimp only [List.set_cons_zero, List.set_cons_succ]
  refine stepTQ HOPS HREG 1 3 ?_ (by decide) rfl (by kernel_rfl) (by kernel_rfl) rfl ?_ HS0.out ?_
  rotate_left
  · intro w9 hS9; obtain ⟨q0, q1⟩ := hS9; go_simp; (first | done | with_reducible rfl)
  dsimp only [List.set_cons_zero, List.set_cons_succ]
  refine stepTQ HOPS HREG 3 11 ?_ (by decide) rfl (by kernel_rfl) (by kernel_rfl) rfl ?_ HS0.out ?_
  rotate_left
  · intro w9 hS9; obtain ⟨q0, q1⟩ := hS9; go_simp; (first | done | with_reducible rfl)
  dsimp only [List.set_cons_zero, List.set_cons_succ]
  refine stepTQ HOPS HREG 4 27 ?_ (by decide) rfl (by kernel_rfl) (by kernel_rfl) rfl ?_ HS0.out ?_
  rotate_left
  · intro w9 hS9; obtain ⟨q0, q1⟩ := hS9; go_simp; (first | done | with_reducible rfl)
  dsimp only [List.set_cons_zero, List.set_cons_succ]
  refine stepTQ HOPS HREG 5 59 ?_ (by decide) rfl (by kernel_rfl) (by kernel_rfl) rfl ?_ HS0.out ?_
  rotate_left
  · intro w9 hS9; obtain ⟨q0, q1⟩ := hS9; go_simp; (first | done | with_reducible rfl)
  dsimp only [List.set_cons_zero, List.set_cons_succ]
  refine stepTQ HOPS HREG 6 123 ?_ (by decide) rfl (by kernel_rfl) (by kernel_rfl) rfl ?_ HS0.out ?_
  rotate_left
  · intro w9 hS9; obtain ⟨q0, q1⟩ := hS9; go_simp; (first | done | with_reducible rfl)
  dsimp only [List.set_cons_zero, List.set_cons_succ]
  refine stepTQ HOPS HREG 7 251 ?_ (by decide) rfl (by kernel_rfl) (by kernel_rfl) rfl ?_ HS0.out ?_
  rotate_left
  · intro w9 hS9; obtain ⟨q0, q1⟩ := hS9; go_simp; (first | done | with_reducible rfl)
  dsimp only [List.set_cons_zero, List.set_cons_succ]
  refine stepTQ HOPS HREG 8 507 ?_ (by decide) rfl (by kernel_rfl) (by kernel_rfl) rfl ?_ HS0.out ?_
  rotate_left
  · intro w9 hS9; obtain ⟨q0, q1⟩ := hS9; go_simp; (first | done | with_reducible rfl)
  dsimp only [List.set_cons_zero, List.set_cons_succ]
  refine stepTQ HOPS HREG 9 1019 ?_ (by decide) rfl (by kernel_rfl) (by kernel_rfl) rfl ?_ HS0.out ?_
  rotate_left
  · intro w9 hS9; obtain ⟨q0, q1⟩ := hS9; go_simp; (first | done | with_reducible rfl)
  dsimp only [List.set_cons_zero, List.set_cons_succ]
  refine stepTQ HOPS HREG 10 2043 ?_ (by decide) rfl (by kernel_rfl) (by kernel_rfl) rfl ?_ HS0.out ?_
  rotate_left
  · intro w9 hS9; obtain ⟨q0, q1⟩ := hS9; go_simp; (first | done | with_reducible rfl)
  dsimp only [List.set_cons_zero, List.set_cons_succ]
  refine stepC2 HOPS 2 11 2047 4091 (by decide) (by decide) rfl rfl (by kernel_rfl) (by kernel_rfl) (by kernel_rfl) ?_ ?_
  · go_simp
    try simp only [Act.put, List.setIfInBounds_toArray, List.set_cons_zero, List.set_cons_succ]
    refine stepC HOPS 11 4095 (by decide) rfl (by kernel_rfl) (by kernel_rfl) ?_
    go_simp
    with_reducible refine (refknown_any _ _ _).mono ?_
    rw [HZ.out]
    rintro e w8 ⟨rfl, rfl⟩
    dsimp only
    refine ⟨HS1.out, ?_⟩
    try simp only [Act.put, List.setIfInBounds_toArray, List.set_cons_zero, List.set_cons_succ]
    refine stepTQ HOPS HREG 12 8191 ?_ (by decide) rfl (by kernel_rfl) (by kernel_rfl) rfl ?_ HS1.out ?_
    rotate_left
    · intro w9 hS9; obtain ⟨q0, q1⟩ := hS9; go_simp; (first | done | with_reducible rfl)
    dsimp only [List.set_cons_zero, List.set_cons_succ]
    refine stepTQ HOPS HREG 13 16383 ?_ (by decide) rfl (by kernel_rfl) (by kernel_rfl) rfl ?_ HS1.out ?_
    rotate_left
    · intro w9 hS9; obtain ⟨q0, q1⟩ := hS9; go_simp; (first | done | with_reducible rfl)
    dsimp only [List.set_cons_zero, List.set_cons_succ]
    refine stepE HOPS (by kernel_rfl) (HQ.out _ _ ?_)
    clear HQ HREG HOPS
    clear Q ops
    go_wp2
    go_ret2
    exact ⟨rfl, heap_alloc_new w _, bel_drew (bel_alloc (Below.refl _ _) _), by simp⟩
  · go_simp
    with_reducible refine (refknown_any _ _ _).mono ?_
    rw [HZ.out]
    rintro e w8 ⟨rfl, rfl⟩
    dsimp only
    refine ⟨HS0.out, ?_⟩
    try simp only [Act.put, List.setIfInBounds_toArray, List.set_cons_zero, List.set_cons_succ]
    refine stepC HOPS 2 4095 (by decide) rfl (by kernel_rfl) (by kernel_rfl) ?_
    go_simp
    try simp only [Act.put, List.setIfInBounds_toArray, List.set_cons_zero, List.set_cons_succ]
    refine stepTQ HOPS HREG 12 8191 ?_ (by decide) rfl (by kernel_rfl) (by kernel_rfl) rfl ?_ HS1.out ?_
    rotate_left
    · intro w9 hS9; obtain ⟨q0, q1⟩ := hS9; go_simp; (first | done | with_reducible rfl)
    dsimp only [List.set_cons_zero, List.set_cons_succ]
    refine stepTQ HOPS HREG 13 16383 ?_ (by decide) rfl (by kernel_rfl) (by kernel_rfl) rfl ?_ HS1.out ?_
    rotate_left
    · intro w9 hS9; obtain ⟨q0, q1⟩ := hS9; go_simp; (first | done | with_reducible rfl)
    dsimp only [List.set_cons_zero, List.set_cons_succ]
    refine stepE HOPS (by kernel_rfl) (HQ.out _ _ ?_)
    clear HQ HREG HOPS
    clear Q ops
    go_wp2
    go_ret2
    exact ⟨rfl, heap_alloc_new w _, bel_drew (bel_alloc (Below.refl _ _) _), by simp⟩
end Go.Proofs.YthhdhdjdhekgpaaDoor.Pro
