/- Joined: EpoD4. -/
import Derived.Test.YtmjnleohchmadaaEpoD1
import Derived.Test.YtmjnleohchmadaaEpoR2
/- The landed epoch: put, Put, Of. -/
namespace Go.Proofs.Ytmjnleohchmadaa.Epo
open Go.RowKit Go.Proofs.Ytmjnleohchmadaa.Oct Go.Proofs.Ytmjnleohchmadaa.RowF Go.Proofs.Ytmjnleohchmadaa.Lay Go.Proofs.Ytmjnleohchmadaa.InR Go.Proofs.Ytmjnleohchmadaa.RngQ Go.Proofs.Ytmjnleohchmadaa.RowL

def putN (l : List Ep) (n s : Int) : List Ep × Int :=
  if (n < 0 ∨ 1048576 < n) ∨ (s < 0 ∨ 1099511627776 < s) then ([], 1)
  else match l.getLast? with
    | none => ([⟨n, s⟩], 0)
    | some x => if n < x.ep then ([], 100) else if n = x.ep then (l, 0) else if s < x.st then ([], 71) else if s = x.st then (l.dropLast ++ [⟨n, s⟩], 0) else (l ++ [⟨n, s⟩], 0)
theorem putE_ok {l : List Ep} (h : okE l = true) (n s : Int) : putE l n s = putN l n s := by
  unfold putE putN
  rw [h]
  by_cases hh : (n < 0 ∨ 1048576 < n) ∨ (s < 0 ∨ 1099511627776 < s)
  · rw [if_pos (.inr hh), if_pos hh]
  · rw [if_neg (fun h9 => h9.elim (fun h8 => Bool.noConfusion h8) hh), if_neg hh]
    cases l.getLast? <;> rfl
theorem putE_no {l : List Ep} (h : ¬ okE l = true) (n s : Int) : putE l n s = ([], 1) := by
  unfold putE
  rw [if_pos (.inl (by simpa using h))]
theorem putN_len {l x : List Ep} {a b e : Int} (h : putN l a b = (x, e)) : x.length ≤ l.length + 1 := by
  unfold putN at h
  split at h
  · injection h with h1 _; subst h1; simp
  · split at h
    · injection h with h1 _; subst h1; simp
    · repeat' split at h
      all_goals injection h with h1 _; subst h1; simp
      all_goals omega
theorem ownE_one (w : World) (x : Ep) (B : Nat) (hB : B ≤ w.heap.size) : OwnE (w.alloc (.cells (epC x).toArray 32)) B (.slice (some ⟨w.heap.size, 0, none⟩) 1 1) 1 [x] := by
  have h1 := World.ownsRow_lit (base := B) (e := 32) (size := 2) w (epC x).toArray 1 hB (by unfold maxLen; omega) (by simp [epC])
  simpa [OwnF] using h1
def PN (w : World) (B : Nat) (x : List Ep) (e : Int) (en : Ending) (w' : World) : Prop :=
  ∃ A n c, en = .returned (.tuple #[.slice A n c, .int .i64 e]) ∧ OwnE w' B (.slice A n c) n x ∧ Below B w w' ∧ (e ≠ 0 → Below w.heap.size w w')
theorem beqT9 {a b : Int} (h : a = b) : (a == b) = true := beq_iff_eq.2 h
theorem beqF9 {a b : Int} (h : ¬ a = b) : (a == b) = false := beq_eq_false_iff_ne.2 h
set_option maxRecDepth 100000 in
set_option maxHeartbeats 8000000 in
theorem putB_is (A : Option Addr) (n c B : Nat) (en st : Int) (w : World) (hB : B ≤ w.heap.size) (h : (en < 0 ∨ 1048576 < en) ∨ (st < 0 ∨ 1099511627776 < st)) :
    Calls Try.prog 32 #[.slice A n c, .int .i64 en, .int .i64 st] w (PN w B [] 1) := by
  rcases h1 : decide (0 ≤ en ∧ en ≤ 1048576) with _ | _
  · have HGN := Lib.hid h1
    clear h1 h
    go_enter Try.func32, Try.ntmps32
    go_wp2_with (first
      | (go_at_call 45; (with_reducible refine (isGen_is en _).mono ?_); rintro e w' ⟨rfl, rfl⟩; rw [HGN.out]))
    go_ret2
    exact ⟨none, 0, 0, rfl, OwnF.nil, (belA w _).mono hB, fun _ => belA w _⟩
  · have HGN := Lib.hid h1
    have HOF := Lib.hid (show decide (0 ≤ st ∧ st ≤ 1099511627776) = false from decide_eq_false fun h9 => by have := of_decide_eq_true h1; omega)
    clear h1 h
    go_enter Try.func32, Try.ntmps32
    go_wp2_with (first
      | (go_at_call 45; (with_reducible refine (isGen_is en _).mono ?_); rintro e w' ⟨rfl, rfl⟩; rw [HGN.out])
      | (go_at_call 39; (with_reducible refine (isOff_is st _).mono ?_); rintro e w' ⟨rfl, rfl⟩; rw [HOF.out]))
    go_ret2
    exact ⟨none, 0, 0, rfl, OwnF.nil, (belA w _).mono hB, fun _ => belA w _⟩
set_option maxRecDepth 100000 in
set_option maxHeartbeats 8000000 in
theorem putF_is (A : Option Addr) (c B : Nat) (en st : Int) (w : World) (hB : B ≤ w.heap.size) (g1 : 0 ≤ en ∧ en ≤ 1048576) (g2 : 0 ≤ st ∧ st ≤ 1099511627776) :
    Calls Try.prog 32 #[.slice A 0 c, .int .i64 en, .int .i64 st] w (PN w B [⟨en, st⟩] 0) := by
  have HGN := Lib.hid (decide_eq_true g1)
  have HOF := Lib.hid (decide_eq_true g2)
  have hb := belA w (.cells #[.int .i64 en, .int .i64 st] 32)
  have HO := Lib.hid (ownE_one (w.alloc (.cells #[.int .i64 en, .int .i64 st] 32)) ⟨en, st⟩ B (Nat.le_trans hB hb.size))
  rw [World.size_alloc] at HO
  dsimp only [epC] at HO
  clear g1 g2 hb
  go_enter Try.func32, Try.ntmps32
  go_wp2_with (first
    | (go_at_call 45; (with_reducible refine (isGen_is en _).mono ?_); rintro e w' ⟨rfl, rfl⟩; rw [HGN.out])
    | (go_at_call 39; (with_reducible refine (isOff_is st _).mono ?_); rintro e w' ⟨rfl, rfl⟩; rw [HOF.out]))
  go_ret2
  exact ⟨_, 1, 1, rfl, HO.out, (bel_alloc (belA w _) _).mono hB, fun _ => bel_alloc (belA w _) _⟩
set_option maxRecDepth 100000 in
set_option maxHeartbeats 16000000 in
theorem putM_is (A : Option Addr) (n c B : Nat) (l : List Ep) (en st : Int) (w : World) (ho : OwnE w B (.slice A n c) n l) (hB : B ≤ w.heap.size) (hn : n ≤ 1000000) (g1 : 0 ≤ en ∧ en ≤ 1048576) (g2 : 0 ≤ st ∧ st ≤ 1099511627776) {y : Ep} (hy : l.getLast? = some y) {x : List Ep} {e : Int} (hx : (if en < y.ep then ([], 100) else if en = y.ep then (l, 0) else if st < y.st then ([], 71) else if st = y.st then (l.dropLast ++ [⟨en, st⟩], 0) else (l ++ [⟨en, st⟩], (0 : Int))) = (x, e)) :
    Calls Try.prog 32 #[.slice A n c, .int .i64 en, .int .i64 st] w (PN w B x e) := by
  have HGN := Lib.hid (decide_eq_true g1)
  have HOF := Lib.hid (decide_eq_true g2)
  have hr := OwnF.rd epS ho
  have hlen := hr.len
  have hne : l ≠ [] := fun h => by rw [h] at hy; cases hy
  have hn0 : 0 < n := by rw [← hlen]; exact List.length_pos_iff.2 hne
  have hyk : l[n - 1]? = some y := by rw [← hlen, ← List.getLast?_eq_getElem?]; exact hy
  obtain ⟨b, o, ⟨y0, y1⟩, rfl, hbl, hxk, d0, d1⟩ := ep_at hr (k := n - 1) (by omega)
  obtain rfl : y = ⟨y0, y1⟩ := Option.some.inj (hyk.symm.trans hxk)
  simp only at hx
  have hcp := OwnF.cap ho
  have HO := Lib.hid ho
  have HDL := Lib.hid (show l.take (n - 1) = l.dropLast by rw [List.dropLast_eq_take, hlen])
  have hw1 : IntKind.i64.wrap ((n : Int) - 1) = (n : Int) - 1 := IntWalk.i64_in _ (by omega)
  have hq1 : (0 : Int) < (n : Int) := by omega
  have hq0 : ((n : Int) == 0) = false := beqF9 (by omega)
  have hq2 : (0 : Int) ≤ (n : Int) - 1 := by omega
  have hq3 : (n : Int) - 1 < (n : Int) := by omega
  have hq4 : ((n : Int) - 1).toNat = n - 1 := by omega
  have hq5 : (1 : Int) ≤ (n : Int) := by omega
  have hq6 : (n : Int) - 1 ≤ (c : Int) := by omega
  clear hr hlen hne hyk hxk hy ho g1 g2
  by_cases h1 : en < y0
  · rw [if_pos h1] at hx
    injection hx with a1 a2
    subst a1; subst a2
    go_enter Try.func32, Try.ntmps32
    go_upto_region 7 with (first
      | (go_at_call 45; (with_reducible refine (isGen_is en _).mono ?_); rintro e w' ⟨rfl, rfl⟩; rw [HGN.out])
      | (go_at_call 39; (with_reducible refine (isOff_is st _).mono ?_); rintro e w' ⟨rfl, rfl⟩; rw [HOF.out]))
    have hba := bel_alloc (belA w (.cells #[.int .i64 en, .int .i64 st] 32)) (.cells #[.int .i64 y0, .int .i64 y1] 32)
    have HX3 := Lib.hid ((At0.new w [.int .i64 en, .int .i64 st] 32).below (belA _ (.cells #[.int .i64 y0, .int .i64 y1] 32)))
    have HY3 := Lib.hid (show At0 ((w.alloc (.cells #[.int .i64 en, .int .i64 st] 32)).alloc (.cells #[.int .i64 y0, .int .i64 y1] 32)) (w.heap.size + 1) [.int .i64 y0, .int .i64 y1] 32 from by have h := At0.new (w.alloc (.cells #[.int .i64 en, .int .i64 st] 32)) [.int .i64 y0, .int .i64 y1] 32; rwa [World.size_alloc] at h)
    have HB3 := Lib.hid hba
    have HO3 := Lib.hid (OwnF.below HO.out hba)
    clear hba d0 d1 hbl
    generalize ((w.alloc (.cells #[.int .i64 en, .int .i64 st] 32)).alloc (.cells #[.int .i64 y0, .int .i64 y1] 32)) = w3 at *
    obtain ⟨y0', y1'⟩ := cel2 HY3.out
    obtain ⟨x0', x1'⟩ := cel2 HX3.out
    go_wp2
    go_ret2
    exact ⟨none, 0, 0, rfl, OwnF.nil, HB3.out.mono hB, fun _ => HB3.out⟩
  rw [if_neg h1] at hx
  by_cases h2 : en = y0
  · rw [if_pos h2] at hx
    injection hx with a1 a2
    subst a1; subst a2
    have h2q : (en == y0) = true := beqT9 h2
    clear h2
    go_enter Try.func32, Try.ntmps32
    go_upto_region 7 with (first
      | (go_at_call 45; (with_reducible refine (isGen_is en _).mono ?_); rintro e w' ⟨rfl, rfl⟩; rw [HGN.out])
      | (go_at_call 39; (with_reducible refine (isOff_is st _).mono ?_); rintro e w' ⟨rfl, rfl⟩; rw [HOF.out]))
    have hba := bel_alloc (belA w (.cells #[.int .i64 en, .int .i64 st] 32)) (.cells #[.int .i64 y0, .int .i64 y1] 32)
    have HX3 := Lib.hid ((At0.new w [.int .i64 en, .int .i64 st] 32).below (belA _ (.cells #[.int .i64 y0, .int .i64 y1] 32)))
    have HY3 := Lib.hid (show At0 ((w.alloc (.cells #[.int .i64 en, .int .i64 st] 32)).alloc (.cells #[.int .i64 y0, .int .i64 y1] 32)) (w.heap.size + 1) [.int .i64 y0, .int .i64 y1] 32 from by have h := At0.new (w.alloc (.cells #[.int .i64 en, .int .i64 st] 32)) [.int .i64 y0, .int .i64 y1] 32; rwa [World.size_alloc] at h)
    have HB3 := Lib.hid hba
    have HO3 := Lib.hid (OwnF.below HO.out hba)
    clear hba d0 d1 hbl
    generalize ((w.alloc (.cells #[.int .i64 en, .int .i64 st] 32)).alloc (.cells #[.int .i64 y0, .int .i64 y1] 32)) = w3 at *
    obtain ⟨y0', y1'⟩ := cel2 HY3.out
    obtain ⟨x0', x1'⟩ := cel2 HX3.out
    go_wp2
    go_ret2
    exact ⟨_, n, c, rfl, HO3.out, HB3.out.mono hB, fun h9 => absurd rfl h9⟩
  rw [if_neg h2] at hx
  have h2q : (en == y0) = false := beqF9 h2
  by_cases h3 : st < y1
  · rw [if_pos h3] at hx
    injection hx with a1 a2
    subst a1; subst a2
    clear h2
    go_enter Try.func32, Try.ntmps32
    go_upto_region 7 with (first
      | (go_at_call 45; (with_reducible refine (isGen_is en _).mono ?_); rintro e w' ⟨rfl, rfl⟩; rw [HGN.out])
      | (go_at_call 39; (with_reducible refine (isOff_is st _).mono ?_); rintro e w' ⟨rfl, rfl⟩; rw [HOF.out]))
    have hba := bel_alloc (belA w (.cells #[.int .i64 en, .int .i64 st] 32)) (.cells #[.int .i64 y0, .int .i64 y1] 32)
    have HX3 := Lib.hid ((At0.new w [.int .i64 en, .int .i64 st] 32).below (belA _ (.cells #[.int .i64 y0, .int .i64 y1] 32)))
    have HY3 := Lib.hid (show At0 ((w.alloc (.cells #[.int .i64 en, .int .i64 st] 32)).alloc (.cells #[.int .i64 y0, .int .i64 y1] 32)) (w.heap.size + 1) [.int .i64 y0, .int .i64 y1] 32 from by have h := At0.new (w.alloc (.cells #[.int .i64 en, .int .i64 st] 32)) [.int .i64 y0, .int .i64 y1] 32; rwa [World.size_alloc] at h)
    have HB3 := Lib.hid hba
    have HO3 := Lib.hid (OwnF.below HO.out hba)
    clear hba d0 d1 hbl
    generalize ((w.alloc (.cells #[.int .i64 en, .int .i64 st] 32)).alloc (.cells #[.int .i64 y0, .int .i64 y1] 32)) = w3 at *
    obtain ⟨y0', y1'⟩ := cel2 HY3.out
    obtain ⟨x0', x1'⟩ := cel2 HX3.out
    go_wp2
    go_ret2
    exact ⟨none, 0, 0, rfl, OwnF.nil, HB3.out.mono hB, fun _ => HB3.out⟩
  rw [if_neg h3] at hx
  by_cases h4 : st = y1
  · rw [if_pos h4] at hx
    injection hx with a1 a2
    subst a1; subst a2
    have h4q : (st == y1) = true := beqT9 h4
    clear h2 h4
    go_enter Try.func32, Try.ntmps32
    go_upto_region 7 with (first
      | (go_at_call 45; (with_reducible refine (isGen_is en _).mono ?_); rintro e w' ⟨rfl, rfl⟩; rw [HGN.out])
      | (go_at_call 39; (with_reducible refine (isOff_is st _).mono ?_); rintro e w' ⟨rfl, rfl⟩; rw [HOF.out]))
    have hba := bel_alloc (belA w (.cells #[.int .i64 en, .int .i64 st] 32)) (.cells #[.int .i64 y0, .int .i64 y1] 32)
    have HX3 := Lib.hid ((At0.new w [.int .i64 en, .int .i64 st] 32).below (belA _ (.cells #[.int .i64 y0, .int .i64 y1] 32)))
    have HY3 := Lib.hid (show At0 ((w.alloc (.cells #[.int .i64 en, .int .i64 st] 32)).alloc (.cells #[.int .i64 y0, .int .i64 y1] 32)) (w.heap.size + 1) [.int .i64 y0, .int .i64 y1] 32 from by have h := At0.new (w.alloc (.cells #[.int .i64 en, .int .i64 st] 32)) [.int .i64 y0, .int .i64 y1] 32; rwa [World.size_alloc] at h)
    have HB3 := Lib.hid hba
    have HO3 := Lib.hid (OwnF.below HO.out hba)
    clear hba d0 d1 hbl
    generalize ((w.alloc (.cells #[.int .i64 en, .int .i64 st] 32)).alloc (.cells #[.int .i64 y0, .int .i64 y1] 32)) = w3 at *
    obtain ⟨y0', y1'⟩ := cel2 HY3.out
    obtain ⟨x0', x1'⟩ := cel2 HX3.out
    go_upto_region 15 with fail
    have hs3 := HB3.out.size
    obtain ⟨A7, c7, w7, hrun, ho7, hb7⟩ := run_appE (w := w3) B (HDL.out ▸ own_cut HO3.out (Nat.sub_le n 1) : OwnE w3 B (.slice (some ⟨b, o, none⟩) (n - 1) c) (n - 1) l.dropLast) ⟨en, st⟩ (by omega) (by omega)
    dsimp only [epC] at hrun
    have HO7 := Lib.hid ho7
    have HB7 := Lib.hid hb7
    clear ho7 hb7 hs3
    go_wp2_with (at_builtin; refine wpList_app_run9 rfl _ _ 22 rfl rfl rfl hrun ?_)
    go_ret2
    exact ⟨A7, _, c7, rfl, HO7.out, (HB3.out.mono hB).trans HB7.out, fun h9 => absurd rfl h9⟩
  rw [if_neg h4] at hx
  injection hx with a1 a2
  subst a1; subst a2
  have h4q : (st == y1) = false := beqF9 h4
  clear h2 h4
  go_enter Try.func32, Try.ntmps32
  go_upto_region 7 with (first
    | (go_at_call 45; (with_reducible refine (isGen_is en _).mono ?_); rintro e w' ⟨rfl, rfl⟩; rw [HGN.out])
    | (go_at_call 39; (with_reducible refine (isOff_is st _).mono ?_); rintro e w' ⟨rfl, rfl⟩; rw [HOF.out]))
  have hba := bel_alloc (belA w (.cells #[.int .i64 en, .int .i64 st] 32)) (.cells #[.int .i64 y0, .int .i64 y1] 32)
  have HX3 := Lib.hid ((At0.new w [.int .i64 en, .int .i64 st] 32).below (belA _ (.cells #[.int .i64 y0, .int .i64 y1] 32)))
  have HY3 := Lib.hid (show At0 ((w.alloc (.cells #[.int .i64 en, .int .i64 st] 32)).alloc (.cells #[.int .i64 y0, .int .i64 y1] 32)) (w.heap.size + 1) [.int .i64 y0, .int .i64 y1] 32 from by have h := At0.new (w.alloc (.cells #[.int .i64 en, .int .i64 st] 32)) [.int .i64 y0, .int .i64 y1] 32; rwa [World.size_alloc] at h)
  have HB3 := Lib.hid hba
  have HO3 := Lib.hid (OwnF.below HO.out hba)
  clear hba d0 d1 hbl
  generalize ((w.alloc (.cells #[.int .i64 en, .int .i64 st] 32)).alloc (.cells #[.int .i64 y0, .int .i64 y1] 32)) = w3 at *
  obtain ⟨y0', y1'⟩ := cel2 HY3.out
  obtain ⟨x0', x1'⟩ := cel2 HX3.out
  go_upto_region 15 with fail
  have hs3 := HB3.out.size
  obtain ⟨A7, c7, w7, hrun, ho7, hb7⟩ := run_appE (w := w3) B HO3.out ⟨en, st⟩ (by omega) (by omega)
  dsimp only [epC] at hrun
  have HO7 := Lib.hid ho7
  have HB7 := Lib.hid hb7
  clear ho7 hb7 hs3
  go_wp2_with (at_builtin; refine wpList_app_run9 rfl _ _ 22 rfl rfl rfl hrun ?_)
  go_ret2
  exact ⟨A7, _, c7, rfl, HO7.out, (HB3.out.mono hB).trans HB7.out, fun h9 => absurd rfl h9⟩
theorem put_is (A : Option Addr) (n c B : Nat) (l : List Ep) (en st : Int) (w : World) (ho : OwnE w B (.slice A n c) n l) (hB : B ≤ w.heap.size) (hn : n ≤ 1000000) {x : List Ep} {e : Int} (h : putN l en st = (x, e)) :
    Calls Try.prog 32 #[.slice A n c, .int .i64 en, .int .i64 st] w (PN w B x e) := by
  unfold putN at h
  by_cases h1 : (en < 0 ∨ 1048576 < en) ∨ (st < 0 ∨ 1099511627776 < st)
  · rw [if_pos h1] at h
    injection h with a1 a2
    subst a1; subst a2
    exact putB_is A n c B en st w hB h1
  · rw [if_neg h1] at h
    cases hl : l.getLast? with
    | none =>
      rw [hl] at h
      injection h with a1 a2
      subst a1; subst a2
      obtain rfl : l = [] := last_none hl
      obtain rfl : 0 = n := OwnF.len epS ho
      exact putF_is A c B en st w hB (by omega) (by omega)
    | some y =>
      rw [hl] at h
      exact putM_is A n c B l en st w ho hB hn (by omega) (by omega) hl h
set_option maxRecDepth 100000 in
set_option maxHeartbeats 8000000 in
theorem dPut_is (A : Option Addr) (n c : Nat) (l : List Ep) (en st : Int) (w : World) (hr : RdE w w.heap.size A n l) (hn : n ≤ 1000000) {x : List Ep} {e : Int} (h : putE l en st = (x, e)) :
    Calls Try.prog 14 #[.slice A n c, .int .i64 en, .int .i64 st] w (PE w x e) := by
  have HR := Lib.hid hr
  by_cases ok : okE l = true
  · have HCK := Lib.hid (show ckE l = 0 by unfold ckE; rw [if_pos ok])
    rw [putE_ok ok] at h
    have HP := Lib.hid h
    clear hr ok h
    go_enter Try.func14, Try.ntmps14
    go_wp2_with (first
      | (go_at_call 17; (with_reducible refine (dCheck_is A n c l _ HR.out (by unfold reach; omega) HCK.out).mono ?_); rintro e w2 ⟨rfl, hb⟩; have HB2 := Lib.hid hb; have HR2 := Lib.hid (rdeUp HR.out hb); clear hb)
      | (go_at_call 33; (with_reducible refine (Clone_is A n c l w2 HR2.out hn).mono ?_); rintro e w3 ⟨A3, m3, c3, rfl, hm, ho, hb⟩; have HB3 := Lib.hid (bel_trans HB2.out hb); have HO3 := Lib.hid (OwnF.more ho HB2.out.size); have hm3 : m3 ≤ 1000000 := (by omega); clear hb ho hm)
      | (go_at_call 32; (with_reducible refine (put_is A3 m3 c3 w.heap.size l en st w3 HO3.out HB3.out.size hm3 HP.out).mono ?_); rintro e w4 ⟨A4, n4, c4, rfl, ho, hb, _⟩; have HB4 := Lib.hid (HB3.out.trans hb); have HO4 := Lib.hid ho; clear hb ho))
    go_ret2
    exact ⟨A4, n4, c4, rfl, HO4.out, HB4.out⟩
  · have HCK := Lib.hid (show ckE l = 1 by unfold ckE; rw [if_neg ok])
    rw [putE_no ok] at h
    injection h with a1 a2
    subst a1; subst a2
    clear hr ok
    go_enter Try.func14, Try.ntmps14
    go_wp2_with (first
      | (go_at_call 17; (with_reducible refine (dCheck_is A n c l _ HR.out (by unfold reach; omega) HCK.out).mono ?_); rintro e w2 ⟨rfl, hb⟩; have HB2 := Lib.hid hb; clear hb))
    go_ret2
    exact ⟨none, 0, 0, rfl, OwnF.nil, HB2.out⟩
end Go.Proofs.Ytmjnleohchmadaa.Epo
