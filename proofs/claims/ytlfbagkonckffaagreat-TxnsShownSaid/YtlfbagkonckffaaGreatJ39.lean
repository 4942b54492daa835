/- Joined: TxnMath3, TxnDH, TxnDI. -/
import Derived.Test.YtlfbagkonckffaaGreatJ05
import Derived.Test.YtlfbagkonckffaaGreatJ38
import Derived.Test.YtlfbagkonckffaaGreatJ17
/- The mathematics of layer 12: of what has ended, put in order, the greatest Last up to each; by halving it is found whether a batch is of one. Nothing of the program. -/
namespace Go.Proofs.YtlfbagkonckffaaGreat.Txn
open Oct Rec Bat

def leK (p f : Int) (g : Gon) : Bool := decide (g.pid < p ∨ g.pid = p ∧ g.fst ≤ f)
def Srt (y : List Gon) : Prop := y.Pairwise fun a b => a.pid < b.pid ∨ a.pid = b.pid ∧ a.fst ≤ b.fst
def cntK : List Gon → Int → Int → Nat
  | [], _, _ => 0
  | g :: l, p, f => if leK p f g = true then cntK l p f + 1 else 0
theorem cntK_le (p f : Int) : ∀ l : List Gon, cntK l p f ≤ l.length
  | [] => Nat.le_refl _
  | g :: l => by
    unfold cntK
    split
    · exact Nat.succ_le_succ (cntK_le p f l)
    · exact Nat.zero_le _
theorem cntK_at {p f : Int} : ∀ {l : List Gon}, Srt l → ∀ i x, l[i]? = some x → (leK p f x = true ↔ i < cntK l p f) := by
  intro l
  induction l with
  | nil => intro _ i x h; simp at h
  | cons y l ih =>
    intro h i x hx
    unfold Srt at h
    rw [List.pairwise_cons] at h
    by_cases h1 : leK p f y = true
    · rw [cntK, if_pos h1]
      cases i with
      | zero => simp only [List.getElem?_cons_zero, Option.some.injEq] at hx; subst hx; simp [h1]
      | succ i => rw [List.getElem?_cons_succ] at hx; rw [ih h.2 i x hx]; omega
    · rw [cntK, if_neg h1]
      have h2 : ¬ leK p f x = true := by
        cases i with
        | zero => simp only [List.getElem?_cons_zero, Option.some.injEq] at hx; subst hx; exact h1
        | succ i =>
          rw [List.getElem?_cons_succ] at hx
          have h3 := h.1 x (List.mem_of_getElem? hx)
          unfold leK at h1 ⊢
          simp only [decide_eq_true_eq] at h1 ⊢
          omega
      exact ⟨fun h3 => absurd h3 h2, fun h3 => by omega⟩
structure Pm (y0 : List Gon) (i : Nat) (y : List Gon) : Prop where
  len : y.length = y0.length
  key : ∀ (j : Nat) (a b : Gon), y0[j]? = some a → y[j]? = some b → b.pid = a.pid ∧ b.fst = a.fst
  rest : ∀ j : Nat, i ≤ j → y[j]? = y0[j]?
  mx : ∀ (j : Nat) (b : Gon), j < i → y[j]? = some b → (∀ (m : Nat) (a : Gon), m ≤ j → y0[m]? = some a → a.pid = b.pid → a.lst ≤ b.lst) ∧ ∃ m a, m ≤ j ∧ y0[m]? = some a ∧ a.pid = b.pid ∧ a.lst = b.lst
theorem pm_start (y0 : List Gon) : Pm y0 1 y0 := ⟨rfl, fun j a b h1 h2 => by rw [h1] at h2; injection h2 with h2; subst h2; exact ⟨rfl, rfl⟩, fun _ _ => rfl, fun j b hj hb => by
  obtain rfl : j = 0 := by omega
  refine ⟨fun m a hm ha _ => ?_, 0, b, Nat.le_refl _, hb, rfl, rfl⟩
  obtain rfl : m = 0 := by omega
  rw [hb] at ha; injection ha with ha; subst ha; exact Int.le_refl _⟩
theorem srt_at {y : List Gon} (h : Srt y) {i j : Nat} {a b : Gon} (ha : y[i]? = some a) (hb : y[j]? = some b) (hij : i < j) : a.pid < b.pid ∨ a.pid = b.pid ∧ a.fst ≤ b.fst := by
  obtain ⟨h1, rfl⟩ := List.getElem?_eq_some_iff.1 ha
  obtain ⟨h2, rfl⟩ := List.getElem?_eq_some_iff.1 hb
  exact List.pairwise_iff_getElem.1 h i j h1 h2 hij
theorem pm_step {y0 y : List Gon} {i : Nat} {b q : Gon} (hs : Srt y0) (h : Pm y0 (i + 1) y) (hb : y[i + 1]? = some b) (hq : y[i]? = some q) :
    Pm y0 (i + 2) (if b.pid = q.pid then y.set (i + 1) ⟨b.pid, b.no, b.fst, max b.lst q.lst⟩ else y) := by
  have hb0 : y0[i + 1]? = some b := by rw [← h.rest (i + 1) (Nat.le_refl _)]; exact hb
  have hbl := (List.getElem?_eq_some_iff.1 hb).1
  obtain ⟨q0, hq0⟩ : ∃ q0, y0[i]? = some q0 := ⟨_, List.getElem?_eq_getElem (by have := h.len; omega)⟩
  obtain ⟨hk1, hk2⟩ := h.key i q0 q hq0 hq
  obtain ⟨m1, m2, am, m3, m4, m5, m6⟩ := h.mx i q (Nat.lt_succ_self _) hq
  by_cases hp : b.pid = q.pid
  · rw [if_pos hp]
    have hget : ∀ j, (y.set (i + 1) ⟨b.pid, b.no, b.fst, max b.lst q.lst⟩)[j]? = if j = i + 1 then some ⟨b.pid, b.no, b.fst, max b.lst q.lst⟩ else y[j]? := fun j => by
      rw [List.getElem?_set]
      by_cases hj : i + 1 = j
      · subst hj; rw [if_pos rfl, if_pos hbl, if_pos rfl]
      · rw [if_neg hj, if_neg (fun e => hj e.symm)]
    refine ⟨by rw [List.length_set]; exact h.len, fun j a c h1 h2 => ?_, fun j hj => ?_, fun j c hj hc => ?_⟩
    · rw [hget] at h2
      by_cases hj : j = i + 1
      · subst hj
        rw [if_pos rfl] at h2
        rw [hb0] at h1
        injection h1 with h1; injection h2 with h2
        subst h1; subst h2
        exact ⟨rfl, rfl⟩
      · rw [if_neg hj] at h2; exact h.key j a c h1 h2
    · rw [hget, if_neg (by omega)]; exact h.rest j (by omega)
    · rw [hget] at hc
      by_cases hj9 : j = i + 1
      · subst hj9
        rw [if_pos rfl] at hc
        injection hc with hc
        subst hc
        refine ⟨fun m a hm ha hpa => ?_, ?_⟩
        · show a.lst ≤ max b.lst q.lst
          by_cases hmi : m = i + 1
          · subst hmi; rw [hb0] at ha; injection ha with ha; subst ha; omega
          · have := m1 m a (by omega) ha (hpa.trans hp)
            omega
        · by_cases hle : q.lst ≤ b.lst
          · exact ⟨i + 1, b, Nat.le_refl _, hb0, rfl, by show b.lst = max b.lst q.lst; omega⟩
          · exact ⟨m2, am, by omega, m4, m5.trans hp.symm, by show am.lst = max b.lst q.lst; omega⟩
      · rw [if_neg hj9] at hc
        exact h.mx j c (by omega) hc
  · rw [if_neg hp]
    refine ⟨h.len, h.key, fun j hj => h.rest j (by omega), fun j c hj hc => ?_⟩
    by_cases hj9 : j = i + 1
    · subst hj9
      rw [hb] at hc
      injection hc with hc
      subst hc
      refine ⟨fun m a hm ha hpa => ?_, i + 1, b, Nat.le_refl _, hb0, rfl, rfl⟩
      by_cases hmi : m = i + 1
      · subst hmi; rw [hb0] at ha; injection ha with ha; subst ha; exact Int.le_refl _
      · exfalso
        have h1 := srt_at hs hq0 hb0 (by omega)
        by_cases hmi2 : m = i
        · subst hmi2; rw [hq0] at ha; injection ha with ha; subst ha; omega
        · have h2 := srt_at hs ha hq0 (by omega)
          omega
    · exact h.mx j c (by omega) hc
def tellK (y : List Gon) (p f : Int) : Bool := match y[cntK y p f - 1]? with
  | some b => decide (0 < cntK y p f) && (decide (b.pid = p) && decide (f < b.lst))
  | none => false
theorem cntK_key {p f : Int} : ∀ {y y0 : List Gon}, y.length = y0.length → (∀ (j : Nat) (a b : Gon), y0[j]? = some a → y[j]? = some b → b.pid = a.pid ∧ b.fst = a.fst) → cntK y p f = cntK y0 p f := by
  intro y
  induction y with
  | nil => intro y0 hl _; cases y0 with
    | nil => rfl
    | cons _ _ => simp at hl
  | cons b y ih =>
    intro y0 hl hk
    cases y0 with
    | nil => simp at hl
    | cons a y0 =>
      obtain ⟨h1, h2⟩ := hk 0 a b rfl rfl
      have h3 := ih (y0 := y0) (by simpa using hl) (fun j a b ha hb => hk (j + 1) a b ha hb)
      rw [cntK, cntK, h3]
      unfold leK
      rw [h1, h2]
theorem srt_key : ∀ {y y0 : List Gon}, y.length = y0.length → (∀ (j : Nat) (a b : Gon), y0[j]? = some a → y[j]? = some b → b.pid = a.pid ∧ b.fst = a.fst) → Srt y0 → Srt y := by
  intro y y0 hl hk hs
  unfold Srt
  rw [List.pairwise_iff_getElem]
  intro i j hi hj hij
  have a1 := hk i _ _ (List.getElem?_eq_getElem (by omega)) (List.getElem?_eq_getElem hi)
  have a2 := hk j _ _ (List.getElem?_eq_getElem (by omega)) (List.getElem?_eq_getElem hj)
  have a3 := srt_at hs (List.getElem?_eq_getElem (l := y0) (i := i) (by omega)) (List.getElem?_eq_getElem (l := y0) (i := j) (by omega)) hij
  rw [a1.1, a1.2, a2.1, a2.2]
  exact a3
theorem tellK_is {l y0 y : List Gon} (hp : y0.Perm l) (hs : Srt y0) (h : Pm y0 y0.length y) (p f : Int) : tellK y p f = l.any fun g => decide (p = g.pid ∧ g.fst ≤ f ∧ f < g.lst) := by
  have hc := cntK_key (p := p) (f := f) h.len h.key
  have hle := cntK_le p f y0
  rw [Bool.eq_iff_iff, List.any_eq_true]
  unfold tellK
  rw [hc]
  constructor
  · intro h1
    cases hb : y[cntK y0 p f - 1]? with
    | none => rw [hb] at h1; simp at h1
    | some b =>
      rw [hb] at h1
      simp only [Bool.and_eq_true, decide_eq_true_eq] at h1
      obtain ⟨k0, k1, k2⟩ := h1
      obtain ⟨_, m, a, m1, m2, m3, m4⟩ := h.mx _ b (by omega) hb
      have h5 := (cntK_at (p := p) (f := f) hs m a m2).2 (by omega)
      unfold leK at h5
      simp only [decide_eq_true_eq] at h5
      exact ⟨a, hp.mem_iff.1 (List.mem_of_getElem? m2), by simp only [decide_eq_true_eq]; omega⟩
  · rintro ⟨g, hg, h1⟩
    simp only [decide_eq_true_eq] at h1
    obtain ⟨m, hm⟩ := List.mem_iff_getElem?.1 (hp.mem_iff.2 hg)
    have h2 := (cntK_at (p := p) (f := f) hs m g hm).1 (by unfold leK; simp only [decide_eq_true_eq]; omega)
    obtain ⟨b, hb⟩ : ∃ b, y[cntK y0 p f - 1]? = some b := ⟨_, List.getElem?_eq_getElem (by have := h.len; omega)⟩
    obtain ⟨a, ha⟩ : ∃ a, y0[cntK y0 p f - 1]? = some a := ⟨_, List.getElem?_eq_getElem (by omega)⟩
    rw [hb]
    have hk := h.key _ a b ha hb
    have h3 := (cntK_at (p := p) (f := f) hs _ a ha).2 (by omega)
    unfold leK at h3
    simp only [decide_eq_true_eq] at h3
    have hpid : b.pid = p := by
      by_cases hmk : m = cntK y0 p f - 1
      · subst hmk; rw [hm] at ha; injection ha with ha; subst ha; omega
      · have := srt_at hs hm ha (by omega)
        omega
    have h4 := (h.mx _ b (by omega) hb).1 m g (by omega) hm (by omega)
    simp only [Bool.and_eq_true, decide_eq_true_eq]
    omega
theorem hid_any {b : Bt} (h0 : b.ctl = 0) (l : List Gon) : (b.txn && l.any fun g => decide (b.pid = g.pid ∧ g.fst ≤ b.base ∧ b.base < g.lst)) = hidB b l := by
  unfold hidB isIn
  cases b.txn with
  | false =>
    rw [Bool.false_and]
    symm
    rw [List.any_eq_false]
    intro g _
    simp
  | true => simp [h0]
end Go.Proofs.YtlfbagkonckffaaGreat.Txn

/- The landed txns: whether a batch is of one that has ended, by halving. -/
namespace Go.Proofs.YtlfbagkonckffaaGreat.Txn
open Go.RowKit Go.Shelf Go.Sort Oct Rec RowF Lay InR RngQ Bat RowL
open Epo (At0 AtO belA cel2)
open Sqs (at0_grown at0_set9 grown_set9 grown_bel grown_then)

attribute [local go_sem] Oper.semAt_some

def gtK (y : List Gon) (p f : Int) (i : Nat) : Bool := match y[i]? with | some x => !leK p f x | none => true
theorem count_gt {y : List Gon} {p f : Int} (h : Srt y) : (List.range y.length).countP (fun i => !gtK y p f i) = cntK y p f := by
  rw [← count_lt (cntK y p f) y.length (cntK_le p f y)]
  refine List.countP_congr fun i hi => ?_
  have hl := List.mem_range.1 hi
  have h1 := cntK_at (p := p) (f := f) h i y[i] (List.getElem?_eq_getElem hl)
  unfold gtK
  rw [List.getElem?_eq_getElem hl]
  simp only [Bool.not_not, decide_eq_true_eq]
  exact h1
theorem gt_mono {y : List Gon} {p f : Int} (h : Srt y) : ∀ a b, a ≤ b → b < y.length → gtK y p f a = true → gtK y p f b = true := fun a b hab hb ha => by
  have h1 := cntK_at (p := p) (f := f) h b y[b] (List.getElem?_eq_getElem hb)
  have h2 := cntK_at (p := p) (f := f) h a (y[a]'(by omega)) (List.getElem?_eq_getElem (by omega))
  unfold gtK at ha ⊢
  rw [List.getElem?_eq_getElem (by omega)] at ha
  rw [List.getElem?_eq_getElem hb]
  simp only [Bool.not_eq_true', Bool.eq_false_iff, ne_eq] at ha ⊢
  intro h3
  exact ha (h2.2 (by have := h1.1 h3; omega))
set_option maxRecDepth 100000 in
set_option maxHeartbeats 8000000 in
theorem tell1_is (bx bb b o n c i : Nat) (y : List Gon) (p f : Int) (W : World) (hi : i < n) (hr : RdGn W W.heap.size (some ⟨b, o, none⟩) n y) (ha : W.cell? ⟨bx, 0, none⟩ = some (.slice (some ⟨b, o, none⟩) n c)) (h4 : W.cell? ⟨bb, 4, none⟩ = some (.int .i64 p)) (h0 : W.cell? ⟨bb, 0, none⟩ = some (.int .i64 f)) :
    Calls Tryz.prog 86 (#[.int .i64 (i : Int)] ++ #[.pointer (some ⟨bx, 0, none⟩), .pointer (some ⟨bb, 0, none⟩)]) W fun e w' => e = .returned (.bool (gtK y p f i)) ∧ ∃ q, w' = W.drewN q := by
  obtain ⟨b', o', ⟨x0, x1, x2, x3⟩, hA, _, hxk, c0, _, c2, _⟩ := go_at hr hi
  injection hA with hA
  injection hA with e1 e2
  subst e1; subst e2
  simp only at c0 c2
  obtain ⟨z, hz⟩ : ∃ z, (!decide (x0 < p ∨ x0 = p ∧ x2 ≤ f)) = z := ⟨_, rfl⟩
  rw [show gtK y p f i = z by unfold gtK leK; rw [hxk]; exact hz]
  have hi1 : (0 : Int) ≤ (i : Int) := by omega
  have hi2 : (i : Int) < (n : Int) := by omega
  have l1 : bx < W.heap.size := World.block_lt_of_cell? _ _ ha
  have l2 : bb < W.heap.size := World.block_lt_of_cell? _ _ h4
  clear hr hxk hi
  by_cases g1 : p < x0
  · have hzz : z = true := by rw [← hz]; have : ¬ (x0 < p ∨ x0 = p ∧ x2 ≤ f) := by omega
                              simp [this]
    subst hzz
    clear hz
    go_enter Tryz.func86, Tryz.ntmps86
    go_upto_region 1 with fail
    go_big_region
    all_goals go_wp2
    all_goals go_ret
    all_goals exact ⟨rfl, 1, rfl⟩
  · by_cases g2 : x0 = p
    · have hzz : z = decide (f < x2) := by rw [← hz, Bool.eq_iff_iff]; simp only [Bool.not_eq_true', decide_eq_false_iff_not, decide_eq_true_eq]; omega
      subst hzz
      subst g2
      clear hz
      go_enter Tryz.func86, Tryz.ntmps86
      go_upto_region 1 with fail
      go_big_region
      all_goals go_wp2
      all_goals go_ret
      all_goals exact ⟨by simp, 1, rfl⟩
    · have hzz : z = false := by rw [← hz]; have : x0 < p ∨ x0 = p ∧ x2 ≤ f := by omega
                                 simp [this]
      subst hzz
      clear hz
      have e1 : (x0 == p) = false := beq_eq_false_iff_ne.2 g2
      have e2 : decide (x0 = p) = false := decide_eq_false g2
      go_enter Tryz.func86, Tryz.ntmps86
      go_upto_region 1 with fail
      go_big_region
      all_goals go_wp2
      all_goals go_ret
      all_goals exact ⟨rfl, 1, rfl⟩
set_option maxRecDepth 100000 in
set_option maxHeartbeats 16000000 in
theorem tell_is (bx n c : Nat) (A : Option Addr) (y : List Gon) (p f t1 t2 t3 t5 t6 t8 : Int) (tx : Bool) (rc : Value) (w : World) (hr : RdGn w w.heap.size A n y) (hn : n ≤ 1000000) (hs : Srt y) (ha : w.cell? ⟨bx, 0, none⟩ = some (.slice A n c)) {z : Bool} (hz : (tx && tellK y p f) = z) :
    Calls Tryz.prog 85 #[.agg #[.int .i64 f, .int .i64 t1, .int .i64 t2, .int .i64 t3, .int .i64 p, .int .i64 t5, .int .i64 t6, .bool tx, .int .i64 t8, rc], .pointer (some ⟨bx, 0, none⟩)] w fun e w' => e = .returned (.bool z) ∧ Below w.heap.size w w' := by
  have hlen := hr.len
  have l1 : bx < w.heap.size := World.block_lt_of_cell? _ _ ha
  have HB0 := At0.new w [.int .i64 f, .int .i64 t1, .int .i64 t2, .int .i64 t3, .int .i64 p, .int .i64 t5, .int .i64 t6, .bool tx, .int .i64 t8, rc] 28
  obtain ⟨W, hW⟩ : ∃ W, W = w.alloc (.cells #[.int .i64 f, .int .i64 t1, .int .i64 t2, .int .i64 t3, .int .i64 p, .int .i64 t5, .int .i64 t6, .bool tx, .int .i64 t8, rc] 28) := ⟨_, rfl⟩
  have hB : Below w.heap.size w W := by rw [hW]; exact belA _ _
  have hsz : W.heap.size = w.heap.size + 1 := by rw [hW]; simp
  have ca : W.cell? ⟨bx, 0, none⟩ = some (.slice A n c) := by rw [hB.cell l1]; exact ha
  have b0 : W.cell? ⟨w.heap.size, 0, none⟩ = some (.int .i64 f) := by rw [hW]; exact HB0.cell 0
  have b4 : W.cell? ⟨w.heap.size, 4, none⟩ = some (.int .i64 p) := by rw [hW]; exact HB0.cell 4
  have b7 : W.cell? ⟨w.heap.size, 7, none⟩ = some (.bool tx) := by rw [hW]; exact HB0.cell 7
  have hrW := rfUp hr hB
  obtain ⟨k, hk⟩ : ∃ k, cntK y p f = k := ⟨_, rfl⟩
  have hcnt := count_gt (p := p) (f := f) hs
  rw [hlen, hk] at hcnt
  have hS := Any.sort_Search (P := Tryz.prog) Lays.search 86 #[.pointer (some ⟨bx, 0, none⟩), .pointer (some ⟨w.heap.size, 0, none⟩)] n (gtK y p f) W (enters_of Tryz.func86 (by kernel_rfl) rfl) (by omega)
    (fun m os i hi => by
      have hbg := below_grown_sl W.heap.size W m os (Nat.le_refl _)
      obtain ⟨b, o, x, rfl, hb, _, _, _⟩ := go_at hrW hi
      exact (tell1_is bx w.heap.size b o n c i y p f _ hi (rfUp hrW hbg) (cell_grown (by simp only; omega) ca m os) (cell_grown (by simp only; omega) b4 m os) (cell_grown (by simp only; omega) b0 m os)).mono fun _ _ ⟨he, q, hq⟩ => ⟨he, q, #[], by rw [hq, grow_empty]⟩)
    (fun a b hab hb ha => gt_mono hs a b hab (by omega) ha)
  rw [hcnt] at hS
  change Calls Tryz.prog 72 _ _ _ at hS
  have HS := Lib.hid hS
  have HWW := Lib.hid hW
  have HBW := Lib.hid hB
  have HR := Lib.hid hrW
  have hkn : k ≤ n := by rw [← hk, ← hlen]; exact cntK_le p f y
  have HK := Lib.hid hk
  have HZ := Lib.hid hz
  have HL := Lib.hid hlen
  have HSZ := Lib.hid hsz
  have HSR := Lib.hid hs
  clear hS hW hB hrW hr hcnt hk hz hlen HB0 hsz hs
  go_enter Tryz.func85, Tryz.ntmps85
  go_upto_region 2 with (go_at_call 72; rw [← HWW.out]; (with_reducible refine HS.out.mono ?_); rintro e w2 ⟨rfl, q, os, rfl⟩)
  have hb2 := below_grown_sl W.heap.size W q os (Nat.le_refl _)
  have d0 := (cell_grown (by simp only; have := HSZ.out; omega) ca q os)
  have d1 := (cell_grown (by simp only; have := HSZ.out; omega) b0 q os)
  have d4 := (cell_grown (by simp only; have := HSZ.out; omega) b4 q os)
  have d7 := (cell_grown (by simp only; have := HSZ.out; omega) b7 q os)
  have HB2 := Lib.hid (bel_trans HBW.out hb2)
  have HR2 := Lib.hid (rfUp HR.out hb2)
  generalize grow (W.drewN q) os = V at *
  clear hb2 ca b0 b4 b7
  by_cases htx : tx = true
  · subst htx
    by_cases hk0 : 0 < k
    · obtain ⟨b, o, ⟨x0, x1, x2, x3⟩, hA, _, hxk, c0, _, _, c3⟩ := go_at HR2.out (k := k - 1) (by omega)
      subst hA
      simp only at c0 c3
      obtain ⟨k, rfl⟩ : ∃ k', k = k' + 1 := ⟨k - 1, by omega⟩
      simp only [Nat.add_sub_cancel] at c0 c3 hxk
      have hk1 : (0 : Int) ≤ (k : Int) := by omega
      have hk2 : (k : Int) < (n : Int) := by omega
      have hk3 : ((k + 1 : Nat) : Int) - 1 = (k : Int) := by omega
      have hk4 : (0 : Int) < ((k + 1 : Nat) : Int) := by omega
      have hk5 : ((k + 1 : Nat) : Int) < 1000001 := by omega
      have hz1 : z = (decide (x0 = p) && decide (f < x3)) := by
        rw [← HZ.out]
        unfold tellK
        rw [HK.out, Nat.add_sub_cancel, hxk]
        simp
      clear hxk hk0
      generalize ((k + 1 : Nat) : Int) = kk at *
      by_cases hp : x0 = p
      · have hzz : z = decide (f < x3) := by rw [hz1]; simp [hp]
        clear hz1
        subst hzz
        subst hp
        go_big_region
        all_goals go_wp2
        all_goals go_ret
        all_goals exact ⟨by simp, HB2.out.drew⟩
      · have hzz : z = false := by rw [hz1]; simp [hp]
        clear hz1
        have e1 : (x0 == p) = false := beq_eq_false_iff_ne.2 hp
        have e2 : decide (x0 = p) = false := decide_eq_false hp
        subst hzz
        go_big_region
        all_goals go_wp2
        all_goals go_ret
        all_goals exact ⟨rfl, HB2.out.drew⟩
    · obtain rfl : k = 0 := by omega
      have hzz : z = false := by
        rw [← HZ.out]
        unfold tellK
        rw [HK.out]
        split <;> simp
      subst hzz
      go_big_region
      all_goals go_wp2
      all_goals go_ret
      all_goals exact ⟨rfl, HB2.out.drew⟩
  · obtain rfl : tx = false := by simpa using htx
    have hzz : z = false := by rw [← HZ.out]; rfl
    subst hzz
    go_big_region
    all_goals go_wp2
    all_goals go_ret
    all_goals exact ⟨rfl, HB2.out.drew⟩
end Go.Proofs.YtlfbagkonckffaaGreat.Txn

/- The landed txns: what has ended is put in order in a row of its own. -/
namespace Go.Proofs.YtlfbagkonckffaaGreat.Txn
open Go.RowKit Go.Shelf Go.Sort Oct Rec RowF Lay InR RngQ Bat RowL
open Epo (At0 AtO belA cel2)
open Sqs (at0_grown at0_set9 grown_set9 grown_bel grown_then)

attribute [local go_sem] Oper.semAt_some

section
variable {α : Type} [Inhabited α] {f : α → List Value} {size : Nat}
theorem flatK_list (hs : Shape f size) (l : List α) : (flatK f size l.toArray).toList = l.flatMap f := by
  apply List.ext_getElem?
  intro t
  by_cases ht : t < l.length * size
  · have hk : t / size < l.length := Nat.div_lt_of_lt_mul (by rw [Nat.mul_comm]; exact ht)
    have hi := Nat.mod_lt t hs.pos
    have he : t = t / size * size + t % size := by rw [Nat.mul_comm]; exact (Nat.div_add_mod t size).symm
    have hF : t < (flatK f size l.toArray).size := by simpa using ht
    have h1 := get_flatK f size l.toArray t (by simpa using ht)
    rw [getElem!_pos (flatK f size l.toArray) t hF] at h1
    rw [Array.getElem?_toList, Array.getElem?_eq_getElem hF, h1]
    have h2 := hs.at (List.getElem?_eq_getElem hk) hi
    rw [← he] at h2
    have h3 : l.toArray[t / size]! = l[t / size] := by rw [getElem!_pos l.toArray (t / size) (by simpa using hk)]; simp
    have hi2 : t % size < (f l[t / size]).length := by rw [hs.len]; exact hi
    rw [h2, h3, getElem!_pos (f l[t / size]) (t % size) hi2, List.getElem?_eq_getElem hi2]
  · rw [List.getElem?_eq_none (by rw [Array.length_toList, size_flatK]; simpa using ht), List.getElem?_eq_none (by rw [hs.flat]; omega)]
theorem take_putK (cur F : Array Value) (h : F.size ≤ cur.size) : (putCells id 0 F cur).toList.take F.size = F.toList := by
  apply List.ext_getElem?
  intro j
  by_cases hj : j < F.size
  · rw [List.getElem?_take_of_lt hj, Array.getElem?_toList]
    simp [putCells, hj, show j < cur.size by omega]
  · rw [List.getElem?_take_eq_none (by omega), List.getElem?_eq_none (by simp; omega)]
variable {w : World} {e : TypeId} {B g n c : Nat} {l : List α}
theorem holds_own (hs : Shape f size) (h : OwnF f size w e B (.slice (some ⟨g, 0, none⟩) n c) n l) : HoldsK f size w g 0 l.toArray := by
  intro j hj
  refine ⟨?_, by rw [Nat.zero_add]; exact h.frozen j⟩
  have hl := h.len hs
  have hj2 : j < n * size := by rw [size_flatK] at hj; rw [← hl]; simpa using hj
  rw [Nat.zero_add, World.ownsRow.cellAt h j hj2, ← flatK_list hs l, Array.getElem?_toList, Array.getElem?_eq_getElem hj, getElem!_pos (flatK f size l.toArray) j hj]
  rfl
theorem sorted_own (hs : Shape f size) (h : OwnF f size w e B (.slice (some ⟨g, 0, none⟩) n c) n l) (hn : 0 < n) (y : List α) (hy : y.length = n) (m : Nat) (os : Array Obj) :
    OwnF f size (sortWorldK f size w g 0 m y.toArray os) e B (.slice (some ⟨g, 0, none⟩) n c) n y ∧ w.grownBy (sortWorldK f size w g 0 m y.toArray os) (some g) := by
  have hF : (flatK f size y.toArray).size = n * size := by rw [size_flatK]; simp [hy]
  rcases h.2 with ⟨hv, hn0⟩ | ⟨g', cap', cur, hv, hg, hb, hnc, hcm, hsz, _⟩
  · omega
  · cases hv
    have hlt : g < w.heap.size := (Array.getElem?_eq_some_iff.1 hb).1
    have hle : n * size ≤ cur.size := by rw [hsz]; exact Nat.mul_le_mul_right size hnc
    refine ⟨⟨by rw [hs.flat, hy], .inr ⟨g, c, putCells id 0 (flatK f size y.toArray) cur, rfl, hg, ?_, hnc, hcm, by simp [putCells, hsz], ?_⟩⟩, rfl, rfl, rfl, by simp [sortWorldK, putRowK, putRow, mapBlock, grow, Sort.ahead], fun k hk hne => ?_⟩
    · unfold sortWorldK putRowK
      rw [heap_grow_old _ _ (by simpa [putRow, mapBlock, Sort.ahead] using hlt)]
      simp [putRow, mapBlock, Sort.ahead, Array.getElem?_modify, hb, onCells]
    · rw [← hF, take_putK _ _ (by omega), flatK_list hs]
    · unfold sortWorldK putRowK
      rw [heap_grow_old _ _ (by simpa [putRow, mapBlock, Sort.ahead] using hk)]
      have : g ≠ k := fun e => hne (by rw [e])
      simp [putRow, mapBlock, Sort.ahead, Array.getElem?_modify, this]
end
instance : Inhabited Gon := ⟨⟨0, 0, 0, 0⟩⟩
theorem srt_of {n : Nat} {d d' : Array Gon} (hsz : d.size = n) (hp : PermIn 0 n d d') (hs : SortedIn (ltOf cfG) 0 n d') : d'.toList.Perm d.toList ∧ Srt d'.toList ∧ d'.toList.length = n := by
  obtain ⟨h1, _, h3⟩ := hp
  have e1 : d'.extract 0 n = d' := by rw [← hsz, ← h1]; simp
  have e2 : d.extract 0 n = d := by rw [← hsz]; simp
  rw [e1, e2] at h3
  refine ⟨h3, ?_, by rw [Array.length_toList, h1, hsz]⟩
  unfold Srt
  rw [List.pairwise_iff_getElem]
  intro i j hi hj hij
  rw [Array.length_toList] at hi hj
  have h4 := hs i j (Nat.zero_le _) hij (by omega)
  rw [getElem!_pos d' j hj, getElem!_pos d' i hi, ltG, decide_eq_false_iff_not] at h4
  rw [Array.getElem_toList, Array.getElem_toList]
  omega
theorem agg_go (w : World) : (isAgg 54).run Tryz.prog w = .ok true w := Tryz.isAgg54 w
theorem sz_go (w : World) : (Go.sizeOf 54).run Tryz.prog w = .ok 4 w := Tryz.sizeOf54 w
set_option maxRecDepth 100000 in
set_option maxHeartbeats 4000000 in
theorem sortG_is {w : World} {B g n c : Nat} {l : List Gon} (h : OwnGn w B (.slice (some ⟨g, 0, none⟩) n c) n l) (hn : 0 < n) (hn2 : n ≤ 1000000) :
    Calls Tryz.prog 81 #[.slice (some ⟨g, 0, none⟩) n c, .func (.func 82) #[] #[]] w fun e w' => e = .returned (.tuple #[]) ∧ ∃ y, y.Perm l ∧ Srt y ∧ OwnGn w' B (.slice (some ⟨g, 0, none⟩) n c) n y ∧ w.grownBy w' (some g) := by
  have hl := h.len goS
  obtain ⟨g', hA, _, hlt⟩ := h.form hn
  injection hA with hA
  injection hA with hA
  subst hA
  have hsz : l.toArray.size = n := by simpa using hl
  have hS := AnyQ.slices_SortFunc (P := Tryz.prog) Lays.sortf 4 agg_go sz_go goC goS.len goS.one cfG swoG 82 #[] g 0 c l.toArray w (enters_of Tryz.func82 (by kernel_rfl) rfl)
    (fun m os dk _ x y => by
      obtain ⟨x0, x1, x2, x3⟩ := x
      obtain ⟨y0, y1, y2, y3⟩ := y
      exact cmpG_is x0 x1 x2 x3 y0 y1 y2 y3 _ rfl)
    (holds_own goS h) hlt (by rw [hsz]; omega)
  rw [hsz] at hS
  change Calls Tryz.prog 81 _ _ _ at hS
  refine hS.mono ?_
  rintro e w' ⟨he, d', m, os, hp, hs, hw⟩
  obtain ⟨p1, p2, p3⟩ := srt_of hsz hp hs
  refine ⟨he, d'.toList, p1, p2, ?_⟩
  rw [hw]
  exact sorted_own goS h hn d'.toList p3 m os
end Go.Proofs.YtlfbagkonckffaaGreat.Txn
