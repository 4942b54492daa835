/- Joined: ProMath. -/
import Derived.Test.YthhdhdjdhekgpaaDoorCodec
/- The plain mathematics of layer 6: requests and answers, and their bytes. Nothing of the program. -/
namespace Go.Proofs.YthhdhdjdhekgpaaDoor.Pro
open Go.Proofs.YthhdhdjdhekgpaaDoor.Oct Go.Proofs.YthhdhdjdhekgpaaDoor.Rec Go.Proofs.YthhdhdjdhekgpaaDoor.Cod

structure Rq where
  kind : Int
  ver : Int
  id : Int
  who : ByteArray
  ints : List Int
  texts : List ByteArray
  blob : List UInt8
structure Rp where
  kind : Int
  ver : Int
  id : Int
  e : Int
  wait : Int
  ints : List Int
  texts : List ByteArray
  blob : List UInt8
def nilQ : Rq := ⟨0, 0, 0, ByteArray.empty, [], [], []⟩
def nilP : Rp := ⟨0, 0, 0, 0, 0, [], [], []⟩
def known (k v : Int) : Int := if k < 1 ∨ 12 < k then 60 else if v < 0 ∨ 2 < v then 61 else 0
theorem known_iff {k v : Int} : known k v = 0 ↔ (1 ≤ k ∧ k ≤ 12) ∧ 0 ≤ v ∧ v ≤ 2 := by
  unfold known
  by_cases h : k < 1 ∨ 12 < k
  · rw [if_pos h]; constructor
    · intro h; cases h
    · omega
  · rw [if_neg h]
    by_cases h2 : v < 0 ∨ 2 < v
    · rw [if_pos h2]; constructor
      · intro h; cases h
      · omega
    · rw [if_neg h2]; constructor
      · omega
      · intro _; rfl
/-- how many numbers a kind has -/
def nI (k : Int) : Int := [0, 0, 2, 4, 5, 3, 5, 0, 1, 1, 0, 4, 2].getD k.toNat 0
/-- how many texts, at least -/
def nT (k : Int) : Int := [0, 1, 1, 2, 3, 1, 1, 3, 2, 2, 2, 3, 2].getD k.toNat 0
def mT (k : Int) : Int := if k = 7 then 12 else 0
def mB (k : Int) : Int := if k = 2 then 2048 else 0
theorem nI_in {k : Int} (h : 1 ≤ k ∧ k ≤ 12) : 0 ≤ nI k ∧ nI k ≤ 5 := by
  obtain ⟨n, rfl⟩ : ∃ n : Nat, k = (n : Int) := ⟨k.toNat, by omega⟩
  have : n = 1 ∨ n = 2 ∨ n = 3 ∨ n = 4 ∨ n = 5 ∨ n = 6 ∨ n = 7 ∨ n = 8 ∨ n = 9 ∨ n = 10 ∨ n = 11 ∨ n = 12 := by omega
  rcases this with rfl | rfl | rfl | rfl | rfl | rfl | rfl | rfl | rfl | rfl | rfl | rfl <;> decide
theorem nT_in {k : Int} (h : 1 ≤ k ∧ k ≤ 12) : 1 ≤ nT k ∧ nT k ≤ 3 ∧ (k = 7 → nT k = 3) := by
  obtain ⟨n, rfl⟩ : ∃ n : Nat, k = (n : Int) := ⟨k.toNat, by omega⟩
  have : n = 1 ∨ n = 2 ∨ n = 3 ∨ n = 4 ∨ n = 5 ∨ n = 6 ∨ n = 7 ∨ n = 8 ∨ n = 9 ∨ n = 10 ∨ n = 11 ∨ n = 12 := by omega
  rcases this with rfl | rfl | rfl | rfl | rfl | rfl | rfl | rfl | rfl | rfl | rfl | rfl <;> decide
/-- all but kind and version is as it has to be -/
def OkQ (r : Rq) : Prop := (0 ≤ r.id ∧ r.id ≤ 1099511627776) ∧ r.who.size ≤ 64 ∧ (r.ver < 2 → r.who.size = 0) ∧ (r.ints.length : Int) = nI r.kind ∧ (∀ x ∈ r.ints, -1 ≤ x ∧ x ≤ 1099511627776) ∧
  (nT r.kind ≤ (r.texts.length : Int) ∧ (r.texts.length : Int) ≤ nT r.kind + mT r.kind) ∧ (∀ t ∈ r.texts, t.size ≤ 64) ∧ (r.blob.length : Int) ≤ mB r.kind
instance (r : Rq) : Decidable (OkQ r) := by unfold OkQ; infer_instance
def OkP (r : Rp) : Prop := (0 ≤ r.id ∧ r.id ≤ 1099511627776) ∧ (0 ≤ r.wait ∧ r.wait ≤ 1099511627776) ∧ (r.ver = 0 → r.wait = 0) ∧ (0 ≤ r.e ∧ r.e ≤ 999) ∧ r.ints.length ≤ 64 ∧ (∀ x ∈ r.ints, -1099511627776 ≤ x ∧ x ≤ 1099511627776) ∧
  r.texts.length ≤ 16 ∧ (∀ t ∈ r.texts, t.size ≤ 64) ∧ r.blob.length ≤ 4096
instance (r : Rp) : Decidable (OkP r) := by unfold OkP; infer_instance
/-- what CheckReq tells -/
def ckQ (r : Rq) : Int := if known r.kind r.ver ≠ 0 then known r.kind r.ver else if OkQ r then 0 else 1
def ckP (r : Rp) : Int := if known r.kind r.ver ≠ 0 then known r.kind r.ver else if OkP r then 0 else 1
theorem ckQ_iff {r : Rq} : ckQ r = 0 ↔ known r.kind r.ver = 0 ∧ OkQ r := by
  unfold ckQ
  by_cases h : known r.kind r.ver = 0
  · rw [if_neg (by simpa using h)]
    by_cases h2 : OkQ r
    · rw [if_pos h2]; simp [h, h2]
    · rw [if_neg h2]; simp [h, h2]
  · rw [if_pos h]; simp [h]
theorem ckP_iff {r : Rp} : ckP r = 0 ↔ known r.kind r.ver = 0 ∧ OkP r := by
  unfold ckP
  by_cases h : known r.kind r.ver = 0
  · rw [if_neg (by simpa using h)]
    by_cases h2 : OkP r
    · rw [if_pos h2]; simp [h, h2]
    · rw [if_neg h2]; simp [h, h2]
  · rw [if_pos h]; simp [h]

/-- kind and version -/
def kv (l : List UInt8) (p : Int) : Int × Int := (((l[p.toNat]?.getD 0).toNat : Int), ((l[p.toNat + 1]?.getD 0).toNat : Int))
def chead : Codec (Int × Int) where
  get l p := if (l.length : Int) < p + 2 then .error 10 else if known (kv l p).1 (kv l p).2 ≠ 0 then .error (known (kv l p).1 (kv l p).2) else .ok (kv l p, p + 2)
  put z := [UInt8.ofNat z.1.toNat, UInt8.ofNat z.2.toNat]
  may z := known z.1 z.2 = 0
  back h z t hz := by
    obtain ⟨k, v⟩ := z
    have hk := known_iff.1 hz
    simp only at hk
    have e : kv (h ++ ([UInt8.ofNat k.toNat, UInt8.ofNat v.toNat] ++ t)) (h.length : Int) = (k, v) := by
      unfold kv
      rw [Int.toNat_natCast, List.getElem?_append_right (Nat.le_refl _), List.getElem?_append_right (Nat.le_add_right _ 1), Nat.sub_self, show h.length + 1 - h.length = 1 by omega]
      simp only [List.cons_append, List.getElem?_cons_zero, List.getElem?_cons_succ, Option.getD_some]
      rw [ofNat_toNat' (by omega), ofNat_toNat' (by omega)]
      congr 1 <;> omega
    rw [e, if_neg (by simp only [List.length_append, List.length_cons]; omega), if_neg (by simpa using hz)]
    rfl
  sole l p z q hp hl h := by
    by_cases h0 : (l.length : Int) < p + 2
    · rw [if_pos h0] at h; cases h
    · rw [if_neg h0] at h
      by_cases h1 : known (kv l p).1 (kv l p).2 ≠ 0
      · rw [if_pos h1] at h; cases h
      · rw [if_neg h1] at h
        injection h with h
        obtain rfl : kv l p = z := congrArg Prod.fst h
        obtain rfl : p + 2 = q := congrArg Prod.snd h
        refine ⟨by omega, by omega, by omega, ?_⟩
        have e1 : l[p.toNat]? = some (l[p.toNat]'(by omega)) := List.getElem?_eq_getElem (by omega)
        have e2 : l[p.toNat + 1]? = some (l[p.toNat + 1]'(by omega)) := List.getElem?_eq_getElem (by omega)
        unfold kv
        rw [e1, e2]
        simp only [Option.getD_some, Int.toNat_natCast]
        rw [UInt8.ofNat_toNat, UInt8.ofNat_toNat, show (p + 2 - p).toNat = 2 by omega, drop_at e1, drop_at e2]
        rfl
  short h z k hz hk := by
    have hk2 : k < 2 := hk
    rw [if_pos (by rw [List.length_append, List.length_take]; simp only [List.length_cons, List.length_nil]; omega)]

def txt64 : Codec ByteArray := ctext 64 (by omega)
def whoC (v : Int) : Codec ByteArray := if v = 2 then txt64 else cnone ByteArray.empty
def intsC (k : Int) : Codec (List Int) := cmany cvar (nI k).toNat
def ck15 (n : Int) : Int := if n < 3 ∨ 15 < n then 11 else 0
theorem ck15_pos (n : Int) (h : ck15 n = 0) : 0 ≤ n := by
  unfold ck15 at h
  by_cases h2 : n < 3 ∨ 15 < n
  · rw [if_pos h2] at h; cases h
  · omega
def ckM (m n : Int) : Int := if n < 0 then 11 else if m < n then 2 else 0
theorem ckM_pos (m n : Int) (h : ckM m n = 0) : 0 ≤ n := by
  unfold ckM at h
  by_cases h2 : n < 0
  · rw [if_pos h2] at h; cases h
  · omega
theorem ckM_ok {m n : Int} (h0 : 0 ≤ n) (h1 : n ≤ m) : ckM m n = 0 := by
  unfold ckM
  rw [if_neg (by omega), if_neg (by omega)]
def textsC (k : Int) : Codec (List ByteArray) := if k = 7 then ccount txt64 ck15 ck15_pos else cmany txt64 (nT k).toNat
def blobC (k : Int) : Codec (List UInt8) := if k = 2 then cblob (ckM 2048) (ckM_pos 2048) else cnone []
def waitC (v : Int) : Codec Int := if 1 ≤ v then cvar else cnone 0
def reqC : Codec Rq :=
  cmap (cseq chead fun z => cseq cvar fun _ => cseq (whoC z.2) fun _ => cseq (intsC z.1) fun _ => cseq (textsC z.1) fun _ => blobC z.1)
    (fun x => ⟨x.1.1, x.1.2, x.2.1, x.2.2.1, x.2.2.2.1, x.2.2.2.2.1, x.2.2.2.2.2⟩)
    (fun r => ((r.kind, r.ver), r.id, r.who, r.ints, r.texts, r.blob)) (fun _ _ => rfl) (fun _ _ => rfl)
def respC : Codec Rp :=
  cmap (cseq chead fun z => cseq cvar fun _ => cseq cvar fun _ => cseq (waitC z.2) fun _ => cseq (ccount cvar (ckM 64) (ckM_pos 64)) fun _ => cseq (ccount txt64 (ckM 16) (ckM_pos 16)) fun _ => cblob (ckM 4096) (ckM_pos 4096))
    (fun x => ⟨x.1.1, x.1.2, x.2.1, x.2.2.1, x.2.2.2.1, x.2.2.2.2.1, x.2.2.2.2.2.1, x.2.2.2.2.2.2⟩)
    (fun r => ((r.kind, r.ver), r.id, r.e, r.wait, r.ints, r.texts, r.blob)) (fun _ _ => rfl) (fun _ _ => rfl)
/-- what PutReq, GetReq, PutResp, GetResp tell -/
def ptQ (r : Rq) : List UInt8 × Int := if ckQ r = 0 then (reqC.put r, 0) else ([], ckQ r)
def ptP (r : Rp) : List UInt8 × Int := if ckP r = 0 then (respC.put r, 0) else ([], ckP r)
def gtQ (l : List UInt8) : Rq × Int := match whole reqC ckQ l with
  | .error e => (nilQ, e)
  | .ok r => (r, 0)
def gtP (l : List UInt8) : Rp × Int := match whole respC ckP l with
  | .error e => (nilP, e)
  | .ok r => (r, 0)

theorem empty_of {s : ByteArray} (h : s.size = 0) : s = ByteArray.empty := by
  cases s with | mk d =>
  have : d = #[] := Array.eq_empty_of_size_eq_zero h
  subst this
  rfl
theorem may_req {r : Rq} (h : ckQ r = 0) : reqC.may r := by
  obtain ⟨hk, h1, h2, h3, h4, h5, h6, h7, h8⟩ := ckQ_iff.1 h
  obtain ⟨k1, k2⟩ := known_iff.1 hk
  have n1 := nI_in k1
  have n2 := nT_in k1
  refine ⟨hk, ⟨?_, ?_⟩, ?_, ⟨?_, ?_⟩, ?_, ?_⟩
  · show -9223372036854775808 ≤ r.id; omega
  · show r.id ≤ 9223372036854775807; omega
  · show (whoC r.ver).may r.who
    unfold whoC
    by_cases hv : r.ver = 2
    · rw [if_pos hv]; exact h2
    · rw [if_neg hv]; exact empty_of (h3 (by omega))
  · show r.ints.length = (nI r.kind).toNat; omega
  · intro x hx
    have := h5 x hx
    exact ⟨by omega, by omega⟩
  · show (textsC r.kind).may r.texts
    unfold textsC
    by_cases hv : r.kind = 7
    · have h37 := n2.2.2 hv
      have hm : mT r.kind = 12 := by unfold mT; rw [if_pos hv]
      rw [if_pos hv]
      exact ccount_may (by omega) (by unfold ck15; rw [if_neg (by omega)]) h7
    · have hm : mT r.kind = 0 := by unfold mT; rw [if_neg hv]
      rw [if_neg hv]
      exact ⟨by show r.texts.length = (nT r.kind).toNat; omega, h7⟩
  · show (blobC r.kind).may r.blob
    unfold blobC
    by_cases hv : r.kind = 2
    · have hm : mB r.kind = 2048 := by unfold mB; rw [if_pos hv]
      rw [if_pos hv]
      exact cblob_may (by omega) (ckM_ok (by omega) (by omega))
    · have hm : mB r.kind = 0 := by unfold mB; rw [if_neg hv]
      rw [if_neg hv]
      exact List.eq_nil_of_length_eq_zero (by omega)
theorem may_resp {r : Rp} (h : ckP r = 0) : respC.may r := by
  obtain ⟨hk, h1, h2, h3, h4, h5, h6, h7, h8, h9⟩ := ckP_iff.1 h
  obtain ⟨k1, k2⟩ := known_iff.1 hk
  refine ⟨hk, ⟨?_, ?_⟩, ⟨?_, ?_⟩, ?_, ?_, ?_, ?_⟩
  · show -9223372036854775808 ≤ r.id; omega
  · show r.id ≤ 9223372036854775807; omega
  · show -9223372036854775808 ≤ r.e; omega
  · show r.e ≤ 9223372036854775807; omega
  · show (waitC r.ver).may r.wait
    unfold waitC
    by_cases hv : 1 ≤ r.ver
    · rw [if_pos hv]; exact ⟨by omega, by omega⟩
    · rw [if_neg hv]; exact h3 (by omega)
  · exact ccount_may (by show r.ints.length ≤ _; omega) (ckM_ok (by omega) (by show ((r.ints.length : Nat) : Int) ≤ 64; omega)) fun x hx => by
      have := h6 x hx
      exact ⟨by omega, by omega⟩
  · exact ccount_may (by show r.texts.length ≤ _; omega) (ckM_ok (by omega) (by show ((r.texts.length : Nat) : Int) ≤ 16; omega)) h8
  · exact cblob_may (by show r.blob.length ≤ _; omega) (ckM_ok (by omega) (by show ((r.blob.length : Nat) : Int) ≤ 4096; omega))

/-- what is put is got; with a byte more, and cut short, it is none -/
theorem gtQ_put {r : Rq} (h : ckQ r = 0) : gtQ (reqC.put r) = (r, 0) := by unfold gtQ; rw [whole_back (may_req h) h]
theorem gtQ_more {r : Rq} (h : ckQ r = 0) (c : UInt8) : gtQ (reqC.put r ++ [c]) = (nilQ, 11) := by unfold gtQ; rw [whole_more (may_req h)]
theorem gtQ_short {r : Rq} (h : ckQ r = 0) {k : Nat} (hk : k < (reqC.put r).length) : gtQ ((reqC.put r).take k) = (nilQ, 10) := by unfold gtQ; rw [whole_short (may_req h) hk]
theorem gtP_put {r : Rp} (h : ckP r = 0) : gtP (respC.put r) = (r, 0) := by unfold gtP; rw [whole_back (may_resp h) h]
theorem gtP_more {r : Rp} (h : ckP r = 0) (c : UInt8) : gtP (respC.put r ++ [c]) = (nilP, 11) := by unfold gtP; rw [whole_more (may_resp h)]
theorem gtP_short {r : Rp} (h : ckP r = 0) {k : Nat} (hk : k < (respC.put r).length) : gtP ((respC.put r).take k) = (nilP, 10) := by unfold gtP; rw [whole_short (may_resp h) hk]
/-- what is got was put -/
theorem gtQ_only {l : List UInt8} {r : Rq} (h : gtQ l = (r, 0)) (hn : whole reqC ckQ l ≠ .error 0) : ckQ r = 0 ∧ reqC.put r = l := by
  unfold gtQ at h
  cases hw : whole reqC ckQ l with
  | error e => rw [hw] at h hn; injection h with _ h; subst h; exact absurd rfl hn
  | ok x =>
    rw [hw] at h
    obtain rfl : x = r := congrArg Prod.fst h
    exact (whole_only hw).2
theorem gtP_only {l : List UInt8} {r : Rp} (h : gtP l = (r, 0)) (hn : whole respC ckP l ≠ .error 0) : ckP r = 0 ∧ respC.put r = l := by
  unfold gtP at h
  cases hw : whole respC ckP l with
  | error e => rw [hw] at h hn; injection h with _ h; subst h; exact absurd rfl hn
  | ok x =>
    rw [hw] at h
    obtain rfl : x = r := congrArg Prod.fst h
    exact (whole_only hw).2
theorem gtQ_bad {l : List UInt8} {r : Rq} {e : Int} (h : gtQ l = (r, e)) (he : e ≠ 0) : r = nilQ := by
  unfold gtQ at h
  cases hw : whole reqC ckQ l with
  | error e => rw [hw] at h; exact (congrArg Prod.fst h).symm
  | ok x => rw [hw] at h; exact absurd (congrArg Prod.snd h).symm he
theorem gtP_bad {l : List UInt8} {r : Rp} {e : Int} (h : gtP l = (r, e)) (he : e ≠ 0) : r = nilP := by
  unfold gtP at h
  cases hw : whole respC ckP l with
  | error e => rw [hw] at h; exact (congrArg Prod.fst h).symm
  | ok x => rw [hw] at h; exact absurd (congrArg Prod.snd h).symm he
/-! ### which errors there are -/
def Low (e : Int) : Prop := e ≠ 0 ∧ e ≠ 60 ∧ e ≠ 61
def Errs {α : Type} (a : Codec α) : Prop := ∀ (l : List UInt8) (p e : Int), a.get l p = .error e → Low e
theorem gv_errs (l : List UInt8) (p : Int) : (gv l p).2.2 = 0 ∨ (gv l p).2.2 = 1 ∨ (gv l p).2.2 = 10 ∨ (gv l p).2.2 = 11 := by
  unfold gv
  by_cases h : p < 0
  · rw [if_pos h]; simp
  · rw [if_neg h]
    cases scan (l.drop p.toNat) 0 0 <;> simp
theorem gx_errs (l : List UInt8) (p m : Int) : (gx l p m).2.2 = 0 ∨ (gx l p m).2.2 = 1 ∨ (gx l p m).2.2 = 10 ∨ (gx l p m).2.2 = 11 ∨ (gx l p m).2.2 = 2 := by
  have g := gv_errs l p
  unfold gx
  by_cases h : (gv l p).2.2 ≠ 0
  · rw [if_pos h]; simp only; omega
  · rw [if_neg h]
    by_cases h2 : (gv l p).1 < 0
    · rw [if_pos h2]; simp
    · rw [if_neg h2]
      by_cases h3 : m < (gv l p).1
      · rw [if_pos h3]; simp
      · rw [if_neg h3]
        by_cases h4 : hasB l.length (gv l p).2.1 (gv l p).1 = false
        · rw [if_pos h4]; simp
        · rw [if_neg h4]; simp
theorem errs_var : Errs cvar := by
  intro l p e h
  have g := gv_errs l p
  change (if (gv l p).2.2 = 0 then _ else _) = _ at h
  by_cases h0 : (gv l p).2.2 = 0
  · rw [if_pos h0] at h; cases h
  · rw [if_neg h0] at h
    injection h with h
    unfold Low; omega
theorem errs_text {m : Nat} {hm : m ≤ 1099511627776} : Errs (ctext m hm) := by
  intro l p e h
  have g := gx_errs l p (m : Int)
  change (if (gx l p (m : Int)).2.2 = 0 then _ else _) = _ at h
  by_cases h0 : (gx l p (m : Int)).2.2 = 0
  · rw [if_pos h0] at h; cases h
  · rw [if_neg h0] at h
    injection h with h
    unfold Low; omega
theorem errs_raw {n : Nat} : Errs (craw n) := by
  intro l p e h
  change (if (l.length : Int) < p + n then _ else _) = _ at h
  by_cases h0 : (l.length : Int) < p + n
  · rw [if_pos h0] at h
    injection h with h
    subst h
    exact ⟨by decide, by decide, by decide⟩
  · rw [if_neg h0] at h; cases h
theorem errs_none {α : Type} {x : α} : Errs (cnone x) := by
  intro l p e h
  cases h
theorem errs_seq {α β : Type} {a : Codec α} {b : α → Codec β} (ha : Errs a) (hb : ∀ x, Errs (b x)) : Errs (cseq a b) := by
  intro l p e h
  change (match a.get l p with | .error e => Except.error e | .ok x => match (b x.1).get l x.2 with | .error e => .error e | .ok y => .ok ((x.1, y.1), y.2)) = _ at h
  cases h1 : a.get l p with
  | error e1 =>
    rw [h1] at h
    injection h with h
    subst h
    exact ha l p _ h1
  | ok x =>
    rw [h1] at h
    simp only at h
    cases h2 : (b x.1).get l x.2 with
    | error e1 =>
      rw [h2] at h
      injection h with h
      subst h
      exact hb _ l _ _ h2
    | ok y => rw [h2] at h; cases h
theorem errs_map {α β : Type} {a : Codec α} {f : α → β} {g : β → α} {h1 : ∀ x, a.may x → g (f x) = x} {h2 : ∀ y, a.may (g y) → f (g y) = y} (ha : Errs a) : Errs (cmap a f g h1 h2) := by
  intro l p e h
  change (match a.get l p with | .error e => Except.error e | .ok x => .ok (f x.1, x.2)) = _ at h
  cases h3 : a.get l p with
  | error e1 =>
    rw [h3] at h
    injection h with h
    subst h
    exact ha l p _ h3
  | ok x => rw [h3] at h; cases h
theorem errs_that {α : Type} {a : Codec α} {chk : α → Int} (ha : Errs a) (hc : ∀ x, chk x ≠ 0 → Low (chk x)) : Errs (cthat a chk) := by
  intro l p e h
  change (match a.get l p with | .error e => Except.error e | .ok x => if chk x.1 = 0 then .ok x else .error (chk x.1)) = _ at h
  cases h3 : a.get l p with
  | error e1 =>
    rw [h3] at h
    injection h with h
    subst h
    exact ha l p _ h3
  | ok x =>
    rw [h3] at h
    simp only at h
    by_cases h4 : chk x.1 = 0
    · rw [if_pos h4] at h; cases h
    · rw [if_neg h4] at h
      injection h with h
      subst h
      exact hc _ h4
theorem errs_many {α : Type} {a : Codec α} (ha : Errs a) : ∀ n, Errs (cmany a n)
  | 0 => by intro l p e h; cases h
  | n + 1 => by
    intro l p e h
    change getMany a (n + 1) l p = _ at h
    unfold getMany at h
    cases h1 : a.get l p with
    | error e1 =>
      rw [h1] at h
      injection h with h
      subst h
      exact ha l p _ h1
    | ok x =>
      rw [h1] at h
      simp only at h
      cases h2 : getMany a n l x.2 with
      | error e1 =>
        rw [h2] at h
        injection h with h
        subst h
        exact errs_many ha n l _ _ h2
      | ok y => rw [h2] at h; cases h
theorem low_15 (n : Int) (h : ck15 n ≠ 0) : Low (ck15 n) := by
  unfold ck15 at h ⊢
  by_cases h2 : n < 3 ∨ 15 < n
  · rw [if_pos h2]; exact ⟨by decide, by decide, by decide⟩
  · rw [if_neg h2] at h; exact absurd rfl h
theorem low_M (m n : Int) (h : ckM m n ≠ 0) : Low (ckM m n) := by
  unfold ckM at h ⊢
  by_cases h2 : n < 0
  · rw [if_pos h2]; exact ⟨by decide, by decide, by decide⟩
  · rw [if_neg h2] at h ⊢
    by_cases h3 : m < n
    · rw [if_pos h3]; exact ⟨by decide, by decide, by decide⟩
    · rw [if_neg h3] at h; exact absurd rfl h
theorem errs_count {α : Type} {a : Codec α} {chk : Int → Int} {hc : ∀ n, chk n = 0 → 0 ≤ n} (ha : Errs a) (hl : ∀ n, chk n ≠ 0 → Low (chk n)) : Errs (ccount a chk hc) :=
  errs_map (errs_seq (errs_that errs_var hl) fun _ => errs_many ha _)
theorem errs_blob {chk : Int → Int} {hc : ∀ n, chk n = 0 → 0 ≤ n} (hl : ∀ n, chk n ≠ 0 → Low (chk n)) : Errs (cblob chk hc) :=
  errs_map (errs_seq (errs_that errs_var hl) fun _ => errs_raw)
theorem errs_who (v : Int) : Errs (whoC v) := by
  unfold whoC
  by_cases h : v = 2
  · rw [if_pos h]; exact errs_text
  · rw [if_neg h]; exact errs_none
theorem errs_wait (v : Int) : Errs (waitC v) := by
  unfold waitC
  by_cases h : 1 ≤ v
  · rw [if_pos h]; exact errs_var
  · rw [if_neg h]; exact errs_none
theorem errs_texts (k : Int) : Errs (textsC k) := by
  unfold textsC
  by_cases h : k = 7
  · rw [if_pos h]; exact errs_count errs_text low_15
  · rw [if_neg h]; exact errs_many errs_text _
theorem errs_bl (k : Int) : Errs (blobC k) := by
  unfold blobC
  by_cases h : k = 2
  · rw [if_pos h]; exact errs_blob (low_M 2048)
  · rw [if_neg h]; exact errs_none
/-- the head's errors come first -/
theorem head_errs (l : List UInt8) {β : Type} {b : Int × Int → Codec β} (hb : ∀ x, Errs (b x)) {e : Int} (h : (cseq chead b).get l 0 = .error e) :
    ((l.length : Int) < 2 ∧ e = 10) ∨ (2 ≤ (l.length : Int) ∧ known (kv l 0).1 (kv l 0).2 ≠ 0 ∧ e = known (kv l 0).1 (kv l 0).2) ∨ (2 ≤ (l.length : Int) ∧ known (kv l 0).1 (kv l 0).2 = 0 ∧ Low e) := by
  rw [cseq_get] at h
  have hh : chead.get l 0 = if (l.length : Int) < 0 + 2 then .error 10 else if known (kv l 0).1 (kv l 0).2 ≠ 0 then .error (known (kv l 0).1 (kv l 0).2) else .ok (kv l 0, 0 + 2) := rfl
  by_cases h0 : (l.length : Int) < 0 + 2
  · rw [hh, if_pos h0] at h
    injection h with h
    exact .inl ⟨by omega, h.symm⟩
  · rw [hh, if_neg h0] at h
    by_cases h1 : known (kv l 0).1 (kv l 0).2 ≠ 0
    · rw [if_pos h1] at h
      injection h with h
      exact .inr (.inl ⟨by omega, h1, h.symm⟩)
    · rw [if_neg h1] at h
      simp only at h
      cases h2 : (b (kv l 0)).get l (0 + 2) with
      | error e1 =>
        rw [h2] at h
        injection h with h
        subst h
        exact .inr (.inr ⟨by omega, by omega, hb _ l _ _ h2⟩)
      | ok y => rw [h2] at h; cases h
theorem head_ok (l : List UInt8) {β : Type} {b : Int × Int → Codec β} {x : (Int × Int) × β} {q : Int} (h : (cseq chead b).get l 0 = .ok (x, q)) : 2 ≤ (l.length : Int) ∧ known (kv l 0).1 (kv l 0).2 = 0 := by
  rw [cseq_get] at h
  have hh : chead.get l 0 = if (l.length : Int) < 0 + 2 then .error 10 else if known (kv l 0).1 (kv l 0).2 ≠ 0 then .error (known (kv l 0).1 (kv l 0).2) else .ok (kv l 0, 0 + 2) := rfl
  by_cases h0 : (l.length : Int) < 0 + 2
  · rw [hh, if_pos h0] at h; cases h
  · rw [hh, if_neg h0] at h
    by_cases h1 : known (kv l 0).1 (kv l 0).2 ≠ 0
    · rw [if_pos h1] at h; cases h
    · exact ⟨by omega, by omega⟩
/-- what is told of any bytes, by the first two -/
def Tells (l : List UInt8) (e : Int) : Prop :=
  ((l.length : Int) < 2 → e = 10) ∧ (2 ≤ (l.length : Int) → known (kv l 0).1 (kv l 0).2 ≠ 0 → e = known (kv l 0).1 (kv l 0).2) ∧ (2 ≤ (l.length : Int) → known (kv l 0).1 (kv l 0).2 = 0 → e ≠ 60 ∧ e ≠ 61)
theorem tells_whole {α β : Type} {b : Int × Int → Codec β} (hb : ∀ x, Errs (b x)) {f : (Int × Int) × β → α} {g : α → (Int × Int) × β} {h1 : ∀ x, (cseq chead b).may x → g (f x) = x} {h2 : ∀ y, (cseq chead b).may (g y) → f (g y) = y} (chk : α → Int) (l : List UInt8) :
    (∃ e, whole (cmap (cseq chead b) f g h1 h2) chk l = .error e ∧ Tells l e ∧ e ≠ 0) ∨ (∃ x, whole (cmap (cseq chead b) f g h1 h2) chk l = .ok x ∧ Tells l 0) := by
  have hm := cmap_get (cseq chead b) f g h1 h2 l 0
  cases hc : (cseq chead b).get l 0 with
  | error e =>
    refine .inl ⟨e, by unfold whole; rw [hm, hc], ?_⟩
    rcases head_errs l hb hc with ⟨a, b⟩ | ⟨a, b, c⟩ | ⟨a, b, c⟩
    · exact ⟨⟨fun _ => b, fun h => by omega, fun h => by omega⟩, by omega⟩
    · exact ⟨⟨fun h => by omega, fun _ _ => c, fun _ h => absurd h b⟩, by omega⟩
    · exact ⟨⟨fun h => by omega, fun _ h => absurd b h, fun _ _ => c.2⟩, c.1⟩
  | ok x =>
    obtain ⟨k1, k2⟩ := head_ok l hc
    have ht : ∀ e : Int, e ≠ 60 ∧ e ≠ 61 → Tells l e := fun e he => ⟨fun h => by omega, fun _ h => absurd k2 h, fun _ _ => he⟩
    by_cases h3 : x.2 ≠ (l.length : Int)
    · exact .inl ⟨11, by unfold whole; rw [hm, hc]; simp only; rw [if_pos h3], ht _ (by omega), by omega⟩
    · by_cases h4 : chk (f x.1) ≠ 0
      · exact .inl ⟨1, by unfold whole; rw [hm, hc]; simp only; rw [if_neg h3, if_pos h4], ht _ (by omega), by omega⟩
      · exact .inr ⟨f x.1, by unfold whole; rw [hm, hc]; simp only; rw [if_neg h3, if_neg h4], ht _ (by omega)⟩
theorem errs_reqBody (z : Int × Int) : Errs (cseq cvar fun _ => cseq (whoC z.2) fun _ => cseq (intsC z.1) fun _ => cseq (textsC z.1) fun _ => blobC z.1) :=
  errs_seq errs_var fun _ => errs_seq (errs_who _) fun _ => errs_seq (errs_many errs_var _) fun _ => errs_seq (errs_texts _) fun _ => errs_bl _
theorem errs_respBody (z : Int × Int) : Errs (cseq cvar fun _ => cseq cvar fun _ => cseq (waitC z.2) fun _ => cseq (ccount cvar (ckM 64) (ckM_pos 64)) fun _ => cseq (ccount txt64 (ckM 16) (ckM_pos 16)) fun _ => cblob (ckM 4096) (ckM_pos 4096)) :=
  errs_seq errs_var fun _ => errs_seq errs_var fun _ => errs_seq (errs_wait _) fun _ => errs_seq (errs_count errs_var (low_M 64)) fun _ => errs_seq (errs_count errs_text (low_M 16)) fun _ => errs_blob (low_M 4096)
theorem gtQ_tells (l : List UInt8) : Tells l (gtQ l).2 := by
  rcases tells_whole errs_reqBody ckQ l with ⟨e, h1, h2, h3⟩ | ⟨x, h1, h2⟩
  · unfold gtQ reqC; rw [h1]; exact h2
  · unfold gtQ reqC; rw [h1]; exact h2
theorem gtP_tells (l : List UInt8) : Tells l (gtP l).2 := by
  rcases tells_whole errs_respBody ckP l with ⟨e, h1, h2, h3⟩ | ⟨x, h1, h2⟩
  · unfold gtP respC; rw [h1]; exact h2
  · unfold gtP respC; rw [h1]; exact h2
theorem gtQ_is {l : List UInt8} {r : Rq} (h : gtQ l = (r, 0)) : ckQ r = 0 ∧ reqC.put r = l := by
  refine gtQ_only h fun h0 => ?_
  rcases tells_whole errs_reqBody ckQ l with ⟨e, h1, h2, h3⟩ | ⟨x, h1, h2⟩
  · unfold reqC at h0; rw [h1] at h0; injection h0 with h0; exact h3 h0
  · unfold reqC at h0; rw [h1] at h0; cases h0
theorem gtP_is {l : List UInt8} {r : Rp} (h : gtP l = (r, 0)) : ckP r = 0 ∧ respC.put r = l := by
  refine gtP_only h fun h0 => ?_
  rcases tells_whole errs_respBody ckP l with ⟨e, h1, h2, h3⟩ | ⟨x, h1, h2⟩
  · unfold respC at h0; rw [h1] at h0; injection h0 with h0; exact h3 h0
  · unfold respC at h0; rw [h1] at h0; cases h0
end Go.Proofs.YthhdhdjdhekgpaaDoor.Pro
