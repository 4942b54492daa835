/- Joined: RowN. -/
import Derived.Test.YtejcjmiofidedaaGreatDoorJRow
import Derived.Test.YtejcjmiofidedaaGreatDoorJOct
import Derived.Lib.AppendZeros
import Derived.LoopTactic
/- The contracts of slices.Grow of nothing and slices.Concat, over bytes. -/
namespace Go.Proofs.YtejcjmiofidedaaGreatDoor.RowN
open Go.RowKit Oct RowF RowL Lay

theorem rdn_lit {w : World} {B : Nat} (e : TypeId) (s : Nat × Nat) (hs : List (Option Addr × Nat × Nat)) (L : List (List UInt8)) (hB : B ≤ w.heap.size) (hlen : hs.length = L.length)
    (h : ∀ (i : Nat) (x : Option Addr × Nat × Nat) (l : List UInt8), hs[i]? = some x → L[i]? = some l → Rd w B x.1 x.2.1 l ∧ x.2.1 ≤ x.2.2) :
    RdN (w.alloc (.cells (hs.map fun x => Value.slice x.1 x.2.1 x.2.2).toArray e s)) (w.heap.size + 1) (some ⟨w.heap.size, 0, none⟩) L.length L := by
  refine ⟨rfl, fun k l hl => ?_⟩
  have hk : k < hs.length := by rw [hlen]; exact (List.getElem?_eq_some_iff.1 hl).1
  have hx : hs[k]? = some hs[k] := List.getElem?_eq_getElem hk
  obtain ⟨h1, h2⟩ := h k _ l hx hl
  refine ⟨w.heap.size, 0, hs[k].1, hs[k].2.1, hs[k].2.2, rfl, by omega, ?_, h2, (h1.alloc hB _).more (by omega)⟩
  rw [cell_of_row _ _ _ _ e s (heap_alloc_new w _)]
  simp [hk]
theorem rdn_two {w : World} {B : Nat} (e : TypeId) (s : Nat × Nat) (A1 A2 : Option Addr) (n1 c1 n2 c2 : Nat) (l1 l2 : List UInt8) (hB : B ≤ w.heap.size) (h1 : Rd w B A1 n1 l1) (k1 : n1 ≤ c1) (h2 : Rd w B A2 n2 l2) (k2 : n2 ≤ c2) :
    RdN (w.alloc (.cells #[.slice A1 n1 c1, .slice A2 n2 c2] e s)) (w.heap.size + 1) (some ⟨w.heap.size, 0, none⟩) 2 [l1, l2] := by
  refine rdn_lit e s [(A1, n1, c1), (A2, n2, c2)] [l1, l2] hB rfl fun i x l hx hl => ?_
  match i, hx, hl with
  | 0, hx, hl =>
    obtain rfl : (A1, n1, c1) = x := by simpa using hx
    obtain rfl : l1 = l := by simpa using hl
    exact ⟨h1, k1⟩
  | 1, hx, hl =>
    obtain rfl : (A2, n2, c2) = x := by simpa using hx
    obtain rfl : l2 = l := by simpa using hl
    exact ⟨h2, k2⟩
def joRel (e8 : TypeId) (L : List (List UInt8)) (n : Nat) (w : World) (vb i : Value) (wr : World) : Prop :=
  ∃ (k : Nat) (A : Option Addr) (m c : Nat), i = .int .i64 (k : Int) ∧ k ≤ n ∧ vb = .slice A m c ∧ OwnB wr e8 w.heap.size vb m (L.take k).flatten ∧ Below w.heap.size w wr
theorem flat_step {L : List (List UInt8)} {k : Nat} {l : List UInt8} (h : L[k]? = some l) : (L.take (k + 1)).flatten = (L.take k).flatten ++ l := by
  rw [List.take_add_one, h, List.flatten_append]
  simp
theorem flat_le (L : List (List UInt8)) (k : Nat) : (L.take k).flatten.length ≤ L.flatten.length := by
  have h : L.flatten = (L.take k).flatten ++ (L.drop k).flatten := by rw [← List.flatten_append, List.take_append_drop]
  rw [h, List.length_append]
  omega

theorem wpList_app_any {P : Program} {ops : Array Oper} {rest : List Oper} {o : Oper} {a : Act} {Q : Exit → Act → World → Prop} {w w' : World} {vs vx v : Value} (hgd : o.guard = none) (s x : Operand) (t u : TypeId) (ho : o.op = .call { callee := .builtin .append, args := #[s, x], argTypes := #[t, u] }) (hs : a.eval s = vs) (hx : a.eval x = vx)
    (hrun : (Builtin.append_ #[t, u] o.type #[vs, vx]).run P w = .ok v w') (h : wpList P ops Q rest (a.put o.dst v) w') : wpList P ops Q (o :: rest) a w := by
  refine wpList_plain hgd fun K hK => ?_
  unfold Oper.wp execOp
  simp only [ho, resolve, invoke, builtin, Sem.run_bind, Sem.run_pure, Result.andThen_ok, List.map_toArray, List.map_cons, List.map_nil, hs, hx, hrun]
  exact hK _ _ h
set_option maxRecDepth 100000 in
theorem GrowNil_any (n : Nat) (w : World) (hn : n ≤ 1099511627776) :
    Calls Tryz.prog 134 #[.slice none 0 0, .int .i64 (n : Int)] w (RB 5 w.heap.size w []) := by
  by_cases h0 : 0 < n
  · obtain ⟨i, hi, hz, hs, hb⟩ := u8row
    have hmax : n ≤ maxLen := by unfold maxLen; omega
    have hge := grownCap_ge w n 0 5
    have hle := grownCap_le_maxLen w n 0 5 hmax
    have hrun := Lib.run_append_nil_zeros (P := Tryz.prog) w 57 3 57 5 i (.int .u8 0) .i64 .i64 Tryz.underlying57 Tryz.underlying3 hi hz n h0 (by omega) (by omega) (by rw [hb]; omega)
    have HG := Lib.hid hge
    obtain ⟨cap, hcap⟩ : ∃ cap, cap = grownCap w n 0 5 := ⟨_, rfl⟩
    rw [← hcap] at hrun hge hle
    obtain ⟨cs, hcs⟩ : ∃ cs, cs = Builtin.zeroCells (Value.int .u8 0).cells n ++ Builtin.zeroCells (Value.int .u8 0).cells (cap - n) := ⟨_, rfl⟩
    rw [← hcs] at hrun
    have hsz : cs.size = cap * 1 := by
      rw [hcs, Array.size_append, size_zeroCells, size_zeroCells]
      show n * 1 + (cap - n) * 1 = cap * 1
      omega
    have HO := Lib.hid (World.ownsRow_made (base := w.heap.size) (e := 5) (size := 1) w.drew cs cap (Nat.le_refl _) hle hsz)
    have hno : ¬ (n : Int) < 0 := by omega
    have hcap0 : ¬ cap = 0 := by omega
    clear hcs hcap hsz hge HG
    go_enter Tryz.func134, Tryz.ntmps134
    go_wp2_with (at_builtin; refine wpList_app_any rfl _ _ 57 3 rfl rfl rfl hrun ?_)
    go_ret
    exact ⟨some ⟨w.heap.size, 0, none⟩, 0, cap, rfl, HO.out, (bel_alloc (Below.refl _ _) _).drew⟩
  · obtain rfl : n = 0 := by omega
    go_enter Tryz.func134, Tryz.ntmps134
    go_wp2
    go_ret
    exact ⟨none, 0, 0, rfl, OwnB.nil, Below.refl _ _⟩
def ltRel (L : List (List UInt8)) (n : Nat) (w : World) (vs i : Value) (wr : World) : Prop :=
  ∃ k : Nat, vs = .int .i64 ((L.take k).flatten.length : Int) ∧ i = .int .i64 (k : Int) ∧ k ≤ n ∧ wr = w
set_option maxRecDepth 100000 in
set_option maxHeartbeats 1000000 in
theorem Concat_any (A : Option Addr) (n c : Nat) (L : List (List UInt8)) (B : Nat) (w : World) (hr : RdN w B A n L) (hB : B ≤ w.heap.size) (hn : n ≤ 1099511627776) (hs : L.flatten.length ≤ 1099511627776) :
    Calls Tryz.prog 110 #[.slice A n c] w (RB 5 w.heap.size w L.flatten) := by
  have hI := u8row
  have HR := Lib.hid hr
  have HS := Lib.hid hs
  clear hr hs
  go_enter Tryz.func110, Tryz.ntmps110
  go_wp2
  go_loopw [3, 11] (fun vs i wr => ltRel L n w vs i wr) (fun _ i _ => n - (intOf i).toNat)
  case atStart => exact ⟨0, rfl, rfl, Nat.zero_le _, rfl⟩
  case round =>
    obtain ⟨k, rfl, rfl, hk, rfl⟩ := hrel
    by_cases hlt : k < n
    · obtain ⟨b, o, a, m, c2, l, rfl, hbl, hl, hcell, hm, hrd⟩ := HR.out.at hlt
      have h1 := flat_le L (k + 1)
      rw [flat_step hl, List.length_append, hrd.len] at h1
      have HL := Lib.hid hl
      have HLN := Lib.hid hrd.len
      have hlen : (L.take k).flatten.length + m ≤ 1099511627776 := by have := HS.out; omega
      obtain ⟨z, hz⟩ : ∃ z, z = (L.take k).flatten.length := ⟨_, rfl⟩
      rw [← hz] at hlen ⊢
      have HZ := Lib.hid hz
      clear hl hrd hm h1 hz
      go_wp2
      go_roundw
      case rel => exact ⟨k + 1, by rw [flat_step HL.out, List.length_append, HLN.out, ← HZ.out]; go_num, by go_num, by omega, rfl⟩
      case measure => simp [intOf]; omega
    · have hkn : k = n := by omega
      subst hkn
      have ht : L.take k = L := List.take_of_length_le (by have := HR.out.len; omega)
      rw [ht]
      have HT := Lib.hid ht
      have hlen := HS.out
      obtain ⟨wa, hwa⟩ : ∃ wa, wa = wr := ⟨_, rfl⟩
      subst hwa
      obtain ⟨z, hz⟩ : ∃ z, z = L.flatten.length := ⟨_, rfl⟩
      rw [← hz] at hlen ⊢
      clear ht hz
      go_wp2_with (go_at_call 134; (with_reducible refine (GrowNil_any z _ hlen).mono ?_); rintro e w1 ⟨A1, n1, c1, rfl, ho1, hb1⟩; have HO1 := Lib.hid ho1; have HB1 := Lib.hid hb1; clear ho1 hb1)
      go_loopw [6, 27] (fun vb i wr2 => joRel 5 L k wa vb i wr2) (fun _ i _ => k - (intOf i).toNat)
      case atStart =>
        have := HO1.out.len
        exact ⟨0, A1, n1, c1, rfl, Nat.zero_le _, rfl, HO1.out, HB1.out⟩
      case round =>
        obtain ⟨j, A2, m2, c2, rfl, hj, rfl, ho, hb⟩ := hrel
        have HO := Lib.hid ho
        have HBL := Lib.hid hb
        have HRR := Lib.hid (HR.out.below hb hB)
        have hsz := hb.size
        clear ho hb
        by_cases hjt : j < k
        · obtain ⟨b, o, a, m, c3, l, rfl, hbl, hl, hcell, hm, hrd⟩ := HRR.out.at hjt
          have HL := Lib.hid hl
          have HRD := Lib.hid hrd
          have hlen2 : m2 + m ≤ 1099511627776 := by
            have h1 := flat_le L (j + 1)
            rw [flat_step hl, List.length_append, HO.out.len, hrd.len] at h1
            have := HS.out
            omega
          clear hl hrd hm
          go_wp2_with (at_builtin; refine wpList_appB _ rfl _ _ 57 rfl wa.heap.size 5 Tryz.underlying57 hI _ m2 _ rfl HO.out B a m c3 l rfl HRD.out hlen2 hsz ?_; intro A3 c4 w3 hown3 hb3)
          go_roundw
          case rel => exact ⟨j + 1, A3, m2 + m, c4, by go_num, by omega, rfl, by rw [flat_step HL.out]; exact hown3, HBL.out.trans hb3⟩
          case measure => simp [intOf]; omega
        · have hjn : j = k := by omega
          subst hjn
          rw [HT.out] at HO
          go_wp2
          go_ret
          exact ⟨A2, m2, c2, rfl, HO.out, HBL.out⟩
end Go.Proofs.YtejcjmiofidedaaGreatDoor.RowN
