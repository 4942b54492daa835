/- Joined: RowI. -/
import Derived.Test.YtlfbagkonckffaaGreatJ07
import Derived.Lib.AppendZerosOnto
/- A struct put into a row of one's own: the copies that slices.Insert makes. Nothing of the program. -/
namespace Go.Proofs.YtlfbagkonckffaaGreat.RowF
open Go.RowKit Oct

section
variable {P : Program} {w : World}
theorem run_copyN {dT sT ty elem t : TypeId} {i : TypeInfo} {size g o dLen dCap k sLen sCap : Nat} {a : Addr} {cur : Array Value} {cs : List Value} (hu : P.underlying dT = some (.slice elem)) (hi : P.info? elem = some i) (hs : i.size = size)
    (hg : w.heap[g]? = some (.cells cur t (0, 0))) (hk : Nat.min sLen dLen = k) (hn : cs.length = k * size) (hsrc : ∀ j v, cs[j]? = some v → w.cell? (a.add j) = some v) (hfit : o + cs.length ≤ cur.size) (h1 : ∀ v ∈ cs, v.oneCell' = true) :
    (Builtin.copy_ #[dT, sT] ty #[.slice (some ⟨g, o, none⟩) dLen dCap, .slice (some a) sLen sCap]).run P w = .ok (goInt k) (w.setRow g (cur.toList.take o ++ cs ++ cur.toList.drop (o + cs.length)).toArray) := by
  have hl := run_loadCells_list (P := P) w a cs hsrc
  have hst := run_storeCells_at P g o t cs 0 cur w hg (by simpa using hfit) h1
  have hk2 : min sLen dLen = k := hk
  subst hs
  rw [hn] at hl
  simp [Builtin.copy_, run_underlying hu, Builtin.lenOf, Builtin.firstCells, sizeOf, typeInfo, hi, hk2, hl, hst]
theorem step_copy9 {ops : Array Oper} {o : Oper} {a : Act} {w' : World} {K : Act → World → Prop} {Q : Exit → Act → World → Prop} {E : Prop} {vs vx v : Value} (hgd : o.guard = none) (s x : Operand) (t : TypeId)
    (ho : o.op = .call { callee := .builtin .copy, args := #[s, x], argTypes := #[t, t] }) (hs : a.eval s = vs) (hx : a.eval x = vx) (hrun : (Builtin.copy_ #[t, t] o.type #[vs, vx]).run P w = .ok v w') (h : K (a.put o.dst v) w') :
    if Region.wanted o (yielded ops a.tmps) = true then Oper.wp P o a w K Q else E := by
  have hw : Region.wanted o (yielded ops a.tmps) = true := by simp [Region.wanted, hgd]
  rw [if_pos hw]
  unfold Oper.wp execOp
  simp only [ho, resolve, invoke, builtin, Sem.run_bind, Sem.run_pure, Result.andThen_ok, List.map_toArray, List.map_cons, List.map_nil, hs, hx, hrun]
  exact h
theorem wpList_copy9 {ops : Array Oper} {rest : List Oper} {o : Oper} {a : Act} {w' : World} {Q : Exit → Act → World → Prop} {vs vx v : Value} (hgd : o.guard = none) (s x : Operand) (t : TypeId)
    (ho : o.op = .call { callee := .builtin .copy, args := #[s, x], argTypes := #[t, t] }) (hs : a.eval s = vs) (hx : a.eval x = vx) (hrun : (Builtin.copy_ #[t, t] o.type #[vs, vx]).run P w = .ok v w') (h : wpList P ops Q rest (a.put o.dst v) w') : wpList P ops Q (o :: rest) a w := by
  refine wpList_plain hgd fun K hK => ?_
  unfold Oper.wp execOp
  simp only [ho, resolve, invoke, builtin, Sem.run_bind, Sem.run_pure, Result.andThen_ok, List.map_toArray, List.map_cons, List.map_nil, hs, hx, hrun]
  exact hK _ _ h
theorem wpList_app9 {ops : Array Oper} {rest : List Oper} {o : Oper} {a : Act} {w' : World} {Q : Exit → Act → World → Prop} {vs vx v : Value} (hgd : o.guard = none) (s x : Operand) (t t9 : TypeId)
    (ho : o.op = .call { callee := .builtin .append, args := #[s, x], argTypes := #[t, t9] }) (hs : a.eval s = vs) (hx : a.eval x = vx) (hrun : (Builtin.append_ #[t, t9] o.type #[vs, vx]).run P w = .ok v w') (h : wpList P ops Q rest (a.put o.dst v) w') : wpList P ops Q (o :: rest) a w := by
  refine wpList_plain hgd fun K hK => ?_
  unfold Oper.wp execOp
  simp only [ho, resolve, invoke, builtin, Sem.run_bind, Sem.run_pure, Result.andThen_ok, List.map_toArray, List.map_cons, List.map_nil, hs, hx, hrun]
  exact hK _ _ h
end
section
variable {α : Type} {L0 X Y Z : List α}
theorem laid_yz (hX : L0.take X.length = X) (_hl : X.length + Y.length + Z.length ≤ L0.length) :
    ((L0.take X.length ++ Y ++ L0.drop (X.length + Y.length)).take (X.length + Y.length) ++ Z ++ (L0.take X.length ++ Y ++ L0.drop (X.length + Y.length)).drop (X.length + Y.length + Z.length)).take (X.length + Y.length + Z.length) = X ++ Y ++ Z := by
  have e1 : (L0.take X.length ++ Y ++ L0.drop (X.length + Y.length)).take (X.length + Y.length) = X ++ Y := by
    rw [hX, List.take_left' (by rw [List.length_append])]
  rw [e1, List.take_left' (by simp only [List.length_append])]
theorem laid_zy (hX : L0.take X.length = X) (hl : X.length + Y.length + Z.length ≤ L0.length) :
    ((L0.take (X.length + Y.length) ++ Z ++ L0.drop (X.length + Y.length + Z.length)).take X.length ++ Y ++ (L0.take (X.length + Y.length) ++ Z ++ L0.drop (X.length + Y.length + Z.length)).drop (X.length + Y.length)).take (X.length + Y.length + Z.length) = X ++ Y ++ Z := by
  have h0 : (L0.take (X.length + Y.length)).length = X.length + Y.length := by rw [List.length_take]; omega
  have e1 : (L0.take (X.length + Y.length) ++ Z ++ L0.drop (X.length + Y.length + Z.length)).take X.length = X := by
    rw [List.append_assoc, List.take_append_of_le_length (by omega), List.take_take, Nat.min_eq_left (by omega), hX]
  have e2 : (L0.take (X.length + Y.length) ++ Z ++ L0.drop (X.length + Y.length + Z.length)).drop (X.length + Y.length) = Z ++ L0.drop (X.length + Y.length + Z.length) := by
    rw [List.append_assoc, List.drop_left' h0]
  rw [e1, e2, ← List.append_assoc, List.take_left' (by simp only [List.length_append])]
end
section
variable {α : Type} {f : α → List Value} {size : Nat} {P : Program} {w : World} {e : TypeId} {B g n cap i vb : Nat} {l : List α} {y : α} {bytes : Nat}
theorem flat_parts (hs : Shape f size) (hi : i ≤ l.length) : l.flatMap f = (l.take i).flatMap f ++ (l.drop i).flatMap f ∧ ((l.take i).flatMap f).length = i * size ∧ ((l.drop i).flatMap f).length = (l.length - i) * size := by
  refine ⟨by rw [← List.flatMap_append, List.take_append_drop], by rw [hs.flat, List.length_take, Nat.min_eq_left hi], by rw [hs.flat, List.length_drop]⟩
theorem ins_flat : (l.take i ++ y :: l.drop i).flatMap f = (l.take i).flatMap f ++ f y ++ (l.drop i).flatMap f := by
  rw [List.flatMap_append, List.flatMap_cons, List.append_assoc]
theorem ins_shift (hs : Shape f size) (ho : OwnF f size w e B (.slice (some ⟨g, 0, none⟩) n cap) n l) (hi : i < n) (hroom : n + 1 ≤ cap) (hvb : vb ≠ g) (hy : ∀ j v, (f y)[j]? = some v → w.cell? ⟨vb, j, none⟩ = some v) {t : TypeId} (ht : P.underlying t = some (.slice e)) (hI : Info P e size bytes) :
    ∃ w1 w2, (∀ ty dc sc, (Builtin.copy_ #[t, t] ty #[.slice (some ⟨g, (i + 1) * size, none⟩) (n - i) dc, .slice (some ⟨g, i * size, none⟩) (n + 1 - i) sc]).run P w = .ok (goInt (n - i : Nat)) w1) ∧
      (∀ ty dc vc, (Builtin.copy_ #[t, t] ty #[.slice (some ⟨g, i * size, none⟩) (n + 1 - i) dc, .slice (some ⟨vb, 0, none⟩) 1 vc]).run P w1 = .ok (goInt (1 : Nat)) w2) ∧
      OwnF f size w2 e B (.slice (some ⟨g, 0, none⟩) (n + 1) cap) (n + 1) (l.take i ++ y :: l.drop i) ∧ w.grownBy w2 (some g) := by
  obtain ⟨ti, z, hti, _, hsz, _, _⟩ := hI
  have hl := ho.len hs
  have hrd := RdF.cells hs (OwnF.rd hs ho)
  rcases ho.2 with ⟨h', _⟩ | ⟨g', cap', cur, h', hb, hg, hnc, hcm, hcs, htk⟩
  · simp at h'
  simp only [Value.slice.injEq, Option.some.injEq, Addr.mk.injEq, and_true, true_and] at h'
  obtain ⟨rfl, rfl⟩ := h'
  obtain ⟨p1, p2, p3⟩ := flat_parts (l := l) (i := i) hs (by omega)
  rw [hl] at p3
  have hfy := hs.len y
  have hpos := hs.pos
  have m1 : (n + 1) * size ≤ cap * size := Nat.mul_le_mul_right _ hroom
  have m2 : i * size + (n - i) * size = n * size := by rw [← Nat.add_mul]; congr 1; omega
  have m3 : (i + 1) * size = i * size + size := by rw [Nat.succ_mul]
  have m4 : (n + 1) * size = n * size + size := by rw [Nat.succ_mul]
  have hcl : cur.toList.length = cap * size := by rw [Array.length_toList]; exact hcs
  have r1 : ∀ ty dc sc, (Builtin.copy_ #[t, t] ty #[.slice (some ⟨g, (i + 1) * size, none⟩) (n - i) dc, .slice (some ⟨g, i * size, none⟩) (n + 1 - i) sc]).run P w = _ := fun ty dc sc =>
    run_copyN (k := n - i) (cs := (l.drop i).flatMap f) ht hti hsz hg (by show min (n + 1 - i) (n - i) = n - i; omega) p3 (fun j v hj => by
      have h1 := hrd (i * size + j) v (by rw [p1, List.getElem?_append_right (by omega), p2, Nat.add_sub_cancel_left]; exact hj)
      rw [Addr.add_lit] at h1 ⊢
      rw [Nat.zero_add] at h1
      exact h1) (by rw [p3, m3]; omega) (hs.ones _)
  have hg1 := setRow_heap w g cur (cur.toList.take ((i + 1) * size) ++ (l.drop i).flatMap f ++ cur.toList.drop ((i + 1) * size + ((l.drop i).flatMap f).length)).toArray e (0, 0) hg
  have r2 : ∀ ty dc vc, (Builtin.copy_ #[t, t] ty #[.slice (some ⟨g, i * size, none⟩) (n + 1 - i) dc, .slice (some ⟨vb, 0, none⟩) 1 vc]).run P _ = _ := fun ty dc vc =>
    run_copyN (k := 1) (cs := f y) ht hti hsz hg1 (by show min 1 (n + 1 - i) = 1; omega) (by rw [hfy, Nat.one_mul]) (fun j v hj => by
      rw [Addr.add_lit, Nat.zero_add, cell_setRow_other _ _ _ _ hvb]
      exact hy j v hj) (by
        simp only [List.size_toArray, List.length_append, List.length_take, List.length_drop, hcl, p3, hfy]
        omega) (hs.one y)
  refine ⟨_, _, r1, r2, ⟨by rw [hs.flat]; simp only [List.length_append, List.length_take, List.length_cons, List.length_drop, hl]; congr 1; omega, .inr ⟨g, cap, _, rfl, hb, setRow_heap _ g _ _ e _ hg1, hroom, hcm, ?_, ?_⟩⟩, ?_⟩
  · simp only [List.size_toArray, List.length_append, List.length_take, List.length_drop, hcl, p3, hfy]
    omega
  · have hX : cur.toList.take ((l.take i).flatMap f).length = (l.take i).flatMap f := by
      have h1 : (cur.toList.take (n * size)).take (i * size) = (l.take i).flatMap f := by rw [htk, p1, List.take_left' p2]
      rw [List.take_take, Nat.min_eq_left (by omega)] at h1
      rw [p2]; exact h1
    have h2 := laid_zy (Y := f y) (Z := (l.drop i).flatMap f) hX (by rw [p2, p3, hfy, hcl]; omega)
    rw [p2, hfy] at h2
    rw [ins_flat, ← h2, p3]
    simp only [m3, m4, hfy]
    congr 1
    omega
  · exact ⟨rfl, rfl, rfl, by simp, fun k hk hne => by
      have hkg : k ≠ g := fun e => hne (by rw [e])
      rw [setRow_other _ _ _ _ hkg, setRow_other _ _ _ _ hkg]⟩
theorem ins_grow (hs : Shape f size) (ho : OwnF f size w e B (.slice (some ⟨g, 0, none⟩) n cap) n l) (hi : i < n) (hroom : cap < n + 1) (hn : (n + 1) * bytes ≤ 140737488355328) (hn63 : n + 1 ≤ 1099511627776) (hvw : vb < w.heap.size) (hy : ∀ j v, (f y)[j]? = some v → w.cell? ⟨vb, j, none⟩ = some v) {t tn : TypeId} {kn : IntKind} (ht : P.underlying t = some (.slice e)) (htn : P.underlying tn = some (.int kn)) (hI : Info P e size bytes) (hB : B ≤ w.heap.size) :
    ∃ G w1 w2 w3, (∀ ty, (Builtin.append_ #[t, tn] ty #[.slice (some ⟨g, 0, none⟩) i cap, .int .i64 ((n + 1 - i : Nat) : Int)]).run P w = .ok (.slice (some ⟨w.heap.size, 0, none⟩) (n + 1) G) w1) ∧
      (∀ ty dc vc, (Builtin.copy_ #[t, t] ty #[.slice (some ⟨w.heap.size, i * size, none⟩) (n + 1 - i) dc, .slice (some ⟨vb, 0, none⟩) 1 vc]).run P w1 = .ok (goInt (1 : Nat)) w2) ∧
      (∀ ty dc sc, (Builtin.copy_ #[t, t] ty #[.slice (some ⟨w.heap.size, (i + 1) * size, none⟩) (n - i) dc, .slice (some ⟨g, i * size, none⟩) (n - i) sc]).run P w2.drew = .ok (goInt (n - i : Nat)) w3) ∧
      OwnF f size w3 e B (.slice (some ⟨w.heap.size, 0, none⟩) (n + 1) G) (n + 1) (l.take i ++ y :: l.drop i) ∧ Below w.heap.size w w3 ∧ n + 1 ≤ G ∧ G ≤ maxLen := by
  obtain ⟨ti, z, hti, hz, hsz, hby, hzs⟩ := hI
  have hl := ho.len hs
  have hrd := RdF.cells hs (OwnF.rd hs ho)
  have hgw : g < w.heap.size := (World.ownsRow.lt ho g rfl).2
  obtain ⟨p1, p2, p3⟩ := flat_parts (l := l) (i := i) hs (by omega)
  rw [hl] at p3
  have hfy := hs.len y
  have hpos := hs.pos
  have m2 : i * size + (n - i) * size = n * size := by rw [← Nat.add_mul]; congr 1; omega
  have m3 : (i + 1) * size = i * size + size := by rw [Nat.succ_mul]
  have m4 : (n + 1) * size = n * size + size := by rw [Nat.succ_mul]
  have hold : (Builtin.firstCells ti.size i (.slice (some ⟨g, 0, none⟩) i cap)).run P w.drew = .ok ((l.take i).flatMap f).toArray w.drew :=
    run_firstCells_some w.drew ti.size i ⟨g, 0, none⟩ i cap ((l.take i).flatMap f) (by rw [p2, hsz]) (fun j v hj => hrd j v (by rw [p1, List.getElem?_append_left (List.getElem?_eq_some_iff.1 hj).1]; exact hj))
  have hik : i + (n + 1 - i) = n + 1 := by omega
  obtain ⟨G, hG⟩ : ∃ G, grownCap w (n + 1) cap e = G := ⟨_, rfl⟩
  have hG1 : n + 1 ≤ G := by rw [← hG]; exact grownCap_ge w _ _ _
  have hG2 : G ≤ maxLen := by rw [← hG]; exact grownCap_le_maxLen w _ _ _ (by unfold maxLen; omega)
  have r0 : ∀ ty, (Builtin.append_ #[t, tn] ty #[.slice (some ⟨g, 0, none⟩) i cap, .int .i64 ((n + 1 - i : Nat) : Int)]).run P w = .ok (.slice (some ⟨w.heap.size, 0, none⟩) (n + 1) G) (w.drew.alloc (.cells (((l.take i).flatMap f).toArray ++ Builtin.zeroCells z.cells (n + 1 - i) ++ Builtin.zeroCells z.cells (G - (n + 1))) e)) := fun ty => by
    have h := Lib.run_append_grow_zeros w t tn ty e ti z .i64 kn ht htn hti hz (some ⟨g, 0, none⟩) i cap _ hold (n + 1 - i) (by omega) (by omega) (by omega) (by omega) (Nat.le_trans (Nat.mul_le_mul_right _ (by omega : n + 1 - i ≤ n + 1)) (by rw [hby]; omega)) (by rw [hby, hik]; exact growslice_fits hroom hn)
    rw [hik, hG] at h
    exact h
  obtain ⟨ROW, hROW⟩ : ∃ ROW : Array Value, ((l.take i).flatMap f).toArray ++ Builtin.zeroCells z.cells (n + 1 - i) ++ Builtin.zeroCells z.cells (G - (n + 1)) = ROW := ⟨_, rfl⟩
  rw [hROW] at r0
  have hzl : ∀ k, (Builtin.zeroCells z.cells k).size = k * size := fun k => by simp [Builtin.zeroCells, hzs]
  have hRl : ROW.size = G * size := by
    rw [← hROW, Array.size_append, Array.size_append, hzl, hzl, List.size_toArray, p2, ← Nat.add_mul, ← Nat.add_mul]
    congr 1
    omega
  have hRx : ROW.toList.take ((l.take i).flatMap f).length = (l.take i).flatMap f := by
    rw [← hROW]
    simp only [Array.toList_append]
    rw [List.append_assoc, List.take_left]
  have hRL : ROW.toList.length = G * size := by rw [Array.length_toList]; exact hRl
  have hGs : (n + 1) * size ≤ G * size := Nat.mul_le_mul_right _ hG1
  have hh1 : (w.drew.alloc (.cells ROW e)).heap[w.heap.size]? = some (.cells ROW e (0, 0)) := heap_alloc_new w.drew _
  have r1 : ∀ ty dc vc, (Builtin.copy_ #[t, t] ty #[.slice (some ⟨w.heap.size, i * size, none⟩) (n + 1 - i) dc, .slice (some ⟨vb, 0, none⟩) 1 vc]).run P (w.drew.alloc (.cells ROW e)) = _ := fun ty dc vc =>
    run_copyN (k := 1) (cs := f y) ht hti hsz hh1 (by show min 1 (n + 1 - i) = 1; omega) (by rw [hfy, Nat.one_mul]) (fun j v hj => by
      rw [Addr.add_lit, Nat.zero_add, World.cell?_alloc_past (w := w.drew) _ vb j hvw]
      exact hy j v hj) (by rw [hRl, hfy]; omega) (hs.one y)
  have hh2 := setRow_heap (w.drew.alloc (.cells ROW e)) w.heap.size ROW (ROW.toList.take (i * size) ++ f y ++ ROW.toList.drop (i * size + (f y).length)).toArray e (0, 0) hh1
  have r2 : ∀ ty dc sc, (Builtin.copy_ #[t, t] ty #[.slice (some ⟨w.heap.size, (i + 1) * size, none⟩) (n - i) dc, .slice (some ⟨g, i * size, none⟩) (n - i) sc]).run P ((w.drew.alloc (.cells ROW e)).setRow w.heap.size (ROW.toList.take (i * size) ++ f y ++ ROW.toList.drop (i * size + (f y).length)).toArray).drew = _ := fun ty dc sc =>
    run_copyN (k := n - i) (cs := (l.drop i).flatMap f) ht hti hsz hh2 (by show min (n - i) (n - i) = n - i; omega) p3 (fun j v hj => by
      have h1 := hrd (i * size + j) v (by rw [p1, List.getElem?_append_right (by omega), p2, Nat.add_sub_cancel_left]; exact hj)
      rw [Addr.add_lit] at h1 ⊢
      rw [Nat.zero_add] at h1
      show (World.setRow _ _ _).cell? _ = _
      rw [cell_setRow_other _ _ _ _ (by show g ≠ w.heap.size; omega), World.cell?_alloc_past (w := w.drew) _ g _ hgw]
      exact h1) (by
        simp only [List.size_toArray, List.length_append, List.length_take, List.length_drop, hRL, p3, hfy]
        omega) (hs.ones _)
  refine ⟨G, _, _, _, r0, r1, r2, ⟨by rw [hs.flat]; simp only [List.length_append, List.length_take, List.length_cons, List.length_drop, hl]; congr 1; omega, .inr ⟨w.heap.size, G, _, rfl, hB, setRow_heap _ _ _ _ e _ hh2, hG1, hG2, ?_, ?_⟩⟩, ?_, hG1, hG2⟩
  · simp only [List.size_toArray, List.length_append, List.length_take, List.length_drop, hRL, p3, hfy]
    omega
  · have h2 := laid_yz (Y := f y) (Z := (l.drop i).flatMap f) hRx (by rw [p2, p3, hfy, hRL]; omega)
    rw [p2, hfy] at h2
    rw [ins_flat, ← h2, p3]
    simp only [m3, m4, hfy]
    congr 1
    omega
  · refine ⟨rfl, rfl, rfl, by simp, fun k hk => ?_⟩
    rw [setRow_other _ _ _ _ (by omega)]
    show ((w.drew.alloc (.cells ROW e)).setRow _ _).heap[k]? = _
    rw [setRow_other _ _ _ _ (by omega)]
    exact (World.grownBy_alloc w.drew (.cells ROW e) none).block k hk (by simp)
end
end Go.Proofs.YtlfbagkonckffaaGreat.RowF
