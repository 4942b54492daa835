/- Joined: BatRefF. -/
import Derived.Test.YtlfbagkonckffaaGreatJ21
/- The contract of the document's own form: the ways that end ahead of the records. -/
namespace Go.Proofs.YtlfbagkonckffaaGreat.Bat
open Go.RowKit Oct Rec Crc

set_option maxRecDepth 100000 in
set_option maxHeartbeats 1000000 in
theorem reform_f1 (ba la fr ep pi ge se : Int) (tx : Bool) (ct : Int) (_rs : List Rc) (A : Option Addr) (n c : Nat) (w : World)  (t1 : ¬ (0 ≤ ba ∧ ba ≤ 1099511627776)) :
    Calls Tryz.prog 76 #[.agg #[.int .i64 ba, .int .i64 la, .int .i64 fr, .int .i64 ep, .int .i64 pi, .int .i64 ge, .int .i64 se, .bool tx, .int .i64 ct, .slice A n c]] w fun e w' => e = .returned (.bool false) ∧ Below w.heap.size w w' := by
  have i1 : inM ba 1099511627776 = false := inM_F t1
  go_enter Tryz.func76, Tryz.ntmps76
  go_wp2_with (go_at_call 97; refine (refin_any _ _ _ (by first | exact i1)).mono ?_; rintro e w9 ⟨rfl, rfl⟩)
  go_ret
  exact ⟨rfl, (Below.refl _ _).alloc (Nat.le_refl _) _⟩
set_option maxRecDepth 100000 in
set_option maxHeartbeats 1000000 in
theorem reform_f2 (ba la fr ep pi ge se : Int) (tx : Bool) (ct : Int) (_rs : List Rc) (A : Option Addr) (n c : Nat) (w : World) (t1 : 0 ≤ ba ∧ ba ≤ 1099511627776) (t2 : ¬ (0 ≤ la ∧ la ≤ 1099511627776)) :
    Calls Tryz.prog 76 #[.agg #[.int .i64 ba, .int .i64 la, .int .i64 fr, .int .i64 ep, .int .i64 pi, .int .i64 ge, .int .i64 se, .bool tx, .int .i64 ct, .slice A n c]] w fun e w' => e = .returned (.bool false) ∧ Below w.heap.size w w' := by
  have i1 : inM ba 1099511627776 = true := inM_T t1
  have i2 : inM la 1099511627776 = false := inM_F t2
  go_enter Tryz.func76, Tryz.ntmps76
  go_wp2_with (go_at_call 97; refine (refin_any _ _ _ (by first | exact i1 | exact i2)).mono ?_; rintro e w9 ⟨rfl, rfl⟩)
  go_ret
  exact ⟨rfl, (Below.refl _ _).alloc (Nat.le_refl _) _⟩
set_option maxRecDepth 100000 in
set_option maxHeartbeats 1000000 in
theorem reform_f3 (ba la fr ep pi ge se : Int) (tx : Bool) (ct : Int) (_rs : List Rc) (A : Option Addr) (n c : Nat) (w : World) (t1 : 0 ≤ ba ∧ ba ≤ 1099511627776) (t2 : 0 ≤ la ∧ la ≤ 1099511627776) (t3 : ¬ (0 ≤ fr ∧ fr ≤ 1099511627776)) :
    Calls Tryz.prog 76 #[.agg #[.int .i64 ba, .int .i64 la, .int .i64 fr, .int .i64 ep, .int .i64 pi, .int .i64 ge, .int .i64 se, .bool tx, .int .i64 ct, .slice A n c]] w fun e w' => e = .returned (.bool false) ∧ Below w.heap.size w w' := by
  have i1 : inM ba 1099511627776 = true := inM_T t1
  have i2 : inM la 1099511627776 = true := inM_T t2
  have i3 : inM fr 1099511627776 = false := inM_F t3
  go_enter Tryz.func76, Tryz.ntmps76
  go_wp2_with (go_at_call 97; refine (refin_any _ _ _ (by first | exact i1 | exact i2 | exact i3)).mono ?_; rintro e w9 ⟨rfl, rfl⟩)
  go_ret
  exact ⟨rfl, (Below.refl _ _).alloc (Nat.le_refl _) _⟩
set_option maxRecDepth 100000 in
set_option maxHeartbeats 1000000 in
theorem reform_f4 (ba la fr ep pi ge se : Int) (tx : Bool) (ct : Int) (_rs : List Rc) (A : Option Addr) (n c : Nat) (w : World) (t1 : 0 ≤ ba ∧ ba ≤ 1099511627776) (t2 : 0 ≤ la ∧ la ≤ 1099511627776) (t3 : 0 ≤ fr ∧ fr ≤ 1099511627776) (t4 : ¬ (ba ≤ la)) :
    Calls Tryz.prog 76 #[.agg #[.int .i64 ba, .int .i64 la, .int .i64 fr, .int .i64 ep, .int .i64 pi, .int .i64 ge, .int .i64 se, .bool tx, .int .i64 ct, .slice A n c]] w fun e w' => e = .returned (.bool false) ∧ Below w.heap.size w w' := by
  have i1 : inM ba 1099511627776 = true := inM_T t1
  have i2 : inM la 1099511627776 = true := inM_T t2
  have i3 : inM fr 1099511627776 = true := inM_T t3
  go_enter Tryz.func76, Tryz.ntmps76
  go_wp2_with (go_at_call 97; refine (refin_any _ _ _ (by first | exact i1 | exact i2 | exact i3)).mono ?_; rintro e w9 ⟨rfl, rfl⟩)
  go_ret
  exact ⟨rfl, (Below.refl _ _).alloc (Nat.le_refl _) _⟩
set_option maxRecDepth 100000 in
set_option maxHeartbeats 1000000 in
theorem reform_f5 (ba la fr ep pi ge se : Int) (tx : Bool) (ct : Int) (_rs : List Rc) (A : Option Addr) (n c : Nat) (w : World) (t1 : 0 ≤ ba ∧ ba ≤ 1099511627776) (t2 : 0 ≤ la ∧ la ≤ 1099511627776) (t3 : 0 ≤ fr ∧ fr ≤ 1099511627776) (t4 : ba ≤ la) (t5 : ¬ (la - ba < 16)) :
    Calls Tryz.prog 76 #[.agg #[.int .i64 ba, .int .i64 la, .int .i64 fr, .int .i64 ep, .int .i64 pi, .int .i64 ge, .int .i64 se, .bool tx, .int .i64 ct, .slice A n c]] w fun e w' => e = .returned (.bool false) ∧ Below w.heap.size w w' := by
  have i1 : inM ba 1099511627776 = true := inM_T t1
  have i2 : inM la 1099511627776 = true := inM_T t2
  have i3 : inM fr 1099511627776 = true := inM_T t3
  go_enter Tryz.func76, Tryz.ntmps76
  go_wp2_with (go_at_call 97; refine (refin_any _ _ _ (by first | exact i1 | exact i2 | exact i3)).mono ?_; rintro e w9 ⟨rfl, rfl⟩)
  go_ret
  exact ⟨rfl, (Below.refl _ _).alloc (Nat.le_refl _) _⟩
set_option maxRecDepth 100000 in
set_option maxHeartbeats 1000000 in
theorem reform_f6 (ba la fr ep pi ge se : Int) (tx : Bool) (ct : Int) (_rs : List Rc) (A : Option Addr) (n c : Nat) (w : World) (t1 : 0 ≤ ba ∧ ba ≤ 1099511627776) (t2 : 0 ≤ la ∧ la ≤ 1099511627776) (t3 : 0 ≤ fr ∧ fr ≤ 1099511627776) (t4 : ba ≤ la) (t5 : la - ba < 16) (t6 : ¬ (fr + (la - ba) ≤ 1099511627776)) :
    Calls Tryz.prog 76 #[.agg #[.int .i64 ba, .int .i64 la, .int .i64 fr, .int .i64 ep, .int .i64 pi, .int .i64 ge, .int .i64 se, .bool tx, .int .i64 ct, .slice A n c]] w fun e w' => e = .returned (.bool false) ∧ Below w.heap.size w w' := by
  have i1 : inM ba 1099511627776 = true := inM_T t1
  have i2 : inM la 1099511627776 = true := inM_T t2
  have i3 : inM fr 1099511627776 = true := inM_T t3
  go_enter Tryz.func76, Tryz.ntmps76
  go_wp2_with (go_at_call 97; refine (refin_any _ _ _ (by first | exact i1 | exact i2 | exact i3)).mono ?_; rintro e w9 ⟨rfl, rfl⟩)
  go_ret
  exact ⟨rfl, (Below.refl _ _).alloc (Nat.le_refl _) _⟩
set_option maxRecDepth 100000 in
set_option maxHeartbeats 1000000 in
theorem reform_f7 (ba la fr ep pi ge se : Int) (tx : Bool) (ct : Int) (_rs : List Rc) (A : Option Addr) (n c : Nat) (w : World) (t1 : 0 ≤ ba ∧ ba ≤ 1099511627776) (t2 : 0 ≤ la ∧ la ≤ 1099511627776) (t3 : 0 ≤ fr ∧ fr ≤ 1099511627776) (t4 : ba ≤ la) (t5 : la - ba < 16) (t6 : fr + (la - ba) ≤ 1099511627776) (t7 : ¬ (0 ≤ ep ∧ ep ≤ 1048576)) :
    Calls Tryz.prog 76 #[.agg #[.int .i64 ba, .int .i64 la, .int .i64 fr, .int .i64 ep, .int .i64 pi, .int .i64 ge, .int .i64 se, .bool tx, .int .i64 ct, .slice A n c]] w fun e w' => e = .returned (.bool false) ∧ Below w.heap.size w w' := by
  have i1 : inM ba 1099511627776 = true := inM_T t1
  have i2 : inM la 1099511627776 = true := inM_T t2
  have i3 : inM fr 1099511627776 = true := inM_T t3
  have i7 : inM ep 1048576 = false := inM_F t7
  go_enter Tryz.func76, Tryz.ntmps76
  go_wp2_with (go_at_call 97; refine (refin_any _ _ _ (by first | exact i1 | exact i2 | exact i3 | exact i7)).mono ?_; rintro e w9 ⟨rfl, rfl⟩)
  go_ret
  exact ⟨rfl, (Below.refl _ _).alloc (Nat.le_refl _) _⟩
set_option maxRecDepth 100000 in
set_option maxHeartbeats 1000000 in
theorem reform_f8 (ba la fr ep pi ge se : Int) (tx : Bool) (ct : Int) (_rs : List Rc) (A : Option Addr) (n c : Nat) (w : World) (t1 : 0 ≤ ba ∧ ba ≤ 1099511627776) (t2 : 0 ≤ la ∧ la ≤ 1099511627776) (t3 : 0 ≤ fr ∧ fr ≤ 1099511627776) (t4 : ba ≤ la) (t5 : la - ba < 16) (t6 : fr + (la - ba) ≤ 1099511627776) (t7 : 0 ≤ ep ∧ ep ≤ 1048576) (t8 : ¬ (0 ≤ ge ∧ ge ≤ 1048576)) :
    Calls Tryz.prog 76 #[.agg #[.int .i64 ba, .int .i64 la, .int .i64 fr, .int .i64 ep, .int .i64 pi, .int .i64 ge, .int .i64 se, .bool tx, .int .i64 ct, .slice A n c]] w fun e w' => e = .returned (.bool false) ∧ Below w.heap.size w w' := by
  have i1 : inM ba 1099511627776 = true := inM_T t1
  have i2 : inM la 1099511627776 = true := inM_T t2
  have i3 : inM fr 1099511627776 = true := inM_T t3
  have i7 : inM ep 1048576 = true := inM_T t7
  have i8 : inM ge 1048576 = false := inM_F t8
  go_enter Tryz.func76, Tryz.ntmps76
  go_wp2_with (go_at_call 97; refine (refin_any _ _ _ (by first | exact i1 | exact i2 | exact i3 | exact i7 | exact i8)).mono ?_; rintro e w9 ⟨rfl, rfl⟩)
  go_ret
  exact ⟨rfl, (Below.refl _ _).alloc (Nat.le_refl _) _⟩
set_option maxRecDepth 100000 in
set_option maxHeartbeats 1000000 in
theorem reform_f9 (ba la fr ep pi ge se : Int) (tx : Bool) (ct : Int) (_rs : List Rc) (A : Option Addr) (n c : Nat) (w : World) (t1 : 0 ≤ ba ∧ ba ≤ 1099511627776) (t2 : 0 ≤ la ∧ la ≤ 1099511627776) (t3 : 0 ≤ fr ∧ fr ≤ 1099511627776) (t4 : ba ≤ la) (t5 : la - ba < 16) (t6 : fr + (la - ba) ≤ 1099511627776) (t7 : 0 ≤ ep ∧ ep ≤ 1048576) (t8 : 0 ≤ ge ∧ ge ≤ 1048576) (t9 : ¬ (0 ≤ se ∧ se ≤ 1048576)) :
    Calls Tryz.prog 76 #[.agg #[.int .i64 ba, .int .i64 la, .int .i64 fr, .int .i64 ep, .int .i64 pi, .int .i64 ge, .int .i64 se, .bool tx, .int .i64 ct, .slice A n c]] w fun e w' => e = .returned (.bool false) ∧ Below w.heap.size w w' := by
  have i1 : inM ba 1099511627776 = true := inM_T t1
  have i2 : inM la 1099511627776 = true := inM_T t2
  have i3 : inM fr 1099511627776 = true := inM_T t3
  have i7 : inM ep 1048576 = true := inM_T t7
  have i8 : inM ge 1048576 = true := inM_T t8
  have i9 : inM se 1048576 = false := inM_F t9
  go_enter Tryz.func76, Tryz.ntmps76
  go_wp2_with (go_at_call 97; refine (refin_any _ _ _ (by first | exact i1 | exact i2 | exact i3 | exact i7 | exact i8 | exact i9)).mono ?_; rintro e w9 ⟨rfl, rfl⟩)
  go_ret
  exact ⟨rfl, (Below.refl _ _).alloc (Nat.le_refl _) _⟩
set_option maxRecDepth 100000 in
set_option maxHeartbeats 1000000 in
theorem reform_f10 (ba la fr ep pi ge se : Int) (tx : Bool) (ct : Int) (_rs : List Rc) (A : Option Addr) (n c : Nat) (w : World) (t1 : 0 ≤ ba ∧ ba ≤ 1099511627776) (t2 : 0 ≤ la ∧ la ≤ 1099511627776) (t3 : 0 ≤ fr ∧ fr ≤ 1099511627776) (t4 : ba ≤ la) (t5 : la - ba < 16) (t6 : fr + (la - ba) ≤ 1099511627776) (t7 : 0 ≤ ep ∧ ep ≤ 1048576) (t8 : 0 ≤ ge ∧ ge ≤ 1048576) (t9 : 0 ≤ se ∧ se ≤ 1048576) (t10 : ¬ (se + (la - ba) ≤ 1048576)) :
    Calls Tryz.prog 76 #[.agg #[.int .i64 ba, .int .i64 la, .int .i64 fr, .int .i64 ep, .int .i64 pi, .int .i64 ge, .int .i64 se, .bool tx, .int .i64 ct, .slice A n c]] w fun e w' => e = .returned (.bool false) ∧ Below w.heap.size w w' := by
  have i1 : inM ba 1099511627776 = true := inM_T t1
  have i2 : inM la 1099511627776 = true := inM_T t2
  have i3 : inM fr 1099511627776 = true := inM_T t3
  have i7 : inM ep 1048576 = true := inM_T t7
  have i8 : inM ge 1048576 = true := inM_T t8
  have i9 : inM se 1048576 = true := inM_T t9
  go_enter Tryz.func76, Tryz.ntmps76
  go_wp2_with (go_at_call 97; refine (refin_any _ _ _ (by first | exact i1 | exact i2 | exact i3 | exact i7 | exact i8 | exact i9)).mono ?_; rintro e w9 ⟨rfl, rfl⟩)
  go_ret
  exact ⟨rfl, (Below.refl _ _).alloc (Nat.le_refl _) _⟩
set_option maxRecDepth 100000 in
set_option maxHeartbeats 1000000 in
theorem reform_p1 (ba la fr ep pi ge se : Int) (tx : Bool) (ct : Int) (_rs : List Rc) (A : Option Addr) (n c : Nat) (w : World) (t1 : 0 ≤ ba ∧ ba ≤ 1099511627776) (t2 : 0 ≤ la ∧ la ≤ 1099511627776) (t3 : 0 ≤ fr ∧ fr ≤ 1099511627776) (t4 : ba ≤ la) (t5 : la - ba < 16) (t6 : fr + (la - ba) ≤ 1099511627776) (t7 : 0 ≤ ep ∧ ep ≤ 1048576) (t8 : 0 ≤ ge ∧ ge ≤ 1048576) (t9 : 0 ≤ se ∧ se ≤ 1048576) (t10 : se + (la - ba) ≤ 1048576) (q : pi = -1) (q1 : ge ≠ 0) :
    Calls Tryz.prog 76 #[.agg #[.int .i64 ba, .int .i64 la, .int .i64 fr, .int .i64 ep, .int .i64 pi, .int .i64 ge, .int .i64 se, .bool tx, .int .i64 ct, .slice A n c]] w fun e w' => e = .returned (.bool false) ∧ Below w.heap.size w w' := by
  have i1 : inM ba 1099511627776 = true := inM_T t1
  have i2 : inM la 1099511627776 = true := inM_T t2
  have i3 : inM fr 1099511627776 = true := inM_T t3
  have i7 : inM ep 1048576 = true := inM_T t7
  have i8 : inM ge 1048576 = true := inM_T t8
  have i9 : inM se 1048576 = true := inM_T t9
  go_enter Tryz.func76, Tryz.ntmps76
  go_wp2_with (go_at_call 97; refine (refin_any _ _ _ (by first | exact i1 | exact i2 | exact i3 | exact i7 | exact i8 | exact i9)).mono ?_; rintro e w9 ⟨rfl, rfl⟩)
  go_ret
  exact ⟨rfl, (Below.refl _ _).alloc (Nat.le_refl _) _⟩
set_option maxRecDepth 100000 in
set_option maxHeartbeats 1000000 in
theorem reform_p2 (ba la fr ep pi ge se : Int) (tx : Bool) (ct : Int) (_rs : List Rc) (A : Option Addr) (n c : Nat) (w : World) (t1 : 0 ≤ ba ∧ ba ≤ 1099511627776) (t2 : 0 ≤ la ∧ la ≤ 1099511627776) (t3 : 0 ≤ fr ∧ fr ≤ 1099511627776) (t4 : ba ≤ la) (t5 : la - ba < 16) (t6 : fr + (la - ba) ≤ 1099511627776) (t7 : 0 ≤ ep ∧ ep ≤ 1048576) (t8 : 0 ≤ ge ∧ ge ≤ 1048576) (t9 : 0 ≤ se ∧ se ≤ 1048576) (t10 : se + (la - ba) ≤ 1048576) (q : pi = -1) (q1 : ge = 0) (q2 : se ≠ 0) :
    Calls Tryz.prog 76 #[.agg #[.int .i64 ba, .int .i64 la, .int .i64 fr, .int .i64 ep, .int .i64 pi, .int .i64 ge, .int .i64 se, .bool tx, .int .i64 ct, .slice A n c]] w fun e w' => e = .returned (.bool false) ∧ Below w.heap.size w w' := by
  subst q1
  have i1 : inM ba 1099511627776 = true := inM_T t1
  have i2 : inM la 1099511627776 = true := inM_T t2
  have i3 : inM fr 1099511627776 = true := inM_T t3
  have i7 : inM ep 1048576 = true := inM_T t7
  have i8 : inM 0 1048576 = true := inM_T t8
  have i9 : inM se 1048576 = true := inM_T t9
  go_enter Tryz.func76, Tryz.ntmps76
  go_wp2_with (go_at_call 97; refine (refin_any _ _ _ (by first | exact i1 | exact i2 | exact i3 | exact i7 | exact i8 | exact i9)).mono ?_; rintro e w9 ⟨rfl, rfl⟩)
  go_ret
  exact ⟨rfl, (Below.refl _ _).alloc (Nat.le_refl _) _⟩
set_option maxRecDepth 100000 in
set_option maxHeartbeats 1000000 in
theorem reform_p3 (ba la fr ep pi ge se : Int) (tx : Bool) (ct : Int) (_rs : List Rc) (A : Option Addr) (n c : Nat) (w : World) (t1 : 0 ≤ ba ∧ ba ≤ 1099511627776) (t2 : 0 ≤ la ∧ la ≤ 1099511627776) (t3 : 0 ≤ fr ∧ fr ≤ 1099511627776) (t4 : ba ≤ la) (t5 : la - ba < 16) (t6 : fr + (la - ba) ≤ 1099511627776) (t7 : 0 ≤ ep ∧ ep ≤ 1048576) (t8 : 0 ≤ ge ∧ ge ≤ 1048576) (t9 : 0 ≤ se ∧ se ≤ 1048576) (t10 : se + (la - ba) ≤ 1048576) (q : pi = -1) (q1 : ge = 0) (q2 : se = 0) (q3 : tx = true) :
    Calls Tryz.prog 76 #[.agg #[.int .i64 ba, .int .i64 la, .int .i64 fr, .int .i64 ep, .int .i64 pi, .int .i64 ge, .int .i64 se, .bool tx, .int .i64 ct, .slice A n c]] w fun e w' => e = .returned (.bool false) ∧ Below w.heap.size w w' := by
  subst q1
  subst q2
  have i1 : inM ba 1099511627776 = true := inM_T t1
  have i2 : inM la 1099511627776 = true := inM_T t2
  have i3 : inM fr 1099511627776 = true := inM_T t3
  have i7 : inM ep 1048576 = true := inM_T t7
  have i8 : inM 0 1048576 = true := inM_T t8
  have i9 : inM 0 1048576 = true := inM_T t9
  subst q3
  go_enter Tryz.func76, Tryz.ntmps76
  go_wp2_with (go_at_call 97; refine (refin_any _ _ _ (by first | exact i1 | exact i2 | exact i3 | exact i7 | exact i8 | exact i9)).mono ?_; rintro e w9 ⟨rfl, rfl⟩)
  go_ret
  exact ⟨rfl, (Below.refl _ _).alloc (Nat.le_refl _) _⟩
set_option maxRecDepth 100000 in
set_option maxHeartbeats 1000000 in
theorem reform_p4 (ba la fr ep pi ge se : Int) (tx : Bool) (ct : Int) (_rs : List Rc) (A : Option Addr) (n c : Nat) (w : World) (t1 : 0 ≤ ba ∧ ba ≤ 1099511627776) (t2 : 0 ≤ la ∧ la ≤ 1099511627776) (t3 : 0 ≤ fr ∧ fr ≤ 1099511627776) (t4 : ba ≤ la) (t5 : la - ba < 16) (t6 : fr + (la - ba) ≤ 1099511627776) (t7 : 0 ≤ ep ∧ ep ≤ 1048576) (t8 : 0 ≤ ge ∧ ge ≤ 1048576) (t9 : 0 ≤ se ∧ se ≤ 1048576) (t10 : se + (la - ba) ≤ 1048576) (q : pi = -1) (q1 : ge = 0) (q2 : se = 0) (q3 : tx = false) (q4 : ct ≠ 0) :
    Calls Tryz.prog 76 #[.agg #[.int .i64 ba, .int .i64 la, .int .i64 fr, .int .i64 ep, .int .i64 pi, .int .i64 ge, .int .i64 se, .bool tx, .int .i64 ct, .slice A n c]] w fun e w' => e = .returned (.bool false) ∧ Below w.heap.size w w' := by
  subst q1
  subst q2
  have i1 : inM ba 1099511627776 = true := inM_T t1
  have i2 : inM la 1099511627776 = true := inM_T t2
  have i3 : inM fr 1099511627776 = true := inM_T t3
  have i7 : inM ep 1048576 = true := inM_T t7
  have i8 : inM 0 1048576 = true := inM_T t8
  have i9 : inM 0 1048576 = true := inM_T t9
  subst q3
  go_enter Tryz.func76, Tryz.ntmps76
  go_wp2_with (go_at_call 97; refine (refin_any _ _ _ (by first | exact i1 | exact i2 | exact i3 | exact i7 | exact i8 | exact i9)).mono ?_; rintro e w9 ⟨rfl, rfl⟩)
  go_ret
  exact ⟨rfl, (Below.refl _ _).alloc (Nat.le_refl _) _⟩
set_option maxRecDepth 100000 in
set_option maxHeartbeats 1000000 in
theorem reform_p5 (ba la fr ep pi ge se : Int) (tx : Bool) (ct : Int) (_rs : List Rc) (A : Option Addr) (n c : Nat) (w : World) (t1 : 0 ≤ ba ∧ ba ≤ 1099511627776) (t2 : 0 ≤ la ∧ la ≤ 1099511627776) (t3 : 0 ≤ fr ∧ fr ≤ 1099511627776) (t4 : ba ≤ la) (t5 : la - ba < 16) (t6 : fr + (la - ba) ≤ 1099511627776) (t7 : 0 ≤ ep ∧ ep ≤ 1048576) (t8 : 0 ≤ ge ∧ ge ≤ 1048576) (t9 : 0 ≤ se ∧ se ≤ 1048576) (t10 : se + (la - ba) ≤ 1048576) (q : pi ≠ -1) (q1 : ¬ (0 ≤ pi ∧ pi ≤ 1099511627776)) :
    Calls Tryz.prog 76 #[.agg #[.int .i64 ba, .int .i64 la, .int .i64 fr, .int .i64 ep, .int .i64 pi, .int .i64 ge, .int .i64 se, .bool tx, .int .i64 ct, .slice A n c]] w fun e w' => e = .returned (.bool false) ∧ Below w.heap.size w w' := by
  have i1 : inM ba 1099511627776 = true := inM_T t1
  have i2 : inM la 1099511627776 = true := inM_T t2
  have i3 : inM fr 1099511627776 = true := inM_T t3
  have i7 : inM ep 1048576 = true := inM_T t7
  have i8 : inM ge 1048576 = true := inM_T t8
  have i9 : inM se 1048576 = true := inM_T t9
  have ip : inM pi 1099511627776 = false := inM_F q1
  go_enter Tryz.func76, Tryz.ntmps76
  go_wp2_with (go_at_call 97; refine (refin_any _ _ _ (by first | exact i1 | exact i2 | exact i3 | exact i7 | exact i8 | exact i9 | exact ip)).mono ?_; rintro e w9 ⟨rfl, rfl⟩)
  go_ret
  exact ⟨rfl, (Below.refl _ _).alloc (Nat.le_refl _) _⟩
set_option maxRecDepth 100000 in
set_option maxHeartbeats 1000000 in
theorem reform_c0 (ba la fr ep pi ge se : Int) (tx : Bool) (ct : Int) (_rs : List Rc) (A : Option Addr) (n c : Nat) (w : World) (t1 : 0 ≤ ba ∧ ba ≤ 1099511627776) (t2 : 0 ≤ la ∧ la ≤ 1099511627776) (t3 : 0 ≤ fr ∧ fr ≤ 1099511627776) (t4 : ba ≤ la) (t5 : la - ba < 16) (t6 : fr + (la - ba) ≤ 1099511627776) (t7 : 0 ≤ ep ∧ ep ≤ 1048576) (t8 : 0 ≤ ge ∧ ge ≤ 1048576) (t9 : 0 ≤ se ∧ se ≤ 1048576) (t10 : se + (la - ba) ≤ 1048576) (q : pi ≠ -1) (q1 : 0 ≤ pi ∧ pi ≤ 1099511627776) (k : ct ≠ 0) (k1 : ct ≠ 1) (k2 : ct ≠ 2) :
    Calls Tryz.prog 76 #[.agg #[.int .i64 ba, .int .i64 la, .int .i64 fr, .int .i64 ep, .int .i64 pi, .int .i64 ge, .int .i64 se, .bool tx, .int .i64 ct, .slice A n c]] w fun e w' => e = .returned (.bool false) ∧ Below w.heap.size w w' := by
  have i1 : inM ba 1099511627776 = true := inM_T t1
  have i2 : inM la 1099511627776 = true := inM_T t2
  have i3 : inM fr 1099511627776 = true := inM_T t3
  have i7 : inM ep 1048576 = true := inM_T t7
  have i8 : inM ge 1048576 = true := inM_T t8
  have i9 : inM se 1048576 = true := inM_T t9
  have ip : inM pi 1099511627776 = true := inM_T q1
  go_enter Tryz.func76, Tryz.ntmps76
  go_wp2_with (go_at_call 97; refine (refin_any _ _ _ (by first | exact i1 | exact i2 | exact i3 | exact i7 | exact i8 | exact i9 | exact ip)).mono ?_; rintro e w9 ⟨rfl, rfl⟩)
  go_ret
  exact ⟨rfl, (Below.refl _ _).alloc (Nat.le_refl _) _⟩
set_option maxRecDepth 100000 in
set_option maxHeartbeats 1000000 in
theorem reform_c1a (ba la fr ep pi ge se : Int) (tx : Bool) (ct : Int) (_rs : List Rc) (A : Option Addr) (n c : Nat) (w : World) (t1 : 0 ≤ ba ∧ ba ≤ 1099511627776) (t2 : 0 ≤ la ∧ la ≤ 1099511627776) (t3 : 0 ≤ fr ∧ fr ≤ 1099511627776) (t4 : ba ≤ la) (t5 : la - ba < 16) (t6 : fr + (la - ba) ≤ 1099511627776) (t7 : 0 ≤ ep ∧ ep ≤ 1048576) (t8 : 0 ≤ ge ∧ ge ≤ 1048576) (t9 : 0 ≤ se ∧ se ≤ 1048576) (t10 : se + (la - ba) ≤ 1048576) (q : pi ≠ -1) (q1 : 0 ≤ pi ∧ pi ≤ 1099511627776) (k : ct = 1) (m : la - ba ≠ 0) :
    Calls Tryz.prog 76 #[.agg #[.int .i64 ba, .int .i64 la, .int .i64 fr, .int .i64 ep, .int .i64 pi, .int .i64 ge, .int .i64 se, .bool tx, .int .i64 ct, .slice A n c]] w fun e w' => e = .returned (.bool false) ∧ Below w.heap.size w w' := by
  have i1 : inM ba 1099511627776 = true := inM_T t1
  have i2 : inM la 1099511627776 = true := inM_T t2
  have i3 : inM fr 1099511627776 = true := inM_T t3
  have i7 : inM ep 1048576 = true := inM_T t7
  have i8 : inM ge 1048576 = true := inM_T t8
  have i9 : inM se 1048576 = true := inM_T t9
  have ip : inM pi 1099511627776 = true := inM_T q1
  go_enter Tryz.func76, Tryz.ntmps76
  go_wp2_with (go_at_call 97; refine (refin_any _ _ _ (by first | exact i1 | exact i2 | exact i3 | exact i7 | exact i8 | exact i9 | exact ip)).mono ?_; rintro e w9 ⟨rfl, rfl⟩)
  go_ret
  exact ⟨rfl, (Below.refl _ _).alloc (Nat.le_refl _) _⟩
set_option maxRecDepth 100000 in
set_option maxHeartbeats 1000000 in
theorem reform_c1b (ba la fr ep pi ge se : Int) (tx : Bool) (ct : Int) (_rs : List Rc) (A : Option Addr) (n c : Nat) (w : World) (t1 : 0 ≤ ba ∧ ba ≤ 1099511627776) (t2 : 0 ≤ la ∧ la ≤ 1099511627776) (t3 : 0 ≤ fr ∧ fr ≤ 1099511627776) (t4 : ba ≤ la) (_t5 : la - ba < 16) (_t6 : fr + (la - ba) ≤ 1099511627776) (t7 : 0 ≤ ep ∧ ep ≤ 1048576) (t8 : 0 ≤ ge ∧ ge ≤ 1048576) (t9 : 0 ≤ se ∧ se ≤ 1048576) (_t10 : se + (la - ba) ≤ 1048576) (q : pi ≠ -1) (q1 : 0 ≤ pi ∧ pi ≤ 1099511627776) (k : ct = 1) (m : la - ba = 0) (m1 : n ≠ 0) :
    Calls Tryz.prog 76 #[.agg #[.int .i64 ba, .int .i64 la, .int .i64 fr, .int .i64 ep, .int .i64 pi, .int .i64 ge, .int .i64 se, .bool tx, .int .i64 ct, .slice A n c]] w fun e w' => e = .returned (.bool false) ∧ Below w.heap.size w w' := by
  have i1 : inM ba 1099511627776 = true := inM_T t1
  have i2 : inM la 1099511627776 = true := inM_T t2
  have i3 : inM fr 1099511627776 = true := inM_T t3
  have i7 : inM ep 1048576 = true := inM_T t7
  have i8 : inM ge 1048576 = true := inM_T t8
  have i9 : inM se 1048576 = true := inM_T t9
  have ip : inM pi 1099511627776 = true := inM_T q1
  go_enter Tryz.func76, Tryz.ntmps76
  go_wp2_with (go_at_call 97; refine (refin_any _ _ _ (by first | exact i1 | exact i2 | exact i3 | exact i7 | exact i8 | exact i9 | exact ip)).mono ?_; rintro e w9 ⟨rfl, rfl⟩)
  go_ret
  exact ⟨rfl, (Below.refl _ _).alloc (Nat.le_refl _) _⟩
set_option maxRecDepth 100000 in
set_option maxHeartbeats 1000000 in
theorem reform_c1c (ba la fr ep pi ge se : Int) (tx : Bool) (ct : Int) (_rs : List Rc) (A : Option Addr) (n c : Nat) (w : World) (t1 : 0 ≤ ba ∧ ba ≤ 1099511627776) (t2 : 0 ≤ la ∧ la ≤ 1099511627776) (t3 : 0 ≤ fr ∧ fr ≤ 1099511627776) (t4 : ba ≤ la) (_t5 : la - ba < 16) (_t6 : fr + (la - ba) ≤ 1099511627776) (t7 : 0 ≤ ep ∧ ep ≤ 1048576) (t8 : 0 ≤ ge ∧ ge ≤ 1048576) (t9 : 0 ≤ se ∧ se ≤ 1048576) (_t10 : se + (la - ba) ≤ 1048576) (q : pi ≠ -1) (q1 : 0 ≤ pi ∧ pi ≤ 1099511627776) (k : ct = 1) (m : la - ba = 0) (m1 : n = 0) (m2 : tx = false) :
    Calls Tryz.prog 76 #[.agg #[.int .i64 ba, .int .i64 la, .int .i64 fr, .int .i64 ep, .int .i64 pi, .int .i64 ge, .int .i64 se, .bool tx, .int .i64 ct, .slice A n c]] w fun e w' => e = .returned (.bool false) ∧ Below w.heap.size w w' := by
  have i1 : inM ba 1099511627776 = true := inM_T t1
  have i2 : inM la 1099511627776 = true := inM_T t2
  have i3 : inM fr 1099511627776 = true := inM_T t3
  have i7 : inM ep 1048576 = true := inM_T t7
  have i8 : inM ge 1048576 = true := inM_T t8
  have i9 : inM se 1048576 = true := inM_T t9
  have ip : inM pi 1099511627776 = true := inM_T q1
  subst m2
  go_enter Tryz.func76, Tryz.ntmps76
  go_wp2_with (go_at_call 97; refine (refin_any _ _ _ (by first | exact i1 | exact i2 | exact i3 | exact i7 | exact i8 | exact i9 | exact ip)).mono ?_; rintro e w9 ⟨rfl, rfl⟩)
  go_ret
  exact ⟨rfl, (Below.refl _ _).alloc (Nat.le_refl _) _⟩
set_option maxRecDepth 100000 in
set_option maxHeartbeats 1000000 in
theorem reform_c1d (ba la fr ep pi ge se : Int) (tx : Bool) (ct : Int) (_rs : List Rc) (A : Option Addr) (n c : Nat) (w : World) (t1 : 0 ≤ ba ∧ ba ≤ 1099511627776) (t2 : 0 ≤ la ∧ la ≤ 1099511627776) (t3 : 0 ≤ fr ∧ fr ≤ 1099511627776) (t4 : ba ≤ la) (_t5 : la - ba < 16) (_t6 : fr + (la - ba) ≤ 1099511627776) (t7 : 0 ≤ ep ∧ ep ≤ 1048576) (t8 : 0 ≤ ge ∧ ge ≤ 1048576) (t9 : 0 ≤ se ∧ se ≤ 1048576) (_t10 : se + (la - ba) ≤ 1048576) (q : pi ≠ -1) (q1 : 0 ≤ pi ∧ pi ≤ 1099511627776) (k : ct = 1) (m : la - ba = 0) (m1 : n = 0) (m2 : tx = true) :
    Calls Tryz.prog 76 #[.agg #[.int .i64 ba, .int .i64 la, .int .i64 fr, .int .i64 ep, .int .i64 pi, .int .i64 ge, .int .i64 se, .bool tx, .int .i64 ct, .slice A n c]] w fun e w' => e = .returned (.bool true) ∧ Below w.heap.size w w' := by
  have i1 : inM ba 1099511627776 = true := inM_T t1
  have i2 : inM la 1099511627776 = true := inM_T t2
  have i3 : inM fr 1099511627776 = true := inM_T t3
  have i7 : inM ep 1048576 = true := inM_T t7
  have i8 : inM ge 1048576 = true := inM_T t8
  have i9 : inM se 1048576 = true := inM_T t9
  have ip : inM pi 1099511627776 = true := inM_T q1
  subst m2
  go_enter Tryz.func76, Tryz.ntmps76
  go_wp2_with (go_at_call 97; refine (refin_any _ _ _ (by first | exact i1 | exact i2 | exact i3 | exact i7 | exact i8 | exact i9 | exact ip)).mono ?_; rintro e w9 ⟨rfl, rfl⟩)
  go_ret
  exact ⟨rfl, (Below.refl _ _).alloc (Nat.le_refl _) _⟩
set_option maxRecDepth 100000 in
set_option maxHeartbeats 1000000 in
theorem reform_c2a (ba la fr ep pi ge se : Int) (tx : Bool) (ct : Int) (_rs : List Rc) (A : Option Addr) (n c : Nat) (w : World) (t1 : 0 ≤ ba ∧ ba ≤ 1099511627776) (t2 : 0 ≤ la ∧ la ≤ 1099511627776) (t3 : 0 ≤ fr ∧ fr ≤ 1099511627776) (t4 : ba ≤ la) (t5 : la - ba < 16) (t6 : fr + (la - ba) ≤ 1099511627776) (t7 : 0 ≤ ep ∧ ep ≤ 1048576) (t8 : 0 ≤ ge ∧ ge ≤ 1048576) (t9 : 0 ≤ se ∧ se ≤ 1048576) (t10 : se + (la - ba) ≤ 1048576) (q : pi ≠ -1) (q1 : 0 ≤ pi ∧ pi ≤ 1099511627776) (k : ct = 2) (m : la - ba ≠ 0) :
    Calls Tryz.prog 76 #[.agg #[.int .i64 ba, .int .i64 la, .int .i64 fr, .int .i64 ep, .int .i64 pi, .int .i64 ge, .int .i64 se, .bool tx, .int .i64 ct, .slice A n c]] w fun e w' => e = .returned (.bool false) ∧ Below w.heap.size w w' := by
  have i1 : inM ba 1099511627776 = true := inM_T t1
  have i2 : inM la 1099511627776 = true := inM_T t2
  have i3 : inM fr 1099511627776 = true := inM_T t3
  have i7 : inM ep 1048576 = true := inM_T t7
  have i8 : inM ge 1048576 = true := inM_T t8
  have i9 : inM se 1048576 = true := inM_T t9
  have ip : inM pi 1099511627776 = true := inM_T q1
  go_enter Tryz.func76, Tryz.ntmps76
  go_wp2_with (go_at_call 97; refine (refin_any _ _ _ (by first | exact i1 | exact i2 | exact i3 | exact i7 | exact i8 | exact i9 | exact ip)).mono ?_; rintro e w9 ⟨rfl, rfl⟩)
  go_ret
  exact ⟨rfl, (Below.refl _ _).alloc (Nat.le_refl _) _⟩
set_option maxRecDepth 100000 in
set_option maxHeartbeats 1000000 in
theorem reform_c2b (ba la fr ep pi ge se : Int) (tx : Bool) (ct : Int) (_rs : List Rc) (A : Option Addr) (n c : Nat) (w : World) (t1 : 0 ≤ ba ∧ ba ≤ 1099511627776) (t2 : 0 ≤ la ∧ la ≤ 1099511627776) (t3 : 0 ≤ fr ∧ fr ≤ 1099511627776) (t4 : ba ≤ la) (_t5 : la - ba < 16) (_t6 : fr + (la - ba) ≤ 1099511627776) (t7 : 0 ≤ ep ∧ ep ≤ 1048576) (t8 : 0 ≤ ge ∧ ge ≤ 1048576) (t9 : 0 ≤ se ∧ se ≤ 1048576) (_t10 : se + (la - ba) ≤ 1048576) (q : pi ≠ -1) (q1 : 0 ≤ pi ∧ pi ≤ 1099511627776) (k : ct = 2) (m : la - ba = 0) (m1 : n ≠ 0) :
    Calls Tryz.prog 76 #[.agg #[.int .i64 ba, .int .i64 la, .int .i64 fr, .int .i64 ep, .int .i64 pi, .int .i64 ge, .int .i64 se, .bool tx, .int .i64 ct, .slice A n c]] w fun e w' => e = .returned (.bool false) ∧ Below w.heap.size w w' := by
  have i1 : inM ba 1099511627776 = true := inM_T t1
  have i2 : inM la 1099511627776 = true := inM_T t2
  have i3 : inM fr 1099511627776 = true := inM_T t3
  have i7 : inM ep 1048576 = true := inM_T t7
  have i8 : inM ge 1048576 = true := inM_T t8
  have i9 : inM se 1048576 = true := inM_T t9
  have ip : inM pi 1099511627776 = true := inM_T q1
  go_enter Tryz.func76, Tryz.ntmps76
  go_wp2_with (go_at_call 97; refine (refin_any _ _ _ (by first | exact i1 | exact i2 | exact i3 | exact i7 | exact i8 | exact i9 | exact ip)).mono ?_; rintro e w9 ⟨rfl, rfl⟩)
  go_ret
  exact ⟨rfl, (Below.refl _ _).alloc (Nat.le_refl _) _⟩
set_option maxRecDepth 100000 in
set_option maxHeartbeats 1000000 in
theorem reform_c2c (ba la fr ep pi ge se : Int) (tx : Bool) (ct : Int) (_rs : List Rc) (A : Option Addr) (n c : Nat) (w : World) (t1 : 0 ≤ ba ∧ ba ≤ 1099511627776) (t2 : 0 ≤ la ∧ la ≤ 1099511627776) (t3 : 0 ≤ fr ∧ fr ≤ 1099511627776) (t4 : ba ≤ la) (_t5 : la - ba < 16) (_t6 : fr + (la - ba) ≤ 1099511627776) (t7 : 0 ≤ ep ∧ ep ≤ 1048576) (t8 : 0 ≤ ge ∧ ge ≤ 1048576) (t9 : 0 ≤ se ∧ se ≤ 1048576) (_t10 : se + (la - ba) ≤ 1048576) (q : pi ≠ -1) (q1 : 0 ≤ pi ∧ pi ≤ 1099511627776) (k : ct = 2) (m : la - ba = 0) (m1 : n = 0) (m2 : tx = false) :
    Calls Tryz.prog 76 #[.agg #[.int .i64 ba, .int .i64 la, .int .i64 fr, .int .i64 ep, .int .i64 pi, .int .i64 ge, .int .i64 se, .bool tx, .int .i64 ct, .slice A n c]] w fun e w' => e = .returned (.bool false) ∧ Below w.heap.size w w' := by
  have i1 : inM ba 1099511627776 = true := inM_T t1
  have i2 : inM la 1099511627776 = true := inM_T t2
  have i3 : inM fr 1099511627776 = true := inM_T t3
  have i7 : inM ep 1048576 = true := inM_T t7
  have i8 : inM ge 1048576 = true := inM_T t8
  have i9 : inM se 1048576 = true := inM_T t9
  have ip : inM pi 1099511627776 = true := inM_T q1
  subst m2
  go_enter Tryz.func76, Tryz.ntmps76
  go_wp2_with (go_at_call 97; refine (refin_any _ _ _ (by first | exact i1 | exact i2 | exact i3 | exact i7 | exact i8 | exact i9 | exact ip)).mono ?_; rintro e w9 ⟨rfl, rfl⟩)
  go_ret
  exact ⟨rfl, (Below.refl _ _).alloc (Nat.le_refl _) _⟩
set_option maxRecDepth 100000 in
set_option maxHeartbeats 1000000 in
theorem reform_c2d (ba la fr ep pi ge se : Int) (tx : Bool) (ct : Int) (_rs : List Rc) (A : Option Addr) (n c : Nat) (w : World) (t1 : 0 ≤ ba ∧ ba ≤ 1099511627776) (t2 : 0 ≤ la ∧ la ≤ 1099511627776) (t3 : 0 ≤ fr ∧ fr ≤ 1099511627776) (t4 : ba ≤ la) (_t5 : la - ba < 16) (_t6 : fr + (la - ba) ≤ 1099511627776) (t7 : 0 ≤ ep ∧ ep ≤ 1048576) (t8 : 0 ≤ ge ∧ ge ≤ 1048576) (t9 : 0 ≤ se ∧ se ≤ 1048576) (_t10 : se + (la - ba) ≤ 1048576) (q : pi ≠ -1) (q1 : 0 ≤ pi ∧ pi ≤ 1099511627776) (k : ct = 2) (m : la - ba = 0) (m1 : n = 0) (m2 : tx = true) :
    Calls Tryz.prog 76 #[.agg #[.int .i64 ba, .int .i64 la, .int .i64 fr, .int .i64 ep, .int .i64 pi, .int .i64 ge, .int .i64 se, .bool tx, .int .i64 ct, .slice A n c]] w fun e w' => e = .returned (.bool true) ∧ Below w.heap.size w w' := by
  have i1 : inM ba 1099511627776 = true := inM_T t1
  have i2 : inM la 1099511627776 = true := inM_T t2
  have i3 : inM fr 1099511627776 = true := inM_T t3
  have i7 : inM ep 1048576 = true := inM_T t7
  have i8 : inM ge 1048576 = true := inM_T t8
  have i9 : inM se 1048576 = true := inM_T t9
  have ip : inM pi 1099511627776 = true := inM_T q1
  subst m2
  go_enter Tryz.func76, Tryz.ntmps76
  go_wp2_with (go_at_call 97; refine (refin_any _ _ _ (by first | exact i1 | exact i2 | exact i3 | exact i7 | exact i8 | exact i9 | exact ip)).mono ?_; rintro e w9 ⟨rfl, rfl⟩)
  go_ret
  exact ⟨rfl, (Below.refl _ _).alloc (Nat.le_refl _) _⟩
end Go.Proofs.YtlfbagkonckffaaGreat.Bat
