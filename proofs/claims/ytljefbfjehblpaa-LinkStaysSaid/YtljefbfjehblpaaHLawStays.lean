/- LinkStays: the walk over the law's own code. -/
import Derived.Test.YtljefbfjehblpaaHLawBoth
import Derived.BigRegion
namespace Go.Proofs.Ytljefbfjehblpaa
open Go.RowKit
set_option maxRecDepth 100000

theorem items_stay {p : Bool × Bool} {a b : Int} (h : zr a = zr b) (zc : Bool) : itemsF p (zr a) (zr b) zc = p := by unfold itemsF; rw [h]; simp
theorem above_stay {p : Bool × Bool} {a b : Int} (h : zr a = zr b) (zc : Bool) : aboveF p (zr a) (zr b) zc = p := by unfold aboveF; rw [items_stay h]
set_option maxHeartbeats 4000000 in
theorem stays_nn (x y : Bool) (z0 z1 z2 z3 : Int) (w : World) (hz0 : z0 < 0) (hz1 : z1 < 0) :
    Calls Try.prog 6 #[.agg #[.bool x, .bool y], .agg #[.int .i64 z0, .int .i64 z1, .int .i64 z2, .int .i64 z3]] w fun e w' => e = .returned (.bool true) ∧ Kept Nil w w' := by
  have CW1 : Hid (∀ W, Calls Try.prog 16 #[] W fun e w' => e = .returned (.bool true) ∧ Kept Nil W w') := Lib.hid fun W => awake_any W
  have S0 := Lib.hid (HIn.start w #[.bool x, .bool y] #[.int .i64 z0, .int .i64 z1, .int .i64 z2, .int .i64 z3])
  have hlz0 : decide (z0 < 0) = true := decide_eq_true hz0
  have hlz1 : decide (z1 < 0) = true := decide_eq_true hz1
  have CI : Hid (∀ W, Calls Try.prog 10 #[.agg #[.bool x, .bool y], .int .i64 0, .int .i64 0, .int .i64 z3] W fun e w' => e = .returned (.agg #[.bool x, .bool y]) ∧ Kept Nil W w') := Lib.hid fun W => by
    have := items_any (x, y) 0 0 z3 W
    rw [items_stay (by rfl)] at this
    exact this
  have CA : Hid (∀ W, Calls Try.prog 12 #[.agg #[.bool x, .bool y], .int .i64 0, .int .i64 0, .int .i64 z2] W fun e w' => e = .returned (.agg #[.bool x, .bool y]) ∧ Kept Nil W w') := Lib.hid fun W => by
    have := above_any (x, y) 0 0 z2 W
    rw [above_stay (by rfl)] at this
    exact this
  have hq : ∀ W, (Op.equalIn 10000 23 (.agg #[.bool x, .bool y]) (.agg #[.bool x, .bool y])).run Try.prog W = .ok true W := fun W => by have := eqLink (x, y) (x, y) W; simpa using this
  have inst : Nonempty (CW (HIn w #[.bool x, .bool y] #[.int .i64 z0, .int .i64 z1, .int .i64 z2, .int .i64 z3])) := ⟨⟨_, S0.out⟩⟩
  have q0 : ∀ n : CW (HIn w #[.bool x, .bool y] #[.int .i64 z0, .int .i64 z1, .int .i64 z2, .int .i64 z3]), n.w.cell? ⟨w.heap.size, 0, none⟩ = some (.bool x) := fun n => n.of.b0.cell 0
  have q1 : ∀ n : CW (HIn w #[.bool x, .bool y] #[.int .i64 z0, .int .i64 z1, .int .i64 z2, .int .i64 z3]), n.w.cell? ⟨w.heap.size, 1, none⟩ = some (.bool y) := fun n => n.of.b0.cell 1
  have p0 : ∀ n : CW (HIn w #[.bool x, .bool y] #[.int .i64 z0, .int .i64 z1, .int .i64 z2, .int .i64 z3]), n.w.cell? ⟨w.heap.size + 1, 0, none⟩ = some (.int .i64 z0) := fun n => n.of.b1.cell 0
  have p1 : ∀ n : CW (HIn w #[.bool x, .bool y] #[.int .i64 z0, .int .i64 z1, .int .i64 z2, .int .i64 z3]), n.w.cell? ⟨w.heap.size + 1, 1, none⟩ = some (.int .i64 z1) := fun n => n.of.b1.cell 1
  have p2 : ∀ n : CW (HIn w #[.bool x, .bool y] #[.int .i64 z0, .int .i64 z1, .int .i64 z2, .int .i64 z3]), n.w.cell? ⟨w.heap.size + 1, 2, none⟩ = some (.int .i64 z2) := fun n => n.of.b1.cell 2
  have p3 : ∀ n : CW (HIn w #[.bool x, .bool y] #[.int .i64 z0, .int .i64 z1, .int .i64 z2, .int .i64 z3]), n.w.cell? ⟨w.heap.size + 1, 3, none⟩ = some (.int .i64 z3) := fun n => n.of.b1.cell 3
  go_enter Try.func6, Try.ntmps6
  go_wp2_with fail
  go_region
  all_goals
    go_wp2_with fail
    refine wp_region_in (HIn w #[.bool x, .bool y] #[.int .i64 z0, .int .i64 z1, .int .i64 z2, .int .i64 z3]) (by kernel_rfl) (by kernel_rfl) (HIn.step _ _ S0.out (Kept.refl _ _).drew.drew) ?_
    repeat (go_big_quiet_step (first
      | (go_at_call 10; with_reducible exact call_in HIn.step (CI.out _))
      | (go_at_call 12; with_reducible exact call_in HIn.step (CA.out _))
      | (go_at_call 16; with_reducible exact call_in HIn.step (CW1.out _))))
    refine wpQuiet_nil ?_
    rintro _ ⟨m, rfl⟩
    go_wp2_with fail
    go_ret
    exact ⟨rfl, m.of.kept⟩
set_option maxHeartbeats 4000000 in
theorem stays_nz (x y : Bool) (z0 z2 z3 : Int) (w : World) (hz0 : z0 < 0) :
    Calls Try.prog 6 #[.agg #[.bool x, .bool y], .agg #[.int .i64 z0, .int .i64 0, .int .i64 z2, .int .i64 z3]] w fun e w' => e = .returned (.bool true) ∧ Kept Nil w w' := by
  have CW1 : Hid (∀ W, Calls Try.prog 16 #[] W fun e w' => e = .returned (.bool true) ∧ Kept Nil W w') := Lib.hid fun W => awake_any W
  have S0 := Lib.hid (HIn.start w #[.bool x, .bool y] #[.int .i64 z0, .int .i64 0, .int .i64 z2, .int .i64 z3])
  have hlz0 : decide (z0 < 0) = true := decide_eq_true hz0
  have CI : Hid (∀ W, Calls Try.prog 10 #[.agg #[.bool x, .bool y], .int .i64 0, .int .i64 0, .int .i64 z3] W fun e w' => e = .returned (.agg #[.bool x, .bool y]) ∧ Kept Nil W w') := Lib.hid fun W => by
    have := items_any (x, y) 0 0 z3 W
    rw [items_stay (by rfl)] at this
    exact this
  have CA : Hid (∀ W, Calls Try.prog 12 #[.agg #[.bool x, .bool y], .int .i64 0, .int .i64 0, .int .i64 z2] W fun e w' => e = .returned (.agg #[.bool x, .bool y]) ∧ Kept Nil W w') := Lib.hid fun W => by
    have := above_any (x, y) 0 0 z2 W
    rw [above_stay (by rfl)] at this
    exact this
  have hq : ∀ W, (Op.equalIn 10000 23 (.agg #[.bool x, .bool y]) (.agg #[.bool x, .bool y])).run Try.prog W = .ok true W := fun W => by have := eqLink (x, y) (x, y) W; simpa using this
  have inst : Nonempty (CW (HIn w #[.bool x, .bool y] #[.int .i64 z0, .int .i64 0, .int .i64 z2, .int .i64 z3])) := ⟨⟨_, S0.out⟩⟩
  have q0 : ∀ n : CW (HIn w #[.bool x, .bool y] #[.int .i64 z0, .int .i64 0, .int .i64 z2, .int .i64 z3]), n.w.cell? ⟨w.heap.size, 0, none⟩ = some (.bool x) := fun n => n.of.b0.cell 0
  have q1 : ∀ n : CW (HIn w #[.bool x, .bool y] #[.int .i64 z0, .int .i64 0, .int .i64 z2, .int .i64 z3]), n.w.cell? ⟨w.heap.size, 1, none⟩ = some (.bool y) := fun n => n.of.b0.cell 1
  have p0 : ∀ n : CW (HIn w #[.bool x, .bool y] #[.int .i64 z0, .int .i64 0, .int .i64 z2, .int .i64 z3]), n.w.cell? ⟨w.heap.size + 1, 0, none⟩ = some (.int .i64 z0) := fun n => n.of.b1.cell 0
  have p1 : ∀ n : CW (HIn w #[.bool x, .bool y] #[.int .i64 z0, .int .i64 0, .int .i64 z2, .int .i64 z3]), n.w.cell? ⟨w.heap.size + 1, 1, none⟩ = some (.int .i64 0) := fun n => n.of.b1.cell 1
  have p2 : ∀ n : CW (HIn w #[.bool x, .bool y] #[.int .i64 z0, .int .i64 0, .int .i64 z2, .int .i64 z3]), n.w.cell? ⟨w.heap.size + 1, 2, none⟩ = some (.int .i64 z2) := fun n => n.of.b1.cell 2
  have p3 : ∀ n : CW (HIn w #[.bool x, .bool y] #[.int .i64 z0, .int .i64 0, .int .i64 z2, .int .i64 z3]), n.w.cell? ⟨w.heap.size + 1, 3, none⟩ = some (.int .i64 z3) := fun n => n.of.b1.cell 3
  go_enter Try.func6, Try.ntmps6
  go_wp2_with fail
  go_region
  all_goals
    go_wp2_with fail
    refine wp_region_in (HIn w #[.bool x, .bool y] #[.int .i64 z0, .int .i64 0, .int .i64 z2, .int .i64 z3]) (by kernel_rfl) (by kernel_rfl) (HIn.step _ _ S0.out (Kept.refl _ _).drew.drew) ?_
    repeat (go_big_quiet_step (first
      | (go_at_call 10; with_reducible exact call_in HIn.step (CI.out _))
      | (go_at_call 12; with_reducible exact call_in HIn.step (CA.out _))
      | (go_at_call 16; with_reducible exact call_in HIn.step (CW1.out _))))
    refine wpQuiet_nil ?_
    rintro _ ⟨m, rfl⟩
    go_wp2_with fail
    go_ret
    exact ⟨rfl, m.of.kept⟩
set_option maxHeartbeats 4000000 in
theorem stays_np (x y : Bool) (z0 z1 z2 z3 : Int) (w : World) (hz0 : z0 < 0) (hz1 : 0 < z1) :
    Calls Try.prog 6 #[.agg #[.bool x, .bool y], .agg #[.int .i64 z0, .int .i64 z1, .int .i64 z2, .int .i64 z3]] w fun e w' => e = .returned (.bool true) ∧ Kept Nil w w' := by
  have CW1 : Hid (∀ W, Calls Try.prog 16 #[] W fun e w' => e = .returned (.bool true) ∧ Kept Nil W w') := Lib.hid fun W => awake_any W
  have S0 := Lib.hid (HIn.start w #[.bool x, .bool y] #[.int .i64 z0, .int .i64 z1, .int .i64 z2, .int .i64 z3])
  have hlz0 : decide (z0 < 0) = true := decide_eq_true hz0
  have hlz1 : decide (z1 < 0) = false := decide_eq_false (by omega)
  have hnz1 : ¬ z1 < 0 := by omega
  have hzz1 : (z1 == 0) = false := by simp; omega
  go_enter Try.func6, Try.ntmps6
  go_wp2_with fail
  go_region
  all_goals
    go_wp2_with fail
    refine (CW1.out _).mono ?_
    rintro e w1 ⟨rfl, k1⟩
    go_wp2_with fail
    go_ret
    exact ⟨rfl, (HIn.step _ _ S0.out ((Kept.refl _ _).drewN _)).kept.trans k1 (fun _ _ g => g)⟩
set_option maxHeartbeats 4000000 in
theorem stays_zn (x y : Bool) (z1 z2 z3 : Int) (w : World) (hz1 : z1 < 0) :
    Calls Try.prog 6 #[.agg #[.bool x, .bool y], .agg #[.int .i64 0, .int .i64 z1, .int .i64 z2, .int .i64 z3]] w fun e w' => e = .returned (.bool true) ∧ Kept Nil w w' := by
  have CW1 : Hid (∀ W, Calls Try.prog 16 #[] W fun e w' => e = .returned (.bool true) ∧ Kept Nil W w') := Lib.hid fun W => awake_any W
  have S0 := Lib.hid (HIn.start w #[.bool x, .bool y] #[.int .i64 0, .int .i64 z1, .int .i64 z2, .int .i64 z3])
  have hlz1 : decide (z1 < 0) = true := decide_eq_true hz1
  have CI : Hid (∀ W, Calls Try.prog 10 #[.agg #[.bool x, .bool y], .int .i64 0, .int .i64 0, .int .i64 z3] W fun e w' => e = .returned (.agg #[.bool x, .bool y]) ∧ Kept Nil W w') := Lib.hid fun W => by
    have := items_any (x, y) 0 0 z3 W
    rw [items_stay (by rfl)] at this
    exact this
  have CA : Hid (∀ W, Calls Try.prog 12 #[.agg #[.bool x, .bool y], .int .i64 0, .int .i64 0, .int .i64 z2] W fun e w' => e = .returned (.agg #[.bool x, .bool y]) ∧ Kept Nil W w') := Lib.hid fun W => by
    have := above_any (x, y) 0 0 z2 W
    rw [above_stay (by rfl)] at this
    exact this
  have hq : ∀ W, (Op.equalIn 10000 23 (.agg #[.bool x, .bool y]) (.agg #[.bool x, .bool y])).run Try.prog W = .ok true W := fun W => by have := eqLink (x, y) (x, y) W; simpa using this
  have inst : Nonempty (CW (HIn w #[.bool x, .bool y] #[.int .i64 0, .int .i64 z1, .int .i64 z2, .int .i64 z3])) := ⟨⟨_, S0.out⟩⟩
  have q0 : ∀ n : CW (HIn w #[.bool x, .bool y] #[.int .i64 0, .int .i64 z1, .int .i64 z2, .int .i64 z3]), n.w.cell? ⟨w.heap.size, 0, none⟩ = some (.bool x) := fun n => n.of.b0.cell 0
  have q1 : ∀ n : CW (HIn w #[.bool x, .bool y] #[.int .i64 0, .int .i64 z1, .int .i64 z2, .int .i64 z3]), n.w.cell? ⟨w.heap.size, 1, none⟩ = some (.bool y) := fun n => n.of.b0.cell 1
  have p0 : ∀ n : CW (HIn w #[.bool x, .bool y] #[.int .i64 0, .int .i64 z1, .int .i64 z2, .int .i64 z3]), n.w.cell? ⟨w.heap.size + 1, 0, none⟩ = some (.int .i64 0) := fun n => n.of.b1.cell 0
  have p1 : ∀ n : CW (HIn w #[.bool x, .bool y] #[.int .i64 0, .int .i64 z1, .int .i64 z2, .int .i64 z3]), n.w.cell? ⟨w.heap.size + 1, 1, none⟩ = some (.int .i64 z1) := fun n => n.of.b1.cell 1
  have p2 : ∀ n : CW (HIn w #[.bool x, .bool y] #[.int .i64 0, .int .i64 z1, .int .i64 z2, .int .i64 z3]), n.w.cell? ⟨w.heap.size + 1, 2, none⟩ = some (.int .i64 z2) := fun n => n.of.b1.cell 2
  have p3 : ∀ n : CW (HIn w #[.bool x, .bool y] #[.int .i64 0, .int .i64 z1, .int .i64 z2, .int .i64 z3]), n.w.cell? ⟨w.heap.size + 1, 3, none⟩ = some (.int .i64 z3) := fun n => n.of.b1.cell 3
  go_enter Try.func6, Try.ntmps6
  go_wp2_with fail
  go_region
  all_goals
    go_wp2_with fail
    refine wp_region_in (HIn w #[.bool x, .bool y] #[.int .i64 0, .int .i64 z1, .int .i64 z2, .int .i64 z3]) (by kernel_rfl) (by kernel_rfl) (HIn.step _ _ S0.out (Kept.refl _ _).drew.drew) ?_
    repeat (go_big_quiet_step (first
      | (go_at_call 10; with_reducible exact call_in HIn.step (CI.out _))
      | (go_at_call 12; with_reducible exact call_in HIn.step (CA.out _))
      | (go_at_call 16; with_reducible exact call_in HIn.step (CW1.out _))))
    refine wpQuiet_nil ?_
    rintro _ ⟨m, rfl⟩
    go_wp2_with fail
    go_ret
    exact ⟨rfl, m.of.kept⟩
set_option maxHeartbeats 4000000 in
theorem stays_zz (x y : Bool) (z2 z3 : Int) (w : World) :
    Calls Try.prog 6 #[.agg #[.bool x, .bool y], .agg #[.int .i64 0, .int .i64 0, .int .i64 z2, .int .i64 z3]] w fun e w' => e = .returned (.bool true) ∧ Kept Nil w w' := by
  have CW1 : Hid (∀ W, Calls Try.prog 16 #[] W fun e w' => e = .returned (.bool true) ∧ Kept Nil W w') := Lib.hid fun W => awake_any W
  have S0 := Lib.hid (HIn.start w #[.bool x, .bool y] #[.int .i64 0, .int .i64 0, .int .i64 z2, .int .i64 z3])
  have CI : Hid (∀ W, Calls Try.prog 10 #[.agg #[.bool x, .bool y], .int .i64 0, .int .i64 0, .int .i64 z3] W fun e w' => e = .returned (.agg #[.bool x, .bool y]) ∧ Kept Nil W w') := Lib.hid fun W => by
    have := items_any (x, y) 0 0 z3 W
    rw [items_stay (by rfl)] at this
    exact this
  have CA : Hid (∀ W, Calls Try.prog 12 #[.agg #[.bool x, .bool y], .int .i64 0, .int .i64 0, .int .i64 z2] W fun e w' => e = .returned (.agg #[.bool x, .bool y]) ∧ Kept Nil W w') := Lib.hid fun W => by
    have := above_any (x, y) 0 0 z2 W
    rw [above_stay (by rfl)] at this
    exact this
  have hq : ∀ W, (Op.equalIn 10000 23 (.agg #[.bool x, .bool y]) (.agg #[.bool x, .bool y])).run Try.prog W = .ok true W := fun W => by have := eqLink (x, y) (x, y) W; simpa using this
  have inst : Nonempty (CW (HIn w #[.bool x, .bool y] #[.int .i64 0, .int .i64 0, .int .i64 z2, .int .i64 z3])) := ⟨⟨_, S0.out⟩⟩
  have q0 : ∀ n : CW (HIn w #[.bool x, .bool y] #[.int .i64 0, .int .i64 0, .int .i64 z2, .int .i64 z3]), n.w.cell? ⟨w.heap.size, 0, none⟩ = some (.bool x) := fun n => n.of.b0.cell 0
  have q1 : ∀ n : CW (HIn w #[.bool x, .bool y] #[.int .i64 0, .int .i64 0, .int .i64 z2, .int .i64 z3]), n.w.cell? ⟨w.heap.size, 1, none⟩ = some (.bool y) := fun n => n.of.b0.cell 1
  have p0 : ∀ n : CW (HIn w #[.bool x, .bool y] #[.int .i64 0, .int .i64 0, .int .i64 z2, .int .i64 z3]), n.w.cell? ⟨w.heap.size + 1, 0, none⟩ = some (.int .i64 0) := fun n => n.of.b1.cell 0
  have p1 : ∀ n : CW (HIn w #[.bool x, .bool y] #[.int .i64 0, .int .i64 0, .int .i64 z2, .int .i64 z3]), n.w.cell? ⟨w.heap.size + 1, 1, none⟩ = some (.int .i64 0) := fun n => n.of.b1.cell 1
  have p2 : ∀ n : CW (HIn w #[.bool x, .bool y] #[.int .i64 0, .int .i64 0, .int .i64 z2, .int .i64 z3]), n.w.cell? ⟨w.heap.size + 1, 2, none⟩ = some (.int .i64 z2) := fun n => n.of.b1.cell 2
  have p3 : ∀ n : CW (HIn w #[.bool x, .bool y] #[.int .i64 0, .int .i64 0, .int .i64 z2, .int .i64 z3]), n.w.cell? ⟨w.heap.size + 1, 3, none⟩ = some (.int .i64 z3) := fun n => n.of.b1.cell 3
  go_enter Try.func6, Try.ntmps6
  go_wp2_with fail
  go_region
  all_goals
    go_wp2_with fail
    refine wp_region_in (HIn w #[.bool x, .bool y] #[.int .i64 0, .int .i64 0, .int .i64 z2, .int .i64 z3]) (by kernel_rfl) (by kernel_rfl) (HIn.step _ _ S0.out (Kept.refl _ _).drew.drew) ?_
    repeat (go_big_quiet_step (first
      | (go_at_call 10; with_reducible exact call_in HIn.step (CI.out _))
      | (go_at_call 12; with_reducible exact call_in HIn.step (CA.out _))
      | (go_at_call 16; with_reducible exact call_in HIn.step (CW1.out _))))
    refine wpQuiet_nil ?_
    rintro _ ⟨m, rfl⟩
    go_wp2_with fail
    go_ret
    exact ⟨rfl, m.of.kept⟩
set_option maxHeartbeats 4000000 in
theorem stays_zp (x y : Bool) (z1 z2 z3 : Int) (w : World) (hz1 : 0 < z1) :
    Calls Try.prog 6 #[.agg #[.bool x, .bool y], .agg #[.int .i64 0, .int .i64 z1, .int .i64 z2, .int .i64 z3]] w fun e w' => e = .returned (.bool true) ∧ Kept Nil w w' := by
  have CW1 : Hid (∀ W, Calls Try.prog 16 #[] W fun e w' => e = .returned (.bool true) ∧ Kept Nil W w') := Lib.hid fun W => awake_any W
  have S0 := Lib.hid (HIn.start w #[.bool x, .bool y] #[.int .i64 0, .int .i64 z1, .int .i64 z2, .int .i64 z3])
  have hlz1 : decide (z1 < 0) = false := decide_eq_false (by omega)
  have hnz1 : ¬ z1 < 0 := by omega
  have hzz1 : (z1 == 0) = false := by simp; omega
  go_enter Try.func6, Try.ntmps6
  go_wp2_with fail
  go_region
  all_goals
    go_wp2_with fail
    refine (CW1.out _).mono ?_
    rintro e w1 ⟨rfl, k1⟩
    go_wp2_with fail
    go_ret
    exact ⟨rfl, (HIn.step _ _ S0.out ((Kept.refl _ _).drewN _)).kept.trans k1 (fun _ _ g => g)⟩
set_option maxHeartbeats 4000000 in
theorem stays_pn (x y : Bool) (z0 z1 z2 z3 : Int) (w : World) (hz0 : 0 < z0) (hz1 : z1 < 0) :
    Calls Try.prog 6 #[.agg #[.bool x, .bool y], .agg #[.int .i64 z0, .int .i64 z1, .int .i64 z2, .int .i64 z3]] w fun e w' => e = .returned (.bool true) ∧ Kept Nil w w' := by
  have CW1 : Hid (∀ W, Calls Try.prog 16 #[] W fun e w' => e = .returned (.bool true) ∧ Kept Nil W w') := Lib.hid fun W => awake_any W
  have S0 := Lib.hid (HIn.start w #[.bool x, .bool y] #[.int .i64 z0, .int .i64 z1, .int .i64 z2, .int .i64 z3])
  have hlz0 : decide (z0 < 0) = false := decide_eq_false (by omega)
  have hnz0 : ¬ z0 < 0 := by omega
  have hzz0 : (z0 == 0) = false := by simp; omega
  have hlz1 : decide (z1 < 0) = true := decide_eq_true hz1
  go_enter Try.func6, Try.ntmps6
  go_wp2_with fail
  go_region
  all_goals
    go_wp2_with fail
    refine (CW1.out _).mono ?_
    rintro e w1 ⟨rfl, k1⟩
    go_wp2_with fail
    go_ret
    exact ⟨rfl, (HIn.step _ _ S0.out ((Kept.refl _ _).drewN _)).kept.trans k1 (fun _ _ g => g)⟩
set_option maxHeartbeats 4000000 in
theorem stays_pz (x y : Bool) (z0 z2 z3 : Int) (w : World) (hz0 : 0 < z0) :
    Calls Try.prog 6 #[.agg #[.bool x, .bool y], .agg #[.int .i64 z0, .int .i64 0, .int .i64 z2, .int .i64 z3]] w fun e w' => e = .returned (.bool true) ∧ Kept Nil w w' := by
  have CW1 : Hid (∀ W, Calls Try.prog 16 #[] W fun e w' => e = .returned (.bool true) ∧ Kept Nil W w') := Lib.hid fun W => awake_any W
  have S0 := Lib.hid (HIn.start w #[.bool x, .bool y] #[.int .i64 z0, .int .i64 0, .int .i64 z2, .int .i64 z3])
  have hlz0 : decide (z0 < 0) = false := decide_eq_false (by omega)
  have hnz0 : ¬ z0 < 0 := by omega
  have hzz0 : (z0 == 0) = false := by simp; omega
  go_enter Try.func6, Try.ntmps6
  go_wp2_with fail
  go_region
  all_goals
    go_wp2_with fail
    refine (CW1.out _).mono ?_
    rintro e w1 ⟨rfl, k1⟩
    go_wp2_with fail
    go_ret
    exact ⟨rfl, (HIn.step _ _ S0.out ((Kept.refl _ _).drewN _)).kept.trans k1 (fun _ _ g => g)⟩
set_option maxHeartbeats 4000000 in
theorem stays_pp (x y : Bool) (z0 z1 z2 z3 : Int) (w : World) (hz0 : 0 < z0) (hz1 : 0 < z1) :
    Calls Try.prog 6 #[.agg #[.bool x, .bool y], .agg #[.int .i64 z0, .int .i64 z1, .int .i64 z2, .int .i64 z3]] w fun e w' => e = .returned (.bool true) ∧ Kept Nil w w' := by
  have CW1 : Hid (∀ W, Calls Try.prog 16 #[] W fun e w' => e = .returned (.bool true) ∧ Kept Nil W w') := Lib.hid fun W => awake_any W
  have S0 := Lib.hid (HIn.start w #[.bool x, .bool y] #[.int .i64 z0, .int .i64 z1, .int .i64 z2, .int .i64 z3])
  have hlz0 : decide (z0 < 0) = false := decide_eq_false (by omega)
  have hnz0 : ¬ z0 < 0 := by omega
  have hzz0 : (z0 == 0) = false := by simp; omega
  have hlz1 : decide (z1 < 0) = false := decide_eq_false (by omega)
  have hnz1 : ¬ z1 < 0 := by omega
  have hzz1 : (z1 == 0) = false := by simp; omega
  have CI : Hid (∀ W, Calls Try.prog 10 #[.agg #[.bool x, .bool y], .int .i64 z0, .int .i64 z1, .int .i64 z3] W fun e w' => e = .returned (.agg #[.bool x, .bool y]) ∧ Kept Nil W w') := Lib.hid fun W => by
    have := items_any (x, y) z0 z1 z3 W
    rw [items_stay (by rw [zr_no hz0, zr_no hz1])] at this
    exact this
  have CA : Hid (∀ W, Calls Try.prog 12 #[.agg #[.bool x, .bool y], .int .i64 z0, .int .i64 z1, .int .i64 z2] W fun e w' => e = .returned (.agg #[.bool x, .bool y]) ∧ Kept Nil W w') := Lib.hid fun W => by
    have := above_any (x, y) z0 z1 z2 W
    rw [above_stay (by rw [zr_no hz0, zr_no hz1])] at this
    exact this
  have hq : ∀ W, (Op.equalIn 10000 23 (.agg #[.bool x, .bool y]) (.agg #[.bool x, .bool y])).run Try.prog W = .ok true W := fun W => by have := eqLink (x, y) (x, y) W; simpa using this
  have inst : Nonempty (CW (HIn w #[.bool x, .bool y] #[.int .i64 z0, .int .i64 z1, .int .i64 z2, .int .i64 z3])) := ⟨⟨_, S0.out⟩⟩
  have q0 : ∀ n : CW (HIn w #[.bool x, .bool y] #[.int .i64 z0, .int .i64 z1, .int .i64 z2, .int .i64 z3]), n.w.cell? ⟨w.heap.size, 0, none⟩ = some (.bool x) := fun n => n.of.b0.cell 0
  have q1 : ∀ n : CW (HIn w #[.bool x, .bool y] #[.int .i64 z0, .int .i64 z1, .int .i64 z2, .int .i64 z3]), n.w.cell? ⟨w.heap.size, 1, none⟩ = some (.bool y) := fun n => n.of.b0.cell 1
  have p0 : ∀ n : CW (HIn w #[.bool x, .bool y] #[.int .i64 z0, .int .i64 z1, .int .i64 z2, .int .i64 z3]), n.w.cell? ⟨w.heap.size + 1, 0, none⟩ = some (.int .i64 z0) := fun n => n.of.b1.cell 0
  have p1 : ∀ n : CW (HIn w #[.bool x, .bool y] #[.int .i64 z0, .int .i64 z1, .int .i64 z2, .int .i64 z3]), n.w.cell? ⟨w.heap.size + 1, 1, none⟩ = some (.int .i64 z1) := fun n => n.of.b1.cell 1
  have p2 : ∀ n : CW (HIn w #[.bool x, .bool y] #[.int .i64 z0, .int .i64 z1, .int .i64 z2, .int .i64 z3]), n.w.cell? ⟨w.heap.size + 1, 2, none⟩ = some (.int .i64 z2) := fun n => n.of.b1.cell 2
  have p3 : ∀ n : CW (HIn w #[.bool x, .bool y] #[.int .i64 z0, .int .i64 z1, .int .i64 z2, .int .i64 z3]), n.w.cell? ⟨w.heap.size + 1, 3, none⟩ = some (.int .i64 z3) := fun n => n.of.b1.cell 3
  go_enter Try.func6, Try.ntmps6
  go_wp2_with fail
  go_region
  all_goals
    go_wp2_with fail
    refine wp_region_in (HIn w #[.bool x, .bool y] #[.int .i64 z0, .int .i64 z1, .int .i64 z2, .int .i64 z3]) (by kernel_rfl) (by kernel_rfl) (HIn.step _ _ S0.out (Kept.refl _ _).drew.drew) ?_
    repeat (go_big_quiet_step (first
      | (go_at_call 10; with_reducible exact call_in HIn.step (CI.out _))
      | (go_at_call 12; with_reducible exact call_in HIn.step (CA.out _))
      | (go_at_call 16; with_reducible exact call_in HIn.step (CW1.out _))))
    refine wpQuiet_nil ?_
    rintro _ ⟨m, rfl⟩
    go_wp2_with fail
    go_ret
    exact ⟨rfl, m.of.kept⟩
theorem linkStays_any (x y : Bool) (z0 z1 z2 z3 : Int) (w : World) :
    Calls Try.prog 6 #[.agg #[.bool x, .bool y], .agg #[.int .i64 z0, .int .i64 z1, .int .i64 z2, .int .i64 z3]] w fun e w' => e = .returned (.bool true) ∧ Kept Nil w w' := by
  rcases Int.lt_trichotomy z0 0 with h0 | rfl | h0 <;> rcases Int.lt_trichotomy z1 0 with h1 | rfl | h1
  · exact stays_nn x y z0 z1 z2 z3 w h0 h1
  · exact stays_nz x y z0 z2 z3 w h0
  · exact stays_np x y z0 z1 z2 z3 w h0 h1
  · exact stays_zn x y z1 z2 z3 w h1
  · exact stays_zz x y z2 z3 w
  · exact stays_zp x y z1 z2 z3 w h1
  · exact stays_pn x y z0 z1 z2 z3 w h0 h1
  · exact stays_pz x y z0 z2 z3 w h0
  · exact stays_pp x y z0 z1 z2 z3 w h0 h1
end Go.Proofs.Ytljefbfjehblpaa
