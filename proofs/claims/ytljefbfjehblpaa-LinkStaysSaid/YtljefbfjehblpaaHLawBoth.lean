/- LinkBoth: the walk over the law's own code. -/
import Derived.Test.YtljefbfjehblpaaHB
namespace Go.Proofs.Ytljefbfjehblpaa
open Go.RowKit
set_option maxRecDepth 100000

/-- Worlds in which what came in lies boxed. -/
structure HIn (w : World) (c d : Array Value) (W : World) : Prop where
  kept : Kept Nil w W
  b0 : Blk W w.heap.size 23 c
  b1 : Blk W (w.heap.size + 1) 25 d
theorem HIn.step {w : World} {c d : Array Value} (W W' : World) (h : HIn w c d W) (k : Kept Nil W W') : HIn w c d W' := ⟨h.kept.trans k (fun _ _ g => g), h.b0.kept k id, h.b1.kept k id⟩
theorem HIn.start (w : World) (c d : Array Value) : HIn w c d ((w.alloc (.cells c 23)).alloc (.cells d 25)) :=
  ⟨((Kept.refl _ _).alloc _).alloc _, (Blk.new _ _ _).alloc _, hn1 _ _ _⟩

theorem turn1_any (p : Bool × Bool) (w : World) :
    Calls Try.prog 17 #[vL p] w fun e w' => e = .returned (vL (p.2, p.1)) ∧ Kept Nil w w' := by
  obtain ⟨l, r⟩ := p
  show Calls Try.prog 17 #[.agg #[.bool l, .bool r]] w fun e w' => e = .returned (.agg #[.bool r, .bool l]) ∧ Kept Nil w w'
  go_enter Try.func17, Try.ntmps17
  go_wp2
  exact bodyPost_ret (results_cell_row Try.results17 _ _ _ _ _ _ _ rfl (hn1 _ _ _) Try.underlying23 rfl (by kernel_rfl)) rfl ⟨rfl, ((Kept.refl _ _).alloc _).alloc _⟩

set_option maxHeartbeats 4000000 in
theorem linkBoth_any (x y : Bool) (z0 z1 z2 z3 : Int) (w : World) :
    Calls Try.prog 5 #[.agg #[.bool x, .bool y], .agg #[.int .i64 z0, .int .i64 z1, .int .i64 z2, .int .i64 z3]] w fun e w' => e = .returned (.bool true) ∧ Kept Nil w w' := by
  obtain ⟨⟨i0, i1⟩, hi⟩ : ∃ q, itemsF (y, x) (zr z0) (zr z1) (zr z2) = q := ⟨_, rfl⟩
  have CA : Hid (∀ W, Calls Try.prog 12 #[.agg #[.bool x, .bool y], .int .i64 z0, .int .i64 z1, .int .i64 z2] W fun e w' => e = .returned (.agg #[.bool i1, .bool i0]) ∧ Kept Nil W w') := Lib.hid fun W => by
    have := above_any (x, y) z0 z1 z2 W
    unfold aboveF at this
    rw [show itemsF ((x, y).2, (x, y).1) (zr z0) (zr z1) (zr z2) = (i0, i1) from hi] at this
    exact this
  have CT : Hid (∀ W, Calls Try.prog 17 #[.agg #[.bool x, .bool y]] W fun e w' => e = .returned (.agg #[.bool y, .bool x]) ∧ Kept Nil W w') := Lib.hid fun W => turn1_any (x, y) W
  have CI : Hid (∀ W, Calls Try.prog 10 #[.agg #[.bool y, .bool x], .int .i64 z0, .int .i64 z1, .int .i64 z2] W fun e w' => e = .returned (.agg #[.bool i0, .bool i1]) ∧ Kept Nil W w') := Lib.hid fun W => by
    have := items_any (y, x) z0 z1 z2 W
    rw [hi] at this
    exact this
  have CU : Hid (∀ W, Calls Try.prog 17 #[.agg #[.bool i0, .bool i1]] W fun e w' => e = .returned (.agg #[.bool i1, .bool i0]) ∧ Kept Nil W w') := Lib.hid fun W => turn1_any (i0, i1) W
  have CW1 : Hid (∀ W, Calls Try.prog 16 #[] W fun e w' => e = .returned (.bool true) ∧ Kept Nil W w') := Lib.hid fun W => awake_any W
  have hq : ∀ W, (Op.equalIn 10000 23 (.agg #[.bool i1, .bool i0]) (.agg #[.bool i1, .bool i0])).run Try.prog W = .ok true W := fun W => by have := eqLink (i1, i0) (i1, i0) W; simpa using this
  clear hi
  have S0 := Lib.hid (HIn.start w #[.bool x, .bool y] #[.int .i64 z0, .int .i64 z1, .int .i64 z2, .int .i64 z3])
  have inst : Nonempty (CW (HIn w #[.bool x, .bool y] #[.int .i64 z0, .int .i64 z1, .int .i64 z2, .int .i64 z3])) := ⟨⟨_, S0.out⟩⟩
  have q0 : ∀ n : CW (HIn w #[.bool x, .bool y] #[.int .i64 z0, .int .i64 z1, .int .i64 z2, .int .i64 z3]), n.w.cell? ⟨w.heap.size, 0, none⟩ = some (.bool x) := fun n => n.of.b0.cell 0
  have q1 : ∀ n : CW (HIn w #[.bool x, .bool y] #[.int .i64 z0, .int .i64 z1, .int .i64 z2, .int .i64 z3]), n.w.cell? ⟨w.heap.size, 1, none⟩ = some (.bool y) := fun n => n.of.b0.cell 1
  have p0 : ∀ n : CW (HIn w #[.bool x, .bool y] #[.int .i64 z0, .int .i64 z1, .int .i64 z2, .int .i64 z3]), n.w.cell? ⟨w.heap.size + 1, 0, none⟩ = some (.int .i64 z0) := fun n => n.of.b1.cell 0
  have p1 : ∀ n : CW (HIn w #[.bool x, .bool y] #[.int .i64 z0, .int .i64 z1, .int .i64 z2, .int .i64 z3]), n.w.cell? ⟨w.heap.size + 1, 1, none⟩ = some (.int .i64 z1) := fun n => n.of.b1.cell 1
  have p2 : ∀ n : CW (HIn w #[.bool x, .bool y] #[.int .i64 z0, .int .i64 z1, .int .i64 z2, .int .i64 z3]), n.w.cell? ⟨w.heap.size + 1, 2, none⟩ = some (.int .i64 z2) := fun n => n.of.b1.cell 2
  have p3 : ∀ n : CW (HIn w #[.bool x, .bool y] #[.int .i64 z0, .int .i64 z1, .int .i64 z2, .int .i64 z3]), n.w.cell? ⟨w.heap.size + 1, 3, none⟩ = some (.int .i64 z3) := fun n => n.of.b1.cell 3
  go_enter Try.func5, Try.ntmps5
  go_wp2_with fail
  refine wp_region_in (HIn w #[.bool x, .bool y] #[.int .i64 z0, .int .i64 z1, .int .i64 z2, .int .i64 z3]) (by kernel_rfl) (by kernel_rfl) (HIn.step _ _ S0.out (Kept.refl _ _).drew) ?_
  repeat (go_big_quiet_step (first
    | (go_at_call 12; with_reducible exact call_in HIn.step (CA.out _))
    | (go_at_call 10; with_reducible exact call_in HIn.step (CI.out _))
    | (go_at_call 17; with_reducible exact call_in HIn.step (CT.out _))
    | (go_at_call 17; with_reducible exact call_in HIn.step (CU.out _))
    | (go_at_call 16; with_reducible exact call_in HIn.step (CW1.out _))))
  refine wpQuiet_nil ?_
  rintro _ ⟨m, rfl⟩
  go_wp2_with fail
  go_ret
  exact ⟨rfl, m.of.kept⟩
end Go.Proofs.Ytljefbfjehblpaa
