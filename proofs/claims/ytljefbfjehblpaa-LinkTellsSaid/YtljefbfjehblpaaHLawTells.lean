/- LinkTells: the walk over the law's own code. -/
import Derived.Test.YtljefbfjehblpaaHLawBoth
namespace Go.Proofs.Ytljefbfjehblpaa
open Go.RowKit
set_option maxRecDepth 100000

set_option maxHeartbeats 8000000 in
theorem linkTells_any (x y : Bool) (z0 z1 z2 z3 : Int) (w : World) :
    Calls Try.prog 3 #[.agg #[.bool x, .bool y], .agg #[.int .i64 z0, .int .i64 z1, .int .i64 z2, .int .i64 z3]] w fun e w' => e = .returned (.bool true) ∧ Kept Nil w w' := by
  obtain ⟨⟨s0, s1⟩, hs⟩ : ∃ q, startF (zr z2) (zr z3) = q := ⟨_, rfl⟩
  obtain ⟨⟨i0, i1⟩, hi⟩ : ∃ q, itemsF (x, y) (zr z0) (zr z1) (zr z3) = q := ⟨_, rfl⟩
  obtain ⟨⟨a0, a1⟩, ha⟩ : ∃ q, aboveF (x, y) (zr z0) (zr z1) (zr z2) = q := ⟨_, rfl⟩
  obtain ⟨ft, hf⟩ : ∃ q, fitsF (x, y) (zr z2) (zr z3) = q := ⟨_, rfl⟩
  have N : ∀ b : Bool, ∃ n : Int, (if b then 1 else 0) = n := fun b => ⟨_, rfl⟩
  obtain ⟨S0i, hS0⟩ := N s0
  obtain ⟨S1i, hS1⟩ := N s1
  obtain ⟨I0, hI0⟩ := N i0
  obtain ⟨I1, hI1⟩ := N i1
  obtain ⟨A0, hA0⟩ := N a0
  obtain ⟨A1, hA1⟩ := N a1
  obtain ⟨X, hX⟩ := N x
  obtain ⟨Y, hY⟩ := N y
  have CS : Hid (∀ W, Calls Try.prog 8 #[.int .i64 z2, .int .i64 z3] W fun e w' => e = .returned (.agg #[.bool s0, .bool s1]) ∧ Kept Nil W w') := Lib.hid fun W => by
    have := start_any z2 z3 W
    simpa only [vR, vL, hs, hi, ha, hf, hS0, hS1, hI0, hI1, hA0, hA1, hX, hY] using this
  have CSr : Hid (∀ W, Calls Try.prog 7 #[.agg #[.bool s0, .bool s1]] W fun e w' => e = .returned (.agg #[.int .i64 S0i, .int .i64 S1i]) ∧ Kept Nil W w') := Lib.hid fun W => by
    have := ref_any (s0, s1) W
    simpa only [vR, vL, hs, hi, ha, hf, hS0, hS1, hI0, hI1, hA0, hA1, hX, hY] using this
  have CSf : Hid (∀ W, Calls Try.prog 9 #[.int .i64 z2, .int .i64 z3] W fun e w' => e = .returned (.agg #[.int .i64 S0i, .int .i64 S1i]) ∧ Kept Nil W w') := Lib.hid fun W => by
    have := refStart_any z2 z3 W
    simpa only [vR, vL, hs, hi, ha, hf, hS0, hS1, hI0, hI1, hA0, hA1, hX, hY] using this
  have CI : Hid (∀ W, Calls Try.prog 10 #[.agg #[.bool x, .bool y], .int .i64 z0, .int .i64 z1, .int .i64 z3] W fun e w' => e = .returned (.agg #[.bool i0, .bool i1]) ∧ Kept Nil W w') := Lib.hid fun W => by
    have := items_any (x, y) z0 z1 z3 W
    simpa only [vR, vL, hs, hi, ha, hf, hS0, hS1, hI0, hI1, hA0, hA1, hX, hY] using this
  have CIr : Hid (∀ W, Calls Try.prog 7 #[.agg #[.bool i0, .bool i1]] W fun e w' => e = .returned (.agg #[.int .i64 I0, .int .i64 I1]) ∧ Kept Nil W w') := Lib.hid fun W => by
    have := ref_any (i0, i1) W
    simpa only [vR, vL, hs, hi, ha, hf, hS0, hS1, hI0, hI1, hA0, hA1, hX, hY] using this
  have CX : Hid (∀ W, Calls Try.prog 7 #[.agg #[.bool x, .bool y]] W fun e w' => e = .returned (.agg #[.int .i64 X, .int .i64 Y]) ∧ Kept Nil W w') := Lib.hid fun W => by
    have := ref_any (x, y) W
    simpa only [vR, vL, hs, hi, ha, hf, hS0, hS1, hI0, hI1, hA0, hA1, hX, hY] using this
  have CIf : Hid (∀ W, Calls Try.prog 11 #[.agg #[.int .i64 X, .int .i64 Y], .int .i64 z0, .int .i64 z1, .int .i64 z3] W fun e w' => e = .returned (.agg #[.int .i64 I0, .int .i64 I1]) ∧ Kept Nil W w') := Lib.hid fun W => by
    have := refItems_any (x, y) z0 z1 z3 W
    simpa only [vR, vL, hs, hi, ha, hf, hS0, hS1, hI0, hI1, hA0, hA1, hX, hY] using this
  have CA : Hid (∀ W, Calls Try.prog 12 #[.agg #[.bool x, .bool y], .int .i64 z0, .int .i64 z1, .int .i64 z2] W fun e w' => e = .returned (.agg #[.bool a0, .bool a1]) ∧ Kept Nil W w') := Lib.hid fun W => by
    have := above_any (x, y) z0 z1 z2 W
    simpa only [vR, vL, hs, hi, ha, hf, hS0, hS1, hI0, hI1, hA0, hA1, hX, hY] using this
  have CAr : Hid (∀ W, Calls Try.prog 7 #[.agg #[.bool a0, .bool a1]] W fun e w' => e = .returned (.agg #[.int .i64 A0, .int .i64 A1]) ∧ Kept Nil W w') := Lib.hid fun W => by
    have := ref_any (a0, a1) W
    simpa only [vR, vL, hs, hi, ha, hf, hS0, hS1, hI0, hI1, hA0, hA1, hX, hY] using this
  have CAf : Hid (∀ W, Calls Try.prog 13 #[.agg #[.int .i64 X, .int .i64 Y], .int .i64 z0, .int .i64 z1, .int .i64 z2] W fun e w' => e = .returned (.agg #[.int .i64 A0, .int .i64 A1]) ∧ Kept Nil W w') := Lib.hid fun W => by
    have := refAbove_any (x, y) z0 z1 z2 W
    simpa only [vR, vL, hs, hi, ha, hf, hS0, hS1, hI0, hI1, hA0, hA1, hX, hY] using this
  have CF : Hid (∀ W, Calls Try.prog 14 #[.agg #[.bool x, .bool y], .int .i64 z2, .int .i64 z3] W fun e w' => e = .returned (.bool ft) ∧ Kept Nil W w') := Lib.hid fun W => by
    have := fits_any (x, y) z2 z3 W
    simpa only [vR, vL, hs, hi, ha, hf, hS0, hS1, hI0, hI1, hA0, hA1, hX, hY] using this
  have CFf : Hid (∀ W, Calls Try.prog 15 #[.agg #[.int .i64 X, .int .i64 Y], .int .i64 z2, .int .i64 z3] W fun e w' => e = .returned (.bool ft) ∧ Kept Nil W w') := Lib.hid fun W => by
    have := refFits_any (x, y) z2 z3 W
    simpa only [vR, vL, hs, hi, ha, hf, hS0, hS1, hI0, hI1, hA0, hA1, hX, hY] using this
  have CW1 : Hid (∀ W, Calls Try.prog 16 #[] W fun e w' => e = .returned (.bool true) ∧ Kept Nil W w') := Lib.hid fun W => awake_any W
  have e1 : ∀ W, (Op.equalIn 10000 27 (.agg #[.int .i64 S0i, .int .i64 S1i]) (.agg #[.int .i64 S0i, .int .i64 S1i])).run Try.prog W = .ok true W := fun W => eqRef _ _ W
  have e2 : ∀ W, (Op.equalIn 10000 27 (.agg #[.int .i64 I0, .int .i64 I1]) (.agg #[.int .i64 I0, .int .i64 I1])).run Try.prog W = .ok true W := fun W => eqRef _ _ W
  have e3 : ∀ W, (Op.equalIn 10000 27 (.agg #[.int .i64 A0, .int .i64 A1]) (.agg #[.int .i64 A0, .int .i64 A1])).run Try.prog W = .ok true W := fun W => eqRef _ _ W
  have eb : (ft == ft) = true := by simp
  clear hs hi ha hf N hS0 hS1 hI0 hI1 hA0 hA1 hX hY
  have S0 := Lib.hid (HIn.start w #[.bool x, .bool y] #[.int .i64 z0, .int .i64 z1, .int .i64 z2, .int .i64 z3])
  have inst : Nonempty (CW (HIn w #[.bool x, .bool y] #[.int .i64 z0, .int .i64 z1, .int .i64 z2, .int .i64 z3])) := ⟨⟨_, S0.out⟩⟩
  have q0 : ∀ n : CW (HIn w #[.bool x, .bool y] #[.int .i64 z0, .int .i64 z1, .int .i64 z2, .int .i64 z3]), n.w.cell? ⟨w.heap.size, 0, none⟩ = some (.bool x) := fun n => n.of.b0.cell 0
  have q1 : ∀ n : CW (HIn w #[.bool x, .bool y] #[.int .i64 z0, .int .i64 z1, .int .i64 z2, .int .i64 z3]), n.w.cell? ⟨w.heap.size, 1, none⟩ = some (.bool y) := fun n => n.of.b0.cell 1
  have p0 : ∀ n : CW (HIn w #[.bool x, .bool y] #[.int .i64 z0, .int .i64 z1, .int .i64 z2, .int .i64 z3]), n.w.cell? ⟨w.heap.size + 1, 0, none⟩ = some (.int .i64 z0) := fun n => n.of.b1.cell 0
  have p1 : ∀ n : CW (HIn w #[.bool x, .bool y] #[.int .i64 z0, .int .i64 z1, .int .i64 z2, .int .i64 z3]), n.w.cell? ⟨w.heap.size + 1, 1, none⟩ = some (.int .i64 z1) := fun n => n.of.b1.cell 1
  have p2 : ∀ n : CW (HIn w #[.bool x, .bool y] #[.int .i64 z0, .int .i64 z1, .int .i64 z2, .int .i64 z3]), n.w.cell? ⟨w.heap.size + 1, 2, none⟩ = some (.int .i64 z2) := fun n => n.of.b1.cell 2
  have p3 : ∀ n : CW (HIn w #[.bool x, .bool y] #[.int .i64 z0, .int .i64 z1, .int .i64 z2, .int .i64 z3]), n.w.cell? ⟨w.heap.size + 1, 3, none⟩ = some (.int .i64 z3) := fun n => n.of.b1.cell 3
  go_enter Try.func3, Try.ntmps3
  go_wp2_with fail
  refine wp_region_in (HIn w #[.bool x, .bool y] #[.int .i64 z0, .int .i64 z1, .int .i64 z2, .int .i64 z3]) (by kernel_rfl) (by kernel_rfl) (HIn.step _ _ S0.out (Kept.refl _ _).drew) ?_
  repeat (go_big_quiet_step (first
    | (go_at_call 8; with_reducible exact call_in HIn.step (CS.out _))
    | (go_at_call 9; with_reducible exact call_in HIn.step (CSf.out _))
    | (go_at_call 7; with_reducible exact call_in HIn.step (CSr.out _))))
  refine wpQuiet_nil ?_
  rintro _ ⟨m1, rfl⟩
  go_wp2_with fail
  refine wp_region_in (HIn w #[.bool x, .bool y] #[.int .i64 z0, .int .i64 z1, .int .i64 z2, .int .i64 z3]) (by kernel_rfl) (by kernel_rfl) (HIn.step _ _ m1.of (Kept.refl _ _).drew) ?_
  repeat (go_big_quiet_step (first
    | (go_at_call 10; with_reducible exact call_in HIn.step (CI.out _))
    | (go_at_call 12; with_reducible exact call_in HIn.step (CA.out _))
    | (go_at_call 11; with_reducible exact call_in HIn.step (CIf.out _))
    | (go_at_call 13; with_reducible exact call_in HIn.step (CAf.out _))
    | (go_at_call 7; with_reducible exact call_in HIn.step (CIr.out _))
    | (go_at_call 7; with_reducible exact call_in HIn.step (CAr.out _))
    | (go_at_call 7; with_reducible exact call_in HIn.step (CX.out _))))
  refine wpQuiet_nil ?_
  rintro _ ⟨m2, rfl⟩
  go_wp2_with fail
  refine wp_region_in (HIn w #[.bool x, .bool y] #[.int .i64 z0, .int .i64 z1, .int .i64 z2, .int .i64 z3]) (by kernel_rfl) (by kernel_rfl) (HIn.step _ _ m2.of (Kept.refl _ _).drew) ?_
  repeat (go_big_quiet_step (first
    | (go_at_call 14; with_reducible exact call_in HIn.step (CF.out _))
    | (go_at_call 15; with_reducible exact call_in HIn.step (CFf.out _))
    | (go_at_call 7; with_reducible exact call_in HIn.step (CX.out _))
    | (go_at_call 16; with_reducible exact call_in HIn.step (CW1.out _))))
  refine wpQuiet_nil ?_
  rintro _ ⟨m3, rfl⟩
  go_wp2_with fail
  go_ret
  exact ⟨rfl, m3.of.kept⟩
end Go.Proofs.Ytljefbfjehblpaa
