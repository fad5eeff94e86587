/- Any two triples are compared as the document says, and any two fields: TripleCompares returns true, and writes nothing that was there. No condition but Go's own variables. -/
import Derived.Test.YtdkjjkplmlmbeaaDoorTAwake
import Derived.Test.YtdkjjkplmlmbeaaDoorTSame
namespace Go.Proofs.YtdkjjkplmlmbeaaDoor
open Go.RowKit

theorem cmp_facts (a b : T3) : ∃ (x : Int) (p q : Bool), cmpT a b = x ∧ cmpT b a = -x ∧ lessT a b = p ∧ lessT b a = q ∧ ((x = -1 ∧ p = true ∧ q = false) ∨ (x = 0 ∧ p = false ∧ q = false) ∨ (x = 1 ∧ p = false ∧ q = true)) := by
  refine ⟨_, _, _, rfl, ?_, rfl, rfl, ?_⟩
  · rcases cmpT_cases a b with ⟨h1, l1⟩ | ⟨h1, rfl⟩ | ⟨h1, l1⟩
    · rcases cmpT_cases b a with ⟨_, l2⟩ | ⟨_, rfl⟩ | ⟨h2, _⟩
      · rw [less_asymm l1] at l2; cases l2
      · rw [less_irrefl] at l1; cases l1
      · rw [h1, h2]; rfl
    · rw [h1]; rfl
    · rcases cmpT_cases b a with ⟨h2, _⟩ | ⟨_, rfl⟩ | ⟨_, l2⟩
      · rw [h1, h2]
      · rw [less_irrefl] at l1; cases l1
      · rw [less_asymm l1] at l2; cases l2
  · rcases cmpT_cases a b with ⟨h1, l1⟩ | ⟨h1, rfl⟩ | ⟨h1, l1⟩
    · exact .inl ⟨h1, l1, less_asymm l1⟩
    · exact .inr (.inl ⟨h1, less_irrefl _, less_irrefl _⟩)
    · exact .inr (.inr ⟨h1, less_asymm l1, l1⟩)

/-- Two triples' blocks. -/
def C6 (w : World) (a b : T3) (W : World) : Prop :=
  C3 w w.heap.size (.int .i64 a.1) (.int .i64 a.2.1) (.int .i64 a.2.2) W ∧ C3 w (w.heap.size + 1) (.int .i64 b.1) (.int .i64 b.2.1) (.int .i64 b.2.2) W
theorem C6.step {w : World} {a b : T3} (W W' : World) (h : C6 w a b W) (k : Kept Nil W W') : C6 w a b W' := ⟨C3.step _ _ h.1 k, C3.step _ _ h.2 k⟩
theorem C6.start (w : World) (a1 a2 a3 b1 b2 b3 : Int) (t : TypeId) : C6 w (a1, a2, a3) (b1, b2, b3) ((w.alloc (.cells #[.int .i64 a1, .int .i64 a2, .int .i64 a3] t)).alloc (.cells #[.int .i64 b1, .int .i64 b2, .int .i64 b3] t)) := by
  have k : Kept Nil w ((w.alloc (.cells #[.int .i64 a1, .int .i64 a2, .int .i64 a3] t)).alloc (.cells #[.int .i64 b1, .int .i64 b2, .int .i64 b3] t)) := ((Kept.refl _ _).alloc _).alloc _
  exact ⟨⟨by go_simp, by go_simp, by go_simp, k⟩, ⟨by go_simp, by go_simp, by go_simp, k⟩⟩
theorem mm : min (max (0 : Int) 0) 2 = 0 ∧ min (0 : Int) 2 = 0 ∧ min (max (1 : Int) 0) 2 = 1 ∧ min (max (2 : Int) 0) 2 = 2 := by decide
theorem C6.cells {w : World} {a1 a2 a3 b1 b2 b3 : Int} {W : World} (h : C6 w (a1, a2, a3) (b1, b2, b3) W) :
    W.cell? ⟨w.heap.size, 0, none⟩ = some (.int .i64 a1) ∧ W.cell? ⟨w.heap.size, 1, none⟩ = some (.int .i64 a2) ∧ W.cell? ⟨w.heap.size, 2, none⟩ = some (.int .i64 a3) ∧
    W.cell? ⟨w.heap.size + 1, 0, none⟩ = some (.int .i64 b1) ∧ W.cell? ⟨w.heap.size + 1, 1, none⟩ = some (.int .i64 b2) ∧ W.cell? ⟨w.heap.size + 1, 2, none⟩ = some (.int .i64 b3) :=
  ⟨h.1.1, h.1.2.1, h.1.2.2.1, h.2.1, h.2.2.1, h.2.2.2.1⟩

set_option maxRecDepth 100000 in
set_option maxHeartbeats 4000000 in
theorem lawCmp_any (a b : T3) (f : Int) (w : World) (E : Env w) :
    Calls Tryd.prog 5 #[arr a, arr b, .int .i64 f] w fun e w' => e = .returned (.bool true) ∧ Kept Nil w w' := by
  obtain ⟨x, p, q, hx, hy, hl, hm, cx⟩ := cmp_facts a b
  have l1 : ∀ W : World, Calls Tryd.prog 15 #[arr a, arr b] W fun e w' => e = .returned (.bool p) ∧ Kept Nil W w' := fun W => by have := less_any a b W; rw [hl] at this; exact this
  have l2 : ∀ W : World, Calls Tryd.prog 15 #[arr b, arr a] W fun e w' => e = .returned (.bool q) ∧ Kept Nil W w' := fun W => by have := less_any b a W; rw [hm] at this; exact this
  have m1 : ∀ W : World, Calls Tryd.prog 16 #[arr a, arr b] W fun e w' => e = .returned (.int .i64 x) ∧ Kept Nil W w' := fun W => by have := compare_kept a b W; rw [hx] at this; exact this
  have m2 : ∀ W : World, Calls Tryd.prog 16 #[arr b, arr a] W fun e w' => e = .returned (.int .i64 (-x)) ∧ Kept Nil W w' := fun W => by have := compare_kept b a W; rw [hy] at this; exact this
  have s1 : ∀ (g : Int) (W : World), Calls Tryd.prog 17 #[arr a, .int .i64 f, .int .i64 g] W fun e w' => e = .returned (.bool (sameT a f g)) ∧ Kept Nil W w' := fun g W => same_any a f g W
  have CA : Hid (∀ W : World, Env W → Calls Tryd.prog 11 #[] W fun e w' => e = .returned (.bool true) ∧ Kept Nil W w') := Lib.hid fun W h => awake_any W h
  clear hx hy hl hm
  obtain ⟨a1, a2, a3⟩ := a
  obtain ⟨b1, b2, b3⟩ := b
  have L1 : Hid (∀ W : World, Calls Tryd.prog 15 #[.agg #[.int .i64 a1, .int .i64 a2, .int .i64 a3], .agg #[.int .i64 b1, .int .i64 b2, .int .i64 b3]] W fun e w' => e = .returned (.bool p) ∧ Kept Nil W w') := Lib.hid l1
  have L2 : Hid (∀ W : World, Calls Tryd.prog 15 #[.agg #[.int .i64 b1, .int .i64 b2, .int .i64 b3], .agg #[.int .i64 a1, .int .i64 a2, .int .i64 a3]] W fun e w' => e = .returned (.bool q) ∧ Kept Nil W w') := Lib.hid l2
  have M1 : Hid (∀ W : World, Calls Tryd.prog 16 #[.agg #[.int .i64 a1, .int .i64 a2, .int .i64 a3], .agg #[.int .i64 b1, .int .i64 b2, .int .i64 b3]] W fun e w' => e = .returned (.int .i64 x) ∧ Kept Nil W w') := Lib.hid m1
  have M2 : Hid (∀ W : World, Calls Tryd.prog 16 #[.agg #[.int .i64 b1, .int .i64 b2, .int .i64 b3], .agg #[.int .i64 a1, .int .i64 a2, .int .i64 a3]] W fun e w' => e = .returned (.int .i64 (-x)) ∧ Kept Nil W w') := Lib.hid m2
  have S1 : Hid (∀ (g : Int) (W : World), Calls Tryd.prog 17 #[.agg #[.int .i64 a1, .int .i64 a2, .int .i64 a3], .int .i64 f, .int .i64 g] W fun e w' => e = .returned (.bool (sameT (a1, a2, a3) f g)) ∧ Kept Nil W w') := Lib.hid s1
  have HE := Lib.hid E
  have O0 := Lib.hid (C6.start w a1 a2 a3 b1 b2 b3 23)
  clear l1 l2 m1 m2 s1 E
  show Calls Tryd.prog 5 #[.agg #[.int .i64 a1, .int .i64 a2, .int .i64 a3], .agg #[.int .i64 b1, .int .i64 b2, .int .i64 b3], .int .i64 f] w _
  rcases cx with ⟨rfl, rfl, rfl⟩ | ⟨rfl, rfl, rfl⟩ | ⟨rfl, rfl, rfl⟩
  all_goals
    go_enter Tryd.func5, Tryd.ntmps5
    go_wp2_with fail
    refine (L1.out _).mono ?_
    rintro e w1 ⟨rfl, k1⟩
    have O1 := Lib.hid (C6.step _ _ O0.out k1)
    obtain ⟨x0, x1, x2, y0, y1, y2⟩ := O1.out.cells
    go_wp2_with fail
    refine (L2.out _).mono ?_
    rintro e w2 ⟨rfl, k2⟩
    clear x0 x1 x2 y0 y1 y2
    have O2 := Lib.hid (C6.step _ _ O1.out k2)
    obtain ⟨x0, x1, x2, y0, y1, y2⟩ := O2.out.cells
    go_wp2_with fail
    refine (M1.out _).mono ?_
    rintro e w3 ⟨rfl, k3⟩
    clear x0 x1 x2 y0 y1 y2
    have O3 := Lib.hid (C6.step _ _ O2.out k3)
    obtain ⟨x0, x1, x2, y0, y1, y2⟩ := O3.out.cells
    go_wp2_with fail
    refine (M2.out _).mono ?_
    rintro e w4 ⟨rfl, k4⟩
    clear x0 x1 x2 y0 y1 y2
    have O4 := Lib.hid (C6.step _ _ O3.out k4)
    obtain ⟨x0, x1, x2, y0, y1, y2⟩ := O4.out.cells
    go_wp2_with fail
    clear x0 x1 x2 y0 y1 y2
    go_loopw [8] (fun i W => ∃ g : Int, -1 ≤ g ∧ g ≤ 4 ∧ i = .int .i64 g ∧ Hid (C6 w (a1, a2, a3) (b1, b2, b3) W)) (fun i _ => (4 - intOf i).toNat)
    case atStart => exact ⟨-1, by omega, by omega, rfl, O4⟩
    case round =>
      obtain ⟨g, g0, g1, rfl, O5⟩ := hrel
      by_cases hlt : g ≤ 3
      · obtain ⟨x0, x1, x2, y0, y1, y2⟩ := O5.out.cells
        have sg := S1.out g
        have fc : f < 0 ∨ 2 < f ∨ (0 ≤ f ∧ f ≤ 2) := by omega
        have gc : g = -1 ∨ g = 0 ∨ g = 1 ∨ g = 2 ∨ g = 3 := by omega
        rcases fc with f0 | f0 | ⟨f0, f1⟩
        · rw [sameT_no1 (isF_no (.inl f0))] at sg
          have SG := Lib.hid sg
          clear sg gc
          have d0 : decide ((0 : Int) ≤ f) = false := decide_eq_false (by omega)
          go_wp2_with fail
          go_quiet (fail)
          go_wp2_with fail
          refine (SG.out _).mono ?_
          rintro e W5 ⟨rfl, k5⟩
          have O6 := Lib.hid (C6.step _ _ (C6.step _ _ O5.out ((Kept.refl _ _).drewN nq)) k5)
          go_wp2_with fail
          go_roundw
          case rel => exact ⟨_, by omega, by omega, rfl, O6⟩
          case measure => simp [intOf]; try omega
        · rw [sameT_no1 (isF_no (.inr (by omega)))] at sg
          have SG := Lib.hid sg
          clear sg gc
          have d0 : decide (f ≤ (2 : Int)) = false := decide_eq_false (by omega)
          have d1 : (0 : Int) ≤ f := by omega
          go_wp2_with fail
          go_quiet (fail)
          go_wp2_with fail
          refine (SG.out _).mono ?_
          rintro e W5 ⟨rfl, k5⟩
          have O6 := Lib.hid (C6.step _ _ (C6.step _ _ O5.out ((Kept.refl _ _).drewN nq)) k5)
          go_wp2_with fail
          go_roundw
          case rel => exact ⟨_, by omega, by omega, rfl, O6⟩
          case measure => simp [intOf]; try omega
        · have f2 : f = 0 ∨ f = 1 ∨ f = 2 := by omega
          rcases gc with rfl | rfl | rfl | rfl | rfl
          · rw [sameT_no2 (isF_no (.inl (by omega)))] at sg
            have SG := Lib.hid sg
            clear sg f2
            go_wp2_with fail
            go_quiet (fail)
            go_wp2_with fail
            refine (SG.out _).mono ?_
            rintro e W5 ⟨rfl, k5⟩
            have O6 := Lib.hid (C6.step _ _ (C6.step _ _ O5.out ((Kept.refl _ _).drewN nq)) k5)
            go_wp2_with fail
            go_roundw
            case rel => exact ⟨_, by omega, by omega, rfl, O6⟩
            case measure => simp [intOf]; try omega
          · rcases f2 with rfl | rfl | rfl
            · rw [show sameT (a1, a2, a3) 0 0 = true by rw [sameT_yes rfl rfl]; exact beq_self_eq_true a1] at sg
              have SG := Lib.hid sg
              clear sg
              go_wp2_with fail
              obtain ⟨q0, q1, q2, q3⟩ := mm
              go_quiet (fail)
              clear q0 q1 q2 q3
              go_wp2_with fail
              refine (SG.out _).mono ?_
              rintro e W5 ⟨rfl, k5⟩
              have O6 := Lib.hid (C6.step _ _ (C6.step _ _ O5.out ((Kept.refl _ _).drewN nq)) k5)
              go_wp2_with fail
              go_roundw
              case rel => exact ⟨_, by omega, by omega, rfl, O6⟩
              case measure => simp [intOf]; try omega
            · rw [show sameT (a1, a2, a3) 1 0 = (a2 == a1) by rw [sameT_yes rfl rfl]; rfl] at sg
              have SG := Lib.hid sg
              clear sg
              go_wp2_with fail
              obtain ⟨q0, q1, q2, q3⟩ := mm
              go_quiet (fail)
              clear q0 q1 q2 q3
              go_wp2_with fail
              refine (SG.out _).mono ?_
              rintro e W5 ⟨rfl, k5⟩
              have O6 := Lib.hid (C6.step _ _ (C6.step _ _ O5.out ((Kept.refl _ _).drewN nq)) k5)
              go_wp2_with fail
              go_roundw
              case rel => exact ⟨_, by omega, by omega, rfl, O6⟩
              case measure => simp [intOf]; try omega
            · rw [show sameT (a1, a2, a3) 2 0 = (a3 == a1) by rw [sameT_yes rfl rfl]; rfl] at sg
              have SG := Lib.hid sg
              clear sg
              go_wp2_with fail
              obtain ⟨q0, q1, q2, q3⟩ := mm
              go_quiet (fail)
              clear q0 q1 q2 q3
              go_wp2_with fail
              refine (SG.out _).mono ?_
              rintro e W5 ⟨rfl, k5⟩
              have O6 := Lib.hid (C6.step _ _ (C6.step _ _ O5.out ((Kept.refl _ _).drewN nq)) k5)
              go_wp2_with fail
              go_roundw
              case rel => exact ⟨_, by omega, by omega, rfl, O6⟩
              case measure => simp [intOf]; try omega
          · rcases f2 with rfl | rfl | rfl
            · rw [show sameT (a1, a2, a3) 0 1 = (a1 == a2) by rw [sameT_yes rfl rfl]; rfl] at sg
              have SG := Lib.hid sg
              clear sg
              go_wp2_with fail
              obtain ⟨q0, q1, q2, q3⟩ := mm
              go_quiet (fail)
              clear q0 q1 q2 q3
              go_wp2_with fail
              refine (SG.out _).mono ?_
              rintro e W5 ⟨rfl, k5⟩
              have O6 := Lib.hid (C6.step _ _ (C6.step _ _ O5.out ((Kept.refl _ _).drewN nq)) k5)
              go_wp2_with fail
              go_roundw
              case rel => exact ⟨_, by omega, by omega, rfl, O6⟩
              case measure => simp [intOf]; try omega
            · rw [show sameT (a1, a2, a3) 1 1 = true by rw [sameT_yes rfl rfl]; exact beq_self_eq_true a2] at sg
              have SG := Lib.hid sg
              clear sg
              go_wp2_with fail
              obtain ⟨q0, q1, q2, q3⟩ := mm
              go_quiet (fail)
              clear q0 q1 q2 q3
              go_wp2_with fail
              refine (SG.out _).mono ?_
              rintro e W5 ⟨rfl, k5⟩
              have O6 := Lib.hid (C6.step _ _ (C6.step _ _ O5.out ((Kept.refl _ _).drewN nq)) k5)
              go_wp2_with fail
              go_roundw
              case rel => exact ⟨_, by omega, by omega, rfl, O6⟩
              case measure => simp [intOf]; try omega
            · rw [show sameT (a1, a2, a3) 2 1 = (a3 == a2) by rw [sameT_yes rfl rfl]; rfl] at sg
              have SG := Lib.hid sg
              clear sg
              go_wp2_with fail
              obtain ⟨q0, q1, q2, q3⟩ := mm
              go_quiet (fail)
              clear q0 q1 q2 q3
              go_wp2_with fail
              refine (SG.out _).mono ?_
              rintro e W5 ⟨rfl, k5⟩
              have O6 := Lib.hid (C6.step _ _ (C6.step _ _ O5.out ((Kept.refl _ _).drewN nq)) k5)
              go_wp2_with fail
              go_roundw
              case rel => exact ⟨_, by omega, by omega, rfl, O6⟩
              case measure => simp [intOf]; try omega
          · rcases f2 with rfl | rfl | rfl
            · rw [show sameT (a1, a2, a3) 0 2 = (a1 == a3) by rw [sameT_yes rfl rfl]; rfl] at sg
              have SG := Lib.hid sg
              clear sg
              go_wp2_with fail
              obtain ⟨q0, q1, q2, q3⟩ := mm
              go_quiet (fail)
              clear q0 q1 q2 q3
              go_wp2_with fail
              refine (SG.out _).mono ?_
              rintro e W5 ⟨rfl, k5⟩
              have O6 := Lib.hid (C6.step _ _ (C6.step _ _ O5.out ((Kept.refl _ _).drewN nq)) k5)
              go_wp2_with fail
              go_roundw
              case rel => exact ⟨_, by omega, by omega, rfl, O6⟩
              case measure => simp [intOf]; try omega
            · rw [show sameT (a1, a2, a3) 1 2 = (a2 == a3) by rw [sameT_yes rfl rfl]; rfl] at sg
              have SG := Lib.hid sg
              clear sg
              go_wp2_with fail
              obtain ⟨q0, q1, q2, q3⟩ := mm
              go_quiet (fail)
              clear q0 q1 q2 q3
              go_wp2_with fail
              refine (SG.out _).mono ?_
              rintro e W5 ⟨rfl, k5⟩
              have O6 := Lib.hid (C6.step _ _ (C6.step _ _ O5.out ((Kept.refl _ _).drewN nq)) k5)
              go_wp2_with fail
              go_roundw
              case rel => exact ⟨_, by omega, by omega, rfl, O6⟩
              case measure => simp [intOf]; try omega
            · rw [show sameT (a1, a2, a3) 2 2 = true by rw [sameT_yes rfl rfl]; exact beq_self_eq_true a3] at sg
              have SG := Lib.hid sg
              clear sg
              go_wp2_with fail
              obtain ⟨q0, q1, q2, q3⟩ := mm
              go_quiet (fail)
              clear q0 q1 q2 q3
              go_wp2_with fail
              refine (SG.out _).mono ?_
              rintro e W5 ⟨rfl, k5⟩
              have O6 := Lib.hid (C6.step _ _ (C6.step _ _ O5.out ((Kept.refl _ _).drewN nq)) k5)
              go_wp2_with fail
              go_roundw
              case rel => exact ⟨_, by omega, by omega, rfl, O6⟩
              case measure => simp [intOf]; try omega
          · rw [sameT_no2 (isF_no (.inr (by omega)))] at sg
            have SG := Lib.hid sg
            clear sg f2
            go_wp2_with fail
            go_quiet (fail)
            go_wp2_with fail
            refine (SG.out _).mono ?_
            rintro e W5 ⟨rfl, k5⟩
            have O6 := Lib.hid (C6.step _ _ (C6.step _ _ O5.out ((Kept.refl _ _).drewN nq)) k5)
            go_wp2_with fail
            go_roundw
            case rel => exact ⟨_, by omega, by omega, rfl, O6⟩
            case measure => simp [intOf]; try omega
      · have he : g = 4 := by omega
        subst he
        go_wp2_with fail
        refine (CA.out _ (HE.out.kept O5.out.1.2.2.2)).mono ?_
        rintro e W6 ⟨rfl, k6⟩
        go_wp2_with fail
        go_ret
        exact ⟨rfl, O5.out.1.2.2.2.trans k6 (fun _ _ g => g)⟩
end Go.Proofs.YtdkjjkplmlmbeaaDoor
