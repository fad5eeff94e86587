/- Layer triple: contracts of Right, of the program and of the reference, of Less, isField. -/
import Derived.Test.YtdkjjkplmlmbeaaDoorFrame
import Derived.Test.YtdkjjkplmlmbeaaDoorTMath
import Derived.WalkSpells
import Derived.WalkLawsBesides
import Derived.ProofKit
import Derived.Outline
import Derived.Deep.QuietTactic
namespace Go.Proofs.YtdkjjkplmlmbeaaDoor
open Go.RowKit

/-- A triple, as a value. -/
def arr (t : T3) : Value := .agg #[.int .i64 t.1, .int .i64 t.2.1, .int .i64 t.2.2]

theorem okT_bad1 {t : T3} (h : okN t.1 = false) : okT t = false := by unfold okT; rw [h]; rfl
theorem okT_bad2 {t : T3} (h : okN t.2.1 = false) : okT t = false := by unfold okT; rw [h]; simp
theorem okT_bad3 {t : T3} (h : okN t.2.2 = false) : okT t = false := by unfold okT; rw [h]; simp
theorem okT_good {t : T3} (h1 : okN t.1 = true) (h2 : okN t.2.1 = true) (h3 : okN t.2.2 = true) : okT t = true := by unfold okT; rw [h1, h2, h3]; rfl
theorem okN_no {n : Int} (h : okN n = false) : n < 1 ∨ 4096 < n := by unfold okN at h; have := of_decide_eq_false h; omega

theorem rightIdx (x0 x1 x2 : Value) : (∀ w, (Instr.index 23 (.agg #[x0, x1, x2]) (.int .i64 0)).run Tryd.prog w = .ok x0 w) ∧ (∀ w, (Instr.index 23 (.agg #[x0, x1, x2]) (.int .i64 1)).run Tryd.prog w = .ok x1 w) ∧ (∀ w, (Instr.index 23 (.agg #[x0, x1, x2]) (.int .i64 2)).run Tryd.prog w = .ok x2 w) :=
  ⟨fun _ => by kernel_rfl, fun _ => by kernel_rfl, fun _ => by kernel_rfl⟩

set_option maxHeartbeats 1000000 in
theorem right_any (t : T3) (w : World) :
    Calls Tryd.prog 10 #[arr t] w fun e w' => e = .returned (.bool (okT t)) ∧ Kept Nil w w' := by
  obtain ⟨a, b, c⟩ := t
  show Calls Tryd.prog 10 #[.agg #[.int .i64 a, .int .i64 b, .int .i64 c]] w _
  obtain ⟨i0, i1, i2⟩ := rightIdx (.int .i64 a) (.int .i64 b) (.int .i64 c)
  go_enter Tryd.func10, Tryd.ntmps10
  go_wp2
  go_loop [6] (fun i => i = .int .i64 0 ∨ (okN a = true ∧ i = .int .i64 1) ∨ (okN a = true ∧ okN b = true ∧ i = .int .i64 2) ∨ (okN a = true ∧ okN b = true ∧ okN c = true ∧ i = .int .i64 3)) (fun i => (3 - intOf i).toNat)
  case atStart => exact .inl rfl
  case round =>
    rcases hrel with rfl | ⟨h1, rfl⟩ | ⟨h1, h2, rfl⟩ | ⟨h1, h2, h3, rfl⟩
    · by_cases h : okN a = true
      · have hb := okN_iff.1 h
        have H := Lib.hid h
        clear h
        obtain ⟨l, u⟩ := hb
        go_wp2
        go_round
        case rel => exact .inr (.inl ⟨H.out, rfl⟩)
        case measure => decide
      · have hb := okN_no (by simpa using h)
        have H := Lib.hid (okT_bad1 (t := (a, b, c)) (by simpa using h))
        clear h
        rcases hb with hb | hb
        all_goals go_wp2
        all_goals go_ret
        all_goals exact ⟨ret_bool H.out.symm, (Kept.refl _ _).alloc _⟩
    · have H1 := Lib.hid h1
      clear h1
      by_cases h : okN b = true
      · have hb := okN_iff.1 h
        have H := Lib.hid h
        clear h
        obtain ⟨l, u⟩ := hb
        go_wp2
        go_round
        case rel => exact .inr (.inr (.inl ⟨H1.out, H.out, rfl⟩))
        case measure => decide
      · have hb := okN_no (by simpa using h)
        have H := Lib.hid (okT_bad2 (t := (a, b, c)) (by simpa using h))
        clear h
        rcases hb with hb | hb
        all_goals go_wp2
        all_goals go_ret
        all_goals exact ⟨ret_bool H.out.symm, (Kept.refl _ _).alloc _⟩
    · have H1 := Lib.hid h1
      have H2 := Lib.hid h2
      clear h1 h2
      by_cases h : okN c = true
      · have hb := okN_iff.1 h
        have H := Lib.hid h
        clear h
        obtain ⟨l, u⟩ := hb
        go_wp2
        go_round
        case rel => exact .inr (.inr (.inr ⟨H1.out, H2.out, H.out, rfl⟩))
        case measure => decide
      · have hb := okN_no (by simpa using h)
        have H := Lib.hid (okT_bad3 (t := (a, b, c)) (by simpa using h))
        clear h
        rcases hb with hb | hb
        all_goals go_wp2
        all_goals go_ret
        all_goals exact ⟨ret_bool H.out.symm, (Kept.refl _ _).alloc _⟩
    · have H := Lib.hid (okT_good (t := (a, b, c)) h1 h2 h3)
      clear h1 h2 h3
      go_wp2
      go_ret
      exact ⟨ret_bool H.out.symm, (Kept.refl _ _).alloc _⟩
set_option maxHeartbeats 1000000 in
theorem refRight_any (t : T3) (w : World) :
    Calls Tryd.prog 9 #[arr t] w fun e w' => e = .returned (.bool (okT t)) ∧ Kept Nil w w' := by
  obtain ⟨a, b, c⟩ := t
  show Calls Tryd.prog 9 #[.agg #[.int .i64 a, .int .i64 b, .int .i64 c]] w _
  go_enter Tryd.func9, Tryd.ntmps9
  go_wp2
  go_loop [3] (fun i => i = .int .i64 0 ∨ (okN a = true ∧ i = .int .i64 1) ∨ (okN a = true ∧ okN b = true ∧ i = .int .i64 2) ∨ (okN a = true ∧ okN b = true ∧ okN c = true ∧ i = .int .i64 3)) (fun i => (3 - intOf i).toNat)
  case atStart => exact .inl rfl
  case round =>
    rcases hrel with rfl | ⟨h1, rfl⟩ | ⟨h1, h2, rfl⟩ | ⟨h1, h2, h3, rfl⟩
    · by_cases h : okN a = true
      · have hb := okN_iff.1 h
        have H := Lib.hid h
        clear h
        obtain ⟨l, u⟩ := hb
        go_wp2
        go_round
        case rel => exact .inr (.inl ⟨H.out, rfl⟩)
        case measure => decide
      · have hb := okN_no (by simpa using h)
        have H := Lib.hid (okT_bad1 (t := (a, b, c)) (by simpa using h))
        clear h
        rcases hb with hb | hb
        all_goals go_wp2
        all_goals go_ret
        all_goals exact ⟨ret_bool H.out.symm, (Kept.refl _ _).alloc _⟩
    · have H1 := Lib.hid h1
      clear h1
      by_cases h : okN b = true
      · have hb := okN_iff.1 h
        have H := Lib.hid h
        clear h
        obtain ⟨l, u⟩ := hb
        go_wp2
        go_round
        case rel => exact .inr (.inr (.inl ⟨H1.out, H.out, rfl⟩))
        case measure => decide
      · have hb := okN_no (by simpa using h)
        have H := Lib.hid (okT_bad2 (t := (a, b, c)) (by simpa using h))
        clear h
        rcases hb with hb | hb
        all_goals go_wp2
        all_goals go_ret
        all_goals exact ⟨ret_bool H.out.symm, (Kept.refl _ _).alloc _⟩
    · have H1 := Lib.hid h1
      have H2 := Lib.hid h2
      clear h1 h2
      by_cases h : okN c = true
      · have hb := okN_iff.1 h
        have H := Lib.hid h
        clear h
        obtain ⟨l, u⟩ := hb
        go_wp2
        go_round
        case rel => exact .inr (.inr (.inr ⟨H1.out, H2.out, H.out, rfl⟩))
        case measure => decide
      · have hb := okN_no (by simpa using h)
        have H := Lib.hid (okT_bad3 (t := (a, b, c)) (by simpa using h))
        clear h
        rcases hb with hb | hb
        all_goals go_wp2
        all_goals go_ret
        all_goals exact ⟨ret_bool H.out.symm, (Kept.refl _ _).alloc _⟩
    · have H := Lib.hid (okT_good (t := (a, b, c)) h1 h2 h3)
      clear h1 h2 h3
      go_wp2
      go_ret
      exact ⟨ret_bool H.out.symm, (Kept.refl _ _).alloc _⟩

set_option maxHeartbeats 1000000 in
theorem less_any (a b : T3) (w : World) :
    Calls Tryd.prog 15 #[arr a, arr b] w fun e w' => e = .returned (.bool (lessT a b)) ∧ Kept Nil w w' := by
  obtain ⟨a1, a2, a3⟩ := a
  obtain ⟨b1, b2, b3⟩ := b
  show Calls Tryd.prog 15 #[.agg #[.int .i64 a1, .int .i64 a2, .int .i64 a3], .agg #[.int .i64 b1, .int .i64 b2, .int .i64 b3]] w _
  have tr : ∀ {p : Bool}, ((a1 < b1 ∨ (a1 = b1 ∧ (a2 < b2 ∨ (a2 = b2 ∧ a3 < b3)))) ↔ p = true) → lessT (a1, a2, a3) (b1, b2, b3) = p := fun {p} h => by
    rw [Bool.eq_iff_iff, lessT_iff]; exact h
  by_cases h1 : a1 = b1
  · by_cases h2 : a2 = b2
    · have H := Lib.hid (tr (p := decide (a3 < b3)) (by rw [decide_eq_true_iff]; omega))
      clear tr
      subst h1 h2
      go_enter Tryd.func15, Tryd.ntmps15
      go_wp2
      go_ret
      exact ⟨ret_bool H.out.symm, ((Kept.refl _ _).alloc _).alloc _⟩
    · have H := Lib.hid (tr (p := decide (a2 < b2)) (by rw [decide_eq_true_iff]; omega))
      have n2 : (a2 != b2) = true := bne_iff_ne.2 h2
      clear tr h2
      subst h1
      go_enter Tryd.func15, Tryd.ntmps15
      go_wp2
      go_ret
      exact ⟨ret_bool H.out.symm, ((Kept.refl _ _).alloc _).alloc _⟩
  · have H := Lib.hid (tr (p := decide (a1 < b1)) (by rw [decide_eq_true_iff]; omega))
    have n1 : (a1 != b1) = true := bne_iff_ne.2 h1
    clear tr h1
    go_enter Tryd.func15, Tryd.ntmps15
    go_wp2
    go_ret
    exact ⟨ret_bool H.out.symm, ((Kept.refl _ _).alloc _).alloc _⟩

def isF (f : Int) : Bool := decide (0 ≤ f ∧ f < 3)
theorem isF_yes {f : Int} (h0 : 0 ≤ f) (h1 : f < 3) : isF f = true := by unfold isF; exact decide_eq_true ⟨h0, h1⟩
theorem isF_no {f : Int} (h : f < 0 ∨ 3 ≤ f) : isF f = false := by unfold isF; exact decide_eq_false (by omega)
theorem isField_any (t : T3) (f : Int) (w : World) :
    Calls Tryd.prog 25 #[arr t, .int .i64 f] w fun e w' => e = .returned (.bool (isF f)) ∧ Kept Nil w w' := by
  obtain ⟨a, b, c⟩ := t
  show Calls Tryd.prog 25 #[.agg #[.int .i64 a, .int .i64 b, .int .i64 c], .int .i64 f] w _
  rcases Int.lt_or_le f 0 with h | h
  · have H := Lib.hid (isF_no (.inl h))
    go_enter Tryd.func25, Tryd.ntmps25
    go_wp2
    go_ret
    exact ⟨ret_bool H.out.symm, (Kept.refl _ _).alloc _⟩
  rcases Int.lt_or_le f 3 with h3 | h3
  · have H := Lib.hid (isF_yes h h3)
    go_enter Tryd.func25, Tryd.ntmps25
    go_wp2
    go_ret
    exact ⟨ret_bool H.out.symm, (Kept.refl _ _).alloc _⟩
  · have H := Lib.hid (isF_no (.inr h3))
    go_enter Tryd.func25, Tryd.ntmps25
    go_wp2
    go_ret
    exact ⟨ret_bool (by rw [H.out]; exact decide_eq_false (by omega)), (Kept.refl _ _).alloc _⟩
end Go.Proofs.YtdkjjkplmlmbeaaDoor
