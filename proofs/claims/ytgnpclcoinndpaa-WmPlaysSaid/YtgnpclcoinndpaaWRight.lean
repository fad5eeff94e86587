/- Contracts of Right, of the program and of the reference. -/
import Derived.Test.YtgnpclcoinndpaaWMath
import Derived.WalkSpells
import Derived.WalkLawsBesides
import Derived.ProofKit
import Derived.Outline
import Derived.Deep.QuietTactic
namespace Go.Proofs.Ytgnpclcoinndpaa
open Go.RowKit

theorem okT_bad1 {t : T3} (h : okN t.1 = false) : okT t = false := by unfold okT; rw [h]; rfl
theorem okT_bad2 {t : T3} (h : okN t.2.1 = false) : okT t = false := by unfold okT; rw [h]; simp
theorem okT_bad3 {t : T3} (h : okN t.2.2 = false) : okT t = false := by unfold okT; rw [h]; simp
theorem okT_good {t : T3} (h1 : okN t.1 = true) (h2 : okN t.2.1 = true) (h3 : okN t.2.2 = true) : okT t = true := by unfold okT; rw [h1, h2, h3]; rfl
theorem okN_no {n : Int} (h : okN n = false) : n < 1 ∨ 4096 < n := by unfold okN at h; have := of_decide_eq_false h; omega

theorem rightIdx (x0 x1 x2 : Value) : (∀ w, (Instr.index 33 (.agg #[x0, x1, x2]) (.int .i64 0)).run Try.prog w = .ok x0 w) ∧ (∀ w, (Instr.index 33 (.agg #[x0, x1, x2]) (.int .i64 1)).run Try.prog w = .ok x1 w) ∧ (∀ w, (Instr.index 33 (.agg #[x0, x1, x2]) (.int .i64 2)).run Try.prog w = .ok x2 w) :=
  ⟨fun _ => by kernel_rfl, fun _ => by kernel_rfl, fun _ => by kernel_rfl⟩

set_option maxHeartbeats 1000000 in
theorem right_any (t : T3) (w : World) :
    Calls Try.prog 20 #[arr t] w fun e w' => e = .returned (.bool (okT t)) ∧ Kept Nil w w' := by
  obtain ⟨a, b, c⟩ := t
  show Calls Try.prog 20 #[.agg #[.int .i64 a, .int .i64 b, .int .i64 c]] w _
  obtain ⟨i0, i1, i2⟩ := rightIdx (.int .i64 a) (.int .i64 b) (.int .i64 c)
  go_enter Try.func20, Try.ntmps20
  go_wp2
  go_loop [6] (fun i => i = .int .i64 0 ∨ (okN a = true ∧ i = .int .i64 1) ∨ (okN a = true ∧ okN b = true ∧ i = .int .i64 2) ∨ (okN a = true ∧ okN b = true ∧ okN c = true ∧ i = .int .i64 3)) (fun i => (3 - intOf i).toNat)
  case atStart => exact .inl rfl
  case round =>
    rcases hrel with rfl | ⟨h1, rfl⟩ | ⟨h1, h2, rfl⟩ | ⟨h1, h2, h3, rfl⟩
    · by_cases h : okN a = true
      · have hb := okN_iff.1 h
        have H := Lib.hid h
        clear h
        obtain ⟨l, u⟩ := hb
        go_wp2
        go_round
        case rel => exact .inr (.inl ⟨H.out, rfl⟩)
        case measure => decide
      · have hb := okN_no (by simpa using h)
        have H := Lib.hid (okT_bad1 (t := (a, b, c)) (by simpa using h))
        clear h
        rcases hb with hb | hb
        all_goals go_wp2
        all_goals go_ret
        all_goals exact ⟨ret_bool H.out.symm, (Kept.refl _ _).alloc _⟩
    · have H1 := Lib.hid h1
      clear h1
      by_cases h : okN b = true
      · have hb := okN_iff.1 h
        have H := Lib.hid h
        clear h
        obtain ⟨l, u⟩ := hb
        go_wp2
        go_round
        case rel => exact .inr (.inr (.inl ⟨H1.out, H.out, rfl⟩))
        case measure => decide
      · have hb := okN_no (by simpa using h)
        have H := Lib.hid (okT_bad2 (t := (a, b, c)) (by simpa using h))
        clear h
        rcases hb with hb | hb
        all_goals go_wp2
        all_goals go_ret
        all_goals exact ⟨ret_bool H.out.symm, (Kept.refl _ _).alloc _⟩
    · have H1 := Lib.hid h1
      have H2 := Lib.hid h2
      clear h1 h2
      by_cases h : okN c = true
      · have hb := okN_iff.1 h
        have H := Lib.hid h
        clear h
        obtain ⟨l, u⟩ := hb
        go_wp2
        go_round
        case rel => exact .inr (.inr (.inr ⟨H1.out, H2.out, H.out, rfl⟩))
        case measure => decide
      · have hb := okN_no (by simpa using h)
        have H := Lib.hid (okT_bad3 (t := (a, b, c)) (by simpa using h))
        clear h
        rcases hb with hb | hb
        all_goals go_wp2
        all_goals go_ret
        all_goals exact ⟨ret_bool H.out.symm, (Kept.refl _ _).alloc _⟩
    · have H := Lib.hid (okT_good (t := (a, b, c)) h1 h2 h3)
      clear h1 h2 h3
      go_wp2
      go_ret
      exact ⟨ret_bool H.out.symm, (Kept.refl _ _).alloc _⟩
set_option maxHeartbeats 1000000 in
theorem refRight_any (t : T3) (w : World) :
    Calls Try.prog 19 #[arr t] w fun e w' => e = .returned (.bool (okT t)) ∧ Kept Nil w w' := by
  obtain ⟨a, b, c⟩ := t
  show Calls Try.prog 19 #[.agg #[.int .i64 a, .int .i64 b, .int .i64 c]] w _
  go_enter Try.func19, Try.ntmps19
  go_wp2
  go_loop [3] (fun i => i = .int .i64 0 ∨ (okN a = true ∧ i = .int .i64 1) ∨ (okN a = true ∧ okN b = true ∧ i = .int .i64 2) ∨ (okN a = true ∧ okN b = true ∧ okN c = true ∧ i = .int .i64 3)) (fun i => (3 - intOf i).toNat)
  case atStart => exact .inl rfl
  case round =>
    rcases hrel with rfl | ⟨h1, rfl⟩ | ⟨h1, h2, rfl⟩ | ⟨h1, h2, h3, rfl⟩
    · by_cases h : okN a = true
      · have hb := okN_iff.1 h
        have H := Lib.hid h
        clear h
        obtain ⟨l, u⟩ := hb
        go_wp2
        go_round
        case rel => exact .inr (.inl ⟨H.out, rfl⟩)
        case measure => decide
      · have hb := okN_no (by simpa using h)
        have H := Lib.hid (okT_bad1 (t := (a, b, c)) (by simpa using h))
        clear h
        rcases hb with hb | hb
        all_goals go_wp2
        all_goals go_ret
        all_goals exact ⟨ret_bool H.out.symm, (Kept.refl _ _).alloc _⟩
    · have H1 := Lib.hid h1
      clear h1
      by_cases h : okN b = true
      · have hb := okN_iff.1 h
        have H := Lib.hid h
        clear h
        obtain ⟨l, u⟩ := hb
        go_wp2
        go_round
        case rel => exact .inr (.inr (.inl ⟨H1.out, H.out, rfl⟩))
        case measure => decide
      · have hb := okN_no (by simpa using h)
        have H := Lib.hid (okT_bad2 (t := (a, b, c)) (by simpa using h))
        clear h
        rcases hb with hb | hb
        all_goals go_wp2
        all_goals go_ret
        all_goals exact ⟨ret_bool H.out.symm, (Kept.refl _ _).alloc _⟩
    · have H1 := Lib.hid h1
      have H2 := Lib.hid h2
      clear h1 h2
      by_cases h : okN c = true
      · have hb := okN_iff.1 h
        have H := Lib.hid h
        clear h
        obtain ⟨l, u⟩ := hb
        go_wp2
        go_round
        case rel => exact .inr (.inr (.inr ⟨H1.out, H2.out, H.out, rfl⟩))
        case measure => decide
      · have hb := okN_no (by simpa using h)
        have H := Lib.hid (okT_bad3 (t := (a, b, c)) (by simpa using h))
        clear h
        rcases hb with hb | hb
        all_goals go_wp2
        all_goals go_ret
        all_goals exact ⟨ret_bool H.out.symm, (Kept.refl _ _).alloc _⟩
    · have H := Lib.hid (okT_good (t := (a, b, c)) h1 h2 h3)
      clear h1 h2 h3
      go_wp2
      go_ret
      exact ⟨ret_bool H.out.symm, (Kept.refl _ _).alloc _⟩

end Go.Proofs.Ytgnpclcoinndpaa
