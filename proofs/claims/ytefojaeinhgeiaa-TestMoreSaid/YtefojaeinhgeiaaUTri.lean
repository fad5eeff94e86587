/- Layer term: the contract of the reference's Right of layer triple. -/
import Derived.Test.YtefojaeinhgeiaaURight
namespace Go.Proofs.Ytefojaeinhgeiaa
open Go.RowKit

abbrev T3 := Int × Int × Int
/-- A symbol's number. -/
def okSy (n : Int) : Bool := decide (1 ≤ n ∧ n ≤ 4096)
def okT (t : T3) : Bool := okSy t.1 && (okSy t.2.1 && okSy t.2.2)
theorem okSy_iff {n : Int} : okSy n = true ↔ 1 ≤ n ∧ n ≤ 4096 := by unfold okSy; exact decide_eq_true_iff
theorem okT_iff {t : T3} : okT t = true ↔ (1 ≤ t.1 ∧ t.1 ≤ 4096) ∧ (1 ≤ t.2.1 ∧ t.2.1 ≤ 4096) ∧ (1 ≤ t.2.2 ∧ t.2.2 ≤ 4096) := by
  unfold okT; simp [okSy_iff]
/-- A triple, as a value. -/
def arrT (t : T3) : Value := .agg #[.int .i64 t.1, .int .i64 t.2.1, .int .i64 t.2.2]
theorem okT_bad1 {t : T3} (h : okSy t.1 = false) : okT t = false := by unfold okT; rw [h]; rfl
theorem okT_bad2 {t : T3} (h : okSy t.2.1 = false) : okT t = false := by unfold okT; rw [h]; simp
theorem okT_bad3 {t : T3} (h : okSy t.2.2 = false) : okT t = false := by unfold okT; rw [h]; simp
theorem okT_good {t : T3} (h1 : okSy t.1 = true) (h2 : okSy t.2.1 = true) (h3 : okSy t.2.2 = true) : okT t = true := by unfold okT; rw [h1, h2, h3]; rfl
theorem okSy_no {n : Int} (h : okSy n = false) : n < 1 ∨ 4096 < n := by unfold okSy at h; have := of_decide_eq_false h; omega

set_option maxHeartbeats 1000000 in
theorem refTri_any (t : T3) (w : World) :
    Calls Try.prog 15 #[arrT t] w fun e w' => e = .returned (.bool (okT t)) ∧ Kept Nil w w' := by
  obtain ⟨a, b, c⟩ := t
  show Calls Try.prog 15 #[.agg #[.int .i64 a, .int .i64 b, .int .i64 c]] w _
  go_enter Try.func15, Try.ntmps15
  go_wp2
  go_loop [3] (fun i => i = .int .i64 0 ∨ (okSy a = true ∧ i = .int .i64 1) ∨ (okSy a = true ∧ okSy b = true ∧ i = .int .i64 2) ∨ (okSy a = true ∧ okSy b = true ∧ okSy c = true ∧ i = .int .i64 3)) (fun i => (3 - intOf i).toNat)
  case atStart => exact .inl rfl
  case round =>
    rcases hrel with rfl | ⟨h1, rfl⟩ | ⟨h1, h2, rfl⟩ | ⟨h1, h2, h3, rfl⟩
    · by_cases h : okSy a = true
      · have hb := okSy_iff.1 h
        have H := Lib.hid h
        clear h
        obtain ⟨l, u⟩ := hb
        go_wp2
        go_round
        case rel => exact .inr (.inl ⟨H.out, rfl⟩)
        case measure => decide
      · have hb := okSy_no (by simpa using h)
        have H := Lib.hid (okT_bad1 (t := (a, b, c)) (by simpa using h))
        clear h
        rcases hb with hb | hb
        all_goals go_wp2
        all_goals go_ret
        all_goals exact ⟨ret_bool H.out.symm, (Kept.refl _ _).alloc _⟩
    · have H1 := Lib.hid h1
      clear h1
      by_cases h : okSy b = true
      · have hb := okSy_iff.1 h
        have H := Lib.hid h
        clear h
        obtain ⟨l, u⟩ := hb
        go_wp2
        go_round
        case rel => exact .inr (.inr (.inl ⟨H1.out, H.out, rfl⟩))
        case measure => decide
      · have hb := okSy_no (by simpa using h)
        have H := Lib.hid (okT_bad2 (t := (a, b, c)) (by simpa using h))
        clear h
        rcases hb with hb | hb
        all_goals go_wp2
        all_goals go_ret
        all_goals exact ⟨ret_bool H.out.symm, (Kept.refl _ _).alloc _⟩
    · have H1 := Lib.hid h1
      have H2 := Lib.hid h2
      clear h1 h2
      by_cases h : okSy c = true
      · have hb := okSy_iff.1 h
        have H := Lib.hid h
        clear h
        obtain ⟨l, u⟩ := hb
        go_wp2
        go_round
        case rel => exact .inr (.inr (.inr ⟨H1.out, H2.out, H.out, rfl⟩))
        case measure => decide
      · have hb := okSy_no (by simpa using h)
        have H := Lib.hid (okT_bad3 (t := (a, b, c)) (by simpa using h))
        clear h
        rcases hb with hb | hb
        all_goals go_wp2
        all_goals go_ret
        all_goals exact ⟨ret_bool H.out.symm, (Kept.refl _ _).alloc _⟩
    · have H := Lib.hid (okT_good (t := (a, b, c)) h1 h2 h3)
      clear h1 h2 h3
      go_wp2
      go_ret
      exact ⟨ret_bool H.out.symm, (Kept.refl _ _).alloc _⟩

end Go.Proofs.Ytefojaeinhgeiaa
