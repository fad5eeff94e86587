/- Layer key: contracts of Right, of the program and of the two references; == of two keys. -/
import Derived.Test.YthiijlngoikhkaaKMath
import Derived.Test.YthiijlngoikhkaaThree
import Derived.ChangeKeysEq
import Derived.Laws.StructEq
namespace Go.Proofs.Ythiijlngoikhkaa
open Go.RowKit

/-- A triple, as a value. -/
def arr (t : T3) : Value := .agg #[.int .i64 t.1, .int .i64 t.2.1, .int .i64 t.2.2]

theorem rightIdx (x0 x1 x2 : Value) : (∀ w, (Instr.index 31 (.agg #[x0, x1, x2]) (.int .i64 0)).run Try.prog w = .ok x0 w) ∧ (∀ w, (Instr.index 31 (.agg #[x0, x1, x2]) (.int .i64 1)).run Try.prog w = .ok x1 w) ∧ (∀ w, (Instr.index 31 (.agg #[x0, x1, x2]) (.int .i64 2)).run Try.prog w = .ok x2 w) :=
  ⟨fun _ => by kernel_rfl, fun _ => by kernel_rfl, fun _ => by kernel_rfl⟩

set_option maxHeartbeats 1000000 in
theorem kRefRight_any (t : T3) (w : World) :
    Calls Try.prog 30 #[arr t] w fun e w' => e = .returned (.bool (okKT t)) ∧ Kept Nil w w' := by
  obtain ⟨a, b, c⟩ := t
  show Calls Try.prog 30 #[.agg #[.int .i64 a, .int .i64 b, .int .i64 c]] w _
  go_enter Try.func30, Try.ntmps30
  go_wp2
  go_loop [3] (fun i => i = .int .i64 0 ∨ (okK a = true ∧ i = .int .i64 1) ∨ (okK a = true ∧ okK b = true ∧ i = .int .i64 2) ∨ (okK a = true ∧ okK b = true ∧ okK c = true ∧ i = .int .i64 3)) (fun i => (3 - intOf i).toNat)
  case atStart => exact .inl rfl
  case round =>
    rcases hrel with rfl | ⟨h1, rfl⟩ | ⟨h1, h2, rfl⟩ | ⟨h1, h2, h3, rfl⟩
    · by_cases h : okK a = true
      · have hb := okK_iff.1 h
        have H := Lib.hid h
        clear h
        obtain ⟨l, u⟩ := hb
        go_wp2
        go_round
        case rel => exact .inr (.inl ⟨H.out, rfl⟩)
        case measure => decide
      · have hb := okK_no (by simpa using h)
        have H := Lib.hid (okKT_bad1 (t := (a, b, c)) (by simpa using h))
        clear h
        rcases hb with hb | hb
        all_goals go_wp2
        all_goals go_ret
        all_goals exact ⟨ret_bool H.out.symm, (Kept.refl _ _).alloc _⟩
    · have H1 := Lib.hid h1
      clear h1
      by_cases h : okK b = true
      · have hb := okK_iff.1 h
        have H := Lib.hid h
        clear h
        obtain ⟨l, u⟩ := hb
        go_wp2
        go_round
        case rel => exact .inr (.inr (.inl ⟨H1.out, H.out, rfl⟩))
        case measure => decide
      · have hb := okK_no (by simpa using h)
        have H := Lib.hid (okKT_bad2 (t := (a, b, c)) (by simpa using h))
        clear h
        rcases hb with hb | hb
        all_goals go_wp2
        all_goals go_ret
        all_goals exact ⟨ret_bool H.out.symm, (Kept.refl _ _).alloc _⟩
    · have H1 := Lib.hid h1
      have H2 := Lib.hid h2
      clear h1 h2
      by_cases h : okK c = true
      · have hb := okK_iff.1 h
        have H := Lib.hid h
        clear h
        obtain ⟨l, u⟩ := hb
        go_wp2
        go_round
        case rel => exact .inr (.inr (.inr ⟨H1.out, H2.out, H.out, rfl⟩))
        case measure => decide
      · have hb := okK_no (by simpa using h)
        have H := Lib.hid (okKT_bad3 (t := (a, b, c)) (by simpa using h))
        clear h
        rcases hb with hb | hb
        all_goals go_wp2
        all_goals go_ret
        all_goals exact ⟨ret_bool H.out.symm, (Kept.refl _ _).alloc _⟩
    · have H := Lib.hid (okKT_good (t := (a, b, c)) h1 h2 h3)
      clear h1 h2 h3
      go_wp2
      go_ret
      exact ⟨ret_bool H.out.symm, (Kept.refl _ _).alloc _⟩

set_option maxHeartbeats 1000000 in
theorem refRight_any (t : T3) (w : World) :
    Calls Try.prog 31 #[arr t] w fun e w' => e = .returned (.bool (okT t)) ∧ Kept Nil w w' := by
  obtain ⟨a, b, c⟩ := t
  show Calls Try.prog 31 #[.agg #[.int .i64 a, .int .i64 b, .int .i64 c]] w _
  go_enter Try.func31, Try.ntmps31
  go_wp2
  go_loop [3] (fun i => i = .int .i64 0 ∨ (okN a = true ∧ i = .int .i64 1) ∨ (okN a = true ∧ okN b = true ∧ i = .int .i64 2) ∨ (okN a = true ∧ okN b = true ∧ okN c = true ∧ i = .int .i64 3)) (fun i => (3 - intOf i).toNat)
  case atStart => exact .inl rfl
  case round =>
    rcases hrel with rfl | ⟨h1, rfl⟩ | ⟨h1, h2, rfl⟩ | ⟨h1, h2, h3, rfl⟩
    · by_cases h : okN a = true
      · have hb := okN_iff.1 h
        have H := Lib.hid h
        clear h
        obtain ⟨l, u⟩ := hb
        go_wp2
        go_round
        case rel => exact .inr (.inl ⟨H.out, rfl⟩)
        case measure => decide
      · have hb := okN_no (by simpa using h)
        have H := Lib.hid (okT_bad1 (t := (a, b, c)) (by simpa using h))
        clear h
        rcases hb with hb | hb
        all_goals go_wp2
        all_goals go_ret
        all_goals exact ⟨ret_bool H.out.symm, (Kept.refl _ _).alloc _⟩
    · have H1 := Lib.hid h1
      clear h1
      by_cases h : okN b = true
      · have hb := okN_iff.1 h
        have H := Lib.hid h
        clear h
        obtain ⟨l, u⟩ := hb
        go_wp2
        go_round
        case rel => exact .inr (.inr (.inl ⟨H1.out, H.out, rfl⟩))
        case measure => decide
      · have hb := okN_no (by simpa using h)
        have H := Lib.hid (okT_bad2 (t := (a, b, c)) (by simpa using h))
        clear h
        rcases hb with hb | hb
        all_goals go_wp2
        all_goals go_ret
        all_goals exact ⟨ret_bool H.out.symm, (Kept.refl _ _).alloc _⟩
    · have H1 := Lib.hid h1
      have H2 := Lib.hid h2
      clear h1 h2
      by_cases h : okN c = true
      · have hb := okN_iff.1 h
        have H := Lib.hid h
        clear h
        obtain ⟨l, u⟩ := hb
        go_wp2
        go_round
        case rel => exact .inr (.inr (.inr ⟨H1.out, H2.out, H.out, rfl⟩))
        case measure => decide
      · have hb := okN_no (by simpa using h)
        have H := Lib.hid (okT_bad3 (t := (a, b, c)) (by simpa using h))
        clear h
        rcases hb with hb | hb
        all_goals go_wp2
        all_goals go_ret
        all_goals exact ⟨ret_bool H.out.symm, (Kept.refl _ _).alloc _⟩
    · have H := Lib.hid (okT_good (t := (a, b, c)) h1 h2 h3)
      clear h1 h2 h3
      go_wp2
      go_ret
      exact ⟨ret_bool H.out.symm, (Kept.refl _ _).alloc _⟩

theorem infoInt : (Try.prog.info? 3).isSome = true := by kernel_rfl
theorem cellsInt : Try.prog.cellsOf 3 = 1 := by kernel_rfl
theorem partInt (xs : Array Value) (i : Nat) (v : Value) (h : xs[i]? = some v) (w : World) : (part 3 xs i).run Try.prog w = .ok v w := by
  simp [part, isAgg, run_underlying Try.underlying3, h]
theorem eqT (a1 a2 a3 b1 b2 b3 : Int) (w : World) :
    (Op.equalIn 10000 31 (.agg #[.int .i64 a1, .int .i64 a2, .int .i64 a3]) (.agg #[.int .i64 b1, .int .i64 b2, .int .i64 b3])).run Try.prog w = .ok (decide ((a1, a2, a3) = (b1, b2, b3))) w := by
  obtain ⟨i, hi⟩ := Option.isSome_iff_exists.1 infoInt
  have e : ∀ x y : Int, (Op.equalIn 9999 3 (.int .i64 x) (.int .i64 y)).run Try.prog w = .ok (x == y) w := fun x y => run_equalIn_int w 9998 3 .i64 .i64 x y Try.underlying3
  rw [run_equalIn_array w 9999 _ _ Try.underlying31 hi, cellsInt]
  show (Op.eqItems 9999 3 1 _ _ [0, 1, 2]).run Try.prog w = _
  have p0 : ∀ x y z : Value, (part 3 #[x, y, z] 0).run Try.prog w = .ok x w := fun x y z => partInt #[x, y, z] 0 x rfl w
  have p1 : ∀ x y z : Value, (part 3 #[x, y, z] 1).run Try.prog w = .ok y w := fun x y z => partInt #[x, y, z] 1 y rfl w
  have p2 : ∀ x y z : Value, (part 3 #[x, y, z] 2).run Try.prog w = .ok z w := fun x y z => partInt #[x, y, z] 2 z rfl w
  by_cases h1 : a1 = b1
  · by_cases h2 : a2 = b2
    · by_cases h3 : a3 = b3
      · simp [Op.eqItems, p0, p1, p2, e, h1, h2, h3]
      · simp [Op.eqItems, p0, p1, p2, e, h1, h2, h3]
    · simp [Op.eqItems, p0, p1, e, h1, h2]
  · simp [Op.eqItems, p0, e, h1]
end Go.Proofs.Ythiijlngoikhkaa
