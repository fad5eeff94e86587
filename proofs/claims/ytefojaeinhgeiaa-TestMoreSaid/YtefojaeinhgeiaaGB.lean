/- Layer comp: the contracts of size, of the program and of the reference. – Layer comp: what it needs of keys: Right, of the program and of the reference; == of keys and of tests; Of. – Layer comp: the program's isField, rightTest, rightTests; slices.Equal of tests. – Layer comp: the program's rightAt, rightSubs, Right. -/
import Derived.Test.YtefojaeinhgeiaaGA
import Derived.Test.YtefojaeinhgeiaaCEq
import Derived.ChangeKeysEq
import Derived.Laws.StructEq
namespace Go.Proofs.Ytefojaeinhgeiaa
section
open Go.RowKit
set_option maxRecDepth 100000

end
section
open Go.RowKit
set_option maxRecDepth 100000

theorem okK_iff {n : Int} : okK n = true ↔ 0 ≤ n ∧ n ≤ 4096 := by unfold okK; exact decide_eq_true_iff
theorem okK_no {n : Int} (h : okK n = false) : n < 0 ∨ 4096 < n := by unfold okK at h; have := of_decide_eq_false h; omega
theorem okK3_bad1 {a b c : Int} (h : okK a = false) : okK3 a b c = false := by unfold okK3; rw [h]; rfl
theorem okK3_bad2 {a b c : Int} (h : okK b = false) : okK3 a b c = false := by unfold okK3; rw [h]; simp
theorem okK3_bad3 {a b c : Int} (h : okK c = false) : okK3 a b c = false := by unfold okK3; rw [h]; simp
theorem okK3_good {a b c : Int} (h1 : okK a = true) (h2 : okK b = true) (h3 : okK c = true) : okK3 a b c = true := by unfold okK3; rw [h1, h2, h3]; rfl
theorem rightIdx (x0 x1 x2 : Value) : (∀ w, (Instr.index 48 (.agg #[x0, x1, x2]) (.int .i64 0)).run Try.prog w = .ok x0 w) ∧ (∀ w, (Instr.index 48 (.agg #[x0, x1, x2]) (.int .i64 1)).run Try.prog w = .ok x1 w) ∧ (∀ w, (Instr.index 48 (.agg #[x0, x1, x2]) (.int .i64 2)).run Try.prog w = .ok x2 w) :=
  ⟨fun _ => by kernel_rfl, fun _ => by kernel_rfl, fun _ => by kernel_rfl⟩

/-! ### == of keys, of tests -/
theorem infoIntS : (Try.prog.info? 3).isSome = true := by kernel_rfl
theorem cellsIntS : Try.prog.cellsOf 3 = 1 := by kernel_rfl
theorem partInt (xs : Array Value) (i : Nat) (v : Value) (h : xs[i]? = some v) (w : World) : (part 3 xs i).run Try.prog w = .ok v w := by
  simp [part, isAgg, run_underlying Try.underlying3, h]
theorem eqKey (a1 a2 a3 b1 b2 b3 : Int) (w : World) :
    (Op.equalIn 10000 48 (.agg #[.int .i64 a1, .int .i64 a2, .int .i64 a3]) (.agg #[.int .i64 b1, .int .i64 b2, .int .i64 b3])).run Try.prog w = .ok (decide (a1 = b1 ∧ a2 = b2 ∧ a3 = b3)) w := by
  obtain ⟨i, hi⟩ := Option.isSome_iff_exists.1 infoIntS
  have e : ∀ x y : Int, (Op.equalIn 9999 3 (.int .i64 x) (.int .i64 y)).run Try.prog w = .ok (x == y) w := fun x y => run_equalIn_int w 9998 3 .i64 .i64 x y Try.underlying3
  rw [run_equalIn_array w 9999 _ _ Try.underlying48 hi, cellsIntS]
  show (Op.eqItems 9999 3 1 _ _ [0, 1, 2]).run Try.prog w = _
  have p0 : ∀ x y z : Value, (part 3 #[x, y, z] 0).run Try.prog w = .ok x w := fun x y z => partInt #[x, y, z] 0 x rfl w
  have p1 : ∀ x y z : Value, (part 3 #[x, y, z] 1).run Try.prog w = .ok y w := fun x y z => partInt #[x, y, z] 1 y rfl w
  have p2 : ∀ x y z : Value, (part 3 #[x, y, z] 2).run Try.prog w = .ok z w := fun x y z => partInt #[x, y, z] 2 z rfl w
  by_cases h1 : a1 = b1
  · by_cases h2 : a2 = b2
    · by_cases h3 : a3 = b3
      · simp [Op.eqItems, p0, p1, p2, e, h1, h2, h3]
      · simp [Op.eqItems, p0, p1, p2, e, h1, h2, h3]
    · simp [Op.eqItems, p0, p1, e, h1, h2]
  · simp [Op.eqItems, p0, e, h1]
theorem eqArr (a1 a2 a3 b1 b2 b3 : Int) (w : World) :
    (Op.equalIn 10000 47 (.agg #[.int .i64 a1, .int .i64 a2, .int .i64 a3]) (.agg #[.int .i64 b1, .int .i64 b2, .int .i64 b3])).run Try.prog w = .ok (decide (a1 = b1 ∧ a2 = b2 ∧ a3 = b3)) w := by
  obtain ⟨i, hi⟩ := Option.isSome_iff_exists.1 infoIntS
  have e : ∀ x y : Int, (Op.equalIn 9999 3 (.int .i64 x) (.int .i64 y)).run Try.prog w = .ok (x == y) w := fun x y => run_equalIn_int w 9998 3 .i64 .i64 x y Try.underlying3
  rw [run_equalIn_array w 9999 _ _ Try.underlying47 hi, cellsIntS]
  show (Op.eqItems 9999 3 1 _ _ [0, 1, 2]).run Try.prog w = _
  have p0 : ∀ x y z : Value, (part 3 #[x, y, z] 0).run Try.prog w = .ok x w := fun x y z => partInt #[x, y, z] 0 x rfl w
  have p1 : ∀ x y z : Value, (part 3 #[x, y, z] 1).run Try.prog w = .ok y w := fun x y z => partInt #[x, y, z] 1 y rfl w
  have p2 : ∀ x y z : Value, (part 3 #[x, y, z] 2).run Try.prog w = .ok z w := fun x y z => partInt #[x, y, z] 2 z rfl w
  by_cases h1 : a1 = b1
  · by_cases h2 : a2 = b2
    · by_cases h3 : a3 = b3
      · simp [Op.eqItems, p0, p1, p2, e, h1, h2, h3]
      · simp [Op.eqItems, p0, p1, p2, e, h1, h2, h3]
    · simp [Op.eqItems, p0, p1, e, h1, h2]
  · simp [Op.eqItems, p0, e, h1]
theorem eqTest (a1 a2 a3 b1 b2 b3 : Int) (w : World) :
    (Op.equalIn 10000 66 (.agg #[.int .i64 a1, .int .i64 a2, .int .i64 a3]) (.agg #[.int .i64 b1, .int .i64 b2, .int .i64 b3])).run Try.prog w = .ok (decide (a1 = b1 ∧ a2 = b2 ∧ a3 = b3)) w := by
  have e : ∀ x y : Int, (Op.equalIn 9999 3 (.int .i64 x) (.int .i64 y)).run Try.prog w = .ok (x == y) w := fun x y => run_equalIn_int w 9998 3 .i64 .i64 x y Try.underlying3
  rw [run_equalIn_struct w 9999 _ _ _ (by kernel_rfl) (by kernel_rfl)]
  simp only [Program.fieldsOf, Try.underlying66]
  by_cases h1 : a1 = b1
  · by_cases h2 : a2 = b2
    · by_cases h3 : a3 = b3
      · simp [Op.eqFields, part, isAgg, run_underlying Try.underlying3, e, h1, h2, h3]
      · simp [Op.eqFields, part, isAgg, run_underlying Try.underlying3, e, h1, h2, h3]
    · simp [Op.eqFields, part, isAgg, run_underlying Try.underlying3, e, h1, h2]
  · simp [Op.eqFields, part, isAgg, run_underlying Try.underlying3, e, h1]
theorem eqTestR (a1 a2 a3 b1 b2 b3 : Int) (w : World) :
    (Op.equalIn 10000 71 (.agg #[.int .i64 a1, .int .i64 a2, .int .i64 a3]) (.agg #[.int .i64 b1, .int .i64 b2, .int .i64 b3])).run Try.prog w = .ok (decide (a1 = b1 ∧ a2 = b2 ∧ a3 = b3)) w := by
  have e : ∀ x y : Int, (Op.equalIn 9999 3 (.int .i64 x) (.int .i64 y)).run Try.prog w = .ok (x == y) w := fun x y => run_equalIn_int w 9998 3 .i64 .i64 x y Try.underlying3
  rw [run_equalIn_struct w 9999 _ _ _ (by kernel_rfl) (by kernel_rfl)]
  simp only [Program.fieldsOf, Try.underlying71]
  by_cases h1 : a1 = b1
  · by_cases h2 : a2 = b2
    · by_cases h3 : a3 = b3
      · simp [Op.eqFields, part, isAgg, run_underlying Try.underlying3, e, h1, h2, h3]
      · simp [Op.eqFields, part, isAgg, run_underlying Try.underlying3, e, h1, h2, h3]
    · simp [Op.eqFields, part, isAgg, run_underlying Try.underlying3, e, h1, h2]
  · simp [Op.eqFields, part, isAgg, run_underlying Try.underlying3, e, h1]
end
section
open Go.RowKit
set_option maxRecDepth 100000

theorem tOK_eq (t0 t1 t2 : Int) : tOK (t0, t1, t2) = (decide (0 ≤ t0 ∧ t0 ≤ 2) && (decide (0 ≤ t2 ∧ t2 ≤ 2) && (if t1 = -1 then decide (t2 < t0) else (decide (0 ≤ t1) && decide (t1 < 16))))) := by
  unfold tOK
  rw [Bool.eq_iff_iff]
  by_cases h : t1 = -1
  · rw [if_pos h]
    simp only [Bool.and_eq_true, decide_eq_true_iff]
    exact ⟨fun hh => ⟨hh.1, hh.2.2.1, hh.2.2.2 h⟩, fun hh => ⟨hh.1, by omega, hh.2.1, fun _ => hh.2.2⟩⟩
  · rw [if_neg h]
    simp only [Bool.and_eq_true, decide_eq_true_iff]
    exact ⟨fun hh => ⟨hh.1, hh.2.2.1, by omega, by omega⟩, fun hh => ⟨hh.1, by omega, hh.2.1, fun e => absurd e h⟩⟩
end
section
open Go.RowKit
set_option maxRecDepth 100000

/-- An index; whether there is one. -/
def IdxEnd (b : Bool) (w : World) (e : Ending) (w' : World) : Prop := ∃ r : Int, e = .returned (.int .i64 r) ∧ decide (0 ≤ r) = b ∧ Kept Nil w w'
end
end Go.Proofs.Ytefojaeinhgeiaa
