/- Two triples held against each other by ==. -/
import Derived.Test.YtdkjjkplmlmbeaaDoorTMath
import Derived.Test.YtdkjjkplmlmbeaaDoorFrame
import Derived.ChangeKeysEq
import Derived.Laws.StructEq
namespace Go.Proofs.YtdkjjkplmlmbeaaDoor
open Go.RowKit

theorem infoInt : (Tryd.prog.info? 3).isSome = true := by kernel_rfl
theorem cellsInt : Tryd.prog.cellsOf 3 = 1 := by kernel_rfl
theorem partInt (xs : Array Value) (i : Nat) (v : Value) (h : xs[i]? = some v) (w : World) : (part 3 xs i).run Tryd.prog w = .ok v w := by
  simp [part, isAgg, run_underlying Tryd.underlying3, h]
theorem eqT (a1 a2 a3 b1 b2 b3 : Int) (w : World) :
    (Op.equalIn 10000 23 (.agg #[.int .i64 a1, .int .i64 a2, .int .i64 a3]) (.agg #[.int .i64 b1, .int .i64 b2, .int .i64 b3])).run Tryd.prog w = .ok (decide ((a1, a2, a3) = (b1, b2, b3))) w := by
  obtain ⟨i, hi⟩ := Option.isSome_iff_exists.1 infoInt
  have e : ∀ x y : Int, (Op.equalIn 9999 3 (.int .i64 x) (.int .i64 y)).run Tryd.prog w = .ok (x == y) w := fun x y => run_equalIn_int w 9998 3 .i64 .i64 x y Tryd.underlying3
  rw [run_equalIn_array w 9999 _ _ Tryd.underlying23 hi, cellsInt]
  show (Op.eqItems 9999 3 1 _ _ [0, 1, 2]).run Tryd.prog w = _
  have p0 : ∀ x y z : Value, (part 3 #[x, y, z] 0).run Tryd.prog w = .ok x w := fun x y z => partInt #[x, y, z] 0 x rfl w
  have p1 : ∀ x y z : Value, (part 3 #[x, y, z] 1).run Tryd.prog w = .ok y w := fun x y z => partInt #[x, y, z] 1 y rfl w
  have p2 : ∀ x y z : Value, (part 3 #[x, y, z] 2).run Tryd.prog w = .ok z w := fun x y z => partInt #[x, y, z] 2 z rfl w
  by_cases h1 : a1 = b1
  · by_cases h2 : a2 = b2
    · by_cases h3 : a3 = b3
      · simp [Op.eqItems, p0, p1, p2, e, h1, h2, h3]
      · simp [Op.eqItems, p0, p1, p2, e, h1, h2, h3]
    · simp [Op.eqItems, p0, p1, e, h1, h2]
  · simp [Op.eqItems, p0, e, h1]
end Go.Proofs.YtdkjjkplmlmbeaaDoor
