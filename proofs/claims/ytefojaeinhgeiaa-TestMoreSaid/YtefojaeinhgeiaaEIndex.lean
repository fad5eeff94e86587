/- Layer scope: slices.Index of a condition's three terms; term.Var. -/
import Derived.Test.YtefojaeinhgeiaaERows
namespace Go.Proofs.Ytefojaeinhgeiaa
open Go.RowKit
set_option maxRecDepth 100000

theorem eqTm4 (x y : Bool) (n m : Int) (w : World) : (Op.equalIn 10000 35 (.agg #[.bool x, .int .i64 n]) (.agg #[.bool y, .int .i64 m])).run Try.prog w = .ok (decide (x = y ∧ n = m)) w := by
  have e : ∀ x y : Int, (Op.equalIn 9999 3 (.int .i64 x) (.int .i64 y)).run Try.prog w = .ok (x == y) w := fun x y => run_equalIn_int w 9998 3 .i64 .i64 x y Try.underlying3
  have eb : ∀ x y : Bool, (Op.equalIn 9999 4 (.bool x) (.bool y)).run Try.prog w = .ok (x == y) w := fun x y => run_equalIn_bool w 9998 4 x y Try.underlying4
  rw [run_equalIn_struct w 9999 _ _ _ (by kernel_rfl) (by kernel_rfl)]
  simp only [Program.fieldsOf, Try.underlying35]
  by_cases h : x = y
  · subst h
    by_cases hn : n = m <;> simp [Op.eqFields, part, isAgg, run_underlying Try.underlying3, run_underlying Try.underlying4, e, eb, hn]
  · simp [Op.eqFields, part, isAgg, run_underlying Try.underlying3, run_underlying Try.underlying4, eb, h]
theorem eqlTm (x y : Bool) (n m : Int) (b : Bool) (hb : decide (x = y ∧ n = m) = b) (w : World) : (binOp .eql 35 (.agg #[.bool x, .int .i64 n]) (.agg #[.bool y, .int .i64 m])).run Try.prog w = .ok (.bool b) w := by
  rw [run_eql_struct, eqTm4, hb]; rfl
theorem Blk.drewN {w : World} {g n : Nat} {t : TypeId} {cs : Array Value} (h : Blk w g t cs) : Blk (w.drewN n) g t cs := h
/-- The first of three that is so; -1 if none is. -/
def first3 (b0 b1 b2 : Bool) : Int := if b0 then 0 else if b1 then 1 else if b2 then 2 else -1
abbrev arr8 (h : Hd) (u : Value) : Array Value := #[.int .i64 h.k, .bool h.x0, .int .i64 h.n0, .bool h.x1, .int .i64 h.n1, .bool h.x2, .int .i64 h.n2, u]
end Go.Proofs.Ytefojaeinhgeiaa
