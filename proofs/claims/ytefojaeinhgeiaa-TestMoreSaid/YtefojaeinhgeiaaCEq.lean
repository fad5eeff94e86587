/- Layer cond: three terms held against three terms by ==, of the program and of the reference. -/
import Derived.Test.YtefojaeinhgeiaaCTree
import Derived.ChangeKeysEq
import Derived.Laws.StructEq
namespace Go.Proofs.Ytefojaeinhgeiaa
open Go.RowKit
set_option maxRecDepth 100000

theorem infoTm : (Try.prog.info? 35).isSome = true := by kernel_rfl
theorem cellsTm2 : Try.prog.cellsOf 35 = 2 := by kernel_rfl
theorem infoTmR : (Try.prog.info? 42).isSome = true := by kernel_rfl
theorem cellsTmR2 : Try.prog.cellsOf 42 = 2 := by kernel_rfl
theorem partL (x0 x1 x2 : Bool) (n0 n1 n2 : Int) : (∀ w, (part 35 #[.bool x0, .int .i64 n0, .bool x1, .int .i64 n1, .bool x2, .int .i64 n2] 0).run Try.prog w = .ok (.agg #[.bool x0, .int .i64 n0]) w) ∧ (∀ w, (part 35 #[.bool x0, .int .i64 n0, .bool x1, .int .i64 n1, .bool x2, .int .i64 n2] 2).run Try.prog w = .ok (.agg #[.bool x1, .int .i64 n1]) w) ∧ (∀ w, (part 35 #[.bool x0, .int .i64 n0, .bool x1, .int .i64 n1, .bool x2, .int .i64 n2] 4).run Try.prog w = .ok (.agg #[.bool x2, .int .i64 n2]) w) :=
  ⟨fun _ => by kernel_rfl, fun _ => by kernel_rfl, fun _ => by kernel_rfl⟩
theorem partR (x0 x1 x2 n0 n1 n2 : Int) : (∀ w, (part 42 #[.int .i64 x0, .int .i64 n0, .int .i64 x1, .int .i64 n1, .int .i64 x2, .int .i64 n2] 0).run Try.prog w = .ok (.agg #[.int .i64 x0, .int .i64 n0]) w) ∧ (∀ w, (part 42 #[.int .i64 x0, .int .i64 n0, .int .i64 x1, .int .i64 n1, .int .i64 x2, .int .i64 n2] 2).run Try.prog w = .ok (.agg #[.int .i64 x1, .int .i64 n1]) w) ∧ (∀ w, (part 42 #[.int .i64 x0, .int .i64 n0, .int .i64 x1, .int .i64 n1, .int .i64 x2, .int .i64 n2] 4).run Try.prog w = .ok (.agg #[.int .i64 x2, .int .i64 n2]) w) :=
  ⟨fun _ => by kernel_rfl, fun _ => by kernel_rfl, fun _ => by kernel_rfl⟩
theorem eqTm (x y : Bool) (n m : Int) (w : World) : (Op.equalIn 9999 35 (.agg #[.bool x, .int .i64 n]) (.agg #[.bool y, .int .i64 m])).run Try.prog w = .ok (decide (x = y ∧ n = m)) w := by
  have e : ∀ x y : Int, (Op.equalIn 9998 3 (.int .i64 x) (.int .i64 y)).run Try.prog w = .ok (x == y) w := fun x y => run_equalIn_int w 9997 3 .i64 .i64 x y Try.underlying3
  have eb : ∀ x y : Bool, (Op.equalIn 9998 4 (.bool x) (.bool y)).run Try.prog w = .ok (x == y) w := fun x y => run_equalIn_bool w 9997 4 x y Try.underlying4
  rw [run_equalIn_struct w 9998 _ _ _ (by kernel_rfl) (by kernel_rfl)]
  simp only [Program.fieldsOf, Try.underlying35]
  by_cases h : x = y
  · subst h
    by_cases hn : n = m <;> simp [Op.eqFields, part, isAgg, run_underlying Try.underlying3, run_underlying Try.underlying4, e, eb, hn]
  · simp [Op.eqFields, part, isAgg, run_underlying Try.underlying3, run_underlying Try.underlying4, eb, h]
theorem eqTmR (x y : Int) (n m : Int) (w : World) : (Op.equalIn 9999 42 (.agg #[.int .i64 x, .int .i64 n]) (.agg #[.int .i64 y, .int .i64 m])).run Try.prog w = .ok (decide (x = y ∧ n = m)) w := by
  have e : ∀ x y : Int, (Op.equalIn 9998 3 (.int .i64 x) (.int .i64 y)).run Try.prog w = .ok (x == y) w := fun x y => run_equalIn_int w 9997 3 .i64 .i64 x y Try.underlying3
  rw [run_equalIn_struct w 9998 _ _ _ (by kernel_rfl) (by kernel_rfl)]
  simp only [Program.fieldsOf, Try.underlying42]
  by_cases h : x = y
  · subst h
    by_cases hn : n = m <;> simp [Op.eqFields, part, isAgg, run_underlying Try.underlying3, e, hn]
  · simp [Op.eqFields, part, isAgg, run_underlying Try.underlying3, e, h]
/-- Three terms are the same. -/
def Hd.sameT (a b : Hd) : Bool := decide ((a.x0 = b.x0 ∧ a.n0 = b.n0) ∧ (a.x1 = b.x1 ∧ a.n1 = b.n1) ∧ (a.x2 = b.x2 ∧ a.n2 = b.n2))
theorem eqL (a b : Hd) (w : World) : (Op.equalIn 10000 36 (valL a.x0 a.x1 a.x2 a.n0 a.n1 a.n2) (valL b.x0 b.x1 b.x2 b.n0 b.n1 b.n2)).run Try.prog w = .ok (a.sameT b) w := by
  obtain ⟨i, hi⟩ := Option.isSome_iff_exists.1 infoTm
  obtain ⟨p0, p1, p2⟩ := partL a.x0 a.x1 a.x2 a.n0 a.n1 a.n2
  obtain ⟨q0, q1, q2⟩ := partL b.x0 b.x1 b.x2 b.n0 b.n1 b.n2
  rw [run_equalIn_array w 9999 _ _ Try.underlying36 hi, cellsTm2]
  show (Op.eqItems 9999 35 2 _ _ [0, 1, 2]).run Try.prog w = _
  generalize (#[.bool a.x0, .int .i64 a.n0, .bool a.x1, .int .i64 a.n1, .bool a.x2, .int .i64 a.n2] : Array Value) = A at p0 p1 p2 ⊢
  generalize (#[.bool b.x0, .int .i64 b.n0, .bool b.x1, .int .i64 b.n1, .bool b.x2, .int .i64 b.n2] : Array Value) = B at q0 q1 q2 ⊢
  unfold Hd.sameT
  by_cases h0 : a.x0 = b.x0 ∧ a.n0 = b.n0 <;> by_cases h1 : a.x1 = b.x1 ∧ a.n1 = b.n1 <;> by_cases h2 : a.x2 = b.x2 <;> by_cases h3 : a.n2 = b.n2 <;> simp [Op.eqItems, p0, p1, p2, q0, q1, q2, eqTm, h2, h3, h0, h1]
theorem isV_inj {x y : Bool} : isV x = isV y ↔ x = y := by cases x <;> cases y <;> decide
theorem eqR (a b : Hd) (w : World) : (Op.equalIn 10000 43 (valR (isV a.x0) (isV a.x1) (isV a.x2) a.n0 a.n1 a.n2) (valR (isV b.x0) (isV b.x1) (isV b.x2) b.n0 b.n1 b.n2)).run Try.prog w = .ok (a.sameT b) w := by
  obtain ⟨i, hi⟩ := Option.isSome_iff_exists.1 infoTmR
  obtain ⟨p0, p1, p2⟩ := partR (isV a.x0) (isV a.x1) (isV a.x2) a.n0 a.n1 a.n2
  obtain ⟨q0, q1, q2⟩ := partR (isV b.x0) (isV b.x1) (isV b.x2) b.n0 b.n1 b.n2
  rw [run_equalIn_array w 9999 _ _ Try.underlying43 hi, cellsTmR2]
  show (Op.eqItems 9999 42 2 _ _ [0, 1, 2]).run Try.prog w = _
  generalize (#[.int .i64 (isV a.x0), .int .i64 a.n0, .int .i64 (isV a.x1), .int .i64 a.n1, .int .i64 (isV a.x2), .int .i64 a.n2] : Array Value) = A at p0 p1 p2 ⊢
  generalize (#[.int .i64 (isV b.x0), .int .i64 b.n0, .int .i64 (isV b.x1), .int .i64 b.n1, .int .i64 (isV b.x2), .int .i64 b.n2] : Array Value) = B at q0 q1 q2 ⊢
  unfold Hd.sameT
  by_cases h0 : a.x0 = b.x0 ∧ a.n0 = b.n0 <;> by_cases h1 : a.x1 = b.x1 ∧ a.n1 = b.n1 <;> by_cases h2 : a.x2 = b.x2 <;> by_cases h3 : a.n2 = b.n2 <;> simp [Op.eqItems, p0, p1, p2, q0, q1, q2, eqTmR, h2, h3, isV_inj, h0, h1]
end Go.Proofs.Ytefojaeinhgeiaa
