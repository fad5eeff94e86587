/- Layer term: the contract of Fit. -/
import Derived.Test.YtefojaeinhgeiaaUArm
namespace Go.Proofs.Ytefojaeinhgeiaa
open Go.RowKit

def fl (x0 x1 x2 : Bool) (n0 n1 n2 t0 t1 t2 : Int) : List (Tm × Int) := [((x0, n0), t0), ((x1, n1), t1), ((x2, n2), t2)]
theorem fieldsL (x0 x1 x2 : Bool) (n0 n1 n2 t0 t1 t2 : Int) {k : Nat} (hk : k < 3) : ∃ v n s, (fl x0 x1 x2 n0 n1 n2 t0 t1 t2)[k]? = some ((v, n), s) ∧
    (∀ w, (Instr.index 36 (.agg #[.bool x0, .int .i64 n0, .bool x1, .int .i64 n1, .bool x2, .int .i64 n2]) (.int .i64 k)).run Try.prog w = .ok (.agg #[.bool v, .int .i64 n]) w) ∧
    (#[.int .i64 t0, .int .i64 t1, .int .i64 t2] : Array Value)[k]? = some (.int .i64 s) := by
  have : k = 0 ∨ k = 1 ∨ k = 2 := by omega
  rcases this with rfl | rfl | rfl
  · exact ⟨x0, n0, t0, rfl, fun w => by kernel_rfl, rfl⟩
  · exact ⟨x1, n1, t1, rfl, fun w => by kernel_rfl, rfl⟩
  · exact ⟨x2, n2, t2, rfl, fun w => by kernel_rfl, rfl⟩
def FitEnd (l : List (Tm × Int)) (b : Bd) (w : World) (e : Ending) (w' : World) : Prop := e = .returned (.tuple #[.agg (cellsB (fitB l b)), .bool (fitOk l b)]) ∧ Kept Nil w w'
theorem fitEnd_none {l : List (Tm × Int)} {b : Bd} {w w' : World} (h : runL l b = none) (k : Kept Nil w w') : FitEnd l b w (.returned (.tuple #[.agg (cellsB b), .bool false])) w' := by
  unfold FitEnd; rw [(fit_none h).1, (fit_none h).2]; exact ⟨rfl, k⟩
theorem fitEnd_some {l : List (Tm × Int)} {b g : Bd} {w w' : World} (h : runL l b = some g) (k : Kept Nil w w') : FitEnd l b w (.returned (.tuple #[.agg (cellsB g), .bool true])) w' := by
  unfold FitEnd; rw [(fit_some h).1, (fit_some h).2]; exact ⟨rfl, k⟩

end Go.Proofs.Ytefojaeinhgeiaa
