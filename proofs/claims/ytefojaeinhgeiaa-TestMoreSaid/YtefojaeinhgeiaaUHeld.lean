/- Layer term: the law's own held: a binding whose symbols are 0 to 4096, nothing at the place 0. -/
import Derived.Test.YtefojaeinhgeiaaGE
import Derived.Test.YtefojaeinhgeiaaERows
namespace Go.Proofs.Ytefojaeinhgeiaa
open Go.RowKit

def clamp (x : Int) : Int := if 4096 < (if x < 0 then 0 else x) then 4096 else if x < 0 then 0 else x
theorem clamp_range (x : Int) : 0 ≤ clamp x ∧ clamp x ≤ 4096 := by unfold clamp; split <;> split <;> omega
def heldTo (j : Nat) (b : Bd) : Bd := fun k => if k < j then clamp (b k) else b k
def heldB (b : Bd) : Bd := fun k => if k = 0 then 0 else clamp (b k)
theorem heldTo_zero (b : Bd) : heldTo 0 b = b := by funext k; unfold heldTo; simp
theorem heldTo_get (j : Nat) (b : Bd) : heldTo j b j = b j := by unfold heldTo; simp
theorem heldTo_succ (j : Nat) (b : Bd) : upd (heldTo j b) j (clamp (b j)) = heldTo (j + 1) b := by
  funext k
  unfold upd heldTo
  by_cases e : k = j
  · subst e; simp
  · by_cases h : k < j
    · simp [e, h, show k < j + 1 by omega]
    · simp [e, h, show ¬ k < j + 1 by omega]
theorem held_cells (b : Bd) : cellsB (upd (heldTo 33 b) 0 0) = cellsB (heldB b) := cellsB_ext fun k hk => by
  unfold upd heldTo heldB
  by_cases e : k = 0
  · simp [e]
  · simp [e, hk]
theorem heldB_range (b : Bd) (k : Nat) : 0 ≤ heldB b k ∧ heldB b k ≤ 4096 := by
  unfold heldB
  split
  · omega
  · exact clamp_range _
theorem heldB_zero (b : Bd) : heldB b 0 = 0 := by unfold heldB; simp

end Go.Proofs.Ytefojaeinhgeiaa
