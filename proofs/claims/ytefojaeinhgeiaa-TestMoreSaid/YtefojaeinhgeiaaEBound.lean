/- Layer scope: the program's Bound: where each variable is bound, rising. -/
import Derived.Test.YtefojaeinhgeiaaEPlace
namespace Go.Proofs.Ytefojaeinhgeiaa
open Go.RowKit
set_option maxRecDepth 100000

abbrev Pl := Int × Nat × Int
/-- Where the first variables are bound. -/
def bdL (l : List Sh) : Nat → List Pl
  | 0 => []
  | m + 1 => bdL l m ++ (match fpL l ((m : Int) + 1) 0 with | some (b, f) => [((m : Int) + 1, b, f)] | none => [])
theorem bdL_len (l : List Sh) (m : Nat) : (bdL l m).length ≤ m := by
  induction m with
  | zero => simp [bdL]
  | succ m ih =>
    rw [bdL, List.length_append]
    split <;> simp <;> omega
abbrev cP (p : Pl) : List Value := [.int .i64 p.1, .int .i64 (p.2.1 : Int), .int .i64 p.2.2]
def flatP (ps : List Pl) : List Value := ps.flatMap cP
theorem flatP_len : ∀ ps : List Pl, (flatP ps).length = ps.length * 3
  | [] => rfl
  | p :: r => by
    show (cP p ++ flatP r).length = _
    rw [List.length_append, flatP_len r, List.length_cons]
    simp; omega
theorem flatP_get : ∀ (ps : List Pl) (i j : Nat) (p : Pl), ps[i]? = some p → j < 3 → (flatP ps)[i * 3 + j]? = (cP p)[j]?
  | [], i, j, p, h, _ => by simp at h
  | x :: r, 0, j, p, h, hj => by
    simp only [List.getElem?_cons_zero, Option.some.injEq] at h
    subst h
    show (cP x ++ flatP r)[0 * 3 + j]? = _
    rw [Nat.zero_mul, Nat.zero_add, List.getElem?_append_left (by simp; omega)]
  | x :: r, i + 1, j, p, h, hj => by
    show (cP x ++ flatP r)[(i + 1) * 3 + j]? = _
    rw [List.getElem?_append_right (by simp; omega), show (i + 1) * 3 + j - (cP x).length = i * 3 + j by simp; omega]
    exact flatP_get r i j p (by simpa using h) hj
/-- What a law sees of places. -/
def Places (w : World) (v : Value) (ps : List Pl) : Prop := ∃ a c, v = .slice a ps.length c ∧ ∀ (i : Nat) p, ps[i]? = some p → ∃ g, a = some ⟨g, 0, none⟩ ∧ w.rangeAt g (i * 3) (cP p)
end Go.Proofs.Ytefojaeinhgeiaa
