/- Layer cond: plain mathematics of whether a variable stands in a condition. No program. -/
import Derived.Test.YtoceogbanlmnoaaCCheck2
namespace Go.Proofs.Ytoceogbanlmnoaa
open Go.RowKit
set_option maxRecDepth 100000

/-- Is that number a variable of the terms? -/
def ownN (x0 x1 x2 : Bool) (n0 n1 n2 j : Int) : Bool := (x0 && n0 == j) || ((x1 && n1 == j) || (x2 && n2 == j))
mutual
/-- Does a variable stand in it? -/
def Sh.has : Sh → Int → Bool
  | .mk h l, v => (decide (h.k < 3) && ownN h.x0 h.x1 h.x2 h.n0 h.n1 h.n2 v) || hasL l v
def hasL : List Sh → Int → Bool
  | [], _ => false
  | s :: r, v => s.has v || hasL r v
end
theorem has_mk (h : Hd) (l : List Sh) (v : Int) : (Sh.mk h l).has v = ((decide (h.k < 3) && ownN h.x0 h.x1 h.x2 h.n0 h.n1 h.n2 v) || hasL l v) := by
  rw [Sh.has]
theorem hasL_drop {l : List Sh} {j : Nat} {x : Sh} (h : l[j]? = some x) (v : Int) : hasL (l.drop j) v = (x.has v || hasL (l.drop (j + 1)) v) := by
  obtain ⟨hl, e⟩ := List.getElem?_eq_some_iff.1 h
  rw [List.drop_eq_getElem_cons hl, e]
  rfl
end Go.Proofs.Ytoceogbanlmnoaa
