/- Layer cond: the contract of Check, of the program. -/
import Derived.Test.YtefojaeinhgeiaaCEq
namespace Go.Proofs.Ytefojaeinhgeiaa
open Go.RowKit
set_option maxRecDepth 100000

def Hd.fine (h : Hd) : Bool := Go.Proofs.Ytefojaeinhgeiaa.fine h.x0 h.x1 h.x2 h.n0 h.n1 h.n2
def zeroH : Hd := ⟨0, false, false, false, 0, 0, 0⟩
mutual
/-- What is wrong with a condition at a depth. -/
def Sh.chk : Sh → Int → Int
  | .mk h subs, d => if 3 < d then 5 else if h.k = 3 then (if h.sameT zeroH = false then 4 else if subs.length = 0 then 2 else chkL subs (d + 1)) else if h.k = 1 ∨ h.k = 2 then (if h.fine = false then 4 else if 0 < subs.length then 4 else 0) else 3
def chkL : List Sh → Int → Int
  | [], _ => 0
  | s :: r, d => if s.chk d ≠ 0 then s.chk d else chkL r d
end
theorem chkL_drop {l : List Sh} {j : Nat} {x : Sh} (h : l[j]? = some x) (d : Int) : chkL (l.drop j) d = if x.chk d ≠ 0 then x.chk d else chkL (l.drop (j + 1)) d := by
  obtain ⟨hl, e⟩ := List.getElem?_eq_some_iff.1 h
  rw [List.drop_eq_getElem_cons hl, e]
  rfl

def termsT (h : Hd) (len : Nat) : Int := if h.fine = false then 4 else if 0 < len then 4 else 0
def nccT (h : Hd) (subs : List Sh) (d : Int) : Int := if h.sameT zeroH = false then 4 else if subs.length = 0 then 2 else chkL subs (d + 1)
theorem builtZ : Try.prog.built 36 [] = some #[.bool false, .int .i64 0, .bool false, .int .i64 0, .bool false, .int .i64 0] := by kernel_rfl
end Go.Proofs.Ytefojaeinhgeiaa
