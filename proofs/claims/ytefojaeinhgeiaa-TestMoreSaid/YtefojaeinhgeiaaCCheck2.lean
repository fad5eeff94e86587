/- Layer cond: the contract of Check, of the program: any tree, any depth. -/
import Derived.Test.YtefojaeinhgeiaaCCheck
namespace Go.Proofs.Ytefojaeinhgeiaa
open Go.RowKit
set_option maxRecDepth 100000

theorem chk_mk (h : Hd) (subs : List Sh) (d : Int) : (Sh.mk h subs).chk d = if 3 < d then 5 else if h.k = 3 then nccT h subs d else if h.k = 1 ∨ h.k = 2 then termsT h subs.length else 3 := by
  simp only [Sh.chk, nccT, termsT]
end Go.Proofs.Ytefojaeinhgeiaa
