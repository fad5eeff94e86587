/- Layer term: contracts of Right, of the program and of the reference, of Sym and Var, of stands. -/
import Derived.Test.YtefojaeinhgeiaaUMath
import Derived.WalkSpells
import Derived.WalkLawsBesides
import Derived.ProofKit
import Derived.Outline
import Derived.Deep.QuietTactic
namespace Go.Proofs.Ytefojaeinhgeiaa
open Go.RowKit

section
variable {w w' : World} {g : Nat} {t : TypeId} {cs : Array Value}
end
end Go.Proofs.Ytefojaeinhgeiaa
