/-
  No cell of these rows narrows 'for every input' (looked for: loops, veiled, ifaces, maps, wideKeys, modest, calm, conditions, laid).
  DERIVED. THE GIVEN ROWS OF THIS SEAT. 4 by the template 'for every input the law returns true; each argument reads behind the call as it read before'; 0 by the template 'total and deterministic' (their statements: YtbaplplaokbnnaaTotals.lean).
  GIVEN WITH THE SEED: the statements are not yours to turn. If you find one false, say at which input.
  Laid BY PROGRAM, IN A SANDBOX (cutbox-rows.mjs): the forced cells as the released guide's own fill.sh prints them over the translation 0b7561ab86209f35… (all of the seat's roots in one cut). By AI agents, Wed Nov 11 2026. No macro, syntax, notation, axiom, sorry.
-/
import Derived.Test.YtbaplplaokbnnaaChecked
import GoSem.Claim
import GoSem.ClaimJoined
import GoSem.ClaimMapViews
import Derived.JoinedTies
import Derived.KernelRfl
namespace Go.Proofs.Ytbaplplaokbnnaa
/- THE CELL 'sum', in the pinned program and in every row, IS THE sha256 OF THE DUMP (.gsa) THAT YtbaplplaokbnnaaProg.lean LOADS. Nothing in Lean hashes anything: it is a label: what it is worth is what the hold of that sum in a sandbox is worth. -/
noncomputable def Try.pinned : Pinned := { name := "ytbaplplaokbnnaa", sum := "0b7561ab86209f3528c6009b78fdd2c91aa560ca8a365c7e76a8c405af7a83ed", checked := Try.checked }
namespace Rows
def none {H : Type} : Left H := { results := [], args := [] }

/-- 'retiarylaw15.TreePlays': WHATEVER THE INPUT: true; the input reads as it did. -/
def treePlaysSpec : ChangeSpec := { name := "treePlays", fn := fun _ => fun
  | [d1, d2] => { results := [.lit (.bool true)], args := [d1, d2] }
  | _ => none }
def treePlaysRow : OpenClaim := { program := "ytbaplplaokbnnaa", sum := "0b7561ab86209f3528c6009b78fdd2c91aa560ca8a365c7e76a8c405af7a83ed", func := "retiary/retiarylaw15.TreePlays", spec := "treePlays", unfollowed := true, recurses := true, apart := false }
def TreePlaysSaid : Prop := treePlaysRow.holds Try.pinned (OpenSpec.ofChange treePlaysSpec)

/-- ITS FALSE NEIGHBOUR: 'it returns false'. Refute it at one input. -/
def treePlaysWrong : ChangeSpec := { name := "treePlays", fn := fun _ => fun
  | [d1, d2] => { results := [.lit (.bool false)], args := [d1, d2] }
  | _ => none }
def TreePlaysWrongFalsely : Prop := treePlaysRow.holds Try.pinned (OpenSpec.ofChange treePlaysWrong)

/-- 'retiarylaw15.TreeTypes': WHATEVER THE INPUT: true; the input reads as it did. -/
def treeTypesSpec : ChangeSpec := { name := "treeTypes", fn := fun _ => fun
  | [d] => { results := [.lit (.bool true)], args := [d] }
  | _ => none }
def treeTypesRow : OpenClaim := { program := "ytbaplplaokbnnaa", sum := "0b7561ab86209f3528c6009b78fdd2c91aa560ca8a365c7e76a8c405af7a83ed", func := "retiary/retiarylaw15.TreeTypes", spec := "treeTypes", unfollowed := true, recurses := true, apart := false }
def TreeTypesSaid : Prop := treeTypesRow.holds Try.pinned (OpenSpec.ofChange treeTypesSpec)

/-- ITS FALSE NEIGHBOUR: 'it returns false'. Refute it at one input. -/
def treeTypesWrong : ChangeSpec := { name := "treeTypes", fn := fun _ => fun
  | [d] => { results := [.lit (.bool false)], args := [d] }
  | _ => none }
def TreeTypesWrongFalsely : Prop := treeTypesRow.holds Try.pinned (OpenSpec.ofChange treeTypesWrong)

/-- 'retiarylaw15.TreeBelow': WHATEVER THE INPUT: true; the input reads as it did. -/
def treeBelowSpec : ChangeSpec := { name := "treeBelow", fn := fun _ => fun
  | [d1, d2] => { results := [.lit (.bool true)], args := [d1, d2] }
  | _ => none }
def treeBelowRow : OpenClaim := { program := "ytbaplplaokbnnaa", sum := "0b7561ab86209f3528c6009b78fdd2c91aa560ca8a365c7e76a8c405af7a83ed", func := "retiary/retiarylaw15.TreeBelow", spec := "treeBelow", unfollowed := true, recurses := true, apart := false }
def TreeBelowSaid : Prop := treeBelowRow.holds Try.pinned (OpenSpec.ofChange treeBelowSpec)

/-- ITS FALSE NEIGHBOUR: 'it returns false'. Refute it at one input. -/
def treeBelowWrong : ChangeSpec := { name := "treeBelow", fn := fun _ => fun
  | [d1, d2] => { results := [.lit (.bool false)], args := [d1, d2] }
  | _ => none }
def TreeBelowWrongFalsely : Prop := treeBelowRow.holds Try.pinned (OpenSpec.ofChange treeBelowWrong)

/-- 'retiarylaw15.TreeFacts': WHATEVER THE INPUT: true; the input reads as it did. -/
def treeFactsSpec : ChangeSpec := { name := "treeFacts", fn := fun _ => fun
  | [d] => { results := [.lit (.bool true)], args := [d] }
  | _ => none }
def treeFactsRow : OpenClaim := { program := "ytbaplplaokbnnaa", sum := "0b7561ab86209f3528c6009b78fdd2c91aa560ca8a365c7e76a8c405af7a83ed", func := "retiary/retiarylaw15.TreeFacts", spec := "treeFacts", unfollowed := true, recurses := true, apart := false }
def TreeFactsSaid : Prop := treeFactsRow.holds Try.pinned (OpenSpec.ofChange treeFactsSpec)

/-- ITS FALSE NEIGHBOUR: 'it returns false'. Refute it at one input. -/
def treeFactsWrong : ChangeSpec := { name := "treeFacts", fn := fun _ => fun
  | [d] => { results := [.lit (.bool false)], args := [d] }
  | _ => none }
def TreeFactsWrongFalsely : Prop := treeFactsRow.holds Try.pinned (OpenSpec.ofChange treeFactsWrong)

/- THE SECOND FORM. 'bulk': how many values and letters a reading holds, each counted each time it is reached (what is shared counts as often as it is met; a slice's spare places count too). A statement '..UptoSaid' is the law's where the arguments, and the package variables that the reading takes, are together of bulk at most 1048576: NARROWER than '..Said'. Prove '..Said' where nothing that the law and all that it calls make is longer than what came in: it says more and counts as full. Else prove '..UptoSaid'. A law counts once. -/
mutual
def uptoBulk {H : Type} : DataW H → Nat
  | .lit (.string bytes) => bytes.length + 1
  | .lit _ => 1
  | .nil => 1
  | .ptr d => uptoBulk d + 1
  | .slice elems spare => uptoBulkAll elems + uptoBulkAll spare + 1
  | .agg parts => uptoBulkAll parts + 1
  | .iface _ d => uptoBulk d + 1
  | .map entries => uptoBulkEntries entries + 1
  | .held _ => 1
def uptoBulkAll {H : Type} : List (DataW H) → Nat
  | [] => 0
  | d :: r => uptoBulk d + uptoBulkAll r
def uptoBulkEntries {H : Type} : List (Lit × DataW H) → Nat
  | [] => 0
  | x :: r => uptoBulkEntry x + uptoBulkEntries r
def uptoBulkEntry {H : Type} : Lit × DataW H → Nat
  | (.string bytes, d) => bytes.length + uptoBulk d + 1
  | (_, d) => uptoBulk d + 1
 end
def uptoSmall : (H : Type) → List (DataW H) → Bool := fun _ ds => decide (uptoBulkAll ds ≤ 1048576)
def OpenSpec.upto (s : _root_.Go.ChangeSpec) : _root_.Go.OpenSpec := { _root_.Go.OpenSpec.ofChange s with cond := some uptoSmall }

/-- 'retiarylaw15.TreePlays', WHERE WHAT IT READS IS OF BULK AT MOST 1048576: true; the input reads as it did. -/
def treePlaysUptoRow : OpenClaim := { program := "ytbaplplaokbnnaa", sum := "0b7561ab86209f3528c6009b78fdd2c91aa560ca8a365c7e76a8c405af7a83ed", func := "retiary/retiarylaw15.TreePlays", spec := "treePlays", unfollowed := true, recurses := true, apart := false, narrowed := true }
def TreePlaysUptoSaid : Prop := treePlaysUptoRow.holds Try.pinned (OpenSpec.upto treePlaysSpec)

/-- 'retiarylaw15.TreeTypes', WHERE WHAT IT READS IS OF BULK AT MOST 1048576: true; the input reads as it did. -/
def treeTypesUptoRow : OpenClaim := { program := "ytbaplplaokbnnaa", sum := "0b7561ab86209f3528c6009b78fdd2c91aa560ca8a365c7e76a8c405af7a83ed", func := "retiary/retiarylaw15.TreeTypes", spec := "treeTypes", unfollowed := true, recurses := true, apart := false, narrowed := true }
def TreeTypesUptoSaid : Prop := treeTypesUptoRow.holds Try.pinned (OpenSpec.upto treeTypesSpec)

/-- 'retiarylaw15.TreeBelow', WHERE WHAT IT READS IS OF BULK AT MOST 1048576: true; the input reads as it did. -/
def treeBelowUptoRow : OpenClaim := { program := "ytbaplplaokbnnaa", sum := "0b7561ab86209f3528c6009b78fdd2c91aa560ca8a365c7e76a8c405af7a83ed", func := "retiary/retiarylaw15.TreeBelow", spec := "treeBelow", unfollowed := true, recurses := true, apart := false, narrowed := true }
def TreeBelowUptoSaid : Prop := treeBelowUptoRow.holds Try.pinned (OpenSpec.upto treeBelowSpec)

/-- 'retiarylaw15.TreeFacts', WHERE WHAT IT READS IS OF BULK AT MOST 1048576: true; the input reads as it did. -/
def treeFactsUptoRow : OpenClaim := { program := "ytbaplplaokbnnaa", sum := "0b7561ab86209f3528c6009b78fdd2c91aa560ca8a365c7e76a8c405af7a83ed", func := "retiary/retiarylaw15.TreeFacts", spec := "treeFacts", unfollowed := true, recurses := true, apart := false, narrowed := true }
def TreeFactsUptoSaid : Prop := treeFactsUptoRow.holds Try.pinned (OpenSpec.upto treeFactsSpec)

end Rows
end Go.Proofs.Ytbaplplaokbnnaa
