/-
  NARROWER THAN 'FOR EVERY INPUT', by the rows' own cells (each row's printed sentence says how): ScopeChains: loops · ScopeOwn: loops · ScopeMany: loops.
  DERIVED. THE GIVEN ROWS OF THIS SEAT. 3 by the template 'for every input the law returns true; each argument reads behind the call as it read before'; 0 by the template 'total and deterministic' (their statements: YthabnbljngejbaaTotals.lean).
  GIVEN WITH THE SEED: the statements are not yours to turn. If you find one false, say at which input.
  Laid BY PROGRAM, IN A SANDBOX (cutbox-rows.mjs): the forced cells as the released guide's own fill.sh prints them over the translation 6997def004120114… (all of the seat's roots in one cut). By AI agents, Wed Nov 11 2026. No macro, syntax, notation, axiom, sorry.
-/
import Derived.Test.YthabnbljngejbaaChecked
import GoSem.Claim
import GoSem.ClaimJoined
import GoSem.ClaimMapViews
import Derived.JoinedTies
import Derived.KernelRfl
namespace Go.Proofs.Ythabnbljngejbaa
/- THE CELL 'sum', in the pinned program and in every row, IS THE sha256 OF THE DUMP (.gsa) THAT YthabnbljngejbaaProg.lean LOADS. Nothing in Lean hashes anything: it is a label: what it is worth is what the hold of that sum in a sandbox is worth. -/
noncomputable def Try.pinned : Pinned := { name := "ythabnbljngejbaa", sum := "6997def0041201147a04117eca1899ceabad7a27ba6384b6fc4d4350e7f6bbb6", checked := Try.checked }
namespace Rows
def none {H : Type} : Left H := { results := [], args := [] }

/-- 'retiarylaw06.ScopeChains': WHATEVER THE INPUT: true; the input reads as it did. -/
def scopeChainsSpec : ChangeSpec := { name := "scopeChains", fn := fun _ => fun
  | [d] => { results := [.lit (.bool true)], args := [d] }
  | _ => none }
def scopeChainsRow : OpenClaim := { program := "ythabnbljngejbaa", sum := "6997def0041201147a04117eca1899ceabad7a27ba6384b6fc4d4350e7f6bbb6", func := "retiary/retiarylaw06.ScopeChains", spec := "scopeChains", unfollowed := true, recurses := true, loops := true, apart := false }
def ScopeChainsSaid : Prop := scopeChainsRow.holds Try.pinned (OpenSpec.ofChange scopeChainsSpec)

/-- ITS FALSE NEIGHBOUR: 'it returns false'. Refute it at one input. -/
def scopeChainsWrong : ChangeSpec := { name := "scopeChains", fn := fun _ => fun
  | [d] => { results := [.lit (.bool false)], args := [d] }
  | _ => none }
def ScopeChainsWrongFalsely : Prop := scopeChainsRow.holds Try.pinned (OpenSpec.ofChange scopeChainsWrong)

/-- 'retiarylaw06.ScopeOwn': WHATEVER THE INPUT: true; the input reads as it did. -/
def scopeOwnSpec : ChangeSpec := { name := "scopeOwn", fn := fun _ => fun
  | [d] => { results := [.lit (.bool true)], args := [d] }
  | _ => none }
def scopeOwnRow : OpenClaim := { program := "ythabnbljngejbaa", sum := "6997def0041201147a04117eca1899ceabad7a27ba6384b6fc4d4350e7f6bbb6", func := "retiary/retiarylaw06.ScopeOwn", spec := "scopeOwn", unfollowed := true, recurses := true, loops := true, apart := false }
def ScopeOwnSaid : Prop := scopeOwnRow.holds Try.pinned (OpenSpec.ofChange scopeOwnSpec)

/-- ITS FALSE NEIGHBOUR: 'it returns false'. Refute it at one input. -/
def scopeOwnWrong : ChangeSpec := { name := "scopeOwn", fn := fun _ => fun
  | [d] => { results := [.lit (.bool false)], args := [d] }
  | _ => none }
def ScopeOwnWrongFalsely : Prop := scopeOwnRow.holds Try.pinned (OpenSpec.ofChange scopeOwnWrong)

/-- 'retiarylaw06.ScopeMany': WHATEVER THE INPUT: true; the input reads as it did. -/
def scopeManySpec : ChangeSpec := { name := "scopeMany", fn := fun _ => fun
  | [d] => { results := [.lit (.bool true)], args := [d] }
  | _ => none }
def scopeManyRow : OpenClaim := { program := "ythabnbljngejbaa", sum := "6997def0041201147a04117eca1899ceabad7a27ba6384b6fc4d4350e7f6bbb6", func := "retiary/retiarylaw06.ScopeMany", spec := "scopeMany", unfollowed := true, recurses := true, loops := true, apart := false }
def ScopeManySaid : Prop := scopeManyRow.holds Try.pinned (OpenSpec.ofChange scopeManySpec)

/-- ITS FALSE NEIGHBOUR: 'it returns false'. Refute it at one input. -/
def scopeManyWrong : ChangeSpec := { name := "scopeMany", fn := fun _ => fun
  | [d] => { results := [.lit (.bool false)], args := [d] }
  | _ => none }
def ScopeManyWrongFalsely : Prop := scopeManyRow.holds Try.pinned (OpenSpec.ofChange scopeManyWrong)

/- THE SECOND FORM. 'bulk': how many values and letters a reading holds, each counted each time it is reached (what is shared counts as often as it is met; a slice's spare places count too). A statement '..UptoSaid' is the law's where the arguments, and the package variables that the reading takes, are together of bulk at most 1048576: NARROWER than '..Said'. Prove '..Said' where nothing that the law and all that it calls make is longer than what came in: it says more and counts as full. Else prove '..UptoSaid'. A law counts once. -/
mutual
def uptoBulk {H : Type} : DataW H → Nat
  | .lit (.string bytes) => bytes.length + 1
  | .lit _ => 1
  | .nil => 1
  | .ptr d => uptoBulk d + 1
  | .slice elems spare => uptoBulkAll elems + uptoBulkAll spare + 1
  | .agg parts => uptoBulkAll parts + 1
  | .iface _ d => uptoBulk d + 1
  | .map entries => uptoBulkEntries entries + 1
  | .held _ => 1
def uptoBulkAll {H : Type} : List (DataW H) → Nat
  | [] => 0
  | d :: r => uptoBulk d + uptoBulkAll r
def uptoBulkEntries {H : Type} : List (Lit × DataW H) → Nat
  | [] => 0
  | x :: r => uptoBulkEntry x + uptoBulkEntries r
def uptoBulkEntry {H : Type} : Lit × DataW H → Nat
  | (.string bytes, d) => bytes.length + uptoBulk d + 1
  | (_, d) => uptoBulk d + 1
 end
def uptoSmall : (H : Type) → List (DataW H) → Bool := fun _ ds => decide (uptoBulkAll ds ≤ 1048576)
def OpenSpec.upto (s : _root_.Go.ChangeSpec) : _root_.Go.OpenSpec := { _root_.Go.OpenSpec.ofChange s with cond := some uptoSmall }

/-- 'retiarylaw06.ScopeChains', WHERE WHAT IT READS IS OF BULK AT MOST 1048576: true; the input reads as it did. -/
def scopeChainsUptoRow : OpenClaim := { program := "ythabnbljngejbaa", sum := "6997def0041201147a04117eca1899ceabad7a27ba6384b6fc4d4350e7f6bbb6", func := "retiary/retiarylaw06.ScopeChains", spec := "scopeChains", unfollowed := true, recurses := true, loops := true, apart := false, narrowed := true }
def ScopeChainsUptoSaid : Prop := scopeChainsUptoRow.holds Try.pinned (OpenSpec.upto scopeChainsSpec)

/-- 'retiarylaw06.ScopeOwn', WHERE WHAT IT READS IS OF BULK AT MOST 1048576: true; the input reads as it did. -/
def scopeOwnUptoRow : OpenClaim := { program := "ythabnbljngejbaa", sum := "6997def0041201147a04117eca1899ceabad7a27ba6384b6fc4d4350e7f6bbb6", func := "retiary/retiarylaw06.ScopeOwn", spec := "scopeOwn", unfollowed := true, recurses := true, loops := true, apart := false, narrowed := true }
def ScopeOwnUptoSaid : Prop := scopeOwnUptoRow.holds Try.pinned (OpenSpec.upto scopeOwnSpec)

/-- 'retiarylaw06.ScopeMany', WHERE WHAT IT READS IS OF BULK AT MOST 1048576: true; the input reads as it did. -/
def scopeManyUptoRow : OpenClaim := { program := "ythabnbljngejbaa", sum := "6997def0041201147a04117eca1899ceabad7a27ba6384b6fc4d4350e7f6bbb6", func := "retiary/retiarylaw06.ScopeMany", spec := "scopeMany", unfollowed := true, recurses := true, loops := true, apart := false, narrowed := true }
def ScopeManyUptoSaid : Prop := scopeManyUptoRow.holds Try.pinned (OpenSpec.upto scopeManySpec)

end Rows
end Go.Proofs.Ythabnbljngejbaa
