/-
  NARROWER THAN 'FOR EVERY INPUT', by the rows' own cells (each row's printed sentence says how): CondChecks: loops · CondTells: loops · CondCopies: loops · CondHigher: loops.
  DERIVED. THE GIVEN ROWS OF THIS SEAT. 4 by the template 'for every input the law returns true; each argument reads behind the call as it read before'; 0 by the template 'total and deterministic' (their statements: YtokpgpkdhcehbaaTotals.lean).
  GIVEN WITH THE SEED: the statements are not yours to turn. If you find one false, say at which input.
  Laid BY PROGRAM, IN A SANDBOX (cutbox-rows.mjs): the forced cells as the released guide's own fill.sh prints them over the translation a9739c318932a6e8… (all of the seat's roots in one cut). By AI agents, Wed Nov 11 2026. No macro, syntax, notation, axiom, sorry.
-/
import Derived.Test.YtokpgpkdhcehbaaChecked
import GoSem.Claim
import GoSem.ClaimJoined
import GoSem.ClaimMapViews
import Derived.JoinedTies
import Derived.KernelRfl
namespace Go.Proofs.Ytokpgpkdhcehbaa
/- THE CELL 'sum', in the pinned program and in every row, IS THE sha256 OF THE DUMP (.gsa) THAT YtokpgpkdhcehbaaProg.lean LOADS. Nothing in Lean hashes anything: it is a label: what it is worth is what the hold of that sum in a sandbox is worth. -/
noncomputable def Try.pinned : Pinned := { name := "ytokpgpkdhcehbaa", sum := "a9739c318932a6e8653c8823d692777c1ad13daf24fa09b1875e530dea67f3fe", checked := Try.checked }
namespace Rows
def none {H : Type} : Left H := { results := [], args := [] }

/-- 'retiarylaw04.CondChecks': WHATEVER THE INPUT: true; the input reads as it did. -/
def condChecksSpec : ChangeSpec := { name := "condChecks", fn := fun _ => fun
  | [d1, d2] => { results := [.lit (.bool true)], args := [d1, d2] }
  | _ => none }
def condChecksRow : OpenClaim := { program := "ytokpgpkdhcehbaa", sum := "a9739c318932a6e8653c8823d692777c1ad13daf24fa09b1875e530dea67f3fe", func := "retiary/retiarylaw04.CondChecks", spec := "condChecks", recurses := true, loops := true, apart := false }
def CondChecksSaid : Prop := condChecksRow.holds Try.pinned (OpenSpec.ofChange condChecksSpec)

/-- ITS FALSE NEIGHBOUR: 'it returns false'. Refute it at one input. -/
def condChecksWrong : ChangeSpec := { name := "condChecks", fn := fun _ => fun
  | [d1, d2] => { results := [.lit (.bool false)], args := [d1, d2] }
  | _ => none }
def CondChecksWrongFalsely : Prop := condChecksRow.holds Try.pinned (OpenSpec.ofChange condChecksWrong)

/-- 'retiarylaw04.CondTells': WHATEVER THE INPUT: true; the input reads as it did. -/
def condTellsSpec : ChangeSpec := { name := "condTells", fn := fun _ => fun
  | [d] => { results := [.lit (.bool true)], args := [d] }
  | _ => none }
def condTellsRow : OpenClaim := { program := "ytokpgpkdhcehbaa", sum := "a9739c318932a6e8653c8823d692777c1ad13daf24fa09b1875e530dea67f3fe", func := "retiary/retiarylaw04.CondTells", spec := "condTells", recurses := true, loops := true, apart := false }
def CondTellsSaid : Prop := condTellsRow.holds Try.pinned (OpenSpec.ofChange condTellsSpec)

/-- ITS FALSE NEIGHBOUR: 'it returns false'. Refute it at one input. -/
def condTellsWrong : ChangeSpec := { name := "condTells", fn := fun _ => fun
  | [d] => { results := [.lit (.bool false)], args := [d] }
  | _ => none }
def CondTellsWrongFalsely : Prop := condTellsRow.holds Try.pinned (OpenSpec.ofChange condTellsWrong)

/-- 'retiarylaw04.CondCopies': WHATEVER THE INPUT: true; the input reads as it did. -/
def condCopiesSpec : ChangeSpec := { name := "condCopies", fn := fun _ => fun
  | [d1, d2] => { results := [.lit (.bool true)], args := [d1, d2] }
  | _ => none }
def condCopiesRow : OpenClaim := { program := "ytokpgpkdhcehbaa", sum := "a9739c318932a6e8653c8823d692777c1ad13daf24fa09b1875e530dea67f3fe", func := "retiary/retiarylaw04.CondCopies", spec := "condCopies", unfollowed := true, recurses := true, loops := true, apart := false }
def CondCopiesSaid : Prop := condCopiesRow.holds Try.pinned (OpenSpec.ofChange condCopiesSpec)

/-- ITS FALSE NEIGHBOUR: 'it returns false'. Refute it at one input. -/
def condCopiesWrong : ChangeSpec := { name := "condCopies", fn := fun _ => fun
  | [d1, d2] => { results := [.lit (.bool false)], args := [d1, d2] }
  | _ => none }
def CondCopiesWrongFalsely : Prop := condCopiesRow.holds Try.pinned (OpenSpec.ofChange condCopiesWrong)

/-- 'retiarylaw04.CondHigher': WHATEVER THE INPUT: true; the input reads as it did. -/
def condHigherSpec : ChangeSpec := { name := "condHigher", fn := fun _ => fun
  | [d] => { results := [.lit (.bool true)], args := [d] }
  | _ => none }
def condHigherRow : OpenClaim := { program := "ytokpgpkdhcehbaa", sum := "a9739c318932a6e8653c8823d692777c1ad13daf24fa09b1875e530dea67f3fe", func := "retiary/retiarylaw04.CondHigher", spec := "condHigher", recurses := true, loops := true, apart := false }
def CondHigherSaid : Prop := condHigherRow.holds Try.pinned (OpenSpec.ofChange condHigherSpec)

/-- ITS FALSE NEIGHBOUR: 'it returns false'. Refute it at one input. -/
def condHigherWrong : ChangeSpec := { name := "condHigher", fn := fun _ => fun
  | [d] => { results := [.lit (.bool false)], args := [d] }
  | _ => none }
def CondHigherWrongFalsely : Prop := condHigherRow.holds Try.pinned (OpenSpec.ofChange condHigherWrong)

/- THE SECOND FORM. 'bulk': how many values and letters a reading holds, each counted each time it is reached (what is shared counts as often as it is met; a slice's spare places count too). A statement '..UptoSaid' is the law's where the arguments, and the package variables that the reading takes, are together of bulk at most 1048576: NARROWER than '..Said'. Prove '..Said' where nothing that the law and all that it calls make is longer than what came in: it says more and counts as full. Else prove '..UptoSaid'. A law counts once. -/
mutual
def uptoBulk {H : Type} : DataW H → Nat
  | .lit (.string bytes) => bytes.length + 1
  | .lit _ => 1
  | .nil => 1
  | .ptr d => uptoBulk d + 1
  | .slice elems spare => uptoBulkAll elems + uptoBulkAll spare + 1
  | .agg parts => uptoBulkAll parts + 1
  | .iface _ d => uptoBulk d + 1
  | .map entries => uptoBulkEntries entries + 1
  | .held _ => 1
def uptoBulkAll {H : Type} : List (DataW H) → Nat
  | [] => 0
  | d :: r => uptoBulk d + uptoBulkAll r
def uptoBulkEntries {H : Type} : List (Lit × DataW H) → Nat
  | [] => 0
  | x :: r => uptoBulkEntry x + uptoBulkEntries r
def uptoBulkEntry {H : Type} : Lit × DataW H → Nat
  | (.string bytes, d) => bytes.length + uptoBulk d + 1
  | (_, d) => uptoBulk d + 1
 end
def uptoSmall : (H : Type) → List (DataW H) → Bool := fun _ ds => decide (uptoBulkAll ds ≤ 1048576)
def OpenSpec.upto (s : _root_.Go.ChangeSpec) : _root_.Go.OpenSpec := { _root_.Go.OpenSpec.ofChange s with cond := some uptoSmall }

/-- 'retiarylaw04.CondChecks', WHERE WHAT IT READS IS OF BULK AT MOST 1048576: true; the input reads as it did. -/
def condChecksUptoRow : OpenClaim := { program := "ytokpgpkdhcehbaa", sum := "a9739c318932a6e8653c8823d692777c1ad13daf24fa09b1875e530dea67f3fe", func := "retiary/retiarylaw04.CondChecks", spec := "condChecks", recurses := true, loops := true, apart := false, narrowed := true }
def CondChecksUptoSaid : Prop := condChecksUptoRow.holds Try.pinned (OpenSpec.upto condChecksSpec)

/-- 'retiarylaw04.CondTells', WHERE WHAT IT READS IS OF BULK AT MOST 1048576: true; the input reads as it did. -/
def condTellsUptoRow : OpenClaim := { program := "ytokpgpkdhcehbaa", sum := "a9739c318932a6e8653c8823d692777c1ad13daf24fa09b1875e530dea67f3fe", func := "retiary/retiarylaw04.CondTells", spec := "condTells", recurses := true, loops := true, apart := false, narrowed := true }
def CondTellsUptoSaid : Prop := condTellsUptoRow.holds Try.pinned (OpenSpec.upto condTellsSpec)

/-- 'retiarylaw04.CondCopies', WHERE WHAT IT READS IS OF BULK AT MOST 1048576: true; the input reads as it did. -/
def condCopiesUptoRow : OpenClaim := { program := "ytokpgpkdhcehbaa", sum := "a9739c318932a6e8653c8823d692777c1ad13daf24fa09b1875e530dea67f3fe", func := "retiary/retiarylaw04.CondCopies", spec := "condCopies", unfollowed := true, recurses := true, loops := true, apart := false, narrowed := true }
def CondCopiesUptoSaid : Prop := condCopiesUptoRow.holds Try.pinned (OpenSpec.upto condCopiesSpec)

/-- 'retiarylaw04.CondHigher', WHERE WHAT IT READS IS OF BULK AT MOST 1048576: true; the input reads as it did. -/
def condHigherUptoRow : OpenClaim := { program := "ytokpgpkdhcehbaa", sum := "a9739c318932a6e8653c8823d692777c1ad13daf24fa09b1875e530dea67f3fe", func := "retiary/retiarylaw04.CondHigher", spec := "condHigher", recurses := true, loops := true, apart := false, narrowed := true }
def CondHigherUptoSaid : Prop := condHigherUptoRow.holds Try.pinned (OpenSpec.upto condHigherSpec)

end Rows
end Go.Proofs.Ytokpgpkdhcehbaa
