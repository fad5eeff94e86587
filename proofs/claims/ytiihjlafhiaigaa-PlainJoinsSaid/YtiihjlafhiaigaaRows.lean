/-
  NARROWER THAN 'FOR EVERY INPUT', by the rows' own cells (each row's printed sentence says how): PlainTerms: loops · PlainSteps: loops · PlainAny: loops · PlainMore: loops · PlainJoins: loops · PlainNone: loops.
  DERIVED. THE GIVEN ROWS OF THIS SEAT. 6 by the template 'for every input the law returns true; each argument reads behind the call as it read before'; 0 by the template 'total and deterministic' (their statements: YtiihjlafhiaigaaTotals.lean).
  GIVEN WITH THE SEED: the statements are not yours to turn. If you find one false, say at which input.
  Laid BY PROGRAM, IN A SANDBOX (cutbox-rows.mjs): the forced cells as the released guide's own fill.sh prints them over the translation 27061f24665ecc89… (all of the seat's roots in one cut). By AI agents, Wed Nov 11 2026. No macro, syntax, notation, axiom, sorry.
-/
import Derived.Test.YtiihjlafhiaigaaChecked
import GoSem.Claim
import GoSem.ClaimJoined
import GoSem.ClaimMapViews
import Derived.JoinedTies
import Derived.KernelRfl
namespace Go.Proofs.Ytiihjlafhiaigaa
/- THE CELL 'sum', in the pinned program and in every row, IS THE sha256 OF THE DUMP (.gsa) THAT YtiihjlafhiaigaaProg.lean LOADS. Nothing in Lean hashes anything: it is a label: what it is worth is what the hold of that sum in a sandbox is worth. -/
noncomputable def Try.pinned : Pinned := { name := "ytiihjlafhiaigaa", sum := "27061f24665ecc8968429323b7a8a484a2f9f0a8e8394433c576a3316e9a2c81", checked := Try.checked }
namespace Rows
def none {H : Type} : Left H := { results := [], args := [] }

/-- 'retiarylaw14.PlainTerms': WHATEVER THE INPUT: true; the input reads as it did. -/
def plainTermsSpec : ChangeSpec := { name := "plainTerms", fn := fun _ => fun
  | [d1, d2] => { results := [.lit (.bool true)], args := [d1, d2] }
  | _ => none }
def plainTermsRow : OpenClaim := { program := "ytiihjlafhiaigaa", sum := "27061f24665ecc8968429323b7a8a484a2f9f0a8e8394433c576a3316e9a2c81", func := "retiary/retiarylaw14.PlainTerms", spec := "plainTerms", unfollowed := true, recurses := true, loops := true, apart := false }
def PlainTermsSaid : Prop := plainTermsRow.holds Try.pinned (OpenSpec.ofChange plainTermsSpec)

/-- ITS FALSE NEIGHBOUR: 'it returns false'. Refute it at one input. -/
def plainTermsWrong : ChangeSpec := { name := "plainTerms", fn := fun _ => fun
  | [d1, d2] => { results := [.lit (.bool false)], args := [d1, d2] }
  | _ => none }
def PlainTermsWrongFalsely : Prop := plainTermsRow.holds Try.pinned (OpenSpec.ofChange plainTermsWrong)

/-- 'retiarylaw14.PlainSteps': WHATEVER THE INPUT: true; the input reads as it did. -/
def plainStepsSpec : ChangeSpec := { name := "plainSteps", fn := fun _ => fun
  | [d1, d2] => { results := [.lit (.bool true)], args := [d1, d2] }
  | _ => none }
def plainStepsRow : OpenClaim := { program := "ytiihjlafhiaigaa", sum := "27061f24665ecc8968429323b7a8a484a2f9f0a8e8394433c576a3316e9a2c81", func := "retiary/retiarylaw14.PlainSteps", spec := "plainSteps", unfollowed := true, recurses := true, loops := true, apart := false }
def PlainStepsSaid : Prop := plainStepsRow.holds Try.pinned (OpenSpec.ofChange plainStepsSpec)

/-- ITS FALSE NEIGHBOUR: 'it returns false'. Refute it at one input. -/
def plainStepsWrong : ChangeSpec := { name := "plainSteps", fn := fun _ => fun
  | [d1, d2] => { results := [.lit (.bool false)], args := [d1, d2] }
  | _ => none }
def PlainStepsWrongFalsely : Prop := plainStepsRow.holds Try.pinned (OpenSpec.ofChange plainStepsWrong)

/-- 'retiarylaw14.PlainAny': WHATEVER THE INPUT: true; the input reads as it did. -/
def plainAnySpec : ChangeSpec := { name := "plainAny", fn := fun _ => fun
  | [d1, d2, d3] => { results := [.lit (.bool true)], args := [d1, d2, d3] }
  | _ => none }
def plainAnyRow : OpenClaim := { program := "ytiihjlafhiaigaa", sum := "27061f24665ecc8968429323b7a8a484a2f9f0a8e8394433c576a3316e9a2c81", func := "retiary/retiarylaw14.PlainAny", spec := "plainAny", unfollowed := true, recurses := true, loops := true, apart := false }
def PlainAnySaid : Prop := plainAnyRow.holds Try.pinned (OpenSpec.ofChange plainAnySpec)

/-- ITS FALSE NEIGHBOUR: 'it returns false'. Refute it at one input. -/
def plainAnyWrong : ChangeSpec := { name := "plainAny", fn := fun _ => fun
  | [d1, d2, d3] => { results := [.lit (.bool false)], args := [d1, d2, d3] }
  | _ => none }
def PlainAnyWrongFalsely : Prop := plainAnyRow.holds Try.pinned (OpenSpec.ofChange plainAnyWrong)

/-- 'retiarylaw14.PlainMore': WHATEVER THE INPUT: true; the input reads as it did. -/
def plainMoreSpec : ChangeSpec := { name := "plainMore", fn := fun _ => fun
  | [d1, d2] => { results := [.lit (.bool true)], args := [d1, d2] }
  | _ => none }
def plainMoreRow : OpenClaim := { program := "ytiihjlafhiaigaa", sum := "27061f24665ecc8968429323b7a8a484a2f9f0a8e8394433c576a3316e9a2c81", func := "retiary/retiarylaw14.PlainMore", spec := "plainMore", unfollowed := true, recurses := true, loops := true, apart := false }
def PlainMoreSaid : Prop := plainMoreRow.holds Try.pinned (OpenSpec.ofChange plainMoreSpec)

/-- ITS FALSE NEIGHBOUR: 'it returns false'. Refute it at one input. -/
def plainMoreWrong : ChangeSpec := { name := "plainMore", fn := fun _ => fun
  | [d1, d2] => { results := [.lit (.bool false)], args := [d1, d2] }
  | _ => none }
def PlainMoreWrongFalsely : Prop := plainMoreRow.holds Try.pinned (OpenSpec.ofChange plainMoreWrong)

/-- 'retiarylaw14.PlainJoins': WHATEVER THE INPUT: true; the input reads as it did. -/
def plainJoinsSpec : ChangeSpec := { name := "plainJoins", fn := fun _ => fun
  | [d1, d2] => { results := [.lit (.bool true)], args := [d1, d2] }
  | _ => none }
def plainJoinsRow : OpenClaim := { program := "ytiihjlafhiaigaa", sum := "27061f24665ecc8968429323b7a8a484a2f9f0a8e8394433c576a3316e9a2c81", func := "retiary/retiarylaw14.PlainJoins", spec := "plainJoins", unfollowed := true, recurses := true, loops := true, apart := false }
def PlainJoinsSaid : Prop := plainJoinsRow.holds Try.pinned (OpenSpec.ofChange plainJoinsSpec)

/-- ITS FALSE NEIGHBOUR: 'it returns false'. Refute it at one input. -/
def plainJoinsWrong : ChangeSpec := { name := "plainJoins", fn := fun _ => fun
  | [d1, d2] => { results := [.lit (.bool false)], args := [d1, d2] }
  | _ => none }
def PlainJoinsWrongFalsely : Prop := plainJoinsRow.holds Try.pinned (OpenSpec.ofChange plainJoinsWrong)

/-- 'retiarylaw14.PlainNone': WHATEVER THE INPUT: true; the input reads as it did. -/
def plainNoneSpec : ChangeSpec := { name := "plainNone", fn := fun _ => fun
  | [d] => { results := [.lit (.bool true)], args := [d] }
  | _ => none }
def plainNoneRow : OpenClaim := { program := "ytiihjlafhiaigaa", sum := "27061f24665ecc8968429323b7a8a484a2f9f0a8e8394433c576a3316e9a2c81", func := "retiary/retiarylaw14.PlainNone", spec := "plainNone", unfollowed := true, recurses := true, loops := true, apart := false }
def PlainNoneSaid : Prop := plainNoneRow.holds Try.pinned (OpenSpec.ofChange plainNoneSpec)

/-- ITS FALSE NEIGHBOUR: 'it returns false'. Refute it at one input. -/
def plainNoneWrong : ChangeSpec := { name := "plainNone", fn := fun _ => fun
  | [d] => { results := [.lit (.bool false)], args := [d] }
  | _ => none }
def PlainNoneWrongFalsely : Prop := plainNoneRow.holds Try.pinned (OpenSpec.ofChange plainNoneWrong)

/- THE SECOND FORM. 'bulk': how many values and letters a reading holds, each counted each time it is reached (what is shared counts as often as it is met; a slice's spare places count too). A statement '..UptoSaid' is the law's where the arguments, and the package variables that the reading takes, are together of bulk at most 1048576: NARROWER than '..Said'. Prove '..Said' where nothing that the law and all that it calls make is longer than what came in: it says more and counts as full. Else prove '..UptoSaid'. A law counts once. -/
mutual
def uptoBulk {H : Type} : DataW H → Nat
  | .lit (.string bytes) => bytes.length + 1
  | .lit _ => 1
  | .nil => 1
  | .ptr d => uptoBulk d + 1
  | .slice elems spare => uptoBulkAll elems + uptoBulkAll spare + 1
  | .agg parts => uptoBulkAll parts + 1
  | .iface _ d => uptoBulk d + 1
  | .map entries => uptoBulkEntries entries + 1
  | .held _ => 1
def uptoBulkAll {H : Type} : List (DataW H) → Nat
  | [] => 0
  | d :: r => uptoBulk d + uptoBulkAll r
def uptoBulkEntries {H : Type} : List (Lit × DataW H) → Nat
  | [] => 0
  | x :: r => uptoBulkEntry x + uptoBulkEntries r
def uptoBulkEntry {H : Type} : Lit × DataW H → Nat
  | (.string bytes, d) => bytes.length + uptoBulk d + 1
  | (_, d) => uptoBulk d + 1
 end
def uptoSmall : (H : Type) → List (DataW H) → Bool := fun _ ds => decide (uptoBulkAll ds ≤ 1048576)
def OpenSpec.upto (s : _root_.Go.ChangeSpec) : _root_.Go.OpenSpec := { _root_.Go.OpenSpec.ofChange s with cond := some uptoSmall }

/-- 'retiarylaw14.PlainTerms', WHERE WHAT IT READS IS OF BULK AT MOST 1048576: true; the input reads as it did. -/
def plainTermsUptoRow : OpenClaim := { program := "ytiihjlafhiaigaa", sum := "27061f24665ecc8968429323b7a8a484a2f9f0a8e8394433c576a3316e9a2c81", func := "retiary/retiarylaw14.PlainTerms", spec := "plainTerms", unfollowed := true, recurses := true, loops := true, apart := false, narrowed := true }
def PlainTermsUptoSaid : Prop := plainTermsUptoRow.holds Try.pinned (OpenSpec.upto plainTermsSpec)

/-- 'retiarylaw14.PlainSteps', WHERE WHAT IT READS IS OF BULK AT MOST 1048576: true; the input reads as it did. -/
def plainStepsUptoRow : OpenClaim := { program := "ytiihjlafhiaigaa", sum := "27061f24665ecc8968429323b7a8a484a2f9f0a8e8394433c576a3316e9a2c81", func := "retiary/retiarylaw14.PlainSteps", spec := "plainSteps", unfollowed := true, recurses := true, loops := true, apart := false, narrowed := true }
def PlainStepsUptoSaid : Prop := plainStepsUptoRow.holds Try.pinned (OpenSpec.upto plainStepsSpec)

/-- 'retiarylaw14.PlainAny', WHERE WHAT IT READS IS OF BULK AT MOST 1048576: true; the input reads as it did. -/
def plainAnyUptoRow : OpenClaim := { program := "ytiihjlafhiaigaa", sum := "27061f24665ecc8968429323b7a8a484a2f9f0a8e8394433c576a3316e9a2c81", func := "retiary/retiarylaw14.PlainAny", spec := "plainAny", unfollowed := true, recurses := true, loops := true, apart := false, narrowed := true }
def PlainAnyUptoSaid : Prop := plainAnyUptoRow.holds Try.pinned (OpenSpec.upto plainAnySpec)

/-- 'retiarylaw14.PlainMore', WHERE WHAT IT READS IS OF BULK AT MOST 1048576: true; the input reads as it did. -/
def plainMoreUptoRow : OpenClaim := { program := "ytiihjlafhiaigaa", sum := "27061f24665ecc8968429323b7a8a484a2f9f0a8e8394433c576a3316e9a2c81", func := "retiary/retiarylaw14.PlainMore", spec := "plainMore", unfollowed := true, recurses := true, loops := true, apart := false, narrowed := true }
def PlainMoreUptoSaid : Prop := plainMoreUptoRow.holds Try.pinned (OpenSpec.upto plainMoreSpec)

/-- 'retiarylaw14.PlainJoins', WHERE WHAT IT READS IS OF BULK AT MOST 1048576: true; the input reads as it did. -/
def plainJoinsUptoRow : OpenClaim := { program := "ytiihjlafhiaigaa", sum := "27061f24665ecc8968429323b7a8a484a2f9f0a8e8394433c576a3316e9a2c81", func := "retiary/retiarylaw14.PlainJoins", spec := "plainJoins", unfollowed := true, recurses := true, loops := true, apart := false, narrowed := true }
def PlainJoinsUptoSaid : Prop := plainJoinsUptoRow.holds Try.pinned (OpenSpec.upto plainJoinsSpec)

/-- 'retiarylaw14.PlainNone', WHERE WHAT IT READS IS OF BULK AT MOST 1048576: true; the input reads as it did. -/
def plainNoneUptoRow : OpenClaim := { program := "ytiihjlafhiaigaa", sum := "27061f24665ecc8968429323b7a8a484a2f9f0a8e8394433c576a3316e9a2c81", func := "retiary/retiarylaw14.PlainNone", spec := "plainNone", unfollowed := true, recurses := true, loops := true, apart := false, narrowed := true }
def PlainNoneUptoSaid : Prop := plainNoneUptoRow.holds Try.pinned (OpenSpec.upto plainNoneSpec)

end Rows
end Go.Proofs.Ytiihjlafhiaigaa
