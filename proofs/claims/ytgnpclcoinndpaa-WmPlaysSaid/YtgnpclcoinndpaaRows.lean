/-
  No cell of these rows narrows 'for every input' (looked for: loops, veiled, ifaces, maps, wideKeys, modest, calm, conditions, laid).
  DERIVED. THE GIVEN ROWS OF THIS SEAT. 3 by the template 'for every input the law returns true; each argument reads behind the call as it read before'; 0 by the template 'total and deterministic' (their statements: YtgnpclcoinndpaaTotals.lean).
  GIVEN WITH THE SEED: the statements are not yours to turn. If you find one false, say at which input.
  Laid BY PROGRAM, IN A SANDBOX (cutbox-rows.mjs): the forced cells as the released guide's own fill.sh prints them over the translation 14812798185967b7… (all of the seat's roots in one cut). By AI agents, Wed Nov 11 2026. No macro, syntax, notation, axiom, sorry.
-/
import Derived.Test.YtgnpclcoinndpaaChecked
import GoSem.Claim
import GoSem.ClaimJoined
import GoSem.ClaimMapViews
import Derived.JoinedTies
import Derived.KernelRfl
namespace Go.Proofs.Ytgnpclcoinndpaa
/- THE CELL 'sum', in the pinned program and in every row, IS THE sha256 OF THE DUMP (.gsa) THAT YtgnpclcoinndpaaProg.lean LOADS. Nothing in Lean hashes anything: it is a label: what it is worth is what the hold of that sum in a sandbox is worth. -/
noncomputable def Try.pinned : Pinned := { name := "ytgnpclcoinndpaa", sum := "14812798185967b7b45636d7216cfaedd82afbacb8fd131543beabdc98b65daa", checked := Try.checked }
namespace Rows
def none {H : Type} : Left H := { results := [], args := [] }

/-- 'retiarylaw11.WmPlays': WHATEVER THE INPUT: true; the input reads as it did. -/
def wmPlaysSpec : ChangeSpec := { name := "wmPlays", fn := fun _ => fun
  | [d1, d2] => { results := [.lit (.bool true)], args := [d1, d2] }
  | _ => none }
def wmPlaysRow : OpenClaim := { program := "ytgnpclcoinndpaa", sum := "14812798185967b7b45636d7216cfaedd82afbacb8fd131543beabdc98b65daa", func := "retiary/retiarylaw11.WmPlays", spec := "wmPlays", unfollowed := true, recurses := true, apart := false }
def WmPlaysSaid : Prop := wmPlaysRow.holds Try.pinned (OpenSpec.ofChange wmPlaysSpec)

/-- ITS FALSE NEIGHBOUR: 'it returns false'. Refute it at one input. -/
def wmPlaysWrong : ChangeSpec := { name := "wmPlays", fn := fun _ => fun
  | [d1, d2] => { results := [.lit (.bool false)], args := [d1, d2] }
  | _ => none }
def WmPlaysWrongFalsely : Prop := wmPlaysRow.holds Try.pinned (OpenSpec.ofChange wmPlaysWrong)

/-- 'retiarylaw11.WmFull': WHATEVER THE INPUT: true; the input reads as it did. -/
def wmFullSpec : ChangeSpec := { name := "wmFull", fn := fun _ => fun
  | [d1, d2] => { results := [.lit (.bool true)], args := [d1, d2] }
  | _ => none }
def wmFullRow : OpenClaim := { program := "ytgnpclcoinndpaa", sum := "14812798185967b7b45636d7216cfaedd82afbacb8fd131543beabdc98b65daa", func := "retiary/retiarylaw11.WmFull", spec := "wmFull", apart := false }
def WmFullSaid : Prop := wmFullRow.holds Try.pinned (OpenSpec.ofChange wmFullSpec)

/-- ITS FALSE NEIGHBOUR: 'it returns false'. Refute it at one input. -/
def wmFullWrong : ChangeSpec := { name := "wmFull", fn := fun _ => fun
  | [d1, d2] => { results := [.lit (.bool false)], args := [d1, d2] }
  | _ => none }
def WmFullWrongFalsely : Prop := wmFullRow.holds Try.pinned (OpenSpec.ofChange wmFullWrong)

/-- 'retiarylaw11.WmIds': WHATEVER THE INPUT: true; the input reads as it did. -/
def wmIdsSpec : ChangeSpec := { name := "wmIds", fn := fun _ => fun
  | [d1, d2] => { results := [.lit (.bool true)], args := [d1, d2] }
  | _ => none }
def wmIdsRow : OpenClaim := { program := "ytgnpclcoinndpaa", sum := "14812798185967b7b45636d7216cfaedd82afbacb8fd131543beabdc98b65daa", func := "retiary/retiarylaw11.WmIds", spec := "wmIds", unfollowed := true, recurses := true, apart := false }
def WmIdsSaid : Prop := wmIdsRow.holds Try.pinned (OpenSpec.ofChange wmIdsSpec)

/-- ITS FALSE NEIGHBOUR: 'it returns false'. Refute it at one input. -/
def wmIdsWrong : ChangeSpec := { name := "wmIds", fn := fun _ => fun
  | [d1, d2] => { results := [.lit (.bool false)], args := [d1, d2] }
  | _ => none }
def WmIdsWrongFalsely : Prop := wmIdsRow.holds Try.pinned (OpenSpec.ofChange wmIdsWrong)

/- THE SECOND FORM. 'bulk': how many values and letters a reading holds, each counted each time it is reached (what is shared counts as often as it is met; a slice's spare places count too). A statement '..UptoSaid' is the law's where the arguments, and the package variables that the reading takes, are together of bulk at most 1048576: NARROWER than '..Said'. Prove '..Said' where nothing that the law and all that it calls make is longer than what came in: it says more and counts as full. Else prove '..UptoSaid'. A law counts once. -/
mutual
def uptoBulk {H : Type} : DataW H → Nat
  | .lit (.string bytes) => bytes.length + 1
  | .lit _ => 1
  | .nil => 1
  | .ptr d => uptoBulk d + 1
  | .slice elems spare => uptoBulkAll elems + uptoBulkAll spare + 1
  | .agg parts => uptoBulkAll parts + 1
  | .iface _ d => uptoBulk d + 1
  | .map entries => uptoBulkEntries entries + 1
  | .held _ => 1
def uptoBulkAll {H : Type} : List (DataW H) → Nat
  | [] => 0
  | d :: r => uptoBulk d + uptoBulkAll r
def uptoBulkEntries {H : Type} : List (Lit × DataW H) → Nat
  | [] => 0
  | x :: r => uptoBulkEntry x + uptoBulkEntries r
def uptoBulkEntry {H : Type} : Lit × DataW H → Nat
  | (.string bytes, d) => bytes.length + uptoBulk d + 1
  | (_, d) => uptoBulk d + 1
 end
def uptoSmall : (H : Type) → List (DataW H) → Bool := fun _ ds => decide (uptoBulkAll ds ≤ 1048576)
def OpenSpec.upto (s : _root_.Go.ChangeSpec) : _root_.Go.OpenSpec := { _root_.Go.OpenSpec.ofChange s with cond := some uptoSmall }

/-- 'retiarylaw11.WmPlays', WHERE WHAT IT READS IS OF BULK AT MOST 1048576: true; the input reads as it did. -/
def wmPlaysUptoRow : OpenClaim := { program := "ytgnpclcoinndpaa", sum := "14812798185967b7b45636d7216cfaedd82afbacb8fd131543beabdc98b65daa", func := "retiary/retiarylaw11.WmPlays", spec := "wmPlays", unfollowed := true, recurses := true, apart := false, narrowed := true }
def WmPlaysUptoSaid : Prop := wmPlaysUptoRow.holds Try.pinned (OpenSpec.upto wmPlaysSpec)

/-- 'retiarylaw11.WmFull', WHERE WHAT IT READS IS OF BULK AT MOST 1048576: true; the input reads as it did. -/
def wmFullUptoRow : OpenClaim := { program := "ytgnpclcoinndpaa", sum := "14812798185967b7b45636d7216cfaedd82afbacb8fd131543beabdc98b65daa", func := "retiary/retiarylaw11.WmFull", spec := "wmFull", apart := false, narrowed := true }
def WmFullUptoSaid : Prop := wmFullUptoRow.holds Try.pinned (OpenSpec.upto wmFullSpec)

/-- 'retiarylaw11.WmIds', WHERE WHAT IT READS IS OF BULK AT MOST 1048576: true; the input reads as it did. -/
def wmIdsUptoRow : OpenClaim := { program := "ytgnpclcoinndpaa", sum := "14812798185967b7b45636d7216cfaedd82afbacb8fd131543beabdc98b65daa", func := "retiary/retiarylaw11.WmIds", spec := "wmIds", unfollowed := true, recurses := true, apart := false, narrowed := true }
def WmIdsUptoSaid : Prop := wmIdsUptoRow.holds Try.pinned (OpenSpec.upto wmIdsSpec)

end Rows
end Go.Proofs.Ytgnpclcoinndpaa
