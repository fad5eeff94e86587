/-
  No cell of these rows narrows 'for every input' (looked for: loops, veiled, ifaces, maps, wideKeys, modest, calm, conditions, laid).
  DERIVED. THE GIVEN ROWS OF THIS SEAT. 4 by the template 'for every input the law returns true; each argument reads behind the call as it read before'; 0 by the template 'total and deterministic' (their statements: YtpjfpmagmclldaaTotals.lean).
  GIVEN WITH THE SEED: the statements are not yours to turn. If you find one false, say at which input.
  Laid BY PROGRAM, IN A SANDBOX (cutbox-rows.mjs): the forced cells as the released guide's own fill.sh prints them over the translation 6989f5a5d4e5614d… (all of the seat's roots in one cut). By AI agents, Wed Nov 11 2026. No macro, syntax, notation, axiom, sorry.
-/
import Derived.Test.YtpjfpmagmclldaaChecked
import GoSem.Claim
import GoSem.ClaimJoined
import GoSem.ClaimMapViews
import Derived.JoinedTies
import Derived.KernelRfl
namespace Go.Proofs.Ytpjfpmagmclldaa
/- THE CELL 'sum', in the pinned program and in every row, IS THE sha256 OF THE DUMP (.gsa) THAT YtpjfpmagmclldaaProg.lean LOADS. Nothing in Lean hashes anything: it is a label: what it is worth is what the hold of that sum in a sandbox is worth. -/
noncomputable def Try.pinned : Pinned := { name := "ytpjfpmagmclldaa", sum := "6989f5a5d4e5614ddd8e2a2660fcc574bbad68d10fefaecf06d021c5dc27d522", checked := Try.checked }
namespace Rows
def none {H : Type} : Left H := { results := [], args := [] }

/-- 'retiarylaw09.ListPlays': WHATEVER THE INPUT: true; the input reads as it did. -/
def listPlaysSpec : ChangeSpec := { name := "listPlays", fn := fun _ => fun
  | [d] => { results := [.lit (.bool true)], args := [d] }
  | _ => none }
def listPlaysRow : OpenClaim := { program := "ytpjfpmagmclldaa", sum := "6989f5a5d4e5614ddd8e2a2660fcc574bbad68d10fefaecf06d021c5dc27d522", func := "retiary/retiarylaw09.ListPlays", spec := "listPlays", apart := false }
def ListPlaysSaid : Prop := listPlaysRow.holds Try.pinned (OpenSpec.ofChange listPlaysSpec)

/-- ITS FALSE NEIGHBOUR: 'it returns false'. Refute it at one input. -/
def listPlaysWrong : ChangeSpec := { name := "listPlays", fn := fun _ => fun
  | [d] => { results := [.lit (.bool false)], args := [d] }
  | _ => none }
def ListPlaysWrongFalsely : Prop := listPlaysRow.holds Try.pinned (OpenSpec.ofChange listPlaysWrong)

/-- 'retiarylaw09.ListAll': WHATEVER THE INPUT: true; the input reads as it did. -/
def listAllSpec : ChangeSpec := { name := "listAll", fn := fun _ => fun
  | [d] => { results := [.lit (.bool true)], args := [d] }
  | _ => none }
def listAllRow : OpenClaim := { program := "ytpjfpmagmclldaa", sum := "6989f5a5d4e5614ddd8e2a2660fcc574bbad68d10fefaecf06d021c5dc27d522", func := "retiary/retiarylaw09.ListAll", spec := "listAll", unfollowed := true, recurses := true, apart := false }
def ListAllSaid : Prop := listAllRow.holds Try.pinned (OpenSpec.ofChange listAllSpec)

/-- ITS FALSE NEIGHBOUR: 'it returns false'. Refute it at one input. -/
def listAllWrong : ChangeSpec := { name := "listAll", fn := fun _ => fun
  | [d] => { results := [.lit (.bool false)], args := [d] }
  | _ => none }
def ListAllWrongFalsely : Prop := listAllRow.holds Try.pinned (OpenSpec.ofChange listAllWrong)

/-- 'retiarylaw09.ListTypes': WHATEVER THE INPUT: true; the input reads as it did. -/
def listTypesSpec : ChangeSpec := { name := "listTypes", fn := fun _ => fun
  | [d1, d2] => { results := [.lit (.bool true)], args := [d1, d2] }
  | _ => none }
def listTypesRow : OpenClaim := { program := "ytpjfpmagmclldaa", sum := "6989f5a5d4e5614ddd8e2a2660fcc574bbad68d10fefaecf06d021c5dc27d522", func := "retiary/retiarylaw09.ListTypes", spec := "listTypes", apart := false }
def ListTypesSaid : Prop := listTypesRow.holds Try.pinned (OpenSpec.ofChange listTypesSpec)

/-- ITS FALSE NEIGHBOUR: 'it returns false'. Refute it at one input. -/
def listTypesWrong : ChangeSpec := { name := "listTypes", fn := fun _ => fun
  | [d1, d2] => { results := [.lit (.bool false)], args := [d1, d2] }
  | _ => none }
def ListTypesWrongFalsely : Prop := listTypesRow.holds Try.pinned (OpenSpec.ofChange listTypesWrong)

/-- 'retiarylaw09.ListTurns': WHATEVER THE INPUT: true; the input reads as it did. -/
def listTurnsSpec : ChangeSpec := { name := "listTurns", fn := fun _ => fun
  | [d] => { results := [.lit (.bool true)], args := [d] }
  | _ => none }
def listTurnsRow : OpenClaim := { program := "ytpjfpmagmclldaa", sum := "6989f5a5d4e5614ddd8e2a2660fcc574bbad68d10fefaecf06d021c5dc27d522", func := "retiary/retiarylaw09.ListTurns", spec := "listTurns", apart := false }
def ListTurnsSaid : Prop := listTurnsRow.holds Try.pinned (OpenSpec.ofChange listTurnsSpec)

/-- ITS FALSE NEIGHBOUR: 'it returns false'. Refute it at one input. -/
def listTurnsWrong : ChangeSpec := { name := "listTurns", fn := fun _ => fun
  | [d] => { results := [.lit (.bool false)], args := [d] }
  | _ => none }
def ListTurnsWrongFalsely : Prop := listTurnsRow.holds Try.pinned (OpenSpec.ofChange listTurnsWrong)

/- THE SECOND FORM. 'bulk': how many values and letters a reading holds, each counted each time it is reached (what is shared counts as often as it is met; a slice's spare places count too). A statement '..UptoSaid' is the law's where the arguments, and the package variables that the reading takes, are together of bulk at most 1048576: NARROWER than '..Said'. Prove '..Said' where nothing that the law and all that it calls make is longer than what came in: it says more and counts as full. Else prove '..UptoSaid'. A law counts once. -/
mutual
def uptoBulk {H : Type} : DataW H → Nat
  | .lit (.string bytes) => bytes.length + 1
  | .lit _ => 1
  | .nil => 1
  | .ptr d => uptoBulk d + 1
  | .slice elems spare => uptoBulkAll elems + uptoBulkAll spare + 1
  | .agg parts => uptoBulkAll parts + 1
  | .iface _ d => uptoBulk d + 1
  | .map entries => uptoBulkEntries entries + 1
  | .held _ => 1
def uptoBulkAll {H : Type} : List (DataW H) → Nat
  | [] => 0
  | d :: r => uptoBulk d + uptoBulkAll r
def uptoBulkEntries {H : Type} : List (Lit × DataW H) → Nat
  | [] => 0
  | x :: r => uptoBulkEntry x + uptoBulkEntries r
def uptoBulkEntry {H : Type} : Lit × DataW H → Nat
  | (.string bytes, d) => bytes.length + uptoBulk d + 1
  | (_, d) => uptoBulk d + 1
 end
def uptoSmall : (H : Type) → List (DataW H) → Bool := fun _ ds => decide (uptoBulkAll ds ≤ 1048576)
def OpenSpec.upto (s : _root_.Go.ChangeSpec) : _root_.Go.OpenSpec := { _root_.Go.OpenSpec.ofChange s with cond := some uptoSmall }

/-- 'retiarylaw09.ListPlays', WHERE WHAT IT READS IS OF BULK AT MOST 1048576: true; the input reads as it did. -/
def listPlaysUptoRow : OpenClaim := { program := "ytpjfpmagmclldaa", sum := "6989f5a5d4e5614ddd8e2a2660fcc574bbad68d10fefaecf06d021c5dc27d522", func := "retiary/retiarylaw09.ListPlays", spec := "listPlays", apart := false, narrowed := true }
def ListPlaysUptoSaid : Prop := listPlaysUptoRow.holds Try.pinned (OpenSpec.upto listPlaysSpec)

/-- 'retiarylaw09.ListAll', WHERE WHAT IT READS IS OF BULK AT MOST 1048576: true; the input reads as it did. -/
def listAllUptoRow : OpenClaim := { program := "ytpjfpmagmclldaa", sum := "6989f5a5d4e5614ddd8e2a2660fcc574bbad68d10fefaecf06d021c5dc27d522", func := "retiary/retiarylaw09.ListAll", spec := "listAll", unfollowed := true, recurses := true, apart := false, narrowed := true }
def ListAllUptoSaid : Prop := listAllUptoRow.holds Try.pinned (OpenSpec.upto listAllSpec)

/-- 'retiarylaw09.ListTypes', WHERE WHAT IT READS IS OF BULK AT MOST 1048576: true; the input reads as it did. -/
def listTypesUptoRow : OpenClaim := { program := "ytpjfpmagmclldaa", sum := "6989f5a5d4e5614ddd8e2a2660fcc574bbad68d10fefaecf06d021c5dc27d522", func := "retiary/retiarylaw09.ListTypes", spec := "listTypes", apart := false, narrowed := true }
def ListTypesUptoSaid : Prop := listTypesUptoRow.holds Try.pinned (OpenSpec.upto listTypesSpec)

/-- 'retiarylaw09.ListTurns', WHERE WHAT IT READS IS OF BULK AT MOST 1048576: true; the input reads as it did. -/
def listTurnsUptoRow : OpenClaim := { program := "ytpjfpmagmclldaa", sum := "6989f5a5d4e5614ddd8e2a2660fcc574bbad68d10fefaecf06d021c5dc27d522", func := "retiary/retiarylaw09.ListTurns", spec := "listTurns", apart := false, narrowed := true }
def ListTurnsUptoSaid : Prop := listTurnsUptoRow.holds Try.pinned (OpenSpec.upto listTurnsSpec)

end Rows
end Go.Proofs.Ytpjfpmagmclldaa
