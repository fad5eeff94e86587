/-
  NARROWER THAN 'FOR EVERY INPUT', by the rows' own cells (each row's printed sentence says how): TrieBack: loops · TrieShares: loops · TrieOrder: loops.
  DERIVED. THE GIVEN ROWS OF THIS SEAT. 6 by the template 'for every input the law returns true; each argument reads behind the call as it read before'; 0 by the template 'total and deterministic' (their statements: YtodghgeghpbdlaaTotals.lean).
  GIVEN WITH THE SEED: the statements are not yours to turn. If you find one false, say at which input.
  Laid BY PROGRAM, IN A SANDBOX (cutbox-rows.mjs): the forced cells as the released guide's own fill.sh prints them over the translation 60e5a0b63ad10d52… (all of the seat's roots in one cut). By AI agents, Wed Nov 11 2026. No macro, syntax, notation, axiom, sorry.
-/
import Derived.Test.YtodghgeghpbdlaaChecked
import GoSem.Claim
import GoSem.ClaimJoined
import GoSem.ClaimMapViews
import Derived.JoinedTies
import Derived.KernelRfl
namespace Go.Proofs.Ytodghgeghpbdlaa
/- THE CELL 'sum', in the pinned program and in every row, IS THE sha256 OF THE DUMP (.gsa) THAT YtodghgeghpbdlaaProg.lean LOADS. Nothing in Lean hashes anything: it is a label: what it is worth is what the hold of that sum in a sandbox is worth. -/
noncomputable def Try.pinned : Pinned := { name := "ytodghgeghpbdlaa", sum := "60e5a0b63ad10d52faf6baa140c158591a644452ed8c3a3ff1bac0c0be1d3def", checked := Try.checked }
namespace Rows
def none {H : Type} : Left H := { results := [], args := [] }

/-- 'retiarylaw16.TrieBack': WHATEVER THE INPUT: true; the input reads as it did. -/
def trieBackSpec : ChangeSpec := { name := "trieBack", fn := fun _ => fun
  | [d1, d2] => { results := [.lit (.bool true)], args := [d1, d2] }
  | _ => none }
def trieBackRow : OpenClaim := { program := "ytodghgeghpbdlaa", sum := "60e5a0b63ad10d52faf6baa140c158591a644452ed8c3a3ff1bac0c0be1d3def", func := "retiary/retiarylaw16.TrieBack", spec := "trieBack", unfollowed := true, recurses := true, loops := true, plainKeys := false, apart := false }
def TrieBackSaid : Prop := trieBackRow.holds Try.pinned (OpenSpec.ofChange trieBackSpec)

/-- ITS FALSE NEIGHBOUR: 'it returns false'. Refute it at one input. -/
def trieBackWrong : ChangeSpec := { name := "trieBack", fn := fun _ => fun
  | [d1, d2] => { results := [.lit (.bool false)], args := [d1, d2] }
  | _ => none }
def TrieBackWrongFalsely : Prop := trieBackRow.holds Try.pinned (OpenSpec.ofChange trieBackWrong)

/-- 'retiarylaw16.TrieShares': WHATEVER THE INPUT: true; the input reads as it did. -/
def trieSharesSpec : ChangeSpec := { name := "trieShares", fn := fun _ => fun
  | [d] => { results := [.lit (.bool true)], args := [d] }
  | _ => none }
def trieSharesRow : OpenClaim := { program := "ytodghgeghpbdlaa", sum := "60e5a0b63ad10d52faf6baa140c158591a644452ed8c3a3ff1bac0c0be1d3def", func := "retiary/retiarylaw16.TrieShares", spec := "trieShares", unfollowed := true, recurses := true, loops := true, plainKeys := false, apart := false }
def TrieSharesSaid : Prop := trieSharesRow.holds Try.pinned (OpenSpec.ofChange trieSharesSpec)

/-- ITS FALSE NEIGHBOUR: 'it returns false'. Refute it at one input. -/
def trieSharesWrong : ChangeSpec := { name := "trieShares", fn := fun _ => fun
  | [d] => { results := [.lit (.bool false)], args := [d] }
  | _ => none }
def TrieSharesWrongFalsely : Prop := trieSharesRow.holds Try.pinned (OpenSpec.ofChange trieSharesWrong)

/-- 'retiarylaw16.TrieOrder': WHATEVER THE INPUT: true; the input reads as it did. -/
def trieOrderSpec : ChangeSpec := { name := "trieOrder", fn := fun _ => fun
  | [d] => { results := [.lit (.bool true)], args := [d] }
  | _ => none }
def trieOrderRow : OpenClaim := { program := "ytodghgeghpbdlaa", sum := "60e5a0b63ad10d52faf6baa140c158591a644452ed8c3a3ff1bac0c0be1d3def", func := "retiary/retiarylaw16.TrieOrder", spec := "trieOrder", unfollowed := true, recurses := true, loops := true, plainKeys := false, apart := false }
def TrieOrderSaid : Prop := trieOrderRow.holds Try.pinned (OpenSpec.ofChange trieOrderSpec)

/-- ITS FALSE NEIGHBOUR: 'it returns false'. Refute it at one input. -/
def trieOrderWrong : ChangeSpec := { name := "trieOrder", fn := fun _ => fun
  | [d] => { results := [.lit (.bool false)], args := [d] }
  | _ => none }
def TrieOrderWrongFalsely : Prop := trieOrderRow.holds Try.pinned (OpenSpec.ofChange trieOrderWrong)

/-- 'retiarylaw17.BlockPlays': WHATEVER THE INPUT: true; the input reads as it did. -/
def blockPlaysSpec : ChangeSpec := { name := "blockPlays", fn := fun _ => fun
  | [d] => { results := [.lit (.bool true)], args := [d] }
  | _ => none }
def blockPlaysRow : OpenClaim := { program := "ytodghgeghpbdlaa", sum := "60e5a0b63ad10d52faf6baa140c158591a644452ed8c3a3ff1bac0c0be1d3def", func := "retiary/retiarylaw17.BlockPlays", spec := "blockPlays", unfollowed := true, recurses := true, plainKeys := false, apart := false }
def BlockPlaysSaid : Prop := blockPlaysRow.holds Try.pinned (OpenSpec.ofChange blockPlaysSpec)

/-- ITS FALSE NEIGHBOUR: 'it returns false'. Refute it at one input. -/
def blockPlaysWrong : ChangeSpec := { name := "blockPlays", fn := fun _ => fun
  | [d] => { results := [.lit (.bool false)], args := [d] }
  | _ => none }
def BlockPlaysWrongFalsely : Prop := blockPlaysRow.holds Try.pinned (OpenSpec.ofChange blockPlaysWrong)

/-- 'retiarylaw17.BlockTypes': WHATEVER THE INPUT: true; the input reads as it did. -/
def blockTypesSpec : ChangeSpec := { name := "blockTypes", fn := fun _ => fun
  | [d1, d2] => { results := [.lit (.bool true)], args := [d1, d2] }
  | _ => none }
def blockTypesRow : OpenClaim := { program := "ytodghgeghpbdlaa", sum := "60e5a0b63ad10d52faf6baa140c158591a644452ed8c3a3ff1bac0c0be1d3def", func := "retiary/retiarylaw17.BlockTypes", spec := "blockTypes", unfollowed := true, recurses := true, plainKeys := false, apart := false }
def BlockTypesSaid : Prop := blockTypesRow.holds Try.pinned (OpenSpec.ofChange blockTypesSpec)

/-- ITS FALSE NEIGHBOUR: 'it returns false'. Refute it at one input. -/
def blockTypesWrong : ChangeSpec := { name := "blockTypes", fn := fun _ => fun
  | [d1, d2] => { results := [.lit (.bool false)], args := [d1, d2] }
  | _ => none }
def BlockTypesWrongFalsely : Prop := blockTypesRow.holds Try.pinned (OpenSpec.ofChange blockTypesWrong)

/-- 'retiarylaw17.BlockSums': WHATEVER THE INPUT: true; the input reads as it did. -/
def blockSumsSpec : ChangeSpec := { name := "blockSums", fn := fun _ => fun
  | [d] => { results := [.lit (.bool true)], args := [d] }
  | _ => none }
def blockSumsRow : OpenClaim := { program := "ytodghgeghpbdlaa", sum := "60e5a0b63ad10d52faf6baa140c158591a644452ed8c3a3ff1bac0c0be1d3def", func := "retiary/retiarylaw17.BlockSums", spec := "blockSums", unfollowed := true, recurses := true, plainKeys := false, apart := false }
def BlockSumsSaid : Prop := blockSumsRow.holds Try.pinned (OpenSpec.ofChange blockSumsSpec)

/-- ITS FALSE NEIGHBOUR: 'it returns false'. Refute it at one input. -/
def blockSumsWrong : ChangeSpec := { name := "blockSums", fn := fun _ => fun
  | [d] => { results := [.lit (.bool false)], args := [d] }
  | _ => none }
def BlockSumsWrongFalsely : Prop := blockSumsRow.holds Try.pinned (OpenSpec.ofChange blockSumsWrong)

/- THE SECOND FORM. 'bulk': how many values and letters a reading holds, each counted each time it is reached (what is shared counts as often as it is met; a slice's spare places count too). A statement '..UptoSaid' is the law's where the arguments, and the package variables that the reading takes, are together of bulk at most 1048576: NARROWER than '..Said'. Prove '..Said' where nothing that the law and all that it calls make is longer than what came in: it says more and counts as full. Else prove '..UptoSaid'. A law counts once. -/
mutual
def uptoBulk {H : Type} : DataW H → Nat
  | .lit (.string bytes) => bytes.length + 1
  | .lit _ => 1
  | .nil => 1
  | .ptr d => uptoBulk d + 1
  | .slice elems spare => uptoBulkAll elems + uptoBulkAll spare + 1
  | .agg parts => uptoBulkAll parts + 1
  | .iface _ d => uptoBulk d + 1
  | .map entries => uptoBulkEntries entries + 1
  | .held _ => 1
def uptoBulkAll {H : Type} : List (DataW H) → Nat
  | [] => 0
  | d :: r => uptoBulk d + uptoBulkAll r
def uptoBulkEntries {H : Type} : List (Lit × DataW H) → Nat
  | [] => 0
  | x :: r => uptoBulkEntry x + uptoBulkEntries r
def uptoBulkEntry {H : Type} : Lit × DataW H → Nat
  | (.string bytes, d) => bytes.length + uptoBulk d + 1
  | (_, d) => uptoBulk d + 1
 end
def uptoSmall : (H : Type) → List (DataW H) → Bool := fun _ ds => decide (uptoBulkAll ds ≤ 1048576)
def OpenSpec.upto (s : _root_.Go.ChangeSpec) : _root_.Go.OpenSpec := { _root_.Go.OpenSpec.ofChange s with cond := some uptoSmall }

/-- 'retiarylaw16.TrieBack', WHERE WHAT IT READS IS OF BULK AT MOST 1048576: true; the input reads as it did. -/
def trieBackUptoRow : OpenClaim := { program := "ytodghgeghpbdlaa", sum := "60e5a0b63ad10d52faf6baa140c158591a644452ed8c3a3ff1bac0c0be1d3def", func := "retiary/retiarylaw16.TrieBack", spec := "trieBack", unfollowed := true, recurses := true, loops := true, plainKeys := false, apart := false, narrowed := true }
def TrieBackUptoSaid : Prop := trieBackUptoRow.holds Try.pinned (OpenSpec.upto trieBackSpec)

/-- 'retiarylaw16.TrieShares', WHERE WHAT IT READS IS OF BULK AT MOST 1048576: true; the input reads as it did. -/
def trieSharesUptoRow : OpenClaim := { program := "ytodghgeghpbdlaa", sum := "60e5a0b63ad10d52faf6baa140c158591a644452ed8c3a3ff1bac0c0be1d3def", func := "retiary/retiarylaw16.TrieShares", spec := "trieShares", unfollowed := true, recurses := true, loops := true, plainKeys := false, apart := false, narrowed := true }
def TrieSharesUptoSaid : Prop := trieSharesUptoRow.holds Try.pinned (OpenSpec.upto trieSharesSpec)

/-- 'retiarylaw16.TrieOrder', WHERE WHAT IT READS IS OF BULK AT MOST 1048576: true; the input reads as it did. -/
def trieOrderUptoRow : OpenClaim := { program := "ytodghgeghpbdlaa", sum := "60e5a0b63ad10d52faf6baa140c158591a644452ed8c3a3ff1bac0c0be1d3def", func := "retiary/retiarylaw16.TrieOrder", spec := "trieOrder", unfollowed := true, recurses := true, loops := true, plainKeys := false, apart := false, narrowed := true }
def TrieOrderUptoSaid : Prop := trieOrderUptoRow.holds Try.pinned (OpenSpec.upto trieOrderSpec)

/-- 'retiarylaw17.BlockPlays', WHERE WHAT IT READS IS OF BULK AT MOST 1048576: true; the input reads as it did. -/
def blockPlaysUptoRow : OpenClaim := { program := "ytodghgeghpbdlaa", sum := "60e5a0b63ad10d52faf6baa140c158591a644452ed8c3a3ff1bac0c0be1d3def", func := "retiary/retiarylaw17.BlockPlays", spec := "blockPlays", unfollowed := true, recurses := true, plainKeys := false, apart := false, narrowed := true }
def BlockPlaysUptoSaid : Prop := blockPlaysUptoRow.holds Try.pinned (OpenSpec.upto blockPlaysSpec)

/-- 'retiarylaw17.BlockTypes', WHERE WHAT IT READS IS OF BULK AT MOST 1048576: true; the input reads as it did. -/
def blockTypesUptoRow : OpenClaim := { program := "ytodghgeghpbdlaa", sum := "60e5a0b63ad10d52faf6baa140c158591a644452ed8c3a3ff1bac0c0be1d3def", func := "retiary/retiarylaw17.BlockTypes", spec := "blockTypes", unfollowed := true, recurses := true, plainKeys := false, apart := false, narrowed := true }
def BlockTypesUptoSaid : Prop := blockTypesUptoRow.holds Try.pinned (OpenSpec.upto blockTypesSpec)

/-- 'retiarylaw17.BlockSums', WHERE WHAT IT READS IS OF BULK AT MOST 1048576: true; the input reads as it did. -/
def blockSumsUptoRow : OpenClaim := { program := "ytodghgeghpbdlaa", sum := "60e5a0b63ad10d52faf6baa140c158591a644452ed8c3a3ff1bac0c0be1d3def", func := "retiary/retiarylaw17.BlockSums", spec := "blockSums", unfollowed := true, recurses := true, plainKeys := false, apart := false, narrowed := true }
def BlockSumsUptoSaid : Prop := blockSumsUptoRow.holds Try.pinned (OpenSpec.upto blockSumsSpec)

end Rows
end Go.Proofs.Ytodghgeghpbdlaa
