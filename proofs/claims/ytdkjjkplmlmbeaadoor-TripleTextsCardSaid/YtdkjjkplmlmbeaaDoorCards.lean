/-
  DERIVED. GIVEN WITH THE SEED: THE CARDS: each row of YtdkjjkplmlmbeaaDoorRows.lean that lists a variable, with what it lists TIED to the program's text (the seventh form; the later family's looks); each row that meets fmt, with fmt's text TOLD by the authors' own Lean function (tested against real Go, not proved from fmt's source: count such statements apart). THE CARD IS WHAT COUNTS. Prove the row's statement (the work); the ties are given (YtdkjjkplmlmbeaaDoorTie.lean); close each card by the builder's one call (the guide's Derived/Test/ToyasCard.lean, 'card_holds'). Laid BY PROGRAM, IN A SANDBOX (cutbox-door.mjs). By AI agents, Wed Nov 11 2026. No macro, syntax, notation, axiom, sorry.
-/
import Derived.Test.YtdkjjkplmlmbeaaDoorRows
import GoSem.ClaimSeven
namespace Go.Proofs.YtdkjjkplmlmbeaaDoor
namespace Rows

/-- THE TIED CARD OF 'retiarylaw02.TripleTexts'. -/
def tripleTextsCard : Claim7 := { stood := { row := tripleTextsRow, standIns := [], harness := (true, "e0ef388ce3afd4a068bb68d35815b8da3e6f7ac89507e7079eac04114ef5e7e6"), looks := true }, kinds := [], alts := [], laidByText := true, laidKinds := [.data, .data, .data, .data, .sentinel, .sentinel, .pinned], laidTests := true, laidLooks := .later }
def TripleTextsCardSaid : Prop := Claim7.holds Tryd.pinned (.plain (OpenSpec.ofChange tripleTextsSpec)) tripleTextsCard

/-- THE TIED CARD OF 'retiarylaw02.TripleParses'. -/
def tripleParsesCard : Claim7 := { stood := { row := tripleParsesRow, standIns := [], harness := (true, "e0ef388ce3afd4a068bb68d35815b8da3e6f7ac89507e7079eac04114ef5e7e6"), looks := true }, kinds := [], alts := [], laidByText := true, laidKinds := [.data, .data, .data, .data, .sentinel, .sentinel, .pinned], laidTests := true, laidLooks := .later }
def TripleParsesCardSaid : Prop := Claim7.holds Tryd.pinned (.plain (OpenSpec.ofChange tripleParsesSpec)) tripleParsesCard

/-- THE TIED CARD OF 'retiarylaw02.TripleCompares'. -/
def tripleComparesCard : Claim7 := { stood := { row := tripleComparesRow, standIns := [], harness := (true, "e0ef388ce3afd4a068bb68d35815b8da3e6f7ac89507e7079eac04114ef5e7e6"), looks := true }, kinds := [], alts := [], laidByText := true, laidKinds := [.data, .data, .data, .data, .sentinel, .sentinel, .pinned], laidTests := true, laidLooks := .later }
def TripleComparesCardSaid : Prop := Claim7.holds Tryd.pinned (.plain (OpenSpec.ofChange tripleComparesSpec)) tripleComparesCard

/-- THE TIED CARD OF 'retiarylaw02.TripleSorts'. -/
def tripleSortsCard : Claim7 := { stood := { row := tripleSortsRow, standIns := [], harness := (true, "e0ef388ce3afd4a068bb68d35815b8da3e6f7ac89507e7079eac04114ef5e7e6"), looks := true }, kinds := [], alts := [], laidByText := true, laidKinds := [.data, .data, .data, .data, .sentinel, .sentinel, .pinned], laidTests := true, laidLooks := .later }
def TripleSortsCardSaid : Prop := Claim7.holds Tryd.pinned (.plain (OpenSpec.ofChange tripleSortsSpec)) tripleSortsCard

/-- THE TIED CARD OF 'retiarylaw02.TripleOrder'. -/
def tripleOrderCard : Claim7 := { stood := { row := tripleOrderRow, standIns := [], harness := (true, "e0ef388ce3afd4a068bb68d35815b8da3e6f7ac89507e7079eac04114ef5e7e6"), looks := true }, kinds := [], alts := [], laidByText := true, laidKinds := [.data, .data, .data, .data, .sentinel, .sentinel, .pinned], laidTests := true, laidLooks := .later }
def TripleOrderCardSaid : Prop := Claim7.holds Tryd.pinned (.plain (OpenSpec.ofChange tripleOrderSpec)) tripleOrderCard

/-- THE SECOND FORM's CARD OF 'retiarylaw02.TripleTexts'. -/
def tripleTextsUptoCard : Claim7 := { stood := { row := tripleTextsUptoRow, standIns := [], harness := (true, "e0ef388ce3afd4a068bb68d35815b8da3e6f7ac89507e7079eac04114ef5e7e6"), looks := true }, kinds := [], alts := [], laidByText := true, laidKinds := [.data, .data, .data, .data, .sentinel, .sentinel, .pinned], laidTests := true, laidLooks := .later }
def TripleTextsUptoCardSaid : Prop := Claim7.holds Tryd.pinned (.plain (OpenSpec.upto tripleTextsSpec)) tripleTextsUptoCard

/-- THE SECOND FORM's CARD OF 'retiarylaw02.TripleParses'. -/
def tripleParsesUptoCard : Claim7 := { stood := { row := tripleParsesUptoRow, standIns := [], harness := (true, "e0ef388ce3afd4a068bb68d35815b8da3e6f7ac89507e7079eac04114ef5e7e6"), looks := true }, kinds := [], alts := [], laidByText := true, laidKinds := [.data, .data, .data, .data, .sentinel, .sentinel, .pinned], laidTests := true, laidLooks := .later }
def TripleParsesUptoCardSaid : Prop := Claim7.holds Tryd.pinned (.plain (OpenSpec.upto tripleParsesSpec)) tripleParsesUptoCard

/-- THE SECOND FORM's CARD OF 'retiarylaw02.TripleCompares'. -/
def tripleComparesUptoCard : Claim7 := { stood := { row := tripleComparesUptoRow, standIns := [], harness := (true, "e0ef388ce3afd4a068bb68d35815b8da3e6f7ac89507e7079eac04114ef5e7e6"), looks := true }, kinds := [], alts := [], laidByText := true, laidKinds := [.data, .data, .data, .data, .sentinel, .sentinel, .pinned], laidTests := true, laidLooks := .later }
def TripleComparesUptoCardSaid : Prop := Claim7.holds Tryd.pinned (.plain (OpenSpec.upto tripleComparesSpec)) tripleComparesUptoCard

/-- THE SECOND FORM's CARD OF 'retiarylaw02.TripleSorts'. -/
def tripleSortsUptoCard : Claim7 := { stood := { row := tripleSortsUptoRow, standIns := [], harness := (true, "e0ef388ce3afd4a068bb68d35815b8da3e6f7ac89507e7079eac04114ef5e7e6"), looks := true }, kinds := [], alts := [], laidByText := true, laidKinds := [.data, .data, .data, .data, .sentinel, .sentinel, .pinned], laidTests := true, laidLooks := .later }
def TripleSortsUptoCardSaid : Prop := Claim7.holds Tryd.pinned (.plain (OpenSpec.upto tripleSortsSpec)) tripleSortsUptoCard

/-- THE SECOND FORM's CARD OF 'retiarylaw02.TripleOrder'. -/
def tripleOrderUptoCard : Claim7 := { stood := { row := tripleOrderUptoRow, standIns := [], harness := (true, "e0ef388ce3afd4a068bb68d35815b8da3e6f7ac89507e7079eac04114ef5e7e6"), looks := true }, kinds := [], alts := [], laidByText := true, laidKinds := [.data, .data, .data, .data, .sentinel, .sentinel, .pinned], laidTests := true, laidLooks := .later }
def TripleOrderUptoCardSaid : Prop := Claim7.holds Tryd.pinned (.plain (OpenSpec.upto tripleOrderSpec)) tripleOrderUptoCard
end Rows
end Go.Proofs.YtdkjjkplmlmbeaaDoor
