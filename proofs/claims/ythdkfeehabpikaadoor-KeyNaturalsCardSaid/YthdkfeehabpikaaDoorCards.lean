/-
  DERIVED. GIVEN WITH THE SEED: THE CARDS: each row of YthdkfeehabpikaaDoorRows.lean that lists a variable, with what it lists TIED to the program's text (the seventh form; the later family's looks); each row that meets fmt, with fmt's text TOLD by the authors' own Lean function (tested against real Go, not proved from fmt's source: count such statements apart). THE CARD IS WHAT COUNTS. Prove the row's statement (the work); the ties are given (YthdkfeehabpikaaDoorTie.lean); close each card by the builder's one call (the guide's Derived/Test/ToyasCard.lean, 'card_holds'). Laid BY PROGRAM, IN A SANDBOX (cutbox-door.mjs). By AI agents, Wed Nov 11 2026. No macro, syntax, notation, axiom, sorry.
-/
import Derived.Test.YthdkfeehabpikaaDoorRows
import GoSem.ClaimSeven
namespace Go.Proofs.YthdkfeehabpikaaDoor
namespace Rows

/-- THE TIED CARD OF 'hemiolalaw07.KeyScales'. -/
def keyScalesCard : Claim7 := { stood := { row := keyScalesRow, standIns := [], harness := (true, "b6cbb1b75bd389371345b427319001ebd0f0f8ece4b17ed00c859a79105b7b76"), looks := false }, kinds := [], alts := [], laidByText := true, laidKinds := [.data, .data], laidTests := true, laidLooks := .later }
def KeyScalesCardSaid : Prop := Claim7.holds Tryd.pinned (.plain (OpenSpec.ofChange keyScalesSpec)) keyScalesCard

/-- THE TIED CARD OF 'hemiolalaw07.KeyNames'. -/
def keyNamesCard : Claim7 := { stood := { row := keyNamesRow, standIns := [], harness := (true, "b6cbb1b75bd389371345b427319001ebd0f0f8ece4b17ed00c859a79105b7b76"), looks := false }, kinds := [], alts := [], laidByText := true, laidKinds := [.data, .data], laidTests := true, laidLooks := .later }
def KeyNamesCardSaid : Prop := Claim7.holds Tryd.pinned (.plain (OpenSpec.ofChange keyNamesSpec)) keyNamesCard

/-- THE TIED CARD OF 'hemiolalaw07.KeyParses'. -/
def keyParsesCard : Claim7 := { stood := { row := keyParsesRow, standIns := [], harness := (true, "b6cbb1b75bd389371345b427319001ebd0f0f8ece4b17ed00c859a79105b7b76"), looks := false }, kinds := [], alts := [], laidByText := true, laidKinds := [.data, .data], laidTests := true, laidLooks := .later }
def KeyParsesCardSaid : Prop := Claim7.holds Tryd.pinned (.plain (OpenSpec.ofChange keyParsesSpec)) keyParsesCard

/-- THE TIED CARD OF 'hemiolalaw07.KeyNaturals'. -/
def keyNaturalsCard : Claim7 := { stood := { row := keyNaturalsRow, standIns := [], harness := (true, "b6cbb1b75bd389371345b427319001ebd0f0f8ece4b17ed00c859a79105b7b76"), looks := false }, kinds := [], alts := [], laidByText := true, laidKinds := [.data, .data], laidTests := true, laidLooks := .later }
def KeyNaturalsCardSaid : Prop := Claim7.holds Tryd.pinned (.plain (OpenSpec.ofChange keyNaturalsSpec)) keyNaturalsCard

/-- THE SECOND FORM's CARD OF 'hemiolalaw07.KeyScales'. -/
def keyScalesUptoCard : Claim7 := { stood := { row := keyScalesUptoRow, standIns := [], harness := (true, "b6cbb1b75bd389371345b427319001ebd0f0f8ece4b17ed00c859a79105b7b76"), looks := false }, kinds := [], alts := [], laidByText := true, laidKinds := [.data, .data], laidTests := true, laidLooks := .later }
def KeyScalesUptoCardSaid : Prop := Claim7.holds Tryd.pinned (.plain (OpenSpec.upto keyScalesSpec)) keyScalesUptoCard

/-- THE SECOND FORM's CARD OF 'hemiolalaw07.KeyNames'. -/
def keyNamesUptoCard : Claim7 := { stood := { row := keyNamesUptoRow, standIns := [], harness := (true, "b6cbb1b75bd389371345b427319001ebd0f0f8ece4b17ed00c859a79105b7b76"), looks := false }, kinds := [], alts := [], laidByText := true, laidKinds := [.data, .data], laidTests := true, laidLooks := .later }
def KeyNamesUptoCardSaid : Prop := Claim7.holds Tryd.pinned (.plain (OpenSpec.upto keyNamesSpec)) keyNamesUptoCard

/-- THE SECOND FORM's CARD OF 'hemiolalaw07.KeyParses'. -/
def keyParsesUptoCard : Claim7 := { stood := { row := keyParsesUptoRow, standIns := [], harness := (true, "b6cbb1b75bd389371345b427319001ebd0f0f8ece4b17ed00c859a79105b7b76"), looks := false }, kinds := [], alts := [], laidByText := true, laidKinds := [.data, .data], laidTests := true, laidLooks := .later }
def KeyParsesUptoCardSaid : Prop := Claim7.holds Tryd.pinned (.plain (OpenSpec.upto keyParsesSpec)) keyParsesUptoCard

/-- THE SECOND FORM's CARD OF 'hemiolalaw07.KeyNaturals'. -/
def keyNaturalsUptoCard : Claim7 := { stood := { row := keyNaturalsUptoRow, standIns := [], harness := (true, "b6cbb1b75bd389371345b427319001ebd0f0f8ece4b17ed00c859a79105b7b76"), looks := false }, kinds := [], alts := [], laidByText := true, laidKinds := [.data, .data], laidTests := true, laidLooks := .later }
def KeyNaturalsUptoCardSaid : Prop := Claim7.holds Tryd.pinned (.plain (OpenSpec.upto keyNaturalsSpec)) keyNaturalsUptoCard
end Rows
end Go.Proofs.YthdkfeehabpikaaDoor
