/-
  DERIVED. GIVEN WITH THE SEED: THE CARDS: each row of YtihndkplknoabaaDoorRows.lean that lists a variable, with what it lists TIED to the program's text (the seventh form; the later family's looks); each row that meets fmt, with fmt's text TOLD by the authors' own Lean function (tested against real Go, not proved from fmt's source: count such statements apart). THE CARD IS WHAT COUNTS. Prove the row's statement (the work); the ties are given (YtihndkplknoabaaDoorTie.lean); close each card by the builder's one call (the guide's Derived/Test/ToyasCard.lean, 'card_holds'). Laid BY PROGRAM, IN A SANDBOX (cutbox-door.mjs). By AI agents, Wed Nov 11 2026. No macro, syntax, notation, axiom, sorry.
-/
import Derived.Test.YtihndkplknoabaaDoorRows
import GoSem.ClaimSeven
namespace Go.Proofs.YtihndkplknoabaaDoor
namespace Rows

/-- THE TIED CARD OF 'hemiolalaw07.KeyAlters'. -/
def keyAltersCard : Claim7 := { stood := { row := keyAltersRow, standIns := [], harness := (true, "821156ae2ef8f8949e862ee645ec3ba1e30da02cf52c3a2d769bc36e86808b68"), looks := false }, kinds := [], alts := [], laidByText := true, laidKinds := [.data, .data], laidTests := true, laidLooks := .later }
def KeyAltersCardSaid : Prop := Claim7.holds Tryd.pinned (.plain (OpenSpec.ofChange keyAltersSpec)) keyAltersCard

/-- THE TIED CARD OF 'hemiolalaw07.KeyTonics'. -/
def keyTonicsCard : Claim7 := { stood := { row := keyTonicsRow, standIns := [], harness := (true, "821156ae2ef8f8949e862ee645ec3ba1e30da02cf52c3a2d769bc36e86808b68"), looks := false }, kinds := [], alts := [], laidByText := true, laidKinds := [.data, .data], laidTests := true, laidLooks := .later }
def KeyTonicsCardSaid : Prop := Claim7.holds Tryd.pinned (.plain (OpenSpec.ofChange keyTonicsSpec)) keyTonicsCard

/-- THE TIED CARD OF 'hemiolalaw07.KeyTransposes'. -/
def keyTransposesCard : Claim7 := { stood := { row := keyTransposesRow, standIns := [], harness := (true, "821156ae2ef8f8949e862ee645ec3ba1e30da02cf52c3a2d769bc36e86808b68"), looks := false }, kinds := [], alts := [], laidByText := true, laidKinds := [.data, .data], laidTests := true, laidLooks := .later }
def KeyTransposesCardSaid : Prop := Claim7.holds Tryd.pinned (.plain (OpenSpec.ofChange keyTransposesSpec)) keyTransposesCard

/-- THE TIED CARD OF 'hemiolalaw07.KeySounds'. -/
def keySoundsCard : Claim7 := { stood := { row := keySoundsRow, standIns := [], harness := (true, "821156ae2ef8f8949e862ee645ec3ba1e30da02cf52c3a2d769bc36e86808b68"), looks := false }, kinds := [], alts := [], laidByText := true, laidKinds := [.data, .data], laidTests := true, laidLooks := .later }
def KeySoundsCardSaid : Prop := Claim7.holds Tryd.pinned (.plain (OpenSpec.ofChange keySoundsSpec)) keySoundsCard

/-- THE TIED CARD OF 'hemiolalaw07.KeyDegrees'. -/
def keyDegreesCard : Claim7 := { stood := { row := keyDegreesRow, standIns := [], harness := (true, "821156ae2ef8f8949e862ee645ec3ba1e30da02cf52c3a2d769bc36e86808b68"), looks := false }, kinds := [], alts := [], laidByText := true, laidKinds := [.data, .data], laidTests := true, laidLooks := .later }
def KeyDegreesCardSaid : Prop := Claim7.holds Tryd.pinned (.plain (OpenSpec.ofChange keyDegreesSpec)) keyDegreesCard

/-- THE TIED CARD OF 'hemiolalaw07.KeyDiatonic'. -/
def keyDiatonicCard : Claim7 := { stood := { row := keyDiatonicRow, standIns := [], harness := (true, "821156ae2ef8f8949e862ee645ec3ba1e30da02cf52c3a2d769bc36e86808b68"), looks := false }, kinds := [], alts := [], laidByText := true, laidKinds := [.data, .data], laidTests := true, laidLooks := .later }
def KeyDiatonicCardSaid : Prop := Claim7.holds Tryd.pinned (.plain (OpenSpec.ofChange keyDiatonicSpec)) keyDiatonicCard

/-- THE SECOND FORM's CARD OF 'hemiolalaw07.KeyAlters'. -/
def keyAltersUptoCard : Claim7 := { stood := { row := keyAltersUptoRow, standIns := [], harness := (true, "821156ae2ef8f8949e862ee645ec3ba1e30da02cf52c3a2d769bc36e86808b68"), looks := false }, kinds := [], alts := [], laidByText := true, laidKinds := [.data, .data], laidTests := true, laidLooks := .later }
def KeyAltersUptoCardSaid : Prop := Claim7.holds Tryd.pinned (.plain (OpenSpec.upto keyAltersSpec)) keyAltersUptoCard

/-- THE SECOND FORM's CARD OF 'hemiolalaw07.KeyTonics'. -/
def keyTonicsUptoCard : Claim7 := { stood := { row := keyTonicsUptoRow, standIns := [], harness := (true, "821156ae2ef8f8949e862ee645ec3ba1e30da02cf52c3a2d769bc36e86808b68"), looks := false }, kinds := [], alts := [], laidByText := true, laidKinds := [.data, .data], laidTests := true, laidLooks := .later }
def KeyTonicsUptoCardSaid : Prop := Claim7.holds Tryd.pinned (.plain (OpenSpec.upto keyTonicsSpec)) keyTonicsUptoCard

/-- THE SECOND FORM's CARD OF 'hemiolalaw07.KeyTransposes'. -/
def keyTransposesUptoCard : Claim7 := { stood := { row := keyTransposesUptoRow, standIns := [], harness := (true, "821156ae2ef8f8949e862ee645ec3ba1e30da02cf52c3a2d769bc36e86808b68"), looks := false }, kinds := [], alts := [], laidByText := true, laidKinds := [.data, .data], laidTests := true, laidLooks := .later }
def KeyTransposesUptoCardSaid : Prop := Claim7.holds Tryd.pinned (.plain (OpenSpec.upto keyTransposesSpec)) keyTransposesUptoCard

/-- THE SECOND FORM's CARD OF 'hemiolalaw07.KeySounds'. -/
def keySoundsUptoCard : Claim7 := { stood := { row := keySoundsUptoRow, standIns := [], harness := (true, "821156ae2ef8f8949e862ee645ec3ba1e30da02cf52c3a2d769bc36e86808b68"), looks := false }, kinds := [], alts := [], laidByText := true, laidKinds := [.data, .data], laidTests := true, laidLooks := .later }
def KeySoundsUptoCardSaid : Prop := Claim7.holds Tryd.pinned (.plain (OpenSpec.upto keySoundsSpec)) keySoundsUptoCard

/-- THE SECOND FORM's CARD OF 'hemiolalaw07.KeyDegrees'. -/
def keyDegreesUptoCard : Claim7 := { stood := { row := keyDegreesUptoRow, standIns := [], harness := (true, "821156ae2ef8f8949e862ee645ec3ba1e30da02cf52c3a2d769bc36e86808b68"), looks := false }, kinds := [], alts := [], laidByText := true, laidKinds := [.data, .data], laidTests := true, laidLooks := .later }
def KeyDegreesUptoCardSaid : Prop := Claim7.holds Tryd.pinned (.plain (OpenSpec.upto keyDegreesSpec)) keyDegreesUptoCard

/-- THE SECOND FORM's CARD OF 'hemiolalaw07.KeyDiatonic'. -/
def keyDiatonicUptoCard : Claim7 := { stood := { row := keyDiatonicUptoRow, standIns := [], harness := (true, "821156ae2ef8f8949e862ee645ec3ba1e30da02cf52c3a2d769bc36e86808b68"), looks := false }, kinds := [], alts := [], laidByText := true, laidKinds := [.data, .data], laidTests := true, laidLooks := .later }
def KeyDiatonicUptoCardSaid : Prop := Claim7.holds Tryd.pinned (.plain (OpenSpec.upto keyDiatonicSpec)) keyDiatonicUptoCard
end Rows
end Go.Proofs.YtihndkplknoabaaDoor
