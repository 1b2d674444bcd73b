/-
  DERIVED. GIVEN WITH THE SEED: THE CARDS: each row of YtoobfcekgfgipaaDoorRows.lean that lists a variable, with what it lists TIED to the program's text (the seventh form; the later family's looks); each row that meets fmt, with fmt's text TOLD by the authors' own Lean function (tested against real Go, not proved from fmt's source: count such statements apart). THE CARD IS WHAT COUNTS. Prove the row's statement (the work); the ties are given (YtoobfcekgfgipaaDoorTie.lean); close each card by the builder's one call (the guide's Derived/Test/ToyasCard.lean, 'card_holds'). Laid BY PROGRAM, IN A SANDBOX (cutbox-door.mjs). By AI agents, Wed Nov 11 2026. No macro, syntax, notation, axiom, sorry.
-/
import Derived.Test.YtoobfcekgfgipaaDoorRows
import GoSem.ClaimSeven
namespace Go.Proofs.YtoobfcekgfgipaaDoor
namespace Rows

/-- THE TIED CARD OF 'hemiolalaw02.DurationTicks'. -/
def durationTicksCard : Claim7 := { stood := { row := durationTicksRow, standIns := [], harness := (true, "6d966f001cc493f6365e78191f59fdb49a1b19e0fd99a0ce5b03e9760192df14"), looks := false }, kinds := [], alts := [], laidByText := true, laidKinds := [.data], laidTests := true, laidLooks := .later }
def DurationTicksCardSaid : Prop := Claim7.holds Tryd.pinned (.plain (OpenSpec.ofChange durationTicksSpec)) durationTicksCard

/-- THE TIED CARD OF 'hemiolalaw02.DurationFinds'. -/
def durationFindsCard : Claim7 := { stood := { row := durationFindsRow, standIns := [], harness := (true, "6d966f001cc493f6365e78191f59fdb49a1b19e0fd99a0ce5b03e9760192df14"), looks := false }, kinds := [], alts := [], laidByText := true, laidKinds := [.data], laidTests := true, laidLooks := .later }
def DurationFindsCardSaid : Prop := Claim7.holds Tryd.pinned (.plain (OpenSpec.ofChange durationFindsSpec)) durationFindsCard

/-- THE TIED CARD OF 'hemiolalaw02.DurationSums'. -/
def durationSumsCard : Claim7 := { stood := { row := durationSumsRow, standIns := [], harness := (true, "6d966f001cc493f6365e78191f59fdb49a1b19e0fd99a0ce5b03e9760192df14"), looks := false }, kinds := [], alts := [], laidByText := true, laidKinds := [.data], laidTests := true, laidLooks := .later }
def DurationSumsCardSaid : Prop := Claim7.holds Tryd.pinned (.plain (OpenSpec.ofChange durationSumsSpec)) durationSumsCard

/-- THE TIED CARD OF 'hemiolalaw02.DurationTexts'. -/
def durationTextsCard : Claim7 := { stood := { row := durationTextsRow, standIns := [], harness := (true, "6d966f001cc493f6365e78191f59fdb49a1b19e0fd99a0ce5b03e9760192df14"), looks := false }, kinds := [], alts := [], laidByText := true, laidKinds := [.data, .data, .data, .data, .pinned], laidTests := true, laidLooks := .later }
def DurationTextsCardSaid : Prop := Claim7.holds Tryd.pinned (.plain (OpenSpec.ofChange durationTextsSpec)) durationTextsCard

/-- THE TIED CARD OF 'hemiolalaw02.DurationScales'. -/
def durationScalesCard : Claim7 := { stood := { row := durationScalesRow, standIns := [], harness := (true, "6d966f001cc493f6365e78191f59fdb49a1b19e0fd99a0ce5b03e9760192df14"), looks := false }, kinds := [], alts := [], laidByText := true, laidKinds := [.data], laidTests := true, laidLooks := .later }
def DurationScalesCardSaid : Prop := Claim7.holds Tryd.pinned (.plain (OpenSpec.ofChange durationScalesSpec)) durationScalesCard

/-- THE TIED CARD OF 'hemiolalaw02.DurationFlags'. -/
def durationFlagsCard : Claim7 := { stood := { row := durationFlagsRow, standIns := [], harness := (true, "6d966f001cc493f6365e78191f59fdb49a1b19e0fd99a0ce5b03e9760192df14"), looks := false }, kinds := [], alts := [], laidByText := true, laidKinds := [.data], laidTests := true, laidLooks := .later }
def DurationFlagsCardSaid : Prop := Claim7.holds Tryd.pinned (.plain (OpenSpec.ofChange durationFlagsSpec)) durationFlagsCard

/-- THE SECOND FORM's CARD OF 'hemiolalaw02.DurationTicks'. -/
def durationTicksUptoCard : Claim7 := { stood := { row := durationTicksUptoRow, standIns := [], harness := (true, "6d966f001cc493f6365e78191f59fdb49a1b19e0fd99a0ce5b03e9760192df14"), looks := false }, kinds := [], alts := [], laidByText := true, laidKinds := [.data], laidTests := true, laidLooks := .later }
def DurationTicksUptoCardSaid : Prop := Claim7.holds Tryd.pinned (.plain (OpenSpec.upto durationTicksSpec)) durationTicksUptoCard

/-- THE SECOND FORM's CARD OF 'hemiolalaw02.DurationFinds'. -/
def durationFindsUptoCard : Claim7 := { stood := { row := durationFindsUptoRow, standIns := [], harness := (true, "6d966f001cc493f6365e78191f59fdb49a1b19e0fd99a0ce5b03e9760192df14"), looks := false }, kinds := [], alts := [], laidByText := true, laidKinds := [.data], laidTests := true, laidLooks := .later }
def DurationFindsUptoCardSaid : Prop := Claim7.holds Tryd.pinned (.plain (OpenSpec.upto durationFindsSpec)) durationFindsUptoCard

/-- THE SECOND FORM's CARD OF 'hemiolalaw02.DurationSums'. -/
def durationSumsUptoCard : Claim7 := { stood := { row := durationSumsUptoRow, standIns := [], harness := (true, "6d966f001cc493f6365e78191f59fdb49a1b19e0fd99a0ce5b03e9760192df14"), looks := false }, kinds := [], alts := [], laidByText := true, laidKinds := [.data], laidTests := true, laidLooks := .later }
def DurationSumsUptoCardSaid : Prop := Claim7.holds Tryd.pinned (.plain (OpenSpec.upto durationSumsSpec)) durationSumsUptoCard

/-- THE SECOND FORM's CARD OF 'hemiolalaw02.DurationTexts'. -/
def durationTextsUptoCard : Claim7 := { stood := { row := durationTextsUptoRow, standIns := [], harness := (true, "6d966f001cc493f6365e78191f59fdb49a1b19e0fd99a0ce5b03e9760192df14"), looks := false }, kinds := [], alts := [], laidByText := true, laidKinds := [.data, .data, .data, .data, .pinned], laidTests := true, laidLooks := .later }
def DurationTextsUptoCardSaid : Prop := Claim7.holds Tryd.pinned (.plain (OpenSpec.upto durationTextsSpec)) durationTextsUptoCard

/-- THE SECOND FORM's CARD OF 'hemiolalaw02.DurationScales'. -/
def durationScalesUptoCard : Claim7 := { stood := { row := durationScalesUptoRow, standIns := [], harness := (true, "6d966f001cc493f6365e78191f59fdb49a1b19e0fd99a0ce5b03e9760192df14"), looks := false }, kinds := [], alts := [], laidByText := true, laidKinds := [.data], laidTests := true, laidLooks := .later }
def DurationScalesUptoCardSaid : Prop := Claim7.holds Tryd.pinned (.plain (OpenSpec.upto durationScalesSpec)) durationScalesUptoCard

/-- THE SECOND FORM's CARD OF 'hemiolalaw02.DurationFlags'. -/
def durationFlagsUptoCard : Claim7 := { stood := { row := durationFlagsUptoRow, standIns := [], harness := (true, "6d966f001cc493f6365e78191f59fdb49a1b19e0fd99a0ce5b03e9760192df14"), looks := false }, kinds := [], alts := [], laidByText := true, laidKinds := [.data], laidTests := true, laidLooks := .later }
def DurationFlagsUptoCardSaid : Prop := Claim7.holds Tryd.pinned (.plain (OpenSpec.upto durationFlagsSpec)) durationFlagsUptoCard
end Rows
end Go.Proofs.YtoobfcekgfgipaaDoor
