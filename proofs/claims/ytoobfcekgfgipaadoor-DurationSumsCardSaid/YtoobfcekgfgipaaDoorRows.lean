/-
  NARROWER THAN 'FOR EVERY INPUT', by the rows' own cells (each row's printed sentence says how): DurationTicks: laid · DurationFinds: laid · DurationSums: laid · DurationTexts: laid · DurationScales: laid · DurationFlags: laid.
  DERIVED. THE GIVEN ROWS OF THIS SEAT. 6 by the template 'for every input the law returns true; each argument reads behind the call as it read before'; 0 by the template 'total and deterministic' (their statements: YtoobfcekgfgipaaDoorTotals.lean).
  GIVEN WITH THE SEED: the statements are not yours to turn. If you find one false, say at which input.
  Laid BY PROGRAM, IN A SANDBOX (cutbox-rows.mjs): the forced cells as the released guide's own fill.sh prints them over the translation 991708c147cd9bfd… (all of the seat's roots in one cut). By AI agents, Wed Nov 11 2026. No macro, syntax, notation, axiom, sorry.
-/
import Derived.Test.YtoobfcekgfgipaaDoorChecked
import GoSem.PinnedTables
import GoSem.Claim
import GoSem.ClaimJoined
import GoSem.ClaimMapViews
import Derived.JoinedTies
import Derived.KernelRfl
namespace Go.Proofs.YtoobfcekgfgipaaDoor
/- THE CELL 'sum', in the pinned program and in every row, IS THE sha256 OF THE DUMP (.gsa) THAT YtoobfcekgfgipaaDoorProg.lean LOADS. Nothing in Lean hashes anything: it is a label: what it is worth is what the hold of that sum in a sandbox is worth. -/
noncomputable def Tryd.pinned : Pinned := { name := "ytoobfcekgfgipaadoor", sum := "991708c147cd9bfda818cf4e1c3541c195116d1df0a2f295fd14786e3c77860e", checked := Tryd.checked }
namespace Rows
def none {H : Type} : Left H := { results := [], args := [] }

/- WHAT THE LISTED PACKAGE-LEVEL VARIABLES READ AS WHEN THE CALL BEGINS. Each datum BY PROGRAM (the guide's laid-datum.mjs) off the statement by which the dump's own 'gosem.cut.vars' lays the variable. In a bare row this is a premise. The card (YtoobfcekgfgipaaDoorCards.lean) ties it to the program's text. -/
def laid_hemiola_duration_texts {H : Type} : DataW H := .agg [.lit (.string [98]), .lit (.string [49]), .lit (.string [50]), .lit (.string [52]), .lit (.string [56]), .lit (.string [49, 54]), .lit (.string [51, 50]), .lit (.string [54, 52]), .lit (.string [49, 50, 56]), .lit (.string [50, 53, 54])]
def laid_unicode_utf8_acceptRanges {H : Type} : DataW H := .agg [.agg [.lit (.int .u8 128), .lit (.int .u8 191)], .agg [.lit (.int .u8 160), .lit (.int .u8 191)], .agg [.lit (.int .u8 128), .lit (.int .u8 159)], .agg [.lit (.int .u8 144), .lit (.int .u8 191)], .agg [.lit (.int .u8 128), .lit (.int .u8 143)], .agg [.lit (.int .u8 0), .lit (.int .u8 0)], .agg [.lit (.int .u8 0), .lit (.int .u8 0)], .agg [.lit (.int .u8 0), .lit (.int .u8 0)], .agg [.lit (.int .u8 0), .lit (.int .u8 0)], .agg [.lit (.int .u8 0), .lit (.int .u8 0)], .agg [.lit (.int .u8 0), .lit (.int .u8 0)], .agg [.lit (.int .u8 0), .lit (.int .u8 0)], .agg [.lit (.int .u8 0), .lit (.int .u8 0)], .agg [.lit (.int .u8 0), .lit (.int .u8 0)], .agg [.lit (.int .u8 0), .lit (.int .u8 0)], .agg [.lit (.int .u8 0), .lit (.int .u8 0)]]
def laid_hemiola_duration_names {H : Type} : DataW H := .agg [.lit (.string [100, 111, 117, 98, 108, 101, 32, 119, 104, 111, 108, 101]), .lit (.string [119, 104, 111, 108, 101]), .lit (.string [104, 97, 108, 102]), .lit (.string [113, 117, 97, 114, 116, 101, 114]), .lit (.string [101, 105, 103, 104, 116, 104]), .lit (.string [49, 54, 116, 104]), .lit (.string [51, 50, 110, 100]), .lit (.string [54, 52, 116, 104]), .lit (.string [49, 50, 56, 116, 104]), .lit (.string [50, 53, 54, 116, 104])]
def laid_hemiola_duration_dotNames {H : Type} : DataW H := .agg [.lit (.string []), .lit (.string [100, 111, 116, 116, 101, 100, 32]), .lit (.string [100, 111, 117, 98, 108, 101, 45, 100, 111, 116, 116, 101, 100, 32]), .lit (.string [116, 114, 105, 112, 108, 101, 45, 100, 111, 116, 116, 101, 100, 32])]
/-- One of Go's own tables, pinned by name: the form's constant. -/
def laid_unicode_utf8_first : DataW Unit := Go.Pinned.utf8First

/-- 'hemiolalaw02.DurationTicks': WHATEVER THE INPUT: true; the input reads as it did. -/
def durationTicksSpec : ChangeSpec := { name := "durationTicks", fn := fun _ => fun
  | [d] => { results := [.lit (.bool true)], args := [d] }
  | _ => none }
def durationTicksRow : OpenClaim := { program := "ytoobfcekgfgipaadoor", sum := "991708c147cd9bfda818cf4e1c3541c195116d1df0a2f295fd14786e3c77860e", func := "hemiola/hemiolalaw02.DurationTicks", spec := "durationTicks", inPlace := ["internal/abi.NoEscape", "internal/bytealg.MakeNoZero"], unfollowed := true, recurses := true, named := ["hemiola/duration.texts"], plainKeys := false, apart := false, laid := [("hemiola/duration.texts", laid_hemiola_duration_texts)] }
def DurationTicksSaid : Prop := durationTicksRow.holds Tryd.pinned (OpenSpec.ofChange durationTicksSpec)

/-- ITS FALSE NEIGHBOUR: 'it returns false'. Refute it at one input. -/
def durationTicksWrong : ChangeSpec := { name := "durationTicks", fn := fun _ => fun
  | [d] => { results := [.lit (.bool false)], args := [d] }
  | _ => none }
def DurationTicksWrongFalsely : Prop := durationTicksRow.holds Tryd.pinned (OpenSpec.ofChange durationTicksWrong)

/-- 'hemiolalaw02.DurationFinds': WHATEVER THE INPUT: true; the input reads as it did. -/
def durationFindsSpec : ChangeSpec := { name := "durationFinds", fn := fun _ => fun
  | [d] => { results := [.lit (.bool true)], args := [d] }
  | _ => none }
def durationFindsRow : OpenClaim := { program := "ytoobfcekgfgipaadoor", sum := "991708c147cd9bfda818cf4e1c3541c195116d1df0a2f295fd14786e3c77860e", func := "hemiola/hemiolalaw02.DurationFinds", spec := "durationFinds", inPlace := ["internal/abi.NoEscape", "internal/bytealg.MakeNoZero"], unfollowed := true, recurses := true, named := ["hemiola/duration.texts"], plainKeys := false, apart := false, laid := [("hemiola/duration.texts", laid_hemiola_duration_texts)] }
def DurationFindsSaid : Prop := durationFindsRow.holds Tryd.pinned (OpenSpec.ofChange durationFindsSpec)

/-- ITS FALSE NEIGHBOUR: 'it returns false'. Refute it at one input. -/
def durationFindsWrong : ChangeSpec := { name := "durationFinds", fn := fun _ => fun
  | [d] => { results := [.lit (.bool false)], args := [d] }
  | _ => none }
def DurationFindsWrongFalsely : Prop := durationFindsRow.holds Tryd.pinned (OpenSpec.ofChange durationFindsWrong)

/-- 'hemiolalaw02.DurationSums': WHATEVER THE INPUT: true; the input reads as it did. -/
def durationSumsSpec : ChangeSpec := { name := "durationSums", fn := fun _ => fun
  | [d1, d2] => { results := [.lit (.bool true)], args := [d1, d2] }
  | _ => none }
def durationSumsRow : OpenClaim := { program := "ytoobfcekgfgipaadoor", sum := "991708c147cd9bfda818cf4e1c3541c195116d1df0a2f295fd14786e3c77860e", func := "hemiola/hemiolalaw02.DurationSums", spec := "durationSums", inPlace := ["internal/abi.NoEscape", "internal/bytealg.MakeNoZero"], unfollowed := true, recurses := true, named := ["hemiola/duration.texts"], plainKeys := false, apart := false, laid := [("hemiola/duration.texts", laid_hemiola_duration_texts)] }
def DurationSumsSaid : Prop := durationSumsRow.holds Tryd.pinned (OpenSpec.ofChange durationSumsSpec)

/-- ITS FALSE NEIGHBOUR: 'it returns false'. Refute it at one input. -/
def durationSumsWrong : ChangeSpec := { name := "durationSums", fn := fun _ => fun
  | [d1, d2] => { results := [.lit (.bool false)], args := [d1, d2] }
  | _ => none }
def DurationSumsWrongFalsely : Prop := durationSumsRow.holds Tryd.pinned (OpenSpec.ofChange durationSumsWrong)

/-- 'hemiolalaw02.DurationTexts': WHATEVER THE INPUT: true; the input reads as it did. -/
def durationTextsSpec : ChangeSpec := { name := "durationTexts", fn := fun _ => fun
  | [d] => { results := [.lit (.bool true)], args := [d] }
  | _ => none }
def durationTextsRow : OpenClaim := { program := "ytoobfcekgfgipaadoor", sum := "991708c147cd9bfda818cf4e1c3541c195116d1df0a2f295fd14786e3c77860e", func := "hemiola/hemiolalaw02.DurationTexts", spec := "durationTexts", inPlace := ["internal/abi.NoEscape", "internal/bytealg.MakeNoZero", "internal/bytealg.IndexByteString", "internal/bytealg.IndexString"], unfollowed := true, recurses := true, named := ["hemiola/duration.texts", "hemiola/duration.dotNames", "hemiola/duration.names", "unicode/utf8.first", "unicode/utf8.acceptRanges", "internal/bytealg.MaxLen"], plainKeys := false, apart := false, laid := [("unicode/utf8.acceptRanges", laid_unicode_utf8_acceptRanges), ("hemiola/duration.texts", laid_hemiola_duration_texts), ("hemiola/duration.names", laid_hemiola_duration_names), ("hemiola/duration.dotNames", laid_hemiola_duration_dotNames), ("unicode/utf8.first", laid_unicode_utf8_first)] }
def DurationTextsSaid : Prop := durationTextsRow.holds Tryd.pinned (OpenSpec.ofChange durationTextsSpec)

/-- ITS FALSE NEIGHBOUR: 'it returns false'. Refute it at one input. -/
def durationTextsWrong : ChangeSpec := { name := "durationTexts", fn := fun _ => fun
  | [d] => { results := [.lit (.bool false)], args := [d] }
  | _ => none }
def DurationTextsWrongFalsely : Prop := durationTextsRow.holds Tryd.pinned (OpenSpec.ofChange durationTextsWrong)

/-- 'hemiolalaw02.DurationScales': WHATEVER THE INPUT: true; the input reads as it did. -/
def durationScalesSpec : ChangeSpec := { name := "durationScales", fn := fun _ => fun
  | [d1, d2] => { results := [.lit (.bool true)], args := [d1, d2] }
  | _ => none }
def durationScalesRow : OpenClaim := { program := "ytoobfcekgfgipaadoor", sum := "991708c147cd9bfda818cf4e1c3541c195116d1df0a2f295fd14786e3c77860e", func := "hemiola/hemiolalaw02.DurationScales", spec := "durationScales", inPlace := ["internal/abi.NoEscape", "internal/bytealg.MakeNoZero"], unfollowed := true, recurses := true, named := ["hemiola/duration.texts"], plainKeys := false, apart := false, laid := [("hemiola/duration.texts", laid_hemiola_duration_texts)] }
def DurationScalesSaid : Prop := durationScalesRow.holds Tryd.pinned (OpenSpec.ofChange durationScalesSpec)

/-- ITS FALSE NEIGHBOUR: 'it returns false'. Refute it at one input. -/
def durationScalesWrong : ChangeSpec := { name := "durationScales", fn := fun _ => fun
  | [d1, d2] => { results := [.lit (.bool false)], args := [d1, d2] }
  | _ => none }
def DurationScalesWrongFalsely : Prop := durationScalesRow.holds Tryd.pinned (OpenSpec.ofChange durationScalesWrong)

/-- 'hemiolalaw02.DurationFlags': WHATEVER THE INPUT: true; the input reads as it did. -/
def durationFlagsSpec : ChangeSpec := { name := "durationFlags", fn := fun _ => fun
  | [d] => { results := [.lit (.bool true)], args := [d] }
  | _ => none }
def durationFlagsRow : OpenClaim := { program := "ytoobfcekgfgipaadoor", sum := "991708c147cd9bfda818cf4e1c3541c195116d1df0a2f295fd14786e3c77860e", func := "hemiola/hemiolalaw02.DurationFlags", spec := "durationFlags", inPlace := ["internal/abi.NoEscape", "internal/bytealg.MakeNoZero"], unfollowed := true, recurses := true, named := ["hemiola/duration.texts"], plainKeys := false, apart := false, laid := [("hemiola/duration.texts", laid_hemiola_duration_texts)] }
def DurationFlagsSaid : Prop := durationFlagsRow.holds Tryd.pinned (OpenSpec.ofChange durationFlagsSpec)

/-- ITS FALSE NEIGHBOUR: 'it returns false'. Refute it at one input. -/
def durationFlagsWrong : ChangeSpec := { name := "durationFlags", fn := fun _ => fun
  | [d] => { results := [.lit (.bool false)], args := [d] }
  | _ => none }
def DurationFlagsWrongFalsely : Prop := durationFlagsRow.holds Tryd.pinned (OpenSpec.ofChange durationFlagsWrong)

/- THE SECOND FORM. 'bulk': how many values and letters a reading holds, each counted each time it is reached (what is shared counts as often as it is met; a slice's spare places count too). A statement '..UptoSaid' is the law's where the arguments, and the package variables that the reading takes, are together of bulk at most 1048576: NARROWER than '..Said'. Prove '..Said' where nothing that the law and all that it calls make is longer than what came in: it says more and counts as full. Else prove '..UptoSaid'. A law counts once. -/
mutual
def uptoBulk {H : Type} : DataW H → Nat
  | .lit (.string bytes) => bytes.length + 1
  | .lit _ => 1
  | .nil => 1
  | .ptr d => uptoBulk d + 1
  | .slice elems spare => uptoBulkAll elems + uptoBulkAll spare + 1
  | .agg parts => uptoBulkAll parts + 1
  | .iface _ d => uptoBulk d + 1
  | .map entries => uptoBulkEntries entries + 1
  | .held _ => 1
def uptoBulkAll {H : Type} : List (DataW H) → Nat
  | [] => 0
  | d :: r => uptoBulk d + uptoBulkAll r
def uptoBulkEntries {H : Type} : List (Lit × DataW H) → Nat
  | [] => 0
  | x :: r => uptoBulkEntry x + uptoBulkEntries r
def uptoBulkEntry {H : Type} : Lit × DataW H → Nat
  | (.string bytes, d) => bytes.length + uptoBulk d + 1
  | (_, d) => uptoBulk d + 1
 end
def uptoSmall : (H : Type) → List (DataW H) → Bool := fun _ ds => decide (uptoBulkAll ds ≤ 1048576)
def OpenSpec.upto (s : _root_.Go.ChangeSpec) : _root_.Go.OpenSpec := { _root_.Go.OpenSpec.ofChange s with cond := some uptoSmall }

/-- 'hemiolalaw02.DurationTicks', WHERE WHAT IT READS IS OF BULK AT MOST 1048576: true; the input reads as it did. -/
def durationTicksUptoRow : OpenClaim := { program := "ytoobfcekgfgipaadoor", sum := "991708c147cd9bfda818cf4e1c3541c195116d1df0a2f295fd14786e3c77860e", func := "hemiola/hemiolalaw02.DurationTicks", spec := "durationTicks", inPlace := ["internal/abi.NoEscape", "internal/bytealg.MakeNoZero"], unfollowed := true, recurses := true, named := ["hemiola/duration.texts"], plainKeys := false, apart := false, laid := [("hemiola/duration.texts", laid_hemiola_duration_texts)], narrowed := true }
def DurationTicksUptoSaid : Prop := durationTicksUptoRow.holds Tryd.pinned (OpenSpec.upto durationTicksSpec)

/-- 'hemiolalaw02.DurationFinds', WHERE WHAT IT READS IS OF BULK AT MOST 1048576: true; the input reads as it did. -/
def durationFindsUptoRow : OpenClaim := { program := "ytoobfcekgfgipaadoor", sum := "991708c147cd9bfda818cf4e1c3541c195116d1df0a2f295fd14786e3c77860e", func := "hemiola/hemiolalaw02.DurationFinds", spec := "durationFinds", inPlace := ["internal/abi.NoEscape", "internal/bytealg.MakeNoZero"], unfollowed := true, recurses := true, named := ["hemiola/duration.texts"], plainKeys := false, apart := false, laid := [("hemiola/duration.texts", laid_hemiola_duration_texts)], narrowed := true }
def DurationFindsUptoSaid : Prop := durationFindsUptoRow.holds Tryd.pinned (OpenSpec.upto durationFindsSpec)

/-- 'hemiolalaw02.DurationSums', WHERE WHAT IT READS IS OF BULK AT MOST 1048576: true; the input reads as it did. -/
def durationSumsUptoRow : OpenClaim := { program := "ytoobfcekgfgipaadoor", sum := "991708c147cd9bfda818cf4e1c3541c195116d1df0a2f295fd14786e3c77860e", func := "hemiola/hemiolalaw02.DurationSums", spec := "durationSums", inPlace := ["internal/abi.NoEscape", "internal/bytealg.MakeNoZero"], unfollowed := true, recurses := true, named := ["hemiola/duration.texts"], plainKeys := false, apart := false, laid := [("hemiola/duration.texts", laid_hemiola_duration_texts)], narrowed := true }
def DurationSumsUptoSaid : Prop := durationSumsUptoRow.holds Tryd.pinned (OpenSpec.upto durationSumsSpec)

/-- 'hemiolalaw02.DurationTexts', WHERE WHAT IT READS IS OF BULK AT MOST 1048576: true; the input reads as it did. -/
def durationTextsUptoRow : OpenClaim := { program := "ytoobfcekgfgipaadoor", sum := "991708c147cd9bfda818cf4e1c3541c195116d1df0a2f295fd14786e3c77860e", func := "hemiola/hemiolalaw02.DurationTexts", spec := "durationTexts", inPlace := ["internal/abi.NoEscape", "internal/bytealg.MakeNoZero", "internal/bytealg.IndexByteString", "internal/bytealg.IndexString"], unfollowed := true, recurses := true, named := ["hemiola/duration.texts", "hemiola/duration.dotNames", "hemiola/duration.names", "unicode/utf8.first", "unicode/utf8.acceptRanges", "internal/bytealg.MaxLen"], plainKeys := false, apart := false, laid := [("unicode/utf8.acceptRanges", laid_unicode_utf8_acceptRanges), ("hemiola/duration.texts", laid_hemiola_duration_texts), ("hemiola/duration.names", laid_hemiola_duration_names), ("hemiola/duration.dotNames", laid_hemiola_duration_dotNames), ("unicode/utf8.first", laid_unicode_utf8_first)], narrowed := true }
def DurationTextsUptoSaid : Prop := durationTextsUptoRow.holds Tryd.pinned (OpenSpec.upto durationTextsSpec)

/-- 'hemiolalaw02.DurationScales', WHERE WHAT IT READS IS OF BULK AT MOST 1048576: true; the input reads as it did. -/
def durationScalesUptoRow : OpenClaim := { program := "ytoobfcekgfgipaadoor", sum := "991708c147cd9bfda818cf4e1c3541c195116d1df0a2f295fd14786e3c77860e", func := "hemiola/hemiolalaw02.DurationScales", spec := "durationScales", inPlace := ["internal/abi.NoEscape", "internal/bytealg.MakeNoZero"], unfollowed := true, recurses := true, named := ["hemiola/duration.texts"], plainKeys := false, apart := false, laid := [("hemiola/duration.texts", laid_hemiola_duration_texts)], narrowed := true }
def DurationScalesUptoSaid : Prop := durationScalesUptoRow.holds Tryd.pinned (OpenSpec.upto durationScalesSpec)

/-- 'hemiolalaw02.DurationFlags', WHERE WHAT IT READS IS OF BULK AT MOST 1048576: true; the input reads as it did. -/
def durationFlagsUptoRow : OpenClaim := { program := "ytoobfcekgfgipaadoor", sum := "991708c147cd9bfda818cf4e1c3541c195116d1df0a2f295fd14786e3c77860e", func := "hemiola/hemiolalaw02.DurationFlags", spec := "durationFlags", inPlace := ["internal/abi.NoEscape", "internal/bytealg.MakeNoZero"], unfollowed := true, recurses := true, named := ["hemiola/duration.texts"], plainKeys := false, apart := false, laid := [("hemiola/duration.texts", laid_hemiola_duration_texts)], narrowed := true }
def DurationFlagsUptoSaid : Prop := durationFlagsUptoRow.holds Tryd.pinned (OpenSpec.upto durationFlagsSpec)

end Rows
end Go.Proofs.YtoobfcekgfgipaaDoor
