/-
  NARROWER THAN 'FOR EVERY INPUT', by the rows' own cells (each row's printed sentence says how): KeyAlters: laid · KeyTonics: laid · KeyTransposes: laid · KeySounds: laid · KeyDegrees: laid · KeyDiatonic: laid.
  DERIVED. THE GIVEN ROWS OF THIS SEAT. 6 by the template 'for every input the law returns true; each argument reads behind the call as it read before'; 0 by the template 'total and deterministic' (their statements: YtihndkplknoabaaDoorTotals.lean).
  GIVEN WITH THE SEED: the statements are not yours to turn. If you find one false, say at which input.
  Laid BY PROGRAM, IN A SANDBOX (cutbox-rows.mjs): the forced cells as the released guide's own fill.sh prints them over the translation 2638023258d175a1… (all of the seat's roots in one cut). By AI agents, Wed Nov 11 2026. No macro, syntax, notation, axiom, sorry.
-/
import Derived.Test.YtihndkplknoabaaDoorChecked
import GoSem.Claim
import GoSem.ClaimJoined
import GoSem.ClaimMapViews
import Derived.JoinedTies
import Derived.KernelRfl
namespace Go.Proofs.YtihndkplknoabaaDoor
/- THE CELL 'sum', in the pinned program and in every row, IS THE sha256 OF THE DUMP (.gsa) THAT YtihndkplknoabaaDoorProg.lean LOADS. Nothing in Lean hashes anything: it is a label: what it is worth is what the hold of that sum in a sandbox is worth. -/
noncomputable def Tryd.pinned : Pinned := { name := "ytihndkplknoabaadoor", sum := "2638023258d175a11f4440e9d341e3a430b4e4de3b3db1b4967d3ee492d4a68a", checked := Tryd.checked }
namespace Rows
def none {H : Type} : Left H := { results := [], args := [] }

/- WHAT THE LISTED PACKAGE-LEVEL VARIABLES READ AS WHEN THE CALL BEGINS. Each datum BY PROGRAM (the guide's laid-datum.mjs) off the statement by which the dump's own 'gosem.cut.vars' lays the variable. In a bare row this is a premise. The card (YtihndkplknoabaaDoorCards.lean) ties it to the program's text. -/
def laid_hemiola_key_sharps {H : Type} : DataW H := .agg [.lit (.int .i64 3), .lit (.int .i64 0), .lit (.int .i64 4), .lit (.int .i64 1), .lit (.int .i64 5), .lit (.int .i64 2), .lit (.int .i64 6)]
def laid_hemiola_key_signs {H : Type} : DataW H := .agg [.lit (.string [98]), .lit (.string []), .lit (.string [35])]

/-- 'hemiolalaw07.KeyAlters': WHATEVER THE INPUT: true; the input reads as it did. -/
def keyAltersSpec : ChangeSpec := { name := "keyAlters", fn := fun _ => fun
  | [d1, d2] => { results := [.lit (.bool true)], args := [d1, d2] }
  | _ => none }
def keyAltersRow : OpenClaim := { program := "ytihndkplknoabaadoor", sum := "2638023258d175a11f4440e9d341e3a430b4e4de3b3db1b4967d3ee492d4a68a", func := "hemiola/hemiolalaw07.KeyAlters", spec := "keyAlters", named := ["hemiola/key.sharps", "hemiola/key.signs"], apart := false, laid := [("hemiola/key.sharps", laid_hemiola_key_sharps), ("hemiola/key.signs", laid_hemiola_key_signs)] }
def KeyAltersSaid : Prop := keyAltersRow.holds Tryd.pinned (OpenSpec.ofChange keyAltersSpec)

/-- ITS FALSE NEIGHBOUR: 'it returns false'. Refute it at one input. -/
def keyAltersWrong : ChangeSpec := { name := "keyAlters", fn := fun _ => fun
  | [d1, d2] => { results := [.lit (.bool false)], args := [d1, d2] }
  | _ => none }
def KeyAltersWrongFalsely : Prop := keyAltersRow.holds Tryd.pinned (OpenSpec.ofChange keyAltersWrong)

/-- 'hemiolalaw07.KeyTonics': WHATEVER THE INPUT: true; the input reads as it did. -/
def keyTonicsSpec : ChangeSpec := { name := "keyTonics", fn := fun _ => fun
  | [d1, d2, d3] => { results := [.lit (.bool true)], args := [d1, d2, d3] }
  | _ => none }
def keyTonicsRow : OpenClaim := { program := "ytihndkplknoabaadoor", sum := "2638023258d175a11f4440e9d341e3a430b4e4de3b3db1b4967d3ee492d4a68a", func := "hemiola/hemiolalaw07.KeyTonics", spec := "keyTonics", named := ["hemiola/key.sharps", "hemiola/key.signs"], apart := false, laid := [("hemiola/key.sharps", laid_hemiola_key_sharps), ("hemiola/key.signs", laid_hemiola_key_signs)] }
def KeyTonicsSaid : Prop := keyTonicsRow.holds Tryd.pinned (OpenSpec.ofChange keyTonicsSpec)

/-- ITS FALSE NEIGHBOUR: 'it returns false'. Refute it at one input. -/
def keyTonicsWrong : ChangeSpec := { name := "keyTonics", fn := fun _ => fun
  | [d1, d2, d3] => { results := [.lit (.bool false)], args := [d1, d2, d3] }
  | _ => none }
def KeyTonicsWrongFalsely : Prop := keyTonicsRow.holds Tryd.pinned (OpenSpec.ofChange keyTonicsWrong)

/-- 'hemiolalaw07.KeyTransposes': WHATEVER THE INPUT: true; the input reads as it did. -/
def keyTransposesSpec : ChangeSpec := { name := "keyTransposes", fn := fun _ => fun
  | [d1, d2] => { results := [.lit (.bool true)], args := [d1, d2] }
  | _ => none }
def keyTransposesRow : OpenClaim := { program := "ytihndkplknoabaadoor", sum := "2638023258d175a11f4440e9d341e3a430b4e4de3b3db1b4967d3ee492d4a68a", func := "hemiola/hemiolalaw07.KeyTransposes", spec := "keyTransposes", named := ["hemiola/key.sharps", "hemiola/key.signs"], apart := false, laid := [("hemiola/key.sharps", laid_hemiola_key_sharps), ("hemiola/key.signs", laid_hemiola_key_signs)] }
def KeyTransposesSaid : Prop := keyTransposesRow.holds Tryd.pinned (OpenSpec.ofChange keyTransposesSpec)

/-- ITS FALSE NEIGHBOUR: 'it returns false'. Refute it at one input. -/
def keyTransposesWrong : ChangeSpec := { name := "keyTransposes", fn := fun _ => fun
  | [d1, d2] => { results := [.lit (.bool false)], args := [d1, d2] }
  | _ => none }
def KeyTransposesWrongFalsely : Prop := keyTransposesRow.holds Tryd.pinned (OpenSpec.ofChange keyTransposesWrong)

/-- 'hemiolalaw07.KeySounds': WHATEVER THE INPUT: true; the input reads as it did. -/
def keySoundsSpec : ChangeSpec := { name := "keySounds", fn := fun _ => fun
  | [d1, d2] => { results := [.lit (.bool true)], args := [d1, d2] }
  | _ => none }
def keySoundsRow : OpenClaim := { program := "ytihndkplknoabaadoor", sum := "2638023258d175a11f4440e9d341e3a430b4e4de3b3db1b4967d3ee492d4a68a", func := "hemiola/hemiolalaw07.KeySounds", spec := "keySounds", named := ["hemiola/key.sharps", "hemiola/key.signs"], apart := false, laid := [("hemiola/key.sharps", laid_hemiola_key_sharps), ("hemiola/key.signs", laid_hemiola_key_signs)] }
def KeySoundsSaid : Prop := keySoundsRow.holds Tryd.pinned (OpenSpec.ofChange keySoundsSpec)

/-- ITS FALSE NEIGHBOUR: 'it returns false'. Refute it at one input. -/
def keySoundsWrong : ChangeSpec := { name := "keySounds", fn := fun _ => fun
  | [d1, d2] => { results := [.lit (.bool false)], args := [d1, d2] }
  | _ => none }
def KeySoundsWrongFalsely : Prop := keySoundsRow.holds Tryd.pinned (OpenSpec.ofChange keySoundsWrong)

/-- 'hemiolalaw07.KeyDegrees': WHATEVER THE INPUT: true; the input reads as it did. -/
def keyDegreesSpec : ChangeSpec := { name := "keyDegrees", fn := fun _ => fun
  | [d1, d2] => { results := [.lit (.bool true)], args := [d1, d2] }
  | _ => none }
def keyDegreesRow : OpenClaim := { program := "ytihndkplknoabaadoor", sum := "2638023258d175a11f4440e9d341e3a430b4e4de3b3db1b4967d3ee492d4a68a", func := "hemiola/hemiolalaw07.KeyDegrees", spec := "keyDegrees", named := ["hemiola/key.sharps", "hemiola/key.signs"], apart := false, laid := [("hemiola/key.sharps", laid_hemiola_key_sharps), ("hemiola/key.signs", laid_hemiola_key_signs)] }
def KeyDegreesSaid : Prop := keyDegreesRow.holds Tryd.pinned (OpenSpec.ofChange keyDegreesSpec)

/-- ITS FALSE NEIGHBOUR: 'it returns false'. Refute it at one input. -/
def keyDegreesWrong : ChangeSpec := { name := "keyDegrees", fn := fun _ => fun
  | [d1, d2] => { results := [.lit (.bool false)], args := [d1, d2] }
  | _ => none }
def KeyDegreesWrongFalsely : Prop := keyDegreesRow.holds Tryd.pinned (OpenSpec.ofChange keyDegreesWrong)

/-- 'hemiolalaw07.KeyDiatonic': WHATEVER THE INPUT: true; the input reads as it did. -/
def keyDiatonicSpec : ChangeSpec := { name := "keyDiatonic", fn := fun _ => fun
  | [d1, d2] => { results := [.lit (.bool true)], args := [d1, d2] }
  | _ => none }
def keyDiatonicRow : OpenClaim := { program := "ytihndkplknoabaadoor", sum := "2638023258d175a11f4440e9d341e3a430b4e4de3b3db1b4967d3ee492d4a68a", func := "hemiola/hemiolalaw07.KeyDiatonic", spec := "keyDiatonic", named := ["hemiola/key.sharps", "hemiola/key.signs"], apart := false, laid := [("hemiola/key.sharps", laid_hemiola_key_sharps), ("hemiola/key.signs", laid_hemiola_key_signs)] }
def KeyDiatonicSaid : Prop := keyDiatonicRow.holds Tryd.pinned (OpenSpec.ofChange keyDiatonicSpec)

/-- ITS FALSE NEIGHBOUR: 'it returns false'. Refute it at one input. -/
def keyDiatonicWrong : ChangeSpec := { name := "keyDiatonic", fn := fun _ => fun
  | [d1, d2] => { results := [.lit (.bool false)], args := [d1, d2] }
  | _ => none }
def KeyDiatonicWrongFalsely : Prop := keyDiatonicRow.holds Tryd.pinned (OpenSpec.ofChange keyDiatonicWrong)

/- THE SECOND FORM. 'bulk': how many values and letters a reading holds, each counted each time it is reached (what is shared counts as often as it is met; a slice's spare places count too). A statement '..UptoSaid' is the law's where the arguments, and the package variables that the reading takes, are together of bulk at most 1048576: NARROWER than '..Said'. Prove '..Said' where nothing that the law and all that it calls make is longer than what came in: it says more and counts as full. Else prove '..UptoSaid'. A law counts once. -/
mutual
def uptoBulk {H : Type} : DataW H → Nat
  | .lit (.string bytes) => bytes.length + 1
  | .lit _ => 1
  | .nil => 1
  | .ptr d => uptoBulk d + 1
  | .slice elems spare => uptoBulkAll elems + uptoBulkAll spare + 1
  | .agg parts => uptoBulkAll parts + 1
  | .iface _ d => uptoBulk d + 1
  | .map entries => uptoBulkEntries entries + 1
  | .held _ => 1
def uptoBulkAll {H : Type} : List (DataW H) → Nat
  | [] => 0
  | d :: r => uptoBulk d + uptoBulkAll r
def uptoBulkEntries {H : Type} : List (Lit × DataW H) → Nat
  | [] => 0
  | x :: r => uptoBulkEntry x + uptoBulkEntries r
def uptoBulkEntry {H : Type} : Lit × DataW H → Nat
  | (.string bytes, d) => bytes.length + uptoBulk d + 1
  | (_, d) => uptoBulk d + 1
 end
def uptoSmall : (H : Type) → List (DataW H) → Bool := fun _ ds => decide (uptoBulkAll ds ≤ 1048576)
def OpenSpec.upto (s : _root_.Go.ChangeSpec) : _root_.Go.OpenSpec := { _root_.Go.OpenSpec.ofChange s with cond := some uptoSmall }

/-- 'hemiolalaw07.KeyAlters', WHERE WHAT IT READS IS OF BULK AT MOST 1048576: true; the input reads as it did. -/
def keyAltersUptoRow : OpenClaim := { program := "ytihndkplknoabaadoor", sum := "2638023258d175a11f4440e9d341e3a430b4e4de3b3db1b4967d3ee492d4a68a", func := "hemiola/hemiolalaw07.KeyAlters", spec := "keyAlters", named := ["hemiola/key.sharps", "hemiola/key.signs"], apart := false, laid := [("hemiola/key.sharps", laid_hemiola_key_sharps), ("hemiola/key.signs", laid_hemiola_key_signs)], narrowed := true }
def KeyAltersUptoSaid : Prop := keyAltersUptoRow.holds Tryd.pinned (OpenSpec.upto keyAltersSpec)

/-- 'hemiolalaw07.KeyTonics', WHERE WHAT IT READS IS OF BULK AT MOST 1048576: true; the input reads as it did. -/
def keyTonicsUptoRow : OpenClaim := { program := "ytihndkplknoabaadoor", sum := "2638023258d175a11f4440e9d341e3a430b4e4de3b3db1b4967d3ee492d4a68a", func := "hemiola/hemiolalaw07.KeyTonics", spec := "keyTonics", named := ["hemiola/key.sharps", "hemiola/key.signs"], apart := false, laid := [("hemiola/key.sharps", laid_hemiola_key_sharps), ("hemiola/key.signs", laid_hemiola_key_signs)], narrowed := true }
def KeyTonicsUptoSaid : Prop := keyTonicsUptoRow.holds Tryd.pinned (OpenSpec.upto keyTonicsSpec)

/-- 'hemiolalaw07.KeyTransposes', WHERE WHAT IT READS IS OF BULK AT MOST 1048576: true; the input reads as it did. -/
def keyTransposesUptoRow : OpenClaim := { program := "ytihndkplknoabaadoor", sum := "2638023258d175a11f4440e9d341e3a430b4e4de3b3db1b4967d3ee492d4a68a", func := "hemiola/hemiolalaw07.KeyTransposes", spec := "keyTransposes", named := ["hemiola/key.sharps", "hemiola/key.signs"], apart := false, laid := [("hemiola/key.sharps", laid_hemiola_key_sharps), ("hemiola/key.signs", laid_hemiola_key_signs)], narrowed := true }
def KeyTransposesUptoSaid : Prop := keyTransposesUptoRow.holds Tryd.pinned (OpenSpec.upto keyTransposesSpec)

/-- 'hemiolalaw07.KeySounds', WHERE WHAT IT READS IS OF BULK AT MOST 1048576: true; the input reads as it did. -/
def keySoundsUptoRow : OpenClaim := { program := "ytihndkplknoabaadoor", sum := "2638023258d175a11f4440e9d341e3a430b4e4de3b3db1b4967d3ee492d4a68a", func := "hemiola/hemiolalaw07.KeySounds", spec := "keySounds", named := ["hemiola/key.sharps", "hemiola/key.signs"], apart := false, laid := [("hemiola/key.sharps", laid_hemiola_key_sharps), ("hemiola/key.signs", laid_hemiola_key_signs)], narrowed := true }
def KeySoundsUptoSaid : Prop := keySoundsUptoRow.holds Tryd.pinned (OpenSpec.upto keySoundsSpec)

/-- 'hemiolalaw07.KeyDegrees', WHERE WHAT IT READS IS OF BULK AT MOST 1048576: true; the input reads as it did. -/
def keyDegreesUptoRow : OpenClaim := { program := "ytihndkplknoabaadoor", sum := "2638023258d175a11f4440e9d341e3a430b4e4de3b3db1b4967d3ee492d4a68a", func := "hemiola/hemiolalaw07.KeyDegrees", spec := "keyDegrees", named := ["hemiola/key.sharps", "hemiola/key.signs"], apart := false, laid := [("hemiola/key.sharps", laid_hemiola_key_sharps), ("hemiola/key.signs", laid_hemiola_key_signs)], narrowed := true }
def KeyDegreesUptoSaid : Prop := keyDegreesUptoRow.holds Tryd.pinned (OpenSpec.upto keyDegreesSpec)

/-- 'hemiolalaw07.KeyDiatonic', WHERE WHAT IT READS IS OF BULK AT MOST 1048576: true; the input reads as it did. -/
def keyDiatonicUptoRow : OpenClaim := { program := "ytihndkplknoabaadoor", sum := "2638023258d175a11f4440e9d341e3a430b4e4de3b3db1b4967d3ee492d4a68a", func := "hemiola/hemiolalaw07.KeyDiatonic", spec := "keyDiatonic", named := ["hemiola/key.sharps", "hemiola/key.signs"], apart := false, laid := [("hemiola/key.sharps", laid_hemiola_key_sharps), ("hemiola/key.signs", laid_hemiola_key_signs)], narrowed := true }
def KeyDiatonicUptoSaid : Prop := keyDiatonicUptoRow.holds Tryd.pinned (OpenSpec.upto keyDiatonicSpec)

end Rows
end Go.Proofs.YtihndkplknoabaaDoor
