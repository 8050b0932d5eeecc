/-
  NARROWER THAN 'FOR EVERY INPUT', by the rows' own cells (each row's printed sentence says how): PatternSubstitutes: laid · PatternNarrows: laid · RuleChecks: laid · RuleMaps: laid · RuleNarrowsLeft: laid · RuleNarrowsRight: laid · RuleBack: laid · RuleNarrowMeans: laid · RuleChainMeans: laid · RuleAgreeMeans: laid · RuleAssociates: laid.
  DERIVED. THE GIVEN ROWS OF THIS SEAT. 11 by the template 'for every input the law returns true; each argument reads behind the call as it read before'; 0 by the template 'total and deterministic' (their statements: YtihboibebhokbaaDoorTotals.lean).
  GIVEN WITH THE SEED: the statements are not yours to turn. If you find one false, say at which input.
  Laid BY PROGRAM, IN A SANDBOX (cutbox-rows.mjs): the forced cells as the released guide's own fill.sh prints them over the translation 23631d520f3ab6cc… (all of the seat's roots in one cut). By AI agents, Wed Nov 11 2026. No macro, syntax, notation, axiom, sorry.
-/
import Derived.Test.YtihboibebhokbaaDoorChecked
import GoSem.PinnedTables
import GoSem.Claim
import GoSem.ClaimJoined
import GoSem.ClaimMapViews
import Derived.JoinedTies
import Derived.KernelRfl
namespace Go.Proofs.YtihboibebhokbaaDoor
/- THE CELL 'sum', in the pinned program and in every row, IS THE sha256 OF THE DUMP (.gsa) THAT YtihboibebhokbaaDoorProg.lean LOADS. Nothing in Lean hashes anything: it is a label: what it is worth is what the hold of that sum in a sandbox is worth. -/
noncomputable def Tryd.pinned : Pinned := { name := "ytihboibebhokbaadoor", sum := "23631d520f3ab6cc2d1c6a0aa90b3283605ad1913944d9c3f29e79a8d50df5b6", checked := Tryd.checked }
namespace Rows
def none {H : Type} : Left H := { results := [], args := [] }

/- WHAT THE LISTED PACKAGE-LEVEL VARIABLES READ AS WHEN THE CALL BEGINS. Each datum BY PROGRAM (the guide's laid-datum.mjs) off the statement by which the dump's own 'gosem.cut.vars' lays the variable. In a bare row this is a premise. The card (YtihboibebhokbaaDoorCards.lean) ties it to the program's text. -/
def laid_unicode_utf8_acceptRanges {H : Type} : DataW H := .agg [.agg [.lit (.int .u8 128), .lit (.int .u8 191)], .agg [.lit (.int .u8 160), .lit (.int .u8 191)], .agg [.lit (.int .u8 128), .lit (.int .u8 159)], .agg [.lit (.int .u8 144), .lit (.int .u8 191)], .agg [.lit (.int .u8 128), .lit (.int .u8 143)], .agg [.lit (.int .u8 0), .lit (.int .u8 0)], .agg [.lit (.int .u8 0), .lit (.int .u8 0)], .agg [.lit (.int .u8 0), .lit (.int .u8 0)], .agg [.lit (.int .u8 0), .lit (.int .u8 0)], .agg [.lit (.int .u8 0), .lit (.int .u8 0)], .agg [.lit (.int .u8 0), .lit (.int .u8 0)], .agg [.lit (.int .u8 0), .lit (.int .u8 0)], .agg [.lit (.int .u8 0), .lit (.int .u8 0)], .agg [.lit (.int .u8 0), .lit (.int .u8 0)], .agg [.lit (.int .u8 0), .lit (.int .u8 0)], .agg [.lit (.int .u8 0), .lit (.int .u8 0)]]
/-- One of Go's own tables, pinned by name: the form's constant. -/
def laid_unicode_utf8_first : DataW Unit := Go.Pinned.utf8First

/-- 'stockyardlaw03.PatternSubstitutes': WHATEVER THE INPUT: true; the input reads as it did. -/
def patternSubstitutesSpec : ChangeSpec := { name := "patternSubstitutes", fn := fun _ => fun
  | [d1, d2] => { results := [.lit (.bool true)], args := [d1, d2] }
  | _ => none }
def patternSubstitutesRow : OpenClaim := { program := "ytihboibebhokbaadoor", sum := "23631d520f3ab6cc2d1c6a0aa90b3283605ad1913944d9c3f29e79a8d50df5b6", func := "stockyard/stockyardlaw03.PatternSubstitutes", spec := "patternSubstitutes", inPlace := ["internal/bytealg.CountString", "internal/bytealg.IndexByteString", "internal/bytealg.IndexString", "internal/abi.NoEscape", "internal/bytealg.MakeNoZero"], named := ["unicode/utf8.first", "unicode/utf8.acceptRanges", "internal/bytealg.MaxLen"], apart := false, laid := [("unicode/utf8.acceptRanges", laid_unicode_utf8_acceptRanges), ("unicode/utf8.first", laid_unicode_utf8_first)] }
def PatternSubstitutesSaid : Prop := patternSubstitutesRow.holds Tryd.pinned (OpenSpec.ofChange patternSubstitutesSpec)

/-- ITS FALSE NEIGHBOUR: 'it returns false'. Refute it at one input. -/
def patternSubstitutesWrong : ChangeSpec := { name := "patternSubstitutes", fn := fun _ => fun
  | [d1, d2] => { results := [.lit (.bool false)], args := [d1, d2] }
  | _ => none }
def PatternSubstitutesWrongFalsely : Prop := patternSubstitutesRow.holds Tryd.pinned (OpenSpec.ofChange patternSubstitutesWrong)

/-- 'stockyardlaw03.PatternNarrows': WHATEVER THE INPUT: true; the input reads as it did. -/
def patternNarrowsSpec : ChangeSpec := { name := "patternNarrows", fn := fun _ => fun
  | [d1, d2, d3] => { results := [.lit (.bool true)], args := [d1, d2, d3] }
  | _ => none }
def patternNarrowsRow : OpenClaim := { program := "ytihboibebhokbaadoor", sum := "23631d520f3ab6cc2d1c6a0aa90b3283605ad1913944d9c3f29e79a8d50df5b6", func := "stockyard/stockyardlaw03.PatternNarrows", spec := "patternNarrows", inPlace := ["internal/bytealg.CountString", "internal/bytealg.IndexByteString", "internal/bytealg.IndexString", "internal/abi.NoEscape", "internal/bytealg.MakeNoZero"], named := ["unicode/utf8.first", "unicode/utf8.acceptRanges", "internal/bytealg.MaxLen"], apart := false, laid := [("unicode/utf8.acceptRanges", laid_unicode_utf8_acceptRanges), ("unicode/utf8.first", laid_unicode_utf8_first)] }
def PatternNarrowsSaid : Prop := patternNarrowsRow.holds Tryd.pinned (OpenSpec.ofChange patternNarrowsSpec)

/-- ITS FALSE NEIGHBOUR: 'it returns false'. Refute it at one input. -/
def patternNarrowsWrong : ChangeSpec := { name := "patternNarrows", fn := fun _ => fun
  | [d1, d2, d3] => { results := [.lit (.bool false)], args := [d1, d2, d3] }
  | _ => none }
def PatternNarrowsWrongFalsely : Prop := patternNarrowsRow.holds Tryd.pinned (OpenSpec.ofChange patternNarrowsWrong)

/-- 'stockyardlaw04.RuleChecks': WHATEVER THE INPUT: true; the input reads as it did. -/
def ruleChecksSpec : ChangeSpec := { name := "ruleChecks", fn := fun _ => fun
  | [d] => { results := [.lit (.bool true)], args := [d] }
  | _ => none }
def ruleChecksRow : OpenClaim := { program := "ytihboibebhokbaadoor", sum := "23631d520f3ab6cc2d1c6a0aa90b3283605ad1913944d9c3f29e79a8d50df5b6", func := "stockyard/stockyardlaw04.RuleChecks", spec := "ruleChecks", inPlace := ["internal/bytealg.IndexByteString", "internal/bytealg.IndexString", "internal/bytealg.CountString", "internal/abi.NoEscape", "internal/bytealg.MakeNoZero"], named := ["unicode/utf8.first", "unicode/utf8.acceptRanges", "internal/bytealg.MaxLen"], apart := false, laid := [("unicode/utf8.acceptRanges", laid_unicode_utf8_acceptRanges), ("unicode/utf8.first", laid_unicode_utf8_first)] }
def RuleChecksSaid : Prop := ruleChecksRow.holds Tryd.pinned (OpenSpec.ofChange ruleChecksSpec)

/-- ITS FALSE NEIGHBOUR: 'it returns false'. Refute it at one input. -/
def ruleChecksWrong : ChangeSpec := { name := "ruleChecks", fn := fun _ => fun
  | [d] => { results := [.lit (.bool false)], args := [d] }
  | _ => none }
def RuleChecksWrongFalsely : Prop := ruleChecksRow.holds Tryd.pinned (OpenSpec.ofChange ruleChecksWrong)

/-- 'stockyardlaw04.RuleMaps': WHATEVER THE INPUT: true; the input reads as it did. -/
def ruleMapsSpec : ChangeSpec := { name := "ruleMaps", fn := fun _ => fun
  | [d1, d2] => { results := [.lit (.bool true)], args := [d1, d2] }
  | _ => none }
def ruleMapsRow : OpenClaim := { program := "ytihboibebhokbaadoor", sum := "23631d520f3ab6cc2d1c6a0aa90b3283605ad1913944d9c3f29e79a8d50df5b6", func := "stockyard/stockyardlaw04.RuleMaps", spec := "ruleMaps", inPlace := ["internal/bytealg.IndexByteString", "internal/bytealg.IndexString", "internal/bytealg.CountString", "internal/abi.NoEscape", "internal/bytealg.MakeNoZero"], named := ["unicode/utf8.first", "unicode/utf8.acceptRanges", "internal/bytealg.MaxLen"], apart := false, laid := [("unicode/utf8.acceptRanges", laid_unicode_utf8_acceptRanges), ("unicode/utf8.first", laid_unicode_utf8_first)] }
def RuleMapsSaid : Prop := ruleMapsRow.holds Tryd.pinned (OpenSpec.ofChange ruleMapsSpec)

/-- ITS FALSE NEIGHBOUR: 'it returns false'. Refute it at one input. -/
def ruleMapsWrong : ChangeSpec := { name := "ruleMaps", fn := fun _ => fun
  | [d1, d2] => { results := [.lit (.bool false)], args := [d1, d2] }
  | _ => none }
def RuleMapsWrongFalsely : Prop := ruleMapsRow.holds Tryd.pinned (OpenSpec.ofChange ruleMapsWrong)

/-- 'stockyardlaw04.RuleNarrowsLeft': WHATEVER THE INPUT: true; the input reads as it did. -/
def ruleNarrowsLeftSpec : ChangeSpec := { name := "ruleNarrowsLeft", fn := fun _ => fun
  | [d1, d2] => { results := [.lit (.bool true)], args := [d1, d2] }
  | _ => none }
def ruleNarrowsLeftRow : OpenClaim := { program := "ytihboibebhokbaadoor", sum := "23631d520f3ab6cc2d1c6a0aa90b3283605ad1913944d9c3f29e79a8d50df5b6", func := "stockyard/stockyardlaw04.RuleNarrowsLeft", spec := "ruleNarrowsLeft", inPlace := ["internal/bytealg.IndexByteString", "internal/bytealg.IndexString", "internal/bytealg.CountString", "internal/abi.NoEscape", "internal/bytealg.MakeNoZero"], named := ["unicode/utf8.first", "unicode/utf8.acceptRanges", "internal/bytealg.MaxLen"], apart := false, laid := [("unicode/utf8.acceptRanges", laid_unicode_utf8_acceptRanges), ("unicode/utf8.first", laid_unicode_utf8_first)] }
def RuleNarrowsLeftSaid : Prop := ruleNarrowsLeftRow.holds Tryd.pinned (OpenSpec.ofChange ruleNarrowsLeftSpec)

/-- ITS FALSE NEIGHBOUR: 'it returns false'. Refute it at one input. -/
def ruleNarrowsLeftWrong : ChangeSpec := { name := "ruleNarrowsLeft", fn := fun _ => fun
  | [d1, d2] => { results := [.lit (.bool false)], args := [d1, d2] }
  | _ => none }
def RuleNarrowsLeftWrongFalsely : Prop := ruleNarrowsLeftRow.holds Tryd.pinned (OpenSpec.ofChange ruleNarrowsLeftWrong)

/-- 'stockyardlaw04.RuleNarrowsRight': WHATEVER THE INPUT: true; the input reads as it did. -/
def ruleNarrowsRightSpec : ChangeSpec := { name := "ruleNarrowsRight", fn := fun _ => fun
  | [d1, d2] => { results := [.lit (.bool true)], args := [d1, d2] }
  | _ => none }
def ruleNarrowsRightRow : OpenClaim := { program := "ytihboibebhokbaadoor", sum := "23631d520f3ab6cc2d1c6a0aa90b3283605ad1913944d9c3f29e79a8d50df5b6", func := "stockyard/stockyardlaw04.RuleNarrowsRight", spec := "ruleNarrowsRight", inPlace := ["internal/bytealg.IndexByteString", "internal/bytealg.IndexString", "internal/bytealg.CountString", "internal/abi.NoEscape", "internal/bytealg.MakeNoZero"], named := ["unicode/utf8.first", "unicode/utf8.acceptRanges", "internal/bytealg.MaxLen"], apart := false, laid := [("unicode/utf8.acceptRanges", laid_unicode_utf8_acceptRanges), ("unicode/utf8.first", laid_unicode_utf8_first)] }
def RuleNarrowsRightSaid : Prop := ruleNarrowsRightRow.holds Tryd.pinned (OpenSpec.ofChange ruleNarrowsRightSpec)

/-- ITS FALSE NEIGHBOUR: 'it returns false'. Refute it at one input. -/
def ruleNarrowsRightWrong : ChangeSpec := { name := "ruleNarrowsRight", fn := fun _ => fun
  | [d1, d2] => { results := [.lit (.bool false)], args := [d1, d2] }
  | _ => none }
def RuleNarrowsRightWrongFalsely : Prop := ruleNarrowsRightRow.holds Tryd.pinned (OpenSpec.ofChange ruleNarrowsRightWrong)

/-- 'stockyardlaw04.RuleBack': WHATEVER THE INPUT: true; the input reads as it did. -/
def ruleBackSpec : ChangeSpec := { name := "ruleBack", fn := fun _ => fun
  | [d1, d2] => { results := [.lit (.bool true)], args := [d1, d2] }
  | _ => none }
def ruleBackRow : OpenClaim := { program := "ytihboibebhokbaadoor", sum := "23631d520f3ab6cc2d1c6a0aa90b3283605ad1913944d9c3f29e79a8d50df5b6", func := "stockyard/stockyardlaw04.RuleBack", spec := "ruleBack", inPlace := ["internal/bytealg.IndexByteString", "internal/bytealg.IndexString", "internal/bytealg.CountString", "internal/abi.NoEscape", "internal/bytealg.MakeNoZero"], named := ["unicode/utf8.first", "unicode/utf8.acceptRanges", "internal/bytealg.MaxLen"], apart := false, laid := [("unicode/utf8.acceptRanges", laid_unicode_utf8_acceptRanges), ("unicode/utf8.first", laid_unicode_utf8_first)] }
def RuleBackSaid : Prop := ruleBackRow.holds Tryd.pinned (OpenSpec.ofChange ruleBackSpec)

/-- ITS FALSE NEIGHBOUR: 'it returns false'. Refute it at one input. -/
def ruleBackWrong : ChangeSpec := { name := "ruleBack", fn := fun _ => fun
  | [d1, d2] => { results := [.lit (.bool false)], args := [d1, d2] }
  | _ => none }
def RuleBackWrongFalsely : Prop := ruleBackRow.holds Tryd.pinned (OpenSpec.ofChange ruleBackWrong)

/-- 'stockyardlaw04.RuleNarrowMeans': WHATEVER THE INPUT: true; the input reads as it did. -/
def ruleNarrowMeansSpec : ChangeSpec := { name := "ruleNarrowMeans", fn := fun _ => fun
  | [d1, d2, d3] => { results := [.lit (.bool true)], args := [d1, d2, d3] }
  | _ => none }
def ruleNarrowMeansRow : OpenClaim := { program := "ytihboibebhokbaadoor", sum := "23631d520f3ab6cc2d1c6a0aa90b3283605ad1913944d9c3f29e79a8d50df5b6", func := "stockyard/stockyardlaw04.RuleNarrowMeans", spec := "ruleNarrowMeans", inPlace := ["internal/bytealg.IndexByteString", "internal/bytealg.IndexString", "internal/bytealg.CountString", "internal/abi.NoEscape", "internal/bytealg.MakeNoZero"], named := ["unicode/utf8.first", "unicode/utf8.acceptRanges", "internal/bytealg.MaxLen"], apart := false, laid := [("unicode/utf8.acceptRanges", laid_unicode_utf8_acceptRanges), ("unicode/utf8.first", laid_unicode_utf8_first)] }
def RuleNarrowMeansSaid : Prop := ruleNarrowMeansRow.holds Tryd.pinned (OpenSpec.ofChange ruleNarrowMeansSpec)

/-- ITS FALSE NEIGHBOUR: 'it returns false'. Refute it at one input. -/
def ruleNarrowMeansWrong : ChangeSpec := { name := "ruleNarrowMeans", fn := fun _ => fun
  | [d1, d2, d3] => { results := [.lit (.bool false)], args := [d1, d2, d3] }
  | _ => none }
def RuleNarrowMeansWrongFalsely : Prop := ruleNarrowMeansRow.holds Tryd.pinned (OpenSpec.ofChange ruleNarrowMeansWrong)

/-- 'stockyardlaw04.RuleChainMeans': WHATEVER THE INPUT: true; the input reads as it did. -/
def ruleChainMeansSpec : ChangeSpec := { name := "ruleChainMeans", fn := fun _ => fun
  | [d1, d2, d3] => { results := [.lit (.bool true)], args := [d1, d2, d3] }
  | _ => none }
def ruleChainMeansRow : OpenClaim := { program := "ytihboibebhokbaadoor", sum := "23631d520f3ab6cc2d1c6a0aa90b3283605ad1913944d9c3f29e79a8d50df5b6", func := "stockyard/stockyardlaw04.RuleChainMeans", spec := "ruleChainMeans", inPlace := ["internal/bytealg.IndexByteString", "internal/bytealg.IndexString", "internal/bytealg.CountString", "internal/abi.NoEscape", "internal/bytealg.MakeNoZero"], named := ["unicode/utf8.first", "unicode/utf8.acceptRanges", "internal/bytealg.MaxLen"], apart := false, laid := [("unicode/utf8.acceptRanges", laid_unicode_utf8_acceptRanges), ("unicode/utf8.first", laid_unicode_utf8_first)] }
def RuleChainMeansSaid : Prop := ruleChainMeansRow.holds Tryd.pinned (OpenSpec.ofChange ruleChainMeansSpec)

/-- ITS FALSE NEIGHBOUR: 'it returns false'. Refute it at one input. -/
def ruleChainMeansWrong : ChangeSpec := { name := "ruleChainMeans", fn := fun _ => fun
  | [d1, d2, d3] => { results := [.lit (.bool false)], args := [d1, d2, d3] }
  | _ => none }
def RuleChainMeansWrongFalsely : Prop := ruleChainMeansRow.holds Tryd.pinned (OpenSpec.ofChange ruleChainMeansWrong)

/-- 'stockyardlaw04.RuleAgreeMeans': WHATEVER THE INPUT: true; the input reads as it did. -/
def ruleAgreeMeansSpec : ChangeSpec := { name := "ruleAgreeMeans", fn := fun _ => fun
  | [d1, d2, d3] => { results := [.lit (.bool true)], args := [d1, d2, d3] }
  | _ => none }
def ruleAgreeMeansRow : OpenClaim := { program := "ytihboibebhokbaadoor", sum := "23631d520f3ab6cc2d1c6a0aa90b3283605ad1913944d9c3f29e79a8d50df5b6", func := "stockyard/stockyardlaw04.RuleAgreeMeans", spec := "ruleAgreeMeans", inPlace := ["internal/bytealg.IndexByteString", "internal/bytealg.IndexString", "internal/bytealg.CountString", "internal/abi.NoEscape", "internal/bytealg.MakeNoZero"], named := ["unicode/utf8.first", "unicode/utf8.acceptRanges", "internal/bytealg.MaxLen"], apart := false, laid := [("unicode/utf8.acceptRanges", laid_unicode_utf8_acceptRanges), ("unicode/utf8.first", laid_unicode_utf8_first)] }
def RuleAgreeMeansSaid : Prop := ruleAgreeMeansRow.holds Tryd.pinned (OpenSpec.ofChange ruleAgreeMeansSpec)

/-- ITS FALSE NEIGHBOUR: 'it returns false'. Refute it at one input. -/
def ruleAgreeMeansWrong : ChangeSpec := { name := "ruleAgreeMeans", fn := fun _ => fun
  | [d1, d2, d3] => { results := [.lit (.bool false)], args := [d1, d2, d3] }
  | _ => none }
def RuleAgreeMeansWrongFalsely : Prop := ruleAgreeMeansRow.holds Tryd.pinned (OpenSpec.ofChange ruleAgreeMeansWrong)

/-- 'stockyardlaw04.RuleAssociates': WHATEVER THE INPUT: true; the input reads as it did. -/
def ruleAssociatesSpec : ChangeSpec := { name := "ruleAssociates", fn := fun _ => fun
  | [d1, d2, d3] => { results := [.lit (.bool true)], args := [d1, d2, d3] }
  | _ => none }
def ruleAssociatesRow : OpenClaim := { program := "ytihboibebhokbaadoor", sum := "23631d520f3ab6cc2d1c6a0aa90b3283605ad1913944d9c3f29e79a8d50df5b6", func := "stockyard/stockyardlaw04.RuleAssociates", spec := "ruleAssociates", inPlace := ["internal/bytealg.IndexByteString", "internal/bytealg.IndexString", "internal/bytealg.CountString", "internal/abi.NoEscape", "internal/bytealg.MakeNoZero"], named := ["unicode/utf8.first", "unicode/utf8.acceptRanges", "internal/bytealg.MaxLen"], apart := false, laid := [("unicode/utf8.acceptRanges", laid_unicode_utf8_acceptRanges), ("unicode/utf8.first", laid_unicode_utf8_first)] }
def RuleAssociatesSaid : Prop := ruleAssociatesRow.holds Tryd.pinned (OpenSpec.ofChange ruleAssociatesSpec)

/-- ITS FALSE NEIGHBOUR: 'it returns false'. Refute it at one input. -/
def ruleAssociatesWrong : ChangeSpec := { name := "ruleAssociates", fn := fun _ => fun
  | [d1, d2, d3] => { results := [.lit (.bool false)], args := [d1, d2, d3] }
  | _ => none }
def RuleAssociatesWrongFalsely : Prop := ruleAssociatesRow.holds Tryd.pinned (OpenSpec.ofChange ruleAssociatesWrong)

/- THE SECOND FORM. 'bulk': how many values and letters a reading holds, each counted each time it is reached (what is shared counts as often as it is met; a slice's spare places count too). A statement '..UptoSaid' is the law's where the arguments, and the package variables that the reading takes, are together of bulk at most 1048576: NARROWER than '..Said'. Prove '..Said' where nothing that the law and all that it calls make is longer than what came in: it says more and counts as full. Else prove '..UptoSaid'. A law counts once. -/
mutual
def uptoBulk {H : Type} : DataW H → Nat
  | .lit (.string bytes) => bytes.length + 1
  | .lit _ => 1
  | .nil => 1
  | .ptr d => uptoBulk d + 1
  | .slice elems spare => uptoBulkAll elems + uptoBulkAll spare + 1
  | .agg parts => uptoBulkAll parts + 1
  | .iface _ d => uptoBulk d + 1
  | .map entries => uptoBulkEntries entries + 1
  | .held _ => 1
def uptoBulkAll {H : Type} : List (DataW H) → Nat
  | [] => 0
  | d :: r => uptoBulk d + uptoBulkAll r
def uptoBulkEntries {H : Type} : List (Lit × DataW H) → Nat
  | [] => 0
  | x :: r => uptoBulkEntry x + uptoBulkEntries r
def uptoBulkEntry {H : Type} : Lit × DataW H → Nat
  | (.string bytes, d) => bytes.length + uptoBulk d + 1
  | (_, d) => uptoBulk d + 1
 end
def uptoSmall : (H : Type) → List (DataW H) → Bool := fun _ ds => decide (uptoBulkAll ds ≤ 1048576)
def OpenSpec.upto (s : _root_.Go.ChangeSpec) : _root_.Go.OpenSpec := { _root_.Go.OpenSpec.ofChange s with cond := some uptoSmall }

/-- 'stockyardlaw03.PatternSubstitutes', WHERE WHAT IT READS IS OF BULK AT MOST 1048576: true; the input reads as it did. -/
def patternSubstitutesUptoRow : OpenClaim := { program := "ytihboibebhokbaadoor", sum := "23631d520f3ab6cc2d1c6a0aa90b3283605ad1913944d9c3f29e79a8d50df5b6", func := "stockyard/stockyardlaw03.PatternSubstitutes", spec := "patternSubstitutes", inPlace := ["internal/bytealg.CountString", "internal/bytealg.IndexByteString", "internal/bytealg.IndexString", "internal/abi.NoEscape", "internal/bytealg.MakeNoZero"], named := ["unicode/utf8.first", "unicode/utf8.acceptRanges", "internal/bytealg.MaxLen"], apart := false, laid := [("unicode/utf8.acceptRanges", laid_unicode_utf8_acceptRanges), ("unicode/utf8.first", laid_unicode_utf8_first)], narrowed := true }
def PatternSubstitutesUptoSaid : Prop := patternSubstitutesUptoRow.holds Tryd.pinned (OpenSpec.upto patternSubstitutesSpec)

/-- 'stockyardlaw03.PatternNarrows', WHERE WHAT IT READS IS OF BULK AT MOST 1048576: true; the input reads as it did. -/
def patternNarrowsUptoRow : OpenClaim := { program := "ytihboibebhokbaadoor", sum := "23631d520f3ab6cc2d1c6a0aa90b3283605ad1913944d9c3f29e79a8d50df5b6", func := "stockyard/stockyardlaw03.PatternNarrows", spec := "patternNarrows", inPlace := ["internal/bytealg.CountString", "internal/bytealg.IndexByteString", "internal/bytealg.IndexString", "internal/abi.NoEscape", "internal/bytealg.MakeNoZero"], named := ["unicode/utf8.first", "unicode/utf8.acceptRanges", "internal/bytealg.MaxLen"], apart := false, laid := [("unicode/utf8.acceptRanges", laid_unicode_utf8_acceptRanges), ("unicode/utf8.first", laid_unicode_utf8_first)], narrowed := true }
def PatternNarrowsUptoSaid : Prop := patternNarrowsUptoRow.holds Tryd.pinned (OpenSpec.upto patternNarrowsSpec)

/-- 'stockyardlaw04.RuleChecks', WHERE WHAT IT READS IS OF BULK AT MOST 1048576: true; the input reads as it did. -/
def ruleChecksUptoRow : OpenClaim := { program := "ytihboibebhokbaadoor", sum := "23631d520f3ab6cc2d1c6a0aa90b3283605ad1913944d9c3f29e79a8d50df5b6", func := "stockyard/stockyardlaw04.RuleChecks", spec := "ruleChecks", inPlace := ["internal/bytealg.IndexByteString", "internal/bytealg.IndexString", "internal/bytealg.CountString", "internal/abi.NoEscape", "internal/bytealg.MakeNoZero"], named := ["unicode/utf8.first", "unicode/utf8.acceptRanges", "internal/bytealg.MaxLen"], apart := false, laid := [("unicode/utf8.acceptRanges", laid_unicode_utf8_acceptRanges), ("unicode/utf8.first", laid_unicode_utf8_first)], narrowed := true }
def RuleChecksUptoSaid : Prop := ruleChecksUptoRow.holds Tryd.pinned (OpenSpec.upto ruleChecksSpec)

/-- 'stockyardlaw04.RuleMaps', WHERE WHAT IT READS IS OF BULK AT MOST 1048576: true; the input reads as it did. -/
def ruleMapsUptoRow : OpenClaim := { program := "ytihboibebhokbaadoor", sum := "23631d520f3ab6cc2d1c6a0aa90b3283605ad1913944d9c3f29e79a8d50df5b6", func := "stockyard/stockyardlaw04.RuleMaps", spec := "ruleMaps", inPlace := ["internal/bytealg.IndexByteString", "internal/bytealg.IndexString", "internal/bytealg.CountString", "internal/abi.NoEscape", "internal/bytealg.MakeNoZero"], named := ["unicode/utf8.first", "unicode/utf8.acceptRanges", "internal/bytealg.MaxLen"], apart := false, laid := [("unicode/utf8.acceptRanges", laid_unicode_utf8_acceptRanges), ("unicode/utf8.first", laid_unicode_utf8_first)], narrowed := true }
def RuleMapsUptoSaid : Prop := ruleMapsUptoRow.holds Tryd.pinned (OpenSpec.upto ruleMapsSpec)

/-- 'stockyardlaw04.RuleNarrowsLeft', WHERE WHAT IT READS IS OF BULK AT MOST 1048576: true; the input reads as it did. -/
def ruleNarrowsLeftUptoRow : OpenClaim := { program := "ytihboibebhokbaadoor", sum := "23631d520f3ab6cc2d1c6a0aa90b3283605ad1913944d9c3f29e79a8d50df5b6", func := "stockyard/stockyardlaw04.RuleNarrowsLeft", spec := "ruleNarrowsLeft", inPlace := ["internal/bytealg.IndexByteString", "internal/bytealg.IndexString", "internal/bytealg.CountString", "internal/abi.NoEscape", "internal/bytealg.MakeNoZero"], named := ["unicode/utf8.first", "unicode/utf8.acceptRanges", "internal/bytealg.MaxLen"], apart := false, laid := [("unicode/utf8.acceptRanges", laid_unicode_utf8_acceptRanges), ("unicode/utf8.first", laid_unicode_utf8_first)], narrowed := true }
def RuleNarrowsLeftUptoSaid : Prop := ruleNarrowsLeftUptoRow.holds Tryd.pinned (OpenSpec.upto ruleNarrowsLeftSpec)

/-- 'stockyardlaw04.RuleNarrowsRight', WHERE WHAT IT READS IS OF BULK AT MOST 1048576: true; the input reads as it did. -/
def ruleNarrowsRightUptoRow : OpenClaim := { program := "ytihboibebhokbaadoor", sum := "23631d520f3ab6cc2d1c6a0aa90b3283605ad1913944d9c3f29e79a8d50df5b6", func := "stockyard/stockyardlaw04.RuleNarrowsRight", spec := "ruleNarrowsRight", inPlace := ["internal/bytealg.IndexByteString", "internal/bytealg.IndexString", "internal/bytealg.CountString", "internal/abi.NoEscape", "internal/bytealg.MakeNoZero"], named := ["unicode/utf8.first", "unicode/utf8.acceptRanges", "internal/bytealg.MaxLen"], apart := false, laid := [("unicode/utf8.acceptRanges", laid_unicode_utf8_acceptRanges), ("unicode/utf8.first", laid_unicode_utf8_first)], narrowed := true }
def RuleNarrowsRightUptoSaid : Prop := ruleNarrowsRightUptoRow.holds Tryd.pinned (OpenSpec.upto ruleNarrowsRightSpec)

/-- 'stockyardlaw04.RuleBack', WHERE WHAT IT READS IS OF BULK AT MOST 1048576: true; the input reads as it did. -/
def ruleBackUptoRow : OpenClaim := { program := "ytihboibebhokbaadoor", sum := "23631d520f3ab6cc2d1c6a0aa90b3283605ad1913944d9c3f29e79a8d50df5b6", func := "stockyard/stockyardlaw04.RuleBack", spec := "ruleBack", inPlace := ["internal/bytealg.IndexByteString", "internal/bytealg.IndexString", "internal/bytealg.CountString", "internal/abi.NoEscape", "internal/bytealg.MakeNoZero"], named := ["unicode/utf8.first", "unicode/utf8.acceptRanges", "internal/bytealg.MaxLen"], apart := false, laid := [("unicode/utf8.acceptRanges", laid_unicode_utf8_acceptRanges), ("unicode/utf8.first", laid_unicode_utf8_first)], narrowed := true }
def RuleBackUptoSaid : Prop := ruleBackUptoRow.holds Tryd.pinned (OpenSpec.upto ruleBackSpec)

/-- 'stockyardlaw04.RuleNarrowMeans', WHERE WHAT IT READS IS OF BULK AT MOST 1048576: true; the input reads as it did. -/
def ruleNarrowMeansUptoRow : OpenClaim := { program := "ytihboibebhokbaadoor", sum := "23631d520f3ab6cc2d1c6a0aa90b3283605ad1913944d9c3f29e79a8d50df5b6", func := "stockyard/stockyardlaw04.RuleNarrowMeans", spec := "ruleNarrowMeans", inPlace := ["internal/bytealg.IndexByteString", "internal/bytealg.IndexString", "internal/bytealg.CountString", "internal/abi.NoEscape", "internal/bytealg.MakeNoZero"], named := ["unicode/utf8.first", "unicode/utf8.acceptRanges", "internal/bytealg.MaxLen"], apart := false, laid := [("unicode/utf8.acceptRanges", laid_unicode_utf8_acceptRanges), ("unicode/utf8.first", laid_unicode_utf8_first)], narrowed := true }
def RuleNarrowMeansUptoSaid : Prop := ruleNarrowMeansUptoRow.holds Tryd.pinned (OpenSpec.upto ruleNarrowMeansSpec)

/-- 'stockyardlaw04.RuleChainMeans', WHERE WHAT IT READS IS OF BULK AT MOST 1048576: true; the input reads as it did. -/
def ruleChainMeansUptoRow : OpenClaim := { program := "ytihboibebhokbaadoor", sum := "23631d520f3ab6cc2d1c6a0aa90b3283605ad1913944d9c3f29e79a8d50df5b6", func := "stockyard/stockyardlaw04.RuleChainMeans", spec := "ruleChainMeans", inPlace := ["internal/bytealg.IndexByteString", "internal/bytealg.IndexString", "internal/bytealg.CountString", "internal/abi.NoEscape", "internal/bytealg.MakeNoZero"], named := ["unicode/utf8.first", "unicode/utf8.acceptRanges", "internal/bytealg.MaxLen"], apart := false, laid := [("unicode/utf8.acceptRanges", laid_unicode_utf8_acceptRanges), ("unicode/utf8.first", laid_unicode_utf8_first)], narrowed := true }
def RuleChainMeansUptoSaid : Prop := ruleChainMeansUptoRow.holds Tryd.pinned (OpenSpec.upto ruleChainMeansSpec)

/-- 'stockyardlaw04.RuleAgreeMeans', WHERE WHAT IT READS IS OF BULK AT MOST 1048576: true; the input reads as it did. -/
def ruleAgreeMeansUptoRow : OpenClaim := { program := "ytihboibebhokbaadoor", sum := "23631d520f3ab6cc2d1c6a0aa90b3283605ad1913944d9c3f29e79a8d50df5b6", func := "stockyard/stockyardlaw04.RuleAgreeMeans", spec := "ruleAgreeMeans", inPlace := ["internal/bytealg.IndexByteString", "internal/bytealg.IndexString", "internal/bytealg.CountString", "internal/abi.NoEscape", "internal/bytealg.MakeNoZero"], named := ["unicode/utf8.first", "unicode/utf8.acceptRanges", "internal/bytealg.MaxLen"], apart := false, laid := [("unicode/utf8.acceptRanges", laid_unicode_utf8_acceptRanges), ("unicode/utf8.first", laid_unicode_utf8_first)], narrowed := true }
def RuleAgreeMeansUptoSaid : Prop := ruleAgreeMeansUptoRow.holds Tryd.pinned (OpenSpec.upto ruleAgreeMeansSpec)

/-- 'stockyardlaw04.RuleAssociates', WHERE WHAT IT READS IS OF BULK AT MOST 1048576: true; the input reads as it did. -/
def ruleAssociatesUptoRow : OpenClaim := { program := "ytihboibebhokbaadoor", sum := "23631d520f3ab6cc2d1c6a0aa90b3283605ad1913944d9c3f29e79a8d50df5b6", func := "stockyard/stockyardlaw04.RuleAssociates", spec := "ruleAssociates", inPlace := ["internal/bytealg.IndexByteString", "internal/bytealg.IndexString", "internal/bytealg.CountString", "internal/abi.NoEscape", "internal/bytealg.MakeNoZero"], named := ["unicode/utf8.first", "unicode/utf8.acceptRanges", "internal/bytealg.MaxLen"], apart := false, laid := [("unicode/utf8.acceptRanges", laid_unicode_utf8_acceptRanges), ("unicode/utf8.first", laid_unicode_utf8_first)], narrowed := true }
def RuleAssociatesUptoSaid : Prop := ruleAssociatesUptoRow.holds Tryd.pinned (OpenSpec.upto ruleAssociatesSpec)

end Rows
end Go.Proofs.YtihboibebhokbaaDoor
