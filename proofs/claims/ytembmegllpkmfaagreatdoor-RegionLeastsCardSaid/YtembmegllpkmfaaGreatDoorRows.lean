/-
  NARROWER THAN 'FOR EVERY INPUT', by the rows' own cells (each row's printed sentence says how): RegionLeasts: laid · RegionMeets: laid · RegionMinuses: laid · RegionParts: laid · ViewEntries: laid · ViewEntriesMean: laid.
  DERIVED. THE GIVEN ROWS OF THIS SEAT. 6 by the template 'for every input the law returns true; each argument reads behind the call as it read before'; 0 by the template 'total and deterministic' (their statements: YtembmegllpkmfaaGreatDoorTotals.lean).
  GIVEN WITH THE SEED: the statements are not yours to turn. If you find one false, say at which input.
  Laid BY PROGRAM, IN A SANDBOX (cutbox-rows.mjs): the forced cells as the released guide's own fill.sh prints them over the translation 0264dd8d0e9e9300… (all of the seat's roots in one cut). By AI agents, Wed Nov 11 2026. No macro, syntax, notation, axiom, sorry.
-/
import Derived.Test.YtembmegllpkmfaaGreatDoorChecked
import GoSem.PinnedTables
import GoSem.Claim
import GoSem.ClaimJoined
import GoSem.ClaimMapViews
import Derived.JoinedTies
import Derived.KernelRfl
namespace Go.Proofs.YtembmegllpkmfaaGreatDoor
/- THE CELL 'sum', in the pinned program and in every row, IS THE sha256 OF THE DUMP (.gsa) THAT YtembmegllpkmfaaGreatDoorProg.lean LOADS. Nothing in Lean hashes anything: it is a label: what it is worth is what the hold of that sum in a sandbox is worth. -/
noncomputable def Tryz.pinned : Pinned := { name := "ytembmegllpkmfaagreatdoor", sum := "0264dd8d0e9e9300e82764d6d7ce5de701fe54cf898979bc08cf3159d97edcea", checked := Tryz.checked }
namespace Rows
def none {H : Type} : Left H := { results := [], args := [] }

/- WHAT THE LISTED PACKAGE-LEVEL VARIABLES READ AS WHEN THE CALL BEGINS. Each datum BY PROGRAM (the guide's laid-datum.mjs) off the statement by which the dump's own 'gosem.cut.vars' lays the variable. In a bare row this is a premise. The card (YtembmegllpkmfaaGreatDoorCards.lean) ties it to the program's text. -/
def laid_unicode_utf8_acceptRanges {H : Type} : DataW H := .agg [.agg [.lit (.int .u8 128), .lit (.int .u8 191)], .agg [.lit (.int .u8 160), .lit (.int .u8 191)], .agg [.lit (.int .u8 128), .lit (.int .u8 159)], .agg [.lit (.int .u8 144), .lit (.int .u8 191)], .agg [.lit (.int .u8 128), .lit (.int .u8 143)], .agg [.lit (.int .u8 0), .lit (.int .u8 0)], .agg [.lit (.int .u8 0), .lit (.int .u8 0)], .agg [.lit (.int .u8 0), .lit (.int .u8 0)], .agg [.lit (.int .u8 0), .lit (.int .u8 0)], .agg [.lit (.int .u8 0), .lit (.int .u8 0)], .agg [.lit (.int .u8 0), .lit (.int .u8 0)], .agg [.lit (.int .u8 0), .lit (.int .u8 0)], .agg [.lit (.int .u8 0), .lit (.int .u8 0)], .agg [.lit (.int .u8 0), .lit (.int .u8 0)], .agg [.lit (.int .u8 0), .lit (.int .u8 0)], .agg [.lit (.int .u8 0), .lit (.int .u8 0)]]
/-- One of Go's own tables, pinned by name: the form's constant. -/
def laid_unicode_utf8_first : DataW Unit := Go.Pinned.utf8First

/-- 'stockyardlaw05.RegionLeasts': WHATEVER THE INPUT: true; the input reads as it did. -/
def regionLeastsSpec : ChangeSpec := { name := "regionLeasts", fn := fun _ => fun
  | [d] => { results := [.lit (.bool true)], args := [d] }
  | _ => none }
def regionLeastsRow : OpenClaim := { program := "ytembmegllpkmfaagreatdoor", sum := "0264dd8d0e9e9300e82764d6d7ce5de701fe54cf898979bc08cf3159d97edcea", func := "stockyard/stockyardlaw05.RegionLeasts", spec := "regionLeasts", inPlace := ["internal/bytealg.IndexByteString", "internal/bytealg.IndexString", "internal/abi.NoEscape", "internal/bytealg.MakeNoZero", "internal/bytealg.abigen_runtime_cmpstring"], unfollowed := true, recurses := true, named := ["unicode/utf8.first", "unicode/utf8.acceptRanges", "internal/bytealg.MaxLen"], apart := false, laid := [("unicode/utf8.acceptRanges", laid_unicode_utf8_acceptRanges), ("unicode/utf8.first", laid_unicode_utf8_first)] }
def RegionLeastsSaid : Prop := regionLeastsRow.holds Tryz.pinned (OpenSpec.ofChange regionLeastsSpec)

/-- ITS FALSE NEIGHBOUR: 'it returns false'. Refute it at one input. -/
def regionLeastsWrong : ChangeSpec := { name := "regionLeasts", fn := fun _ => fun
  | [d] => { results := [.lit (.bool false)], args := [d] }
  | _ => none }
def RegionLeastsWrongFalsely : Prop := regionLeastsRow.holds Tryz.pinned (OpenSpec.ofChange regionLeastsWrong)

/-- 'stockyardlaw05.RegionMeets': WHATEVER THE INPUT: true; the input reads as it did. -/
def regionMeetsSpec : ChangeSpec := { name := "regionMeets", fn := fun _ => fun
  | [d1, d2] => { results := [.lit (.bool true)], args := [d1, d2] }
  | _ => none }
def regionMeetsRow : OpenClaim := { program := "ytembmegllpkmfaagreatdoor", sum := "0264dd8d0e9e9300e82764d6d7ce5de701fe54cf898979bc08cf3159d97edcea", func := "stockyard/stockyardlaw05.RegionMeets", spec := "regionMeets", inPlace := ["internal/bytealg.IndexByteString", "internal/bytealg.IndexString", "internal/abi.NoEscape", "internal/bytealg.MakeNoZero", "internal/bytealg.abigen_runtime_cmpstring"], unfollowed := true, recurses := true, named := ["unicode/utf8.first", "unicode/utf8.acceptRanges", "internal/bytealg.MaxLen"], apart := false, laid := [("unicode/utf8.acceptRanges", laid_unicode_utf8_acceptRanges), ("unicode/utf8.first", laid_unicode_utf8_first)] }
def RegionMeetsSaid : Prop := regionMeetsRow.holds Tryz.pinned (OpenSpec.ofChange regionMeetsSpec)

/-- ITS FALSE NEIGHBOUR: 'it returns false'. Refute it at one input. -/
def regionMeetsWrong : ChangeSpec := { name := "regionMeets", fn := fun _ => fun
  | [d1, d2] => { results := [.lit (.bool false)], args := [d1, d2] }
  | _ => none }
def RegionMeetsWrongFalsely : Prop := regionMeetsRow.holds Tryz.pinned (OpenSpec.ofChange regionMeetsWrong)

/-- 'stockyardlaw05.RegionMinuses': WHATEVER THE INPUT: true; the input reads as it did. -/
def regionMinusesSpec : ChangeSpec := { name := "regionMinuses", fn := fun _ => fun
  | [d1, d2] => { results := [.lit (.bool true)], args := [d1, d2] }
  | _ => none }
def regionMinusesRow : OpenClaim := { program := "ytembmegllpkmfaagreatdoor", sum := "0264dd8d0e9e9300e82764d6d7ce5de701fe54cf898979bc08cf3159d97edcea", func := "stockyard/stockyardlaw05.RegionMinuses", spec := "regionMinuses", inPlace := ["internal/bytealg.IndexByteString", "internal/bytealg.IndexString", "internal/abi.NoEscape", "internal/bytealg.MakeNoZero", "internal/bytealg.abigen_runtime_cmpstring"], unfollowed := true, recurses := true, named := ["unicode/utf8.first", "unicode/utf8.acceptRanges", "internal/bytealg.MaxLen"], apart := false, laid := [("unicode/utf8.acceptRanges", laid_unicode_utf8_acceptRanges), ("unicode/utf8.first", laid_unicode_utf8_first)] }
def RegionMinusesSaid : Prop := regionMinusesRow.holds Tryz.pinned (OpenSpec.ofChange regionMinusesSpec)

/-- ITS FALSE NEIGHBOUR: 'it returns false'. Refute it at one input. -/
def regionMinusesWrong : ChangeSpec := { name := "regionMinuses", fn := fun _ => fun
  | [d1, d2] => { results := [.lit (.bool false)], args := [d1, d2] }
  | _ => none }
def RegionMinusesWrongFalsely : Prop := regionMinusesRow.holds Tryz.pinned (OpenSpec.ofChange regionMinusesWrong)

/-- 'stockyardlaw05.RegionParts': WHATEVER THE INPUT: true; the input reads as it did. -/
def regionPartsSpec : ChangeSpec := { name := "regionParts", fn := fun _ => fun
  | [d1, d2] => { results := [.lit (.bool true)], args := [d1, d2] }
  | _ => none }
def regionPartsRow : OpenClaim := { program := "ytembmegllpkmfaagreatdoor", sum := "0264dd8d0e9e9300e82764d6d7ce5de701fe54cf898979bc08cf3159d97edcea", func := "stockyard/stockyardlaw05.RegionParts", spec := "regionParts", inPlace := ["internal/bytealg.IndexByteString", "internal/bytealg.IndexString", "internal/abi.NoEscape", "internal/bytealg.MakeNoZero", "internal/bytealg.abigen_runtime_cmpstring"], unfollowed := true, recurses := true, named := ["unicode/utf8.first", "unicode/utf8.acceptRanges", "internal/bytealg.MaxLen"], apart := false, laid := [("unicode/utf8.acceptRanges", laid_unicode_utf8_acceptRanges), ("unicode/utf8.first", laid_unicode_utf8_first)] }
def RegionPartsSaid : Prop := regionPartsRow.holds Tryz.pinned (OpenSpec.ofChange regionPartsSpec)

/-- ITS FALSE NEIGHBOUR: 'it returns false'. Refute it at one input. -/
def regionPartsWrong : ChangeSpec := { name := "regionParts", fn := fun _ => fun
  | [d1, d2] => { results := [.lit (.bool false)], args := [d1, d2] }
  | _ => none }
def RegionPartsWrongFalsely : Prop := regionPartsRow.holds Tryz.pinned (OpenSpec.ofChange regionPartsWrong)

/-- 'stockyardlaw06.ViewEntries': WHATEVER THE INPUT: true; the input reads as it did. -/
def viewEntriesSpec : ChangeSpec := { name := "viewEntries", fn := fun _ => fun
  | [d] => { results := [.lit (.bool true)], args := [d] }
  | _ => none }
def viewEntriesRow : OpenClaim := { program := "ytembmegllpkmfaagreatdoor", sum := "0264dd8d0e9e9300e82764d6d7ce5de701fe54cf898979bc08cf3159d97edcea", func := "stockyard/stockyardlaw06.ViewEntries", spec := "viewEntries", inPlace := ["internal/bytealg.IndexByteString", "internal/bytealg.IndexString", "internal/bytealg.CountString", "internal/abi.NoEscape", "internal/bytealg.MakeNoZero", "internal/bytealg.abigen_runtime_cmpstring"], unfollowed := true, recurses := true, named := ["unicode/utf8.first", "unicode/utf8.acceptRanges", "internal/bytealg.MaxLen"], apart := false, laid := [("unicode/utf8.acceptRanges", laid_unicode_utf8_acceptRanges), ("unicode/utf8.first", laid_unicode_utf8_first)] }
def ViewEntriesSaid : Prop := viewEntriesRow.holds Tryz.pinned (OpenSpec.ofChange viewEntriesSpec)

/-- ITS FALSE NEIGHBOUR: 'it returns false'. Refute it at one input. -/
def viewEntriesWrong : ChangeSpec := { name := "viewEntries", fn := fun _ => fun
  | [d] => { results := [.lit (.bool false)], args := [d] }
  | _ => none }
def ViewEntriesWrongFalsely : Prop := viewEntriesRow.holds Tryz.pinned (OpenSpec.ofChange viewEntriesWrong)

/-- 'stockyardlaw06.ViewEntriesMean': WHATEVER THE INPUT: true; the input reads as it did. -/
def viewEntriesMeanSpec : ChangeSpec := { name := "viewEntriesMean", fn := fun _ => fun
  | [d1, d2] => { results := [.lit (.bool true)], args := [d1, d2] }
  | _ => none }
def viewEntriesMeanRow : OpenClaim := { program := "ytembmegllpkmfaagreatdoor", sum := "0264dd8d0e9e9300e82764d6d7ce5de701fe54cf898979bc08cf3159d97edcea", func := "stockyard/stockyardlaw06.ViewEntriesMean", spec := "viewEntriesMean", inPlace := ["internal/bytealg.IndexByteString", "internal/bytealg.IndexString", "internal/bytealg.CountString", "internal/abi.NoEscape", "internal/bytealg.MakeNoZero", "internal/bytealg.abigen_runtime_cmpstring"], unfollowed := true, recurses := true, named := ["unicode/utf8.first", "unicode/utf8.acceptRanges", "internal/bytealg.MaxLen"], apart := false, laid := [("unicode/utf8.acceptRanges", laid_unicode_utf8_acceptRanges), ("unicode/utf8.first", laid_unicode_utf8_first)] }
def ViewEntriesMeanSaid : Prop := viewEntriesMeanRow.holds Tryz.pinned (OpenSpec.ofChange viewEntriesMeanSpec)

/-- ITS FALSE NEIGHBOUR: 'it returns false'. Refute it at one input. -/
def viewEntriesMeanWrong : ChangeSpec := { name := "viewEntriesMean", fn := fun _ => fun
  | [d1, d2] => { results := [.lit (.bool false)], args := [d1, d2] }
  | _ => none }
def ViewEntriesMeanWrongFalsely : Prop := viewEntriesMeanRow.holds Tryz.pinned (OpenSpec.ofChange viewEntriesMeanWrong)

/- THE SECOND FORM. 'bulk': how many values and letters a reading holds, each counted each time it is reached (what is shared counts as often as it is met; a slice's spare places count too). A statement '..UptoSaid' is the law's where the arguments, and the package variables that the reading takes, are together of bulk at most 1048576: NARROWER than '..Said'. Prove '..Said' where nothing that the law and all that it calls make is longer than what came in: it says more and counts as full. Else prove '..UptoSaid'. A law counts once. -/
mutual
def uptoBulk {H : Type} : DataW H → Nat
  | .lit (.string bytes) => bytes.length + 1
  | .lit _ => 1
  | .nil => 1
  | .ptr d => uptoBulk d + 1
  | .slice elems spare => uptoBulkAll elems + uptoBulkAll spare + 1
  | .agg parts => uptoBulkAll parts + 1
  | .iface _ d => uptoBulk d + 1
  | .map entries => uptoBulkEntries entries + 1
  | .held _ => 1
def uptoBulkAll {H : Type} : List (DataW H) → Nat
  | [] => 0
  | d :: r => uptoBulk d + uptoBulkAll r
def uptoBulkEntries {H : Type} : List (Lit × DataW H) → Nat
  | [] => 0
  | x :: r => uptoBulkEntry x + uptoBulkEntries r
def uptoBulkEntry {H : Type} : Lit × DataW H → Nat
  | (.string bytes, d) => bytes.length + uptoBulk d + 1
  | (_, d) => uptoBulk d + 1
 end
def uptoSmall : (H : Type) → List (DataW H) → Bool := fun _ ds => decide (uptoBulkAll ds ≤ 1048576)
def OpenSpec.upto (s : _root_.Go.ChangeSpec) : _root_.Go.OpenSpec := { _root_.Go.OpenSpec.ofChange s with cond := some uptoSmall }

/-- 'stockyardlaw05.RegionLeasts', WHERE WHAT IT READS IS OF BULK AT MOST 1048576: true; the input reads as it did. -/
def regionLeastsUptoRow : OpenClaim := { program := "ytembmegllpkmfaagreatdoor", sum := "0264dd8d0e9e9300e82764d6d7ce5de701fe54cf898979bc08cf3159d97edcea", func := "stockyard/stockyardlaw05.RegionLeasts", spec := "regionLeasts", inPlace := ["internal/bytealg.IndexByteString", "internal/bytealg.IndexString", "internal/abi.NoEscape", "internal/bytealg.MakeNoZero", "internal/bytealg.abigen_runtime_cmpstring"], unfollowed := true, recurses := true, named := ["unicode/utf8.first", "unicode/utf8.acceptRanges", "internal/bytealg.MaxLen"], apart := false, laid := [("unicode/utf8.acceptRanges", laid_unicode_utf8_acceptRanges), ("unicode/utf8.first", laid_unicode_utf8_first)], narrowed := true }
def RegionLeastsUptoSaid : Prop := regionLeastsUptoRow.holds Tryz.pinned (OpenSpec.upto regionLeastsSpec)

/-- 'stockyardlaw05.RegionMeets', WHERE WHAT IT READS IS OF BULK AT MOST 1048576: true; the input reads as it did. -/
def regionMeetsUptoRow : OpenClaim := { program := "ytembmegllpkmfaagreatdoor", sum := "0264dd8d0e9e9300e82764d6d7ce5de701fe54cf898979bc08cf3159d97edcea", func := "stockyard/stockyardlaw05.RegionMeets", spec := "regionMeets", inPlace := ["internal/bytealg.IndexByteString", "internal/bytealg.IndexString", "internal/abi.NoEscape", "internal/bytealg.MakeNoZero", "internal/bytealg.abigen_runtime_cmpstring"], unfollowed := true, recurses := true, named := ["unicode/utf8.first", "unicode/utf8.acceptRanges", "internal/bytealg.MaxLen"], apart := false, laid := [("unicode/utf8.acceptRanges", laid_unicode_utf8_acceptRanges), ("unicode/utf8.first", laid_unicode_utf8_first)], narrowed := true }
def RegionMeetsUptoSaid : Prop := regionMeetsUptoRow.holds Tryz.pinned (OpenSpec.upto regionMeetsSpec)

/-- 'stockyardlaw05.RegionMinuses', WHERE WHAT IT READS IS OF BULK AT MOST 1048576: true; the input reads as it did. -/
def regionMinusesUptoRow : OpenClaim := { program := "ytembmegllpkmfaagreatdoor", sum := "0264dd8d0e9e9300e82764d6d7ce5de701fe54cf898979bc08cf3159d97edcea", func := "stockyard/stockyardlaw05.RegionMinuses", spec := "regionMinuses", inPlace := ["internal/bytealg.IndexByteString", "internal/bytealg.IndexString", "internal/abi.NoEscape", "internal/bytealg.MakeNoZero", "internal/bytealg.abigen_runtime_cmpstring"], unfollowed := true, recurses := true, named := ["unicode/utf8.first", "unicode/utf8.acceptRanges", "internal/bytealg.MaxLen"], apart := false, laid := [("unicode/utf8.acceptRanges", laid_unicode_utf8_acceptRanges), ("unicode/utf8.first", laid_unicode_utf8_first)], narrowed := true }
def RegionMinusesUptoSaid : Prop := regionMinusesUptoRow.holds Tryz.pinned (OpenSpec.upto regionMinusesSpec)

/-- 'stockyardlaw05.RegionParts', WHERE WHAT IT READS IS OF BULK AT MOST 1048576: true; the input reads as it did. -/
def regionPartsUptoRow : OpenClaim := { program := "ytembmegllpkmfaagreatdoor", sum := "0264dd8d0e9e9300e82764d6d7ce5de701fe54cf898979bc08cf3159d97edcea", func := "stockyard/stockyardlaw05.RegionParts", spec := "regionParts", inPlace := ["internal/bytealg.IndexByteString", "internal/bytealg.IndexString", "internal/abi.NoEscape", "internal/bytealg.MakeNoZero", "internal/bytealg.abigen_runtime_cmpstring"], unfollowed := true, recurses := true, named := ["unicode/utf8.first", "unicode/utf8.acceptRanges", "internal/bytealg.MaxLen"], apart := false, laid := [("unicode/utf8.acceptRanges", laid_unicode_utf8_acceptRanges), ("unicode/utf8.first", laid_unicode_utf8_first)], narrowed := true }
def RegionPartsUptoSaid : Prop := regionPartsUptoRow.holds Tryz.pinned (OpenSpec.upto regionPartsSpec)

/-- 'stockyardlaw06.ViewEntries', WHERE WHAT IT READS IS OF BULK AT MOST 1048576: true; the input reads as it did. -/
def viewEntriesUptoRow : OpenClaim := { program := "ytembmegllpkmfaagreatdoor", sum := "0264dd8d0e9e9300e82764d6d7ce5de701fe54cf898979bc08cf3159d97edcea", func := "stockyard/stockyardlaw06.ViewEntries", spec := "viewEntries", inPlace := ["internal/bytealg.IndexByteString", "internal/bytealg.IndexString", "internal/bytealg.CountString", "internal/abi.NoEscape", "internal/bytealg.MakeNoZero", "internal/bytealg.abigen_runtime_cmpstring"], unfollowed := true, recurses := true, named := ["unicode/utf8.first", "unicode/utf8.acceptRanges", "internal/bytealg.MaxLen"], apart := false, laid := [("unicode/utf8.acceptRanges", laid_unicode_utf8_acceptRanges), ("unicode/utf8.first", laid_unicode_utf8_first)], narrowed := true }
def ViewEntriesUptoSaid : Prop := viewEntriesUptoRow.holds Tryz.pinned (OpenSpec.upto viewEntriesSpec)

/-- 'stockyardlaw06.ViewEntriesMean', WHERE WHAT IT READS IS OF BULK AT MOST 1048576: true; the input reads as it did. -/
def viewEntriesMeanUptoRow : OpenClaim := { program := "ytembmegllpkmfaagreatdoor", sum := "0264dd8d0e9e9300e82764d6d7ce5de701fe54cf898979bc08cf3159d97edcea", func := "stockyard/stockyardlaw06.ViewEntriesMean", spec := "viewEntriesMean", inPlace := ["internal/bytealg.IndexByteString", "internal/bytealg.IndexString", "internal/bytealg.CountString", "internal/abi.NoEscape", "internal/bytealg.MakeNoZero", "internal/bytealg.abigen_runtime_cmpstring"], unfollowed := true, recurses := true, named := ["unicode/utf8.first", "unicode/utf8.acceptRanges", "internal/bytealg.MaxLen"], apart := false, laid := [("unicode/utf8.acceptRanges", laid_unicode_utf8_acceptRanges), ("unicode/utf8.first", laid_unicode_utf8_first)], narrowed := true }
def ViewEntriesMeanUptoSaid : Prop := viewEntriesMeanUptoRow.holds Tryz.pinned (OpenSpec.upto viewEntriesMeanSpec)

end Rows
end Go.Proofs.YtembmegllpkmfaaGreatDoor
