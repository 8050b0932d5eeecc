/- The values of the law file's awake. -/
import Derived.Test.YtembmegllpkmfaaGreatDoorMathAll
namespace Go.Proofs.YtembmegllpkmfaaGreatDoor

/-- "//a/*.psd/..." -/
def awakePat : List UInt8 := [47, 47, 97, 47, 42, 46, 112, 115, 100, 47, 46, 46, 46]
/-- "//a/x.psd/b/c" -/
def awakePath : List UInt8 := [47, 47, 97, 47, 120, 46, 112, 115, 100, 47, 98, 47, 99]
theorem awake_parse : Pt.parseErr awakePat = 0 := by decide +kernel
theorem awake_parsed : Pt.parsed awakePat = ⟨[[97], [42, 46, 112, 115, 100]], true⟩ := by rfl
theorem awake_match : Pt.matchP ⟨[[97], [42, 46, 112, 115, 100]], true⟩ awakePath = some [[120], [98, 47, 99]] := by decide +kernel
end Go.Proofs.YtembmegllpkmfaaGreatDoor
