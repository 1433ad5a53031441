/-
  No cell of these rows narrows 'for every input' (looked for: loops, veiled, ifaces, maps, wideKeys, modest, calm, conditions, laid).
  DERIVED. THE GIVEN ROWS OF THIS SEAT. 6 by the template 'for every input the law returns true; each argument reads behind the call as it read before'; 0 by the template 'total and deterministic' (their statements: YtdgbgmffpcooeaaGreatTotals.lean).
  GIVEN WITH THE SEED: the statements are not yours to turn. If you find one false, say at which input.
  Laid BY PROGRAM, IN A SANDBOX (cutbox-rows.mjs): the forced cells as the released guide's own fill.sh prints them over the translation f8acad8a26c651ac… (all of the seat's roots in one cut). By AI agents, Wed Nov 11 2026. No macro, syntax, notation, axiom, sorry.
-/
import Derived.Test.YtdgbgmffpcooeaaGreatChecked
import GoSem.Claim
import GoSem.ClaimJoined
import GoSem.ClaimMapViews
import Derived.JoinedTies
import Derived.KernelRfl
namespace Go.Proofs.YtdgbgmffpcooeaaGreat
/- THE CELL 'sum', in the pinned program and in every row, IS THE sha256 OF THE DUMP (.gsa) THAT YtdgbgmffpcooeaaGreatProg.lean LOADS. Nothing in Lean hashes anything: it is a label: what it is worth is what the hold of that sum in a sandbox is worth. -/
noncomputable def Tryz.pinned : Pinned := { name := "ytdgbgmffpcooeaagreat", sum := "f8acad8a26c651acc159c9efc4aba05010a39c6565f2b4c40b1ae451d492ec67", checked := Tryz.checked }
namespace Rows
def none {H : Type} : Left H := { results := [], args := [] }

/-- 'quartolaw.Indexes': WHATEVER THE INPUT: true; the input reads as it did. -/
def indexesSpec : ChangeSpec := { name := "indexes", fn := fun _ => fun
  | [d] => { results := [.lit (.bool true)], args := [d] }
  | _ => none }
def indexesRow : OpenClaim := { program := "ytdgbgmffpcooeaagreat", sum := "f8acad8a26c651acc159c9efc4aba05010a39c6565f2b4c40b1ae451d492ec67", func := "quarto/quartolaw.Indexes", spec := "indexes", inPlace := ["internal/abi.NoEscape", "internal/bytealg.MakeNoZero"], unfollowed := true, recurses := true, apart := false }
def IndexesSaid : Prop := indexesRow.holds Tryz.pinned (OpenSpec.ofChange indexesSpec)

/-- ITS FALSE NEIGHBOUR: 'it returns false'. Refute it at one input. -/
def indexesWrong : ChangeSpec := { name := "indexes", fn := fun _ => fun
  | [d] => { results := [.lit (.bool false)], args := [d] }
  | _ => none }
def IndexesWrongFalsely : Prop := indexesRow.holds Tryz.pinned (OpenSpec.ofChange indexesWrong)

/-- 'quartokeep.Told': WHATEVER THE INPUT: true; the input reads as it did. -/
def toldSpec : ChangeSpec := { name := "told", fn := fun _ => fun
  | [d1, d2] => { results := [.lit (.bool true)], args := [d1, d2] }
  | _ => none }
def toldRow : OpenClaim := { program := "ytdgbgmffpcooeaagreat", sum := "f8acad8a26c651acc159c9efc4aba05010a39c6565f2b4c40b1ae451d492ec67", func := "quarto/quartokeep.Told", spec := "told", inPlace := ["internal/abi.NoEscape", "internal/bytealg.MakeNoZero"], unfollowed := true, recurses := true, apart := false }
def ToldSaid : Prop := toldRow.holds Tryz.pinned (OpenSpec.ofChange toldSpec)

/-- ITS FALSE NEIGHBOUR: 'it returns false'. Refute it at one input. -/
def toldWrong : ChangeSpec := { name := "told", fn := fun _ => fun
  | [d1, d2] => { results := [.lit (.bool false)], args := [d1, d2] }
  | _ => none }
def ToldWrongFalsely : Prop := toldRow.holds Tryz.pinned (OpenSpec.ofChange toldWrong)

/-- 'quartokeep.Kept': WHATEVER THE INPUT: true; the input reads as it did. -/
def keptSpec : ChangeSpec := { name := "kept", fn := fun _ => fun
  | [d1, d2, d3] => { results := [.lit (.bool true)], args := [d1, d2, d3] }
  | _ => none }
def keptRow : OpenClaim := { program := "ytdgbgmffpcooeaagreat", sum := "f8acad8a26c651acc159c9efc4aba05010a39c6565f2b4c40b1ae451d492ec67", func := "quarto/quartokeep.Kept", spec := "kept", inPlace := ["internal/abi.NoEscape", "internal/bytealg.MakeNoZero"], unfollowed := true, recurses := true, apart := false }
def KeptSaid : Prop := keptRow.holds Tryz.pinned (OpenSpec.ofChange keptSpec)

/-- ITS FALSE NEIGHBOUR: 'it returns false'. Refute it at one input. -/
def keptWrong : ChangeSpec := { name := "kept", fn := fun _ => fun
  | [d1, d2, d3] => { results := [.lit (.bool false)], args := [d1, d2, d3] }
  | _ => none }
def KeptWrongFalsely : Prop := keptRow.holds Tryz.pinned (OpenSpec.ofChange keptWrong)

/-- 'quartokeep.Torn': WHATEVER THE INPUT: true; the input reads as it did. -/
def tornSpec : ChangeSpec := { name := "torn", fn := fun _ => fun
  | [d1, d2] => { results := [.lit (.bool true)], args := [d1, d2] }
  | _ => none }
def tornRow : OpenClaim := { program := "ytdgbgmffpcooeaagreat", sum := "f8acad8a26c651acc159c9efc4aba05010a39c6565f2b4c40b1ae451d492ec67", func := "quarto/quartokeep.Torn", spec := "torn", inPlace := ["internal/abi.NoEscape", "internal/bytealg.MakeNoZero"], unfollowed := true, recurses := true, apart := false }
def TornSaid : Prop := tornRow.holds Tryz.pinned (OpenSpec.ofChange tornSpec)

/-- ITS FALSE NEIGHBOUR: 'it returns false'. Refute it at one input. -/
def tornWrong : ChangeSpec := { name := "torn", fn := fun _ => fun
  | [d1, d2] => { results := [.lit (.bool false)], args := [d1, d2] }
  | _ => none }
def TornWrongFalsely : Prop := tornRow.holds Tryz.pinned (OpenSpec.ofChange tornWrong)

/-- 'quartokeep.Cheap': WHATEVER THE INPUT: true; the input reads as it did. -/
def cheapSpec : ChangeSpec := { name := "cheap", fn := fun _ => fun
  | [d1, d2] => { results := [.lit (.bool true)], args := [d1, d2] }
  | _ => none }
def cheapRow : OpenClaim := { program := "ytdgbgmffpcooeaagreat", sum := "f8acad8a26c651acc159c9efc4aba05010a39c6565f2b4c40b1ae451d492ec67", func := "quarto/quartokeep.Cheap", spec := "cheap", inPlace := ["internal/abi.NoEscape", "internal/bytealg.MakeNoZero"], unfollowed := true, recurses := true, apart := false }
def CheapSaid : Prop := cheapRow.holds Tryz.pinned (OpenSpec.ofChange cheapSpec)

/-- ITS FALSE NEIGHBOUR: 'it returns false'. Refute it at one input. -/
def cheapWrong : ChangeSpec := { name := "cheap", fn := fun _ => fun
  | [d1, d2] => { results := [.lit (.bool false)], args := [d1, d2] }
  | _ => none }
def CheapWrongFalsely : Prop := cheapRow.holds Tryz.pinned (OpenSpec.ofChange cheapWrong)

/-- 'quartokeep.Images': WHATEVER THE INPUT: true; the input reads as it did. -/
def imagesSpec : ChangeSpec := { name := "images", fn := fun _ => fun
  | [d1, d2, d3, d4] => { results := [.lit (.bool true)], args := [d1, d2, d3, d4] }
  | _ => none }
def imagesRow : OpenClaim := { program := "ytdgbgmffpcooeaagreat", sum := "f8acad8a26c651acc159c9efc4aba05010a39c6565f2b4c40b1ae451d492ec67", func := "quarto/quartokeep.Images", spec := "images", inPlace := ["internal/abi.NoEscape", "internal/bytealg.MakeNoZero"], unfollowed := true, recurses := true, apart := false }
def ImagesSaid : Prop := imagesRow.holds Tryz.pinned (OpenSpec.ofChange imagesSpec)

/-- ITS FALSE NEIGHBOUR: 'it returns false'. Refute it at one input. -/
def imagesWrong : ChangeSpec := { name := "images", fn := fun _ => fun
  | [d1, d2, d3, d4] => { results := [.lit (.bool false)], args := [d1, d2, d3, d4] }
  | _ => none }
def ImagesWrongFalsely : Prop := imagesRow.holds Tryz.pinned (OpenSpec.ofChange imagesWrong)

/- THE SECOND FORM. 'bulk': how many values and letters a reading holds, each counted each time it is reached (what is shared counts as often as it is met; a slice's spare places count too). A statement '..UptoSaid' is the law's where the arguments, and the package variables that the reading takes, are together of bulk at most 1048576: NARROWER than '..Said'. Prove '..Said' where nothing that the law and all that it calls make is longer than what came in: it says more and counts as full. Else prove '..UptoSaid'. A law counts once. -/
mutual
def uptoBulk {H : Type} : DataW H → Nat
  | .lit (.string bytes) => bytes.length + 1
  | .lit _ => 1
  | .nil => 1
  | .ptr d => uptoBulk d + 1
  | .slice elems spare => uptoBulkAll elems + uptoBulkAll spare + 1
  | .agg parts => uptoBulkAll parts + 1
  | .iface _ d => uptoBulk d + 1
  | .map entries => uptoBulkEntries entries + 1
  | .held _ => 1
def uptoBulkAll {H : Type} : List (DataW H) → Nat
  | [] => 0
  | d :: r => uptoBulk d + uptoBulkAll r
def uptoBulkEntries {H : Type} : List (Lit × DataW H) → Nat
  | [] => 0
  | x :: r => uptoBulkEntry x + uptoBulkEntries r
def uptoBulkEntry {H : Type} : Lit × DataW H → Nat
  | (.string bytes, d) => bytes.length + uptoBulk d + 1
  | (_, d) => uptoBulk d + 1
 end
def uptoSmall : (H : Type) → List (DataW H) → Bool := fun _ ds => decide (uptoBulkAll ds ≤ 1048576)
def OpenSpec.upto (s : _root_.Go.ChangeSpec) : _root_.Go.OpenSpec := { _root_.Go.OpenSpec.ofChange s with cond := some uptoSmall }

/-- 'quartolaw.Indexes', WHERE WHAT IT READS IS OF BULK AT MOST 1048576: true; the input reads as it did. -/
def indexesUptoRow : OpenClaim := { program := "ytdgbgmffpcooeaagreat", sum := "f8acad8a26c651acc159c9efc4aba05010a39c6565f2b4c40b1ae451d492ec67", func := "quarto/quartolaw.Indexes", spec := "indexes", inPlace := ["internal/abi.NoEscape", "internal/bytealg.MakeNoZero"], unfollowed := true, recurses := true, apart := false, narrowed := true }
def IndexesUptoSaid : Prop := indexesUptoRow.holds Tryz.pinned (OpenSpec.upto indexesSpec)

/-- 'quartokeep.Told', WHERE WHAT IT READS IS OF BULK AT MOST 1048576: true; the input reads as it did. -/
def toldUptoRow : OpenClaim := { program := "ytdgbgmffpcooeaagreat", sum := "f8acad8a26c651acc159c9efc4aba05010a39c6565f2b4c40b1ae451d492ec67", func := "quarto/quartokeep.Told", spec := "told", inPlace := ["internal/abi.NoEscape", "internal/bytealg.MakeNoZero"], unfollowed := true, recurses := true, apart := false, narrowed := true }
def ToldUptoSaid : Prop := toldUptoRow.holds Tryz.pinned (OpenSpec.upto toldSpec)

/-- 'quartokeep.Kept', WHERE WHAT IT READS IS OF BULK AT MOST 1048576: true; the input reads as it did. -/
def keptUptoRow : OpenClaim := { program := "ytdgbgmffpcooeaagreat", sum := "f8acad8a26c651acc159c9efc4aba05010a39c6565f2b4c40b1ae451d492ec67", func := "quarto/quartokeep.Kept", spec := "kept", inPlace := ["internal/abi.NoEscape", "internal/bytealg.MakeNoZero"], unfollowed := true, recurses := true, apart := false, narrowed := true }
def KeptUptoSaid : Prop := keptUptoRow.holds Tryz.pinned (OpenSpec.upto keptSpec)

/-- 'quartokeep.Torn', WHERE WHAT IT READS IS OF BULK AT MOST 1048576: true; the input reads as it did. -/
def tornUptoRow : OpenClaim := { program := "ytdgbgmffpcooeaagreat", sum := "f8acad8a26c651acc159c9efc4aba05010a39c6565f2b4c40b1ae451d492ec67", func := "quarto/quartokeep.Torn", spec := "torn", inPlace := ["internal/abi.NoEscape", "internal/bytealg.MakeNoZero"], unfollowed := true, recurses := true, apart := false, narrowed := true }
def TornUptoSaid : Prop := tornUptoRow.holds Tryz.pinned (OpenSpec.upto tornSpec)

/-- 'quartokeep.Cheap', WHERE WHAT IT READS IS OF BULK AT MOST 1048576: true; the input reads as it did. -/
def cheapUptoRow : OpenClaim := { program := "ytdgbgmffpcooeaagreat", sum := "f8acad8a26c651acc159c9efc4aba05010a39c6565f2b4c40b1ae451d492ec67", func := "quarto/quartokeep.Cheap", spec := "cheap", inPlace := ["internal/abi.NoEscape", "internal/bytealg.MakeNoZero"], unfollowed := true, recurses := true, apart := false, narrowed := true }
def CheapUptoSaid : Prop := cheapUptoRow.holds Tryz.pinned (OpenSpec.upto cheapSpec)

/-- 'quartokeep.Images', WHERE WHAT IT READS IS OF BULK AT MOST 1048576: true; the input reads as it did. -/
def imagesUptoRow : OpenClaim := { program := "ytdgbgmffpcooeaagreat", sum := "f8acad8a26c651acc159c9efc4aba05010a39c6565f2b4c40b1ae451d492ec67", func := "quarto/quartokeep.Images", spec := "images", inPlace := ["internal/abi.NoEscape", "internal/bytealg.MakeNoZero"], unfollowed := true, recurses := true, apart := false, narrowed := true }
def ImagesUptoSaid : Prop := imagesUptoRow.holds Tryz.pinned (OpenSpec.upto imagesSpec)

end Rows
end Go.Proofs.YtdgbgmffpcooeaaGreat
