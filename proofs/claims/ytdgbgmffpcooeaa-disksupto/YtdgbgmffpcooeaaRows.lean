/-
  No cell of these rows narrows 'for every input' (looked for: loops, veiled, ifaces, maps, wideKeys, modest, calm, conditions, laid).
  DERIVED. THE GIVEN ROWS OF THIS SEAT. 4 by the template 'for every input the law returns true; each argument reads behind the call as it read before'; 0 by the template 'total and deterministic' (their statements: YtdgbgmffpcooeaaTotals.lean).
  GIVEN WITH THE SEED: the statements are not yours to turn. If you find one false, say at which input.
  Laid BY PROGRAM, IN A SANDBOX (cutbox-rows.mjs): the forced cells as the released guide's own fill.sh prints them over the translation 017c026be94e94bd… (all of the seat's roots in one cut). By AI agents, Wed Nov 11 2026. No macro, syntax, notation, axiom, sorry.
-/
import Derived.Test.YtdgbgmffpcooeaaChecked
import GoSem.Claim
import GoSem.ClaimJoined
import GoSem.ClaimMapViews
import Derived.JoinedTies
import Derived.KernelRfl
namespace Go.Proofs.Ytdgbgmffpcooeaa
/- THE CELL 'sum', in the pinned program and in every row, IS THE sha256 OF THE DUMP (.gsa) THAT YtdgbgmffpcooeaaProg.lean LOADS. Nothing in Lean hashes anything: it is a label: what it is worth is what the hold of that sum in a sandbox is worth. -/
noncomputable def Try.pinned : Pinned := { name := "ytdgbgmffpcooeaa", sum := "017c026be94e94bd9a4d0755cbed2d3c845267e4d29b96c0f5daddac233e5093", checked := Try.checked }
namespace Rows
def none {H : Type} : Left H := { results := [], args := [] }

/-- 'quartolaw.Plane': WHATEVER THE INPUT: true; the input reads as it did. -/
def planeSpec : ChangeSpec := { name := "plane", fn := fun _ => fun
  | [d1, d2, d3, d4] => { results := [.lit (.bool true)], args := [d1, d2, d3, d4] }
  | _ => none }
def planeRow : OpenClaim := { program := "ytdgbgmffpcooeaa", sum := "017c026be94e94bd9a4d0755cbed2d3c845267e4d29b96c0f5daddac233e5093", func := "quarto/quartolaw.Plane", spec := "plane", unfollowed := true, recurses := true, apart := false }
def PlaneSaid : Prop := planeRow.holds Try.pinned (OpenSpec.ofChange planeSpec)

/-- ITS FALSE NEIGHBOUR: 'it returns false'. Refute it at one input. -/
def planeWrong : ChangeSpec := { name := "plane", fn := fun _ => fun
  | [d1, d2, d3, d4] => { results := [.lit (.bool false)], args := [d1, d2, d3, d4] }
  | _ => none }
def PlaneWrongFalsely : Prop := planeRow.holds Try.pinned (OpenSpec.ofChange planeWrong)

/-- 'quartokeep.Celled': WHATEVER THE INPUT: true; the input reads as it did. -/
def celledSpec : ChangeSpec := { name := "celled", fn := fun _ => fun
  | [d1, d2, d3, d4] => { results := [.lit (.bool true)], args := [d1, d2, d3, d4] }
  | _ => none }
def celledRow : OpenClaim := { program := "ytdgbgmffpcooeaa", sum := "017c026be94e94bd9a4d0755cbed2d3c845267e4d29b96c0f5daddac233e5093", func := "quarto/quartokeep.Celled", spec := "celled", unfollowed := true, recurses := true, apart := false }
def CelledSaid : Prop := celledRow.holds Try.pinned (OpenSpec.ofChange celledSpec)

/-- ITS FALSE NEIGHBOUR: 'it returns false'. Refute it at one input. -/
def celledWrong : ChangeSpec := { name := "celled", fn := fun _ => fun
  | [d1, d2, d3, d4] => { results := [.lit (.bool false)], args := [d1, d2, d3, d4] }
  | _ => none }
def CelledWrongFalsely : Prop := celledRow.holds Try.pinned (OpenSpec.ofChange celledWrong)

/-- 'quartokeep.Stepped': WHATEVER THE INPUT: true; the input reads as it did. -/
def steppedSpec : ChangeSpec := { name := "stepped", fn := fun _ => fun
  | [d1, d2, d3, d4] => { results := [.lit (.bool true)], args := [d1, d2, d3, d4] }
  | _ => none }
def steppedRow : OpenClaim := { program := "ytdgbgmffpcooeaa", sum := "017c026be94e94bd9a4d0755cbed2d3c845267e4d29b96c0f5daddac233e5093", func := "quarto/quartokeep.Stepped", spec := "stepped", unfollowed := true, recurses := true, apart := false }
def SteppedSaid : Prop := steppedRow.holds Try.pinned (OpenSpec.ofChange steppedSpec)

/-- ITS FALSE NEIGHBOUR: 'it returns false'. Refute it at one input. -/
def steppedWrong : ChangeSpec := { name := "stepped", fn := fun _ => fun
  | [d1, d2, d3, d4] => { results := [.lit (.bool false)], args := [d1, d2, d3, d4] }
  | _ => none }
def SteppedWrongFalsely : Prop := steppedRow.holds Try.pinned (OpenSpec.ofChange steppedWrong)

/-- 'quartolaw.Disks': WHATEVER THE INPUT: true; the input reads as it did. -/
def disksSpec : ChangeSpec := { name := "disks", fn := fun _ => fun
  | [d] => { results := [.lit (.bool true)], args := [d] }
  | _ => none }
def disksRow : OpenClaim := { program := "ytdgbgmffpcooeaa", sum := "017c026be94e94bd9a4d0755cbed2d3c845267e4d29b96c0f5daddac233e5093", func := "quarto/quartolaw.Disks", spec := "disks", unfollowed := true, recurses := true, apart := false }
def DisksSaid : Prop := disksRow.holds Try.pinned (OpenSpec.ofChange disksSpec)

/-- ITS FALSE NEIGHBOUR: 'it returns false'. Refute it at one input. -/
def disksWrong : ChangeSpec := { name := "disks", fn := fun _ => fun
  | [d] => { results := [.lit (.bool false)], args := [d] }
  | _ => none }
def DisksWrongFalsely : Prop := disksRow.holds Try.pinned (OpenSpec.ofChange disksWrong)

/- THE SECOND FORM. 'bulk': how many values and letters a reading holds, each counted each time it is reached (what is shared counts as often as it is met; a slice's spare places count too). A statement '..UptoSaid' is the law's where the arguments, and the package variables that the reading takes, are together of bulk at most 1048576: NARROWER than '..Said'. Prove '..Said' where nothing that the law and all that it calls make is longer than what came in: it says more and counts as full. Else prove '..UptoSaid'. A law counts once. -/
mutual
def uptoBulk {H : Type} : DataW H → Nat
  | .lit (.string bytes) => bytes.length + 1
  | .lit _ => 1
  | .nil => 1
  | .ptr d => uptoBulk d + 1
  | .slice elems spare => uptoBulkAll elems + uptoBulkAll spare + 1
  | .agg parts => uptoBulkAll parts + 1
  | .iface _ d => uptoBulk d + 1
  | .map entries => uptoBulkEntries entries + 1
  | .held _ => 1
def uptoBulkAll {H : Type} : List (DataW H) → Nat
  | [] => 0
  | d :: r => uptoBulk d + uptoBulkAll r
def uptoBulkEntries {H : Type} : List (Lit × DataW H) → Nat
  | [] => 0
  | x :: r => uptoBulkEntry x + uptoBulkEntries r
def uptoBulkEntry {H : Type} : Lit × DataW H → Nat
  | (.string bytes, d) => bytes.length + uptoBulk d + 1
  | (_, d) => uptoBulk d + 1
 end
def uptoSmall : (H : Type) → List (DataW H) → Bool := fun _ ds => decide (uptoBulkAll ds ≤ 1048576)
def OpenSpec.upto (s : _root_.Go.ChangeSpec) : _root_.Go.OpenSpec := { _root_.Go.OpenSpec.ofChange s with cond := some uptoSmall }

/-- 'quartolaw.Plane', WHERE WHAT IT READS IS OF BULK AT MOST 1048576: true; the input reads as it did. -/
def planeUptoRow : OpenClaim := { program := "ytdgbgmffpcooeaa", sum := "017c026be94e94bd9a4d0755cbed2d3c845267e4d29b96c0f5daddac233e5093", func := "quarto/quartolaw.Plane", spec := "plane", unfollowed := true, recurses := true, apart := false, narrowed := true }
def PlaneUptoSaid : Prop := planeUptoRow.holds Try.pinned (OpenSpec.upto planeSpec)

/-- 'quartokeep.Celled', WHERE WHAT IT READS IS OF BULK AT MOST 1048576: true; the input reads as it did. -/
def celledUptoRow : OpenClaim := { program := "ytdgbgmffpcooeaa", sum := "017c026be94e94bd9a4d0755cbed2d3c845267e4d29b96c0f5daddac233e5093", func := "quarto/quartokeep.Celled", spec := "celled", unfollowed := true, recurses := true, apart := false, narrowed := true }
def CelledUptoSaid : Prop := celledUptoRow.holds Try.pinned (OpenSpec.upto celledSpec)

/-- 'quartokeep.Stepped', WHERE WHAT IT READS IS OF BULK AT MOST 1048576: true; the input reads as it did. -/
def steppedUptoRow : OpenClaim := { program := "ytdgbgmffpcooeaa", sum := "017c026be94e94bd9a4d0755cbed2d3c845267e4d29b96c0f5daddac233e5093", func := "quarto/quartokeep.Stepped", spec := "stepped", unfollowed := true, recurses := true, apart := false, narrowed := true }
def SteppedUptoSaid : Prop := steppedUptoRow.holds Try.pinned (OpenSpec.upto steppedSpec)

/-- 'quartolaw.Disks', WHERE WHAT IT READS IS OF BULK AT MOST 1048576: true; the input reads as it did. -/
def disksUptoRow : OpenClaim := { program := "ytdgbgmffpcooeaa", sum := "017c026be94e94bd9a4d0755cbed2d3c845267e4d29b96c0f5daddac233e5093", func := "quarto/quartolaw.Disks", spec := "disks", unfollowed := true, recurses := true, apart := false, narrowed := true }
def DisksUptoSaid : Prop := disksUptoRow.holds Try.pinned (OpenSpec.upto disksSpec)

end Rows
end Go.Proofs.Ytdgbgmffpcooeaa
