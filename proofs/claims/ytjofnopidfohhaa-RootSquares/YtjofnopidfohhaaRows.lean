/-
  No cell of these rows narrows 'for every input' (looked for: loops, veiled, ifaces, maps, wideKeys, modest, calm, conditions, laid).
  DERIVED. THE GIVEN ROWS OF THIS SEAT. 4 by the template 'for every input the law returns true; each argument reads behind the call as it read before'; 0 by the template 'total and deterministic' (their statements: YtjofnopidfohhaaTotals.lean).
  GIVEN WITH THE SEED: the statements are not yours to turn. If you find one false, say at which input.
  Laid BY PROGRAM, IN A SANDBOX (cutbox-rows.mjs): the forced cells as the released guide's own fill.sh prints them over the translation a609291899271db6… (all of the seat's roots in one cut). By AI agents, Wed Nov 11 2026. No macro, syntax, notation, axiom, sorry.
-/
import Derived.Test.YtjofnopidfohhaaChecked
import GoSem.Claim
import GoSem.ClaimJoined
import GoSem.ClaimMapViews
import Derived.JoinedTies
import Derived.KernelRfl
namespace Go.Proofs.Ytjofnopidfohhaa
/- THE CELL 'sum', in the pinned program and in every row, IS THE sha256 OF THE DUMP (.gsa) THAT YtjofnopidfohhaaProg.lean LOADS. Nothing in Lean hashes anything: it is a label: what it is worth is what the hold of that sum in a sandbox is worth. -/
noncomputable def Try.pinned : Pinned := { name := "ytjofnopidfohhaa", sum := "a609291899271db67890c12c56ef25f46fecb48d0ccea91bff604ecc8a9cc949", checked := Try.checked }
namespace Rows
def none {H : Type} : Left H := { results := [], args := [] }

/-- 'pacemakerlaw03.RootDoes': WHATEVER THE INPUT: true; the input reads as it did. -/
def rootDoesSpec : ChangeSpec := { name := "rootDoes", fn := fun _ => fun
  | [d1, d2, d3, d4] => { results := [.lit (.bool true)], args := [d1, d2, d3, d4] }
  | _ => none }
def rootDoesRow : OpenClaim := { program := "ytjofnopidfohhaa", sum := "a609291899271db67890c12c56ef25f46fecb48d0ccea91bff604ecc8a9cc949", func := "pacemaker/pacemakerlaw03.RootDoes", spec := "rootDoes", inPlace := ["math/bits.Sub64"], apart := false }
def RootDoesSaid : Prop := rootDoesRow.holds Try.pinned (OpenSpec.ofChange rootDoesSpec)

/-- ITS FALSE NEIGHBOUR: 'it returns false'. Refute it at one input. -/
def rootDoesWrong : ChangeSpec := { name := "rootDoes", fn := fun _ => fun
  | [d1, d2, d3, d4] => { results := [.lit (.bool false)], args := [d1, d2, d3, d4] }
  | _ => none }
def RootDoesWrongFalsely : Prop := rootDoesRow.holds Try.pinned (OpenSpec.ofChange rootDoesWrong)

/-- 'pacemakerlaw03.RootSquares': WHATEVER THE INPUT: true; the input reads as it did. -/
def rootSquaresSpec : ChangeSpec := { name := "rootSquares", fn := fun _ => fun
  | [d] => { results := [.lit (.bool true)], args := [d] }
  | _ => none }
def rootSquaresRow : OpenClaim := { program := "ytjofnopidfohhaa", sum := "a609291899271db67890c12c56ef25f46fecb48d0ccea91bff604ecc8a9cc949", func := "pacemaker/pacemakerlaw03.RootSquares", spec := "rootSquares", inPlace := ["math/bits.Sub64"], apart := false }
def RootSquaresSaid : Prop := rootSquaresRow.holds Try.pinned (OpenSpec.ofChange rootSquaresSpec)

/-- ITS FALSE NEIGHBOUR: 'it returns false'. Refute it at one input. -/
def rootSquaresWrong : ChangeSpec := { name := "rootSquares", fn := fun _ => fun
  | [d] => { results := [.lit (.bool false)], args := [d] }
  | _ => none }
def RootSquaresWrongFalsely : Prop := rootSquaresRow.holds Try.pinned (OpenSpec.ofChange rootSquaresWrong)

/-- 'pacemakerlaw03.RootBack': WHATEVER THE INPUT: true; the input reads as it did. -/
def rootBackSpec : ChangeSpec := { name := "rootBack", fn := fun _ => fun
  | [d1, d2, d3] => { results := [.lit (.bool true)], args := [d1, d2, d3] }
  | _ => none }
def rootBackRow : OpenClaim := { program := "ytjofnopidfohhaa", sum := "a609291899271db67890c12c56ef25f46fecb48d0ccea91bff604ecc8a9cc949", func := "pacemaker/pacemakerlaw03.RootBack", spec := "rootBack", inPlace := ["math/bits.Add64", "math/bits.Sub64"], apart := false }
def RootBackSaid : Prop := rootBackRow.holds Try.pinned (OpenSpec.ofChange rootBackSpec)

/-- ITS FALSE NEIGHBOUR: 'it returns false'. Refute it at one input. -/
def rootBackWrong : ChangeSpec := { name := "rootBack", fn := fun _ => fun
  | [d1, d2, d3] => { results := [.lit (.bool false)], args := [d1, d2, d3] }
  | _ => none }
def RootBackWrongFalsely : Prop := rootBackRow.holds Try.pinned (OpenSpec.ofChange rootBackWrong)

/-- 'pacemakerlaw03.RootMean': WHATEVER THE INPUT: true; the input reads as it did. -/
def rootMeanSpec : ChangeSpec := { name := "rootMean", fn := fun _ => fun
  | [d1, d2] => { results := [.lit (.bool true)], args := [d1, d2] }
  | _ => none }
def rootMeanRow : OpenClaim := { program := "ytjofnopidfohhaa", sum := "a609291899271db67890c12c56ef25f46fecb48d0ccea91bff604ecc8a9cc949", func := "pacemaker/pacemakerlaw03.RootMean", spec := "rootMean", inPlace := ["math/bits.Sub64"], apart := false }
def RootMeanSaid : Prop := rootMeanRow.holds Try.pinned (OpenSpec.ofChange rootMeanSpec)

/-- ITS FALSE NEIGHBOUR: 'it returns false'. Refute it at one input. -/
def rootMeanWrong : ChangeSpec := { name := "rootMean", fn := fun _ => fun
  | [d1, d2] => { results := [.lit (.bool false)], args := [d1, d2] }
  | _ => none }
def RootMeanWrongFalsely : Prop := rootMeanRow.holds Try.pinned (OpenSpec.ofChange rootMeanWrong)

/- THE SECOND FORM. 'bulk': how many values and letters a reading holds, each counted each time it is reached (what is shared counts as often as it is met; a slice's spare places count too). A statement '..UptoSaid' is the law's where the arguments, and the package variables that the reading takes, are together of bulk at most 1048576: NARROWER than '..Said'. Prove '..Said' where nothing that the law and all that it calls make is longer than what came in: it says more and counts as full. Else prove '..UptoSaid'. A law counts once. -/
mutual
def uptoBulk {H : Type} : DataW H → Nat
  | .lit (.string bytes) => bytes.length + 1
  | .lit _ => 1
  | .nil => 1
  | .ptr d => uptoBulk d + 1
  | .slice elems spare => uptoBulkAll elems + uptoBulkAll spare + 1
  | .agg parts => uptoBulkAll parts + 1
  | .iface _ d => uptoBulk d + 1
  | .map entries => uptoBulkEntries entries + 1
  | .held _ => 1
def uptoBulkAll {H : Type} : List (DataW H) → Nat
  | [] => 0
  | d :: r => uptoBulk d + uptoBulkAll r
def uptoBulkEntries {H : Type} : List (Lit × DataW H) → Nat
  | [] => 0
  | x :: r => uptoBulkEntry x + uptoBulkEntries r
def uptoBulkEntry {H : Type} : Lit × DataW H → Nat
  | (.string bytes, d) => bytes.length + uptoBulk d + 1
  | (_, d) => uptoBulk d + 1
 end
def uptoSmall : (H : Type) → List (DataW H) → Bool := fun _ ds => decide (uptoBulkAll ds ≤ 1048576)
def OpenSpec.upto (s : _root_.Go.ChangeSpec) : _root_.Go.OpenSpec := { _root_.Go.OpenSpec.ofChange s with cond := some uptoSmall }

/-- 'pacemakerlaw03.RootDoes', WHERE WHAT IT READS IS OF BULK AT MOST 1048576: true; the input reads as it did. -/
def rootDoesUptoRow : OpenClaim := { program := "ytjofnopidfohhaa", sum := "a609291899271db67890c12c56ef25f46fecb48d0ccea91bff604ecc8a9cc949", func := "pacemaker/pacemakerlaw03.RootDoes", spec := "rootDoes", inPlace := ["math/bits.Sub64"], apart := false, narrowed := true }
def RootDoesUptoSaid : Prop := rootDoesUptoRow.holds Try.pinned (OpenSpec.upto rootDoesSpec)

/-- 'pacemakerlaw03.RootSquares', WHERE WHAT IT READS IS OF BULK AT MOST 1048576: true; the input reads as it did. -/
def rootSquaresUptoRow : OpenClaim := { program := "ytjofnopidfohhaa", sum := "a609291899271db67890c12c56ef25f46fecb48d0ccea91bff604ecc8a9cc949", func := "pacemaker/pacemakerlaw03.RootSquares", spec := "rootSquares", inPlace := ["math/bits.Sub64"], apart := false, narrowed := true }
def RootSquaresUptoSaid : Prop := rootSquaresUptoRow.holds Try.pinned (OpenSpec.upto rootSquaresSpec)

/-- 'pacemakerlaw03.RootBack', WHERE WHAT IT READS IS OF BULK AT MOST 1048576: true; the input reads as it did. -/
def rootBackUptoRow : OpenClaim := { program := "ytjofnopidfohhaa", sum := "a609291899271db67890c12c56ef25f46fecb48d0ccea91bff604ecc8a9cc949", func := "pacemaker/pacemakerlaw03.RootBack", spec := "rootBack", inPlace := ["math/bits.Add64", "math/bits.Sub64"], apart := false, narrowed := true }
def RootBackUptoSaid : Prop := rootBackUptoRow.holds Try.pinned (OpenSpec.upto rootBackSpec)

/-- 'pacemakerlaw03.RootMean', WHERE WHAT IT READS IS OF BULK AT MOST 1048576: true; the input reads as it did. -/
def rootMeanUptoRow : OpenClaim := { program := "ytjofnopidfohhaa", sum := "a609291899271db67890c12c56ef25f46fecb48d0ccea91bff604ecc8a9cc949", func := "pacemaker/pacemakerlaw03.RootMean", spec := "rootMean", inPlace := ["math/bits.Sub64"], apart := false, narrowed := true }
def RootMeanUptoSaid : Prop := rootMeanUptoRow.holds Try.pinned (OpenSpec.upto rootMeanSpec)

end Rows
end Go.Proofs.Ytjofnopidfohhaa
