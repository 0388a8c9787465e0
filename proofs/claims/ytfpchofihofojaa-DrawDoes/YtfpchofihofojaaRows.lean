/-
  No cell of these rows narrows 'for every input' (looked for: loops, veiled, ifaces, maps, wideKeys, modest, calm, conditions, laid).
  DERIVED. THE GIVEN ROWS OF THIS SEAT. 5 by the template 'for every input the law returns true; each argument reads behind the call as it read before'; 0 by the template 'total and deterministic' (their statements: YtfpchofihofojaaTotals.lean).
  GIVEN WITH THE SEED: the statements are not yours to turn. If you find one false, say at which input.
  Laid BY PROGRAM, IN A SANDBOX (cutbox-rows.mjs): the forced cells as the released guide's own fill.sh prints them over the translation 365a576721aad642… (all of the seat's roots in one cut). By AI agents, Wed Nov 11 2026. No macro, syntax, notation, axiom, sorry.
-/
import Derived.Test.YtfpchofihofojaaChecked
import GoSem.Claim
import GoSem.ClaimJoined
import GoSem.ClaimMapViews
import Derived.JoinedTies
import Derived.KernelRfl
namespace Go.Proofs.Ytfpchofihofojaa
/- THE CELL 'sum', in the pinned program and in every row, IS THE sha256 OF THE DUMP (.gsa) THAT YtfpchofihofojaaProg.lean LOADS. Nothing in Lean hashes anything: it is a label: what it is worth is what the hold of that sum in a sandbox is worth. -/
noncomputable def Try.pinned : Pinned := { name := "ytfpchofihofojaa", sum := "365a576721aad642175d61aace9d21313a733d4f910a06dd896419b50fd5562b", checked := Try.checked }
namespace Rows
def none {H : Type} : Left H := { results := [], args := [] }

/-- 'pacemakerlaw06.DrawDoes': WHATEVER THE INPUT: true; the input reads as it did. -/
def drawDoesSpec : ChangeSpec := { name := "drawDoes", fn := fun _ => fun
  | [d1, d2, d3] => { results := [.lit (.bool true)], args := [d1, d2, d3] }
  | _ => none }
def drawDoesRow : OpenClaim := { program := "ytfpchofihofojaa", sum := "365a576721aad642175d61aace9d21313a733d4f910a06dd896419b50fd5562b", func := "pacemaker/pacemakerlaw06.DrawDoes", spec := "drawDoes", unfollowed := true, recurses := true, apart := false }
def DrawDoesSaid : Prop := drawDoesRow.holds Try.pinned (OpenSpec.ofChange drawDoesSpec)

/-- ITS FALSE NEIGHBOUR: 'it returns false'. Refute it at one input. -/
def drawDoesWrong : ChangeSpec := { name := "drawDoes", fn := fun _ => fun
  | [d1, d2, d3] => { results := [.lit (.bool false)], args := [d1, d2, d3] }
  | _ => none }
def DrawDoesWrongFalsely : Prop := drawDoesRow.holds Try.pinned (OpenSpec.ofChange drawDoesWrong)

/-- 'pacemakerlaw06.DrawMany': WHATEVER THE INPUT: true; the input reads as it did. -/
def drawManySpec : ChangeSpec := { name := "drawMany", fn := fun _ => fun
  | [d1, d2, d3, d4] => { results := [.lit (.bool true)], args := [d1, d2, d3, d4] }
  | _ => none }
def drawManyRow : OpenClaim := { program := "ytfpchofihofojaa", sum := "365a576721aad642175d61aace9d21313a733d4f910a06dd896419b50fd5562b", func := "pacemaker/pacemakerlaw06.DrawMany", spec := "drawMany", unfollowed := true, recurses := true, apart := false }
def DrawManySaid : Prop := drawManyRow.holds Try.pinned (OpenSpec.ofChange drawManySpec)

/-- ITS FALSE NEIGHBOUR: 'it returns false'. Refute it at one input. -/
def drawManyWrong : ChangeSpec := { name := "drawMany", fn := fun _ => fun
  | [d1, d2, d3, d4] => { results := [.lit (.bool false)], args := [d1, d2, d3, d4] }
  | _ => none }
def DrawManyWrongFalsely : Prop := drawManyRow.holds Try.pinned (OpenSpec.ofChange drawManyWrong)

/-- 'pacemakerlaw06.DrawWithin': WHATEVER THE INPUT: true; the input reads as it did. -/
def drawWithinSpec : ChangeSpec := { name := "drawWithin", fn := fun _ => fun
  | [d1, d2, d3, d4] => { results := [.lit (.bool true)], args := [d1, d2, d3, d4] }
  | _ => none }
def drawWithinRow : OpenClaim := { program := "ytfpchofihofojaa", sum := "365a576721aad642175d61aace9d21313a733d4f910a06dd896419b50fd5562b", func := "pacemaker/pacemakerlaw06.DrawWithin", spec := "drawWithin", unfollowed := true, recurses := true, apart := false }
def DrawWithinSaid : Prop := drawWithinRow.holds Try.pinned (OpenSpec.ofChange drawWithinSpec)

/-- ITS FALSE NEIGHBOUR: 'it returns false'. Refute it at one input. -/
def drawWithinWrong : ChangeSpec := { name := "drawWithin", fn := fun _ => fun
  | [d1, d2, d3, d4] => { results := [.lit (.bool false)], args := [d1, d2, d3, d4] }
  | _ => none }
def DrawWithinWrongFalsely : Prop := drawWithinRow.holds Try.pinned (OpenSpec.ofChange drawWithinWrong)

/-- 'pacemakerlaw06.DrawTapes': WHATEVER THE INPUT: true; the input reads as it did. -/
def drawTapesSpec : ChangeSpec := { name := "drawTapes", fn := fun _ => fun
  | [d1, d2] => { results := [.lit (.bool true)], args := [d1, d2] }
  | _ => none }
def drawTapesRow : OpenClaim := { program := "ytfpchofihofojaa", sum := "365a576721aad642175d61aace9d21313a733d4f910a06dd896419b50fd5562b", func := "pacemaker/pacemakerlaw06.DrawTapes", spec := "drawTapes", unfollowed := true, recurses := true, apart := false }
def DrawTapesSaid : Prop := drawTapesRow.holds Try.pinned (OpenSpec.ofChange drawTapesSpec)

/-- ITS FALSE NEIGHBOUR: 'it returns false'. Refute it at one input. -/
def drawTapesWrong : ChangeSpec := { name := "drawTapes", fn := fun _ => fun
  | [d1, d2] => { results := [.lit (.bool false)], args := [d1, d2] }
  | _ => none }
def DrawTapesWrongFalsely : Prop := drawTapesRow.holds Try.pinned (OpenSpec.ofChange drawTapesWrong)

/-- 'pacemakerlaw06.DrawJoins': WHATEVER THE INPUT: true; the input reads as it did. -/
def drawJoinsSpec : ChangeSpec := { name := "drawJoins", fn := fun _ => fun
  | [d1, d2, d3] => { results := [.lit (.bool true)], args := [d1, d2, d3] }
  | _ => none }
def drawJoinsRow : OpenClaim := { program := "ytfpchofihofojaa", sum := "365a576721aad642175d61aace9d21313a733d4f910a06dd896419b50fd5562b", func := "pacemaker/pacemakerlaw06.DrawJoins", spec := "drawJoins", unfollowed := true, recurses := true, apart := false }
def DrawJoinsSaid : Prop := drawJoinsRow.holds Try.pinned (OpenSpec.ofChange drawJoinsSpec)

/-- ITS FALSE NEIGHBOUR: 'it returns false'. Refute it at one input. -/
def drawJoinsWrong : ChangeSpec := { name := "drawJoins", fn := fun _ => fun
  | [d1, d2, d3] => { results := [.lit (.bool false)], args := [d1, d2, d3] }
  | _ => none }
def DrawJoinsWrongFalsely : Prop := drawJoinsRow.holds Try.pinned (OpenSpec.ofChange drawJoinsWrong)

/- THE SECOND FORM. 'bulk': how many values and letters a reading holds, each counted each time it is reached (what is shared counts as often as it is met; a slice's spare places count too). A statement '..UptoSaid' is the law's where the arguments, and the package variables that the reading takes, are together of bulk at most 1048576: NARROWER than '..Said'. Prove '..Said' where nothing that the law and all that it calls make is longer than what came in: it says more and counts as full. Else prove '..UptoSaid'. A law counts once. -/
mutual
def uptoBulk {H : Type} : DataW H → Nat
  | .lit (.string bytes) => bytes.length + 1
  | .lit _ => 1
  | .nil => 1
  | .ptr d => uptoBulk d + 1
  | .slice elems spare => uptoBulkAll elems + uptoBulkAll spare + 1
  | .agg parts => uptoBulkAll parts + 1
  | .iface _ d => uptoBulk d + 1
  | .map entries => uptoBulkEntries entries + 1
  | .held _ => 1
def uptoBulkAll {H : Type} : List (DataW H) → Nat
  | [] => 0
  | d :: r => uptoBulk d + uptoBulkAll r
def uptoBulkEntries {H : Type} : List (Lit × DataW H) → Nat
  | [] => 0
  | x :: r => uptoBulkEntry x + uptoBulkEntries r
def uptoBulkEntry {H : Type} : Lit × DataW H → Nat
  | (.string bytes, d) => bytes.length + uptoBulk d + 1
  | (_, d) => uptoBulk d + 1
 end
def uptoSmall : (H : Type) → List (DataW H) → Bool := fun _ ds => decide (uptoBulkAll ds ≤ 1048576)
def OpenSpec.upto (s : _root_.Go.ChangeSpec) : _root_.Go.OpenSpec := { _root_.Go.OpenSpec.ofChange s with cond := some uptoSmall }

/-- 'pacemakerlaw06.DrawDoes', WHERE WHAT IT READS IS OF BULK AT MOST 1048576: true; the input reads as it did. -/
def drawDoesUptoRow : OpenClaim := { program := "ytfpchofihofojaa", sum := "365a576721aad642175d61aace9d21313a733d4f910a06dd896419b50fd5562b", func := "pacemaker/pacemakerlaw06.DrawDoes", spec := "drawDoes", unfollowed := true, recurses := true, apart := false, narrowed := true }
def DrawDoesUptoSaid : Prop := drawDoesUptoRow.holds Try.pinned (OpenSpec.upto drawDoesSpec)

/-- 'pacemakerlaw06.DrawMany', WHERE WHAT IT READS IS OF BULK AT MOST 1048576: true; the input reads as it did. -/
def drawManyUptoRow : OpenClaim := { program := "ytfpchofihofojaa", sum := "365a576721aad642175d61aace9d21313a733d4f910a06dd896419b50fd5562b", func := "pacemaker/pacemakerlaw06.DrawMany", spec := "drawMany", unfollowed := true, recurses := true, apart := false, narrowed := true }
def DrawManyUptoSaid : Prop := drawManyUptoRow.holds Try.pinned (OpenSpec.upto drawManySpec)

/-- 'pacemakerlaw06.DrawWithin', WHERE WHAT IT READS IS OF BULK AT MOST 1048576: true; the input reads as it did. -/
def drawWithinUptoRow : OpenClaim := { program := "ytfpchofihofojaa", sum := "365a576721aad642175d61aace9d21313a733d4f910a06dd896419b50fd5562b", func := "pacemaker/pacemakerlaw06.DrawWithin", spec := "drawWithin", unfollowed := true, recurses := true, apart := false, narrowed := true }
def DrawWithinUptoSaid : Prop := drawWithinUptoRow.holds Try.pinned (OpenSpec.upto drawWithinSpec)

/-- 'pacemakerlaw06.DrawTapes', WHERE WHAT IT READS IS OF BULK AT MOST 1048576: true; the input reads as it did. -/
def drawTapesUptoRow : OpenClaim := { program := "ytfpchofihofojaa", sum := "365a576721aad642175d61aace9d21313a733d4f910a06dd896419b50fd5562b", func := "pacemaker/pacemakerlaw06.DrawTapes", spec := "drawTapes", unfollowed := true, recurses := true, apart := false, narrowed := true }
def DrawTapesUptoSaid : Prop := drawTapesUptoRow.holds Try.pinned (OpenSpec.upto drawTapesSpec)

/-- 'pacemakerlaw06.DrawJoins', WHERE WHAT IT READS IS OF BULK AT MOST 1048576: true; the input reads as it did. -/
def drawJoinsUptoRow : OpenClaim := { program := "ytfpchofihofojaa", sum := "365a576721aad642175d61aace9d21313a733d4f910a06dd896419b50fd5562b", func := "pacemaker/pacemakerlaw06.DrawJoins", spec := "drawJoins", unfollowed := true, recurses := true, apart := false, narrowed := true }
def DrawJoinsUptoSaid : Prop := drawJoinsUptoRow.holds Try.pinned (OpenSpec.upto drawJoinsSpec)

end Rows
end Go.Proofs.Ytfpchofihofojaa
