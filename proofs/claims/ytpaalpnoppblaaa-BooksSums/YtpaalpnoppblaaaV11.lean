/-
  The keys of a map of packets, one by one, in whatever order; collected. No conditions but the map's.
-/
import Derived.Test.YtpaalpnoppblaaaK
import Derived.Test.YtpaalpnoppblaaaProg
import Derived.RangeFuncBox
import Derived.RangeFuncLeaves
import Derived.RangeFuncWrites
import Derived.Shelf.Abstract
import Derived.WalkKit
import Derived.OwnWalkIn
import Derived.TacticsInMore
import Derived.LoopNIn
import Derived.LoopIn
import Derived.RegionIn
import Derived.Maps.AppendAt
import Derived.Sort.MapsRangeIn
namespace Go.Proofs.Ytpaalpnoppblaaa
open Go.RowKit Go.Maps Go.Shelf
set_option linter.unusedVariables false
/-- A packet. -/
structure Pt where
  seq : Int
  mi : Int
  size : Int
  sent : Int
  deriving DecidableEq, Inhabited
def pv (p : Pt) : Value := .agg #[.int .u64 p.seq, .int .i64 p.mi, .int .i64 p.size, .int .i64 p.sent]
/-- How a packet reads, as a map's element. -/
def pR : Value → Option (DataW Pt × List MemPlace)
  | .agg ⟨[.int .u64 a, .int .i64 b, .int .i64 c, .int .i64 d]⟩ => some (.held ⟨a, b, c, d⟩, [])
  | _ => none
theorem pR_mk (p : Pt) : pR (pv p) = some (.held p, []) := rfl
theorem pR_inv {v : Value} {y : DataW Pt × List MemPlace} (h : pR v = some y) : ∃ p, v = pv p ∧ y = (.held p, []) := by
  unfold pR at h
  split at h
  · cases h; exact ⟨⟨_, _, _, _⟩, rfl, rfl⟩
  · cases h
/-- What was collected: no number twice; a number is there just where the map has it and it is no longer to come. -/
def Cd (D0 : DataW Pt) (left : Lit → Bool) (ss : List Int) : Prop := ss.Nodup ∧ ∀ x, x ∈ ss ↔ (has D0 (.int .u64 x) = true ∧ left (.int .u64 x) = false)
theorem Cd.start (D0 : DataW Pt) : Cd D0 (has D0) [] := ⟨List.nodup_nil, fun x => by cases has D0 (.int .u64 x) <;> simp⟩
theorem Cd.step {D0 : DataW Pt} {left : Lit → Bool} {ss : List Int} (h : Cd D0 left ss) {x : Int} {y : DataW Pt} (hlk : left (.int .u64 x) = true) (hat : ∀ zd, D0.atKey (.int .u64 x) zd = y) : Cd D0 (fun z => left z && !z.sameKey (.int .u64 x)) (ss ++ [x]) := by
  have hhas : has D0 (.int .u64 x) = true := has_true_of_atKey hat
  have hnew : x ∉ ss := fun hx => by have := ((h.2 x).1 hx).2; rw [hlk] at this; cases this
  refine ⟨List.nodup_append.2 ⟨h.1, by simp, fun a ha b hb => by simp at hb; subst hb; exact fun e => hnew (e ▸ ha)⟩, fun y => ?_⟩
  by_cases hy : y = x
  · subst hy; simp [hhas, Lit.sameKey]
  · simp [h.2 y, hy, Lit.sameKey]
theorem KT : Keyed Try.prog 22 := int_keyed Try.underlying22
/-- What the iterator gives. -/
def Gives (F : Fence) (n : Nat) (g : Nat) (lb : Array Value) (D0 : DataW Pt) (w : World) : Prop :=
  SeqStopsK F n Try.prog g lb (fun x : Int => #[Value.int .u64 x]) KeepsWalks (fun ss => ss.Nodup ∧ ∀ x, x ∈ ss ↔ has D0 (.int .u64 x) = true) (fun _ => True) (Maps.size D0) w
end Go.Proofs.Ytpaalpnoppblaaa
