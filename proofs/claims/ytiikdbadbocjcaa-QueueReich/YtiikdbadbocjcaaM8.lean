/-
  A fate put behind a row of fates, by the program's generic type. No conditions but the row's own.
-/
import Derived.Test.YtiikdbadbocjcaaM7
import Derived.Deep.RegionWith
import Derived.Deep.CutRange
import Derived.Deep.DeepCutAuto
namespace Go.Proofs.Ytiikdbadbocjcaa
open Go.RowKit
set_option linter.unusedVariables false
attribute [local go_sem ↓] append_shut
set_option maxHeartbeats 1000000 in
theorem join_any (b base : Nat) (ao : Option Addr) (n c : Nat) (L : List (Int × Bool)) (x : Int) (y : Bool) (hn : n ≤ 1000) (hbb : b < base) (w : World) (hbs : base ≤ w.heap.size) (A : At1 w b (.slice ao n c)) (own : w.ownsRow base 41 2 (.slice ao n c) n (fcs L)) :
    Calls Try.prog 26 #[.pointer (some ⟨b, 0, none⟩), .agg #[.int .i64 x, .bool y]] w fun e w' => e = .returned (.tuple #[]) ∧
      ∃ ao' c', At1 w' b (.slice ao' (n + 1) c') ∧ w'.ownsRow base 41 2 (.slice ao' (n + 1) c') (n + 1) (fcs (L ++ [(x, y)])) ∧ Grew w w' b (Value.slice ao n c).ownBlock := by
  have X : At2 ((w.alloc (.cells #[.int .i64 x, .bool y] 41)).alloc (.cells #[.int .i64 x, .bool y] 41)) (w.alloc (.cells #[.int .i64 x, .bool y] 41)).heap.size (.int .i64 x) (.bool y) := At2.fresh _ _ _ _
  have A2 := (A.alloc (.cells #[.int .i64 x, .bool y] 41)).alloc (.cells #[.int .i64 x, .bool y] 41)
  have own2 := (own.alloc (.cells #[.int .i64 x, .bool y] 41)).alloc (.cells #[.int .i64 x, .bool y] 41)
  obtain ⟨ao', c', w1, hr, own3, hg⟩ := fapp_run (w := ((w.alloc (.cells #[.int .i64 x, .bool y] 41)).alloc (.cells #[.int .i64 x, .bool y] 41)).drew) 35 own2.drew (by simp; omega) hn X.drew.c0 X.drew.c1
  obtain ⟨a0, a1, a2⟩ := id A
  have far : some b ≠ (Value.slice ao n c).ownBlock := own_far own hbb
  have hbl := hg.block b (by simp; omega) far
  have k0 : w1.cell? ⟨b, 0, none⟩ = some (.slice ao n c) := (World.cell?_of_block hbl).trans A2.c0
  have k1 : w1.frozen? ⟨b, 0, none⟩ = false := (World.frozen?_of_block hbl).trans A2.f0
  simp only [World.size_alloc] at hr
  go_enter Try.func26, Try.ntmps26
  go_wp2_with fail
  go_region
  all_goals go_wp2_with fail
  all_goals go_end0
  all_goals exact ⟨rfl, ao', c', ⟨World.cell?_setCell_same w1 _ _ k0, (World.frozen?_setCell _ _ _ _).trans k1, by rw [World.size_setCell]; have := hg.size; simp at this; omega⟩, ownsRow_setCell_below own3 hbb _, ⟨hg.os, hg.tape, hg.output, by rw [World.size_setCell]; have := hg.size; simp at this; omega, fun k h1 h2 h3 => (Below.heap_setCell w1 ⟨b, 0, none⟩ _ k h2).trans ((hg.block k (by simp; omega) h3).trans (by rw [World.drew]; exact (((Below.refl w.heap.size w).alloc (Nat.le_refl _) _).alloc (by simp) _).block k h1))⟩⟩
end Go.Proofs.Ytiikdbadbocjcaa
