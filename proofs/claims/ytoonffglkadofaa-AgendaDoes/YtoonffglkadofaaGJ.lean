/-
  A step of a script in a block of its own; both agendas side by side. No program's function in this text. No conditions.
-/
import Derived.Test.YtoonffglkadofaaGE
import Derived.Test.YtoonffglkadofaaGF
import Derived.Test.YtoonffglkadofaaGX
namespace Go.Proofs.Ytoonffglkadofaa
open Go.RowKit
set_option linter.unusedVariables false
/-- A step in a block. -/
structure SA (w : World) (b : Nat) (z : Stp) : Prop where
  c0 : w.cell? ⟨b, 0, none⟩ = some (.int .i64 z.k)
  c1 : w.cell? ⟨b, 1, none⟩ = some (.int .i64 z.x.a)
  c2 : w.cell? ⟨b, 2, none⟩ = some (.int .i64 z.x.k)
  c3 : w.cell? ⟨b, 3, none⟩ = some (.int .i64 z.x.o)
  c4 : w.cell? ⟨b, 4, none⟩ = some (.int .u64 z.x.s)
  c5 : w.cell? ⟨b, 5, none⟩ = some (.int .i64 z.t)
  lt : b < w.heap.size
theorem SA.far {S : List Nat} {w w1 : World} {b : Nat} {z : Stp} (h : SA w b z) (k : Far S w w1) (hb : b ∉ S) : SA w1 b z := by
  have e := k.block b h.lt hb
  exact ⟨(World.cell?_of_block (a := ⟨b, 0, none⟩) e).trans h.c0, (World.cell?_of_block (a := ⟨b, 1, none⟩) e).trans h.c1, (World.cell?_of_block (a := ⟨b, 2, none⟩) e).trans h.c2, (World.cell?_of_block (a := ⟨b, 3, none⟩) e).trans h.c3, (World.cell?_of_block (a := ⟨b, 4, none⟩) e).trans h.c4, (World.cell?_of_block (a := ⟨b, 5, none⟩) e).trans h.c5, Nat.lt_of_lt_of_le h.lt k.size⟩
theorem SA.of {w w1 : World} {b : Nat} {z : Stp} (h : SA w b z) (hb : Below w.heap.size w w1) : SA w1 b z := h.far (Far.of_below hb) (by simp)
theorem SA.fresh (w : World) (z : Stp) (t : TypeId) : SA (w.alloc (.cells #[.int .i64 z.k, .int .i64 z.x.a, .int .i64 z.x.k, .int .i64 z.x.o, .int .u64 z.x.s, .int .i64 z.t] t)) w.heap.size z := by
  constructor <;> simp [go_sem]
/-- The program's agenda and the reference's. -/
structure Two (w : World) (ab mb base : Nat) (m T : Int) (ao ao' : Option Addr) (n c c' : Nat) (L R : List Ent) : Prop where
  a : Ag w ab base m T (.slice ao n c) n L R
  r : Rg w mb base m (.slice ao' n c') n (es R)
  d : ∀ g, (Value.slice ao n c).ownBlock = some g → (Value.slice ao' n c').ownBlock = some g → False
  am : ab ≠ mb
theorem Two.below {w w1 : World} {ab mb base : Nat} {m T : Int} {ao ao' : Option Addr} {n c c' : Nat} {L R : List Ent} (h : Two w ab mb base m T ao ao' n c c' L R) (k : Below w.heap.size w w1) : Two w1 ab mb base m T ao ao' n c c' L R := ⟨h.a.below k, h.r.below k, h.d, h.am⟩
/-- What the program's own call leaves of the reference's agenda. -/
theorem Two.keepR {w w1 : World} {ab mb base : Nat} {m T : Int} {ao ao' : Option Addr} {n c c' : Nat} {L R : List Ent} (h : Two w ab mb base m T ao ao' n c c' L R) (k : Far (ab :: (Value.slice ao n c).ownBlock.toList) w w1) : Rg w1 mb base m (.slice ao' n c') n (es R) :=
  h.r.far k (fun hm => by
      rcases List.mem_cons.1 hm with e | hm
      · exact h.am e.symm
      · have := (h.a.own.lt _ (mem_opt hm)).1; have := h.r.bb; omega)
    (fun g hg hm => by
      rcases List.mem_cons.1 hm with e | hm
      · have := (h.r.own.lt g hg).1; have := h.a.bb; omega
      · exact h.d g (mem_opt hm) hg)
theorem keepA {w w1 : World} {ab mb base : Nat} {m T m' : Int} {v u : Value} {n q : Nat} {L R : List Ent} {l : List Ev} (A : Ag w ab base m T v n L R) (r : Rg w mb base m' u q l) (am : ab ≠ mb) (d : ∀ g, v.ownBlock = some g → u.ownBlock = some g → False) (k : Far (mb :: u.ownBlock.toList) w w1) : Ag w1 ab base m T v n L R :=
  A.far k (fun hm => by
      rcases List.mem_cons.1 hm with e | hm
      · exact am e
      · have := (r.own.lt _ (mem_opt hm)).1; have := A.bb; omega)
    (fun g hg hm => by
      rcases List.mem_cons.1 hm with e | hm
      · have := (A.own.lt g hg).1; have := r.bb; omega
      · exact d g hg (mem_opt hm))
theorem Rg.reach {w : World} {mb base B : Nat} {m : Int} {v : Value} {n : Nat} {l : List Ev} (h : Rg w mb base m v n l) (hB : B ≤ mb) : ∀ b ∈ mb :: v.ownBlock.toList, B ≤ b := fun b hb => by
  rcases List.mem_cons.1 hb with rfl | hb
  · exact hB
  · have := (h.own.lt b (mem_opt hb)).1; have := h.bb; omega
end Go.Proofs.Ytoonffglkadofaa
