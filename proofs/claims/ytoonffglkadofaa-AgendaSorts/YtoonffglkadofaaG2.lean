/-
  Rows of events and of entries in memory; what an append leaves; all but some blocks is as it was. No program's function in this text. No conditions.
-/
import Derived.Test.YtoonffglkadofaaProg
import Derived.Test.YtoonffglkadofaaT4
import Derived.Test.YtoonffglkadofaaG1
import Derived.Lib.SliceRun
import Derived.Lib.SmallJoins
import Derived.OwnWalk
import Derived.Sort.Grow
namespace Go.Proofs.Ytoonffglkadofaa
open Go.RowKit
set_option linter.unusedVariables false
set_option maxRecDepth 8000
/-- All but the blocks S is as it was; and there may be new ones. -/
structure Far (S : List Nat) (w w' : World) : Prop where
  os : w'.os = w.os
  tape : w'.tape = w.tape
  output : w'.output = w.output
  size : w.heap.size ≤ w'.heap.size
  block : ∀ k, k < w.heap.size → k ∉ S → w'.heap[k]? = w.heap[k]?
theorem Far.refl (S : List Nat) (w : World) : Far S w w := ⟨rfl, rfl, rfl, Nat.le_refl _, fun _ _ _ => rfl⟩
theorem Far.trans {S : List Nat} {w w1 w2 : World} (h : Far S w w1) (k : Far S w1 w2) : Far S w w2 :=
  ⟨k.os.trans h.os, k.tape.trans h.tape, k.output.trans h.output, Nat.le_trans h.size k.size, fun i hi hS => (k.block i (Nat.lt_of_lt_of_le hi h.size) hS).trans (h.block i hi hS)⟩
theorem Far.mono {S T : List Nat} {w w1 : World} (h : Far S w w1) (hs : ∀ k ∈ S, k ∈ T) : Far T w w1 := ⟨h.os, h.tape, h.output, h.size, fun i hi hS => h.block i hi fun hm => hS (hs i hm)⟩
theorem Far.below {S : List Nat} {w w1 w2 : World} (h : Far S w w1) (k : Below w1.heap.size w1 w2) : Far S w w2 := h.trans ⟨k.os, k.tape, k.output, k.size, fun i hi _ => k.block i hi⟩
theorem Far.of_below {w w1 : World} (k : Below w.heap.size w w1) : Far [] w w1 := (Far.refl [] w).below k
theorem Far.to_below {w w1 : World} (k : Far [] w w1) : Below w.heap.size w w1 := ⟨k.os, k.tape, k.output, k.size, fun i hi => k.block i hi (by simp)⟩
theorem Far.alloc {S : List Nat} {w w1 : World} (h : Far S w w1) (o : Obj) : Far S w (w1.alloc o) := h.below ((Below.refl _ _).alloc (Nat.le_refl _) _)
theorem Far.drew {S : List Nat} {w w1 : World} (h : Far S w w1) : Far S w w1.drew := h.below (Below.refl _ _).drew
theorem Far.drewN {S : List Nat} {w w1 : World} (h : Far S w w1) (q : Nat) : Far S w (w1.drewN q) := h.below ⟨rfl, rfl, rfl, Nat.le_refl _, fun _ _ => rfl⟩
theorem Far.setCell {S : List Nat} {w w1 : World} (h : Far S w w1) {b : Nat} (hb : w.heap.size ≤ b ∨ b ∈ S) (o : Nat) (v : Value) : Far S w (w1.setCell ⟨b, o, none⟩ v) :=
  ⟨h.os, h.tape, h.output, by rw [World.size_setCell]; exact h.size, fun i hi hS => (Below.heap_setCell _ _ _ _ (fun e => by
    rcases hb with hb | hb
    · have e' : i = b := e
      omega
    · have e' : i = b := e
      exact hS (by rw [e']; exact hb))).trans (h.block i hi hS)⟩
theorem Far.grown {S : List Nat} {w w1 w2 : World} (h : Far S w w1) {row : Option Nat} (k : w1.grownBy w2 row) (hr : ∀ j, row = some j → w.heap.size ≤ j ∨ j ∈ S) : Far S w w2 :=
  ⟨k.os.trans h.os, k.tape.trans h.tape, k.output.trans h.output, Nat.le_trans h.size k.size, fun i hi hS => (k.block i (Nat.lt_of_lt_of_le hi h.size) (fun e => by
    rcases hr i e.symm with h1 | h1
    · omega
    · exact hS h1)).trans (h.block i hi hS)⟩
theorem Far.call {S : List Nat} {B : Nat} {w w1 w2 : World} (h : Below B w w1) (hB : B ≤ w1.heap.size) (k : Far S w1 w2) (hS : ∀ b ∈ S, B ≤ b) : Below B w w2 :=
  h.trans ⟨k.os, k.tape, k.output, k.size, fun i hi => k.block i (by omega) fun hm => by have := hS i hm; omega⟩
theorem Far.at4 {S : List Nat} {w w1 : World} {b : Nat} {x0 x1 x2 x3 : Value} (k : Far S w w1) (h : At4 w b x0 x1 x2 x3) (hb : b ∉ S) : At4 w1 b x0 x1 x2 x3 := by
  have e := k.block b h.lt hb
  exact ⟨(World.cell?_of_block (a := ⟨b, 0, none⟩) e).trans h.c0, (World.cell?_of_block (a := ⟨b, 1, none⟩) e).trans h.c1, (World.cell?_of_block (a := ⟨b, 2, none⟩) e).trans h.c2, (World.cell?_of_block (a := ⟨b, 3, none⟩) e).trans h.c3,
    (World.frozen?_of_block (a := ⟨b, 0, none⟩) e).trans h.f0, (World.frozen?_of_block (a := ⟨b, 1, none⟩) e).trans h.f1, (World.frozen?_of_block (a := ⟨b, 2, none⟩) e).trans h.f2, (World.frozen?_of_block (a := ⟨b, 3, none⟩) e).trans h.f3, Nat.lt_of_lt_of_le h.lt k.size⟩
theorem Far.at2 {S : List Nat} {w w1 : World} {b : Nat} {x0 x1 : Value} (k : Far S w w1) (h : At2 w b x0 x1) (hb : b ∉ S) : At2 w1 b x0 x1 := by
  have e := k.block b h.lt hb
  exact ⟨(World.cell?_of_block (a := ⟨b, 0, none⟩) e).trans h.c0, (World.cell?_of_block (a := ⟨b, 1, none⟩) e).trans h.c1, (World.frozen?_of_block (a := ⟨b, 0, none⟩) e).trans h.f0, (World.frozen?_of_block (a := ⟨b, 1, none⟩) e).trans h.f1, Nat.lt_of_lt_of_le h.lt k.size⟩
theorem Far.at5 {S : List Nat} {w w1 : World} {b : Nat} {x0 x1 x2 x3 x4 : Value} (k : Far S w w1) (h : At5 w b x0 x1 x2 x3 x4) (hb : b ∉ S) : At5 w1 b x0 x1 x2 x3 x4 := by
  have e := k.block b h.lt hb
  exact ⟨(World.cell?_of_block (a := ⟨b, 0, none⟩) e).trans h.c0, (World.cell?_of_block (a := ⟨b, 1, none⟩) e).trans h.c1, (World.cell?_of_block (a := ⟨b, 2, none⟩) e).trans h.c2, (World.cell?_of_block (a := ⟨b, 3, none⟩) e).trans h.c3, (World.cell?_of_block (a := ⟨b, 4, none⟩) e).trans h.c4,
    (World.frozen?_of_block (a := ⟨b, 0, none⟩) e).trans h.f0, (World.frozen?_of_block (a := ⟨b, 1, none⟩) e).trans h.f1, (World.frozen?_of_block (a := ⟨b, 2, none⟩) e).trans h.f2, (World.frozen?_of_block (a := ⟨b, 3, none⟩) e).trans h.f3, (World.frozen?_of_block (a := ⟨b, 4, none⟩) e).trans h.f4, Nat.lt_of_lt_of_le h.lt k.size⟩
theorem Far.own {S : List Nat} {w w1 : World} {base : Nat} {e : TypeId} {size : Nat} {v : Value} {n : Nat} {xs : List Value} (k : Far S w w1) (h : w.ownsRow base e size v n xs) (hS : ∀ g, v.ownBlock = some g → g ∉ S) : w1.ownsRow base e size v n xs := by
  refine ⟨h.1, ?_⟩
  rcases h.2 with h0 | ⟨g, cap, cur, e, hb, hg, r⟩
  · exact .inl h0
  · exact .inr ⟨g, cap, cur, e, hb, (k.block g (Array.getElem?_eq_some_iff.1 hg).1 (hS g (by rw [e]; rfl))).trans hg, r⟩
theorem Far.of_grown {w w1 : World} {row : Option Nat} (k : w.grownBy w1 row) : Far row.toList w w1 := ⟨k.os, k.tape, k.output, k.size, fun i hi hS => k.block i hi (fun e => hS (by rw [← e]; simp))⟩
theorem Far.then {S T : List Nat} {w w1 w2 : World} (h : Far S w w1) (k : Far T w1 w2) (hT : ∀ b ∈ T, b ∈ S ∨ w.heap.size ≤ b) : Far S w w2 :=
  ⟨k.os.trans h.os, k.tape.trans h.tape, k.output.trans h.output, Nat.le_trans h.size k.size, fun i hi hS => (k.block i (Nat.lt_of_lt_of_le hi h.size) (fun hm => by
    rcases hT i hm with h1 | h1
    · exact hS h1
    · omega)).trans (h.block i hi hS)⟩
theorem Far.below_of {S : List Nat} {B : Nat} {w w1 : World} (k : Far S w w1) (hB : B ≤ w.heap.size) (hS : ∀ b ∈ S, B ≤ b) : Below B w w1 := Far.call (Below.refl _ _) hB k hS
theorem own_base {w : World} {base base' : Nat} {e : TypeId} {size : Nat} {v : Value} {n : Nat} {xs : List Value} (h : w.ownsRow base e size v n xs) (hb : base' ≤ base) : w.ownsRow base' e size v n xs := by
  refine ⟨h.1, ?_⟩
  rcases h.2 with hn | ⟨g, cap, cur, rfl, hg, r⟩
  · exact .inl hn
  · exact .inr ⟨g, cap, cur, rfl, Nat.le_trans hb hg, r⟩
theorem own_far {w : World} {base : Nat} {e : TypeId} {size : Nat} {v : Value} {n : Nat} {xs : List Value} (h : w.ownsRow base e size v n xs) {b : Nat} (hb : b < base) : some b ≠ v.ownBlock := by
  intro e
  have := (h.lt b e.symm).1
  omega
theorem own_below {w w1 : World} {base : Nat} {e : TypeId} {size : Nat} {v : Value} {n : Nat} {xs : List Value} (h : w.ownsRow base e size v n xs) (hb : Below w.heap.size w w1) : w1.ownsRow base e size v n xs := by
  refine ⟨h.1, ?_⟩
  rcases h.2 with hn | ⟨g, cap, cur, rfl, hg, hh, r⟩
  · exact .inl hn
  · exact .inr ⟨g, cap, cur, rfl, hg, by rw [hb.block g (Array.getElem?_eq_some_iff.1 hh).1]; exact hh, r⟩
theorem own_some {w : World} {base : Nat} {e : TypeId} {size : Nat} {ao : Option Addr} {n c : Nat} {xs : List Value} (h : w.ownsRow base e size (.slice ao n c) n xs) (hn : 0 < n) : ∃ g, ao = some ⟨g, 0, none⟩ ∧ base ≤ g ∧ g < w.heap.size ∧ n ≤ c ∧ c ≤ maxLen := by
  rcases h.2 with ⟨_, rfl⟩ | ⟨g, cap, cur, e, hb, hg, h1, h2, _⟩
  · omega
  · simp only [Value.slice.injEq, true_and] at e
    obtain ⟨rfl, rfl⟩ := e
    exact ⟨g, rfl, hb, (Array.getElem?_eq_some_iff.1 hg).1, h1, h2⟩
theorem own_slice {w : World} {base : Nat} {e : TypeId} {size : Nat} {v : Value} {n : Nat} {xs : List Value} (h : w.ownsRow base e size v n xs) : ∃ ao c, v = .slice ao n c := by
  rcases h.2 with ⟨rfl, rfl⟩ | ⟨g, cap, cur, rfl, _⟩
  · exact ⟨_, _, rfl⟩
  · exact ⟨_, _, rfl⟩
/-! ### Appends -/
/-- What is put behind one's own row: the row is the elder one's block or a new one. -/
theorem app_own {w : World} {base : Nat} {t ty e : TypeId} {z : Value} {size bytes : Nat} (ht : Try.prog.underlying t = some (.slice e)) (hinfo : (Try.prog.info? e).map (fun i => (i.zero, i.size, i.bytes)) = some (some z, size, bytes)) (hzs : z.cells.size = size) (hsz : 0 < size) (hby : bytes ≤ 1000)
    {v : Value} {n : Nat} {xs : List Value} (hv : w.ownsRow base e size v n xs) (g m c : Nat) (news : List Value) (hl : news.length = m * size) (hnews : ∀ j u, news[j]? = some u → w.cell? ⟨g, j, none⟩ = some u) (hone : ∀ u ∈ news, u.oneCell' = true) (hn : n + m ≤ 100000) (hb : base ≤ w.heap.size) :
    ∃ v' w', (Builtin.append_ #[t, t] ty #[v, .slice (some ⟨g, 0, none⟩) m c]).run Try.prog w = .ok v' w' ∧ w'.ownsRow base e size v' (n + m) (xs ++ news) ∧ w.grownBy w' v.ownBlock ∧ (∀ g, v'.ownBlock = some g → v.ownBlock = some g ∨ w.heap.size ≤ g) := by
  obtain ⟨i0, hi, hz0, hz1, hz2⟩ := info_parts hinfo
  have hbb : (n + m) * bytes ≤ 100000000 := by
    have := Nat.mul_le_mul hn hby
    omega
  have hnews : ∀ j u, news[j]? = some u → w.cell? ((⟨g, 0, none⟩ : Addr).add j) = some u := fun j u h => by
    rw [Go.WideShapes.add_plain, Nat.zero_add]; exact hnews j u h
  obtain ⟨v', w', hr, h2, h3, h4⟩ := run_append_own (P := Try.prog) w base t ty e i0 z size bytes ht hi hz0 hz1 hz2 hzs hsz v n xs hv ⟨g, 0, none⟩ m c news hl hnews hone (by unfold maxLen; omega) (by omega) hb
  refine ⟨v', w', hr, h2, h3, fun g' hg' => ?_⟩
  have hvl : xs.length = n * size := hv.1
  rcases hv.2 with ⟨rfl, rfl⟩ | ⟨gv, cv, curv, rfl, _, hgv, hncv, hcmv, hcsv, htv⟩
  · by_cases hm : m = 0
    · have := h4.2 ⟨rfl, hm⟩
      rw [this] at hg'
      cases hg'
    · have hr2 := run_append_nil (P := Try.prog) w t ty e i0 z ht hi hz0 ⟨g, 0, none⟩ m c news (by rw [hz1]; exact hl) hnews (by omega) (by omega) (by rw [hz2]; rw [Nat.zero_add] at hbb; omega)
      rw [hr] at hr2
      simp only [Result.ok.injEq] at hr2
      rw [hr2.1] at hg'
      simp only [Value.ownBlock, Option.some.injEq] at hg'
      exact .inr (by omega)
  · by_cases hroom : n + m ≤ cv
    · have hfit : n * i0.size + news.length ≤ curv.size := by rw [hl, hcsv, hz1, ← Nat.add_mul]; exact Nat.mul_le_mul_right _ hroom
      have hr2 := run_append_room (P := Try.prog) w t ty e i0 ht hi gv n cv curv hgv ⟨g, 0, none⟩ m c news (by rw [hz1]; exact hl) hnews hone hroom hfit
      rw [hr] at hr2
      simp only [Result.ok.injEq] at hr2
      rw [hr2.1] at hg'
      exact .inl hg'
    · have holds : ∀ j u, xs[j]? = some u → w.cell? ((⟨gv, 0, none⟩ : Addr).add j) = some u := hv.cells (g := gv) rfl
      have hr2 := run_append_grow (P := Try.prog) w t ty e i0 z ht hi hz0 ⟨gv, 0, none⟩ n cv xs (by rw [hz1]; exact hvl) holds ⟨g, 0, none⟩ m c news (by rw [hz1]; exact hl) hnews (by omega) (by omega) (by rw [hz2]; exact growslice_fits (by omega) (by omega))
      rw [hr] at hr2
      simp only [Result.ok.injEq] at hr2
      rw [hr2.1] at hg'
      simp only [Value.ownBlock, Option.some.injEq] at hg'
      exact .inr (by omega)
theorem infoE : (Try.prog.info? 32).map (fun i => (i.zero, i.size, i.bytes)) = some (some (.agg #[.int .i64 Ev.z.a, .int .i64 Ev.z.k, .int .i64 Ev.z.o, .int .u64 Ev.z.s]), 4, 32) := by kernel_rfl
theorem infoN : (Try.prog.info? 60).map (fun i => (i.zero, i.size, i.bytes)) = some (some (.agg #[.int .i64 Ent.z.e.a, .int .i64 Ent.z.e.k, .int .i64 Ent.z.e.o, .int .u64 Ent.z.e.s, .int .i64 Ent.z.t]), 5, 40) := by kernel_rfl
/-! ### Rows of events, rows of entries -/
def ec (e : Ev) : List Value := [.int .i64 e.a, .int .i64 e.k, .int .i64 e.o, .int .u64 e.s]
def nc (x : Ent) : List Value := [.int .i64 x.e.a, .int .i64 x.e.k, .int .i64 x.e.o, .int .u64 x.e.s, .int .i64 x.t]
def ecs (L : List Ev) : List Value := L.flatMap ec
def ncs (L : List Ent) : List Value := L.flatMap nc
theorem ecs_append (L M : List Ev) : ecs (L ++ M) = ecs L ++ ecs M := by simp [ecs]
theorem ncs_append (L M : List Ent) : ncs (L ++ M) = ncs L ++ ncs M := by simp [ncs]
theorem ecs_one (e : Ev) : ecs [e] = [.int .i64 e.a, .int .i64 e.k, .int .i64 e.o, .int .u64 e.s] := rfl
theorem ncs_one (x : Ent) : ncs [x] = [.int .i64 x.e.a, .int .i64 x.e.k, .int .i64 x.e.o, .int .u64 x.e.s, .int .i64 x.t] := rfl
theorem ecs_len (L : List Ev) : (ecs L).length = L.length * 4 := by
  induction L with
  | nil => rfl
  | cons x L ih => show (ec x ++ ecs L).length = _; rw [List.length_append, ih, List.length_cons]; show 4 + _ = _; omega
theorem ncs_len (L : List Ent) : (ncs L).length = L.length * 5 := by
  induction L with
  | nil => rfl
  | cons x L ih => show (nc x ++ ncs L).length = _; rw [List.length_append, ih, List.length_cons]; show 5 + _ = _; omega
theorem ecs_get {L : List Ev} {i : Nat} {x : Ev} (h : L[i]? = some x) : (ecs L)[i * 4]? = some (.int .i64 x.a) ∧ (ecs L)[i * 4 + 1]? = some (.int .i64 x.k) ∧ (ecs L)[i * 4 + 2]? = some (.int .i64 x.o) ∧ (ecs L)[i * 4 + 3]? = some (.int .u64 x.s) := by
  induction L generalizing i with
  | nil => simp at h
  | cons q L ih =>
    have e : ecs (q :: L) = .int .i64 q.a :: .int .i64 q.k :: .int .i64 q.o :: .int .u64 q.s :: ecs L := rfl
    rw [e]
    cases i with
    | zero => simp at h; subst h; exact ⟨rfl, rfl, rfl, rfl⟩
    | succ i =>
      have := ih (by simpa using h)
      rw [show (i + 1) * 4 = i * 4 + 1 + 1 + 1 + 1 by omega]
      simpa using this
theorem ncs_get {L : List Ent} {i : Nat} {x : Ent} (h : L[i]? = some x) : (ncs L)[i * 5]? = some (.int .i64 x.e.a) ∧ (ncs L)[i * 5 + 1]? = some (.int .i64 x.e.k) ∧ (ncs L)[i * 5 + 2]? = some (.int .i64 x.e.o) ∧ (ncs L)[i * 5 + 3]? = some (.int .u64 x.e.s) ∧ (ncs L)[i * 5 + 4]? = some (.int .i64 x.t) := by
  induction L generalizing i with
  | nil => simp at h
  | cons q L ih =>
    have e : ncs (q :: L) = .int .i64 q.e.a :: .int .i64 q.e.k :: .int .i64 q.e.o :: .int .u64 q.e.s :: .int .i64 q.t :: ncs L := rfl
    rw [e]
    cases i with
    | zero => simp at h; subst h; exact ⟨rfl, rfl, rfl, rfl, rfl⟩
    | succ i =>
      have := ih (by simpa using h)
      rw [show (i + 1) * 5 = i * 5 + 1 + 1 + 1 + 1 + 1 by omega]
      simpa using this
theorem ncs_set (L : List Ent) (i : Nat) (x : Ent) : (((((ncs L).set (i * 5) (.int .i64 x.e.a)).set (i * 5 + 1) (.int .i64 x.e.k)).set (i * 5 + 2) (.int .i64 x.e.o)).set (i * 5 + 3) (.int .u64 x.e.s)).set (i * 5 + 4) (.int .i64 x.t) = ncs (L.set i x) := by
  induction L generalizing i with
  | nil => simp [ncs]
  | cons q L ih =>
    have e : ∀ q : Ent, ncs (q :: L) = .int .i64 q.e.a :: .int .i64 q.e.k :: .int .i64 q.e.o :: .int .u64 q.e.s :: .int .i64 q.t :: ncs L := fun _ => rfl
    cases i with
    | zero => show _ = ncs (x :: L); rw [e, e]; simp
    | succ i =>
      have := ih i
      rw [e, List.set_cons_succ, show ncs (q :: L.set i x) = .int .i64 q.e.a :: .int .i64 q.e.k :: .int .i64 q.e.o :: .int .u64 q.e.s :: .int .i64 q.t :: ncs (L.set i x) from rfl, ← this, show (i + 1) * 5 = i * 5 + 1 + 1 + 1 + 1 + 1 by omega]
      simp
theorem ncs_take (L : List Ent) (k : Nat) : (ncs L).take (k * 5) = ncs (L.take k) := by
  induction L generalizing k with
  | nil => simp [ncs]
  | cons q L ih =>
    have e : ∀ q : Ent, ∀ L, ncs (q :: L) = .int .i64 q.e.a :: .int .i64 q.e.k :: .int .i64 q.e.o :: .int .u64 q.e.s :: .int .i64 q.t :: ncs L := fun _ _ => rfl
    cases k with
    | zero => simp [ncs]
    | succ k =>
      have := ih k
      rw [e, List.take_succ_cons, e, ← this, show (k + 1) * 5 = k * 5 + 1 + 1 + 1 + 1 + 1 by omega]
      simp
theorem ec_one (L : List Ev) : ∀ u ∈ ecs L, u.oneCell' = true := fun u hu => by
  unfold ecs at hu
  obtain ⟨x, _, hu⟩ := List.mem_flatMap.1 hu
  simp [ec] at hu
  rcases hu with rfl | rfl | rfl | rfl <;> rfl
theorem nc_one (L : List Ent) : ∀ u ∈ ncs L, u.oneCell' = true := fun u hu => by
  unfold ncs at hu
  obtain ⟨x, _, hu⟩ := List.mem_flatMap.1 hu
  simp [nc] at hu
  rcases hu with rfl | rfl | rfl | rfl | rfl <;> rfl
section
variable {w : World} {base g n c : Nat}
theorem own_ev {L : List Ev} (h : w.ownsRow base 32 4 (.slice (some ⟨g, 0, none⟩) n c) n (ecs L)) {i : Nat} (hi : i < n) :
    w.cell? ⟨g, i * 4, none⟩ = some (.int .i64 (evp L i).a) ∧ w.cell? ⟨g, i * 4 + 1, none⟩ = some (.int .i64 (evp L i).k) ∧ w.cell? ⟨g, i * 4 + 2, none⟩ = some (.int .i64 (evp L i).o) ∧ w.cell? ⟨g, i * 4 + 3, none⟩ = some (.int .u64 (evp L i).s) := by
  have hl : L.length = n := by have := h.1; rw [ecs_len] at this; omega
  obtain ⟨c0, c1, c2, c3⟩ := ecs_get (evp_some (l := L) (i := i) (by omega))
  rw [h.cellAt _ (by omega), h.cellAt _ (by omega), h.cellAt _ (by omega), h.cellAt _ (by omega)]
  exact ⟨c0, c1, c2, c3⟩
theorem own_ent {L : List Ent} (h : w.ownsRow base 60 5 (.slice (some ⟨g, 0, none⟩) n c) n (ncs L)) {i : Nat} (hi : i < n) :
    w.cell? ⟨g, i * 5, none⟩ = some (.int .i64 (pl L i).e.a) ∧ w.cell? ⟨g, i * 5 + 1, none⟩ = some (.int .i64 (pl L i).e.k) ∧ w.cell? ⟨g, i * 5 + 2, none⟩ = some (.int .i64 (pl L i).e.o) ∧ w.cell? ⟨g, i * 5 + 3, none⟩ = some (.int .u64 (pl L i).e.s) ∧ w.cell? ⟨g, i * 5 + 4, none⟩ = some (.int .i64 (pl L i).t) := by
  have hl : L.length = n := by have := h.1; rw [ncs_len] at this; omega
  obtain ⟨c0, c1, c2, c3, c4⟩ := ncs_get (pl_some (L := L) (i := i) (by omega))
  rw [h.cellAt _ (by omega), h.cellAt _ (by omega), h.cellAt _ (by omega), h.cellAt _ (by omega), h.cellAt _ (by omega)]
  exact ⟨c0, c1, c2, c3, c4⟩
theorem own_len {L : List Ent} {v : Value} (h : w.ownsRow base 60 5 v n (ncs L)) : L.length = n := by have := h.1; rw [ncs_len] at this; omega
theorem own_elen {L : List Ev} {v : Value} (h : w.ownsRow base 32 4 v n (ecs L)) : L.length = n := by have := h.1; rw [ecs_len] at this; omega
/-- An entry put in a place. -/
def _root_.Go.World.putN (w : World) (g i : Nat) (x : Ent) : World := ((((w.setCell ⟨g, i * 5, none⟩ (.int .i64 x.e.a)).setCell ⟨g, i * 5 + 1, none⟩ (.int .i64 x.e.k)).setCell ⟨g, i * 5 + 2, none⟩ (.int .i64 x.e.o)).setCell ⟨g, i * 5 + 3, none⟩ (.int .u64 x.e.s)).setCell ⟨g, i * 5 + 4, none⟩ (.int .i64 x.t)
theorem _root_.Go.Proofs.Ytoonffglkadofaa.Far.putN {S : List Nat} {w w1 : World} (h : Far S w w1) {b : Nat} (hb : w.heap.size ≤ b ∨ b ∈ S) (i : Nat) (x : Ent) : Far S w (w1.putN b i x) := ((((h.setCell hb _ _).setCell hb _ _).setCell hb _ _).setCell hb _ _).setCell hb _ _
theorem own_putN {L : List Ent} (h : w.ownsRow base 60 5 (.slice (some ⟨g, 0, none⟩) n c) n (ncs L)) (i : Nat) (x : Ent) :
    (w.putN g i x).ownsRow base 60 5 (.slice (some ⟨g, 0, none⟩) n c) n (ncs (L.set i x)) := by
  have h1 := (h.stored (i * 5) (.int .i64 x.e.a)).1
  have h2 := (h1.stored (i * 5 + 1) (.int .i64 x.e.k)).1
  have h3 := (h2.stored (i * 5 + 2) (.int .i64 x.e.o)).1
  have h4 := (h3.stored (i * 5 + 3) (.int .u64 x.e.s)).1
  have h5 := (h4.stored (i * 5 + 4) (.int .i64 x.t)).1
  rw [ncs_set] at h5
  exact h5
theorem own_sw {L : List Ent} (h : w.ownsRow base 60 5 (.slice (some ⟨g, 0, none⟩) n c) n (ncs L)) (i j : Nat) :
    ((w.putN g i (pl L j)).putN g j (pl L i)).ownsRow base 60 5 (.slice (some ⟨g, 0, none⟩) n c) n (ncs (sw L i j)) := own_putN (own_putN h i (pl L j)) j (pl L i)
end
end Go.Proofs.Ytoonffglkadofaa
