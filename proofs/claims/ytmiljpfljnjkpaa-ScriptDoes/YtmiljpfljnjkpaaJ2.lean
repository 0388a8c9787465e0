/-
  Rows of steps and of bytes in memory, and what an append to one leaves; three cells, and so many cells, of a block of one's own. No program's function in this text. No conditions.
-/
import Derived.Test.YtmiljpfljnjkpaaProg
import Derived.Test.YtmiljpfljnjkpaaJ1
import Derived.Lib.SliceRun
import Derived.Lib.SmallJoins
import Derived.OwnWalk
import Derived.Sort.Grow
import Derived.Laws.OwnMore
import Derived.Laws.IdiomStrings
namespace Go.Proofs.Ytmiljpfljnjkpaa
open Go.RowKit
set_option linter.unusedVariables false
set_option maxRecDepth 8000
theorem Below.drewN {B : Nat} {a w : World} (h : Below B a w) (n : Nat) : Below B a (w.drewN n) := ⟨h.os, h.tape, h.output, h.size, h.block⟩
theorem below_thru {W X w1 : World} (h : Below W.heap.size W X) (h1 : Below X.heap.size X w1) : Below W.heap.size W w1 := h.trans (h1.mono h.size)
theorem own_base {w : World} {base base' : Nat} {e : TypeId} {size : Nat} {v : Value} {n : Nat} {xs : List Value} (h : w.ownsRow base e size v n xs) (hb : base' ≤ base) : w.ownsRow base' e size v n xs := by
  refine ⟨h.1, ?_⟩
  rcases h.2 with hn | ⟨g, cap, cur, rfl, hg, r⟩
  · exact .inl hn
  · exact .inr ⟨g, cap, cur, rfl, Nat.le_trans hb hg, r⟩
theorem own_below {w w1 : World} {base : Nat} {e : TypeId} {size : Nat} {v : Value} {n : Nat} {xs : List Value} (h : w.ownsRow base e size v n xs) (hb : Below w.heap.size w w1) : w1.ownsRow base e size v n xs := by
  refine ⟨h.1, ?_⟩
  rcases h.2 with hn | ⟨g, cap, cur, rfl, hg, hh, r⟩
  · exact .inl hn
  · exact .inr ⟨g, cap, cur, rfl, hg, by rw [hb.block g (Array.getElem?_eq_some_iff.1 hh).1]; exact hh, r⟩
theorem own_some {w : World} {base : Nat} {e : TypeId} {size : Nat} {ao : Option Addr} {n c : Nat} {xs : List Value} (h : w.ownsRow base e size (.slice ao n c) n xs) (hn : 0 < n) : ∃ g, ao = some ⟨g, 0, none⟩ ∧ base ≤ g ∧ g < w.heap.size ∧ n ≤ c ∧ c ≤ maxLen := by
  rcases h.2 with ⟨_, rfl⟩ | ⟨g, cap, cur, e, hb, hg, h1, h2, _⟩
  · omega
  · simp only [Value.slice.injEq, true_and] at e
    obtain ⟨rfl, rfl⟩ := e
    exact ⟨g, rfl, hb, (Array.getElem?_eq_some_iff.1 hg).1, h1, h2⟩
theorem own_slice {w : World} {base : Nat} {e : TypeId} {size : Nat} {v : Value} {n : Nat} {xs : List Value} (h : w.ownsRow base e size v n xs) : ∃ ao c, v = .slice ao n c := by
  rcases h.2 with ⟨rfl, rfl⟩ | ⟨g, cap, cur, rfl, _⟩
  · exact ⟨_, _, rfl⟩
  · exact ⟨_, _, rfl⟩
/-! ### Appends -/
/-- An append, left shut. -/
def apx (ats : Array TypeId) (ty : TypeId) (args : Array Value) : Sem Value := Builtin.append_ ats ty args
theorem append_shut (ats : Array TypeId) (ty : TypeId) (args : Array Value) : Builtin.append_ ats ty args = apx ats ty args := rfl
/-- What is put behind one's own row: the row is the elder one's block or a new one. -/
theorem app_own {w : World} {base : Nat} {t ty e : TypeId} {z : Value} {size bytes : Nat} (ht : Try.prog.underlying t = some (.slice e)) (hinfo : (Try.prog.info? e).map (fun i => (i.zero, i.size, i.bytes)) = some (some z, size, bytes)) (hzs : z.cells.size = size) (hsz : 0 < size) (hby : bytes ≤ 1000)
    {v : Value} {n : Nat} {xs : List Value} (hv : w.ownsRow base e size v n xs) (g m c : Nat) (news : List Value) (hl : news.length = m * size) (hnews : ∀ j u, news[j]? = some u → w.cell? ⟨g, j, none⟩ = some u) (hone : ∀ u ∈ news, u.oneCell' = true) (hn : n + m ≤ 100000) (hb : base ≤ w.heap.size) :
    ∃ v' w', (Builtin.append_ #[t, t] ty #[v, .slice (some ⟨g, 0, none⟩) m c]).run Try.prog w = .ok v' w' ∧ w'.ownsRow base e size v' (n + m) (xs ++ news) ∧ w.grownBy w' v.ownBlock ∧ (∀ g, v'.ownBlock = some g → v.ownBlock = some g ∨ w.heap.size ≤ g) := by
  obtain ⟨i0, hi, hz0, hz1, hz2⟩ := info_parts hinfo
  have hbb : (n + m) * bytes ≤ 100000000 := by
    have := Nat.mul_le_mul hn hby
    omega
  have hnews : ∀ j u, news[j]? = some u → w.cell? ((⟨g, 0, none⟩ : Addr).add j) = some u := fun j u h => by
    rw [Go.WideShapes.add_plain, Nat.zero_add]; exact hnews j u h
  obtain ⟨v', w', hr, h2, h3, h4⟩ := run_append_own (P := Try.prog) w base t ty e i0 z size bytes ht hi hz0 hz1 hz2 hzs hsz v n xs hv ⟨g, 0, none⟩ m c news hl hnews hone (by unfold maxLen; omega) (by omega) hb
  refine ⟨v', w', hr, h2, h3, fun g' hg' => ?_⟩
  have hvl : xs.length = n * size := hv.1
  rcases hv.2 with ⟨rfl, rfl⟩ | ⟨gv, cv, curv, rfl, _, hgv, hncv, hcmv, hcsv, htv⟩
  · by_cases hm : m = 0
    · have := h4.2 ⟨rfl, hm⟩
      rw [this] at hg'
      cases hg'
    · have hr2 := run_append_nil (P := Try.prog) w t ty e i0 z ht hi hz0 ⟨g, 0, none⟩ m c news (by rw [hz1]; exact hl) hnews (by omega) (by omega) (by rw [hz2]; rw [Nat.zero_add] at hbb; omega)
      rw [hr] at hr2
      simp only [Result.ok.injEq] at hr2
      rw [hr2.1] at hg'
      simp only [Value.ownBlock, Option.some.injEq] at hg'
      exact .inr (by omega)
  · by_cases hroom : n + m ≤ cv
    · have hfit : n * i0.size + news.length ≤ curv.size := by rw [hl, hcsv, hz1, ← Nat.add_mul]; exact Nat.mul_le_mul_right _ hroom
      have hr2 := run_append_room (P := Try.prog) w t ty e i0 ht hi gv n cv curv hgv ⟨g, 0, none⟩ m c news (by rw [hz1]; exact hl) hnews hone hroom hfit
      rw [hr] at hr2
      simp only [Result.ok.injEq] at hr2
      rw [hr2.1] at hg'
      exact .inl hg'
    · have holds : ∀ j u, xs[j]? = some u → w.cell? ((⟨gv, 0, none⟩ : Addr).add j) = some u := hv.cells (g := gv) rfl
      have hr2 := run_append_grow (P := Try.prog) w t ty e i0 z ht hi hz0 ⟨gv, 0, none⟩ n cv xs (by rw [hz1]; exact hvl) holds ⟨g, 0, none⟩ m c news (by rw [hz1]; exact hl) hnews (by omega) (by omega) (by rw [hz2]; exact growslice_fits (by omega) (by omega))
      rw [hr] at hr2
      simp only [Result.ok.injEq] at hr2
      rw [hr2.1] at hg'
      simp only [Value.ownBlock, Option.some.injEq] at hg'
      exact .inr (by omega)
/-! ### Three cells -/
structure At3 (w : World) (b : Nat) (x y z : Value) : Prop where
  c0 : w.cell? ⟨b, 0, none⟩ = some x
  c1 : w.cell? ⟨b, 1, none⟩ = some y
  c2 : w.cell? ⟨b, 2, none⟩ = some z
  f0 : w.frozen? ⟨b, 0, none⟩ = false
  f1 : w.frozen? ⟨b, 1, none⟩ = false
  f2 : w.frozen? ⟨b, 2, none⟩ = false
  lt : b < w.heap.size
theorem At3.below {w w1 : World} {b B : Nat} {x y z : Value} (h : At3 w b x y z) (hb : Below B w w1) (hB : b < B) : At3 w1 b x y z :=
  ⟨(hb.cell (p := ⟨b, 0, none⟩) hB).trans h.c0, (hb.cell (p := ⟨b, 1, none⟩) hB).trans h.c1, (hb.cell (p := ⟨b, 2, none⟩) hB).trans h.c2, (hb.frozen (p := ⟨b, 0, none⟩) hB).trans h.f0, (hb.frozen (p := ⟨b, 1, none⟩) hB).trans h.f1, (hb.frozen (p := ⟨b, 2, none⟩) hB).trans h.f2, Nat.lt_of_lt_of_le h.lt hb.size⟩
theorem At3.of {w w1 : World} {b : Nat} {x y z : Value} (hb : Below w.heap.size w w1) (h : At3 w b x y z) : At3 w1 b x y z := h.below hb h.lt
theorem At3.fresh (w : World) (x y z : Value) (t : TypeId) : At3 (w.alloc (.cells #[x, y, z] t)) w.heap.size x y z := by
  constructor <;> simp [go_sem]
theorem At3.alloc {w : World} {b : Nat} {x y z : Value} (h : At3 w b x y z) (o : Obj) : At3 (w.alloc o) b x y z := h.below (B := w.heap.size) ((Below.refl _ _).alloc (Nat.le_refl _) o) h.lt
theorem At3.drew {w : World} {b : Nat} {x y z : Value} (h : At3 w b x y z) : At3 w.drew b x y z := ⟨h.c0, h.c1, h.c2, h.f0, h.f1, h.f2, h.lt⟩
theorem At3.drewN {w : World} {b : Nat} {x y z : Value} (h : At3 w b x y z) (n : Nat) : At3 (w.drewN n) b x y z := ⟨h.c0, h.c1, h.c2, h.f0, h.f1, h.f2, h.lt⟩
theorem At3.other {w : World} {b : Nat} {x y z : Value} (h : At3 w b x y z) {a : Addr} (hb : a.block ≠ b) (v : Value) : At3 (w.setCell a v) b x y z :=
  ⟨(World.cell?_setCell_other w a ⟨b, 0, none⟩ v (fun e => hb (by rw [e]))).trans h.c0, (World.cell?_setCell_other w a ⟨b, 1, none⟩ v (fun e => hb (by rw [e]))).trans h.c1, (World.cell?_setCell_other w a ⟨b, 2, none⟩ v (fun e => hb (by rw [e]))).trans h.c2,
    (World.frozen?_setCell _ _ _ _).trans h.f0, (World.frozen?_setCell _ _ _ _).trans h.f1, (World.frozen?_setCell _ _ _ _).trans h.f2, by rw [World.size_setCell]; exact h.lt⟩
theorem At3.put0 {w : World} {b : Nat} {x y z : Value} (h : At3 w b x y z) (v : Value) : At3 (w.setCell ⟨b, 0, none⟩ v) b v y z :=
  ⟨World.cell?_setCell_same w _ v h.c0, (World.cell?_setCell_other w _ ⟨b, 1, none⟩ v (by simp)).trans h.c1, (World.cell?_setCell_other w _ ⟨b, 2, none⟩ v (by simp)).trans h.c2, (World.frozen?_setCell _ _ _ _).trans h.f0, (World.frozen?_setCell _ _ _ _).trans h.f1, (World.frozen?_setCell _ _ _ _).trans h.f2, by rw [World.size_setCell]; exact h.lt⟩
theorem At3.put1 {w : World} {b : Nat} {x y z : Value} (h : At3 w b x y z) (v : Value) : At3 (w.setCell ⟨b, 1, none⟩ v) b x v z :=
  ⟨(World.cell?_setCell_other w _ ⟨b, 0, none⟩ v (by simp)).trans h.c0, World.cell?_setCell_same w _ v h.c1, (World.cell?_setCell_other w _ ⟨b, 2, none⟩ v (by simp)).trans h.c2, (World.frozen?_setCell _ _ _ _).trans h.f0, (World.frozen?_setCell _ _ _ _).trans h.f1, (World.frozen?_setCell _ _ _ _).trans h.f2, by rw [World.size_setCell]; exact h.lt⟩
theorem At3.put2 {w : World} {b : Nat} {x y z : Value} (h : At3 w b x y z) (v : Value) : At3 (w.setCell ⟨b, 2, none⟩ v) b x y v :=
  ⟨(World.cell?_setCell_other w _ ⟨b, 0, none⟩ v (by simp)).trans h.c0, (World.cell?_setCell_other w _ ⟨b, 1, none⟩ v (by simp)).trans h.c1, World.cell?_setCell_same w _ v h.c2, (World.frozen?_setCell _ _ _ _).trans h.f0, (World.frozen?_setCell _ _ _ _).trans h.f1, (World.frozen?_setCell _ _ _ _).trans h.f2, by rw [World.size_setCell]; exact h.lt⟩
theorem At3.outs {w : World} {b : Nat} {x y z : Value} (h : At3 w b x y z) (p q r : Value) :
    (w.setCell ⟨b, 0, none⟩ p).cell? ⟨b, 0, none⟩ = some p ∧ ((w.setCell ⟨b, 0, none⟩ p).setCell ⟨b, 1, none⟩ q).cell? ⟨b, 1, none⟩ = some q ∧ (((w.setCell ⟨b, 0, none⟩ p).setCell ⟨b, 1, none⟩ q).setCell ⟨b, 2, none⟩ r).cell? ⟨b, 2, none⟩ = some r :=
  ⟨(h.put0 p).c0, ((h.put0 p).put1 q).c1, (((h.put0 p).put1 q).put2 r).c2⟩
theorem At3.kept {w w1 : World} {b : Nat} {x y z : Value} {row : Option Nat} (h : At3 w b x y z) (k : w.grownBy w1 row) (hr : some b ≠ row) : At3 w1 b x y z := by
  have e := k.block b h.lt hr
  exact ⟨(World.cell?_of_block (a := ⟨b, 0, none⟩) e).trans h.c0, (World.cell?_of_block (a := ⟨b, 1, none⟩) e).trans h.c1, (World.cell?_of_block (a := ⟨b, 2, none⟩) e).trans h.c2,
    (World.frozen?_of_block (a := ⟨b, 0, none⟩) e).trans h.f0, (World.frozen?_of_block (a := ⟨b, 1, none⟩) e).trans h.f1, (World.frozen?_of_block (a := ⟨b, 2, none⟩) e).trans h.f2, Nat.lt_of_lt_of_le h.lt k.size⟩
/-- n cells of a block of one's own, that read f. -/
structure Cells (w : World) (b n : Nat) (f : Nat → Int) : Prop where
  cell : ∀ i, i < n → w.cell? ⟨b, i, none⟩ = some (.int .i64 (f i))
  froz : ∀ i, i < n → w.frozen? ⟨b, i, none⟩ = false
  lt : 0 < n → b < w.heap.size
theorem Cells.below {w w1 : World} {b n B : Nat} {f : Nat → Int} (h : Cells w b n f) (hb : Below B w w1) (hB : 0 < n → b < B) : Cells w1 b n f :=
  ⟨fun i hi => (hb.cell (p := ⟨b, i, none⟩) (hB (by omega))).trans (h.cell i hi), fun i hi => (hb.frozen (p := ⟨b, i, none⟩) (hB (by omega))).trans (h.froz i hi), fun hn => Nat.lt_of_lt_of_le (h.lt hn) hb.size⟩
theorem Cells.of {w w1 : World} {b n : Nat} {f : Nat → Int} (h : Cells w b n f) (hb : Below w.heap.size w w1) : Cells w1 b n f := h.below hb h.lt
theorem Cells.alloc {w : World} {b n : Nat} {f : Nat → Int} (h : Cells w b n f) (o : Obj) : Cells (w.alloc o) b n f := h.below (B := w.heap.size) ((Below.refl _ _).alloc (Nat.le_refl _) o) h.lt
theorem Cells.other {w : World} {b n : Nat} {f : Nat → Int} (h : Cells w b n f) {a : Addr} (hb : a.block ≠ b) (v : Value) : Cells (w.setCell a v) b n f :=
  ⟨fun i hi => (World.cell?_setCell_other w a ⟨b, i, none⟩ v (fun e => hb (by rw [e]))).trans (h.cell i hi), fun i hi => (World.frozen?_setCell _ _ _ _).trans (h.froz i hi), by rw [World.size_setCell]; exact h.lt⟩
theorem Cells.others {w : World} {b n : Nat} {f : Nat → Int} (h : Cells w b n f) {c : Nat} (hc : c ≠ b) (u v : Value) : Cells ((w.setCell ⟨c, 0, none⟩ u).setCell ⟨c, 1, none⟩ v) b n f := (h.other (a := ⟨c, 0, none⟩) hc u).other (a := ⟨c, 1, none⟩) hc v
theorem Cells.put {w : World} {b n : Nat} {f : Nat → Int} (h : Cells w b n f) {j : Nat} (hj : j < n) (x : Int) : Cells (w.setCell ⟨b, j, none⟩ (.int .i64 x)) b n (fun i => if i = j then x else f i) := by
  refine ⟨fun i hi => ?_, fun i hi => (World.frozen?_setCell _ _ _ _).trans (h.froz i hi), by rw [World.size_setCell]; exact h.lt⟩
  by_cases e : i = j
  · subst e; rw [if_pos rfl]; exact World.cell?_setCell_same w _ _ (h.cell i hi)
  · rw [if_neg e]; exact (World.cell?_setCell_other w _ ⟨b, i, none⟩ _ (fun k => e (by simpa using k.symm))).trans (h.cell i hi)
/-! ### Rows of steps, rows of bytes -/
theorem infoO : (Try.prog.info? 24).map (fun i => (i.zero, i.size, i.bytes)) = some (some (.agg #[.int .i64 0, .int .i64 0, .int .i64 0]), 3, 24) := by kernel_rfl
theorem infoB : (Try.prog.info? 5).map (fun i => (i.zero, i.size, i.bytes)) = some (some (.int .u8 0), 1, 1) := by kernel_rfl
def oc (x : Stp) : List Value := [.int .i64 x.k, .int .i64 x.h, .int .i64 x.v]
def ocs (L : List Stp) : List Value := L.flatMap oc
theorem ocs_append (L M : List Stp) : ocs (L ++ M) = ocs L ++ ocs M := by simp [ocs]
theorem ocs_one (x : Stp) : ocs [x] = [.int .i64 x.k, .int .i64 x.h, .int .i64 x.v] := rfl
theorem ocs_len (L : List Stp) : (ocs L).length = L.length * 3 := by
  induction L with
  | nil => rfl
  | cons x L ih => show (oc x ++ ocs L).length = _; rw [List.length_append, ih, List.length_cons]; show 3 + _ = _; omega
theorem ocs_get {L : List Stp} {i : Nat} {x : Stp} (h : L[i]? = some x) : (ocs L)[i * 3]? = some (.int .i64 x.k) ∧ (ocs L)[i * 3 + 1]? = some (.int .i64 x.h) ∧ (ocs L)[i * 3 + 2]? = some (.int .i64 x.v) := by
  induction L generalizing i with
  | nil => simp at h
  | cons q L ih =>
    have e : ocs (q :: L) = .int .i64 q.k :: .int .i64 q.h :: .int .i64 q.v :: ocs L := rfl
    rw [e]
    cases i with
    | zero => simp at h; subst h; exact ⟨rfl, rfl, rfl⟩
    | succ i =>
      have := ih (by simpa using h)
      rw [show (i + 1) * 3 = i * 3 + 1 + 1 + 1 by omega]
      simpa using this
theorem oc_one (L : List Stp) : ∀ u ∈ ocs L, u.oneCell' = true := fun u hu => by
  unfold ocs at hu
  obtain ⟨x, _, hu⟩ := List.mem_flatMap.1 hu
  simp [oc] at hu
  rcases hu with rfl | rfl | rfl <;> rfl
/-- A row of steps in memory, as it is read. -/
structure Ops (w : World) (ao : Option Addr) (n c : Nat) (f : Nat → Stp) : Prop where
  cap : n ≤ c
  max : c ≤ maxLen
  at' : 0 < n → ∃ b o, ao = some ⟨b, o, none⟩ ∧ b < w.heap.size ∧ ∀ i, i < n → w.cell? ⟨b, o + i * 3, none⟩ = some (.int .i64 (f i).k) ∧ w.cell? ⟨b, o + i * 3 + 1, none⟩ = some (.int .i64 (f i).h) ∧ w.cell? ⟨b, o + i * 3 + 2, none⟩ = some (.int .i64 (f i).v)
theorem Ops.below {w w1 : World} {ao : Option Addr} {n c : Nat} {f : Nat → Stp} (h : Ops w ao n c f) (hb : Below w.heap.size w w1) : Ops w1 ao n c f := by
  refine ⟨h.cap, h.max, fun hn => ?_⟩
  obtain ⟨b, o, e, hl, hc⟩ := h.at' hn
  refine ⟨b, o, e, Nat.lt_of_lt_of_le hl hb.size, fun i hi => ?_⟩
  obtain ⟨c0, c1, c2⟩ := hc i hi
  exact ⟨(hb.cell (p := ⟨b, _, none⟩) hl).trans c0, (hb.cell (p := ⟨b, _, none⟩) hl).trans c1, (hb.cell (p := ⟨b, _, none⟩) hl).trans c2⟩
theorem Ops.alloc {w : World} {ao : Option Addr} {n c : Nat} {f : Nat → Stp} (h : Ops w ao n c f) (o : Obj) : Ops (w.alloc o) ao n c f := h.below ((Below.refl _ _).alloc (Nat.le_refl _) o)
theorem Ops.ext {w : World} {ao : Option Addr} {n c : Nat} {f g : Nat → Stp} (h : Ops w ao n c f) (e : ∀ i, i < n → f i = g i) : Ops w ao n c g := by
  refine ⟨h.cap, h.max, fun hn => ?_⟩
  obtain ⟨b, o, ea, hl, hc⟩ := h.at' hn
  exact ⟨b, o, ea, hl, fun i hi => by rw [← e i hi]; exact hc i hi⟩
theorem Ops.own {w : World} {base : Nat} {ao : Option Addr} {n c : Nat} {f : Nat → Stp} (h : w.ownsRow base 24 3 (.slice ao n c) n (ocs (rw3 f n))) : Ops w ao n c f := by
  rcases h.2 with ⟨e, h0⟩ | ⟨g, cap, cur, e, hb, hg, h1, h2, h3, h4⟩
  · simp only [Value.slice.injEq] at e
    obtain ⟨rfl, _, rfl⟩ := e
    subst h0
    exact ⟨Nat.le_refl _, by unfold maxLen; omega, fun h => absurd h (Nat.lt_irrefl _)⟩
  · simp only [Value.slice.injEq, true_and] at e
    obtain ⟨rfl, rfl⟩ := e
    refine ⟨h1, h2, fun _ => ⟨g, 0, rfl, (Array.getElem?_eq_some_iff.1 hg).1, fun i hi => ?_⟩⟩
    simp only [Nat.zero_add]
    obtain ⟨c0, c1, c2⟩ := ocs_get (rw3_get f n i hi)
    rw [h.cellAt _ (by omega), h.cellAt _ (by omega), h.cellAt _ (by omega)]
    exact ⟨c0, c1, c2⟩
/-- A step put behind one's own row of steps, out of a literal's block. -/
theorem oapp_run {w : World} {base : Nat} {v : Value} {n : Nat} {f : Nat → Stp} (ty : TypeId) (h : w.ownsRow base 24 3 v n (ocs (rw3 f n))) (hb : base ≤ w.heap.size) (hn : n ≤ 10000) {g : Nat} {x : Stp} (hx : x = f n) (A : At3 w g (.int .i64 x.k) (.int .i64 x.h) (.int .i64 x.v)) :
    ∃ ao' c' w', (apx #[22, 22] ty #[v, .slice (some ⟨g, 0, none⟩) 1 1]).run Try.prog w = .ok (.slice ao' (n + 1) c') w' ∧ w'.ownsRow base 24 3 (.slice ao' (n + 1) c') (n + 1) (ocs (rw3 f (n + 1))) ∧ w.grownBy w' v.ownBlock := by
  obtain ⟨v', w', hr, ho, hg, hv⟩ := app_own (ty := ty) Try.underlying22 infoO rfl (by decide) (by decide) h g 1 1 (ocs [x]) rfl (fun j u hj => by
    rw [ocs_one] at hj
    match j, hj with
    | 0, hj => simp at hj; subst hj; exact A.c0
    | 1, hj => simp at hj; subst hj; exact A.c1
    | 2, hj => simp at hj; subst hj; exact A.c2
    | j + 3, hj => simp at hj) (oc_one _) (by omega) hb
  obtain ⟨ao', c', rfl⟩ := own_slice ho
  refine ⟨ao', c', w', hr, ?_, hg⟩
  rw [← ocs_append, hx] at ho
  exact ho
/-- A row put behind one's own row of steps. -/
theorem oapp_rows {w : World} {base : Nat} {v : Value} {n : Nat} {L M : List Stp} (ty : TypeId) (h : w.ownsRow base 24 3 v n (ocs L)) (hb : base ≤ w.heap.size) (hn : n ≤ 10000) {ao : Option Addr} {m c base2 : Nat} (hm : m ≤ 10000) (own : w.ownsRow base2 24 3 (.slice ao m c) m (ocs M)) (h0 : 0 < m) :
    ∃ ao' c' w', (apx #[22, 22] ty #[v, .slice ao m c]).run Try.prog w = .ok (.slice ao' (n + m) c') w' ∧ w'.ownsRow base 24 3 (.slice ao' (n + m) c') (n + m) (ocs (L ++ M)) ∧ w.grownBy w' v.ownBlock := by
  obtain ⟨g, rfl, _⟩ := own_some own h0
  have hl : (ocs M).length = m * 3 := own.1
  obtain ⟨v', w', hr, ho, hg, hv⟩ := app_own (ty := ty) Try.underlying22 infoO rfl (by decide) (by decide) h g m c (ocs M) hl (fun j u hj => by
    have hj2 : j < m * 3 := by have := (List.getElem?_eq_some_iff.1 hj).1; omega
    rw [own.cellAt j hj2]; exact hj) (oc_one _) (by omega) hb
  obtain ⟨ao', c', rfl⟩ := own_slice ho
  exact ⟨ao', c', w', hr, by rw [ocs_append]; exact ho, hg⟩
/-- Bytes as cells. -/
def bcs (l : List UInt8) : List Value := l.map fun b => .int .u8 (b.toNat : Int)
theorem bcs_len (l : List UInt8) : (bcs l).length = l.length := List.length_map _
theorem bcs_append (l m : List UInt8) : bcs (l ++ m) = bcs l ++ bcs m := List.map_append
theorem bcs_one (l : List UInt8) : ∀ u ∈ bcs l, u.oneCell' = true := fun u hu => by
  unfold bcs at hu
  obtain ⟨b, _, rfl⟩ := List.mem_map.1 hu
  rfl
/-- Three bytes put behind one's own row of bytes, out of a literal's block. -/
theorem bapp_run {w : World} {base : Nat} {v : Value} {n : Nat} {f : Nat → Stp} (ty : TypeId) (h : w.ownsRow base 5 1 v (3 * n) (bcs (bl f n))) (hb : base ≤ w.heap.size) (hn : n ≤ 10000) {g : Nat} (hx : isb 64 (f n) = true) (A : At3 w g (.int .u8 (f n).k) (.int .u8 (f n).h) (.int .u8 (f n).v)) :
    ∃ ao' c' w', (apx #[39, 39] ty #[v, .slice (some ⟨g, 0, none⟩) 3 3]).run Try.prog w = .ok (.slice ao' (3 * (n + 1)) c') w' ∧ w'.ownsRow base 5 1 (.slice ao' (3 * (n + 1)) c') (3 * (n + 1)) (bcs (bl f (n + 1))) ∧ w.grownBy w' v.ownBlock := by
  have hi := isb_iff.1 hx
  have e : mm 64 = 64 := rfl
  have e3 : bcs (b3 (f n)) = [.int .u8 (f n).k, .int .u8 (f n).h, .int .u8 (f n).v] := by
    show [Value.int .u8 _, Value.int .u8 _, Value.int .u8 _] = _
    rw [u8_nat (x := (f n).k) (by omega) (by omega), u8_nat (x := (f n).h) (by omega) (by omega), u8_nat (x := (f n).v) (by omega) (by omega)]
  obtain ⟨v', w', hr, ho, hg, hv⟩ := app_own (ty := ty) Try.underlying39 infoB rfl (by decide) (by decide) h g 3 3 (bcs (b3 (f n))) rfl (fun j u hj => by
    rw [e3] at hj
    match j, hj with
    | 0, hj => simp at hj; subst hj; exact A.c0
    | 1, hj => simp at hj; subst hj; exact A.c1
    | 2, hj => simp at hj; subst hj; exact A.c2
    | j + 3, hj => simp at hj) (bcs_one _) (by omega) hb
  obtain ⟨ao', c', rfl⟩ := own_slice ho
  rw [← bcs_append] at ho
  exact ⟨ao', c', w', hr, ho, hg⟩
/-- One's own row of bytes as a string. -/
theorem str_run {w : World} {base : Nat} {n c : Nat} {ao : Option Addr} {f : Nat → Stp} (h : w.ownsRow base 5 1 (.slice ao (3 * n) c) (3 * n) (bcs (bl f n))) :
    (convert 39 9 (.slice ao (3 * n) c)).run Try.prog w = .ok (.string (bs f n)) w := by
  have hlen : (bcs (bl f n)).length = 3 * n := by rw [bcs_len, bl_len]
  rcases h.2 with ⟨e, h0⟩ | ⟨g, cap, cur, e, hb, hg, h1, h2, h3, h4⟩
  · simp only [Value.slice.injEq] at e
    obtain ⟨rfl, _, rfl⟩ := e
    obtain rfl : n = 0 := by omega
    rw [run_convert_bytes_string (P := Try.prog) w 39 9 5 none _ _ Try.underlying39 Try.underlying5 Try.underlying9]
    rfl
  · simp only [Value.slice.injEq, true_and] at e
    obtain ⟨rfl, rfl⟩ := e
    have := run_convert_bytes_back (P := Try.prog) w 39 9 5 ⟨g, 0, none⟩ c (bl f n) Try.underlying39 Try.underlying5 Try.underlying9 (fun j hj => by
      rw [Go.WideShapes.add_plain, Nat.zero_add, h.cellAt j (by rw [bl_len] at hj; omega)]
      unfold bcs
      rw [List.getElem?_map, List.getElem?_eq_getElem hj]; rfl)
    rw [bl_len] at this
    exact this
/-- Bytes of a string put over an array of three 0. -/
theorem copy3_run {w : World} {g : Nat} (sT ty : TypeId) (s : ByteArray) (A : At3 w g (.int .u8 0) (.int .u8 0) (.int .u8 0)) :
    ∃ w', (Builtin.copy_ #[39, sT] ty #[.slice (some ⟨g, 0, none⟩) 3 3, .string s]).run Try.prog w = .ok (goInt (Nat.min s.size 3)) w' ∧ At3 w' g (.int .u8 (byt s 0)) (.int .u8 (byt s 1)) (.int .u8 (byt s 2)) ∧ w.grownBy w' (some g) := by
  obtain ⟨i, hi, hz0, hz1, hz2⟩ := info_parts infoB
  obtain ⟨n, hn⟩ : ∃ n, n = Nat.min s.size 3 := ⟨_, rfl⟩
  have hn1 : n ≤ s.size := by rw [hn]; exact Nat.min_le_left _ _
  have hn2 : n ≤ 3 := by rw [hn]; exact Nat.min_le_right _ _
  have hn3 : n = s.size ∨ n = 3 := by
    by_cases h : s.size ≤ 3
    · exact .inl (by rw [hn]; exact Nat.min_eq_left h)
    · exact .inr (by rw [hn]; exact Nat.min_eq_right (by omega))
  obtain ⟨cs, hcs⟩ : ∃ cs, cs = bcs (s.data.toList.take n) := ⟨_, rfl⟩
  have hl : cs.length = n := by rw [hcs, bcs_len, List.length_take, size_list]; omega
  have hget : ∀ j, j < n → cs[j]? = some (.int .u8 (byt s j)) := fun j hj => by
    rw [hcs]; unfold bcs byt
    rw [List.getElem?_map, List.getElem?_take, if_pos hj, List.getD_eq_getElem?_getD, List.getElem?_eq_getElem (by rw [size_list]; omega)]
    rfl
  have hin : ∀ j, j < 3 → (w.cell? ⟨g, j, none⟩).isSome = true := fun j hj => by
    rcases (by omega : j = 0 ∨ j = 1 ∨ j = 2) with rfl | rfl | rfl
    · rw [A.c0]; rfl
    · rw [A.c1]; rfl
    · rw [A.c2]; rfl
  have hfz : ∀ j, j < 3 → w.frozen? ⟨g, j, none⟩ = false := fun j hj => by
    rcases (by omega : j = 0 ∨ j = 1 ∨ j = 2) with rfl | rfl | rfl
    · exact A.f0
    · exact A.f1
    · exact A.f2
  have hst := run_storeCells_cells (P := Try.prog) g 0 cs 0 w (fun j hj => by rw [Nat.zero_add]; exact hin j (by omega)) (fun j hj => by rw [Nat.zero_add]; exact hfz j (by omega)) (by rw [hcs]; exact bcs_one _)
  have hout : ∀ x : Addr, x.block ≠ g → (w.setCells g 0 cs).cell? x = w.cell? x := fun x hx => World.cell?_setCells_out g cs 0 w x (fun e _ => absurd e hx)
  have hcell : ∀ j, j < 3 → (w.setCells g 0 cs).cell? ⟨g, j, none⟩ = some (.int .u8 (byt s j)) := fun j hj => by
    by_cases h : j < n
    · have := World.cell?_setCells_in g cs 0 w (fun i hi => by rw [Nat.zero_add]; exact hin i (by omega)) j (by omega)
      rw [Nat.zero_add] at this
      rw [this]
      have h2 := hget j h
      rw [List.getElem?_eq_getElem (by omega)] at h2
      exact h2
    · have e : byt s j = 0 := byt_out (by omega)
      rw [World.cell?_setCells_out g cs 0 w _ (fun _ _ => .inr (by simp; omega)), e]
      rcases (by omega : j = 0 ∨ j = 1 ∨ j = 2) with rfl | rfl | rfl
      · exact A.c0
      · exact A.c1
      · exact A.c2
  have hsz : ∀ (l : List Value) (o : Nat) (w : World), (w.setCells g o l).heap.size = w.heap.size := by
    intro l
    induction l with
    | nil => intro o w; rfl
    | cons v l ih => intro o w; rw [World.setCells, ih, World.size_setCell]
  have hgr : ∀ (l : List Value) (o : Nat) (w : World), w.grownBy (w.setCells g o l) (some g) := by
    intro l
    induction l with
    | nil => intro o w; exact ⟨rfl, rfl, rfl, Nat.le_refl _, fun _ _ _ => rfl⟩
    | cons v l ih =>
      intro o w
      have h1 := ih (o + 1) (w.setCell ⟨g, o, none⟩ v)
      exact ⟨h1.os, h1.tape, h1.output, by rw [hsz]; exact Nat.le_refl _, fun k hk hne => (h1.block k (by rw [World.size_setCell]; exact hk) hne).trans (Below.heap_setCell _ _ _ _ (fun e => hne (by rw [e])))⟩
  refine ⟨w.setCells g 0 cs, ?_, ⟨hcell 0 (by omega), hcell 1 (by omega), hcell 2 (by omega), (World.frozen?_setCells _ _ _ _ _).trans A.f0, (World.frozen?_setCells _ _ _ _ _).trans A.f1, (World.frozen?_setCells _ _ _ _ _).trans A.f2, by rw [hsz]; exact A.lt⟩, hgr _ _ _⟩
  rw [← hn]
  have hfc : (Builtin.firstCells 1 n (.string s)).run Try.prog w = .ok cs.toArray w := by
    have e : (s.extract 0 n).data.map (fun b => Value.int .u8 (b.toNat : Int)) = cs.toArray := by
      rw [hcs]
      obtain ⟨⟨l⟩⟩ := s
      rw [show (⟨⟨l⟩⟩ : ByteArray) = ⟨l.toArray⟩ from rfl, ByteArray.extract_mk]
      simp [bcs]
    show (pure _ : Sem (Array Value)).run Try.prog w = _
    rw [e]; rfl
  simp [Builtin.copy_, run_underlying Try.underlying39, Builtin.lenOf, sizeOf, typeInfo, hi, hz1, hfc, ← hn, hst]
end Go.Proofs.Ytmiljpfljnjkpaa
