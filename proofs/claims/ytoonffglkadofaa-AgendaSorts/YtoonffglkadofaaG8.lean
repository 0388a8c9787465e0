/-
  An agenda in memory; the program's New, Len, Peek and Put. No conditions but the agenda's own, and that it is short.
-/
import Derived.Test.YtoonffglkadofaaG7
import Derived.Deep.RegionHeld3
namespace Go.Proofs.Ytoonffglkadofaa
open Go.RowKit
set_option linter.unusedVariables false
attribute [local go_sem] Later.cell Later.frozen
/-- An agenda's block, and its row: L is the heap, R what was put and not told, in the order in which it was put. -/
structure Ag (w : World) (ab base : Nat) (m T : Int) (v : Value) (n : Nat) (L R : List Ent) : Prop where
  c0 : w.cell? ⟨ab, 0, none⟩ = some (.int .i64 m)
  c1 : w.cell? ⟨ab, 1, none⟩ = some (.int .i64 T)
  p0 : w.cell? ⟨ab, 2, none⟩ = some v
  p1 : w.cell? ⟨ab, 3, none⟩ = some (.func (.func 20) #[] #[])
  f1 : w.frozen? ⟨ab, 1, none⟩ = false
  f2 : w.frozen? ⟨ab, 2, none⟩ = false
  own : w.ownsRow base 60 5 v n (ncs L)
  fit : Fit L R T
  lt : ab < w.heap.size
  bb : ab < base
  bs : base ≤ w.heap.size
theorem Ag.hs {w : World} {ab base : Nat} {m T : Int} {v : Value} {n : Nat} {L R : List Ent} (h : Ag w ab base m T v n L R) : HS w w ab 2 base v v n L := HS.at h.p0 h.p1 h.f2 h.own h.lt (own_far h.own h.bb) h.bs
theorem Ag.len {w : World} {ab base : Nat} {m T : Int} {v : Value} {n : Nat} {L R : List Ent} (h : Ag w ab base m T v n L R) : R.length = n := by rw [← h.fit.len]; exact own_len h.own
theorem Ag.llen {w : World} {ab base : Nat} {m T : Int} {v : Value} {n : Nat} {L R : List Ent} (h : Ag w ab base m T v n L R) : L.length = n := own_len h.own
theorem Ag.far {w w1 : World} {ab base : Nat} {m T : Int} {v : Value} {n : Nat} {L R : List Ent} {S : List Nat} (h : Ag w ab base m T v n L R) (k : Far S w w1) (h1 : ab ∉ S) (h2 : ∀ g, v.ownBlock = some g → g ∉ S) : Ag w1 ab base m T v n L R := by
  have e := k.block ab h.lt h1
  exact ⟨(World.cell?_of_block (a := ⟨ab, 0, none⟩) e).trans h.c0, (World.cell?_of_block (a := ⟨ab, 1, none⟩) e).trans h.c1, (World.cell?_of_block (a := ⟨ab, 2, none⟩) e).trans h.p0, (World.cell?_of_block (a := ⟨ab, 3, none⟩) e).trans h.p1,
    (World.frozen?_of_block (a := ⟨ab, 1, none⟩) e).trans h.f1, (World.frozen?_of_block (a := ⟨ab, 2, none⟩) e).trans h.f2, k.own h.own h2, h.fit, Nat.lt_of_lt_of_le h.lt k.size, h.bb, Nat.le_trans h.bs k.size⟩
theorem Ag.below {w w1 : World} {ab base : Nat} {m T : Int} {v : Value} {n : Nat} {L R : List Ent} (h : Ag w ab base m T v n L R) (k : Below w.heap.size w w1) : Ag w1 ab base m T v n L R := h.far (Far.of_below k) (by simp) (by simp)
theorem Ag.alloc {w : World} {ab base : Nat} {m T : Int} {v : Value} {n : Nat} {L R : List Ent} (h : Ag w ab base m T v n L R) (o : Obj) : Ag (w.alloc o) ab base m T v n L R := h.below ((Below.refl _ _).alloc (Nat.le_refl _) o)
theorem Ag.drew {w : World} {ab base : Nat} {m T : Int} {v : Value} {n : Nat} {L R : List Ent} (h : Ag w ab base m T v n L R) : Ag w.drew ab base m T v n L R := h.below (Below.refl _ _).drew
/-- Behind a call that turned the heap alone. -/
theorem Ag.of_hs {w w1 : World} {ab base : Nat} {m T : Int} {v v1 : Value} {n n1 : Nat} {L R L1 R1 : List Ent} (h : Ag w ab base m T v n L R) (k : HS w w1 ab 2 base v v1 n1 L1) (fit : Fit L1 R1 T) : Ag w1 ab base m T v1 n1 L1 R1 :=
  ⟨(k.kc 0 (by decide)).trans h.c0, (k.kc 1 (by decide)).trans h.c1, k.p0, k.p1, (k.kf 1).trans h.f1, k.f0, k.own, fit, k.lt, h.bb, k.sz⟩
set_option maxRecDepth 100000 in
theorem new_no (m : Int) (hm : m < 1 ∨ 65536 < m) (w : World) : Calls Try.prog 7 #[.int .i64 m] w fun e w' => e = .returned (.tuple #[.pointer none, .int .i64 1]) ∧ Below w.heap.size w w' := by
  by_cases h1 : m < 1
  · go_enter Try.func7, Try.ntmps7
    go_wp2
    go_ret2
    exact ⟨rfl, Below.refl _ _⟩
  · have h2 : 65536 < m := by omega
    go_enter Try.func7, Try.ntmps7
    go_wp2
    go_ret2
    exact ⟨rfl, Below.refl _ _⟩
set_option maxRecDepth 100000 in
theorem new_yes (m : Int) (h1 : 1 ≤ m) (h2 : m ≤ 65536) (w : World) : Calls Try.prog 7 #[.int .i64 m] w fun e w' => e = .returned (.tuple #[.pointer (some ⟨w.heap.size, 0, none⟩), .int .i64 0]) ∧
    w'.heap.size = w.heap.size + 1 ∧ Ag w' w.heap.size (w.heap.size + 1) m 0 (.slice none 0 0) 0 [] [] ∧ Below w.heap.size w w' := by
  go_enter Try.func7, Try.ntmps7
  go_wp2
  go_ret2
  exact ⟨rfl, by simp, ⟨by simp [go_sem], by simp [go_sem], by simp [go_sem], by simp [go_sem], by simp [go_sem], by simp [go_sem], World.ownsRow_nil _ _ _ _, Fit.nil _, by simp, by omega, by simp⟩, by go_grown⟩
set_option maxRecDepth 100000 in
theorem len_any (ab base : Nat) (m T : Int) (v : Value) (n : Nat) (L R : List Ent) (hn : n ≤ 100000) (w : World) (A : Ag w ab base m T v n L R) :
    Calls Try.prog 15 #[.pointer (some ⟨ab, 0, none⟩)] w fun e w' => e = .returned (.int .i64 n) ∧ Below w.heap.size w w' := by
  have p0 := A.p0
  obtain ⟨ao, c, rfl⟩ := own_slice A.own
  go_enter Try.func15, Try.ntmps15
  go_wp2
  go_ret
  exact ⟨rfl, Below.refl _ _⟩
theorem Ag.head {w : World} {ab base : Nat} {m T : Int} {v : Value} {n : Nat} {L R : List Ent} (h : Ag w ab base m T v n L R) (hn : 0 < n) : (pl L 0).e = me (es R) 0 := by
  have hl := h.len
  have m1 := (mi_spec (l := es R) (by rw [es_len]; omega)).1
  rw [es_len] at m1
  rw [h.fit.first (by omega)]
  show _ = evp (es R) (mi (es R))
  rw [es_pl m1]
set_option maxHeartbeats 1000000 in
set_option maxRecDepth 100000 in
theorem peek_any (ab base : Nat) (m T : Int) (v : Value) (n : Nat) (L R : List Ent) (hn : n ≤ 100000) (w : World) (A : Ag w ab base m T v n L R) :
    Calls Try.prog 13 #[.pointer (some ⟨ab, 0, none⟩)] w fun e w' => e = .returned (.tuple #[.agg #[.int .i64 ((pke (es R))).a, .int .i64 ((pke (es R))).k, .int .i64 ((pke (es R))).o, .int .u64 ((pke (es R))).s], .bool (pkb (es R))]) ∧ Below w.heap.size w w' := by
  have hl := A.len
  have hle : (es R).length = n := by rw [es_len]; exact hl
  have LE := fun w A => len_any ab base m T v n L R hn w A
  obtain ⟨ao, c, rfl⟩ := own_slice A.own
  by_cases h0 : 0 < n
  · have hk : Hid (pke (es R) = (pl L 0).e) := by show _ = _; unfold pke; rw [hle, if_pos h0]; exact (A.head h0).symm
    have hb : Hid (pkb (es R) = true) := by show _ = _; unfold pkb; rw [hle]; exact decide_eq_true h0
    obtain ⟨g, rfl, _, hg, hnc, hcm⟩ := own_some A.own h0
    have hmx : maxLen = 9223372036854775807 := rfl
    obtain ⟨a0, a1, a2, a3, a4⟩ := own_ent A.own (i := 0) h0
    simp only [Nat.zero_mul, Nat.zero_add] at a0 a1 a2 a3 a4
    have hn0 : ¬ (n : Int) = 0 := by omega
    have hn1 : (0 : Int) < (n : Int) := by omega
    generalize (pl L 0).e = x at *
    go_enter Try.func13, Try.ntmps13
    go_wp2_with fail
    refine (LE _ (A.alloc _)).mono ?_
    rintro e w1 ⟨rfl, hw1⟩
    have p0 := ((A.alloc (.cells #[.int .i64 0, .int .i64 0, .int .i64 0, .int .u64 0] 32)).below hw1).p0
    have R1 : At4 w1 w.heap.size (.int .i64 0) (.int .i64 0) (.int .i64 0) (.int .u64 0) := At4.of hw1 (by constructor <;> simp [go_sem])
    have hB : Below w.heap.size w w1 := Below.call (by go_grown) (by simp <;> omega) hw1
    replace a0 := (hB.cell (p := ⟨g, 0, none⟩) hg).trans a0
    replace a1 := (hB.cell (p := ⟨g, 1, none⟩) hg).trans a1
    replace a2 := (hB.cell (p := ⟨g, 2, none⟩) hg).trans a2
    replace a3 := (hB.cell (p := ⟨g, 3, none⟩) hg).trans a3
    clear hw1 a4 LE
    have l1 := R1.lt
    obtain ⟨r0, r1, r2, r3⟩ := R1.outs (.int .i64 x.a) (.int .i64 x.k) (.int .i64 x.o) (.int .u64 x.s)
    obtain ⟨s0, s1, s2, s3, sa, sb, sc, sd, sl⟩ := id R1
    go_wp2_with (exact bodyPost_ret (v := .tuple #[.agg #[.int .i64 x.a, .int .i64 x.k, .int .i64 x.o, .int .u64 x.s], .bool true]) (by simp [results, Try.results13, go_sem, r0, r1, r2, r3]) rfl ⟨by rw [hk.out, hb.out], by go_grown⟩)
  · obtain rfl : n = 0 := by omega
    have hk : Hid (pke (es R) = ⟨0, 0, 0, 0⟩) := by show _ = _; unfold pke; rw [hle]; rfl
    have hb : Hid (pkb (es R) = false) := by show _ = _; unfold pkb; rw [hle]; rfl
    go_enter Try.func13, Try.ntmps13
    go_wp2_with fail
    refine (LE _ (A.alloc _)).mono ?_
    rintro e w1 ⟨rfl, hw1⟩
    have R1 : At4 w1 w.heap.size (.int .i64 0) (.int .i64 0) (.int .i64 0) (.int .u64 0) := At4.of hw1 (by constructor <;> simp [go_sem])
    have hB : Below w.heap.size w w1 := Below.call (by go_grown) (by simp <;> omega) hw1
    clear hw1 LE
    have l1 := R1.lt
    obtain ⟨r0, r1, r2, r3⟩ := R1.outs (.int .i64 0) (.int .i64 0) (.int .i64 0) (.int .u64 0)
    obtain ⟨s0, s1, s2, s3, sa, sb, sc, sd, sl⟩ := id R1
    go_wp2_with (exact bodyPost_ret (v := .tuple #[.agg #[.int .i64 0, .int .i64 0, .int .i64 0, .int .u64 0], .bool false]) (by simp [results, Try.results13, go_sem, r0, r1, r2, r3]) rfl ⟨by rw [hk.out, hb.out], by go_grown⟩)
end Go.Proofs.Ytoonffglkadofaa
