/-
  A ledger as a row of packets: what it does, as plain functions; what lies in memory. No program's function in this text. No conditions.
-/
import Derived.Test.YtpaalpnoppblaaaH
import Derived.Test.YtpaalpnoppblaaaV11
import Derived.Maps.RangeWalk
namespace Go.Proofs.Ytpaalpnoppblaaa
open Go.RowKit Go.Maps
set_option linter.unusedVariables false
/-- All but the blocks S is as it was; and there may be new ones. -/
structure Far (S : List Nat) (w w' : World) : Prop where
  os : w'.os = w.os
  tape : w'.tape = w.tape
  output : w'.output = w.output
  size : w.heap.size ≤ w'.heap.size
  block : ∀ k, k < w.heap.size → k ∉ S → w'.heap[k]? = w.heap[k]?
theorem Far.refl (S : List Nat) (w : World) : Far S w w := ⟨rfl, rfl, rfl, Nat.le_refl _, fun _ _ _ => rfl⟩
theorem Far.trans {S : List Nat} {w w1 w2 : World} (h : Far S w w1) (k : Far S w1 w2) : Far S w w2 :=
  ⟨k.os.trans h.os, k.tape.trans h.tape, k.output.trans h.output, Nat.le_trans h.size k.size, fun i hi hS => (k.block i (Nat.lt_of_lt_of_le hi h.size) hS).trans (h.block i hi hS)⟩
theorem Far.mono {S T : List Nat} {w w1 : World} (h : Far S w w1) (hs : ∀ k ∈ S, k ∈ T) : Far T w w1 := ⟨h.os, h.tape, h.output, h.size, fun i hi hS => h.block i hi fun hm => hS (hs i hm)⟩
theorem Far.below {S : List Nat} {w w1 w2 : World} (h : Far S w w1) (k : Below w1.heap.size w1 w2) : Far S w w2 := h.trans ⟨k.os, k.tape, k.output, k.size, fun i hi _ => k.block i hi⟩
theorem Far.of_below {w w1 : World} (k : Below w.heap.size w w1) : Far [] w w1 := (Far.refl [] w).below k
theorem Far.to_below {w w1 : World} (k : Far [] w w1) : Below w.heap.size w w1 := ⟨k.os, k.tape, k.output, k.size, fun i hi => k.block i hi (by simp)⟩
theorem Far.alloc {S : List Nat} {w w1 : World} (h : Far S w w1) (o : Obj) : Far S w (w1.alloc o) := h.below ((Below.refl _ _).alloc (Nat.le_refl _) _)
theorem Far.drew {S : List Nat} {w w1 : World} (h : Far S w w1) : Far S w w1.drew := h.below (Below.refl _ _).drew
theorem Far.drewN {S : List Nat} {w w1 : World} (h : Far S w w1) (q : Nat) : Far S w (w1.drewN q) := h.below ⟨rfl, rfl, rfl, Nat.le_refl _, fun _ _ => rfl⟩
theorem Far.setCell {S : List Nat} {w w1 : World} (h : Far S w w1) {b : Nat} (hb : w.heap.size ≤ b ∨ b ∈ S) (o : Nat) (v : Value) : Far S w (w1.setCell ⟨b, o, none⟩ v) :=
  ⟨h.os, h.tape, h.output, by rw [World.size_setCell]; exact h.size, fun i hi hS => (Below.heap_setCell _ _ _ _ (fun e => by
    rcases hb with hb | hb
    · have e' : i = b := e
      omega
    · have e' : i = b := e
      exact hS (by rw [e']; exact hb))).trans (h.block i hi hS)⟩
theorem Far.grown {S : List Nat} {w w1 w2 : World} (h : Far S w w1) {row : Option Nat} (k : w1.grownBy w2 row) (hr : ∀ j, row = some j → w.heap.size ≤ j ∨ j ∈ S) : Far S w w2 :=
  ⟨k.os.trans h.os, k.tape.trans h.tape, k.output.trans h.output, Nat.le_trans h.size k.size, fun i hi hS => (k.block i (Nat.lt_of_lt_of_le hi h.size) (fun e => by
    rcases hr i e.symm with h1 | h1
    · omega
    · exact hS h1)).trans (h.block i hi hS)⟩
theorem Far.call {S : List Nat} {B : Nat} {w w1 w2 : World} (h : Below B w w1) (hB : B ≤ w1.heap.size) (k : Far S w1 w2) (hS : ∀ b ∈ S, B ≤ b) : Below B w w2 :=
  h.trans ⟨k.os, k.tape, k.output, k.size, fun i hi => k.block i (by omega) fun hm => by have := hS i hm; omega⟩
theorem Ob.far {S : List Nat} {w w1 : World} {b : Nat} {vs : List Value} (h : Ob w b vs) (k : Far S w w1) (hb : b ∉ S) : Ob w1 b vs := by
  have e := k.block b h.lt hb
  exact ⟨fun j v hv => (World.cell?_of_block (a := ⟨b, 0 + j, none⟩) e).trans (h.c j v hv), fun o => (World.frozen?_of_block (a := ⟨b, o, none⟩) e).trans (h.f o), Nat.lt_of_lt_of_le h.lt k.size⟩

/-! ### Packets in rising order -/
/-- A ledger. -/
structure Lg where
  room : Int
  first : Int
  next : Int
  oldest : Int
  last : Int
  L : List Pt
structure Lg.ok (s : Lg) : Prop where
  r0 : 1 ≤ s.room
  r1 : s.room ≤ 4096
  len : (s.L.length : Int) ≤ s.room
  f0 : 0 ≤ s.first
  fo : s.first ≤ s.oldest
  on : s.oldest ≤ s.next
  n1 : s.next ≤ 18446744073709551615
  up : s.L.Pairwise (fun p q => p.seq < q.seq)
  inn : ∀ p ∈ s.L, s.oldest ≤ p.seq ∧ p.seq < s.next
  tm : s.L.Pairwise (fun p q => p.sent ≤ q.sent)
  tb : ∀ p ∈ s.L, 0 ≤ p.sent ∧ p.sent ≤ s.last
  l0 : 0 ≤ s.last
  l1 : s.last ≤ 1099511627776
  sz : ∀ p ∈ s.L, 1 ≤ p.size
/-- Why a packet is refused. -/
def refv (s : Lg) (mi size at' : Int) : Int :=
  if mi < 0 then 1 else if size < 1 ∨ 9000 < size then 9 else if at' < s.last ∨ 1099511627776 < at' then 10 else if (s.L.length : Int) = s.room then 2 else if s.next = 18446744073709551615 then 15 else 0
def sentL (s : Lg) (mi size at' : Int) : Lg := if refv s mi size at' = 0 then { s with next := s.next + 1, last := at', L := s.L ++ [⟨s.next, mi, size, at'⟩] } else s
def seqv (s : Lg) (mi size at' : Int) : Int := if refv s mi size at' = 0 then s.next else 0
def isq (x : Int) (p : Pt) : Bool := decide (p.seq = x)
def without (L : List Pt) (x : Int) : List Pt := L.filter fun p => !isq x p
def tkv (s : Lg) (x : Int) : Int := if x < s.first ∨ s.next ≤ x then 3 else if s.L.any (isq x) then 0 else 4
def tkp (s : Lg) (x : Int) : Pt := if tkv s x = 0 then (s.L.find? (isq x)).getD ⟨0, 0, 0, 0⟩ else ⟨0, 0, 0, 0⟩
def takenL (s : Lg) (x : Int) : Lg := if tkv s x = 0 then { s with L := without s.L x } else s
def isover (at' to : Int) (p : Pt) : Bool := decide (p.sent ≤ at' - to)
theorem refv_0 {s : Lg} {mi size at' : Int} (h : refv s mi size at' = 0) : 0 ≤ mi ∧ 1 ≤ size ∧ size ≤ 9000 ∧ s.last ≤ at' ∧ at' ≤ 1099511627776 ∧ (s.L.length : Int) ≠ s.room ∧ s.next ≠ 18446744073709551615 := by
  unfold refv at h
  repeat' split at h
  all_goals first | omega | (refine ⟨by omega, by omega, by omega, by omega, by omega, by omega, by omega⟩)
theorem sent_ok {s : Lg} (h : s.ok) (mi size at' : Int) : (sentL s mi size at').ok := by
  unfold sentL
  split
  · rename_i h0
    obtain ⟨a, b, c, d, e, f, g⟩ := refv_0 h0
    have len := h.len; have on := h.on; have n1 := h.n1; have l0 := h.l0
    refine ⟨h.r0, h.r1, by simp; omega, h.f0, h.fo, by show s.oldest ≤ s.next + 1; omega, by show s.next + 1 ≤ _; omega, ?_, ?_, ?_, ?_, by show 0 ≤ at'; omega, e, ?_⟩
    · refine List.pairwise_append.2 ⟨h.up, by simp, fun p hp q hq => ?_⟩
      rw [List.mem_singleton] at hq; subst hq; exact (h.inn p hp).2
    · intro p hp
      rcases List.mem_append.1 hp with hp | hp
      · have := h.inn p hp; exact ⟨this.1, by show p.seq < s.next + 1; omega⟩
      · rw [List.mem_singleton] at hp; subst hp; exact ⟨on, by show s.next < s.next + 1; omega⟩
    · refine List.pairwise_append.2 ⟨h.tm, by simp, fun p hp q hq => ?_⟩
      rw [List.mem_singleton] at hq; subst hq
      have := h.tb p hp; show p.sent ≤ at'; omega
    · intro p hp
      rcases List.mem_append.1 hp with hp | hp
      · have := h.tb p hp; exact ⟨this.1, by show p.sent ≤ at'; omega⟩
      · rw [List.mem_singleton] at hp; subst hp; exact ⟨by show 0 ≤ at'; omega, Int.le_refl _⟩
    · intro p hp
      rcases List.mem_append.1 hp with hp | hp
      · exact h.sz p hp
      · rw [List.mem_singleton] at hp; subst hp; exact b
  · exact h
theorem filter_ok {s : Lg} (h : s.ok) (f : Pt → Bool) : ({ s with L := s.L.filter f } : Lg).ok := by
  have := List.length_filter_le f s.L
  have len := h.len
  exact ⟨h.r0, h.r1, by show ((s.L.filter f).length : Int) ≤ s.room; omega, h.f0, h.fo, h.on, h.n1, h.up.filter f, fun p hp => h.inn p (List.mem_filter.1 hp).1, h.tm.filter f, fun p hp => h.tb p (List.mem_filter.1 hp).1, h.l0, h.l1, fun p hp => h.sz p (List.mem_filter.1 hp).1⟩
theorem taken_ok {s : Lg} (h : s.ok) (x : Int) : (takenL s x).ok := by
  unfold takenL without
  split
  · exact filter_ok h _
  · exact h

/-! ### The map of packets -/
/-- Block mb is a map of just these packets, by their numbers. -/
def MapOf (w : World) (mb : Nat) (L : List Pt) : Prop := ∃ D : DataW Pt, w.ownsMap Try.prog 22 pR mb L.length D ∧ (∀ x, has D (.int .u64 x) = L.any (isq x)) ∧ (∀ p ∈ L, ∀ z, D.atKey (.int .u64 p.seq) z = .held p) ∧ Maps.size D = L.length
theorem MapOf.lt {w : World} {mb : Nat} {L : List Pt} (h : MapOf w mb L) : mb < w.heap.size := by obtain ⟨D, hD, _⟩ := h; exact hD.lt
theorem ownsMap_of_block {w w1 : World} {b n : Nat} {D : DataW Pt} (h : w.ownsMap Try.prog 22 pR b n D) (e : w1.heap[b]? = w.heap[b]?) : w1.ownsMap Try.prog 22 pR b n D := by
  obtain ⟨es, clock, hb, r⟩ := h
  exact ⟨es, clock, e.trans hb, r⟩
theorem MapOf.far {S : List Nat} {w w1 : World} {mb : Nat} {L : List Pt} (h : MapOf w mb L) (k : Far S w w1) (hb : mb ∉ S) : MapOf w1 mb L := by
  have hl := h.lt
  obtain ⟨D, hD, r⟩ := h
  exact ⟨D, ownsMap_of_block hD (k.block mb hl hb), r⟩
theorem MapOf.new (w : World) : MapOf (w.alloc (.map #[] 0)) w.heap.size [] :=
  ⟨.map [], World.ownsMap_made w _ _ _, fun x => rfl, fun p hp => (List.not_mem_nil hp).elim, rfl⟩
theorem owns_tight {w : World} {b n : Nat} {D : DataW Pt} (h : w.ownsMap Try.prog 22 pR b n D) : w.ownsMap Try.prog 22 pR b (Maps.size D) D := by
  obtain ⟨es, clock, hb, F, hs, rfl⟩ := h
  refine ⟨es, clock, hb, F, ?_, rfl⟩
  simp [Maps.size, length_sorted]
theorem key_is (x : Int) : WideAt.IsKeyLit (.int .u64 x) := by trivial
theorem any_seq {L : List Pt} {x : Int} (h : L.any (isq x) = false) : ∀ p ∈ L, p.seq ≠ x := fun p hp e => by
  have : L.any (isq x) = true := List.any_eq_true.2 ⟨p, hp, by simp [isq, e]⟩
  rw [h] at this; cases this
/-- One more packet. -/
theorem MapOf.put {w w1 : World} {mb : Nat} {L : List Pt} {D : DataW Pt} {n : Nat} (p : Pt) (hh : ∀ x, has D (.int .u64 x) = L.any (isq x)) (ha : ∀ p ∈ L, ∀ z, D.atKey (.int .u64 p.seq) z = .held p) (hz : Maps.size D = L.length) (hT : Tidy D) (hn : L.any (isq p.seq) = false)
    (h : w1.ownsMap Try.prog 22 pR mb n (D.put (.int .u64 p.seq) (.held p))) : MapOf w1 mb (L ++ [p]) := by
  have hsz : Maps.size (D.put (.int .u64 p.seq) (.held p)) = L.length + 1 := by rw [size_put hT, hh, hn]; simp [hz]
  refine ⟨_, ?_, fun x => ?_, fun q hq z => ?_, by rw [hsz]; simp⟩
  · have := owns_tight h
    rw [hsz] at this
    simpa using this
  · by_cases e : x = p.seq
    · subst e
      rw [has_put_same hT.isMap (key_is _)]
      simp [isq]
    · rw [has_put_other (by simpa using e), hh]
      have : isq x p = false := by simp [isq]; exact fun h => e h.symm
      simp [this]
  · rcases List.mem_append.1 hq with hq | hq
    · rw [atKey_put_other (by simpa using any_seq hn q hq)]
      exact ha q hq z
    · rw [List.mem_singleton] at hq; subst hq
      exact atKey_put_same hT.isMap (key_is _) _ _
/-- One packet less. -/
theorem MapOf.del {w w1 : World} {mb : Nat} {L : List Pt} {D : DataW Pt} {n : Nat} (x : Int) (hu : L.Pairwise (fun p q => p.seq < q.seq)) (hh : ∀ x, has D (.int .u64 x) = L.any (isq x)) (ha : ∀ p ∈ L, ∀ z, D.atKey (.int .u64 p.seq) z = .held p) (hz : Maps.size D = L.length) (hT : Tidy D) (hx : L.any (isq x) = true)
    (h : w1.ownsMap Try.prog 22 pR mb n (D.del (.int .u64 x))) : MapOf w1 mb (without L x) := by
  have hlen : (without L x).length + 1 = L.length := by
    clear ha hz hh h hT
    induction L with
    | nil => simp at hx
    | cons p L ih =>
      by_cases hp : isq x p = true
      · have hno : L.filter (fun p => !isq x p) = L := List.filter_eq_self.2 fun q hq => by
          have := (List.pairwise_cons.1 hu).1 q hq
          have e : p.seq = x := by simpa [isq] using hp
          simp [isq]; omega
        unfold without
        rw [List.filter_cons, hp]
        simp [hno]
      · have hp' : isq x p = false := by simpa using hp
        have hx' : L.any (isq x) = true := by simpa [hp'] using hx
        have := ih (List.pairwise_cons.1 hu).2 hx'
        unfold without at this ⊢
        rw [List.filter_cons, hp']
        simp only [Bool.not_false, if_true, List.length_cons]
        omega
  have hsz : Maps.size (D.del (.int .u64 x)) = (without L x).length := by
    have := size_del (k := .int .u64 x) hT
    rw [hh, hx] at this
    simp at this
    omega
  refine ⟨_, ?_, fun y => ?_, fun q hq z => ?_, hsz⟩
  · have := owns_tight h
    rwa [hsz] at this
  · by_cases e : y = x
    · subst e
      rw [has_del_same]
      symm
      rw [Bool.eq_false_iff]
      intro h1
      obtain ⟨q, hq, hqx⟩ := List.any_eq_true.1 h1
      have := (List.mem_filter.1 hq).2
      rw [hqx] at this; cases this
    · rw [has_del_other (by simpa using e), hh]
      unfold without
      rw [Bool.eq_iff_iff, List.any_eq_true, List.any_eq_true]
      constructor
      · rintro ⟨q, hq, hy⟩
        refine ⟨q, List.mem_filter.2 ⟨hq, ?_⟩, hy⟩
        simp [isq] at hy ⊢; omega
      · rintro ⟨q, hq, hy⟩
        exact ⟨q, (List.mem_filter.1 hq).1, hy⟩
  · have hq' := List.mem_filter.1 hq
    have e : q.seq ≠ x := by have := hq'.2; simpa [isq] using this
    rw [atKey_del_other (by simpa using e)]
    exact ha q hq'.1 z

/-! ### A ledger in memory -/
def lcells (s : Lg) (mb : Nat) : List Value := [.int .i64 s.room, .map (some mb), .int .u64 s.first, .int .u64 s.next, .int .u64 s.oldest, .int .i64 s.last]
structure Led (w : World) (lb mb : Nat) (s : Lg) : Prop where
  ob : Ob w lb (lcells s mb)
  map : MapOf w mb s.L
  ne : lb ≠ mb
theorem Led.far {S : List Nat} {w w1 : World} {lb mb : Nat} {s : Lg} (h : Led w lb mb s) (k : Far S w w1) (h1 : lb ∉ S) (h2 : mb ∉ S) : Led w1 lb mb s := ⟨h.ob.far k h1, h.map.far k h2, h.ne⟩
theorem Led.below {w w1 : World} {lb mb : Nat} {s : Lg} (h : Led w lb mb s) (k : Below w.heap.size w w1) : Led w1 lb mb s := h.far (Far.of_below k) (by simp) (by simp)
end Go.Proofs.Ytpaalpnoppblaaa
