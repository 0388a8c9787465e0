/-
  The tally's ended: a packet that is acked, its interval's account turned. No conditions but the tally's own.
  The tally's ended: a packet that is lost, its interval's account turned. No conditions but the tally's own.
  The tally's sent: a packet noted in its three rows, its interval's account turned. No conditions but the tally's own.
  The tally's began: an interval's account closed, the next one opened and appended. No conditions but the tally's own.
  The tally's took. No conditions but the tally's own.
  Books and the tally beside them. No program's function in this text. No conditions.
  Two rows of accounts that are the same, wherever they lie. No conditions.
  The tally in memory, its three rows of numbers told apart; each of them grown by one. No program's function in this text. No conditions.
  A number appended to a row, as a statement of the program does it: built as a row of one, and appended. No program's function in this text. No conditions.
  The tally of BooksSums in memory. No program's function in this text. No conditions.
  Rows of numbers in memory: read, appended to. No program's function in this text. No conditions.
  What was sent, as plain values: each interval's account, how many were taken, each packet; that books tell just that. No program in this text but its answers. No conditions.
-/
import Derived.Test.YtpaalpnoppblaaaZ2
import Derived.Test.YtpaalpnoppblaaaZ6
import Derived.Test.YtpaalpnoppblaaaZ4
import Derived.Test.YtpaalpnoppblaaaU2L
import Derived.Deep.QuietTactic
import Derived.Test.YtpaalpnoppblaaaZ10
import Derived.Test.YtpaalpnoppblaaaV21
import Derived.Test.YtpaalpnoppblaaaU10
import Derived.Deep.RegionWith
import Derived.Test.YtpaalpnoppblaaaU8
import Derived.Test.YtpaalpnoppblaaaU9
import Derived.Deep.RegionHeld3
import Derived.Test.YtpaalpnoppblaaaU11
/-! Z21 -/
namespace Go.Proofs.Ytpaalpnoppblaaa
set_option linter.unusedVariables false
/-- What was sent. -/
structure Ty where
  all : List Mi
  taken : Nat
  P : List Pt
def Ty.acc (t : Ty) (i : Nat) : Mi := (t.all[i]?).getD zeroM
def Ty.turn (t : Ty) (i : Nat) (f : Mi → Mi) : Ty := { t with all := t.all.set i (f (t.acc i)) }
def bgT (t : Ty) (a : Int) : Ty := { t with all := (t.turn (t.all.length - 1) (fun m => closeV m a)).all ++ [openV t.all.length a] }
def sdT (first : Int) (t : Ty) (z a : Int) : Ty := { t.turn (t.all.length - 1) (fun m => sendV m z) with P := t.P ++ [⟨first + t.P.length, t.all.length - 1, z, a⟩] }
def enT (k : Bool) (t : Ty) (p : Pt) (a : Int) : Ty := t.turn p.mi.toNat (fun m => howV k m p a)
/-- Books tell what was sent. -/
structure Sums (first : Int) (s : Bk) (t : Ty) : Prop where
  tk : t.taken ≤ t.all.length
  al : (t.all.length : Int) = s.begun
  dr : t.all.drop t.taken = s.L
  nx : s.l.next = first + t.P.length
  pk : ∀ p ∈ s.l.L, first ≤ p.seq ∧ t.P[(p.seq - first).toNat]? = some p
theorem turn_len (t : Ty) (i : Nat) (f : Mi → Mi) : (t.turn i f).all.length = t.all.length := by simp [Ty.turn]
theorem acc_at (t : Ty) {i : Nat} (h : i < t.all.length) : t.acc i = t.all[i] := by simp [Ty.acc, h]
theorem Sums.len {first : Int} {s : Bk} {t : Ty} (h : Sums first s t) : s.L.length = t.all.length - t.taken := by rw [← h.dr, List.length_drop]
/-- One interval's account turned. -/
theorem Sums.turned {first : Int} {s : Bk} {t : Ty} (h : Sums first s t) (hf : Fit s) {i : Nat} (h1 : t.taken ≤ i) (h2 : i < t.all.length) (f : Mi → Mi) : (t.turn i f).all.drop t.taken = chg s.L i f := by
  have hl := h.len; have ha := h.al
  have hj : i - t.taken < s.L.length := by omega
  have e : s.L[i - t.taken] = t.all[i] := by
    have : (t.all.drop t.taken)[i - t.taken]? = t.all[i]? := by rw [List.getElem?_drop, show t.taken + (i - t.taken) = i by omega]
    rw [h.dr, List.getElem?_eq_getElem hj, List.getElem?_eq_getElem h2] at this
    exact Option.some.inj this
  have hd : (t.turn i f).all.drop t.taken = (t.all.drop t.taken).set (i - t.taken) (f t.all[i]) := by
    show (t.all.set i (f (t.acc i))).drop t.taken = _
    rw [acc_at t h2, List.drop_set, if_neg (by omega)]
  rw [hd, h.dr, ← e]
  refine chg_set hj (fun k hk => ?_) f
  rw [hf.ids]
  omega
theorem Sums.run {first : Int} {s : Bk} {t : Ty} (h : Sums first s t) (hf : Fit s) (hn : t.all.length ≠ 0) : t.taken < t.all.length := by
  have := h.len; have := hf.ne (by have := h.al; omega); omega
/-- An interval's account turned, packets only gone. -/
theorem Sums.turn {first : Int} {s : Bk} {t : Ty} (h : Sums first s t) (hf : Fit s) {i : Nat} (h1 : t.taken ≤ i) (h2 : i < t.all.length) (f : Mi → Mi) {l : Lg} (hn : l.next = s.l.next) (hp : ∀ p ∈ l.L, p ∈ s.l.L) (a : Int) :
    Sums first { s with l := l, now := a, L := chg s.L i f } (t.turn i f) :=
  ⟨by rw [turn_len]; exact h.tk, by rw [turn_len]; exact h.al, h.turned hf h1 h2 f, by rw [show (t.turn i f).P = t.P from rfl]; exact hn.trans h.nx, fun p hm => h.pk p (hp p hm)⟩
theorem Sums.began {first : Int} {s : Bk} {t : Ty} (h : Sums first s t) (hf : Fit s) {a : Int} (he : bgE s a = 0) : Sums first (bgL s a) (bgT t a) := by
  have ha := h.al
  have e0 : bgL s a = { s with now := a, begun := s.begun + 1, L := chg s.L (s.begun - 1) (fun m => closeV m a) ++ [openV s.begun a] } := by unfold bgL; rw [if_pos he]
  rw [e0]
  have e1 : (t.turn (t.all.length - 1) (fun m => closeV m a)).all.drop t.taken = chg s.L (s.begun - 1) (fun m => closeV m a) := by
    by_cases hn : t.all.length = 0
    · have hL : s.L = [] := List.eq_nil_of_length_eq_zero (by have := h.len; omega)
      have hA : t.all = [] := List.eq_nil_of_length_eq_zero hn
      rw [hL]; simp [Ty.turn, hA, chg]
    · have := h.turned hf (i := t.all.length - 1) (by have := h.run hf hn; omega) (by omega) (fun m => closeV m a)
      rw [this, show ((t.all.length - 1 : Nat) : Int) = s.begun - 1 by omega]
  have htk := h.tk
  refine ⟨?_, ?_, ?_, h.nx, h.pk⟩
  · show t.taken ≤ ((t.turn _ _).all ++ _).length
    rw [List.length_append, turn_len]; omega
  · show ((((t.turn _ _).all ++ _).length : Nat) : Int) = s.begun + 1
    rw [List.length_append, turn_len]; simp; omega
  · show ((t.turn _ _).all ++ _).drop t.taken = _
    rw [List.drop_append_of_le_length (by rw [turn_len]; exact htk), e1, ha]
theorem Sums.sent {first : Int} {s : Bk} {t : Ty} (h : Sums first s t) (hf : Fit s) {z a : Int} (he : sdE s z a = 0) : Sums first (sdL s z a) (sdT first t z a) ∧ t.all.length ≠ 0 ∧ t.taken ≤ t.all.length - 1 := by
  obtain ⟨_, hL, _, hr⟩ := sd_not he
  have ha := h.al; have hnx := h.nx
  have hn : t.all.length ≠ 0 := fun e => hL (List.eq_nil_of_length_eq_zero (by have := h.len; omega))
  have hrun := h.run hf hn
  have e0 : sdL s z a = { s with l := sentL s.l (s.begun - 1) z a, now := a, L := chg s.L (s.begun - 1) (fun m => sendV m z) } := by unfold sdL; rw [if_pos he]
  have e1 : sentL s.l (s.begun - 1) z a = { s.l with next := s.l.next + 1, last := a, L := s.l.L ++ [⟨s.l.next, s.begun - 1, z, a⟩] } := by unfold sentL; rw [if_pos hr]
  have ht := h.turned hf (i := t.all.length - 1) (by omega) (by omega) (fun m => sendV m z)
  rw [show ((t.all.length - 1 : Nat) : Int) = s.begun - 1 by omega] at ht
  refine ⟨?_, hn, by omega⟩
  rw [e0, e1]
  refine ⟨?_, ?_, ht, ?_, ?_⟩
  · show t.taken ≤ (t.turn (t.all.length - 1) (fun m => sendV m z)).all.length
    rw [turn_len]; exact h.tk
  · show (((t.turn (t.all.length - 1) (fun m => sendV m z)).all.length : Nat) : Int) = s.begun
    rw [turn_len]; exact ha
  · show s.l.next + 1 = first + ((t.P ++ _).length : Nat)
    rw [List.length_append]; simp; omega
  · intro p hp
    show first ≤ p.seq ∧ (t.P ++ [⟨first + t.P.length, (t.all.length : Int) - 1, z, a⟩])[(p.seq - first).toNat]? = some p
    rcases List.mem_append.1 hp with hp | hp
    · obtain ⟨p1, p2⟩ := h.pk p hp
      exact ⟨p1, by rw [List.getElem?_append_left (List.getElem?_eq_some_iff.1 p2).1]; exact p2⟩
    · simp only [List.mem_singleton] at hp
      subst hp
      refine ⟨by show first ≤ s.l.next; omega, ?_⟩
      have e2 : (s.l.next - first).toNat = t.P.length := by omega
      show (t.P ++ _)[(s.l.next - first).toNat]? = _
      rw [e2, List.getElem?_append_right (Nat.le_refl _), Nat.sub_self, ha, ← hnx]
      rfl
/-- A packet on its way: where it was noted. -/
theorem Sums.noted {first : Int} {s : Bk} {t : Ty} (h : Sums first s t) (hf : Fit s) {p : Pt} (hp : p ∈ s.l.L) : ∃ j : Nat, p.seq = first + j ∧ j < t.P.length ∧ t.P[j]? = some p ∧ 0 ≤ p.mi ∧ t.taken ≤ p.mi.toNat ∧ p.mi.toNat < t.all.length := by
  obtain ⟨p1, p2⟩ := h.pk p hp
  have := hf.pk p hp; have := h.len; have := h.al; have := h.tk; have := hf.b0
  exact ⟨(p.seq - first).toNat, by omega, (List.getElem?_eq_some_iff.1 p2).1, p2, by omega, by omega, by omega⟩
theorem Sums.ended {first : Int} {s : Bk} {t : Ty} (h : Sums first s t) (hf : Fit s) (k : Bool) {x a : Int} (he : stE s x a = 0) : Sums first (stL k s x a) (enT k t (tkp s.l x) a) := by
  obtain ⟨_, ht⟩ := st_not he
  obtain ⟨hm, hx, hperm, hl⟩ := tk_is hf.ok ht
  obtain ⟨j, _, _, _, q0, q1, q2⟩ := h.noted hf hm
  have e0 : stL k s x a = { s with l := takenL s.l x, now := a, L := chg s.L (tkp s.l x).mi (fun m => howV k m (tkp s.l x) a) } := by unfold stL; rw [if_pos he]
  rw [e0]
  have := h.turn hf q1 q2 (fun m => howV k m (tkp s.l x) a) (l := takenL s.l x) (by rw [hl]) (fun p hp => by rw [hl] at hp; exact hperm.mem_iff.2 (by simp [show p ∈ without s.l.L x from hp])) a
  rw [Int.toNat_of_nonneg q0] at this
  exact this
/-- The first packet on its way lost, as time goes over it. -/
def loseL (s : Bk) (p : Pt) (R : List Pt) (a : Int) : Bk := { s with l := { s.l with L := R }, now := a, L := chg s.L p.mi (fun m => howV false m p a) }
theorem lose_fit {s : Bk} (h : Fit s) {p : Pt} {R : List Pt} {a : Int} (a0 : s.now ≤ a) (a1 : a ≤ 1099511627776) (e : s.l.L = p :: R) : Fit (loseL s p R a) := by
  have hok := h.ok
  have hsub : R.Sublist s.l.L := by rw [e]; exact List.sublist_cons_self _ _
  have hll := hsub.length_le
  have l1 : ({ s.l with L := R } : Lg).ok := ⟨hok.r0, hok.r1, by have := hok.len; show (R.length : Int) ≤ s.l.room; omega, hok.f0, hok.fo, hok.on, hok.n1, hok.up.sublist hsub, fun q hq => hok.inn q (hsub.subset hq), hok.tm.sublist hsub, fun q hq => hok.tb q (hsub.subset hq), hok.l0, hok.l1, fun q hq => hok.sz q (hsub.subset hq)⟩
  have hnl := h.nl
  have := lost_turn (s := s) a0 a1 [p] h l1 (by show s.l.last ≤ a; omega) (R := R) (by rw [e]; rfl) rfl
  exact this
theorem Sums.lost {first : Int} {s : Bk} {t : Ty} (h : Sums first s t) (hf : Fit s) {p : Pt} {R : List Pt} (e : s.l.L = p :: R) (a b : Int) : Sums first (loseL s p R a) (enT false t p b) := by
  obtain ⟨j, _, _, _, q0, q1, q2⟩ := h.noted hf (p := p) (by rw [e]; simp)
  have := h.turn hf q1 q2 (fun m => howV false m p b) (l := { s.l with L := R }) rfl (fun p hp => by rw [e]; simp [show p ∈ R from hp]) a
  rw [Int.toNat_of_nonneg q0] at this
  exact this
/-- Other numbers of a ledger's, and time, say nothing here. -/
theorem Sums.same {first : Int} {s u : Bk} {t : Ty} (h : Sums first s t) (e1 : u.begun = s.begun) (e2 : u.L = s.L) (e3 : u.l.next = s.l.next) (e4 : u.l.L = s.l.L) : Sums first u t :=
  ⟨h.tk, by rw [e1]; exact h.al, by rw [e2]; exact h.dr, by rw [e3]; exact h.nx, by rw [e4]; exact h.pk⟩
theorem Sums.took {first : Int} {s : Bk} {t : Ty} (h : Sums first s t) (hb : tkB s = true) : t.taken < t.all.length ∧ tkM s = t.acc t.taken ∧ Sums first (tkL s) { t with taken := t.taken + 1 } := by
  obtain ⟨m, L, e⟩ : ∃ m L, s.L = m :: L := by
    cases hL : s.L with
    | nil => rw [tkB, hL] at hb; cases hb
    | cons m L => exact ⟨m, L, rfl⟩
  have hlen := h.len
  rw [e] at hlen
  simp only [List.length_cons] at hlen
  have hlt : t.taken < t.all.length := by omega
  have hd := h.dr
  rw [List.drop_eq_getElem_cons hlt, e] at hd
  obtain ⟨d1, d2⟩ := List.cons.inj hd
  refine ⟨hlt, by rw [tkM, if_pos hb, e, acc_at t hlt, d1]; rfl, ?_⟩
  have e0 : tkL s = { s with L := L } := by rw [tkL, if_pos hb, e]; rfl
  rw [e0]
  exact ⟨hlt, h.al, d2, h.nx, h.pk⟩
theorem sums_new (first : Int) (room timeout : Int) : Sums first ⟨⟨room, first, first, first, 0, []⟩, 0, timeout, 0, []⟩ ⟨[], 0, []⟩ :=
  ⟨Nat.le_refl _, rfl, rfl, by simp, fun p hp => by cases hp⟩
end Go.Proofs.Ytpaalpnoppblaaa

/-! Z22 -/
namespace Go.Proofs.Ytpaalpnoppblaaa
open Go.RowKit Go.Maps
set_option linter.unusedVariables false
set_option maxRecDepth 8000
/-- Numbers as cells. -/
def ncs (L : List Int) : List Value := L.map fun x => .int .i64 x
theorem ncs_length (L : List Int) : (ncs L).length = L.length := by simp [ncs]
/-- A row of numbers that begins its block. -/
structure Nts (w : World) (ao : Option Addr) (g c : Nat) (L : List Int) : Prop where
  cap : L.length ≤ c
  max : c ≤ maxLen
  addr : 0 < c → ao = some ⟨g, 0, none⟩
  lt : 0 < c → g < w.heap.size
  els : ∀ i v, (ncs L)[i]? = some v → w.cell? ⟨g, i, none⟩ = some v
  there : w.there g 0 c
theorem Nts.nil (w : World) (g : Nat) : Nts w none g 0 [] :=
  ⟨Nat.le_refl _, by unfold maxLen; omega, fun h => absurd h (by omega), fun h => absurd h (by omega), fun i v h => by simp [ncs] at h, fun j hj => absurd hj (by omega)⟩
theorem Nts.far {S : List Nat} {w w1 : World} {ao : Option Addr} {g c : Nat} {L : List Int} (h : Nts w ao g c L) (F : Far S w w1) (hg : 0 < c → g ∉ S) : Nts w1 ao g c L := by
  refine ⟨h.cap, h.max, h.addr, fun hc => Nat.lt_of_lt_of_le (h.lt hc) F.size, fun i v hv => ?_, fun j hj => ?_⟩
  · have hc : 0 < c := by have := (List.getElem?_eq_some_iff.1 hv).1; rw [ncs_length] at this; have := h.cap; omega
    exact (World.cell?_of_block (a := ⟨g, i, none⟩) (F.block g (h.lt hc) (hg hc))).trans (h.els i v hv)
  · have hc : 0 < c := by omega
    have e := F.block g (h.lt hc) (hg hc)
    rw [World.cell?_of_block (a := ⟨g, 0 + j, none⟩) e, World.frozen?_of_block (a := ⟨g, 0 + j, none⟩) e]
    exact h.there j hj
theorem Nts.below {w w1 : World} {ao : Option Addr} {g c : Nat} {L : List Int} (h : Nts w ao g c L) (k : Below w.heap.size w w1) : Nts w1 ao g c L := h.far (Far.of_below k) (fun _ => by simp)
theorem Nts.at' {w : World} {ao : Option Addr} {g c : Nat} {L : List Int} (h : Nts w ao g c L) {i : Nat} {x : Int} (hi : L[i]? = some x) : ao = some ⟨g, 0, none⟩ ∧ w.cell? ⟨g, i, none⟩ = some (.int .i64 x) ∧ g < w.heap.size := by
  have := (List.getElem?_eq_some_iff.1 hi).1
  have := h.cap
  exact ⟨h.addr (by omega), h.els i _ (by simp [ncs, hi]), h.lt (by omega)⟩
theorem infoN : (Try.prog.info? 3).map (fun i => (i.zero, i.size, i.bytes)) = some (some (.int .i64 0), 1, 8) := by kernel_rfl
/-- A row that was just made. -/
theorem Nts.fresh (w : World) (L : List Int) (c : Nat) (hc : L.length ≤ c) (hm : c ≤ maxLen) (Z : Array Value) (hz : Z.size = c - L.length) (t : TypeId) :
    Nts (w.alloc (.cells ((ncs L).toArray ++ Z) t)) (some ⟨w.heap.size, 0, none⟩) w.heap.size c L := by
  have hcell : ∀ j, (w.alloc (.cells ((ncs L).toArray ++ Z) t)).cell? ⟨w.heap.size, j, none⟩ = ((ncs L).toArray ++ Z)[j]? := fun j => World.cell?_alloc_new w _ _ j
  refine ⟨hc, hm, fun _ => rfl, fun _ => by simp, fun i v hv => ?_, fun j hj => ⟨?_, by rw [Nat.zero_add]; exact World.frozen?_alloc_new w _ _ j⟩⟩
  · have := (List.getElem?_eq_some_iff.1 hv).1
    rw [hcell, Array.getElem?_append_left (by simpa using this), List.getElem?_toArray]
    exact hv
  · rw [hcell, Nat.zero_add, Array.getElem?_eq_getElem (by simp [ncs_length]; omega)]; rfl
/-- A number appended: built as a row of one, and appended. -/
theorem nt_append {w : World} {ao : Option Addr} {g c : Nat} {L : List Int} (ty : TypeId) (h : Nts w ao g c L) {x : Value} {y : Int} (hs : Src Try.prog 1 48 x 1 (ncs [y]) w) (hn : L.length + 1 ≤ 1000000) :
    ∃ ao' g' c' w', (Builtin.append_ #[48, 48] ty #[.slice ao L.length c, x]).run Try.prog w = .ok (.slice ao' (L.length + 1) c') w' ∧ Nts w' ao' g' c' (L ++ [y]) ∧ Far (if 0 < c then [g] else []) w w' ∧ ((0 < c' → g' = g ∧ 0 < c) ∨ g' = w.heap.size) := by
  obtain ⟨i0, hi, hz0, hz1, hz2⟩ := info_parts infoN
  have hcap := h.cap; have hmax := h.max
  have hmx : maxLen = 9223372036854775807 := rfl
  by_cases hroom : L.length + 1 ≤ c
  · have hc0 : 0 < c := by omega
    have hao := h.addr hc0
    subst hao
    have hth : ∀ j, j < (ncs [y]).length → (w.cell? ⟨g, 0 + L.length * 1 + j, none⟩).isSome = true ∧ w.frozen? ⟨g, 0 + L.length * 1 + j, none⟩ = false := fun j hj => by
      have := h.there (L.length * 1 + j) (by rw [ncs_length] at hj; simp at hj; omega)
      rw [← Nat.add_assoc] at this
      exact this
    have hrun := run_append_room_src (P := Try.prog) w 48 48 ty 3 i0 Try.underlying48 hi g 0 L.length c x 1 (ncs [y]) (by rw [hz1]; exact hs) hroom (by rw [hz1]; exact fun j hj => (hth j hj).1) (by rw [hz1]; exact fun j hj => (hth j hj).2)
    rw [hz1] at hrun
    refine ⟨_, g, c, _, hrun, ⟨by simp; omega, hmax, fun _ => rfl, fun _ => by rw [setCells_size]; exact h.lt hc0, fun i v hv => ?_, World.there_setCells h.there _ _ _⟩, by rw [if_pos hc0]; exact (Far.refl _ _).setCells (.inr (by simp)) _ _, .inl fun _ => ⟨rfl, hc0⟩⟩
    have e : ncs (L ++ [y]) = ncs L ++ ncs [y] := by simp [ncs]
    rw [e] at hv
    by_cases hlt : i < L.length
    · rw [List.getElem?_append_left (by rw [ncs_length]; exact hlt)] at hv
      have hR : w.rangeAt g 0 (ncs L) := fun j u hu => by rw [Nat.zero_add]; exact h.els j u hu
      have : (w.setCells g (0 + L.length * 1) (ncs [y])).rangeAt g 0 (ncs L) := World.rangeAt_setCells_apart hR _ _ _ (.inr (.inl (by rw [ncs_length]; omega)))
      have := this i v hv
      rwa [Nat.zero_add i] at this
    · rw [List.getElem?_append_right (by rw [ncs_length]; omega), ncs_length] at hv
      have hq := (List.getElem?_eq_some_iff.1 hv).1
      have := World.cell?_setCells_in g (ncs [y]) (0 + L.length * 1) w (fun j hj => (hth j hj).1) (i - L.length) hq
      rw [show 0 + L.length * 1 + (i - L.length) = i by omega] at this
      rw [this, ← List.getElem?_eq_getElem hq]
      exact hv
  · have hold : (Builtin.firstCells 1 L.length (.slice ao L.length c)).run Try.prog w.drew = .ok (ncs L).toArray w.drew := by
      rcases Nat.eq_zero_or_pos c with h0 | hc0
      · have hL : L = [] := List.eq_nil_of_length_eq_zero (by omega)
        subst h0; subst hL
        cases ao with
        | none => exact run_firstCells_none w.drew 1 0 0 0
        | some a' => exact run_firstCells_some w.drew 1 0 a' 0 0 [] (by simp) (by intro _ _ h'; simp at h')
      · rw [h.addr hc0]
        refine run_firstCells_some w.drew 1 L.length ⟨g, 0, none⟩ L.length c (ncs L) (by rw [ncs_length]; omega) (fun j u hu => ?_)
        rw [Addr.add_lit, Nat.zero_add]
        exact h.els j u hu
    have hrun := run_append_grow_src (P := Try.prog) w 48 48 ty 3 i0 (.int .i64 0) Try.underlying48 hi hz0 ao L.length c (ncs L) (by rw [hz1]; exact hold) x 1 (ncs [y]) (by rw [hz1]; exact hs) (by omega) (by omega) (growslice_fits (by omega) (by rw [hz2]; omega))
    have hge := grownCap_ge w (L.length + 1) c 3
    have hcm := grownCap_le_maxLen w (L.length + 1) c 3 (by omega)
    have hL2 : (ncs L ++ ncs [y]) = ncs (L ++ [y]) := by simp [ncs]
    rw [hL2] at hrun
    have F := Nts.fresh w.drew (L ++ [y]) (grownCap w (L.length + 1) c 3) (by simp; exact hge) hcm (Builtin.zeroCells (.int .i64 0 : Value).cells (grownCap w (L.length + 1) c 3 - (L.length + 1))) (by rw [size_zeroCells]; simp [Value.cells]) 3
    exact ⟨_, w.heap.size, _, _, hrun, F, ((Far.refl _ w).drew).alloc _, .inr rfl⟩
end Go.Proofs.Ytpaalpnoppblaaa

/-! Z23 -/
namespace Go.Proofs.Ytpaalpnoppblaaa
open Go.RowKit Go.Maps
set_option linter.unusedVariables false
set_option maxRecDepth 8000
def tcells (ao : Option Addr) (c : Nat) (aF : Option Addr) (cF : Nat) (aA : Option Addr) (cA : Nat) (aZ : Option Addr) (cZ : Nat) (t : Ty) : List Value :=
  [.slice ao t.all.length c, .int .i64 t.taken, .slice aF t.P.length cF, .slice aA t.P.length cA, .slice aZ t.P.length cZ]
/-- A tally in memory, with all its blocks in S. -/
structure Tys (w : World) (tb : Nat) (ao : Option Addr) (g o c : Nat) (aF : Option Addr) (gF cF : Nat) (aA : Option Addr) (gA cA : Nat) (aZ : Option Addr) (gZ cZ : Nat) (S : List Nat) (t : Ty) : Prop where
  ob : Ob w tb (tcells ao c aF cF aA cA aZ cZ t)
  row : Mis w ao g o t.all.length c t.all
  rF : Nts w aF gF cF (t.P.map Pt.mi)
  rA : Nts w aA gA cA (t.P.map Pt.sent)
  rZ : Nts w aZ gZ cZ (t.P.map Pt.size)
  ng : 0 < c → g ≠ tb ∧ g ∈ S
  nF : 0 < cF → gF ≠ tb ∧ gF ∈ S ∧ (0 < c → gF ≠ g)
  nA : 0 < cA → gA ≠ tb ∧ gA ∈ S ∧ (0 < c → gA ≠ g) ∧ (0 < cF → gA ≠ gF)
  nZ : 0 < cZ → gZ ≠ tb ∧ gZ ∈ S ∧ (0 < c → gZ ≠ g) ∧ (0 < cF → gZ ≠ gF) ∧ (0 < cA → gZ ≠ gA)
  m1 : tb ∈ S
  low : ∀ k ∈ S, k < w.heap.size
/-- A tally somewhere. -/
def Tya (w : World) (tb : Nat) (S : List Nat) (t : Ty) : Prop := ∃ ao g o c aF gF cF aA gA cA aZ gZ cZ, Tys w tb ao g o c aF gF cF aA gA cA aZ gZ cZ S t
section
variable {w w1 : World} {tb : Nat} {ao : Option Addr} {g o c : Nat} {aF : Option Addr} {gF cF : Nat} {aA : Option Addr} {gA cA : Nat} {aZ : Option Addr} {gZ cZ : Nat} {S : List Nat} {t : Ty}
theorem Tys.far {T : List Nat} (h : Tys w tb ao g o c aF gF cF aA gA cA aZ gZ cZ S t) (F : Far T w w1) (hT : ∀ k ∈ S, k ∉ T) : Tys w1 tb ao g o c aF gF cF aA gA cA aZ gZ cZ S t :=
  ⟨h.ob.far F (hT _ h.m1), h.row.far F (fun hc => hT _ (h.ng hc).2), h.rF.far F (fun hc => hT _ (h.nF hc).2.1), h.rA.far F (fun hc => hT _ (h.nA hc).2.1), h.rZ.far F (fun hc => hT _ (h.nZ hc).2.1), h.ng, h.nF, h.nA, h.nZ, h.m1, fun k hk => Nat.lt_of_lt_of_le (h.low k hk) F.size⟩
theorem Tys.below (h : Tys w tb ao g o c aF gF cF aA gA cA aZ gZ cZ S t) (k : Below w.heap.size w w1) : Tys w1 tb ao g o c aF gF cF aA gA cA aZ gZ cZ S t := h.far (Far.of_below k) (fun _ _ => by simp)
theorem Tya.far {T : List Nat} (h : Tya w tb S t) (F : Far T w w1) (hT : ∀ k ∈ S, k ∉ T) : Tya w1 tb S t := by
  obtain ⟨ao, g, o, c, aF, gF, cF, aA, gA, cA, aZ, gZ, cZ, h⟩ := h
  exact ⟨ao, g, o, c, aF, gF, cF, aA, gA, cA, aZ, gZ, cZ, h.far F hT⟩
theorem Tya.below (h : Tya w tb S t) (k : Below w.heap.size w w1) : Tya w1 tb S t := h.far (Far.of_below k) (fun _ _ => by simp)
theorem Tys.cells (h : Tys w tb ao g o c aF gF cF aA gA cA aZ gZ cZ S t) : w.cell? ⟨tb, 0, none⟩ = some (.slice ao t.all.length c) ∧ w.cell? ⟨tb, 1, none⟩ = some (.int .i64 t.taken) ∧ w.cell? ⟨tb, 2, none⟩ = some (.slice aF t.P.length cF) ∧
    w.cell? ⟨tb, 3, none⟩ = some (.slice aA t.P.length cA) ∧ w.cell? ⟨tb, 4, none⟩ = some (.slice aZ t.P.length cZ) ∧ (∀ o, w.frozen? ⟨tb, o, none⟩ = false) :=
  ⟨h.ob.cell rfl, h.ob.cell rfl, h.ob.cell rfl, h.ob.cell rfl, h.ob.cell rfl, h.ob.f⟩
/-- An account turned in its place. -/
theorem Tys.put (h : Tys w tb ao g o c aF gF cF aA gA cA aZ gZ cZ S t) {j : Nat} (hj : j < t.all.length) (m : Mi) : Tys (w.setCells g (o + j * 15) (listM m)) tb ao g o c aF gF cF aA gA cA aZ gZ cZ S { t with all := t.all.set j m } ∧ Far [g] w (w.setCells g (o + j * 15) (listM m)) := by
  have hc : 0 < c := by have := h.row.cap; omega
  have hg := h.ng hc
  have F : Far [g] w (w.setCells g (o + j * 15) (listM m)) := (Far.refl _ _).setCells (.inr (by simp)) _ _
  have e : tcells ao c aF cF aA cA aZ cZ { t with all := t.all.set j m } = tcells ao c aF cF aA cA aZ cZ t := by simp [tcells]
  refine ⟨⟨by rw [e]; exact h.ob.far F (by simp; exact fun e => hg.1 e.symm), by have := h.row.put hj m; simpa using this, h.rF.far F (fun hF => by simp; exact (h.nF hF).2.2 hc), h.rA.far F (fun hA => by simp; exact (h.nA hA).2.2.1 hc), h.rZ.far F (fun hZ => by simp; exact (h.nZ hZ).2.2.1 hc),
    h.ng, h.nF, h.nA, h.nZ, h.m1, fun k hk => by rw [setCells_size]; exact h.low k hk⟩, F⟩
/-- One more taken. -/
theorem Tys.bump (h : Tys w tb ao g o c aF gF cF aA gA cA aZ gZ cZ S t) (x : Nat) : Tys (w.setCell ⟨tb, 1, none⟩ (.int .i64 x)) tb ao g o c aF gF cF aA gA cA aZ gZ cZ S { t with taken := x } ∧ Far [tb] w (w.setCell ⟨tb, 1, none⟩ (.int .i64 x)) := by
  have F : Far [tb] w (w.setCell ⟨tb, 1, none⟩ (.int .i64 x)) := (Far.refl _ _).setCell (.inr (by simp)) _ _
  have T := Turn.cell h.ob (o := 1) (v := .int .i64 x) (us := tcells ao c aF cF aA cA aZ cZ { t with taken := x }) (by unfold tcells; repeat (first | exact SetAt.z | apply SetAt.s))
  exact ⟨⟨T.here, h.row.far F (fun hc => by simp; exact (h.ng hc).1), h.rF.far F (fun hc => by simp; exact (h.nF hc).1), h.rA.far F (fun hc => by simp; exact (h.nA hc).1), h.rZ.far F (fun hc => by simp; exact (h.nZ hc).1), h.ng, h.nF, h.nA, h.nZ, h.m1, fun k hk => by rw [World.size_setCell]; exact h.low k hk⟩, F⟩
/-- The accounts grown by one, and the slice stored. -/
theorem Tys.more (h : Tys w tb ao g o c aF gF cF aA gA cA aZ gZ cZ S t) {ao' : Option Addr} {g' o' c' : Nat} {m : Mi} (F : Far (if 0 < c then [g] else []) w w1) (hM : Mis w1 ao' g' o' (t.all.length + 1) c' (t.all ++ [m])) (hg : 0 < c' → (g' = g ∧ 0 < c) ∨ w.heap.size ≤ g') :
    Tys (w1.setCell ⟨tb, 0, none⟩ (.slice ao' (t.all.length + 1) c')) tb ao' g' o' c' aF gF cF aA gA cA aZ gZ cZ (g' :: S) { t with all := t.all ++ [m] } ∧ Goes S (g' :: S) w (w1.setCell ⟨tb, 0, none⟩ (.slice ao' (t.all.length + 1) c')) := by
  have hc' : 0 < c' := by have := hM.cap; omega
  have hlt := hM.lt hc'
  have hin : ∀ k ∈ (if 0 < c then [g] else []), 0 < c ∧ k = g := fun k hk => by
    split at hk
    · rename_i hc; exact ⟨hc, by simpa using hk⟩
    · cases hk
  have hsz := F.size
  have htb := h.low _ h.m1
  have hlow : ∀ k ∈ g' :: S, k < w1.heap.size := fun k hk => by
    rcases List.mem_cons.1 hk with rfl | hk
    · exact hlt
    · have := h.low k hk; omega
  have hnt : g' ≠ tb := by
    rcases hg hc' with ⟨e, hc⟩ | e
    · rw [e]; exact (h.ng hc).1
    · omega
  have O1 := h.ob.far F (fun hk => by obtain ⟨hc, e⟩ := hin _ hk; exact (h.ng hc).1 e.symm)
  have F2 : Far [tb] w1 (w1.setCell ⟨tb, 0, none⟩ (.slice ao' (t.all.length + 1) c')) := (Far.refl _ _).setCell (.inr (by simp)) _ _
  have T := Turn.cell O1 (o := 0) (v := .slice ao' (t.all.length + 1) c') (us := tcells ao' c' aF cF aA cA aZ cZ { t with all := t.all ++ [m] }) (by unfold tcells; simp only [List.length_append, List.length_singleton]; repeat (first | exact SetAt.z | apply SetAt.s))
  have FS : Far S w (w1.setCell ⟨tb, 0, none⟩ (.slice ao' (t.all.length + 1) c')) := (F.mono (fun k hk => by obtain ⟨hc, e⟩ := hin _ hk; rw [e]; exact (h.ng hc).2)).trans (F2.mono (by simp; exact h.m1))
  refine ⟨⟨T.here, by have := hM.far F2 (fun _ => by simp; exact hnt); simpa using this, ?_, ?_, ?_, fun _ => ⟨hnt, by simp⟩, ?_, ?_, ?_, by simp [h.m1], fun k hk => by rw [World.size_setCell]; exact hlow k hk⟩, FS, fun k hk => ?_⟩
  · exact (h.rF.far F (fun hF hk => by obtain ⟨hc, e⟩ := hin _ hk; exact (h.nF hF).2.2 hc e)).far F2 (fun hF => by simp; exact (h.nF hF).1)
  · exact (h.rA.far F (fun hF hk => by obtain ⟨hc, e⟩ := hin _ hk; exact (h.nA hF).2.2.1 hc e)).far F2 (fun hF => by simp; exact (h.nA hF).1)
  · exact (h.rZ.far F (fun hF hk => by obtain ⟨hc, e⟩ := hin _ hk; exact (h.nZ hF).2.2.1 hc e)).far F2 (fun hF => by simp; exact (h.nZ hF).1)
  · intro hF
    have n := h.nF hF
    refine ⟨n.1, by simp [n.2.1], fun _ => ?_⟩
    rcases hg hc' with ⟨e, hc⟩ | e
    · rw [e]; exact n.2.2 hc
    · have := h.low _ n.2.1; omega
  · intro hF
    have n := h.nA hF
    refine ⟨n.1, by simp [n.2.1], fun _ => ?_, n.2.2.2⟩
    rcases hg hc' with ⟨e, hc⟩ | e
    · rw [e]; exact n.2.2.1 hc
    · have := h.low _ n.2.1; omega
  · intro hF
    have n := h.nZ hF
    refine ⟨n.1, by simp [n.2.1], fun _ => ?_, n.2.2.2⟩
    rcases hg hc' with ⟨e, hc⟩ | e
    · rw [e]; exact n.2.2.1 hc
    · have := h.low _ n.2.1; omega
  · rcases List.mem_cons.1 hk with rfl | hk
    · rcases hg hc' with ⟨e, hc⟩ | e
      · exact .inl (by rw [e]; exact (h.ng hc).2)
      · exact .inr e
    · exact .inl hk
end
end Go.Proofs.Ytpaalpnoppblaaa

/-! Z24 -/
namespace Go.Proofs.Ytpaalpnoppblaaa
open Go.RowKit Go.Maps
set_option linter.unusedVariables false
set_option maxRecDepth 8000
/-- The building of a row of one number, left shut. -/
def bsN (n : Nat) (parts : Array (Nat × Value)) : Sem Value := Instr.buildSlice 48 n parts
theorem bsN_shut (n : Nat) (parts : Array (Nat × Value)) : Instr.buildSlice 48 n parts = bsN n parts := rfl
theorem bsN_run (y : Int) (w : World) : (bsN 1 #[(0, .int .i64 y)]).run Try.prog w = .ok (.slice (some ⟨w.heap.size, 0, none⟩) 1 1) (w.alloc (.cells #[.int .i64 y] 3)) := by
  obtain ⟨i0, hi, hz0, hz1, hz2⟩ := info_parts infoN
  have hf : Instr.fill (fun i => some (i * 1, 1)) (Array.map (fun x => (Value.int .i64 0).cells[x % (Value.int .i64 0).cells.size]!) (Array.range 1)) [(0, .int .i64 y)] = some #[.int .i64 y] := by kernel_rfl
  simp only [Nat.mul_one] at hf
  simp [bsN, Instr.buildSlice, run_underlying Try.underlying48, sizeOf, typeInfo, zeroValue, hi, hz0, hz1]
  rw [hf]
  simp [newRow]
theorem num_src (w : World) (y : Int) : Src Try.prog 1 48 (.slice (some ⟨w.heap.size, 0, none⟩) 1 1) 1 (ncs [y]) (w.alloc (.cells #[.int .i64 y] 3)) := by
  refine Src.ofSlice _ Try.underlying48 _ _ _ _ rfl (fun j u hu => ?_) (fun u hu => ?_)
  · rw [Addr.add_lit, Nat.zero_add]
    exact (Ob.fresh w #[.int .i64 y] 3).cell hu
  · simp [ncs] at hu
    subst hu
    rfl
theorem napp_run {w : World} {ao : Option Addr} {g c : Nat} {L : List Int} (ty : TypeId) (h : Nts w ao g c L) (hn : L.length + 1 ≤ 1000000) (y : Int) :
    ∃ ao' g' c' w', (apx #[48, 48] ty #[.slice ao L.length c, .slice (some ⟨w.heap.size, 0, none⟩) 1 1]).run Try.prog (w.alloc (.cells #[.int .i64 y] 3)) = .ok (.slice ao' (L.length + 1) c') w' ∧ Nts w' ao' g' c' (L ++ [y]) ∧
      Far (if 0 < c then [g] else []) w w' ∧ (0 < c' → (g' = g ∧ 0 < c) ∨ w.heap.size ≤ g') := by
  have hA := h.below ((Below.refl _ w).alloc (Nat.le_refl _) (.cells #[.int .i64 y] 3))
  obtain ⟨ao', g', c', w', hr, hM, hF, hg⟩ := nt_append ty hA (num_src w y) hn
  refine ⟨ao', g', c', w', hr, hM, ((Far.refl [] w).alloc _).mono (by simp) |>.trans hF, fun hc => ?_⟩
  rcases hg with h1 | h1
  · exact .inl (h1 hc)
  · right; rw [h1]; simp
end Go.Proofs.Ytpaalpnoppblaaa

/-! Z27 -/
namespace Go.Proofs.Ytpaalpnoppblaaa
open Go.RowKit Go.Maps
set_option linter.unusedVariables false
set_option maxRecDepth 8000
def zcells (ao : Option Addr) (n c : Nat) (k : Nat) (aF : Option Addr) (nF cF : Nat) (aA : Option Addr) (nA cA : Nat) (aZ : Option Addr) (nZ cZ : Nat) : List Value :=
  [.slice ao n c, .int .i64 k, .slice aF nF cF, .slice aA nA cA, .slice aZ nZ cZ]
/-- A tally in memory, its rows told apart. -/
structure Tyz (w : World) (tb : Nat) (ao : Option Addr) (g o c : Nat) (aF : Option Addr) (gF cF : Nat) (aA : Option Addr) (gA cA : Nat) (aZ : Option Addr) (gZ cZ : Nat) (S : List Nat) (all : List Mi) (k : Nat) (F A Z : List Int) : Prop where
  ob : Ob w tb (zcells ao all.length c k aF F.length cF aA A.length cA aZ Z.length cZ)
  row : Mis w ao g o all.length c all
  rF : Nts w aF gF cF F
  rA : Nts w aA gA cA A
  rZ : Nts w aZ gZ cZ Z
  ng : 0 < c → g ≠ tb ∧ g ∈ S
  nF : 0 < cF → gF ≠ tb ∧ gF ∈ S ∧ (0 < c → gF ≠ g)
  nA : 0 < cA → gA ≠ tb ∧ gA ∈ S ∧ (0 < c → gA ≠ g) ∧ (0 < cF → gA ≠ gF)
  nZ : 0 < cZ → gZ ≠ tb ∧ gZ ∈ S ∧ (0 < c → gZ ≠ g) ∧ (0 < cF → gZ ≠ gF) ∧ (0 < cA → gZ ≠ gA)
  m1 : tb ∈ S
  low : ∀ k ∈ S, k < w.heap.size
theorem fresh_ne {w : World} {g c g' c' x : Nat} (hg : 0 < c' → (g' = g ∧ 0 < c) ∨ w.heap.size ≤ g') (hc : 0 < c') (hx : x < w.heap.size) (hn : 0 < c → g ≠ x) : g' ≠ x := by
  rcases hg hc with ⟨e, h⟩ | e
  · rw [e]; exact hn h
  · omega
theorem in_old {c g k : Nat} (h : k ∈ (if 0 < c then [g] else [])) : 0 < c ∧ k = g := by
  split at h
  · rename_i hc; exact ⟨hc, by simpa using h⟩
  · cases h
section
variable {w w1 : World} {tb : Nat} {ao : Option Addr} {g o c : Nat} {aF : Option Addr} {gF cF : Nat} {aA : Option Addr} {gA cA : Nat} {aZ : Option Addr} {gZ cZ : Nat} {S : List Nat} {all : List Mi} {k : Nat} {F A Z : List Int}
theorem Tys.z {t : Ty} (h : Tys w tb ao g o c aF gF cF aA gA cA aZ gZ cZ S t) : Tyz w tb ao g o c aF gF cF aA gA cA aZ gZ cZ S t.all t.taken (t.P.map Pt.mi) (t.P.map Pt.sent) (t.P.map Pt.size) :=
  ⟨by have := h.ob; simp only [tcells] at this; simpa only [zcells, List.length_map] using this, h.row, h.rF, h.rA, h.rZ, h.ng, h.nF, h.nA, h.nZ, h.m1, h.low⟩
theorem Tyz.s {P : List Pt} (h : Tyz w tb ao g o c aF gF cF aA gA cA aZ gZ cZ S all k F A Z) (e1 : F = P.map Pt.mi) (e2 : A = P.map Pt.sent) (e3 : Z = P.map Pt.size) : Tys w tb ao g o c aF gF cF aA gA cA aZ gZ cZ S ⟨all, k, P⟩ := by
  subst e1; subst e2; subst e3
  exact ⟨by have := h.ob; simp only [zcells, List.length_map] at this; simpa only [tcells] using this, h.row, h.rF, h.rA, h.rZ, h.ng, h.nF, h.nA, h.nZ, h.m1, h.low⟩
theorem Tyz.far {T : List Nat} (h : Tyz w tb ao g o c aF gF cF aA gA cA aZ gZ cZ S all k F A Z) (K : Far T w w1) (hT : ∀ k ∈ S, k ∉ T) : Tyz w1 tb ao g o c aF gF cF aA gA cA aZ gZ cZ S all k F A Z :=
  ⟨h.ob.far K (hT _ h.m1), h.row.far K (fun hc => hT _ (h.ng hc).2), h.rF.far K (fun hc => hT _ (h.nF hc).2.1), h.rA.far K (fun hc => hT _ (h.nA hc).2.1), h.rZ.far K (fun hc => hT _ (h.nZ hc).2.1), h.ng, h.nF, h.nA, h.nZ, h.m1, fun k hk => Nat.lt_of_lt_of_le (h.low k hk) K.size⟩
theorem Tyz.below (h : Tyz w tb ao g o c aF gF cF aA gA cA aZ gZ cZ S all k F A Z) (K : Below w.heap.size w w1) : Tyz w1 tb ao g o c aF gF cF aA gA cA aZ gZ cZ S all k F A Z := h.far (Far.of_below K) (fun _ _ => by simp)
theorem Tyz.cells (h : Tyz w tb ao g o c aF gF cF aA gA cA aZ gZ cZ S all k F A Z) : w.cell? ⟨tb, 0, none⟩ = some (.slice ao all.length c) ∧ w.cell? ⟨tb, 1, none⟩ = some (.int .i64 k) ∧ w.cell? ⟨tb, 2, none⟩ = some (.slice aF F.length cF) ∧
    w.cell? ⟨tb, 3, none⟩ = some (.slice aA A.length cA) ∧ w.cell? ⟨tb, 4, none⟩ = some (.slice aZ Z.length cZ) ∧ (∀ o, w.frozen? ⟨tb, o, none⟩ = false) :=
  ⟨h.ob.cell rfl, h.ob.cell rfl, h.ob.cell rfl, h.ob.cell rfl, h.ob.cell rfl, h.ob.f⟩
/-- An account turned in its place. -/
theorem Tyz.put (h : Tyz w tb ao g o c aF gF cF aA gA cA aZ gZ cZ S all k F A Z) {j : Nat} (hj : j < all.length) (m : Mi) : Tyz (w.setCells g (o + j * 15) (listM m)) tb ao g o c aF gF cF aA gA cA aZ gZ cZ S (all.set j m) k F A Z ∧ Far [g] w (w.setCells g (o + j * 15) (listM m)) := by
  have hc : 0 < c := by have := h.row.cap; omega
  have hg := h.ng hc
  have K : Far [g] w (w.setCells g (o + j * 15) (listM m)) := (Far.refl _ _).setCells (.inr (by simp)) _ _
  refine ⟨⟨by rw [List.length_set]; exact h.ob.far K (by simp; exact fun e => hg.1 e.symm), by have := h.row.put hj m; simpa using this, h.rF.far K (fun hF => by simp; exact (h.nF hF).2.2 hc), h.rA.far K (fun hA => by simp; exact (h.nA hA).2.2.1 hc), h.rZ.far K (fun hZ => by simp; exact (h.nZ hZ).2.2.1 hc),
    h.ng, h.nF, h.nA, h.nZ, h.m1, fun k hk => by rw [setCells_size]; exact h.low k hk⟩, K⟩
/-- A row of numbers grown by one, and the slice stored. -/
theorem Tyz.moreF (h : Tyz w tb ao g o c aF gF cF aA gA cA aZ gZ cZ S all k F A Z) {aF' : Option Addr} {gF' cF' : Nat} {x : Int} (K : Far (if 0 < cF then [gF] else []) w w1) (hM : Nts w1 aF' gF' cF' (F ++ [x])) (hg : 0 < cF' → (gF' = gF ∧ 0 < cF) ∨ w.heap.size ≤ gF') :
    Tyz (w1.setCell ⟨tb, 2, none⟩ (.slice aF' (F.length + 1) cF')) tb ao g o c aF' gF' cF' aA gA cA aZ gZ cZ (gF' :: S) all k (F ++ [x]) A Z ∧ Goes S (gF' :: S) w (w1.setCell ⟨tb, 2, none⟩ (.slice aF' (F.length + 1) cF')) := by
  have hc' : 0 < cF' := by have := hM.cap; simp at this; omega
  have hlt := hM.lt hc'
  have hsz := K.size
  have htb := h.low _ h.m1
  have hnt : gF' ≠ tb := fresh_ne hg hc' htb (fun hX => (h.nF hX).1)
  have O1 := h.ob.far K (fun hk => by obtain ⟨hX, e⟩ := in_old hk; exact (h.nF hX).1 e.symm)
  have F2 : Far [tb] w1 (w1.setCell ⟨tb, 2, none⟩ (.slice aF' (F.length + 1) cF')) := (Far.refl _ _).setCell (.inr (by simp)) _ _
  have T := Turn.cell O1 (o := 2) (v := .slice aF' (F.length + 1) cF') (us := zcells ao all.length c k aF' (F.length + 1) cF' aA A.length cA aZ Z.length cZ) (by unfold zcells; repeat (first | exact SetAt.z | apply SetAt.s))
  have FS : Far S w (w1.setCell ⟨tb, 2, none⟩ (.slice aF' (F.length + 1) cF')) := (K.mono (fun k hk => by obtain ⟨hX, e⟩ := in_old hk; rw [e]; exact (h.nF hX).2.1)).trans (F2.mono (by simp; exact h.m1))
  refine ⟨⟨by simpa using T.here, (h.row.far K (fun hc hk => by obtain ⟨hX, e⟩ := in_old hk; exact ((h.nF hX).2.2 hc) e.symm)).far F2 (fun hc => by simp; exact (h.ng hc).1), (by have := hM.far F2 (fun _ => by simp; exact hnt); exact this), ((h.rA.far K (fun hc hk => by obtain ⟨hX, e⟩ := in_old hk; exact ((h.nA hc).2.2.2 hX) e)).far F2 (fun hc => by simp; exact (h.nA hc).1)), ((h.rZ.far K (fun hc hk => by obtain ⟨hX, e⟩ := in_old hk; exact ((h.nZ hc).2.2.2.1 hX) e)).far F2 (fun hc => by simp; exact (h.nZ hc).1)),
    fun hc => ⟨(h.ng hc).1, by simp [(h.ng hc).2]⟩, fun _ => ⟨hnt, by simp, fun hc => fresh_ne hg hc' (h.low _ (h.ng hc).2) (fun hX => (h.nF hX).2.2 hc)⟩, fun hA => ⟨(h.nA hA).1, by simp [(h.nA hA).2.1], (h.nA hA).2.2.1, fun _ => (fresh_ne hg hc' (h.low _ (h.nA hA).2.1) (fun hX => ((h.nA hA).2.2.2 hX).symm)).symm⟩, fun hZ => ⟨(h.nZ hZ).1, by simp [(h.nZ hZ).2.1], (h.nZ hZ).2.2.1, fun _ => (fresh_ne hg hc' (h.low _ (h.nZ hZ).2.1) (fun hX => ((h.nZ hZ).2.2.2.1 hX).symm)).symm, (h.nZ hZ).2.2.2.2⟩, by simp [h.m1], fun k hk => ?_⟩, FS, fun k hk => ?_⟩
  · rw [World.size_setCell]
    rcases List.mem_cons.1 hk with rfl | hk
    · exact hlt
    · have := h.low k hk; omega
  · rcases List.mem_cons.1 hk with rfl | hk
    · rcases hg hc' with ⟨e, hX⟩ | e
      · exact .inl (by rw [e]; exact (h.nF hX).2.1)
      · exact .inr e
    · exact .inl hk
/-- A row of numbers grown by one, and the slice stored. -/
theorem Tyz.moreA (h : Tyz w tb ao g o c aF gF cF aA gA cA aZ gZ cZ S all k F A Z) {aA' : Option Addr} {gA' cA' : Nat} {x : Int} (K : Far (if 0 < cA then [gA] else []) w w1) (hM : Nts w1 aA' gA' cA' (A ++ [x])) (hg : 0 < cA' → (gA' = gA ∧ 0 < cA) ∨ w.heap.size ≤ gA') :
    Tyz (w1.setCell ⟨tb, 3, none⟩ (.slice aA' (A.length + 1) cA')) tb ao g o c aF gF cF aA' gA' cA' aZ gZ cZ (gA' :: S) all k F (A ++ [x]) Z ∧ Goes S (gA' :: S) w (w1.setCell ⟨tb, 3, none⟩ (.slice aA' (A.length + 1) cA')) := by
  have hc' : 0 < cA' := by have := hM.cap; simp at this; omega
  have hlt := hM.lt hc'
  have hsz := K.size
  have htb := h.low _ h.m1
  have hnt : gA' ≠ tb := fresh_ne hg hc' htb (fun hX => (h.nA hX).1)
  have O1 := h.ob.far K (fun hk => by obtain ⟨hX, e⟩ := in_old hk; exact (h.nA hX).1 e.symm)
  have F2 : Far [tb] w1 (w1.setCell ⟨tb, 3, none⟩ (.slice aA' (A.length + 1) cA')) := (Far.refl _ _).setCell (.inr (by simp)) _ _
  have T := Turn.cell O1 (o := 3) (v := .slice aA' (A.length + 1) cA') (us := zcells ao all.length c k aF F.length cF aA' (A.length + 1) cA' aZ Z.length cZ) (by unfold zcells; repeat (first | exact SetAt.z | apply SetAt.s))
  have FS : Far S w (w1.setCell ⟨tb, 3, none⟩ (.slice aA' (A.length + 1) cA')) := (K.mono (fun k hk => by obtain ⟨hX, e⟩ := in_old hk; rw [e]; exact (h.nA hX).2.1)).trans (F2.mono (by simp; exact h.m1))
  refine ⟨⟨by simpa using T.here, (h.row.far K (fun hc hk => by obtain ⟨hX, e⟩ := in_old hk; exact ((h.nA hX).2.2.1 hc) e.symm)).far F2 (fun hc => by simp; exact (h.ng hc).1), ((h.rF.far K (fun hc hk => by obtain ⟨hX, e⟩ := in_old hk; exact (((h.nA hX).2.2.2 hc).symm) e)).far F2 (fun hc => by simp; exact (h.nF hc).1)), (by have := hM.far F2 (fun _ => by simp; exact hnt); exact this), ((h.rZ.far K (fun hc hk => by obtain ⟨hX, e⟩ := in_old hk; exact ((h.nZ hc).2.2.2.2 hX) e)).far F2 (fun hc => by simp; exact (h.nZ hc).1)),
    fun hc => ⟨(h.ng hc).1, by simp [(h.ng hc).2]⟩, fun hF => ⟨(h.nF hF).1, by simp [(h.nF hF).2.1], (h.nF hF).2.2⟩, fun _ => ⟨hnt, by simp, fun hc => fresh_ne hg hc' (h.low _ (h.ng hc).2) (fun hX => (h.nA hX).2.2.1 hc), fun hF => fresh_ne hg hc' (h.low _ (h.nF hF).2.1) (fun hX => (h.nA hX).2.2.2 hF)⟩, fun hZ => ⟨(h.nZ hZ).1, by simp [(h.nZ hZ).2.1], (h.nZ hZ).2.2.1, (h.nZ hZ).2.2.2.1, fun _ => (fresh_ne hg hc' (h.low _ (h.nZ hZ).2.1) (fun hX => ((h.nZ hZ).2.2.2.2 hX).symm)).symm⟩, by simp [h.m1], fun k hk => ?_⟩, FS, fun k hk => ?_⟩
  · rw [World.size_setCell]
    rcases List.mem_cons.1 hk with rfl | hk
    · exact hlt
    · have := h.low k hk; omega
  · rcases List.mem_cons.1 hk with rfl | hk
    · rcases hg hc' with ⟨e, hX⟩ | e
      · exact .inl (by rw [e]; exact (h.nA hX).2.1)
      · exact .inr e
    · exact .inl hk
/-- A row of numbers grown by one, and the slice stored. -/
theorem Tyz.moreZ (h : Tyz w tb ao g o c aF gF cF aA gA cA aZ gZ cZ S all k F A Z) {aZ' : Option Addr} {gZ' cZ' : Nat} {x : Int} (K : Far (if 0 < cZ then [gZ] else []) w w1) (hM : Nts w1 aZ' gZ' cZ' (Z ++ [x])) (hg : 0 < cZ' → (gZ' = gZ ∧ 0 < cZ) ∨ w.heap.size ≤ gZ') :
    Tyz (w1.setCell ⟨tb, 4, none⟩ (.slice aZ' (Z.length + 1) cZ')) tb ao g o c aF gF cF aA gA cA aZ' gZ' cZ' (gZ' :: S) all k F A (Z ++ [x]) ∧ Goes S (gZ' :: S) w (w1.setCell ⟨tb, 4, none⟩ (.slice aZ' (Z.length + 1) cZ')) := by
  have hc' : 0 < cZ' := by have := hM.cap; simp at this; omega
  have hlt := hM.lt hc'
  have hsz := K.size
  have htb := h.low _ h.m1
  have hnt : gZ' ≠ tb := fresh_ne hg hc' htb (fun hX => (h.nZ hX).1)
  have O1 := h.ob.far K (fun hk => by obtain ⟨hX, e⟩ := in_old hk; exact (h.nZ hX).1 e.symm)
  have F2 : Far [tb] w1 (w1.setCell ⟨tb, 4, none⟩ (.slice aZ' (Z.length + 1) cZ')) := (Far.refl _ _).setCell (.inr (by simp)) _ _
  have T := Turn.cell O1 (o := 4) (v := .slice aZ' (Z.length + 1) cZ') (us := zcells ao all.length c k aF F.length cF aA A.length cA aZ' (Z.length + 1) cZ') (by unfold zcells; repeat (first | exact SetAt.z | apply SetAt.s))
  have FS : Far S w (w1.setCell ⟨tb, 4, none⟩ (.slice aZ' (Z.length + 1) cZ')) := (K.mono (fun k hk => by obtain ⟨hX, e⟩ := in_old hk; rw [e]; exact (h.nZ hX).2.1)).trans (F2.mono (by simp; exact h.m1))
  refine ⟨⟨by simpa using T.here, (h.row.far K (fun hc hk => by obtain ⟨hX, e⟩ := in_old hk; exact ((h.nZ hX).2.2.1 hc) e.symm)).far F2 (fun hc => by simp; exact (h.ng hc).1), ((h.rF.far K (fun hc hk => by obtain ⟨hX, e⟩ := in_old hk; exact (((h.nZ hX).2.2.2.1 hc).symm) e)).far F2 (fun hc => by simp; exact (h.nF hc).1)), ((h.rA.far K (fun hc hk => by obtain ⟨hX, e⟩ := in_old hk; exact (((h.nZ hX).2.2.2.2 hc).symm) e)).far F2 (fun hc => by simp; exact (h.nA hc).1)), (by have := hM.far F2 (fun _ => by simp; exact hnt); exact this),
    fun hc => ⟨(h.ng hc).1, by simp [(h.ng hc).2]⟩, fun hF => ⟨(h.nF hF).1, by simp [(h.nF hF).2.1], (h.nF hF).2.2⟩, fun hA => ⟨(h.nA hA).1, by simp [(h.nA hA).2.1], (h.nA hA).2.2.1, (h.nA hA).2.2.2⟩, fun _ => ⟨hnt, by simp, fun hc => fresh_ne hg hc' (h.low _ (h.ng hc).2) (fun hX => (h.nZ hX).2.2.1 hc), fun hF => fresh_ne hg hc' (h.low _ (h.nF hF).2.1) (fun hX => (h.nZ hX).2.2.2.1 hF), fun hA => fresh_ne hg hc' (h.low _ (h.nA hA).2.1) (fun hX => (h.nZ hX).2.2.2.2 hA)⟩, by simp [h.m1], fun k hk => ?_⟩, FS, fun k hk => ?_⟩
  · rw [World.size_setCell]
    rcases List.mem_cons.1 hk with rfl | hk
    · exact hlt
    · have := h.low k hk; omega
  · rcases List.mem_cons.1 hk with rfl | hk
    · rcases hg hc' with ⟨e, hX⟩ | e
      · exact .inl (by rw [e]; exact (h.nZ hX).2.1)
      · exact .inr e
    · exact .inl hk
end
end Go.Proofs.Ytpaalpnoppblaaa

/-! ZS -/
namespace Go.Proofs.Ytpaalpnoppblaaa
open Go.RowKit Go.Maps
set_option linter.unusedVariables false
set_option maxRecDepth 8000
attribute [local go_sem ↓] ldM_shut
set_option maxHeartbeats 1000000 in
theorem nsame_any (ao ao' : Option Addr) (g g' o o' n c c' : Nat) (L : List Mi) (w : World) (hA : Mis w ao g o n c L) (hB : Mis w ao' g' o' n c' L) :
    Calls Try.prog 10 #[.slice ao n c, .slice ao' n c'] w fun e w' => e = .returned (.bool true) ∧ Below w.heap.size w w' := by
  have hcap := hA.cap; have hmax := hA.max
  have hmx : maxLen = 9223372036854775807 := rfl
  have hlen := hA.len
  go_enter Try.func10, Try.ntmps10
  go_wp2_with fail
  go_loopw [5] (fun v5 wr => ∃ k : Nat, k ≤ n ∧ v5 = .int .i64 k ∧ Below w.heap.size w wr) (fun v5 _ => n - (intOf v5).toNat)
  case atStart => exact ⟨0, Nat.zero_le _, rfl, by go_grown⟩
  case round =>
    obtain ⟨k, hk, rfl, hb⟩ := hrel
    by_cases hkn : k < n
    · have hkl : k < L.length := by omega
      obtain ⟨rfl, hg⟩ := hA.value hkl
      obtain ⟨rfl, hg'⟩ := hB.value hkl
      obtain ⟨m, hm⟩ : ∃ m, L[k] = m := ⟨_, rfl⟩
      have hM1 : ∀ q, (ldM (.pointer (some ⟨g, o + k * 15, none⟩))).run Try.prog (wr.drewN q) = .ok (.agg #[.int .i64 m.id, .int .i64 m.fr, .int .i64 m.to, .int .i64 m.se, .int .i64 m.ac, .int .i64 m.lo, .int .i64 m.pa, .int .i64 m.hi, .int .i64 m.dr, .int .i64 m.n, .int .i64 m.st, .int .i64 m.sr, .int .i64 m.tt, .int .i64 m.tr, .int .i64 m.rr]) (wr.drewN q) := fun q => by
        have := (hA.below hb).els k hkl; rw [hm] at this; exact ldM_run this
      have hM2 : ∀ q, (ldM (.pointer (some ⟨g', o' + k * 15, none⟩))).run Try.prog (wr.drewN q) = .ok (.agg #[.int .i64 m.id, .int .i64 m.fr, .int .i64 m.to, .int .i64 m.se, .int .i64 m.ac, .int .i64 m.lo, .int .i64 m.pa, .int .i64 m.hi, .int .i64 m.dr, .int .i64 m.n, .int .i64 m.st, .int .i64 m.sr, .int .i64 m.tt, .int .i64 m.tr, .int .i64 m.rr]) (wr.drewN q) := fun q => by
        have := (hB.below hb).els k hkl; rw [hm] at this; exact ldM_run this
      have EQ := fun w => eqM_same m w
      have hb2 : ∀ q, Below w.heap.size w (wr.drewN q) := fun q => hb.trans ⟨rfl, rfl, rfl, Nat.le_refl _, fun _ _ => rfl⟩
      go_wp2_with fail
      go_quiet (fail)
      go_wp2_with fail
      exact ⟨⟨k + 1, by omega, by simp, hb2 _⟩, by simp only [intOf]; omega⟩
    · go_wp2_with fail
      go_ret
      exact ⟨rfl, hb⟩
end Go.Proofs.Ytpaalpnoppblaaa

/-! Z31 -/
namespace Go.Proofs.Ytpaalpnoppblaaa
open Go.RowKit Go.Maps
set_option linter.unusedVariables false
set_option maxRecDepth 8000
/-- Books, and a tally that they tell. -/
structure Pair (w : World) (bb tb : Nat) (S T : List Nat) (first : Int) (s : Bk) (t : Ty) : Prop where
  b : Bka w bb S s
  y : Tya w tb T t
  d : ∀ k ∈ S, k ∉ T
  f : Fit s
  m : Sums first s t
theorem Tya.low {w : World} {tb : Nat} {S : List Nat} {t : Ty} (h : Tya w tb S t) : ∀ k ∈ S, k < w.heap.size := by
  obtain ⟨ao, g, o, c, aF, gF, cF, aA, gA, cA, aZ, gZ, cZ, h⟩ := h
  exact h.low
theorem Pair.below {w w1 : World} {bb tb : Nat} {S T : List Nat} {first : Int} {s : Bk} {t : Ty} (h : Pair w bb tb S T first s t) (k : Below w.heap.size w w1) : Pair w1 bb tb S T first s t :=
  ⟨h.b.below k, h.y.below k, h.d, h.f, h.m⟩
/-- What a step does to both. -/
structure Step2 (w w1 : World) (bb tb : Nat) (S T S1 T1 : List Nat) (first : Int) (s s1 : Bk) (t t1 : Ty) : Prop where
  p : Pair w1 bb tb S1 T1 first s1 t1
  g : Goes (S ++ T) (S1 ++ T1) w w1
  b : s1.begun ≤ s.begun + 1
  n : t1.P.length ≤ t.P.length + 1
theorem Goes.left {w w1 : World} {S S1 : List Nat} (T : List Nat) (G : Goes S S1 w w1) : Goes (S ++ T) (S1 ++ T) w w1 := by
  refine ⟨G.far.mono (fun k hk => List.mem_append_left _ hk), fun k hk => ?_⟩
  rcases List.mem_append.1 hk with h | h
  · rcases G.sub k h with h1 | h1
    · exact .inl (List.mem_append_left _ h1)
    · exact .inr h1
  · exact .inl (List.mem_append_right _ h)
theorem Goes.right {w w1 : World} {T T1 : List Nat} (S : List Nat) (G : Goes T T1 w w1) : Goes (S ++ T) (S ++ T1) w w1 := by
  refine ⟨G.far.mono (fun k hk => List.mem_append_right _ hk), fun k hk => ?_⟩
  rcases List.mem_append.1 hk with h | h
  · exact .inl (List.mem_append_left _ h)
  · rcases G.sub k h with h1 | h1
    · exact .inl (List.mem_append_right _ h1)
    · exact .inr h1
/-- Books gone on: the tally lies as it did. -/
theorem Pair.books {w w1 : World} {bb tb : Nat} {S T S1 : List Nat} {first : Int} {s : Bk} {t : Ty} (h : Pair w bb tb S T first s t) (G : Goes S S1 w w1) : Tya w1 tb T t ∧ (∀ k ∈ S1, k ∉ T) := by
  refine ⟨h.y.far G.far (fun k hk hS => h.d k hS hk), fun k hk hT => ?_⟩
  rcases G.sub k hk with h1 | h1
  · exact h.d k h1 hT
  · have := h.y.low k hT; omega
/-- The tally gone on: books lie as they did. -/
theorem tally_on {w w1 : World} {bb tb : Nat} {S T T1 : List Nat} {s : Bk} {t : Ty} (hb : Bka w bb S s) (ht : Tya w tb T t) (hd : ∀ k ∈ S, k ∉ T) (G : Goes T T1 w w1) : Bka w1 bb S s ∧ (∀ k ∈ S, k ∉ T1) := by
  refine ⟨hb.far G.far (fun k hk hT => hd k hk hT), fun k hk hT => ?_⟩
  rcases G.sub k hT with h1 | h1
  · exact hd k hk h1
  · have := hb.low k hk; omega
theorem Far.goes {S : List Nat} {w w1 : World} (h : Far S w w1) : Goes S S w w1 := ⟨h, fun k hk => .inl hk⟩
/-- Only books gone on, or nothing. -/
theorem Pair.one {w w1 : World} {bb tb : Nat} {S T S1 : List Nat} {first : Int} {s s1 : Bk} {t : Ty} (h : Pair w bb tb S T first s t) (HB : Bka w1 bb S1 s1) (G : Goes S S1 w w1) (hf : Fit s1) (hm : Sums first s1 t) (hb : s1.begun ≤ s.begun + 1) : Step2 w w1 bb tb S T S1 T first s s1 t t :=
  ⟨⟨HB, (h.books G).1, (h.books G).2, hf, hm⟩, G.left T, hb, Nat.le_succ _⟩
/-- Books gone on, then the tally. -/
theorem Pair.two {w w1 w2 : World} {bb tb : Nat} {S T S1 T1 : List Nat} {first : Int} {s s1 : Bk} {t t1 : Ty} (h : Pair w bb tb S T first s t) (HB : Bka w1 bb S1 s1) (G : Goes S S1 w w1) (HT : Tya w2 tb T1 t1) (K : Goes T T1 w1 w2) (hf : Fit s1) (hm : Sums first s1 t1) (hb : s1.begun ≤ s.begun + 1) (hn : t1.P.length ≤ t.P.length + 1) :
    Step2 w w2 bb tb S T S1 T1 first s s1 t t1 := by
  obtain ⟨h1, h2⟩ := h.books G
  obtain ⟨h3, h4⟩ := tally_on HB h1 h2 K
  exact ⟨⟨h3, HT, h4, hf, hm⟩, (G.left T).trans (K.right S1), hb, hn⟩
theorem Step2.head {w0 w w1 : World} {bb tb : Nat} {S T S1 T1 : List Nat} {first : Int} {s s1 : Bk} {t t1 : Ty} (h : Step2 w w1 bb tb S T S1 T1 first s s1 t t1) (hb : Below w0.heap.size w0 w) (hl : ∀ k ∈ S ++ T, k < w0.heap.size) : Step2 w0 w1 bb tb S T S1 T1 first s s1 t t1 := by
  refine ⟨h.p, ⟨((Far.of_below hb).mono (by simp)).trans h.g.far, fun k hk => ?_⟩, h.b, h.n⟩
  rcases h.g.sub k hk with h1 | h1
  · exact .inl h1
  · right; have := hb.size; omega
theorem Step2.tail {w w1 w2 : World} {bb tb : Nat} {S T S1 T1 : List Nat} {first : Int} {s s1 : Bk} {t t1 : Ty} (h : Step2 w w1 bb tb S T S1 T1 first s s1 t t1) (hb : Below w1.heap.size w1 w2) : Step2 w w2 bb tb S T S1 T1 first s s1 t t1 :=
  ⟨h.p.below hb, ⟨h.g.far.below hb, h.g.sub⟩, h.b, h.n⟩
/-- What Expire makes of books, whatever the time. -/
theorem ex_parts {s : Bk} (hf : Fit s) (a o : Int) : s.l.L = exP s a ++ (exL s a o).l.L ∧ (exL s a o).L = lostAll s.L (exP s a) a ∧ (exL s a o).begun = s.begun ∧ (exL s a o).l.next = s.l.next ∧ (exP s a ≠ [] → s.now ≤ a ∧ a ≤ 1099511627776) := by
  by_cases he : earlyP s a
  · have e1 : exP s a = [] := by unfold exP; rw [if_pos he]
    have e2 : exL s a o = s := by unfold exL; rw [if_pos he]
    rw [e1, e2]
    exact ⟨rfl, rfl, rfl, rfl, fun h => absurd rfl h⟩
  · have e1 : exP s a = s.l.L.filter (isover a s.timeout) := by unfold exP; rw [if_neg he]
    have e2 : exL s a o = { s with l := { s.l with oldest := o, L := s.l.L.filter fun p => !isover a s.timeout p }, now := a, L := lostAll s.L (s.l.L.filter (isover a s.timeout)) a } := by unfold exL; rw [if_neg he]
    rw [e1, e2]
    unfold earlyP at he
    exact ⟨over_front hf.ok a s.timeout, rfl, rfl, rfl, fun _ => by omega⟩
/-- Books in the midst of Expire: the first i packets lost. -/
structure Mid (first : Int) (s : Bk) (t : Ty) (a : Int) (G R : List Pt) (i : Nat) (u : Bk) (v : Ty) : Prop where
  f : Fit u
  m : Sums first u v
  l : u.l.L = G.drop i ++ R
  L : u.L = lostAll s.L (G.take i) a
  n : u.now ≤ a ∨ u = s
  b : u.begun = s.begun
  x : u.l.next = s.l.next
  P : v.P = t.P
  k : v.all.length = t.all.length
theorem Mid.zero {first : Int} {s : Bk} {t : Ty} (hf : Fit s) (hm : Sums first s t) {a : Int} {G R : List Pt} (e : s.l.L = G ++ R) : Mid first s t a G R 0 s t :=
  ⟨hf, hm, by simpa using e, by simp [lostAll], .inr rfl, rfl, rfl, rfl, rfl⟩
theorem enT_P (k : Bool) (v : Ty) (p : Pt) (b : Int) : (enT k v p b).P = v.P ∧ (enT k v p b).all.length = v.all.length := ⟨rfl, turn_len v _ _⟩
theorem Mid.succ {first : Int} {s : Bk} {t : Ty} {a : Int} {G R : List Pt} {i : Nat} {u : Bk} {v : Ty} (h : Mid first s t a G R i u v) (hi : i < G.length) (a0 : s.now ≤ a) (a1 : a ≤ 1099511627776) :
    ∃ u', Mid first s t a G R (i + 1) u' (enT false v G[i] a) := by
  have e : u.l.L = G[i] :: (G.drop (i + 1) ++ R) := by rw [h.l, List.drop_eq_getElem_cons hi]; rfl
  have hn : u.now ≤ a := by
    rcases h.n with h1 | h1
    · exact h1
    · rw [h1]; exact a0
  have hf := lose_fit h.f hn a1 e
  refine ⟨loseL u G[i] (G.drop (i + 1) ++ R) a, hf, h.m.lost h.f e a a, rfl, ?_, .inl (Int.le_refl _), h.b, h.x, h.P, by rw [(enT_P _ _ _ _).2]; exact h.k⟩
  show chg u.L G[i].mi (fun m => howV false m G[i] a) = _
  rw [h.L, lostAll_succ hi]
end Go.Proofs.Ytpaalpnoppblaaa

/-! Z25 -/
namespace Go.Proofs.Ytpaalpnoppblaaa
open Go.RowKit Go.Maps
set_option linter.unusedVariables false
set_option maxRecDepth 8000
attribute [local go_sem ↓] ldM_shut
set_option maxHeartbeats 1000000 in
theorem took_no (tb : Nat) (m : Mi) (w : World) : Calls Try.prog 36 #[.pointer (some ⟨tb, 0, none⟩), .agg #[.int .i64 m.id, .int .i64 m.fr, .int .i64 m.to, .int .i64 m.se, .int .i64 m.ac, .int .i64 m.lo, .int .i64 m.pa, .int .i64 m.hi, .int .i64 m.dr, .int .i64 m.n, .int .i64 m.st, .int .i64 m.sr, .int .i64 m.tt, .int .i64 m.tr, .int .i64 m.rr], .bool false] w fun e w' => e = .returned (.bool true) ∧ Below w.heap.size w w' := by
  have H := Heap.nil w
  go_enter Try.func36, Try.ntmps36
  go_wp2_with (first | ((first | ((with_reducible refine at_plain ?_); intro K hK) | go_guarded); first | ((with_reducible refine at_ld ?_); first | (refine wpH_ldA (ty := 63) rfl rfl H (by repeat (first | exact Found.here | apply Found.there)) (by exact row63) ?_) | (refine wpH_ldA (ty := 89) rfl rfl H (by repeat (first | exact Found.here | apply Found.there)) (by exact row89) ?_) | (refine wpH_ldA (ty := 109) rfl rfl H (by repeat (first | exact Found.here | apply Found.there)) (by exact row109) ?_) | (refine wpH_ldA (ty := 57) rfl rfl H (by repeat (first | exact Found.here | apply Found.there)) (by exact row57) ?_) | (refine wpH_ld1 (ty := 3) rfl rfl H (by repeat (first | exact Found.here | apply Found.there)) one3 (by rfl) ?_) | (refine wpH_ld1 (ty := 4) rfl rfl H (by repeat (first | exact Found.here | apply Found.there)) one4 (by rfl) ?_) | (refine wpH_ld1 (ty := 26) rfl rfl H (by repeat (first | exact Found.here | apply Found.there)) one26 (by rfl) ?_) | (refine wpH_ld1 (ty := 22) rfl rfl H (by repeat (first | exact Found.here | apply Found.there)) one22 (by rfl) ?_) | (refine wpH_ld1 (ty := 91) rfl rfl H (by repeat (first | exact Found.here | apply Found.there)) one91 (by rfl) ?_)) | ((with_reducible refine at_st ?_); first | (refine wpH_st1 (ty := 3) (v := .int _ _) rfl rfl rfl rfl rfl H one3 (by repeat (first | exact Found.here | apply Found.there)) (by repeat (first | exact SetAt.z | apply SetAt.s)) (by repeat (first | exact Turned.here | apply Turned.there)) ?_; clear H; intro wN H) | (refine wpH_st1 (ty := 4) (v := .int _ _) rfl rfl rfl rfl rfl H one4 (by repeat (first | exact Found.here | apply Found.there)) (by repeat (first | exact SetAt.z | apply SetAt.s)) (by repeat (first | exact Turned.here | apply Turned.there)) ?_; clear H; intro wN H) | (refine wpH_st1 (ty := 26) (v := .int _ _) rfl rfl rfl rfl rfl H one26 (by repeat (first | exact Found.here | apply Found.there)) (by repeat (first | exact SetAt.z | apply SetAt.s)) (by repeat (first | exact Turned.here | apply Turned.there)) ?_; clear H; intro wN H) | (refine wpH_st1 (ty := 22) (v := .int _ _) rfl rfl rfl rfl rfl H one22 (by repeat (first | exact Found.here | apply Found.there)) (by repeat (first | exact SetAt.z | apply SetAt.s)) (by repeat (first | exact Turned.here | apply Turned.there)) ?_; clear H; intro wN H) | (refine wpH_st1 (ty := 91) (v := .int _ _) rfl rfl rfl rfl rfl H one91 (by repeat (first | exact Found.here | apply Found.there)) (by repeat (first | exact SetAt.z | apply SetAt.s)) (by repeat (first | exact Turned.here | apply Turned.there)) ?_; clear H; intro wN H) | (refine wpH_stA (ty := 63) rfl rfl rfl H (by repeat (first | exact Turned.here | apply Turned.there)) (by exact row63) (by rfl) (by kernel_rfl) ?_; clear H; intro wN H) | (refine wpH_stA (ty := 89) rfl rfl rfl H (by repeat (first | exact Turned.here | apply Turned.there)) (by exact row89) (by rfl) (by kernel_rfl) ?_; clear H; intro wN H) | (refine wpH_stA (ty := 109) rfl rfl rfl H (by repeat (first | exact Turned.here | apply Turned.there)) (by exact row109) (by rfl) (by kernel_rfl) ?_; clear H; intro wN H) | (refine wpH_stA (ty := 57) rfl rfl rfl H (by repeat (first | exact Turned.here | apply Turned.there)) (by exact row57) (by rfl) (by kernel_rfl) ?_; clear H; intro wN H)) | ((with_reducible refine at_al ?_); refine wpH_al rfl (by first | exact zero63 | exact zero89 | exact zero109 | exact zero57) H ?_; clear H; intro bN wN H) | ((with_reducible refine at_bx ?_); refine wpH_bxA rfl rfl H ?_; clear H; intro bN wN H)) | fail)
  go_ret
  exact ⟨rfl, H.grown⟩
set_option maxHeartbeats 1000000 in
theorem took_yes (tb : Nat) (ao : Option Addr) (g o c : Nat) (aF : Option Addr) (gF cF : Nat) (aA : Option Addr) (gA cA : Nat) (aZ : Option Addr) (gZ cZ : Nat) (S : List Nat) (t : Ty) (w : World) (h : Tys w tb ao g o c aF gF cF aA gA cA aZ gZ cZ S t) (hl : t.taken < t.all.length) :
    Calls Try.prog 36 #[.pointer (some ⟨tb, 0, none⟩), .agg #[.int .i64 (t.acc t.taken).id, .int .i64 (t.acc t.taken).fr, .int .i64 (t.acc t.taken).to, .int .i64 (t.acc t.taken).se, .int .i64 (t.acc t.taken).ac, .int .i64 (t.acc t.taken).lo, .int .i64 (t.acc t.taken).pa, .int .i64 (t.acc t.taken).hi, .int .i64 (t.acc t.taken).dr, .int .i64 (t.acc t.taken).n, .int .i64 (t.acc t.taken).st, .int .i64 (t.acc t.taken).sr, .int .i64 (t.acc t.taken).tt, .int .i64 (t.acc t.taken).tr, .int .i64 (t.acc t.taken).rr], .bool true] w fun e w' => e = .returned (.bool true) ∧ Tys w' tb ao g o c aF gF cF aA gA cA aZ gZ cZ S { t with taken := t.taken + 1 } ∧ Far S w w' := by
  have H := Heap.nil w
  obtain ⟨m, hm⟩ : ∃ m, t.acc t.taken = m := ⟨_, rfl⟩
  rw [hm]
  have hat : t.all[t.taken] = m := by rw [← hm, acc_at t hl]
  obtain ⟨rfl, hg⟩ := h.row.value hl
  have htb : tb < w.heap.size := h.low _ h.m1
  have hcap := h.row.cap; have hmax := h.row.max
  have hmx : maxLen = 9223372036854775807 := rfl
  go_enter Try.func36, Try.ntmps36
  go_wp2_with (first | ((first | ((with_reducible refine at_plain ?_); intro K hK) | go_guarded); first | ((with_reducible refine at_ld ?_); first | (refine wpH_ldA (ty := 63) rfl rfl H (by repeat (first | exact Found.here | apply Found.there)) (by exact row63) ?_) | (refine wpH_ldA (ty := 89) rfl rfl H (by repeat (first | exact Found.here | apply Found.there)) (by exact row89) ?_) | (refine wpH_ldA (ty := 109) rfl rfl H (by repeat (first | exact Found.here | apply Found.there)) (by exact row109) ?_) | (refine wpH_ldA (ty := 57) rfl rfl H (by repeat (first | exact Found.here | apply Found.there)) (by exact row57) ?_) | (refine wpH_ld1 (ty := 3) rfl rfl H (by repeat (first | exact Found.here | apply Found.there)) one3 (by rfl) ?_) | (refine wpH_ld1 (ty := 4) rfl rfl H (by repeat (first | exact Found.here | apply Found.there)) one4 (by rfl) ?_) | (refine wpH_ld1 (ty := 26) rfl rfl H (by repeat (first | exact Found.here | apply Found.there)) one26 (by rfl) ?_) | (refine wpH_ld1 (ty := 22) rfl rfl H (by repeat (first | exact Found.here | apply Found.there)) one22 (by rfl) ?_) | (refine wpH_ld1 (ty := 91) rfl rfl H (by repeat (first | exact Found.here | apply Found.there)) one91 (by rfl) ?_)) | ((with_reducible refine at_st ?_); first | (refine wpH_st1 (ty := 3) (v := .int _ _) rfl rfl rfl rfl rfl H one3 (by repeat (first | exact Found.here | apply Found.there)) (by repeat (first | exact SetAt.z | apply SetAt.s)) (by repeat (first | exact Turned.here | apply Turned.there)) ?_; clear H; intro wN H) | (refine wpH_st1 (ty := 4) (v := .int _ _) rfl rfl rfl rfl rfl H one4 (by repeat (first | exact Found.here | apply Found.there)) (by repeat (first | exact SetAt.z | apply SetAt.s)) (by repeat (first | exact Turned.here | apply Turned.there)) ?_; clear H; intro wN H) | (refine wpH_st1 (ty := 26) (v := .int _ _) rfl rfl rfl rfl rfl H one26 (by repeat (first | exact Found.here | apply Found.there)) (by repeat (first | exact SetAt.z | apply SetAt.s)) (by repeat (first | exact Turned.here | apply Turned.there)) ?_; clear H; intro wN H) | (refine wpH_st1 (ty := 22) (v := .int _ _) rfl rfl rfl rfl rfl H one22 (by repeat (first | exact Found.here | apply Found.there)) (by repeat (first | exact SetAt.z | apply SetAt.s)) (by repeat (first | exact Turned.here | apply Turned.there)) ?_; clear H; intro wN H) | (refine wpH_st1 (ty := 91) (v := .int _ _) rfl rfl rfl rfl rfl H one91 (by repeat (first | exact Found.here | apply Found.there)) (by repeat (first | exact SetAt.z | apply SetAt.s)) (by repeat (first | exact Turned.here | apply Turned.there)) ?_; clear H; intro wN H) | (refine wpH_stA (ty := 63) rfl rfl rfl H (by repeat (first | exact Turned.here | apply Turned.there)) (by exact row63) (by rfl) (by kernel_rfl) ?_; clear H; intro wN H) | (refine wpH_stA (ty := 89) rfl rfl rfl H (by repeat (first | exact Turned.here | apply Turned.there)) (by exact row89) (by rfl) (by kernel_rfl) ?_; clear H; intro wN H) | (refine wpH_stA (ty := 109) rfl rfl rfl H (by repeat (first | exact Turned.here | apply Turned.there)) (by exact row109) (by rfl) (by kernel_rfl) ?_; clear H; intro wN H) | (refine wpH_stA (ty := 57) rfl rfl rfl H (by repeat (first | exact Turned.here | apply Turned.there)) (by exact row57) (by rfl) (by kernel_rfl) ?_; clear H; intro wN H)) | ((with_reducible refine at_al ?_); refine wpH_al rfl (by first | exact zero63 | exact zero89 | exact zero109 | exact zero57) H ?_; clear H; intro bN wN H) | ((with_reducible refine at_bx ?_); refine wpH_bxA rfl rfl H ?_; clear H; intro bN wN H)) | fail)
  have OO := (H.found .here).2
  have h1 := h.below H.grown
  have hP : ∀ q, (ldM (.pointer (some ⟨bN, 0, none⟩))).run Try.prog (wN.drewN q) = .ok (.agg #[.int .i64 m.id, .int .i64 m.fr, .int .i64 m.to, .int .i64 m.se, .int .i64 m.ac, .int .i64 m.lo, .int .i64 m.pa, .int .i64 m.hi, .int .i64 m.dr, .int .i64 m.n, .int .i64 m.st, .int .i64 m.sr, .int .i64 m.tt, .int .i64 m.tr, .int .i64 m.rr]) (wN.drewN q) := fun q => ldM_run (OO.far (Far.of_below ⟨rfl, rfl, rfl, Nat.le_refl _, fun _ _ => rfl⟩) (by simp)).c
  have hM : ∀ q, (ldM (.pointer (some ⟨g, o + t.taken * 15, none⟩))).run Try.prog (wN.drewN q) = .ok (.agg #[.int .i64 m.id, .int .i64 m.fr, .int .i64 m.to, .int .i64 m.se, .int .i64 m.ac, .int .i64 m.lo, .int .i64 m.pa, .int .i64 m.hi, .int .i64 m.dr, .int .i64 m.n, .int .i64 m.st, .int .i64 m.sr, .int .i64 m.tt, .int .i64 m.tr, .int .i64 m.rr]) (wN.drewN q) := fun q => by
    have := (h1.below (w1 := wN.drewN q) ⟨rfl, rfl, rfl, Nat.le_refl _, fun _ _ => rfl⟩).row.els t.taken hl; rw [hat] at this; exact ldM_run this
  obtain ⟨d0, d1, _, _, _, fz⟩ := h1.cells
  have EQ := fun w => eqM_same m w
  clear h1 OO hm hat
  go_quiet (fail)
  go_wp2_with (first | ((first | ((with_reducible refine at_plain ?_); intro K hK) | go_guarded); first | ((with_reducible refine at_ld ?_); first | (refine wpH_ldA (ty := 63) rfl rfl H (by repeat (first | exact Found.here | apply Found.there)) (by exact row63) ?_) | (refine wpH_ldA (ty := 89) rfl rfl H (by repeat (first | exact Found.here | apply Found.there)) (by exact row89) ?_) | (refine wpH_ldA (ty := 109) rfl rfl H (by repeat (first | exact Found.here | apply Found.there)) (by exact row109) ?_) | (refine wpH_ldA (ty := 57) rfl rfl H (by repeat (first | exact Found.here | apply Found.there)) (by exact row57) ?_) | (refine wpH_ld1 (ty := 3) rfl rfl H (by repeat (first | exact Found.here | apply Found.there)) one3 (by rfl) ?_) | (refine wpH_ld1 (ty := 4) rfl rfl H (by repeat (first | exact Found.here | apply Found.there)) one4 (by rfl) ?_) | (refine wpH_ld1 (ty := 26) rfl rfl H (by repeat (first | exact Found.here | apply Found.there)) one26 (by rfl) ?_) | (refine wpH_ld1 (ty := 22) rfl rfl H (by repeat (first | exact Found.here | apply Found.there)) one22 (by rfl) ?_) | (refine wpH_ld1 (ty := 91) rfl rfl H (by repeat (first | exact Found.here | apply Found.there)) one91 (by rfl) ?_)) | ((with_reducible refine at_st ?_); first | (refine wpH_st1 (ty := 3) (v := .int _ _) rfl rfl rfl rfl rfl H one3 (by repeat (first | exact Found.here | apply Found.there)) (by repeat (first | exact SetAt.z | apply SetAt.s)) (by repeat (first | exact Turned.here | apply Turned.there)) ?_; clear H; intro wN H) | (refine wpH_st1 (ty := 4) (v := .int _ _) rfl rfl rfl rfl rfl H one4 (by repeat (first | exact Found.here | apply Found.there)) (by repeat (first | exact SetAt.z | apply SetAt.s)) (by repeat (first | exact Turned.here | apply Turned.there)) ?_; clear H; intro wN H) | (refine wpH_st1 (ty := 26) (v := .int _ _) rfl rfl rfl rfl rfl H one26 (by repeat (first | exact Found.here | apply Found.there)) (by repeat (first | exact SetAt.z | apply SetAt.s)) (by repeat (first | exact Turned.here | apply Turned.there)) ?_; clear H; intro wN H) | (refine wpH_st1 (ty := 22) (v := .int _ _) rfl rfl rfl rfl rfl H one22 (by repeat (first | exact Found.here | apply Found.there)) (by repeat (first | exact SetAt.z | apply SetAt.s)) (by repeat (first | exact Turned.here | apply Turned.there)) ?_; clear H; intro wN H) | (refine wpH_st1 (ty := 91) (v := .int _ _) rfl rfl rfl rfl rfl H one91 (by repeat (first | exact Found.here | apply Found.there)) (by repeat (first | exact SetAt.z | apply SetAt.s)) (by repeat (first | exact Turned.here | apply Turned.there)) ?_; clear H; intro wN H) | (refine wpH_stA (ty := 63) rfl rfl rfl H (by repeat (first | exact Turned.here | apply Turned.there)) (by exact row63) (by rfl) (by kernel_rfl) ?_; clear H; intro wN H) | (refine wpH_stA (ty := 89) rfl rfl rfl H (by repeat (first | exact Turned.here | apply Turned.there)) (by exact row89) (by rfl) (by kernel_rfl) ?_; clear H; intro wN H) | (refine wpH_stA (ty := 109) rfl rfl rfl H (by repeat (first | exact Turned.here | apply Turned.there)) (by exact row109) (by rfl) (by kernel_rfl) ?_; clear H; intro wN H) | (refine wpH_stA (ty := 57) rfl rfl rfl H (by repeat (first | exact Turned.here | apply Turned.there)) (by exact row57) (by rfl) (by kernel_rfl) ?_; clear H; intro wN H)) | ((with_reducible refine at_al ?_); refine wpH_al rfl (by first | exact zero63 | exact zero89 | exact zero109 | exact zero57) H ?_; clear H; intro bN wN H) | ((with_reducible refine at_bx ?_); refine wpH_bxA rfl rfl H ?_; clear H; intro bN wN H)) | fail)
  have hN : ((t.taken : Int) + 1) = ((t.taken + 1 : Nat) : Int) := by omega
  rw [hN]
  have hb := H.grown
  generalize hW : wN.drewN _ = W at *
  have h2 := h.below (w1 := W) (hb.trans (by rw [← hW]; exact ⟨rfl, rfl, rfl, Nat.le_refl _, fun _ _ => rfl⟩))
  obtain ⟨h3, F3⟩ := h2.bump (t.taken + 1)
  go_ret
  exact ⟨rfl, h3, ((Far.of_below (hb.trans (by rw [← hW]; exact ⟨rfl, rfl, rfl, Nat.le_refl _, fun _ _ => rfl⟩))).mono (by simp)).trans (F3.mono (by simp; exact h.m1))⟩
end Go.Proofs.Ytpaalpnoppblaaa

/-! Z26 -/
namespace Go.Proofs.Ytpaalpnoppblaaa
open Go.RowKit Go.Maps
set_option linter.unusedVariables false
set_option maxRecDepth 8000
attribute [local go_sem ↓] ldM_shut stM_shut append_shut bsM_shut
theorem turn_none (t : Ty) (f : Mi → Mi) (h : t.all.length = 0) : t.turn (t.all.length - 1) f = t := by
  have e : t.all = [] := List.eq_nil_of_length_eq_zero h
  unfold Ty.turn
  simp [e]
  rw [← e]
theorem turn_at (t : Ty) (f : Mi → Mi) {j : Nat} (h : t.all.length = j + 1) (hj : j < t.all.length) : t.turn (t.all.length - 1) f = { t with all := t.all.set j (f t.all[j]) } := by
  unfold Ty.turn
  rw [acc_at t (by omega)]
  simp [h]
set_option maxHeartbeats 4000000 in
theorem tbegan_any (tb : Nat) (ao : Option Addr) (g o c : Nat) (aF : Option Addr) (gF cF : Nat) (aA : Option Addr) (gA cA : Nat) (aZ : Option Addr) (gZ cZ : Nat) (S : List Nat) (t : Ty) (a : Int) (hl : t.all.length ≤ 1000) (w : World) (h : Tys w tb ao g o c aF gF cF aA gA cA aZ gZ cZ S t) :
    Calls Try.prog 33 #[.pointer (some ⟨tb, 0, none⟩), .int .i64 t.all.length, .int .i64 a] w fun e w' => e = .returned (.bool true) ∧ ∃ S', Tya w' tb S' (bgT t a) ∧ Goes S S' w w' := by
  obtain ⟨c0, c1, c2, c3, c4, fz⟩ := h.cells
  go_enter Try.func33, Try.ntmps33
  go_upto_if 19 with fail
  go_cut [1] (fun s1 wx => s1 = .int .i64 t.all.length ∧ Tys wx tb ao g o c aF gF cF aA gA cA aZ gZ cZ S (t.turn (t.all.length - 1) (fun m => closeV m a)) ∧ Far S w wx)
  case first =>
    by_cases hn : t.all.length = 0
    · have hng : decide ((0 : Int) < (t.all.length : Int)) = false := decide_eq_false (by omega)
      have hE : Hid _ := turn_none t (fun m => closeV m a) hn
      go_wp2_with fail
      go_meet
      case rel => rw [hE.out]; exact ⟨rfl, h, Far.refl _ _⟩
    · obtain ⟨j, hj⟩ : ∃ j, t.all.length = j + 1 := ⟨t.all.length - 1, by omega⟩
      have hjl : j < t.all.length := by omega
      have hE : Hid _ := turn_at t (fun m => closeV m a) hj hjl
      obtain ⟨rfl, hg⟩ := h.row.value hjl
      obtain ⟨m, hm⟩ : ∃ m, t.all[j] = m := ⟨_, rfl⟩
      have HM : Hid (t.all[j] = m) := hm
      have HJ : Hid (t.all.length = j + 1) := hj
      have T := fun w => close_any m a w
      obtain ⟨V, hV⟩ : ∃ V, closeV m a = V := ⟨_, rfl⟩
      rw [hV] at T
      have HV : Hid (closeV m a = V) := hV
      clear hV
      generalize closeE m a = EE at *
      rw [hj] at c0
      simp only [hj, Int.natCast_add, Int.natCast_one]
      have hM : (ldM (.pointer (some ⟨g, o + j * 15, none⟩))).run Try.prog w = .ok (.agg #[.int .i64 m.id, .int .i64 m.fr, .int .i64 m.to, .int .i64 m.se, .int .i64 m.ac, .int .i64 m.lo, .int .i64 m.pa, .int .i64 m.hi, .int .i64 m.dr, .int .i64 m.n, .int .i64 m.st, .int .i64 m.sr, .int .i64 m.tt, .int .i64 m.tr, .int .i64 m.rr]) w := ldM_run (by have := h.row.els j hjl; rw [hm] at this; exact this)
      have H := Heap.nil w
      go_upto_region 5 with (first | ((first | ((with_reducible refine at_plain ?_); intro K hK) | go_guarded); first | ((with_reducible refine at_ld ?_); first | (refine wpH_ldA (ty := 63) rfl rfl H (by repeat (first | exact Found.here | apply Found.there)) (by exact row63) ?_) | (refine wpH_ldA (ty := 89) rfl rfl H (by repeat (first | exact Found.here | apply Found.there)) (by exact row89) ?_) | (refine wpH_ldA (ty := 109) rfl rfl H (by repeat (first | exact Found.here | apply Found.there)) (by exact row109) ?_) | (refine wpH_ldA (ty := 57) rfl rfl H (by repeat (first | exact Found.here | apply Found.there)) (by exact row57) ?_) | (refine wpH_ld1 (ty := 3) rfl rfl H (by repeat (first | exact Found.here | apply Found.there)) one3 (by rfl) ?_) | (refine wpH_ld1 (ty := 4) rfl rfl H (by repeat (first | exact Found.here | apply Found.there)) one4 (by rfl) ?_) | (refine wpH_ld1 (ty := 26) rfl rfl H (by repeat (first | exact Found.here | apply Found.there)) one26 (by rfl) ?_) | (refine wpH_ld1 (ty := 22) rfl rfl H (by repeat (first | exact Found.here | apply Found.there)) one22 (by rfl) ?_) | (refine wpH_ld1 (ty := 91) rfl rfl H (by repeat (first | exact Found.here | apply Found.there)) one91 (by rfl) ?_)) | ((with_reducible refine at_st ?_); first | (refine wpH_st1 (ty := 3) (v := .int _ _) rfl rfl rfl rfl rfl H one3 (by repeat (first | exact Found.here | apply Found.there)) (by repeat (first | exact SetAt.z | apply SetAt.s)) (by repeat (first | exact Turned.here | apply Turned.there)) ?_; clear H; intro wN H) | (refine wpH_st1 (ty := 4) (v := .int _ _) rfl rfl rfl rfl rfl H one4 (by repeat (first | exact Found.here | apply Found.there)) (by repeat (first | exact SetAt.z | apply SetAt.s)) (by repeat (first | exact Turned.here | apply Turned.there)) ?_; clear H; intro wN H) | (refine wpH_st1 (ty := 26) (v := .int _ _) rfl rfl rfl rfl rfl H one26 (by repeat (first | exact Found.here | apply Found.there)) (by repeat (first | exact SetAt.z | apply SetAt.s)) (by repeat (first | exact Turned.here | apply Turned.there)) ?_; clear H; intro wN H) | (refine wpH_st1 (ty := 22) (v := .int _ _) rfl rfl rfl rfl rfl H one22 (by repeat (first | exact Found.here | apply Found.there)) (by repeat (first | exact SetAt.z | apply SetAt.s)) (by repeat (first | exact Turned.here | apply Turned.there)) ?_; clear H; intro wN H) | (refine wpH_st1 (ty := 91) (v := .int _ _) rfl rfl rfl rfl rfl H one91 (by repeat (first | exact Found.here | apply Found.there)) (by repeat (first | exact SetAt.z | apply SetAt.s)) (by repeat (first | exact Turned.here | apply Turned.there)) ?_; clear H; intro wN H) | (refine wpH_stA (ty := 63) rfl rfl rfl H (by repeat (first | exact Turned.here | apply Turned.there)) (by exact row63) (by rfl) (by kernel_rfl) ?_; clear H; intro wN H) | (refine wpH_stA (ty := 89) rfl rfl rfl H (by repeat (first | exact Turned.here | apply Turned.there)) (by exact row89) (by rfl) (by kernel_rfl) ?_; clear H; intro wN H) | (refine wpH_stA (ty := 109) rfl rfl rfl H (by repeat (first | exact Turned.here | apply Turned.there)) (by exact row109) (by rfl) (by kernel_rfl) ?_; clear H; intro wN H) | (refine wpH_stA (ty := 57) rfl rfl rfl H (by repeat (first | exact Turned.here | apply Turned.there)) (by exact row57) (by rfl) (by kernel_rfl) ?_; clear H; intro wN H)) | ((with_reducible refine at_al ?_); refine wpH_al rfl (by first | exact zero63 | exact zero89 | exact zero109 | exact zero57) H ?_; clear H; intro bN wN H) | ((with_reducible refine at_bx ?_); refine wpH_bxA rfl rfl H ?_; clear H; intro bN wN H)) | (go_at_call 59; refine (T _).mono ?_; rintro e wN ⟨rfl, hw⟩; replace H := H.call hw; clear hw) | fail)
      have h1 := h.below H.grown
      have OO := (H.found Found.here).2
      obtain ⟨VN, hVN⟩ : ∃ x : Value, x = .agg #[.int .i64 V.id, .int .i64 V.fr, .int .i64 V.to, .int .i64 V.se, .int .i64 V.ac, .int .i64 V.lo, .int .i64 V.pa, .int .i64 V.hi, .int .i64 V.dr, .int .i64 V.n, .int .i64 V.st, .int .i64 V.sr, .int .i64 V.tt, .int .i64 V.tr, .int .i64 V.rr] := ⟨_, rfl⟩
      have hP : (ldM (.pointer (some ⟨bN, 0, none⟩))).run Try.prog wN.drew = .ok VN wN.drew := by
        rw [hVN]; exact ldM_run (OO.far (Far.refl [] _).drew (by simp)).c
      have h2 := h1.far (Far.refl [] _).drew (by simp)
      have hST : (stM (.pointer (some ⟨g, o + j * 15, none⟩)) VN).run Try.prog wN.drew = .ok () (wN.drew.setCells g (o + j * 15) (listM V)) := by
        rw [hVN]; exact stM_run (h2.row.there' hjl)
      have h3 := h2.put hjl V
      have k0 := h2.cells.1
      rw [HJ.out] at k0
      have kf := h2.cells.2.2.2.2.2
      have hS : ∀ k ∈ [g], k ∈ S := fun k hk => by rw [List.mem_singleton] at hk; rw [hk]; exact (h.ng (by have := h.row.cap; omega)).2
      have HE : Hid (Tys (wN.drew.setCells g (o + j * 15) (listM V)) tb (some ⟨g, o, none⟩) g o c aF gF cF aA gA cA aZ gZ cZ S { t with all := t.all.set j V } ∧ Far S w (wN.drew.setCells g (o + j * 15) (listM V))) :=
        ⟨h3.1, (((Far.of_below H.grown).mono (by simp)).drew).trans (h3.2.mono hS)⟩
      clear h h1 h2 h3 hS OO H hm hj c0 c1 c2 c3 c4 fz T hVN hM
      go_region
      all_goals go_wp2_with fail
      all_goals go_meet
      all_goals first | exact ⟨by rw [HJ.out]; simp, by rw [hE.out, HM.out, HV.out]; exact HE.out.1, HE.out.2⟩ | skip
  case rest =>
    obtain ⟨rfl, h2, F2⟩ := hcut
    have hL2 : (t.turn (t.all.length - 1) (fun m => closeV m a)).all.length = t.all.length := turn_len _ _ _
    obtain ⟨t2, ht2⟩ : ∃ t2 : Ty, t.turn (t.all.length - 1) (fun m => closeV m a) = t2 := ⟨_, rfl⟩
    rw [ht2] at h2 hL2
    have HT2 : Hid _ := ht2
    have HL2 : Hid _ := hL2
    clear ht2 c0 c1 c2 c3 c4 fz h
    rw [← hL2] at hl
    have T := fun w => aopen_any (t.all.length : Int) a w
    obtain ⟨O, hO⟩ : ∃ O, openV (t.all.length : Int) a = O := ⟨_, rfl⟩
    rw [hO] at T
    have HO : Hid (openV (t.all.length : Int) a = O) := hO
    clear hO hL2
    generalize openE (t.all.length : Int) a = EE at *
    obtain ⟨c0, c1, c2, c3, c4, fz⟩ := h2.cells
    have H := Heap.nil wc
    go_upto_region 7 with (first | ((first | ((with_reducible refine at_plain ?_); intro K hK) | go_guarded); first | ((with_reducible refine at_ld ?_); first | (refine wpH_ldA (ty := 63) rfl rfl H (by repeat (first | exact Found.here | apply Found.there)) (by exact row63) ?_) | (refine wpH_ldA (ty := 89) rfl rfl H (by repeat (first | exact Found.here | apply Found.there)) (by exact row89) ?_) | (refine wpH_ldA (ty := 109) rfl rfl H (by repeat (first | exact Found.here | apply Found.there)) (by exact row109) ?_) | (refine wpH_ldA (ty := 57) rfl rfl H (by repeat (first | exact Found.here | apply Found.there)) (by exact row57) ?_) | (refine wpH_ld1 (ty := 3) rfl rfl H (by repeat (first | exact Found.here | apply Found.there)) one3 (by rfl) ?_) | (refine wpH_ld1 (ty := 4) rfl rfl H (by repeat (first | exact Found.here | apply Found.there)) one4 (by rfl) ?_) | (refine wpH_ld1 (ty := 26) rfl rfl H (by repeat (first | exact Found.here | apply Found.there)) one26 (by rfl) ?_) | (refine wpH_ld1 (ty := 22) rfl rfl H (by repeat (first | exact Found.here | apply Found.there)) one22 (by rfl) ?_) | (refine wpH_ld1 (ty := 91) rfl rfl H (by repeat (first | exact Found.here | apply Found.there)) one91 (by rfl) ?_)) | ((with_reducible refine at_st ?_); first | (refine wpH_st1 (ty := 3) (v := .int _ _) rfl rfl rfl rfl rfl H one3 (by repeat (first | exact Found.here | apply Found.there)) (by repeat (first | exact SetAt.z | apply SetAt.s)) (by repeat (first | exact Turned.here | apply Turned.there)) ?_; clear H; intro wN H) | (refine wpH_st1 (ty := 4) (v := .int _ _) rfl rfl rfl rfl rfl H one4 (by repeat (first | exact Found.here | apply Found.there)) (by repeat (first | exact SetAt.z | apply SetAt.s)) (by repeat (first | exact Turned.here | apply Turned.there)) ?_; clear H; intro wN H) | (refine wpH_st1 (ty := 26) (v := .int _ _) rfl rfl rfl rfl rfl H one26 (by repeat (first | exact Found.here | apply Found.there)) (by repeat (first | exact SetAt.z | apply SetAt.s)) (by repeat (first | exact Turned.here | apply Turned.there)) ?_; clear H; intro wN H) | (refine wpH_st1 (ty := 22) (v := .int _ _) rfl rfl rfl rfl rfl H one22 (by repeat (first | exact Found.here | apply Found.there)) (by repeat (first | exact SetAt.z | apply SetAt.s)) (by repeat (first | exact Turned.here | apply Turned.there)) ?_; clear H; intro wN H) | (refine wpH_st1 (ty := 91) (v := .int _ _) rfl rfl rfl rfl rfl H one91 (by repeat (first | exact Found.here | apply Found.there)) (by repeat (first | exact SetAt.z | apply SetAt.s)) (by repeat (first | exact Turned.here | apply Turned.there)) ?_; clear H; intro wN H) | (refine wpH_stA (ty := 63) rfl rfl rfl H (by repeat (first | exact Turned.here | apply Turned.there)) (by exact row63) (by rfl) (by kernel_rfl) ?_; clear H; intro wN H) | (refine wpH_stA (ty := 89) rfl rfl rfl H (by repeat (first | exact Turned.here | apply Turned.there)) (by exact row89) (by rfl) (by kernel_rfl) ?_; clear H; intro wN H) | (refine wpH_stA (ty := 109) rfl rfl rfl H (by repeat (first | exact Turned.here | apply Turned.there)) (by exact row109) (by rfl) (by kernel_rfl) ?_; clear H; intro wN H) | (refine wpH_stA (ty := 57) rfl rfl rfl H (by repeat (first | exact Turned.here | apply Turned.there)) (by exact row57) (by rfl) (by kernel_rfl) ?_; clear H; intro wN H)) | ((with_reducible refine at_al ?_); refine wpH_al rfl (by first | exact zero63 | exact zero89 | exact zero109 | exact zero57) H ?_; clear H; intro bN wN H) | ((with_reducible refine at_bx ?_); refine wpH_bxA rfl rfl H ?_; clear H; intro bN wN H)) | (go_at_call 60; refine (T _).mono ?_; rintro e wN ⟨rfl, hw⟩; replace H := H.call hw; clear hw) | fail)
    have h3 := h2.below H.grown
    have OO := (H.found Found.here).2
    have F3 : Far S w wN := F2.trans ((Far.of_below H.grown).mono (by simp))
    clear h2 F2 H c0 c1 c2 c3 c4 fz T
    obtain ⟨ao', g', o', c', w', hAPP, hMis, hFar, hg'⟩ := app_run 36 (h3.row.far (Far.refl [] _).drew (by simp)) (by omega) O
    obtain ⟨h4, G4⟩ := (h3.far (Far.refl [] _).drew (by simp)).more hFar hMis hg'
    obtain ⟨VO, hVO⟩ : ∃ x : Value, x = .agg #[.int .i64 O.id, .int .i64 O.fr, .int .i64 O.to, .int .i64 O.se, .int .i64 O.ac, .int .i64 O.lo, .int .i64 O.pa, .int .i64 O.hi, .int .i64 O.dr, .int .i64 O.n, .int .i64 O.st, .int .i64 O.sr, .int .i64 O.tt, .int .i64 O.tr, .int .i64 O.rr] := ⟨_, rfl⟩
    have hO1 : (ldM (.pointer (some ⟨bN, 0, none⟩))).run Try.prog wN.drew = .ok VO wN.drew := by
      rw [hVO]; exact ldM_run (OO.far (Far.refl [] _).drew (by simp)).c
    have hBS : (bsM 1 #[(0, .agg #[.int .i64 O.id, .int .i64 O.fr, .int .i64 O.to, .int .i64 O.se, .int .i64 O.ac, .int .i64 O.lo, .int .i64 O.pa, .int .i64 O.hi, .int .i64 O.dr, .int .i64 O.n, .int .i64 O.st, .int .i64 O.sr, .int .i64 O.tt, .int .i64 O.tr, .int .i64 O.rr])]).run Try.prog wN.drew = .ok (.slice (some ⟨wN.heap.size, 0, none⟩) 1 1) (wN.alloc (.cells #[.int .i64 O.id, .int .i64 O.fr, .int .i64 O.to, .int .i64 O.se, .int .i64 O.ac, .int .i64 O.lo, .int .i64 O.pa, .int .i64 O.hi, .int .i64 O.dr, .int .i64 O.n, .int .i64 O.st, .int .i64 O.sr, .int .i64 O.tt, .int .i64 O.tr, .int .i64 O.rr] 63)).drew := bsM_run O wN.drew
    rw [← hVO] at hBS
    have hAPP2 : (apx #[36, 36] 36 #[.slice ao t2.all.length c, .slice (some ⟨wN.heap.size, 0, none⟩) 1 1]).run Try.prog (wN.alloc (.cells #[.int .i64 O.id, .int .i64 O.fr, .int .i64 O.to, .int .i64 O.se, .int .i64 O.ac, .int .i64 O.lo, .int .i64 O.pa, .int .i64 O.hi, .int .i64 O.dr, .int .i64 O.n, .int .i64 O.st, .int .i64 O.sr, .int .i64 O.tt, .int .i64 O.tr, .int .i64 O.rr] 63)).drew = .ok (.slice ao' (t2.all.length + 1) c') w' := hAPP
    have h3D : wN.cell? ⟨tb, 0, none⟩ = some (.slice ao t2.all.length c) := h3.cells.1
    have HBA := h3.far ((Far.refl [] _).drew.alloc (.cells #[.int .i64 O.id, .int .i64 O.fr, .int .i64 O.to, .int .i64 O.se, .int .i64 O.ac, .int .i64 O.lo, .int .i64 O.pa, .int .i64 O.hi, .int .i64 O.dr, .int .i64 O.n, .int .i64 O.st, .int .i64 O.sr, .int .i64 O.tt, .int .i64 O.tr, .int .i64 O.rr] 63)) (by simp)
    have h3A : (wN.alloc (.cells #[.int .i64 O.id, .int .i64 O.fr, .int .i64 O.to, .int .i64 O.se, .int .i64 O.ac, .int .i64 O.lo, .int .i64 O.pa, .int .i64 O.hi, .int .i64 O.dr, .int .i64 O.n, .int .i64 O.st, .int .i64 O.sr, .int .i64 O.tt, .int .i64 O.tr, .int .i64 O.rr] 63)).cell? ⟨tb, 0, none⟩ = some (.slice ao t2.all.length c) := HBA.cells.1
    have hnb : tb ∉ (if 0 < c then [g] else []) := by
      split
      · rename_i hc; simp; exact fun e => (h3.ng hc).1 e.symm
      · simp
    have OBW := (h3.far (Far.refl [] _).drew (by simp)).ob.far hFar hnb
    have h3W : w'.cell? ⟨tb, 0, none⟩ = some (.slice ao t2.all.length c) := OBW.cell rfl
    have hfW : w'.frozen? ⟨tb, 0, none⟩ = false := OBW.f 0
    have HR : Hid (Tya (w'.setCell ⟨tb, 0, none⟩ (.slice ao' (t2.all.length + 1) c')) tb (g' :: S) (bgT t a) ∧ Goes S (g' :: S) w (w'.setCell ⟨tb, 0, none⟩ (.slice ao' (t2.all.length + 1) c'))) := by
      refine ⟨⟨ao', g', o', c', aF, gF, cF, aA, gA, cA, aZ, gZ, cZ, ?_⟩, (⟨F3.drew, fun k hk => .inl hk⟩ : Goes S S w wN.drew).trans G4⟩
      have e : bgT t a = { t2 with all := t2.all ++ [O] } := by
        rw [← HO.out, ← HT2.out]; rfl
      rw [e]; exact h4
    clear OO OBW h3 HBA hFar hMis hVO hnb F3 G4 h4 hg' hAPP
    go_cut [] (fun wx => wx = w'.setCell ⟨tb, 0, none⟩ (.slice ao' (t2.all.length + 1) c'))
    case first =>
      go_region
      all_goals go_wp2_with fail
      all_goals go_meet
      all_goals rfl
    case rest =>
      subst hcut
      clear hAPP2 hO1 hBS h3D h3A h3W hfW
      go_wp2_with fail
      go_ret
      exact ⟨rfl, _, HR.out⟩
end Go.Proofs.Ytpaalpnoppblaaa

/-! Z28 -/
namespace Go.Proofs.Ytpaalpnoppblaaa
open Go.RowKit Go.Maps
set_option linter.unusedVariables false
set_option maxRecDepth 8000
attribute [local go_sem ↓] ldM_shut stM_shut append_shut bsN_shut
set_option maxHeartbeats 4000000 in
theorem tsentz_any (tb : Nat) (ao : Option Addr) (g o c : Nat) (aF : Option Addr) (gF cF : Nat) (aA : Option Addr) (gA cA : Nat) (aZ : Option Addr) (gZ cZ : Nat) (S : List Nat) (all : List Mi) (k : Nat) (F A Z : List Int) (z a : Int) (j : Nat) (m : Mi) (hj : all.length = j + 1) (hm : all[j]? = some m) (hl : all.length ≤ 1000) (hF : F.length ≤ 1000) (hA : A.length ≤ 1000) (hZ : Z.length ≤ 1000)
    (w : World) (h : Tyz w tb ao g o c aF gF cF aA gA cA aZ gZ cZ S all k F A Z) :
    Calls Try.prog 34 #[.pointer (some ⟨tb, 0, none⟩), .int .u64 F.length, .int .i64 z, .int .i64 a] w fun e w' => e = .returned (.bool true) ∧
      ∃ aF' gF' cF' aA' gA' cA' aZ' gZ' cZ' S', Tyz w' tb ao g o c aF' gF' cF' aA' gA' cA' aZ' gZ' cZ' S' (all.set j (sendV m z)) k (F ++ [(j : Int)]) (A ++ [a]) (Z ++ [z]) ∧ Goes S S' w w' := by
  have hjl : j < all.length := by omega
  have HJ : Hid (all.length = j + 1) := hj
  obtain ⟨rfl, hg⟩ := h.row.value hjl
  obtain ⟨c0, c1, c2, c3, c4, fz⟩ := h.cells
  rw [hj] at c0
  have hne : ¬ ((j : Int) + 1 = 0) := by omega
  have HM : Hid (all[j]? = some m) := hm
  have hw : IntKind.u64.wrap (F.length : Int) = F.length := by unfold IntKind.wrap; simp [IntKind.bits, IntKind.signed]; omega
  clear hj hm
  go_enter Try.func34, Try.ntmps34
  go_upto_region 4 with fail
  obtain ⟨aF', gF', cF', w1, r1, M1, K1, g1⟩ := napp_run 48 h.rF (by omega) (j : Int)
  have b1 := bsN_run (j : Int) w
  have x1 : (w.alloc (.cells #[.int .i64 j] 3)).cell? ⟨tb, 2, none⟩ = some (.slice aF F.length cF) := (h.far ((Far.refl [] w).alloc (.cells #[.int .i64 j] 3)) (by simp)).cells.2.2.1
  have y1 := h.ob.far K1 (fun hk => by obtain ⟨hX, e⟩ := in_old hk; exact (h.nF hX).1 e.symm)
  have y2 : w1.cell? ⟨tb, 2, none⟩ = some (.slice aF F.length cF) := y1.cell rfl
  have yf := y1.f
  obtain ⟨h1, G1⟩ := h.moreF K1 M1 g1
  clear M1 K1 g1 y1 h
  go_upto_region 5 with fail
  generalize w1.setCell ⟨tb, 2, none⟩ (.slice aF' (F.length + 1) cF') = W1 at *
  clear r1 b1 x1 y2 yf c0 c1 c2 c3 c4 fz
  obtain ⟨c0, c1, c2, c3, c4, fz⟩ := h1.cells
  rw [HJ.out] at c0
  obtain ⟨aA', gA', cA', w2, r2, M2, K2, g2⟩ := napp_run 48 h1.rA (by omega) a
  have b2 := bsN_run a W1
  have x2 : (W1.alloc (.cells #[.int .i64 a] 3)).cell? ⟨tb, 3, none⟩ = some (.slice aA A.length cA) := (h1.far ((Far.refl [] W1).alloc (.cells #[.int .i64 a] 3)) (by simp)).cells.2.2.2.1
  have y1 := h1.ob.far K2 (fun hk => by obtain ⟨hX, e⟩ := in_old hk; exact (h1.nA hX).1 e.symm)
  have y2 : w2.cell? ⟨tb, 3, none⟩ = some (.slice aA A.length cA) := y1.cell rfl
  have yf := y1.f
  obtain ⟨h2, G2⟩ := h1.moreA K2 M2 g2
  clear M2 K2 g2 y1 h1
  go_upto_region 6 with fail
  generalize w2.setCell ⟨tb, 3, none⟩ (.slice aA' (A.length + 1) cA') = W2 at *
  clear r2 b2 x2 y2 yf c0 c1 c2 c3 c4 fz
  obtain ⟨c0, c1, c2, c3, c4, fz⟩ := h2.cells
  rw [HJ.out] at c0
  obtain ⟨aZ', gZ', cZ', w3, r3, M3, K3, g3⟩ := napp_run 48 h2.rZ (by omega) z
  have b3 := bsN_run z W2
  have x3 : (W2.alloc (.cells #[.int .i64 z] 3)).cell? ⟨tb, 4, none⟩ = some (.slice aZ Z.length cZ) := (h2.far ((Far.refl [] W2).alloc (.cells #[.int .i64 z] 3)) (by simp)).cells.2.2.2.2.1
  have y1 := h2.ob.far K3 (fun hk => by obtain ⟨hX, e⟩ := in_old hk; exact (h2.nZ hX).1 e.symm)
  have y2 : w3.cell? ⟨tb, 4, none⟩ = some (.slice aZ Z.length cZ) := y1.cell rfl
  have yf := y1.f
  obtain ⟨h3, G3⟩ := h2.moreZ K3 M3 g3
  clear M3 K3 g3 y1 h2
  go_upto_region 7 with fail
  generalize w3.setCell ⟨tb, 4, none⟩ (.slice aZ' (Z.length + 1) cZ') = W3 at *
  clear r3 b3 x3 y2 yf c0 c1 c2 c3 c4 fz hw
  have G := (G1.trans G2).trans G3
  clear G1 G2 G3
  obtain ⟨c0, c1, c2, c3, c4, fz⟩ := h3.cells
  rw [HJ.out] at c0
  have T := fun w => asend_any m z w
  obtain ⟨V, hV⟩ : ∃ V, sendV m z = V := ⟨_, rfl⟩
  rw [hV] at T
  have HV : Hid (sendV m z = V) := hV
  clear hV
  generalize sendE m z = EE at *
  have hM : (ldM (.pointer (some ⟨g, o + j * 15, none⟩))).run Try.prog W3 = .ok (.agg #[.int .i64 m.id, .int .i64 m.fr, .int .i64 m.to, .int .i64 m.se, .int .i64 m.ac, .int .i64 m.lo, .int .i64 m.pa, .int .i64 m.hi, .int .i64 m.dr, .int .i64 m.n, .int .i64 m.st, .int .i64 m.sr, .int .i64 m.tt, .int .i64 m.tr, .int .i64 m.rr]) W3 := ldM_run (by have := h3.row.els j hjl; rw [Option.some.inj ((List.getElem?_eq_getElem hjl).symm.trans HM.out)] at this; exact this)
  have H := Heap.nil W3
  go_upto_region 8 with (first | ((first | ((with_reducible refine at_plain ?_); intro K hK) | go_guarded); first | ((with_reducible refine at_ld ?_); first | (refine wpH_ldA (ty := 63) rfl rfl H (by repeat (first | exact Found.here | apply Found.there)) (by exact row63) ?_) | (refine wpH_ldA (ty := 89) rfl rfl H (by repeat (first | exact Found.here | apply Found.there)) (by exact row89) ?_) | (refine wpH_ldA (ty := 109) rfl rfl H (by repeat (first | exact Found.here | apply Found.there)) (by exact row109) ?_) | (refine wpH_ldA (ty := 57) rfl rfl H (by repeat (first | exact Found.here | apply Found.there)) (by exact row57) ?_) | (refine wpH_ld1 (ty := 3) rfl rfl H (by repeat (first | exact Found.here | apply Found.there)) one3 (by rfl) ?_) | (refine wpH_ld1 (ty := 4) rfl rfl H (by repeat (first | exact Found.here | apply Found.there)) one4 (by rfl) ?_) | (refine wpH_ld1 (ty := 26) rfl rfl H (by repeat (first | exact Found.here | apply Found.there)) one26 (by rfl) ?_) | (refine wpH_ld1 (ty := 22) rfl rfl H (by repeat (first | exact Found.here | apply Found.there)) one22 (by rfl) ?_) | (refine wpH_ld1 (ty := 91) rfl rfl H (by repeat (first | exact Found.here | apply Found.there)) one91 (by rfl) ?_)) | ((with_reducible refine at_st ?_); first | (refine wpH_st1 (ty := 3) (v := .int _ _) rfl rfl rfl rfl rfl H one3 (by repeat (first | exact Found.here | apply Found.there)) (by repeat (first | exact SetAt.z | apply SetAt.s)) (by repeat (first | exact Turned.here | apply Turned.there)) ?_; clear H; intro wN H) | (refine wpH_st1 (ty := 4) (v := .int _ _) rfl rfl rfl rfl rfl H one4 (by repeat (first | exact Found.here | apply Found.there)) (by repeat (first | exact SetAt.z | apply SetAt.s)) (by repeat (first | exact Turned.here | apply Turned.there)) ?_; clear H; intro wN H) | (refine wpH_st1 (ty := 26) (v := .int _ _) rfl rfl rfl rfl rfl H one26 (by repeat (first | exact Found.here | apply Found.there)) (by repeat (first | exact SetAt.z | apply SetAt.s)) (by repeat (first | exact Turned.here | apply Turned.there)) ?_; clear H; intro wN H) | (refine wpH_st1 (ty := 22) (v := .int _ _) rfl rfl rfl rfl rfl H one22 (by repeat (first | exact Found.here | apply Found.there)) (by repeat (first | exact SetAt.z | apply SetAt.s)) (by repeat (first | exact Turned.here | apply Turned.there)) ?_; clear H; intro wN H) | (refine wpH_st1 (ty := 91) (v := .int _ _) rfl rfl rfl rfl rfl H one91 (by repeat (first | exact Found.here | apply Found.there)) (by repeat (first | exact SetAt.z | apply SetAt.s)) (by repeat (first | exact Turned.here | apply Turned.there)) ?_; clear H; intro wN H) | (refine wpH_stA (ty := 63) rfl rfl rfl H (by repeat (first | exact Turned.here | apply Turned.there)) (by exact row63) (by rfl) (by kernel_rfl) ?_; clear H; intro wN H) | (refine wpH_stA (ty := 89) rfl rfl rfl H (by repeat (first | exact Turned.here | apply Turned.there)) (by exact row89) (by rfl) (by kernel_rfl) ?_; clear H; intro wN H) | (refine wpH_stA (ty := 109) rfl rfl rfl H (by repeat (first | exact Turned.here | apply Turned.there)) (by exact row109) (by rfl) (by kernel_rfl) ?_; clear H; intro wN H) | (refine wpH_stA (ty := 57) rfl rfl rfl H (by repeat (first | exact Turned.here | apply Turned.there)) (by exact row57) (by rfl) (by kernel_rfl) ?_; clear H; intro wN H)) | ((with_reducible refine at_al ?_); refine wpH_al rfl (by first | exact zero63 | exact zero89 | exact zero109 | exact zero57) H ?_; clear H; intro bN wN H) | ((with_reducible refine at_bx ?_); refine wpH_bxA rfl rfl H ?_; clear H; intro bN wN H)) | (go_at_call 61; refine (T _).mono ?_; rintro e wN ⟨rfl, hw⟩; replace H := H.call hw; clear hw) | fail)
  have h4 := h3.below H.grown
  have OO := (H.found Found.here).2
  obtain ⟨VN, hVN⟩ : ∃ x : Value, x = .agg #[.int .i64 V.id, .int .i64 V.fr, .int .i64 V.to, .int .i64 V.se, .int .i64 V.ac, .int .i64 V.lo, .int .i64 V.pa, .int .i64 V.hi, .int .i64 V.dr, .int .i64 V.n, .int .i64 V.st, .int .i64 V.sr, .int .i64 V.tt, .int .i64 V.tr, .int .i64 V.rr] := ⟨_, rfl⟩
  have hP : (ldM (.pointer (some ⟨bN, 0, none⟩))).run Try.prog wN.drew = .ok VN wN.drew := by
    rw [hVN]; exact ldM_run (OO.far (Far.refl [] _).drew (by simp)).c
  have h5 := h4.far (Far.refl [] _).drew (by simp)
  have hST : (stM (.pointer (some ⟨g, o + j * 15, none⟩)) VN).run Try.prog wN.drew = .ok () (wN.drew.setCells g (o + j * 15) (listM V)) := by
    rw [hVN]; exact stM_run (h5.row.there' hjl)
  have h6 := h5.put hjl V
  have k0 := h5.cells.1
  rw [HJ.out] at k0
  have kf := h5.cells.2.2.2.2.2
  have hc : 0 < c := by have := h3.row.cap; omega
  have HE : Hid (Goes S (gZ' :: gA' :: gF' :: S) w (wN.drew.setCells g (o + j * 15) (listM V))) :=
    G.trans ⟨(((Far.of_below H.grown).mono (by simp)).drew).trans (h6.2.mono (fun k hk => by rw [List.mem_singleton] at hk; rw [hk]; exact (h3.ng hc).2)), fun k hk => .inl hk⟩
  have HR := h6.1
  clear h3 h4 h5 h6 OO H c0 c1 c2 c3 c4 fz T hVN hM G
  go_cut [] (fun wx => wx = wN.drew.setCells g (o + j * 15) (listM V))
  case first =>
    go_region
    all_goals go_wp2_with fail
    all_goals go_meet
    all_goals rfl
  case rest =>
    subst hcut
    clear hP hST k0 kf
    go_wp2_with fail
    go_ret
    exact ⟨rfl, _, _, _, _, _, _, _, _, _, _, by rw [HV.out]; exact HR, HE.out⟩
theorem tsent_any (tb : Nat) (S : List Nat) (t : Ty) (first z a : Int) (hn : t.all.length ≠ 0) (hl : t.all.length ≤ 1000) (hP : t.P.length ≤ 1000) (w : World) (h : Tya w tb S t) :
    Calls Try.prog 34 #[.pointer (some ⟨tb, 0, none⟩), .int .u64 t.P.length, .int .i64 z, .int .i64 a] w fun e w' => e = .returned (.bool true) ∧ ∃ S', Tya w' tb S' (sdT first t z a) ∧ Goes S S' w w' := by
  obtain ⟨ao, g, o, c, aF, gF, cF, aA, gA, cA, aZ, gZ, cZ, h⟩ := h
  obtain ⟨j, hj⟩ : ∃ j, t.all.length = j + 1 := ⟨t.all.length - 1, by omega⟩
  have hz := h.z
  have T := tsentz_any tb ao g o c aF gF cF aA gA cA aZ gZ cZ S t.all t.taken _ _ _ z a j (t.all[j]'(by omega)) hj (List.getElem?_eq_getElem (by omega)) hl (by simpa using hP) (by simpa using hP) (by simpa using hP) w hz
  rw [show ((t.P.map Pt.mi).length : Int) = (t.P.length : Int) by simp] at T
  refine T.mono ?_
  rintro e w1 ⟨he, aF', gF', cF', aA', gA', cA', aZ', gZ', cZ', S', h1, G1⟩
  have h2 := h1.s (P := t.P ++ [⟨first + t.P.length, t.all.length - 1, z, a⟩]) (by simp [hj]) (by simp) (by simp)
  have e : sdT first t z a = ⟨t.all.set j (sendV (t.all[j]'(by omega)) z), t.taken, t.P ++ [⟨first + t.P.length, t.all.length - 1, z, a⟩]⟩ := by
    unfold sdT Ty.turn
    rw [acc_at t (by omega)]
    simp [hj]
  refine ⟨he, S', ?_, G1⟩
  rw [e]
  exact ⟨_, _, _, _, _, _, _, _, _, _, _, _, _, h2⟩
end Go.Proofs.Ytpaalpnoppblaaa

/-! Z29 -/
namespace Go.Proofs.Ytpaalpnoppblaaa
open Go.RowKit Go.Maps
set_option linter.unusedVariables false
set_option maxRecDepth 8000
/-- An account stored into a variable that was just made. -/
theorem n_st (V : Mi) (w : World) : (stM (.pointer (some ⟨w.heap.size, 0, none⟩)) (.agg #[.int .i64 V.id, .int .i64 V.fr, .int .i64 V.to, .int .i64 V.se, .int .i64 V.ac, .int .i64 V.lo, .int .i64 V.pa, .int .i64 V.hi, .int .i64 V.dr, .int .i64 V.n, .int .i64 V.st, .int .i64 V.sr, .int .i64 V.tt, .int .i64 V.tr, .int .i64 V.rr])).run Try.prog (w.alloc (.cells #[.int .i64 0, .int .i64 0, .int .i64 0, .int .i64 0, .int .i64 0, .int .i64 0, .int .i64 0, .int .i64 0, .int .i64 0, .int .i64 0, .int .i64 0, .int .i64 0, .int .i64 0, .int .i64 0, .int .i64 0] 63)) = .ok () ((w.alloc (.cells #[.int .i64 0, .int .i64 0, .int .i64 0, .int .i64 0, .int .i64 0, .int .i64 0, .int .i64 0, .int .i64 0, .int .i64 0, .int .i64 0, .int .i64 0, .int .i64 0, .int .i64 0, .int .i64 0, .int .i64 0] 63)).setCells w.heap.size 0 (listM V)) :=
  stM_run (Ob.fresh w #[.int .i64 0, .int .i64 0, .int .i64 0, .int .i64 0, .int .i64 0, .int .i64 0, .int .i64 0, .int .i64 0, .int .i64 0, .int .i64 0, .int .i64 0, .int .i64 0, .int .i64 0, .int .i64 0, .int .i64 0] 63).there
theorem n_ob (V : Mi) (w : World) : Ob ((w.alloc (.cells #[.int .i64 0, .int .i64 0, .int .i64 0, .int .i64 0, .int .i64 0, .int .i64 0, .int .i64 0, .int .i64 0, .int .i64 0, .int .i64 0, .int .i64 0, .int .i64 0, .int .i64 0, .int .i64 0, .int .i64 0] 63)).setCells w.heap.size 0 (listM V)) w.heap.size (listM V) := (Ob.fresh w #[.int .i64 0, .int .i64 0, .int .i64 0, .int .i64 0, .int .i64 0, .int .i64 0, .int .i64 0, .int .i64 0, .int .i64 0, .int .i64 0, .int .i64 0, .int .i64 0, .int .i64 0, .int .i64 0, .int .i64 0] 63).setCells_same rfl
theorem o_st {V : Mi} {w w1 : World} (h : Below (w.alloc (.cells #[.int .i64 0, .int .i64 0, .int .i64 0, .int .i64 0, .int .i64 0, .int .i64 0, .int .i64 0, .int .i64 0, .int .i64 0, .int .i64 0, .int .i64 0, .int .i64 0, .int .i64 0, .int .i64 0, .int .i64 0] 63)).heap.size (w.alloc (.cells #[.int .i64 0, .int .i64 0, .int .i64 0, .int .i64 0, .int .i64 0, .int .i64 0, .int .i64 0, .int .i64 0, .int .i64 0, .int .i64 0, .int .i64 0, .int .i64 0, .int .i64 0, .int .i64 0, .int .i64 0] 63)) w1) : (stM (.pointer (some ⟨w.heap.size, 0, none⟩)) (.agg #[.int .i64 V.id, .int .i64 V.fr, .int .i64 V.to, .int .i64 V.se, .int .i64 V.ac, .int .i64 V.lo, .int .i64 V.pa, .int .i64 V.hi, .int .i64 V.dr, .int .i64 V.n, .int .i64 V.st, .int .i64 V.sr, .int .i64 V.tt, .int .i64 V.tr, .int .i64 V.rr])).run Try.prog w1 = .ok () (w1.setCells w.heap.size 0 (listM V)) :=
  stM_run ((Ob.fresh w #[.int .i64 0, .int .i64 0, .int .i64 0, .int .i64 0, .int .i64 0, .int .i64 0, .int .i64 0, .int .i64 0, .int .i64 0, .int .i64 0, .int .i64 0, .int .i64 0, .int .i64 0, .int .i64 0, .int .i64 0] 63).far (Far.of_below h) (by simp)).there
theorem o_ob {V : Mi} {w w1 : World} (h : Below (w.alloc (.cells #[.int .i64 0, .int .i64 0, .int .i64 0, .int .i64 0, .int .i64 0, .int .i64 0, .int .i64 0, .int .i64 0, .int .i64 0, .int .i64 0, .int .i64 0, .int .i64 0, .int .i64 0, .int .i64 0, .int .i64 0] 63)).heap.size (w.alloc (.cells #[.int .i64 0, .int .i64 0, .int .i64 0, .int .i64 0, .int .i64 0, .int .i64 0, .int .i64 0, .int .i64 0, .int .i64 0, .int .i64 0, .int .i64 0, .int .i64 0, .int .i64 0, .int .i64 0, .int .i64 0] 63)) w1) : Ob (w1.setCells w.heap.size 0 (listM V)) w.heap.size (listM V) :=
  ((Ob.fresh w #[.int .i64 0, .int .i64 0, .int .i64 0, .int .i64 0, .int .i64 0, .int .i64 0, .int .i64 0, .int .i64 0, .int .i64 0, .int .i64 0, .int .i64 0, .int .i64 0, .int .i64 0, .int .i64 0, .int .i64 0] 63).far (Far.of_below h) (by simp)).setCells_same rfl
theorem n_below {W w3 : World} {vs : List Value} (h : Below W.heap.size W w3) : Below W.heap.size W ((w3.alloc (.cells #[.int .i64 0, .int .i64 0, .int .i64 0, .int .i64 0, .int .i64 0, .int .i64 0, .int .i64 0, .int .i64 0, .int .i64 0, .int .i64 0, .int .i64 0, .int .i64 0, .int .i64 0, .int .i64 0, .int .i64 0] 63)).setCells w3.heap.size 0 vs) :=
  Below.setCells w3.heap.size h.size vs 0 _ (h.alloc h.size _)
theorem o_below {W w3 : World} {vs : List Value} (h : Below W.heap.size W w3) : Below W.heap.size W (w3.setCells W.heap.size 0 vs) := Below.setCells W.heap.size (Nat.le_refl _) vs 0 _ h
theorem d_below {w w1 : World} (h : Below w.drew.heap.size w.drew w1) : Below w.heap.size w w1 := ⟨h.os, h.tape, h.output, h.size, h.block⟩
attribute [local go_sem ↓] ldM_shut stM_shut
set_option maxHeartbeats 4000000 in
theorem tlost_any (tb : Nat) (ao : Option Addr) (g o c : Nat) (aF : Option Addr) (gF cF : Nat) (aA : Option Addr) (gA cA : Nat) (aZ : Option Addr) (gZ cZ : Nat) (S : List Nat) (t : Ty) (q z x : Int) (j i : Nat) (m : Mi) (hp : t.P[j]? = some ⟨q, i, z, x⟩) (hm : t.all[i]? = some m) (hl : t.all.length ≤ 1000) (hP : t.P.length ≤ 1000) 
    (w : World) (h : Tys w tb ao g o c aF gF cF aA gA cA aZ gZ cZ S t) :
    Calls Try.prog 35 #[.pointer (some ⟨tb, 0, none⟩), .int .u64 j, .agg #[.int .u64 q, .int .i64 i, .int .i64 z, .int .i64 x], .int .i64 (-1)] w fun e w' => e = .returned (.bool true) ∧
      Tys w' tb ao g o c aF gF cF aA gA cA aZ gZ cZ S { t with all := t.all.set i (loseV m z) } ∧ Far S w w' := by
  have hpx : (t.P.map Pt.mi)[j]? = some (i : Int) ∧ (t.P.map Pt.sent)[j]? = some x ∧ (t.P.map Pt.size)[j]? = some z := ⟨by simp [hp], by simp [hp], by simp [hp]⟩
  have hj := (List.getElem?_eq_some_iff.1 hp).1
  have hi := (List.getElem?_eq_some_iff.1 hm).1
  have HM : Hid (t.all[i] = m) := Option.some.inj ((List.getElem?_eq_getElem hi).symm.trans hm)
  have hc : 0 < c := by have := h.row.cap; omega
  obtain ⟨rfl, hg⟩ := h.row.value hi
  obtain ⟨rfl, f1, f2⟩ := h.rF.at' hpx.1
  obtain ⟨rfl, g1, g2⟩ := h.rA.at' hpx.2.1
  obtain ⟨rfl, e1, e2⟩ := h.rZ.at' hpx.2.2
  have hw : IntKind.u64.wrap (t.P.length : Int) = t.P.length := by unfold IntKind.wrap; simp [IntKind.bits, IntKind.signed]; omega
  have hjw : IntKind.u64.wrap (j : Int) = j := by unfold IntKind.wrap; simp [IntKind.bits, IntKind.signed]; omega
  clear hp hm f1 f2 g1 g2 e1 e2
  have H := Heap.nil w
  go_enter Try.func35, Try.ntmps35
  go_upto_region 1 with (first | ((first | ((with_reducible refine at_plain ?_); intro K hK) | go_guarded); first | ((with_reducible refine at_ld ?_); first | (refine wpH_ldA (ty := 63) rfl rfl H (by repeat (first | exact Found.here | apply Found.there)) (by exact row63) ?_) | (refine wpH_ldA (ty := 89) rfl rfl H (by repeat (first | exact Found.here | apply Found.there)) (by exact row89) ?_) | (refine wpH_ldA (ty := 109) rfl rfl H (by repeat (first | exact Found.here | apply Found.there)) (by exact row109) ?_) | (refine wpH_ldA (ty := 57) rfl rfl H (by repeat (first | exact Found.here | apply Found.there)) (by exact row57) ?_) | (refine wpH_ld1 (ty := 3) rfl rfl H (by repeat (first | exact Found.here | apply Found.there)) one3 (by rfl) ?_) | (refine wpH_ld1 (ty := 4) rfl rfl H (by repeat (first | exact Found.here | apply Found.there)) one4 (by rfl) ?_) | (refine wpH_ld1 (ty := 26) rfl rfl H (by repeat (first | exact Found.here | apply Found.there)) one26 (by rfl) ?_) | (refine wpH_ld1 (ty := 22) rfl rfl H (by repeat (first | exact Found.here | apply Found.there)) one22 (by rfl) ?_) | (refine wpH_ld1 (ty := 91) rfl rfl H (by repeat (first | exact Found.here | apply Found.there)) one91 (by rfl) ?_)) | ((with_reducible refine at_st ?_); first | (refine wpH_st1 (ty := 3) (v := .int _ _) rfl rfl rfl rfl rfl H one3 (by repeat (first | exact Found.here | apply Found.there)) (by repeat (first | exact SetAt.z | apply SetAt.s)) (by repeat (first | exact Turned.here | apply Turned.there)) ?_; clear H; intro wN H) | (refine wpH_st1 (ty := 4) (v := .int _ _) rfl rfl rfl rfl rfl H one4 (by repeat (first | exact Found.here | apply Found.there)) (by repeat (first | exact SetAt.z | apply SetAt.s)) (by repeat (first | exact Turned.here | apply Turned.there)) ?_; clear H; intro wN H) | (refine wpH_st1 (ty := 26) (v := .int _ _) rfl rfl rfl rfl rfl H one26 (by repeat (first | exact Found.here | apply Found.there)) (by repeat (first | exact SetAt.z | apply SetAt.s)) (by repeat (first | exact Turned.here | apply Turned.there)) ?_; clear H; intro wN H) | (refine wpH_st1 (ty := 22) (v := .int _ _) rfl rfl rfl rfl rfl H one22 (by repeat (first | exact Found.here | apply Found.there)) (by repeat (first | exact SetAt.z | apply SetAt.s)) (by repeat (first | exact Turned.here | apply Turned.there)) ?_; clear H; intro wN H) | (refine wpH_st1 (ty := 91) (v := .int _ _) rfl rfl rfl rfl rfl H one91 (by repeat (first | exact Found.here | apply Found.there)) (by repeat (first | exact SetAt.z | apply SetAt.s)) (by repeat (first | exact Turned.here | apply Turned.there)) ?_; clear H; intro wN H) | (refine wpH_stA (ty := 63) rfl rfl rfl H (by repeat (first | exact Turned.here | apply Turned.there)) (by exact row63) (by rfl) (by kernel_rfl) ?_; clear H; intro wN H) | (refine wpH_stA (ty := 89) rfl rfl rfl H (by repeat (first | exact Turned.here | apply Turned.there)) (by exact row89) (by rfl) (by kernel_rfl) ?_; clear H; intro wN H) | (refine wpH_stA (ty := 109) rfl rfl rfl H (by repeat (first | exact Turned.here | apply Turned.there)) (by exact row109) (by rfl) (by kernel_rfl) ?_; clear H; intro wN H) | (refine wpH_stA (ty := 57) rfl rfl rfl H (by repeat (first | exact Turned.here | apply Turned.there)) (by exact row57) (by rfl) (by kernel_rfl) ?_; clear H; intro wN H)) | ((with_reducible refine at_al ?_); refine wpH_al rfl (by first | exact zero63 | exact zero89 | exact zero109 | exact zero57) H ?_; clear H; intro bN wN H) | ((with_reducible refine at_bx ?_); refine wpH_bxA rfl rfl H ?_; clear H; intro bN wN H)) | fail)
  have h1 := h.below H.grown
  have OO := (H.found Found.here).2
  obtain ⟨c0, c1, c2, c3, c4, fz⟩ := h1.cells
  obtain ⟨_, f1, f2⟩ := h1.rF.at' hpx.1
  obtain ⟨_, g1, g2⟩ := h1.rA.at' hpx.2.1
  obtain ⟨_, e1, e2⟩ := h1.rZ.at' hpx.2.2
  have p1 : wN.cell? ⟨bN, 1, none⟩ = some (.int .i64 i) := OO.cell rfl
  have p2 : wN.cell? ⟨bN, 2, none⟩ = some (.int .i64 z) := OO.cell rfl
  have p3 : wN.cell? ⟨bN, 3, none⟩ = some (.int .i64 x) := OO.cell rfl
  have hng : decide ((t.P.length : Int) ≤ (j : Int)) = false := decide_eq_false (by omega)
  go_upto_region 3 with fail
  go_quiet (fail)
  go_upto_region 5 with fail
  have hgr := H.grown
  generalize hW : wN.drewN _ = W4 at *
  have hb4 : Below w.heap.size w W4 := hgr.trans (by rw [← hW]; exact ⟨rfl, rfl, rfl, Nat.le_refl _, fun _ _ => rfl⟩)
  have h4 := h.below hb4
  have O4 : Ob W4 bN [.int .u64 q, .int .i64 i, .int .i64 z, .int .i64 x] := by rw [← hW]; exact OO.far (Far.of_below (w := wN) ⟨rfl, rfl, rfl, Nat.le_refl _, fun _ _ => rfl⟩) (by simp)
  clear c0 c1 c2 c3 c4 fz f1 f2 g1 g2 e1 e2 p1 p2 p3 hng hw hgr OO H h1 hpx hW
  have q1 : ∀ w', Below W4.heap.size W4 w' → w'.cell? ⟨bN, 1, none⟩ = some (.int .i64 i) := fun w' hb => (O4.far (Far.of_below hb) (by simp)).cell rfl
  have q2 : ∀ w', Below W4.heap.size W4 w' → w'.cell? ⟨bN, 2, none⟩ = some (.int .i64 z) := fun w' hb => (O4.far (Far.of_below hb) (by simp)).cell rfl
  have hC0 : ∀ w', Below W4.heap.size W4 w' → w'.cell? ⟨tb, 0, none⟩ = some (.slice (some ⟨g, o, none⟩) t.all.length c) := fun w' hb => (h4.below hb).cells.1
  obtain ⟨VM, hVM⟩ : ∃ v : Value, v = .agg #[.int .i64 m.id, .int .i64 m.fr, .int .i64 m.to, .int .i64 m.se, .int .i64 m.ac, .int .i64 m.lo, .int .i64 m.pa, .int .i64 m.hi, .int .i64 m.dr, .int .i64 m.n, .int .i64 m.st, .int .i64 m.sr, .int .i64 m.tt, .int .i64 m.tr, .int .i64 m.rr] := ⟨_, rfl⟩
  have HVM : Hid (VM = .agg #[.int .i64 m.id, .int .i64 m.fr, .int .i64 m.to, .int .i64 m.se, .int .i64 m.ac, .int .i64 m.lo, .int .i64 m.pa, .int .i64 m.hi, .int .i64 m.dr, .int .i64 m.n, .int .i64 m.st, .int .i64 m.sr, .int .i64 m.tt, .int .i64 m.tr, .int .i64 m.rr]) := hVM
  clear hVM
  have hM : ∀ w', Below W4.heap.size W4 w' → (ldM (.pointer (some ⟨g, o + i * 15, none⟩))).run Try.prog w' = .ok VM w' := fun w' hb => by
    rw [HVM.out]; exact ldM_run (by have := (h4.below hb).row.els i hi; rw [HM.out] at this; exact this)
  have hib0 : (0 : Int) ≤ (i : Int) := by omega
  have hib1 : (i : Int) < (t.all.length : Int) := by omega
  have hib2 : (i : Int) ≤ 1000 := by omega
  have hib3 : IntKind.i64.wrap (i : Int) = (i : Int) := by unfold IntKind.wrap; simp [IntKind.bits, IntKind.signed]; omega
  obtain ⟨V1, hV1⟩ : ∃ V, loseV m z = V := ⟨_, rfl⟩
  obtain ⟨VN1, hVN1⟩ : ∃ v : Value, v = .agg #[.int .i64 V1.id, .int .i64 V1.fr, .int .i64 V1.to, .int .i64 V1.se, .int .i64 V1.ac, .int .i64 V1.lo, .int .i64 V1.pa, .int .i64 V1.hi, .int .i64 V1.dr, .int .i64 V1.n, .int .i64 V1.st, .int .i64 V1.sr, .int .i64 V1.tt, .int .i64 V1.tr, .int .i64 V1.rr] := ⟨_, rfl⟩
  obtain ⟨E1, hE1⟩ : ∃ y, loseE m z = y := ⟨_, rfl⟩
  have T1 : ∀ w', Calls Try.prog 62 #[VM, .int .i64 z] w' fun e w'' => e = .returned (.tuple #[VN1, .int .i64 E1]) ∧ Below w'.heap.size w' w'' := fun w' => by
    have := lose_any m z w'
    rw [HVM.out, hVN1, ← hV1, ← hE1]
    exact this
  have hSN1 : ∀ w3 : World, (stM (.pointer (some ⟨w3.heap.size, 0, none⟩)) VN1).run Try.prog (w3.alloc (.cells #[.int .i64 0, .int .i64 0, .int .i64 0, .int .i64 0, .int .i64 0, .int .i64 0, .int .i64 0, .int .i64 0, .int .i64 0, .int .i64 0, .int .i64 0, .int .i64 0, .int .i64 0, .int .i64 0, .int .i64 0] 63)) = .ok () ((w3.alloc (.cells #[.int .i64 0, .int .i64 0, .int .i64 0, .int .i64 0, .int .i64 0, .int .i64 0, .int .i64 0, .int .i64 0, .int .i64 0, .int .i64 0, .int .i64 0, .int .i64 0, .int .i64 0, .int .i64 0, .int .i64 0] 63)).setCells w3.heap.size 0 (listM V1)) := fun w3 => by
    rw [hVN1]; exact n_st V1 w3
  have HVN1 : Hid (VN1 = .agg #[.int .i64 V1.id, .int .i64 V1.fr, .int .i64 V1.to, .int .i64 V1.se, .int .i64 V1.ac, .int .i64 V1.lo, .int .i64 V1.pa, .int .i64 V1.hi, .int .i64 V1.dr, .int .i64 V1.n, .int .i64 V1.st, .int .i64 V1.sr, .int .i64 V1.tt, .int .i64 V1.tr, .int .i64 V1.rr]) := hVN1
  have HV1 : Hid (loseV m z = V1) := hV1
  clear hV1 hE1 hVN1
  go_cut [9, 10] (fun s1 s2 wx => ∃ b, s1 = .pointer (some ⟨b, 0, none⟩) ∧ Ob wx b (listM V1) ∧ W4.heap.size ≤ b ∧ Below W4.heap.size W4 wx)
  case first =>
    clear h4 O4 h HM
    go_region_held3 (fun w' => Below W4.heap.size W4 w')
      (first | with_reducible exact n_below (by assumption) | with_reducible exact o_below (by assumption) | go_grown)
      (first
        | (go_at_call 62; refine (T1 _).mono ?_; rintro e w3 ⟨rfl, hw3⟩; have g1 : Below W4.heap.size W4 w3 := Below.call (by go_grown) (by simp) hw3; have z1 := g1.size; try (have hst := o_st (V := V1) (w := W4) (by with_reducible exact d_below hw3); have hob := o_ob (V := V1) (w := W4) (by with_reducible exact d_below hw3); rw [← HVN1.out] at hst)))
    all_goals go_wp2_with fail
    all_goals go_meet
    all_goals first | exact ⟨W4.heap.size, rfl, hob, Nat.le_refl _, o_below g1⟩ | exact ⟨w3.heap.size, rfl, n_ob V1 w3, g1.size, n_below g1⟩
  case rest =>
    obtain ⟨b, rfl, OB, hbb, hw5⟩ := hcut
    have h5 := h4.below hw5
    have O5 := O4.far (Far.of_below hw5) (by simp)
    have hb5 := hb4.trans (hw5.mono hb4.size)
    clear q1 q2 hC0 hM T1 hSN1 h4 O4 hw5 h
    go_upto_region 9 with fail
    have hP : (ldM (.pointer (some ⟨b, 0, none⟩))).run Try.prog wc.drew = .ok VN1 wc.drew := by rw [HVN1.out]; exact ldM_run (OB.far (Far.refl [] _).drew (by simp)).c
    have h8 := h5.far (Far.refl [] _).drew (by simp)
    have hST : (stM (.pointer (some ⟨g, o + i * 15, none⟩)) VN1).run Try.prog wc.drew = .ok () (wc.drew.setCells g (o + i * 15) (listM V1)) := by rw [HVN1.out]; exact stM_run (h8.row.there' hi)
    have h9 := h8.put hi V1
    have k0 := h8.cells.1
    have k1 : wc.cell? ⟨bN, 1, none⟩ = some (.int .i64 i) := O5.cell rfl
    have HE : Hid (Tys (wc.drew.setCells g (o + i * 15) (listM V1)) tb (some ⟨g, o, none⟩) g o c (some ⟨gF, 0, none⟩) gF cF (some ⟨gA, 0, none⟩) gA cA (some ⟨gZ, 0, none⟩) gZ cZ S { t with all := t.all.set i V1 } ∧ Far S w (wc.drew.setCells g (o + i * 15) (listM V1))) :=
      ⟨h9.1, (((Far.of_below hb5).mono (by simp)).drew).trans (h9.2.mono (fun k hk => by rw [List.mem_singleton] at hk; rw [hk]; exact (h5.ng hc).2))⟩
    clear h5 O5 OB h8 h9
    go_cut [] (fun wx => wx = wc.drew.setCells g (o + i * 15) (listM V1))
    case first =>
      go_region
      all_goals go_wp2_with fail
      all_goals go_meet
      all_goals rfl
    case rest =>
      subst hcut
      clear hP hST k0 k1
      go_wp2_with fail
      go_ret
      rw [HV1.out]
      exact ⟨rfl, HE.out.1, HE.out.2⟩
end Go.Proofs.Ytpaalpnoppblaaa

/-! Z30 -/
namespace Go.Proofs.Ytpaalpnoppblaaa
open Go.RowKit Go.Maps
set_option linter.unusedVariables false
set_option maxRecDepth 8000
attribute [local go_sem ↓] ldM_shut stM_shut
set_option maxHeartbeats 4000000 in
theorem tacked_any (tb : Nat) (ao : Option Addr) (g o c : Nat) (aF : Option Addr) (gF cF : Nat) (aA : Option Addr) (gA cA : Nat) (aZ : Option Addr) (gZ cZ : Nat) (S : List Nat) (t : Ty) (q z x : Int) (j i : Nat) (m : Mi) (hp : t.P[j]? = some ⟨q, i, z, x⟩) (hm : t.all[i]? = some m) (hl : t.all.length ≤ 1000) (hP : t.P.length ≤ 1000) (a : Int) (a0 : 0 ≤ a) (a1 : a ≤ 1099511627776) (x0 : 0 ≤ x) (x1 : x ≤ 1099511627776) 
    (w : World) (h : Tys w tb ao g o c aF gF cF aA gA cA aZ gZ cZ S t) :
    Calls Try.prog 35 #[.pointer (some ⟨tb, 0, none⟩), .int .u64 j, .agg #[.int .u64 q, .int .i64 i, .int .i64 z, .int .i64 x], .int .i64 a] w fun e w' => e = .returned (.bool true) ∧
      Tys w' tb ao g o c aF gF cF aA gA cA aZ gZ cZ S { t with all := t.all.set i (ackV m z x a) } ∧ Far S w w' := by
  have hpx : (t.P.map Pt.mi)[j]? = some (i : Int) ∧ (t.P.map Pt.sent)[j]? = some x ∧ (t.P.map Pt.size)[j]? = some z := ⟨by simp [hp], by simp [hp], by simp [hp]⟩
  have hj := (List.getElem?_eq_some_iff.1 hp).1
  have hi := (List.getElem?_eq_some_iff.1 hm).1
  have HM : Hid (t.all[i] = m) := Option.some.inj ((List.getElem?_eq_getElem hi).symm.trans hm)
  have hc : 0 < c := by have := h.row.cap; omega
  obtain ⟨rfl, hg⟩ := h.row.value hi
  obtain ⟨rfl, f1, f2⟩ := h.rF.at' hpx.1
  obtain ⟨rfl, g1, g2⟩ := h.rA.at' hpx.2.1
  obtain ⟨rfl, e1, e2⟩ := h.rZ.at' hpx.2.2
  have hw : IntKind.u64.wrap (t.P.length : Int) = t.P.length := by unfold IntKind.wrap; simp [IntKind.bits, IntKind.signed]; omega
  have hjw : IntKind.u64.wrap (j : Int) = j := by unfold IntKind.wrap; simp [IntKind.bits, IntKind.signed]; omega
  clear hp hm f1 f2 g1 g2 e1 e2
  have h0low := h.low
  have H := Heap.nil w
  go_enter Try.func35, Try.ntmps35
  go_upto_region 1 with (first | ((first | ((with_reducible refine at_plain ?_); intro K hK) | go_guarded); first | ((with_reducible refine at_ld ?_); first | (refine wpH_ldA (ty := 63) rfl rfl H (by repeat (first | exact Found.here | apply Found.there)) (by exact row63) ?_) | (refine wpH_ldA (ty := 89) rfl rfl H (by repeat (first | exact Found.here | apply Found.there)) (by exact row89) ?_) | (refine wpH_ldA (ty := 109) rfl rfl H (by repeat (first | exact Found.here | apply Found.there)) (by exact row109) ?_) | (refine wpH_ldA (ty := 57) rfl rfl H (by repeat (first | exact Found.here | apply Found.there)) (by exact row57) ?_) | (refine wpH_ld1 (ty := 3) rfl rfl H (by repeat (first | exact Found.here | apply Found.there)) one3 (by rfl) ?_) | (refine wpH_ld1 (ty := 4) rfl rfl H (by repeat (first | exact Found.here | apply Found.there)) one4 (by rfl) ?_) | (refine wpH_ld1 (ty := 26) rfl rfl H (by repeat (first | exact Found.here | apply Found.there)) one26 (by rfl) ?_) | (refine wpH_ld1 (ty := 22) rfl rfl H (by repeat (first | exact Found.here | apply Found.there)) one22 (by rfl) ?_) | (refine wpH_ld1 (ty := 91) rfl rfl H (by repeat (first | exact Found.here | apply Found.there)) one91 (by rfl) ?_)) | ((with_reducible refine at_st ?_); first | (refine wpH_st1 (ty := 3) (v := .int _ _) rfl rfl rfl rfl rfl H one3 (by repeat (first | exact Found.here | apply Found.there)) (by repeat (first | exact SetAt.z | apply SetAt.s)) (by repeat (first | exact Turned.here | apply Turned.there)) ?_; clear H; intro wN H) | (refine wpH_st1 (ty := 4) (v := .int _ _) rfl rfl rfl rfl rfl H one4 (by repeat (first | exact Found.here | apply Found.there)) (by repeat (first | exact SetAt.z | apply SetAt.s)) (by repeat (first | exact Turned.here | apply Turned.there)) ?_; clear H; intro wN H) | (refine wpH_st1 (ty := 26) (v := .int _ _) rfl rfl rfl rfl rfl H one26 (by repeat (first | exact Found.here | apply Found.there)) (by repeat (first | exact SetAt.z | apply SetAt.s)) (by repeat (first | exact Turned.here | apply Turned.there)) ?_; clear H; intro wN H) | (refine wpH_st1 (ty := 22) (v := .int _ _) rfl rfl rfl rfl rfl H one22 (by repeat (first | exact Found.here | apply Found.there)) (by repeat (first | exact SetAt.z | apply SetAt.s)) (by repeat (first | exact Turned.here | apply Turned.there)) ?_; clear H; intro wN H) | (refine wpH_st1 (ty := 91) (v := .int _ _) rfl rfl rfl rfl rfl H one91 (by repeat (first | exact Found.here | apply Found.there)) (by repeat (first | exact SetAt.z | apply SetAt.s)) (by repeat (first | exact Turned.here | apply Turned.there)) ?_; clear H; intro wN H) | (refine wpH_stA (ty := 63) rfl rfl rfl H (by repeat (first | exact Turned.here | apply Turned.there)) (by exact row63) (by rfl) (by kernel_rfl) ?_; clear H; intro wN H) | (refine wpH_stA (ty := 89) rfl rfl rfl H (by repeat (first | exact Turned.here | apply Turned.there)) (by exact row89) (by rfl) (by kernel_rfl) ?_; clear H; intro wN H) | (refine wpH_stA (ty := 109) rfl rfl rfl H (by repeat (first | exact Turned.here | apply Turned.there)) (by exact row109) (by rfl) (by kernel_rfl) ?_; clear H; intro wN H) | (refine wpH_stA (ty := 57) rfl rfl rfl H (by repeat (first | exact Turned.here | apply Turned.there)) (by exact row57) (by rfl) (by kernel_rfl) ?_; clear H; intro wN H)) | ((with_reducible refine at_al ?_); refine wpH_al rfl (by first | exact zero63 | exact zero89 | exact zero109 | exact zero57) H ?_; clear H; intro bN wN H) | ((with_reducible refine at_bx ?_); refine wpH_bxA rfl rfl H ?_; clear H; intro bN wN H)) | fail)
  have h1 := h.below H.grown
  have OO := (H.found Found.here).2
  obtain ⟨c0, c1, c2, c3, c4, fz⟩ := h1.cells
  obtain ⟨_, f1, f2⟩ := h1.rF.at' hpx.1
  obtain ⟨_, g1, g2⟩ := h1.rA.at' hpx.2.1
  obtain ⟨_, e1, e2⟩ := h1.rZ.at' hpx.2.2
  have p1 : wN.cell? ⟨bN, 1, none⟩ = some (.int .i64 i) := OO.cell rfl
  have p2 : wN.cell? ⟨bN, 2, none⟩ = some (.int .i64 z) := OO.cell rfl
  have p3 : wN.cell? ⟨bN, 3, none⟩ = some (.int .i64 x) := OO.cell rfl
  have hng : decide ((t.P.length : Int) ≤ (j : Int)) = false := decide_eq_false (by omega)
  go_upto_region 3 with fail
  go_quiet (fail)
  go_upto_region 5 with fail
  have hgr := H.grown
  generalize hW : wN.drewN _ = W4 at *
  have hb4 : Below w.heap.size w W4 := hgr.trans (by rw [← hW]; exact ⟨rfl, rfl, rfl, Nat.le_refl _, fun _ _ => rfl⟩)
  have h4 := h.below hb4
  have O4 : Ob W4 bN [.int .u64 q, .int .i64 i, .int .i64 z, .int .i64 x] := by rw [← hW]; exact OO.far (Far.of_below (w := wN) ⟨rfl, rfl, rfl, Nat.le_refl _, fun _ _ => rfl⟩) (by simp)
  clear c0 c1 c2 c3 c4 fz f1 f2 g1 g2 e1 e2 p1 p2 p3 hng hw hgr OO H h1 hpx hW
  have q1 : ∀ w', Below W4.heap.size W4 w' → w'.cell? ⟨bN, 1, none⟩ = some (.int .i64 i) := fun w' hb => (O4.far (Far.of_below hb) (by simp)).cell rfl
  have q2 : ∀ w', Below W4.heap.size W4 w' → w'.cell? ⟨bN, 2, none⟩ = some (.int .i64 z) := fun w' hb => (O4.far (Far.of_below hb) (by simp)).cell rfl
  have hC0 : ∀ w', Below W4.heap.size W4 w' → w'.cell? ⟨tb, 0, none⟩ = some (.slice (some ⟨g, o, none⟩) t.all.length c) := fun w' hb => (h4.below hb).cells.1
  obtain ⟨VM, hVM⟩ : ∃ v : Value, v = .agg #[.int .i64 m.id, .int .i64 m.fr, .int .i64 m.to, .int .i64 m.se, .int .i64 m.ac, .int .i64 m.lo, .int .i64 m.pa, .int .i64 m.hi, .int .i64 m.dr, .int .i64 m.n, .int .i64 m.st, .int .i64 m.sr, .int .i64 m.tt, .int .i64 m.tr, .int .i64 m.rr] := ⟨_, rfl⟩
  have HVM : Hid (VM = .agg #[.int .i64 m.id, .int .i64 m.fr, .int .i64 m.to, .int .i64 m.se, .int .i64 m.ac, .int .i64 m.lo, .int .i64 m.pa, .int .i64 m.hi, .int .i64 m.dr, .int .i64 m.n, .int .i64 m.st, .int .i64 m.sr, .int .i64 m.tt, .int .i64 m.tr, .int .i64 m.rr]) := hVM
  clear hVM
  have hM : ∀ w', Below W4.heap.size W4 w' → (ldM (.pointer (some ⟨g, o + i * 15, none⟩))).run Try.prog w' = .ok VM w' := fun w' hb => by
    rw [HVM.out]; exact ldM_run (by have := (h4.below hb).row.els i hi; rw [HM.out] at this; exact this)
  have hib0 : (0 : Int) ≤ (i : Int) := by omega
  have hib1 : (i : Int) < (t.all.length : Int) := by omega
  have hib2 : (i : Int) ≤ 1000 := by omega
  have hib3 : IntKind.i64.wrap (i : Int) = (i : Int) := by unfold IntKind.wrap; simp [IntKind.bits, IntKind.signed]; omega
  obtain ⟨V1, hV1⟩ : ∃ V, loseV m z = V := ⟨_, rfl⟩
  obtain ⟨VN1, hVN1⟩ : ∃ v : Value, v = .agg #[.int .i64 V1.id, .int .i64 V1.fr, .int .i64 V1.to, .int .i64 V1.se, .int .i64 V1.ac, .int .i64 V1.lo, .int .i64 V1.pa, .int .i64 V1.hi, .int .i64 V1.dr, .int .i64 V1.n, .int .i64 V1.st, .int .i64 V1.sr, .int .i64 V1.tt, .int .i64 V1.tr, .int .i64 V1.rr] := ⟨_, rfl⟩
  obtain ⟨E1, hE1⟩ : ∃ y, loseE m z = y := ⟨_, rfl⟩
  have T1 : ∀ w', Calls Try.prog 62 #[VM, .int .i64 z] w' fun e w'' => e = .returned (.tuple #[VN1, .int .i64 E1]) ∧ Below w'.heap.size w' w'' := fun w' => by
    have := lose_any m z w'
    rw [HVM.out, hVN1, ← hV1, ← hE1]
    exact this
  have hSN1 : ∀ w3 : World, (stM (.pointer (some ⟨w3.heap.size, 0, none⟩)) VN1).run Try.prog (w3.alloc (.cells #[.int .i64 0, .int .i64 0, .int .i64 0, .int .i64 0, .int .i64 0, .int .i64 0, .int .i64 0, .int .i64 0, .int .i64 0, .int .i64 0, .int .i64 0, .int .i64 0, .int .i64 0, .int .i64 0, .int .i64 0] 63)) = .ok () ((w3.alloc (.cells #[.int .i64 0, .int .i64 0, .int .i64 0, .int .i64 0, .int .i64 0, .int .i64 0, .int .i64 0, .int .i64 0, .int .i64 0, .int .i64 0, .int .i64 0, .int .i64 0, .int .i64 0, .int .i64 0, .int .i64 0] 63)).setCells w3.heap.size 0 (listM V1)) := fun w3 => by
    rw [hVN1]; exact n_st V1 w3
  have HVN1 : Hid (VN1 = .agg #[.int .i64 V1.id, .int .i64 V1.fr, .int .i64 V1.to, .int .i64 V1.se, .int .i64 V1.ac, .int .i64 V1.lo, .int .i64 V1.pa, .int .i64 V1.hi, .int .i64 V1.dr, .int .i64 V1.n, .int .i64 V1.st, .int .i64 V1.sr, .int .i64 V1.tt, .int .i64 V1.tr, .int .i64 V1.rr]) := hVN1
  have HV1 : Hid (loseV m z = V1) := hV1
  clear hV1 hE1 hVN1
  go_cut [9, 10] (fun s1 s2 wx => ∃ b, s1 = .pointer (some ⟨b, 0, none⟩) ∧ Ob wx b (listM V1) ∧ W4.heap.size ≤ b ∧ Below W4.heap.size W4 wx)
  case first =>
    clear h4 O4 h HM
    go_region_held3 (fun w' => Below W4.heap.size W4 w')
      (first | with_reducible exact n_below (by assumption) | with_reducible exact o_below (by assumption) | go_grown)
      (first
        | (go_at_call 62; refine (T1 _).mono ?_; rintro e w3 ⟨rfl, hw3⟩; have g1 : Below W4.heap.size W4 w3 := Below.call (by go_grown) (by simp) hw3; have z1 := g1.size; try (have hst := o_st (V := V1) (w := W4) (by with_reducible exact d_below hw3); have hob := o_ob (V := V1) (w := W4) (by with_reducible exact d_below hw3); rw [← HVN1.out] at hst)))
    all_goals go_wp2_with fail
    all_goals go_meet
    all_goals first | exact ⟨W4.heap.size, rfl, hob, Nat.le_refl _, o_below g1⟩ | exact ⟨w3.heap.size, rfl, n_ob V1 w3, g1.size, n_below g1⟩
  case rest =>
    obtain ⟨b, rfl, OB, hbb, hw5⟩ := hcut
    have hbN : bN ≠ b := by have := O4.lt; omega
    have h5 := h4.below hw5
    have O5 := O4.far (Far.of_below hw5) (by simp)
    have hb5 := hb4.trans (hw5.mono hb4.size)
    clear q1 q2 hC0 hM T1 hSN1 h4 O4 hw5 h HVN1 HV1
    go_upto_region 7 with fail
    generalize wc = W5 at *
    have h4 := h5
    have O4 := O5
    clear h5 O5
    have q1 : ∀ w', Below W5.heap.size W5 w' → w'.cell? ⟨bN, 1, none⟩ = some (.int .i64 i) := fun w' hb => (O4.far (Far.of_below hb) (by simp)).cell rfl
    have q2 : ∀ w', Below W5.heap.size W5 w' → w'.cell? ⟨bN, 2, none⟩ = some (.int .i64 z) := fun w' hb => (O4.far (Far.of_below hb) (by simp)).cell rfl
    have q3 : ∀ w', Below W5.heap.size W5 w' → w'.cell? ⟨bN, 3, none⟩ = some (.int .i64 x) := fun w' hb => (O4.far (Far.of_below hb) (by simp)).cell rfl
    have hC0 : ∀ w', Below W5.heap.size W5 w' → w'.cell? ⟨tb, 0, none⟩ = some (.slice (some ⟨g, o, none⟩) t.all.length c) := fun w' hb => (h4.below hb).cells.1
    have hM : ∀ w', Below W5.heap.size W5 w' → (ldM (.pointer (some ⟨g, o + i * 15, none⟩))).run Try.prog w' = .ok VM w' := fun w' hb => by
      rw [HVM.out]; exact ldM_run (by have := (h4.below hb).row.els i hi; rw [HM.out] at this; exact this)
    obtain ⟨V2, hV2⟩ : ∃ V, ackV m z x a = V := ⟨_, rfl⟩
    obtain ⟨VN2, hVN2⟩ : ∃ v : Value, v = .agg #[.int .i64 V2.id, .int .i64 V2.fr, .int .i64 V2.to, .int .i64 V2.se, .int .i64 V2.ac, .int .i64 V2.lo, .int .i64 V2.pa, .int .i64 V2.hi, .int .i64 V2.dr, .int .i64 V2.n, .int .i64 V2.st, .int .i64 V2.sr, .int .i64 V2.tt, .int .i64 V2.tr, .int .i64 V2.rr] := ⟨_, rfl⟩
    obtain ⟨E2, hE2⟩ : ∃ y, ackE m z x a = y := ⟨_, rfl⟩
    have T2 : ∀ w', Calls Try.prog 63 #[VM, .int .i64 z, .int .i64 x, .int .i64 a] w' fun e w'' => e = .returned (.tuple #[VN2, .int .i64 E2]) ∧ Below w'.heap.size w' w'' := fun w' => by
      have := ack_any m z x a (by omega) (by omega) w'
      rw [HVM.out, hVN2, ← hV2, ← hE2]
      exact this
    have hSN2 : ∀ w3 : World, (stM (.pointer (some ⟨w3.heap.size, 0, none⟩)) VN2).run Try.prog (w3.alloc (.cells #[.int .i64 0, .int .i64 0, .int .i64 0, .int .i64 0, .int .i64 0, .int .i64 0, .int .i64 0, .int .i64 0, .int .i64 0, .int .i64 0, .int .i64 0, .int .i64 0, .int .i64 0, .int .i64 0, .int .i64 0] 63)) = .ok () ((w3.alloc (.cells #[.int .i64 0, .int .i64 0, .int .i64 0, .int .i64 0, .int .i64 0, .int .i64 0, .int .i64 0, .int .i64 0, .int .i64 0, .int .i64 0, .int .i64 0, .int .i64 0, .int .i64 0, .int .i64 0, .int .i64 0] 63)).setCells w3.heap.size 0 (listM V2)) := fun w3 => by
      rw [hVN2]; exact n_st V2 w3
    have HVN2 : Hid (VN2 = .agg #[.int .i64 V2.id, .int .i64 V2.fr, .int .i64 V2.to, .int .i64 V2.se, .int .i64 V2.ac, .int .i64 V2.lo, .int .i64 V2.pa, .int .i64 V2.hi, .int .i64 V2.dr, .int .i64 V2.n, .int .i64 V2.st, .int .i64 V2.sr, .int .i64 V2.tt, .int .i64 V2.tr, .int .i64 V2.rr]) := hVN2
    have HV2 : Hid (ackV m z x a = V2) := hV2
    clear hV2 hE2 hVN2
    go_cut [11, 12] (fun s1 s2 wx => ∃ b, s1 = .pointer (some ⟨b, 0, none⟩) ∧ Ob wx b (listM V2) ∧ W5.heap.size ≤ b ∧ Below W5.heap.size W5 wx)
    case first =>
      clear h4 O4 OB HM
      go_region_held3 (fun w' => Below W5.heap.size W5 w')
        (first | with_reducible exact n_below (by assumption) | with_reducible exact o_below (by assumption) | go_grown)
        (first
          | (go_at_call 63; refine (T2 _).mono ?_; rintro e w3 ⟨rfl, hw3⟩; have g1 : Below W5.heap.size W5 w3 := Below.call (by go_grown) (by simp) hw3; have z1 := g1.size; try (have hst := o_st (V := V2) (w := W5) (by with_reducible exact d_below hw3); have hob := o_ob (V := V2) (w := W5) (by with_reducible exact d_below hw3); rw [← HVN2.out] at hst)))
      all_goals go_wp2_with fail
      all_goals go_meet
      all_goals first | exact ⟨W5.heap.size, rfl, hob, Nat.le_refl _, o_below g1⟩ | exact ⟨w3.heap.size, rfl, n_ob V2 w3, g1.size, n_below g1⟩
    case rest =>
      obtain ⟨b2, rfl, OB2, hbb2, hw6⟩ := hcut
      have h6 := h4.below hw6
      have O6 := O4.far (Far.of_below hw6) (by simp)
      have OB6 := OB.far (Far.of_below hw6) (by simp)
      have hb6 := hb5.trans (hw6.mono hb5.size)
      have hblt := OB.lt
      clear q1 q2 q3 hC0 hM T2 hSN2 h4 O4 hw6 OB hb5
      have hL2 : (ldM (.pointer (some ⟨b2, 0, none⟩))).run Try.prog wc = .ok VN2 wc := by rw [HVN2.out]; exact ldM_run OB2.c
      have hS2 : (stM (.pointer (some ⟨b, 0, none⟩)) VN2).run Try.prog wc = .ok () (wc.setCells b 0 (listM V2)) := by rw [HVN2.out]; exact stM_run OB6.there
      go_upto_region 9 with fail
      have hwb : w.heap.size ≤ b := by have := hb4.size; omega
      have hb7 : Below w.heap.size w (wc.setCells b 0 (listM V2)) := Below.setCells b hwb _ 0 _ hb6
      have OB7 := OB6.setCells_same (us := listM V2) rfl
      have O7 := O6.setCells_other (us := listM V2) hbN 0
      have h7 := h6.far ((Far.refl [b] wc).setCells (b := b) (.inr (by simp)) (listM V2) 0) (fun k hk => by have := h0low k hk; simp; omega)
      clear hL2 hS2 OB6 OB2 O6 h6 hb6
      generalize wc.setCells b 0 (listM V2) = W7 at *
      have hP : (ldM (.pointer (some ⟨b, 0, none⟩))).run Try.prog W7.drew = .ok VN2 W7.drew := by rw [HVN2.out]; exact ldM_run (OB7.far (Far.refl [] _).drew (by simp)).c
      have h8 := h7.far (Far.refl [] _).drew (by simp)
      have hST : (stM (.pointer (some ⟨g, o + i * 15, none⟩)) VN2).run Try.prog W7.drew = .ok () (W7.drew.setCells g (o + i * 15) (listM V2)) := by rw [HVN2.out]; exact stM_run (h8.row.there' hi)
      have h9 := h8.put hi V2
      have k0 := h8.cells.1
      have k1 : W7.cell? ⟨bN, 1, none⟩ = some (.int .i64 i) := O7.cell rfl
      have HE : Hid (Tys (W7.drew.setCells g (o + i * 15) (listM V2)) tb (some ⟨g, o, none⟩) g o c (some ⟨gF, 0, none⟩) gF cF (some ⟨gA, 0, none⟩) gA cA (some ⟨gZ, 0, none⟩) gZ cZ S { t with all := t.all.set i V2 } ∧ Far S w (W7.drew.setCells g (o + i * 15) (listM V2))) :=
        ⟨h9.1, (((Far.of_below hb7).mono (by simp)).drew).trans (h9.2.mono (fun k hk => by rw [List.mem_singleton] at hk; rw [hk]; exact (h7.ng hc).2))⟩
      clear h7 O7 OB7 h8 h9
      go_cut [] (fun wx => wx = W7.drew.setCells g (o + i * 15) (listM V2))
      case first =>
        go_region
        all_goals go_wp2_with fail
        all_goals go_meet
        all_goals rfl
      case rest =>
        subst hcut
        clear hP hST k0 k1
        go_wp2_with fail
        go_ret
        rw [HV2.out]
        exact ⟨rfl, HE.out.1, HE.out.2⟩
end Go.Proofs.Ytpaalpnoppblaaa
