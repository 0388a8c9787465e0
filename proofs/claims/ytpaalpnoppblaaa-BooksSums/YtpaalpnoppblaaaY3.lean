/-
  The reference's Take. No conditions.
-/
import Derived.Test.YtpaalpnoppblaaaY2
namespace Go.Proofs.Ytpaalpnoppblaaa
open Go.RowKit Go.Maps
set_option linter.unusedVariables false
set_option maxRecDepth 8000
theorem loadVar_P {w : World} {b : Nat} {q : Pt} (h : Ob w b (pc q)) : (loadVar 57 ⟨b, 0, none⟩).run Try.prog w = .ok (.agg #[.int .u64 q.seq, .int .i64 q.mi, .int .i64 q.size, .int .i64 q.sent]) w := by
  obtain ⟨⟨d, hu, hd⟩, hs⟩ := row57
  exact run_loadVar_mid w b 0 57 (pc q) d h.c hu hd hs
theorem results_P2 {fn : Func} {p u : Tmp} (hr : fn.results = #[.cell p 57, .tmp u]) {tmps : Array Value} {w : World} {b : Nat} {q : Pt} {v : Value} (h : Ob w b (pc q))
    (hp : tmps.getD p undef = .pointer (some ⟨b, 0, none⟩)) (hv : tmps.getD u undef = v) : (results fn tmps).run Try.prog w = .ok (.tuple #[.agg #[.int .u64 q.seq, .int .i64 q.mi, .int .i64 q.size, .int .i64 q.sent], v]) w := by
  rw [results_cell_tmp hr, hp, hv]
  simp only [asAddr, Sem.run_pure, Result.andThen_ok, loadVar_P h]
/-- A packet put into a block. -/
def _root_.Go.World.putP (w : World) (b : Nat) (q : Pt) : World := (((w.setCell ⟨b, 0, none⟩ (.int .u64 q.seq)).setCell ⟨b, 1, none⟩ (.int .i64 q.mi)).setCell ⟨b, 2, none⟩ (.int .i64 q.size)).setCell ⟨b, 3, none⟩ (.int .i64 q.sent)
theorem Ob.putP {w : World} {b : Nat} {q0 : Pt} (h : Ob w b (pc q0)) (q : Pt) : Ob (w.putP b q) b (pc q) := by
  have h1 := h.setCell_same (o := 0) (v := .int .u64 q.seq) (us := [.int .u64 q.seq, .int .i64 q0.mi, .int .i64 q0.size, .int .i64 q0.sent]) (by repeat (first | exact SetAt.z | apply SetAt.s))
  have h2 := h1.setCell_same (o := 1) (v := .int .i64 q.mi) (us := [.int .u64 q.seq, .int .i64 q.mi, .int .i64 q0.size, .int .i64 q0.sent]) (by repeat (first | exact SetAt.z | apply SetAt.s))
  have h3 := h2.setCell_same (o := 2) (v := .int .i64 q.size) (us := [.int .u64 q.seq, .int .i64 q.mi, .int .i64 q.size, .int .i64 q0.sent]) (by repeat (first | exact SetAt.z | apply SetAt.s))
  exact h3.setCell_same (o := 3) (v := .int .i64 q.sent) (by repeat (first | exact SetAt.z | apply SetAt.s))
theorem Far.putP {S : List Nat} {w w1 : World} (h : Far S w w1) {b : Nat} (hb : w.heap.size ≤ b ∨ b ∈ S) (q : Pt) : Far S w (w1.putP b q) := (((h.setCell hb _ _).setCell hb _ _).setCell hb _ _).setCell hb _ _
theorem pt_filter {L : List Pt} {i : Nat} (hi : i < L.length) (f : Pt → Bool) : (L.take (i + 1)).filter f = (L.take i).filter f ++ (if f L[i] then [L[i]] else []) := by
  rw [List.take_succ_eq_append_getElem hi, List.filter_append]
  congr 1
  by_cases h : f L[i] = true <;> simp [h]
theorem pt_any {L : List Pt} {i : Nat} (hi : i < L.length) (f : Pt → Bool) : (L.take (i + 1)).any f = ((L.take i).any f || f L[i]) := by
  rw [List.take_succ_eq_append_getElem hi, List.any_append]
  simp
theorem pt_find {L : List Pt} {i : Nat} (hi : i < L.length) (f : Pt → Bool) : (L.take (i + 1)).find? f = ((L.take i).find? f).or (if f L[i] then some L[i] else none) := by
  rw [List.take_succ_eq_append_getElem hi, List.find?_append]
  by_cases h : f L[i] = true <;> simp [h]
theorem pt_none {L : List Pt} {i : Nat} {x : Int} (hi : i < L.length) (hu : L.Pairwise (fun p q => p.seq < q.seq)) (hx : (L[i]).seq = x) : (L.take i).any (isq x) = false ∧ (L.take i).find? (isq x) = none := by
  have key : ∀ p ∈ L.take i, isq x p = false := fun p hp => by
    obtain ⟨k, hk, e⟩ := List.getElem_of_mem hp
    rw [List.length_take] at hk
    rw [List.getElem_take] at e
    have := List.pairwise_iff_getElem.1 hu k i (by omega) hi (by omega)
    subst e
    simp [isq]
    omega
  constructor
  · rw [Bool.eq_false_iff]; intro h
    obtain ⟨p, hp, e⟩ := List.any_eq_true.1 h
    rw [key p hp] at e; cases e
  · exact List.find?_eq_none.2 fun p hp => by simp [key p hp]
theorem own_far2 {S : List Nat} {w w1 : World} {base : Nat} {v : Value} {n : Nat} {xs : List Value} (h : w.ownsRow base 57 4 v n xs) (k : Far S w w1) (hS : ∀ g, v.ownBlock = some g → g ∉ S) : w1.ownsRow base 57 4 v n xs := by
  refine ⟨h.1, ?_⟩
  rcases h.2 with h0 | ⟨g, cap, cur, e, hb, hg, r⟩
  · exact .inl h0
  · exact .inr ⟨g, cap, cur, e, hb, (k.block g (Array.getElem?_eq_some_iff.1 hg).1 (hS g (by rw [e]; rfl))).trans hg, r⟩
theorem RLed.far2 {S : List Nat} {B rb : Nat} {w w1 : World} {v : Value} {s : Lg} (h : RLed B rb w v s) (F : Far S w w1) (h1 : ∀ g, v.ownBlock = some g → g ∉ S) (h2 : rb ∉ S) : RLed B rb w1 v s :=
  ⟨h.ob.far F h2, own_far2 h.row F h1, h.lt, Nat.le_trans h.sz F.size⟩
set_option maxRecDepth 8000 in
set_option maxHeartbeats 2000000 in
theorem rtake_any (B rb : Nat) (v : Value) (s : Lg) (hs : s.ok) (x : Int) (x0 : 0 ≤ x) (x1 : x ≤ 18446744073709551615) (w : World) (H : RLed B rb w v s) :
    Calls Try.prog 53 #[.pointer (some ⟨rb, 0, none⟩), .int .u64 x] w fun e w' =>
      e = .returned (.tuple #[.agg #[.int .u64 (tkp s x).seq, .int .i64 (tkp s x).mi, .int .i64 (tkp s x).size, .int .i64 (tkp s x).sent], .int .i64 (tkv s x)]) ∧ (∃ v', RLed B rb w' v' (takenL s x) ∧ ∀ g, v'.ownBlock = some g → v.ownBlock = some g ∨ w.heap.size ≤ g) ∧ Far [rb] w w' := by
  obtain ⟨c0, c1, c2, c3, c4, fz, hlt⟩ := H.cells
  have P0 := Ob.fresh w #[.int .u64 0, .int .i64 0, .int .i64 0, .int .i64 0] 57
  have H0 := H.below ((Below.refl _ w).alloc (Nat.le_refl _) (.cells #[.int .u64 0, .int .i64 0, .int .i64 0, .int .i64 0] 57))
  have F0 : Far [rb] w (w.alloc (.cells #[.int .u64 0, .int .i64 0, .int .i64 0, .int .i64 0] 57)) := (Far.refl _ _).alloc _
  by_cases h1 : x < s.first ∨ s.next ≤ x
  · have e1 : tkv s x = 3 := by unfold tkv; rw [if_pos h1]
    have e2 : tkp s x = ⟨0, 0, 0, 0⟩ := by unfold tkp; rw [if_neg (by rw [e1]; omega)]
    have e3 : takenL s x = s := by unfold takenL; rw [if_neg (by rw [e1]; omega)]
    rw [e1, e2, e3]
    clear e1 e2 e3
    by_cases h2 : x < s.first
    · go_enter Try.func53, Try.ntmps53
      go_wp2_with fail
      exact bodyPost_ret (results_P2 (q := ⟨0, 0, 0, 0⟩) rfl P0 rfl rfl) rfl ⟨rfl, ⟨v, H0, fun g e => .inl e⟩, F0⟩
    · have h3 : s.next ≤ x := by omega
      go_enter Try.func53, Try.ntmps53
      go_wp2_with fail
      exact bodyPost_ret (results_P2 (q := ⟨0, 0, 0, 0⟩) rfl P0 rfl rfl) rfl ⟨rfl, ⟨v, H0, fun g e => .inl e⟩, F0⟩
  have h2 : ¬ x < s.first := by omega
  have h3 : ¬ s.next ≤ x := by omega
  obtain ⟨ao, cc, rfl, PA⟩ := Pks.own H.row
  have hcap := PA.cap; have hmax := PA.max
  have hmx : maxLen = 9223372036854775807 := rfl
  have hlen := hs.len; have hr1 := hs.r1
  have hown : ∀ g, (Value.slice ao s.L.length cc).ownBlock = some g → g < w.heap.size := fun g e => (own_lt H.row e).1
  have hrw := H.ob.lt
  have P1 : Ob ((w.alloc (.cells #[.int .u64 0, .int .i64 0, .int .i64 0, .int .i64 0] 57)).alloc (.cells #[.int .u64 0, .int .i64 0, .int .i64 0, .int .i64 0] 57)) w.heap.size (pc ⟨0, 0, 0, 0⟩) := Ob.far P0 ((Far.refl [] _).alloc _) (by simp)
  have O1 : Ob ((w.alloc (.cells #[.int .u64 0, .int .i64 0, .int .i64 0, .int .i64 0] 57)).alloc (.cells #[.int .u64 0, .int .i64 0, .int .i64 0, .int .i64 0] 57)) (w.heap.size + 1) (pc ⟨0, 0, 0, 0⟩) := by
    have := Ob.fresh (w.alloc (.cells #[.int .u64 0, .int .i64 0, .int .i64 0, .int .i64 0] 57)) #[.int .u64 0, .int .i64 0, .int .i64 0, .int .i64 0] 57
    rwa [World.size_alloc] at this
  go_enter Try.func53, Try.ntmps53
  go_wp2_with fail
  go_loopw [6, 8, 9] (fun v6 v8 v9 wr => ∃ i : Nat, i ≤ s.L.length ∧ v9 = .int .i64 i ∧ v8 = .bool ((s.L.take i).any (isq x)) ∧
      wr.ownsRow (w.heap.size + 1 + 1) 57 4 v6 ((s.L.take i).filter fun p => !isq x p).length (pcs ((s.L.take i).filter fun p => !isq x p)) ∧ Ob wr w.heap.size (pc ⟨0, 0, 0, 0⟩) ∧
      Ob wr (w.heap.size + 1) (pc (((s.L.take i).find? (isq x)).getD ⟨0, 0, 0, 0⟩)) ∧ Below w.heap.size w wr) (fun _ _ v9 _ => s.L.length - (intOf v9).toNat)
  case atStart => exact ⟨0, Nat.zero_le _, rfl, rfl, World.ownsRow_nil _ _ _ _, P1, O1, by go_grown⟩
  case round =>
    obtain ⟨i, hi, rfl, rfl, own, OP, OO, hb⟩ := hrel
    have HR := H.below hb
    obtain ⟨c0, c1, c2, c3, c4, fz, hlt⟩ := HR.cells
    have hwr := hb.size
    have hol := OO.lt
    by_cases hin : i < s.L.length
    · obtain ⟨b, rfl, hbl, hc⟩ := (PA.below hb).at' (by omega)
      obtain ⟨a0, a1, a2, a3⟩ := hc i hin
      have hf := pt_filter hin (fun p => !isq x p)
      have ha := pt_any hin (isq x)
      have hd := pt_find hin (isq x)
      have hno := fun h => pt_none hin hs.up (x := x) h
      have hfl : ((s.L.take i).filter fun p => !isq x p).length ≤ 5000 := Nat.le_trans (List.length_filter_le _ _) (by rw [List.length_take]; omega)
      obtain ⟨p, hp⟩ : ∃ p, s.L[i] = p := ⟨_, rfl⟩
      rw [hp] at a0 a1 a2 a3 hf ha hd hno
      clear hc hp
      by_cases hpx : p.seq = x
      · obtain ⟨n1, n2⟩ := hno hpx
        have hq : isq x p = true := by simp [isq, hpx]
        rw [hq] at hf ha hd
        rw [n1] at ha
        rw [n2] at hd
        simp only [Bool.not_true, Bool.false_eq_true, if_false, List.append_nil] at hf
        simp only [Bool.or_true] at ha
        simp only [if_true, Option.none_or] at hd
        rw [n1]
        rw [n2] at OO
        have HF : Hid _ := hf
        have HA : Hid _ := ha
        have HD : Hid _ := hd
        clear hf ha hd n1 n2 hno
        generalize (s.L.take i).filter (fun p => !isq x p) = E at *
        have z0 : wr.cell? ⟨w.heap.size + 1, 0, none⟩ = some (.int .u64 0) := OO.cell rfl
        have z1 : wr.cell? ⟨w.heap.size + 1, 1, none⟩ = some (.int .i64 0) := OO.cell rfl
        have z2 : wr.cell? ⟨w.heap.size + 1, 2, none⟩ = some (.int .i64 0) := OO.cell rfl
        have z3 : wr.cell? ⟨w.heap.size + 1, 3, none⟩ = some (.int .i64 0) := OO.cell rfl
        have zf := OO.f
        have HPE : Hid (p = ⟨x, p.mi, p.size, p.sent⟩) := (by rw [← hpx] : p = ⟨x, p.mi, p.size, p.sent⟩)
        have FP : Far [w.heap.size + 1] wr (wr.putP (w.heap.size + 1) ⟨x, p.mi, p.size, p.sent⟩) := (Far.refl _ _).putP (.inr (by simp)) _
        have OO2 := OO.putP ⟨x, p.mi, p.size, p.sent⟩
        have OP2 := OP.far FP (by simp)
        have own2 := own_far own FP (by simp)
        have hb2 := Far.call hb hb.size FP (by simp)
        clear OO OP own FP
        go_wp2_with fail
        exact ⟨⟨i + 1, by omega, by simp, by rw [HA.out], by rw [HF.out]; exact own2, OP2, by rw [HD.out, HPE.out]; exact OO2, hb2⟩, by simp only [intOf]; omega⟩
      · have hq : isq x p = false := by simp [isq, hpx]
        rw [hq] at hf ha hd
        simp only [Bool.not_false, if_true] at hf
        simp only [Bool.or_false] at ha
        simp only [Bool.false_eq_true, if_false, Option.or_none] at hd
        have HF : Hid _ := hf
        have HA : Hid _ := ha
        have HD : Hid _ := hd
        clear hf ha hd hno
        have FA : Far [] wr (wr.alloc (.cells #[.int .u64 p.seq, .int .i64 p.mi, .int .i64 p.size, .int .i64 p.sent] 57)) := (Far.refl _ _).alloc _
        have ownA := own.alloc (.cells #[.int .u64 p.seq, .int .i64 p.mi, .int .i64 p.size, .int .i64 p.sent] 57)
        have OP2 := OP.far FA (by simp)
        have OO2 := OO.far FA (by simp)
        have hb2 : Below w.heap.size w (wr.alloc (.cells #[.int .u64 p.seq, .int .i64 p.mi, .int .i64 p.size, .int .i64 p.sent] 57)) := hb.alloc hb.size _
        have ol := own_lit wr p (w.heap.size + 1 + 1) (by omega)
        have hsz : w.heap.size + 1 + 1 ≤ (wr.alloc (.cells #[.int .u64 p.seq, .int .i64 p.mi, .int .i64 p.size, .int .i64 p.sent] 57)).heap.size := by simp; omega
        have hgg : ∀ g, u6.ownBlock = some g → w.heap.size + 1 + 1 ≤ g := fun g e => (own_lt own e).2
        have hg0 : ∀ g, u6.ownBlock = some g → g ≠ w.heap.size := fun g e => by have := hgg g e; omega
        have hg1 : ∀ g, u6.ownBlock = some g → g ≠ w.heap.size + 1 := fun g e => by have := hgg g e; omega
        generalize (s.L.take i).filter (fun p => !isq x p) = E at *
        clear own OP OO FA
        go_wp2_with (at_builtin; refine wpL_append rfl _ _ rfl rfl rfl ownA ol hsz (by omega) ?_; intro v' w3 own' gr inf)
        have OP3 := OP2.grown' gr hg0
        have OO3 := OO2.grown' gr hg1
        have B3 := below_grown hb2 hb2.size (by omega) ownA gr
        exact ⟨⟨i + 1, by omega, by simp, by rw [HA.out], by rw [HF.out]; simpa using own', OP3, by rw [HD.out]; exact OO3, B3⟩, by simp only [intOf]; omega⟩
    · have hie : i = s.L.length := by omega
      have htk : s.L.take i = s.L := List.take_of_length_le (by omega)
      rw [htk] at own OO
      rw [htk]
      have hlow := H.sz
      cases hm : s.L.any (isq x)
      · have e1 : tkv s x = 4 := by unfold tkv; rw [if_neg h1, hm]; rfl
        have e2 : tkp s x = ⟨0, 0, 0, 0⟩ := by unfold tkp; rw [if_neg (by rw [e1]; omega)]
        have e3 : takenL s x = s := by unfold takenL; rw [if_neg (by rw [e1]; omega)]
        have E : Hid (tkv s x = 4 ∧ tkp s x = ⟨0, 0, 0, 0⟩ ∧ takenL s x = s) := ⟨e1, e2, e3⟩
        clear e1 e2 e3
        have z0 : wr.cell? ⟨w.heap.size, 0, none⟩ = some (.int .u64 0) := OP.cell rfl
        have z1 : wr.cell? ⟨w.heap.size, 1, none⟩ = some (.int .i64 0) := OP.cell rfl
        have z2 : wr.cell? ⟨w.heap.size, 2, none⟩ = some (.int .i64 0) := OP.cell rfl
        have z3 : wr.cell? ⟨w.heap.size, 3, none⟩ = some (.int .i64 0) := OP.cell rfl
        have zf := OP.f
        have FP : Far [w.heap.size] wr (wr.putP w.heap.size ⟨0, 0, 0, 0⟩) := (Far.refl _ _).putP (.inr (by simp)) _
        have OP2 := OP.putP ⟨0, 0, 0, 0⟩
        have HR2 := HR.far2 FP (fun g e => by have := hown g e; simp; omega) (by simp; omega)
        have hb2 := Far.call hb hb.size FP (by simp)
        clear OP OO own FP hb
        have FW : Far [rb] w (wr.putP w.heap.size ⟨0, 0, 0, 0⟩) := (Far.of_below hb2).mono (by simp)
        go_wp2_with fail
        exact bodyPost_ret (results_P2 (q := ⟨0, 0, 0, 0⟩) (v := .int .i64 4) rfl OP2 rfl rfl) rfl ⟨by rw [E.out.1, E.out.2.1], ⟨_, by rw [E.out.2.2]; exact HR2, fun g e => .inl e⟩, FW⟩
      · have e1 : tkv s x = 0 := by unfold tkv; rw [if_neg h1, hm]; rfl
        have e2 : tkp s x = (s.L.find? (isq x)).getD ⟨0, 0, 0, 0⟩ := by unfold tkp; rw [if_pos e1]
        have e3 : takenL s x = { s with L := s.L.filter fun p => !isq x p } := by unfold takenL without; rw [if_pos e1]
        have E : Hid (tkv s x = 0 ∧ tkp s x = (s.L.find? (isq x)).getD ⟨0, 0, 0, 0⟩ ∧ takenL s x = { s with L := s.L.filter fun p => !isq x p }) := ⟨e1, e2, e3⟩
        clear e1 e2 e3
        obtain ⟨al, cl, rfl, PL⟩ := Pks.own own
        generalize (s.L.find? (isq x)).getD ⟨0, 0, 0, 0⟩ = q at *
        have z0 : wr.cell? ⟨w.heap.size, 0, none⟩ = some (.int .u64 0) := OP.cell rfl
        have z1 : wr.cell? ⟨w.heap.size, 1, none⟩ = some (.int .i64 0) := OP.cell rfl
        have z2 : wr.cell? ⟨w.heap.size, 2, none⟩ = some (.int .i64 0) := OP.cell rfl
        have z3 : wr.cell? ⟨w.heap.size, 3, none⟩ = some (.int .i64 0) := OP.cell rfl
        have zf := OP.f
        have y0 : wr.cell? ⟨w.heap.size + 1, 0, none⟩ = some (.int .u64 q.seq) := OO.cell rfl
        have y1 : wr.cell? ⟨w.heap.size + 1, 1, none⟩ = some (.int .i64 q.mi) := OO.cell rfl
        have y2 : wr.cell? ⟨w.heap.size + 1, 2, none⟩ = some (.int .i64 q.size) := OO.cell rfl
        have y3 : wr.cell? ⟨w.heap.size + 1, 3, none⟩ = some (.int .i64 q.sent) := OO.cell rfl
        have T1 := Turn.cell HR.ob (o := 4) (v := .slice al (s.L.filter fun p => !isq x p).length cl) (us := [.int .i64 s.room, .int .u64 s.first, .int .u64 s.next, .int .i64 s.last, .slice al (s.L.filter fun p => !isq x p).length cl]) (by repeat (first | exact SetAt.z | apply SetAt.s))
        have F1 : Far [rb] wr (wr.setCell ⟨rb, 4, none⟩ (.slice al (s.L.filter fun p => !isq x p).length cl)) := (Far.refl _ _).setCell (.inr (by simp)) _ _
        have F2 : Far [w.heap.size] (wr.setCell ⟨rb, 4, none⟩ (.slice al (s.L.filter fun p => !isq x p).length cl)) ((wr.setCell ⟨rb, 4, none⟩ (.slice al (s.L.filter fun p => !isq x p).length cl)).putP w.heap.size q) := (Far.refl _ _).putP (.inr (by simp)) _
        have OP2 := (OP.far F1 (by simp; omega)).putP q
        have OB := T1.here.far F2 (by simp; omega)
        have own2 := own_base4 (own_far (own_far own F1 (by simp; omega)) F2 (by simp; omega)) (show B ≤ w.heap.size + 1 + 1 by omega)
        have FW : Far [rb] w ((wr.setCell ⟨rb, 4, none⟩ (.slice al (s.L.filter fun p => !isq x p).length cl)).putP w.heap.size q) :=
          (((Far.of_below hb).mono (by simp)).setCell (.inr (by simp)) _ _).putP (.inl (Nat.le_refl _)) q
        have hsz := FW.size
        have HL : RLed B rb ((wr.setCell ⟨rb, 4, none⟩ (.slice al (s.L.filter fun p => !isq x p).length cl)).putP w.heap.size q) (.slice al (s.L.filter fun p => !isq x p).length cl) { s with L := s.L.filter fun p => !isq x p } := ⟨OB, own2, H.lt, by omega⟩
        have OWN : Hid (∀ q, (Value.slice al (s.L.filter fun p => !isq x p).length cl).ownBlock = some q → w.heap.size ≤ q) := fun q e => by have := (own_lt own e).2; omega
        clear OP OO own T1 F1 F2 OB own2 PL hb
        go_wp2_with fail
        exact bodyPost_ret (results_P2 (q := q) (v := .int .i64 0) rfl OP2 rfl rfl) rfl ⟨by rw [E.out.1, E.out.2.1], ⟨_, by rw [E.out.2.2]; exact HL, fun q e => .inr (OWN.out q e)⟩, FW⟩
end Go.Proofs.Ytpaalpnoppblaaa
