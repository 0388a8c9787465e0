/-
  The reference's books: packets whose time is over. No conditions but the books' own.
  The reference's books: a packet's way ends. No conditions but the books' own.
  The reference's Expire. No conditions.
-/
import Derived.Test.YtpaalpnoppblaaaY3
import Derived.Test.YtpaalpnoppblaaaMZ16
import Derived.Test.YtpaalpnoppblaaaZ9
import Derived.Test.YtpaalpnoppblaaaU20
import Derived.Test.YtpaalpnoppblaaaZ10
/-! Y4b -/
namespace Go.Proofs.Ytpaalpnoppblaaa
open Go.RowKit Go.Maps
set_option linter.unusedVariables false
set_option maxRecDepth 8000
set_option maxRecDepth 8000 in
set_option maxHeartbeats 2000000 in
theorem rexpire2_any (B rb : Nat) (v : Value) (s : Lg) (hs : s.ok) (at' td : Int) (a0 : -9223372036854775808 ≤ at') (a1 : at' ≤ 9223372036854775807) (t0 : -9223372036854775808 ≤ td) (t1 : td ≤ 9223372036854775807) (w : World) (H : RLed B rb w v s) :
    Calls Try.prog 57 #[.pointer (some ⟨rb, 0, none⟩), .int .i64 at', .int .i64 td] w fun e w' =>
      ∃ vo, e = .returned vo ∧ w'.ownsRow w.heap.size 57 4 vo (s.L.filter (isover at' td)).length (pcs (s.L.filter (isover at' td))) ∧ (∃ v', RLed B rb w' v' { s with L := s.L.filter fun p => !isover at' td p } ∧ (∀ g, v'.ownBlock = some g → v.ownBlock = some g ∨ w.heap.size ≤ g) ∧ ∀ g, vo.ownBlock = some g → v'.ownBlock = some g → False) ∧ Far [rb] w w' := by
  obtain ⟨ao, cc, rfl, PA⟩ := Pks.own H.row
  have hcap := PA.cap; have hmax := PA.max
  have hmx : maxLen = 9223372036854775807 := rfl
  have hlen := hs.len; have hr1 := hs.r1
  have hrw := H.ob.lt
  have hlow := H.sz
  go_enter Try.func57, Try.ntmps57
  go_wp2_with fail
  go_loopw [7, 8, 9] (fun v7 v8 v9 wr => ∃ i : Nat, i ≤ s.L.length ∧ v9 = .int .i64 i ∧
      wr.ownsRow w.heap.size 57 4 v7 ((s.L.take i).filter fun p => !isover at' td p).length (pcs ((s.L.take i).filter fun p => !isover at' td p)) ∧
      wr.ownsRow w.heap.size 57 4 v8 ((s.L.take i).filter (isover at' td)).length (pcs ((s.L.take i).filter (isover at' td))) ∧
      (∀ g, v7.ownBlock = some g → v8.ownBlock = some g → False) ∧ Below w.heap.size w wr) (fun _ _ v9 _ => s.L.length - (intOf v9).toNat)
  case atStart => exact ⟨0, Nat.zero_le _, rfl, World.ownsRow_nil _ _ _ _, World.ownsRow_nil _ _ _ _, fun g h => by simp [Value.ownBlock] at h, Below.refl _ _⟩
  case round =>
    obtain ⟨i, hi, rfl, own7, own8, hne, hb⟩ := hrel
    have HR := H.below hb
    obtain ⟨c0, c1, c2, c3, c4, fz, hlt⟩ := HR.cells
    have hwr := hb.size
    by_cases hin : i < s.L.length
    · have hf := pt_filter hin (fun p => !isover at' td p)
      have hg := pt_filter hin (isover at' td)
      have hfl : ((s.L.take i).filter fun p => !isover at' td p).length ≤ 5000 := Nat.le_trans (List.length_filter_le _ _) (by rw [List.length_take]; omega)
      have hgl : ((s.L.take i).filter (isover at' td)).length ≤ 5000 := Nat.le_trans (List.length_filter_le _ _) (by rw [List.length_take]; omega)
      have htb := hs.tb _ (List.getElem_mem hin)
      have hl1 := hs.l1
      have hPA := PA.below hb
      obtain ⟨b, rfl, hbl, hc⟩ := hPA.at' (by omega)
      obtain ⟨a0', a1', a2', a3'⟩ := hc i hin
      obtain ⟨p, hp⟩ : ∃ p, s.L[i] = p := ⟨_, rfl⟩
      rw [hp] at a0' a1' a2' a3' hf hg htb
      have HP : Hid (s.L[i] = p) := hp
      clear hp hc
      go_wp2_with fail
      refine (over_any p at' td a0 a1 t0 t1 (by omega) (by omega) _).mono ?_
      rintro e w2 ⟨rfl, B2⟩
      have hb2 := hb.trans (B2.mono hb.size)
      have HR2 := H.below hb2
      have hc2 := ((PA.below hb2).at' (by omega))
      obtain ⟨_, eb, hbl2, hc2⟩ := hc2
      cases eb
      obtain ⟨k0, k1, k2, k3⟩ := hc2 i hin
      rw [HP.out] at k0 k1 k2 k3
      obtain ⟨d0, d1, d2, d3, d4, fz2, hlt2⟩ := HR2.cells
      replace own7 := own_far own7 (Far.of_below B2) (by simp)
      replace own8 := own_far own8 (Far.of_below B2) (by simp)
      have hw2 := hb2.size
      clear c0 c1 c2 c3 c4 fz hlt hwr hc2 a0' a1' a2' a3' HR hPA hbl B2 hb
      have oA7 := own7.alloc (.cells #[.int .u64 p.seq, .int .i64 p.mi, .int .i64 p.size, .int .i64 p.sent] 57)
      have oA8 := own8.alloc (.cells #[.int .u64 p.seq, .int .i64 p.mi, .int .i64 p.size, .int .i64 p.sent] 57)
      have hbA : Below w.heap.size w (w2.alloc (.cells #[.int .u64 p.seq, .int .i64 p.mi, .int .i64 p.size, .int .i64 p.sent] 57)) := hb2.alloc hb2.size _
      have ol := own_lit w2 p w.heap.size hb2.size
      cases hov : isover at' td p
      · rw [hov] at hf hg
        simp only [Bool.not_false, if_true] at hf
        simp only [Bool.false_eq_true, if_false, List.append_nil] at hg
        have HF : Hid _ := hf
        have HG : Hid _ := hg
        clear hf hg
        generalize (s.L.take i).filter (fun p => !isover at' td p) = E at *
        generalize (s.L.take i).filter (isover at' td) = D at *
        go_wp2_with (at_builtin; refine wpL_append rfl _ _ rfl rfl rfl oA7 ol hbA.size (by omega) ?_; intro v' w3 own' gr inf)
        have o8 := own_grown oA8 gr (fun g e1 e2 => hne g e2 e1)
        have hne' : ∀ g, v'.ownBlock = some g → u8.ownBlock = some g → False := fun g e1 e2 => by
          rcases inf g e1 with h1 | h1
          · exact hne g h1 e2
          · have := (own_lt oA8 e2).1; omega
        have B3 := below_grown hbA hbA.size (Nat.le_refl _) oA7 gr
        exact ⟨⟨i + 1, by omega, by simp, by rw [HF.out]; simpa using own', by rw [HG.out]; exact o8, hne', B3⟩, by simp only [intOf]; omega⟩
      · rw [hov] at hf hg
        simp only [Bool.not_true, Bool.false_eq_true, if_false, List.append_nil] at hf
        simp only [if_true] at hg
        have HF : Hid _ := hf
        have HG : Hid _ := hg
        clear hf hg
        generalize (s.L.take i).filter (fun p => !isover at' td p) = E at *
        generalize (s.L.take i).filter (isover at' td) = D at *
        go_wp2_with (at_builtin; refine wpL_append rfl _ _ rfl rfl rfl oA8 ol hbA.size (by omega) ?_; intro v' w3 own' gr inf)
        have o7 := own_grown oA7 gr (fun g e1 e2 => hne g e1 e2)
        have hne' : ∀ g, u7.ownBlock = some g → v'.ownBlock = some g → False := fun g e1 e2 => by
          rcases inf g e2 with h1 | h1
          · exact hne g e1 h1
          · have := (own_lt oA7 e1).1; omega
        have B3 := below_grown hbA hbA.size (Nat.le_refl _) oA8 gr
        exact ⟨⟨i + 1, by omega, by simp, by rw [HF.out]; exact o7, by rw [HG.out]; simpa using own', hne', B3⟩, by simp only [intOf]; omega⟩
    · have htk : s.L.take i = s.L := List.take_of_length_le (by omega)
      have hie : i = s.L.length := by omega
      rw [htk] at own7 own8
      obtain ⟨al, cl, rfl, PL⟩ := Pks.own own7
      have T1 := Turn.cell HR.ob (o := 4) (v := .slice al (s.L.filter fun p => !isover at' td p).length cl) (us := [.int .i64 s.room, .int .u64 s.first, .int .u64 s.next, .int .i64 s.last, .slice al (s.L.filter fun p => !isover at' td p).length cl]) (by repeat (first | exact SetAt.z | apply SetAt.s))
      have F1 : Far [rb] wr (wr.setCell ⟨rb, 4, none⟩ (.slice al (s.L.filter fun p => !isover at' td p).length cl)) := (Far.refl _ _).setCell (.inr (by simp)) _ _
      have o7 := own_base4 (own_far own7 F1 (by simp; omega)) hlow
      have o8 := own_far own8 F1 (by simp; omega)
      have FW : Far [rb] w (wr.setCell ⟨rb, 4, none⟩ (.slice al (s.L.filter fun p => !isover at' td p).length cl)) := ((Far.of_below hb).mono (by simp)).trans F1
      have hsz := FW.size
      have HL : RLed B rb (wr.setCell ⟨rb, 4, none⟩ (.slice al (s.L.filter fun p => !isover at' td p).length cl)) (.slice al (s.L.filter fun p => !isover at' td p).length cl) { s with L := s.L.filter fun p => !isover at' td p } := ⟨T1.here, o7, H.lt, by omega⟩
      have OWN : Hid (∀ q, (Value.slice al (s.L.filter fun p => !isover at' td p).length cl).ownBlock = some q → w.heap.size ≤ q) := fun q e => (own_lt own7 e).2
      have HNE : Hid _ := hne
      clear T1 F1 o7 own7 own8 PL htk hne
      go_wp2_with fail
      go_ret
      exact ⟨_, rfl, o8, ⟨_, HL, fun q e => .inr (OWN.out q e), fun q e1 e2 => HNE.out q e2 e1⟩, FW⟩
end Go.Proofs.Ytpaalpnoppblaaa

/-! Z17 -/
namespace Go.Proofs.Ytpaalpnoppblaaa
open Go.RowKit Go.Maps
set_option linter.unusedVariables false
set_option maxRecDepth 8000
theorem below_put {W w3 : World} {b : Nat} {vs : List Value} (h : Below W.heap.size W w3) (hb : W.heap.size ≤ b) : Below W.heap.size W (w3.setCells b 0 vs) := Below.setCells b hb vs 0 _ h
theorem zo_old {w w1 : World} (h : Below (w.alloc (.cells #[.int .i64 0, .int .i64 0, .int .i64 0, .int .i64 0, .int .i64 0, .int .i64 0, .int .i64 0, .int .i64 0, .int .i64 0, .int .i64 0, .int .i64 0, .int .i64 0, .int .i64 0, .int .i64 0, .int .i64 0] 63)).heap.size (w.alloc (.cells #[.int .i64 0, .int .i64 0, .int .i64 0, .int .i64 0, .int .i64 0, .int .i64 0, .int .i64 0, .int .i64 0, .int .i64 0, .int .i64 0, .int .i64 0, .int .i64 0, .int .i64 0, .int .i64 0, .int .i64 0] 63)) w1) : Ob w1 w.heap.size (#[.int .i64 0, .int .i64 0, .int .i64 0, .int .i64 0, .int .i64 0, .int .i64 0, .int .i64 0, .int .i64 0, .int .i64 0, .int .i64 0, .int .i64 0, .int .i64 0, .int .i64 0, .int .i64 0, .int .i64 0]).toList :=
  (Ob.fresh w #[.int .i64 0, .int .i64 0, .int .i64 0, .int .i64 0, .int .i64 0, .int .i64 0, .int .i64 0, .int .i64 0, .int .i64 0, .int .i64 0, .int .i64 0, .int .i64 0, .int .i64 0, .int .i64 0, .int .i64 0] 63).far (Far.of_below h) (by simp)
theorem zo_st {w : World} {b : Nat} {V : Mi} (h : Ob w b (#[.int .i64 0, .int .i64 0, .int .i64 0, .int .i64 0, .int .i64 0, .int .i64 0, .int .i64 0, .int .i64 0, .int .i64 0, .int .i64 0, .int .i64 0, .int .i64 0, .int .i64 0, .int .i64 0, .int .i64 0]).toList) : (stM (.pointer (some ⟨b, 0, none⟩)) (.agg #[.int .i64 V.id, .int .i64 V.fr, .int .i64 V.to, .int .i64 V.se, .int .i64 V.ac, .int .i64 V.lo, .int .i64 V.pa, .int .i64 V.hi, .int .i64 V.dr, .int .i64 V.n, .int .i64 V.st, .int .i64 V.sr, .int .i64 V.tt, .int .i64 V.tr, .int .i64 V.rr])).run Try.prog w = .ok () (w.setCells b 0 (listM V)) := stM_run h.there
theorem zo_ob {w : World} {b : Nat} {V : Mi} (h : Ob w b (#[.int .i64 0, .int .i64 0, .int .i64 0, .int .i64 0, .int .i64 0, .int .i64 0, .int .i64 0, .int .i64 0, .int .i64 0, .int .i64 0, .int .i64 0, .int .i64 0, .int .i64 0, .int .i64 0, .int .i64 0]).toList) : Ob (w.setCells b 0 (listM V)) b (listM V) := h.setCells_same rfl
/-- What the end of a packet's way does, in the reference. -/
theorem how_id {s : Bk} (hf : Fit s) {x a : Int} (ha : s.now ≤ a ∧ a ≤ 1099511627776) (ht : tkv s.l x = 0) (k : Bool) : ∃ (j : Nat) (hj : j < s.L.length), ofL s.L (tkp s.l x).mi = s.L[j] ∧ (howV k s.L[j] (tkp s.l x) a).id = (tkp s.l x).mi ∧ chg s.L (tkp s.l x).mi (fun _ => howV k s.L[j] (tkp s.l x) a) = chg s.L (tkp s.l x).mi (fun m => howV k m (tkp s.l x) a) := by
  obtain ⟨hm, hx, hperm, he⟩ := tk_is hf.ok ht
  have hp := hf.pk _ hm
  have htb := hf.ok.tb _ hm
  have hnl := hf.nl
  obtain ⟨j, hj, e, hid, hu⟩ := hf.place hp.1 hp.2
  have hno : ∀ q ∈ s.L.take j, q.id ≠ (tkp s.l x).mi := fun q hq => by
    obtain ⟨k, hk, rfl⟩ := List.getElem_of_mem hq
    rw [List.length_take] at hk
    rw [List.getElem_take]
    intro h
    have := (hu k (by omega)).1 h
    omega
  have hsz : Szs (tkp s.l x :: without s.l.L x) := fun p hp => hf.szs p (hperm.mem_iff.2 hp)
  have ht2 := how_turn (k := k) ((hf.owes _ (List.getElem_mem hj)).perm hperm) hsz hid.symm htb.1 (by omega) ha.2
  exact ⟨j, hj, ofL_at hj hid hno, ht2.1.trans hid, chg_const hj hu (fun m => howV k m (tkp s.l x) a)⟩
attribute [local go_sem ↓] ldM_shut stM_shut
set_option maxHeartbeats 4000000 in
theorem rback_any (rb lb B : Nat) (lv : Value) (ao : Option Addr) (g o c : Nat) (S : List Nat) (s : Bk) (hf : Fit s) (x a : Int) (x0 : 0 ≤ x) (x1 : x ≤ 18446744073709551615) (a0 : -9223372036854775808 ≤ a) (a1 : a ≤ 9223372036854775807) (w : World) (HR : Rks w rb lb B lv ao g o c S s) :
    Calls Try.prog 26 #[.pointer (some ⟨rb, 0, none⟩), .int .u64 x, .int .i64 a] w fun e w' =>
      e = .returned (.tuple #[.agg #[.int .u64 (stP s x a).seq, .int .i64 (stP s x a).mi, .int .i64 (stP s x a).size, .int .i64 (stP s x a).sent], .int .i64 (stE s x a)]) ∧ ∃ S', Rka w' rb S' (stL true s x a) ∧ Goes S S' w w' := by
  have hlen := hf.len
  have hok := hf.ok
  go_enter Try.func26, Try.ntmps26
  go_upto_region 1 with fail
  have FA : Far [] w (w.alloc (.cells #[.int .u64 0, .int .i64 0, .int .i64 0, .int .i64 0] 57)) := (Far.refl _ _).alloc _
  have PB := Ob.fresh w #[.int .u64 0, .int .i64 0, .int .i64 0, .int .i64 0] 57
  have HR0 := HR.far FA (by simp)
  have hlow : ∀ q ∈ S, q < w.heap.size := HR.low
  generalize w.alloc (.cells #[.int .u64 0, .int .i64 0, .int .i64 0, .int .i64 0] 57) = W at *
  obtain ⟨pb, hpb⟩ : ∃ pb, w.heap.size = pb := ⟨_, rfl⟩
  simp only [hpb] at PB hlow ⊢
  go_wp2_with fail
  refine (rearly_any rb lb B lv ao g o c S s hf.n0 a _ HR0).mono ?_
  rintro e w1 ⟨rfl, hw1⟩
  have HR1 := HR0.below hw1
  have PB1 : Ob w1 pb (pc ⟨0, 0, 0, 0⟩) := PB.far (Far.of_below hw1) (by simp)
  have F1 : Far S w w1 := (FA.below hw1).mono (by simp)
  clear HR HR0 PB FA hw1
  have z0 : w1.cell? ⟨pb, 0, none⟩ = some (.int .u64 0) := PB1.cell rfl
  have z1 : w1.cell? ⟨pb, 1, none⟩ = some (.int .i64 0) := PB1.cell rfl
  have z2 : w1.cell? ⟨pb, 2, none⟩ = some (.int .i64 0) := PB1.cell rfl
  have z3 : w1.cell? ⟨pb, 3, none⟩ = some (.int .i64 0) := PB1.cell rfl
  have zf := PB1.f
  have hpn : ∀ q ∈ S, q ≠ pb := fun q hq e => by have := hlow q hq; omega
  obtain ⟨c0, c1, c2, c3, c4, fz⟩ := HR1.cells
  by_cases he : earlyP s a
  · have E : Hid (stE s x a = 10 ∧ stP s x a = ⟨0, 0, 0, 0⟩ ∧ stL true s x a = s) := ⟨by simp [stE, he], by simp [stP, stE, he], by simp [stL, stE, he]⟩
    rw [decide_eq_true he]
    have OP := PB1.putP ⟨0, 0, 0, 0⟩
    have HR3 := HR1.far (w1 := w1.putP pb ⟨0, 0, 0, 0⟩) ((Far.refl [pb] _).putP (.inr (by simp)) _) (fun q hq => by simp; exact hpn q hq)
    have F3 : Far S w (w1.putP pb ⟨0, 0, 0, 0⟩) := F1.putP (.inl (by omega)) _
    clear HR1 PB1 F1
    go_wp2_with fail
    exact bodyPost_ret (results_P2 (q := ⟨0, 0, 0, 0⟩) (v := .int .i64 10) rfl OP rfl rfl) rfl ⟨by rw [E.out.1, E.out.2.1], S, by rw [E.out.2.2]; exact ⟨_, _, _, _, _, _, _, HR3⟩, F3, fun k hk => .inl hk⟩
  rw [decide_eq_false he]
  have HE : Hid (¬ earlyP s a) := he
  have hea : s.now ≤ a ∧ a ≤ 1099511627776 := by unfold earlyP at he; omega
  clear he
  have hlb : lb < pb := hlow _ HR1.m2
  go_wp2_with fail
  refine (rtake_any B lb lv s.l hok x x0 x1 _ HR1.led).mono ?_
  rintro e w3 ⟨rfl, ⟨lv', HL3, hlv⟩, F3⟩
  obtain ⟨S3, HR3, G3⟩ := HR1.ledger F3 (fun k hk => by left; simpa using hk) HL3 hlv
  have PB3 := PB1.far F3 (by simp; omega)
  have GW : Goes S S3 w w3 := (⟨F1, fun k hk => .inl hk⟩ : Goes S S w _).trans G3
  have hp3 : pb ∉ S3 := fun hm => by
    rcases G3.sub _ hm with h1 | h1
    · exact hpn _ h1 rfl
    · have := PB1.lt; omega
  clear HR1 PB1 F1 F3 HL3 hlv c0 c1 c2 c3 c4 fz z0 z1 z2 z3 zf G3
  have z0 : w3.cell? ⟨pb, 0, none⟩ = some (.int .u64 0) := PB3.cell rfl
  have z1 : w3.cell? ⟨pb, 1, none⟩ = some (.int .i64 0) := PB3.cell rfl
  have z2 : w3.cell? ⟨pb, 2, none⟩ = some (.int .i64 0) := PB3.cell rfl
  have z3 : w3.cell? ⟨pb, 3, none⟩ = some (.int .i64 0) := PB3.cell rfl
  have zf := PB3.f
  have zl := PB3.lt
  by_cases hr : tkv s.l x = 0
  rotate_left
  · have e : stE s x a = tkv s.l x := by unfold stE; rw [if_neg HE.out]
    have E : Hid (stE s x a = tkv s.l x ∧ stP s x a = ⟨0, 0, 0, 0⟩ ∧ stL true s x a = s) := ⟨e, by unfold stP; rw [if_neg (by rw [e]; exact hr)], by unfold stL; rw [if_neg (by rw [e]; exact hr)]⟩
    have ht : takenL s.l x = s.l := (tk_not hr).1
    rw [ht] at HR3
    have HR4 : Rks w3 rb lb B lv' ao g o c S3 s := HR3
    clear HR3 ht e
    generalize tkv s.l x = RV at *
    obtain ⟨P, hP⟩ : ∃ P, tkp s.l x = P := ⟨_, rfl⟩
    rw [hP]
    clear hP
    have OP := (PB3.putP ⟨0, 0, 0, 0⟩).far ((Far.refl [] _).alloc (.cells #[.int .u64 P.seq, .int .i64 P.mi, .int .i64 P.size, .int .i64 P.sent] 57)) (by simp)
    have HR5 := (HR4.far (w1 := w3.putP pb ⟨0, 0, 0, 0⟩) ((Far.refl [pb] _).putP (.inr (by simp)) _) (fun q hq => by simp; intro e; subst e; exact hp3 hq)).far ((Far.refl [] _).alloc (.cells #[.int .u64 P.seq, .int .i64 P.mi, .int .i64 P.size, .int .i64 P.sent] 57)) (by simp)
    have G5 : Goes S S3 w ((w3.putP pb ⟨0, 0, 0, 0⟩).alloc (.cells #[.int .u64 P.seq, .int .i64 P.mi, .int .i64 P.size, .int .i64 P.sent] 57)) := ⟨(GW.far.putP (.inl (by omega)) _).alloc _, GW.sub⟩
    clear HR4 GW PB3
    go_wp2_with fail
    exact bodyPost_ret (results_P2 (q := ⟨0, 0, 0, 0⟩) (v := .int .i64 RV) rfl OP rfl rfl) rfl ⟨by rw [E.out.1, E.out.2.1], S3, by rw [E.out.2.2]; exact ⟨_, _, _, _, _, _, _, HR5⟩, G5⟩
  obtain ⟨j, hj, hof, hid, hcc⟩ := how_id hf hea hr true
  have htm := (tk_is hok hr).1
  have htb := hok.tb _ htm
  have hl1 := hok.l1
  have e : stE s x a = 0 := by unfold stE; rw [if_neg HE.out]; exact hr
  have E : Hid (stE s x a = 0 ∧ stP s x a = tkp s.l x ∧ stL true s x a = { s with l := takenL s.l x, now := a, L := chg s.L (tkp s.l x).mi (fun _ => howV true s.L[j] (tkp s.l x) a) }) := by
    refine ⟨e, by unfold stP; rw [if_pos e], ?_⟩
    unfold stL; rw [if_pos e, hcc]
  clear e hcc htm
  rw [hr]
  obtain ⟨P, hP⟩ : ∃ P, tkp s.l x = P := ⟨_, rfl⟩
  rw [hP] at E hof hid htb ⊢
  clear hP
  obtain ⟨m, hm⟩ : ∃ m, s.L[j] = m := ⟨_, rfl⟩
  rw [hm] at E hof hid
  clear hm
  go_upto_region 6 with fail
  have F4 : Far [] w3 (w3.alloc (.cells #[.int .u64 P.seq, .int .i64 P.mi, .int .i64 P.size, .int .i64 P.sent] 57)) := (Far.refl _ _).alloc _
  have HR4 := HR3.far F4 (by simp)
  have PB4 := PB3.far F4 (by simp)
  have QB := Ob.fresh w3 #[.int .u64 P.seq, .int .i64 P.mi, .int .i64 P.size, .int .i64 P.sent] 57
  have GW4 : Goes S S3 w (w3.alloc (.cells #[.int .u64 P.seq, .int .i64 P.mi, .int .i64 P.size, .int .i64 P.sent] 57)) := ⟨GW.far.alloc _, GW.sub⟩
  have hqS : w3.heap.size ∉ S3 := fun hm => by have := HR3.low _ hm; omega
  have hqp : pb < w3.heap.size := zl
  generalize w3.alloc (.cells #[.int .u64 P.seq, .int .i64 P.mi, .int .i64 P.size, .int .i64 P.sent] 57) = W4 at *
  obtain ⟨qb, hqb⟩ : ∃ qb, w3.heap.size = qb := ⟨_, rfl⟩
  rw [hqb] at QB hqS hqp ⊢
  clear HR3 PB3 GW F4 z0 z1 z2 z3 zf zl hqb
  have q1 : ∀ w', Below W4.heap.size W4 w' → w'.cell? ⟨qb, 1, none⟩ = some (.int .i64 P.mi) := fun w' hb => (QB.far (Far.of_below hb) (by simp)).cell rfl
  have q2 : ∀ w', Below W4.heap.size W4 w' → w'.cell? ⟨qb, 2, none⟩ = some (.int .i64 P.size) := fun w' hb => (QB.far (Far.of_below hb) (by simp)).cell rfl
  have q3 : ∀ w', Below W4.heap.size W4 w' → w'.cell? ⟨qb, 3, none⟩ = some (.int .i64 P.sent) := fun w' hb => (QB.far (Far.of_below hb) (by simp)).cell rfl
  obtain ⟨V, hV⟩ : ∃ V, howV true m P a = V := ⟨_, rfl⟩
  obtain ⟨EE, hEE⟩ : ∃ x, howE true m P a = x := ⟨_, rfl⟩
  obtain ⟨VM, hVM⟩ : ∃ x : Value, x = .agg #[.int .i64 m.id, .int .i64 m.fr, .int .i64 m.to, .int .i64 m.se, .int .i64 m.ac, .int .i64 m.lo, .int .i64 m.pa, .int .i64 m.hi, .int .i64 m.dr, .int .i64 m.n, .int .i64 m.st, .int .i64 m.sr, .int .i64 m.tt, .int .i64 m.tr, .int .i64 m.rr] := ⟨_, rfl⟩
  obtain ⟨VN, hVN⟩ : ∃ x : Value, x = .agg #[.int .i64 V.id, .int .i64 V.fr, .int .i64 V.to, .int .i64 V.se, .int .i64 V.ac, .int .i64 V.lo, .int .i64 V.pa, .int .i64 V.hi, .int .i64 V.dr, .int .i64 V.n, .int .i64 V.st, .int .i64 V.sr, .int .i64 V.tt, .int .i64 V.tr, .int .i64 V.rr] := ⟨_, rfl⟩
  have T1 : ∀ w', Below W4.heap.size W4 w' → Calls Try.prog 55 #[.pointer (some ⟨rb, 0, none⟩), .int .i64 P.mi] w' fun e w'' => e = .returned VM ∧ Below w'.heap.size w' w'' := fun w' hb => by
    have := rof_any rb lb B lv' ao g o c S3 _ P.mi w' (HR4.below hb)
    rw [show (({ s with l := takenL s.l x } : Bk).L) = s.L from rfl, hof, ← hVM] at this
    exact this
  have T2 : ∀ w', Calls Try.prog 54 #[VM, .int .i64 P.size, .int .i64 P.sent, .int .i64 a] w' fun e w'' => e = .returned (.tuple #[VN, .int .i64 EE]) ∧ Below w'.heap.size w' w'' := fun w' => by
    have := refAck_any m P.size P.sent a w'
    rw [hVM, hVN, ← hV, ← hEE]
    exact this
  have hSN : ∀ w3 : World, (stM (.pointer (some ⟨w3.heap.size, 0, none⟩)) VN).run Try.prog (w3.alloc (.cells #[.int .i64 0, .int .i64 0, .int .i64 0, .int .i64 0, .int .i64 0, .int .i64 0, .int .i64 0, .int .i64 0, .int .i64 0, .int .i64 0, .int .i64 0, .int .i64 0, .int .i64 0, .int .i64 0, .int .i64 0] 63)) = .ok () ((w3.alloc (.cells #[.int .i64 0, .int .i64 0, .int .i64 0, .int .i64 0, .int .i64 0, .int .i64 0, .int .i64 0, .int .i64 0, .int .i64 0, .int .i64 0, .int .i64 0, .int .i64 0, .int .i64 0, .int .i64 0, .int .i64 0] 63)).setCells w3.heap.size 0 (listM V)) := fun w3 => by
    rw [hVN]; exact stM_new V w3
  have HVN : Hid (VN = .agg #[.int .i64 V.id, .int .i64 V.fr, .int .i64 V.to, .int .i64 V.se, .int .i64 V.ac, .int .i64 V.lo, .int .i64 V.pa, .int .i64 V.hi, .int .i64 V.dr, .int .i64 V.n, .int .i64 V.st, .int .i64 V.sr, .int .i64 V.tt, .int .i64 V.tr, .int .i64 V.rr]) := hVN
  have HVI : Hid (V.id = P.mi) := by show _ = _; rw [← hV]; exact hid
  have HV : Hid (howV true m P a = V) := hV
  clear hV hEE hVM hVN hid hof
  go_cut [10, 11] (fun s10 s11 wx => ∃ b, s10 = .pointer (some ⟨b, 0, none⟩) ∧ Ob wx b (listM V) ∧ W4.heap.size ≤ b ∧ Below W4.heap.size W4 wx)
  case first =>
    --@slow
    clear HR4 PB4 GW4 QB
    go_region_held3 (fun w' => Below W4.heap.size W4 w')
      (first | with_reducible exact below_new (by assumption) | with_reducible exact below_put (by assumption) (by first | exact Nat.le_refl _ | omega) | go_grown)
      (first
        | (go_at_call 55; refine (T1 _ (by go_grown)).mono ?_; rintro e w5 ⟨rfl, hw5⟩; have g1 : Below W4.heap.size W4 w5 := Below.call (by go_grown) (by simp) hw5; have zz1 := g1.size; try (have ZO := zo_old (w := W4) (by with_reducible exact below_drew hw5)))
        | (go_at_call 54; refine (T2 _).mono ?_; rintro e w6 ⟨rfl, hw6⟩; have g2 : Below W4.heap.size W4 w6 := Below.call (by go_grown) (by first | omega | (simp; omega) | simp) hw6; have zz2 := g2.size; first | (have ZP := ZO.far (Far.of_below hw6) (by simp); have hst := zo_st (V := V) ZP; have hob := zo_ob (V := V) ZP; rw [← HVN.out] at hst) | (have ZP := zo_old (w := w5) (by with_reducible exact hw6); have hst := zo_st (V := V) ZP; have hob := zo_ob (V := V) ZP; rw [← HVN.out] at hst) | skip))
    all_goals go_wp2_with fail
    all_goals go_meet
    all_goals first | exact ⟨_, rfl, hob, by first | exact Nat.le_refl _ | omega, below_put g2 (by first | exact Nat.le_refl _ | omega)⟩ | exact ⟨w6.heap.size, rfl, ob_new V w6, g2.size, below_new g2⟩
    --@fast
  case rest =>
    obtain ⟨b, rfl, OO, hbb, hw2⟩ := hcut
    have HR5 := HR4.below hw2
    have PB5 := PB4.far (Far.of_below hw2) (by simp)
    have QB5 := QB.far (Far.of_below hw2) (by simp)
    have G5 : Goes S S3 w wc := ⟨GW4.far.below hw2, GW4.sub⟩
    have hLM : (ldM (.pointer (some ⟨b, 0, none⟩))).run Try.prog wc = .ok (.agg #[.int .i64 V.id, .int .i64 V.fr, .int .i64 V.to, .int .i64 V.se, .int .i64 V.ac, .int .i64 V.lo, .int .i64 V.pa, .int .i64 V.hi, .int .i64 V.dr, .int .i64 V.n, .int .i64 V.st, .int .i64 V.sr, .int .i64 V.tt, .int .i64 V.tr, .int .i64 V.rr]) wc := ldM_run OO.c
    clear HR4 PB4 QB q1 q2 q3 T1 T2 hSN hw2 GW4 OO
    go_wp2_with fail
    refine (rput_any rb lb B lv' ao g o c S3 { s with l := takenL s.l x } V hlen _ HR5).mono ?_
    rintro e w7 ⟨rfl, S7, ⟨lb7, B7, lv7, ao7, g7, o7, cc7, HR7⟩, G7⟩
    have PB7 := PB5.far G7.far hp3
    have QB7 := QB5.far G7.far hqS
    have hpS : pb ∉ S7 := fun hm => by
      rcases G7.sub _ hm with h1 | h1
      · exact hp3 h1
      · have := PB5.lt; omega
    have hrS := HR7.m1
    have hn2 : ¬ pb = rb := fun e => by subst e; exact hpS hrS
    have hn1 : ¬ qb = rb := fun e => by
      subst e
      rcases G7.sub _ hrS with h1 | h1
      · exact hqS h1
      · have := QB5.lt; omega
    have hn3 : ¬ qb = pb := by omega
    have G8 := G5.trans G7
    clear HR5 PB5 QB5 G5 G7 hLM
    obtain ⟨c0, c1, c2, c3, c4, fz⟩ := HR7.cells
    have z0 : w7.cell? ⟨pb, 0, none⟩ = some (.int .u64 0) := PB7.cell rfl
    have z1 : w7.cell? ⟨pb, 1, none⟩ = some (.int .i64 0) := PB7.cell rfl
    have z2 : w7.cell? ⟨pb, 2, none⟩ = some (.int .i64 0) := PB7.cell rfl
    have z3 : w7.cell? ⟨pb, 3, none⟩ = some (.int .i64 0) := PB7.cell rfl
    have zf := PB7.f
    have y0 : w7.cell? ⟨qb, 0, none⟩ = some (.int .u64 P.seq) := QB7.cell rfl
    have y1 : w7.cell? ⟨qb, 1, none⟩ = some (.int .i64 P.mi) := QB7.cell rfl
    have y2 : w7.cell? ⟨qb, 2, none⟩ = some (.int .i64 P.size) := QB7.cell rfl
    have y3 : w7.cell? ⟨qb, 3, none⟩ = some (.int .i64 P.sent) := QB7.cell rfl
    have HR8 := HR7.tick a
    have PB8 := (PB7.setCell_other (b := rb) (o := 4) (v := .int .i64 a) hn2).putP P
    have HR9 := HR8.1.far (w1 := (w7.setCell ⟨rb, 4, none⟩ (.int .i64 a)).putP pb P) ((Far.refl [pb] _).putP (.inr (by simp)) _) (fun q hq => by simp; intro e; subst e; exact hpS hq)
    have G9 : Goes S S7 w ((w7.setCell ⟨rb, 4, none⟩ (.int .i64 a)).putP pb P) := ⟨(G8.trans ⟨HR8.2.mono (by simp; exact hrS), fun k hk => .inl hk⟩ : Goes S S7 w _).far.putP (.inl (by omega)) _, G8.sub⟩
    have HRF : Rka ((w7.setCell ⟨rb, 4, none⟩ (.int .i64 a)).putP pb P) rb S7 (stL true s x a) := by
      have := HR9
      rw [HVI.out] at this
      rw [E.out.2.2, HV.out]; exact ⟨_, _, _, _, _, _, _, this⟩
    clear HR7 HR8 HR9 PB7 QB7 G8
    go_wp2_with fail
    exact bodyPost_ret (results_P2 (q := P) (v := .int .i64 0) rfl PB8 rfl rfl) rfl ⟨by rw [E.out.1, E.out.2.1], S7, HRF, G9⟩
set_option maxHeartbeats 4000000 in
theorem rblose_any (rb lb B : Nat) (lv : Value) (ao : Option Addr) (g o c : Nat) (S : List Nat) (s : Bk) (hf : Fit s) (x a : Int) (x0 : 0 ≤ x) (x1 : x ≤ 18446744073709551615) (a0 : -9223372036854775808 ≤ a) (a1 : a ≤ 9223372036854775807) (w : World) (HR : Rks w rb lb B lv ao g o c S s) :
    Calls Try.prog 27 #[.pointer (some ⟨rb, 0, none⟩), .int .u64 x, .int .i64 a] w fun e w' =>
      e = .returned (.tuple #[.agg #[.int .u64 (stP s x a).seq, .int .i64 (stP s x a).mi, .int .i64 (stP s x a).size, .int .i64 (stP s x a).sent], .int .i64 (stE s x a)]) ∧ ∃ S', Rka w' rb S' (stL false s x a) ∧ Goes S S' w w' := by
  have hlen := hf.len
  have hok := hf.ok
  go_enter Try.func27, Try.ntmps27
  go_upto_region 1 with fail
  have FA : Far [] w (w.alloc (.cells #[.int .u64 0, .int .i64 0, .int .i64 0, .int .i64 0] 57)) := (Far.refl _ _).alloc _
  have PB := Ob.fresh w #[.int .u64 0, .int .i64 0, .int .i64 0, .int .i64 0] 57
  have HR0 := HR.far FA (by simp)
  have hlow : ∀ q ∈ S, q < w.heap.size := HR.low
  generalize w.alloc (.cells #[.int .u64 0, .int .i64 0, .int .i64 0, .int .i64 0] 57) = W at *
  obtain ⟨pb, hpb⟩ : ∃ pb, w.heap.size = pb := ⟨_, rfl⟩
  simp only [hpb] at PB hlow ⊢
  go_wp2_with fail
  refine (rearly_any rb lb B lv ao g o c S s hf.n0 a _ HR0).mono ?_
  rintro e w1 ⟨rfl, hw1⟩
  have HR1 := HR0.below hw1
  have PB1 : Ob w1 pb (pc ⟨0, 0, 0, 0⟩) := PB.far (Far.of_below hw1) (by simp)
  have F1 : Far S w w1 := (FA.below hw1).mono (by simp)
  clear HR HR0 PB FA hw1
  have z0 : w1.cell? ⟨pb, 0, none⟩ = some (.int .u64 0) := PB1.cell rfl
  have z1 : w1.cell? ⟨pb, 1, none⟩ = some (.int .i64 0) := PB1.cell rfl
  have z2 : w1.cell? ⟨pb, 2, none⟩ = some (.int .i64 0) := PB1.cell rfl
  have z3 : w1.cell? ⟨pb, 3, none⟩ = some (.int .i64 0) := PB1.cell rfl
  have zf := PB1.f
  have hpn : ∀ q ∈ S, q ≠ pb := fun q hq e => by have := hlow q hq; omega
  obtain ⟨c0, c1, c2, c3, c4, fz⟩ := HR1.cells
  by_cases he : earlyP s a
  · have E : Hid (stE s x a = 10 ∧ stP s x a = ⟨0, 0, 0, 0⟩ ∧ stL false s x a = s) := ⟨by simp [stE, he], by simp [stP, stE, he], by simp [stL, stE, he]⟩
    rw [decide_eq_true he]
    have OP := PB1.putP ⟨0, 0, 0, 0⟩
    have HR3 := HR1.far (w1 := w1.putP pb ⟨0, 0, 0, 0⟩) ((Far.refl [pb] _).putP (.inr (by simp)) _) (fun q hq => by simp; exact hpn q hq)
    have F3 : Far S w (w1.putP pb ⟨0, 0, 0, 0⟩) := F1.putP (.inl (by omega)) _
    clear HR1 PB1 F1
    go_wp2_with fail
    exact bodyPost_ret (results_P2 (q := ⟨0, 0, 0, 0⟩) (v := .int .i64 10) rfl OP rfl rfl) rfl ⟨by rw [E.out.1, E.out.2.1], S, by rw [E.out.2.2]; exact ⟨_, _, _, _, _, _, _, HR3⟩, F3, fun k hk => .inl hk⟩
  rw [decide_eq_false he]
  have HE : Hid (¬ earlyP s a) := he
  have hea : s.now ≤ a ∧ a ≤ 1099511627776 := by unfold earlyP at he; omega
  clear he
  have hlb : lb < pb := hlow _ HR1.m2
  go_wp2_with fail
  refine (rtake_any B lb lv s.l hok x x0 x1 _ HR1.led).mono ?_
  rintro e w3 ⟨rfl, ⟨lv', HL3, hlv⟩, F3⟩
  obtain ⟨S3, HR3, G3⟩ := HR1.ledger F3 (fun k hk => by left; simpa using hk) HL3 hlv
  have PB3 := PB1.far F3 (by simp; omega)
  have GW : Goes S S3 w w3 := (⟨F1, fun k hk => .inl hk⟩ : Goes S S w _).trans G3
  have hp3 : pb ∉ S3 := fun hm => by
    rcases G3.sub _ hm with h1 | h1
    · exact hpn _ h1 rfl
    · have := PB1.lt; omega
  clear HR1 PB1 F1 F3 HL3 hlv c0 c1 c2 c3 c4 fz z0 z1 z2 z3 zf G3
  have z0 : w3.cell? ⟨pb, 0, none⟩ = some (.int .u64 0) := PB3.cell rfl
  have z1 : w3.cell? ⟨pb, 1, none⟩ = some (.int .i64 0) := PB3.cell rfl
  have z2 : w3.cell? ⟨pb, 2, none⟩ = some (.int .i64 0) := PB3.cell rfl
  have z3 : w3.cell? ⟨pb, 3, none⟩ = some (.int .i64 0) := PB3.cell rfl
  have zf := PB3.f
  have zl := PB3.lt
  by_cases hr : tkv s.l x = 0
  rotate_left
  · have e : stE s x a = tkv s.l x := by unfold stE; rw [if_neg HE.out]
    have E : Hid (stE s x a = tkv s.l x ∧ stP s x a = ⟨0, 0, 0, 0⟩ ∧ stL false s x a = s) := ⟨e, by unfold stP; rw [if_neg (by rw [e]; exact hr)], by unfold stL; rw [if_neg (by rw [e]; exact hr)]⟩
    have ht : takenL s.l x = s.l := (tk_not hr).1
    rw [ht] at HR3
    have HR4 : Rks w3 rb lb B lv' ao g o c S3 s := HR3
    clear HR3 ht e
    generalize tkv s.l x = RV at *
    obtain ⟨P, hP⟩ : ∃ P, tkp s.l x = P := ⟨_, rfl⟩
    rw [hP]
    clear hP
    have OP := (PB3.putP ⟨0, 0, 0, 0⟩).far ((Far.refl [] _).alloc (.cells #[.int .u64 P.seq, .int .i64 P.mi, .int .i64 P.size, .int .i64 P.sent] 57)) (by simp)
    have HR5 := (HR4.far (w1 := w3.putP pb ⟨0, 0, 0, 0⟩) ((Far.refl [pb] _).putP (.inr (by simp)) _) (fun q hq => by simp; intro e; subst e; exact hp3 hq)).far ((Far.refl [] _).alloc (.cells #[.int .u64 P.seq, .int .i64 P.mi, .int .i64 P.size, .int .i64 P.sent] 57)) (by simp)
    have G5 : Goes S S3 w ((w3.putP pb ⟨0, 0, 0, 0⟩).alloc (.cells #[.int .u64 P.seq, .int .i64 P.mi, .int .i64 P.size, .int .i64 P.sent] 57)) := ⟨(GW.far.putP (.inl (by omega)) _).alloc _, GW.sub⟩
    clear HR4 GW PB3
    go_wp2_with fail
    exact bodyPost_ret (results_P2 (q := ⟨0, 0, 0, 0⟩) (v := .int .i64 RV) rfl OP rfl rfl) rfl ⟨by rw [E.out.1, E.out.2.1], S3, by rw [E.out.2.2]; exact ⟨_, _, _, _, _, _, _, HR5⟩, G5⟩
  obtain ⟨j, hj, hof, hid, hcc⟩ := how_id hf hea hr false
  have htm := (tk_is hok hr).1
  have htb := hok.tb _ htm
  have hl1 := hok.l1
  have e : stE s x a = 0 := by unfold stE; rw [if_neg HE.out]; exact hr
  have E : Hid (stE s x a = 0 ∧ stP s x a = tkp s.l x ∧ stL false s x a = { s with l := takenL s.l x, now := a, L := chg s.L (tkp s.l x).mi (fun _ => howV false s.L[j] (tkp s.l x) a) }) := by
    refine ⟨e, by unfold stP; rw [if_pos e], ?_⟩
    unfold stL; rw [if_pos e, hcc]
  clear e hcc htm
  rw [hr]
  obtain ⟨P, hP⟩ : ∃ P, tkp s.l x = P := ⟨_, rfl⟩
  rw [hP] at E hof hid htb ⊢
  clear hP
  obtain ⟨m, hm⟩ : ∃ m, s.L[j] = m := ⟨_, rfl⟩
  rw [hm] at E hof hid
  clear hm
  go_upto_region 6 with fail
  have F4 : Far [] w3 (w3.alloc (.cells #[.int .u64 P.seq, .int .i64 P.mi, .int .i64 P.size, .int .i64 P.sent] 57)) := (Far.refl _ _).alloc _
  have HR4 := HR3.far F4 (by simp)
  have PB4 := PB3.far F4 (by simp)
  have QB := Ob.fresh w3 #[.int .u64 P.seq, .int .i64 P.mi, .int .i64 P.size, .int .i64 P.sent] 57
  have GW4 : Goes S S3 w (w3.alloc (.cells #[.int .u64 P.seq, .int .i64 P.mi, .int .i64 P.size, .int .i64 P.sent] 57)) := ⟨GW.far.alloc _, GW.sub⟩
  have hqS : w3.heap.size ∉ S3 := fun hm => by have := HR3.low _ hm; omega
  have hqp : pb < w3.heap.size := zl
  generalize w3.alloc (.cells #[.int .u64 P.seq, .int .i64 P.mi, .int .i64 P.size, .int .i64 P.sent] 57) = W4 at *
  obtain ⟨qb, hqb⟩ : ∃ qb, w3.heap.size = qb := ⟨_, rfl⟩
  rw [hqb] at QB hqS hqp ⊢
  clear HR3 PB3 GW F4 z0 z1 z2 z3 zf zl hqb
  have q1 : ∀ w', Below W4.heap.size W4 w' → w'.cell? ⟨qb, 1, none⟩ = some (.int .i64 P.mi) := fun w' hb => (QB.far (Far.of_below hb) (by simp)).cell rfl
  have q2 : ∀ w', Below W4.heap.size W4 w' → w'.cell? ⟨qb, 2, none⟩ = some (.int .i64 P.size) := fun w' hb => (QB.far (Far.of_below hb) (by simp)).cell rfl
  have q3 : ∀ w', Below W4.heap.size W4 w' → w'.cell? ⟨qb, 3, none⟩ = some (.int .i64 P.sent) := fun w' hb => (QB.far (Far.of_below hb) (by simp)).cell rfl
  obtain ⟨V, hV⟩ : ∃ V, howV false m P a = V := ⟨_, rfl⟩
  obtain ⟨EE, hEE⟩ : ∃ x, howE false m P a = x := ⟨_, rfl⟩
  obtain ⟨VM, hVM⟩ : ∃ x : Value, x = .agg #[.int .i64 m.id, .int .i64 m.fr, .int .i64 m.to, .int .i64 m.se, .int .i64 m.ac, .int .i64 m.lo, .int .i64 m.pa, .int .i64 m.hi, .int .i64 m.dr, .int .i64 m.n, .int .i64 m.st, .int .i64 m.sr, .int .i64 m.tt, .int .i64 m.tr, .int .i64 m.rr] := ⟨_, rfl⟩
  obtain ⟨VN, hVN⟩ : ∃ x : Value, x = .agg #[.int .i64 V.id, .int .i64 V.fr, .int .i64 V.to, .int .i64 V.se, .int .i64 V.ac, .int .i64 V.lo, .int .i64 V.pa, .int .i64 V.hi, .int .i64 V.dr, .int .i64 V.n, .int .i64 V.st, .int .i64 V.sr, .int .i64 V.tt, .int .i64 V.tr, .int .i64 V.rr] := ⟨_, rfl⟩
  have T1 : ∀ w', Below W4.heap.size W4 w' → Calls Try.prog 55 #[.pointer (some ⟨rb, 0, none⟩), .int .i64 P.mi] w' fun e w'' => e = .returned VM ∧ Below w'.heap.size w' w'' := fun w' hb => by
    have := rof_any rb lb B lv' ao g o c S3 _ P.mi w' (HR4.below hb)
    rw [show (({ s with l := takenL s.l x } : Bk).L) = s.L from rfl, hof, ← hVM] at this
    exact this
  have T2 : ∀ w', Calls Try.prog 56 #[VM, .int .i64 P.size] w' fun e w'' => e = .returned (.tuple #[VN, .int .i64 EE]) ∧ Below w'.heap.size w' w'' := fun w' => by
    have := refLose_any m P.size w'
    rw [hVM, hVN, ← hV, ← hEE]
    exact this
  have hSN : ∀ w3 : World, (stM (.pointer (some ⟨w3.heap.size, 0, none⟩)) VN).run Try.prog (w3.alloc (.cells #[.int .i64 0, .int .i64 0, .int .i64 0, .int .i64 0, .int .i64 0, .int .i64 0, .int .i64 0, .int .i64 0, .int .i64 0, .int .i64 0, .int .i64 0, .int .i64 0, .int .i64 0, .int .i64 0, .int .i64 0] 63)) = .ok () ((w3.alloc (.cells #[.int .i64 0, .int .i64 0, .int .i64 0, .int .i64 0, .int .i64 0, .int .i64 0, .int .i64 0, .int .i64 0, .int .i64 0, .int .i64 0, .int .i64 0, .int .i64 0, .int .i64 0, .int .i64 0, .int .i64 0] 63)).setCells w3.heap.size 0 (listM V)) := fun w3 => by
    rw [hVN]; exact stM_new V w3
  have HVN : Hid (VN = .agg #[.int .i64 V.id, .int .i64 V.fr, .int .i64 V.to, .int .i64 V.se, .int .i64 V.ac, .int .i64 V.lo, .int .i64 V.pa, .int .i64 V.hi, .int .i64 V.dr, .int .i64 V.n, .int .i64 V.st, .int .i64 V.sr, .int .i64 V.tt, .int .i64 V.tr, .int .i64 V.rr]) := hVN
  have HVI : Hid (V.id = P.mi) := by show _ = _; rw [← hV]; exact hid
  have HV : Hid (howV false m P a = V) := hV
  clear hV hEE hVM hVN hid hof
  go_cut [10, 11] (fun s10 s11 wx => ∃ b, s10 = .pointer (some ⟨b, 0, none⟩) ∧ Ob wx b (listM V) ∧ W4.heap.size ≤ b ∧ Below W4.heap.size W4 wx)
  case first =>
    --@slow
    clear HR4 PB4 GW4 QB
    go_region_held3 (fun w' => Below W4.heap.size W4 w')
      (first | with_reducible exact below_new (by assumption) | with_reducible exact below_put (by assumption) (by first | exact Nat.le_refl _ | omega) | go_grown)
      (first
        | (go_at_call 55; refine (T1 _ (by go_grown)).mono ?_; rintro e w5 ⟨rfl, hw5⟩; have g1 : Below W4.heap.size W4 w5 := Below.call (by go_grown) (by simp) hw5; have zz1 := g1.size; try (have ZO := zo_old (w := W4) (by with_reducible exact below_drew hw5)))
        | (go_at_call 56; refine (T2 _).mono ?_; rintro e w6 ⟨rfl, hw6⟩; have g2 : Below W4.heap.size W4 w6 := Below.call (by go_grown) (by first | omega | (simp; omega) | simp) hw6; have zz2 := g2.size; first | (have ZP := ZO.far (Far.of_below hw6) (by simp); have hst := zo_st (V := V) ZP; have hob := zo_ob (V := V) ZP; rw [← HVN.out] at hst) | (have ZP := zo_old (w := w5) (by with_reducible exact hw6); have hst := zo_st (V := V) ZP; have hob := zo_ob (V := V) ZP; rw [← HVN.out] at hst) | skip))
    all_goals go_wp2_with fail
    all_goals go_meet
    all_goals first | exact ⟨_, rfl, hob, by first | exact Nat.le_refl _ | omega, below_put g2 (by first | exact Nat.le_refl _ | omega)⟩ | exact ⟨w6.heap.size, rfl, ob_new V w6, g2.size, below_new g2⟩
    --@fast
  case rest =>
    obtain ⟨b, rfl, OO, hbb, hw2⟩ := hcut
    have HR5 := HR4.below hw2
    have PB5 := PB4.far (Far.of_below hw2) (by simp)
    have QB5 := QB.far (Far.of_below hw2) (by simp)
    have G5 : Goes S S3 w wc := ⟨GW4.far.below hw2, GW4.sub⟩
    have hLM : (ldM (.pointer (some ⟨b, 0, none⟩))).run Try.prog wc = .ok (.agg #[.int .i64 V.id, .int .i64 V.fr, .int .i64 V.to, .int .i64 V.se, .int .i64 V.ac, .int .i64 V.lo, .int .i64 V.pa, .int .i64 V.hi, .int .i64 V.dr, .int .i64 V.n, .int .i64 V.st, .int .i64 V.sr, .int .i64 V.tt, .int .i64 V.tr, .int .i64 V.rr]) wc := ldM_run OO.c
    clear HR4 PB4 QB q1 q2 q3 T1 T2 hSN hw2 GW4 OO
    go_wp2_with fail
    refine (rput_any rb lb B lv' ao g o c S3 { s with l := takenL s.l x } V hlen _ HR5).mono ?_
    rintro e w7 ⟨rfl, S7, ⟨lb7, B7, lv7, ao7, g7, o7, cc7, HR7⟩, G7⟩
    have PB7 := PB5.far G7.far hp3
    have QB7 := QB5.far G7.far hqS
    have hpS : pb ∉ S7 := fun hm => by
      rcases G7.sub _ hm with h1 | h1
      · exact hp3 h1
      · have := PB5.lt; omega
    have hrS := HR7.m1
    have hn2 : ¬ pb = rb := fun e => by subst e; exact hpS hrS
    have hn1 : ¬ qb = rb := fun e => by
      subst e
      rcases G7.sub _ hrS with h1 | h1
      · exact hqS h1
      · have := QB5.lt; omega
    have hn3 : ¬ qb = pb := by omega
    have G8 := G5.trans G7
    clear HR5 PB5 QB5 G5 G7 hLM
    obtain ⟨c0, c1, c2, c3, c4, fz⟩ := HR7.cells
    have z0 : w7.cell? ⟨pb, 0, none⟩ = some (.int .u64 0) := PB7.cell rfl
    have z1 : w7.cell? ⟨pb, 1, none⟩ = some (.int .i64 0) := PB7.cell rfl
    have z2 : w7.cell? ⟨pb, 2, none⟩ = some (.int .i64 0) := PB7.cell rfl
    have z3 : w7.cell? ⟨pb, 3, none⟩ = some (.int .i64 0) := PB7.cell rfl
    have zf := PB7.f
    have y0 : w7.cell? ⟨qb, 0, none⟩ = some (.int .u64 P.seq) := QB7.cell rfl
    have y1 : w7.cell? ⟨qb, 1, none⟩ = some (.int .i64 P.mi) := QB7.cell rfl
    have y2 : w7.cell? ⟨qb, 2, none⟩ = some (.int .i64 P.size) := QB7.cell rfl
    have y3 : w7.cell? ⟨qb, 3, none⟩ = some (.int .i64 P.sent) := QB7.cell rfl
    have HR8 := HR7.tick a
    have PB8 := (PB7.setCell_other (b := rb) (o := 4) (v := .int .i64 a) hn2).putP P
    have HR9 := HR8.1.far (w1 := (w7.setCell ⟨rb, 4, none⟩ (.int .i64 a)).putP pb P) ((Far.refl [pb] _).putP (.inr (by simp)) _) (fun q hq => by simp; intro e; subst e; exact hpS hq)
    have G9 : Goes S S7 w ((w7.setCell ⟨rb, 4, none⟩ (.int .i64 a)).putP pb P) := ⟨(G8.trans ⟨HR8.2.mono (by simp; exact hrS), fun k hk => .inl hk⟩ : Goes S S7 w _).far.putP (.inl (by omega)) _, G8.sub⟩
    have HRF : Rka ((w7.setCell ⟨rb, 4, none⟩ (.int .i64 a)).putP pb P) rb S7 (stL false s x a) := by
      have := HR9
      rw [HVI.out] at this
      rw [E.out.2.2, HV.out]; exact ⟨_, _, _, _, _, _, _, this⟩
    clear HR7 HR8 HR9 PB7 QB7 G8
    go_wp2_with fail
    exact bodyPost_ret (results_P2 (q := P) (v := .int .i64 0) rfl PB8 rfl rfl) rfl ⟨by rw [E.out.1, E.out.2.1], S7, HRF, G9⟩
end Go.Proofs.Ytpaalpnoppblaaa

/-! Z18 -/
namespace Go.Proofs.Ytpaalpnoppblaaa
open Go.RowKit Go.Maps
set_option linter.unusedVariables false
set_option maxRecDepth 8000
/-- Where a packet that is over is charged, in the reference. -/
theorem lost_of {s : Bk} (hf : Fit s) {a : Int} (a0 : s.now ≤ a) (a1 : a ≤ 1099511627776) {G R : List Pt} (e : s.l.L = G ++ R) {i : Nat} (hi : i < G.length) :
    ∃ m, ofL (lostAll s.L (G.take i) a) (G[i]).mi = m ∧ (howV false m (G[i]) a).id = (G[i]).mi ∧ chg (lostAll s.L (G.take i) a) (G[i]).mi (fun _ => howV false m (G[i]) a) = lostAll s.L (G.take (i + 1)) a := by
  have e2 : s.l.L = G.take i ++ (G.drop i ++ R) := by rw [← List.append_assoc, List.take_append_drop]; exact e
  have hs : (G.drop i ++ R).Sublist s.l.L := by rw [e2]; exact List.sublist_append_right _ _
  have f := lost_turn a0 a1 (G.take i) (R := G.drop i ++ R) (l := { s.l with L := G.drop i ++ R }) hf (lg_sub hf.ok hs) (by have := hf.nl; show s.l.last ≤ a; omega) e2 rfl
  have hcons : G.drop i ++ R = G[i] :: (G.drop (i + 1) ++ R) := by rw [List.drop_eq_getElem_cons hi]; rfl
  have hm : G[i] ∈ G.drop i ++ R := by rw [hcons]; exact List.mem_cons_self
  have hp := f.pk (G[i]) hm
  obtain ⟨j, hj, ej, hid, hu⟩ := f.place hp.1 hp.2
  have hno : ∀ q ∈ (lostAll s.L (G.take i) a).take j, q.id ≠ (G[i]).mi := fun q hq => by
    obtain ⟨k, hk, rfl⟩ := List.getElem_of_mem hq
    rw [List.length_take] at hk
    rw [List.getElem_take]
    intro h
    have := (hu k (by omega)).1 h
    omega
  have ow := f.owes _ (List.getElem_mem hj)
  have hsz := f.szs
  have htb := hf.ok.tb (G[i]) (hs.subset hm)
  have hnl := hf.nl
  have ht2 := how_turn (k := false) (p := G[i]) (Q := G.drop (i + 1) ++ R) (a := a) (by have := ow; rw [show (({ s with l := { s.l with L := G.drop i ++ R }, now := a, L := lostAll s.L (G.take i) a } : Bk).l.L) = G.drop i ++ R from rfl, hcons] at this; exact this) (by have := hsz; rw [show (({ s with l := { s.l with L := G.drop i ++ R }, now := a, L := lostAll s.L (G.take i) a } : Bk).l.L) = G.drop i ++ R from rfl, hcons] at this; exact this) hid.symm htb.1 (by omega) a1
  refine ⟨_, ofL_at hj hid hno, ht2.1.trans hid, ?_⟩
  rw [lostAll_succ hi]
  exact chg_const hj hu (fun m => howV false m (G[i]) a)
theorem Rks.drop {w : World} {rb lb B : Nat} {lv : Value} {ao : Option Addr} {g o c : Nat} {S : List Nat} {s : Bk} (h : Rks w rb lb B lv ao g o c S s) (ob : Option Nat) (h1 : some rb ≠ ob) (h2 : some lb ≠ ob) (h3 : ∀ k, lv.ownBlock = some k → some k ≠ ob) (h4 : 0 < c → some g ≠ ob) :
    Rks w rb lb B lv ao g o c (S.filter fun k => decide (some k ≠ ob)) s :=
  ⟨h.ob, h.led, h.row, h.n1, fun k e => ⟨(h.nv k e).1, (h.nv k e).2.1, List.mem_filter.2 ⟨(h.nv k e).2.2, decide_eq_true (h3 k e)⟩⟩, fun hc => ⟨(h.ng hc).1, (h.ng hc).2.1, (h.ng hc).2.2.1, List.mem_filter.2 ⟨(h.ng hc).2.2.2, decide_eq_true (h4 hc)⟩⟩,
    List.mem_filter.2 ⟨h.m1, decide_eq_true h1⟩, List.mem_filter.2 ⟨h.m2, decide_eq_true h2⟩, fun k hk => h.low k (List.mem_filter.1 hk).1⟩
attribute [local go_sem ↓] ldM_shut stM_shut
set_option maxHeartbeats 4000000 in
theorem rbexpire_any (rb lb B : Nat) (lv : Value) (ao : Option Addr) (g o c : Nat) (S : List Nat) (s : Bk) (hf : Fit s) (a : Int) (a0 : -9223372036854775808 ≤ a) (a1 : a ≤ 9223372036854775807) (w : World) (HR : Rks w rb lb B lv ao g o c S s) :
    Calls Try.prog 28 #[.pointer (some ⟨rb, 0, none⟩), .int .i64 a] w fun e w' =>
      ∃ v, e = .returned (.tuple #[v, .int .i64 (exE s a)]) ∧ w'.ownsRow w.heap.size 57 4 v (exP s a).length (pcs (exP s a)) ∧ (∃ S', (∀ oo, Rka w' rb S' (exL s a oo)) ∧ Goes S S' w w') := by
  have hlen := hf.len
  have hok := hf.ok
  have ht0 := hf.t0
  have ht1 := hf.t1
  go_enter Try.func28, Try.ntmps28
  go_wp2_with fail
  refine (rearly_any rb lb B lv ao g o c S s hf.n0 a _ HR).mono ?_
  rintro e w1 ⟨rfl, hw1⟩
  have HR1 := HR.below hw1
  have F1 : Far S w w1 := (Far.of_below hw1).mono (by simp)
  have hlow : ∀ q ∈ S, q < w.heap.size := HR.low
  have hsz1 := hw1.size
  clear HR hw1
  obtain ⟨c0, c1, c2, c3, c4, fz⟩ := HR1.cells
  by_cases he : earlyP s a
  · have E : Hid (exE s a = 10 ∧ exP s a = [] ∧ ∀ oo, exL s a oo = s) := ⟨by simp [exE, he], by simp [exP, he], fun oo => by simp [exL, he]⟩
    rw [decide_eq_true he]
    go_wp2_with fail
    go_ret2
    refine ⟨_, by rw [E.out.1]; rfl, by rw [E.out.2.1]; exact World.ownsRow_nil _ _ _ _, S, fun oo => ?_, F1, fun k hk => .inl hk⟩
    rw [E.out.2.2]; exact ⟨_, _, _, _, _, _, _, HR1⟩
  rw [decide_eq_false he]
  have hea : s.now ≤ a ∧ a ≤ 1099511627776 := by unfold earlyP at he; omega
  have HE : Hid (exE s a = 0 ∧ exP s a = s.l.L.filter (isover a s.timeout) ∧ ∀ o, exL s a o = { s with l := { s.l with oldest := o, L := s.l.L.filter fun p => !isover a s.timeout p }, now := a, L := lostAll s.L (s.l.L.filter (isover a s.timeout)) a }) :=
    ⟨by simp [exE, he], by simp [exP, he], fun o => by simp [exL, he]⟩
  clear he
  have HLD := HR1.led.far2 (Far.refl [] _).drew (by simp) (by simp)
  go_upto_region 3 with fail
  go_cut [6] (fun s6 wx => wx.ownsRow w1.heap.size 57 4 s6 (s.l.L.filter (isover a s.timeout)).length (pcs (s.l.L.filter (isover a s.timeout))) ∧
      (∃ v', RLed B lb wx v' { s.l with L := s.l.L.filter (fun p => !isover a s.timeout p) } ∧ (∀ q, v'.ownBlock = some q → lv.ownBlock = some q ∨ w1.heap.size ≤ q) ∧ ∀ q, s6.ownBlock = some q → v'.ownBlock = some q → False) ∧ Far [lb] w1 wx)
  case first =>
    --@slow
    clear HR1 F1
    go_region_with (first | (go_at_call 57; refine (rexpire2_any B lb lv s.l hok a s.timeout a0 a1 (by omega) (by omega) _ HLD).mono ?_; rintro e w3 ⟨v, rfl, own3, HL3, F3⟩))
    all_goals go_wp2_with fail
    all_goals go_meet
    all_goals exact ⟨own3, HL3, (Far.refl [lb] w1).drew.trans F3⟩
    --@fast
  case rest =>
    obtain ⟨own3, ⟨lv', HL3, hlv, hdj⟩, F3⟩ := hcut
    obtain ⟨ap, cp, rfl, PK⟩ := Pks.own own3
    obtain ⟨S3, HR3, G3⟩ := HR1.ledger F3 (fun k hk => by left; simpa using hk) HL3 hlv
    have GW3 : Goes S S3 w wc := (⟨F1, fun k hk => .inl hk⟩ : Goes S S w _).trans G3
    obtain ⟨G, hG⟩ : ∃ G, s.l.L.filter (isover a s.timeout) = G := ⟨_, rfl⟩
    obtain ⟨R, hR⟩ : ∃ R, s.l.L.filter (fun p => !isover a s.timeout p) = R := ⟨_, rfl⟩
    have hGR := over_front hok a s.timeout
    have hgm : ∀ p ∈ G, p ∈ s.l.L := fun p hp => by rw [← hG] at hp; exact (List.mem_filter.1 hp).1
    have hgl : G.length ≤ 4096 := by
      have h1 := hok.len; have h2 := hok.r1
      have h3 := List.length_filter_le (isover a s.timeout) s.l.L
      rw [hG] at h3; omega
    rw [hG, hR] at HE hGR
    rw [hG] at own3 PK hdj
    simp only [hG]
    have own4 : wc.ownsRow w.heap.size 57 4 (.slice ap G.length cp) G.length (pcs G) := own_base4 own3 hsz1
    have hS1 : ∀ k ∈ S, k < w1.heap.size := HR1.low
    have hgq : ∀ q, (Value.slice ap G.length cp).ownBlock = some q → w1.heap.size ≤ q := fun q e => (own_lt own3 e).2
    have HR3' := HR3.drop (Value.slice ap G.length cp).ownBlock (fun e => by have := hgq _ e.symm; have := hS1 _ HR1.m1; omega) (fun e => by have := hgq _ e.symm; have := hS1 _ HR1.m2; omega) (fun k e1 e2 => hdj k e2.symm e1) (fun hc e => by have := hgq _ e.symm; have := hS1 _ (HR1.ng hc).2.2.2; omega)
    obtain ⟨S4, hS4⟩ : ∃ S4, S3.filter (fun k => decide (some k ≠ (Value.slice ap G.length cp).ownBlock)) = S4 := ⟨_, rfl⟩
    rw [hS4] at HR3'
    have hqS4 : ∀ q, (Value.slice ap G.length cp).ownBlock = some q → q ∉ S4 := fun q e hm => by
      rw [← hS4, List.mem_filter] at hm
      have := of_decide_eq_true hm.2
      exact this e.symm
    have GW4 : Goes S S4 w wc := ⟨GW3.far, fun k hk => GW3.sub k (by rw [← hS4] at hk; exact (List.mem_filter.1 hk).1)⟩
    have HRA : Rka wc rb S4 { s with l := { s.l with L := R }, L := lostAll s.L (G.take 0) a } := by
      rw [hR] at HR3'
      exact ⟨_, _, _, _, _, _, _, HR3'⟩
    have hpc := PK.cap; have hpm := PK.max
    have hmx : maxLen = 9223372036854775807 := rfl
    clear HR1 HR3 HR3' F1 F3 HL3 hlv hdj G3 GW3 own3 HLD c0 c1 c2 c3 c4 fz hS4 hgq hS1 PK hG
    go_wp2_with fail
    go_loopw [7] (fun v7 wr => ∃ (i : Nat) (S' : List Nat), i ≤ G.length ∧ v7 = .int .i64 i ∧ Rka wr rb S' { s with l := { s.l with L := R }, L := lostAll s.L (G.take i) a } ∧ Goes S S' w wr ∧
      wr.ownsRow w.heap.size 57 4 (.slice ap G.length cp) G.length (pcs G) ∧ (∀ q, (Value.slice ap G.length cp).ownBlock = some q → q ∉ S')) (fun v7 _ => G.length - (intOf v7).toNat)
    case atStart => exact ⟨0, S4, Nat.zero_le _, rfl, HRA, GW4, own4, hqS4⟩
    case round =>
      clear HRA GW4 own4 hqS4
      obtain ⟨i, S5, hi, rfl, ⟨lb5, B5, lv5, ao5, g5, o5, cc5, HR5⟩, G5, own5, hq5⟩ := hrel
      have hwr := G5.far.size
      by_cases hin : i < G.length
      · obtain ⟨_, _, eqv, PKr⟩ := Pks.own own5
        cases eqv
        obtain ⟨pk, rfl, hbl, hc⟩ := PKr.at' (by omega)
        obtain ⟨m, hof, hid, hcc⟩ := lost_of hf hea.1 hea.2 hGR hin
        have hlen5 : (lostAll s.L (G.take i) a).length ≤ 64 := by
          have : ∀ (M : List Pt) (L : List Mi), (lostAll L M a).length = L.length := fun M => by
            induction M with
            | nil => intro L; rfl
            | cons p M ih => intro L; exact (ih _).trans (chg_length _ _ _)
          rw [this]; exact hlen
        obtain ⟨P, hP⟩ : ∃ P, G[i] = P := ⟨_, rfl⟩
        have hci := hc i hin
        rw [hP] at hof hid hcc hci
        clear hP hc
        have q1 : ∀ w', Below wr.heap.size wr w' → w'.cell? ⟨pk, i * 4 + 1, none⟩ = some (.int .i64 P.mi) := fun w' hb => (hb.cell (p := ⟨pk, i * 4 + 1, none⟩) hbl).trans hci.2.1
        have q2 : ∀ w', Below wr.heap.size wr w' → w'.cell? ⟨pk, i * 4 + 2, none⟩ = some (.int .i64 P.size) := fun w' hb => (hb.cell (p := ⟨pk, i * 4 + 2, none⟩) hbl).trans hci.2.2.1
        obtain ⟨V, hV⟩ : ∃ V, howV false m P a = V := ⟨_, rfl⟩
        obtain ⟨EE, hEE⟩ : ∃ x, howE false m P a = x := ⟨_, rfl⟩
        obtain ⟨VM, hVM⟩ : ∃ x : Value, x = .agg #[.int .i64 m.id, .int .i64 m.fr, .int .i64 m.to, .int .i64 m.se, .int .i64 m.ac, .int .i64 m.lo, .int .i64 m.pa, .int .i64 m.hi, .int .i64 m.dr, .int .i64 m.n, .int .i64 m.st, .int .i64 m.sr, .int .i64 m.tt, .int .i64 m.tr, .int .i64 m.rr] := ⟨_, rfl⟩
        obtain ⟨VN, hVN⟩ : ∃ x : Value, x = .agg #[.int .i64 V.id, .int .i64 V.fr, .int .i64 V.to, .int .i64 V.se, .int .i64 V.ac, .int .i64 V.lo, .int .i64 V.pa, .int .i64 V.hi, .int .i64 V.dr, .int .i64 V.n, .int .i64 V.st, .int .i64 V.sr, .int .i64 V.tt, .int .i64 V.tr, .int .i64 V.rr] := ⟨_, rfl⟩
        have T1 : ∀ w', Below wr.heap.size wr w' → Calls Try.prog 55 #[.pointer (some ⟨rb, 0, none⟩), .int .i64 P.mi] w' fun e w'' => e = .returned VM ∧ Below w'.heap.size w' w'' := fun w' hb => by
          have := rof_any rb lb5 B5 lv5 ao5 g5 o5 cc5 S5 _ P.mi w' (HR5.below hb)
          rw [show (({ s with l := { s.l with L := R }, L := lostAll s.L (G.take i) a } : Bk).L) = lostAll s.L (G.take i) a from rfl, hof, ← hVM] at this
          exact this
        have T2 : ∀ w', Calls Try.prog 56 #[VM, .int .i64 P.size] w' fun e w'' => e = .returned (.tuple #[VN, .int .i64 EE]) ∧ Below w'.heap.size w' w'' := fun w' => by
          have := refLose_any m P.size w'
          rw [hVM, hVN, ← hV, ← hEE]
          exact this
        have hSN : ∀ w3 : World, (stM (.pointer (some ⟨w3.heap.size, 0, none⟩)) VN).run Try.prog (w3.alloc (.cells #[.int .i64 0, .int .i64 0, .int .i64 0, .int .i64 0, .int .i64 0, .int .i64 0, .int .i64 0, .int .i64 0, .int .i64 0, .int .i64 0, .int .i64 0, .int .i64 0, .int .i64 0, .int .i64 0, .int .i64 0] 63)) = .ok () ((w3.alloc (.cells #[.int .i64 0, .int .i64 0, .int .i64 0, .int .i64 0, .int .i64 0, .int .i64 0, .int .i64 0, .int .i64 0, .int .i64 0, .int .i64 0, .int .i64 0, .int .i64 0, .int .i64 0, .int .i64 0, .int .i64 0] 63)).setCells w3.heap.size 0 (listM V)) := fun w3 => by
          rw [hVN]; exact stM_new V w3
        have HVN : Hid (VN = .agg #[.int .i64 V.id, .int .i64 V.fr, .int .i64 V.to, .int .i64 V.se, .int .i64 V.ac, .int .i64 V.lo, .int .i64 V.pa, .int .i64 V.hi, .int .i64 V.dr, .int .i64 V.n, .int .i64 V.st, .int .i64 V.sr, .int .i64 V.tt, .int .i64 V.tr, .int .i64 V.rr]) := hVN
        have HVI : Hid (V.id = P.mi) := by show _ = _; rw [← hV]; exact hid
        have HCC : Hid (chg (lostAll s.L (G.take i) a) P.mi (fun _ => V) = lostAll s.L (G.take (i + 1)) a) := by show _ = _; rw [← hV]; exact hcc
        have hib1 : (i : Int) < (G.length : Int) := by omega
        clear hV hEE hVM hVN hid hof hcc hci hgm
        go_upto_region 7 with fail
        go_cut [8, 9] (fun s8 s9 wx => ∃ b, s8 = .pointer (some ⟨b, 0, none⟩) ∧ Ob wx b (listM V) ∧ wr.heap.size ≤ b ∧ Below wr.heap.size wr wx)
        case first =>
          --@slow
          clear HR5 G5 own5 PKr
          go_region_held3 (fun w' => Below wr.heap.size wr w')
            (first | with_reducible exact below_new (by assumption) | with_reducible exact below_put (by assumption) (by first | exact Nat.le_refl _ | omega) | go_grown)
            (first
              | (go_at_call 55; refine (T1 _ (by go_grown)).mono ?_; rintro e w5 ⟨rfl, hw5⟩; have g1 : Below wr.heap.size wr w5 := Below.call (by go_grown) (by simp) hw5; have zz1 := g1.size; try (have ZO := zo_old (w := wr) (by with_reducible exact below_drew hw5)))
              | (go_at_call 56; refine (T2 _).mono ?_; rintro e w6 ⟨rfl, hw6⟩; have g2 : Below wr.heap.size wr w6 := Below.call (by go_grown) (by first | omega | (simp; omega) | simp) hw6; have zz2 := g2.size; first | (have ZP := ZO.far (Far.of_below hw6) (by simp); have hst := zo_st (V := V) ZP; have hob := zo_ob (V := V) ZP; rw [← HVN.out] at hst) | (have ZP := zo_old (w := w5) (by with_reducible exact hw6); have hst := zo_st (V := V) ZP; have hob := zo_ob (V := V) ZP; rw [← HVN.out] at hst) | skip))
          all_goals go_wp2_with fail
          all_goals go_meet
          all_goals first | exact ⟨_, rfl, hob, by first | exact Nat.le_refl _ | omega, below_put g2 (by first | exact Nat.le_refl _ | omega)⟩ | exact ⟨w6.heap.size, rfl, ob_new V w6, g2.size, below_new g2⟩
          --@fast
        case rest =>
          obtain ⟨b, rfl, OO, hbb, hw2⟩ := hcut
          have HR6 := HR5.below hw2
          have own6 := own_far own5 (Far.of_below hw2) (by simp)
          have G6 : Goes S S5 w wc := ⟨G5.far.below hw2, G5.sub⟩
          have hLM : (ldM (.pointer (some ⟨b, 0, none⟩))).run Try.prog wc = .ok (.agg #[.int .i64 V.id, .int .i64 V.fr, .int .i64 V.to, .int .i64 V.se, .int .i64 V.ac, .int .i64 V.lo, .int .i64 V.pa, .int .i64 V.hi, .int .i64 V.dr, .int .i64 V.n, .int .i64 V.st, .int .i64 V.sr, .int .i64 V.tt, .int .i64 V.tr, .int .i64 V.rr]) wc := ldM_run OO.c
          clear HR5 own5 q1 q2 T1 T2 hSN hw2 G5 OO PKr
          go_wp2_with fail
          refine (rput_any rb lb5 B5 lv5 ao5 g5 o5 cc5 S5 ({ s with l := { s.l with L := R }, L := lostAll s.L (G.take i) a } : Bk) V hlen5 _ HR6).mono ?_
          rintro e w7 ⟨rfl, S7, HR7, G7⟩
          have own7 := own_far2 own6 G7.far hq5
          have hq7 : ∀ q, (Value.slice (some ⟨pk, 0, none⟩) G.length cp).ownBlock = some q → q ∉ S7 := fun q e hm => by
            rcases G7.sub _ hm with h1 | h1
            · exact hq5 q e h1
            · have := (own_lt own6 e).1; omega
          have G8 := G6.trans G7
          simp only [HVI.out, HCC.out] at HR7
          clear HR6 own6 G6 G7 hLM
          go_wp2_with fail
          exact ⟨⟨i + 1, S7, by omega, by simp, HR7, G8, own7, hq7⟩, by simp only [intOf]; omega⟩
      · have hie : i = G.length := by omega
        have htk : G.take i = G := List.take_of_length_le (by omega)
        rw [htk] at HR5
        obtain ⟨c0, c1, c2, c3, c4, fz⟩ := HR5.cells
        have HR6 := HR5.tick a
        have own6 := own_far2 own5 HR6.2 (fun q e => by simp; intro e2; subst e2; exact hq5 _ e HR5.m1)
        have G6 : Goes S S5 w (wr.setCell ⟨rb, 4, none⟩ (.int .i64 a)) := G5.trans ⟨HR6.2.mono (by simp; exact HR5.m1), fun k hk => .inl hk⟩
        have HRF : ∀ oo, Rka (wr.setCell ⟨rb, 4, none⟩ (.int .i64 a)) rb S5 (exL s a oo) := fun oo => by
          rw [HE.out.2.2]
          have h := HR6.1
          exact ⟨_, _, _, _, _, _, _, ⟨h.ob, ⟨h.led.ob, h.led.row, h.led.lt, h.led.sz⟩, h.row, h.n1, h.nv, h.ng, h.m1, h.m2, h.low⟩⟩
        clear HR5 HR6 own5 G5 htk hie
        go_wp2_with fail
        go_ret2
        exact ⟨_, by rw [HE.out.1]; rfl, by rw [HE.out.2.1]; exact own6, S5, HRF, G6⟩
end Go.Proofs.Ytpaalpnoppblaaa
