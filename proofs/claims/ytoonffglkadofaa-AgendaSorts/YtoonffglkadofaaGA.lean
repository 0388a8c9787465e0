/-
  slices.Clone of a row of entries; the program's All. No conditions but the agenda's own, and that it is short.
-/
import Derived.Test.YtoonffglkadofaaG9
import Derived.Deep.CutRange
import Derived.Deep.DeepCutAuto
import Derived.Deep.RegionHeld3
import Derived.Laws.EntriesVeiled
namespace Go.Proofs.Ytoonffglkadofaa
open Go.RowKit
set_option linter.unusedVariables false
section
attribute [local go_sem ↓] append_shut
set_option maxHeartbeats 2000000 in
set_option maxRecDepth 100000 in
theorem clone_any (base n c : Nat) (ao : Option Addr) (L : List Ent) (hn : n ≤ 1000) (w : World) (own : w.ownsRow base 60 5 (.slice ao n c) n (ncs L)) :
    Calls Try.prog 25 #[.slice ao n c] w fun e w' => (∃ ao' c', e = .returned (.slice ao' n c') ∧ w'.ownsRow w.heap.size 60 5 (.slice ao' n c') n (ncs L)) ∧ Below w.heap.size w w' := by
  have hnil : ∀ W, (binOp .eql 53 (.slice ao n c) (.slice none 0 0)).run Try.prog W = .ok (.bool ao.isNone) W := fun W => by
    exact Lib.run_eql_slice_nil W 53 60 ao n c 0 0 Try.underlying53
  have hl := own_len own
  rcases own.2 with ⟨e, h0⟩ | ⟨g, cap, cur, e, hb, hg, h1, h2, h3, h4⟩
  · simp only [Value.slice.injEq] at e
    obtain ⟨rfl, _, rfl⟩ := e
    subst h0
    obtain rfl : L = [] := List.eq_nil_of_length_eq_zero hl
    have hnil2 : ∀ W, (binOp .eql 53 (.slice none 0 0) (.slice none 0 0)).run Try.prog W = .ok (.bool true) W := hnil
    clear hnil own
    go_enter Try.func25, Try.ntmps25
    go_wp2_with fail
    go_ret
    exact ⟨⟨none, 0, rfl, World.ownsRow_nil _ _ _ _⟩, Below.refl _ _⟩
  · simp only [Value.slice.injEq, true_and] at e
    obtain ⟨rfl, rfl⟩ := e
    have hnil2 : ∀ W, (binOp .eql 53 (.slice (some ⟨g, 0, none⟩) n c) (.slice none 0 0)).run Try.prog W = .ok (.bool false) W := hnil
    clear hnil h4
    have own1 := own.alloc (.cells #[] 60)
    have hN : (w.alloc (.cells #[] 60)).ownsRow w.heap.size 60 5 (.slice (some ⟨w.heap.size, 0, none⟩) 0 0) 0 [] := World.ownsRow_lit w #[] 0 (Nat.le_refl _) (by unfold maxLen; omega) rfl
    obtain ⟨v', w', hr, ho, hgr, hv⟩ := app_own (ty := 53) Try.underlying53 infoN rfl (by decide) (by decide) hN g n c (ncs L) (by rw [ncs_len, hl]) (fun j u hj => by
      have hj2 : j < n * 5 := by have := (List.getElem?_eq_some_iff.1 hj).1; rw [ncs_len, hl] at this; exact this
      rw [own1.cellAt j hj2]; exact hj) (nc_one L) (by omega) (by simp)
    rw [Nat.zero_add, List.nil_append] at ho
    obtain ⟨ao', c', rfl⟩ := own_slice ho
    have hB : Below w.heap.size w w' := Below.grown ((Below.refl _ _).alloc (Nat.le_refl _) _) hgr (by simp) (fun k hk => by have := (hN.lt k hk).1; omega)
    rw [append_shut] at hr
    clear own own1 hN hgr hv hg
    go_enter Try.func25, Try.ntmps25
    go_wp2_with fail
    go_ret
    exact ⟨⟨ao', c', rfl, ho⟩, hB⟩
end
theorem below_thru {W X w1 : World} (h : Below W.heap.size W X) (h1 : Below X.heap.size X w1) : Below W.heap.size W w1 := h.trans (h1.mono h.size)
/-- What is left of entries. -/
def rm (R : List Ent) : Nat → List Ent
  | 0 => R
  | i + 1 => (rm R i).eraseIdx (mi (es (rm R i)))
theorem rm_es (R : List Ent) : ∀ i, es (rm R i) = re (es R) i := by
  intro i
  induction i with
  | zero => rfl
  | succ i ih => show es ((rm R i).eraseIdx (mi (es (rm R i)))) = (re (es R) i).eraseIdx (mi (re (es R) i)); rw [es_erase, ih]
theorem rm_me (R : List Ent) (i : Nat) : me (es (rm R i)) 0 = me (es R) i := by rw [rm_es]; exact me_add (es R) i 0
/-- A heap put beside, of a row of one's own. -/
theorem HS.fresh {w : World} {b base n : Nat} {v : Value} {L : List Ent} (A : At2 w b v (.func (.func 20) #[] #[])) (own : w.ownsRow base 60 5 v n (ncs L)) (ne : some b ≠ v.ownBlock) (bs : base ≤ w.heap.size) : HS w w b 0 base v v n L := HS.at A.c0 A.c1 A.f0 own A.lt ne bs
theorem HS.moved {w0 w w1 : World} {b o base : Nat} {v0 v : Value} {n : Nat} {L : List Ent} {T : List Nat} (h : HS w0 w b o base v0 v n L) (k : Far T w w1) (hb : b ∉ T) (hv : ∀ g, v.ownBlock = some g → g ∉ T) : HS w1 w1 b o base v v n L := by
  have e := k.block b h.lt hb
  exact HS.at ((World.cell?_of_block (a := ⟨b, o, none⟩) e).trans h.p0) ((World.cell?_of_block (a := ⟨b, o + 1, none⟩) e).trans h.p1) ((World.frozen?_of_block (a := ⟨b, o, none⟩) e).trans h.f0) (k.own h.own hv) (Nat.lt_of_lt_of_le h.lt k.size) h.ne (Nat.le_trans h.sz k.size)
theorem mem_opt {α : Type} {q : Option α} {x : α} (h : x ∈ q.toList) : q = some x := by cases q <;> simp at h; rw [h]
theorem own_none {w : World} {base : Nat} {e : TypeId} {size : Nat} {v : Value} {n : Nat} {xs : List Value} (h : w.ownsRow base e size v n xs) {b : Nat} (hb : b < base ∨ w.heap.size ≤ b) : some b ≠ v.ownBlock := by
  intro e
  have := h.lt b e.symm
  omega
section
attribute [local go_sem ↓] append_shut
set_option maxHeartbeats 4000000 in
set_option maxRecDepth 100000 in
theorem all_any (ab base : Nat) (m T : Int) (v : Value) (n : Nat) (L R : List Ent) (hn : n ≤ 1000) (w : World) (A : Ag w ab base m T v n L R) :
    Calls Try.prog 18 #[.pointer (some ⟨ab, 0, none⟩)] w fun e w' => (∃ ao c, e = .returned (.slice ao n c) ∧ w'.ownsRow w.heap.size 32 4 (.slice ao n c) n (ecs (te (es R) n))) ∧ Below w.heap.size w w' := by
  obtain ⟨ao, c, rfl⟩ := own_slice A.own
  have CL := fun w own => clone_any base n c ao L hn w own
  have hc : ∀ w', Below w.heap.size w w' → ∀ o, w'.cell? ⟨ab, o, none⟩ = w.cell? ⟨ab, o, none⟩ := fun w' h o => h.cell (p := ⟨ab, o, none⟩) A.lt
  have p0 := A.p0
  have p1 := A.p1
  have q0 := fun w' h => (hc w' h 2).trans p0
  have q1 := fun w' h => (hc w' h 3).trans p1
  have lt := A.lt
  clear hc
  go_enter Try.func18, Try.ntmps18
  go_upto_region 3 with fail
  go_cut [3] (fun v3 wc => ∃ rb ao' c', v3 = .pointer (some ⟨rb, 0, none⟩) ∧ HS wc wc rb 0 w.heap.size (.slice ao' n c') (.slice ao' n c') n L ∧ w.heap.size ≤ rb ∧ Below w.heap.size w wc)
  case first =>
    go_region_held3 (fun w' => Below w.heap.size w w') (go_grown)
      (first
        | (go_at_call 25; refine (CL _ (own_below A.own (by assumption))).mono ?_; rintro e w1 ⟨⟨ao', c', rfl, own1⟩, hw1⟩; have g1 : Below w.heap.size w w1 := below_thru (by assumption) hw1; have z1 := g1.size; try (have Z : At2 w1 w.heap.size (.slice none 0 0) .nilFunc := At2.of hw1 (At2.fresh _ _ _ _).drew; obtain ⟨y0, y1, y2, y3, y4⟩ := id Z)))
    · go_wp2_with fail
      go_meet
      case rel => exact ⟨w1.heap.size, ao', c', rfl, HS.fresh (At2.fresh _ _ _ _) (own_base (own1.alloc _) (by simp)) (own_none own1 (.inr (Nat.le_refl _))) (by simp; omega), z1, by go_grown⟩
    · go_wp2_with fail
      go_meet
      case rel =>
        have ne := own_none own1 (b := w.heap.size) (.inl (by simp))
        have FF : Far [w.heap.size] w1 ((w1.setCell ⟨w.heap.size, 0, none⟩ (.slice ao' n c')).setCell ⟨w.heap.size, 1, none⟩ (.func (.func 20) #[] #[])) := ((Far.refl _ _).setCell (.inr (by simp)) _ _).setCell (.inr (by simp)) _ _
        exact ⟨w.heap.size, ao', c', rfl, HS.fresh (Z.put _ _) (own_base (FF.own own1 (fun g hg hm => ne (by simp at hm; rw [hg, hm]))) (by simp)) ne (by simp; omega), Nat.le_refl _, by go_grown⟩
  case rest =>
    obtain ⟨rb, ao', c', rfl, H0, hrb, hB⟩ := hcut
    replace A := A.below hB
    have p2 := A.p0
    have hl := A.len
    have hfit : Fit L (rm R 0) T := A.fit
    have hsz := hB.size
    have hrl := H0.lt
    have hgl : ∀ g, (Value.slice ao' n c').ownBlock = some g → w.heap.size ≤ g ∧ g < wc.heap.size := H0.own.lt
    clear p0 p1 q0 q1 CL A lt
    go_wp2_with fail
    go_loopw [4, 25] (fun v4 v25 wr => ∃ (i : Nat) (ti : Option Addr) (tc : Nat) (M : List Ent), i ≤ n ∧ v25 = .int .i64 i ∧ v4 = .slice ti i tc ∧ wr.ownsRow wc.heap.size 32 4 (.slice ti i tc) i (ecs (te (es R) i)) ∧ HS wr wr rb 0 w.heap.size (.slice ao' (n - i) c') (.slice ao' (n - i) c') (n - i) M ∧ Fit M (rm R i) T ∧ wc.heap.size ≤ wr.heap.size ∧ Below w.heap.size w wr) (fun _ v25 _ => n - (intOf v25).toNat)
    case atStart => exact ⟨0, none, 0, L, Nat.zero_le _, rfl, rfl, World.ownsRow_nil _ _ _ _, H0, hfit, Nat.le_refl _, hB⟩
    case round =>
      obtain ⟨i, ti, tc, M, hi, rfl, rfl, own, HM, FM, hwr, hBr⟩ := hrel
      clear H0 hfit hB p2
      by_cases hin : i < n
      · obtain ⟨k, hk⟩ : ∃ k, n - i = k + 1 := ⟨n - i - 1, by omega⟩
        rw [hk] at HM
        have hMl : M.length = k + 1 := own_len HM.own
        have hRl : (rm R i).length = k + 1 := by rw [← FM.len]; exact hMl
        obtain ⟨g, rfl, _, _, _, _⟩ := own_some HM.own (by omega)
        obtain ⟨hg1, hg2⟩ := hgl g rfl
        have TA := take_any rb 0 w.heap.size g k c' M (by omega) FM.hp wr HM
        have hx : (pl M 0).e = me (es R) i := by
          have m1 := (mi_spec (l := es (rm R i)) (by rw [es_len]; omega)).1
          rw [es_len] at m1
          rw [FM.first (by omega), ← rm_me]
          show _ = evp (es (rm R i)) (mi (es (rm R i)))
          rw [es_pl m1]
        have FT := fun M2 hM PM => FM.take (L' := M2) (by omega) hM PM
        obtain ⟨tx, htx⟩ : ∃ tx, Hid ((pl M 0).t = tx) := ⟨_, rfl⟩
        rw [hx, htx.out] at TA
        have hte : Hid (te (es R) (i + 1) = te (es R) i ++ [me (es R) i]) := rfl
        clear hx htx
        generalize me (es R) i = x at *
        generalize te (es R) i = P at *
        have hin2 : (i : Int) < n := by omega
        have hnk : n - (i + 1) = k := by omega
        go_wp2_with fail
        refine TA.mono ?_
        rintro e w2 ⟨rfl, M2, hM2, PM2, HM2⟩
        have hS : ∀ b ∈ (rb :: (Value.slice (some ⟨g, 0, none⟩) (k + 1) c').ownBlock.toList), b = rb ∨ b = g := fun b hb => by simpa [Value.ownBlock] using hb
        have own2 := HM2.far.own own (fun b hb hm => by
          have := (own.lt b hb).1
          rcases hS b hm with h | h <;> omega)
        have hsz2 := HM2.far.size
        have hB2 : Below w.heap.size w w2 := Far.call hBr hBr.size HM2.far (fun b hb => by rcases hS b hb with h | h <;> omega)
        obtain ⟨ta, td, w3, hr, own3, hgr, hv3⟩ := eapp_run 40 (own2.alloc (.cells #[.int .i64 x.a, .int .i64 x.k, .int .i64 x.o, .int .u64 x.s] 32)) (by simp; omega) (by omega) (At4.fresh w2 (.int .i64 x.a) (.int .i64 x.k) (.int .i64 x.o) (.int .u64 x.s) 32)
        have FM2 := FT M2 hM2 PM2
        have hlt2 : ∀ b, (Value.slice ti i tc).ownBlock = some b → wc.heap.size ≤ b ∧ b < w2.heap.size := own2.lt
        have H3 := (HM2.re.below ((Below.refl _ _).alloc (Nat.le_refl _) (.cells #[.int .i64 x.a, .int .i64 x.k, .int .i64 x.o, .int .u64 x.s] 32))).moved (Far.of_grown hgr)
          (fun hm => by have := (hlt2 rb (mem_opt hm)).1; omega)
          (fun q hq hm => by
            have hq2 : g = q := by simpa [Value.ownBlock] using hq
            have := (hlt2 q (mem_opt hm)).1; omega)
        have hB3 : Below w.heap.size w w3 := Below.grown (hB2.alloc (by omega) _) hgr (by simp; omega) (fun b hb => by have := (hlt2 b hb).1; omega)
        have hsz3 := hgr.size
        simp only [World.size_alloc] at hsz3
        clear HM2 hM2 PM2 own own2 hB2 hgr hv3 hlt2 hS FT HM FM TA hBr hgl
        go_wp2_with fail
        rename_i hK
        refine hK _ _ ?_
        refine Eq.subst (motive := fun u => wpList Try.prog _ _ _ (Act.put _ _ u) w2) (a := .agg #[.int .i64 x.a, .int .i64 x.k, .int .i64 x.o, .int .u64 x.s]) (by kernel_rfl) ?_
        clear hK
        go_wp2_with fail
        go_roundw
        case rel => exact ⟨i + 1, ta, td, M2, by omega, by go_num, rfl, by rw [hte.out]; exact own3, by rw [hnk]; exact H3, FM2, by omega, hB3⟩
        case measure => simp [intOf]; omega
      · obtain rfl : i = n := by omega
        have hin2 : ¬ (i : Int) < i := by omega
        go_wp2_with fail
        go_ret
        exact ⟨⟨ti, tc, rfl, own_base own hsz⟩, hBr⟩
end
end Go.Proofs.Ytoonffglkadofaa
