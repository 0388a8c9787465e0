/-
  Plain arithmetic of credit: what is right, what a burst holds, what is waited for. No Go and no program in this text. No conditions.
-/
import Derived.Test.YtahlphbgnhklaaaA
namespace Go.Proofs.Ytahlphbgnhklaaa
set_option linter.unusedVariables false

/-- Is a number within two? -/
def wi (n l g : Int) : Bool := decide (l ≤ n) && decide (n ≤ g)
/-- Is a credit right? -/
def isv (b a h : Int) : Bool := wi b 1 1048576 && (wi a 0 1099511627776 && wi h 0 (b * 1000000))
theorem wi_iff {n l g : Int} : wi n l g = true ↔ l ≤ n ∧ n ≤ g := by simp [wi]
theorem wi_not {n l g : Int} : wi n l g = false ↔ ¬ (l ≤ n ∧ n ≤ g) := by rw [← wi_iff]; simp
theorem isv_iff {b a h : Int} : isv b a h = true ↔ (1 ≤ b ∧ b ≤ 1048576) ∧ (0 ≤ a ∧ a ≤ 1099511627776) ∧ 0 ≤ h ∧ h ≤ b * 1000000 := by simp [isv, wi_iff]
theorem isv_not {b a h : Int} : isv b a h = false ↔ ¬ ((1 ≤ b ∧ b ≤ 1048576) ∧ (0 ≤ a ∧ a ≤ 1099511627776) ∧ 0 ≤ h ∧ h ≤ b * 1000000) := by rw [← isv_iff]; simp
/-- What a new credit is, and the error. -/
def nwE (b a : Int) : Int := if wi b 1 1048576 = true then (if wi a 0 1099511627776 = true then 0 else 10) else 1
def nwA (b a : Int) : Int := if nwE b a = 0 then a else 0
def nwH (b a : Int) : Int := if nwE b a = 0 then b * 1000000 else 0
/-- What a burst holds. -/
def heldv (b m : Int) : Int := if b * 1000000 < m then b * 1000000 else m
/-- What a credit is that is filled, and the error. -/
def flE (b a h r t : Int) : Int := if isv b a h = true then (if wi r 1 1000000000 = true then (if wi t 0 1099511627776 = true ∧ a ≤ t then 0 else 10) else 8) else 1
def flA (b a h r t : Int) : Int := if flE b a h r t = 0 then t else 0
def flH (b a h r t : Int) : Int := if flE b a h r t = 0 then heldv b (r * (t - a) + h) else 0
/-- What a credit is of which so much is taken, and the error. -/
def tkE (b a h s : Int) : Int := if isv b a h = true then (if wi s 1 9000 = true then (if h < s * 1000000 then 13 else 0) else 9) else 1
def tkA (b a h s : Int) : Int := if tkE b a h s = 0 then a else 0
def tkH (b a h s : Int) : Int := if tkE b a h s = 0 then h - s * 1000000 else 0
/-- What is missing; in how many microseconds it is there. -/
def msv (h s : Int) : Int := if s ≤ 0 then 0 else if s * 1000000 ≤ h then 0 else s * 1000000 - h
def wtv (h r s : Int) : Int := if msv h s = 0 then 0 else if r ≤ 0 then 4611686018427387904 else if 4611686018427387904 < (msv h s + (r - 1)) / r then 4611686018427387904 else (msv h s + (r - 1)) / r

theorem nwE_cases (b a : Int) : (wi b 1 1048576 = false ∧ nwE b a = 1) ∨ (wi b 1 1048576 = true ∧ wi a 0 1099511627776 = false ∧ nwE b a = 10) ∨ (wi b 1 1048576 = true ∧ wi a 0 1099511627776 = true ∧ nwE b a = 0) := by
  unfold nwE; cases h : wi b 1 1048576 <;> cases k : wi a 0 1099511627776 <;> simp
theorem flE_cases (b a h r t : Int) : (isv b a h = false ∧ flE b a h r t = 1) ∨ (isv b a h = true ∧ wi r 1 1000000000 = false ∧ flE b a h r t = 8) ∨ (isv b a h = true ∧ wi r 1 1000000000 = true ∧ wi t 0 1099511627776 = false ∧ flE b a h r t = 10) ∨ (isv b a h = true ∧ wi r 1 1000000000 = true ∧ wi t 0 1099511627776 = true ∧ t < a ∧ flE b a h r t = 10) ∨
    (isv b a h = true ∧ wi r 1 1000000000 = true ∧ wi t 0 1099511627776 = true ∧ a ≤ t ∧ flE b a h r t = 0) := by
  unfold flE
  cases hi : isv b a h
  · left; simp
  · right
    cases hr : wi r 1 1000000000
    · left; simp
    · right
      cases ht : wi t 0 1099511627776
      · left; simp
      · right
        rcases Int.lt_or_le t a with g | g
        · left; refine ⟨rfl, rfl, rfl, g, ?_⟩; rw [if_pos rfl, if_pos rfl, if_neg (by omega)]
        · right; refine ⟨rfl, rfl, rfl, g, ?_⟩; rw [if_pos rfl, if_pos rfl, if_pos ⟨rfl, g⟩]
theorem tkE_cases (b a h s : Int) : (isv b a h = false ∧ tkE b a h s = 1) ∨ (isv b a h = true ∧ wi s 1 9000 = false ∧ tkE b a h s = 9) ∨ (isv b a h = true ∧ wi s 1 9000 = true ∧ h < s * 1000000 ∧ tkE b a h s = 13) ∨ (isv b a h = true ∧ wi s 1 9000 = true ∧ s * 1000000 ≤ h ∧ tkE b a h s = 0) := by
  unfold tkE
  cases hi : isv b a h
  · left; simp
  · right
    cases hr : wi s 1 9000
    · left; simp
    · right
      rcases Int.lt_or_le h (s * 1000000) with g | g
      · left; refine ⟨rfl, rfl, g, ?_⟩; rw [if_pos rfl, if_pos rfl, if_pos g]
      · right; refine ⟨rfl, rfl, g, ?_⟩; rw [if_pos rfl, if_pos rfl, if_neg (by omega)]
theorem heldv_bd {b m : Int} (hb : 1 ≤ b) (hm : 0 ≤ m) : 0 ≤ heldv b m ∧ heldv b m ≤ b * 1000000 ∧ heldv b m ≤ m := by unfold heldv; split <;> omega
/-- What the reference adds is what a burst holds. -/
theorem held_ref {b a h r t : Int} (hr : 0 < r) : h + (if t - a ≤ (b * 1000000 - h) / r then (t - a) * r else b * 1000000 - h) = heldv b (r * (t - a) + h) := by
  unfold heldv
  have e : r * (t - a) = (t - a) * r := Int.mul_comm _ _
  have k := Int.le_ediv_iff_mul_le (a := t - a) (b := b * 1000000 - h) hr
  rw [e]
  by_cases g : t - a ≤ (b * 1000000 - h) / r
  · rw [if_pos g, if_neg (by have := k.1 g; omega)]; omega
  · rw [if_neg g]
    have : ¬ (t - a) * r ≤ b * 1000000 - h := fun x => g (k.2 x)
    rw [if_pos (by omega)]; omega
theorem msv_bd {h s : Int} (h0 : -9223372036854775808 ≤ h) (s1 : s ≤ 9223372036854775807) : 0 ≤ msv h s ∧ msv h s ≤ 9223372036854775807000000 + 9223372036854775808 := by
  unfold msv; split
  · omega
  · split <;> omega
/-- The wait, as the reference tells it. -/
theorem wait_ref {m r : Int} (hm : 0 < m) (hr : 0 < r) : (m + (r - 1)) / r = m / r + (if 0 < m % r then 1 else 0) := by
  have e := Int.emod_add_mul_ediv m r
  have m0 := Int.emod_nonneg m (show r ≠ 0 by omega)
  have m1 := Int.emod_lt_of_pos m hr
  split
  · rename_i g
    refine (dm_of (r := m % r - 1) ?_ (by omega) (by omega)).1
    rw [Int.mul_add, Int.mul_one]; omega
  · rename_i g
    refine (dm_of (r := r - 1) ?_ (by omega) (by omega)).1
    rw [Int.add_zero]; omega
end Go.Proofs.Ytahlphbgnhklaaa
