/-
  The reference's bit of a number. No conditions but the numbers' own ranges.
-/
import Derived.Test.YtahlphbgnhklaaaProg
import Derived.Test.YtahlphbgnhklaaaA
import Derived.Test.YtahlphbgnhklaaaK
namespace Go.Proofs.Ytahlphbgnhklaaa
open Go.RowKit
set_option linter.unusedVariables false

/-! ### The reference's bits -/
theorem bit_any (a i : Int) (ha : W128 a) (h0 : 0 ≤ i) (h1 : i < 128) (w : World) :
    Calls Try.prog 44 #[.agg #[.int .u64 (hiw a), .int .u64 (low a)], .int .i64 i] w fun e w' => e = .returned (.int .u64 (bitv a i)) ∧ Below w.heap.size w w' := by
  have hb := hiw_bd ha
  have lb := low_bd a
  by_cases h : 64 ≤ i
  · have E := bit_hi ha h
    have HE : Hid ((hiw a / 2 ^ (i - 64).toNat).tmod 2 = bitv a i) := E
    clear E
    go_enter Try.func44, Try.ntmps44
    go_wp2
    rw [HE.out]
    go_ret
    exact ⟨rfl, by go_grown⟩
  · have E := bit_lo ha h0 (by omega)
    have HE : Hid ((low a / 2 ^ i.toNat).tmod 2 = bitv a i) := E
    clear E
    go_enter Try.func44, Try.ntmps44
    go_wp2
    rw [HE.out]
    go_ret
    exact ⟨rfl, by go_grown⟩

end Go.Proofs.Ytahlphbgnhklaaa
