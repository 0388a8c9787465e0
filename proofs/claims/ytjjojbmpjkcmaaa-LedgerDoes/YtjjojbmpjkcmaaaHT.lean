/-
  Types of the program, as the laws on blocks ask them. No conditions.
-/
import Derived.Test.YtjjojbmpjkcmaaaH
import Derived.Test.YtjjojbmpjkcmaaaProg
namespace Go.Proofs.Ytjjojbmpjkcmaaa
open Go.RowKit
theorem row36 : RowT Try.prog 36 4 := ⟨⟨_, Try.underlying36, rfl⟩, by kernel_rfl⟩
theorem zero36 : ZeroT Try.prog 36 [.int .u64 0, .int .i64 0, .int .i64 0, .int .i64 0] := ⟨.agg #[.int .u64 0, .int .i64 0, .int .i64 0, .int .i64 0], by kernel_rfl, rfl⟩
theorem row32 : RowT Try.prog 32 5 := ⟨⟨_, Try.underlying32, rfl⟩, by kernel_rfl⟩
theorem zero32 : ZeroT Try.prog 32 [.int .i64 0, .int .i64 0, .int .i64 0, .int .i64 0, .int .u64 0] := ⟨.agg #[.int .i64 0, .int .i64 0, .int .i64 0, .int .i64 0, .int .u64 0], by kernel_rfl, rfl⟩
theorem one22 : OneT Try.prog 22 := ⟨⟨_, Try.underlying22, rfl⟩, by kernel_rfl⟩
theorem one3 : OneT Try.prog 3 := ⟨⟨_, Try.underlying3, rfl⟩, by kernel_rfl⟩
theorem one4 : OneT Try.prog 4 := ⟨⟨_, Try.underlying4, rfl⟩, by kernel_rfl⟩
theorem one25 : OneT Try.prog 25 := ⟨⟨_, Try.underlying25, rfl⟩, by kernel_rfl⟩
end Go.Proofs.Ytjjojbmpjkcmaaa
