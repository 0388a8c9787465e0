/-
  Types of the program, as the laws on blocks ask them. No conditions.
-/
import Derived.Test.YtpaalpnoppblaaaH
import Derived.Test.YtpaalpnoppblaaaProg
namespace Go.Proofs.Ytpaalpnoppblaaa
open Go.RowKit
theorem row57 : RowT Try.prog 57 4 := ⟨⟨_, Try.underlying57, rfl⟩, by kernel_rfl⟩
theorem zero57 : ZeroT Try.prog 57 [.int .u64 0, .int .i64 0, .int .i64 0, .int .i64 0] := ⟨.agg #[.int .u64 0, .int .i64 0, .int .i64 0, .int .i64 0], by kernel_rfl, rfl⟩
theorem one22 : OneT Try.prog 22 := ⟨⟨_, Try.underlying22, rfl⟩, by kernel_rfl⟩
theorem row63 : RowT Try.prog 63 15 := ⟨⟨_, Try.underlying63, rfl⟩, by kernel_rfl⟩
theorem zero63 : ZeroT Try.prog 63 [.int .i64 0, .int .i64 0, .int .i64 0, .int .i64 0, .int .i64 0, .int .i64 0, .int .i64 0, .int .i64 0, .int .i64 0, .int .i64 0, .int .i64 0, .int .i64 0, .int .i64 0, .int .i64 0, .int .i64 0] := ⟨.agg #[.int .i64 0, .int .i64 0, .int .i64 0, .int .i64 0, .int .i64 0, .int .i64 0, .int .i64 0, .int .i64 0, .int .i64 0, .int .i64 0, .int .i64 0, .int .i64 0, .int .i64 0, .int .i64 0, .int .i64 0], by kernel_rfl, rfl⟩
theorem row89 : RowT Try.prog 89 15 := ⟨⟨_, Try.underlying89, rfl⟩, by kernel_rfl⟩
theorem zero89 : ZeroT Try.prog 89 [.int .i64 0, .int .i64 0, .int .i64 0, .int .i64 0, .int .i64 0, .int .i64 0, .int .i64 0, .int .i64 0, .int .i64 0, .int .i64 0, .int .i64 0, .int .i64 0, .int .i64 0, .int .i64 0, .int .i64 0] := ⟨.agg #[.int .i64 0, .int .i64 0, .int .i64 0, .int .i64 0, .int .i64 0, .int .i64 0, .int .i64 0, .int .i64 0, .int .i64 0, .int .i64 0, .int .i64 0, .int .i64 0, .int .i64 0, .int .i64 0, .int .i64 0], by kernel_rfl, rfl⟩
theorem row109 : RowT Try.prog 109 15 := ⟨⟨_, Try.underlying109, rfl⟩, by kernel_rfl⟩
theorem zero109 : ZeroT Try.prog 109 [.int .i64 0, .int .i64 0, .int .i64 0, .int .i64 0, .int .i64 0, .int .i64 0, .int .i64 0, .int .i64 0, .int .i64 0, .int .i64 0, .int .i64 0, .int .i64 0, .int .i64 0, .int .i64 0, .int .i64 0] := ⟨.agg #[.int .i64 0, .int .i64 0, .int .i64 0, .int .i64 0, .int .i64 0, .int .i64 0, .int .i64 0, .int .i64 0, .int .i64 0, .int .i64 0, .int .i64 0, .int .i64 0, .int .i64 0, .int .i64 0, .int .i64 0], by kernel_rfl, rfl⟩
theorem one3 : OneT Try.prog 3 := ⟨⟨_, Try.underlying3, rfl⟩, by kernel_rfl⟩
theorem one4 : OneT Try.prog 4 := ⟨⟨_, Try.underlying4, rfl⟩, by kernel_rfl⟩
theorem one26 : OneT Try.prog 26 := ⟨⟨_, Try.underlying26, rfl⟩, by kernel_rfl⟩
end Go.Proofs.Ytpaalpnoppblaaa
