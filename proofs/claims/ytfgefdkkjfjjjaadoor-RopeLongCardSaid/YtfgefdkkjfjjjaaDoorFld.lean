/- A field of a struct that is a value. -/
import Derived.Test.YtfgefdkkjfjjjaaDoorRows
import Derived.WalkKit
import Derived.WalkSpells
import Derived.WalkLawsBesides
namespace Go.Proofs.YtfgefdkkjfjjjaaDoor
open Go.RowKit
theorem counts_bytes (a b c d : Int) (w : World) : (Instr.field 54 (Value.agg #[.int .i64 a, .int .i64 b, .int .i64 c, .int .i64 d]) 0).run Tryd.prog w = .ok (.int .i64 a) w := by
  simp [Instr.field, Go.part, Sem.run_bind, run_underlying Tryd.underlying54, Tryd.isAgg3, asAgg, Result.andThen]
theorem counts_points (a b c d : Int) (w : World) : (Instr.field 54 (Value.agg #[.int .i64 a, .int .i64 b, .int .i64 c, .int .i64 d]) 1).run Tryd.prog w = .ok (.int .i64 b) w := by
  simp [Instr.field, Go.part, Sem.run_bind, run_underlying Tryd.underlying54, Tryd.isAgg3, asAgg, Result.andThen]
theorem counts_units (a b c d : Int) (w : World) : (Instr.field 54 (Value.agg #[.int .i64 a, .int .i64 b, .int .i64 c, .int .i64 d]) 2).run Tryd.prog w = .ok (.int .i64 c) w := by
  simp [Instr.field, Go.part, Sem.run_bind, run_underlying Tryd.underlying54, Tryd.isAgg3, asAgg, Result.andThen]
theorem counts_lines (a b c d : Int) (w : World) : (Instr.field 54 (Value.agg #[.int .i64 a, .int .i64 b, .int .i64 c, .int .i64 d]) 3).run Tryd.prog w = .ok (.int .i64 d) w := by
  simp [Instr.field, Go.part, Sem.run_bind, run_underlying Tryd.underlying54, Tryd.isAgg3, asAgg, Result.andThen]
end Go.Proofs.YtfgefdkkjfjjjaaDoor
