/- IntervalTells walked. -/
import Derived.Test.YtfohfdldpanfaaaIvTells00
import Derived.Test.YtfohfdldpanfaaaIvTells01
import Derived.Test.YtfohfdldpanfaaaIvTells02
import Derived.Test.YtfohfdldpanfaaaIvTells10
import Derived.Test.YtfohfdldpanfaaaIvTells11
import Derived.Test.YtfohfdldpanfaaaIvTells12
import Derived.Test.YtfohfdldpanfaaaIvTells20
import Derived.Test.YtfohfdldpanfaaaIvTells21
import Derived.Test.YtfohfdldpanfaaaIvTells22
import Derived.Test.YtfohfdldpanfaaaIvTells30
import Derived.Test.YtfohfdldpanfaaaIvTells31
import Derived.Test.YtfohfdldpanfaaaIvTells32
namespace Go.Proofs.Ytfohfdldpanfaaa
open Go.Shelf Go.RowKit Go.Lib Go.Sort
set_option linter.unusedSimpArgs false
set_option linter.unusedVariables false

theorem tells10_any (a b c d n t : Int) (w : World) :
    Calls Try.prog 3 #[.agg #[.int .i64 a, .int .i64 b], .agg #[.int .i64 c, .int .i64 d], .int .i64 n, .int .i64 t] w fun e w' => e = .returned (.bool true) ∧ RowKit.Below w.heap.size w w' := by
  by_cases hi0 : 0 ≤ a
  · by_cases hi1 : a ≤ b
    · by_cases hi2 : b ≤ n
      · skip
        by_cases ht0 : c ≤ b
        · by_cases ht1 : a ≤ d
          · exact tells10_32 a b c d n t w hi0 hi1 hi2 ht0 ht1
          · exact tells10_31 a b c d n t w hi0 hi1 hi2 ht0 ht1
        · exact tells10_30 a b c d n t w hi0 hi1 hi2 ht0
      · skip
        by_cases ht0 : c ≤ b
        · by_cases ht1 : a ≤ d
          · exact tells10_22 a b c d n t w hi0 hi1 hi2 ht0 ht1
          · exact tells10_21 a b c d n t w hi0 hi1 hi2 ht0 ht1
        · exact tells10_20 a b c d n t w hi0 hi1 hi2 ht0
    · skip
      by_cases ht0 : c ≤ b
      · by_cases ht1 : a ≤ d
        · exact tells10_12 a b c d n t w hi0 hi1 ht0 ht1
        · exact tells10_11 a b c d n t w hi0 hi1 ht0 ht1
      · exact tells10_10 a b c d n t w hi0 hi1 ht0
  · skip
    by_cases ht0 : c ≤ b
    · by_cases ht1 : a ≤ d
      · exact tells10_02 a b c d n t w hi0 ht0 ht1
      · exact tells10_01 a b c d n t w hi0 ht0 ht1
    · exact tells10_00 a b c d n t w hi0 ht0
end Go.Proofs.Ytfohfdldpanfaaa
