/- offset's Back, Interval. -/
import Derived.Test.YtmgjfmgkmlfjeaaDoorOffMove
import Derived.Test.YtmgjfmgkmlfjeaaDoorTurnsP
import Derived.BigQuiet
namespace Go.Proofs.YtmgjfmgkmlfjeaaDoor
open Go.RowKit Go.Sort
set_option linter.unusedSimpArgs false
set_option linter.unusedVariables false

theorem size_of14 {base : Int} {es : List El} (hi : isB base es = true) : (if isB base es then szE es else 0) = ((cel es).length : Nat) := by rw [if_pos hi, (cel_len14 hi).1]
theorem min_cases14 {a q : Int} {n : Nat} (h : q = min (max a 0) (n : Int)) : (a ≤ 0 ∧ q = 0) ∨ (0 ≤ a ∧ a < n ∧ q = a) ∨ ((n : Int) ≤ a ∧ q = n) := by
  rw [h, Int.min_def, Int.max_def]
  repeat' split
  all_goals omega
end Go.Proofs.YtmgjfmgkmlfjeaaDoor
