/- offset's held, isText, Stays. -/
import Derived.Test.YtmgjfmgkmlfjeaaDoorOffRun
namespace Go.Proofs.YtmgjfmgkmlfjeaaDoor
open Go.RowKit Go.Sort
set_option linter.unusedSimpArgs false
set_option linter.unusedVariables false

set_option maxHeartbeats 400000 in
set_option maxRecDepth 100000 in
theorem held_any (at' most : Int) (w : World) : Calls Tryd.prog 54 #[.int .i64 at', .int .i64 most] w fun e w' => e = .returned (.int .i64 (hld at' most)) ∧ w' = w := by
  go_enter Tryd.func54, Tryd.ntmps54
  go_wp2
  all_goals first
    | (exfalso; omega)
    | (go_ret; exact ⟨ret_intE (by unfold hld; omega), rfl⟩)
set_option maxHeartbeats 400000 in
set_option maxRecDepth 100000 in
theorem oText_any (f t : Int) (s : ByteArray) (w : World) : Calls Tryd.prog 55 #[.agg #[.int .i64 f, .int .i64 t, .string s]] w fun e w' => e = .returned (.bool (decide (s.size ≠ 0))) ∧ Below w.heap.size w w' := by
  have b1 := below_newE (Below.refl w.heap.size w) (.cells #[.int .i64 f, .int .i64 t, .string s] 50)
  by_cases h2 : s.size = 0
  · have hd : decide (s.size ≠ 0) = false := by simpa using h2
    rw [hd]
    obtain rfl := eq_of_size h2
    clear h2 hd
    go_enter Tryd.func55, Tryd.ntmps55
    go_wp2
    go_ret
    exact ⟨rfl, b1⟩
  · have hd : decide (s.size ≠ 0) = true := by simpa using h2
    rw [hd]
    obtain ⟨h3, h4⟩ := size_of_ne h2
    clear h2 hd
    go_enter Tryd.func55, Tryd.ntmps55
    go_wp2
    go_ret
    exact ⟨rfl, b1⟩
theorem oText_v (f t : Int) {T : List UInt8} {x : Bool} (hx : decide (T ≠ []) = x) (w : World) : Calls Tryd.prog 55 #[.agg #[.int .i64 f, .int .i64 t, .string (cacc T)]] w fun e w' => e = .returned (.bool x) ∧ Below w.heap.size w w' := by
  subst hx
  have := oText_any f t (cacc T) w
  rw [cacc_size] at this
  rw [show decide (T ≠ []) = decide (T.length ≠ 0) from by simp]
  exact this
end Go.Proofs.YtmgjfmgkmlfjeaaDoor
