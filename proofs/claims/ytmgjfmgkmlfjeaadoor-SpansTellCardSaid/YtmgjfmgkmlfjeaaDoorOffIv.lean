/- offset's Interval. -/
import Derived.Test.YtmgjfmgkmlfjeaaDoorOffBack
import Derived.Test.YtmgjfmgkmlfjeaaDoorIvMem
import Derived.Test.YtmgjfmgkmlfjeaaDoorDelKeep
namespace Go.Proofs.YtmgjfmgkmlfjeaaDoor
open Go.RowKit Go.Sort
set_option linter.unusedSimpArgs false
set_option linter.unusedVariables false

theorem ret_iv14 {a b a' b' : Int} (h1 : a = a') (h2 : b = b') : Ending.returned (.agg #[.int .i64 a, .int .i64 b]) = .returned (.agg #[.int .i64 a', .int .i64 b']) := by rw [h1, h2]
set_option maxHeartbeats 2000000 in
set_option maxRecDepth 100000 in
theorem interval_any {w : World} {v : Value} {es : List El} (base f t : Int) (h : ElAt w v es) (hsm : Sm es 281474976710656) (tb : Nat × Nat) (hT : Tab w tb) :
    Calls Tryd.prog 27 #[.agg #[.int .i64 base, v], .agg #[.int .i64 f, .int .i64 t]] w fun e w' => e = .returned (.agg #[.int .i64 (mvV base es f true), .int .i64 (max (mvV base es f true) (mvV base es t false))]) ∧ Below w.heap.size w w' := by
  obtain ⟨a, cap, rfl, _⟩ := id h
  obtain ⟨W1, hW1⟩ : ∃ W1, W1 = w.alloc (.cells #[.int .i64 base, .slice a es.length cap] 27) := ⟨_, rfl⟩
  obtain ⟨W2, hW2⟩ : ∃ W2, W2 = W1.alloc (.cells #[.int .i64 f, .int .i64 t] 29) := ⟨_, rfl⟩
  obtain ⟨W3, hW3⟩ : ∃ W3, W3 = W2.alloc (.cells #[.int .i64 0, .int .i64 0] 29) := ⟨_, rfl⟩
  have s1 : W1.heap.size = w.heap.size + 1 := by rw [hW1]; simp
  have s2 : W2.heap.size = w.heap.size + 1 + 1 := by rw [hW2]; simp [s1]
  have b1 : Below w.heap.size w W1 := by rw [hW1]; exact below_newE (Below.refl _ _) _
  have b2 : Below w.heap.size w W2 := by rw [hW2]; exact b1.alloc b1.size _
  have b3 : Below w.heap.size w W3 := by rw [hW3]; exact b2.alloc b2.size _
  have d1 : Rd W1 w.heap.size (.int .i64 base) (.slice a es.length cap) := by rw [hW1]; exact Rd.new w _ _
  have d3 : Rd W3 w.heap.size (.int .i64 base) (.slice a es.length cap) := by rw [hW3, hW2]; exact (d1.alloc _).alloc _
  have v2 : Rv W2 (w.heap.size + 1) (.int .i64 f) (.int .i64 t) := by rw [hW2]; exact Rv.new' s1.symm _ _
  have v3 : Rv W3 (w.heap.size + 1) (.int .i64 f) (.int .i64 t) := by rw [hW3]; exact v2.alloc _
  have z3 : Rv W3 (w.heap.size + 1 + 1) (.int .i64 0) (.int .i64 0) := by rw [hW3]; exact Rv.new' s2.symm _ _
  have HV := Hid.mk7 (h.later b3)
  have HTB := Hid.mk7 (hT.later b3)
  have HM := Hid.mk7 (move_any base f true HV.out hsm tb HTB.out)
  have HM2 := Hid.mk7 (fun W (b : Below W3.heap.size W3 W) => move_any base t false (HV.out.later b) hsm tb (HTB.out.later b))
  have D3 := Hid.mk7 d3
  have V3 := Hid.mk7 v3
  have Z3 := Hid.mk7 z3
  have B3 := Hid.mk7 b3
  have r0 := d3.c0
  have r1 := d3.c1
  have x0 := v3.c0
  have x1 := v3.c1
  clear s1 s2 b1 b2 b3 d1 d3 v2 v3 z3 h hT hsm HV HTB
  generalize mvV base es f true = A at *
  generalize mvV base es t false = B at *
  go_enter Tryd.func27, Tryd.ntmps27
  go_upto_region 1 with fail
  rw [← hW1, ← hW2, ← hW3]
  clear hW1 hW2 hW3
  go_wp2_with fail
  refine HM.out.mono ?_
  rintro e w4 ⟨rfl, b4⟩
  have D4 := Hid.mk7 (D3.out.later b4)
  have V4 := Hid.mk7 (V3.out.later b4)
  have Z4 := Hid.mk7 (Z3.out.later b4)
  have B4 := Hid.mk7 (B3.out.trans (b4.mono B3.out.size))
  clear r0 r1 x0 x1 D3 V3 Z3 B3 HM
  have r0 := D4.out.c0
  have r1 := D4.out.c1
  have x0 := V4.out.c0
  have x1 := V4.out.c1
  go_wp2_with fail
  refine (HM2.out w4 b4).mono ?_
  rintro e w5 ⟨rfl, b5⟩
  have Z5 := Hid.mk7 (Z4.out.later b5)
  have B5 := Hid.mk7 (B4.out.trans (b5.mono B4.out.size))
  clear r0 r1 x0 x1 D4 V4 Z4 B4 HM2 b4
  have fz := Z5.out.fz
  have z0 := Z5.out.c0
  have z1 := Z5.out.c1
  have hlt := Z5.out.lt
  go_wp2
  all_goals
    refine bodyPost_ret (results_iv rfl _ _ (w.heap.size + 1 + 1) _ _ rfl (Z5.out.set _ _)) rfl ?_
    exact ⟨ret_iv14 rfl (by omega), below_set2 B5.out (by omega) _ _⟩
end Go.Proofs.YtmgjfmgkmlfjeaaDoor
