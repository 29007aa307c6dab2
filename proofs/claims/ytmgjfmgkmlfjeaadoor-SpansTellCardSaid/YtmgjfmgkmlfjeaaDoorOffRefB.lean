/- The reference's Back, Interval. -/
import Derived.Test.YtmgjfmgkmlfjeaaDoorOffRef
namespace Go.Proofs.YtmgjfmgkmlfjeaaDoor
open Go.RowKit Go.Sort
set_option linter.unusedSimpArgs false
set_option linter.unusedVariables false

theorem mvV_no {base : Int} {es : List El} {at' : Int} {after : Bool} (hi : isB base es = false) : mvV base es at' after = 0 := by unfold mvV; rw [if_neg (by simp [hi])]
set_option maxHeartbeats 4000000 in
set_option maxRecDepth 100000 in
theorem rinterval_any {w : World} {v : Value} {es : List El} (base f t : Int) (h : ElAt w v es) (hsm : Sm es 281474976710656) :
    Calls Tryd.prog 30 #[.agg #[.int .i64 base, v], .agg #[.int .i64 f, .int .i64 t]] w fun e w' => e = .returned (.agg #[.int .i64 (mvV base es f true), .int .i64 (max (mvV base es f true) (mvV base es t false))]) ∧ Below w.heap.size w w' := by
  obtain ⟨a, cap, rfl, _⟩ := id h
  obtain ⟨W1, hW1⟩ : ∃ W1, W1 = w.alloc (.cells #[.int .i64 base, .slice a es.length cap] 27) := ⟨_, rfl⟩
  obtain ⟨W2, hW2⟩ : ∃ W2, W2 = W1.alloc (.cells #[.int .i64 f, .int .i64 t] 29) := ⟨_, rfl⟩
  obtain ⟨W3, hW3⟩ : ∃ W3, W3 = W2.alloc (.cells #[.int .i64 0, .int .i64 0] 29) := ⟨_, rfl⟩
  have s1 : W1.heap.size = w.heap.size + 1 := by rw [hW1]; simp
  have s2 : W2.heap.size = w.heap.size + 1 + 1 := by rw [hW2]; simp [s1]
  have b1 : Below w.heap.size w W1 := by rw [hW1]; exact below_newE (Below.refl _ _) _
  have b2 : Below w.heap.size w W2 := by rw [hW2]; exact b1.alloc b1.size _
  have b3 : Below w.heap.size w W3 := by rw [hW3]; exact b2.alloc b2.size _
  have d1 : Rd W1 w.heap.size (.int .i64 base) (.slice a es.length cap) := by rw [hW1]; exact Rd.new w _ _
  have d3 : Rd W3 w.heap.size (.int .i64 base) (.slice a es.length cap) := by rw [hW3, hW2]; exact (d1.alloc _).alloc _
  have v2 : Rv W2 (w.heap.size + 1) (.int .i64 f) (.int .i64 t) := by rw [hW2]; exact Rv.new' s1.symm _ _
  have v3 : Rv W3 (w.heap.size + 1) (.int .i64 f) (.int .i64 t) := by rw [hW3]; exact v2.alloc _
  have z3 : Rv W3 (w.heap.size + 1 + 1) (.int .i64 0) (.int .i64 0) := by rw [hW3]; exact Rv.new' s2.symm _ _
  have HV := Hid.mk7 (h.later b3)
  have HIS := Hid.mk7 (ris_any base HV.out (hsm.mono (by decide)))
  have D3 := Hid.mk7 d3
  have V3 := Hid.mk7 v3
  have Z3 := Hid.mk7 z3
  have B3 := Hid.mk7 b3
  have r0 := d3.c0
  have r1 := d3.c1
  obtain ⟨A, hA⟩ : ∃ A, mvV base es f true = A := ⟨_, rfl⟩
  obtain ⟨B, hB⟩ : ∃ B, mvV base es t false = B := ⟨_, rfl⟩
  have HRA := Hid.mk7 (fun W (hv : ElAt W (.slice a es.length cap) es) => hA ▸ rmove_any base f true hv hsm)
  have HRB := Hid.mk7 (fun W (hv : ElAt W (.slice a es.length cap) es) => hB ▸ rmove_any base t false hv hsm)
  have HA := Hid.mk7 hA
  have HB := Hid.mk7 hB
  rw [hA, hB]
  clear s1 s2 b1 b2 b3 d1 d3 v2 v3 z3 h hA hB
  go_enter Tryd.func30, Tryd.ntmps30
  go_upto_region 1 with fail
  rw [← hW1, ← hW2, ← hW3]
  clear hW1 hW2 hW3
  go_wp2_with fail
  refine HIS.out.mono ?_
  rintro e w4 ⟨rfl, b4⟩
  have HV4 := Hid.mk7 (HV.out.later b4)
  have D4 := Hid.mk7 (D3.out.later b4)
  have V4 := Hid.mk7 (V3.out.later b4)
  have Z4 := Hid.mk7 (Z3.out.later b4)
  have B4 := Hid.mk7 (B3.out.trans (b4.mono B3.out.size))
  clear r0 r1 D3 V3 Z3 B3 HIS b4 HV
  by_cases hi : isB base es = true
  · have HMT := Hid.mk7 (fun d os => Calls.regrown_of (HRA.out _ (HV4.out.later (below_regrown w4 d os))))
    have HMF := Hid.mk7 (fun d os => Calls.regrown_of (HRB.out _ (HV4.out.later (below_regrown w4 d os))))
    clear HRA HRB HA HB
    rw [hi]
    clear hi
    have q0 := cell_regrown D4.out.c0
    have q1 := cell_regrown D4.out.c1
    have q2 := cell_regrown V4.out.c0
    have q3 := cell_regrown V4.out.c1
    go_wp2_with fail
    refine wp_region_quiet_below (by kernel_rfl) (by kernel_rfl) ?_
    repeat (go_big_quiet_step (first | (go_at_call_of 45 (Value.bool true); exact HMT.out _ _) | (go_at_call 45; exact HMF.out _ _)))
    refine wpQuiet_nil ?_
    intro _ hw'
    obtain ⟨⟨dq, osq⟩, hw''⟩ := hw'
    subst hw''
    have bz := below_regrown w4 dq osq
    have Z5 := Hid.mk7 (Z4.out.later bz)
    have B5 := Hid.mk7 (B4.out.trans (bz.mono B4.out.size))
    clear bz q0 q1 q2 q3 HMT HMF HV4 D4 V4 Z4 B4
    generalize grow (redrawn w4 dq) osq = w5 at *
    have fz := Z5.out.fz
    have z0 := Z5.out.c0
    have z1 := Z5.out.c1
    have hlt := Z5.out.lt
    go_wp2
    all_goals
      refine bodyPost_ret (results_iv rfl _ _ (w.heap.size + 1 + 1) _ _ rfl (Z5.out.set _ _)) rfl ?_
      exact ⟨ret_iv14 rfl (by omega), below_set2 B5.out (by omega) _ _⟩
  · have hi' : isB base es = false := by simpa using hi
    have hA := HA.out
    have hB := HB.out
    rw [mvV_no hi'] at hA hB
    subst hA hB
    rw [hi']
    clear HRA HRB HA HB
    have fz := Z4.out.fz
    have z0 := Z4.out.c0
    have z1 := Z4.out.c1
    have hlt := Z4.out.lt
    go_wp2
    refine bodyPost_ret (results_iv rfl _ _ (w.heap.size + 1 + 1) _ _ rfl (Z4.out.set _ _)) rfl ?_
    exact ⟨ret_iv14 rfl (by decide), below_set2 B4.out (by omega) _ _⟩
end Go.Proofs.YtmgjfmgkmlfjeaaDoor
