/- cmp.Compare; the closure of sortBy. -/
import Derived.Test.YtfohfdldpanfaaaIvFn
import Derived.Test.YtfohfdldpanfaaaIvRow
namespace Go.Proofs.Ytfohfdldpanfaaa
open Go.Shelf Go.RowKit Go.Lib Go.Sort
set_option linter.unusedSimpArgs false
set_option linter.unusedVariables false

/-- Which of two comes first. -/
def cm (a b : Int) : Int := if a < b then -1 else if b < a then 1 else 0
def cmV (x y : Sg) : Int := if cm x.1 y.1 = 0 then cm x.2 y.2 else cm x.1 y.1
set_option maxHeartbeats 1000000 in
set_option maxRecDepth 100000 in
theorem isNaN_any (a : Int) (w : World) : Calls Try.prog 25 #[.int .i64 a] w fun e w' => e = .returned (.bool false) ∧ w' = w := by
  go_enter Try.func25, Try.ntmps25
  go_wp2
  go_ret
  exact ⟨by simp, rfl⟩
set_option maxHeartbeats 1000000 in
set_option maxRecDepth 100000 in
theorem compare_any (a b : Int) (w : World) : Calls Try.prog 23 #[.int .i64 a, .int .i64 b] w fun e w' => e = .returned (.int .i64 (cm a b)) ∧ w' = w := by
  have hn := isNaN_any
  unfold cm
  by_cases h1 : a < b
  · rw [if_pos h1]
    go_enter Try.func23, Try.ntmps23
    go_wp2_with (go_at_call 25; refine (hn _ _).mono ?_; rintro e w1 ⟨rfl, rfl⟩)
    go_ret
    exact ⟨rfl, rfl⟩
  · rw [if_neg h1]
    by_cases h2 : b < a
    · rw [if_pos h2]
      have h3 : decide (a > b) = true := decide_eq_true h2
      go_enter Try.func23, Try.ntmps23
      go_wp2_with (go_at_call 25; refine (hn _ _).mono ?_; rintro e w1 ⟨rfl, rfl⟩)
      go_ret
      exact ⟨rfl, rfl⟩
    · rw [if_neg h2]
      have h3 : decide (a > b) = false := decide_eq_false h2
      go_enter Try.func23, Try.ntmps23
      go_wp2_with (go_at_call 25; refine (hn _ _).mono ?_; rintro e w1 ⟨rfl, rfl⟩)
      go_ret
      exact ⟨rfl, rfl⟩
/-- w' is w after some draws, with some blocks laid behind it. -/
def Gr (w w' : World) : Prop := ∃ q os, w' = grow (w.drewN q) os
theorem Gr.refl (w : World) : Gr w w := ⟨0, #[], by rw [grow_empty]; rfl⟩
theorem Gr.trans {a b c : World} (h : Gr a b) (k : Gr b c) : Gr a c := by
  obtain ⟨q, os, rfl⟩ := h
  obtain ⟨q', os', rfl⟩ := k
  exact ⟨q + q', os ++ os', by show grow (grow ((a.drewN q).drewN q') os) os' = _; rw [grow_grow, World.drewN_drewN]⟩
theorem Gr.alloc (w : World) (o : Obj) : Gr w (w.alloc o) := ⟨0, #[o], by rw [alloc_eq_grow]; rfl⟩
theorem Gr.cell {w w' : World} (h : Gr w w') {a : Addr} {v : Value} (hc : w.cell? a = some v) : w'.cell? a = some v := by
  obtain ⟨q, os, rfl⟩ := h
  exact cell_grown (World.block_lt_of_cell? w a hc) hc q os
theorem Gr.grown (w : World) (q : Nat) (os : Array Obj) : Gr w (grow (w.drewN q) os) := ⟨q, os, rfl⟩
theorem grown_same {P : Program} {f : FuncId} {args : Array Value} {w : World} {v : Value} (h : Calls P f args w fun e w' => e = .returned v ∧ w' = w) : Calls P f args w fun e w' => e = .returned v ∧ ∃ q os', w' = grow (w.drewN q) os' :=
  h.mono fun _ _ ⟨he, hw⟩ => ⟨he, 0, #[], by rw [hw, grow_empty]; rfl⟩
theorem ret_intV {a b : Int} (h : a = b) : Ending.returned (.int .i64 a) = .returned (.int .i64 b) := by rw [h]
set_option maxHeartbeats 2000000 in
set_option maxRecDepth 100000 in
theorem clo_any (K kk : Nat) (x y : Sg) (W : World) (hK : W.cell? ⟨K, 0, none⟩ = some (.slice (some ⟨kk, 0, none⟩) 2 2)) (h0 : W.cell? ⟨kk, 0, none⟩ = some (.func (.func 18) #[] #[])) (h1 : W.cell? ⟨kk, 1, none⟩ = some (.func (.func 19) #[] #[])) :
    Calls Try.prog 22 #[.agg #[.int .i64 x.1, .int .i64 x.2], .agg #[.int .i64 y.1, .int .i64 y.2], .pointer (some ⟨K, 0, none⟩)] W fun e w' => e = .returned (.int .i64 (cmV x y)) ∧ Gr W w' := by
  have hF := ifrom_any
  have hT := ito_any
  have hC := fun a b w => grown_same (compare_any a b w)
  obtain ⟨x0, x1⟩ := x
  obtain ⟨y0, y1⟩ := y
  simp only [cmV]
  obtain ⟨r, hr0⟩ : ∃ r, r = cm x0 y0 := ⟨_, rfl⟩
  obtain ⟨s, hs0⟩ : ∃ r, r = cm x1 y1 := ⟨_, rfl⟩
  rw [← hr0, ← hs0]
  have hC0 : ∀ w, _ := fun w => hC x0 y0 w
  have hC1 : ∀ w, _ := fun w => hC x1 y1 w
  rw [← hr0] at hC0
  rw [← hs0] at hC1
  have hFx := hF x0 x1
  have hFy := hF y0 y1
  have hTx := hT x0 x1
  have hTy := hT y0 y1
  clear hr0 hs0 hC hF hT
  have e18 : ∀ args w, (callFunc 18 args).run Try.prog w = .ok (.enter 18 args) w := enters_of Try.func18 (by kernel_rfl) rfl
  have e19 : ∀ args w, (callFunc 19 args).run Try.prog w = .ok (.enter 19 args) w := enters_of Try.func19 (by kernel_rfl) rfl
  have HW : Hid (Gr W ((W.alloc (.cells #[.int .i64 x0, .int .i64 x1] 23)).alloc (.cells #[.int .i64 y0, .int .i64 y1] 23))) := (Gr.alloc W _).trans (Gr.alloc _ _)
  have g0 := HW.out.cell hK
  have g1 := HW.out.cell h0
  have g2 := HW.out.cell h1
  have a0 : ((W.alloc (.cells #[.int .i64 x0, .int .i64 x1] 23)).alloc (.cells #[.int .i64 y0, .int .i64 y1] 23)).cell? ⟨W.heap.size, 0, none⟩ = some (.int .i64 x0) := by simp
  have a1 : ((W.alloc (.cells #[.int .i64 x0, .int .i64 x1] 23)).alloc (.cells #[.int .i64 y0, .int .i64 y1] 23)).cell? ⟨W.heap.size, 1, none⟩ = some (.int .i64 x1) := by simp
  have a2 : ((W.alloc (.cells #[.int .i64 x0, .int .i64 x1] 23)).alloc (.cells #[.int .i64 y0, .int .i64 y1] 23)).cell? ⟨W.heap.size + 1, 0, none⟩ = some (.int .i64 y0) := by simp
  have a3 : ((W.alloc (.cells #[.int .i64 x0, .int .i64 x1] 23)).alloc (.cells #[.int .i64 y0, .int .i64 y1] 23)).cell? ⟨W.heap.size + 1, 1, none⟩ = some (.int .i64 y1) := by simp
  have mixed : Try.prog.follows Departure.mixedOrders = true := by kernel_rfl
  clear hK h0 h1
  generalize hsz : W.heap.size = z at *
  go_enter Try.func22, Try.ntmps22
  go_wp2
  have HG : Hid _ := HW
  generalize (W.alloc (.cells #[.int .i64 x0, .int .i64 x1] 23)).alloc (.cells #[.int .i64 y0, .int .i64 y1] 23) = W2 at *
  clear HG
  refine wp_loop_rounds 3 ?_
  rw [rounds_succ]
  by_cases hr : r = 0
  · skip
    have hr1 : (r != 0) = false := by simp [hr]
    have HR := Hid.mk7 hr
    clear hr
    go_wp2_with fail
    have l0 := fun n os => (Gr.grown W2 n os).cell a0
    have l1 := fun n os => (Gr.grown W2 n os).cell a1
    have l2 := fun n os => (Gr.grown W2 n os).cell a2
    have l3 := fun n os => (Gr.grown W2 n os).cell a3
    refine wp_region_quiet_grown mixed (by kernel_rfl) ?_
    repeat (go_big_quiet_step (first | (go_at_fn 18; first | refine Calls.grown_of (hFx _) | refine Calls.grown_of (hFy _)) | (go_at_call 23; refine Calls.grown_of (hC0 _))))
    refine wpQuiet_nil ?_
    intro _ hw'
    obtain ⟨⟨nq, osq⟩, hw''⟩ := hw'
    subst hw''
    have HW2 : Hid (Gr W (grow (W2.drewN nq) osq)) := HW.out.trans (Gr.grown W2 nq osq)
    have g1 := (Gr.grown W2 nq osq).cell g1
    have g2 := (Gr.grown W2 nq osq).cell g2
    have a0 := (Gr.grown W2 nq osq).cell a0
    have a1 := (Gr.grown W2 nq osq).cell a1
    have a2 := (Gr.grown W2 nq osq).cell a2
    have a3 := (Gr.grown W2 nq osq).cell a3
    clear l0 l1 l2 l3 HW
    generalize grow (W2.drewN nq) osq = W3 at *
    have HW := HW2
    clear HW2
    go_wp2_with fail
    rw [rounds_succ]
    by_cases hs : s = 0
    · have hs1 : (s != 0) = false := by simp [hs]
      have HS := Hid.mk7 hs
      clear hs
      go_wp2_with fail
      have l0 := fun n os => (Gr.grown W3 n os).cell a0
      have l1 := fun n os => (Gr.grown W3 n os).cell a1
      have l2 := fun n os => (Gr.grown W3 n os).cell a2
      have l3 := fun n os => (Gr.grown W3 n os).cell a3
      refine wp_region_quiet_grown mixed (by kernel_rfl) ?_
      repeat (go_big_quiet_step (first | (go_at_fn 19; first | refine Calls.grown_of (hTx _) | refine Calls.grown_of (hTy _)) | (go_at_call 23; refine Calls.grown_of (hC1 _))))
      refine wpQuiet_nil ?_
      intro _ hw'
      obtain ⟨⟨nq, osq⟩, hw''⟩ := hw'
      subst hw''
      have HW2 : Hid (Gr W (grow (W3.drewN nq) osq)) := HW.out.trans (Gr.grown W3 nq osq)
      have g1 := (Gr.grown W3 nq osq).cell g1
      have g2 := (Gr.grown W3 nq osq).cell g2
      have a0 := (Gr.grown W3 nq osq).cell a0
      have a1 := (Gr.grown W3 nq osq).cell a1
      have a2 := (Gr.grown W3 nq osq).cell a2
      have a3 := (Gr.grown W3 nq osq).cell a3
      clear l0 l1 l2 l3 HW
      generalize grow (W3.drewN nq) osq = W4 at *
      have HW := HW2
      clear HW2
      go_wp2_with fail
      rw [rounds_succ]
      go_wp2
      all_goals go_ret
      all_goals
        have q1 := HR.out
        have q2 := HS.out
        refine ⟨ret_intV ?_, HW.out⟩
        omega
    · have hs1 : (s != 0) = true := by simp [hs]
      clear hs
      go_wp2_with fail
      have l0 := fun n os => (Gr.grown W3 n os).cell a0
      have l1 := fun n os => (Gr.grown W3 n os).cell a1
      have l2 := fun n os => (Gr.grown W3 n os).cell a2
      have l3 := fun n os => (Gr.grown W3 n os).cell a3
      refine wp_region_quiet_grown mixed (by kernel_rfl) ?_
      repeat (go_big_quiet_step (first | (go_at_fn 19; first | refine Calls.grown_of (hTx _) | refine Calls.grown_of (hTy _)) | (go_at_call 23; refine Calls.grown_of (hC1 _))))
      refine wpQuiet_nil ?_
      intro _ hw'
      obtain ⟨⟨nq, osq⟩, hw''⟩ := hw'
      subst hw''
      have HW2 : Hid (Gr W (grow (W3.drewN nq) osq)) := HW.out.trans (Gr.grown W3 nq osq)
      have g1 := (Gr.grown W3 nq osq).cell g1
      have g2 := (Gr.grown W3 nq osq).cell g2
      have a0 := (Gr.grown W3 nq osq).cell a0
      have a1 := (Gr.grown W3 nq osq).cell a1
      have a2 := (Gr.grown W3 nq osq).cell a2
      have a3 := (Gr.grown W3 nq osq).cell a3
      clear l0 l1 l2 l3 HW
      generalize grow (W3.drewN nq) osq = W4 at *
      have HW := HW2
      clear HW2
      go_wp2
      all_goals go_ret
      all_goals
        have q1 := HR.out
        refine ⟨ret_intV ?_, HW.out⟩
        omega
  · skip
    have hr1 : (r != 0) = true := by simp [hr]
    have HR : Hid (¬ r = 0) := hr
    clear hr
    go_wp2_with fail
    have l0 := fun n os => (Gr.grown W2 n os).cell a0
    have l1 := fun n os => (Gr.grown W2 n os).cell a1
    have l2 := fun n os => (Gr.grown W2 n os).cell a2
    have l3 := fun n os => (Gr.grown W2 n os).cell a3
    refine wp_region_quiet_grown mixed (by kernel_rfl) ?_
    repeat (go_big_quiet_step (first | (go_at_fn 18; first | refine Calls.grown_of (hFx _) | refine Calls.grown_of (hFy _)) | (go_at_call 23; refine Calls.grown_of (hC0 _))))
    refine wpQuiet_nil ?_
    intro _ hw'
    obtain ⟨⟨nq, osq⟩, hw''⟩ := hw'
    subst hw''
    have HW2 : Hid (Gr W (grow (W2.drewN nq) osq)) := HW.out.trans (Gr.grown W2 nq osq)
    have g1 := (Gr.grown W2 nq osq).cell g1
    have g2 := (Gr.grown W2 nq osq).cell g2
    have a0 := (Gr.grown W2 nq osq).cell a0
    have a1 := (Gr.grown W2 nq osq).cell a1
    have a2 := (Gr.grown W2 nq osq).cell a2
    have a3 := (Gr.grown W2 nq osq).cell a3
    clear l0 l1 l2 l3 HW
    generalize grow (W2.drewN nq) osq = W3 at *
    have HW := HW2
    clear HW2
    go_wp2
    all_goals go_ret
    all_goals
      have q1 := HR.out
      refine ⟨ret_intV ?_, HW.out⟩
      omega
end Go.Proofs.Ytfohfdldpanfaaa
