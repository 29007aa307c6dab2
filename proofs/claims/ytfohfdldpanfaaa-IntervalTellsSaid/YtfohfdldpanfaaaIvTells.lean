/- IntervalTells walked. -/
import Derived.Test.YtfohfdldpanfaaaIvKnown
import Derived.Deep.CutRange
namespace Go.Proofs.Ytfohfdldpanfaaa
open Go.Shelf Go.RowKit Go.Lib Go.Sort
set_option linter.unusedSimpArgs false
set_option linter.unusedVariables false

set_option maxHeartbeats 4000000 in
set_option maxRecDepth 100000 in
theorem tells10_any (a b c d n t : Int) (w : World) :
    Calls Try.prog 3 #[.agg #[.int .i64 a, .int .i64 b], .agg #[.int .i64 c, .int .i64 d], .int .i64 n, .int .i64 t] w fun e w' => e = .returned (.bool true) ∧ RowKit.Below w.heap.size w w' := by
  have HK := Hid.mk7 known10_any
  have RA : Hid (Rv ((w.alloc (.cells #[.int .i64 a, .int .i64 b] 23)).alloc (.cells #[.int .i64 c, .int .i64 d] 23)) w.heap.size (.int .i64 a) (.int .i64 b)) := (Rv.new w _ _).alloc _
  have RB : Hid (Rv ((w.alloc (.cells #[.int .i64 a, .int .i64 b] 23)).alloc (.cells #[.int .i64 c, .int .i64 d] 23)) (w.heap.size + 1) (.int .i64 c) (.int .i64 d)) := Rv.new' (by simp) _ _
  have G0 : Hid (RowKit.Below w.heap.size w ((w.alloc (.cells #[.int .i64 a, .int .i64 b] 23)).alloc (.cells #[.int .i64 c, .int .i64 d] 23))) := ((RowKit.Below.refl _ _).alloc (Nat.le_refl _) _).alloc (by simp) _
  obtain ⟨M0, hM0⟩ : ∃ x, Hid (max a c = x) := ⟨_, rfl⟩
  obtain ⟨N1, hN1⟩ : ∃ x, Hid (min b d = x) := ⟨_, rfl⟩
  obtain ⟨M1, hM1⟩ : ∃ x, Hid (max (max a c) (min b d) = x) := ⟨_, rfl⟩
  obtain ⟨J0, hJ0⟩ : ∃ x, Hid (min a c = x) := ⟨_, rfl⟩
  obtain ⟨J1, hJ1⟩ : ∃ x, Hid (max b d = x) := ⟨_, rfl⟩
  go_enter Try.func3, Try.ntmps3
  go_wp2_with fail
  refine (HK.out _).mono ?_
  rintro e w1 ⟨rfl, b1⟩
  have RA1 := Hid.mk7 (RA.out.later b1)
  have RB1 := Hid.mk7 (RB.out.later b1)
  have G1 : Hid (RowKit.Below w.heap.size w w1) := G0.out.trans (b1.mono G0.out.size)
  have hzG := G1.out.size
  clear b1 RA RB G0
  generalize hz : w.heap.size = z at *
  have ac0 := RA1.out.c0
  have ac1 := RA1.out.c1
  have bc0 := RB1.out.c0
  have bc1 := RB1.out.c1
  go_upto_region 3 with fail
  go_cut [9, 10] from 13 to 22 (fun s9 s10 wx => s9 = .int .i64 M0 ∧ s10 = .int .i64 N1 ∧ Hid (Rv wx z (.int .i64 a) (.int .i64 b)) ∧ Hid (Rv wx (z + 1) (.int .i64 c) (.int .i64 d)) ∧ Hid (RowKit.Below z w wx))
  case first =>
    go_quiet (fail)
    have RA2 := Hid.mk7 (RA1.out.later (below_drewN (RowKit.Below.refl _ w1) nq))
    have RB2 := Hid.mk7 (RB1.out.later (below_drewN (RowKit.Below.refl _ w1) nq))
    have G2 : Hid (RowKit.Below z w (w1.drewN nq)) := below_drewN G1.out nq
    go_wp2
    go_meet
    case rel => exact ⟨congrArg _ hM0.out, congrArg _ hN1.out, RA2, RB2, G2⟩
  case rest =>
    obtain ⟨rfl, rfl, RA2, RB2, G2⟩ := hcut
    clear ac0 ac1 bc0 bc1 RA1 RB1 G1 hzG
    go_upto_if 25 with fail
    go_cut [10] from 23 to 26 (fun s10 wx => s10 = .int .i64 M1 ∧ wc = wx)
    case first =>
      by_cases hlt : N1 < M0
      · have d1 : decide (N1 < M0) = true := decide_eq_true hlt
        go_wp2
        go_meet
        case rel => exact ⟨congrArg _ (by have := hM0.out; have := hN1.out; have := hM1.out; omega), rfl⟩
      · have d1 : decide (N1 < M0) = false := decide_eq_false hlt
        go_wp2
        go_meet
        case rel => exact ⟨congrArg _ (by have := hM0.out; have := hN1.out; have := hM1.out; omega), rfl⟩
    case rest =>
      obtain ⟨rfl, rfl⟩ := hcut
      have RAk0 := cell_regrown RA2.out.c0
      have RAk1 := cell_regrown RA2.out.c1
      have RBk0 := cell_regrown RB2.out.c0
      have RBk1 := cell_regrown RB2.out.c1
      have HMC := Hid.mk7 (fun d' os => Calls.regrown_of (imeet_v a b c d M0 M1 hM0.out hM1.out (grow (redrawn wc d') os)))
      have HJC := Hid.mk7 (fun d' os => Calls.regrown_of (ijoin_any a b c d (grow (redrawn wc d') os)))
      have HSC := Hid.mk7 (fun d' os => Calls.regrown_of (ishift_any a b t (grow (redrawn wc d') os)))
      clear RA2 RB2
      go_wp2_with fail
      refine wp_region_quiet_below (by kernel_rfl) (by kernel_rfl) ?_
      try simp only [List.append]
      by_cases hi0 : 0 ≤ a
      · have fi0 : decide (0 ≤ a) = true := decide_eq_true hi0
        by_cases hi1 : a ≤ b
        · have fi1 : decide (a ≤ b) = true := decide_eq_true hi1
          by_cases hi2 : b ≤ n
          · have fi2 : decide (b ≤ n) = true := decide_eq_true hi2
            by_cases ht0 : c ≤ b
            · have ft0 : decide (b ≥ c) = true := decide_eq_true ht0
              by_cases ht1 : a ≤ d
              · have ft1 : decide (d ≥ a) = true := decide_eq_true ht1
                have HIC := Hid.mk7 (fun d' os => Calls.regrown_of (iis_b a b n true (by simp <;> omega) (grow (redrawn wc d') os)))
                have HTC := Hid.mk7 (fun d' os => Calls.regrown_of (itouch_b a b c d true (by simp <;> omega) (grow (redrawn wc d') os)))
                repeat (go_big_quiet_step (first | (go_at_call 9; exact HIC.out _ _) | (go_at_call 10; exact HMC.out _ _) | (go_at_call 11; exact HTC.out _ _) | (go_at_call 12; exact HJC.out _ _) | (go_at_call 13; exact HSC.out _ _)))
                refine wpQuiet_nil ?_
                intro _ hw'
                obtain ⟨⟨dq, osq⟩, hw''⟩ := hw'
                subst hw''
                have HG9 : Hid (RowKit.Below z w (grow (redrawn wc dq) osq)) := G2.out.trans ((below_regrown wc dq osq).mono (hz ▸ G2.out.size))
                clear HIC HTC HJC HMC HSC RAk0 RAk1 RBk0 RBk1
                generalize grow (redrawn wc dq) osq = w9 at *
                go_wp2
                go_ret
                exact ⟨rfl, hz ▸ HG9.out⟩
              · have ft1 : decide (d ≥ a) = false := decide_eq_false ht1
                have HIC := Hid.mk7 (fun d' os => Calls.regrown_of (iis_b a b n true (by simp <;> omega) (grow (redrawn wc d') os)))
                have HTC := Hid.mk7 (fun d' os => Calls.regrown_of (itouch_b a b c d false (by simp <;> omega) (grow (redrawn wc d') os)))
                repeat (go_big_quiet_step (first | (go_at_call 9; exact HIC.out _ _) | (go_at_call 10; exact HMC.out _ _) | (go_at_call 11; exact HTC.out _ _) | (go_at_call 12; exact HJC.out _ _) | (go_at_call 13; exact HSC.out _ _)))
                refine wpQuiet_nil ?_
                intro _ hw'
                obtain ⟨⟨dq, osq⟩, hw''⟩ := hw'
                subst hw''
                have HG9 : Hid (RowKit.Below z w (grow (redrawn wc dq) osq)) := G2.out.trans ((below_regrown wc dq osq).mono (hz ▸ G2.out.size))
                clear HIC HTC HJC HMC HSC RAk0 RAk1 RBk0 RBk1
                generalize grow (redrawn wc dq) osq = w9 at *
                go_wp2
                go_ret
                exact ⟨rfl, hz ▸ HG9.out⟩
            · have ft0 : decide (b ≥ c) = false := decide_eq_false ht0
              have HIC := Hid.mk7 (fun d' os => Calls.regrown_of (iis_b a b n true (by simp <;> omega) (grow (redrawn wc d') os)))
              have HTC := Hid.mk7 (fun d' os => Calls.regrown_of (itouch_b a b c d false (by simp <;> omega) (grow (redrawn wc d') os)))
              repeat (go_big_quiet_step (first | (go_at_call 9; exact HIC.out _ _) | (go_at_call 10; exact HMC.out _ _) | (go_at_call 11; exact HTC.out _ _) | (go_at_call 12; exact HJC.out _ _) | (go_at_call 13; exact HSC.out _ _)))
              refine wpQuiet_nil ?_
              intro _ hw'
              obtain ⟨⟨dq, osq⟩, hw''⟩ := hw'
              subst hw''
              have HG9 : Hid (RowKit.Below z w (grow (redrawn wc dq) osq)) := G2.out.trans ((below_regrown wc dq osq).mono (hz ▸ G2.out.size))
              clear HIC HTC HJC HMC HSC RAk0 RAk1 RBk0 RBk1
              generalize grow (redrawn wc dq) osq = w9 at *
              go_wp2
              go_ret
              exact ⟨rfl, hz ▸ HG9.out⟩
          · have fi2 : decide (b ≤ n) = false := decide_eq_false hi2
            by_cases ht0 : c ≤ b
            · have ft0 : decide (b ≥ c) = true := decide_eq_true ht0
              by_cases ht1 : a ≤ d
              · have ft1 : decide (d ≥ a) = true := decide_eq_true ht1
                have HIC := Hid.mk7 (fun d' os => Calls.regrown_of (iis_b a b n false (by simp <;> omega) (grow (redrawn wc d') os)))
                have HTC := Hid.mk7 (fun d' os => Calls.regrown_of (itouch_b a b c d true (by simp <;> omega) (grow (redrawn wc d') os)))
                repeat (go_big_quiet_step (first | (go_at_call 9; exact HIC.out _ _) | (go_at_call 10; exact HMC.out _ _) | (go_at_call 11; exact HTC.out _ _) | (go_at_call 12; exact HJC.out _ _) | (go_at_call 13; exact HSC.out _ _)))
                refine wpQuiet_nil ?_
                intro _ hw'
                obtain ⟨⟨dq, osq⟩, hw''⟩ := hw'
                subst hw''
                have HG9 : Hid (RowKit.Below z w (grow (redrawn wc dq) osq)) := G2.out.trans ((below_regrown wc dq osq).mono (hz ▸ G2.out.size))
                clear HIC HTC HJC HMC HSC RAk0 RAk1 RBk0 RBk1
                generalize grow (redrawn wc dq) osq = w9 at *
                go_wp2
                go_ret
                exact ⟨rfl, hz ▸ HG9.out⟩
              · have ft1 : decide (d ≥ a) = false := decide_eq_false ht1
                have HIC := Hid.mk7 (fun d' os => Calls.regrown_of (iis_b a b n false (by simp <;> omega) (grow (redrawn wc d') os)))
                have HTC := Hid.mk7 (fun d' os => Calls.regrown_of (itouch_b a b c d false (by simp <;> omega) (grow (redrawn wc d') os)))
                repeat (go_big_quiet_step (first | (go_at_call 9; exact HIC.out _ _) | (go_at_call 10; exact HMC.out _ _) | (go_at_call 11; exact HTC.out _ _) | (go_at_call 12; exact HJC.out _ _) | (go_at_call 13; exact HSC.out _ _)))
                refine wpQuiet_nil ?_
                intro _ hw'
                obtain ⟨⟨dq, osq⟩, hw''⟩ := hw'
                subst hw''
                have HG9 : Hid (RowKit.Below z w (grow (redrawn wc dq) osq)) := G2.out.trans ((below_regrown wc dq osq).mono (hz ▸ G2.out.size))
                clear HIC HTC HJC HMC HSC RAk0 RAk1 RBk0 RBk1
                generalize grow (redrawn wc dq) osq = w9 at *
                go_wp2
                go_ret
                exact ⟨rfl, hz ▸ HG9.out⟩
            · have ft0 : decide (b ≥ c) = false := decide_eq_false ht0
              have HIC := Hid.mk7 (fun d' os => Calls.regrown_of (iis_b a b n false (by simp <;> omega) (grow (redrawn wc d') os)))
              have HTC := Hid.mk7 (fun d' os => Calls.regrown_of (itouch_b a b c d false (by simp <;> omega) (grow (redrawn wc d') os)))
              repeat (go_big_quiet_step (first | (go_at_call 9; exact HIC.out _ _) | (go_at_call 10; exact HMC.out _ _) | (go_at_call 11; exact HTC.out _ _) | (go_at_call 12; exact HJC.out _ _) | (go_at_call 13; exact HSC.out _ _)))
              refine wpQuiet_nil ?_
              intro _ hw'
              obtain ⟨⟨dq, osq⟩, hw''⟩ := hw'
              subst hw''
              have HG9 : Hid (RowKit.Below z w (grow (redrawn wc dq) osq)) := G2.out.trans ((below_regrown wc dq osq).mono (hz ▸ G2.out.size))
              clear HIC HTC HJC HMC HSC RAk0 RAk1 RBk0 RBk1
              generalize grow (redrawn wc dq) osq = w9 at *
              go_wp2
              go_ret
              exact ⟨rfl, hz ▸ HG9.out⟩
        · have fi1 : decide (a ≤ b) = false := decide_eq_false hi1
          by_cases ht0 : c ≤ b
          · have ft0 : decide (b ≥ c) = true := decide_eq_true ht0
            by_cases ht1 : a ≤ d
            · have ft1 : decide (d ≥ a) = true := decide_eq_true ht1
              have HIC := Hid.mk7 (fun d' os => Calls.regrown_of (iis_b a b n false (by simp <;> omega) (grow (redrawn wc d') os)))
              have HTC := Hid.mk7 (fun d' os => Calls.regrown_of (itouch_b a b c d true (by simp <;> omega) (grow (redrawn wc d') os)))
              repeat (go_big_quiet_step (first | (go_at_call 9; exact HIC.out _ _) | (go_at_call 10; exact HMC.out _ _) | (go_at_call 11; exact HTC.out _ _) | (go_at_call 12; exact HJC.out _ _) | (go_at_call 13; exact HSC.out _ _)))
              refine wpQuiet_nil ?_
              intro _ hw'
              obtain ⟨⟨dq, osq⟩, hw''⟩ := hw'
              subst hw''
              have HG9 : Hid (RowKit.Below z w (grow (redrawn wc dq) osq)) := G2.out.trans ((below_regrown wc dq osq).mono (hz ▸ G2.out.size))
              clear HIC HTC HJC HMC HSC RAk0 RAk1 RBk0 RBk1
              generalize grow (redrawn wc dq) osq = w9 at *
              go_wp2
              go_ret
              exact ⟨rfl, hz ▸ HG9.out⟩
            · have ft1 : decide (d ≥ a) = false := decide_eq_false ht1
              have HIC := Hid.mk7 (fun d' os => Calls.regrown_of (iis_b a b n false (by simp <;> omega) (grow (redrawn wc d') os)))
              have HTC := Hid.mk7 (fun d' os => Calls.regrown_of (itouch_b a b c d false (by simp <;> omega) (grow (redrawn wc d') os)))
              repeat (go_big_quiet_step (first | (go_at_call 9; exact HIC.out _ _) | (go_at_call 10; exact HMC.out _ _) | (go_at_call 11; exact HTC.out _ _) | (go_at_call 12; exact HJC.out _ _) | (go_at_call 13; exact HSC.out _ _)))
              refine wpQuiet_nil ?_
              intro _ hw'
              obtain ⟨⟨dq, osq⟩, hw''⟩ := hw'
              subst hw''
              have HG9 : Hid (RowKit.Below z w (grow (redrawn wc dq) osq)) := G2.out.trans ((below_regrown wc dq osq).mono (hz ▸ G2.out.size))
              clear HIC HTC HJC HMC HSC RAk0 RAk1 RBk0 RBk1
              generalize grow (redrawn wc dq) osq = w9 at *
              go_wp2
              go_ret
              exact ⟨rfl, hz ▸ HG9.out⟩
          · have ft0 : decide (b ≥ c) = false := decide_eq_false ht0
            have HIC := Hid.mk7 (fun d' os => Calls.regrown_of (iis_b a b n false (by simp <;> omega) (grow (redrawn wc d') os)))
            have HTC := Hid.mk7 (fun d' os => Calls.regrown_of (itouch_b a b c d false (by simp <;> omega) (grow (redrawn wc d') os)))
            repeat (go_big_quiet_step (first | (go_at_call 9; exact HIC.out _ _) | (go_at_call 10; exact HMC.out _ _) | (go_at_call 11; exact HTC.out _ _) | (go_at_call 12; exact HJC.out _ _) | (go_at_call 13; exact HSC.out _ _)))
            refine wpQuiet_nil ?_
            intro _ hw'
            obtain ⟨⟨dq, osq⟩, hw''⟩ := hw'
            subst hw''
            have HG9 : Hid (RowKit.Below z w (grow (redrawn wc dq) osq)) := G2.out.trans ((below_regrown wc dq osq).mono (hz ▸ G2.out.size))
            clear HIC HTC HJC HMC HSC RAk0 RAk1 RBk0 RBk1
            generalize grow (redrawn wc dq) osq = w9 at *
            go_wp2
            go_ret
            exact ⟨rfl, hz ▸ HG9.out⟩
      · have fi0 : decide (0 ≤ a) = false := decide_eq_false hi0
        by_cases ht0 : c ≤ b
        · have ft0 : decide (b ≥ c) = true := decide_eq_true ht0
          by_cases ht1 : a ≤ d
          · have ft1 : decide (d ≥ a) = true := decide_eq_true ht1
            have HIC := Hid.mk7 (fun d' os => Calls.regrown_of (iis_b a b n false (by simp <;> omega) (grow (redrawn wc d') os)))
            have HTC := Hid.mk7 (fun d' os => Calls.regrown_of (itouch_b a b c d true (by simp <;> omega) (grow (redrawn wc d') os)))
            repeat (go_big_quiet_step (first | (go_at_call 9; exact HIC.out _ _) | (go_at_call 10; exact HMC.out _ _) | (go_at_call 11; exact HTC.out _ _) | (go_at_call 12; exact HJC.out _ _) | (go_at_call 13; exact HSC.out _ _)))
            refine wpQuiet_nil ?_
            intro _ hw'
            obtain ⟨⟨dq, osq⟩, hw''⟩ := hw'
            subst hw''
            have HG9 : Hid (RowKit.Below z w (grow (redrawn wc dq) osq)) := G2.out.trans ((below_regrown wc dq osq).mono (hz ▸ G2.out.size))
            clear HIC HTC HJC HMC HSC RAk0 RAk1 RBk0 RBk1
            generalize grow (redrawn wc dq) osq = w9 at *
            go_wp2
            go_ret
            exact ⟨rfl, hz ▸ HG9.out⟩
          · have ft1 : decide (d ≥ a) = false := decide_eq_false ht1
            have HIC := Hid.mk7 (fun d' os => Calls.regrown_of (iis_b a b n false (by simp <;> omega) (grow (redrawn wc d') os)))
            have HTC := Hid.mk7 (fun d' os => Calls.regrown_of (itouch_b a b c d false (by simp <;> omega) (grow (redrawn wc d') os)))
            repeat (go_big_quiet_step (first | (go_at_call 9; exact HIC.out _ _) | (go_at_call 10; exact HMC.out _ _) | (go_at_call 11; exact HTC.out _ _) | (go_at_call 12; exact HJC.out _ _) | (go_at_call 13; exact HSC.out _ _)))
            refine wpQuiet_nil ?_
            intro _ hw'
            obtain ⟨⟨dq, osq⟩, hw''⟩ := hw'
            subst hw''
            have HG9 : Hid (RowKit.Below z w (grow (redrawn wc dq) osq)) := G2.out.trans ((below_regrown wc dq osq).mono (hz ▸ G2.out.size))
            clear HIC HTC HJC HMC HSC RAk0 RAk1 RBk0 RBk1
            generalize grow (redrawn wc dq) osq = w9 at *
            go_wp2
            go_ret
            exact ⟨rfl, hz ▸ HG9.out⟩
        · have ft0 : decide (b ≥ c) = false := decide_eq_false ht0
          have HIC := Hid.mk7 (fun d' os => Calls.regrown_of (iis_b a b n false (by simp <;> omega) (grow (redrawn wc d') os)))
          have HTC := Hid.mk7 (fun d' os => Calls.regrown_of (itouch_b a b c d false (by simp <;> omega) (grow (redrawn wc d') os)))
          repeat (go_big_quiet_step (first | (go_at_call 9; exact HIC.out _ _) | (go_at_call 10; exact HMC.out _ _) | (go_at_call 11; exact HTC.out _ _) | (go_at_call 12; exact HJC.out _ _) | (go_at_call 13; exact HSC.out _ _)))
          refine wpQuiet_nil ?_
          intro _ hw'
          obtain ⟨⟨dq, osq⟩, hw''⟩ := hw'
          subst hw''
          have HG9 : Hid (RowKit.Below z w (grow (redrawn wc dq) osq)) := G2.out.trans ((below_regrown wc dq osq).mono (hz ▸ G2.out.size))
          clear HIC HTC HJC HMC HSC RAk0 RAk1 RBk0 RBk1
          generalize grow (redrawn wc dq) osq = w9 at *
          go_wp2
          go_ret
          exact ⟨rfl, hz ▸ HG9.out⟩
end Go.Proofs.Ytfohfdldpanfaaa
