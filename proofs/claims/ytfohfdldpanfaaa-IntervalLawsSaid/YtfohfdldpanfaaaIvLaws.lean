/- IntervalLaws walked. -/
import Derived.Test.YtfohfdldpanfaaaIvMoved
import Derived.Deep.CutRange
namespace Go.Proofs.Ytfohfdldpanfaaa
open Go.Shelf Go.RowKit Go.Lib Go.Sort
set_option linter.unusedSimpArgs false
set_option linter.unusedVariables false

theorem below_rdV (w : World) (d : Nat) : RowKit.Below w.heap.size w (redrawn w d) := ⟨rfl, rfl, rfl, Nat.le_refl _, fun _ _ => rfl⟩
theorem anyC_pick3 {P : Program} {C : World → Prop} {l : List Oper} {z fuel : Nat} {Q : Exit → Act → World → Prop} {listed : Array Bool} {a : Act} {w : World} (k k' k'' : Nat) (hr : (Region.ready .any l.toArray listed == [k, k', k'']) = true) (hk : (l[k]?).isSome = true) (hk' : (l[k']?).isSome = true) (hk'' : (l[k'']?).isSome = true)
    (h : wpList P l.toArray (AnyNext P l C z Q k fuel (listed.setIfInBounds k true)) (pickAll l [k]) a w) (h' : wpList P l.toArray (AnyNext P l C z Q k' fuel (listed.setIfInBounds k' true)) (pickAll l [k']) a w) (h'' : wpList P l.toArray (AnyNext P l C z Q k'' fuel (listed.setIfInBounds k'' true)) (pickAll l [k'']) a w) : wpAnyC P l.toArray C z (noPanic Q) (fuel + 1) listed a w :=
  anyC_pick [k, k', k''] hr (by simp [hk, hk', hk'']) rfl (by
    intro x hx
    simp only [List.mem_cons, List.not_mem_nil, or_false] at hx
    rcases hx with rfl | rfl | rfl
    · exact h
    · exact h'
    · exact h'')
set_option maxHeartbeats 4000000 in
set_option maxRecDepth 100000 in
theorem laws10_any (a b c d t : Int) (ht0 : -32768 ≤ t) (ht1 : t ≤ 32767) (w : World) :
    Calls Try.prog 6 #[.agg #[.int .i64 a, .int .i64 b], .agg #[.int .i64 c, .int .i64 d], .int .i16 t] w fun e w' => e = .returned (.bool true) ∧ RowKit.Below w.heap.size w w' := by
  have HK := Hid.mk7 known10_any
  have RA : Hid (Rv ((w.alloc (.cells #[.int .i64 a, .int .i64 b] 23)).alloc (.cells #[.int .i64 c, .int .i64 d] 23)) w.heap.size (.int .i64 a) (.int .i64 b)) := (Rv.new w _ _).alloc _
  have RB : Hid (Rv ((w.alloc (.cells #[.int .i64 a, .int .i64 b] 23)).alloc (.cells #[.int .i64 c, .int .i64 d] 23)) (w.heap.size + 1) (.int .i64 c) (.int .i64 d)) := Rv.new' (by simp) _ _
  have G0 : Hid (RowKit.Below w.heap.size w ((w.alloc (.cells #[.int .i64 a, .int .i64 b] 23)).alloc (.cells #[.int .i64 c, .int .i64 d] 23))) := ((RowKit.Below.refl _ _).alloc (Nat.le_refl _) _).alloc (by simp) _
  by_cases h0 : b < a
  · have q0 : decide (a > b) = true := decide_eq_true h0
    go_enter Try.func6, Try.ntmps6
    go_wp2_with fail
    refine (HK.out _).mono ?_
    rintro e w1 ⟨rfl, b1⟩
    have ra0 := (RA.out.later b1).c0
    have ra1 := (RA.out.later b1).c1
    have rb0 := (RB.out.later b1).c0
    have rb1 := (RB.out.later b1).c1
    have G1 : Hid (RowKit.Below w.heap.size w w1) := G0.out.trans (b1.mono G0.out.size)
    clear b1
    go_wp2
    go_ret
    exact ⟨rfl, G1.out⟩
  have q0 : decide (a > b) = false := decide_eq_false h0
  by_cases h1 : d < c
  · have q1 : decide (c > d) = true := decide_eq_true h1
    go_enter Try.func6, Try.ntmps6
    go_wp2_with fail
    refine (HK.out _).mono ?_
    rintro e w1 ⟨rfl, b1⟩
    have ra0 := (RA.out.later b1).c0
    have ra1 := (RA.out.later b1).c1
    have rb0 := (RB.out.later b1).c0
    have rb1 := (RB.out.later b1).c1
    have G1 : Hid (RowKit.Below w.heap.size w w1) := G0.out.trans (b1.mono G0.out.size)
    clear b1
    go_wp2
    go_ret
    exact ⟨rfl, G1.out⟩
  have q1 : decide (c > d) = false := decide_eq_false h1
  by_cases h2 : a < -100000
  · have q2 : decide (a < -100000) = true := decide_eq_true h2
    go_enter Try.func6, Try.ntmps6
    go_wp2_with fail
    refine (HK.out _).mono ?_
    rintro e w1 ⟨rfl, b1⟩
    have ra0 := (RA.out.later b1).c0
    have ra1 := (RA.out.later b1).c1
    have rb0 := (RB.out.later b1).c0
    have rb1 := (RB.out.later b1).c1
    have G1 : Hid (RowKit.Below w.heap.size w w1) := G0.out.trans (b1.mono G0.out.size)
    clear b1
    go_wp2
    go_ret
    exact ⟨rfl, G1.out⟩
  have q2 : decide (a < -100000) = false := decide_eq_false h2
  by_cases h3 : c < -100000
  · have q3 : decide (c < -100000) = true := decide_eq_true h3
    go_enter Try.func6, Try.ntmps6
    go_wp2_with fail
    refine (HK.out _).mono ?_
    rintro e w1 ⟨rfl, b1⟩
    have ra0 := (RA.out.later b1).c0
    have ra1 := (RA.out.later b1).c1
    have rb0 := (RB.out.later b1).c0
    have rb1 := (RB.out.later b1).c1
    have G1 : Hid (RowKit.Below w.heap.size w w1) := G0.out.trans (b1.mono G0.out.size)
    clear b1
    go_wp2
    go_ret
    exact ⟨rfl, G1.out⟩
  have q3 : decide (c < -100000) = false := decide_eq_false h3
  by_cases h4 : 100000 < b
  · have q4 : decide (b > 100000) = true := decide_eq_true h4
    go_enter Try.func6, Try.ntmps6
    go_wp2_with fail
    refine (HK.out _).mono ?_
    rintro e w1 ⟨rfl, b1⟩
    have ra0 := (RA.out.later b1).c0
    have ra1 := (RA.out.later b1).c1
    have rb0 := (RB.out.later b1).c0
    have rb1 := (RB.out.later b1).c1
    have G1 : Hid (RowKit.Below w.heap.size w w1) := G0.out.trans (b1.mono G0.out.size)
    clear b1
    go_wp2
    go_ret
    exact ⟨rfl, G1.out⟩
  have q4 : decide (b > 100000) = false := decide_eq_false h4
  by_cases h5 : 100000 < d
  · have q5 : decide (d > 100000) = true := decide_eq_true h5
    go_enter Try.func6, Try.ntmps6
    go_wp2_with fail
    refine (HK.out _).mono ?_
    rintro e w1 ⟨rfl, b1⟩
    have ra0 := (RA.out.later b1).c0
    have ra1 := (RA.out.later b1).c1
    have rb0 := (RB.out.later b1).c0
    have rb1 := (RB.out.later b1).c1
    have G1 : Hid (RowKit.Below w.heap.size w w1) := G0.out.trans (b1.mono G0.out.size)
    clear b1
    go_wp2
    go_ret
    exact ⟨rfl, G1.out⟩
  have q5 : decide (d > 100000) = false := decide_eq_false h5
  obtain ⟨M0, hM0⟩ : ∃ x, Hid (max a c = x) := ⟨_, rfl⟩
  obtain ⟨M1, hM1⟩ : ∃ x, Hid (max (max a c) (min b d) = x) := ⟨_, rfl⟩
  obtain ⟨J0, hJ0⟩ : ∃ x, Hid (min a c = x) := ⟨_, rfl⟩
  obtain ⟨J1, hJ1⟩ : ∃ x, Hid (max b d = x) := ⟨_, rfl⟩
  go_enter Try.func6, Try.ntmps6
  go_wp2_with fail
  refine (HK.out _).mono ?_
  rintro e w1 ⟨rfl, b1⟩
  have RA1 := Hid.mk7 (RA.out.later b1)
  have RB1 := Hid.mk7 (RB.out.later b1)
  have G1 : Hid (RowKit.Below w.heap.size w w1) := G0.out.trans (b1.mono G0.out.size)
  clear b1 RA RB G0
  have hzG := G1.out.size
  generalize hz : w.heap.size = z at *
  have RAc0 := RA1.out.c0
  have RAc1 := RA1.out.c1
  have RBc0 := RB1.out.c0
  have RBc1 := RB1.out.c1
  go_upto_region 5 with fail
  go_cut [7, 8] from 44 to 49 (fun s7 s8 wx => ∃ gm gj : Nat, s7 = .pointer (some ⟨gm, 0, none⟩) ∧ s8 = .pointer (some ⟨gj, 0, none⟩) ∧ Hid (Rv wx gm (.int .i64 M0) (.int .i64 M1)) ∧ Hid (Rv wx gj (.int .i64 J0) (.int .i64 J1)) ∧ Hid (Rv wx z (.int .i64 a) (.int .i64 b)) ∧ Hid (Rv wx (z + 1) (.int .i64 c) (.int .i64 d)) ∧ Hid (RowKit.Below z w wx))
  case first =>
    refine wp_region_turns (fun w' => ∃ x0 : GW (fun W => Rv W z (.int .i64 a) (.int .i64 b) ∧ Rv W (z + 1) (.int .i64 c) (.int .i64 d)), w' = x0.w) [0, 1, 3, 4] 9 6 (by kernel_rfl) (by kernel_rfl) (fun d => ⟨⟨redrawn w1 d, RA1.out.later (below_rdV w1 d), RB1.out.later (below_rdV w1 d)⟩, rfl⟩) ?_
    intro d2
    have k0 : ∀ x0 : GW (fun W => Rv W z (.int .i64 a) (.int .i64 b) ∧ Rv W (z + 1) (.int .i64 c) (.int .i64 d)), x0.w.cell? ⟨z, 0, none⟩ = some (.int .i64 a) := fun x0 => x0.h.1.c0
    have k1 : ∀ x0 : GW (fun W => Rv W z (.int .i64 a) (.int .i64 b) ∧ Rv W (z + 1) (.int .i64 c) (.int .i64 d)), x0.w.cell? ⟨z, 1, none⟩ = some (.int .i64 b) := fun x0 => x0.h.1.c1
    have k2 : ∀ x0 : GW (fun W => Rv W z (.int .i64 a) (.int .i64 b) ∧ Rv W (z + 1) (.int .i64 c) (.int .i64 d)), x0.w.cell? ⟨z + 1, 0, none⟩ = some (.int .i64 c) := fun x0 => x0.h.2.c0
    have k3 : ∀ x0 : GW (fun W => Rv W z (.int .i64 a) (.int .i64 b) ∧ Rv W (z + 1) (.int .i64 c) (.int .i64 d)), x0.w.cell? ⟨z + 1, 1, none⟩ = some (.int .i64 d) := fun x0 => x0.h.2.c1
    simp only [pickAll, pickAt, List.nil_append, List.cons_append, List.append_nil]
    have hne : Nonempty (GW (fun W => Rv W z (.int .i64 a) (.int .i64 b) ∧ Rv W (z + 1) (.int .i64 c) (.int .i64 d))) := ⟨⟨w1, RA1.out, RB1.out⟩⟩
    repeat (go_big_quiet_step (fail))
    refine wpQuiet_nil ?_
    clear hne k0 k1 k2 k3 RAc0 RAc1 RBc0 RBc1
    have bd := below_rdV w1 d2
    have RA2 := Hid.mk7 (RA1.out.later bd)
    have RB2 := Hid.mk7 (RB1.out.later bd)
    have bb2 := Hid.mk7 bd
    clear bd
    generalize redrawn w1 d2 = v2 at *
    refine anyC_pick3 2 6 7 (by kernel_rfl) (by kernel_rfl) (by kernel_rfl) (by kernel_rfl) ?_ ?_ ?_ 
    · simp only [pickAll, pickAt, List.nil_append, List.cons_append, List.append_nil]
      go_wp2_with fail
      refine (imeet_v a b c d M0 M1 hM0.out hM1.out _).mono ?_
      rintro e v11 ⟨rfl, bz⟩
      have RA11 := Hid.mk7 (RA2.out.later bz)
      have RB11 := Hid.mk7 (RB2.out.later bz)
      have bb11 : Hid (RowKit.Below w1.heap.size w1 v11) := bb2.out.trans (bz.mono bb2.out.size)
      clear bz
      go_wp2
      refine anyNext_mk ⟨⟨_, RA11.out, RB11.out⟩, rfl⟩ ?_
      refine anyC_pick3 5 6 7 (by kernel_rfl) (by kernel_rfl) (by kernel_rfl) (by kernel_rfl) ?_ ?_ ?_ 
      · simp only [pickAll, pickAt, List.nil_append, List.cons_append, List.append_nil]
        go_wp2_with fail
        refine (ijoin_v a b c d J0 J1 hJ0.out hJ1.out _).mono ?_
        rintro e v12 ⟨rfl, bz⟩
        have RA12 := Hid.mk7 (RA11.out.later bz)
        have RB12 := Hid.mk7 (RB11.out.later bz)
        have bb12 : Hid (RowKit.Below w1.heap.size w1 v12) := bb11.out.trans (bz.mono bb11.out.size)
        clear bz
        go_wp2
        refine anyNext_mk ⟨⟨_, RA12.out, RB12.out⟩, rfl⟩ ?_
        refine anyC_pick2 6 7 (by kernel_rfl) (by kernel_rfl) (by kernel_rfl) ?_ ?_ 
        · simp only [pickAll, pickAt, List.nil_append, List.cons_append, List.append_nil]
          have RA13 := Hid.mk7 (RA12.out.alloc (.cells #[.int .i64 0, .int .i64 0] 23))
          have RB13 := Hid.mk7 (RB12.out.alloc (.cells #[.int .i64 0, .int .i64 0] 23))
          have RM13 : Hid (Rv (v12.alloc (.cells #[.int .i64 0, .int .i64 0] 23)) v12.heap.size (.int .i64 0) (.int .i64 0)) := Rv.new _ _ _
          have bb13 : Hid (RowKit.Below w1.heap.size w1 (v12.alloc (.cells #[.int .i64 0, .int .i64 0] 23))) := bb12.out.alloc bb12.out.size _
          have nAM : z ≠ v12.heap.size := by have := RA12.out.lt; omega
          have nBM : z + 1 ≠ v12.heap.size := by have := RB12.out.lt; omega
          have hM := bb12.out.size
          go_wp2
          generalize (v12.alloc (.cells #[.int .i64 0, .int .i64 0] 23)) = v13 at *
          refine anyNext_mk ⟨⟨_, RA13.out, RB13.out⟩, rfl⟩ ?_
          refine anyC_pick1 7 (by kernel_rfl) (by kernel_rfl) ?_ 
          · simp only [pickAll, pickAt, List.nil_append, List.cons_append, List.append_nil]
            have RA14 := Hid.mk7 (RA13.out.alloc (.cells #[.int .i64 0, .int .i64 0] 23))
            have RB14 := Hid.mk7 (RB13.out.alloc (.cells #[.int .i64 0, .int .i64 0] 23))
            have RM14 := Hid.mk7 (RM13.out.alloc (.cells #[.int .i64 0, .int .i64 0] 23))
            have RJ14 : Hid (Rv (v13.alloc (.cells #[.int .i64 0, .int .i64 0] 23)) v13.heap.size (.int .i64 0) (.int .i64 0)) := Rv.new _ _ _
            have bb14 : Hid (RowKit.Below w1.heap.size w1 (v13.alloc (.cells #[.int .i64 0, .int .i64 0] 23))) := bb13.out.alloc bb13.out.size _
            have nAJ : z ≠ v13.heap.size := by have := RA13.out.lt; omega
            have nBJ : z + 1 ≠ v13.heap.size := by have := RB13.out.lt; omega
            have hJ := bb13.out.size
            have nMJ : v12.heap.size ≠ v13.heap.size := by have := RM13.out.lt; omega
            go_wp2
            generalize (v13.alloc (.cells #[.int .i64 0, .int .i64 0] 23)) = v14 at *
            refine anyNext_mk ⟨⟨_, RA14.out, RB14.out⟩, rfl⟩ ?_
            refine anyC_pick1 8 (by kernel_rfl) (by kernel_rfl) ?_ 
            · simp only [pickAll, pickAt, List.nil_append, List.cons_append, List.append_nil]
              have c0 := RM14.out.c0
              have c1 := RM14.out.c1
              have fz := RM14.out.fz
              have cx := ((RM14.out.set (.int .i64 M0) (.int .i64 M1)))
              have c2 : (v14.setCell ⟨v12.heap.size, 0, none⟩ (.int .i64 M0)).cell? ⟨v12.heap.size, 1, none⟩ = some (.int .i64 0) := other_cell _ (by omega) c1
              clear cx
              have RA15 := Hid.mk7 ((RA14.out.other nAM 0 (.int .i64 M0)).other nAM 1 (.int .i64 M1))
              have RB15 := Hid.mk7 ((RB14.out.other nBM 0 (.int .i64 M0)).other nBM 1 (.int .i64 M1))
              have RM15 := Hid.mk7 (RM14.out.set (.int .i64 M0) (.int .i64 M1))
              have RJ15 := Hid.mk7 ((RJ14.out.other (Ne.symm nMJ) 0 (.int .i64 M0)).other (Ne.symm nMJ) 1 (.int .i64 M1))
              have bb15 : Hid (RowKit.Below w1.heap.size w1 ((v14.setCell ⟨v12.heap.size, 0, none⟩ (.int .i64 M0)).setCell ⟨v12.heap.size, 1, none⟩ (.int .i64 M1))) := (bb14.out.setCell (p := ⟨v12.heap.size, 0, none⟩) hM _).setCell (p := ⟨v12.heap.size, 1, none⟩) hM _
              go_wp2
              clear c0 c1 c2 fz
              generalize ((v14.setCell ⟨v12.heap.size, 0, none⟩ (.int .i64 M0)).setCell ⟨v12.heap.size, 1, none⟩ (.int .i64 M1)) = v15 at *
              refine anyNext_mk ⟨⟨_, RA15.out, RB15.out⟩, rfl⟩ ?_
              refine anyC_pick1 9 (by kernel_rfl) (by kernel_rfl) ?_ 
              · simp only [pickAll, pickAt, List.nil_append, List.cons_append, List.append_nil]
                have c0 := RJ15.out.c0
                have c1 := RJ15.out.c1
                have fz := RJ15.out.fz
                have cx := ((RJ15.out.set (.int .i64 J0) (.int .i64 J1)))
                have c2 : (v15.setCell ⟨v13.heap.size, 0, none⟩ (.int .i64 J0)).cell? ⟨v13.heap.size, 1, none⟩ = some (.int .i64 0) := other_cell _ (by omega) c1
                clear cx
                have RA16 := Hid.mk7 ((RA15.out.other nAJ 0 (.int .i64 J0)).other nAJ 1 (.int .i64 J1))
                have RB16 := Hid.mk7 ((RB15.out.other nBJ 0 (.int .i64 J0)).other nBJ 1 (.int .i64 J1))
                have RM16 := Hid.mk7 ((RM15.out.other nMJ 0 (.int .i64 J0)).other nMJ 1 (.int .i64 J1))
                have RJ16 := Hid.mk7 (RJ15.out.set (.int .i64 J0) (.int .i64 J1))
                have bb16 : Hid (RowKit.Below w1.heap.size w1 ((v15.setCell ⟨v13.heap.size, 0, none⟩ (.int .i64 J0)).setCell ⟨v13.heap.size, 1, none⟩ (.int .i64 J1))) := (bb15.out.setCell (p := ⟨v13.heap.size, 0, none⟩) hJ _).setCell (p := ⟨v13.heap.size, 1, none⟩) hJ _
                go_wp2
                clear c0 c1 c2 fz
                generalize ((v15.setCell ⟨v13.heap.size, 0, none⟩ (.int .i64 J0)).setCell ⟨v13.heap.size, 1, none⟩ (.int .i64 J1)) = v16 at *
                refine anyNext_last (anyC_done (by kernel_rfl) ?_)
                go_wp2
                go_meet
                case rel => exact ⟨v12.heap.size, v13.heap.size, rfl, rfl, RM16, RJ16, RA16, RB16, G1.out.trans (bb16.out.mono hzG)⟩
        · simp only [pickAll, pickAt, List.nil_append, List.cons_append, List.append_nil]
          have RA17 := Hid.mk7 (RA12.out.alloc (.cells #[.int .i64 0, .int .i64 0] 23))
          have RB17 := Hid.mk7 (RB12.out.alloc (.cells #[.int .i64 0, .int .i64 0] 23))
          have RJ17 : Hid (Rv (v12.alloc (.cells #[.int .i64 0, .int .i64 0] 23)) v12.heap.size (.int .i64 0) (.int .i64 0)) := Rv.new _ _ _
          have bb17 : Hid (RowKit.Below w1.heap.size w1 (v12.alloc (.cells #[.int .i64 0, .int .i64 0] 23))) := bb12.out.alloc bb12.out.size _
          have nAJ : z ≠ v12.heap.size := by have := RA12.out.lt; omega
          have nBJ : z + 1 ≠ v12.heap.size := by have := RB12.out.lt; omega
          have hJ := bb12.out.size
          go_wp2
          generalize (v12.alloc (.cells #[.int .i64 0, .int .i64 0] 23)) = v17 at *
          refine anyNext_mk ⟨⟨_, RA17.out, RB17.out⟩, rfl⟩ ?_
          refine anyC_pick1 6 (by kernel_rfl) (by kernel_rfl) ?_ 
          · simp only [pickAll, pickAt, List.nil_append, List.cons_append, List.append_nil]
            have RA18 := Hid.mk7 (RA17.out.alloc (.cells #[.int .i64 0, .int .i64 0] 23))
            have RB18 := Hid.mk7 (RB17.out.alloc (.cells #[.int .i64 0, .int .i64 0] 23))
            have RJ18 := Hid.mk7 (RJ17.out.alloc (.cells #[.int .i64 0, .int .i64 0] 23))
            have RM18 : Hid (Rv (v17.alloc (.cells #[.int .i64 0, .int .i64 0] 23)) v17.heap.size (.int .i64 0) (.int .i64 0)) := Rv.new _ _ _
            have bb18 : Hid (RowKit.Below w1.heap.size w1 (v17.alloc (.cells #[.int .i64 0, .int .i64 0] 23))) := bb17.out.alloc bb17.out.size _
            have nAM : z ≠ v17.heap.size := by have := RA17.out.lt; omega
            have nBM : z + 1 ≠ v17.heap.size := by have := RB17.out.lt; omega
            have hM := bb17.out.size
            have nMJ : v12.heap.size ≠ v17.heap.size := by have := RJ17.out.lt; omega
            go_wp2
            generalize (v17.alloc (.cells #[.int .i64 0, .int .i64 0] 23)) = v18 at *
            refine anyNext_mk ⟨⟨_, RA18.out, RB18.out⟩, rfl⟩ ?_
            refine anyC_pick1 8 (by kernel_rfl) (by kernel_rfl) ?_ 
            · simp only [pickAll, pickAt, List.nil_append, List.cons_append, List.append_nil]
              have c0 := RM18.out.c0
              have c1 := RM18.out.c1
              have fz := RM18.out.fz
              have cx := ((RM18.out.set (.int .i64 M0) (.int .i64 M1)))
              have c2 : (v18.setCell ⟨v17.heap.size, 0, none⟩ (.int .i64 M0)).cell? ⟨v17.heap.size, 1, none⟩ = some (.int .i64 0) := other_cell _ (by omega) c1
              clear cx
              have RA19 := Hid.mk7 ((RA18.out.other nAM 0 (.int .i64 M0)).other nAM 1 (.int .i64 M1))
              have RB19 := Hid.mk7 ((RB18.out.other nBM 0 (.int .i64 M0)).other nBM 1 (.int .i64 M1))
              have RM19 := Hid.mk7 (RM18.out.set (.int .i64 M0) (.int .i64 M1))
              have RJ19 := Hid.mk7 ((RJ18.out.other nMJ 0 (.int .i64 M0)).other nMJ 1 (.int .i64 M1))
              have bb19 : Hid (RowKit.Below w1.heap.size w1 ((v18.setCell ⟨v17.heap.size, 0, none⟩ (.int .i64 M0)).setCell ⟨v17.heap.size, 1, none⟩ (.int .i64 M1))) := (bb18.out.setCell (p := ⟨v17.heap.size, 0, none⟩) hM _).setCell (p := ⟨v17.heap.size, 1, none⟩) hM _
              go_wp2
              clear c0 c1 c2 fz
              generalize ((v18.setCell ⟨v17.heap.size, 0, none⟩ (.int .i64 M0)).setCell ⟨v17.heap.size, 1, none⟩ (.int .i64 M1)) = v19 at *
              refine anyNext_mk ⟨⟨_, RA19.out, RB19.out⟩, rfl⟩ ?_
              refine anyC_pick1 9 (by kernel_rfl) (by kernel_rfl) ?_ 
              · simp only [pickAll, pickAt, List.nil_append, List.cons_append, List.append_nil]
                have c0 := RJ19.out.c0
                have c1 := RJ19.out.c1
                have fz := RJ19.out.fz
                have cx := ((RJ19.out.set (.int .i64 J0) (.int .i64 J1)))
                have c2 : (v19.setCell ⟨v12.heap.size, 0, none⟩ (.int .i64 J0)).cell? ⟨v12.heap.size, 1, none⟩ = some (.int .i64 0) := other_cell _ (by omega) c1
                clear cx
                have RA20 := Hid.mk7 ((RA19.out.other nAJ 0 (.int .i64 J0)).other nAJ 1 (.int .i64 J1))
                have RB20 := Hid.mk7 ((RB19.out.other nBJ 0 (.int .i64 J0)).other nBJ 1 (.int .i64 J1))
                have RM20 := Hid.mk7 ((RM19.out.other (Ne.symm nMJ) 0 (.int .i64 J0)).other (Ne.symm nMJ) 1 (.int .i64 J1))
                have RJ20 := Hid.mk7 (RJ19.out.set (.int .i64 J0) (.int .i64 J1))
                have bb20 : Hid (RowKit.Below w1.heap.size w1 ((v19.setCell ⟨v12.heap.size, 0, none⟩ (.int .i64 J0)).setCell ⟨v12.heap.size, 1, none⟩ (.int .i64 J1))) := (bb19.out.setCell (p := ⟨v12.heap.size, 0, none⟩) hJ _).setCell (p := ⟨v12.heap.size, 1, none⟩) hJ _
                go_wp2
                clear c0 c1 c2 fz
                generalize ((v19.setCell ⟨v12.heap.size, 0, none⟩ (.int .i64 J0)).setCell ⟨v12.heap.size, 1, none⟩ (.int .i64 J1)) = v20 at *
                refine anyNext_last (anyC_done (by kernel_rfl) ?_)
                go_wp2
                go_meet
                case rel => exact ⟨v17.heap.size, v12.heap.size, rfl, rfl, RM20, RJ20, RA20, RB20, G1.out.trans (bb20.out.mono hzG)⟩
      · simp only [pickAll, pickAt, List.nil_append, List.cons_append, List.append_nil]
        have RA21 := Hid.mk7 (RA11.out.alloc (.cells #[.int .i64 0, .int .i64 0] 23))
        have RB21 := Hid.mk7 (RB11.out.alloc (.cells #[.int .i64 0, .int .i64 0] 23))
        have RM21 : Hid (Rv (v11.alloc (.cells #[.int .i64 0, .int .i64 0] 23)) v11.heap.size (.int .i64 0) (.int .i64 0)) := Rv.new _ _ _
        have bb21 : Hid (RowKit.Below w1.heap.size w1 (v11.alloc (.cells #[.int .i64 0, .int .i64 0] 23))) := bb11.out.alloc bb11.out.size _
        have nAM : z ≠ v11.heap.size := by have := RA11.out.lt; omega
        have nBM : z + 1 ≠ v11.heap.size := by have := RB11.out.lt; omega
        have hM := bb11.out.size
        go_wp2
        generalize (v11.alloc (.cells #[.int .i64 0, .int .i64 0] 23)) = v21 at *
        refine anyNext_mk ⟨⟨_, RA21.out, RB21.out⟩, rfl⟩ ?_
        refine anyC_pick2 5 7 (by kernel_rfl) (by kernel_rfl) (by kernel_rfl) ?_ ?_ 
        · simp only [pickAll, pickAt, List.nil_append, List.cons_append, List.append_nil]
          go_wp2_with fail
          refine (ijoin_v a b c d J0 J1 hJ0.out hJ1.out _).mono ?_
          rintro e v22 ⟨rfl, bz⟩
          have RA22 := Hid.mk7 (RA21.out.later bz)
          have RB22 := Hid.mk7 (RB21.out.later bz)
          have RM22 := Hid.mk7 (RM21.out.later bz)
          have bb22 : Hid (RowKit.Below w1.heap.size w1 v22) := bb21.out.trans (bz.mono bb21.out.size)
          clear bz
          go_wp2
          refine anyNext_mk ⟨⟨_, RA22.out, RB22.out⟩, rfl⟩ ?_
          refine anyC_pick1 7 (by kernel_rfl) (by kernel_rfl) ?_ 
          · simp only [pickAll, pickAt, List.nil_append, List.cons_append, List.append_nil]
            have RA23 := Hid.mk7 (RA22.out.alloc (.cells #[.int .i64 0, .int .i64 0] 23))
            have RB23 := Hid.mk7 (RB22.out.alloc (.cells #[.int .i64 0, .int .i64 0] 23))
            have RM23 := Hid.mk7 (RM22.out.alloc (.cells #[.int .i64 0, .int .i64 0] 23))
            have RJ23 : Hid (Rv (v22.alloc (.cells #[.int .i64 0, .int .i64 0] 23)) v22.heap.size (.int .i64 0) (.int .i64 0)) := Rv.new _ _ _
            have bb23 : Hid (RowKit.Below w1.heap.size w1 (v22.alloc (.cells #[.int .i64 0, .int .i64 0] 23))) := bb22.out.alloc bb22.out.size _
            have nAJ : z ≠ v22.heap.size := by have := RA22.out.lt; omega
            have nBJ : z + 1 ≠ v22.heap.size := by have := RB22.out.lt; omega
            have hJ := bb22.out.size
            have nMJ : v11.heap.size ≠ v22.heap.size := by have := RM22.out.lt; omega
            go_wp2
            generalize (v22.alloc (.cells #[.int .i64 0, .int .i64 0] 23)) = v23 at *
            refine anyNext_mk ⟨⟨_, RA23.out, RB23.out⟩, rfl⟩ ?_
            refine anyC_pick1 8 (by kernel_rfl) (by kernel_rfl) ?_ 
            · simp only [pickAll, pickAt, List.nil_append, List.cons_append, List.append_nil]
              have c0 := RM23.out.c0
              have c1 := RM23.out.c1
              have fz := RM23.out.fz
              have cx := ((RM23.out.set (.int .i64 M0) (.int .i64 M1)))
              have c2 : (v23.setCell ⟨v11.heap.size, 0, none⟩ (.int .i64 M0)).cell? ⟨v11.heap.size, 1, none⟩ = some (.int .i64 0) := other_cell _ (by omega) c1
              clear cx
              have RA24 := Hid.mk7 ((RA23.out.other nAM 0 (.int .i64 M0)).other nAM 1 (.int .i64 M1))
              have RB24 := Hid.mk7 ((RB23.out.other nBM 0 (.int .i64 M0)).other nBM 1 (.int .i64 M1))
              have RM24 := Hid.mk7 (RM23.out.set (.int .i64 M0) (.int .i64 M1))
              have RJ24 := Hid.mk7 ((RJ23.out.other (Ne.symm nMJ) 0 (.int .i64 M0)).other (Ne.symm nMJ) 1 (.int .i64 M1))
              have bb24 : Hid (RowKit.Below w1.heap.size w1 ((v23.setCell ⟨v11.heap.size, 0, none⟩ (.int .i64 M0)).setCell ⟨v11.heap.size, 1, none⟩ (.int .i64 M1))) := (bb23.out.setCell (p := ⟨v11.heap.size, 0, none⟩) hM _).setCell (p := ⟨v11.heap.size, 1, none⟩) hM _
              go_wp2
              clear c0 c1 c2 fz
              generalize ((v23.setCell ⟨v11.heap.size, 0, none⟩ (.int .i64 M0)).setCell ⟨v11.heap.size, 1, none⟩ (.int .i64 M1)) = v24 at *
              refine anyNext_mk ⟨⟨_, RA24.out, RB24.out⟩, rfl⟩ ?_
              refine anyC_pick1 9 (by kernel_rfl) (by kernel_rfl) ?_ 
              · simp only [pickAll, pickAt, List.nil_append, List.cons_append, List.append_nil]
                have c0 := RJ24.out.c0
                have c1 := RJ24.out.c1
                have fz := RJ24.out.fz
                have cx := ((RJ24.out.set (.int .i64 J0) (.int .i64 J1)))
                have c2 : (v24.setCell ⟨v22.heap.size, 0, none⟩ (.int .i64 J0)).cell? ⟨v22.heap.size, 1, none⟩ = some (.int .i64 0) := other_cell _ (by omega) c1
                clear cx
                have RA25 := Hid.mk7 ((RA24.out.other nAJ 0 (.int .i64 J0)).other nAJ 1 (.int .i64 J1))
                have RB25 := Hid.mk7 ((RB24.out.other nBJ 0 (.int .i64 J0)).other nBJ 1 (.int .i64 J1))
                have RM25 := Hid.mk7 ((RM24.out.other nMJ 0 (.int .i64 J0)).other nMJ 1 (.int .i64 J1))
                have RJ25 := Hid.mk7 (RJ24.out.set (.int .i64 J0) (.int .i64 J1))
                have bb25 : Hid (RowKit.Below w1.heap.size w1 ((v24.setCell ⟨v22.heap.size, 0, none⟩ (.int .i64 J0)).setCell ⟨v22.heap.size, 1, none⟩ (.int .i64 J1))) := (bb24.out.setCell (p := ⟨v22.heap.size, 0, none⟩) hJ _).setCell (p := ⟨v22.heap.size, 1, none⟩) hJ _
                go_wp2
                clear c0 c1 c2 fz
                generalize ((v24.setCell ⟨v22.heap.size, 0, none⟩ (.int .i64 J0)).setCell ⟨v22.heap.size, 1, none⟩ (.int .i64 J1)) = v25 at *
                refine anyNext_last (anyC_done (by kernel_rfl) ?_)
                go_wp2
                go_meet
                case rel => exact ⟨v11.heap.size, v22.heap.size, rfl, rfl, RM25, RJ25, RA25, RB25, G1.out.trans (bb25.out.mono hzG)⟩
        · simp only [pickAll, pickAt, List.nil_append, List.cons_append, List.append_nil]
          have RA26 := Hid.mk7 (RA21.out.alloc (.cells #[.int .i64 0, .int .i64 0] 23))
          have RB26 := Hid.mk7 (RB21.out.alloc (.cells #[.int .i64 0, .int .i64 0] 23))
          have RM26 := Hid.mk7 (RM21.out.alloc (.cells #[.int .i64 0, .int .i64 0] 23))
          have RJ26 : Hid (Rv (v21.alloc (.cells #[.int .i64 0, .int .i64 0] 23)) v21.heap.size (.int .i64 0) (.int .i64 0)) := Rv.new _ _ _
          have bb26 : Hid (RowKit.Below w1.heap.size w1 (v21.alloc (.cells #[.int .i64 0, .int .i64 0] 23))) := bb21.out.alloc bb21.out.size _
          have nAJ : z ≠ v21.heap.size := by have := RA21.out.lt; omega
          have nBJ : z + 1 ≠ v21.heap.size := by have := RB21.out.lt; omega
          have hJ := bb21.out.size
          have nMJ : v11.heap.size ≠ v21.heap.size := by have := RM21.out.lt; omega
          go_wp2
          generalize (v21.alloc (.cells #[.int .i64 0, .int .i64 0] 23)) = v26 at *
          refine anyNext_mk ⟨⟨_, RA26.out, RB26.out⟩, rfl⟩ ?_
          refine anyC_pick1 5 (by kernel_rfl) (by kernel_rfl) ?_ 
          · simp only [pickAll, pickAt, List.nil_append, List.cons_append, List.append_nil]
            go_wp2_with fail
            refine (ijoin_v a b c d J0 J1 hJ0.out hJ1.out _).mono ?_
            rintro e v27 ⟨rfl, bz⟩
            have RA27 := Hid.mk7 (RA26.out.later bz)
            have RB27 := Hid.mk7 (RB26.out.later bz)
            have RM27 := Hid.mk7 (RM26.out.later bz)
            have RJ27 := Hid.mk7 (RJ26.out.later bz)
            have bb27 : Hid (RowKit.Below w1.heap.size w1 v27) := bb26.out.trans (bz.mono bb26.out.size)
            clear bz
            go_wp2
            refine anyNext_mk ⟨⟨_, RA27.out, RB27.out⟩, rfl⟩ ?_
            refine anyC_pick1 8 (by kernel_rfl) (by kernel_rfl) ?_ 
            · simp only [pickAll, pickAt, List.nil_append, List.cons_append, List.append_nil]
              have c0 := RM27.out.c0
              have c1 := RM27.out.c1
              have fz := RM27.out.fz
              have cx := ((RM27.out.set (.int .i64 M0) (.int .i64 M1)))
              have c2 : (v27.setCell ⟨v11.heap.size, 0, none⟩ (.int .i64 M0)).cell? ⟨v11.heap.size, 1, none⟩ = some (.int .i64 0) := other_cell _ (by omega) c1
              clear cx
              have RA28 := Hid.mk7 ((RA27.out.other nAM 0 (.int .i64 M0)).other nAM 1 (.int .i64 M1))
              have RB28 := Hid.mk7 ((RB27.out.other nBM 0 (.int .i64 M0)).other nBM 1 (.int .i64 M1))
              have RM28 := Hid.mk7 (RM27.out.set (.int .i64 M0) (.int .i64 M1))
              have RJ28 := Hid.mk7 ((RJ27.out.other (Ne.symm nMJ) 0 (.int .i64 M0)).other (Ne.symm nMJ) 1 (.int .i64 M1))
              have bb28 : Hid (RowKit.Below w1.heap.size w1 ((v27.setCell ⟨v11.heap.size, 0, none⟩ (.int .i64 M0)).setCell ⟨v11.heap.size, 1, none⟩ (.int .i64 M1))) := (bb27.out.setCell (p := ⟨v11.heap.size, 0, none⟩) hM _).setCell (p := ⟨v11.heap.size, 1, none⟩) hM _
              go_wp2
              clear c0 c1 c2 fz
              generalize ((v27.setCell ⟨v11.heap.size, 0, none⟩ (.int .i64 M0)).setCell ⟨v11.heap.size, 1, none⟩ (.int .i64 M1)) = v28 at *
              refine anyNext_mk ⟨⟨_, RA28.out, RB28.out⟩, rfl⟩ ?_
              refine anyC_pick1 9 (by kernel_rfl) (by kernel_rfl) ?_ 
              · simp only [pickAll, pickAt, List.nil_append, List.cons_append, List.append_nil]
                have c0 := RJ28.out.c0
                have c1 := RJ28.out.c1
                have fz := RJ28.out.fz
                have cx := ((RJ28.out.set (.int .i64 J0) (.int .i64 J1)))
                have c2 : (v28.setCell ⟨v21.heap.size, 0, none⟩ (.int .i64 J0)).cell? ⟨v21.heap.size, 1, none⟩ = some (.int .i64 0) := other_cell _ (by omega) c1
                clear cx
                have RA29 := Hid.mk7 ((RA28.out.other nAJ 0 (.int .i64 J0)).other nAJ 1 (.int .i64 J1))
                have RB29 := Hid.mk7 ((RB28.out.other nBJ 0 (.int .i64 J0)).other nBJ 1 (.int .i64 J1))
                have RM29 := Hid.mk7 ((RM28.out.other nMJ 0 (.int .i64 J0)).other nMJ 1 (.int .i64 J1))
                have RJ29 := Hid.mk7 (RJ28.out.set (.int .i64 J0) (.int .i64 J1))
                have bb29 : Hid (RowKit.Below w1.heap.size w1 ((v28.setCell ⟨v21.heap.size, 0, none⟩ (.int .i64 J0)).setCell ⟨v21.heap.size, 1, none⟩ (.int .i64 J1))) := (bb28.out.setCell (p := ⟨v21.heap.size, 0, none⟩) hJ _).setCell (p := ⟨v21.heap.size, 1, none⟩) hJ _
                go_wp2
                clear c0 c1 c2 fz
                generalize ((v28.setCell ⟨v21.heap.size, 0, none⟩ (.int .i64 J0)).setCell ⟨v21.heap.size, 1, none⟩ (.int .i64 J1)) = v29 at *
                refine anyNext_last (anyC_done (by kernel_rfl) ?_)
                go_wp2
                go_meet
                case rel => exact ⟨v11.heap.size, v21.heap.size, rfl, rfl, RM29, RJ29, RA29, RB29, G1.out.trans (bb29.out.mono hzG)⟩
      · simp only [pickAll, pickAt, List.nil_append, List.cons_append, List.append_nil]
        have RA30 := Hid.mk7 (RA11.out.alloc (.cells #[.int .i64 0, .int .i64 0] 23))
        have RB30 := Hid.mk7 (RB11.out.alloc (.cells #[.int .i64 0, .int .i64 0] 23))
        have RJ30 : Hid (Rv (v11.alloc (.cells #[.int .i64 0, .int .i64 0] 23)) v11.heap.size (.int .i64 0) (.int .i64 0)) := Rv.new _ _ _
        have bb30 : Hid (RowKit.Below w1.heap.size w1 (v11.alloc (.cells #[.int .i64 0, .int .i64 0] 23))) := bb11.out.alloc bb11.out.size _
        have nAJ : z ≠ v11.heap.size := by have := RA11.out.lt; omega
        have nBJ : z + 1 ≠ v11.heap.size := by have := RB11.out.lt; omega
        have hJ := bb11.out.size
        go_wp2
        generalize (v11.alloc (.cells #[.int .i64 0, .int .i64 0] 23)) = v30 at *
        refine anyNext_mk ⟨⟨_, RA30.out, RB30.out⟩, rfl⟩ ?_
        refine anyC_pick2 5 6 (by kernel_rfl) (by kernel_rfl) (by kernel_rfl) ?_ ?_ 
        · simp only [pickAll, pickAt, List.nil_append, List.cons_append, List.append_nil]
          go_wp2_with fail
          refine (ijoin_v a b c d J0 J1 hJ0.out hJ1.out _).mono ?_
          rintro e v31 ⟨rfl, bz⟩
          have RA31 := Hid.mk7 (RA30.out.later bz)
          have RB31 := Hid.mk7 (RB30.out.later bz)
          have RJ31 := Hid.mk7 (RJ30.out.later bz)
          have bb31 : Hid (RowKit.Below w1.heap.size w1 v31) := bb30.out.trans (bz.mono bb30.out.size)
          clear bz
          go_wp2
          refine anyNext_mk ⟨⟨_, RA31.out, RB31.out⟩, rfl⟩ ?_
          refine anyC_pick1 6 (by kernel_rfl) (by kernel_rfl) ?_ 
          · simp only [pickAll, pickAt, List.nil_append, List.cons_append, List.append_nil]
            have RA32 := Hid.mk7 (RA31.out.alloc (.cells #[.int .i64 0, .int .i64 0] 23))
            have RB32 := Hid.mk7 (RB31.out.alloc (.cells #[.int .i64 0, .int .i64 0] 23))
            have RJ32 := Hid.mk7 (RJ31.out.alloc (.cells #[.int .i64 0, .int .i64 0] 23))
            have RM32 : Hid (Rv (v31.alloc (.cells #[.int .i64 0, .int .i64 0] 23)) v31.heap.size (.int .i64 0) (.int .i64 0)) := Rv.new _ _ _
            have bb32 : Hid (RowKit.Below w1.heap.size w1 (v31.alloc (.cells #[.int .i64 0, .int .i64 0] 23))) := bb31.out.alloc bb31.out.size _
            have nAM : z ≠ v31.heap.size := by have := RA31.out.lt; omega
            have nBM : z + 1 ≠ v31.heap.size := by have := RB31.out.lt; omega
            have hM := bb31.out.size
            have nMJ : v11.heap.size ≠ v31.heap.size := by have := RJ31.out.lt; omega
            go_wp2
            generalize (v31.alloc (.cells #[.int .i64 0, .int .i64 0] 23)) = v32 at *
            refine anyNext_mk ⟨⟨_, RA32.out, RB32.out⟩, rfl⟩ ?_
            refine anyC_pick1 8 (by kernel_rfl) (by kernel_rfl) ?_ 
            · simp only [pickAll, pickAt, List.nil_append, List.cons_append, List.append_nil]
              have c0 := RM32.out.c0
              have c1 := RM32.out.c1
              have fz := RM32.out.fz
              have cx := ((RM32.out.set (.int .i64 M0) (.int .i64 M1)))
              have c2 : (v32.setCell ⟨v31.heap.size, 0, none⟩ (.int .i64 M0)).cell? ⟨v31.heap.size, 1, none⟩ = some (.int .i64 0) := other_cell _ (by omega) c1
              clear cx
              have RA33 := Hid.mk7 ((RA32.out.other nAM 0 (.int .i64 M0)).other nAM 1 (.int .i64 M1))
              have RB33 := Hid.mk7 ((RB32.out.other nBM 0 (.int .i64 M0)).other nBM 1 (.int .i64 M1))
              have RM33 := Hid.mk7 (RM32.out.set (.int .i64 M0) (.int .i64 M1))
              have RJ33 := Hid.mk7 ((RJ32.out.other nMJ 0 (.int .i64 M0)).other nMJ 1 (.int .i64 M1))
              have bb33 : Hid (RowKit.Below w1.heap.size w1 ((v32.setCell ⟨v31.heap.size, 0, none⟩ (.int .i64 M0)).setCell ⟨v31.heap.size, 1, none⟩ (.int .i64 M1))) := (bb32.out.setCell (p := ⟨v31.heap.size, 0, none⟩) hM _).setCell (p := ⟨v31.heap.size, 1, none⟩) hM _
              go_wp2
              clear c0 c1 c2 fz
              generalize ((v32.setCell ⟨v31.heap.size, 0, none⟩ (.int .i64 M0)).setCell ⟨v31.heap.size, 1, none⟩ (.int .i64 M1)) = v33 at *
              refine anyNext_mk ⟨⟨_, RA33.out, RB33.out⟩, rfl⟩ ?_
              refine anyC_pick1 9 (by kernel_rfl) (by kernel_rfl) ?_ 
              · simp only [pickAll, pickAt, List.nil_append, List.cons_append, List.append_nil]
                have c0 := RJ33.out.c0
                have c1 := RJ33.out.c1
                have fz := RJ33.out.fz
                have cx := ((RJ33.out.set (.int .i64 J0) (.int .i64 J1)))
                have c2 : (v33.setCell ⟨v11.heap.size, 0, none⟩ (.int .i64 J0)).cell? ⟨v11.heap.size, 1, none⟩ = some (.int .i64 0) := other_cell _ (by omega) c1
                clear cx
                have RA34 := Hid.mk7 ((RA33.out.other nAJ 0 (.int .i64 J0)).other nAJ 1 (.int .i64 J1))
                have RB34 := Hid.mk7 ((RB33.out.other nBJ 0 (.int .i64 J0)).other nBJ 1 (.int .i64 J1))
                have RM34 := Hid.mk7 ((RM33.out.other (Ne.symm nMJ) 0 (.int .i64 J0)).other (Ne.symm nMJ) 1 (.int .i64 J1))
                have RJ34 := Hid.mk7 (RJ33.out.set (.int .i64 J0) (.int .i64 J1))
                have bb34 : Hid (RowKit.Below w1.heap.size w1 ((v33.setCell ⟨v11.heap.size, 0, none⟩ (.int .i64 J0)).setCell ⟨v11.heap.size, 1, none⟩ (.int .i64 J1))) := (bb33.out.setCell (p := ⟨v11.heap.size, 0, none⟩) hJ _).setCell (p := ⟨v11.heap.size, 1, none⟩) hJ _
                go_wp2
                clear c0 c1 c2 fz
                generalize ((v33.setCell ⟨v11.heap.size, 0, none⟩ (.int .i64 J0)).setCell ⟨v11.heap.size, 1, none⟩ (.int .i64 J1)) = v34 at *
                refine anyNext_last (anyC_done (by kernel_rfl) ?_)
                go_wp2
                go_meet
                case rel => exact ⟨v31.heap.size, v11.heap.size, rfl, rfl, RM34, RJ34, RA34, RB34, G1.out.trans (bb34.out.mono hzG)⟩
        · simp only [pickAll, pickAt, List.nil_append, List.cons_append, List.append_nil]
          have RA35 := Hid.mk7 (RA30.out.alloc (.cells #[.int .i64 0, .int .i64 0] 23))
          have RB35 := Hid.mk7 (RB30.out.alloc (.cells #[.int .i64 0, .int .i64 0] 23))
          have RJ35 := Hid.mk7 (RJ30.out.alloc (.cells #[.int .i64 0, .int .i64 0] 23))
          have RM35 : Hid (Rv (v30.alloc (.cells #[.int .i64 0, .int .i64 0] 23)) v30.heap.size (.int .i64 0) (.int .i64 0)) := Rv.new _ _ _
          have bb35 : Hid (RowKit.Below w1.heap.size w1 (v30.alloc (.cells #[.int .i64 0, .int .i64 0] 23))) := bb30.out.alloc bb30.out.size _
          have nAM : z ≠ v30.heap.size := by have := RA30.out.lt; omega
          have nBM : z + 1 ≠ v30.heap.size := by have := RB30.out.lt; omega
          have hM := bb30.out.size
          have nMJ : v11.heap.size ≠ v30.heap.size := by have := RJ30.out.lt; omega
          go_wp2
          generalize (v30.alloc (.cells #[.int .i64 0, .int .i64 0] 23)) = v35 at *
          refine anyNext_mk ⟨⟨_, RA35.out, RB35.out⟩, rfl⟩ ?_
          refine anyC_pick1 5 (by kernel_rfl) (by kernel_rfl) ?_ 
          · simp only [pickAll, pickAt, List.nil_append, List.cons_append, List.append_nil]
            go_wp2_with fail
            refine (ijoin_v a b c d J0 J1 hJ0.out hJ1.out _).mono ?_
            rintro e v36 ⟨rfl, bz⟩
            have RA36 := Hid.mk7 (RA35.out.later bz)
            have RB36 := Hid.mk7 (RB35.out.later bz)
            have RM36 := Hid.mk7 (RM35.out.later bz)
            have RJ36 := Hid.mk7 (RJ35.out.later bz)
            have bb36 : Hid (RowKit.Below w1.heap.size w1 v36) := bb35.out.trans (bz.mono bb35.out.size)
            clear bz
            go_wp2
            refine anyNext_mk ⟨⟨_, RA36.out, RB36.out⟩, rfl⟩ ?_
            refine anyC_pick1 8 (by kernel_rfl) (by kernel_rfl) ?_ 
            · simp only [pickAll, pickAt, List.nil_append, List.cons_append, List.append_nil]
              have c0 := RM36.out.c0
              have c1 := RM36.out.c1
              have fz := RM36.out.fz
              have cx := ((RM36.out.set (.int .i64 M0) (.int .i64 M1)))
              have c2 : (v36.setCell ⟨v30.heap.size, 0, none⟩ (.int .i64 M0)).cell? ⟨v30.heap.size, 1, none⟩ = some (.int .i64 0) := other_cell _ (by omega) c1
              clear cx
              have RA37 := Hid.mk7 ((RA36.out.other nAM 0 (.int .i64 M0)).other nAM 1 (.int .i64 M1))
              have RB37 := Hid.mk7 ((RB36.out.other nBM 0 (.int .i64 M0)).other nBM 1 (.int .i64 M1))
              have RM37 := Hid.mk7 (RM36.out.set (.int .i64 M0) (.int .i64 M1))
              have RJ37 := Hid.mk7 ((RJ36.out.other nMJ 0 (.int .i64 M0)).other nMJ 1 (.int .i64 M1))
              have bb37 : Hid (RowKit.Below w1.heap.size w1 ((v36.setCell ⟨v30.heap.size, 0, none⟩ (.int .i64 M0)).setCell ⟨v30.heap.size, 1, none⟩ (.int .i64 M1))) := (bb36.out.setCell (p := ⟨v30.heap.size, 0, none⟩) hM _).setCell (p := ⟨v30.heap.size, 1, none⟩) hM _
              go_wp2
              clear c0 c1 c2 fz
              generalize ((v36.setCell ⟨v30.heap.size, 0, none⟩ (.int .i64 M0)).setCell ⟨v30.heap.size, 1, none⟩ (.int .i64 M1)) = v37 at *
              refine anyNext_mk ⟨⟨_, RA37.out, RB37.out⟩, rfl⟩ ?_
              refine anyC_pick1 9 (by kernel_rfl) (by kernel_rfl) ?_ 
              · simp only [pickAll, pickAt, List.nil_append, List.cons_append, List.append_nil]
                have c0 := RJ37.out.c0
                have c1 := RJ37.out.c1
                have fz := RJ37.out.fz
                have cx := ((RJ37.out.set (.int .i64 J0) (.int .i64 J1)))
                have c2 : (v37.setCell ⟨v11.heap.size, 0, none⟩ (.int .i64 J0)).cell? ⟨v11.heap.size, 1, none⟩ = some (.int .i64 0) := other_cell _ (by omega) c1
                clear cx
                have RA38 := Hid.mk7 ((RA37.out.other nAJ 0 (.int .i64 J0)).other nAJ 1 (.int .i64 J1))
                have RB38 := Hid.mk7 ((RB37.out.other nBJ 0 (.int .i64 J0)).other nBJ 1 (.int .i64 J1))
                have RM38 := Hid.mk7 ((RM37.out.other (Ne.symm nMJ) 0 (.int .i64 J0)).other (Ne.symm nMJ) 1 (.int .i64 J1))
                have RJ38 := Hid.mk7 (RJ37.out.set (.int .i64 J0) (.int .i64 J1))
                have bb38 : Hid (RowKit.Below w1.heap.size w1 ((v37.setCell ⟨v11.heap.size, 0, none⟩ (.int .i64 J0)).setCell ⟨v11.heap.size, 1, none⟩ (.int .i64 J1))) := (bb37.out.setCell (p := ⟨v11.heap.size, 0, none⟩) hJ _).setCell (p := ⟨v11.heap.size, 1, none⟩) hJ _
                go_wp2
                clear c0 c1 c2 fz
                generalize ((v37.setCell ⟨v11.heap.size, 0, none⟩ (.int .i64 J0)).setCell ⟨v11.heap.size, 1, none⟩ (.int .i64 J1)) = v38 at *
                refine anyNext_last (anyC_done (by kernel_rfl) ?_)
                go_wp2
                go_meet
                case rel => exact ⟨v30.heap.size, v11.heap.size, rfl, rfl, RM38, RJ38, RA38, RB38, G1.out.trans (bb38.out.mono hzG)⟩
    · simp only [pickAll, pickAt, List.nil_append, List.cons_append, List.append_nil]
      have RA39 := Hid.mk7 (RA2.out.alloc (.cells #[.int .i64 0, .int .i64 0] 23))
      have RB39 := Hid.mk7 (RB2.out.alloc (.cells #[.int .i64 0, .int .i64 0] 23))
      have RM39 : Hid (Rv (v2.alloc (.cells #[.int .i64 0, .int .i64 0] 23)) v2.heap.size (.int .i64 0) (.int .i64 0)) := Rv.new _ _ _
      have bb39 : Hid (RowKit.Below w1.heap.size w1 (v2.alloc (.cells #[.int .i64 0, .int .i64 0] 23))) := bb2.out.alloc bb2.out.size _
      have nAM : z ≠ v2.heap.size := by have := RA2.out.lt; omega
      have nBM : z + 1 ≠ v2.heap.size := by have := RB2.out.lt; omega
      have hM := bb2.out.size
      go_wp2
      generalize (v2.alloc (.cells #[.int .i64 0, .int .i64 0] 23)) = v39 at *
      refine anyNext_mk ⟨⟨_, RA39.out, RB39.out⟩, rfl⟩ ?_
      refine anyC_pick2 2 7 (by kernel_rfl) (by kernel_rfl) (by kernel_rfl) ?_ ?_ 
      · simp only [pickAll, pickAt, List.nil_append, List.cons_append, List.append_nil]
        go_wp2_with fail
        refine (imeet_v a b c d M0 M1 hM0.out hM1.out _).mono ?_
        rintro e v40 ⟨rfl, bz⟩
        have RA40 := Hid.mk7 (RA39.out.later bz)
        have RB40 := Hid.mk7 (RB39.out.later bz)
        have RM40 := Hid.mk7 (RM39.out.later bz)
        have bb40 : Hid (RowKit.Below w1.heap.size w1 v40) := bb39.out.trans (bz.mono bb39.out.size)
        clear bz
        go_wp2
        refine anyNext_mk ⟨⟨_, RA40.out, RB40.out⟩, rfl⟩ ?_
        refine anyC_pick2 5 7 (by kernel_rfl) (by kernel_rfl) (by kernel_rfl) ?_ ?_ 
        · simp only [pickAll, pickAt, List.nil_append, List.cons_append, List.append_nil]
          go_wp2_with fail
          refine (ijoin_v a b c d J0 J1 hJ0.out hJ1.out _).mono ?_
          rintro e v41 ⟨rfl, bz⟩
          have RA41 := Hid.mk7 (RA40.out.later bz)
          have RB41 := Hid.mk7 (RB40.out.later bz)
          have RM41 := Hid.mk7 (RM40.out.later bz)
          have bb41 : Hid (RowKit.Below w1.heap.size w1 v41) := bb40.out.trans (bz.mono bb40.out.size)
          clear bz
          go_wp2
          refine anyNext_mk ⟨⟨_, RA41.out, RB41.out⟩, rfl⟩ ?_
          refine anyC_pick1 7 (by kernel_rfl) (by kernel_rfl) ?_ 
          · simp only [pickAll, pickAt, List.nil_append, List.cons_append, List.append_nil]
            have RA42 := Hid.mk7 (RA41.out.alloc (.cells #[.int .i64 0, .int .i64 0] 23))
            have RB42 := Hid.mk7 (RB41.out.alloc (.cells #[.int .i64 0, .int .i64 0] 23))
            have RM42 := Hid.mk7 (RM41.out.alloc (.cells #[.int .i64 0, .int .i64 0] 23))
            have RJ42 : Hid (Rv (v41.alloc (.cells #[.int .i64 0, .int .i64 0] 23)) v41.heap.size (.int .i64 0) (.int .i64 0)) := Rv.new _ _ _
            have bb42 : Hid (RowKit.Below w1.heap.size w1 (v41.alloc (.cells #[.int .i64 0, .int .i64 0] 23))) := bb41.out.alloc bb41.out.size _
            have nAJ : z ≠ v41.heap.size := by have := RA41.out.lt; omega
            have nBJ : z + 1 ≠ v41.heap.size := by have := RB41.out.lt; omega
            have hJ := bb41.out.size
            have nMJ : v2.heap.size ≠ v41.heap.size := by have := RM41.out.lt; omega
            go_wp2
            generalize (v41.alloc (.cells #[.int .i64 0, .int .i64 0] 23)) = v42 at *
            refine anyNext_mk ⟨⟨_, RA42.out, RB42.out⟩, rfl⟩ ?_
            refine anyC_pick1 8 (by kernel_rfl) (by kernel_rfl) ?_ 
            · simp only [pickAll, pickAt, List.nil_append, List.cons_append, List.append_nil]
              have c0 := RM42.out.c0
              have c1 := RM42.out.c1
              have fz := RM42.out.fz
              have cx := ((RM42.out.set (.int .i64 M0) (.int .i64 M1)))
              have c2 : (v42.setCell ⟨v2.heap.size, 0, none⟩ (.int .i64 M0)).cell? ⟨v2.heap.size, 1, none⟩ = some (.int .i64 0) := other_cell _ (by omega) c1
              clear cx
              have RA43 := Hid.mk7 ((RA42.out.other nAM 0 (.int .i64 M0)).other nAM 1 (.int .i64 M1))
              have RB43 := Hid.mk7 ((RB42.out.other nBM 0 (.int .i64 M0)).other nBM 1 (.int .i64 M1))
              have RM43 := Hid.mk7 (RM42.out.set (.int .i64 M0) (.int .i64 M1))
              have RJ43 := Hid.mk7 ((RJ42.out.other (Ne.symm nMJ) 0 (.int .i64 M0)).other (Ne.symm nMJ) 1 (.int .i64 M1))
              have bb43 : Hid (RowKit.Below w1.heap.size w1 ((v42.setCell ⟨v2.heap.size, 0, none⟩ (.int .i64 M0)).setCell ⟨v2.heap.size, 1, none⟩ (.int .i64 M1))) := (bb42.out.setCell (p := ⟨v2.heap.size, 0, none⟩) hM _).setCell (p := ⟨v2.heap.size, 1, none⟩) hM _
              go_wp2
              clear c0 c1 c2 fz
              generalize ((v42.setCell ⟨v2.heap.size, 0, none⟩ (.int .i64 M0)).setCell ⟨v2.heap.size, 1, none⟩ (.int .i64 M1)) = v43 at *
              refine anyNext_mk ⟨⟨_, RA43.out, RB43.out⟩, rfl⟩ ?_
              refine anyC_pick1 9 (by kernel_rfl) (by kernel_rfl) ?_ 
              · simp only [pickAll, pickAt, List.nil_append, List.cons_append, List.append_nil]
                have c0 := RJ43.out.c0
                have c1 := RJ43.out.c1
                have fz := RJ43.out.fz
                have cx := ((RJ43.out.set (.int .i64 J0) (.int .i64 J1)))
                have c2 : (v43.setCell ⟨v41.heap.size, 0, none⟩ (.int .i64 J0)).cell? ⟨v41.heap.size, 1, none⟩ = some (.int .i64 0) := other_cell _ (by omega) c1
                clear cx
                have RA44 := Hid.mk7 ((RA43.out.other nAJ 0 (.int .i64 J0)).other nAJ 1 (.int .i64 J1))
                have RB44 := Hid.mk7 ((RB43.out.other nBJ 0 (.int .i64 J0)).other nBJ 1 (.int .i64 J1))
                have RM44 := Hid.mk7 ((RM43.out.other nMJ 0 (.int .i64 J0)).other nMJ 1 (.int .i64 J1))
                have RJ44 := Hid.mk7 (RJ43.out.set (.int .i64 J0) (.int .i64 J1))
                have bb44 : Hid (RowKit.Below w1.heap.size w1 ((v43.setCell ⟨v41.heap.size, 0, none⟩ (.int .i64 J0)).setCell ⟨v41.heap.size, 1, none⟩ (.int .i64 J1))) := (bb43.out.setCell (p := ⟨v41.heap.size, 0, none⟩) hJ _).setCell (p := ⟨v41.heap.size, 1, none⟩) hJ _
                go_wp2
                clear c0 c1 c2 fz
                generalize ((v43.setCell ⟨v41.heap.size, 0, none⟩ (.int .i64 J0)).setCell ⟨v41.heap.size, 1, none⟩ (.int .i64 J1)) = v44 at *
                refine anyNext_last (anyC_done (by kernel_rfl) ?_)
                go_wp2
                go_meet
                case rel => exact ⟨v2.heap.size, v41.heap.size, rfl, rfl, RM44, RJ44, RA44, RB44, G1.out.trans (bb44.out.mono hzG)⟩
        · simp only [pickAll, pickAt, List.nil_append, List.cons_append, List.append_nil]
          have RA45 := Hid.mk7 (RA40.out.alloc (.cells #[.int .i64 0, .int .i64 0] 23))
          have RB45 := Hid.mk7 (RB40.out.alloc (.cells #[.int .i64 0, .int .i64 0] 23))
          have RM45 := Hid.mk7 (RM40.out.alloc (.cells #[.int .i64 0, .int .i64 0] 23))
          have RJ45 : Hid (Rv (v40.alloc (.cells #[.int .i64 0, .int .i64 0] 23)) v40.heap.size (.int .i64 0) (.int .i64 0)) := Rv.new _ _ _
          have bb45 : Hid (RowKit.Below w1.heap.size w1 (v40.alloc (.cells #[.int .i64 0, .int .i64 0] 23))) := bb40.out.alloc bb40.out.size _
          have nAJ : z ≠ v40.heap.size := by have := RA40.out.lt; omega
          have nBJ : z + 1 ≠ v40.heap.size := by have := RB40.out.lt; omega
          have hJ := bb40.out.size
          have nMJ : v2.heap.size ≠ v40.heap.size := by have := RM40.out.lt; omega
          go_wp2
          generalize (v40.alloc (.cells #[.int .i64 0, .int .i64 0] 23)) = v45 at *
          refine anyNext_mk ⟨⟨_, RA45.out, RB45.out⟩, rfl⟩ ?_
          refine anyC_pick1 5 (by kernel_rfl) (by kernel_rfl) ?_ 
          · simp only [pickAll, pickAt, List.nil_append, List.cons_append, List.append_nil]
            go_wp2_with fail
            refine (ijoin_v a b c d J0 J1 hJ0.out hJ1.out _).mono ?_
            rintro e v46 ⟨rfl, bz⟩
            have RA46 := Hid.mk7 (RA45.out.later bz)
            have RB46 := Hid.mk7 (RB45.out.later bz)
            have RM46 := Hid.mk7 (RM45.out.later bz)
            have RJ46 := Hid.mk7 (RJ45.out.later bz)
            have bb46 : Hid (RowKit.Below w1.heap.size w1 v46) := bb45.out.trans (bz.mono bb45.out.size)
            clear bz
            go_wp2
            refine anyNext_mk ⟨⟨_, RA46.out, RB46.out⟩, rfl⟩ ?_
            refine anyC_pick1 8 (by kernel_rfl) (by kernel_rfl) ?_ 
            · simp only [pickAll, pickAt, List.nil_append, List.cons_append, List.append_nil]
              have c0 := RM46.out.c0
              have c1 := RM46.out.c1
              have fz := RM46.out.fz
              have cx := ((RM46.out.set (.int .i64 M0) (.int .i64 M1)))
              have c2 : (v46.setCell ⟨v2.heap.size, 0, none⟩ (.int .i64 M0)).cell? ⟨v2.heap.size, 1, none⟩ = some (.int .i64 0) := other_cell _ (by omega) c1
              clear cx
              have RA47 := Hid.mk7 ((RA46.out.other nAM 0 (.int .i64 M0)).other nAM 1 (.int .i64 M1))
              have RB47 := Hid.mk7 ((RB46.out.other nBM 0 (.int .i64 M0)).other nBM 1 (.int .i64 M1))
              have RM47 := Hid.mk7 (RM46.out.set (.int .i64 M0) (.int .i64 M1))
              have RJ47 := Hid.mk7 ((RJ46.out.other (Ne.symm nMJ) 0 (.int .i64 M0)).other (Ne.symm nMJ) 1 (.int .i64 M1))
              have bb47 : Hid (RowKit.Below w1.heap.size w1 ((v46.setCell ⟨v2.heap.size, 0, none⟩ (.int .i64 M0)).setCell ⟨v2.heap.size, 1, none⟩ (.int .i64 M1))) := (bb46.out.setCell (p := ⟨v2.heap.size, 0, none⟩) hM _).setCell (p := ⟨v2.heap.size, 1, none⟩) hM _
              go_wp2
              clear c0 c1 c2 fz
              generalize ((v46.setCell ⟨v2.heap.size, 0, none⟩ (.int .i64 M0)).setCell ⟨v2.heap.size, 1, none⟩ (.int .i64 M1)) = v47 at *
              refine anyNext_mk ⟨⟨_, RA47.out, RB47.out⟩, rfl⟩ ?_
              refine anyC_pick1 9 (by kernel_rfl) (by kernel_rfl) ?_ 
              · simp only [pickAll, pickAt, List.nil_append, List.cons_append, List.append_nil]
                have c0 := RJ47.out.c0
                have c1 := RJ47.out.c1
                have fz := RJ47.out.fz
                have cx := ((RJ47.out.set (.int .i64 J0) (.int .i64 J1)))
                have c2 : (v47.setCell ⟨v40.heap.size, 0, none⟩ (.int .i64 J0)).cell? ⟨v40.heap.size, 1, none⟩ = some (.int .i64 0) := other_cell _ (by omega) c1
                clear cx
                have RA48 := Hid.mk7 ((RA47.out.other nAJ 0 (.int .i64 J0)).other nAJ 1 (.int .i64 J1))
                have RB48 := Hid.mk7 ((RB47.out.other nBJ 0 (.int .i64 J0)).other nBJ 1 (.int .i64 J1))
                have RM48 := Hid.mk7 ((RM47.out.other nMJ 0 (.int .i64 J0)).other nMJ 1 (.int .i64 J1))
                have RJ48 := Hid.mk7 (RJ47.out.set (.int .i64 J0) (.int .i64 J1))
                have bb48 : Hid (RowKit.Below w1.heap.size w1 ((v47.setCell ⟨v40.heap.size, 0, none⟩ (.int .i64 J0)).setCell ⟨v40.heap.size, 1, none⟩ (.int .i64 J1))) := (bb47.out.setCell (p := ⟨v40.heap.size, 0, none⟩) hJ _).setCell (p := ⟨v40.heap.size, 1, none⟩) hJ _
                go_wp2
                clear c0 c1 c2 fz
                generalize ((v47.setCell ⟨v40.heap.size, 0, none⟩ (.int .i64 J0)).setCell ⟨v40.heap.size, 1, none⟩ (.int .i64 J1)) = v48 at *
                refine anyNext_last (anyC_done (by kernel_rfl) ?_)
                go_wp2
                go_meet
                case rel => exact ⟨v2.heap.size, v40.heap.size, rfl, rfl, RM48, RJ48, RA48, RB48, G1.out.trans (bb48.out.mono hzG)⟩
      · simp only [pickAll, pickAt, List.nil_append, List.cons_append, List.append_nil]
        have RA49 := Hid.mk7 (RA39.out.alloc (.cells #[.int .i64 0, .int .i64 0] 23))
        have RB49 := Hid.mk7 (RB39.out.alloc (.cells #[.int .i64 0, .int .i64 0] 23))
        have RM49 := Hid.mk7 (RM39.out.alloc (.cells #[.int .i64 0, .int .i64 0] 23))
        have RJ49 : Hid (Rv (v39.alloc (.cells #[.int .i64 0, .int .i64 0] 23)) v39.heap.size (.int .i64 0) (.int .i64 0)) := Rv.new _ _ _
        have bb49 : Hid (RowKit.Below w1.heap.size w1 (v39.alloc (.cells #[.int .i64 0, .int .i64 0] 23))) := bb39.out.alloc bb39.out.size _
        have nAJ : z ≠ v39.heap.size := by have := RA39.out.lt; omega
        have nBJ : z + 1 ≠ v39.heap.size := by have := RB39.out.lt; omega
        have hJ := bb39.out.size
        have nMJ : v2.heap.size ≠ v39.heap.size := by have := RM39.out.lt; omega
        go_wp2
        generalize (v39.alloc (.cells #[.int .i64 0, .int .i64 0] 23)) = v49 at *
        refine anyNext_mk ⟨⟨_, RA49.out, RB49.out⟩, rfl⟩ ?_
        refine anyC_pick1 2 (by kernel_rfl) (by kernel_rfl) ?_ 
        · simp only [pickAll, pickAt, List.nil_append, List.cons_append, List.append_nil]
          go_wp2_with fail
          refine (imeet_v a b c d M0 M1 hM0.out hM1.out _).mono ?_
          rintro e v50 ⟨rfl, bz⟩
          have RA50 := Hid.mk7 (RA49.out.later bz)
          have RB50 := Hid.mk7 (RB49.out.later bz)
          have RM50 := Hid.mk7 (RM49.out.later bz)
          have RJ50 := Hid.mk7 (RJ49.out.later bz)
          have bb50 : Hid (RowKit.Below w1.heap.size w1 v50) := bb49.out.trans (bz.mono bb49.out.size)
          clear bz
          go_wp2
          refine anyNext_mk ⟨⟨_, RA50.out, RB50.out⟩, rfl⟩ ?_
          refine anyC_pick1 5 (by kernel_rfl) (by kernel_rfl) ?_ 
          · simp only [pickAll, pickAt, List.nil_append, List.cons_append, List.append_nil]
            go_wp2_with fail
            refine (ijoin_v a b c d J0 J1 hJ0.out hJ1.out _).mono ?_
            rintro e v51 ⟨rfl, bz⟩
            have RA51 := Hid.mk7 (RA50.out.later bz)
            have RB51 := Hid.mk7 (RB50.out.later bz)
            have RM51 := Hid.mk7 (RM50.out.later bz)
            have RJ51 := Hid.mk7 (RJ50.out.later bz)
            have bb51 : Hid (RowKit.Below w1.heap.size w1 v51) := bb50.out.trans (bz.mono bb50.out.size)
            clear bz
            go_wp2
            refine anyNext_mk ⟨⟨_, RA51.out, RB51.out⟩, rfl⟩ ?_
            refine anyC_pick1 8 (by kernel_rfl) (by kernel_rfl) ?_ 
            · simp only [pickAll, pickAt, List.nil_append, List.cons_append, List.append_nil]
              have c0 := RM51.out.c0
              have c1 := RM51.out.c1
              have fz := RM51.out.fz
              have cx := ((RM51.out.set (.int .i64 M0) (.int .i64 M1)))
              have c2 : (v51.setCell ⟨v2.heap.size, 0, none⟩ (.int .i64 M0)).cell? ⟨v2.heap.size, 1, none⟩ = some (.int .i64 0) := other_cell _ (by omega) c1
              clear cx
              have RA52 := Hid.mk7 ((RA51.out.other nAM 0 (.int .i64 M0)).other nAM 1 (.int .i64 M1))
              have RB52 := Hid.mk7 ((RB51.out.other nBM 0 (.int .i64 M0)).other nBM 1 (.int .i64 M1))
              have RM52 := Hid.mk7 (RM51.out.set (.int .i64 M0) (.int .i64 M1))
              have RJ52 := Hid.mk7 ((RJ51.out.other (Ne.symm nMJ) 0 (.int .i64 M0)).other (Ne.symm nMJ) 1 (.int .i64 M1))
              have bb52 : Hid (RowKit.Below w1.heap.size w1 ((v51.setCell ⟨v2.heap.size, 0, none⟩ (.int .i64 M0)).setCell ⟨v2.heap.size, 1, none⟩ (.int .i64 M1))) := (bb51.out.setCell (p := ⟨v2.heap.size, 0, none⟩) hM _).setCell (p := ⟨v2.heap.size, 1, none⟩) hM _
              go_wp2
              clear c0 c1 c2 fz
              generalize ((v51.setCell ⟨v2.heap.size, 0, none⟩ (.int .i64 M0)).setCell ⟨v2.heap.size, 1, none⟩ (.int .i64 M1)) = v52 at *
              refine anyNext_mk ⟨⟨_, RA52.out, RB52.out⟩, rfl⟩ ?_
              refine anyC_pick1 9 (by kernel_rfl) (by kernel_rfl) ?_ 
              · simp only [pickAll, pickAt, List.nil_append, List.cons_append, List.append_nil]
                have c0 := RJ52.out.c0
                have c1 := RJ52.out.c1
                have fz := RJ52.out.fz
                have cx := ((RJ52.out.set (.int .i64 J0) (.int .i64 J1)))
                have c2 : (v52.setCell ⟨v39.heap.size, 0, none⟩ (.int .i64 J0)).cell? ⟨v39.heap.size, 1, none⟩ = some (.int .i64 0) := other_cell _ (by omega) c1
                clear cx
                have RA53 := Hid.mk7 ((RA52.out.other nAJ 0 (.int .i64 J0)).other nAJ 1 (.int .i64 J1))
                have RB53 := Hid.mk7 ((RB52.out.other nBJ 0 (.int .i64 J0)).other nBJ 1 (.int .i64 J1))
                have RM53 := Hid.mk7 ((RM52.out.other nMJ 0 (.int .i64 J0)).other nMJ 1 (.int .i64 J1))
                have RJ53 := Hid.mk7 (RJ52.out.set (.int .i64 J0) (.int .i64 J1))
                have bb53 : Hid (RowKit.Below w1.heap.size w1 ((v52.setCell ⟨v39.heap.size, 0, none⟩ (.int .i64 J0)).setCell ⟨v39.heap.size, 1, none⟩ (.int .i64 J1))) := (bb52.out.setCell (p := ⟨v39.heap.size, 0, none⟩) hJ _).setCell (p := ⟨v39.heap.size, 1, none⟩) hJ _
                go_wp2
                clear c0 c1 c2 fz
                generalize ((v52.setCell ⟨v39.heap.size, 0, none⟩ (.int .i64 J0)).setCell ⟨v39.heap.size, 1, none⟩ (.int .i64 J1)) = v53 at *
                refine anyNext_last (anyC_done (by kernel_rfl) ?_)
                go_wp2
                go_meet
                case rel => exact ⟨v2.heap.size, v39.heap.size, rfl, rfl, RM53, RJ53, RA53, RB53, G1.out.trans (bb53.out.mono hzG)⟩
    · simp only [pickAll, pickAt, List.nil_append, List.cons_append, List.append_nil]
      have RA54 := Hid.mk7 (RA2.out.alloc (.cells #[.int .i64 0, .int .i64 0] 23))
      have RB54 := Hid.mk7 (RB2.out.alloc (.cells #[.int .i64 0, .int .i64 0] 23))
      have RJ54 : Hid (Rv (v2.alloc (.cells #[.int .i64 0, .int .i64 0] 23)) v2.heap.size (.int .i64 0) (.int .i64 0)) := Rv.new _ _ _
      have bb54 : Hid (RowKit.Below w1.heap.size w1 (v2.alloc (.cells #[.int .i64 0, .int .i64 0] 23))) := bb2.out.alloc bb2.out.size _
      have nAJ : z ≠ v2.heap.size := by have := RA2.out.lt; omega
      have nBJ : z + 1 ≠ v2.heap.size := by have := RB2.out.lt; omega
      have hJ := bb2.out.size
      go_wp2
      generalize (v2.alloc (.cells #[.int .i64 0, .int .i64 0] 23)) = v54 at *
      refine anyNext_mk ⟨⟨_, RA54.out, RB54.out⟩, rfl⟩ ?_
      refine anyC_pick2 2 6 (by kernel_rfl) (by kernel_rfl) (by kernel_rfl) ?_ ?_ 
      · simp only [pickAll, pickAt, List.nil_append, List.cons_append, List.append_nil]
        go_wp2_with fail
        refine (imeet_v a b c d M0 M1 hM0.out hM1.out _).mono ?_
        rintro e v55 ⟨rfl, bz⟩
        have RA55 := Hid.mk7 (RA54.out.later bz)
        have RB55 := Hid.mk7 (RB54.out.later bz)
        have RJ55 := Hid.mk7 (RJ54.out.later bz)
        have bb55 : Hid (RowKit.Below w1.heap.size w1 v55) := bb54.out.trans (bz.mono bb54.out.size)
        clear bz
        go_wp2
        refine anyNext_mk ⟨⟨_, RA55.out, RB55.out⟩, rfl⟩ ?_
        refine anyC_pick2 5 6 (by kernel_rfl) (by kernel_rfl) (by kernel_rfl) ?_ ?_ 
        · simp only [pickAll, pickAt, List.nil_append, List.cons_append, List.append_nil]
          go_wp2_with fail
          refine (ijoin_v a b c d J0 J1 hJ0.out hJ1.out _).mono ?_
          rintro e v56 ⟨rfl, bz⟩
          have RA56 := Hid.mk7 (RA55.out.later bz)
          have RB56 := Hid.mk7 (RB55.out.later bz)
          have RJ56 := Hid.mk7 (RJ55.out.later bz)
          have bb56 : Hid (RowKit.Below w1.heap.size w1 v56) := bb55.out.trans (bz.mono bb55.out.size)
          clear bz
          go_wp2
          refine anyNext_mk ⟨⟨_, RA56.out, RB56.out⟩, rfl⟩ ?_
          refine anyC_pick1 6 (by kernel_rfl) (by kernel_rfl) ?_ 
          · simp only [pickAll, pickAt, List.nil_append, List.cons_append, List.append_nil]
            have RA57 := Hid.mk7 (RA56.out.alloc (.cells #[.int .i64 0, .int .i64 0] 23))
            have RB57 := Hid.mk7 (RB56.out.alloc (.cells #[.int .i64 0, .int .i64 0] 23))
            have RJ57 := Hid.mk7 (RJ56.out.alloc (.cells #[.int .i64 0, .int .i64 0] 23))
            have RM57 : Hid (Rv (v56.alloc (.cells #[.int .i64 0, .int .i64 0] 23)) v56.heap.size (.int .i64 0) (.int .i64 0)) := Rv.new _ _ _
            have bb57 : Hid (RowKit.Below w1.heap.size w1 (v56.alloc (.cells #[.int .i64 0, .int .i64 0] 23))) := bb56.out.alloc bb56.out.size _
            have nAM : z ≠ v56.heap.size := by have := RA56.out.lt; omega
            have nBM : z + 1 ≠ v56.heap.size := by have := RB56.out.lt; omega
            have hM := bb56.out.size
            have nMJ : v2.heap.size ≠ v56.heap.size := by have := RJ56.out.lt; omega
            go_wp2
            generalize (v56.alloc (.cells #[.int .i64 0, .int .i64 0] 23)) = v57 at *
            refine anyNext_mk ⟨⟨_, RA57.out, RB57.out⟩, rfl⟩ ?_
            refine anyC_pick1 8 (by kernel_rfl) (by kernel_rfl) ?_ 
            · simp only [pickAll, pickAt, List.nil_append, List.cons_append, List.append_nil]
              have c0 := RM57.out.c0
              have c1 := RM57.out.c1
              have fz := RM57.out.fz
              have cx := ((RM57.out.set (.int .i64 M0) (.int .i64 M1)))
              have c2 : (v57.setCell ⟨v56.heap.size, 0, none⟩ (.int .i64 M0)).cell? ⟨v56.heap.size, 1, none⟩ = some (.int .i64 0) := other_cell _ (by omega) c1
              clear cx
              have RA58 := Hid.mk7 ((RA57.out.other nAM 0 (.int .i64 M0)).other nAM 1 (.int .i64 M1))
              have RB58 := Hid.mk7 ((RB57.out.other nBM 0 (.int .i64 M0)).other nBM 1 (.int .i64 M1))
              have RM58 := Hid.mk7 (RM57.out.set (.int .i64 M0) (.int .i64 M1))
              have RJ58 := Hid.mk7 ((RJ57.out.other nMJ 0 (.int .i64 M0)).other nMJ 1 (.int .i64 M1))
              have bb58 : Hid (RowKit.Below w1.heap.size w1 ((v57.setCell ⟨v56.heap.size, 0, none⟩ (.int .i64 M0)).setCell ⟨v56.heap.size, 1, none⟩ (.int .i64 M1))) := (bb57.out.setCell (p := ⟨v56.heap.size, 0, none⟩) hM _).setCell (p := ⟨v56.heap.size, 1, none⟩) hM _
              go_wp2
              clear c0 c1 c2 fz
              generalize ((v57.setCell ⟨v56.heap.size, 0, none⟩ (.int .i64 M0)).setCell ⟨v56.heap.size, 1, none⟩ (.int .i64 M1)) = v58 at *
              refine anyNext_mk ⟨⟨_, RA58.out, RB58.out⟩, rfl⟩ ?_
              refine anyC_pick1 9 (by kernel_rfl) (by kernel_rfl) ?_ 
              · simp only [pickAll, pickAt, List.nil_append, List.cons_append, List.append_nil]
                have c0 := RJ58.out.c0
                have c1 := RJ58.out.c1
                have fz := RJ58.out.fz
                have cx := ((RJ58.out.set (.int .i64 J0) (.int .i64 J1)))
                have c2 : (v58.setCell ⟨v2.heap.size, 0, none⟩ (.int .i64 J0)).cell? ⟨v2.heap.size, 1, none⟩ = some (.int .i64 0) := other_cell _ (by omega) c1
                clear cx
                have RA59 := Hid.mk7 ((RA58.out.other nAJ 0 (.int .i64 J0)).other nAJ 1 (.int .i64 J1))
                have RB59 := Hid.mk7 ((RB58.out.other nBJ 0 (.int .i64 J0)).other nBJ 1 (.int .i64 J1))
                have RM59 := Hid.mk7 ((RM58.out.other (Ne.symm nMJ) 0 (.int .i64 J0)).other (Ne.symm nMJ) 1 (.int .i64 J1))
                have RJ59 := Hid.mk7 (RJ58.out.set (.int .i64 J0) (.int .i64 J1))
                have bb59 : Hid (RowKit.Below w1.heap.size w1 ((v58.setCell ⟨v2.heap.size, 0, none⟩ (.int .i64 J0)).setCell ⟨v2.heap.size, 1, none⟩ (.int .i64 J1))) := (bb58.out.setCell (p := ⟨v2.heap.size, 0, none⟩) hJ _).setCell (p := ⟨v2.heap.size, 1, none⟩) hJ _
                go_wp2
                clear c0 c1 c2 fz
                generalize ((v58.setCell ⟨v2.heap.size, 0, none⟩ (.int .i64 J0)).setCell ⟨v2.heap.size, 1, none⟩ (.int .i64 J1)) = v59 at *
                refine anyNext_last (anyC_done (by kernel_rfl) ?_)
                go_wp2
                go_meet
                case rel => exact ⟨v56.heap.size, v2.heap.size, rfl, rfl, RM59, RJ59, RA59, RB59, G1.out.trans (bb59.out.mono hzG)⟩
        · simp only [pickAll, pickAt, List.nil_append, List.cons_append, List.append_nil]
          have RA60 := Hid.mk7 (RA55.out.alloc (.cells #[.int .i64 0, .int .i64 0] 23))
          have RB60 := Hid.mk7 (RB55.out.alloc (.cells #[.int .i64 0, .int .i64 0] 23))
          have RJ60 := Hid.mk7 (RJ55.out.alloc (.cells #[.int .i64 0, .int .i64 0] 23))
          have RM60 : Hid (Rv (v55.alloc (.cells #[.int .i64 0, .int .i64 0] 23)) v55.heap.size (.int .i64 0) (.int .i64 0)) := Rv.new _ _ _
          have bb60 : Hid (RowKit.Below w1.heap.size w1 (v55.alloc (.cells #[.int .i64 0, .int .i64 0] 23))) := bb55.out.alloc bb55.out.size _
          have nAM : z ≠ v55.heap.size := by have := RA55.out.lt; omega
          have nBM : z + 1 ≠ v55.heap.size := by have := RB55.out.lt; omega
          have hM := bb55.out.size
          have nMJ : v2.heap.size ≠ v55.heap.size := by have := RJ55.out.lt; omega
          go_wp2
          generalize (v55.alloc (.cells #[.int .i64 0, .int .i64 0] 23)) = v60 at *
          refine anyNext_mk ⟨⟨_, RA60.out, RB60.out⟩, rfl⟩ ?_
          refine anyC_pick1 5 (by kernel_rfl) (by kernel_rfl) ?_ 
          · simp only [pickAll, pickAt, List.nil_append, List.cons_append, List.append_nil]
            go_wp2_with fail
            refine (ijoin_v a b c d J0 J1 hJ0.out hJ1.out _).mono ?_
            rintro e v61 ⟨rfl, bz⟩
            have RA61 := Hid.mk7 (RA60.out.later bz)
            have RB61 := Hid.mk7 (RB60.out.later bz)
            have RM61 := Hid.mk7 (RM60.out.later bz)
            have RJ61 := Hid.mk7 (RJ60.out.later bz)
            have bb61 : Hid (RowKit.Below w1.heap.size w1 v61) := bb60.out.trans (bz.mono bb60.out.size)
            clear bz
            go_wp2
            refine anyNext_mk ⟨⟨_, RA61.out, RB61.out⟩, rfl⟩ ?_
            refine anyC_pick1 8 (by kernel_rfl) (by kernel_rfl) ?_ 
            · simp only [pickAll, pickAt, List.nil_append, List.cons_append, List.append_nil]
              have c0 := RM61.out.c0
              have c1 := RM61.out.c1
              have fz := RM61.out.fz
              have cx := ((RM61.out.set (.int .i64 M0) (.int .i64 M1)))
              have c2 : (v61.setCell ⟨v55.heap.size, 0, none⟩ (.int .i64 M0)).cell? ⟨v55.heap.size, 1, none⟩ = some (.int .i64 0) := other_cell _ (by omega) c1
              clear cx
              have RA62 := Hid.mk7 ((RA61.out.other nAM 0 (.int .i64 M0)).other nAM 1 (.int .i64 M1))
              have RB62 := Hid.mk7 ((RB61.out.other nBM 0 (.int .i64 M0)).other nBM 1 (.int .i64 M1))
              have RM62 := Hid.mk7 (RM61.out.set (.int .i64 M0) (.int .i64 M1))
              have RJ62 := Hid.mk7 ((RJ61.out.other nMJ 0 (.int .i64 M0)).other nMJ 1 (.int .i64 M1))
              have bb62 : Hid (RowKit.Below w1.heap.size w1 ((v61.setCell ⟨v55.heap.size, 0, none⟩ (.int .i64 M0)).setCell ⟨v55.heap.size, 1, none⟩ (.int .i64 M1))) := (bb61.out.setCell (p := ⟨v55.heap.size, 0, none⟩) hM _).setCell (p := ⟨v55.heap.size, 1, none⟩) hM _
              go_wp2
              clear c0 c1 c2 fz
              generalize ((v61.setCell ⟨v55.heap.size, 0, none⟩ (.int .i64 M0)).setCell ⟨v55.heap.size, 1, none⟩ (.int .i64 M1)) = v62 at *
              refine anyNext_mk ⟨⟨_, RA62.out, RB62.out⟩, rfl⟩ ?_
              refine anyC_pick1 9 (by kernel_rfl) (by kernel_rfl) ?_ 
              · simp only [pickAll, pickAt, List.nil_append, List.cons_append, List.append_nil]
                have c0 := RJ62.out.c0
                have c1 := RJ62.out.c1
                have fz := RJ62.out.fz
                have cx := ((RJ62.out.set (.int .i64 J0) (.int .i64 J1)))
                have c2 : (v62.setCell ⟨v2.heap.size, 0, none⟩ (.int .i64 J0)).cell? ⟨v2.heap.size, 1, none⟩ = some (.int .i64 0) := other_cell _ (by omega) c1
                clear cx
                have RA63 := Hid.mk7 ((RA62.out.other nAJ 0 (.int .i64 J0)).other nAJ 1 (.int .i64 J1))
                have RB63 := Hid.mk7 ((RB62.out.other nBJ 0 (.int .i64 J0)).other nBJ 1 (.int .i64 J1))
                have RM63 := Hid.mk7 ((RM62.out.other (Ne.symm nMJ) 0 (.int .i64 J0)).other (Ne.symm nMJ) 1 (.int .i64 J1))
                have RJ63 := Hid.mk7 (RJ62.out.set (.int .i64 J0) (.int .i64 J1))
                have bb63 : Hid (RowKit.Below w1.heap.size w1 ((v62.setCell ⟨v2.heap.size, 0, none⟩ (.int .i64 J0)).setCell ⟨v2.heap.size, 1, none⟩ (.int .i64 J1))) := (bb62.out.setCell (p := ⟨v2.heap.size, 0, none⟩) hJ _).setCell (p := ⟨v2.heap.size, 1, none⟩) hJ _
                go_wp2
                clear c0 c1 c2 fz
                generalize ((v62.setCell ⟨v2.heap.size, 0, none⟩ (.int .i64 J0)).setCell ⟨v2.heap.size, 1, none⟩ (.int .i64 J1)) = v63 at *
                refine anyNext_last (anyC_done (by kernel_rfl) ?_)
                go_wp2
                go_meet
                case rel => exact ⟨v55.heap.size, v2.heap.size, rfl, rfl, RM63, RJ63, RA63, RB63, G1.out.trans (bb63.out.mono hzG)⟩
      · simp only [pickAll, pickAt, List.nil_append, List.cons_append, List.append_nil]
        have RA64 := Hid.mk7 (RA54.out.alloc (.cells #[.int .i64 0, .int .i64 0] 23))
        have RB64 := Hid.mk7 (RB54.out.alloc (.cells #[.int .i64 0, .int .i64 0] 23))
        have RJ64 := Hid.mk7 (RJ54.out.alloc (.cells #[.int .i64 0, .int .i64 0] 23))
        have RM64 : Hid (Rv (v54.alloc (.cells #[.int .i64 0, .int .i64 0] 23)) v54.heap.size (.int .i64 0) (.int .i64 0)) := Rv.new _ _ _
        have bb64 : Hid (RowKit.Below w1.heap.size w1 (v54.alloc (.cells #[.int .i64 0, .int .i64 0] 23))) := bb54.out.alloc bb54.out.size _
        have nAM : z ≠ v54.heap.size := by have := RA54.out.lt; omega
        have nBM : z + 1 ≠ v54.heap.size := by have := RB54.out.lt; omega
        have hM := bb54.out.size
        have nMJ : v2.heap.size ≠ v54.heap.size := by have := RJ54.out.lt; omega
        go_wp2
        generalize (v54.alloc (.cells #[.int .i64 0, .int .i64 0] 23)) = v64 at *
        refine anyNext_mk ⟨⟨_, RA64.out, RB64.out⟩, rfl⟩ ?_
        refine anyC_pick1 2 (by kernel_rfl) (by kernel_rfl) ?_ 
        · simp only [pickAll, pickAt, List.nil_append, List.cons_append, List.append_nil]
          go_wp2_with fail
          refine (imeet_v a b c d M0 M1 hM0.out hM1.out _).mono ?_
          rintro e v65 ⟨rfl, bz⟩
          have RA65 := Hid.mk7 (RA64.out.later bz)
          have RB65 := Hid.mk7 (RB64.out.later bz)
          have RM65 := Hid.mk7 (RM64.out.later bz)
          have RJ65 := Hid.mk7 (RJ64.out.later bz)
          have bb65 : Hid (RowKit.Below w1.heap.size w1 v65) := bb64.out.trans (bz.mono bb64.out.size)
          clear bz
          go_wp2
          refine anyNext_mk ⟨⟨_, RA65.out, RB65.out⟩, rfl⟩ ?_
          refine anyC_pick1 5 (by kernel_rfl) (by kernel_rfl) ?_ 
          · simp only [pickAll, pickAt, List.nil_append, List.cons_append, List.append_nil]
            go_wp2_with fail
            refine (ijoin_v a b c d J0 J1 hJ0.out hJ1.out _).mono ?_
            rintro e v66 ⟨rfl, bz⟩
            have RA66 := Hid.mk7 (RA65.out.later bz)
            have RB66 := Hid.mk7 (RB65.out.later bz)
            have RM66 := Hid.mk7 (RM65.out.later bz)
            have RJ66 := Hid.mk7 (RJ65.out.later bz)
            have bb66 : Hid (RowKit.Below w1.heap.size w1 v66) := bb65.out.trans (bz.mono bb65.out.size)
            clear bz
            go_wp2
            refine anyNext_mk ⟨⟨_, RA66.out, RB66.out⟩, rfl⟩ ?_
            refine anyC_pick1 8 (by kernel_rfl) (by kernel_rfl) ?_ 
            · simp only [pickAll, pickAt, List.nil_append, List.cons_append, List.append_nil]
              have c0 := RM66.out.c0
              have c1 := RM66.out.c1
              have fz := RM66.out.fz
              have cx := ((RM66.out.set (.int .i64 M0) (.int .i64 M1)))
              have c2 : (v66.setCell ⟨v54.heap.size, 0, none⟩ (.int .i64 M0)).cell? ⟨v54.heap.size, 1, none⟩ = some (.int .i64 0) := other_cell _ (by omega) c1
              clear cx
              have RA67 := Hid.mk7 ((RA66.out.other nAM 0 (.int .i64 M0)).other nAM 1 (.int .i64 M1))
              have RB67 := Hid.mk7 ((RB66.out.other nBM 0 (.int .i64 M0)).other nBM 1 (.int .i64 M1))
              have RM67 := Hid.mk7 (RM66.out.set (.int .i64 M0) (.int .i64 M1))
              have RJ67 := Hid.mk7 ((RJ66.out.other nMJ 0 (.int .i64 M0)).other nMJ 1 (.int .i64 M1))
              have bb67 : Hid (RowKit.Below w1.heap.size w1 ((v66.setCell ⟨v54.heap.size, 0, none⟩ (.int .i64 M0)).setCell ⟨v54.heap.size, 1, none⟩ (.int .i64 M1))) := (bb66.out.setCell (p := ⟨v54.heap.size, 0, none⟩) hM _).setCell (p := ⟨v54.heap.size, 1, none⟩) hM _
              go_wp2
              clear c0 c1 c2 fz
              generalize ((v66.setCell ⟨v54.heap.size, 0, none⟩ (.int .i64 M0)).setCell ⟨v54.heap.size, 1, none⟩ (.int .i64 M1)) = v67 at *
              refine anyNext_mk ⟨⟨_, RA67.out, RB67.out⟩, rfl⟩ ?_
              refine anyC_pick1 9 (by kernel_rfl) (by kernel_rfl) ?_ 
              · simp only [pickAll, pickAt, List.nil_append, List.cons_append, List.append_nil]
                have c0 := RJ67.out.c0
                have c1 := RJ67.out.c1
                have fz := RJ67.out.fz
                have cx := ((RJ67.out.set (.int .i64 J0) (.int .i64 J1)))
                have c2 : (v67.setCell ⟨v2.heap.size, 0, none⟩ (.int .i64 J0)).cell? ⟨v2.heap.size, 1, none⟩ = some (.int .i64 0) := other_cell _ (by omega) c1
                clear cx
                have RA68 := Hid.mk7 ((RA67.out.other nAJ 0 (.int .i64 J0)).other nAJ 1 (.int .i64 J1))
                have RB68 := Hid.mk7 ((RB67.out.other nBJ 0 (.int .i64 J0)).other nBJ 1 (.int .i64 J1))
                have RM68 := Hid.mk7 ((RM67.out.other (Ne.symm nMJ) 0 (.int .i64 J0)).other (Ne.symm nMJ) 1 (.int .i64 J1))
                have RJ68 := Hid.mk7 (RJ67.out.set (.int .i64 J0) (.int .i64 J1))
                have bb68 : Hid (RowKit.Below w1.heap.size w1 ((v67.setCell ⟨v2.heap.size, 0, none⟩ (.int .i64 J0)).setCell ⟨v2.heap.size, 1, none⟩ (.int .i64 J1))) := (bb67.out.setCell (p := ⟨v2.heap.size, 0, none⟩) hJ _).setCell (p := ⟨v2.heap.size, 1, none⟩) hJ _
                go_wp2
                clear c0 c1 c2 fz
                generalize ((v67.setCell ⟨v2.heap.size, 0, none⟩ (.int .i64 J0)).setCell ⟨v2.heap.size, 1, none⟩ (.int .i64 J1)) = v68 at *
                refine anyNext_last (anyC_done (by kernel_rfl) ?_)
                go_wp2
                go_meet
                case rel => exact ⟨v54.heap.size, v2.heap.size, rfl, rfl, RM68, RJ68, RA68, RB68, G1.out.trans (bb68.out.mono hzG)⟩
  case rest =>
    obtain ⟨gm, gj, rfl, rfl, RM1, RJ1, RA2, RB2, G2⟩ := hcut
    clear RAc0 RAc1 RBc0 RBc1 RA1 RB1 G1 hzG
    have HN : Hid (M0 = M1 ∨ (a ≤ M0 ∧ M1 ≤ d ∧ c ≤ b ∧ a ≤ d)) := by have := hM0.out; have := hM1.out; show _ ∨ _; omega
    have HJ : Hid (J0 ≤ a ∧ d ≤ J1 ∧ min c a = J0 ∧ max d b = J1) := by have := hJ0.out; have := hJ1.out; show _ ∧ _; omega
    have dJ0 : decide (J0 ≤ a) = true := decide_eq_true HJ.out.1
    have dJ1 : decide (J1 ≥ d) = true := decide_eq_true HJ.out.2.1
    have wn : IntKind.i64.wrap (-t) = -t := by rw [IntKind.wrap_i64]; omega
    have wn2 : wrap64 (-t) = -t := by unfold wrap64; omega
    have HG2 := G2
    clear G2
    have RM2 := RM1
    have RJ2 := RJ1
    clear RM1 RJ1
    by_cases hme : M0 = M1
    · have e1 : (M0 == M1) = true := by simpa using hme
      have e2 : decide (M0 = M1) = true := decide_eq_true hme
      obtain ⟨T, hT⟩ : ∃ T, Hid ((decide (c ≤ b) && decide (a ≤ d)) = T) := ⟨_, rfl⟩
      have hT2 : Hid ((decide (a ≤ d) && decide (c ≤ b)) = T) := by show _ = _; rw [← hT.out, Bool.and_comm]
      clear hme
      generalize hwc : wc = w2 at *
      clear hwc
      have RAc0 := RA2.out.c0
      have RAc1 := RA2.out.c1
      have RBc0 := RB2.out.c0
      have RBc1 := RB2.out.c1
      have RMc0 := RM2.out.c0
      have RMc1 := RM2.out.c1
      have RJc0 := RJ2.out.c0
      have RJc1 := RJ2.out.c1
      go_wp2_with fail
      refine (ishift_v a b t (a + t) (b + t) (wrap_id (by omega) (by omega)) (wrap_id (by omega) (by omega)) _).mono ?_
      rintro e w3 ⟨rfl, bz⟩
      have RA3 := Hid.mk7 (RA2.out.later bz)
      have RB3 := Hid.mk7 (RB2.out.later bz)
      have RM3 := Hid.mk7 (RM2.out.later bz)
      have RJ3 := Hid.mk7 (RJ2.out.later bz)
      have HG3 : Hid (RowKit.Below z w w3) := HG2.out.trans (bz.mono (hz ▸ HG2.out.size))
      clear bz RA2 RB2 RM2 RJ2 HG2
      clear RAc0 RAc1 RBc0 RBc1 RMc0 RMc1 RJc0 RJc1
      have RAc0 := RA3.out.c0
      have RAc1 := RA3.out.c1
      have RBc0 := RB3.out.c0
      have RBc1 := RB3.out.c1
      have RMc0 := RM3.out.c0
      have RMc1 := RM3.out.c1
      have RJc0 := RJ3.out.c0
      have RJc1 := RJ3.out.c1
      go_wp2_with fail
      refine (ishift_v (a + t) (b + t) (-t) a b (by unfold wrap64; omega) (by unfold wrap64; omega) _).mono ?_
      rintro e w4 ⟨rfl, bz⟩
      have RA4 := Hid.mk7 (RA3.out.later bz)
      have RB4 := Hid.mk7 (RB3.out.later bz)
      have RM4 := Hid.mk7 (RM3.out.later bz)
      have RJ4 := Hid.mk7 (RJ3.out.later bz)
      have HG4 : Hid (RowKit.Below z w w4) := HG3.out.trans (bz.mono (hz ▸ HG3.out.size))
      clear bz RA3 RB3 RM3 RJ3 HG3
      clear RAc0 RAc1 RBc0 RBc1 RMc0 RMc1 RJc0 RJc1
      have RA5 := Hid.mk7 (RA4.out.alloc (.cells #[.int .i64 a, .int .i64 b] 23))
      have RB5 := Hid.mk7 (RB4.out.alloc (.cells #[.int .i64 a, .int .i64 b] 23))
      have RM5 := Hid.mk7 (RM4.out.alloc (.cells #[.int .i64 a, .int .i64 b] 23))
      have RJ5 := Hid.mk7 (RJ4.out.alloc (.cells #[.int .i64 a, .int .i64 b] 23))
      have RX5 : Hid (Rv (w4.alloc (.cells #[.int .i64 a, .int .i64 b] 23)) w4.heap.size (.int .i64 a) (.int .i64 b)) := Rv.new _ _ _
      have HG5 : Hid (RowKit.Below z w (w4.alloc (.cells #[.int .i64 a, .int .i64 b] 23))) := HG4.out.alloc (hz ▸ HG4.out.size) _
      clear RA4 RB4 RM4 RJ4 HG4
      go_wp2_with fail
      generalize (w4.alloc (.cells #[.int .i64 a, .int .i64 b] 23)) = w5 at *
      have RAk0 := cell_regrown RA5.out.c0
      have RAk1 := cell_regrown RA5.out.c1
      have RBk0 := cell_regrown RB5.out.c0
      have RBk1 := cell_regrown RB5.out.c1
      have RMk0 := cell_regrown RM5.out.c0
      have RMk1 := cell_regrown RM5.out.c1
      have RJk0 := cell_regrown RJ5.out.c0
      have RJk1 := cell_regrown RJ5.out.c1
      have RXk0 := cell_regrown RX5.out.c0
      have RXk1 := cell_regrown RX5.out.c1
      have HTC : Hid (∀ (x y : Value) (v : Bool) (d' : Nat) (os : Array Obj), (((x = (.agg #[.int .i64 a, .int .i64 b]) ∧ y = (.agg #[.int .i64 c, .int .i64 d]) ∨ x = (.agg #[.int .i64 c, .int .i64 d]) ∧ y = (.agg #[.int .i64 a, .int .i64 b])) ∧ v = T) ∨ (x = (.agg #[.int .i64 a, .int .i64 b]) ∧ y = (.agg #[.int .i64 a, .int .i64 b]) ∧ v = true)) → Calls Try.prog 11 #[x, y] (grow (redrawn w5 d') os) fun e w'' => e = .returned (.bool v) ∧ ∃ p : Regrown, w'' = grow (redrawn w5 p.d) p.os) := fun x y v d' os h => by
        rcases h with ⟨⟨rfl, rfl⟩ | ⟨rfl, rfl⟩, rfl⟩ | ⟨rfl, rfl, rfl⟩
        · exact Calls.regrown_of (itouch_b a b c d _ hT.out _)
        · exact Calls.regrown_of (itouch_b c d a b _ hT2.out _)
        · exact Calls.regrown_of (itouch_b a b a b true (by simp [h0]) _)
      have HJC : Hid (∀ (x y v : Value) (d' : Nat) (os : Array Obj), ((x = (.agg #[.int .i64 c, .int .i64 d]) ∧ y = (.agg #[.int .i64 a, .int .i64 b]) ∧ v = (.agg #[.int .i64 J0, .int .i64 J1])) ∨ (x = (.agg #[.int .i64 a, .int .i64 b]) ∧ y = (.agg #[.int .i64 a, .int .i64 b]) ∧ v = (.agg #[.int .i64 a, .int .i64 b]))) → Calls Try.prog 12 #[x, y] (grow (redrawn w5 d') os) fun e w'' => e = .returned v ∧ ∃ p : Regrown, w'' = grow (redrawn w5 p.d) p.os) := fun x y v d' os h => by
        rcases h with ⟨rfl, rfl, rfl⟩ | ⟨rfl, rfl, rfl⟩
        · exact Calls.regrown_of (ijoin_v c d a b J0 J1 HJ.out.2.2.1 HJ.out.2.2.2 _)
        · exact Calls.regrown_of (ijoin_v a b a b a b (by omega) (by omega) _)
      have HMC := Hid.mk7 (fun d' os => Calls.regrown_of (imeet_v a b a b a b (by omega) (by omega) (grow (redrawn w5 d') os)))
      refine wp_region_quiet_below (by kernel_rfl) (by kernel_rfl) ?_
      simp only [List.append]
      repeat (go_big_quiet_step (first | (go_at_call 11; exact HTC.out _ _ _ _ _ (by first | exact Or.inl ⟨Or.inl ⟨rfl, rfl⟩, rfl⟩ | exact Or.inl ⟨Or.inr ⟨rfl, rfl⟩, rfl⟩ | exact Or.inr ⟨rfl, rfl, rfl⟩)) | (go_at_call 12; exact HJC.out _ _ _ _ _ (by first | exact Or.inl ⟨rfl, rfl, rfl⟩ | exact Or.inr ⟨rfl, rfl, rfl⟩)) | (go_at_call 10; exact HMC.out _ _)))
      refine wpQuiet_nil ?_
      intro _ hw'
      obtain ⟨⟨dq, osq⟩, hw''⟩ := hw'
      subst hw''
      have HG9 : Hid (RowKit.Below z w (grow (redrawn w5 dq) osq)) := HG5.out.trans ((below_regrown w5 dq osq).mono (hz ▸ HG5.out.size))
      clear HTC HJC HMC RAk0 RAk1 RBk0 RBk1 RMk0 RMk1 RJk0 RJk1 RXk0 RXk1
      generalize grow (redrawn w5 dq) osq = w9 at *
      go_wp2
      go_ret
      exact ⟨rfl, hz ▸ HG9.out⟩
    · have e1 : (M0 == M1) = false := by simpa using hme
      have e2 : decide (M0 = M1) = false := decide_eq_false hme
      have HN2 := HN.out.resolve_left hme
      have e3 : decide (M0 ≥ a) = true := decide_eq_true HN2.1
      have e4 : decide (M1 ≤ d) = true := decide_eq_true HN2.2.1
      have hT : Hid ((decide (c ≤ b) && decide (a ≤ d)) = true) := by show _ = _; simp [HN2.2.2.1, HN2.2.2.2]
      have hT2 : Hid ((decide (a ≤ d) && decide (c ≤ b)) = true) := by show _ = _; simp [HN2.2.2.1, HN2.2.2.2]
      clear hme HN2
      generalize hwc : wc = w2 at *
      clear hwc
      have RAc0 := RA2.out.c0
      have RAc1 := RA2.out.c1
      have RBc0 := RB2.out.c0
      have RBc1 := RB2.out.c1
      have RMc0 := RM2.out.c0
      have RMc1 := RM2.out.c1
      have RJc0 := RJ2.out.c0
      have RJc1 := RJ2.out.c1
      go_wp2_with fail
      refine (ishift_v a b t (a + t) (b + t) (wrap_id (by omega) (by omega)) (wrap_id (by omega) (by omega)) _).mono ?_
      rintro e w3 ⟨rfl, bz⟩
      have RA3 := Hid.mk7 (RA2.out.later bz)
      have RB3 := Hid.mk7 (RB2.out.later bz)
      have RM3 := Hid.mk7 (RM2.out.later bz)
      have RJ3 := Hid.mk7 (RJ2.out.later bz)
      have HG3 : Hid (RowKit.Below z w w3) := HG2.out.trans (bz.mono (hz ▸ HG2.out.size))
      clear bz RA2 RB2 RM2 RJ2 HG2
      clear RAc0 RAc1 RBc0 RBc1 RMc0 RMc1 RJc0 RJc1
      have RAc0 := RA3.out.c0
      have RAc1 := RA3.out.c1
      have RBc0 := RB3.out.c0
      have RBc1 := RB3.out.c1
      have RMc0 := RM3.out.c0
      have RMc1 := RM3.out.c1
      have RJc0 := RJ3.out.c0
      have RJc1 := RJ3.out.c1
      go_wp2_with fail
      refine (ishift_v (a + t) (b + t) (-t) a b (by unfold wrap64; omega) (by unfold wrap64; omega) _).mono ?_
      rintro e w4 ⟨rfl, bz⟩
      have RA4 := Hid.mk7 (RA3.out.later bz)
      have RB4 := Hid.mk7 (RB3.out.later bz)
      have RM4 := Hid.mk7 (RM3.out.later bz)
      have RJ4 := Hid.mk7 (RJ3.out.later bz)
      have HG4 : Hid (RowKit.Below z w w4) := HG3.out.trans (bz.mono (hz ▸ HG3.out.size))
      clear bz RA3 RB3 RM3 RJ3 HG3
      clear RAc0 RAc1 RBc0 RBc1 RMc0 RMc1 RJc0 RJc1
      have RA5 := Hid.mk7 (RA4.out.alloc (.cells #[.int .i64 a, .int .i64 b] 23))
      have RB5 := Hid.mk7 (RB4.out.alloc (.cells #[.int .i64 a, .int .i64 b] 23))
      have RM5 := Hid.mk7 (RM4.out.alloc (.cells #[.int .i64 a, .int .i64 b] 23))
      have RJ5 := Hid.mk7 (RJ4.out.alloc (.cells #[.int .i64 a, .int .i64 b] 23))
      have RX5 : Hid (Rv (w4.alloc (.cells #[.int .i64 a, .int .i64 b] 23)) w4.heap.size (.int .i64 a) (.int .i64 b)) := Rv.new _ _ _
      have HG5 : Hid (RowKit.Below z w (w4.alloc (.cells #[.int .i64 a, .int .i64 b] 23))) := HG4.out.alloc (hz ▸ HG4.out.size) _
      clear RA4 RB4 RM4 RJ4 HG4
      go_wp2_with fail
      generalize (w4.alloc (.cells #[.int .i64 a, .int .i64 b] 23)) = w5 at *
      have RAk0 := cell_regrown RA5.out.c0
      have RAk1 := cell_regrown RA5.out.c1
      have RBk0 := cell_regrown RB5.out.c0
      have RBk1 := cell_regrown RB5.out.c1
      have RMk0 := cell_regrown RM5.out.c0
      have RMk1 := cell_regrown RM5.out.c1
      have RJk0 := cell_regrown RJ5.out.c0
      have RJk1 := cell_regrown RJ5.out.c1
      have RXk0 := cell_regrown RX5.out.c0
      have RXk1 := cell_regrown RX5.out.c1
      have HTC : Hid (∀ (x y : Value) (v : Bool) (d' : Nat) (os : Array Obj), (((x = (.agg #[.int .i64 a, .int .i64 b]) ∧ y = (.agg #[.int .i64 c, .int .i64 d]) ∨ x = (.agg #[.int .i64 c, .int .i64 d]) ∧ y = (.agg #[.int .i64 a, .int .i64 b])) ∧ v = true) ∨ (x = (.agg #[.int .i64 a, .int .i64 b]) ∧ y = (.agg #[.int .i64 a, .int .i64 b]) ∧ v = true)) → Calls Try.prog 11 #[x, y] (grow (redrawn w5 d') os) fun e w'' => e = .returned (.bool v) ∧ ∃ p : Regrown, w'' = grow (redrawn w5 p.d) p.os) := fun x y v d' os h => by
        rcases h with ⟨⟨rfl, rfl⟩ | ⟨rfl, rfl⟩, rfl⟩ | ⟨rfl, rfl, rfl⟩
        · exact Calls.regrown_of (itouch_b a b c d _ hT.out _)
        · exact Calls.regrown_of (itouch_b c d a b _ hT2.out _)
        · exact Calls.regrown_of (itouch_b a b a b true (by simp [h0]) _)
      have HJC : Hid (∀ (x y v : Value) (d' : Nat) (os : Array Obj), ((x = (.agg #[.int .i64 c, .int .i64 d]) ∧ y = (.agg #[.int .i64 a, .int .i64 b]) ∧ v = (.agg #[.int .i64 J0, .int .i64 J1])) ∨ (x = (.agg #[.int .i64 a, .int .i64 b]) ∧ y = (.agg #[.int .i64 a, .int .i64 b]) ∧ v = (.agg #[.int .i64 a, .int .i64 b]))) → Calls Try.prog 12 #[x, y] (grow (redrawn w5 d') os) fun e w'' => e = .returned v ∧ ∃ p : Regrown, w'' = grow (redrawn w5 p.d) p.os) := fun x y v d' os h => by
        rcases h with ⟨rfl, rfl, rfl⟩ | ⟨rfl, rfl, rfl⟩
        · exact Calls.regrown_of (ijoin_v c d a b J0 J1 HJ.out.2.2.1 HJ.out.2.2.2 _)
        · exact Calls.regrown_of (ijoin_v a b a b a b (by omega) (by omega) _)
      have HMC := Hid.mk7 (fun d' os => Calls.regrown_of (imeet_v a b a b a b (by omega) (by omega) (grow (redrawn w5 d') os)))
      refine wp_region_quiet_below (by kernel_rfl) (by kernel_rfl) ?_
      simp only [List.append]
      repeat (go_big_quiet_step (first | (go_at_call 11; exact HTC.out _ _ _ _ _ (by first | exact Or.inl ⟨Or.inl ⟨rfl, rfl⟩, rfl⟩ | exact Or.inl ⟨Or.inr ⟨rfl, rfl⟩, rfl⟩ | exact Or.inr ⟨rfl, rfl, rfl⟩)) | (go_at_call 12; exact HJC.out _ _ _ _ _ (by first | exact Or.inl ⟨rfl, rfl, rfl⟩ | exact Or.inr ⟨rfl, rfl, rfl⟩)) | (go_at_call 10; exact HMC.out _ _)))
      refine wpQuiet_nil ?_
      intro _ hw'
      obtain ⟨⟨dq, osq⟩, hw''⟩ := hw'
      subst hw''
      have HG9 : Hid (RowKit.Below z w (grow (redrawn w5 dq) osq)) := HG5.out.trans ((below_regrown w5 dq osq).mono (hz ▸ HG5.out.size))
      clear HTC HJC HMC RAk0 RAk1 RBk0 RBk1 RMk0 RMk1 RJk0 RJk1 RXk0 RXk1
      generalize grow (redrawn w5 dq) osq = w9 at *
      go_wp2
      go_ret
      exact ⟨rfl, hz ▸ HG9.out⟩
end Go.Proofs.Ytfohfdldpanfaaa
