/- palinodelaw14's OffsetTells walked. -/
import Derived.Test.YtelpinngimohoaaDoorOffKnown
import Derived.Test.YtelpinngimohoaaDoorOffFew
import Derived.Test.YtelpinngimohoaaDoorOffKept
namespace Go.Proofs.YtelpinngimohoaaDoor
open Go.RowKit Go.Sort Go.Lib
set_option linter.unusedSimpArgs false
set_option linter.unusedVariables false

theorem fewD14_of {n : Int} {es : List El} (h : fewD n es = true) : Sm es 200 ∧ n ≤ 400 ∧ es.length ≤ 70 := by
  unfold fewD at h
  simp only [Bool.and_eq_true, List.all_eq_true, decide_eq_true_eq] at h
  exact ⟨h.1, h.2.1, h.2.2⟩
theorem stB_out {base at' : Int} {es : List El} (hi : isB base es = true) (h : ¬ (0 ≤ at' ∧ at' < base)) : stB es at' = false := by
  have hd := dl_of hi
  have hb : 0 ≤ base := hd.b0
  obtain ⟨N, rfl⟩ : ∃ N : Nat, base = N := ⟨base.toNat, by omega⟩
  have hin := nm_inn (n := N) (Int.le_refl _) es 0 0 (Int.le_refl _) hd.nm
  unfold stB
  rw [List.any_eq_false]
  intro e he
  have := hin e he
  simp only [decide_eq_true_eq]
  omega
section
variable {w : World} {v : Value} {es : List El} {base at' : Int} {tb : Nat × Nat}
theorem move_z {z : Int} {after : Bool} (hz : mvV base es at' after = z) (hsm : Sm es 200) (h : ElAt w v es) (hT : Tab w tb) :
    Calls Tryd.prog 12 #[.agg #[.int .i64 base, v], .int .i64 at', .bool after] w fun e w' => e = .returned (.int .i64 z) ∧ RowKit.Below w.heap.size w w' := by
  subst hz; exact move_any base at' after h (hsm.mono (by omega)) tb hT
theorem back_z {z : Int} (hz : bkV base es at' = z) (hsm : Sm es 200) (h : ElAt w v es) (hT : Tab w tb) :
    Calls Tryd.prog 14 #[.agg #[.int .i64 base, v], .int .i64 at'] w fun e w' => e = .returned (.int .i64 z) ∧ RowKit.Below w.heap.size w w' := by
  subst hz; exact back_any base at' h (hsm.mono (by omega)) tb hT
theorem stays_z {z : Bool} (hz : (isB base es && stB es at') = z) (hsm : Sm es 200) (h : ElAt w v es) (hT : Tab w tb) :
    Calls Tryd.prog 16 #[.agg #[.int .i64 base, v], .int .i64 at'] w fun e w' => e = .returned (.bool z) ∧ RowKit.Below w.heap.size w w' := by
  subst hz; exact stays_any base at' h (hsm.mono (by omega)) tb hT
theorem interval_z {f t x y : Int} (hx : mvV base es f true = x) (hy : max (mvV base es f true) (mvV base es t false) = y) (hsm : Sm es 200) (h : ElAt w v es) (hT : Tab w tb) :
    Calls Tryd.prog 17 #[.agg #[.int .i64 base, v], .agg #[.int .i64 f, .int .i64 t]] w fun e w' => e = .returned (.agg #[.int .i64 x, .int .i64 y]) ∧ RowKit.Below w.heap.size w w' := by
  subst hx hy; exact interval_any base f t h (hsm.mono (by omega)) tb hT
theorem rmove_z {z : Int} {after : Bool} (hz : mvV base es at' after = z) (hsm : Sm es 200) (h : ElAt w v es) :
    Calls Tryd.prog 13 #[.agg #[.int .i64 base, v], .int .i64 at', .bool after] w fun e w' => e = .returned (.int .i64 z) ∧ RowKit.Below w.heap.size w w' := by
  subst hz; exact rmove_any base at' after h (hsm.mono (by omega))
theorem rback_z {z : Int} (hz : bkV base es at' = z) (hsm : Sm es 200) (h : ElAt w v es) :
    Calls Tryd.prog 15 #[.agg #[.int .i64 base, v], .int .i64 at'] w fun e w' => e = .returned (.int .i64 z) ∧ RowKit.Below w.heap.size w w' := by
  subst hz; exact rback_any base at' h (hsm.mono (by omega))
theorem rinterval_z {f t x y : Int} (hx : mvV base es f true = x) (hy : max (mvV base es f true) (mvV base es t false) = y) (hsm : Sm es 200) (h : ElAt w v es) :
    Calls Tryd.prog 18 #[.agg #[.int .i64 base, v], .agg #[.int .i64 f, .int .i64 t]] w fun e w' => e = .returned (.agg #[.int .i64 x, .int .i64 y]) ∧ RowKit.Below w.heap.size w w' := by
  subst hx hy; exact rinterval_any base f t h (hsm.mono (by omega))
theorem few14_v {x : Bool} (hx : fewD base es = x) (h : ElAt w v es) (hl : es.length ≤ maxLen) :
    Calls Tryd.prog 9 #[.agg #[.int .i64 base, v]] w fun e w' => e = .returned (.bool x) ∧ RowKit.Below w.heap.size w w' := by
  subst hx; exact fewD14_any base h hl
theorem ris14_v {x : Bool} (hx : isB base es = x) (hsm : Sm es 200) (h : ElAt w v es) :
    Calls Tryd.prog 10 #[.agg #[.int .i64 base, v]] w fun e w' => e = .returned (.bool x) ∧ RowKit.Below w.heap.size w w' := by
  subst hx; exact ris_any base h (hsm.mono (by decide))
theorem rkept_v (N : Nat) (hN : base = (N : Nat)) (h : ElAt w v es) (hi : isB base es = true) :
    Calls Tryd.prog 11 #[.agg #[.int .i64 base, v]] w fun e w' => ∃ g X, e = .returned (.slice (some ⟨g, 0, none⟩) N N) ∧ OwnBl w' w.heap.size (.slice (some ⟨g, 0, none⟩) N N) X ∧ X.length = N ∧ (∀ i : Nat, i < N → X[i]? = some (stB es i)) ∧ RowKit.Below w.heap.size w w' := by
  subst hN; exact rkept_any14 N h hi
end
set_option maxHeartbeats 8000000 in
set_option maxRecDepth 100000 in
theorem tells14_any (base : Int) {w : World} {v : Value} {es : List El} (at' i0 i1 : Int) (hl : es.length ≤ maxLen) (tb : Nat × Nat) (hT : Tab w tb) (h : ElAt w v es) :
    Calls Tryd.prog 3 #[.agg #[.int .i64 base, v], .int .i64 at', .agg #[.int .i64 i0, .int .i64 i1]] w fun e w' => e = .returned (.bool true) ∧ RowKit.Below w.heap.size w w' := by
  obtain ⟨a, cap, rfl, _⟩ := id h
  have hl2 : es.length ≤ maxLen := hl
  obtain ⟨W1, hW1⟩ : ∃ W1, W1 = w.alloc (.cells #[.int .i64 base, .slice a es.length cap] 24) := ⟨_, rfl⟩
  obtain ⟨W2, hW2⟩ : ∃ W2, W2 = W1.alloc (.cells #[.int .i64 i0, .int .i64 i1] 26) := ⟨_, rfl⟩
  have s1 : W1.heap.size = w.heap.size + 1 := by rw [hW1]; simp
  have b1 : RowKit.Below w.heap.size w W1 := by rw [hW1]; exact below_newE (RowKit.Below.refl _ _) _
  have b2 : RowKit.Below w.heap.size w W2 := by rw [hW2]; exact b1.alloc b1.size _
  have d1 : Rd W1 w.heap.size (.int .i64 base) (.slice a es.length cap) := by rw [hW1]; exact Rd.new w _ _
  have D0 := Hid.mk7 (show Rd W2 w.heap.size (.int .i64 base) (.slice a es.length cap) by rw [hW2]; exact d1.alloc _)
  have V0 := Hid.mk7 (show Rv W2 (w.heap.size + 1) (.int .i64 i0) (.int .i64 i1) by rw [hW2]; exact Rv.new' s1.symm _ _)
  have T0 := Hid.mk7 (hT.later b2)
  have E0 := Hid.mk7 (h.later b2)
  have G0 := Hid.mk7 b2
  clear s1 b1 b2 d1 h hT
  go_enter Tryd.func3, Tryd.ntmps3
  go_upto_region 1 with fail
  rw [← hW1, ← hW2]
  clear hW1 hW2
  have Dc0 := D0.out.c0
  have Dc1 := D0.out.c1
  have Vc0 := V0.out.c0
  have Vc1 := V0.out.c1
  go_wp2_with fail
  refine (known14_any _ tb T0.out).mono ?_
  rintro e w1 ⟨rfl, bz⟩
  clear Dc0 Dc1 Vc0 Vc1
  have T2 := Hid.mk7 (T0.out.later bz)
  have G2 := Hid.mk7 (G0.out.trans (bz.mono G0.out.size))
  have E2 := Hid.mk7 (E0.out.later bz)
  have D2 := Hid.mk7 (D0.out.later bz)
  have V2 := Hid.mk7 (V0.out.later bz)
  clear T0 G0 E0 D0 V0 bz
  by_cases hfw : fewD base es = true
  · skip
    have hsm := Hid.mk7 (fewD14_of hfw).1
    have hb4 := (fewD14_of hfw).2.1
    have Dc0 := D2.out.c0
    have Dc1 := D2.out.c1
    have Vc0 := V2.out.c0
    have Vc1 := V2.out.c1
    go_wp2_with fail
    refine (few14_v hfw E2.out hl2).mono ?_
    rintro e w3 ⟨rfl, bz⟩
    clear Dc0 Dc1 Vc0 Vc1
    have T4 := Hid.mk7 (T2.out.later bz)
    have G4 := Hid.mk7 (G2.out.trans (bz.mono G2.out.size))
    have E4 := Hid.mk7 (E2.out.later bz)
    have D4 := Hid.mk7 (D2.out.later bz)
    have V4 := Hid.mk7 (V2.out.later bz)
    clear T2 G2 E2 D2 V2 bz
    obtain ⟨A0, hA0z⟩ : ∃ z, mvV base es at' false = z := ⟨_, rfl⟩
    have hA0 := Hid.mk7 hA0z
    clear hA0z
    obtain ⟨A1, hA1z⟩ : ∃ z, mvV base es at' true = z := ⟨_, rfl⟩
    have hA1 := Hid.mk7 hA1z
    clear hA1z
    obtain ⟨Bk0, hBKz⟩ : ∃ z, bkV base es at' = z := ⟨_, rfl⟩
    have hBK := Hid.mk7 hBKz
    clear hBKz
    obtain ⟨X0, hXz⟩ : ∃ z, mvV base es i0 true = z := ⟨_, rfl⟩
    have hX := Hid.mk7 hXz
    clear hXz
    obtain ⟨Y0, hYz⟩ : ∃ z, max (mvV base es i0 true) (mvV base es i1 false) = z := ⟨_, rfl⟩
    have hY := Hid.mk7 hYz
    clear hYz
    by_cases hi : isB base es = true
    · skip
      have Dc0 := D4.out.c0
      have Dc1 := D4.out.c1
      have Vc0 := V4.out.c0
      have Vc1 := V4.out.c1
      go_wp2_with fail
      refine (ris14_v hi hsm.out E4.out).mono ?_
      rintro e w5 ⟨rfl, bz⟩
      clear Dc0 Dc1 Vc0 Vc1
      have T6 := Hid.mk7 (T4.out.later bz)
      have G6 := Hid.mk7 (G4.out.trans (bz.mono G4.out.size))
      have E6 := Hid.mk7 (E4.out.later bz)
      have D6 := Hid.mk7 (D4.out.later bz)
      have V6 := Hid.mk7 (V4.out.later bz)
      clear T4 G4 E4 D4 V4 bz
      have Dc0 := D6.out.c0
      have Dc1 := D6.out.c1
      by_cases h1 : 0 ≤ at'
      · skip
        have d1 : decide (0 ≤ at') = true := decide_eq_true h1
        by_cases h2 : at' < base
        · skip
          have d2 : decide (at' < base) = true := decide_eq_true h2
          obtain ⟨N, hN⟩ : ∃ N : Nat, base = (N : Nat) := ⟨base.toNat, by omega⟩
          have HN := Hid.mk7 hN
          obtain ⟨j, rfl⟩ : ∃ j : Nat, at' = j := ⟨at'.toNat, by omega⟩
          have hjN : j < N := by omega
          obtain ⟨y, hy⟩ : ∃ y, stB es (j : Int) = y := ⟨_, rfl⟩
          have HY := Hid.mk7 hy
          have HS : Hid ((isB base es && stB es (j : Int)) = y) := by show _ = _; rw [hi, Bool.true_and]; exact hy
          clear hy hN
          clear Dc0 Dc1
          have Dc0 := D6.out.c0
          have Dc1 := D6.out.c1
          have Vc0 := V6.out.c0
          have Vc1 := V6.out.c1
          go_wp2_with fail
          refine (rkept_v N HN.out E6.out hi).mono ?_
          rintro e w7 ⟨gk, X, rfl, o4, xl, hx, bz⟩
          clear Dc0 Dc1 Vc0 Vc1
          have O4 := Hid.mk7 (ownBl_at o4 xl (hx j hjN)).1
          rw [HY.out] at O4
          have c4 := O4.out
          clear o4 xl hx O4
          have T8 := Hid.mk7 (T6.out.later bz)
          have G8 := Hid.mk7 (G6.out.trans (bz.mono G6.out.size))
          have E8 := Hid.mk7 (E6.out.later bz)
          have D8 := Hid.mk7 (D6.out.later bz)
          have V8 := Hid.mk7 (V6.out.later bz)
          clear T6 G6 E6 D6 V6 bz
          go_upto_region 8 with fail
          have HM0 := Hid.mk7 (fun d os => Calls.regrown_of (move_z hA0.out hsm.out (E8.out.later (below_regrown w7 d os)) (T8.out.later (below_regrown w7 d os))))
          have HM1 := Hid.mk7 (fun d os => Calls.regrown_of (move_z hA1.out hsm.out (E8.out.later (below_regrown w7 d os)) (T8.out.later (below_regrown w7 d os))))
          have HR0 := Hid.mk7 (fun d os => Calls.regrown_of (rmove_z hA0.out hsm.out (E8.out.later (below_regrown w7 d os))))
          have HR1 := Hid.mk7 (fun d os => Calls.regrown_of (rmove_z hA1.out hsm.out (E8.out.later (below_regrown w7 d os))))
          have HBK := Hid.mk7 (fun d os => Calls.regrown_of (back_z hBK.out hsm.out (E8.out.later (below_regrown w7 d os)) (T8.out.later (below_regrown w7 d os))))
          have HRB := Hid.mk7 (fun d os => Calls.regrown_of (rback_z hBK.out hsm.out (E8.out.later (below_regrown w7 d os))))
          have HST := Hid.mk7 (fun d os => Calls.regrown_of (stays_z (z := y) (HS.out) hsm.out (E8.out.later (below_regrown w7 d os)) (T8.out.later (below_regrown w7 d os))))
          have HIV := Hid.mk7 (fun d os => Calls.regrown_of (interval_z hX.out hY.out hsm.out (E8.out.later (below_regrown w7 d os)) (T8.out.later (below_regrown w7 d os))))
          have HRI := Hid.mk7 (fun d os => Calls.regrown_of (rinterval_z hX.out hY.out hsm.out (E8.out.later (below_regrown w7 d os))))
          have qD0 := cell_regrown D8.out.c0
          have qD1 := cell_regrown D8.out.c1
          have qV0 := cell_regrown V8.out.c0
          have qV1 := cell_regrown V8.out.c1
          refine wp_region_quiet_below (by kernel_rfl) (by kernel_rfl) ?_
          repeat (go_big_quiet_step (first
            | (go_at_call_of 12 (Value.bool true); exact HM1.out _ _)
            | (go_at_call 12; exact HM0.out _ _)
            | (go_at_call_of 13 (Value.bool true); exact HR1.out _ _)
            | (go_at_call 13; exact HR0.out _ _)
            | (go_at_call 14; exact HBK.out _ _)
            | (go_at_call 15; exact HRB.out _ _)
            | (go_at_call 16; exact HST.out _ _)
            | (go_at_call 17; exact HIV.out _ _)
            | (go_at_call 18; exact HRI.out _ _)))
          refine wpQuiet_nil ?_
          intro _ hw'
          obtain ⟨⟨dq, osq⟩, hw''⟩ := hw'
          subst hw''
          have bz := below_regrown w7 dq osq
          have GZ := Hid.mk7 (G8.out.trans (bz.mono G8.out.size))
          clear bz
          go_wp2
          go_ret
          exact ⟨rfl, GZ.out⟩
        · skip
          have d2 : decide (at' < base) = false := decide_eq_false h2
          have HS : Hid ((isB base es && stB es at') = false) := by show _ = _; rw [stB_out hi (fun h => h2 h.2), Bool.and_false]
          go_upto_region 8 with fail
          clear Dc0 Dc1
          have HM0 := Hid.mk7 (fun d os => Calls.regrown_of (move_z hA0.out hsm.out (E6.out.later (below_regrown w5 d os)) (T6.out.later (below_regrown w5 d os))))
          have HM1 := Hid.mk7 (fun d os => Calls.regrown_of (move_z hA1.out hsm.out (E6.out.later (below_regrown w5 d os)) (T6.out.later (below_regrown w5 d os))))
          have HR0 := Hid.mk7 (fun d os => Calls.regrown_of (rmove_z hA0.out hsm.out (E6.out.later (below_regrown w5 d os))))
          have HR1 := Hid.mk7 (fun d os => Calls.regrown_of (rmove_z hA1.out hsm.out (E6.out.later (below_regrown w5 d os))))
          have HBK := Hid.mk7 (fun d os => Calls.regrown_of (back_z hBK.out hsm.out (E6.out.later (below_regrown w5 d os)) (T6.out.later (below_regrown w5 d os))))
          have HRB := Hid.mk7 (fun d os => Calls.regrown_of (rback_z hBK.out hsm.out (E6.out.later (below_regrown w5 d os))))
          have HST := Hid.mk7 (fun d os => Calls.regrown_of (stays_z (z := false) (HS.out) hsm.out (E6.out.later (below_regrown w5 d os)) (T6.out.later (below_regrown w5 d os))))
          have HIV := Hid.mk7 (fun d os => Calls.regrown_of (interval_z hX.out hY.out hsm.out (E6.out.later (below_regrown w5 d os)) (T6.out.later (below_regrown w5 d os))))
          have HRI := Hid.mk7 (fun d os => Calls.regrown_of (rinterval_z hX.out hY.out hsm.out (E6.out.later (below_regrown w5 d os))))
          have qD0 := cell_regrown D6.out.c0
          have qD1 := cell_regrown D6.out.c1
          have qV0 := cell_regrown V6.out.c0
          have qV1 := cell_regrown V6.out.c1
          refine wp_region_quiet_below (by kernel_rfl) (by kernel_rfl) ?_
          repeat (go_big_quiet_step (first
            | (go_at_call_of 12 (Value.bool true); exact HM1.out _ _)
            | (go_at_call 12; exact HM0.out _ _)
            | (go_at_call_of 13 (Value.bool true); exact HR1.out _ _)
            | (go_at_call 13; exact HR0.out _ _)
            | (go_at_call 14; exact HBK.out _ _)
            | (go_at_call 15; exact HRB.out _ _)
            | (go_at_call 16; exact HST.out _ _)
            | (go_at_call 17; exact HIV.out _ _)
            | (go_at_call 18; exact HRI.out _ _)))
          refine wpQuiet_nil ?_
          intro _ hw'
          obtain ⟨⟨dq, osq⟩, hw''⟩ := hw'
          subst hw''
          have bz := below_regrown w5 dq osq
          have GZ := Hid.mk7 (G6.out.trans (bz.mono G6.out.size))
          clear bz
          go_wp2
          go_ret
          exact ⟨rfl, GZ.out⟩
      · skip
        have d1 : decide (0 ≤ at') = false := decide_eq_false h1
        have HS : Hid ((isB base es && stB es at') = false) := by show _ = _; rw [stB_out hi (fun h => h1 h.1), Bool.and_false]
        go_upto_region 8 with fail
        clear Dc0 Dc1
        have HM0 := Hid.mk7 (fun d os => Calls.regrown_of (move_z hA0.out hsm.out (E6.out.later (below_regrown w5 d os)) (T6.out.later (below_regrown w5 d os))))
        have HM1 := Hid.mk7 (fun d os => Calls.regrown_of (move_z hA1.out hsm.out (E6.out.later (below_regrown w5 d os)) (T6.out.later (below_regrown w5 d os))))
        have HR0 := Hid.mk7 (fun d os => Calls.regrown_of (rmove_z hA0.out hsm.out (E6.out.later (below_regrown w5 d os))))
        have HR1 := Hid.mk7 (fun d os => Calls.regrown_of (rmove_z hA1.out hsm.out (E6.out.later (below_regrown w5 d os))))
        have HBK := Hid.mk7 (fun d os => Calls.regrown_of (back_z hBK.out hsm.out (E6.out.later (below_regrown w5 d os)) (T6.out.later (below_regrown w5 d os))))
        have HRB := Hid.mk7 (fun d os => Calls.regrown_of (rback_z hBK.out hsm.out (E6.out.later (below_regrown w5 d os))))
        have HST := Hid.mk7 (fun d os => Calls.regrown_of (stays_z (z := false) (HS.out) hsm.out (E6.out.later (below_regrown w5 d os)) (T6.out.later (below_regrown w5 d os))))
        have HIV := Hid.mk7 (fun d os => Calls.regrown_of (interval_z hX.out hY.out hsm.out (E6.out.later (below_regrown w5 d os)) (T6.out.later (below_regrown w5 d os))))
        have HRI := Hid.mk7 (fun d os => Calls.regrown_of (rinterval_z hX.out hY.out hsm.out (E6.out.later (below_regrown w5 d os))))
        have qD0 := cell_regrown D6.out.c0
        have qD1 := cell_regrown D6.out.c1
        have qV0 := cell_regrown V6.out.c0
        have qV1 := cell_regrown V6.out.c1
        refine wp_region_quiet_below (by kernel_rfl) (by kernel_rfl) ?_
        repeat (go_big_quiet_step (first
          | (go_at_call_of 12 (Value.bool true); exact HM1.out _ _)
          | (go_at_call 12; exact HM0.out _ _)
          | (go_at_call_of 13 (Value.bool true); exact HR1.out _ _)
          | (go_at_call 13; exact HR0.out _ _)
          | (go_at_call 14; exact HBK.out _ _)
          | (go_at_call 15; exact HRB.out _ _)
          | (go_at_call 16; exact HST.out _ _)
          | (go_at_call 17; exact HIV.out _ _)
          | (go_at_call 18; exact HRI.out _ _)))
        refine wpQuiet_nil ?_
        intro _ hw'
        obtain ⟨⟨dq, osq⟩, hw''⟩ := hw'
        subst hw''
        have bz := below_regrown w5 dq osq
        have GZ := Hid.mk7 (G6.out.trans (bz.mono G6.out.size))
        clear bz
        go_wp2
        go_ret
        exact ⟨rfl, GZ.out⟩
    · skip
      have hi2 : isB base es = false := by simpa using hi
      have HS : Hid ((isB base es && stB es at') = false) := by show _ = _; rw [hi2, Bool.false_and]
      have Dc0 := D4.out.c0
      have Dc1 := D4.out.c1
      have Vc0 := V4.out.c0
      have Vc1 := V4.out.c1
      go_wp2_with fail
      refine (ris14_v hi2 hsm.out E4.out).mono ?_
      rintro e w5 ⟨rfl, bz⟩
      clear Dc0 Dc1 Vc0 Vc1
      have T6 := Hid.mk7 (T4.out.later bz)
      have G6 := Hid.mk7 (G4.out.trans (bz.mono G4.out.size))
      have E6 := Hid.mk7 (E4.out.later bz)
      have D6 := Hid.mk7 (D4.out.later bz)
      have V6 := Hid.mk7 (V4.out.later bz)
      clear T4 G4 E4 D4 V4 bz
      go_upto_region 8 with fail
      have HM0 := Hid.mk7 (fun d os => Calls.regrown_of (move_z hA0.out hsm.out (E6.out.later (below_regrown w5 d os)) (T6.out.later (below_regrown w5 d os))))
      have HM1 := Hid.mk7 (fun d os => Calls.regrown_of (move_z hA1.out hsm.out (E6.out.later (below_regrown w5 d os)) (T6.out.later (below_regrown w5 d os))))
      have HR0 := Hid.mk7 (fun d os => Calls.regrown_of (rmove_z hA0.out hsm.out (E6.out.later (below_regrown w5 d os))))
      have HR1 := Hid.mk7 (fun d os => Calls.regrown_of (rmove_z hA1.out hsm.out (E6.out.later (below_regrown w5 d os))))
      have HBK := Hid.mk7 (fun d os => Calls.regrown_of (back_z hBK.out hsm.out (E6.out.later (below_regrown w5 d os)) (T6.out.later (below_regrown w5 d os))))
      have HRB := Hid.mk7 (fun d os => Calls.regrown_of (rback_z hBK.out hsm.out (E6.out.later (below_regrown w5 d os))))
      have HST := Hid.mk7 (fun d os => Calls.regrown_of (stays_z (z := false) (HS.out) hsm.out (E6.out.later (below_regrown w5 d os)) (T6.out.later (below_regrown w5 d os))))
      have HIV := Hid.mk7 (fun d os => Calls.regrown_of (interval_z hX.out hY.out hsm.out (E6.out.later (below_regrown w5 d os)) (T6.out.later (below_regrown w5 d os))))
      have HRI := Hid.mk7 (fun d os => Calls.regrown_of (rinterval_z hX.out hY.out hsm.out (E6.out.later (below_regrown w5 d os))))
      have qD0 := cell_regrown D6.out.c0
      have qD1 := cell_regrown D6.out.c1
      have qV0 := cell_regrown V6.out.c0
      have qV1 := cell_regrown V6.out.c1
      refine wp_region_quiet_below (by kernel_rfl) (by kernel_rfl) ?_
      repeat (go_big_quiet_step (first
        | (go_at_call_of 12 (Value.bool true); exact HM1.out _ _)
        | (go_at_call 12; exact HM0.out _ _)
        | (go_at_call_of 13 (Value.bool true); exact HR1.out _ _)
        | (go_at_call 13; exact HR0.out _ _)
        | (go_at_call 14; exact HBK.out _ _)
        | (go_at_call 15; exact HRB.out _ _)
        | (go_at_call 16; exact HST.out _ _)
        | (go_at_call 17; exact HIV.out _ _)
        | (go_at_call 18; exact HRI.out _ _)))
      refine wpQuiet_nil ?_
      intro _ hw'
      obtain ⟨⟨dq, osq⟩, hw''⟩ := hw'
      subst hw''
      have bz := below_regrown w5 dq osq
      have GZ := Hid.mk7 (G6.out.trans (bz.mono G6.out.size))
      clear bz
      go_wp2
      go_ret
      exact ⟨rfl, GZ.out⟩
  · skip
    have hf2 : fewD base es = false := by simpa using hfw
    have Dc0 := D2.out.c0
    have Dc1 := D2.out.c1
    have Vc0 := V2.out.c0
    have Vc1 := V2.out.c1
    go_wp2_with fail
    refine (few14_v hf2 E2.out hl2).mono ?_
    rintro e w3 ⟨rfl, bz⟩
    clear Dc0 Dc1 Vc0 Vc1
    have T4 := Hid.mk7 (T2.out.later bz)
    have G4 := Hid.mk7 (G2.out.trans (bz.mono G2.out.size))
    have E4 := Hid.mk7 (E2.out.later bz)
    have D4 := Hid.mk7 (D2.out.later bz)
    have V4 := Hid.mk7 (V2.out.later bz)
    clear T2 G2 E2 D2 V2 bz
    go_wp2
    go_ret
    exact ⟨rfl, G4.out⟩
end Go.Proofs.YtelpinngimohoaaDoor
