/- The reference's Ordered. -/
import Derived.Test.YtpfkidcaolfcoaaDoorDelHelp
namespace Go.Proofs.YtpfkidcaolfcoaaDoor
open Go.RowKit Go.Sort Go.Lib
set_option linter.unusedSimpArgs false
set_option linter.unusedVariables false

set_option maxHeartbeats 4000000 in
set_option maxRecDepth 100000 in
theorem rordered_any {w : World} {v : Value} {l : List El} (h : ElAt w v l) (hl : l.length ≤ 281474976710656) (hw : ∀ e ∈ l, e.1 ≤ e.2.1) :
    Calls Tryd.prog 34 #[v] w fun e w' => e = .returned (.bool (ordB l)) ∧ RowKit.Below w.heap.size w w' := by
  obtain ⟨a, cap, rfl, hcap, _, hcells⟩ := h
  have HC := Hid.mk7 hcells
  clear hcells
  go_enter Tryd.func34, Tryd.ntmps34
  go_wp2
  go_loopw [3] (fun iv wr => ∃ j : Nat, (j + 1 ≤ l.length ∨ j = 0) ∧ iv = .int .i64 ((j : Int) + 1) ∧ Hid (ordB l = ordB (l.drop j)) ∧ RowKit.Below w.heap.size w wr) (fun iv _ => l.length + 1 - (intOf iv).toNat)
  case atStart => exact ⟨0, Or.inr rfl, rfl, rfl, RowKit.Below.refl _ _⟩
  case round =>
    obtain ⟨j, hj, rfl, HO, hb⟩ := hrel
    by_cases hlt : j + 1 < l.length
    · obtain ⟨⟨f, t, T⟩, hr⟩ : ∃ r, l[j]? = some r := ⟨l[j], List.getElem?_eq_getElem (by omega)⟩
      obtain ⟨⟨f', t', T'⟩, hq⟩ : ∃ r, l[j + 1]? = some r := ⟨l[j + 1], List.getElem?_eq_getElem hlt⟩
      obtain ⟨g, off, rfl, q0, q1, q2⟩ := HC.out j _ hr
      obtain ⟨g', off', he', q3, q4, q5⟩ := HC.out (j + 1) _ hq
      cases he'
      have c0 := cell_regrown (cell_later7 hb (Nat.le_refl _) q0)
      have c1 := cell_regrown (cell_later7 hb (Nat.le_refl _) q1)
      have c2 := cell_regrown (cell_later7 hb (Nat.le_refl _) q2)
      have c3 := cell_regrown (cell_later7 hb (Nat.le_refl _) q3)
      have c4 := cell_regrown (cell_later7 hb (Nat.le_refl _) q4)
      have c5 := cell_regrown (cell_later7 hb (Nat.le_refl _) q5)
      simp only at c0 c1 c2 c3 c4 c5
      have HST := Hid.mk7 (ordB_step hr hq)
      have hft := hw _ (List.mem_of_getElem? hr)
      simp only at hft
      have hi1 : (j : Int) + 1 < (l.length : Int) := by omega
      clear q0 q1 q2 q3 q4 q5 hr hq hj
      generalize cacc T = s at *
      generalize cacc T' = s' at *
      go_upto_region 4 with fail
      go_cut [4, 5] from 12 to 20 (fun s4 s5 wx => ∃ b4 b5, s4 = .pointer (some ⟨b4, 0, none⟩) ∧ s5 = .pointer (some ⟨b5, 0, none⟩) ∧ Hid (Rc wx b4 (.int .i64 f) (.int .i64 t) (.string s)) ∧ Hid (Rc wx b5 (.int .i64 f') (.int .i64 t') (.string s')) ∧ Hid (RowKit.Below w.heap.size w wx))
      case first =>
        refine wp_region_turns (fun w' => ∃ p : Regrown, w' = grow (redrawn wr p.d) p.os) [0, 1, 2, 3, 4, 5, 6, 7, 8] 12 4 (by kernel_rfl) (by kernel_rfl) (fun d => ⟨⟨d, #[]⟩, by rw [grow_empty]⟩) ?_
        intro d
        have bd := below_redrawnE wr d
        simp only [pickAll, pickAt, List.nil_append, List.cons_append, List.append_nil]
        repeat (go_big_quiet_step (fail))
        refine wpQuiet_nil ?_
        clear c0 c1 c2 c3 c4 c5
        generalize redrawn wr d = W0 at *
        refine anyC_pick2 9 10 (by kernel_rfl) (by kernel_rfl) (by kernel_rfl) ?_ ?_
        · simp only [pickAll, pickAt, List.nil_append, List.cons_append, List.append_nil]
          go_wp2
          have b1 := bd.alloc bd.size (.cells #[.int .i64 0, .int .i64 0, .string ⟨#[]⟩] 47)
          have Va := Hid.mk7 (Rc.new W0 (.int .i64 0) (.int .i64 0) (.string ⟨#[]⟩))
          refine anyNext_belowE b1 ?_
          refine anyC_pick1 10 (by kernel_rfl) (by kernel_rfl) ?_
          simp only [pickAll, pickAt, List.nil_append, List.cons_append, List.append_nil]
          have hsz := bd.size
          generalize hba : W0.heap.size = ba at *
          have hlt1 : ba < (W0.alloc (.cells #[.int .i64 0, .int .i64 0, .string ⟨#[]⟩] 47)).heap.size := by rw [← hba]; simp
          generalize W0.alloc (.cells #[.int .i64 0, .int .i64 0, .string ⟨#[]⟩] 47) = W1 at *
          go_wp2
          have b2 := b1.alloc b1.size (.cells #[.int .i64 0, .int .i64 0, .string ⟨#[]⟩] 47)
          have Vb := Hid.mk7 (Rc.new W1 (.int .i64 0) (.int .i64 0) (.string ⟨#[]⟩))
          have Va2 := Hid.mk7 (Va.out.alloc (.cells #[.int .i64 0, .int .i64 0, .string ⟨#[]⟩] 47))
          have hsz1 := b1.size
          refine anyNext_belowE b2 ?_
          refine anyC_pick1 11 (by kernel_rfl) (by kernel_rfl) ?_
          simp only [pickAll, pickAt, List.nil_append, List.cons_append, List.append_nil]
          generalize hbb : W1.heap.size = bb at *
          generalize W1.alloc (.cells #[.int .i64 0, .int .i64 0, .string ⟨#[]⟩] 47) = W2 at *
          clear Va b1 hbb hba bd
          have fz := Va2.out.fz
          have hlt := Va2.out.lt
          have e0 := Va2.out.c0
          have e1 := Va2.out.c1
          have e2 := Va2.out.c2
          go_wp2
          have b3 := below_set3 b2 (g := ba) (by omega) (.int .i64 f) (.int .i64 t) (.string s)
          have V4 := Hid.mk7 (Va2.out.set (.int .i64 f) (.int .i64 t) (.string s))
          have V5 := Hid.mk7 (Vb.out.other (g' := ba) (by omega) (.int .i64 f) (.int .i64 t) (.string s))
          refine anyNext_belowE b3 ?_
          refine anyC_pick1 12 (by kernel_rfl) (by kernel_rfl) ?_
          simp only [pickAll, pickAt, List.nil_append, List.cons_append, List.append_nil]
          clear fz hlt e0 e1 e2 Va2 Vb b2
          generalize ((W2.setCell ⟨ba, 0, none⟩ (.int .i64 f)).setCell ⟨ba, 1, none⟩ (.int .i64 t)).setCell ⟨ba, 2, none⟩ (.string s) = W3 at *
          have fz := V5.out.fz
          have hlt := V5.out.lt
          have e0 := V5.out.c0
          have e1 := V5.out.c1
          have e2 := V5.out.c2
          go_wp2
          have b4 := below_set3 b3 (g := bb) (by omega) (.int .i64 f') (.int .i64 t') (.string s')
          have V5' := Hid.mk7 (V5.out.set (.int .i64 f') (.int .i64 t') (.string s'))
          have V4' := Hid.mk7 (V4.out.other (g' := bb) (by omega) (.int .i64 f') (.int .i64 t') (.string s'))
          refine anyNext_last (anyC_done (by kernel_rfl) ?_)
          go_wp2
          go_meet
          exact ⟨ba, bb, rfl, rfl, V4', V5', hb.trans (b4.mono hb.size)⟩
        · simp only [pickAll, pickAt, List.nil_append, List.cons_append, List.append_nil]
          go_wp2
          have b1 := bd.alloc bd.size (.cells #[.int .i64 0, .int .i64 0, .string ⟨#[]⟩] 47)
          have Va := Hid.mk7 (Rc.new W0 (.int .i64 0) (.int .i64 0) (.string ⟨#[]⟩))
          refine anyNext_belowE b1 ?_
          refine anyC_pick1 9 (by kernel_rfl) (by kernel_rfl) ?_
          simp only [pickAll, pickAt, List.nil_append, List.cons_append, List.append_nil]
          have hsz := bd.size
          generalize hba : W0.heap.size = ba at *
          have hlt1 : ba < (W0.alloc (.cells #[.int .i64 0, .int .i64 0, .string ⟨#[]⟩] 47)).heap.size := by rw [← hba]; simp
          generalize W0.alloc (.cells #[.int .i64 0, .int .i64 0, .string ⟨#[]⟩] 47) = W1 at *
          go_wp2
          have b2 := b1.alloc b1.size (.cells #[.int .i64 0, .int .i64 0, .string ⟨#[]⟩] 47)
          have Vb := Hid.mk7 (Rc.new W1 (.int .i64 0) (.int .i64 0) (.string ⟨#[]⟩))
          have Va2 := Hid.mk7 (Va.out.alloc (.cells #[.int .i64 0, .int .i64 0, .string ⟨#[]⟩] 47))
          have hsz1 := b1.size
          refine anyNext_belowE b2 ?_
          refine anyC_pick1 11 (by kernel_rfl) (by kernel_rfl) ?_
          simp only [pickAll, pickAt, List.nil_append, List.cons_append, List.append_nil]
          generalize hbb : W1.heap.size = bb at *
          generalize W1.alloc (.cells #[.int .i64 0, .int .i64 0, .string ⟨#[]⟩] 47) = W2 at *
          clear Va b1 hbb hba bd
          have fz := Vb.out.fz
          have hlt := Vb.out.lt
          have e0 := Vb.out.c0
          have e1 := Vb.out.c1
          have e2 := Vb.out.c2
          go_wp2
          have b3 := below_set3 b2 (g := bb) (by omega) (.int .i64 f) (.int .i64 t) (.string s)
          have V4 := Hid.mk7 (Vb.out.set (.int .i64 f) (.int .i64 t) (.string s))
          have V5 := Hid.mk7 (Va2.out.other (g' := bb) (by omega) (.int .i64 f) (.int .i64 t) (.string s))
          refine anyNext_belowE b3 ?_
          refine anyC_pick1 12 (by kernel_rfl) (by kernel_rfl) ?_
          simp only [pickAll, pickAt, List.nil_append, List.cons_append, List.append_nil]
          clear fz hlt e0 e1 e2 Va2 Vb b2
          generalize ((W2.setCell ⟨bb, 0, none⟩ (.int .i64 f)).setCell ⟨bb, 1, none⟩ (.int .i64 t)).setCell ⟨bb, 2, none⟩ (.string s) = W3 at *
          have fz := V5.out.fz
          have hlt := V5.out.lt
          have e0 := V5.out.c0
          have e1 := V5.out.c1
          have e2 := V5.out.c2
          go_wp2
          have b4 := below_set3 b3 (g := ba) (by omega) (.int .i64 f') (.int .i64 t') (.string s')
          have V5' := Hid.mk7 (V5.out.set (.int .i64 f') (.int .i64 t') (.string s'))
          have V4' := Hid.mk7 (V4.out.other (g' := ba) (by omega) (.int .i64 f') (.int .i64 t') (.string s'))
          refine anyNext_last (anyC_done (by kernel_rfl) ?_)
          go_wp2
          go_meet
          exact ⟨bb, ba, rfl, rfl, V4', V5', hb.trans (b4.mono hb.size)⟩
      case rest =>
        obtain ⟨b4, b5, rfl, rfl, R4, R5, HBX⟩ := hcut
        have d0 := R4.out.c0
        have d1 := R4.out.c1
        have d3 := R5.out.c0
        clear c0 c1 c2 c3 c4 c5 hb
        by_cases h1 : f' < t
        · have HF : Hid (ordB l = false) := by
            show _ = _
            rw [HO.out, HST.out]
            unfold ordE
            rw [decide_eq_false (by simp only; omega), Bool.false_and]
          go_wp2
          go_ret
          exact ⟨ret_boolE HF.out.symm, HBX.out⟩
        · by_cases h2 : f' = f
          · have h3 : f' = t := by omega
            have HF : Hid (ordB l = false) := by
              show _ = _
              rw [HO.out, HST.out]
              unfold ordE
              rw [decide_eq_false (by simp only; omega), Bool.false_and]
            have n1 : decide (f' < t) = false := decide_eq_false h1
            have e1 : (f' == f) = true := by simpa using h2
            have e3 : (f == t) = true := by have : f = t := by omega
                                            simpa using this
            have g1 : decide (f' = f) = true := decide_eq_true h2
            have g3 : decide (f = t) = true := decide_eq_true (by omega)
            have hq2 : f = t := by omega
            subst hq2
            subst h2
            clear h3 hft
            go_wp2
            go_ret
            exact ⟨ret_boolE HF.out.symm, HBX.out⟩
          · have HO2 : Hid (ordB l = ordB (l.drop (j + 1))) := by
              show _ = _
              rw [HO.out, HST.out]
              unfold ordE
              rw [decide_eq_true (by simp only; omega), Bool.true_and]
            have e1 : (f' == f) = false := by simpa using h2
            have e2 : decide (f' = f) = false := by simpa using h2
            go_wp2
            go_roundw
            case rel => exact ⟨j + 1, Or.inl (by omega), by go_num, HO2, HBX.out⟩
            case measure => simp [intOf]; omega
    · have HF : Hid (ordB l = true) := by show _ = _; rw [HO.out]; exact ordB_one (by omega)
      go_wp2
      go_ret
      exact ⟨ret_boolE HF.out.symm, hb⟩
end Go.Proofs.YtpfkidcaolfcoaaDoor
