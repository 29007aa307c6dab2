/- rope's join, Concat. -/
import Derived.Test.YtfgefdkkjfjjjabGreatDoorRpR
namespace Go.Proofs.YtfgefdkkjfjjjabGreatDoor
open Go.RowKit Go.Sort
set_option linter.unusedSimpArgs false
set_option linter.unusedVariables false

theorem get_last (E : Env) (v : Value) (ls : List ByteArray) (hI : Inv ls) (hl : ls.length ≤ 1099511627776) : ∃ s ok, (∀ W, Tr E W v ls → Calls Tryz.prog 47 #[.agg #[v], .int .i64 ((ls.length : Int) - 1)] W fun e w' => e = .returned (.tuple #[.string s, .bool ok]) ∧ Below W.heap.size W w') ∧
    cat ls = cat (ls.take (ls.length - 1)) ++ s.data.toList ∧ vld s.data.toList = true ∧ s.size ≤ 64 := by
  rcases List.eq_nil_or_concat ls with rfl | ⟨l, x, hx⟩
  · exact ⟨⟨#[]⟩, false, fun W h => tget_out E v [] _ W h (Or.inl (by simp)), rfl, rfl, by decide⟩
  · rw [List.concat_eq_append] at hx
    subst hx
    have hn : (l ++ [x]).length = l.length + 1 := by simp
    have hc := hI.1 x (by simp)
    refine ⟨x, true, fun W h => ?_, ?_, hc.1, hc.2.2⟩
    · have := tget_in E v (l ++ [x]) l.length x W h (by simp) hl
      rw [hn, show ((l.length + 1 : Nat) : Int) - 1 = (l.length : Nat) from by omega]
      exact this
    · rw [hn, show l.length + 1 - 1 = l.length from rfl, List.take_left' rfl]
      simp [cat]
theorem get_first (E : Env) (v : Value) (ls : List ByteArray) (hI : Inv ls) (hl : ls.length ≤ 1099511627776) : ∃ s ok, (∀ W, Tr E W v ls → Calls Tryz.prog 47 #[.agg #[v], .int .i64 0] W fun e w' => e = .returned (.tuple #[.string s, .bool ok]) ∧ Below W.heap.size W w') ∧
    cat ls = s.data.toList ++ cat (ls.drop 1) ∧ vld s.data.toList = true ∧ s.size ≤ 64 := by
  cases ls with
  | nil => exact ⟨⟨#[]⟩, false, fun W h => tget_out E v [] _ W h (Or.inr (by simp)), rfl, rfl, by decide⟩
  | cons x l =>
    have hc := hI.1 x (by simp)
    exact ⟨x, true, fun W h => tget_in E v (x :: l) 0 x W h (by simp) hl, by simp [cat], hc.1, hc.2.2⟩

set_option maxHeartbeats 8000000 in
set_option maxRecDepth 100000 in
/-- rope's join. -/
theorem rjoin_any (E : Env) (tb : Nat × Nat) (htab : ∀ W, E.Tb W → Tab W tb) (va vb : Value) (la lb : List ByteArray) (w : World) (hA : Tr E w va la) (hB : Tr E w vb lb) (hIa : Inv la) (hIb : Inv lb) (hza : szs la ≤ 100000) (hzb : szs lb ≤ 100000) (hD : Dt E (cat la ++ cat lb)) (hT : E.Tb w) :
    Calls Tryz.prog 20 #[.agg #[va], .agg #[vb]] w fun e w' => ∃ v' ls', e = .returned (.agg #[v']) ∧ Tr E w' v' ls' ∧ Inv ls' ∧ cat ls' = cat la ++ cat lb ∧ Below w.heap.size w w' := by
  obtain ⟨ua, rfl⟩ := hA.ptr
  obtain ⟨ub, rfl⟩ := hB.ptr
  have g0 : Below w.heap.size w (((w.alloc (Obj.cells #[.pointer ua] 43)).alloc (Obj.cells #[.pointer ub] 43)).alloc (Obj.cells #[.pointer none] 43)) := (((Below.refl _ _).alloc (Nat.le_refl _) _).alloc (by simp) _).alloc (by simp <;> omega) _
  have RA0 : Hid (Rt 43 (((w.alloc (Obj.cells #[.pointer ua] 43)).alloc (Obj.cells #[.pointer ub] 43)).alloc (Obj.cells #[.pointer none] 43)) w.heap.size #[.pointer ua]) := ((Rt.new _ w _).alloc _).alloc _
  have RB0 : Hid (Rt 43 (((w.alloc (Obj.cells #[.pointer ua] 43)).alloc (Obj.cells #[.pointer ub] 43)).alloc (Obj.cells #[.pointer none] 43)) (w.heap.size + 1) #[.pointer ub]) := (Rt.new' (by simp) _).alloc _
  have RC0 : Hid (Rt 43 (((w.alloc (Obj.cells #[.pointer ua] 43)).alloc (Obj.cells #[.pointer ub] 43)).alloc (Obj.cells #[.pointer none] 43)) (w.heap.size + 1 + 1) #[.pointer none]) := Rt.new' (by simp) _
  have TA0 := Hid.mk4 (hA.later g0)
  have TB0 := Hid.mk4 (hB.later g0)
  have hlla := szs_ge hIa.1
  have hllb := szs_ge hIb.1
  have hla : la.length ≤ 100000 := by omega
  have hlb : lb.length ≤ 100000 := by omega
  obtain ⟨sl, okl, hgl, hcl, hvl, hsl⟩ := get_last E (.pointer ua) la hIa (by omega)
  obtain ⟨sf, okf, hgf, hcf, hvf, hsf⟩ := get_first E (.pointer ub) lb hIb (by omega)
  have HGL := Hid.mk4 hgl
  have HGF := Hid.mk4 hgf
  have HCL := Hid.mk4 hcl
  have HCF := Hid.mk4 hcf
  have HVL := Hid.mk4 hvl
  have HVF := Hid.mk4 hvf
  have HIA := Hid.mk4 hIa
  have HIB := Hid.mk4 hIb
  have HD := Hid.mk4 hD
  have HZ : Hid (szs la ≤ 100000 ∧ szs lb ≤ 100000) := ⟨hza, hzb⟩
  clear hA hB hgl hgf hcl hcf hvl hvf hIa hIb hD hza hzb hlla hllb
  go_enter Tryz.func20, Tryz.ntmps20
  go_wp2
  generalize (((w.alloc (Obj.cells #[.pointer ua] 43)).alloc (Obj.cells #[.pointer ub] 43)).alloc (Obj.cells #[.pointer none] 43)) = w0 at *
  have ka := cell_regrown (RA0.out.cell 0)
  have CL : Hid (∀ d os, Calls Tryz.prog 45 #[.agg #[.pointer ua]] (grow (redrawn w0 d) os) fun e w'' => e = .returned (.int .i64 (la.length : Nat)) ∧ ∃ p : Regrown, w'' = grow (redrawn w0 p.d) p.os) := fun d os =>
    Calls.regrown_of (tlen_any E _ _ (grow (redrawn w0 d) os) (TA0.out.later (below_regrown w0 d os)))
  have CG : Hid (∀ d os, Calls Tryz.prog 47 #[.agg #[.pointer ua], .int .i64 ((la.length : Int) - 1)] (grow (redrawn w0 d) os) fun e w'' => e = .returned (.tuple #[.string sl, .bool okl]) ∧ ∃ p : Regrown, w'' = grow (redrawn w0 p.d) p.os) := fun d os =>
    Calls.regrown_of (HGL.out (grow (redrawn w0 d) os) (TA0.out.later (below_regrown w0 d os)))
  refine wp_region_quiet_below (by kernel_rfl) (by kernel_rfl) ?_
  repeat (go_big_quiet_step (first | (go_at_call 45; exact CL.out _ _) | (go_at_call 47; exact CG.out _ _)))
  refine wpQuiet_nil ?_
  intro _ hw'
  obtain ⟨⟨dq, osq⟩, hw''⟩ := hw'
  subst hw''
  have bq := below_regrown w0 dq osq
  clear ka CL CG HGL
  have RA1 := Hid.mk4 (RA0.out.later' bq)
  have RB1 := Hid.mk4 (RB0.out.later' bq)
  have RC1 := Hid.mk4 (RC0.out.later' bq)
  have TA1 := Hid.mk4 (TA0.out.later bq)
  have TB1 := Hid.mk4 (TB0.out.later bq)
  have g1 := g0.trans (bq.mono g0.size)
  clear RA0 RB0 RC0 TA0 TB0 g0 bq
  generalize grow (redrawn w0 dq) osq = w1 at *
  have cb := RB1.out.cell 0
  go_wp2_with fail
  refine (HGF.out _ TB1.out).mono ?_
  rintro e w2 ⟨rfl, b2⟩
  have RA2 := Hid.mk4 (RA1.out.later' b2)
  have RB2 := Hid.mk4 (RB1.out.later' b2)
  have RC2 := Hid.mk4 (RC1.out.later' b2)
  have TA2 := Hid.mk4 (TA1.out.later b2)
  have TB2 := Hid.mk4 (TB1.out.later b2)
  have g2 := g1.trans (b2.mono g1.size)
  clear HGF RA1 RB1 RC1 TA1 TB1 g1 b2 cb
  have hsz : (sl ++ sf).size = sl.size + sf.size := app_size _ _
  have hb3 : (sl ++ sf).size ≤ 128 := by omega
  have hla2 : la.length ≤ 1099511627776 := by omega
  have hlb2 : lb.length ≤ 1099511627776 := by omega
  go_wp2
  have ka := cell_regrown (RA2.out.cell 0)
  have kb := cell_regrown (RB2.out.cell 0)
  refine wp_region_mix [([0, 1, 5, 6, 7, 8, 9], [2]), ([3], [4]), ([], [10]), ([], [11]), ([], [12]), ([], [13])] (by kernel_rfl) (by kernel_rfl) ?_
  rintro w3 ⟨d3, rfl⟩
  refine wpPlan_cons ?_
  simp only [pickAll, pickAt, List.nil_append, List.cons_append, List.append_nil]
  repeat (go_big_quiet_step (fail))
  refine wpQuiet_nil ?_
  clear ka kb
  go_wp2_with fail
  refine (tlen_any E _ la (redrawn w2 d3) (TA2.out.later (below_redrawn w2 d3))).mono ?_
  rintro e w4 ⟨rfl, b4⟩
  have b24 : Below w2.heap.size w2 w4 := (below_redrawn w2 d3).trans b4
  clear b4
  go_wp2
  refine mixNext_below b24 ?_
  refine wpPlan_cons ?_
  simp only [pickAll, pickAt, List.nil_append, List.cons_append, List.append_nil]
  repeat (go_big_quiet_step (fail))
  refine wpQuiet_nil ?_
  go_wp2_with fail
  have hS := tslice_any E _ la 0 ((la.length : Int) - 1) 0 (la.length - 1) w4 (TA2.out.later b24) hla2 (by unfold hld; omega) (by unfold hld; omega)
  rw [show (la.drop 0).take (la.length - 1 - 0) = la.take (la.length - 1) from by simp] at hS
  refine hS.mono ?_
  clear hS
  rintro e w5 ⟨v5, rfl, ht5, b5⟩
  have HT5 := Hid.mk4 ht5
  have b25 : Below w2.heap.size w2 w5 := b24.trans (b5.mono b24.size)
  clear ht5 b5 b24
  go_wp2
  refine mixNext_below b25 ?_
  refine wpPlan_cons ?_
  simp only [pickAll, pickAt, List.nil_append, List.cons_append, List.append_nil]
  refine wpQuiet_nil ?_
  go_wp2_with fail
  refine (tlen_any E _ lb w5 (TB2.out.later b25)).mono ?_
  rintro e w6 ⟨rfl, b6⟩
  have b26 : Below w2.heap.size w2 w6 := b25.trans (b6.mono b25.size)
  have HT6 := Hid.mk4 (HT5.out.later b6)
  clear HT5 b25 b6
  go_wp2
  refine mixNext_below b26 ?_
  refine wpPlan_cons ?_
  simp only [pickAll, pickAt, List.nil_append, List.cons_append, List.append_nil]
  refine wpQuiet_nil ?_
  go_wp2_with fail
  have hS := tslice_any E _ lb 1 (lb.length : Nat) (min 1 lb.length) lb.length w6 (TB2.out.later b26) hlb2 (by unfold hld; omega) (by unfold hld; omega)
  rw [show (lb.drop (min 1 lb.length)).take (lb.length - min 1 lb.length) = lb.drop 1 from by
    rw [List.take_of_length_le (by rw [List.length_drop]; omega)]
    rcases Nat.le_total 1 lb.length with h | h
    · rw [Nat.min_eq_left h]
    · rw [Nat.min_eq_right h, List.drop_length, List.drop_of_length_le h]] at hS
  refine hS.mono ?_
  clear hS
  rintro e w7 ⟨v7, rfl, ht7, b7⟩
  have HT7 := Hid.mk4 ht7
  have b27 : Below w2.heap.size w2 w7 := b26.trans (b7.mono b26.size)
  have HT8 := Hid.mk4 (HT6.out.later b7)
  clear ht7 b7 HT6 b26
  go_wp2
  refine mixNext_below b27 ?_
  refine wpPlan_cons ?_
  simp only [pickAll, pickAt, List.nil_append, List.cons_append, List.append_nil]
  refine wpQuiet_nil ?_
  have hmid : (sl ++ sf).data.toList = sl.data.toList ++ sf.data.toList := bytes_append _ _
  have htxt : cat (la.take (la.length - 1)) ++ ((sl ++ sf).data.toList ++ cat (lb.drop 1)) = cat la ++ cat lb := by
    rw [hmid, HCL.out, HCF.out]
    simp
  have hsum : szs (la.take (la.length - 1)) + (sl ++ sf).size + szs (lb.drop 1) ≤ 1000000 := by
    have h1 := congrArg List.length htxt
    rw [List.length_append, List.length_append, List.length_append, cat_length, cat_length, cat_length, cat_length, bytes_length] at h1
    have := HZ.out
    omega
  have HWE := Hid.mk4 (weld_any E tb htab v5 v7 (la.take (la.length - 1)) (lb.drop 1) (sl ++ sf) w7 HT8.out HT7.out (HIA.out.takeBig (by rcases Nat.eq_zero_or_pos la.length with h | h; exact Or.inr (List.eq_nil_of_length_eq_zero h); exact Or.inl (by omega))) (HIB.out.dropBig 0) (by rw [hmid]; exact vld_append HVL.out HVF.out) hsum (by rw [htxt]; exact HD.out) (E.later hT (g2.trans (b27.mono g2.size))))
  rw [htxt] at HWE
  clear hmid htxt hsum
  go_wp2_with fail
  refine HWE.out.mono ?_
  rintro e w8 ⟨v8, l8, rfl, ht8, hi8, hc8, b8⟩
  obtain ⟨u8, rfl⟩ := ht8.ptr
  have HX8 := Hid.mk4 ht8
  have HI8 := Hid.mk4 hi8
  have HC8 := Hid.mk4 hc8
  have b28 : Below w2.heap.size w2 w8 := b27.trans (b8.mono b27.size)
  clear ht8 hi8 hc8 b8 b27 HWE HT7 HT8
  go_wp2
  refine mixNext_below b28 ?_
  refine wpPlan_cons ?_
  simp only [pickAll, pickAt, List.nil_append, List.cons_append, List.append_nil]
  refine wpQuiet_nil ?_
  have QC := Hid.mk4 (RC2.out.later' b28)
  have gq := g2.trans (b28.mono g2.size)
  have fz := QC.out.fz
  have cz := QC.out.cell 0
  have hlt := QC.out.lt
  clear RA2 RB2 RC2 TA2 TB2 g2 b28
  go_wp2
  refine mixNext_last ?_
  have gz : Below w.heap.size w (w8.setCell ⟨w.heap.size + 1 + 1, 0, none⟩ (.pointer u8)) := gq.setCell (p := ⟨w.heap.size + 1 + 1, 0, none⟩) (by simp <;> omega) _
  have HTZ := Hid.mk4 (HX8.out.putT QC.out (.pointer u8))
  have HRZ := Hid.mk4 (QC.out.set1 (.pointer u8))
  clear QC gq fz cz hlt HX8
  generalize w8.setCell ⟨w.heap.size + 1 + 1, 0, none⟩ (.pointer u8) = w12 at *
  go_wp2
  refine bodyPost_ret (results_tree rfl _ _ (w.heap.size + 1 + 1) _ rfl HRZ.out) rfl ⟨_, l8, rfl, HTZ.out, HI8.out, HC8.out, gz⟩

set_option maxHeartbeats 4000000 in
set_option maxRecDepth 100000 in
/-- Concat. -/
theorem mcat_ok (E : Env) (tb : Nat × Nat) (htab : ∀ W, E.Tb W → Tab W tb) (r o : Value) (T U : List UInt8) (w : World) (h : RpA E w r T) (h' : RpA E w o U) (hl : T.length + U.length ≤ 20000) (hD : Dt E (T ++ U)) (hT : E.Tb w) :
    Calls Tryz.prog 6 #[r, o] w fun e w' => ∃ r', e = .returned (.tuple #[r', .int .i64 0]) ∧ RpA E w' r' (T ++ U) ∧ Below w.heap.size w w' := by
  obtain ⟨g, ls, hr, hR, hT'⟩ := h
  obtain ⟨g', ls', hr', hR', hU'⟩ := h'
  clear hr hr'
  subst hT' hU'
  rw [cat_length, cat_length] at hl
  have H1 : Hid (∀ W, Below w.heap.size w W → Calls Tryz.prog 19 #[r] W fun e w' => e = .returned (.int .i64 (szs ls : Nat)) ∧ Below W.heap.size W w') := fun W hW => len_any E r ls W (hR.later hW) (by omega)
  have H2 : Hid (∀ W, Below w.heap.size w W → Calls Tryz.prog 19 #[o] W fun e w' => e = .returned (.int .i64 (szs ls' : Nat)) ∧ Below W.heap.size W w') := fun W hW => len_any E o ls' W (hR'.later hW) (by omega)
  have hcmp : decide ((20000 : Int) < (szs ls : Int) + (szs ls' : Int)) = false := by simp; omega
  have HZ : Hid (szs ls ≤ 100000 ∧ szs ls' ≤ 100000) := ⟨by omega, by omega⟩
  have hb1 : szs ls ≤ 20000 := by omega
  have hb2 : szs ls' ≤ 20000 := by omega
  obtain ⟨u, a1, a2, a3⟩ := hR
  obtain ⟨u', c1, c2, c3⟩ := hR'
  have A1 := Hid.mk4 a1
  have A2 := Hid.mk4 a2
  have A3 := Hid.mk4 a3
  have C1 := Hid.mk4 c1
  have C2 := Hid.mk4 c2
  have C3 := Hid.mk4 c3
  have HD := Hid.mk4 hD
  clear a1 a2 a3 c1 c2 c3 hD hl
  go_enter Tryz.func6, Tryz.ntmps6
  go_wp2_with fail
  refine (H1.out _ (Below.refl _ _)).mono ?_
  rintro e w1 ⟨rfl, b1⟩
  clear H1
  go_wp2_with fail
  refine (H2.out _ b1).mono ?_
  rintro e w2 ⟨rfl, b2⟩
  have g2 := b1.trans (b2.mono b1.size)
  have HO := Hid.mk4 (rowof_any r u w2 (A1.out.later g2))
  clear H2 b1 b2
  go_wp2_with fail
  refine HO.out.mono ?_
  rintro e w3 ⟨rfl, b3⟩
  have g3 := g2.trans (b3.mono g2.size)
  have HO2 := Hid.mk4 (rowof_any o u' w3 (C1.out.later g3))
  clear HO b3 g2
  go_wp2_with fail
  refine HO2.out.mono ?_
  rintro e w4 ⟨rfl, b4⟩
  have g4 := g3.trans (b4.mono g3.size)
  have HJ := Hid.mk4 (rjoin_any E tb htab (.pointer u) (.pointer u') ls ls' w4 (A2.out.later g4) (C2.out.later g4) A3.out C3.out HZ.out.1 HZ.out.2 HD.out (E.later hT g4))
  clear HO2 b4 g3
  go_wp2_with fail
  refine HJ.out.mono ?_
  rintro e w5 ⟨v5, l5, rfl, ht5, hi5, hc5, b5⟩
  obtain ⟨u5, rfl⟩ := ht5.ptr
  have HT5 := Hid.mk4 ht5
  have HI5 := Hid.mk4 hi5
  have HC5 := Hid.mk4 hc5
  have g5 := g4.trans (b5.mono g4.size)
  clear HJ ht5 hi5 hc5 b5 g4
  go_wp2
  go_ret2
  exact ⟨_, rfl, by rw [← HC5.out]; exact rp_box HT5.out HI5.out, g5.alloc g5.size _⟩
end Go.Proofs.YtfgefdkkjfjjjabGreatDoor
