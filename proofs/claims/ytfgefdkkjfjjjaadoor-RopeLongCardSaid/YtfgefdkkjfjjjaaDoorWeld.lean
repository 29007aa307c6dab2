/- weld. -/
import Derived.Test.YtfgefdkkjfjjjaaDoorPiece
namespace Go.Proofs.YtfgefdkkjfjjjaaDoor
open Go.RowKit Go.Sort
set_option linter.unusedSimpArgs false
set_option linter.unusedVariables false

theorem Big.szs_le {ls : List ByteArray} (h : Big ls) : ls.length ≤ szs ls := szs_ge fun s hs => (h s hs).1
theorem app_size (a b : ByteArray) : (a ++ b).size = a.size + b.size := by simp

set_option maxHeartbeats 8000000 in
set_option maxRecDepth 100000 in
theorem weld_eLe (E : Env) (tb : Nat × Nat) (htab : ∀ W, E.Tb W → Tab W tb) (ua ub : Option Addr) (s : ByteArray) (w : World) (hA : Tr E w (.pointer ua) []) (hB : Tr E w (.pointer ub) []) (ha : Big []) (hb : Big []) (hv : vld s.data.toList = true) (hsz : szs [] + s.size + szs [] ≤ 1000000) (hD : Dt E (cat [] ++ (s.data.toList ++ cat []))) (hT : E.Tb w) (hsh : 29 ≤ s.size) :
    Calls Tryd.prog 43 #[.agg #[.pointer ua], .string s, .agg #[.pointer ub]] w fun e w' => ∃ v ls, e = .returned (.agg #[v]) ∧ Tr E w' v ls ∧ Inv ls ∧ cat ls = cat [] ++ (s.data.toList ++ cat []) ∧ Below w.heap.size w w' := by
  have g0 : Below w.heap.size w (((w.alloc (Obj.cells #[.pointer ua] 61)).alloc (Obj.cells #[.pointer ub] 61)).alloc (Obj.cells #[.pointer none] 61)) := (((Below.refl _ _).alloc (Nat.le_refl _) _).alloc (by simp) _).alloc (by simp <;> omega) _
  have RA0 : Hid (Rt 61 (((w.alloc (Obj.cells #[.pointer ua] 61)).alloc (Obj.cells #[.pointer ub] 61)).alloc (Obj.cells #[.pointer none] 61)) w.heap.size #[.pointer ua]) := ((Rt.new _ w _).alloc _).alloc _
  have RB0 : Hid (Rt 61 (((w.alloc (Obj.cells #[.pointer ua] 61)).alloc (Obj.cells #[.pointer ub] 61)).alloc (Obj.cells #[.pointer none] 61)) (w.heap.size + 1) #[.pointer ub]) := (Rt.new' (by simp) _).alloc _
  have RC0 : Hid (Rt 61 (((w.alloc (Obj.cells #[.pointer ua] 61)).alloc (Obj.cells #[.pointer ub] 61)).alloc (Obj.cells #[.pointer none] 61)) (w.heap.size + 1 + 1) #[.pointer none]) := Rt.new' (by simp) _
  have TA0 := Hid.mk4 (hA.later g0)
  have TB0 := Hid.mk4 (hB.later g0)
  have HA := Hid.mk4 ha
  have HB := Hid.mk4 hb
  have HV := Hid.mk4 hv
  have HD := Hid.mk4 hD
  have hll : [].length ≤ szs [] ∧ [].length ≤ szs [] := ⟨ha.szs_le, hb.szs_le⟩
  have HSZ := Hid.mk4 hsz
  have HLL := Hid.mk4 hll
  have hss : s.size ≤ 1000000 := by omega
  clear hA hB ha hb hv hD hsz hll
  have t1 : decide ((s.size : Int) < 29) = false := by simp; omega
  have t2 : decide (s.size < 29) = false := by simp; omega
  go_enter Tryd.func43, Tryd.ntmps43
  go_wp2
  generalize (((w.alloc (Obj.cells #[.pointer ua] 61)).alloc (Obj.cells #[.pointer ub] 61)).alloc (Obj.cells #[.pointer none] 61)) = w0 at *
  have ka := cell_regrown (RA0.out.cell 0)
  have CL : Hid (∀ d os, Calls Tryd.prog 35 #[.agg #[.pointer ua]] (grow (redrawn w0 d) os) fun e w'' => e = .returned (.int .i64 0) ∧ ∃ p : Regrown, w'' = grow (redrawn w0 p.d) p.os) := fun d os =>
    Calls.regrown_of (by have := tlen_any E _ _ (grow (redrawn w0 d) os) (TA0.out.later (below_regrown w0 d os)); simpa using this)
  have CG : Hid (∀ d os, Calls Tryd.prog 45 #[.agg #[.pointer ua], .int .i64 (-1)] (grow (redrawn w0 d) os) fun e w'' => e = .returned (.tuple #[.string ⟨#[]⟩, .bool false]) ∧ ∃ p : Regrown, w'' = grow (redrawn w0 p.d) p.os) := fun d os =>
    Calls.regrown_of (tget_out E _ _ (-1) (grow (redrawn w0 d) os) (TA0.out.later (below_regrown w0 d os)) (Or.inl (by omega)))
  refine wp_region_quiet_below (by kernel_rfl) (by kernel_rfl) ?_
  repeat (go_big_quiet_step (first | (go_at_call 35; exact CL.out _ _) | (go_at_call 45; exact CG.out _ _)))
  refine wpQuiet_nil ?_
  intro _ hw'
  obtain ⟨⟨dq, osq⟩, hw''⟩ := hw'
  subst hw''
  have bq := below_regrown w0 dq osq
  clear ka CL CG
  have RA1 := Hid.mk4 (RA0.out.later' bq)
  have RB1 := Hid.mk4 (RB0.out.later' bq)
  have RC1 := Hid.mk4 (RC0.out.later' bq)
  have TA1 := Hid.mk4 (TA0.out.later bq)
  have TB1 := Hid.mk4 (TB0.out.later bq)
  have g1 := g0.trans (bq.mono g0.size)
  clear RA0 RB0 RC0 TA0 TB0 g0 bq
  generalize grow (redrawn w0 dq) osq = w1 at *
  have cb := RB1.out.cell 0
  have CG2 : Hid (Calls Tryd.prog 45 #[.agg #[.pointer ub], .int .i64 0] w1 fun e w' => e = .returned (.tuple #[.string ⟨#[]⟩, .bool false]) ∧ Below w1.heap.size w1 w') := tget_out E _ _ 0 w1 TB1.out (Or.inr (by simp))
  go_wp2_with fail
  refine CG2.out.mono ?_
  clear CG2
  rintro e w4 ⟨rfl, b4⟩
  clear cb
  have RA4 := Hid.mk4 (RA1.out.later' b4)
  have RB4 := Hid.mk4 (RB1.out.later' b4)
  have RC4 := Hid.mk4 (RC1.out.later' b4)
  have TA4 := Hid.mk4 (TA1.out.later b4)
  have TB4 := Hid.mk4 (TB1.out.later b4)
  have g4 := g1.trans (b4.mono g1.size)
  clear RA1 RB1 RC1 TA1 TB1 g1 b4
  have HVS : Hid (vld s.data.toList = true) := HV.out
  have hs2b : s.size ≤ 1099511627776 := by omega
  have HLB : Hid (([] : List ByteArray).length + s.size + ([] : List ByteArray).length ≤ 1000000) := by
    have h1 := HLL.out
    have h2 := HSZ.out
    show _ ≤ _
    simp at h1 ⊢
    omega
  have hTb := E.later hT g4
  go_wp2
  have ka := cell_regrown (RA4.out.cell 0)
  have kb := cell_regrown (RB4.out.cell 0)
  refine wp_region_mix [([0, 1, 5], [2]), ([], [3]), ([], [4]), ([], [6]), ([], [7])] (by kernel_rfl) (by kernel_rfl) ?_
  rintro w7 ⟨d7, rfl⟩
  refine wpPlan_cons ?_
  simp only [pickAll, pickAt, List.nil_append, List.cons_append, List.append_nil]
  repeat (go_big_quiet_step (fail))
  refine wpQuiet_nil ?_
  clear ka kb
  go_wp2_with fail
  refine (pieces_any s (redrawn w4 d7) tb hs2b HVS.out (htab _ (E.later hTb (below_redrawn w4 d7)))).mono ?_
  rintro e w8 ⟨v8, lp, rfl, hst, hlp, hpc, b8⟩
  have HST := Hid.mk4 hst
  have HPC := Hid.mk4 hpc
  have b18 : Below w4.heap.size w4 w8 := (below_redrawn w4 d7).trans b8
  have hw0 := weld_inv (E := E) (la := []) (lb := []) HA.out HB.out hpc (Or.inl (by rw [bytes_length]; exact hsh)) HD.out
  have HW := Hid.mk4 hw0
  clear hw0
  have hlp2 : lp.length ≤ 1099511627776 - 2000000 := by
    have h1 := szs_ge hpc.2.1
    rw [← cat_length, hpc.1, bytes_length] at h1
    omega
  clear hst hpc b8
  go_wp2
  refine mixNext_below b18 ?_
  refine wpPlan_cons ?_
  simp only [pickAll, pickAt, List.nil_append, List.cons_append, List.append_nil]
  refine wpQuiet_nil ?_
  go_wp2_with fail
  refine (tof_any E v8 lp w8 HST.out hlp HW.out.2.2 (E.later hTb b18)).mono ?_
  rintro e w9 ⟨v9, rfl, ht9, b9⟩
  have HT9 := Hid.mk4 ht9
  have b19 : Below w4.heap.size w4 w9 := b18.trans (b9.mono b18.size)
  clear ht9 b9 b18 HST
  go_wp2
  refine mixNext_below b19 ?_
  refine wpPlan_cons ?_
  simp only [pickAll, pickAt, List.nil_append, List.cons_append, List.append_nil]
  refine wpQuiet_nil ?_
  go_wp2_with fail
  refine (tjoin_any E _ _ _ _ w9 (TA4.out.later b19) HT9.out (by have := HLB.out; omega)).mono ?_
  rintro e w10 ⟨v10, rfl, ht10, b10⟩
  have HT10 := Hid.mk4 ht10
  have b110 : Below w4.heap.size w4 w10 := b19.trans (b10.mono b19.size)
  clear ht10 b10 b19 HT9
  go_wp2
  refine mixNext_below b110 ?_
  refine wpPlan_cons ?_
  simp only [pickAll, pickAt, List.nil_append, List.cons_append, List.append_nil]
  refine wpQuiet_nil ?_
  go_wp2_with fail
  refine (tjoin_any E _ _ _ _ w10 HT10.out (TB4.out.later b110) (by have := HLB.out; rw [List.length_append]; omega)).mono ?_
  rintro e w11 ⟨v11, rfl, ht11, b11⟩
  obtain ⟨u11, rfl⟩ := ht11.ptr
  have HT11 := Hid.mk4 ht11
  have b111 : Below w4.heap.size w4 w11 := b110.trans (b11.mono b110.size)
  clear ht11 b11 b110 HT10
  go_wp2
  refine mixNext_below b111 ?_
  refine wpPlan_cons ?_
  simp only [pickAll, pickAt, List.nil_append, List.cons_append, List.append_nil]
  refine wpQuiet_nil ?_
  have QC := Hid.mk4 (RC4.out.later' b111)
  have gq := g4.trans (b111.mono g4.size)
  have fz := QC.out.fz
  have cz := QC.out.cell 0
  have hlt := QC.out.lt
  clear RA4 RB4 RC4 TA4 TB4 g4 b111
  go_wp2
  refine mixNext_last ?_
  have gz : Below w.heap.size w (w11.setCell ⟨w.heap.size + 1 + 1, 0, none⟩ (.pointer u11)) := gq.setCell (p := ⟨w.heap.size + 1 + 1, 0, none⟩) (by simp; omega) _
  have HTZ := Hid.mk4 (HT11.out.putT QC.out (.pointer u11))
  have HRZ := Hid.mk4 (QC.out.set1 (.pointer u11))
  clear QC gq fz cz hlt HT11
  generalize w11.setCell ⟨w.heap.size + 1 + 1, 0, none⟩ (.pointer u11) = w12 at *
  go_wp2
  refine bodyPost_ret (results_tree rfl _ _ (w.heap.size + 1 + 1) _ rfl HRZ.out) rfl ⟨_, _, rfl, by have := HTZ.out; rwa [List.append_assoc] at this, HW.out.1, HW.out.2.1, gz⟩

set_option maxHeartbeats 8000000 in
set_option maxRecDepth 100000 in
theorem weld_eLn (E : Env) (tb : Nat × Nat) (htab : ∀ W, E.Tb W → Tab W tb) (ua ub : Option Addr) (ly : List ByteArray) (y : ByteArray) (s : ByteArray) (w : World) (hA : Tr E w (.pointer ua) []) (hB : Tr E w (.pointer ub) (y :: ly)) (ha : Big []) (hb : Big (y :: ly)) (hv : vld s.data.toList = true) (hsz : szs [] + s.size + szs (y :: ly) ≤ 1000000) (hD : Dt E (cat [] ++ (s.data.toList ++ cat (y :: ly)))) (hT : E.Tb w) (hsh : 29 ≤ s.size) :
    Calls Tryd.prog 43 #[.agg #[.pointer ua], .string s, .agg #[.pointer ub]] w fun e w' => ∃ v ls, e = .returned (.agg #[v]) ∧ Tr E w' v ls ∧ Inv ls ∧ cat ls = cat [] ++ (s.data.toList ++ cat (y :: ly)) ∧ Below w.heap.size w w' := by
  have g0 : Below w.heap.size w (((w.alloc (Obj.cells #[.pointer ua] 61)).alloc (Obj.cells #[.pointer ub] 61)).alloc (Obj.cells #[.pointer none] 61)) := (((Below.refl _ _).alloc (Nat.le_refl _) _).alloc (by simp) _).alloc (by simp <;> omega) _
  have RA0 : Hid (Rt 61 (((w.alloc (Obj.cells #[.pointer ua] 61)).alloc (Obj.cells #[.pointer ub] 61)).alloc (Obj.cells #[.pointer none] 61)) w.heap.size #[.pointer ua]) := ((Rt.new _ w _).alloc _).alloc _
  have RB0 : Hid (Rt 61 (((w.alloc (Obj.cells #[.pointer ua] 61)).alloc (Obj.cells #[.pointer ub] 61)).alloc (Obj.cells #[.pointer none] 61)) (w.heap.size + 1) #[.pointer ub]) := (Rt.new' (by simp) _).alloc _
  have RC0 : Hid (Rt 61 (((w.alloc (Obj.cells #[.pointer ua] 61)).alloc (Obj.cells #[.pointer ub] 61)).alloc (Obj.cells #[.pointer none] 61)) (w.heap.size + 1 + 1) #[.pointer none]) := Rt.new' (by simp) _
  have TA0 := Hid.mk4 (hA.later g0)
  have TB0 := Hid.mk4 (hB.later g0)
  have HA := Hid.mk4 ha
  have HB := Hid.mk4 hb
  have HV := Hid.mk4 hv
  have HD := Hid.mk4 hD
  have hll : [].length ≤ szs [] ∧ (y :: ly).length ≤ szs (y :: ly) := ⟨ha.szs_le, hb.szs_le⟩
  have HSZ := Hid.mk4 hsz
  have HLL := Hid.mk4 hll
  have hss : s.size ≤ 1000000 := by omega
  obtain ⟨k, hk⟩ : ∃ k, ly.length = k := ⟨_, rfl⟩
  have HK := Hid.mk4 hk
  have hkb : k ≤ 1000000 := by simp at hll; omega
  have hys : 29 ≤ y.size ∧ y.size ≤ 64 := ⟨(hb y (by simp)).2, (hb y (by simp)).1.2.2⟩
  clear hA hB ha hb hv hD hsz hll hk
  have t1 : decide ((s.size : Int) < 29) = false := by simp; omega
  have t2 : decide (s.size < 29) = false := by simp; omega
  go_enter Tryd.func43, Tryd.ntmps43
  go_wp2
  generalize (((w.alloc (Obj.cells #[.pointer ua] 61)).alloc (Obj.cells #[.pointer ub] 61)).alloc (Obj.cells #[.pointer none] 61)) = w0 at *
  have ka := cell_regrown (RA0.out.cell 0)
  have CL : Hid (∀ d os, Calls Tryd.prog 35 #[.agg #[.pointer ua]] (grow (redrawn w0 d) os) fun e w'' => e = .returned (.int .i64 0) ∧ ∃ p : Regrown, w'' = grow (redrawn w0 p.d) p.os) := fun d os =>
    Calls.regrown_of (by have := tlen_any E _ _ (grow (redrawn w0 d) os) (TA0.out.later (below_regrown w0 d os)); simpa using this)
  have CG : Hid (∀ d os, Calls Tryd.prog 45 #[.agg #[.pointer ua], .int .i64 (-1)] (grow (redrawn w0 d) os) fun e w'' => e = .returned (.tuple #[.string ⟨#[]⟩, .bool false]) ∧ ∃ p : Regrown, w'' = grow (redrawn w0 p.d) p.os) := fun d os =>
    Calls.regrown_of (tget_out E _ _ (-1) (grow (redrawn w0 d) os) (TA0.out.later (below_regrown w0 d os)) (Or.inl (by omega)))
  refine wp_region_quiet_below (by kernel_rfl) (by kernel_rfl) ?_
  repeat (go_big_quiet_step (first | (go_at_call 35; exact CL.out _ _) | (go_at_call 45; exact CG.out _ _)))
  refine wpQuiet_nil ?_
  intro _ hw'
  obtain ⟨⟨dq, osq⟩, hw''⟩ := hw'
  subst hw''
  have bq := below_regrown w0 dq osq
  clear ka CL CG
  have RA1 := Hid.mk4 (RA0.out.later' bq)
  have RB1 := Hid.mk4 (RB0.out.later' bq)
  have RC1 := Hid.mk4 (RC0.out.later' bq)
  have TA1 := Hid.mk4 (TA0.out.later bq)
  have TB1 := Hid.mk4 (TB0.out.later bq)
  have g1 := g0.trans (bq.mono g0.size)
  clear RA0 RB0 RC0 TA0 TB0 g0 bq
  generalize grow (redrawn w0 dq) osq = w1 at *
  have cb := RB1.out.cell 0
  have CG2 : Hid (Calls Tryd.prog 45 #[.agg #[.pointer ub], .int .i64 0] w1 fun e w' => e = .returned (.tuple #[.string y, .bool true]) ∧ Below w1.heap.size w1 w') := tget_in E _ _ 0 y w1 TB1.out rfl (by have := HLL.out; have := HSZ.out; omega)
  go_wp2_with fail
  refine CG2.out.mono ?_
  clear CG2
  rintro e w4 ⟨rfl, b4⟩
  clear cb
  have RA4 := Hid.mk4 (RA1.out.later' b4)
  have RB4 := Hid.mk4 (RB1.out.later' b4)
  have RC4 := Hid.mk4 (RC1.out.later' b4)
  have TA4 := Hid.mk4 (TA1.out.later b4)
  have TB4 := Hid.mk4 (TB1.out.later b4)
  have g4 := g1.trans (b4.mono g1.size)
  clear RA1 RB1 RC1 TA1 TB1 g1 b4
  have HVS : Hid (vld s.data.toList = true) := HV.out
  have hs2b : s.size ≤ 1099511627776 := by omega
  have HLB : Hid (([] : List ByteArray).length + s.size + ((y :: ly) : List ByteArray).length ≤ 1000000) := by
    have h1 := HLL.out
    have h2 := HSZ.out
    show _ ≤ _
    simp at h1 ⊢
    omega
  have hTb := E.later hT g4
  go_wp2
  have ka := cell_regrown (RA4.out.cell 0)
  have kb := cell_regrown (RB4.out.cell 0)
  refine wp_region_mix [([0, 1, 5], [2]), ([], [3]), ([], [4]), ([], [6]), ([], [7])] (by kernel_rfl) (by kernel_rfl) ?_
  rintro w7 ⟨d7, rfl⟩
  refine wpPlan_cons ?_
  simp only [pickAll, pickAt, List.nil_append, List.cons_append, List.append_nil]
  repeat (go_big_quiet_step (fail))
  refine wpQuiet_nil ?_
  clear ka kb
  go_wp2_with fail
  refine (pieces_any s (redrawn w4 d7) tb hs2b HVS.out (htab _ (E.later hTb (below_redrawn w4 d7)))).mono ?_
  rintro e w8 ⟨v8, lp, rfl, hst, hlp, hpc, b8⟩
  have HST := Hid.mk4 hst
  have HPC := Hid.mk4 hpc
  have b18 : Below w4.heap.size w4 w8 := (below_redrawn w4 d7).trans b8
  have hw0 := weld_inv (E := E) (la := []) (lb := (y :: ly)) HA.out HB.out hpc (Or.inl (by rw [bytes_length]; exact hsh)) HD.out
  have HW := Hid.mk4 hw0
  clear hw0
  have hlp2 : lp.length ≤ 1099511627776 - 2000000 := by
    have h1 := szs_ge hpc.2.1
    rw [← cat_length, hpc.1, bytes_length] at h1
    omega
  clear hst hpc b8
  go_wp2
  refine mixNext_below b18 ?_
  refine wpPlan_cons ?_
  simp only [pickAll, pickAt, List.nil_append, List.cons_append, List.append_nil]
  refine wpQuiet_nil ?_
  go_wp2_with fail
  refine (tof_any E v8 lp w8 HST.out hlp HW.out.2.2 (E.later hTb b18)).mono ?_
  rintro e w9 ⟨v9, rfl, ht9, b9⟩
  have HT9 := Hid.mk4 ht9
  have b19 : Below w4.heap.size w4 w9 := b18.trans (b9.mono b18.size)
  clear ht9 b9 b18 HST
  go_wp2
  refine mixNext_below b19 ?_
  refine wpPlan_cons ?_
  simp only [pickAll, pickAt, List.nil_append, List.cons_append, List.append_nil]
  refine wpQuiet_nil ?_
  go_wp2_with fail
  refine (tjoin_any E _ _ _ _ w9 (TA4.out.later b19) HT9.out (by have := HLB.out; omega)).mono ?_
  rintro e w10 ⟨v10, rfl, ht10, b10⟩
  have HT10 := Hid.mk4 ht10
  have b110 : Below w4.heap.size w4 w10 := b19.trans (b10.mono b19.size)
  clear ht10 b10 b19 HT9
  go_wp2
  refine mixNext_below b110 ?_
  refine wpPlan_cons ?_
  simp only [pickAll, pickAt, List.nil_append, List.cons_append, List.append_nil]
  refine wpQuiet_nil ?_
  go_wp2_with fail
  refine (tjoin_any E _ _ _ _ w10 HT10.out (TB4.out.later b110) (by have := HLB.out; rw [List.length_append]; omega)).mono ?_
  rintro e w11 ⟨v11, rfl, ht11, b11⟩
  obtain ⟨u11, rfl⟩ := ht11.ptr
  have HT11 := Hid.mk4 ht11
  have b111 : Below w4.heap.size w4 w11 := b110.trans (b11.mono b110.size)
  clear ht11 b11 b110 HT10
  go_wp2
  refine mixNext_below b111 ?_
  refine wpPlan_cons ?_
  simp only [pickAll, pickAt, List.nil_append, List.cons_append, List.append_nil]
  refine wpQuiet_nil ?_
  have QC := Hid.mk4 (RC4.out.later' b111)
  have gq := g4.trans (b111.mono g4.size)
  have fz := QC.out.fz
  have cz := QC.out.cell 0
  have hlt := QC.out.lt
  clear RA4 RB4 RC4 TA4 TB4 g4 b111
  go_wp2
  refine mixNext_last ?_
  have gz : Below w.heap.size w (w11.setCell ⟨w.heap.size + 1 + 1, 0, none⟩ (.pointer u11)) := gq.setCell (p := ⟨w.heap.size + 1 + 1, 0, none⟩) (by simp; omega) _
  have HTZ := Hid.mk4 (HT11.out.putT QC.out (.pointer u11))
  have HRZ := Hid.mk4 (QC.out.set1 (.pointer u11))
  clear QC gq fz cz hlt HT11
  generalize w11.setCell ⟨w.heap.size + 1 + 1, 0, none⟩ (.pointer u11) = w12 at *
  go_wp2
  refine bodyPost_ret (results_tree rfl _ _ (w.heap.size + 1 + 1) _ rfl HRZ.out) rfl ⟨_, _, rfl, by have := HTZ.out; rwa [List.append_assoc] at this, HW.out.1, HW.out.2.1, gz⟩

set_option maxHeartbeats 8000000 in
set_option maxRecDepth 100000 in
theorem weld_nLe (E : Env) (tb : Nat × Nat) (htab : ∀ W, E.Tb W → Tab W tb) (ua ub : Option Addr) (lx : List ByteArray) (x : ByteArray) (s : ByteArray) (w : World) (hA : Tr E w (.pointer ua) (lx ++ [x])) (hB : Tr E w (.pointer ub) []) (ha : Big (lx ++ [x])) (hb : Big []) (hv : vld s.data.toList = true) (hsz : szs (lx ++ [x]) + s.size + szs [] ≤ 1000000) (hD : Dt E (cat (lx ++ [x]) ++ (s.data.toList ++ cat []))) (hT : E.Tb w) (hsh : 29 ≤ s.size) :
    Calls Tryd.prog 43 #[.agg #[.pointer ua], .string s, .agg #[.pointer ub]] w fun e w' => ∃ v ls, e = .returned (.agg #[v]) ∧ Tr E w' v ls ∧ Inv ls ∧ cat ls = cat (lx ++ [x]) ++ (s.data.toList ++ cat []) ∧ Below w.heap.size w w' := by
  have g0 : Below w.heap.size w (((w.alloc (Obj.cells #[.pointer ua] 61)).alloc (Obj.cells #[.pointer ub] 61)).alloc (Obj.cells #[.pointer none] 61)) := (((Below.refl _ _).alloc (Nat.le_refl _) _).alloc (by simp) _).alloc (by simp <;> omega) _
  have RA0 : Hid (Rt 61 (((w.alloc (Obj.cells #[.pointer ua] 61)).alloc (Obj.cells #[.pointer ub] 61)).alloc (Obj.cells #[.pointer none] 61)) w.heap.size #[.pointer ua]) := ((Rt.new _ w _).alloc _).alloc _
  have RB0 : Hid (Rt 61 (((w.alloc (Obj.cells #[.pointer ua] 61)).alloc (Obj.cells #[.pointer ub] 61)).alloc (Obj.cells #[.pointer none] 61)) (w.heap.size + 1) #[.pointer ub]) := (Rt.new' (by simp) _).alloc _
  have RC0 : Hid (Rt 61 (((w.alloc (Obj.cells #[.pointer ua] 61)).alloc (Obj.cells #[.pointer ub] 61)).alloc (Obj.cells #[.pointer none] 61)) (w.heap.size + 1 + 1) #[.pointer none]) := Rt.new' (by simp) _
  have TA0 := Hid.mk4 (hA.later g0)
  have TB0 := Hid.mk4 (hB.later g0)
  have HA := Hid.mk4 ha
  have HB := Hid.mk4 hb
  have HV := Hid.mk4 hv
  have HD := Hid.mk4 hD
  have hll : (lx ++ [x]).length ≤ szs (lx ++ [x]) ∧ [].length ≤ szs [] := ⟨ha.szs_le, hb.szs_le⟩
  have HSZ := Hid.mk4 hsz
  have HLL := Hid.mk4 hll
  have hss : s.size ≤ 1000000 := by omega
  obtain ⟨m, hm⟩ : ∃ m, lx.length = m := ⟨_, rfl⟩
  have HM := Hid.mk4 hm
  have hmb : m ≤ 1000000 := by simp at hll; omega
  have hxs : 29 ≤ x.size ∧ x.size ≤ 64 := ⟨(ha x (by simp)).2, (ha x (by simp)).1.2.2⟩
  clear hA hB ha hb hv hD hsz hll hm
  have t1 : decide ((s.size : Int) < 29) = false := by simp; omega
  have t2 : decide (s.size < 29) = false := by simp; omega
  go_enter Tryd.func43, Tryd.ntmps43
  go_wp2
  generalize (((w.alloc (Obj.cells #[.pointer ua] 61)).alloc (Obj.cells #[.pointer ub] 61)).alloc (Obj.cells #[.pointer none] 61)) = w0 at *
  have ka := cell_regrown (RA0.out.cell 0)
  have CL : Hid (∀ d os, Calls Tryd.prog 35 #[.agg #[.pointer ua]] (grow (redrawn w0 d) os) fun e w'' => e = .returned (.int .i64 ((m : Int) + 1)) ∧ ∃ p : Regrown, w'' = grow (redrawn w0 p.d) p.os) := fun d os =>
    Calls.regrown_of (by
      have := tlen_any E _ _ (grow (redrawn w0 d) os) (TA0.out.later (below_regrown w0 d os))
      rw [show (((lx ++ [x]).length : Nat) : Int) = (m : Int) + 1 from by rw [List.length_append, HM.out]; simp] at this
      exact this)
  have CG : Hid (∀ d os, Calls Tryd.prog 45 #[.agg #[.pointer ua], .int .i64 (m : Nat)] (grow (redrawn w0 d) os) fun e w'' => e = .returned (.tuple #[.string x, .bool true]) ∧ ∃ p : Regrown, w'' = grow (redrawn w0 p.d) p.os) := fun d os =>
    Calls.regrown_of (tget_in E _ _ m x (grow (redrawn w0 d) os) (TA0.out.later (below_regrown w0 d os)) (by rw [← HM.out]; simp) (by have := HLL.out; have := HSZ.out; omega))
  refine wp_region_quiet_below (by kernel_rfl) (by kernel_rfl) ?_
  repeat (go_big_quiet_step (first | (go_at_call 35; exact CL.out _ _) | (go_at_call 45; exact CG.out _ _)))
  refine wpQuiet_nil ?_
  intro _ hw'
  obtain ⟨⟨dq, osq⟩, hw''⟩ := hw'
  subst hw''
  have bq := below_regrown w0 dq osq
  clear ka CL CG
  have RA1 := Hid.mk4 (RA0.out.later' bq)
  have RB1 := Hid.mk4 (RB0.out.later' bq)
  have RC1 := Hid.mk4 (RC0.out.later' bq)
  have TA1 := Hid.mk4 (TA0.out.later bq)
  have TB1 := Hid.mk4 (TB0.out.later bq)
  have g1 := g0.trans (bq.mono g0.size)
  clear RA0 RB0 RC0 TA0 TB0 g0 bq
  generalize grow (redrawn w0 dq) osq = w1 at *
  have cb := RB1.out.cell 0
  have CG2 : Hid (Calls Tryd.prog 45 #[.agg #[.pointer ub], .int .i64 0] w1 fun e w' => e = .returned (.tuple #[.string ⟨#[]⟩, .bool false]) ∧ Below w1.heap.size w1 w') := tget_out E _ _ 0 w1 TB1.out (Or.inr (by simp))
  go_wp2_with fail
  refine CG2.out.mono ?_
  clear CG2
  rintro e w4 ⟨rfl, b4⟩
  clear cb
  have RA4 := Hid.mk4 (RA1.out.later' b4)
  have RB4 := Hid.mk4 (RB1.out.later' b4)
  have RC4 := Hid.mk4 (RC1.out.later' b4)
  have TA4 := Hid.mk4 (TA1.out.later b4)
  have TB4 := Hid.mk4 (TB1.out.later b4)
  have g4 := g1.trans (b4.mono g1.size)
  clear RA1 RB1 RC1 TA1 TB1 g1 b4
  have HVS : Hid (vld s.data.toList = true) := HV.out
  have hs2b : s.size ≤ 1099511627776 := by omega
  have HLB : Hid (((lx ++ [x]) : List ByteArray).length + s.size + ([] : List ByteArray).length ≤ 1000000) := by
    have h1 := HLL.out
    have h2 := HSZ.out
    show _ ≤ _
    simp at h1 ⊢
    omega
  have hTb := E.later hT g4
  go_wp2
  have ka := cell_regrown (RA4.out.cell 0)
  have kb := cell_regrown (RB4.out.cell 0)
  refine wp_region_mix [([0, 1, 5], [2]), ([], [3]), ([], [4]), ([], [6]), ([], [7])] (by kernel_rfl) (by kernel_rfl) ?_
  rintro w7 ⟨d7, rfl⟩
  refine wpPlan_cons ?_
  simp only [pickAll, pickAt, List.nil_append, List.cons_append, List.append_nil]
  repeat (go_big_quiet_step (fail))
  refine wpQuiet_nil ?_
  clear ka kb
  go_wp2_with fail
  refine (pieces_any s (redrawn w4 d7) tb hs2b HVS.out (htab _ (E.later hTb (below_redrawn w4 d7)))).mono ?_
  rintro e w8 ⟨v8, lp, rfl, hst, hlp, hpc, b8⟩
  have HST := Hid.mk4 hst
  have HPC := Hid.mk4 hpc
  have b18 : Below w4.heap.size w4 w8 := (below_redrawn w4 d7).trans b8
  have hw0 := weld_inv (E := E) (la := (lx ++ [x])) (lb := []) HA.out HB.out hpc (Or.inl (by rw [bytes_length]; exact hsh)) HD.out
  have HW := Hid.mk4 hw0
  clear hw0
  have hlp2 : lp.length ≤ 1099511627776 - 2000000 := by
    have h1 := szs_ge hpc.2.1
    rw [← cat_length, hpc.1, bytes_length] at h1
    omega
  clear hst hpc b8
  go_wp2
  refine mixNext_below b18 ?_
  refine wpPlan_cons ?_
  simp only [pickAll, pickAt, List.nil_append, List.cons_append, List.append_nil]
  refine wpQuiet_nil ?_
  go_wp2_with fail
  refine (tof_any E v8 lp w8 HST.out hlp HW.out.2.2 (E.later hTb b18)).mono ?_
  rintro e w9 ⟨v9, rfl, ht9, b9⟩
  have HT9 := Hid.mk4 ht9
  have b19 : Below w4.heap.size w4 w9 := b18.trans (b9.mono b18.size)
  clear ht9 b9 b18 HST
  go_wp2
  refine mixNext_below b19 ?_
  refine wpPlan_cons ?_
  simp only [pickAll, pickAt, List.nil_append, List.cons_append, List.append_nil]
  refine wpQuiet_nil ?_
  go_wp2_with fail
  refine (tjoin_any E _ _ _ _ w9 (TA4.out.later b19) HT9.out (by have := HLB.out; omega)).mono ?_
  rintro e w10 ⟨v10, rfl, ht10, b10⟩
  have HT10 := Hid.mk4 ht10
  have b110 : Below w4.heap.size w4 w10 := b19.trans (b10.mono b19.size)
  clear ht10 b10 b19 HT9
  go_wp2
  refine mixNext_below b110 ?_
  refine wpPlan_cons ?_
  simp only [pickAll, pickAt, List.nil_append, List.cons_append, List.append_nil]
  refine wpQuiet_nil ?_
  go_wp2_with fail
  refine (tjoin_any E _ _ _ _ w10 HT10.out (TB4.out.later b110) (by have := HLB.out; rw [List.length_append]; omega)).mono ?_
  rintro e w11 ⟨v11, rfl, ht11, b11⟩
  obtain ⟨u11, rfl⟩ := ht11.ptr
  have HT11 := Hid.mk4 ht11
  have b111 : Below w4.heap.size w4 w11 := b110.trans (b11.mono b110.size)
  clear ht11 b11 b110 HT10
  go_wp2
  refine mixNext_below b111 ?_
  refine wpPlan_cons ?_
  simp only [pickAll, pickAt, List.nil_append, List.cons_append, List.append_nil]
  refine wpQuiet_nil ?_
  have QC := Hid.mk4 (RC4.out.later' b111)
  have gq := g4.trans (b111.mono g4.size)
  have fz := QC.out.fz
  have cz := QC.out.cell 0
  have hlt := QC.out.lt
  clear RA4 RB4 RC4 TA4 TB4 g4 b111
  go_wp2
  refine mixNext_last ?_
  have gz : Below w.heap.size w (w11.setCell ⟨w.heap.size + 1 + 1, 0, none⟩ (.pointer u11)) := gq.setCell (p := ⟨w.heap.size + 1 + 1, 0, none⟩) (by simp; omega) _
  have HTZ := Hid.mk4 (HT11.out.putT QC.out (.pointer u11))
  have HRZ := Hid.mk4 (QC.out.set1 (.pointer u11))
  clear QC gq fz cz hlt HT11
  generalize w11.setCell ⟨w.heap.size + 1 + 1, 0, none⟩ (.pointer u11) = w12 at *
  go_wp2
  refine bodyPost_ret (results_tree rfl _ _ (w.heap.size + 1 + 1) _ rfl HRZ.out) rfl ⟨_, _, rfl, by have := HTZ.out; rwa [List.append_assoc] at this, HW.out.1, HW.out.2.1, gz⟩

set_option maxHeartbeats 8000000 in
set_option maxRecDepth 100000 in
theorem weld_nLn (E : Env) (tb : Nat × Nat) (htab : ∀ W, E.Tb W → Tab W tb) (ua ub : Option Addr) (lx : List ByteArray) (x : ByteArray) (ly : List ByteArray) (y : ByteArray) (s : ByteArray) (w : World) (hA : Tr E w (.pointer ua) (lx ++ [x])) (hB : Tr E w (.pointer ub) (y :: ly)) (ha : Big (lx ++ [x])) (hb : Big (y :: ly)) (hv : vld s.data.toList = true) (hsz : szs (lx ++ [x]) + s.size + szs (y :: ly) ≤ 1000000) (hD : Dt E (cat (lx ++ [x]) ++ (s.data.toList ++ cat (y :: ly)))) (hT : E.Tb w) (hsh : 29 ≤ s.size) :
    Calls Tryd.prog 43 #[.agg #[.pointer ua], .string s, .agg #[.pointer ub]] w fun e w' => ∃ v ls, e = .returned (.agg #[v]) ∧ Tr E w' v ls ∧ Inv ls ∧ cat ls = cat (lx ++ [x]) ++ (s.data.toList ++ cat (y :: ly)) ∧ Below w.heap.size w w' := by
  have g0 : Below w.heap.size w (((w.alloc (Obj.cells #[.pointer ua] 61)).alloc (Obj.cells #[.pointer ub] 61)).alloc (Obj.cells #[.pointer none] 61)) := (((Below.refl _ _).alloc (Nat.le_refl _) _).alloc (by simp) _).alloc (by simp <;> omega) _
  have RA0 : Hid (Rt 61 (((w.alloc (Obj.cells #[.pointer ua] 61)).alloc (Obj.cells #[.pointer ub] 61)).alloc (Obj.cells #[.pointer none] 61)) w.heap.size #[.pointer ua]) := ((Rt.new _ w _).alloc _).alloc _
  have RB0 : Hid (Rt 61 (((w.alloc (Obj.cells #[.pointer ua] 61)).alloc (Obj.cells #[.pointer ub] 61)).alloc (Obj.cells #[.pointer none] 61)) (w.heap.size + 1) #[.pointer ub]) := (Rt.new' (by simp) _).alloc _
  have RC0 : Hid (Rt 61 (((w.alloc (Obj.cells #[.pointer ua] 61)).alloc (Obj.cells #[.pointer ub] 61)).alloc (Obj.cells #[.pointer none] 61)) (w.heap.size + 1 + 1) #[.pointer none]) := Rt.new' (by simp) _
  have TA0 := Hid.mk4 (hA.later g0)
  have TB0 := Hid.mk4 (hB.later g0)
  have HA := Hid.mk4 ha
  have HB := Hid.mk4 hb
  have HV := Hid.mk4 hv
  have HD := Hid.mk4 hD
  have hll : (lx ++ [x]).length ≤ szs (lx ++ [x]) ∧ (y :: ly).length ≤ szs (y :: ly) := ⟨ha.szs_le, hb.szs_le⟩
  have HSZ := Hid.mk4 hsz
  have HLL := Hid.mk4 hll
  have hss : s.size ≤ 1000000 := by omega
  obtain ⟨m, hm⟩ : ∃ m, lx.length = m := ⟨_, rfl⟩
  have HM := Hid.mk4 hm
  have hmb : m ≤ 1000000 := by simp at hll; omega
  have hxs : 29 ≤ x.size ∧ x.size ≤ 64 := ⟨(ha x (by simp)).2, (ha x (by simp)).1.2.2⟩
  obtain ⟨k, hk⟩ : ∃ k, ly.length = k := ⟨_, rfl⟩
  have HK := Hid.mk4 hk
  have hkb : k ≤ 1000000 := by simp at hll; omega
  have hys : 29 ≤ y.size ∧ y.size ≤ 64 := ⟨(hb y (by simp)).2, (hb y (by simp)).1.2.2⟩
  clear hA hB ha hb hv hD hsz hll hm hk
  have t1 : decide ((s.size : Int) < 29) = false := by simp; omega
  have t2 : decide (s.size < 29) = false := by simp; omega
  go_enter Tryd.func43, Tryd.ntmps43
  go_wp2
  generalize (((w.alloc (Obj.cells #[.pointer ua] 61)).alloc (Obj.cells #[.pointer ub] 61)).alloc (Obj.cells #[.pointer none] 61)) = w0 at *
  have ka := cell_regrown (RA0.out.cell 0)
  have CL : Hid (∀ d os, Calls Tryd.prog 35 #[.agg #[.pointer ua]] (grow (redrawn w0 d) os) fun e w'' => e = .returned (.int .i64 ((m : Int) + 1)) ∧ ∃ p : Regrown, w'' = grow (redrawn w0 p.d) p.os) := fun d os =>
    Calls.regrown_of (by
      have := tlen_any E _ _ (grow (redrawn w0 d) os) (TA0.out.later (below_regrown w0 d os))
      rw [show (((lx ++ [x]).length : Nat) : Int) = (m : Int) + 1 from by rw [List.length_append, HM.out]; simp] at this
      exact this)
  have CG : Hid (∀ d os, Calls Tryd.prog 45 #[.agg #[.pointer ua], .int .i64 (m : Nat)] (grow (redrawn w0 d) os) fun e w'' => e = .returned (.tuple #[.string x, .bool true]) ∧ ∃ p : Regrown, w'' = grow (redrawn w0 p.d) p.os) := fun d os =>
    Calls.regrown_of (tget_in E _ _ m x (grow (redrawn w0 d) os) (TA0.out.later (below_regrown w0 d os)) (by rw [← HM.out]; simp) (by have := HLL.out; have := HSZ.out; omega))
  refine wp_region_quiet_below (by kernel_rfl) (by kernel_rfl) ?_
  repeat (go_big_quiet_step (first | (go_at_call 35; exact CL.out _ _) | (go_at_call 45; exact CG.out _ _)))
  refine wpQuiet_nil ?_
  intro _ hw'
  obtain ⟨⟨dq, osq⟩, hw''⟩ := hw'
  subst hw''
  have bq := below_regrown w0 dq osq
  clear ka CL CG
  have RA1 := Hid.mk4 (RA0.out.later' bq)
  have RB1 := Hid.mk4 (RB0.out.later' bq)
  have RC1 := Hid.mk4 (RC0.out.later' bq)
  have TA1 := Hid.mk4 (TA0.out.later bq)
  have TB1 := Hid.mk4 (TB0.out.later bq)
  have g1 := g0.trans (bq.mono g0.size)
  clear RA0 RB0 RC0 TA0 TB0 g0 bq
  generalize grow (redrawn w0 dq) osq = w1 at *
  have cb := RB1.out.cell 0
  have CG2 : Hid (Calls Tryd.prog 45 #[.agg #[.pointer ub], .int .i64 0] w1 fun e w' => e = .returned (.tuple #[.string y, .bool true]) ∧ Below w1.heap.size w1 w') := tget_in E _ _ 0 y w1 TB1.out rfl (by have := HLL.out; have := HSZ.out; omega)
  go_wp2_with fail
  refine CG2.out.mono ?_
  clear CG2
  rintro e w4 ⟨rfl, b4⟩
  clear cb
  have RA4 := Hid.mk4 (RA1.out.later' b4)
  have RB4 := Hid.mk4 (RB1.out.later' b4)
  have RC4 := Hid.mk4 (RC1.out.later' b4)
  have TA4 := Hid.mk4 (TA1.out.later b4)
  have TB4 := Hid.mk4 (TB1.out.later b4)
  have g4 := g1.trans (b4.mono g1.size)
  clear RA1 RB1 RC1 TA1 TB1 g1 b4
  have HVS : Hid (vld s.data.toList = true) := HV.out
  have hs2b : s.size ≤ 1099511627776 := by omega
  have HLB : Hid (((lx ++ [x]) : List ByteArray).length + s.size + ((y :: ly) : List ByteArray).length ≤ 1000000) := by
    have h1 := HLL.out
    have h2 := HSZ.out
    show _ ≤ _
    simp at h1 ⊢
    omega
  have hTb := E.later hT g4
  go_wp2
  have ka := cell_regrown (RA4.out.cell 0)
  have kb := cell_regrown (RB4.out.cell 0)
  refine wp_region_mix [([0, 1, 5], [2]), ([], [3]), ([], [4]), ([], [6]), ([], [7])] (by kernel_rfl) (by kernel_rfl) ?_
  rintro w7 ⟨d7, rfl⟩
  refine wpPlan_cons ?_
  simp only [pickAll, pickAt, List.nil_append, List.cons_append, List.append_nil]
  repeat (go_big_quiet_step (fail))
  refine wpQuiet_nil ?_
  clear ka kb
  go_wp2_with fail
  refine (pieces_any s (redrawn w4 d7) tb hs2b HVS.out (htab _ (E.later hTb (below_redrawn w4 d7)))).mono ?_
  rintro e w8 ⟨v8, lp, rfl, hst, hlp, hpc, b8⟩
  have HST := Hid.mk4 hst
  have HPC := Hid.mk4 hpc
  have b18 : Below w4.heap.size w4 w8 := (below_redrawn w4 d7).trans b8
  have hw0 := weld_inv (E := E) (la := (lx ++ [x])) (lb := (y :: ly)) HA.out HB.out hpc (Or.inl (by rw [bytes_length]; exact hsh)) HD.out
  have HW := Hid.mk4 hw0
  clear hw0
  have hlp2 : lp.length ≤ 1099511627776 - 2000000 := by
    have h1 := szs_ge hpc.2.1
    rw [← cat_length, hpc.1, bytes_length] at h1
    omega
  clear hst hpc b8
  go_wp2
  refine mixNext_below b18 ?_
  refine wpPlan_cons ?_
  simp only [pickAll, pickAt, List.nil_append, List.cons_append, List.append_nil]
  refine wpQuiet_nil ?_
  go_wp2_with fail
  refine (tof_any E v8 lp w8 HST.out hlp HW.out.2.2 (E.later hTb b18)).mono ?_
  rintro e w9 ⟨v9, rfl, ht9, b9⟩
  have HT9 := Hid.mk4 ht9
  have b19 : Below w4.heap.size w4 w9 := b18.trans (b9.mono b18.size)
  clear ht9 b9 b18 HST
  go_wp2
  refine mixNext_below b19 ?_
  refine wpPlan_cons ?_
  simp only [pickAll, pickAt, List.nil_append, List.cons_append, List.append_nil]
  refine wpQuiet_nil ?_
  go_wp2_with fail
  refine (tjoin_any E _ _ _ _ w9 (TA4.out.later b19) HT9.out (by have := HLB.out; omega)).mono ?_
  rintro e w10 ⟨v10, rfl, ht10, b10⟩
  have HT10 := Hid.mk4 ht10
  have b110 : Below w4.heap.size w4 w10 := b19.trans (b10.mono b19.size)
  clear ht10 b10 b19 HT9
  go_wp2
  refine mixNext_below b110 ?_
  refine wpPlan_cons ?_
  simp only [pickAll, pickAt, List.nil_append, List.cons_append, List.append_nil]
  refine wpQuiet_nil ?_
  go_wp2_with fail
  refine (tjoin_any E _ _ _ _ w10 HT10.out (TB4.out.later b110) (by have := HLB.out; rw [List.length_append]; omega)).mono ?_
  rintro e w11 ⟨v11, rfl, ht11, b11⟩
  obtain ⟨u11, rfl⟩ := ht11.ptr
  have HT11 := Hid.mk4 ht11
  have b111 : Below w4.heap.size w4 w11 := b110.trans (b11.mono b110.size)
  clear ht11 b11 b110 HT10
  go_wp2
  refine mixNext_below b111 ?_
  refine wpPlan_cons ?_
  simp only [pickAll, pickAt, List.nil_append, List.cons_append, List.append_nil]
  refine wpQuiet_nil ?_
  have QC := Hid.mk4 (RC4.out.later' b111)
  have gq := g4.trans (b111.mono g4.size)
  have fz := QC.out.fz
  have cz := QC.out.cell 0
  have hlt := QC.out.lt
  clear RA4 RB4 RC4 TA4 TB4 g4 b111
  go_wp2
  refine mixNext_last ?_
  have gz : Below w.heap.size w (w11.setCell ⟨w.heap.size + 1 + 1, 0, none⟩ (.pointer u11)) := gq.setCell (p := ⟨w.heap.size + 1 + 1, 0, none⟩) (by simp; omega) _
  have HTZ := Hid.mk4 (HT11.out.putT QC.out (.pointer u11))
  have HRZ := Hid.mk4 (QC.out.set1 (.pointer u11))
  clear QC gq fz cz hlt HT11
  generalize w11.setCell ⟨w.heap.size + 1 + 1, 0, none⟩ (.pointer u11) = w12 at *
  go_wp2
  refine bodyPost_ret (results_tree rfl _ _ (w.heap.size + 1 + 1) _ rfl HRZ.out) rfl ⟨_, _, rfl, by have := HTZ.out; rwa [List.append_assoc] at this, HW.out.1, HW.out.2.1, gz⟩

set_option maxHeartbeats 8000000 in
set_option maxRecDepth 100000 in
theorem weld_eSe (E : Env) (tb : Nat × Nat) (htab : ∀ W, E.Tb W → Tab W tb) (ua ub : Option Addr) (s : ByteArray) (w : World) (hA : Tr E w (.pointer ua) []) (hB : Tr E w (.pointer ub) []) (ha : Big []) (hb : Big []) (hv : vld s.data.toList = true) (hsz : szs [] + s.size + szs [] ≤ 1000000) (hD : Dt E (cat [] ++ (s.data.toList ++ cat []))) (hT : E.Tb w) (hsh : s.size < 29) :
    Calls Tryd.prog 43 #[.agg #[.pointer ua], .string s, .agg #[.pointer ub]] w fun e w' => ∃ v ls, e = .returned (.agg #[v]) ∧ Tr E w' v ls ∧ Inv ls ∧ cat ls = cat [] ++ (s.data.toList ++ cat []) ∧ Below w.heap.size w w' := by
  have g0 : Below w.heap.size w (((w.alloc (Obj.cells #[.pointer ua] 61)).alloc (Obj.cells #[.pointer ub] 61)).alloc (Obj.cells #[.pointer none] 61)) := (((Below.refl _ _).alloc (Nat.le_refl _) _).alloc (by simp) _).alloc (by simp <;> omega) _
  have RA0 : Hid (Rt 61 (((w.alloc (Obj.cells #[.pointer ua] 61)).alloc (Obj.cells #[.pointer ub] 61)).alloc (Obj.cells #[.pointer none] 61)) w.heap.size #[.pointer ua]) := ((Rt.new _ w _).alloc _).alloc _
  have RB0 : Hid (Rt 61 (((w.alloc (Obj.cells #[.pointer ua] 61)).alloc (Obj.cells #[.pointer ub] 61)).alloc (Obj.cells #[.pointer none] 61)) (w.heap.size + 1) #[.pointer ub]) := (Rt.new' (by simp) _).alloc _
  have RC0 : Hid (Rt 61 (((w.alloc (Obj.cells #[.pointer ua] 61)).alloc (Obj.cells #[.pointer ub] 61)).alloc (Obj.cells #[.pointer none] 61)) (w.heap.size + 1 + 1) #[.pointer none]) := Rt.new' (by simp) _
  have TA0 := Hid.mk4 (hA.later g0)
  have TB0 := Hid.mk4 (hB.later g0)
  have HA := Hid.mk4 ha
  have HB := Hid.mk4 hb
  have HV := Hid.mk4 hv
  have HD := Hid.mk4 hD
  have hll : [].length ≤ szs [] ∧ [].length ≤ szs [] := ⟨ha.szs_le, hb.szs_le⟩
  have HSZ := Hid.mk4 hsz
  have HLL := Hid.mk4 hll
  have hss : s.size ≤ 1000000 := by omega
  clear hA hB ha hb hv hD hsz hll
  have t1 : (s.size : Int) < 29 := by omega
  go_enter Tryd.func43, Tryd.ntmps43
  go_wp2
  generalize (((w.alloc (Obj.cells #[.pointer ua] 61)).alloc (Obj.cells #[.pointer ub] 61)).alloc (Obj.cells #[.pointer none] 61)) = w0 at *
  have ka := cell_regrown (RA0.out.cell 0)
  have CL : Hid (∀ d os, Calls Tryd.prog 35 #[.agg #[.pointer ua]] (grow (redrawn w0 d) os) fun e w'' => e = .returned (.int .i64 0) ∧ ∃ p : Regrown, w'' = grow (redrawn w0 p.d) p.os) := fun d os =>
    Calls.regrown_of (by have := tlen_any E _ _ (grow (redrawn w0 d) os) (TA0.out.later (below_regrown w0 d os)); simpa using this)
  have CG : Hid (∀ d os, Calls Tryd.prog 45 #[.agg #[.pointer ua], .int .i64 (-1)] (grow (redrawn w0 d) os) fun e w'' => e = .returned (.tuple #[.string ⟨#[]⟩, .bool false]) ∧ ∃ p : Regrown, w'' = grow (redrawn w0 p.d) p.os) := fun d os =>
    Calls.regrown_of (tget_out E _ _ (-1) (grow (redrawn w0 d) os) (TA0.out.later (below_regrown w0 d os)) (Or.inl (by omega)))
  refine wp_region_quiet_below (by kernel_rfl) (by kernel_rfl) ?_
  repeat (go_big_quiet_step (first | (go_at_call 35; exact CL.out _ _) | (go_at_call 45; exact CG.out _ _)))
  refine wpQuiet_nil ?_
  intro _ hw'
  obtain ⟨⟨dq, osq⟩, hw''⟩ := hw'
  subst hw''
  have bq := below_regrown w0 dq osq
  clear ka CL CG
  have RA1 := Hid.mk4 (RA0.out.later' bq)
  have RB1 := Hid.mk4 (RB0.out.later' bq)
  have RC1 := Hid.mk4 (RC0.out.later' bq)
  have TA1 := Hid.mk4 (TA0.out.later bq)
  have TB1 := Hid.mk4 (TB0.out.later bq)
  have g1 := g0.trans (bq.mono g0.size)
  clear RA0 RB0 RC0 TA0 TB0 g0 bq
  generalize grow (redrawn w0 dq) osq = w1 at *
  have cb := RB1.out.cell 0
  have CG2 : Hid (Calls Tryd.prog 45 #[.agg #[.pointer ub], .int .i64 0] w1 fun e w' => e = .returned (.tuple #[.string ⟨#[]⟩, .bool false]) ∧ Below w1.heap.size w1 w') := tget_out E _ _ 0 w1 TB1.out (Or.inr (by simp))
  go_wp2_with fail
  refine CG2.out.mono ?_
  clear CG2
  rintro e w4 ⟨rfl, b4⟩
  clear cb
  have RA4 := Hid.mk4 (RA1.out.later' b4)
  have RB4 := Hid.mk4 (RB1.out.later' b4)
  have RC4 := Hid.mk4 (RC1.out.later' b4)
  have TA4 := Hid.mk4 (TA1.out.later b4)
  have TB4 := Hid.mk4 (TB1.out.later b4)
  have g4 := g1.trans (b4.mono g1.size)
  clear RA1 RB1 RC1 TA1 TB1 g1 b4
  have HVS : Hid (vld s.data.toList = true) := HV.out
  have hs2b : s.size ≤ 1099511627776 := by omega
  have HLB : Hid (([] : List ByteArray).length + s.size + ([] : List ByteArray).length ≤ 1000000) := by
    have h1 := HLL.out
    have h2 := HSZ.out
    show _ ≤ _
    simp at h1 ⊢
    omega
  have hTb := E.later hT g4
  go_wp2
  have ka := cell_regrown (RA4.out.cell 0)
  have kb := cell_regrown (RB4.out.cell 0)
  refine wp_region_mix [([0, 1, 5], [2]), ([], [3]), ([], [4]), ([], [6]), ([], [7])] (by kernel_rfl) (by kernel_rfl) ?_
  rintro w7 ⟨d7, rfl⟩
  refine wpPlan_cons ?_
  simp only [pickAll, pickAt, List.nil_append, List.cons_append, List.append_nil]
  repeat (go_big_quiet_step (fail))
  refine wpQuiet_nil ?_
  clear ka kb
  go_wp2_with fail
  refine (pieces_any s (redrawn w4 d7) tb hs2b HVS.out (htab _ (E.later hTb (below_redrawn w4 d7)))).mono ?_
  rintro e w8 ⟨v8, lp, rfl, hst, hlp, hpc, b8⟩
  have HST := Hid.mk4 hst
  have HPC := Hid.mk4 hpc
  have b18 : Below w4.heap.size w4 w8 := (below_redrawn w4 d7).trans b8
  have hw0 := weld_inv (E := E) (la := []) (lb := []) HA.out HB.out hpc (Or.inr ⟨rfl, rfl⟩) HD.out
  have HW := Hid.mk4 hw0
  clear hw0
  have hlp2 : lp.length ≤ 1099511627776 - 2000000 := by
    have h1 := szs_ge hpc.2.1
    rw [← cat_length, hpc.1, bytes_length] at h1
    omega
  clear hst hpc b8
  go_wp2
  refine mixNext_below b18 ?_
  refine wpPlan_cons ?_
  simp only [pickAll, pickAt, List.nil_append, List.cons_append, List.append_nil]
  refine wpQuiet_nil ?_
  go_wp2_with fail
  refine (tof_any E v8 lp w8 HST.out hlp HW.out.2.2 (E.later hTb b18)).mono ?_
  rintro e w9 ⟨v9, rfl, ht9, b9⟩
  have HT9 := Hid.mk4 ht9
  have b19 : Below w4.heap.size w4 w9 := b18.trans (b9.mono b18.size)
  clear ht9 b9 b18 HST
  go_wp2
  refine mixNext_below b19 ?_
  refine wpPlan_cons ?_
  simp only [pickAll, pickAt, List.nil_append, List.cons_append, List.append_nil]
  refine wpQuiet_nil ?_
  go_wp2_with fail
  refine (tjoin_any E _ _ _ _ w9 (TA4.out.later b19) HT9.out (by have := HLB.out; omega)).mono ?_
  rintro e w10 ⟨v10, rfl, ht10, b10⟩
  have HT10 := Hid.mk4 ht10
  have b110 : Below w4.heap.size w4 w10 := b19.trans (b10.mono b19.size)
  clear ht10 b10 b19 HT9
  go_wp2
  refine mixNext_below b110 ?_
  refine wpPlan_cons ?_
  simp only [pickAll, pickAt, List.nil_append, List.cons_append, List.append_nil]
  refine wpQuiet_nil ?_
  go_wp2_with fail
  refine (tjoin_any E _ _ _ _ w10 HT10.out (TB4.out.later b110) (by have := HLB.out; rw [List.length_append]; omega)).mono ?_
  rintro e w11 ⟨v11, rfl, ht11, b11⟩
  obtain ⟨u11, rfl⟩ := ht11.ptr
  have HT11 := Hid.mk4 ht11
  have b111 : Below w4.heap.size w4 w11 := b110.trans (b11.mono b110.size)
  clear ht11 b11 b110 HT10
  go_wp2
  refine mixNext_below b111 ?_
  refine wpPlan_cons ?_
  simp only [pickAll, pickAt, List.nil_append, List.cons_append, List.append_nil]
  refine wpQuiet_nil ?_
  have QC := Hid.mk4 (RC4.out.later' b111)
  have gq := g4.trans (b111.mono g4.size)
  have fz := QC.out.fz
  have cz := QC.out.cell 0
  have hlt := QC.out.lt
  clear RA4 RB4 RC4 TA4 TB4 g4 b111
  go_wp2
  refine mixNext_last ?_
  have gz : Below w.heap.size w (w11.setCell ⟨w.heap.size + 1 + 1, 0, none⟩ (.pointer u11)) := gq.setCell (p := ⟨w.heap.size + 1 + 1, 0, none⟩) (by simp; omega) _
  have HTZ := Hid.mk4 (HT11.out.putT QC.out (.pointer u11))
  have HRZ := Hid.mk4 (QC.out.set1 (.pointer u11))
  clear QC gq fz cz hlt HT11
  generalize w11.setCell ⟨w.heap.size + 1 + 1, 0, none⟩ (.pointer u11) = w12 at *
  go_wp2
  refine bodyPost_ret (results_tree rfl _ _ (w.heap.size + 1 + 1) _ rfl HRZ.out) rfl ⟨_, _, rfl, by have := HTZ.out; rwa [List.append_assoc] at this, HW.out.1, HW.out.2.1, gz⟩

set_option maxHeartbeats 8000000 in
set_option maxRecDepth 100000 in
theorem weld_eSn (E : Env) (tb : Nat × Nat) (htab : ∀ W, E.Tb W → Tab W tb) (ua ub : Option Addr) (ly : List ByteArray) (y : ByteArray) (s : ByteArray) (w : World) (hA : Tr E w (.pointer ua) []) (hB : Tr E w (.pointer ub) (y :: ly)) (ha : Big []) (hb : Big (y :: ly)) (hv : vld s.data.toList = true) (hsz : szs [] + s.size + szs (y :: ly) ≤ 1000000) (hD : Dt E (cat [] ++ (s.data.toList ++ cat (y :: ly)))) (hT : E.Tb w) (hsh : s.size < 29) :
    Calls Tryd.prog 43 #[.agg #[.pointer ua], .string s, .agg #[.pointer ub]] w fun e w' => ∃ v ls, e = .returned (.agg #[v]) ∧ Tr E w' v ls ∧ Inv ls ∧ cat ls = cat [] ++ (s.data.toList ++ cat (y :: ly)) ∧ Below w.heap.size w w' := by
  have g0 : Below w.heap.size w (((w.alloc (Obj.cells #[.pointer ua] 61)).alloc (Obj.cells #[.pointer ub] 61)).alloc (Obj.cells #[.pointer none] 61)) := (((Below.refl _ _).alloc (Nat.le_refl _) _).alloc (by simp) _).alloc (by simp <;> omega) _
  have RA0 : Hid (Rt 61 (((w.alloc (Obj.cells #[.pointer ua] 61)).alloc (Obj.cells #[.pointer ub] 61)).alloc (Obj.cells #[.pointer none] 61)) w.heap.size #[.pointer ua]) := ((Rt.new _ w _).alloc _).alloc _
  have RB0 : Hid (Rt 61 (((w.alloc (Obj.cells #[.pointer ua] 61)).alloc (Obj.cells #[.pointer ub] 61)).alloc (Obj.cells #[.pointer none] 61)) (w.heap.size + 1) #[.pointer ub]) := (Rt.new' (by simp) _).alloc _
  have RC0 : Hid (Rt 61 (((w.alloc (Obj.cells #[.pointer ua] 61)).alloc (Obj.cells #[.pointer ub] 61)).alloc (Obj.cells #[.pointer none] 61)) (w.heap.size + 1 + 1) #[.pointer none]) := Rt.new' (by simp) _
  have TA0 := Hid.mk4 (hA.later g0)
  have TB0 := Hid.mk4 (hB.later g0)
  have HA := Hid.mk4 ha
  have HB := Hid.mk4 hb
  have HV := Hid.mk4 hv
  have HD := Hid.mk4 hD
  have hll : [].length ≤ szs [] ∧ (y :: ly).length ≤ szs (y :: ly) := ⟨ha.szs_le, hb.szs_le⟩
  have HSZ := Hid.mk4 hsz
  have HLL := Hid.mk4 hll
  have hss : s.size ≤ 1000000 := by omega
  obtain ⟨k, hk⟩ : ∃ k, ly.length = k := ⟨_, rfl⟩
  have HK := Hid.mk4 hk
  have hkb : k ≤ 1000000 := by simp at hll; omega
  have hys : 29 ≤ y.size ∧ y.size ≤ 64 := ⟨(hb y (by simp)).2, (hb y (by simp)).1.2.2⟩
  clear hA hB ha hb hv hD hsz hll hk
  have t1 : (s.size : Int) < 29 := by omega
  go_enter Tryd.func43, Tryd.ntmps43
  go_wp2
  generalize (((w.alloc (Obj.cells #[.pointer ua] 61)).alloc (Obj.cells #[.pointer ub] 61)).alloc (Obj.cells #[.pointer none] 61)) = w0 at *
  have ka := cell_regrown (RA0.out.cell 0)
  have CL : Hid (∀ d os, Calls Tryd.prog 35 #[.agg #[.pointer ua]] (grow (redrawn w0 d) os) fun e w'' => e = .returned (.int .i64 0) ∧ ∃ p : Regrown, w'' = grow (redrawn w0 p.d) p.os) := fun d os =>
    Calls.regrown_of (by have := tlen_any E _ _ (grow (redrawn w0 d) os) (TA0.out.later (below_regrown w0 d os)); simpa using this)
  have CG : Hid (∀ d os, Calls Tryd.prog 45 #[.agg #[.pointer ua], .int .i64 (-1)] (grow (redrawn w0 d) os) fun e w'' => e = .returned (.tuple #[.string ⟨#[]⟩, .bool false]) ∧ ∃ p : Regrown, w'' = grow (redrawn w0 p.d) p.os) := fun d os =>
    Calls.regrown_of (tget_out E _ _ (-1) (grow (redrawn w0 d) os) (TA0.out.later (below_regrown w0 d os)) (Or.inl (by omega)))
  refine wp_region_quiet_below (by kernel_rfl) (by kernel_rfl) ?_
  repeat (go_big_quiet_step (first | (go_at_call 35; exact CL.out _ _) | (go_at_call 45; exact CG.out _ _)))
  refine wpQuiet_nil ?_
  intro _ hw'
  obtain ⟨⟨dq, osq⟩, hw''⟩ := hw'
  subst hw''
  have bq := below_regrown w0 dq osq
  clear ka CL CG
  have RA1 := Hid.mk4 (RA0.out.later' bq)
  have RB1 := Hid.mk4 (RB0.out.later' bq)
  have RC1 := Hid.mk4 (RC0.out.later' bq)
  have TA1 := Hid.mk4 (TA0.out.later bq)
  have TB1 := Hid.mk4 (TB0.out.later bq)
  have g1 := g0.trans (bq.mono g0.size)
  clear RA0 RB0 RC0 TA0 TB0 g0 bq
  generalize grow (redrawn w0 dq) osq = w1 at *
  have cb := RB1.out.cell 0
  have CG2 : Hid (Calls Tryd.prog 45 #[.agg #[.pointer ub], .int .i64 0] w1 fun e w' => e = .returned (.tuple #[.string y, .bool true]) ∧ Below w1.heap.size w1 w') := tget_in E _ _ 0 y w1 TB1.out rfl (by have := HLL.out; have := HSZ.out; omega)
  go_wp2_with fail
  refine CG2.out.mono ?_
  clear CG2
  rintro e w4 ⟨rfl, b4⟩
  clear cb
  have RA4 := Hid.mk4 (RA1.out.later' b4)
  have RB4 := Hid.mk4 (RB1.out.later' b4)
  have RC4 := Hid.mk4 (RC1.out.later' b4)
  have TA4 := Hid.mk4 (TA1.out.later b4)
  have TB4 := Hid.mk4 (TB1.out.later b4)
  have g4 := g1.trans (b4.mono g1.size)
  clear RA1 RB1 RC1 TA1 TB1 g1 b4
  have hysz : (s ++ y).size = s.size + y.size := app_size s y
  have HYS := Hid.mk4 hysz
  clear hysz
  go_wp2
  have ka := cell_regrown (RB4.out.cell 0)
  refine wp_region_mix [([0, 1], [2]), ([], [3]), ([], [4])] (by kernel_rfl) (by kernel_rfl) ?_
  rintro w4' ⟨d4, rfl⟩
  refine wpPlan_cons ?_
  simp only [pickAll, pickAt, List.nil_append, List.cons_append, List.append_nil]
  repeat (go_big_quiet_step (fail))
  refine wpQuiet_nil ?_
  clear ka
  go_wp2_with fail
  have hL := tlen_any E _ _ (redrawn w4 d4) (TB4.out.later (below_redrawn w4 d4))
  rw [show (((y :: ly).length : Nat) : Int) = ((k + 1 : Nat) : Int) from by rw [List.length_cons, HK.out]] at hL
  refine hL.mono ?_
  clear hL
  rintro e w5 ⟨rfl, b5⟩
  have b45 : Below w4.heap.size w4 w5 := (below_redrawn w4 d4).trans b5
  clear b5
  go_wp2
  refine mixNext_below b45 ?_
  refine wpPlan_cons ?_
  simp only [pickAll, pickAt, List.nil_append, List.cons_append, List.append_nil]
  refine wpQuiet_nil ?_
  go_wp2_with fail
  have hS := tslice_any E _ _ 1 ((k + 1 : Nat) : Int) 1 (k + 1) w5 (TB4.out.later b45) (by have := HLL.out; have := HSZ.out; omega) (by unfold hld; simp) (by unfold hld; rw [List.length_cons, HK.out]; omega)
  rw [show ((y :: ly).drop 1).take (k + 1 - 1) = ly from by rw [← HK.out]; simp] at hS
  refine hS.mono ?_
  clear hS
  rintro e w6 ⟨v6, rfl, ht6, b6⟩
  obtain ⟨uc, rfl⟩ := ht6.ptr
  have HT6 := Hid.mk4 ht6
  have b46 : Below w4.heap.size w4 w6 := b45.trans (b6.mono b45.size)
  clear b6 b45 ht6
  go_wp2
  refine mixNext_below b46 ?_
  refine wpPlan_cons ?_
  simp only [pickAll, pickAt, List.nil_append, List.cons_append, List.append_nil]
  refine wpQuiet_nil ?_
  have QA := Hid.mk4 (RA4.out.later' b46)
  have QB := Hid.mk4 (RB4.out.later' b46)
  have QC := Hid.mk4 (RC4.out.later' b46)
  have QT := Hid.mk4 (TA4.out.later b46)
  have gq := g4.trans (b46.mono g4.size)
  have fz := QB.out.fz
  have cz := QB.out.cell 0
  have hlt := QB.out.lt
  clear RA4 RB4 RC4 TA4 TB4 g4
  go_wp2
  refine mixNext_last ?_
  have RA5 := Hid.mk4 (QA.out.other (g' := w.heap.size + 1) (by omega) 0 (.pointer uc))
  have RB5 := Hid.mk4 (QB.out.set1 (.pointer uc))
  have RC5 := Hid.mk4 (QC.out.other (g' := w.heap.size + 1) (by omega) 0 (.pointer uc))
  have TA5 := Hid.mk4 (QT.out.putT QB.out (.pointer uc))
  have TB5 := Hid.mk4 (HT6.out.putT QB.out (.pointer uc))
  have g5 : Below w.heap.size w (w6.setCell ⟨w.heap.size + 1, 0, none⟩ (.pointer uc)) := gq.setCell (p := ⟨w.heap.size + 1, 0, none⟩) (by simp) _
  clear QA QB QC QT gq fz cz hlt HT6 b46
  generalize w6.setCell ⟨w.heap.size + 1, 0, none⟩ (.pointer uc) = w5' at *
  have hs2 : (s ++ y).size ≤ 1000100 ∧ 29 ≤ (s ++ y).size := by have := HYS.out; omega
  obtain ⟨s2, hs2e⟩ : ∃ s2, s2 = s ++ y := ⟨_, rfl⟩
  have HS2 := Hid.mk4 hs2e
  rw [← hs2e] at hs2 ⊢
  clear hs2e
  have HVS : Hid (vld s2.data.toList = true) := by show _ = _; rw [HS2.out, bytes_append]; exact vld_append HV.out (HB.out y (by simp)).1.1
  have hs2b : s2.size ≤ 1099511627776 := by omega
  have HLB : Hid (([] : List ByteArray).length + s.size + (ly : List ByteArray).length ≤ 1000000) := by
    have h1 := HLL.out
    have h2 := HSZ.out
    show _ ≤ _
    simp at h1 ⊢
    omega
  have hTb := E.later hT g5
  go_wp2
  have ka := cell_regrown (RA5.out.cell 0)
  have kb := cell_regrown (RB5.out.cell 0)
  refine wp_region_mix [([0, 1, 5], [2]), ([], [3]), ([], [4]), ([], [6]), ([], [7])] (by kernel_rfl) (by kernel_rfl) ?_
  rintro w7 ⟨d7, rfl⟩
  refine wpPlan_cons ?_
  simp only [pickAll, pickAt, List.nil_append, List.cons_append, List.append_nil]
  repeat (go_big_quiet_step (fail))
  refine wpQuiet_nil ?_
  clear ka kb
  go_wp2_with fail
  refine (pieces_any s2 (redrawn w5' d7) tb hs2b HVS.out (htab _ (E.later hTb (below_redrawn w5' d7)))).mono ?_
  rintro e w8 ⟨v8, lp, rfl, hst, hlp, hpc, b8⟩
  have HST := Hid.mk4 hst
  have HPC := Hid.mk4 hpc
  have b18 : Below w5'.heap.size w5' w8 := (below_redrawn w5' d7).trans b8
  have htxt : cat [] ++ (s2.data.toList ++ cat ly) = cat [] ++ (s.data.toList ++ cat (y :: ly)) := by rw [HS2.out, bytes_append, cat_cons]; simp
  have hw0 := weld_inv (E := E) (la := []) (lb := ly) HA.out (fun z hz => HB.out z (by simp [hz])) hpc (Or.inl (by rw [bytes_length]; exact hs2.2)) (by rw [htxt]; exact HD.out)
  rw [htxt] at hw0
  have HW := Hid.mk4 hw0
  clear hw0
  have hlp2 : lp.length ≤ 1099511627776 - 2000000 := by
    have h1 := szs_ge hpc.2.1
    rw [← cat_length, hpc.1, bytes_length] at h1
    omega
  clear hst hpc b8
  go_wp2
  refine mixNext_below b18 ?_
  refine wpPlan_cons ?_
  simp only [pickAll, pickAt, List.nil_append, List.cons_append, List.append_nil]
  refine wpQuiet_nil ?_
  go_wp2_with fail
  refine (tof_any E v8 lp w8 HST.out hlp HW.out.2.2 (E.later hTb b18)).mono ?_
  rintro e w9 ⟨v9, rfl, ht9, b9⟩
  have HT9 := Hid.mk4 ht9
  have b19 : Below w5'.heap.size w5' w9 := b18.trans (b9.mono b18.size)
  clear ht9 b9 b18 HST
  go_wp2
  refine mixNext_below b19 ?_
  refine wpPlan_cons ?_
  simp only [pickAll, pickAt, List.nil_append, List.cons_append, List.append_nil]
  refine wpQuiet_nil ?_
  go_wp2_with fail
  refine (tjoin_any E _ _ _ _ w9 (TA5.out.later b19) HT9.out (by have := HLB.out; omega)).mono ?_
  rintro e w10 ⟨v10, rfl, ht10, b10⟩
  have HT10 := Hid.mk4 ht10
  have b110 : Below w5'.heap.size w5' w10 := b19.trans (b10.mono b19.size)
  clear ht10 b10 b19 HT9
  go_wp2
  refine mixNext_below b110 ?_
  refine wpPlan_cons ?_
  simp only [pickAll, pickAt, List.nil_append, List.cons_append, List.append_nil]
  refine wpQuiet_nil ?_
  go_wp2_with fail
  refine (tjoin_any E _ _ _ _ w10 HT10.out (TB5.out.later b110) (by have := HLB.out; rw [List.length_append]; omega)).mono ?_
  rintro e w11 ⟨v11, rfl, ht11, b11⟩
  obtain ⟨u11, rfl⟩ := ht11.ptr
  have HT11 := Hid.mk4 ht11
  have b111 : Below w5'.heap.size w5' w11 := b110.trans (b11.mono b110.size)
  clear ht11 b11 b110 HT10
  go_wp2
  refine mixNext_below b111 ?_
  refine wpPlan_cons ?_
  simp only [pickAll, pickAt, List.nil_append, List.cons_append, List.append_nil]
  refine wpQuiet_nil ?_
  have QC := Hid.mk4 (RC5.out.later' b111)
  have gq := g5.trans (b111.mono g5.size)
  have fz := QC.out.fz
  have cz := QC.out.cell 0
  have hlt := QC.out.lt
  clear RA5 RB5 RC5 TA5 TB5 g5 b111
  go_wp2
  refine mixNext_last ?_
  have gz : Below w.heap.size w (w11.setCell ⟨w.heap.size + 1 + 1, 0, none⟩ (.pointer u11)) := gq.setCell (p := ⟨w.heap.size + 1 + 1, 0, none⟩) (by simp; omega) _
  have HTZ := Hid.mk4 (HT11.out.putT QC.out (.pointer u11))
  have HRZ := Hid.mk4 (QC.out.set1 (.pointer u11))
  clear QC gq fz cz hlt HT11
  generalize w11.setCell ⟨w.heap.size + 1 + 1, 0, none⟩ (.pointer u11) = w12 at *
  go_wp2
  refine bodyPost_ret (results_tree rfl _ _ (w.heap.size + 1 + 1) _ rfl HRZ.out) rfl ⟨_, _, rfl, by have := HTZ.out; rwa [List.append_assoc] at this, HW.out.1, HW.out.2.1, gz⟩

set_option maxHeartbeats 8000000 in
set_option maxRecDepth 100000 in
theorem weld_nSe (E : Env) (tb : Nat × Nat) (htab : ∀ W, E.Tb W → Tab W tb) (ua ub : Option Addr) (lx : List ByteArray) (x : ByteArray) (s : ByteArray) (w : World) (hA : Tr E w (.pointer ua) (lx ++ [x])) (hB : Tr E w (.pointer ub) []) (ha : Big (lx ++ [x])) (hb : Big []) (hv : vld s.data.toList = true) (hsz : szs (lx ++ [x]) + s.size + szs [] ≤ 1000000) (hD : Dt E (cat (lx ++ [x]) ++ (s.data.toList ++ cat []))) (hT : E.Tb w) (hsh : s.size < 29) :
    Calls Tryd.prog 43 #[.agg #[.pointer ua], .string s, .agg #[.pointer ub]] w fun e w' => ∃ v ls, e = .returned (.agg #[v]) ∧ Tr E w' v ls ∧ Inv ls ∧ cat ls = cat (lx ++ [x]) ++ (s.data.toList ++ cat []) ∧ Below w.heap.size w w' := by
  have g0 : Below w.heap.size w (((w.alloc (Obj.cells #[.pointer ua] 61)).alloc (Obj.cells #[.pointer ub] 61)).alloc (Obj.cells #[.pointer none] 61)) := (((Below.refl _ _).alloc (Nat.le_refl _) _).alloc (by simp) _).alloc (by simp <;> omega) _
  have RA0 : Hid (Rt 61 (((w.alloc (Obj.cells #[.pointer ua] 61)).alloc (Obj.cells #[.pointer ub] 61)).alloc (Obj.cells #[.pointer none] 61)) w.heap.size #[.pointer ua]) := ((Rt.new _ w _).alloc _).alloc _
  have RB0 : Hid (Rt 61 (((w.alloc (Obj.cells #[.pointer ua] 61)).alloc (Obj.cells #[.pointer ub] 61)).alloc (Obj.cells #[.pointer none] 61)) (w.heap.size + 1) #[.pointer ub]) := (Rt.new' (by simp) _).alloc _
  have RC0 : Hid (Rt 61 (((w.alloc (Obj.cells #[.pointer ua] 61)).alloc (Obj.cells #[.pointer ub] 61)).alloc (Obj.cells #[.pointer none] 61)) (w.heap.size + 1 + 1) #[.pointer none]) := Rt.new' (by simp) _
  have TA0 := Hid.mk4 (hA.later g0)
  have TB0 := Hid.mk4 (hB.later g0)
  have HA := Hid.mk4 ha
  have HB := Hid.mk4 hb
  have HV := Hid.mk4 hv
  have HD := Hid.mk4 hD
  have hll : (lx ++ [x]).length ≤ szs (lx ++ [x]) ∧ [].length ≤ szs [] := ⟨ha.szs_le, hb.szs_le⟩
  have HSZ := Hid.mk4 hsz
  have HLL := Hid.mk4 hll
  have hss : s.size ≤ 1000000 := by omega
  obtain ⟨m, hm⟩ : ∃ m, lx.length = m := ⟨_, rfl⟩
  have HM := Hid.mk4 hm
  have hmb : m ≤ 1000000 := by simp at hll; omega
  have hxs : 29 ≤ x.size ∧ x.size ≤ 64 := ⟨(ha x (by simp)).2, (ha x (by simp)).1.2.2⟩
  clear hA hB ha hb hv hD hsz hll hm
  have t1 : (s.size : Int) < 29 := by omega
  go_enter Tryd.func43, Tryd.ntmps43
  go_wp2
  generalize (((w.alloc (Obj.cells #[.pointer ua] 61)).alloc (Obj.cells #[.pointer ub] 61)).alloc (Obj.cells #[.pointer none] 61)) = w0 at *
  have ka := cell_regrown (RA0.out.cell 0)
  have CL : Hid (∀ d os, Calls Tryd.prog 35 #[.agg #[.pointer ua]] (grow (redrawn w0 d) os) fun e w'' => e = .returned (.int .i64 ((m : Int) + 1)) ∧ ∃ p : Regrown, w'' = grow (redrawn w0 p.d) p.os) := fun d os =>
    Calls.regrown_of (by
      have := tlen_any E _ _ (grow (redrawn w0 d) os) (TA0.out.later (below_regrown w0 d os))
      rw [show (((lx ++ [x]).length : Nat) : Int) = (m : Int) + 1 from by rw [List.length_append, HM.out]; simp] at this
      exact this)
  have CG : Hid (∀ d os, Calls Tryd.prog 45 #[.agg #[.pointer ua], .int .i64 (m : Nat)] (grow (redrawn w0 d) os) fun e w'' => e = .returned (.tuple #[.string x, .bool true]) ∧ ∃ p : Regrown, w'' = grow (redrawn w0 p.d) p.os) := fun d os =>
    Calls.regrown_of (tget_in E _ _ m x (grow (redrawn w0 d) os) (TA0.out.later (below_regrown w0 d os)) (by rw [← HM.out]; simp) (by have := HLL.out; have := HSZ.out; omega))
  refine wp_region_quiet_below (by kernel_rfl) (by kernel_rfl) ?_
  repeat (go_big_quiet_step (first | (go_at_call 35; exact CL.out _ _) | (go_at_call 45; exact CG.out _ _)))
  refine wpQuiet_nil ?_
  intro _ hw'
  obtain ⟨⟨dq, osq⟩, hw''⟩ := hw'
  subst hw''
  have bq := below_regrown w0 dq osq
  clear ka CL CG
  have RA1 := Hid.mk4 (RA0.out.later' bq)
  have RB1 := Hid.mk4 (RB0.out.later' bq)
  have RC1 := Hid.mk4 (RC0.out.later' bq)
  have TA1 := Hid.mk4 (TA0.out.later bq)
  have TB1 := Hid.mk4 (TB0.out.later bq)
  have g1 := g0.trans (bq.mono g0.size)
  clear RA0 RB0 RC0 TA0 TB0 g0 bq
  generalize grow (redrawn w0 dq) osq = w1 at *
  have hxsz : (x ++ s).size = x.size + s.size := app_size x s
  have HXS := Hid.mk4 hxsz
  clear hxsz
  go_wp2
  have ka := cell_regrown (RA1.out.cell 0)
  refine wp_region_mix [([0, 1], [2]), ([3], [4]), ([], [5])] (by kernel_rfl) (by kernel_rfl) ?_
  rintro w1' ⟨d1, rfl⟩
  refine wpPlan_cons ?_
  simp only [pickAll, pickAt, List.nil_append, List.cons_append, List.append_nil]
  repeat (go_big_quiet_step (fail))
  refine wpQuiet_nil ?_
  clear ka
  go_wp2_with fail
  have hL := tlen_any E _ _ (redrawn w1 d1) (TA1.out.later (below_redrawn w1 d1))
  rw [show (((lx ++ [x]).length : Nat) : Int) = (m : Int) + 1 from by rw [List.length_append, HM.out]; simp] at hL
  refine hL.mono ?_
  clear hL
  rintro e w2 ⟨rfl, b2⟩
  have b12 : Below w1.heap.size w1 w2 := (below_redrawn w1 d1).trans b2
  clear b2
  go_wp2
  refine mixNext_below b12 ?_
  refine wpPlan_cons ?_
  simp only [pickAll, pickAt, List.nil_append, List.cons_append, List.append_nil]
  repeat (go_big_quiet_step (fail))
  refine wpQuiet_nil ?_
  go_wp2_with fail
  have hS := tslice_any E _ _ 0 (m : Nat) 0 m w2 (TA1.out.later b12) (by have := HLL.out; have := HSZ.out; omega) (by unfold hld; omega) (by unfold hld; rw [List.length_append, HM.out]; simp)
  rw [show ((lx ++ [x]).drop 0).take (m - 0) = lx from by rw [← HM.out]; simp] at hS
  refine hS.mono ?_
  clear hS
  rintro e w3 ⟨v3, rfl, ht3, b3⟩
  obtain ⟨uc, rfl⟩ := ht3.ptr
  have HT3 := Hid.mk4 ht3
  have b13 : Below w1.heap.size w1 w3 := b12.trans (b3.mono b12.size)
  clear b3 b12 ht3
  go_wp2
  refine mixNext_below b13 ?_
  refine wpPlan_cons ?_
  simp only [pickAll, pickAt, List.nil_append, List.cons_append, List.append_nil]
  refine wpQuiet_nil ?_
  have QA := Hid.mk4 (RA1.out.later' b13)
  have QB := Hid.mk4 (RB1.out.later' b13)
  have QC := Hid.mk4 (RC1.out.later' b13)
  have QT := Hid.mk4 (TB1.out.later b13)
  have gq := g1.trans (b13.mono g1.size)
  have fz := QA.out.fz
  have cz := QA.out.cell 0
  have hlt := QA.out.lt
  clear RA1 RB1 RC1 TA1 TB1 g1
  go_wp2
  refine mixNext_last ?_
  have RA2 := Hid.mk4 (QA.out.set1 (.pointer uc))
  have RB2 := Hid.mk4 (QB.out.other (g' := w.heap.size) (by omega) 0 (.pointer uc))
  have RC2 := Hid.mk4 (QC.out.other (g' := w.heap.size) (by omega) 0 (.pointer uc))
  have TA2 := Hid.mk4 (HT3.out.putT QA.out (.pointer uc))
  have TB2 := Hid.mk4 (QT.out.putT QA.out (.pointer uc))
  have g2 : Below w.heap.size w (w3.setCell ⟨w.heap.size, 0, none⟩ (.pointer uc)) := gq.setCell (p := ⟨w.heap.size, 0, none⟩) (Nat.le_refl _) _
  clear QA QB QC QT gq fz cz hlt HT3 b13
  generalize w3.setCell ⟨w.heap.size, 0, none⟩ (.pointer uc) = w2' at *
  have hs2 : (x ++ s).size ≤ 1000100 ∧ 29 ≤ (x ++ s).size := by have := HXS.out; omega
  have t3 : decide (((x ++ s).size : Int) < 29) = false := by simp only [decide_eq_false_iff_not]; omega
  have t4 : decide ((x ++ s).size < 29) = false := by simp only [decide_eq_false_iff_not]; omega
  obtain ⟨s2, hs2e⟩ : ∃ s2, s2 = x ++ s := ⟨_, rfl⟩
  have HS2 := Hid.mk4 hs2e
  rw [← hs2e] at hs2 t3 t4 ⊢
  clear hs2e
  have cb := RB2.out.cell 0
  have CG2 : Hid (Calls Tryd.prog 45 #[.agg #[.pointer ub], .int .i64 0] w2' fun e w' => e = .returned (.tuple #[.string ⟨#[]⟩, .bool false]) ∧ Below w2'.heap.size w2' w') := tget_out E _ _ 0 w2' TB2.out (Or.inr (by simp))
  go_wp2_with fail
  refine CG2.out.mono ?_
  clear CG2
  rintro e w4 ⟨rfl, b4⟩
  clear cb
  have RA4 := Hid.mk4 (RA2.out.later' b4)
  have RB4 := Hid.mk4 (RB2.out.later' b4)
  have RC4 := Hid.mk4 (RC2.out.later' b4)
  have TA4 := Hid.mk4 (TA2.out.later b4)
  have TB4 := Hid.mk4 (TB2.out.later b4)
  have g4 := g2.trans (b4.mono g2.size)
  clear RA2 RB2 RC2 TA2 TB2 g2 b4
  have HVS : Hid (vld s2.data.toList = true) := by show _ = _; rw [HS2.out, bytes_append]; exact vld_append (HA.out x (by simp)).1.1 HV.out
  have hs2b : s2.size ≤ 1099511627776 := by omega
  have HLB : Hid ((lx : List ByteArray).length + s.size + ([] : List ByteArray).length ≤ 1000000) := by
    have h1 := HLL.out
    have h2 := HSZ.out
    show _ ≤ _
    simp at h1 ⊢
    omega
  have hTb := E.later hT g4
  go_wp2
  have ka := cell_regrown (RA4.out.cell 0)
  have kb := cell_regrown (RB4.out.cell 0)
  refine wp_region_mix [([0, 1, 5], [2]), ([], [3]), ([], [4]), ([], [6]), ([], [7])] (by kernel_rfl) (by kernel_rfl) ?_
  rintro w7 ⟨d7, rfl⟩
  refine wpPlan_cons ?_
  simp only [pickAll, pickAt, List.nil_append, List.cons_append, List.append_nil]
  repeat (go_big_quiet_step (fail))
  refine wpQuiet_nil ?_
  clear ka kb
  go_wp2_with fail
  refine (pieces_any s2 (redrawn w4 d7) tb hs2b HVS.out (htab _ (E.later hTb (below_redrawn w4 d7)))).mono ?_
  rintro e w8 ⟨v8, lp, rfl, hst, hlp, hpc, b8⟩
  have HST := Hid.mk4 hst
  have HPC := Hid.mk4 hpc
  have b18 : Below w4.heap.size w4 w8 := (below_redrawn w4 d7).trans b8
  have htxt : cat lx ++ (s2.data.toList ++ cat []) = cat (lx ++ [x]) ++ (s.data.toList ++ cat []) := by rw [HS2.out, bytes_append, cat_append, cat_one]; simp
  have hw0 := weld_inv (E := E) (la := lx) (lb := []) (fun z hz => HA.out z (by simp [hz])) HB.out hpc (Or.inl (by rw [bytes_length]; exact hs2.2)) (by rw [htxt]; exact HD.out)
  rw [htxt] at hw0
  have HW := Hid.mk4 hw0
  clear hw0
  have hlp2 : lp.length ≤ 1099511627776 - 2000000 := by
    have h1 := szs_ge hpc.2.1
    rw [← cat_length, hpc.1, bytes_length] at h1
    omega
  clear hst hpc b8
  go_wp2
  refine mixNext_below b18 ?_
  refine wpPlan_cons ?_
  simp only [pickAll, pickAt, List.nil_append, List.cons_append, List.append_nil]
  refine wpQuiet_nil ?_
  go_wp2_with fail
  refine (tof_any E v8 lp w8 HST.out hlp HW.out.2.2 (E.later hTb b18)).mono ?_
  rintro e w9 ⟨v9, rfl, ht9, b9⟩
  have HT9 := Hid.mk4 ht9
  have b19 : Below w4.heap.size w4 w9 := b18.trans (b9.mono b18.size)
  clear ht9 b9 b18 HST
  go_wp2
  refine mixNext_below b19 ?_
  refine wpPlan_cons ?_
  simp only [pickAll, pickAt, List.nil_append, List.cons_append, List.append_nil]
  refine wpQuiet_nil ?_
  go_wp2_with fail
  refine (tjoin_any E _ _ _ _ w9 (TA4.out.later b19) HT9.out (by have := HLB.out; omega)).mono ?_
  rintro e w10 ⟨v10, rfl, ht10, b10⟩
  have HT10 := Hid.mk4 ht10
  have b110 : Below w4.heap.size w4 w10 := b19.trans (b10.mono b19.size)
  clear ht10 b10 b19 HT9
  go_wp2
  refine mixNext_below b110 ?_
  refine wpPlan_cons ?_
  simp only [pickAll, pickAt, List.nil_append, List.cons_append, List.append_nil]
  refine wpQuiet_nil ?_
  go_wp2_with fail
  refine (tjoin_any E _ _ _ _ w10 HT10.out (TB4.out.later b110) (by have := HLB.out; rw [List.length_append]; omega)).mono ?_
  rintro e w11 ⟨v11, rfl, ht11, b11⟩
  obtain ⟨u11, rfl⟩ := ht11.ptr
  have HT11 := Hid.mk4 ht11
  have b111 : Below w4.heap.size w4 w11 := b110.trans (b11.mono b110.size)
  clear ht11 b11 b110 HT10
  go_wp2
  refine mixNext_below b111 ?_
  refine wpPlan_cons ?_
  simp only [pickAll, pickAt, List.nil_append, List.cons_append, List.append_nil]
  refine wpQuiet_nil ?_
  have QC := Hid.mk4 (RC4.out.later' b111)
  have gq := g4.trans (b111.mono g4.size)
  have fz := QC.out.fz
  have cz := QC.out.cell 0
  have hlt := QC.out.lt
  clear RA4 RB4 RC4 TA4 TB4 g4 b111
  go_wp2
  refine mixNext_last ?_
  have gz : Below w.heap.size w (w11.setCell ⟨w.heap.size + 1 + 1, 0, none⟩ (.pointer u11)) := gq.setCell (p := ⟨w.heap.size + 1 + 1, 0, none⟩) (by simp; omega) _
  have HTZ := Hid.mk4 (HT11.out.putT QC.out (.pointer u11))
  have HRZ := Hid.mk4 (QC.out.set1 (.pointer u11))
  clear QC gq fz cz hlt HT11
  generalize w11.setCell ⟨w.heap.size + 1 + 1, 0, none⟩ (.pointer u11) = w12 at *
  go_wp2
  refine bodyPost_ret (results_tree rfl _ _ (w.heap.size + 1 + 1) _ rfl HRZ.out) rfl ⟨_, _, rfl, by have := HTZ.out; rwa [List.append_assoc] at this, HW.out.1, HW.out.2.1, gz⟩

set_option maxHeartbeats 8000000 in
set_option maxRecDepth 100000 in
theorem weld_nSn (E : Env) (tb : Nat × Nat) (htab : ∀ W, E.Tb W → Tab W tb) (ua ub : Option Addr) (lx : List ByteArray) (x : ByteArray) (ly : List ByteArray) (y : ByteArray) (s : ByteArray) (w : World) (hA : Tr E w (.pointer ua) (lx ++ [x])) (hB : Tr E w (.pointer ub) (y :: ly)) (ha : Big (lx ++ [x])) (hb : Big (y :: ly)) (hv : vld s.data.toList = true) (hsz : szs (lx ++ [x]) + s.size + szs (y :: ly) ≤ 1000000) (hD : Dt E (cat (lx ++ [x]) ++ (s.data.toList ++ cat (y :: ly)))) (hT : E.Tb w) (hsh : s.size < 29) :
    Calls Tryd.prog 43 #[.agg #[.pointer ua], .string s, .agg #[.pointer ub]] w fun e w' => ∃ v ls, e = .returned (.agg #[v]) ∧ Tr E w' v ls ∧ Inv ls ∧ cat ls = cat (lx ++ [x]) ++ (s.data.toList ++ cat (y :: ly)) ∧ Below w.heap.size w w' := by
  have g0 : Below w.heap.size w (((w.alloc (Obj.cells #[.pointer ua] 61)).alloc (Obj.cells #[.pointer ub] 61)).alloc (Obj.cells #[.pointer none] 61)) := (((Below.refl _ _).alloc (Nat.le_refl _) _).alloc (by simp) _).alloc (by simp <;> omega) _
  have RA0 : Hid (Rt 61 (((w.alloc (Obj.cells #[.pointer ua] 61)).alloc (Obj.cells #[.pointer ub] 61)).alloc (Obj.cells #[.pointer none] 61)) w.heap.size #[.pointer ua]) := ((Rt.new _ w _).alloc _).alloc _
  have RB0 : Hid (Rt 61 (((w.alloc (Obj.cells #[.pointer ua] 61)).alloc (Obj.cells #[.pointer ub] 61)).alloc (Obj.cells #[.pointer none] 61)) (w.heap.size + 1) #[.pointer ub]) := (Rt.new' (by simp) _).alloc _
  have RC0 : Hid (Rt 61 (((w.alloc (Obj.cells #[.pointer ua] 61)).alloc (Obj.cells #[.pointer ub] 61)).alloc (Obj.cells #[.pointer none] 61)) (w.heap.size + 1 + 1) #[.pointer none]) := Rt.new' (by simp) _
  have TA0 := Hid.mk4 (hA.later g0)
  have TB0 := Hid.mk4 (hB.later g0)
  have HA := Hid.mk4 ha
  have HB := Hid.mk4 hb
  have HV := Hid.mk4 hv
  have HD := Hid.mk4 hD
  have hll : (lx ++ [x]).length ≤ szs (lx ++ [x]) ∧ (y :: ly).length ≤ szs (y :: ly) := ⟨ha.szs_le, hb.szs_le⟩
  have HSZ := Hid.mk4 hsz
  have HLL := Hid.mk4 hll
  have hss : s.size ≤ 1000000 := by omega
  obtain ⟨m, hm⟩ : ∃ m, lx.length = m := ⟨_, rfl⟩
  have HM := Hid.mk4 hm
  have hmb : m ≤ 1000000 := by simp at hll; omega
  have hxs : 29 ≤ x.size ∧ x.size ≤ 64 := ⟨(ha x (by simp)).2, (ha x (by simp)).1.2.2⟩
  obtain ⟨k, hk⟩ : ∃ k, ly.length = k := ⟨_, rfl⟩
  have HK := Hid.mk4 hk
  have hkb : k ≤ 1000000 := by simp at hll; omega
  have hys : 29 ≤ y.size ∧ y.size ≤ 64 := ⟨(hb y (by simp)).2, (hb y (by simp)).1.2.2⟩
  clear hA hB ha hb hv hD hsz hll hm hk
  have t1 : (s.size : Int) < 29 := by omega
  go_enter Tryd.func43, Tryd.ntmps43
  go_wp2
  generalize (((w.alloc (Obj.cells #[.pointer ua] 61)).alloc (Obj.cells #[.pointer ub] 61)).alloc (Obj.cells #[.pointer none] 61)) = w0 at *
  have ka := cell_regrown (RA0.out.cell 0)
  have CL : Hid (∀ d os, Calls Tryd.prog 35 #[.agg #[.pointer ua]] (grow (redrawn w0 d) os) fun e w'' => e = .returned (.int .i64 ((m : Int) + 1)) ∧ ∃ p : Regrown, w'' = grow (redrawn w0 p.d) p.os) := fun d os =>
    Calls.regrown_of (by
      have := tlen_any E _ _ (grow (redrawn w0 d) os) (TA0.out.later (below_regrown w0 d os))
      rw [show (((lx ++ [x]).length : Nat) : Int) = (m : Int) + 1 from by rw [List.length_append, HM.out]; simp] at this
      exact this)
  have CG : Hid (∀ d os, Calls Tryd.prog 45 #[.agg #[.pointer ua], .int .i64 (m : Nat)] (grow (redrawn w0 d) os) fun e w'' => e = .returned (.tuple #[.string x, .bool true]) ∧ ∃ p : Regrown, w'' = grow (redrawn w0 p.d) p.os) := fun d os =>
    Calls.regrown_of (tget_in E _ _ m x (grow (redrawn w0 d) os) (TA0.out.later (below_regrown w0 d os)) (by rw [← HM.out]; simp) (by have := HLL.out; have := HSZ.out; omega))
  refine wp_region_quiet_below (by kernel_rfl) (by kernel_rfl) ?_
  repeat (go_big_quiet_step (first | (go_at_call 35; exact CL.out _ _) | (go_at_call 45; exact CG.out _ _)))
  refine wpQuiet_nil ?_
  intro _ hw'
  obtain ⟨⟨dq, osq⟩, hw''⟩ := hw'
  subst hw''
  have bq := below_regrown w0 dq osq
  clear ka CL CG
  have RA1 := Hid.mk4 (RA0.out.later' bq)
  have RB1 := Hid.mk4 (RB0.out.later' bq)
  have RC1 := Hid.mk4 (RC0.out.later' bq)
  have TA1 := Hid.mk4 (TA0.out.later bq)
  have TB1 := Hid.mk4 (TB0.out.later bq)
  have g1 := g0.trans (bq.mono g0.size)
  clear RA0 RB0 RC0 TA0 TB0 g0 bq
  generalize grow (redrawn w0 dq) osq = w1 at *
  have hxsz : (x ++ s).size = x.size + s.size := app_size x s
  have HXS := Hid.mk4 hxsz
  clear hxsz
  go_wp2
  have ka := cell_regrown (RA1.out.cell 0)
  refine wp_region_mix [([0, 1], [2]), ([3], [4]), ([], [5])] (by kernel_rfl) (by kernel_rfl) ?_
  rintro w1' ⟨d1, rfl⟩
  refine wpPlan_cons ?_
  simp only [pickAll, pickAt, List.nil_append, List.cons_append, List.append_nil]
  repeat (go_big_quiet_step (fail))
  refine wpQuiet_nil ?_
  clear ka
  go_wp2_with fail
  have hL := tlen_any E _ _ (redrawn w1 d1) (TA1.out.later (below_redrawn w1 d1))
  rw [show (((lx ++ [x]).length : Nat) : Int) = (m : Int) + 1 from by rw [List.length_append, HM.out]; simp] at hL
  refine hL.mono ?_
  clear hL
  rintro e w2 ⟨rfl, b2⟩
  have b12 : Below w1.heap.size w1 w2 := (below_redrawn w1 d1).trans b2
  clear b2
  go_wp2
  refine mixNext_below b12 ?_
  refine wpPlan_cons ?_
  simp only [pickAll, pickAt, List.nil_append, List.cons_append, List.append_nil]
  repeat (go_big_quiet_step (fail))
  refine wpQuiet_nil ?_
  go_wp2_with fail
  have hS := tslice_any E _ _ 0 (m : Nat) 0 m w2 (TA1.out.later b12) (by have := HLL.out; have := HSZ.out; omega) (by unfold hld; omega) (by unfold hld; rw [List.length_append, HM.out]; simp)
  rw [show ((lx ++ [x]).drop 0).take (m - 0) = lx from by rw [← HM.out]; simp] at hS
  refine hS.mono ?_
  clear hS
  rintro e w3 ⟨v3, rfl, ht3, b3⟩
  obtain ⟨uc, rfl⟩ := ht3.ptr
  have HT3 := Hid.mk4 ht3
  have b13 : Below w1.heap.size w1 w3 := b12.trans (b3.mono b12.size)
  clear b3 b12 ht3
  go_wp2
  refine mixNext_below b13 ?_
  refine wpPlan_cons ?_
  simp only [pickAll, pickAt, List.nil_append, List.cons_append, List.append_nil]
  refine wpQuiet_nil ?_
  have QA := Hid.mk4 (RA1.out.later' b13)
  have QB := Hid.mk4 (RB1.out.later' b13)
  have QC := Hid.mk4 (RC1.out.later' b13)
  have QT := Hid.mk4 (TB1.out.later b13)
  have gq := g1.trans (b13.mono g1.size)
  have fz := QA.out.fz
  have cz := QA.out.cell 0
  have hlt := QA.out.lt
  clear RA1 RB1 RC1 TA1 TB1 g1
  go_wp2
  refine mixNext_last ?_
  have RA2 := Hid.mk4 (QA.out.set1 (.pointer uc))
  have RB2 := Hid.mk4 (QB.out.other (g' := w.heap.size) (by omega) 0 (.pointer uc))
  have RC2 := Hid.mk4 (QC.out.other (g' := w.heap.size) (by omega) 0 (.pointer uc))
  have TA2 := Hid.mk4 (HT3.out.putT QA.out (.pointer uc))
  have TB2 := Hid.mk4 (QT.out.putT QA.out (.pointer uc))
  have g2 : Below w.heap.size w (w3.setCell ⟨w.heap.size, 0, none⟩ (.pointer uc)) := gq.setCell (p := ⟨w.heap.size, 0, none⟩) (Nat.le_refl _) _
  clear QA QB QC QT gq fz cz hlt HT3 b13
  generalize w3.setCell ⟨w.heap.size, 0, none⟩ (.pointer uc) = w2' at *
  have hs2 : (x ++ s).size ≤ 1000100 ∧ 29 ≤ (x ++ s).size := by have := HXS.out; omega
  have t3 : decide (((x ++ s).size : Int) < 29) = false := by simp only [decide_eq_false_iff_not]; omega
  have t4 : decide ((x ++ s).size < 29) = false := by simp only [decide_eq_false_iff_not]; omega
  obtain ⟨s2, hs2e⟩ : ∃ s2, s2 = x ++ s := ⟨_, rfl⟩
  have HS2 := Hid.mk4 hs2e
  rw [← hs2e] at hs2 t3 t4 ⊢
  clear hs2e
  have cb := RB2.out.cell 0
  have CG2 : Hid (Calls Tryd.prog 45 #[.agg #[.pointer ub], .int .i64 0] w2' fun e w' => e = .returned (.tuple #[.string y, .bool true]) ∧ Below w2'.heap.size w2' w') := tget_in E _ _ 0 y w2' TB2.out rfl (by have := HLL.out; have := HSZ.out; omega)
  go_wp2_with fail
  refine CG2.out.mono ?_
  clear CG2
  rintro e w4 ⟨rfl, b4⟩
  clear cb
  have RA4 := Hid.mk4 (RA2.out.later' b4)
  have RB4 := Hid.mk4 (RB2.out.later' b4)
  have RC4 := Hid.mk4 (RC2.out.later' b4)
  have TA4 := Hid.mk4 (TA2.out.later b4)
  have TB4 := Hid.mk4 (TB2.out.later b4)
  have g4 := g2.trans (b4.mono g2.size)
  clear RA2 RB2 RC2 TA2 TB2 g2 b4
  have HVS : Hid (vld s2.data.toList = true) := by show _ = _; rw [HS2.out, bytes_append]; exact vld_append (HA.out x (by simp)).1.1 HV.out
  have hs2b : s2.size ≤ 1099511627776 := by omega
  have HLB : Hid ((lx : List ByteArray).length + s.size + ((y :: ly) : List ByteArray).length ≤ 1000000) := by
    have h1 := HLL.out
    have h2 := HSZ.out
    show _ ≤ _
    simp at h1 ⊢
    omega
  have hTb := E.later hT g4
  go_wp2
  have ka := cell_regrown (RA4.out.cell 0)
  have kb := cell_regrown (RB4.out.cell 0)
  refine wp_region_mix [([0, 1, 5], [2]), ([], [3]), ([], [4]), ([], [6]), ([], [7])] (by kernel_rfl) (by kernel_rfl) ?_
  rintro w7 ⟨d7, rfl⟩
  refine wpPlan_cons ?_
  simp only [pickAll, pickAt, List.nil_append, List.cons_append, List.append_nil]
  repeat (go_big_quiet_step (fail))
  refine wpQuiet_nil ?_
  clear ka kb
  go_wp2_with fail
  refine (pieces_any s2 (redrawn w4 d7) tb hs2b HVS.out (htab _ (E.later hTb (below_redrawn w4 d7)))).mono ?_
  rintro e w8 ⟨v8, lp, rfl, hst, hlp, hpc, b8⟩
  have HST := Hid.mk4 hst
  have HPC := Hid.mk4 hpc
  have b18 : Below w4.heap.size w4 w8 := (below_redrawn w4 d7).trans b8
  have htxt : cat lx ++ (s2.data.toList ++ cat (y :: ly)) = cat (lx ++ [x]) ++ (s.data.toList ++ cat (y :: ly)) := by rw [HS2.out, bytes_append, cat_append, cat_one]; simp
  have hw0 := weld_inv (E := E) (la := lx) (lb := (y :: ly)) (fun z hz => HA.out z (by simp [hz])) HB.out hpc (Or.inl (by rw [bytes_length]; exact hs2.2)) (by rw [htxt]; exact HD.out)
  rw [htxt] at hw0
  have HW := Hid.mk4 hw0
  clear hw0
  have hlp2 : lp.length ≤ 1099511627776 - 2000000 := by
    have h1 := szs_ge hpc.2.1
    rw [← cat_length, hpc.1, bytes_length] at h1
    omega
  clear hst hpc b8
  go_wp2
  refine mixNext_below b18 ?_
  refine wpPlan_cons ?_
  simp only [pickAll, pickAt, List.nil_append, List.cons_append, List.append_nil]
  refine wpQuiet_nil ?_
  go_wp2_with fail
  refine (tof_any E v8 lp w8 HST.out hlp HW.out.2.2 (E.later hTb b18)).mono ?_
  rintro e w9 ⟨v9, rfl, ht9, b9⟩
  have HT9 := Hid.mk4 ht9
  have b19 : Below w4.heap.size w4 w9 := b18.trans (b9.mono b18.size)
  clear ht9 b9 b18 HST
  go_wp2
  refine mixNext_below b19 ?_
  refine wpPlan_cons ?_
  simp only [pickAll, pickAt, List.nil_append, List.cons_append, List.append_nil]
  refine wpQuiet_nil ?_
  go_wp2_with fail
  refine (tjoin_any E _ _ _ _ w9 (TA4.out.later b19) HT9.out (by have := HLB.out; omega)).mono ?_
  rintro e w10 ⟨v10, rfl, ht10, b10⟩
  have HT10 := Hid.mk4 ht10
  have b110 : Below w4.heap.size w4 w10 := b19.trans (b10.mono b19.size)
  clear ht10 b10 b19 HT9
  go_wp2
  refine mixNext_below b110 ?_
  refine wpPlan_cons ?_
  simp only [pickAll, pickAt, List.nil_append, List.cons_append, List.append_nil]
  refine wpQuiet_nil ?_
  go_wp2_with fail
  refine (tjoin_any E _ _ _ _ w10 HT10.out (TB4.out.later b110) (by have := HLB.out; rw [List.length_append]; omega)).mono ?_
  rintro e w11 ⟨v11, rfl, ht11, b11⟩
  obtain ⟨u11, rfl⟩ := ht11.ptr
  have HT11 := Hid.mk4 ht11
  have b111 : Below w4.heap.size w4 w11 := b110.trans (b11.mono b110.size)
  clear ht11 b11 b110 HT10
  go_wp2
  refine mixNext_below b111 ?_
  refine wpPlan_cons ?_
  simp only [pickAll, pickAt, List.nil_append, List.cons_append, List.append_nil]
  refine wpQuiet_nil ?_
  have QC := Hid.mk4 (RC4.out.later' b111)
  have gq := g4.trans (b111.mono g4.size)
  have fz := QC.out.fz
  have cz := QC.out.cell 0
  have hlt := QC.out.lt
  clear RA4 RB4 RC4 TA4 TB4 g4 b111
  go_wp2
  refine mixNext_last ?_
  have gz : Below w.heap.size w (w11.setCell ⟨w.heap.size + 1 + 1, 0, none⟩ (.pointer u11)) := gq.setCell (p := ⟨w.heap.size + 1 + 1, 0, none⟩) (by simp; omega) _
  have HTZ := Hid.mk4 (HT11.out.putT QC.out (.pointer u11))
  have HRZ := Hid.mk4 (QC.out.set1 (.pointer u11))
  clear QC gq fz cz hlt HT11
  generalize w11.setCell ⟨w.heap.size + 1 + 1, 0, none⟩ (.pointer u11) = w12 at *
  go_wp2
  refine bodyPost_ret (results_tree rfl _ _ (w.heap.size + 1 + 1) _ rfl HRZ.out) rfl ⟨_, _, rfl, by have := HTZ.out; rwa [List.append_assoc] at this, HW.out.1, HW.out.2.1, gz⟩

/-- weld. -/
theorem weld_any (E : Env) (tb : Nat × Nat) (htab : ∀ W, E.Tb W → Tab W tb) (va vb : Value) (la lb : List ByteArray) (s : ByteArray) (w : World) (hA : Tr E w va la) (hB : Tr E w vb lb) (ha : Big la) (hb : Big lb) (hv : vld s.data.toList = true) (hsz : szs la + s.size + szs lb ≤ 1000000) (hD : Dt E (cat la ++ (s.data.toList ++ cat lb))) (hT : E.Tb w) :
    Calls Tryd.prog 43 #[.agg #[va], .string s, .agg #[vb]] w fun e w' => ∃ v ls, e = .returned (.agg #[v]) ∧ Tr E w' v ls ∧ Inv ls ∧ cat ls = cat la ++ (s.data.toList ++ cat lb) ∧ Below w.heap.size w w' := by
  obtain ⟨ua, rfl⟩ := hA.ptr
  obtain ⟨ub, rfl⟩ := hB.ptr
  rcases List.eq_nil_or_concat la with rfl | ⟨lx, x, hlx⟩
  · cases lb with
    | nil =>
      rcases Nat.lt_or_ge s.size 29 with h | h
      · exact weld_eSe E tb htab ua ub s w hA hB ha hb hv hsz hD hT h
      · exact weld_eLe E tb htab ua ub s w hA hB ha hb hv hsz hD hT h
    | cons y ly =>
      rcases Nat.lt_or_ge s.size 29 with h | h
      · exact weld_eSn E tb htab ua ub ly y s w hA hB ha hb hv hsz hD hT h
      · exact weld_eLn E tb htab ua ub ly y s w hA hB ha hb hv hsz hD hT h
  · rw [List.concat_eq_append] at hlx
    subst hlx
    cases lb with
    | nil =>
      rcases Nat.lt_or_ge s.size 29 with h | h
      · exact weld_nSe E tb htab ua ub lx x s w hA hB ha hb hv hsz hD hT h
      · exact weld_nLe E tb htab ua ub lx x s w hA hB ha hb hv hsz hD hT h
    | cons y ly =>
      rcases Nat.lt_or_ge s.size 29 with h | h
      · exact weld_nSn E tb htab ua ub lx x ly y s w hA hB ha hb hv hsz hD hT h
      · exact weld_nLn E tb htab ua ub lx x ly y s w hA hB ha hb hv hsz hD hT h
end Go.Proofs.YtfgefdkkjfjjjaaDoor
