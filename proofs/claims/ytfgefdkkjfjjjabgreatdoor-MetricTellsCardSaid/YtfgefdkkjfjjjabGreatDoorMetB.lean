/- metric's parts: counts and texts. metric's parts: behind, first, textOf, the closure. -/
import Derived.Test.YtfgefdkkjfjjjabGreatDoorStrongE
namespace Go.Proofs.YtfgefdkkjfjjjabGreatDoor
open Go.RowKit Go.Sort
set_option linter.unusedSimpArgs false
set_option linter.unusedVariables false

/-- Results through cells. -/
theorem results_mc {fn : Func} {p : Tmp} (h : fn.results = #[.cell p 55]) (tmps : Array Value) (w : World) (g : Nat) (x0 x1 x2 x3 : Value)
    (hp : tmps.getD p undef = .pointer (some ⟨g, 0, none⟩)) (hg : Rt 55 w g #[x0, x1, x2, x3]) : (results fn tmps).run Tryz.prog w = .ok (.agg #[x0, x1, x2, x3]) w :=
  results_cell_row h tmps w g _ _ _ _ hp hg Tryz.underlying55 rfl (by kernel_rfl)
theorem results_text {fn : Func} {p : Tmp} (h : fn.results = #[.cell p 54]) (tmps : Array Value) (w : World) (g : Nat) (x0 : Value)
    (hp : tmps.getD p undef = .pointer (some ⟨g, 0, none⟩)) (hg : Rt 54 w g #[x0]) : (results fn tmps).run Tryz.prog w = .ok (.agg #[x0]) w :=
  results_cell_row h tmps w g _ _ _ _ hp hg Tryz.underlying54 rfl (by kernel_rfl)
theorem results_text_ok {fn : Func} {p q : Tmp} (h : fn.results = #[.cell p 54, .tmp q]) (tmps : Array Value) (w : World) (g : Nat) (v x0 : Value)
    (hp : tmps.getD p undef = .pointer (some ⟨g, 0, none⟩)) (hq : tmps.getD q undef = v) (hg : Rt 54 w g #[x0]) : (results fn tmps).run Tryz.prog w = .ok (.tuple #[.agg #[x0], v]) w := by
  have hp' : tmps[p]?.getD undef = .pointer (some ⟨g, 0, none⟩) := by simpa using hp
  have hq' : tmps[q]?.getD undef = v := by simpa using hq
  simp [results, h, hq', hp', asAddr, run_loadVar_row w g 54 54 _ (0, 0) _ hg Tryz.underlying54 rfl (by kernel_rfl)]
theorem results_text_mc {fn : Func} {p q : Tmp} (h : fn.results = #[.cell p 54, .cell q 55]) (tmps : Array Value) (w : World) (g g' : Nat) (x0 y0 y1 y2 y3 : Value)
    (hp : tmps.getD p undef = .pointer (some ⟨g, 0, none⟩)) (hq : tmps.getD q undef = .pointer (some ⟨g', 0, none⟩)) (hg : Rt 54 w g #[x0]) (hg' : Rt 55 w g' #[y0, y1, y2, y3]) : (results fn tmps).run Tryz.prog w = .ok (.tuple #[.agg #[x0], .agg #[y0, y1, y2, y3]]) w := by
  have hp' : tmps[p]?.getD undef = .pointer (some ⟨g, 0, none⟩) := by simpa using hp
  have hq' : tmps[q]?.getD undef = .pointer (some ⟨g', 0, none⟩) := by simpa using hq
  simp [results, h, hq', hp', asAddr, run_loadVar_row w g 54 54 _ (0, 0) _ hg Tryz.underlying54 rfl (by kernel_rfl), run_loadVar_row w g' 55 55 _ (0, 0) _ hg' Tryz.underlying55 rfl (by kernel_rfl)]

/-- What is stored into a block of another make doesn't touch a rope. -/
theorem RpA.put {E : Env} {t : TypeId} {w : World} {g : Nat} {a : Array Value} (hn : t ≠ 112) (hR : t ≠ 46) (hr : Rt t w g a) (ha : Lone a) {r : Value} {T : List UInt8} (h : RpA E w r T) (j : Nat) (x : Value) : RpA E (w.setCell ⟨g, j, none⟩ x) r T := by
  obtain ⟨g0, ls, e, ⟨u, hrow, htr, hI⟩, hc⟩ := h
  refine ⟨g0, ls, e, ⟨u, ?_, htr.put hn hr ha j x, hI⟩, hc⟩
  rcases hrow with hrow | ⟨g1, e1, hrt⟩
  · exact Or.inl hrow
  · refine Or.inr ⟨g1, e1, hrt.other ?_ j x⟩
    rintro rfl
    unfold Rt at hr hrt
    rw [hr] at hrt
    simp at hrt
    exact hR hrt.2
theorem RpA.putX {E : Env} {w : World} {g : Nat} {y : Value} (hr : Rt 54 w g #[y]) {r : Value} {T : List UInt8} (h : RpA E w r T) (x : Value) : RpA E (w.setCell ⟨g, 0, none⟩ x) r T :=
  h.put (by decide) (by decide) hr (lone1 _) 0 x
theorem RpA.ptr {E : Env} {w : World} {r : Value} {T : List UInt8} (h : RpA E w r T) : ∃ g, r = .pointer (some ⟨g, 0, none⟩) := by
  obtain ⟨g, _, e, _⟩ := h
  exact ⟨g, e⟩

set_option maxHeartbeats 1000000 in
set_option maxRecDepth 100000 in
/-- counts.get. -/
theorem mget_any (k a0 a1 a2 a3 : Int) (w : World) :
    Calls Tryz.prog 28 #[.agg #[.int .i64 a0, .int .i64 a1, .int .i64 a2, .int .i64 a3], .int .i64 k] w fun e w' => e = .returned (.int .i64 (get4 k a0 a1 a2 a3)) ∧ Below w.heap.size w w' := by
  have b0 : Below w.heap.size w (w.alloc (Obj.cells #[.int .i64 a0, .int .i64 a1, .int .i64 a2, .int .i64 a3] 55)) := (Below.refl _ _).alloc (Nat.le_refl _) _
  have H := Hid.mk4 (fun W => get_any k a0 a1 a2 a3 W)
  generalize get4 k a0 a1 a2 a3 = z at *
  go_enter Tryz.func28, Tryz.ntmps28
  go_wp2_with fail
  refine (H.out _).mono ?_
  rintro e w1 ⟨rfl, b1⟩
  clear H
  go_wp2
  go_ret
  exact ⟨rfl, b0.trans (b1.mono b0.size)⟩

set_option maxHeartbeats 1000000 in
set_option maxRecDepth 100000 in
/-- counts.plus. -/
theorem mplus_any (a0 a1 a2 a3 b0 b1 b2 b3 : Int) (w : World) :
    Calls Tryz.prog 116 #[.agg #[.int .i64 a0, .int .i64 a1, .int .i64 a2, .int .i64 a3], .agg #[.int .i64 b0, .int .i64 b1, .int .i64 b2, .int .i64 b3]] w fun e w' => e = .returned (.agg #[.int .i64 (wrap64 (a0 + b0)), .int .i64 (wrap64 (a1 + b1)), .int .i64 (wrap64 (a2 + b2)), .int .i64 (wrap64 (a3 + b3))]) ∧ Below w.heap.size w w' := by
  have H : Hid (∀ W, Calls Tryz.prog 71 #[.agg #[.int .i64 a0, .int .i64 a1, .int .i64 a2, .int .i64 a3], .agg #[.int .i64 b0, .int .i64 b1, .int .i64 b2, .int .i64 b3]] W fun e w' => e = .returned (.agg #[.int .i64 (wrap64 (a0 + b0)), .int .i64 (wrap64 (a1 + b1)), .int .i64 (wrap64 (a2 + b2)), .int .i64 (wrap64 (a3 + b3))]) ∧ Below W.heap.size W w') := cplus_any a0 a1 a2 a3 b0 b1 b2 b3
  generalize wrap64 (a0 + b0) = z0 at *
  generalize wrap64 (a1 + b1) = z1 at *
  generalize wrap64 (a2 + b2) = z2 at *
  generalize wrap64 (a3 + b3) = z3 at *
  have b0 : Below w.heap.size w (((w.alloc (Obj.cells #[.int .i64 a0, .int .i64 a1, .int .i64 a2, .int .i64 a3] 55)).alloc (Obj.cells #[.int .i64 b0, .int .i64 b1, .int .i64 b2, .int .i64 b3] 55)).alloc (Obj.cells #[.int .i64 0, .int .i64 0, .int .i64 0, .int .i64 0] 55)) :=
    (((Below.refl _ _).alloc (Nat.le_refl _) _).alloc (by simp) _).alloc (by simp <;> omega) _
  go_enter Tryz.func116, Tryz.ntmps116
  go_wp2_with fail
  refine (H.out _).mono ?_
  rintro e w1 ⟨rfl, b1⟩
  have r1 : Rt 55 w1 (w.heap.size + 1 + 1) #[.int .i64 0, .int .i64 0, .int .i64 0, .int .i64 0] := (Rt.new' (by simp) _).later b1 (by simp)
  have fz := r1.fz
  have c0 := r1.cell 0; have c1 := r1.cell 1; have c2 := r1.cell 2; have c3 := r1.cell 3
  have R1 := Hid.mk4 r1
  have g1 := b0.trans (b1.mono b0.size)
  have hlt := r1.lt
  clear r1 b0 b1
  go_wp2
  refine bodyPost_ret (results_mc rfl _ _ (w.heap.size + 1 + 1) _ _ _ _ rfl (R1.out.set4 _ _ _ _)) rfl ⟨rfl, ?_⟩
  exact below_set4 g1 (by omega) _ _ _ _

set_option maxHeartbeats 1000000 in
set_option maxRecDepth 100000 in
/-- text.sum. -/
theorem xsum_any (tb : Nat × Nat) {g : Nat} {T : List UInt8} {w : World} (h : RpA (strongE tb) w (.pointer (some ⟨g, 0, none⟩)) T) (hz : T.length ≤ 100000) :
    Calls Tryz.prog 37 #[.agg #[.pointer (some ⟨g, 0, none⟩)]] w fun e w' => e = .returned (.agg #[.int .i64 (T.length : Nat), .int .i64 (kP (pts T)), .int .i64 (kU (pts T)), .int .i64 (kL (pts T))]) ∧ Below w.heap.size w w' := by
  have b0 : Below w.heap.size w ((w.alloc (Obj.cells #[.pointer (some ⟨g, 0, none⟩)] 54)).alloc (Obj.cells #[.int .i64 0, .int .i64 0, .int .i64 0, .int .i64 0] 55)) := ((Below.refl _ _).alloc (Nat.le_refl _) _).alloc (by simp) _
  have H := Hid.mk4 (rpa_counts tb (h.later b0) hz)
  clear h hz
  generalize T.length = z0 at *
  generalize kP (pts T) = z1 at *
  generalize kU (pts T) = z2 at *
  generalize kL (pts T) = z3 at *
  go_enter Tryz.func37, Tryz.ntmps37
  go_wp2_with fail
  refine H.out.mono ?_
  rintro e w1 ⟨rfl, b1⟩
  have r1 : Rt 55 w1 (w.heap.size + 1) #[.int .i64 0, .int .i64 0, .int .i64 0, .int .i64 0] := (Rt.new' (by simp) _).later b1 (by simp)
  have fz := r1.fz
  have c0 := r1.cell 0; have c1 := r1.cell 1; have c2 := r1.cell 2; have c3 := r1.cell 3
  have R1 := Hid.mk4 r1
  have g1 := b0.trans (b1.mono b0.size)
  have hlt := r1.lt
  clear r1 b0 b1 H
  go_wp2
  refine bodyPost_ret (results_mc rfl _ _ (w.heap.size + 1) _ _ _ _ rfl (R1.out.set4 _ _ _ _)) rfl ⟨rfl, ?_⟩
  exact below_set4 g1 (by omega) _ _ _ _

set_option maxHeartbeats 2000000 in
set_option maxRecDepth 100000 in
/-- text.slice. -/
theorem xslice_any (tb : Nat × Nat) {g : Nat} {T : List UInt8} {w : World} (f t : Nat) (h : RpA (strongE tb) w (.pointer (some ⟨g, 0, none⟩)) T) (hz : T.length ≤ 100000) (hft : f ≤ t) (ht : t ≤ T.length) (hef : vld (T.take f) = true) (het : vld (T.take t) = true) (hT : Tabs w tb) :
    Calls Tryz.prog 115 #[.agg #[.pointer (some ⟨g, 0, none⟩)], .int .i64 (f : Nat), .int .i64 (t : Nat)] w fun e w' => ∃ g', e = .returned (.agg #[.pointer (some ⟨g', 0, none⟩)]) ∧ RpA (strongE tb) w' (.pointer (some ⟨g', 0, none⟩)) ((T.take t).drop f) ∧ Below w.heap.size w w' := by
  have b0 : Below w.heap.size w ((w.alloc (Obj.cells #[.pointer (some ⟨g, 0, none⟩)] 54)).alloc (Obj.cells #[.pointer none] 54)) := ((Below.refl _ _).alloc (Nat.le_refl _) _).alloc (by simp) _
  have H := Hid.mk4 (msli_ok (strongE tb) tb (strong_tab tb) _ T f t _ (h.later b0) hz hft ht hef het (strong_Dt tb (by rw [List.length_take]; omega)) (strong_Dt tb (by rw [List.length_drop, List.length_take]; omega)) (hT.later b0))
  clear h
  go_enter Tryz.func115, Tryz.ntmps115
  go_wp2_with fail
  refine H.out.mono ?_
  rintro e w1 ⟨r', rfl, hr', b1⟩
  obtain ⟨g', hg'⟩ := hr'.ptr
  subst hg'
  have r1 : Rt 54 w1 (w.heap.size + 1) #[.pointer none] := (Rt.new' (by simp) _).later b1 (by simp)
  have fz := r1.fz
  have c0 := r1.cell 0
  have R1 := Hid.mk4 r1
  have HR := Hid.mk4 hr'
  have g1 := b0.trans (b1.mono b0.size)
  have hlt := r1.lt
  clear r1 b0 b1 H hr'
  go_wp2
  refine bodyPost_ret (results_text rfl _ _ (w.heap.size + 1) _ rfl (R1.out.set1 _)) rfl ⟨g', rfl, HR.out.putX R1.out _, ?_⟩
  exact g1.setCell (p := ⟨w.heap.size + 1, 0, none⟩) (by simp) _
end Go.Proofs.YtfgefdkkjfjjjabGreatDoor
namespace Go.Proofs.YtfgefdkkjfjjjabGreatDoor
open Go.RowKit Go.Sort
set_option linter.unusedSimpArgs false
set_option linter.unusedVariables false

set_option maxHeartbeats 2000000 in
set_option maxRecDepth 100000 in
/-- text.behind. -/
theorem xbehind_any (tb : Nat × Nat) {g g1 : Nat} {T T1 : List UInt8} {w : World} (h : RpA (strongE tb) w (.pointer (some ⟨g, 0, none⟩)) T) (h1 : RpA (strongE tb) w (.pointer (some ⟨g1, 0, none⟩)) T1) (a : Nat) (ha : a ≤ T.length) (e1 : T1 = T.take a) (hz : T.length ≤ 100000) (hT : Tabs w tb) :
    Calls Tryz.prog 113 #[.agg #[.pointer (some ⟨g, 0, none⟩)], .agg #[.pointer (some ⟨g1, 0, none⟩)]] w fun e w' => ∃ g', e = .returned (.agg #[.pointer (some ⟨g', 0, none⟩)]) ∧ RpA (strongE tb) w' (.pointer (some ⟨g', 0, none⟩)) (T.drop a) ∧ Below w.heap.size w w' := by
  have hv := rpa_valid h
  have hv1 : vld (T.take a) = true := by rw [← e1]; exact rpa_valid h1
  have hl1 : T1.length = a := by rw [e1, List.length_take]; omega
  have b0 : Below w.heap.size w (((w.alloc (Obj.cells #[.pointer (some ⟨g, 0, none⟩)] 54)).alloc (Obj.cells #[.pointer (some ⟨g1, 0, none⟩)] 54)).alloc (Obj.cells #[.pointer none] 54)) := (((Below.refl _ _).alloc (Nat.le_refl _) _).alloc (by simp) _).alloc (by simp <;> omega) _
  have R0 : Hid (Rt 54 (((w.alloc (Obj.cells #[.pointer (some ⟨g, 0, none⟩)] 54)).alloc (Obj.cells #[.pointer (some ⟨g1, 0, none⟩)] 54)).alloc (Obj.cells #[.pointer none] 54)) w.heap.size #[.pointer (some ⟨g, 0, none⟩)]) := ((Rt.new _ w _).alloc _).alloc _
  have R1 : Hid (Rt 54 (((w.alloc (Obj.cells #[.pointer (some ⟨g, 0, none⟩)] 54)).alloc (Obj.cells #[.pointer (some ⟨g1, 0, none⟩)] 54)).alloc (Obj.cells #[.pointer none] 54)) (w.heap.size + 1) #[.pointer (some ⟨g1, 0, none⟩)]) := (Rt.new' (by simp) _).alloc _
  have R2 : Hid (Rt 54 (((w.alloc (Obj.cells #[.pointer (some ⟨g, 0, none⟩)] 54)).alloc (Obj.cells #[.pointer (some ⟨g1, 0, none⟩)] 54)).alloc (Obj.cells #[.pointer none] 54)) (w.heap.size + 1 + 1) #[.pointer none]) := Rt.new' (by simp) _
  have HL1 : Hid (∀ W, Below w.heap.size w W → Calls Tryz.prog 19 #[.pointer (some ⟨g1, 0, none⟩)] W fun e w' => e = .returned (.int .i64 (a : Nat)) ∧ Below W.heap.size W w') := fun W hW => by
    have := rpa_len (strongE tb) (h1.later hW) (by omega)
    rw [hl1] at this
    exact this
  have HL : Hid (∀ W, Below w.heap.size w W → Calls Tryz.prog 19 #[.pointer (some ⟨g, 0, none⟩)] W fun e w' => e = .returned (.int .i64 (T.length : Nat)) ∧ Below W.heap.size W w') := fun W hW => rpa_len (strongE tb) (h.later hW) hz
  have HS : Hid (∀ W, Below w.heap.size w W → Calls Tryz.prog 115 #[.agg #[.pointer (some ⟨g, 0, none⟩)], .int .i64 (a : Nat), .int .i64 (T.length : Nat)] W fun e w' => ∃ g', e = .returned (.agg #[.pointer (some ⟨g', 0, none⟩)]) ∧ RpA (strongE tb) w' (.pointer (some ⟨g', 0, none⟩)) (T.drop a) ∧ Below W.heap.size W w') := fun W hW => by
    have := xslice_any tb a T.length (h.later hW) hz ha (Nat.le_refl _) hv1 (by rw [List.take_length]; exact hv) (hT.later hW)
    rw [List.take_length] at this
    exact this
  clear h h1 hv hv1 hl1 e1
  go_enter Tryz.func113, Tryz.ntmps113
  go_wp2
  have k0 := cell_regrown (R0.out.cell 0)
  have k1 := cell_regrown (R1.out.cell 0)
  refine wp_region_mix [([0, 1, 2, 4, 5], [3]), ([], [6]), ([], [7]), ([], [8])] (by kernel_rfl) (by kernel_rfl) ?_
  rintro w3 ⟨d3, rfl⟩
  refine wpPlan_cons ?_
  simp only [pickAll, pickAt, List.nil_append, List.cons_append, List.append_nil]
  repeat (go_big_quiet_step (fail))
  refine wpQuiet_nil ?_
  clear k0 k1 R0 R1
  have b3 := b0.trans ((below_redrawn _ d3).mono b0.size)
  have R3 := Hid.mk4 (R2.out.later' (below_redrawn _ d3))
  have bb := below_redrawn (((w.alloc (Obj.cells #[.pointer (some ⟨g, 0, none⟩)] 54)).alloc (Obj.cells #[.pointer (some ⟨g1, 0, none⟩)] 54)).alloc (Obj.cells #[.pointer none] 54)) d3
  clear R2
  go_wp2_with fail
  refine (HL1.out _ b3).mono ?_
  rintro e w4 ⟨rfl, b4⟩
  have g4 := b3.trans (b4.mono b3.size)
  have bb4 := bb.trans (b4.mono bb.size)
  have R4 := Hid.mk4 (R3.out.later' b4)
  clear R3 b3 b4 HL1 bb
  go_wp2
  refine mixNext_below bb4 ?_
  refine wpPlan_cons ?_
  simp only [pickAll, pickAt, List.nil_append, List.cons_append, List.append_nil]
  refine wpQuiet_nil ?_
  go_wp2_with fail
  refine (HL.out _ g4).mono ?_
  rintro e w5 ⟨rfl, b5⟩
  have g5 := g4.trans (b5.mono g4.size)
  have bb5 := bb4.trans (b5.mono bb4.size)
  have R5 := Hid.mk4 (R4.out.later' b5)
  clear R4 g4 b5 HL bb4
  go_wp2
  refine mixNext_below bb5 ?_
  refine wpPlan_cons ?_
  simp only [pickAll, pickAt, List.nil_append, List.cons_append, List.append_nil]
  refine wpQuiet_nil ?_
  go_wp2_with fail
  refine (HS.out _ g5).mono ?_
  rintro e w6 ⟨g', rfl, hr', b6⟩
  have g6 := g5.trans (b6.mono g5.size)
  have bb6 := bb5.trans (b6.mono bb5.size)
  have R6 := Hid.mk4 (R5.out.later' b6)
  have HR := Hid.mk4 hr'
  clear R5 g5 b6 HS bb5 hr'
  go_wp2
  refine mixNext_below bb6 ?_
  refine wpPlan_cons ?_
  simp only [pickAll, pickAt, List.nil_append, List.cons_append, List.append_nil]
  refine wpQuiet_nil ?_
  have fz := R6.out.fz
  have cz := R6.out.cell 0
  have hlt := R6.out.lt
  clear bb6
  go_wp2
  refine mixNext_last ?_
  have gz : Below w.heap.size w (w6.setCell ⟨w.heap.size + 1 + 1, 0, none⟩ (.pointer (some ⟨g', 0, none⟩))) := g6.setCell (p := ⟨w.heap.size + 1 + 1, 0, none⟩) (by simp <;> omega) _
  have HTZ := Hid.mk4 (HR.out.putX R6.out (.pointer (some ⟨g', 0, none⟩)))
  have HRZ := Hid.mk4 (R6.out.set1 (.pointer (some ⟨g', 0, none⟩)))
  clear R6 g6 fz cz hlt HR
  generalize w6.setCell ⟨w.heap.size + 1 + 1, 0, none⟩ (.pointer (some ⟨g', 0, none⟩)) = w12 at *
  go_wp2
  exact bodyPost_ret (results_text rfl _ _ (w.heap.size + 1 + 1) _ rfl HRZ.out) rfl ⟨g', rfl, HTZ.out, gz⟩

/-- By each place there is an edge. -/
theorem edge_near {T : List UInt8} (hv : vld T = true) {x : Nat} (hx : x ≤ T.length) (h4 : 4 ≤ x) : ∃ a, 0 < a ∧ a ≤ x ∧ vld (T.take a) = true := by
  obtain ⟨cs, hg, rfl⟩ := (vld_iff _).1 hv
  rcases place_cases cs x hx with ⟨cs1, cs2, e, hk⟩ | ⟨cs1, c, cs2, j, e, hk, h0, hj⟩
  · refine ⟨x, by omega, Nat.le_refl _, ?_⟩
    rw [e, flat_append, List.take_left' (by omega)]
    exact vld_flat (good_left (e ▸ hg))
  · have hel := enc_length c
    refine ⟨(flat cs1).length, by omega, by omega, ?_⟩
    rw [e, flat_append, List.take_left' rfl]
    exact vld_flat (good_left (e ▸ hg))

set_option maxHeartbeats 2000000 in
set_option maxRecDepth 100000 in
/-- text.first, of a small text. -/
theorem xfirst_small (tb : Nat × Nat) {g : Nat} {T : List UInt8} {w : World} (h : RpA (strongE tb) w (.pointer (some ⟨g, 0, none⟩)) T) (hz : T.length ≤ 64) :
    Calls Tryz.prog 114 #[.agg #[.pointer (some ⟨g, 0, none⟩)]] w fun e w' => e = .returned (.tuple #[.agg #[.pointer none], .bool false]) ∧ Below w.heap.size w w' := by
  have b0 : Below w.heap.size w ((w.alloc (Obj.cells #[.pointer (some ⟨g, 0, none⟩)] 54)).alloc (Obj.cells #[.pointer none] 54)) := ((Below.refl _ _).alloc (Nat.le_refl _) _).alloc (by simp) _
  have H := Hid.mk4 (rpa_len (strongE tb) (h.later b0) (by omega))
  have t1 : (T.length : Int) ≤ 64 := by omega
  clear h
  go_enter Tryz.func114, Tryz.ntmps114
  go_wp2_with fail
  refine H.out.mono ?_
  rintro e w1 ⟨rfl, b1⟩
  have r1 : Rt 54 w1 (w.heap.size + 1) #[.pointer none] := (Rt.new' (by simp) _).later b1 (by simp)
  have fz := r1.fz
  have c0 := r1.cell 0
  have R1 := Hid.mk4 r1
  have g1 := b0.trans (b1.mono b0.size)
  have hlt := r1.lt
  clear r1 b0 b1 H
  go_wp2
  exact bodyPost_ret (results_text_ok rfl _ _ (w.heap.size + 1) _ _ rfl rfl (R1.out.set1 _)) rfl ⟨rfl, g1.setCell (p := ⟨w.heap.size + 1, 0, none⟩) (by simp) _⟩

set_option maxHeartbeats 4000000 in
set_option maxRecDepth 100000 in
/-- text.first. -/
theorem xfirst_any (tb : Nat × Nat) {g : Nat} {T : List UInt8} {w : World} (h : RpA (strongE tb) w (.pointer (some ⟨g, 0, none⟩)) T) (hz : T.length ≤ 100000) (hb : 64 < T.length) (hT : Tabs w tb) :
    Calls Tryz.prog 114 #[.agg #[.pointer (some ⟨g, 0, none⟩)]] w fun e w' => ∃ g' a, e = .returned (.tuple #[.agg #[.pointer (some ⟨g', 0, none⟩)], .bool true]) ∧ RpA (strongE tb) w' (.pointer (some ⟨g', 0, none⟩)) (T.take a) ∧ 0 < a ∧ a < T.length ∧ Below w.heap.size w w' := by
  have hv := rpa_valid h
  obtain ⟨a0, ha0, ha1, hva⟩ := edge_near hv (x := T.length / 2) (by omega) (by omega)
  have b0 : Below w.heap.size w ((w.alloc (Obj.cells #[.pointer (some ⟨g, 0, none⟩)] 54)).alloc (Obj.cells #[.pointer none] 54)) := ((Below.refl _ _).alloc (Nat.le_refl _) _).alloc (by simp) _
  have HL : Hid (∀ W, Below w.heap.size w W → Calls Tryz.prog 19 #[.pointer (some ⟨g, 0, none⟩)] W fun e w' => e = .returned (.int .i64 (T.length : Nat)) ∧ Below W.heap.size W w') := fun W hW => rpa_len (strongE tb) (h.later hW) hz
  have HE : Hid (∀ W (i : Nat), i ≤ T.length → Below w.heap.size w W → Calls Tryz.prog 48 #[.pointer (some ⟨g, 0, none⟩), .int .i64 (i : Nat)] W fun e w' => e = .returned (.bool (vld (T.take i))) ∧ Below W.heap.size W w') := fun W i hi hW => rpa_edge (strongE tb) tb (strong_tab tb) i (h.later hW) hz hi (hT.later hW)
  have HS : Hid (∀ W (i : Nat), i ≤ T.length → vld (T.take i) = true → Below w.heap.size w W → Calls Tryz.prog 115 #[.agg #[.pointer (some ⟨g, 0, none⟩)], .int .i64 0, .int .i64 (i : Nat)] W fun e w' => ∃ g', e = .returned (.agg #[.pointer (some ⟨g', 0, none⟩)]) ∧ RpA (strongE tb) w' (.pointer (some ⟨g', 0, none⟩)) (T.take i) ∧ Below W.heap.size W w') := fun W i hi hvi hW => by
    have := xslice_any tb 0 i (h.later hW) hz (Nat.zero_le _) hi (by rw [List.take_zero]; rfl) hvi (hT.later hW)
    rw [List.drop_zero] at this
    exact this
  have HVA := Hid.mk4 hva
  obtain ⟨n, hn⟩ : ∃ n, n = T.length := ⟨_, rfl⟩
  have HN := Hid.mk4 hn
  rw [← hn] at hb hz ha1
  have HN2 : Hid (∀ i, i ≤ n → i ≤ T.length) := fun i hi => by rw [← HN.out]; exact hi
  rw [← hn] at HL
  rw [← hn]
  have t1 : decide ((n : Int) ≤ 64) = false := by simp; omega
  have t2 : decide (n ≤ 64) = false := by simp; omega
  clear h hv hva hn hT
  go_enter Tryz.func114, Tryz.ntmps114
  go_wp2_with fail
  refine (HL.out _ b0).mono ?_
  rintro e w1 ⟨rfl, b1⟩
  have R0 : Hid (Rt 54 w1 w.heap.size #[.pointer (some ⟨g, 0, none⟩)]) := ((Rt.new _ w _).alloc _).later b1 (by simp; omega)
  have R1 : Hid (Rt 54 w1 (w.heap.size + 1) #[.pointer none]) := (Rt.new' (by simp) _).later b1 (by simp)
  have g1 := b0.trans (b1.mono b0.size)
  have c0 := R0.out.cell 0
  clear b0 b1
  go_wp2_with fail
  refine (HL.out _ g1).mono ?_
  rintro e w2 ⟨rfl, b2⟩
  have S0 := Hid.mk4 (R0.out.later' b2)
  have S1 := Hid.mk4 (R1.out.later' b2)
  have g2 := g1.trans (b2.mono g1.size)
  clear R0 R1 c0 g1 b2 HL
  go_wp2
  go_loopw [4] (fun v wr => ∃ i : Nat, v = .int .i64 (i : Nat) ∧ a0 ≤ i ∧ i ≤ n / 2 ∧ Hid (Rt 54 wr w.heap.size #[.pointer (some ⟨g, 0, none⟩)]) ∧ Hid (Rt 54 wr (w.heap.size + 1) #[.pointer none]) ∧ Below w.heap.size w wr) (fun v _ => (intOf v).toNat)
  case atStart => exact ⟨n / 2, by simp, by omega, Nat.le_refl _, S0.out, S1.out, g2⟩
  case round =>
    obtain ⟨i, rfl, hi1, hi2, HA, HB, hb2⟩ := hrel
    have c0 := HA.out.cell 0
    clear S0 S1 g2 t1 t2
    go_wp2_with fail
    refine (HE.out _ i (HN2.out i (by omega)) hb2).mono ?_
    rintro e w3 ⟨rfl, b3⟩
    have HA3 := Hid.mk4 (HA.out.later' b3)
    have HB3 := Hid.mk4 (HB.out.later' b3)
    have g3 := hb2.trans (b3.mono hb2.size)
    clear HA HB hb2 b3 c0
    cases hvi : vld (T.take i) with
    | true =>
      have HVI := Hid.mk4 hvi
      have c0 := HA3.out.cell 0
      clear hvi
      go_wp2_with fail
      refine (HS.out _ i (HN2.out i (by omega)) HVI.out g3).mono ?_
      rintro e w4 ⟨g', rfl, hr', b4⟩
      have HR := Hid.mk4 hr'
      have R4 := Hid.mk4 (HB3.out.later' b4)
      have g4 := g3.trans (b4.mono g3.size)
      have fz := R4.out.fz
      have cz := R4.out.cell 0
      have hlt := R4.out.lt
      clear HA3 HB3 g3 b4 hr' c0
      go_wp2
      exact bodyPost_ret (results_text_ok rfl _ _ (w.heap.size + 1) _ _ rfl rfl (R4.out.set1 _)) rfl ⟨g', i, rfl, HR.out.putX R4.out _, by omega, by omega, g4.setCell (p := ⟨w.heap.size + 1, 0, none⟩) (by simp) _⟩
    | false =>
      have hne : a0 < i := by
        rcases Nat.lt_or_ge a0 i with h | h
        · exact h
        · have : i = a0 := by omega
          rw [this, HVA.out] at hvi
          cases hvi
      obtain ⟨j, rfl⟩ : ∃ j, i = j + 1 := ⟨i - 1, by omega⟩
      clear hvi
      go_wp2
      go_roundw
      case rel => exact ⟨j, by simp, by omega, by omega, HA3.out, HB3.out, g3⟩
      case measure => simp [intOf] <;> omega

set_option maxHeartbeats 1000000 in
set_option maxRecDepth 100000 in
/-- textOf, of a rope. -/
theorem xof_any (g : Nat) (w : World) :
    Calls Tryz.prog 26 #[.pointer (some ⟨g, 0, none⟩)] w fun e w' => e = .returned (.agg #[.pointer (some ⟨g, 0, none⟩)]) ∧ Below w.heap.size w w' := by
  go_enter Tryz.func26, Tryz.ntmps26
  go_wp2
  exact bodyPost_ret (results_text rfl _ _ w.heap.size _ rfl (Rt.new _ w _)) rfl ⟨rfl, (Below.refl _ _).alloc (Nat.le_refl _) _⟩
set_option maxHeartbeats 1000000 in
set_option maxRecDepth 100000 in
/-- textOf, of none. -/
theorem xof_nil (tb : Nat × Nat) (w : World) (hT : Tabs w tb) :
    Calls Tryz.prog 26 #[.pointer none] w fun e w' => ∃ g, e = .returned (.agg #[.pointer (some ⟨g, 0, none⟩)]) ∧ RpA (strongE tb) w' (.pointer (some ⟨g, 0, none⟩)) [] ∧ Below w.heap.size w w' := by
  have b0 : Below w.heap.size w (w.alloc (Obj.cells #[.pointer none] 54)) := (Below.refl _ _).alloc (Nat.le_refl _) _
  have H := Hid.mk4 (new_ok (strongE tb) tb (strong_tab tb) ⟨#[]⟩ _ (by decide) (by decide) (strong_Dt tb (by decide)) (hT.later b0))
  go_enter Tryz.func26, Tryz.ntmps26
  go_wp2_with fail
  refine H.out.mono ?_
  rintro e w1 ⟨r', rfl, hr', b1⟩
  obtain ⟨g', hg'⟩ := hr'.ptr
  subst hg'
  have R1 : Hid (Rt 54 w1 w.heap.size #[.pointer none]) := (Rt.new _ w _).later b1 (by simp)
  have HR := Hid.mk4 hr'
  have g1 := b0.trans (b1.mono b0.size)
  have fz := R1.out.fz
  have cz := R1.out.cell 0
  have hlt := R1.out.lt
  clear b0 b1 H hr'
  go_wp2
  exact bodyPost_ret (results_text rfl _ _ w.heap.size _ rfl (R1.out.set1 _)) rfl ⟨g', rfl, HR.out.putX R1.out _, g1.setCell (p := ⟨w.heap.size, 0, none⟩) (by simp) _⟩

set_option maxHeartbeats 1000000 in
set_option maxRecDepth 100000 in
/-- The closure of To. -/
theorem reaches_any (x0 x1 x2 x3 k n : Int) (bk bn : Nat) (w : World) (hk : w.cell? ⟨bk, 0, none⟩ = some (.int .i64 k)) (hn : w.cell? ⟨bn, 0, none⟩ = some (.int .i64 n)) :
    Calls Tryz.prog 27 #[.agg #[.int .i64 x0, .int .i64 x1, .int .i64 x2, .int .i64 x3], .pointer (some ⟨bk, 0, none⟩), .pointer (some ⟨bn, 0, none⟩)] w fun e w' => e = .returned (.bool (decide (n ≤ get4 k x0 x1 x2 x3))) ∧ Below w.heap.size w w' := by
  have b0 : Below w.heap.size w (w.alloc (Obj.cells #[.int .i64 x0, .int .i64 x1, .int .i64 x2, .int .i64 x3] 55)) := (Below.refl _ _).alloc (Nat.le_refl _) _
  have R0 : Hid (Rt 55 (w.alloc (Obj.cells #[.int .i64 x0, .int .i64 x1, .int .i64 x2, .int .i64 x3] 55)) w.heap.size #[.int .i64 x0, .int .i64 x1, .int .i64 x2, .int .i64 x3]) := Rt.new _ w _
  have H := Hid.mk4 (fun W => mget_any k x0 x1 x2 x3 W)
  have qk := cell_regrown (cell_after hk b0)
  have qn := cell_regrown (cell_after hn b0)
  have k0 := cell_regrown (R0.out.cell 0); have k1 := cell_regrown (R0.out.cell 1); have k2 := cell_regrown (R0.out.cell 2); have k3 := cell_regrown (R0.out.cell 3)
  generalize get4 k x0 x1 x2 x3 = z at *
  clear hk hn R0
  go_enter Tryz.func27, Tryz.ntmps27
  go_wp2
  refine wp_region_mix [([0, 1, 3], [2]), ([4, 5], [])] (by kernel_rfl) (by kernel_rfl) ?_
  rintro w3 ⟨d3, rfl⟩
  refine wpPlan_cons ?_
  simp only [pickAll, pickAt, List.nil_append, List.cons_append, List.append_nil]
  repeat (go_big_quiet_step (fail))
  refine wpQuiet_nil ?_
  clear k0 k1 k2 k3 qk qn
  go_wp2_with fail
  refine (H.out _).mono ?_
  rintro e w4 ⟨rfl, b4⟩
  have bb := (below_redrawn (w.alloc (Obj.cells #[.int .i64 x0, .int .i64 x1, .int .i64 x2, .int .i64 x3] 55)) d3).trans b4
  clear H b4
  go_wp2
  refine mixNext_below bb ?_
  refine wpPlan_cons ?_
  simp only [pickAll, pickAt, List.nil_append, List.cons_append, List.append_nil]
  repeat (go_big_quiet_step (fail))
  refine wpQuiet_nil ?_
  refine mixNext_below bb (wpPlan_nil ?_)
  go_wp2
  go_ret
  exact ⟨rfl, b0.trans (bb.mono b0.size)⟩
end Go.Proofs.YtfgefdkkjfjjjabGreatDoor
