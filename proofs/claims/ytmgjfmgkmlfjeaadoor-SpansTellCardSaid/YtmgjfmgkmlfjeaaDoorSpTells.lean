/- palinodelaw15's SpansTell walked. -/
import Derived.Test.YtmgjfmgkmlfjeaaDoorSpKnown
import Derived.Test.YtmgjfmgkmlfjeaaDoorSpRefPut
import Derived.Test.YtmgjfmgkmlfjeaaDoorSpRefEd
import Derived.Test.YtmgjfmgkmlfjeaaDoorSpLawIn
import Derived.Test.YtmgjfmgkmlfjeaaDoorSpLawFew
namespace Go.Proofs.YtmgjfmgkmlfjeaaDoor
open Go.RowKit Go.Sort Go.Lib
set_option linter.unusedSimpArgs false
set_option linter.unusedVariables false

theorem fewD15_of {n : Int} {es : List El} (h : fewD n es = true) : Sm es 281474976710656 := by
  unfold fewD at h
  simp only [Bool.and_eq_true, List.all_eq_true, decide_eq_true_eq] at h
  intro e he
  have := h.1 e he
  omega
theorem putL_len15 (l : List Sp) (x : Sp) : (putL l x).length ≤ 60 := by
  unfold putL
  split
  · rename_i h
    unfold putE at h
    split at h
    · split at h
      · assumption
      · omega
    · omega
  · simp
theorem edL_len15 (base : Int) (es : List El) (l : List Sp) : (edL base es l).length ≤ l.length := by
  unfold edL
  split
  · exact edS_len base es l
  · simp
theorem same_yes15 {w : World} {u v : Value} {rs : List Sp} (h1 : SpAt w u rs) (h2 : SpAt w v rs) (hl : rs.length ≤ 1000) :
    Calls Tryd.prog 13 #[u, v] w fun e w' => e = .returned (.bool true) ∧ RowKit.Below w.heap.size w w' := by
  have := same15_any h1 h2 hl hl
  rwa [decide_eq_true rfl] at this
theorem few15_v {w : World} {v : Value} {es : List El} {base : Int} {x : Bool} (hx : fewD base es = x) (h : ElAt w v es) (hl : es.length ≤ maxLen) :
    Calls Tryd.prog 6 #[.agg #[.int .i64 base, v]] w fun e w' => e = .returned (.bool x) ∧ RowKit.Below w.heap.size w w' := by
  subst hx; exact fewD15_any base h hl
theorem ris15_v {w : World} {v : Value} {L : List Sp} {n : Int} {r : Bool} (he : isS n L = r) (h : SpAt w v L) :
    Calls Tryd.prog 12 #[v, .int .i64 n] w fun e w' => e = .returned (.bool r) ∧ RowKit.Below w.heap.size w w' := by
  subst he; exact ris15_any n h
theorem rat15_v {w : World} {v : Value} {L : List Sp} {p r : Int} (he : atS L p = r) (h : SpAt w v L) (hl : L.length ≤ 1000) :
    Calls Tryd.prog 15 #[v, .int .i64 p] w fun e w' => e = .returned (.int .i64 r) ∧ RowKit.Below w.heap.size w w' := by
  subst he; exact rat15_any p h hl
/-- What was listed waited for nothing that isn't, as a test. -/
def closedB15 (l : List Oper) (listed : Array Bool) : Bool :=
  (List.range l.length).all fun j => !(listed.getD j false) || match l[j]? with
    | some o => o.after.all fun e => !(Region.binds .any e) || listed.getD e.on false
    | none => true
theorem closed15 {l : List Oper} {listed : Array Bool} (h : closedB15 l listed = true) : Closed l.toArray listed := by
  intro j o ho hj e he hb
  rw [List.getElem?_toArray] at ho
  have hlt : j < l.length := (List.getElem?_eq_some_iff.1 ho).1
  have := List.all_eq_true.1 h j (List.mem_range.2 hlt)
  rw [hj, ho] at this
  simp only [Bool.not_true, Bool.false_or] at this
  have := Array.all_eq_true'.1 this e he
  rw [hb] at this
  simpa using this
/-- What may be asked of these in the midst of a region. -/
def moreB15 (l : List Oper) (qs : List Nat) (z : Nat) (listed : Array Bool) : Bool :=
  Region.noSelect l.toArray && (qs.all fun k => match l[k]? with | some o => plainOp o.op | none => false) && quietB l.toArray qs listed && waitsB l z && closedB15 l listed
theorem anyC_more15 {P : Program} {C : World → Prop} {l : List Oper} {z : Nat} {Q : Exit → Act → World → Prop} {listed : Array Bool} {a : Act} {w : World} (qs : List Nat) (n : Nat) (hB : moreB15 l qs z listed = true) (hw : C w)
    (h : wpQuiet P l.toArray C (fun a' => wpAnyC P l.toArray C z (noPanic Q) n (setAll listed qs) a' w) (pickAll l qs) a) : wpAnyC P l.toArray C z (noPanic Q) (qs.length + n) listed a w := by
  simp only [moreB15, Bool.and_eq_true] at hB
  obtain ⟨⟨⟨⟨h1, h2⟩, h3⟩, h4⟩, h5⟩ := hB
  exact anyC_quiet (waits_of h4) h1 hw qs listed a (closed15 h5) h3 h2 h
set_option maxHeartbeats 40000000 in
set_option maxRecDepth 100000 in
theorem tells15_any {w : World} {v ev : Value} {l : List Sp} {es : List El} (sx sy sz base at' n i0 i1 : Int) (hl : l.length ≤ maxLen) (hle : es.length ≤ maxLen) (tb : Nat × Nat) (hT : Tab w tb) (h : SpAt w v l) (he : ElAt w ev es) :
    Calls Tryd.prog 3 #[v, .agg #[.int .i64 sx, .int .i64 sy, .int .i64 sz], .agg #[.int .i64 base, ev], .int .i64 at', .int .i64 n, .agg #[.int .i64 i0, .int .i64 i1]] w fun e w' => e = .returned (.bool true) ∧ RowKit.Below w.heap.size w w' := by
  obtain ⟨a, cap, rfl⟩ := h.shape
  obtain ⟨ea, ecap, rfl, _⟩ := id he
  have hle2 : es.length ≤ maxLen := hle
  obtain ⟨W1, hW1⟩ : ∃ W1, W1 = w.alloc (.cells #[.int .i64 sx, .int .i64 sy, .int .i64 sz] 24) := ⟨_, rfl⟩
  obtain ⟨W2, hW2⟩ : ∃ W2, W2 = W1.alloc (.cells #[.int .i64 base, .slice ea es.length ecap] 27) := ⟨_, rfl⟩
  obtain ⟨W3, hW3⟩ : ∃ W3, W3 = W2.alloc (.cells #[.int .i64 i0, .int .i64 i1] 29) := ⟨_, rfl⟩
  have s1 : W1.heap.size = w.heap.size + 1 := by rw [hW1]; simp
  have s2 : W2.heap.size = w.heap.size + 1 + 1 := by rw [hW2]; simp [s1]
  have b1 : RowKit.Below w.heap.size w W1 := by rw [hW1]; exact below15 (RowKit.Below.refl _ _) _
  have b2 : RowKit.Below w.heap.size w W2 := by rw [hW2]; exact below15 b1 _
  have b3 : RowKit.Below w.heap.size w W3 := by rw [hW3]; exact below15 b2 _
  have P0 := Hid.mk7 (show Rt 24 W3 w.heap.size (.int .i64 sx) (.int .i64 sy) (.int .i64 sz) by rw [hW3, hW2, hW1]; exact ((Rt.new _ w _ _ _).alloc _).alloc _)
  have D0 := Hid.mk7 (show Rd W3 (w.heap.size + 1) (.int .i64 base) (.slice ea es.length ecap) by rw [hW3, hW2, ← s1]; exact (Rd.new W1 _ _).alloc _)
  have V0 := Hid.mk7 (show Rv W3 (w.heap.size + 1 + 1) (.int .i64 i0) (.int .i64 i1) by rw [hW3, ← s2]; exact Rv.new W2 _ _)
  have T0 := Hid.mk7 (hT.later b3)
  have A0 := Hid.mk7 (h.later b3)
  have E0 := Hid.mk7 (he.later b3)
  have G0 := Hid.mk7 b3
  clear s1 s2 b1 b2 b3 h he hT
  go_enter Tryd.func3, Tryd.ntmps3
  go_upto_region 1 with fail
  rw [← hW1, ← hW2, ← hW3]
  clear hW1 hW2 hW3
  go_wp2_with fail
  refine (known15_any W3).mono ?_
  rintro e w1 ⟨rfl, bz⟩
  have P2 := Hid.mk7 (P0.out.later bz)
  have D2 := Hid.mk7 (D0.out.later bz)
  have V2 := Hid.mk7 (V0.out.later bz)
  have T2 := Hid.mk7 (T0.out.later bz)
  have A2 := Hid.mk7 (A0.out.later bz)
  have E2 := Hid.mk7 (E0.out.later bz)
  have G2 := Hid.mk7 (G0.out.trans (bz.mono G0.out.size))
  clear P0 D0 V0 T0 A0 E0 G0 bz
  by_cases h70 : 70 < l.length
  · have d70 : decide ((70 : Int) < (l.length : Nat)) = true := decide_eq_true (by omega)
    have d70b : decide (70 < l.length) = true := decide_eq_true h70
    go_wp2
    go_ret
    exact ⟨rfl, G2.out⟩
  have d70 : decide ((70 : Int) < (l.length : Nat)) = false := decide_eq_false (by omega)
  have d70b : decide (70 < l.length) = false := decide_eq_false h70
  by_cases hf : fewD base es = false
  · skip
    have Dc0 := D2.out.c0
    have Dc1 := D2.out.c1
    go_wp2_with fail
    refine (few15_v hf E2.out hle2).mono ?_
    rintro e w3 ⟨rfl, bz⟩
    clear Dc0 Dc1
    have P4 := Hid.mk7 (P2.out.later bz)
    have D4 := Hid.mk7 (D2.out.later bz)
    have V4 := Hid.mk7 (V2.out.later bz)
    have T4 := Hid.mk7 (T2.out.later bz)
    have A4 := Hid.mk7 (A2.out.later bz)
    have E4 := Hid.mk7 (E2.out.later bz)
    have G4 := Hid.mk7 (G2.out.trans (bz.mono G2.out.size))
    clear P2 D2 V2 T2 A2 E2 G2 bz
    go_wp2
    go_ret
    exact ⟨rfl, G4.out⟩
  have hf1 : fewD base es = true := by simpa using hf
  have hsm := Hid.mk7 (fewD15_of hf1)
  have Dc0 := D2.out.c0
  have Dc1 := D2.out.c1
  go_wp2_with fail
  refine (few15_v hf1 E2.out hle2).mono ?_
  rintro e w3 ⟨rfl, bz⟩
  clear Dc0 Dc1
  have P4 := Hid.mk7 (P2.out.later bz)
  have D4 := Hid.mk7 (D2.out.later bz)
  have V4 := Hid.mk7 (V2.out.later bz)
  have T4 := Hid.mk7 (T2.out.later bz)
  have A4 := Hid.mk7 (A2.out.later bz)
  have E4 := Hid.mk7 (E2.out.later bz)
  have G4 := Hid.mk7 (G2.out.trans (bz.mono G2.out.size))
  clear P2 D2 V2 T2 A2 E2 G2 bz
  clear d70 d70b hf hf1
  have Pc0 := P4.out.c0
  have Pc1 := P4.out.c1
  have Pc2 := P4.out.c2
  go_wp2_with fail
  refine (put_any15 sx sy sz A4.out).mono ?_
  rintro e w5 ⟨va, rfl, a3, _, bz⟩
  clear Pc0 Pc1 Pc2
  have P6 := Hid.mk7 (P4.out.later bz)
  have D6 := Hid.mk7 (D4.out.later bz)
  have V6 := Hid.mk7 (V4.out.later bz)
  have T6 := Hid.mk7 (T4.out.later bz)
  have A6 := Hid.mk7 (A4.out.later bz)
  have E6 := Hid.mk7 (E4.out.later bz)
  have G6 := Hid.mk7 (G4.out.trans (bz.mono G4.out.size))
  clear P4 D4 V4 T4 A4 E4 G4 bz
  have L7 := Hid.mk7 (a3)
  clear a3
  have Pc0 := P6.out.c0
  have Pc1 := P6.out.c1
  have Pc2 := P6.out.c2
  go_wp2_with fail
  refine (rput_any15 sx sy sz A6.out).mono ?_
  rintro e w8 ⟨vb, rfl, a4, bz⟩
  clear Pc0 Pc1 Pc2
  have P9 := Hid.mk7 (P6.out.later bz)
  have D9 := Hid.mk7 (D6.out.later bz)
  have V9 := Hid.mk7 (V6.out.later bz)
  have T9 := Hid.mk7 (T6.out.later bz)
  have A9 := Hid.mk7 (A6.out.later bz)
  have E9 := Hid.mk7 (E6.out.later bz)
  have G9 := Hid.mk7 (G6.out.trans (bz.mono G6.out.size))
  have L9 := Hid.mk7 (L7.out.later bz)
  clear P6 D6 V6 T6 A6 E6 G6 L7 bz
  have M10 := Hid.mk7 (a4)
  clear a4
  have Dc0 := D9.out.c0
  have Dc1 := D9.out.c1
  go_wp2_with fail
  refine (edit_any15 base A9.out E9.out hsm.out tb T9.out).mono ?_
  rintro e w11 ⟨vc, rfl, a5, bz⟩
  clear Dc0 Dc1
  have P12 := Hid.mk7 (P9.out.later bz)
  have D12 := Hid.mk7 (D9.out.later bz)
  have V12 := Hid.mk7 (V9.out.later bz)
  have T12 := Hid.mk7 (T9.out.later bz)
  have A12 := Hid.mk7 (A9.out.later bz)
  have E12 := Hid.mk7 (E9.out.later bz)
  have G12 := Hid.mk7 (G9.out.trans (bz.mono G9.out.size))
  have L12 := Hid.mk7 (L9.out.later bz)
  have M12 := Hid.mk7 (M10.out.later bz)
  clear P9 D9 V9 T9 A9 E9 G9 L9 M10 bz
  have N13 := Hid.mk7 (a5)
  clear a5
  have Dc0 := D12.out.c0
  have Dc1 := D12.out.c1
  go_wp2_with fail
  refine (redit_any15 base A12.out E12.out hsm.out).mono ?_
  rintro e w14 ⟨vd, rfl, a6, bz⟩
  clear Dc0 Dc1
  have P15 := Hid.mk7 (P12.out.later bz)
  have D15 := Hid.mk7 (D12.out.later bz)
  have V15 := Hid.mk7 (V12.out.later bz)
  have T15 := Hid.mk7 (T12.out.later bz)
  have A15 := Hid.mk7 (A12.out.later bz)
  have E15 := Hid.mk7 (E12.out.later bz)
  have G15 := Hid.mk7 (G12.out.trans (bz.mono G12.out.size))
  have L15 := Hid.mk7 (L12.out.later bz)
  have M15 := Hid.mk7 (M12.out.later bz)
  have N15 := Hid.mk7 (N13.out.later bz)
  clear P12 D12 V12 T12 A12 E12 G12 L12 M12 N13 bz
  have O16 := Hid.mk7 (a6)
  clear a6
  have hpl := putL_len15 l (sx, sy, sz)
  have hel := edL_len15 base es l
  have hnn := inS15_len i0 i1 l
  generalize putL l (sx, sy, sz) = PL at *
  generalize edL base es l = EL at *
  generalize putE l (sx, sy, sz) = pe at *
  generalize edE base es l = ee at *
  have hpe : (pe == pe) = true := by simp
  have hee : (ee == ee) = true := by simp
  obtain ⟨bb, hbb⟩ : ∃ b, isS n l = b := ⟨_, rfl⟩
  obtain ⟨aa, haa⟩ : ∃ b, atS l at' = b := ⟨_, rfl⟩
  have HBB := Hid.mk7 hbb
  have HAA := Hid.mk7 haa
  have hb2 : (bb == bb) = true := by simp
  have ha2 : (aa == aa) = true := by simp
  clear hbb haa
  clear E15 D15 P15 T15
  go_wp2_with fail
  refine wp_region_turns (fun X => ∃ q : (GW (fun X => RowKit.Below w14.heap.size w14 X)), X = q.w) [0, 1, 3, 4] 45 42 (by kernel_rfl) (by kernel_rfl) (fun d => ⟨⟨redrawn w14 d, redrawn15 w14 d⟩, rfl⟩) ?_
  intro d
  simp only [pickAll, pickAt, List.nil_append, List.cons_append, List.append_nil]
  have hne : Nonempty (GW (fun X => RowKit.Below w14.heap.size w14 X)) := ⟨⟨w14, RowKit.Below.refl _ _⟩⟩
  repeat (go_big_quiet_step (fail))
  refine wpQuiet_nil ?_
  have R0 := Hid.mk7 (redrawn15 w14 d)
  generalize redrawn w14 d = x0 at *
  refine anyC_pick1 2 (by kernel_rfl) (by kernel_rfl) ?_
  simp only [pickAll, pickAt, List.nil_append, List.cons_append, List.append_nil]
  go_wp2_with fail
  refine (is15_v (A15.out.later R0.out) HBB.out).mono ?_
  rintro e x1 ⟨rfl, b1⟩
  have R1 := Hid.mk7 (R0.out.trans (b1.mono R0.out.size))
  clear R0 b1
  go_wp2
  refine anyNext_mk ⟨⟨_, R1.out⟩, rfl⟩ ?_
  refine anyC_pick1 5 (by kernel_rfl) (by kernel_rfl) ?_
  simp only [pickAll, pickAt, List.nil_append, List.cons_append, List.append_nil]
  go_wp2_with fail
  refine (ris15_v HBB.out (A15.out.later R1.out)).mono ?_
  rintro e x2 ⟨rfl, b2⟩
  have R2 := Hid.mk7 (R1.out.trans (b2.mono R1.out.size))
  clear R1 b2
  go_wp2
  refine anyNext_mk ⟨⟨_, R2.out⟩, rfl⟩ ?_
  refine anyC_more15 [6, 7, 8, 9, 10, 11, 12, 13, 14] 31 (by kernel_rfl) ⟨⟨_, R2.out⟩, rfl⟩ ?_
  simp only [pickAll, pickAt, List.nil_append, List.cons_append, List.append_nil]
  repeat (go_big_quiet_step (fail))
  refine wpQuiet_nil ?_
  refine anyC_pick1 15 (by kernel_rfl) (by kernel_rfl) ?_
  simp only [pickAll, pickAt, List.nil_append, List.cons_append, List.append_nil]
  go_wp2_with fail
  refine (same_yes15 (L15.out.later R2.out) (M15.out.later R2.out) (by omega)).mono ?_
  rintro e x3 ⟨rfl, b3⟩
  have R3 := Hid.mk7 (R2.out.trans (b3.mono R2.out.size))
  clear R2 b3
  go_wp2
  refine anyNext_mk ⟨⟨_, R3.out⟩, rfl⟩ ?_
  refine anyC_more15 [16, 17, 18, 19, 20, 21, 22, 23, 24] 21 (by kernel_rfl) ⟨⟨_, R3.out⟩, rfl⟩ ?_
  simp only [pickAll, pickAt, List.nil_append, List.cons_append, List.append_nil]
  repeat (go_big_quiet_step (fail))
  refine wpQuiet_nil ?_
  refine anyC_pick1 25 (by kernel_rfl) (by kernel_rfl) ?_
  simp only [pickAll, pickAt, List.nil_append, List.cons_append, List.append_nil]
  go_wp2_with fail
  refine (same_yes15 (N15.out.later R3.out) (O16.out.later R3.out) (by omega)).mono ?_
  rintro e x4 ⟨rfl, b4⟩
  have R4 := Hid.mk7 (R3.out.trans (b4.mono R3.out.size))
  clear R3 b4
  go_wp2
  refine anyNext_mk ⟨⟨_, R4.out⟩, rfl⟩ ?_
  refine anyC_more15 [26, 27, 28, 29, 31, 32] 14 (by kernel_rfl) ⟨⟨_, R4.out⟩, rfl⟩ ?_
  simp only [pickAll, pickAt, List.nil_append, List.cons_append, List.append_nil]
  repeat (go_big_quiet_step (fail))
  refine wpQuiet_nil ?_
  refine anyC_pick1 30 (by kernel_rfl) (by kernel_rfl) ?_
  simp only [pickAll, pickAt, List.nil_append, List.cons_append, List.append_nil]
  go_wp2_with fail
  refine (at_v (A15.out.later R4.out) (by omega) HAA.out).mono ?_
  rintro e x5 ⟨rfl, b5⟩
  have R5 := Hid.mk7 (R4.out.trans (b5.mono R4.out.size))
  clear R4 b5
  go_wp2
  refine anyNext_mk ⟨⟨_, R5.out⟩, rfl⟩ ?_
  refine anyC_pick1 33 (by kernel_rfl) (by kernel_rfl) ?_
  simp only [pickAll, pickAt, List.nil_append, List.cons_append, List.append_nil]
  go_wp2_with fail
  refine (rat15_v HAA.out (A15.out.later R5.out) (by omega)).mono ?_
  rintro e x6 ⟨rfl, b6⟩
  have R6 := Hid.mk7 (R5.out.trans (b6.mono R5.out.size))
  clear R5 b6
  go_wp2
  refine anyNext_mk ⟨⟨_, R6.out⟩, rfl⟩ ?_
  have k0 : ∀ q : (GW (fun X => RowKit.Below w14.heap.size w14 X)), q.w.cell? ⟨w.heap.size + 1 + 1, 0, none⟩ = some (.int .i64 i0) := fun q => (V15.out.later q.h).c0
  have k1 : ∀ q : (GW (fun X => RowKit.Below w14.heap.size w14 X)), q.w.cell? ⟨w.heap.size + 1 + 1, 1, none⟩ = some (.int .i64 i1) := fun q => (V15.out.later q.h).c1
  refine anyC_more15 [34, 35, 36, 37, 38, 40, 41] 5 (by kernel_rfl) ⟨⟨_, R6.out⟩, rfl⟩ ?_
  simp only [pickAll, pickAt, List.nil_append, List.cons_append, List.append_nil]
  repeat (go_big_quiet_step (fail))
  refine wpQuiet_nil ?_
  clear k0 k1
  refine anyC_pick1 39 (by kernel_rfl) (by kernel_rfl) ?_
  simp only [pickAll, pickAt, List.nil_append, List.cons_append, List.append_nil]
  go_wp2_with fail
  refine (inS_any15 i0 i1 (A15.out.later R6.out) (by omega)).mono ?_
  rintro e x7 ⟨vi, rfl, ai, b7⟩
  have R7 := Hid.mk7 (R6.out.trans (b7.mono R6.out.size))
  have I7 := Hid.mk7 ai
  clear ai
  clear R6 b7
  go_wp2
  refine anyNext_mk ⟨⟨_, R7.out⟩, rfl⟩ ?_
  refine anyC_pick1 42 (by kernel_rfl) (by kernel_rfl) ?_
  simp only [pickAll, pickAt, List.nil_append, List.cons_append, List.append_nil]
  go_wp2_with fail
  refine (lin15_any i0 i1 (A15.out.later R7.out) (by omega)).mono ?_
  rintro e x8 ⟨vj, rfl, aj, b8⟩
  have R8 := Hid.mk7 (R7.out.trans (b8.mono R7.out.size))
  have I8 := Hid.mk7 (I7.out.later b8)
  have J8 := Hid.mk7 aj
  clear aj
  clear R7 I7 b8
  go_wp2
  refine anyNext_mk ⟨⟨_, R8.out⟩, rfl⟩ ?_
  refine anyC_pick1 43 (by kernel_rfl) (by kernel_rfl) ?_
  simp only [pickAll, pickAt, List.nil_append, List.cons_append, List.append_nil]
  go_wp2_with fail
  refine (same_yes15 I8.out J8.out (by omega)).mono ?_
  rintro e x9 ⟨rfl, b9⟩
  have R9 := Hid.mk7 (R8.out.trans (b9.mono R8.out.size))
  have I9 := Hid.mk7 (I8.out.later b9)
  have J9 := Hid.mk7 (J8.out.later b9)
  clear R8 I8 J8 b9
  go_wp2
  refine anyNext_mk ⟨⟨_, R9.out⟩, rfl⟩ ?_
  refine anyC_more15 [44] 1 (by kernel_rfl) ⟨⟨_, R9.out⟩, rfl⟩ ?_
  simp only [pickAll, pickAt, List.nil_append, List.cons_append, List.append_nil]
  repeat (go_big_quiet_step (fail))
  refine wpQuiet_nil ?_
  refine anyC_pick1 45 (by kernel_rfl) (by kernel_rfl) ?_
  simp only [pickAll, pickAt, List.nil_append, List.cons_append, List.append_nil]
  go_wp2
  refine anyNext_last (anyC_done (by kernel_rfl) ?_)
  have GZ := Hid.mk7 (G15.out.trans (R9.out.mono G15.out.size))
  clear R9
  go_wp2
  go_ret
  exact ⟨rfl, GZ.out⟩
end Go.Proofs.YtmgjfmgkmlfjeaaDoor
