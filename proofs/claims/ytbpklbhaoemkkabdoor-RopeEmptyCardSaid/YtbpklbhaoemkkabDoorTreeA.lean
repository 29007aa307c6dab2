/- Tree: Len, held, Slice, Join. -/
import Derived.Test.YtbpklbhaoemkkabDoorAv
namespace Go.Proofs.YtbpklbhaoemkkabDoor
open Go.RowKit Go.Sort
set_option linter.unusedSimpArgs false
set_option linter.unusedVariables false

set_option maxHeartbeats 1000000 in
set_option maxRecDepth 100000 in
/-- Tree.Len. -/
theorem tlen_any (E : Env) (v : Value) (ls : List ByteArray) (w : World) (h : Tr E w v ls) :
    Calls Tryd.prog 28 #[.agg #[v]] w fun e w' => e = .returned (.int .i64 (ls.length : Nat)) ∧ Below w.heap.size w w' := by
  have b0 : Below w.heap.size w (w.alloc (Obj.cells #[v] 38)) := (Below.refl _ _).alloc (Nat.le_refl _) _
  rcases h with ⟨rfl, rfl⟩ | ⟨d, g, rfl, h⟩
  · go_enter Tryd.func28, Tryd.ntmps28
    go_wp2
    go_ret
    exact ⟨rfl, b0⟩
  · have c1 := cell_after h.cells.2.1 b0
    clear h
    go_enter Tryd.func28, Tryd.ntmps28
    go_wp2
    go_ret
    exact ⟨rfl, b0⟩

/-- A place, held into a row. -/
def hld (at0 : Int) (n : Nat) : Nat := min at0.toNat n
set_option maxHeartbeats 1000000 in
set_option maxRecDepth 100000 in
/-- Tree.held. -/
theorem held_any (E : Env) (v : Value) (ls : List ByteArray) (at0 : Int) (w : World) (h : Tr E w v ls) :
    Calls Tryd.prog 44 #[.agg #[v], .int .i64 at0] w fun e w' => e = .returned (.int .i64 (hld at0 ls.length : Nat)) ∧ Below w.heap.size w w' := by
  have b0 : Below w.heap.size w (w.alloc (Obj.cells #[v] 38)) := (Below.refl _ _).alloc (Nat.le_refl _) _
  have HL : Hid (Calls Tryd.prog 28 #[.agg #[v]] (w.alloc (Obj.cells #[v] 38)) fun e w' => e = .returned (.int .i64 (ls.length : Nat)) ∧ Below (w.alloc (Obj.cells #[v] 38)).heap.size (w.alloc (Obj.cells #[v] 38)) w') := tlen_any E v ls _ (h.later b0)
  clear h
  have hc : (at0 < 0 ∧ Hid (hld at0 ls.length = 0)) ∨ (∃ a : Nat, at0 = (a : Nat) ∧ ls.length < a ∧ Hid (hld at0 ls.length = ls.length)) ∨ (∃ a : Nat, at0 = (a : Nat) ∧ a ≤ ls.length ∧ Hid (hld at0 ls.length = a)) := by
    rcases (by omega : at0 < 0 ∨ 0 ≤ at0) with h0 | h0
    · exact Or.inl ⟨h0, by show hld _ _ = _; unfold hld; omega⟩
    · obtain ⟨a, rfl⟩ := Int.eq_ofNat_of_zero_le h0
      rcases Nat.lt_or_ge ls.length a with h1 | h1
      · exact Or.inr (Or.inl ⟨a, rfl, h1, by show hld _ _ = _; unfold hld; omega⟩)
      · exact Or.inr (Or.inr ⟨a, rfl, h1, by show hld _ _ = _; unfold hld; omega⟩)
  rcases hc with ⟨h0, H⟩ | ⟨a, rfl, h1, H⟩ | ⟨a, rfl, h1, H⟩
  · rw [H.out]
    clear H
    have hn : ¬ ((ls.length : Int) < 0) := by omega
    go_enter Tryd.func44, Tryd.ntmps44
    go_wp2_with fail
    refine HL.out.mono ?_
    rintro e w1 ⟨rfl, b1⟩
    clear HL
    go_wp2
    go_ret
    exact ⟨rfl, b0.trans (b1.mono b0.size)⟩
  · rw [H.out]
    clear H
    have hn : ¬ ((a : Int) < 0) := by omega
    have h2 : (ls.length : Int) < (a : Int) := by omega
    go_enter Tryd.func44, Tryd.ntmps44
    go_wp2_with fail
    refine HL.out.mono ?_
    rintro e w1 ⟨rfl, b1⟩
    clear HL
    go_wp2
    go_ret
    exact ⟨rfl, b0.trans (b1.mono b0.size)⟩
  · rw [H.out]
    clear H
    have hn : ¬ ((a : Int) < 0) := by omega
    have h2 : ¬ ((ls.length : Int) < (a : Int)) := by omega
    have h3 : ¬ (ls.length < a) := by omega
    go_enter Tryd.func44, Tryd.ntmps44
    go_wp2_with fail
    refine HL.out.mono ?_
    rintro e w1 ⟨rfl, b1⟩
    clear HL
    go_wp2
    go_ret
    exact ⟨rfl, b0.trans (b1.mono b0.size)⟩

set_option maxHeartbeats 1000000 in
set_option maxRecDepth 100000 in
theorem head_tr (E : Env) (v : Value) (ls : List ByteArray) (at0 : Int) (w : World) (h : Tr E w v ls) (hl : ls.length ≤ 1099511627776) :
    Calls Tryd.prog 43 #[v, .int .i64 at0] w fun e w' => ∃ v1, e = .returned v1 ∧ Tr E w' v1 (ls.take at0.toNat) ∧ Below w.heap.size w w' := by
  rcases h with ⟨rfl, rfl⟩ | ⟨d, g, rfl, h⟩
  · go_enter Tryd.func43, Tryd.ntmps43
    go_wp2
    go_ret
    exact ⟨_, rfl, Or.inl ⟨rfl, by simp⟩, Below.refl _ _⟩
  · exact head_nd E d g ls at0 w h hl
set_option maxHeartbeats 1000000 in
set_option maxRecDepth 100000 in
theorem tail_tr (E : Env) (v : Value) (ls : List ByteArray) (at0 : Int) (w : World) (h : Tr E w v ls) (hl : ls.length ≤ 1099511627776) :
    Calls Tryd.prog 42 #[v, .int .i64 at0] w fun e w' => ∃ v1, e = .returned v1 ∧ Tr E w' v1 (ls.drop at0.toNat) ∧ Below w.heap.size w w' := by
  rcases h with ⟨rfl, rfl⟩ | ⟨d, g, rfl, h⟩
  · go_enter Tryd.func42, Tryd.ntmps42
    go_wp2
    go_ret
    exact ⟨_, rfl, Or.inl ⟨rfl, by simp⟩, Below.refl _ _⟩
  · exact tail_nd E d g ls at0 w h hl

set_option maxHeartbeats 4000000 in
set_option maxRecDepth 100000 in
/-- Tree.Slice. -/
theorem tslice_any (E : Env) (v : Value) (ls : List ByteArray) (from0 to0 : Int) (f t : Nat) (w : World) (h : Tr E w v ls) (hl : ls.length ≤ 1099511627776) (hfe : hld from0 ls.length = f) (hte : hld to0 ls.length = t) :
    Calls Tryd.prog 27 #[.agg #[v], .int .i64 from0, .int .i64 to0] w fun e w' => ∃ v', e = .returned (.agg #[v']) ∧ Tr E w' v' ((ls.drop f).take (t - f)) ∧ Below w.heap.size w w' := by
  obtain ⟨u, rfl⟩ := h.ptr
  have b0 : Below w.heap.size w ((w.alloc (Obj.cells #[.pointer u] 38)).alloc (Obj.cells #[.pointer none] 38)) := ((Below.refl _ _).alloc (Nat.le_refl _) _).alloc (by simp) _
  have R0 : Hid (Rt 38 ((w.alloc (Obj.cells #[.pointer u] 38)).alloc (Obj.cells #[.pointer none] 38)) w.heap.size #[.pointer u]) := (Rt.new _ w _).alloc _
  have R1 : Hid (Rt 38 ((w.alloc (Obj.cells #[.pointer u] 38)).alloc (Obj.cells #[.pointer none] 38)) (w.heap.size + 1) #[.pointer none]) := Rt.new' (by simp) _
  have HT := Hid.mk4 (h.later b0)
  have H1 : Hid (∀ W, Tr E W (.pointer u) ls → Calls Tryd.prog 44 #[.agg #[.pointer u], .int .i64 from0] W fun e w' => e = .returned (.int .i64 (f : Nat)) ∧ Below W.heap.size W w') := fun W hW => by rw [← hfe]; exact held_any E _ ls from0 W hW
  have H2 : Hid (∀ W, Tr E W (.pointer u) ls → Calls Tryd.prog 44 #[.agg #[.pointer u], .int .i64 to0] W fun e w' => e = .returned (.int .i64 (t : Nat)) ∧ Below W.heap.size W w') := fun W hW => by rw [← hte]; exact held_any E _ ls to0 W hW
  have hf : f ≤ ls.length := by unfold hld at hfe; omega
  have ht : t ≤ ls.length := by unfold hld at hte; omega
  clear hfe hte h
  go_enter Tryd.func27, Tryd.ntmps27
  go_wp2
  have ka := cell_regrown (R0.out.cell 0)
  refine wp_region_mix [([0, 1, 2, 3, 6, 7], [4]), ([], [5]), ([], [8]), ([], [9]), ([], [10]), ([], [11])] (by kernel_rfl) (by kernel_rfl) ?_
  rintro w2 ⟨d2, rfl⟩
  refine wpPlan_cons ?_
  simp only [pickAll, pickAt, List.nil_append, List.cons_append, List.append_nil]
  repeat (go_big_quiet_step (fail))
  refine wpQuiet_nil ?_
  clear ka
  go_wp2_with fail
  refine (H2.out _ (HT.out.later (below_redrawn ((w.alloc (Obj.cells #[.pointer u] 38)).alloc (Obj.cells #[.pointer none] 38)) d2))).mono ?_
  rintro e w3 ⟨rfl, b3⟩
  have b13 : Below ((w.alloc (Obj.cells #[.pointer u] 38)).alloc (Obj.cells #[.pointer none] 38)).heap.size ((w.alloc (Obj.cells #[.pointer u] 38)).alloc (Obj.cells #[.pointer none] 38)) w3 := (below_redrawn ((w.alloc (Obj.cells #[.pointer u] 38)).alloc (Obj.cells #[.pointer none] 38)) d2).trans b3
  clear b3 H2
  go_wp2
  refine mixNext_below b13 ?_
  refine wpPlan_cons ?_
  simp only [pickAll, pickAt, List.nil_append, List.cons_append, List.append_nil]
  refine wpQuiet_nil ?_
  go_wp2_with fail
  refine (head_tr E (.pointer u) ls (t : Nat) w3 (HT.out.later b13) hl).mono ?_
  rintro e w4 ⟨v4, rfl, h4, b4⟩
  rw [Int.toNat_natCast] at h4
  have H4 := Hid.mk4 h4
  have b14 : Below ((w.alloc (Obj.cells #[.pointer u] 38)).alloc (Obj.cells #[.pointer none] 38)).heap.size ((w.alloc (Obj.cells #[.pointer u] 38)).alloc (Obj.cells #[.pointer none] 38)) w4 := b13.trans (b4.mono b13.size)
  clear h4 b4 b13
  go_wp2
  refine mixNext_below b14 ?_
  refine wpPlan_cons ?_
  simp only [pickAll, pickAt, List.nil_append, List.cons_append, List.append_nil]
  refine wpQuiet_nil ?_
  go_wp2_with fail
  refine (H1.out _ (HT.out.later b14)).mono ?_
  rintro e w5 ⟨rfl, b5⟩
  have H5 := Hid.mk4 (H4.out.later b5)
  have b15 : Below ((w.alloc (Obj.cells #[.pointer u] 38)).alloc (Obj.cells #[.pointer none] 38)).heap.size ((w.alloc (Obj.cells #[.pointer u] 38)).alloc (Obj.cells #[.pointer none] 38)) w5 := b14.trans (b5.mono b14.size)
  clear b5 b14 H4 H1
  go_wp2
  refine mixNext_below b15 ?_
  refine wpPlan_cons ?_
  simp only [pickAll, pickAt, List.nil_append, List.cons_append, List.append_nil]
  refine wpQuiet_nil ?_
  go_wp2_with fail
  refine (tail_tr E v4 (ls.take t) (f : Nat) w5 H5.out (by rw [List.length_take]; omega)).mono ?_
  rintro e w6 ⟨v6, rfl, h6, b6⟩
  rw [Int.toNat_natCast, List.drop_take] at h6
  obtain ⟨u6, rfl⟩ := h6.ptr
  have H6 := Hid.mk4 h6
  have b16 : Below ((w.alloc (Obj.cells #[.pointer u] 38)).alloc (Obj.cells #[.pointer none] 38)).heap.size ((w.alloc (Obj.cells #[.pointer u] 38)).alloc (Obj.cells #[.pointer none] 38)) w6 := b15.trans (b6.mono b15.size)
  clear h6 b6 b15 H5
  go_wp2
  refine mixNext_below b16 ?_
  refine wpPlan_cons ?_
  simp only [pickAll, pickAt, List.nil_append, List.cons_append, List.append_nil]
  refine wpQuiet_nil ?_
  go_wp2
  refine mixNext_below b16 ?_
  refine wpPlan_cons ?_
  simp only [pickAll, pickAt, List.nil_append, List.cons_append, List.append_nil]
  refine wpQuiet_nil ?_
  have QC := Hid.mk4 (R1.out.later' b16)
  have gq := b0.trans (b16.mono b0.size)
  have fz := QC.out.fz
  have cz := QC.out.cell 0
  have hlt := QC.out.lt
  clear R0 R1 b0 b16 HT
  go_wp2
  refine mixNext_last ?_
  have gz : Below w.heap.size w (w6.setCell ⟨w.heap.size + 1, 0, none⟩ (.pointer u6)) := gq.setCell (p := ⟨w.heap.size + 1, 0, none⟩) (by simp) _
  have HTZ := Hid.mk4 (H6.out.putT QC.out (.pointer u6))
  have HRZ := Hid.mk4 (QC.out.set1 (.pointer u6))
  clear QC gq fz cz hlt H6
  generalize w6.setCell ⟨w.heap.size + 1, 0, none⟩ (.pointer u6) = w12 at *
  go_wp2
  refine bodyPost_ret (results_tree rfl _ _ (w.heap.size + 1) _ rfl HRZ.out) rfl ⟨_, rfl, HTZ.out, gz⟩

set_option maxHeartbeats 1000000 in
set_option maxRecDepth 100000 in
/-- Tree.Join. -/
theorem tjoin_any (E : Env) (va vb : Value) (la lb : List ByteArray) (w : World) (hA : Tr E w va la) (hB : Tr E w vb lb) (hl : la.length + lb.length ≤ 1099511627776) :
    Calls Tryd.prog 39 #[.agg #[va], .agg #[vb]] w fun e w' => ∃ v, e = .returned (.agg #[v]) ∧ Tr E w' v (la ++ lb) ∧ Below w.heap.size w w' := by
  have b0 : Below w.heap.size w (((w.alloc (Obj.cells #[va] 38)).alloc (Obj.cells #[vb] 38)).alloc (Obj.cells #[.pointer none] 38)) :=
    (((Below.refl _ _).alloc (Nat.le_refl _) _).alloc (by simp) _).alloc (by simp <;> omega) _
  have HA := Hid.mk4 (hA.later b0)
  have HB := Hid.mk4 (hB.later b0)
  clear hA hB
  go_enter Tryd.func39, Tryd.ntmps39
  go_wp2_with fail
  refine (join_any E va vb la lb _ HA.out HB.out hl).mono ?_
  rintro e w1 ⟨v, rfl, hv, b1⟩
  obtain ⟨v, rfl⟩ := hv.ptr
  have r1 : Rt 38 w1 (w.heap.size + 1 + 1) #[.pointer none] := (Rt.new' (by simp) _).later b1 (by simp)
  have R1 := Hid.mk4 r1
  have HV := Hid.mk4 hv
  have fz := r1.fz
  have c0 := r1.cell 0
  have hlt := r1.lt
  have g1 := b0.trans (b1.mono b0.size)
  clear r1 hv b0 b1
  go_wp2
  have g5 : Below w.heap.size w (w1.setCell ⟨w.heap.size + 1 + 1, 0, none⟩ (.pointer v)) := g1.setCell (p := ⟨w.heap.size + 1 + 1, 0, none⟩) (by simp <;> omega) _
  exact bodyPost_ret (results_tree rfl _ _ (w.heap.size + 1 + 1) _ rfl (R1.out.set1 _)) rfl ⟨_, rfl, HV.out.putT R1.out _, g5⟩
end Go.Proofs.YtbpklbhaoemkkabDoor
