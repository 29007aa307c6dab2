/- At, In. -/
import Derived.Test.YtmgjfmgkmlfjeaaDoorSpPutP
import Derived.Test.YtmgjfmgkmlfjeaaDoorSpIs
namespace Go.Proofs.YtmgjfmgkmlfjeaaDoor
open Go.RowKit Go.Sort
set_option linter.unusedSimpArgs false
set_option linter.unusedVariables false

set_option maxHeartbeats 4000000 in
set_option maxRecDepth 100000 in
theorem at_any15 {w : World} {v : Value} {L : List Sp} (p : Int) (h : SpAt w v L) (hl : L.length ≤ 1000) :
    Calls Tryd.prog 14 #[v, .int .i64 p] w fun e w' => e = .returned (.int .i64 (atS L p)) ∧ Below w.heap.size w w' := by
  have HR := Hid.mk7 (rowOf_any h hl)
  clear h
  go_enter Tryd.func14, Tryd.ntmps14
  go_wp2_with fail
  refine HR.out.mono ?_
  rintro e w1 ⟨rv, rfl, o1, b1⟩
  have HA := Hid.mk7 (rat_any p o1.row hl)
  clear o1 HR
  go_wp2_with fail
  refine HA.out.mono ?_
  rintro e w2 ⟨rfl, b2⟩
  have HB := Hid.mk7 (b1.trans (b2.mono b1.size))
  clear b1 b2 HA
  go_wp2
  go_ret
  exact ⟨rfl, HB.out⟩
set_option maxHeartbeats 4000000 in
set_option maxRecDepth 100000 in
theorem inS_any15 {w : World} {v : Value} {L : List Sp} (p q : Int) (h : SpAt w v L) (hl : L.length ≤ 400) :
    Calls Tryd.prog 16 #[v, .agg #[.int .i64 p, .int .i64 q]] w fun e w' => ∃ v', e = .returned v' ∧ SpAt w' v' (inS15 p q L) ∧ Below w.heap.size w w' := by
  have b0 := below15 (Below.refl w.heap.size w) (.cells #[.int .i64 p, .int .i64 q] 29)
  have HV0 := Hid.mk7 (h.later b0)
  have HB0 := Hid.mk7 b0
  have hnn := inS15_len p q L
  have p0 : (w.alloc (.cells #[.int .i64 p, .int .i64 q] 29)).cell? ⟨w.heap.size, 0, none⟩ = some (.int .i64 p) := by rw [World.cell?_alloc_new]; rfl
  have p1 : (w.alloc (.cells #[.int .i64 p, .int .i64 q] 29)).cell? ⟨w.heap.size, 1, none⟩ = some (.int .i64 q) := by rw [World.cell?_alloc_new]; rfl
  clear h b0
  go_enter Tryd.func16, Tryd.ntmps16
  go_wp2_with fail
  have z0 := cell_regrown p0
  have z1 := cell_regrown p1
  refine wp_region_mixP [([0, 2], [1]), ([], [3]), ([], [4]), ([5], [])] (by kernel_rfl) (by kernel_rfl) ?_
  rintro x0 ⟨d0, rfl⟩
  have m0 := redrawn15 (w.alloc (.cells #[.int .i64 p, .int .i64 q] 29)) d0
  have s0 := m0.size
  refine wpPlan_cons ?_
  simp only [pickAll, pickAt, List.nil_append, List.cons_append, List.append_nil]
  repeat (go_big_quiet_step (fail))
  refine wpQuiet_nil ?_
  go_wp2_with fail
  refine (rowOf_any (HV0.out.later m0) (by omega)).mono ?_
  rintro e x1 ⟨rv, rfl, o1, b1⟩
  have m1 := m0.trans (b1.mono m0.size)
  have s1 := b1.size
  go_wp2
  refine mixNext15 m1 ?_
  refine wpPlan_cons ?_
  simp only [pickAll, pickAt, List.nil_append, List.cons_append, List.append_nil]
  repeat (go_big_quiet_step (fail))
  refine wpQuiet_nil ?_
  go_wp2_with fail
  refine (within15_any p q o1.row (by omega)).mono ?_
  rintro e x2 ⟨wv, rfl, o2, b2⟩
  have m2 := m1.trans (b2.mono m1.size)
  have s2 := b2.size
  go_wp2
  refine mixNext15 m2 ?_
  refine wpPlan_cons ?_
  simp only [pickAll, pickAt, List.nil_append, List.cons_append, List.append_nil]
  repeat (go_big_quiet_step (fail))
  refine wpQuiet_nil ?_
  go_wp2_with fail
  refine (spansOf_any o2.row (by omega)).mono ?_
  rintro e x3 ⟨pv, rfl, o3, b3⟩
  have m3 := m2.trans (b3.mono m2.size)
  go_wp2
  refine mixNext15 m3 ?_
  refine wpPlan_cons ?_
  simp only [pickAll, pickAt, List.nil_append, List.cons_append, List.append_nil]
  repeat (go_big_quiet_step (fail))
  refine wpQuiet_nil ?_
  refine mixNext15 m3 (wpPlan_nil ?_)
  have HO3 := Hid.mk7 o3.row
  have HB3 := Hid.mk7 (HB0.out.trans (m3.mono HB0.out.size))
  clear p0 p1 z0 z1 m0 m1 m2 m3 b1 b2 b3 o1 o2 o3 s0 s1 s2
  go_wp2
  go_ret
  exact ⟨_, rfl, HO3.out, HB3.out⟩
end Go.Proofs.YtmgjfmgkmlfjeaaDoor
