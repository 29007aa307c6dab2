/- sumOf, Tree.Sum over all; rope's total. -/
import Derived.Test.YtbpklbhaoemkkabDoorTreeA
import Derived.Deep.RegionWith
namespace Go.Proofs.YtbpklbhaoemkkabDoor
open Go.RowKit Go.Sort
set_option linter.unusedSimpArgs false
set_option linter.unusedVariables false

/-- The counts that a tree bears. -/
def SumIs (w : World) (v : Value) (x0 x1 x2 x3 : Int) : Prop := (v = .pointer none ∧ x0 = 0 ∧ x1 = 0 ∧ x2 = 0 ∧ x3 = 0) ∨
  ∃ g, v = .pointer (some ⟨g, 0, none⟩) ∧ w.cell? ⟨g, 2, none⟩ = some (.int .i64 x0) ∧ w.cell? ⟨g, 3, none⟩ = some (.int .i64 x1) ∧ w.cell? ⟨g, 4, none⟩ = some (.int .i64 x2) ∧ w.cell? ⟨g, 5, none⟩ = some (.int .i64 x3)
theorem SumIs.later {w w' : World} {v : Value} {x0 x1 x2 x3 : Int} (h : SumIs w v x0 x1 x2 x3) (hb : Below w.heap.size w w') : SumIs w' v x0 x1 x2 x3 := by
  rcases h with h | ⟨g, e, h2, h3, h4, h5⟩
  · exact Or.inl h
  · exact Or.inr ⟨g, e, cell_after h2 hb, cell_after h3 hb, cell_after h4 hb, cell_after h5 hb⟩
theorem Tr.sum {E : Env} {w : World} {v : Value} {ls : List ByteArray} (h : Tr E w v ls) : ∃ x0 x1 x2 x3, E.KR ls x0 x1 x2 x3 ∧ SumIs w v x0 x1 x2 x3 := by
  rcases h with ⟨e, rfl⟩ | ⟨d, g, e, h⟩
  · exact ⟨0, 0, 0, 0, E.zero, Or.inl ⟨e, rfl, rfl, rfl, rfl⟩⟩
  · obtain ⟨_, _, x0, x1, x2, x3, hk, h2, h3, h4, h5⟩ := h.cells
    exact ⟨x0, x1, x2, x3, hk, Or.inr ⟨g, e, h2, h3, h4, h5⟩⟩

set_option maxHeartbeats 1000000 in
set_option maxRecDepth 100000 in
/-- sumOf, of all leaves. -/
theorem sumof_all (E : Env) (d g : Nat) (ls : List ByteArray) (x0 x1 x2 x3 : Int) (w : World) (h : Nd E w d g ls) (h2 : w.cell? ⟨g, 2, none⟩ = some (.int .i64 x0)) (h3 : w.cell? ⟨g, 3, none⟩ = some (.int .i64 x1)) (h4 : w.cell? ⟨g, 4, none⟩ = some (.int .i64 x2)) (h5 : w.cell? ⟨g, 5, none⟩ = some (.int .i64 x3)) :
    Calls Tryd.prog 57 #[.pointer (some ⟨g, 0, none⟩), .int .i64 0, .int .i64 (ls.length : Nat)] w fun e w' => e = .returned (.agg #[.int .i64 x0, .int .i64 x1, .int .i64 x2, .int .i64 x3]) ∧ Below w.heap.size w w' := by
  have b0 : Below w.heap.size w ((w.alloc (Obj.cells #[.int .i64 0, .int .i64 0, .int .i64 0, .int .i64 0] 66)).alloc (Obj.cells #[.int .i64 0, .int .i64 0, .int .i64 0, .int .i64 0] 66)) := ((Below.refl _ _).alloc (Nat.le_refl _) _).alloc (by simp) _
  have hge := h.ge
  have c1 := cell_after h.cells.2.1 b0
  have c2 := cell_after h2 b0
  have c3 := cell_after h3 b0
  have c4 := cell_after h4 b0
  have c5 := cell_after h5 b0
  have r0 : Rt 66 ((w.alloc (Obj.cells #[.int .i64 0, .int .i64 0, .int .i64 0, .int .i64 0] 66)).alloc (Obj.cells #[.int .i64 0, .int .i64 0, .int .i64 0, .int .i64 0] 66)) w.heap.size #[.int .i64 0, .int .i64 0, .int .i64 0, .int .i64 0] := (Rt.new _ w _).alloc _
  clear h h2 h3 h4 h5 r0
  obtain ⟨n, hn⟩ : ∃ n, ls.length = n := ⟨_, rfl⟩
  rw [hn] at c1 hge ⊢
  have t0 : 0 < n := by omega
  have t1 : (0 : Int) < (n : Int) := by omega
  have t2 : ¬ ((n : Int) ≤ 0) := by omega
  have t3 : decide (n = 0) = false := by simp; omega
  have t4 : n ≠ 0 := by omega
  clear hn hge
  go_enter Tryd.func57, Tryd.ntmps57
  go_wp2
  refine bodyPost_ret (results_counts rfl _ _ w.heap.size _ _ _ _ rfl ((Rt.new _ w _).alloc _)) rfl ⟨rfl, ((Below.refl _ _).alloc (Nat.le_refl _) _).alloc (by simp) _⟩

set_option maxHeartbeats 2000000 in
set_option maxRecDepth 100000 in
/-- Tree.Sum, of all leaves. -/
theorem tsum_all (E : Env) (v : Value) (ls : List ByteArray) (x0 x1 x2 x3 : Int) (w : World) (h : Tr E w v ls) (hS : SumIs w v x0 x1 x2 x3) :
    Calls Tryd.prog 46 #[.agg #[v], .int .i64 0, .int .i64 (ls.length : Nat)] w fun e w' => e = .returned (.agg #[.int .i64 x0, .int .i64 x1, .int .i64 x2, .int .i64 x3]) ∧ Below w.heap.size w w' := by
  have b0 : Below w.heap.size w (((w.alloc (Obj.cells #[v] 38)).alloc (Obj.cells #[.int .i64 0, .int .i64 0, .int .i64 0, .int .i64 0] 66)).alloc (Obj.cells #[.int .i64 0, .int .i64 0, .int .i64 0, .int .i64 0] 66)) :=
    (((Below.refl _ _).alloc (Nat.le_refl _) _).alloc (by simp) _).alloc (by simp <;> omega) _
  have r0 : Rt 66 (((w.alloc (Obj.cells #[v] 38)).alloc (Obj.cells #[.int .i64 0, .int .i64 0, .int .i64 0, .int .i64 0] 66)).alloc (Obj.cells #[.int .i64 0, .int .i64 0, .int .i64 0, .int .i64 0] 66)) (w.heap.size + 1) #[.int .i64 0, .int .i64 0, .int .i64 0, .int .i64 0] := (Rt.new' (by simp) _).alloc _
  have R0 := Hid.mk4 r0
  have fz := r0.fz
  have z0 := r0.cell 0; have z1 := r0.cell 1; have z2 := r0.cell 2; have z3 := r0.cell 3
  rcases hS with ⟨rfl, rfl, rfl, rfl, rfl⟩ | ⟨g, rfl, h2, h3, h4, h5⟩
  · clear h r0 z0 z1 z2 z3 fz
    go_enter Tryd.func46, Tryd.ntmps46
    go_wp2
    refine bodyPost_ret (results_counts rfl _ _ (w.heap.size + 1) _ _ _ _ rfl ((Rt.new' (by simp) _).alloc _)) rfl ⟨rfl, b0⟩
  · have HT := Hid.mk4 h
    have H2 := Hid.mk4 h2; have H3 := Hid.mk4 h3; have H4 := Hid.mk4 h4; have H5 := Hid.mk4 h5
    have hn : 0 < ls.length := by
      rcases h with ⟨e, _⟩ | ⟨d, g, e, h⟩
      · cases e
      · have := h.ge; omega
    clear h h2 h3 h4 h5 r0 z0 z1 z2 z3 fz
    go_enter Tryd.func46, Tryd.ntmps46
    go_wp2
    have hbox : (((w.alloc (Obj.cells #[.pointer (some ⟨g, 0, none⟩)] 38)).alloc (Obj.cells #[.int .i64 0, .int .i64 0, .int .i64 0, .int .i64 0] 66)).alloc (Obj.cells #[.int .i64 0, .int .i64 0, .int .i64 0, .int .i64 0] 66)).cell? ⟨w.heap.size, 0, none⟩ = some (.pointer (some ⟨g, 0, none⟩)) := (((Rt.new 38 w _).alloc _).alloc _).cell 0
    generalize (((w.alloc (Obj.cells #[.pointer (some ⟨g, 0, none⟩)] 38)).alloc (Obj.cells #[.int .i64 0, .int .i64 0, .int .i64 0, .int .i64 0] 66)).alloc (Obj.cells #[.int .i64 0, .int .i64 0, .int .i64 0, .int .i64 0] 66)) = w1 at *
    have kb := cell_regrown hbox
    have C1 : Hid (∀ d os, Calls Tryd.prog 44 #[.agg #[.pointer (some ⟨g, 0, none⟩)], .int .i64 0] (grow (redrawn w1 d) os) fun e w'' => e = .returned (.int .i64 0) ∧ ∃ p : Regrown, w'' = grow (redrawn w1 p.d) p.os) := fun d os => by
      have := held_any E _ ls 0 (grow (redrawn w1 d) os) ((HT.out.later b0).later (below_regrown w1 d os))
      rw [show hld 0 ls.length = 0 from by unfold hld; omega] at this
      exact Calls.regrown_of this
    have C2 : Hid (∀ d os, Calls Tryd.prog 44 #[.agg #[.pointer (some ⟨g, 0, none⟩)], .int .i64 (ls.length : Nat)] (grow (redrawn w1 d) os) fun e w'' => e = .returned (.int .i64 (ls.length : Nat)) ∧ ∃ p : Regrown, w'' = grow (redrawn w1 p.d) p.os) := fun d os => by
      have := held_any E _ ls (ls.length : Nat) (grow (redrawn w1 d) os) ((HT.out.later b0).later (below_regrown w1 d os))
      rw [show hld (ls.length : Nat) ls.length = ls.length from by unfold hld; omega] at this
      exact Calls.regrown_of this
    have C3 : Hid (∀ d os, Calls Tryd.prog 57 #[.pointer (some ⟨g, 0, none⟩), .int .i64 0, .int .i64 (ls.length : Nat)] (grow (redrawn w1 d) os) fun e w'' => e = .returned (.agg #[.int .i64 x0, .int .i64 x1, .int .i64 x2, .int .i64 x3]) ∧ ∃ p : Regrown, w'' = grow (redrawn w1 p.d) p.os) := fun d os => by
      have bb := b0.trans ((below_regrown w1 d os).mono b0.size)
      rcases HT.out with ⟨e, _⟩ | ⟨dd, gg, e, hh⟩
      · cases e
      · cases e
        exact Calls.regrown_of (sumof_all E dd _ ls x0 x1 x2 x3 _ (hh.later bb) (cell_after H2.out bb) (cell_after H3.out bb) (cell_after H4.out bb) (cell_after H5.out bb))
    refine wp_region_below_last (by kernel_rfl) (by kernel_rfl) (by kernel_rfl) ?_
    simp only [mute, idle, lastOf]
    clear hbox
    repeat (go_big_quiet_step (first | (go_at_call 57; exact C3.out _ _) | (go_at_call_of 44 (ls.length); exact C2.out _ _) | (go_at_call 44; exact C1.out _ _)))
    refine wpQuiet_nil ?_
    intro _ hw'
    obtain ⟨⟨dq, osq⟩, hw''⟩ := hw'
    subst hw''
    have bq := below_regrown w1 dq osq
    have R2 := Hid.mk4 (R0.out.later' bq)
    have b2 := b0.trans (bq.mono b0.size)
    clear kb C1 C2 C3 bq R0
    generalize grow (redrawn w1 dq) osq = w6 at *
    have c0 := R2.out.cell 0; have c1 := R2.out.cell 1; have c2 := R2.out.cell 2; have c3 := R2.out.cell 3; have fz := R2.out.fz
    have hlt := R2.out.lt
    go_wp2
    refine bodyPost_ret (results_counts rfl _ _ (w.heap.size + 1) _ _ _ _ rfl (R2.out.set4 _ _ _ _)) rfl ⟨rfl, below_set4 b2 (by omega) _ _ _ _⟩

set_option maxHeartbeats 2000000 in
set_option maxRecDepth 100000 in
/-- rope's total. -/
theorem total_any (E : Env) (v : Value) (ls : List ByteArray) (x0 x1 x2 x3 : Int) (w : World) (h : Tr E w v ls) (hS : SumIs w v x0 x1 x2 x3) :
    Calls Tryd.prog 32 #[.agg #[v]] w fun e w' => e = .returned (.agg #[.int .i64 x0, .int .i64 x1, .int .i64 x2, .int .i64 x3]) ∧ Below w.heap.size w w' := by
  have b0 : Below w.heap.size w ((w.alloc (Obj.cells #[v] 38)).alloc (Obj.cells #[.int .i64 0, .int .i64 0, .int .i64 0, .int .i64 0] 47)) := ((Below.refl _ _).alloc (Nat.le_refl _) _).alloc (by simp) _
  have HT := Hid.mk4 h
  have HS := Hid.mk4 hS
  obtain ⟨u, rfl⟩ := h.ptr
  clear h hS
  go_enter Tryd.func32, Tryd.ntmps32
  go_wp2
  have hbox : ((w.alloc (Obj.cells #[.pointer u] 38)).alloc (Obj.cells #[.int .i64 0, .int .i64 0, .int .i64 0, .int .i64 0] 47)).cell? ⟨w.heap.size, 0, none⟩ = some (.pointer u) := ((Rt.new 38 w _).alloc _).cell 0
  have R0 : Hid (Row4 ((w.alloc (Obj.cells #[.pointer u] 38)).alloc (Obj.cells #[.int .i64 0, .int .i64 0, .int .i64 0, .int .i64 0] 47)) (w.heap.size + 1) (.int .i64 0) (.int .i64 0) (.int .i64 0) (.int .i64 0)) := Row4.new' (by simp) _ _ _ _
  generalize ((w.alloc (Obj.cells #[.pointer u] 38)).alloc (Obj.cells #[.int .i64 0, .int .i64 0, .int .i64 0, .int .i64 0] 47)) = w1 at *
  have kb := cell_regrown hbox
  have C1 : Hid (∀ d os, Calls Tryd.prog 28 #[.agg #[.pointer u]] (grow (redrawn w1 d) os) fun e w'' => e = .returned (.int .i64 (ls.length : Nat)) ∧ ∃ p : Regrown, w'' = grow (redrawn w1 p.d) p.os) := fun d os =>
    Calls.regrown_of (tlen_any E _ ls (grow (redrawn w1 d) os) ((HT.out.later b0).later (below_regrown w1 d os)))
  have C2 : Hid (∀ d os, Calls Tryd.prog 46 #[.agg #[.pointer u], .int .i64 0, .int .i64 (ls.length : Nat)] (grow (redrawn w1 d) os) fun e w'' => e = .returned (.agg #[.int .i64 x0, .int .i64 x1, .int .i64 x2, .int .i64 x3]) ∧ ∃ p : Regrown, w'' = grow (redrawn w1 p.d) p.os) := fun d os =>
    Calls.regrown_of (tsum_all E _ ls x0 x1 x2 x3 (grow (redrawn w1 d) os) ((HT.out.later b0).later (below_regrown w1 d os)) ((HS.out.later b0).later (below_regrown w1 d os)))
  refine wp_region_below_last (by kernel_rfl) (by kernel_rfl) (by kernel_rfl) ?_
  simp only [mute, idle, lastOf]
  clear hbox
  repeat (go_big_quiet_step (first | (go_at_call 28; exact C1.out _ _) | (go_at_call 46; exact C2.out _ _)))
  refine wpQuiet_nil ?_
  intro _ hw'
  obtain ⟨⟨dq, osq⟩, hw''⟩ := hw'
  subst hw''
  have bq := below_regrown w1 dq osq
  have R2 := Hid.mk4 (R0.out.later bq R0.out.lt)
  have b2 := b0.trans (bq.mono b0.size)
  clear kb C1 C2 bq R0
  generalize grow (redrawn w1 dq) osq = w6 at *
  have c0 := R2.out.c0; have c1 := R2.out.c1; have c2 := R2.out.c2; have c3 := R2.out.c3; have fz := R2.out.fz
  have hlt := R2.out.lt
  go_wp2
  refine bodyPost_ret (results_row4 rfl _ _ (w.heap.size + 1) _ _ _ _ rfl (R2.out.set _ _ _ _)) rfl ⟨rfl, below_set4 b2 (by omega) _ _ _ _⟩
end Go.Proofs.YtbpklbhaoemkkabDoor
