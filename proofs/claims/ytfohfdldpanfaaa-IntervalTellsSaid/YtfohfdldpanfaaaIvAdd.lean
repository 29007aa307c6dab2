/- add. -/
import Derived.Test.YtfohfdldpanfaaaIvFwd
import Derived.Test.YtfohfdldpanfaaaIvRow
namespace Go.Proofs.Ytfohfdldpanfaaa
open Go.Shelf Go.RowKit Go.Lib Go.Sort
set_option linter.unusedSimpArgs false
set_option linter.unusedVariables false

theorem below_grown (w : World) (n : Nat) (os : Array Obj) : Below w.heap.size w (grow (w.drewN n) os) :=
  ⟨rfl, rfl, rfl, by rw [size_grow]; show w.heap.size ≤ w.heap.size + _; omega, fun k hk => heap_grow_old (w.drewN n) os hk⟩
set_option maxHeartbeats 2000000 in
set_option maxRecDepth 100000 in
theorem iadd_nil (B : Nat) (v : Value) (x y : Int) (w : World) (hB : B ≤ w.heap.size) (hown : OwnV w B v []) :
    Calls Try.prog 20 #[v, .agg #[.int .i64 x, .int .i64 y]] w fun e w' => ∃ v', e = .returned v' ∧ OwnV w' B v' [(x, y)] ∧ w.grownBy w' v.ownBlock := by
  obtain ⟨i0, hi, hz0, hz1, hz2⟩ := info_parts Try.info_iv
  obtain ⟨a, cap, rfl, _, _⟩ := own_shapeV hown
  have hO : (w.alloc (.cells #[.int .i64 x, .int .i64 y] 23)).ownsRow B 23 2 (.slice a 0 cap) 0 [] := World.ownsRow.alloc hown _
  have HG : Hid (w.grownBy (w.alloc (.cells #[.int .i64 x, .int .i64 y] 23)) (Value.slice a 0 cap).ownBlock) := World.grownBy_alloc _ _ _
  have d0 : (w.alloc (.cells #[.int .i64 x, .int .i64 y] 23)).cell? ⟨w.heap.size, 0, none⟩ = some (.int .i64 x) := by rw [World.cell?_alloc_new]; rfl
  have d1 : (w.alloc (.cells #[.int .i64 x, .int .i64 y] 23)).cell? ⟨w.heap.size, 1, none⟩ = some (.int .i64 y) := by rw [World.cell?_alloc_new]; rfl
  have hsz : w.heap.size < (w.alloc (.cells #[.int .i64 x, .int .i64 y] 23)).heap.size := by simp
  have HO := Hid.mk7 hO
  clear hown hO
  go_enter Try.func20, Try.ntmps20
  go_wp2
  go_quiet (fail)
  have HG2 : Hid (w.grownBy ((w.alloc (.cells #[.int .i64 x, .int .i64 y] 23)).drewN nq) (Value.slice a 0 cap).ownBlock) := grown_trans HG.out (grown_drew nq _)
  have HO2 : Hid (((w.alloc (.cells #[.int .i64 x, .int .i64 y] 23)).drewN nq).ownsRow B 23 2 (.slice a 0 cap) 0 []) := HO.out
  have e0 : ((w.alloc (.cells #[.int .i64 x, .int .i64 y] 23)).drewN nq).cell? ⟨w.heap.size, 0, none⟩ = some (.int .i64 x) := d0
  have e1 : ((w.alloc (.cells #[.int .i64 x, .int .i64 y] 23)).drewN nq).cell? ⟨w.heap.size, 1, none⟩ = some (.int .i64 y) := d1
  have hsz2 : w.heap.size < ((w.alloc (.cells #[.int .i64 x, .int .i64 y] 23)).drewN nq).heap.size := hsz
  clear d0 d1 HG HO hsz
  generalize (w.alloc (.cells #[.int .i64 x, .int .i64 y] 23)).drewN nq = W at *
  go_wp2_with (at_builtin; refine wpList_append_own _ rfl _ _ 30 rfl B 23 i0 (.agg #[.int .i64 0, .int .i64 0]) 2 16 Try.underlying30 hi hz0 hz1 hz2 rfl (by decide) _ _ _ rfl (World.ownsRow.alloc HO2.out _) ⟨_, 0, none⟩ 1 1 [.int .i64 x, .int .i64 y] rfl rfl (two_newV _ _ _ _) (fun u hu => by simp at hu; rcases hu with rfl | rfl <;> rfl) (by decide) (by decide) (by simp; omega) ?_)
  intro v' w3 hown' hgrow _
  go_wp2
  go_ret
  exact ⟨v', rfl, hown', grown_trans (grown_trans HG2.out (World.grownBy_alloc _ _ _)) hgrow⟩
set_option maxHeartbeats 2000000 in
set_option maxRecDepth 100000 in
theorem iadd_cons (B : Nat) (v : Value) (rs : List Sg) (l0 l1 x y : Int) (w : World) (hB : B ≤ w.heap.size) (hl : rs.length ≤ 1099511627776) (hown : OwnV w B v (rs ++ [(l0, l1)])) :
    Calls Try.prog 20 #[v, .agg #[.int .i64 x, .int .i64 y]] w fun e w' => ∃ v', e = .returned v' ∧ OwnV w' B v' (if tch (l0, l1) (x, y) = true then rs ++ [jn (l0, l1) (x, y)] else rs ++ [(l0, l1)] ++ [(x, y)]) ∧ w.grownBy w' v.ownBlock := by
  obtain ⟨i0, hi, hz0, hz1, hz2⟩ := info_parts Try.info_iv
  have hlen : (rs ++ [(l0, l1)]).length = rs.length + 1 := by simp
  obtain ⟨a, cap, rfl, hcap, hg⟩ := own_shapeV hown
  obtain ⟨g, rfl⟩ := hg (by simp)
  rw [hlen] at hcap
  have hO : (w.alloc (.cells #[.int .i64 x, .int .i64 y] 23)).ownsRow B 23 2 (.slice (some ⟨g, 0, none⟩) (rs.length + 1) cap) (rs.length + 1) (cs (rs ++ [(l0, l1)])) := by
    have := World.ownsRow.alloc hown (.cells #[.int .i64 x, .int .i64 y] 23)
    rw [hlen] at this
    exact this
  rw [hlen]
  have HG : Hid (w.grownBy (w.alloc (.cells #[.int .i64 x, .int .i64 y] 23)) (some g)) := World.grownBy_alloc _ _ _
  have hget : (rs ++ [(l0, l1)])[rs.length]? = some (l0, l1) := by simp
  have a0 : (w.alloc (.cells #[.int .i64 x, .int .i64 y] 23)).cell? ⟨g, rs.length * 2, none⟩ = some (.int .i64 l0) := by
    rw [hO.cellAt _ (by omega)]; exact (cs_get hget).1
  have a1 : (w.alloc (.cells #[.int .i64 x, .int .i64 y] 23)).cell? ⟨g, rs.length * 2 + 1, none⟩ = some (.int .i64 l1) := by
    rw [hO.cellAt _ (by omega)]; exact (cs_get hget).2
  have a2 : (w.alloc (.cells #[.int .i64 x, .int .i64 y] 23)).cell? ⟨w.heap.size, 0, none⟩ = some (.int .i64 x) := by rw [World.cell?_alloc_new]; rfl
  have a3 : (w.alloc (.cells #[.int .i64 x, .int .i64 y] 23)).cell? ⟨w.heap.size, 1, none⟩ = some (.int .i64 y) := by rw [World.cell?_alloc_new]; rfl
  have hsz : w.heap.size < (w.alloc (.cells #[.int .i64 x, .int .i64 y] 23)).heap.size := by simp
  have dk : decide (0 ≤ (rs.length : Int)) = true := decide_eq_true (by omega)
  have hgl : g < w.heap.size := (hown.lt g rfl).2
  have HO := Hid.mk7 hO
  have HI := Hid.mk7 hi
  have mixed : Try.prog.follows Departure.mixedOrders = true := by kernel_rfl
  obtain ⟨t, ht⟩ : ∃ t, t = tch (l0, l1) (x, y) := ⟨_, rfl⟩
  rw [← ht]
  have HT : ∀ W, Calls Try.prog 11 #[.agg #[.int .i64 l0, .int .i64 l1], .agg #[.int .i64 x, .int .i64 y]] W fun e w' => e = .returned (.bool t) ∧ ∃ q os', w' = grow (W.drewN q) os' := fun W => by
    rw [ht]
    exact (itouch_any l0 l1 x y W).mono fun _ _ ⟨he, os, hw⟩ => ⟨he, 0, os, hw⟩
  have HTT := Hid.mk7 ht
  have HJ := Hid.mk7 (ijoin_any l0 l1 x y)
  clear hown hO hget hlen hg ht hi
  go_enter Try.func20, Try.ntmps20
  go_wp2_with fail
  generalize w.alloc (.cells #[.int .i64 x, .int .i64 y] 23) = W at *
  have c0 := fun n os => cell_grown (World.block_lt_of_cell? W _ a0) a0 n os
  have c1 := fun n os => cell_grown (World.block_lt_of_cell? W _ a1) a1 n os
  have c2 := fun n os => cell_grown (World.block_lt_of_cell? W _ a2) a2 n os
  have c3 := fun n os => cell_grown (World.block_lt_of_cell? W _ a3) a3 n os
  refine wp_region_quiet_grown mixed (by kernel_rfl) ?_
  repeat (go_big_quiet_step (first | (go_at_call 11; refine Calls.grown_of (HT _))))
  refine wpQuiet_nil ?_
  intro _ hw'
  obtain ⟨⟨nq, osq⟩, hw''⟩ := hw'
  subst hw''
  have bq := below_grown W nq osq
  have HG2 : Hid (w.grownBy (grow (W.drewN nq) osq) (some g)) := grown_trans HG.out (grown_below bq _)
  have HO2 : Hid ((grow (W.drewN nq) osq).ownsRow B 23 2 (.slice (some ⟨g, 0, none⟩) (rs.length + 1) cap) (rs.length + 1) (cs (rs ++ [(l0, l1)]))) := by
    have hO : OwnV W B (.slice (some ⟨g, 0, none⟩) (rs.length + 1) cap) (rs ++ [(l0, l1)]) := by unfold OwnV; rw [List.length_append]; exact HO.out
    have := hO.later bq
    unfold OwnV at this
    rw [List.length_append] at this
    exact this
  have b0 := c0 nq osq
  have b1 := c1 nq osq
  have b2 := c2 nq osq
  have b3 := c3 nq osq
  have hsz2 : w.heap.size < (grow (W.drewN nq) osq).heap.size := Nat.lt_of_lt_of_le hsz bq.size
  clear c0 c1 c2 c3 a0 a1 a2 a3 HG HO hsz bq HT
  generalize grow (W.drewN nq) osq = W2 at *
  have hi := HI.out
  cases t with
  | true =>
    go_wp2_with fail
    have z0 := cell_regrown b0
    have z1 := cell_regrown b1
    have z2 := cell_regrown b2
    have z3 := cell_regrown b3
    have HJC := Hid.mk7 (fun d os => Calls.regrown_of (HJ.out (grow (redrawn W2 d) os)))
    refine wp_region_below_last (by kernel_rfl) (by kernel_rfl) (by kernel_rfl) ?_
    simp only [mute, idle, lastOf]
    clear b0 b1 b2 b3
    repeat (go_big_quiet_step (first | (go_at_call 12; exact HJC.out _ _)))
    refine wpQuiet_nil ?_
    intro _ hw'
    obtain ⟨⟨dq, osq⟩, hw''⟩ := hw'
    subst hw''
    have bq := below_regrown W2 dq osq
    have HO3 : Hid ((grow (redrawn W2 dq) osq).ownsRow B 23 2 (.slice (some ⟨g, 0, none⟩) (rs.length + 1) cap) (rs.length + 1) (cs (rs ++ [(l0, l1)]))) := by
      have hO : OwnV W2 B (.slice (some ⟨g, 0, none⟩) (rs.length + 1) cap) (rs ++ [(l0, l1)]) := by unfold OwnV; rw [List.length_append]; exact HO2.out
      have := hO.later bq
      unfold OwnV at this
      rw [List.length_append] at this
      exact this
    have HG3 : Hid (w.grownBy (grow (redrawn W2 dq) osq) (some g)) := grown_trans HG2.out (grown_below bq _)
    have f0 := z0 dq osq
    have f1 := z1 dq osq
    clear z0 z1 z2 z3 HO2 HG2 bq HJC
    generalize grow (redrawn W2 dq) osq = W3 at *
    have fz := fun j => HO3.out.frozenAt j
    have f2 := other_cell (.int .i64 (min l0 x)) (show rs.length * 2 ≠ rs.length * 2 + 1 by omega) f1
    go_wp2
    obtain ⟨h1, h2⟩ := HO3.out.stored (rs.length * 2) (.int .i64 (min l0 x))
    obtain ⟨h3, h4⟩ := h1.stored (rs.length * 2 + 1) (.int .i64 (max l1 y))
    have e : ((cs (rs ++ [(l0, l1)])).set (rs.length * 2) (.int .i64 (min l0 x))).set (rs.length * 2 + 1) (.int .i64 (max l1 y)) = cs (rs ++ [jn (l0, l1) (x, y)]) := by
      rw [cs_append, cs_append, List.set_append_right _ _ (by rw [cs_length]; omega), List.set_append_right _ _ (by rw [cs_length]; omega), cs_length, cs_one, cs_one, Nat.add_sub_cancel_left, Nat.sub_self]
      rfl
    rw [e] at h3
    go_ret
    refine ⟨_, rfl, ?_, grown_trans (grown_trans HG3.out h2) h4⟩
    unfold OwnV
    rw [List.length_append]
    exact h3
  | false =>
    go_wp2_with (at_builtin; refine wpList_append_own _ rfl _ _ 30 rfl B 23 i0 (.agg #[.int .i64 0, .int .i64 0]) 2 16 Try.underlying30 hi hz0 hz1 hz2 rfl (by decide) _ _ _ rfl (World.ownsRow.alloc HO2.out _) ⟨_, 0, none⟩ 1 1 [.int .i64 x, .int .i64 y] rfl rfl (two_newV _ _ _ _) (fun u hu => by simp at hu; rcases hu with rfl | rfl <;> rfl) (by unfold maxLen; omega) (by omega) (by simp; omega) ?_)
    intro v' w3 hown' hgrow _
    go_wp2
    go_ret
    refine ⟨v', rfl, ?_, grown_trans (grown_trans HG2.out (World.grownBy_alloc _ _ _)) hgrow⟩
    have e : cs (rs ++ [(l0, l1), (x, y)]) = cs (rs ++ [(l0, l1)]) ++ [Value.int .i64 x, Value.int .i64 y] := by
      rw [show rs ++ [(l0, l1), (x, y)] = rs ++ [(l0, l1)] ++ [(x, y)] by simp, cs_append, cs_one]
    unfold OwnV
    rw [e, show (rs ++ [(l0, l1), (x, y)]).length = rs.length + 1 + 1 by simp]
    exact hown'
/-- add: on a row of one's own. -/
theorem iadd_any (B : Nat) (v : Value) (M : List Sg) (x y : Int) (w : World) (hB : B ≤ w.heap.size) (hl : M.length ≤ 1099511627776) (hown : OwnV w B v M) :
    Calls Try.prog 20 #[v, .agg #[.int .i64 x, .int .i64 y]] w fun e w' => ∃ v', e = .returned v' ∧ OwnV w' B v' (adM M (x, y)) ∧ w.grownBy w' v.ownBlock := by
  rcases List.eq_nil_or_concat M with rfl | ⟨A, ⟨l0, l1⟩, rfl⟩
  · exact iadd_nil B v x y w hB hown
  · rw [List.concat_eq_append] at *
    have h := iadd_cons B v A l0 l1 x y w hB (by simp at hl; omega) hown
    cases ht : tch (l0, l1) (x, y) with
    | true => rw [ht, if_pos rfl] at h; rw [adM_join ht]; exact h
    | false => rw [ht, if_neg Bool.false_ne_true] at h; rw [adM_apart ht]; exact h
end Go.Proofs.Ytfohfdldpanfaaa
