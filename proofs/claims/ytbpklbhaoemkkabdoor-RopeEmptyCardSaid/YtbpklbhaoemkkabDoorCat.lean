/- slices.Grow from nothing, slices.Concat of two rows. -/
import Derived.Test.YtbpklbhaoemkkabDoorSl
import Derived.Lib.AppendZeros
import Derived.LoopN
namespace Go.Proofs.YtbpklbhaoemkkabDoor
open Go.RowKit Go.Sort
set_option linter.unusedSimpArgs false
set_option linter.unusedVariables false

set_option maxHeartbeats 1000000 in
set_option maxRecDepth 100000 in
/-- slices.Grow(nil, n). -/
theorem grow_nil (n : Nat) (h0 : 0 < n) (hn : n ≤ 1099511627776) (w : World) :
    Calls Tryd.prog 64 #[.slice none 0 0, .int .i64 (n : Nat)] w fun e w' => ∃ v, e = .returned v ∧ w'.ownsRow w.heap.size 36 1 v 0 [] ∧ Below w.heap.size w w' := by
  obtain ⟨i0, hi, hz0, hz1, hz2⟩ := info_parts Tryd.info_pnode
  have hrz : ∀ ty, (Builtin.append_ #[88, 3] ty #[.slice none 0 0, .int .i64 (n : Nat)]).run Tryd.prog w = _ := fun ty => Lib.run_append_nil_zeros w 88 3 ty 36 i0 (.pointer none) .i64 .i64 Tryd.underlying88 Tryd.underlying3 hi hz0 n h0 (by omega) (by omega) (by rw [hz2]; omega)
  have hge := grownCap_ge w n 0 36
  have hcm : grownCap w n 0 36 ≤ maxLen := grownCap_le_maxLen w n 0 36 (by unfold maxLen; omega)
  generalize grownCap w n 0 36 = cap at *
  have hgt : (0 : Int) < (n : Int) := by omega
  go_enter Tryd.func64, Tryd.ntmps64
  go_wp2_with (at_builtin; refine Lib.wpList_append_run _ rfl _ _ _ _ rfl _ _ rfl rfl _ _ (hrz _) ?_)
  go_wp2
  go_ret
  refine ⟨_, rfl, ⟨rfl, Or.inr ⟨w.heap.size, cap, _, rfl, Nat.le_refl _, heap_alloc_new w.drew _, Nat.zero_le _, hcm, ?_, ?_⟩⟩, ?_⟩
  · simp [Builtin.zeroCells]
    omega
  · simp
  · exact ((Below.refl _ w).drew).alloc (Nat.le_refl _) _

theorem Ptrs.news {w : World} {kb off : Nat} {gs : List Nat} (h : Ptrs w kb off gs) : ∀ j u, (gs.map pv)[j]? = some u → w.cell? ((⟨kb, off, none⟩ : Addr).add j) = some u := by
  intro j u hu
  rw [List.getElem?_map] at hu
  cases hg : gs[j]? with
  | none => rw [hg] at hu; cases hu
  | some x =>
    rw [hg] at hu
    cases hu
    rw [addr_add]
    exact h j x hg
theorem pvs_one (gs : List Nat) : ∀ u ∈ gs.map pv, u.oneCell' = true := by
  intro u hu
  obtain ⟨x, _, rfl⟩ := List.mem_map.1 hu
  rfl

set_option maxHeartbeats 2000000 in
set_option maxRecDepth 100000 in
/-- slices.Concat of two rows. -/
theorem concat_any (gs1 gs2 : List Nat) (b b1 o1 c1 b2 o2 c2 : Nat) (w : World) (h1 : 0 < gs1.length) (h2 : 0 < gs2.length) (hl : gs1.length + gs2.length ≤ 1099511627776)
    (hc0 : w.cell? ⟨b, 0, none⟩ = some (.slice (some ⟨b1, o1, none⟩) gs1.length c1)) (hc1 : w.cell? ⟨b, 1, none⟩ = some (.slice (some ⟨b2, o2, none⟩) gs2.length c2)) (hP1 : Ptrs w b1 o1 gs1) (hP2 : Ptrs w b2 o2 gs2) :
    Calls Tryd.prog 63 #[.slice (some ⟨b, 0, none⟩) 2 2] w fun e w' => ∃ g cap', e = .returned (.slice (some ⟨g, 0, none⟩) (gs1 ++ gs2).length cap') ∧ (gs1 ++ gs2).length ≤ cap' ∧ Ptrs w' g 0 (gs1 ++ gs2) ∧ Below w.heap.size w w' := by
  obtain ⟨i0, hi, hz0, hz1, hz2⟩ := info_parts Tryd.info_pnode
  have HP1 := Hid.mk4 hP1
  have HP2 := Hid.mk4 hP2
  clear hP1 hP2
  go_enter Tryd.func63, Tryd.ntmps63
  go_wp2
  refine wp_loop_rounds 3 ?_
  rw [rounds_succ]
  go_wp2
  rw [rounds_succ]
  go_wp2
  rw [rounds_succ]
  go_wp2_with fail
  have hg := grow_nil (gs1.length + gs2.length) (by omega) hl w
  simp only [Int.natCast_add] at hg
  refine hg.mono ?_
  rintro e w1 ⟨v1, rfl, ho1, b1'⟩
  have HO1 := Hid.mk4 ho1
  have d0 := cell_after hc0 b1'
  have d1 := cell_after hc1 b1'
  have HQ1 := Hid.mk4 (HP1.out.later b1')
  have HC1 := Hid.mk4 hc1
  clear ho1 hg hc0 hc1
  go_wp2
  refine wp_loop_rounds 3 ?_
  rw [rounds_succ]
  go_wp2_with (at_builtin; refine wpList_append_own _ rfl _ _ 88 rfl w.heap.size 36 i0 (.pointer none) 1 8 Tryd.underlying88 hi hz0 hz1 hz2 rfl (by decide) _ _ _ rfl HO1.out ⟨b1, o1, none⟩ gs1.length c1 (gs1.map pv) rfl (by simp) (HQ1.out.news) ?c2 ?c3 ?c4 ?c5 ?_)
  case c2 => exact pvs_one _
  case c3 => unfold maxLen; omega
  case c4 => omega
  case c5 => exact b1'.size
  intro v2 w2 hown2 hgrow2 _
  have HO2 : Hid (w2.ownsRow w.heap.size 36 1 v2 gs1.length (gs1.map pv)) := by
    show World.ownsRow _ _ _ _ _ _ _
    simpa using hown2
  have bb2 : Below w.heap.size w w2 := b1'.grown hgrow2 b1'.size (fun k hk => by have := HO1.out.lt _ hk; omega)
  have f1 := cell_after HC1.out bb2
  have HQ2 := Hid.mk4 (HP2.out.later bb2)
  clear hown2 hgrow2 HO1 d0 d1 HQ1 b1'
  go_wp2
  rw [rounds_succ]
  go_wp2_with (at_builtin; refine wpList_append_own _ rfl _ _ 88 rfl w.heap.size 36 i0 (.pointer none) 1 8 Tryd.underlying88 hi hz0 hz1 hz2 rfl (by decide) _ _ _ rfl HO2.out ⟨b2, o2, none⟩ gs2.length c2 (gs2.map pv) rfl (by simp) (HQ2.out.news) ?e2 ?e3 ?e4 ?e5 ?_)
  case e2 => exact pvs_one _
  case e3 => unfold maxLen; omega
  case e4 => omega
  case e5 => exact bb2.size
  intro v3 w3 hown3 hgrow3 _
  have HO3 : Hid (w3.ownsRow w.heap.size 36 1 v3 (gs1 ++ gs2).length ((gs1 ++ gs2).map pv)) := by
    show World.ownsRow _ _ _ _ _ _ _
    simpa using hown3
  have bb3 : Below w.heap.size w w3 := bb2.grown hgrow3 bb2.size (fun k hk => by have := HO2.out.lt _ hk; omega)
  obtain ⟨g, cap, rfl, _, hcap, _, hp⟩ := ptrs_of_own HO3.out (by intro e; have := congrArg List.length e; simp at this; rw [this.1] at h1; simp at h1)
  have HP3 := Hid.mk4 hp
  clear hown3 hgrow3 HO2 HO3 hp f1 HQ2
  go_wp2
  rw [rounds_succ]
  go_wp2
  go_ret
  exact ⟨g, cap, rfl, hcap, HP3.out, bb3⟩
end Go.Proofs.YtbpklbhaoemkkabDoor
