/- Where spans go: the closure of Edit, row.moved, Edit. -/
import Derived.Test.YtmgjfmgkmlfjeaaDoorSpPutG
import Derived.Test.YtmgjfmgkmlfjeaaDoorSpKnown
import Derived.Test.YtmgjfmgkmlfjeaaDoorSpEdit
import Derived.Test.YtmgjfmgkmlfjeaaDoorOffIv
import Derived.Test.YtmgjfmgkmlfjeaaDoorDelSize
import Derived.Test.YtmgjfmgkmlfjeaaDoorTurnsP
namespace Go.Proofs.YtmgjfmgkmlfjeaaDoor
open Go.RowKit Go.Sort
set_option linter.unusedSimpArgs false
set_option linter.unusedVariables false

theorem enter_edit15 (args : Array Value) (W : World) : Sem.run Tryd.prog (callFunc 26 args) W = .ok (.enter 26 args) W := by rfl
theorem movS_take {base : Int} {es : List El} {L : List Sp} {k : Nat} {x y z : Int} (h : L[k]? = some (x, y, z)) : movS base es (L.take (k + 1)) = movS base es (L.take k) ++ [(mvV base es x true, max (mvV base es x true) (mvV base es y false), z)] := by
  rw [take15 h]; unfold movS; rw [List.map_append]; rfl
theorem movS_len {base : Int} {es : List El} {L : List Sp} : (movS base es L).length = L.length := by simp [movS]
set_option maxHeartbeats 2000000 in
set_option maxRecDepth 100000 in
theorem edit1_any {w : World} {v : Value} {es : List El} {K : Nat} {base : Int} (f t : Int) (hK : Rd w K (.int .i64 base) v) (h : ElAt w v es) (hsm : Sm es 281474976710656) (tb : Nat × Nat) (hT : Tab w tb) :
    Calls Tryd.prog 26 #[.agg #[.int .i64 f, .int .i64 t], .pointer (some ⟨K, 0, none⟩)] w fun e w' => e = .returned (.agg #[.int .i64 (mvV base es f true), .int .i64 (max (mvV base es f true) (mvV base es t false))]) ∧ Below w.heap.size w w' := by
  obtain ⟨a, cap, rfl, _⟩ := id h
  obtain ⟨W1, hW1⟩ : ∃ W1, W1 = w.alloc (.cells #[.int .i64 f, .int .i64 t] 29) := ⟨_, rfl⟩
  obtain ⟨W2, hW2⟩ : ∃ W2, W2 = W1.alloc (.cells #[.int .i64 0, .int .i64 0] 29) := ⟨_, rfl⟩
  have s1 : W1.heap.size = w.heap.size + 1 := by rw [hW1]; simp
  have b1 : Below w.heap.size w W1 := by rw [hW1]; exact below_newE (Below.refl _ _) _
  have b2 : Below w.heap.size w W2 := by rw [hW2]; exact b1.alloc b1.size _
  have d2 : Rd W2 K (.int .i64 base) (.slice a es.length cap) := hK.later b2
  have v1 : Rv W1 w.heap.size (.int .i64 f) (.int .i64 t) := by rw [hW1]; exact Rv.new' rfl _ _
  have v2 : Rv W2 w.heap.size (.int .i64 f) (.int .i64 t) := by rw [hW2]; exact v1.alloc _
  have z2 : Rv W2 (w.heap.size + 1) (.int .i64 0) (.int .i64 0) := by rw [hW2]; exact Rv.new' s1.symm _ _
  have HM := Hid.mk7 (interval_any base f t (h.later b2) hsm tb (hT.later b2))
  have Z2 := Hid.mk7 z2
  have B2 := Hid.mk7 b2
  have r0 := d2.c0
  have r1 := d2.c1
  have x0 := v2.c0
  have x1 := v2.c1
  clear s1 b1 b2 d2 v1 v2 z2 h hT hsm hK
  generalize mvV base es f true = A at *
  generalize mvV base es t false = B at *
  go_enter Tryd.func26, Tryd.ntmps26
  go_upto_region 1 with fail
  rw [← hW1, ← hW2]
  clear hW1 hW2
  go_wp2_with fail
  refine HM.out.mono ?_
  rintro e w4 ⟨rfl, b4⟩
  have Z4 := Hid.mk7 (Z2.out.later b4)
  have B4 := Hid.mk7 (B2.out.trans (b4.mono B2.out.size))
  clear r0 r1 x0 x1 Z2 B2 HM b4
  have fz := Z4.out.fz
  have z0 := Z4.out.c0
  have z1 := Z4.out.c1
  have hlt := Z4.out.lt
  go_wp2
  refine bodyPost_ret (results_iv rfl _ _ (w.heap.size + 1) _ _ rfl (Z4.out.set _ _)) rfl ?_
  exact ⟨rfl, below_set2 B4.out (by omega) _ _⟩
set_option maxHeartbeats 4000000 in
set_option maxRecDepth 100000 in
theorem moved_any {w : World} {v ev : Value} {L : List Sp} {es : List El} {K : Nat} {base : Int} (h : SpAt w v L) (hl : L.length ≤ 1000) (hK : Rd w K (.int .i64 base) ev) (he : ElAt w ev es) (hsm : Sm es 281474976710656) (tb : Nat × Nat) (hT : Tab w tb) :
    Calls Tryd.prog 28 #[v, .func (.func 26) #[] #[.pointer (some ⟨K, 0, none⟩)]] w fun e w' => ∃ v', e = .returned v' ∧ OwnP 57 w' w.heap.size v' (edS base es L) ∧ Below w.heap.size w w' := by
  obtain ⟨i0, hi, hz0, hz1, hz2⟩ := info_parts Tryd.info_pt
  obtain ⟨a, cap, rfl, hcap, _, hcells⟩ := h
  have HC := Hid.mk7 hcells
  have HI := Hid.mk7 hi
  have HK := Hid.mk7 hK
  have HE := Hid.mk7 he
  have HT := Hid.mk7 hT
  have e26 := enter_edit15
  clear hcells hi hK he hT
  go_enter Tryd.func28, Tryd.ntmps28
  go_wp2_with (at_make; refine wpList_make_own _ rfl _ _ 53 rfl w.heap.size 57 i0 (.agg #[.int .i64 0, .int .i64 0, .int .i64 0]) 3 Tryd.underlying53 HI.out hz0 hz1 .i64 .i64 _ L.length rfl rfl rfl ?m1 ?m2 ?m3 ?_)
  case m1 => rw [hz2]; omega
  case m2 => unfold maxLen; omega
  case m3 => exact Nat.le_refl _
  intro w1 hown1 hgrow1
  have b1 : Below w.heap.size w w1 := (Below.refl _ _).grown hgrow1 (Nat.le_refl _) (fun j hj => by cases hj)
  have O1 : Hid (OwnP 57 w1 w.heap.size (.slice (some ⟨w.heap.size, 0, none⟩) 0 L.length) (movS base es [])) := hown1
  have B1 := Hid.mk7 b1
  clear hown1 hgrow1 b1
  generalize (Value.slice (some ⟨w.heap.size, 0, none⟩) 0 L.length) = v1 at *
  go_wp2
  go_loopw [5, 13] (fun av iv wr => ∃ k : Nat, k ≤ L.length ∧ iv = .int .i64 (k : Nat) ∧ Hid (OwnP 57 wr w.heap.size av (movS base es (L.take k))) ∧ Below w.heap.size w wr) (fun _ iv _ => L.length - (intOf iv).toNat)
  case atStart => exact ⟨0, Nat.zero_le _, rfl, O1, B1.out⟩
  case round =>
    obtain ⟨k, hk, rfl, HO, hb⟩ := hrel
    have hfl : (L.take k).length ≤ 1000 := by simp; omega
    by_cases hlt : k < L.length
    · obtain ⟨⟨x, y, z⟩, hr⟩ : ∃ r, L[k]? = some r := ⟨L[k], List.getElem?_eq_getElem hlt⟩
      obtain ⟨g, off, rfl, q0, q1, q2⟩ := HC.out k _ hr
      have c0 := cell_later7 hb (Nat.le_refl _) q0
      have c1 := cell_later7 hb (Nat.le_refl _) q1
      have c2 := cell_later7 hb (Nat.le_refl _) q2
      simp only at c0 c1 c2
      have HTK := Hid.mk7 (movS_take (base := base) (es := es) hr)
      have hsz := hb.size
      have HLT : Hid (∀ j, u5.ownBlock = some j → j < wr.heap.size) := fun j hj => (World.ownsRow.lt HO.out j hj).2
      have hml : (movS base es (L.take k)).length ≤ 1000 := by rw [movS_len]; exact hfl
      clear q0 q1 q2 hr O1 B1
      obtain ⟨W, hW⟩ : ∃ W, W = wr.alloc (.cells #[.int .i64 x, .int .i64 y, .int .i64 z] 57) := ⟨_, rfl⟩
      have HO1 : Hid (OwnP 57 W w.heap.size u5 (movS base es (L.take k))) := by rw [hW]; exact HO.out.alloc _
      have HB1 : Hid (Below w.heap.size w W) := by rw [hW]; exact below15 hb _
      have HP1 : Hid (Rt 57 W wr.heap.size (.int .i64 x) (.int .i64 y) (.int .i64 z)) := by rw [hW]; exact Rt.new _ _ _ _ _
      clear HO
      go_wp2_with fail
      rw [← hW]
      obtain ⟨s, hs⟩ : ∃ s, wr.heap.size = s := ⟨_, rfl⟩
      rw [hs] at HP1 HLT ⊢
      have hsw : w.heap.size ≤ s := by omega
      clear hW c0 c1 c2 hs hsz hb
      refine wp_region_turns (fun w' => ∃ q : (GW (fun W => Rt 57 W s (.int .i64 x) (.int .i64 y) (.int .i64 z))), w' = q.w) [0, 1, 2, 3, 5, 6] 10 5 (by kernel_rfl) (by kernel_rfl) (fun d => ⟨⟨redrawn W d, HP1.out.later (redrawn15 W d)⟩, rfl⟩) ?_
      intro d
      have k0 : ∀ q : (GW (fun W => Rt 57 W s (.int .i64 x) (.int .i64 y) (.int .i64 z))), q.w.cell? ⟨s, 0, none⟩ = some (.int .i64 x) := fun q => q.h.c0
      have k1 : ∀ q : (GW (fun W => Rt 57 W s (.int .i64 x) (.int .i64 y) (.int .i64 z))), q.w.cell? ⟨s, 1, none⟩ = some (.int .i64 y) := fun q => q.h.c1
      have k2 : ∀ q : (GW (fun W => Rt 57 W s (.int .i64 x) (.int .i64 y) (.int .i64 z))), q.w.cell? ⟨s, 2, none⟩ = some (.int .i64 z) := fun q => q.h.c2
      simp only [pickAll, pickAt, List.nil_append, List.cons_append, List.append_nil]
      have hne : Nonempty (GW (fun W => Rt 57 W s (.int .i64 x) (.int .i64 y) (.int .i64 z))) := ⟨⟨W, HP1.out⟩⟩
      repeat (go_big_quiet_step (fail))
      refine wpQuiet_nil ?_
      clear hne k0 k1 k2
      have bb := redrawn15 W d
      have HO2 := Hid.mk7 (HO1.out.later bb)
      have HB2 := Hid.mk7 (HB1.out.trans (bb.mono HB1.out.size))
      have HP2 := Hid.mk7 (HP1.out.later bb)
      clear bb HO1 HB1 HP1
      generalize redrawn W d = x0 at *
      have HCL := Hid.mk7 (edit1_any x y (HK.out.later HB2.out) (HE.out.later HB2.out) hsm tb (HT.out.later HB2.out))
      refine anyC_pick1 4 (by kernel_rfl) (by kernel_rfl) ?_
      simp only [pickAll, pickAt, List.nil_append, List.cons_append, List.append_nil]
      go_wp2_with fail
      refine HCL.out.mono ?_
      rintro e x1 ⟨rfl, b1⟩
      have HO3 := Hid.mk7 (HO2.out.later b1)
      have HB3 := Hid.mk7 (HB2.out.trans (b1.mono HB2.out.size))
      have HP3 := Hid.mk7 (HP2.out.later b1)
      clear b1 HO2 HB2 HP2 HCL
      generalize mvV base es x true = A at *
      generalize mvV base es y false = B at *
      go_wp2
      refine anyNext_mk ⟨⟨_, HP3.out⟩, rfl⟩ ?_
      refine anyC_pick1 7 (by kernel_rfl) (by kernel_rfl) ?_
      simp only [pickAll, pickAt, List.nil_append, List.cons_append, List.append_nil]
      go_wp2
      refine anyNext_mk ⟨⟨_, HP3.out⟩, rfl⟩ ?_
      refine anyC_pick1 8 (by kernel_rfl) (by kernel_rfl) ?_
      simp only [pickAll, pickAt, List.nil_append, List.cons_append, List.append_nil]
      go_wp2
      have HO4 := Hid.mk7 (HO3.out.alloc (.cells #[.int .i64 A, .int .i64 (max A B), .int .i64 z] 57))
      have HB4 := Hid.mk7 (below15 HB3.out (.cells #[.int .i64 A, .int .i64 (max A B), .int .i64 z] 57))
      have HP4 := Hid.mk7 (HP3.out.alloc (.cells #[.int .i64 A, .int .i64 (max A B), .int .i64 z] 57))
      have hsz3 := HB3.out.size
      refine anyNext_mk ⟨⟨_, HP4.out⟩, rfl⟩ ?_
      refine anyC_pick1 9 (by kernel_rfl) (by kernel_rfl) ?_
      simp only [pickAll, pickAt, List.nil_append, List.cons_append, List.append_nil]
      go_wp2_with (at_builtin; refine wpList_append_own _ rfl _ _ 53 rfl w.heap.size 57 i0 (.agg #[.int .i64 0, .int .i64 0, .int .i64 0]) 3 24 Tryd.underlying53 HI.out hz0 hz1 hz2 rfl (by decide) _ _ _ rfl HO4.out ⟨_, 0, none⟩ 1 1 [.int .i64 A, .int .i64 (max A B), .int .i64 z] rfl rfl (three15 rfl _ _ _ _) (fun u hu => by simp at hu; rcases hu with rfl | rfl | rfl <;> rfl) (by unfold maxLen; omega) (by omega) (by simp; omega) ?_)
      intro v' w5 hown' hgrow _
      have HO5 : Hid (OwnP 57 w5 w.heap.size v' (movS base es (L.take (k + 1)))) := by
        show OwnP _ _ _ _ _
        rw [HTK.out]
        unfold OwnP
        rw [List.length_append, t3_append, t3_one]
        exact hown'
      have HB5 : Hid (Below w.heap.size w w5) := HB4.out.grown hgrow (by simp; omega) (fun j hj => by exact (World.ownsRow.lt (HO4.out) j hj).1)
      have HP5 : Hid (Rt 57 w5 s (.int .i64 x) (.int .i64 y) (.int .i64 z)) := (hgrow.block s HP4.out.lt (fun e => absurd (HLT.out s e.symm) (Nat.lt_irrefl _))).trans HP4.out
      clear HO3 HO4 HB3 HB4 HP3 HP4 hown' hgrow
      go_wp2
      refine anyNext_mk ⟨⟨_, HP5.out⟩, rfl⟩ ?_
      refine anyC_pick1 10 (by kernel_rfl) (by kernel_rfl) ?_
      simp only [pickAll, pickAt, List.nil_append, List.cons_append, List.append_nil]
      go_wp2
      refine anyNext_last (anyC_done (by kernel_rfl) ?_)
      go_wp2
      go_roundw
      case rel => exact ⟨k + 1, by omega, by go_num, HO5, HB5.out⟩
      case measure => simp [intOf]; omega
    · obtain rfl : k = L.length := by omega
      have HE2 : Hid (L.take L.length = L) := List.take_length
      have HLS := Hid.mk7 (rleast_any HO.out.row (by rw [movS_len]; exact hfl))
      have hb3 := hb
      clear O1 B1
      go_wp2_with fail
      refine HLS.out.mono ?_
      rintro e w5 ⟨v5, rfl, o5, b5⟩
      have HO5 := Hid.mk7 (o5.base hb3.size)
      have HB5 := Hid.mk7 (hb3.trans (b5.mono hb3.size))
      clear o5 b5
      go_wp2
      go_ret
      exact ⟨_, rfl, by have := HO5.out; rw [HE2.out] at this; exact this, HB5.out⟩
end Go.Proofs.YtmgjfmgkmlfjeaaDoor
