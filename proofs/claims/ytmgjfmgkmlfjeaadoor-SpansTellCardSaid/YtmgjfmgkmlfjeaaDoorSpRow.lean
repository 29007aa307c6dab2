/- rowOf, spansOf. -/
import Derived.Test.YtmgjfmgkmlfjeaaDoorSpFn
namespace Go.Proofs.YtmgjfmgkmlfjeaaDoor
open Go.RowKit Go.Sort
set_option linter.unusedSimpArgs false
set_option linter.unusedVariables false

set_option maxHeartbeats 2000000 in
set_option maxRecDepth 100000 in
theorem rowOf_any {w : World} {v : Value} {L : List Sp} (h : SpAt w v L) (hl : L.length ≤ 1000) :
    Calls Tryd.prog 20 #[v] w fun e w' => ∃ v', e = .returned v' ∧ OwnP 57 w' w.heap.size v' L ∧ Below w.heap.size w w' := by
  obtain ⟨i0, hi, hz0, hz1, hz2⟩ := info_parts Tryd.info_pt
  obtain ⟨a, cap, rfl, hcap, _, hcells⟩ := h
  have HC := Hid.mk7 hcells
  have HI := Hid.mk7 hi
  clear hcells hi
  go_enter Tryd.func20, Tryd.ntmps20
  go_wp2_with (at_make; refine wpList_make_own _ rfl _ _ 53 rfl w.heap.size 57 i0 (.agg #[.int .i64 0, .int .i64 0, .int .i64 0]) 3 Tryd.underlying53 HI.out hz0 hz1 .i64 .i64 _ L.length rfl rfl rfl ?m1 ?m2 ?m3 ?_)
  case m1 => rw [hz2]; omega
  case m2 => unfold maxLen; omega
  case m3 => exact Nat.le_refl _
  intro w1 hown1 hgrow1
  have b1 : Below w.heap.size w w1 := (Below.refl _ _).grown hgrow1 (Nat.le_refl _) (fun j hj => by cases hj)
  have O1 : Hid (OwnP 57 w1 w.heap.size (.slice (some ⟨w.heap.size, 0, none⟩) 0 L.length) []) := hown1
  have B1 := Hid.mk7 b1
  clear hown1 hgrow1 b1
  generalize (Value.slice (some ⟨w.heap.size, 0, none⟩) 0 L.length) = v1 at *
  go_wp2
  go_loopw [3, 11] (fun av iv wr => ∃ k : Nat, k ≤ L.length ∧ iv = .int .i64 (k : Nat) ∧ Hid (OwnP 57 wr w.heap.size av (L.take k)) ∧ Below w.heap.size w wr) (fun _ iv _ => L.length - (intOf iv).toNat)
  case atStart => exact ⟨0, Nat.zero_le _, rfl, O1, B1.out⟩
  case round =>
    obtain ⟨k, hk, rfl, HO, hb⟩ := hrel
    have hfl : (L.take k).length ≤ 1000 := by simp; omega
    by_cases hlt : k < L.length
    · obtain ⟨⟨x, y, z⟩, hr⟩ : ∃ r, L[k]? = some r := ⟨L[k], List.getElem?_eq_getElem hlt⟩
      obtain ⟨g, off, rfl, q0, q1, q2⟩ := HC.out k _ hr
      have c0 := cell_later7 hb (Nat.le_refl _) q0
      have c1 := cell_later7 hb (Nat.le_refl _) q1
      have c2 := cell_later7 hb (Nat.le_refl _) q2
      simp only at c0 c1 c2
      have HT := Hid.mk7 (take15 hr)
      have hsz := hb.size
      clear q0 q1 q2 hr
      have HO1 := Hid.mk7 (HO.out.alloc (.cells #[.int .i64 x, .int .i64 y, .int .i64 z] 24))
      have HB1 := Hid.mk7 (below15 hb (.cells #[.int .i64 x, .int .i64 y, .int .i64 z] 24))
      have HP := Hid.mk7 (part_any x y z (wr.alloc (.cells #[.int .i64 x, .int .i64 y, .int .i64 z] 24)))
      clear HO
      go_wp2_with fail
      refine HP.out.mono ?_
      rintro e w3 ⟨rfl, b3⟩
      have HO2 := Hid.mk7 (HO1.out.later b3)
      have HB2 := Hid.mk7 (HB1.out.trans (b3.mono HB1.out.size))
      have hsz2 := HB2.out.size
      clear HO1 HB1 HP b3 c0 c1 c2
      go_wp2_with (at_builtin; refine wpList_append_own _ rfl _ _ 53 rfl w.heap.size 57 i0 (.agg #[.int .i64 0, .int .i64 0, .int .i64 0]) 3 24 Tryd.underlying53 HI.out hz0 hz1 hz2 rfl (by decide) _ _ _ rfl (World.ownsRow.alloc HO2.out _) ⟨_, 0, none⟩ 1 1 [.int .i64 x, .int .i64 y, .int .i64 z] rfl rfl (three15 rfl _ _ _ _) (fun u hu => by simp at hu; rcases hu with rfl | rfl | rfl <;> rfl) (by unfold maxLen; omega) (by omega) (by simp; omega) ?_)
      intro v' w4 hown' hgrow _
      have HO3 : Hid (OwnP 57 w4 w.heap.size v' (L.take (k + 1))) := by
        show OwnP _ _ _ _ _
        rw [HT.out]
        unfold OwnP
        rw [List.length_append, t3_append, t3_one, show (L.take k).length = k by simp; omega]
        exact hown'
      have HB3 : Hid (Below w.heap.size w w4) := (below15 HB2.out _).grown hgrow (by simp; omega) (fun j hj => by exact (World.ownsRow.lt (HO2.out) j hj).1)
      clear HO2 HB2 hown' hgrow
      go_wp2
      go_roundw
      case rel => exact ⟨k + 1, by omega, by go_num, HO3, HB3.out⟩
      case measure => simp [intOf]; omega
    · obtain rfl : k = L.length := by omega
      have HE : Hid (L.take L.length = L) := List.take_length
      go_wp2
      go_ret
      exact ⟨_, rfl, by have := HO.out; rw [HE.out] at this; exact this, hb⟩
set_option maxHeartbeats 2000000 in
set_option maxRecDepth 100000 in
theorem spansOf_any {w : World} {v : Value} {L : List Sp} (h : SpAt w v L) (hl : L.length ≤ 1000) :
    Calls Tryd.prog 23 #[v] w fun e w' => ∃ v', e = .returned v' ∧ OwnP 24 w' w.heap.size v' L ∧ Below w.heap.size w w' := by
  obtain ⟨i0, hi, hz0, hz1, hz2⟩ := info_parts Tryd.info_sp
  obtain ⟨a, cap, rfl, hcap, _, hcells⟩ := h
  have HC := Hid.mk7 hcells
  have HI := Hid.mk7 hi
  clear hcells hi
  go_enter Tryd.func23, Tryd.ntmps23
  go_wp2_with (at_make; refine wpList_make_own _ rfl _ _ 22 rfl w.heap.size 24 i0 (.agg #[.int .i64 0, .int .i64 0, .int .i64 0]) 3 Tryd.underlying22 HI.out hz0 hz1 .i64 .i64 _ L.length rfl rfl rfl ?m1 ?m2 ?m3 ?_)
  case m1 => rw [hz2]; omega
  case m2 => unfold maxLen; omega
  case m3 => exact Nat.le_refl _
  intro w1 hown1 hgrow1
  have b1 : Below w.heap.size w w1 := (Below.refl _ _).grown hgrow1 (Nat.le_refl _) (fun j hj => by cases hj)
  have O1 : Hid (OwnP 24 w1 w.heap.size (.slice (some ⟨w.heap.size, 0, none⟩) 0 L.length) []) := hown1
  have B1 := Hid.mk7 b1
  clear hown1 hgrow1 b1
  generalize (Value.slice (some ⟨w.heap.size, 0, none⟩) 0 L.length) = v1 at *
  go_wp2
  go_loopw [3, 11] (fun av iv wr => ∃ k : Nat, k ≤ L.length ∧ iv = .int .i64 (k : Nat) ∧ Hid (OwnP 24 wr w.heap.size av (L.take k)) ∧ Below w.heap.size w wr) (fun _ iv _ => L.length - (intOf iv).toNat)
  case atStart => exact ⟨0, Nat.zero_le _, rfl, O1, B1.out⟩
  case round =>
    obtain ⟨k, hk, rfl, HO, hb⟩ := hrel
    have hfl : (L.take k).length ≤ 1000 := by simp; omega
    by_cases hlt : k < L.length
    · obtain ⟨⟨x, y, z⟩, hr⟩ : ∃ r, L[k]? = some r := ⟨L[k], List.getElem?_eq_getElem hlt⟩
      obtain ⟨g, off, rfl, q0, q1, q2⟩ := HC.out k _ hr
      have c0 := cell_later7 hb (Nat.le_refl _) q0
      have c1 := cell_later7 hb (Nat.le_refl _) q1
      have c2 := cell_later7 hb (Nat.le_refl _) q2
      simp only at c0 c1 c2
      have HT := Hid.mk7 (take15 hr)
      have hsz := hb.size
      clear q0 q1 q2 hr
      have HO1 := Hid.mk7 (HO.out.alloc (.cells #[.int .i64 x, .int .i64 y, .int .i64 z] 57))
      have HB1 := Hid.mk7 (below15 hb (.cells #[.int .i64 x, .int .i64 y, .int .i64 z] 57))
      clear HO
      have hsz2 := HB1.out.size
      go_wp2_with (at_builtin; refine wpList_append_own _ rfl _ _ 22 rfl w.heap.size 24 i0 (.agg #[.int .i64 0, .int .i64 0, .int .i64 0]) 3 24 Tryd.underlying22 HI.out hz0 hz1 hz2 rfl (by decide) _ _ _ rfl (World.ownsRow.alloc HO1.out _) ⟨_, 0, none⟩ 1 1 [.int .i64 x, .int .i64 y, .int .i64 z] rfl rfl (three15 (by simp) _ _ _ _) (fun u hu => by simp at hu; rcases hu with rfl | rfl | rfl <;> rfl) (by unfold maxLen; omega) (by omega) (by simp; omega) ?_)
      intro v' w4 hown' hgrow _
      have HO3 : Hid (OwnP 24 w4 w.heap.size v' (L.take (k + 1))) := by
        show OwnP _ _ _ _ _
        rw [HT.out]
        unfold OwnP
        rw [List.length_append, t3_append, t3_one, show (L.take k).length = k by simp; omega]
        exact hown'
      have HB3 : Hid (Below w.heap.size w w4) := (below15 HB1.out _).grown hgrow (by simp; omega) (fun j hj => by exact (World.ownsRow.lt (HO1.out) j hj).1)
      clear HO1 HB1 hown' hgrow
      go_wp2
      go_roundw
      case rel => exact ⟨k + 1, by omega, by go_num, HO3, HB3.out⟩
      case measure => simp [intOf]; omega
    · obtain rfl : k = L.length := by omega
      have HE : Hid (L.take L.length = L) := List.take_length
      go_wp2
      go_ret
      exact ⟨_, rfl, by have := HO.out; rw [HE.out] at this; exact this, hb⟩
end Go.Proofs.YtmgjfmgkmlfjeaaDoor
