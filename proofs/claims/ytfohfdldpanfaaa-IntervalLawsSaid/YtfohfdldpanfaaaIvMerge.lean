/- Merge. -/
import Derived.Test.YtfohfdldpanfaaaIvBy
namespace Go.Proofs.Ytfohfdldpanfaaa
open Go.Shelf Go.RowKit Go.Lib Go.Sort
set_option linter.unusedSimpArgs false
set_option linter.unusedVariables false

set_option maxHeartbeats 2000000 in
set_option maxRecDepth 100000 in
theorem merge_any {w : World} {v : Value} {L : List Sg} (h : SgAt w v L) (hl : L.length ≤ 40) :
    Calls Try.prog 14 #[v] w fun e w' => ∃ v', e = .returned v' ∧ SgAt w' v' (mrg L) ∧ RowKit.Below w.heap.size w w' := by
  have HF := Hid.mk7 (fwd_any h (by omega))
  have hfl : (fwd L).length ≤ 40 := Nat.le_trans (List.length_filter_le _ _) hl
  have HSL : Hid ((srt (fwd L)).length ≤ 40) := by show _ ≤ _; rw [(srt_perm _).length_eq]; exact hfl
  clear h
  go_enter Try.func14, Try.ntmps14
  go_wp2_with fail
  refine HF.out.mono ?_
  rintro e w1 ⟨fv, rfl, o1, b1⟩
  have O1 := Hid.mk7 o1
  have B1 := Hid.mk7 b1
  clear o1 b1 HF
  go_wp2_with fail
  refine (sortBy_any w1.heap.size (O1.out.alloc _) hfl (by simp) (by simp)).mono ?_
  rintro e w2 ⟨rfl, o2, g2⟩
  have O2 := Hid.mk7 o2
  have B2 : Hid (RowKit.Below w.heap.size w w2) := (below_newV B1.out B1.out.size _).grown g2 (by have := B1.out.size; simp; omega) (fun j hj => (World.ownsRow.lt O1.out j hj).1)
  clear o2 g2 O1 B1
  obtain ⟨a, cap, rfl, hcap, _⟩ := own_shapeV O2.out
  have hrow := O2.out.row
  obtain ⟨_, _, e1, _, _, hcells⟩ := hrow
  cases e1
  have HC := Hid.mk7 hcells
  have hs2 := B2.out.size
  clear hcells O2
  have HS : Hid (mgs (srt (fwd L)) = mrg L) := rfl
  generalize srt (fwd L) = S at *
  have hsl : S.length ≤ 40 := HSL.out
  go_wp2
  go_loopw [4, 14] (fun mv iv wr => ∃ k : Nat, k ≤ S.length ∧ iv = .int .i64 (k : Nat) ∧ Hid (OwnV wr w2.heap.size mv (mgs (S.take k)) ∧ (mgs (S.take k)).length ≤ k) ∧ RowKit.Below w2.heap.size w2 wr) (fun _ iv _ => S.length - (intOf iv).toNat)
  case atStart => exact ⟨0, Nat.zero_le _, rfl, ⟨OwnV.nil _ _, Nat.le_refl _⟩, RowKit.Below.refl _ _⟩
  case round =>
    obtain ⟨k, hk, rfl, HO, hb⟩ := hrel
    by_cases hlt : k < S.length
    · obtain ⟨⟨x, y⟩, hr⟩ : ∃ r, S[k]? = some r := ⟨S[k], List.getElem?_eq_getElem hlt⟩
      obtain ⟨g, off, rfl, q0, q1⟩ := HC.out k _ hr
      have c0 := cell_later7 hb (Nat.le_refl _) q0
      have c1 := cell_later7 hb (Nat.le_refl _) q1
      simp only at c0 c1
      have HT : Hid (mgs (S.take (k + 1)) = adM (mgs (S.take k)) (x, y)) := by show _ = _; rw [take_snoc hr, mgs_snoc]
      have hsz := hb.size
      have HB1 : Hid (RowKit.Below w2.heap.size w2 (wr.alloc (.cells #[.int .i64 x, .int .i64 y] 23))) := below_newV hb hsz _
      have HA := Hid.mk7 (iadd_any w2.heap.size _ _ x y (wr.alloc (.cells #[.int .i64 x, .int .i64 y] 23)) (by simp; omega) (by have := HO.out.2; omega) (HO.out.1.alloc _))
      clear q0 q1 hr
      go_wp2_with fail
      refine HA.out.mono ?_
      rintro e w3 ⟨mv', rfl, o3, g3⟩
      have HO3 : Hid (OwnV w3 w2.heap.size mv' (mgs (S.take (k + 1))) ∧ (mgs (S.take (k + 1))).length ≤ k + 1) := by
        refine ⟨by rw [HT.out]; exact o3, ?_⟩
        rw [HT.out]
        have := HO.out.2
        rcases List.eq_nil_or_concat (mgs (S.take k)) with hm | ⟨A, l, hm⟩
        · rw [hm, adM_nil]; simp
        · rw [List.concat_eq_append] at hm
          rw [hm] at this ⊢
          cases ht : tch l (x, y) with
          | true => rw [adM_join ht]; simp at this ⊢; omega
          | false => rw [adM_apart ht]; simp at this ⊢; omega
      have HB3 : Hid (RowKit.Below w2.heap.size w2 w3) := HB1.out.grown g3 (by simp; omega) (fun j hj => (World.ownsRow.lt HO.out.1 j hj).1)
      clear o3 g3 HO HB1 HA
      go_wp2
      go_roundw
      case rel => exact ⟨k + 1, by omega, by go_num, HO3, HB3.out⟩
      case measure => simp [intOf]; omega
    · obtain rfl : k = S.length := by omega
      have HE : Hid (SgAt wr u4 (mrg L)) := by
        have := HO.out.1.row
        rw [List.take_length, HS.out] at this
        exact this
      go_wp2
      go_ret
      exact ⟨_, rfl, HE.out, B2.out.trans (hb.mono hs2)⟩
end Go.Proofs.Ytfohfdldpanfaaa
