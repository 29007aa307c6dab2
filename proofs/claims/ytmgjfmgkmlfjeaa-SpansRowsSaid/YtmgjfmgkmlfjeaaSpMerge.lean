/- Merge, where all of it goes. -/
import Derived.Test.YtmgjfmgkmlfjeaaSpPutG
namespace Go.Proofs.Ytmgjfmgkmlfjeaa
open Go.RowKit Go.Sort
set_option linter.unusedSimpArgs false
set_option linter.unusedVariables false

set_option maxHeartbeats 4000000 in
set_option maxRecDepth 100000 in
theorem merge_any15 {w : World} {u v : Value} {A B : List Sp} (F : Nat → List Sp) (h1 : SpAt w u A) (h2 : SpAt w v B) (hA : A.length ≤ 1000) (hi : isS 20000 B = true) (hF : F 0 = A) (hs : ∀ k x, B[k]? = some x → putE (F k) x = 0 ∧ putL (F k) x = F (k + 1)) :
    Calls Try.prog 11 #[u, v] w fun e w' => ∃ v', e = .returned (.tuple #[v', .int .i64 0]) ∧ SpAt w' v' (F B.length) ∧ Below w.heap.size w w' := by
  have hl60 : B.length ≤ 60 := (isS_spec.1 hi).1
  have HS := Hid.mk7 hs
  have HF := Hid.mk7 hF
  have HIS := Hid.mk7 (is_any15 20000 h2)
  rw [hi] at HIS
  have HU := Hid.mk7 h1
  have HV := Hid.mk7 h2
  obtain ⟨a, cap, rfl, hcap, _, hcells⟩ := h2
  have HC := Hid.mk7 hcells
  clear hi hF hs h1 hcells
  go_enter Try.func11, Try.ntmps11
  go_wp2_with fail
  refine HIS.out.mono ?_
  rintro e w1 ⟨rfl, b1⟩
  have HR := Hid.mk7 (rowOf_any (HU.out.later b1) hA)
  have HB1 := Hid.mk7 b1
  clear b1 HIS HU
  go_wp2_with fail
  refine HR.out.mono ?_
  rintro e w2 ⟨rv, rfl, o2, b2⟩
  have HSO := Hid.mk7 (spansOf_any o2.row hA)
  have HB2 := Hid.mk7 (HB1.out.trans (b2.mono HB1.out.size))
  clear b2 o2 HR HB1
  go_wp2_with fail
  refine HSO.out.mono ?_
  rintro e w3 ⟨sv, rfl, o3, b3⟩
  have HM : Hid (SpAt w3 sv (F 0)) := by show SpAt _ _ _; rw [HF.out]; exact o3.row
  have HB3 := Hid.mk7 (HB2.out.trans (b3.mono HB2.out.size))
  clear b3 o3 HSO HB2 HF
  go_wp2
  go_loopw [6, 18] (fun mv iv wr => ∃ k : Nat, k ≤ B.length ∧ iv = .int .i64 (k : Nat) ∧ Hid (SpAt wr mv (F k)) ∧ Below w.heap.size w wr) (fun _ iv _ => B.length - (intOf iv).toNat)
  case atStart => exact ⟨0, Nat.zero_le _, rfl, HM, HB3.out⟩
  case round =>
    obtain ⟨k, hk, rfl, HM, hb⟩ := hrel
    by_cases hlt : k < B.length
    · obtain ⟨⟨x, y, z⟩, hr⟩ : ∃ r, B[k]? = some r := ⟨B[k], List.getElem?_eq_getElem hlt⟩
      obtain ⟨g, off, rfl, q0, q1, q2⟩ := HC.out k _ hr
      have c0 := cell_later7 hb (Nat.le_refl _) q0
      have c1 := cell_later7 hb (Nat.le_refl _) q1
      have c2 := cell_later7 hb (Nat.le_refl _) q2
      simp only at c0 c1 c2
      obtain ⟨e1, e2⟩ := HS.out k _ hr
      have HB4 := Hid.mk7 (below15 hb (.cells #[.int .i64 x, .int .i64 y, .int .i64 z] 26))
      have HPU := Hid.mk7 (put_any15 x y z (HM.out.alloc (.cells #[.int .i64 x, .int .i64 y, .int .i64 z] 26)))
      rw [e1, e2] at HPU
      clear e1 e2 q0 q1 q2 hr HM
      go_wp2_with fail
      refine HPU.out.mono ?_
      rintro e w5 ⟨v5, rfl, o5, _, b5⟩
      have HM5 := Hid.mk7 o5
      have HB5 := Hid.mk7 (HB4.out.trans (b5.mono HB4.out.size))
      clear o5 b5 HPU HB4 c0 c1 c2
      go_wp2
      go_roundw
      case rel => exact ⟨k + 1, by omega, by go_num, HM5, HB5.out⟩
      case measure => simp [intOf]; omega
    · obtain rfl : k = B.length := by omega
      go_wp2
      go_ret2
      exact ⟨_, rfl, HM.out, hb⟩
end Go.Proofs.Ytmgjfmgkmlfjeaa
