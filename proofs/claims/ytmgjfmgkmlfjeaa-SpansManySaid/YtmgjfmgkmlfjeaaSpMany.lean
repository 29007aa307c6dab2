/- SpansMany walked. -/
import Derived.Test.YtmgjfmgkmlfjeaaSpAgain
namespace Go.Proofs.Ytmgjfmgkmlfjeaa
open Go.RowKit Go.Sort
set_option linter.unusedSimpArgs false
set_option linter.unusedVariables false

/-- The styles of the spans that SpansMany puts. -/
def gMany (j : Nat) : Int := 1 + (j : Int) % 2
theorem gMany_ok : ∀ j, 1 ≤ gMany j ∧ gMany j ≤ 100 := fun j => by unfold gMany; omega
theorem manyIs {n : Nat} (hn : n ≤ 60) : isS 20000 (manyS gMany n) = true := isS_spec.2 ⟨by rw [manyS_len]; omega, (manyS_ok gMany_ok n).1.mono (by omega)⟩
theorem many_1 {k : Nat} (hk : k < 60) : putE (manyS gMany k) (3 * (k : Int), 3 * (k : Int) + 2, 1 + (k : Int) % 2) = 0 ∧ putL (manyS gMany k) (3 * (k : Int), 3 * (k : Int) + 2, 1 + (k : Int) % 2) = manyS gMany (k + 1) := by
  have h := many_more gMany_ok k
  have ht : toP (3 * (k : Int), 3 * (k : Int) + 2, gMany k) = true := toP_spec.2 (by have := gMany_ok k; omega)
  obtain ⟨e1, e2⟩ := putE_ok (l := manyS gMany k) (x := (3 * (k : Int), 3 * (k : Int) + 2, gMany k)) ⟨manyIs (by omega), ht⟩ (by rw [h, manyS_len]; omega)
  rw [h] at e2
  exact ⟨e1, e2⟩
theorem many_2 : putE (manyS gMany 60) (181, 182, 5) = 70 ∧ putL (manyS gMany 60) (181, 182, 5) = [] := by
  have h := many_beyond gMany_ok (n := 60) (F := 181) (T := 182) (s := 5) (by omega) (by omega) (by omega) (by omega)
  exact putE_many ⟨manyIs (Nat.le_refl _), by decide⟩ (by rw [h, List.length_append, manyS_len]; decide)
theorem many_3 {n : Int} (h0 : 0 ≤ n) : ∃ M : List Sp, M.length = 60 ∧ putE (manyS gMany 60) (3 * (n % 60), 3 * (n % 60) + 2, 9) = 0 ∧ putL (manyS gMany 60) (3 * (n % 60), 3 * (n % 60) + 2, 9) = M := by
  have hk : ((n % 60).toNat : Int) = n % 60 := by omega
  have h := many_other gMany_ok (n := 60) (k := (n % 60).toNat) (by omega) (s := 9) (by omega)
  rw [hk] at h
  have ht : toP (3 * (n % 60), 3 * (n % 60) + 2, 9) = true := toP_spec.2 (by omega)
  refine ⟨manyS (fun j => if j = (n % 60).toNat then 9 else gMany j) 60, manyS_len _ 60, ?_⟩
  obtain ⟨e1, e2⟩ := putE_ok (l := manyS gMany 60) (x := (3 * (n % 60), 3 * (n % 60) + 2, 9)) ⟨manyIs (Nat.le_refl _), ht⟩ (by rw [h, manyS_len]; omega)
  rw [h] at e2
  exact ⟨e1, e2⟩
theorem many_4 : putE (manyS gMany 60) (0, 1000, 9) = 0 ∧ putL (manyS gMany 60) (0, 1000, 9) = [(0, 1000, 9)] := by
  have h := many_all gMany_ok (n := 60) (T := 1000) (s := 9) (by omega) (by omega) (by omega)
  obtain ⟨e1, e2⟩ := putE_ok (l := manyS gMany 60) (x := (0, 1000, 9)) ⟨manyIs (Nat.le_refl _), by decide⟩ (by rw [h]; simp)
  rw [h] at e2
  exact ⟨e1, e2⟩
theorem many_5 : isS 1000 (manyS gMany 60) = true := isS_spec.2 ⟨by rw [manyS_len]; omega, (manyS_ok gMany_ok 60).1.mono (by omega)⟩
set_option maxHeartbeats 4000000 in
set_option maxRecDepth 100000 in
theorem many_any15 (n : Int) (w : World) (h0 : 0 ≤ n ∧ n ≤ 255) :
    Calls Try.prog 6 #[.int .u8 n] w fun e w' => e = .returned (.bool true) ∧ Below w.heap.size w w' := by
  have HK := Hid.mk7 (known15_any w)
  go_enter Try.func6, Try.ntmps6
  go_wp2_with fail
  refine HK.out.mono ?_
  rintro e w0 ⟨rfl, b0⟩
  have G0 := Hid.mk7 b0
  have V0 : Hid (SpAt w0 (.slice none 0 0) (manyS gMany 0)) := SpAt.nil w0
  clear b0 HK
  go_wp2
  go_loopw [3, 4] (fun mv iv wr => ∃ k : Nat, k ≤ 60 ∧ iv = .int .i64 (k : Nat) ∧ Hid (SpAt wr mv (manyS gMany k)) ∧ Hid (Below w.heap.size w wr)) (fun _ iv _ => 60 - (intOf iv).toNat)
  case atStart => exact ⟨0, Nat.zero_le _, rfl, V0, G0⟩
  case round =>
    obtain ⟨k, hk, rfl, HV, HB⟩ := hrel
    by_cases hlt : k < 60
    · obtain ⟨e1, e2⟩ := many_1 hlt
      have HP := Hid.mk7 (put_v HV.out e1 e2)
      clear e1 e2
      go_wp2_with fail
      refine HP.out.mono ?_
      rintro e w1 ⟨v1, rfl, h1, _, b1⟩
      have H1 := Hid.mk7 h1
      have G1 := Hid.mk7 (HB.out.trans (b1.mono HB.out.size))
      clear h1 b1 HP HV HB
      go_wp2
      go_roundw
      case rel => exact ⟨k + 1, by omega, by go_num, H1, G1⟩
      case measure => simp [intOf]; omega
    · obtain rfl : k = 60 := by omega
      obtain ⟨M, hM, e1, e2⟩ := many_3 h0.1
      have HE1 := Hid.mk7 e1
      have HE2 := Hid.mk7 e2
      clear e1 e2
      go_wp2_with fail
      refine (put_v HV.out many_2.1 many_2.2).mono ?_
      rintro e w1 ⟨v1, rfl, _, _, b1⟩
      have H1 := Hid.mk7 (HV.out.later b1)
      have G1 := Hid.mk7 (HB.out.trans (b1.mono HB.out.size))
      clear b1
      go_wp2_with fail
      refine (put_v H1.out HE1.out HE2.out).mono ?_
      rintro e w2 ⟨v2, rfl, m2, _, b2⟩
      have H2 := Hid.mk7 (H1.out.later b2)
      have G2 := Hid.mk7 (G1.out.trans (b2.mono G1.out.size))
      obtain ⟨ma, mc, rfl⟩ := m2.shape
      rw [hM]
      clear b2 m2
      go_wp2_with fail
      refine (put_v H2.out many_4.1 many_4.2).mono ?_
      rintro e w3 ⟨v3, rfl, o3, _, b3⟩
      have H3 := Hid.mk7 (H2.out.later b3)
      have G3 := Hid.mk7 (G2.out.trans (b3.mono G2.out.size))
      obtain ⟨oa, oc, rfl⟩ := o3.shape
      simp only [List.length_cons, List.length_nil, Nat.zero_add]
      clear b3 o3
      go_wp2_with fail
      refine (is_v H3.out many_5).mono ?_
      rintro e w4 ⟨rfl, b4⟩
      have G4 := Hid.mk7 (G3.out.trans (b4.mono G3.out.size))
      clear b4
      go_wp2
      go_ret
      exact ⟨rfl, G4.out⟩
end Go.Proofs.Ytmgjfmgkmlfjeaa
