/- Rows that are made and filled from the left. -/
import Derived.Test.YtalolaajcmndeaaDoorSubRefS
namespace Go.Proofs.YtalolaajcmndeaaDoor
open Go.RowKit Go.Sort
set_option linter.unusedSimpArgs false
set_option linter.unusedVariables false

/-- The first k of F, then nothing. -/
def FlF (F : List Int) (k : Nat) : List Int := F.take k ++ List.replicate (F.length - k) 0
theorem fl_zeroF (F : List Int) : FlF F 0 = List.replicate F.length 0 := by simp [FlF]
theorem fl_allF (F : List Int) : FlF F F.length = F := by simp [FlF]
theorem fl_lenF (F : List Int) (k : Nat) (h : k ≤ F.length) : (FlF F k).length = F.length := by simp [FlF]; omega
theorem fl_setF {F : List Int} {k : Nat} {c : Int} (h : F[k]? = some c) : (FlF F k).set k c = FlF F (k + 1) := by
  have hk := (List.getElem?_eq_some_iff.1 h).1
  have hl : (F.take k).length = k := by simp; omega
  unfold FlF
  rw [take_snoc7 h, List.set_append_right _ _ (by omega), hl, Nat.sub_self, show F.length - k = (F.length - (k + 1)) + 1 from by omega, List.replicate_succ]
  simp
theorem fl_sameF {F : List Int} {k : Nat} (h : F[k]? = some 0) : FlF F k = FlF F (k + 1) := by
  have hk := (List.getElem?_eq_some_iff.1 h).1
  unfold FlF
  rw [take_snoc7 h, show F.length - k = (F.length - (k + 1)) + 1 from by omega, List.replicate_succ]
  simp
theorem fl_getF {F : List Int} {k : Nat} (hk : k < F.length) : (FlF F k)[k]? = some 0 := by
  have hl : (F.take k).length = k := by simp; omega
  unfold FlF
  rw [List.getElem?_append_right (by omega), hl, Nat.sub_self, List.getElem?_replicate, if_pos (by omega)]
theorem made_zeroF (n : Nat) : (madeCells #[.int .i64 0] n).toList = (List.replicate n (0 : Int)).map (Value.int .i64) := by
  refine List.ext_getElem (by simp [madeCells]) fun i h1 h2 => ?_
  simp [madeCells, Nat.mod_one]
theorem own_madeF {w : World} {B g n cap : Nat} (h : w.ownsRow B 3 1 (.slice (some ⟨g, 0, none⟩) n cap) n (madeCells #[.int .i64 0] n).toList) : OwnI w B (.slice (some ⟨g, 0, none⟩) n cap) (List.replicate n 0) := by
  rw [made_zeroF] at h
  unfold OwnI
  rw [List.length_replicate]
  exact h
theorem ownI_storedF {w : World} {B g n cap : Nat} {X : List Int} (h : OwnI w B (.slice (some ⟨g, 0, none⟩) n cap) X) (hn : X.length = n) (j : Nat) (c : Int) :
    OwnI (w.setCell ⟨g, j, none⟩ (.int .i64 c)) B (.slice (some ⟨g, 0, none⟩) n cap) (X.set j c) ∧ w.grownBy (w.setCell ⟨g, j, none⟩ (.int .i64 c)) (some g) := by
  unfold OwnI at *
  rw [hn] at h
  obtain ⟨h1, h2⟩ := World.ownsRow.stored h j (.int .i64 c)
  refine ⟨?_, h2⟩
  rw [List.length_set, hn, List.map_set]
  exact h1
theorem ownI_atF {w : World} {B g n cap : Nat} {X : List Int} (h : OwnI w B (.slice (some ⟨g, 0, none⟩) n cap) X) (hn : X.length = n) {j : Nat} {c : Int} (hj : X[j]? = some c) :
    w.cell? ⟨g, j, none⟩ = some (.int .i64 c) ∧ w.frozen? ⟨g, j, none⟩ = false := by
  have hl := (List.getElem?_eq_some_iff.1 hj).1
  unfold OwnI at h
  rw [hn] at h
  refine ⟨?_, World.ownsRow.frozenAt h j⟩
  rw [World.ownsRow.cellAt h _ (by omega)]
  simp [hj]
end Go.Proofs.YtalolaajcmndeaaDoor
