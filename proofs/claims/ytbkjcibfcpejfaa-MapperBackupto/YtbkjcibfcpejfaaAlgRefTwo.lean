/- The reference's Two, Not. -/
import Derived.Test.YtbkjcibfcpejfaaAlgTwo
import Derived.Test.YtbkjcibfcpejfaaSubRefT
import Derived.Test.YtbkjcibfcpejfaaAlgLawN
namespace Go.Proofs.Ytbkjcibfcpejfaa
open Go.RowKit Go.Sort
set_option linter.unusedSimpArgs false
set_option linter.unusedVariables false

/-- The first k of F, then nothing. -/
def Fl (F : List Int) (k : Nat) : List Int := F.take k ++ List.replicate (F.length - k) 0
theorem fl_zero (F : List Int) : Fl F 0 = List.replicate F.length 0 := by simp [Fl]
theorem fl_all (F : List Int) : Fl F F.length = F := by simp [Fl]
theorem fl_len (F : List Int) (k : Nat) (h : k ≤ F.length) : (Fl F k).length = F.length := by simp [Fl]; omega
theorem fl_set {F : List Int} {k : Nat} {c : Int} (h : F[k]? = some c) : (Fl F k).set k c = Fl F (k + 1) := by
  have hk := (List.getElem?_eq_some_iff.1 h).1
  have hl : (F.take k).length = k := by simp; omega
  unfold Fl
  rw [take_snoc7 h, List.set_append_right _ _ (by omega), hl, Nat.sub_self, show F.length - k = (F.length - (k + 1)) + 1 from by omega, List.replicate_succ]
  simp
theorem fl_same {F : List Int} {k : Nat} (h : F[k]? = some 0) : Fl F k = Fl F (k + 1) := by
  have hk := (List.getElem?_eq_some_iff.1 h).1
  unfold Fl
  rw [take_snoc7 h, show F.length - k = (F.length - (k + 1)) + 1 from by omega, List.replicate_succ]
  simp
theorem fl_get {F : List Int} {k : Nat} (hk : k < F.length) : (Fl F k)[k]? = some 0 := by
  have hl : (F.take k).length = k := by simp; omega
  unfold Fl
  rw [List.getElem?_append_right (by omega), hl, Nat.sub_self, List.getElem?_replicate, if_pos (by omega)]
theorem made_zero (n : Nat) : (madeCells #[.int .i64 0] n).toList = (List.replicate n (0 : Int)).map (Value.int .i64) := by
  refine List.ext_getElem (by simp [madeCells]) fun i h1 h2 => ?_
  simp [madeCells, Nat.mod_one]
theorem own_made {w : World} {B g n cap : Nat} (h : w.ownsRow B 3 1 (.slice (some ⟨g, 0, none⟩) n cap) n (madeCells #[.int .i64 0] n).toList) : OwnI w B (.slice (some ⟨g, 0, none⟩) n cap) (List.replicate n 0) := by
  rw [made_zero] at h
  unfold OwnI
  rw [List.length_replicate]
  exact h
theorem ownI_stored {w : World} {B g n cap : Nat} {X : List Int} (h : OwnI w B (.slice (some ⟨g, 0, none⟩) n cap) X) (hn : X.length = n) (j : Nat) (c : Int) :
    OwnI (w.setCell ⟨g, j, none⟩ (.int .i64 c)) B (.slice (some ⟨g, 0, none⟩) n cap) (X.set j c) ∧ w.grownBy (w.setCell ⟨g, j, none⟩ (.int .i64 c)) (some g) := by
  unfold OwnI at *
  rw [hn] at h
  obtain ⟨h1, h2⟩ := World.ownsRow.stored h j (.int .i64 c)
  refine ⟨?_, h2⟩
  rw [List.length_set, hn, List.map_set]
  exact h1
theorem ownI_at {w : World} {B g n cap : Nat} {X : List Int} (h : OwnI w B (.slice (some ⟨g, 0, none⟩) n cap) X) (hn : X.length = n) {j : Nat} {c : Int} (hj : X[j]? = some c) :
    w.cell? ⟨g, j, none⟩ = some (.int .i64 c) ∧ w.frozen? ⟨g, j, none⟩ = false := by
  have hl := (List.getElem?_eq_some_iff.1 hj).1
  unfold OwnI at h
  rw [hn] at h
  refine ⟨?_, World.ownsRow.frozenAt h j⟩
  rw [World.ownsRow.cellAt h _ (by omega)]
  simp [hj]
end Go.Proofs.Ytbkjcibfcpejfaa
