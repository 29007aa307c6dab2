/- Layer 8's row. -/
import Derived.Test.YtbkjcibfcpejfaaAlgRefD
namespace Go.Proofs.Ytbkjcibfcpejfaa
open Go.RowKit Go.Sort
set_option linter.unusedSimpArgs false
set_option linter.unusedVariables false

def f18 (z : Int) : Int := (z % 103) * (z % 2)
def rw8 (z : Int) : Int := min 100 (f18 z)
theorem below_rd9 (w : World) (d : Nat) : Below w.heap.size w (redrawn w d) := ⟨rfl, rfl, rfl, Nat.le_refl _, fun _ _ => rfl⟩
/-- The first k held to 100. -/
def mx (P : List Int) (k : Nat) : List Int := (P.take k).map (min 100 ·) ++ P.drop k
theorem mx_len (P : List Int) (k : Nat) : (mx P k).length = P.length := by simp [mx]; omega
theorem mx_get {P : List Int} {k : Nat} {x : Int} (h : P[k]? = some x) : (mx P k)[k]? = some x := by
  have hk := (List.getElem?_eq_some_iff.1 h).1
  have hl : ((P.take k).map (min 100 ·)).length = k := by simp; omega
  unfold mx
  rw [List.getElem?_append_right (by omega), hl, Nat.sub_self, List.getElem?_drop]
  simpa using h
theorem mx_set {P : List Int} {k : Nat} {x : Int} (h : P[k]? = some x) : (mx P k).set k (min 100 x) = mx P (k + 1) := by
  have hk := (List.getElem?_eq_some_iff.1 h).1
  have hl : ((P.take k).map (min 100 ·)).length = k := by simp; omega
  have hd : P.drop k = x :: P.drop (k + 1) := by
    rw [List.drop_eq_getElem_cons hk]; congr 1; rw [List.getElem?_eq_getElem hk] at h; exact Option.some.inj h
  unfold mx
  rw [List.set_append_right _ _ (by omega), hl, Nat.sub_self, hd, take_snoc7 h, List.map_append, List.append_assoc]
  rfl
theorem ownI_shape {w : World} {B : Nat} {v : Value} {X : List Int} (h : OwnI w B v X) : ∃ a cap, v = .slice a X.length cap ∧ (X ≠ [] → ∃ g, a = some ⟨g, 0, none⟩) := by
  rcases h.2 with ⟨h1, h2⟩ | ⟨g, cap, cur, h1, _⟩
  · exact ⟨none, 0, by rw [h1, h2], fun hne => absurd (List.eq_nil_of_length_eq_zero h2) hne⟩
  · exact ⟨_, cap, h1, fun _ => ⟨g, rfl⟩⟩
end Go.Proofs.Ytbkjcibfcpejfaa
