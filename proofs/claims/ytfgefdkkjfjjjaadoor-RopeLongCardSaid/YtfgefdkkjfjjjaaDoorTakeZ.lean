/- A code point cut off: plain. -/
import Derived.Test.YtfgefdkkjfjjjaaDoorTxt
namespace Go.Proofs.YtfgefdkkjfjjjaaDoor
open Go.RowKit Go.Sort
set_option linter.unusedSimpArgs false
set_option linter.unusedVariables false

theorem sz_says {l : List UInt8} (h : 0 < sz1 l) : (sz1 l = 1 ∧ 1 ≤ l.length ∧ bl l 0 ≤ 127) ∨ (sz1 l = 2 ∧ 2 ≤ l.length ∧ 194 ≤ bl l 0 ∧ bl l 0 ≤ 223 ∧ 128 ≤ bl l 1) ∨
    (sz1 l = 3 ∧ 3 ≤ l.length ∧ 224 ≤ bl l 0 ∧ bl l 0 ≤ 239 ∧ 128 ≤ bl l 2) ∨ (sz1 l = 4 ∧ 4 ≤ l.length ∧ 240 ≤ bl l 0 ∧ bl l 0 ≤ 244 ∧ 128 ≤ bl l 3) := by
  have hne : l ≠ [] := by intro e; subst e; simp [sz1] at h
  have hz : sz1 l = szI l.length (bl l 0) (bl l 1) (bl l 2) (bl l 3) := by unfold sz1; rw [if_neg hne]
  rw [hz] at h ⊢
  rcases szI_cases (bl_range l 0).1 h with ⟨e, hm, g⟩ | ⟨e, hm, g⟩ | ⟨e, hm, g2, g⟩ | ⟨e, hm, g2, g3, g⟩
  · exact Or.inl ⟨e, by omega, g⟩
  · exact Or.inr (Or.inl ⟨e, by omega, by omega, by omega, by omega⟩)
  · exact Or.inr (Or.inr (Or.inl ⟨e, by omega, by omega, by omega, by omega⟩))
  · exact Or.inr (Or.inr (Or.inr ⟨e, by omega, by omega, by omega, by omega⟩))

theorem take_zero (c : Int) (h : scalar c) (k : Nat) (hk : k < (enc c).length) : sz1 ((enc c).take k) = 0 := by
  by_cases hz : sz1 ((enc c).take k) = 0
  · exact hz
  · exfalso
    have hn := sz1_nonneg ((enc c).take k)
    have e := sz1_enc c h []
    rw [List.append_nil] at e
    have hl := enc_length c
    have hk0 : 0 < k := by
      rcases Nat.eq_zero_or_pos k with e0 | e0
      · subst e0; simp [sz1] at hz
      · exact e0
    have hb : bl ((enc c).take k) 0 = bl (enc c) 0 := by unfold bl; rw [List.getD_eq_getElem?_getD, List.getD_eq_getElem?_getD, List.getElem?_take, if_pos hk0]
    have s1 := sz_says (l := (enc c).take k) (by omega)
    have s2 := sz_says (l := enc c) (by omega)
    rw [List.length_take] at s1
    rw [hb] at s1
    omega

end Go.Proofs.YtfgefdkkjfjjjaaDoor
