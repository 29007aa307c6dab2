/- AlgebraSums: plain mathematics. -/
import Derived.Test.YtkiiknaoljppdaaAlgBackM
namespace Go.Proofs.Ytkiiknaoljppdaa
open Go.RowKit Go.Sort
set_option linter.unusedSimpArgs false
set_option linter.unusedVariables false

def In49 (L : List Int) : Prop := ∀ c ∈ L, 0 ≤ c ∧ c ≤ 49
theorem In49.tail {a : Int} {L : List Int} (h : In49 (a :: L)) : (0 ≤ a ∧ a ≤ 49) ∧ In49 L := ⟨h a (by simp), fun c hc => h c (List.mem_cons_of_mem _ hc)⟩
theorem ok8_49 {L : List Int} (h : In49 L) (hl : L.length ≤ 20000) : Ok8 L := ⟨hl, fun c hc => by have := h c hc; omega⟩
theorem sums_all : ∀ {L M : List Int}, In49 L → In49 M → L.length = M.length →
    tog uF L M = tog uF M L ∧ tog mF (tog uF L M) M = L ∧ tog mF L (tog uF L M) = List.replicate L.length 0 ∧ szc L ≤ szc (tog uF L M) ∧ szc M ≤ szc (tog uF L M) ∧ szc (tog uF L M) ≤ szc L + szc M
  | [], [], _, _, _ => ⟨rfl, rfl, rfl, Nat.le_refl _, Nat.le_refl _, Nat.le_refl _⟩
  | [], _ :: _, _, _, h => by simp at h
  | _ :: _, [], _, _, h => by simp at h
  | a :: L, b :: M, hL, hM, h => by
    obtain ⟨ha, hL⟩ := hL.tail
    obtain ⟨hb, hM⟩ := hM.tail
    obtain ⟨i1, i2, i3, i4, i5, i6⟩ := sums_all hL hM (by simpa using h)
    have e1 : uF a b = a + b := by unfold uF; omega
    have e2 : uF b a = a + b := by unfold uF; omega
    have e3 : mF (a + b) b = a := by unfold mF; omega
    have e4 : mF a (a + b) = 0 := by unfold mF; omega
    rw [zip_cons (by rw [e1]; omega), zip_cons (by rw [e2]; omega), e1, e2, zip_cons (by rw [e3]; omega), zip_cons (by rw [e4]; omega), e3, e4, i1.symm, i2, i3, szc_cons, szc_cons, szc_cons, List.length_cons, List.replicate_succ]
    refine ⟨rfl, rfl, rfl, ?_, ?_, ?_⟩
    · split <;> split <;> omega
    · split <;> split <;> omega
    · split <;> split <;> split <;> omega
end Go.Proofs.Ytkiiknaoljppdaa
