/- Which elements are a delta: plain mathematics. -/
import Derived.Test.YtalolaajcmndeaaDoorDelMath
import Derived.Test.YtalolaajcmndeaaDoorRuns
namespace Go.Proofs.YtalolaajcmndeaaDoor
set_option linter.unusedSimpArgs false
set_option linter.unusedVariables false

/-- One element behind last (k: 0 the start, 1 behind a text, 2 behind what is kept), size bytes being made. -/
def isE (base last : Int) (k : Nat) (size : Int) (e : El) : Bool :=
  if e.2.2 = [] then decide (last ≤ e.1 ∧ (k = 2 → last < e.1) ∧ e.1 < e.2.1 ∧ e.2.1 ≤ base ∧ e.2.1 - e.1 ≤ 20000 - size)
  else decide (e.1 = 0 ∧ e.2.1 = 0 ∧ k ≠ 1 ∧ (e.2.2.length : Int) ≤ 20000 - size) && vld e.2.2
def isR (base : Int) : Int → Nat → Int → List El → Bool
  | _, _, _, [] => true
  | last, k, size, e :: es => isE base last k size e && (if e.2.2 = [] then isR base e.2.1 2 (size + (e.2.1 - e.1)) es else isR base last 1 (size + e.2.2.length) es)
/-- Is: P11.1. -/
def isB (base : Int) (es : List El) : Bool := decide (0 ≤ base ∧ base ≤ 20000 ∧ es.length ≤ 60) && isR base 0 0 0 es
theorem isR_spec {base : Int} : ∀ (es : List El) (last : Int) (k : Nat) (size : Int), size ≤ 20000 →
    (isR base last k size es = true ↔ (Nm base last k es ∧ (∀ e ∈ es, vld e.2.2 = true) ∧ size + szE es ≤ 20000))
  | [], last, k, size, h => by simp [isR, Nm, szE]; exact h
  | (f, t, T) :: es, last, k, size, h => by
    by_cases hT : T = []
    · subst hT
      have hv : vld [] = true := by decide
      simp only [isR, isE, Nm, if_true, Bool.and_eq_true, decide_eq_true_eq, szE, List.map_cons, List.sum_cons, List.length_nil]
      constructor
      · rintro ⟨⟨h1, h2, h3, h4, h5⟩, h6⟩
        have := (isR_spec es t 2 (size + (t - f)) (by omega)).1 h6
        simp only [szE] at this
        refine ⟨⟨h1, h2, h3, h4, this.1⟩, fun e he => ?_, by omega⟩
        rcases List.mem_cons.1 he with rfl | he
        · exact hv
        · exact this.2.1 e he
      · rintro ⟨⟨h1, h2, h3, h4, h5⟩, h6, h7⟩
        have hz : 0 ≤ szE es := by rw [← cel_size es t 2 h5]; omega
        simp only [szE] at hz
        refine ⟨⟨h1, h2, h3, h4, by omega⟩, (isR_spec es t 2 (size + (t - f)) (by omega)).2 ⟨h5, fun e he => h6 e (by simp [he]), by simp only [szE]; omega⟩⟩
    · simp only [isR, isE, Nm, if_neg hT, Bool.and_eq_true, decide_eq_true_eq, szE, List.map_cons, List.sum_cons]
      constructor
      · rintro ⟨⟨⟨h1, h2, h3, h4⟩, h5⟩, h6⟩
        have := (isR_spec es last 1 (size + T.length) (by omega)).1 h6
        simp only [szE] at this
        refine ⟨⟨h1, h2, h3, this.1⟩, fun e he => ?_, by omega⟩
        rcases List.mem_cons.1 he with rfl | he
        · exact h5
        · exact this.2.1 e he
      · rintro ⟨⟨h1, h2, h3, h4⟩, h6, h7⟩
        have hz : 0 ≤ szE es := by rw [← cel_size es last 1 h4]; omega
        simp only [szE] at hz
        refine ⟨⟨⟨h1, h2, h3, by omega⟩, h6 (f, t, T) (by simp)⟩, (isR_spec es last 1 (size + T.length) (by omega)).2 ⟨h4, fun e he => h6 e (by simp [he]), by simp only [szE]; omega⟩⟩
theorem isB_spec {base : Int} {es : List El} : isB base es = true ↔ ((0 ≤ base ∧ base ≤ 20000 ∧ es.length ≤ 60) ∧ Nm base 0 0 es ∧ (∀ e ∈ es, vld e.2.2 = true) ∧ szE es ≤ 20000) := by
  unfold isB
  rw [Bool.and_eq_true, decide_eq_true_eq, isR_spec es 0 0 0 (by omega)]
  simp
end Go.Proofs.YtalolaajcmndeaaDoor
