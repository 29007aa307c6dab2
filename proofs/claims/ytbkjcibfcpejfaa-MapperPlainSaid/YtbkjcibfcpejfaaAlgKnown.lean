/- 'known' of layer 8. -/
import Derived.Test.YtbkjcibfcpejfaaAlgHelp
namespace Go.Proofs.Ytbkjcibfcpejfaa
open Go.RowKit Go.Sort
set_option linter.unusedSimpArgs false
set_option linter.unusedVariables false

theorem num_lit (w : World) (L : List Int) (cells : Array Value) (hc : cells.toList = L.map (Value.int .i64)) (n : Nat) (hn : n = L.length) :
    NumAt .i64 (w.alloc (.cells cells 3)) (.slice (some ⟨w.heap.size, 0, none⟩) n n) L := by
  subst hn
  refine ⟨_, _, rfl, Nat.le_refl _, fun i z hz => ⟨w.heap.size, 0, rfl, ?_⟩⟩
  rw [World.cell?_alloc_new, Nat.zero_add, ← Array.getElem?_toList, hc]
  simp [hz]
theorem ok8_of {L : List Int} (h : decide (L.length ≤ 20000 ∧ ∀ c ∈ L, 0 ≤ c ∧ c ≤ 100) = true) : Ok8 L := by unfold Ok8; exact of_decide_eq_true h
end Go.Proofs.Ytbkjcibfcpejfaa
