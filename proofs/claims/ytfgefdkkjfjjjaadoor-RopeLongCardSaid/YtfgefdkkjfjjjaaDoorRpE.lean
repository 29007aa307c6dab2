/- What a rope of a text answers. -/
import Derived.Test.YtfgefdkkjfjjjaaDoorRpC
import Derived.Test.YtfgefdkkjfjjjaaDoorRpD
namespace Go.Proofs.YtfgefdkkjfjjjaaDoor
open Go.RowKit Go.Sort
set_option linter.unusedSimpArgs false
set_option linter.unusedVariables false

/-- What a rope of a text answers. -/
theorem rpa_len (E : Env) {r : Value} {T : List UInt8} {w : World} (h : RpA E w r T) (hz : T.length ≤ 100000) : Calls Tryd.prog 20 #[r] w fun e w' => e = .returned (.int .i64 (T.length : Nat)) ∧ Below w.heap.size w w' := by
  obtain ⟨g, ls, _, hR, rfl⟩ := h
  rw [cat_length] at hz ⊢
  exact len_any E r ls w hR hz
theorem rpa_string (E : Env) {r : Value} {T : List UInt8} {w : World} (h : RpA E w r T) (hz : T.length ≤ 100000) : Calls Tryd.prog 22 #[r] w fun e w' => e = .returned (.string ⟨T.toArray⟩) ∧ Below w.heap.size w w' := by
  obtain ⟨g, ls, _, hR, rfl⟩ := h
  rw [cat_length] at hz
  exact string_any E r ls w hR hz
theorem rpa_edge (E : Env) (tb : Nat × Nat) (htab : ∀ W, E.Tb W → Tab W tb) {r : Value} {T : List UInt8} {w : World} (a : Nat) (h : RpA E w r T) (hz : T.length ≤ 100000) (ha : a ≤ T.length) (hT : E.Tb w) : Calls Tryd.prog 18 #[r, .int .i64 (a : Nat)] w fun e w' => e = .returned (.bool (vld (T.take a))) ∧ Below w.heap.size w w' := by
  obtain ⟨g, ls, _, hR, rfl⟩ := h
  rw [cat_length] at hz ha
  exact isedge_in E tb htab r ls a w hR hz ha hT
theorem rpa_noedge (E : Env) {r : Value} {T : List UInt8} {w : World} (a : Int) (h : RpA E w r T) (hz : T.length ≤ 100000) (ha : a < 0 ∨ (T.length : Int) < a) : Calls Tryd.prog 18 #[r, .int .i64 a] w fun e w' => e = .returned (.bool false) ∧ Below w.heap.size w w' := by
  obtain ⟨g, ls, _, hR, rfl⟩ := h
  rw [cat_length] at hz ha
  exact isedge_out E r ls a w hR hz ha
theorem rpa_range (E : Env) {r : Value} {T : List UInt8} {w : World} (f t : Int) (h : RpA E w r T) (hz : T.length ≤ 100000) (ho : f < 0 ∨ t < f ∨ (T.length : Int) < t) : Calls Tryd.prog 31 #[r, .int .i64 f, .int .i64 t] w fun e w' => e = .returned (.int .i64 10) ∧ Below w.heap.size w w' := by
  obtain ⟨g, ls, _, hR, rfl⟩ := h
  rw [cat_length] at hz ho
  exact check_range E r ls f t w hR hz ho
theorem rpa_check (E : Env) (tb : Nat × Nat) (htab : ∀ W, E.Tb W → Tab W tb) {r : Value} {T : List UInt8} {w : World} (f t : Nat) (h : RpA E w r T) (hz : T.length ≤ 100000) (hft : f ≤ t) (ht : t ≤ T.length) (hT : E.Tb w) : Calls Tryd.prog 31 #[r, .int .i64 (f : Nat), .int .i64 (t : Nat)] w fun e w' => e = .returned (.int .i64 (if vld (T.take f) && vld (T.take t) then 0 else 11)) ∧ Below w.heap.size w w' := by
  obtain ⟨g, ls, _, hR, rfl⟩ := h
  rw [cat_length] at hz ht
  exact check_in E tb htab r ls f t w hR hz hft ht hT

end Go.Proofs.YtfgefdkkjfjjjaaDoor
