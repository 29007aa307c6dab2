/- algebra's add, taken, once, orNone. -/
import Derived.Test.YtbkjcibfcpejfaaSubWithO
namespace Go.Proofs.Ytbkjcibfcpejfaa
open Go.RowKit Go.Sort
set_option linter.unusedSimpArgs false
set_option linter.unusedVariables false

/-- What is left of a row of one's own: these runs; the block is g. -/
def Tk (w : World) (B g : Nat) (v : Value) (rs : List Sg) : Prop :=
  ∃ R k cap a, Own w B (.slice (some ⟨g, 0, none⟩) R.length cap) R ∧ R.length ≤ cap ∧ k ≤ R.length ∧ R.drop k = rs ∧ v = .slice a rs.length (cap - k) ∧ (rs ≠ [] → a = some ⟨g, k * 2, none⟩)
theorem Tk.shape {w : World} {B g : Nat} {v : Value} {rs : List Sg} (h : Tk w B g v rs) : ∃ a cap, v = .slice a rs.length cap := by
  obtain ⟨R, k, cap, a, _, _, _, _, e, _⟩ := h
  exact ⟨_, _, e⟩
theorem Tk.kept {w w' : World} {B g : Nat} {v : Value} {rs : List Sg} (h : Tk w B g v rs) {row : Option Nat} (hg : w.grownBy w' row) (hne : some g ≠ row) : Tk w' B g v rs := by
  obtain ⟨R, k, cap, a, h1, h2⟩ := h
  exact ⟨R, k, cap, a, World.ownsRow.kept h1 hg (Or.inr hne), h2⟩
theorem Tk.later {w w' : World} {B g : Nat} {v : Value} {rs : List Sg} (h : Tk w B g v rs) (hb : Below w.heap.size w w') : Tk w' B g v rs := by
  obtain ⟨R, k, cap, a, h1, h2⟩ := h
  exact ⟨R, k, cap, a, h1.later hb, h2⟩
theorem Tk.lt {w : World} {B g : Nat} {v : Value} {rs : List Sg} (h : Tk w B g v rs) : B ≤ g ∧ g < w.heap.size := by
  obtain ⟨R, k, cap, a, h1, h2⟩ := h
  exact h1.lt g rfl
theorem Tk.cells {w : World} {B g : Nat} {a : Option Addr} {n cap : Nat} {r : Sg} {rs : List Sg} (h : Tk w B g (.slice a n cap) (r :: rs)) : ∃ off, a = some ⟨g, off, none⟩ ∧ n = rs.length + 1 ∧ w.cell? ⟨g, off, none⟩ = some (.int .i64 r.1) ∧ w.cell? ⟨g, off + 1, none⟩ = some (.int .i64 r.2) := by
  obtain ⟨R, k, cap, a, h1, h2, h3, h4, h5, h6⟩ := h
  cases h5
  have hk : R[k]? = some r := by
    have := congrArg (fun l => l[0]?) h4
    simpa using this
  have hkl : k < R.length := (List.getElem?_eq_some_iff.1 hk).1
  refine ⟨k * 2, h6 (by simp), by simp, ?_, ?_⟩
  · rw [World.ownsRow.cellAt h1 _ (by omega)]; exact (cs_get hk).1
  · rw [World.ownsRow.cellAt h1 _ (by omega)]; exact (cs_get hk).2
end Go.Proofs.Ytbkjcibfcpejfaa
