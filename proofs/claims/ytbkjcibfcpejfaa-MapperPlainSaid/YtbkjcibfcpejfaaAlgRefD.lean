/- The reference's Delete; layer 8's told. -/
import Derived.Test.YtbkjcibfcpejfaaAlgRefO
namespace Go.Proofs.Ytbkjcibfcpejfaa
open Go.RowKit Go.Sort Go.Lib
set_option linter.unusedSimpArgs false
set_option linter.unusedVariables false

/-- A row of one's own, of these bytes. -/
def OwnU (w : World) (B : Nat) (v : Value) (L : List UInt8) : Prop := w.ownsRow B 5 1 v L.length (byteCells L)
theorem OwnU.nil (w : World) (B : Nat) : OwnU w B (.slice none 0 0) [] := World.ownsRow_nil _ _ _ _
theorem ownU_text {w : World} {B : Nat} {v : Value} {L : List UInt8} (h : OwnU w B v L) : (convert 22 9 v).run Try.prog w = .ok (.string ⟨L.toArray⟩) w := by
  rcases h.2 with ⟨h1, h2⟩ | ⟨g, cap, cur, h1, _, h3, h4, _⟩
  · obtain rfl : L = [] := List.eq_nil_of_length_eq_zero h2
    rw [h1]
    exact run_convert_nil_bytes (P := Try.prog) w 22 9 5 0 Try.underlying22 Try.underlying5 Try.underlying9
  · subst h1
    refine run_convert_bytes_back (P := Try.prog) w 22 9 5 ⟨g, 0, none⟩ cap L Try.underlying22 Try.underlying5 Try.underlying9 (fun j hj => ?_)
    exact World.ownsRow.cells h (g := g) rfl j _ (by simp [byteCells, hj])
end Go.Proofs.Ytbkjcibfcpejfaa
