/- The reference's cells of changes. -/
import Derived.Test.YtalolaajcmndeaaDoorDelCell
namespace Go.Proofs.YtalolaajcmndeaaDoor
open Go.RowKit Go.Sort Go.Lib
set_option linter.unusedSimpArgs false
set_option linter.unusedVariables false

theorem OwnK.pushed {w3 : World} {B : Nat} {cs : List Ce} {c : Ce} {x y : Value} {gg cap2 : Nat}
    (hown : w3.ownsRow B 37 2 (.slice (some ⟨gg, 0, none⟩) (cs.length + 1) cap2) (cs.length + 1) (k2 cs ++ [x, y])) (hx : x = .int .i64 c.1) (hy : y = .int .u8 (c.2.toNat : Int)) :
    OwnK w3 B (.slice (some ⟨gg, 0, none⟩) (cs.length + 1) cap2) (cs ++ [c]) := by
  subst hx hy
  unfold OwnK
  rw [List.length_append, k2_append, k2_one]
  exact hown
theorem bce_step {base ea f t : Int} {T : List UInt8} {l : List El} {k : Nat} (hr : l[k]? = some (f, t, T)) : bce base ea (l.drop k) = rng ea f ++ ownT T ++ bce base t (l.drop (k + 1)) := by
  rw [drop_consE hr]; rfl
theorem chs_stepE {n ea : Int} {l : List El} {k : Nat} {f t : Int} {T : List UInt8} (hr : l[k]? = some (f, t, T)) (h : Chs n ea (l.drop k)) : ea ≤ f ∧ f ≤ t ∧ t ≤ n ∧ Chs n t (l.drop (k + 1)) := by
  rw [drop_consE hr] at h; exact h
end Go.Proofs.YtalolaajcmndeaaDoor
