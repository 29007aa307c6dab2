/- algebra's taken, once, orNone. -/
import Derived.Test.YtbkjcibfcpejfaaAlgAdd
namespace Go.Proofs.Ytbkjcibfcpejfaa
open Go.RowKit Go.Sort
set_option linter.unusedSimpArgs false
set_option linter.unusedVariables false

theorem tk_mk {w : World} {B g n cap k : Nat} {a : Option Addr} {R rs : List Sg} (h1 : Own w B (.slice (some ⟨g, 0, none⟩) R.length cap) R) (h2 : R.length ≤ cap) (h3 : k ≤ R.length) (h4 : R.drop k = rs) (hn : n = rs.length) (ha : rs ≠ [] → a = some ⟨g, k * 2, none⟩) : Tk w B g (.slice a n (cap - k)) rs :=
  ⟨R, k, cap, a, h1, h2, h3, h4, by rw [hn], ha⟩
/-- n places of the first run are gone. -/
def less (m c n : Int) (rs : List Sg) : List Sg := if m = n then rs else (m - n, c) :: rs
theorem cs_set {R : List Sg} {k : Nat} {r : Sg} {x : Int} (h : R[k]? = some r) : (cs R).set (k * 2) (.int .i64 x) = cs (R.set k (x, r.2)) := by
  induction R generalizing k with
  | nil => simp at h
  | cons q R ih =>
    cases k with
    | zero => simp at h; subst h; simp [cs_cons]
    | succ k =>
      rw [cs_cons, List.set_cons_succ, cs_cons, show (k + 1) * 2 = k * 2 + 1 + 1 from by omega, List.set_cons_succ, List.set_cons_succ, ih (by simpa using h)]
theorem drop_set7 {α : Type} (R : List α) (k : Nat) (x y : α) (rs : List α) (h : R.drop k = x :: rs) : (R.set k y).drop k = y :: rs := by
  rw [List.drop_set, if_neg (by omega), Nat.sub_self, h]; rfl
theorem drop_succ7 {α : Type} (R : List α) (k : Nat) (x : α) (rs : List α) (h : R.drop k = x :: rs) : R.drop (k + 1) = rs := by
  rw [← List.drop_drop, h]; rfl
end Go.Proofs.Ytbkjcibfcpejfaa
