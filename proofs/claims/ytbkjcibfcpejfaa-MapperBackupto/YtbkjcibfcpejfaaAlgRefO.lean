/- The reference's Not, Expand, Shrink, Delete. -/
import Derived.Test.YtbkjcibfcpejfaaAlgRefTwo
import Derived.Lib.BufferRead
namespace Go.Proofs.Ytbkjcibfcpejfaa
open Go.RowKit Go.Sort Go.Lib
set_option linter.unusedSimpArgs false
set_option linter.unusedVariables false

theorem zrc_snoc {M : List Int} {k : Nat} {c : Int} (h : M[k]? = some c) : zrc (M.take (k + 1)) = zrc (M.take k) + if c = 0 then 1 else 0 := by
  rw [take_snoc7 h, zrc_append]
  congr 1
  by_cases e : c = 0
  · subst e; rfl
  · simp [zrc, e]
theorem zrc_take_le (M : List Int) (k : Nat) : zrc (M.take k) ≤ zrc M := by
  have e := congrArg zrc (List.take_append_drop k M)
  rw [zrc_append] at e
  omega
theorem expd_at : ∀ (M L : List Int) (k : Nat) (c : Int), M[k]? = some c → (expd L M)[k]? = some (if c = 0 then (L[zrc (M.take k)]?).getD 0 else 0)
  | [], L, k, c, h => by simp at h
  | b :: M, L, 0, c, h => by
    simp at h
    subst h
    show (if b = 0 then L.headD 0 :: expd L.tail M else 0 :: expd L M)[0]? = _
    by_cases e : b = 0
    · rw [if_pos e, if_pos e]; cases L <;> rfl
    · rw [if_neg e, if_neg e]; rfl
  | b :: M, L, k + 1, c, h => by
    have h' : M[k]? = some c := by simpa using h
    have ez : zrc ((b :: M).take (k + 1)) = (if b = 0 then 1 else 0) + zrc (M.take k) := by
      have := zrc_append [b] (M.take k)
      rw [show [b] ++ M.take k = (b :: M).take (k + 1) from rfl] at this
      rw [this]
      congr 1
      by_cases e : b = 0
      · subst e; rfl
      · simp [zrc, e]
    rw [ez]
    show (if b = 0 then L.headD 0 :: expd L.tail M else 0 :: expd L M)[k + 1]? = _
    by_cases e : b = 0
    · rw [if_pos e, if_pos e, List.getElem?_cons_succ, expd_at M L.tail k c h']
      congr 2
      rw [Nat.add_comm 1]
      cases L <;> rfl
    · rw [if_neg e, if_neg e, List.getElem?_cons_succ, expd_at M L k c h', Nat.zero_add]
end Go.Proofs.Ytbkjcibfcpejfaa
