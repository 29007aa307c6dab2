/- What the bound of a narrowed statement gives. -/
import Derived.Test.YtbkjcibfcpejfaaRows
namespace Go.Proofs.Ytbkjcibfcpejfaa
set_option linter.unusedSimpArgs false
set_option linter.unusedVariables false

theorem bulk_pos {H : Type} (d : DataW H) : 1 ≤ Rows.uptoBulk d := by
  cases d with
  | lit l => cases l <;> simp [Rows.uptoBulk]
  | _ => simp [Rows.uptoBulk]
theorem bulk_len {H : Type} : ∀ l : List (DataW H), l.length ≤ Rows.uptoBulkAll l
  | [] => Nat.zero_le _
  | d :: l => by
    have h1 := bulk_pos d
    have h2 := bulk_len l
    simp only [Rows.uptoBulkAll, List.length_cons]
    omega
theorem bulk_mem {H : Type} {d : DataW H} : ∀ {l : List (DataW H)}, d ∈ l → Rows.uptoBulk d ≤ Rows.uptoBulkAll l
  | [], h => by cases h
  | x :: l, h => by
    simp only [Rows.uptoBulkAll]
    rcases List.mem_cons.1 h with rfl | h
    · omega
    · have := bulk_mem h
      omega
/-- A slice that came in has at most so many places. -/
theorem upto_len {H : Type} {l : List (DataW H)} {d : DataW H} {el spr : List (DataW H)} (hk : Rows.uptoSmall H l = true) (hd : d ∈ l) (hx : d = .slice el spr) : el.length + spr.length ≤ 1048576 := by
  have h1 : Rows.uptoBulkAll l ≤ 1048576 := of_decide_eq_true hk
  have h2 := bulk_mem hd
  have h3 := bulk_len el
  have h4 := bulk_len spr
  rw [hx] at h2
  simp only [Rows.uptoBulk] at h2
  omega
end Go.Proofs.Ytbkjcibfcpejfaa
