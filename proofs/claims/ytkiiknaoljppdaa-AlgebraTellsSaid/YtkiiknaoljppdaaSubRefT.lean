/- The reference's Told. -/
import Derived.Test.YtkiiknaoljppdaaSubRefS
namespace Go.Proofs.Ytkiiknaoljppdaa
open Go.RowKit Go.Sort
set_option linter.unusedSimpArgs false
set_option linter.unusedVariables false

set_option maxHeartbeats 1000000 in
theorem told_any {w : World} {v : Value} {L : List Int} (h : NumAt .i64 w v L) (hl : L.length ≤ 1073741824) :
    Calls Try.prog 36 #[v] w fun e w' => (200 < (rle L).length ∧ e = .returned (.tuple #[.slice none 0 0, .int .i64 70]) ∨ (rle L).length ≤ 200 ∧ e = .returned (.tuple #[v, .int .i64 0])) ∧ Below w.heap.size w w' := by
  have HS := Hid.mk7 (refsegs_any h hl)
  have hrl := Nat.le_trans (rle_len L) hl
  clear h
  go_enter Try.func36, Try.ntmps36
  go_wp2_with fail
  refine HS.out.mono ?_
  rintro e w1 ⟨v1, rfl, o1, b1⟩
  obtain ⟨a1, cap1, rfl, _⟩ := own_shape o1
  clear HS o1
  generalize hm' : (rle L).length = m at *
  have HM := Hid.mk7 hm'
  clear hm'
  by_cases hm : 200 < m
  · go_wp2
    go_ret2
    exact ⟨Or.inl ⟨by rw [HM.out]; exact hm, rfl⟩, b1⟩
  · go_wp2
    go_ret2
    exact ⟨Or.inr ⟨by rw [HM.out]; omega, rfl⟩, b1⟩
end Go.Proofs.Ytkiiknaoljppdaa
