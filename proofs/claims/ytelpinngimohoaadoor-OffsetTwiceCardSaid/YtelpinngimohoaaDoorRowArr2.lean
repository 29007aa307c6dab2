/- Arrays of two texts, intervals that came in (for layer 14; written ahead of its code). -/
import Derived.Laws.IdiomArrays
import Derived.Lib.SmallJoins
import Derived.ProofKit
import Derived.OpenShut
namespace Go.Proofs.YtelpinngimohoaaDoor
open Go.ChangeShapes Go.WideShapes Go.ChangeAt Go.RowKit

section
variable {H : Type} {enc : TypeId × Value → H} {P : Program} {w : World} {base : Nat} {spare : Nat → Bool} {held : Bool}
/-- What a walk over an array of two cells went over: the one, then the other. -/
theorem two_trod {t e : TypeId} {k : Nat} {a b : Value} {x : DataW H × List MemPlace} (ht : P.underlying t = some (.array 2 e)) (hc : P.cellsOf e = 1) (h : DataW.trod enc P w base spare held k t [a, b] = some x) :
    ∃ y z n, x = (.agg [y.1, z.1], y.2 ++ z.2) ∧ DataW.trod enc P w base spare held n e [a] = some y ∧ DataW.trod enc P w base spare held n e [b] = some z := by
  obtain _ | n := k
  · simp [DataW.trod] at h
  · have r2 : List.range 2 = [0, 1] := rfl
    unfold DataW.trod at h; rw [ht] at h; simp [r2, hc] at h
    replace h := h.2
    rcases ha : DataW.trod enc P w base spare held n e [a] with _ | y
    · simp [ha] at h
    · rcases hb : DataW.trod enc P w base spare held n e [b] with _ | z
      · simp [ha, hb] at h
      · simp [ha, hb] at h
        exact ⟨y, z, n, h.symm, ha, hb⟩
/-- Two texts. -/
theorem arr2_strs {r : Reach} {b0 : Nat} {t e : TypeId} {v : Value} {d : DataW H} {p : List MemPlace} (hs : P.underlying t = some (.array 2 e)) (he : P.underlying e = some .string) (hce : P.cellsOf e = 1) (hC : P.cellsOf t = 2)
    (hv : Value.okWide P w r b0 t v) (h : DataW.Trod enc P w base spare held t v d p) :
    ∃ a b : ByteArray, v = .agg #[.string a, .string b] ∧ a.size ≤ maxLen ∧ b.size ≤ maxLen := by
  simp only [Value.okWide, hs] at hv
  obtain ⟨cs, rfl, h2, _⟩ := hv
  obtain ⟨c0, c1, rfl⟩ := Go.Joins.array2 (h2.trans hC)
  obtain ⟨fuel, hf⟩ := h
  obtain ⟨y0, y1, n, hx, h0, h1⟩ := two_trod hs hce hf
  obtain ⟨a, e0, _, w0⟩ := DataW.trod_string he h0
  obtain ⟨b, e1, _, w1⟩ := DataW.trod_string he h1
  simp only [List.cons.injEq, and_true] at e0 e1
  exact ⟨a, b, by rw [e0, e1], w0, w1⟩
end
end Go.Proofs.YtelpinngimohoaaDoor
