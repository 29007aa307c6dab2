/- Intervals that came in, as a row in memory; one as a value. -/
import Derived.Test.YtfohfdldpanfaaaRowPlain
namespace Go.Proofs.Ytfohfdldpanfaaa
open Go.ChangeShapes Go.WideShapes Go.ChangeAt Go.RowKit
set_option linter.unusedSimpArgs false
set_option linter.unusedVariables false

theorem cells10_iv : Try.prog.cellsOf 23 = 2 := by kernel_rfl
theorem bytes10_iv : Try.prog.bytesOf 23 = 16 := by kernel_rfl
section
variable {H : Type} {enc : TypeId × Value → H} {W : World} {fuel : Nat} {a : Option Addr} {len cap : Nat} {x : DataW H × List MemPlace} {held : Bool}
theorem ivs_open (hf : DataW.trod enc Try.prog W 0 (fun _ => true) held fuel 30 (Value.slice a len cap).cells.toList = some x) :
    ∃ rs : List Sg, rs.length = len ∧ SgAt W (.slice a len cap) rs ∧ (∀ r ∈ rs, (-9223372036854775808 ≤ r.1 ∧ r.1 ≤ 9223372036854775807) ∧ (-9223372036854775808 ≤ r.2 ∧ r.2 ≤ 9223372036854775807)) ∧ (len = 0 ∨ ∃ el spr, x.1 = .slice el spr ∧ len ≤ el.length + spr.length) := by
  rcases slice_cells Try.underlying30 cells10_iv (by omega) hf with ⟨rfl, rfl, rfl, hx⟩ | ⟨ad, el, spr, rfl, hl, hx, hc, hcell⟩
  · exact ⟨[], rfl, SgAt.nil W, fun z h => by simp at h, Or.inl rfl⟩
  · have hz : ∀ i, i < len → ∃ r : Sg, (W.cell? ⟨ad.block, ad.off + i * 2, none⟩ = some (.int .i64 r.1) ∧ W.cell? ⟨ad.block, ad.off + i * 2 + 1, none⟩ = some (.int .i64 r.2)) ∧ (-9223372036854775808 ≤ r.1 ∧ r.1 ≤ 9223372036854775807) ∧ (-9223372036854775808 ≤ r.2 ∧ r.2 ≤ 9223372036854775807) := fun i hi => by
      obtain ⟨_, cs', n, y, h1, h2⟩ := hcell i hi
      obtain ⟨z0, e0, w0⟩ := struct_int Try.underlying23 h2 0 _ rfl Try.underlying3 cells7_int
      obtain ⟨z1, e1, w1⟩ := struct_int Try.underlying23 h2 1 _ rfl Try.underlying3 cells7_int
      have b0 := bounds_i64 w0
      have b1 := bounds_i64 w1
      exact ⟨(z0, z1), ⟨(h1 0 (by omega)).trans e0, (h1 1 (by omega)).trans e1⟩, by simp only; omega, by simp only; omega⟩
    obtain ⟨Z, hZ⟩ := Go.Deep.choose_lt (α := Sg) hz
    refine ⟨(List.range len).map Z, by simp, ⟨some ad, cap, by simp, by simpa using hl, fun e => (by cases e), fun i z h => ?_⟩, fun z h => ?_, Or.inr ⟨el, spr, hx, by omega⟩⟩
    · have hi : i < len := by simpa using (List.getElem?_eq_some_iff.1 h).1
      simp [hi] at h
      subst h
      have hsp := (hcell i hi).1
      obtain ⟨b, off, spot⟩ := ad
      simp only at hsp
      subst hsp
      exact ⟨b, off, rfl, (hZ i hi).1⟩
    · simp at h
      obtain ⟨i, hi, rfl⟩ := h
      exact (hZ i hi).2
end
theorem iv_open {H : Type} {enc : TypeId × Value → H} {W : World} {base : Nat} {v : Value} {d : DataW H} {p : List MemPlace}
    (hv : Value.okWide Try.prog W .any base 23 v) (h : DataW.Trod enc Try.prog W 0 (fun _ => true) true 23 v d p) :
    ∃ a0 a1 : Int, v = .agg #[.int .i64 a0, .int .i64 a1] := by
  obtain ⟨v0, v1, y0, y1, n, rfl, _, _, h0, h1⟩ := Go.Joins.open_agg2 Try.underlying23 (by kernel_rfl) (by kernel_rfl) hv h
  obtain ⟨z0, e0, _, _⟩ := DataW.trod_int Try.underlying3 h0
  obtain ⟨z1, e1, _, _⟩ := DataW.trod_int Try.underlying3 h1
  simp only [List.cons.injEq, and_true] at e0 e1
  exact ⟨z0, z1, by rw [e0, e1]⟩
end Go.Proofs.Ytfohfdldpanfaaa
