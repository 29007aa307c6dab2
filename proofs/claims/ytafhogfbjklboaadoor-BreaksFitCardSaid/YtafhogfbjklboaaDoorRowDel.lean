/- From what came in to rows of elements, of changes, to deltas. -/
import Derived.Test.YtafhogfbjklboaaDoorLaid
import Derived.Test.YtafhogfbjklboaaDoorDelMem
import Derived.Test.YtafhogfbjklboaaDoorDelSize
import Derived.ProofKit
import Derived.OpenShut
import Derived.Deep.Slices
import Derived.Deep.DeepHandedRow
import Derived.Deep.DeepWitnessRowRef
import Derived.Lib.SmallJoins
namespace Go.Proofs.YtafhogfbjklboaaDoor
open Go.ChangeShapes Go.WideShapes Go.ChangeAt Go.RowKit
set_option linter.unusedSimpArgs false
set_option linter.unusedVariables false

section
variable {H : Type} {enc : TypeId × Value → H} {P : Program} {w : World} {base : Nat} {sp : Nat → Bool} {held : Bool}
/-- A struct's field that is an integer, a text. -/
theorem fld_int {fuel : Nat} {t : TypeId} {fs : Array Field} {cs : List Value} {x : DataW H × List MemPlace} (ht : P.underlying t = some (.struct fs))
    (h : DataW.trod enc P w base sp held fuel t cs = some x) (j : Nat) (f : Field) (hf : fs.toList[j]? = some f) {k : IntKind} (hk : P.underlying f.type = some (.int k)) (hc : P.cellsOf f.type = 1) :
    ∃ z, cs[f.offset]? = some (.int k z) ∧ (Lit.int k z).wf = true := by
  cases fuel with
  | zero => simp [DataW.trod] at h
  | succ n =>
    simp only [DataW.trod, ht] at h
    split at h
    · obtain ⟨xs, hm, hx⟩ := Option.map_eq_some_iff.1 h
      obtain ⟨b, hb, hg⟩ := Lib.mapM_at hm j f hf
      rw [hc] at hg
      obtain ⟨m, hcs, _, hwf⟩ := DataW.trod_int hk hg
      refine ⟨m, ?_, hwf⟩
      have := congrArg (·[0]?) hcs
      simpa [List.getElem?_take, List.getElem?_drop] using this
    · cases h
theorem fld_str {fuel : Nat} {t : TypeId} {fs : Array Field} {cs : List Value} {x : DataW H × List MemPlace} (ht : P.underlying t = some (.struct fs))
    (h : DataW.trod enc P w base sp held fuel t cs = some x) (j : Nat) (f : Field) (hf : fs.toList[j]? = some f) (hk : P.underlying f.type = some .string) (hc : P.cellsOf f.type = 1) :
    ∃ s : ByteArray, cs[f.offset]? = some (.string s) ∧ s.size ≤ maxLen := by
  cases fuel with
  | zero => simp [DataW.trod] at h
  | succ n =>
    simp only [DataW.trod, ht] at h
    split at h
    · obtain ⟨xs, hm, hx⟩ := Option.map_eq_some_iff.1 h
      obtain ⟨b, hb, hg⟩ := Lib.mapM_at hm j f hf
      rw [hc] at hg
      obtain ⟨m, hcs, _, hwf⟩ := DataW.trod_string hk hg
      refine ⟨m, ?_, hwf⟩
      have := congrArg (·[0]?) hcs
      simpa [List.getElem?_take, List.getElem?_drop] using this
    · cases h
/-- A slice that came in: its elements' cells. -/
theorem row_cells {fuel : Nat} {t e : TypeId} {q : Nat} {v : Value} {x : DataW H × List MemPlace} (hs : P.underlying t = some (.slice e)) (hq : P.cellsOf e = q) (hq1 : 0 < q)
    (h : DataW.trod enc P w 0 (fun _ => true) held fuel t [v] = some x) :
    v = .slice none 0 0 ∨ ∃ ad len cap, v = .slice (some ad) len cap ∧ len ≤ cap ∧ cap ≤ maxLen ∧
      ∀ i, i < len → ad.spot = none ∧ ∃ (cs' : List Value) (n : Nat) (y : DataW H × List MemPlace), (∀ j, j < q → w.cell? ⟨ad.block, ad.off + i * q + j, none⟩ = cs'[j]?) ∧ DataW.trod enc P w 0 (fun _ => true) held n e cs' = some y := by
  rcases Go.Deep.open_slice hs h with ⟨hcs, hx⟩ | ⟨ad, l, c, m, n, D, Pl, hcs, _, hl, hc, hm, hx, hcell⟩
  · exact Or.inl (by simpa using hcs)
  · simp at hm
    subst hm
    refine Or.inr ⟨ad, l, m, by simpa using hcs, hl, hc, fun i hi => ?_⟩
    obtain ⟨cs', h1, h2⟩ := hcell i (by omega)
    rw [hq] at h1
    obtain ⟨_, hl', hc⟩ := World.cells?_some h1
    have hsp : ad.spot = none := by
      obtain ⟨cs0, g1, _⟩ := hcell 0 (by omega)
      rw [hq] at g1
      obtain ⟨_, gl, gc⟩ := World.cells?_some g1
      have := gc 0 (by omega)
      rw [List.getElem?_eq_getElem (by omega)] at this
      simpa [Addr.add] using World.cell?_spot this
    refine ⟨hsp, cs', n, _, fun j hj => ?_, h2⟩
    obtain ⟨b, off, spot⟩ := ad
    simp only at hsp
    subst hsp
    rw [← hc j hj, Go.WideShapes.add_plain, Go.WideShapes.add_plain]
end
theorem cells11_int : Tryd.prog.cellsOf 3 = 1 := by kernel_rfl
theorem cells11_str : Tryd.prog.cellsOf 9 = 1 := by kernel_rfl
section
variable {H : Type} {enc : TypeId × Value → H} {W : World} {fuel : Nat} {v : Value} {x : DataW H × List MemPlace} {held : Bool}
theorem cells11_els : Tryd.prog.cellsOf 55 = 3 := by kernel_rfl
theorem els_open (hf : DataW.trod enc Tryd.prog W 0 (fun _ => true) held fuel 23 [v] = some x) :
    ∃ es : List El, ElAt W v es ∧ es.length ≤ maxLen ∧ Sm es maxLen := by
  rcases row_cells Tryd.underlying23 cells11_els (by omega) hf with rfl | ⟨ad, len, cap, rfl, hl, hc, hcell⟩
  · exact ⟨[], ElAt.nil W, Nat.zero_le _, fun e he => by cases he⟩
  · have hz : ∀ i, i < len → ∃ r : El, (W.cell? ⟨ad.block, ad.off + i * 3, none⟩ = some (.int .i64 r.1) ∧ W.cell? ⟨ad.block, ad.off + i * 3 + 1, none⟩ = some (.int .i64 r.2.1) ∧ W.cell? ⟨ad.block, ad.off + i * 3 + 2, none⟩ = some (.string (cacc r.2.2))) ∧ r.2.2.length ≤ maxLen := fun i hi => by
      obtain ⟨_, cs', n, y, h1, h2⟩ := hcell i hi
      obtain ⟨z0, e0, w0⟩ := fld_int Tryd.underlying55 h2 0 _ rfl Tryd.underlying3 cells11_int
      obtain ⟨z1, e1, w1⟩ := fld_int Tryd.underlying55 h2 1 _ rfl Tryd.underlying3 cells11_int
      obtain ⟨s, e2, w2⟩ := fld_str Tryd.underlying55 h2 2 _ rfl Tryd.underlying9 cells11_str
      refine ⟨(z0, z1, s.data.toList), ⟨(h1 0 (by omega)).trans e0, (h1 1 (by omega)).trans e1, ?_⟩, w2⟩
      rw [h1 2 (by omega), cacc_bytes]
      exact e2
    obtain ⟨Z, hZ⟩ := Go.Deep.choose_lt (α := El) hz
    refine ⟨(List.range len).map Z, ⟨some ad, cap, by simp, by simpa using hl, fun e => (by cases e), fun i z h => ?_⟩, by simp; omega, fun z h => ?_⟩
    · have hi : i < len := by simpa using (List.getElem?_eq_some_iff.1 h).1
      simp [hi] at h
      subst h
      have hsp := (hcell i hi).1
      obtain ⟨b, off, spot⟩ := ad
      simp only at hsp
      subst hsp
      exact ⟨b, off, rfl, (hZ i hi).1⟩
    · simp at h
      obtain ⟨i, hi, rfl⟩ := h
      exact (hZ i hi).2
theorem cells11_chs : Tryd.prog.cellsOf 51 = 3 := by kernel_rfl
theorem chs_open (hf : DataW.trod enc Tryd.prog W 0 (fun _ => true) held fuel 52 [v] = some x) :
    ∃ es : List El, ElAt W v es ∧ es.length ≤ maxLen ∧ Sm es maxLen := by
  rcases row_cells Tryd.underlying52 cells11_chs (by omega) hf with rfl | ⟨ad, len, cap, rfl, hl, hc, hcell⟩
  · exact ⟨[], ElAt.nil W, Nat.zero_le _, fun e he => by cases he⟩
  · have hz : ∀ i, i < len → ∃ r : El, (W.cell? ⟨ad.block, ad.off + i * 3, none⟩ = some (.int .i64 r.1) ∧ W.cell? ⟨ad.block, ad.off + i * 3 + 1, none⟩ = some (.int .i64 r.2.1) ∧ W.cell? ⟨ad.block, ad.off + i * 3 + 2, none⟩ = some (.string (cacc r.2.2))) ∧ r.2.2.length ≤ maxLen := fun i hi => by
      obtain ⟨_, cs', n, y, h1, h2⟩ := hcell i hi
      obtain ⟨z0, e0, w0⟩ := fld_int Tryd.underlying51 h2 0 _ rfl Tryd.underlying3 cells11_int
      obtain ⟨z1, e1, w1⟩ := fld_int Tryd.underlying51 h2 1 _ rfl Tryd.underlying3 cells11_int
      obtain ⟨s, e2, w2⟩ := fld_str Tryd.underlying51 h2 2 _ rfl Tryd.underlying9 cells11_str
      refine ⟨(z0, z1, s.data.toList), ⟨(h1 0 (by omega)).trans e0, (h1 1 (by omega)).trans e1, ?_⟩, w2⟩
      rw [h1 2 (by omega), cacc_bytes]
      exact e2
    obtain ⟨Z, hZ⟩ := Go.Deep.choose_lt (α := El) hz
    refine ⟨(List.range len).map Z, ⟨some ad, cap, by simp, by simpa using hl, fun e => (by cases e), fun i z h => ?_⟩, by simp; omega, fun z h => ?_⟩
    · have hi : i < len := by simpa using (List.getElem?_eq_some_iff.1 h).1
      simp [hi] at h
      subst h
      have hsp := (hcell i hi).1
      obtain ⟨b, off, spot⟩ := ad
      simp only at hsp
      subst hsp
      exact ⟨b, off, rfl, (hZ i hi).1⟩
    · simp at h
      obtain ⟨i, hi, rfl⟩ := h
      exact (hZ i hi).2
set_option maxRecDepth 100000 in
/-- A delta that came in. -/
theorem delta_open {base : Nat} {d : DataW H} {p : List MemPlace}
    (hv : Value.okWide Tryd.prog W .any base 25 v) (h : DataW.Trod enc Tryd.prog W 0 (fun _ => true) true 25 v d p) :
    ∃ (b : Int) (u : Value) (es : List El), v = .agg #[.int .i64 b, u] ∧ (-9223372036854775808 ≤ b ∧ b ≤ 9223372036854775807) ∧ ElAt W u es ∧ es.length ≤ maxLen ∧ Sm es maxLen := by
  obtain ⟨v0, v1, y0, y1, n, rfl, _, _, h0, h1⟩ := Go.Joins.open_agg2 Tryd.underlying25 (by kernel_rfl) (by kernel_rfl) hv h
  obtain ⟨z0, e0, _, w0⟩ := DataW.trod_int Tryd.underlying3 h0
  obtain ⟨es, h2, h3, h4⟩ := els_open h1
  simp only [List.cons.injEq, and_true] at e0
  have := bounds_i64 w0
  exact ⟨z0, v1, es, by rw [e0], by omega, h2, h3, h4⟩
end
end Go.Proofs.YtafhogfbjklboaaDoor
