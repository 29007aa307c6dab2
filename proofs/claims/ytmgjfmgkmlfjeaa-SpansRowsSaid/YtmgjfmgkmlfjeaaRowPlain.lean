/- From what came in to rows in memory: for rows that list no variable. -/
import Derived.Test.YtmgjfmgkmlfjeaaSubMem
import Derived.ProofKit
import Derived.OpenShut
import Derived.Deep.Slices
import Derived.Deep.DeepHandedRow
import Derived.Deep.DeepWitnessRowRef
import Derived.LaidLaws
import Derived.SizedLaws
import Derived.Lib.SmallJoins
import Derived.Lib.LaidU8
namespace Go.Proofs.Ytmgjfmgkmlfjeaa
open Go.ChangeShapes Go.WideShapes Go.ChangeAt Go.RowKit
set_option linter.unusedSimpArgs false
set_option linter.unusedVariables false

theorem own : ownKnob Try.prog.godebug = none := by kernel_rfl
section
variable {H : Type} {enc : TypeId × Value → H} {P : Program} {w : World} {base : Nat} {sp : Nat → Bool} {held : Bool}
/-- A struct's field that is an integer. -/
theorem struct_int {fuel : Nat} {t : TypeId} {fs : Array Field} {cs : List Value} {x : DataW H × List MemPlace} (ht : P.underlying t = some (.struct fs))
    (h : DataW.trod enc P w base sp held fuel t cs = some x) (j : Nat) (f : Field) (hf : fs.toList[j]? = some f) {k : IntKind} (hk : P.underlying f.type = some (.int k)) (hc : P.cellsOf f.type = 1) :
    ∃ z, cs[f.offset]? = some (.int k z) ∧ (Lit.int k z).wf = true := by
  cases fuel with
  | zero => simp [DataW.trod] at h
  | succ n =>
    simp only [DataW.trod, ht] at h
    split at h
    · obtain ⟨xs, hm, hx⟩ := Option.map_eq_some_iff.1 h
      obtain ⟨b, hb, hg⟩ := Lib.mapM_at hm j f hf
      rw [hc] at hg
      obtain ⟨m, hcs, _, hwf⟩ := DataW.trod_int hk hg
      refine ⟨m, ?_, hwf⟩
      have := congrArg (·[0]?) hcs
      simpa [List.getElem?_take, List.getElem?_drop] using this
    · cases h
/-- A slice that came in: its elements' cells. -/
theorem slice_cells {fuel : Nat} {t e : TypeId} {q : Nat} {a : Option Addr} {len cap : Nat} {x : DataW H × List MemPlace} (hs : P.underlying t = some (.slice e)) (hq : P.cellsOf e = q) (hq1 : 0 < q)
    (h : DataW.trod enc P w 0 (fun _ => true) held fuel t (Value.slice a len cap).cells.toList = some x) :
    (a = none ∧ len = 0 ∧ cap = 0 ∧ x.1 = .nil) ∨ ∃ ad el spr, a = some ad ∧ len ≤ cap ∧ x.1 = .slice el spr ∧ el.length + spr.length = cap ∧
      ∀ i, i < len → ad.spot = none ∧ ∃ (cs' : List Value) (n : Nat) (y : DataW H × List MemPlace), (∀ j, j < q → w.cell? ⟨ad.block, ad.off + i * q + j, none⟩ = cs'[j]?) ∧ DataW.trod enc P w 0 (fun _ => true) held n e cs' = some y := by
  rcases Go.Deep.open_slice hs h with ⟨hcs, hx⟩ | ⟨ad, l, c, m, n, D, Pl, hcs, _, hl, _, hm, hx, hcell⟩
  · simp [Value.cells] at hcs
    obtain ⟨rfl, rfl, rfl⟩ := hcs
    exact Or.inl ⟨rfl, rfl, rfl, by rw [hx]⟩
  · simp [Value.cells] at hcs
    obtain ⟨rfl, rfl, rfl⟩ := hcs
    simp at hm
    subst hm
    refine Or.inr ⟨ad, _, _, rfl, hl, by rw [hx], by simp; omega, fun i hi => ?_⟩
    obtain ⟨cs', h1, h2⟩ := hcell i (by omega)
    rw [hq] at h1
    obtain ⟨_, hl', hc⟩ := World.cells?_some h1
    have hsp : ad.spot = none := by
      obtain ⟨cs0, g1, _⟩ := hcell 0 (by omega)
      rw [hq] at g1
      obtain ⟨_, gl, gc⟩ := World.cells?_some g1
      have := gc 0 (by omega)
      rw [List.getElem?_eq_getElem (by omega)] at this
      simpa [Addr.add] using World.cell?_spot this
    refine ⟨hsp, cs', n, _, fun j hj => ?_, h2⟩
    obtain ⟨b, off, spot⟩ := ad
    simp only at hsp
    subst hsp
    rw [← hc j hj, Go.WideShapes.add_plain, Go.WideShapes.add_plain]
end
theorem cells7_int : Try.prog.cellsOf 3 = 1 := by kernel_rfl
theorem cells7_u8 : Try.prog.cellsOf 5 = 1 := by kernel_rfl
theorem bytes7_u8 : Try.prog.bytesOf 5 = 1 := by kernel_rfl
section
variable {H : Type} {enc : TypeId × Value → H} {W : World} {fuel : Nat} {a : Option Addr} {len cap : Nat} {x : DataW H × List MemPlace} {held : Bool}
end
end Go.Proofs.Ytmgjfmgkmlfjeaa
