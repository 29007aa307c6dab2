/- What every world of a row's start holds of the library's two tables. -/
import Derived.Test.YtfgefdkkjfjjjaaDoorWeak
import Derived.Test.YtfgefdkkjfjjjaaDoorLaid
namespace Go.Proofs.YtfgefdkkjfjjjaaDoor
open Go.RowKit Go.Sort
set_option linter.unusedSimpArgs false
set_option linter.unusedVariables false

theorem u8_cell {P : Program} {W : World} {t : TypeId} {v : Value} (hu : P.underlying t = some (.int .u8)) (hok : Cell.ok P W .any 0 t v) : ∃ n : Nat, n < 256 ∧ v = .int .u8 (n : Nat) := by
  unfold Cell.ok at hok
  rw [hu] at hok
  cases v <;> simp only [] at hok
  case int k x =>
    obtain ⟨rfl, hx⟩ := hok
    have hb : 0 ≤ x ∧ x ≤ 255 := by simpa [IntKind.has, IntKind.min, IntKind.max, IntKind.signed, IntKind.bits] using hx
    exact ⟨x.toNat, by omega, by rw [show ((x.toNat : Nat) : Int) = x from by omega]⟩
theorem u8s_of_shape {P : Program} {W : World} {g n : Nat} {t u8 : TypeId} (h : W.ShapedOpen P) (hg : g < P.globals.size) (hu : P.underlying u8 = some (.int .u8))
    (h0 : (((begin P (fun _ _ => 0) default).world.heap[g]?).bind Obj.row?).map (fun x => (x.1.size, x.2)) = some (n, t)) (hb : P.buildable t = true)
    (hc : (P.cellTypes P.depth t).map (fun ts => ts.all (fun u => u == u8)) = some true) : ∀ i, i < n → ∃ v : Nat, v < 256 ∧ W.cell? ⟨g, i, none⟩ = some (.int .u8 (v : Nat)) := by
  intro i hi
  cases hz : ((begin P (fun _ _ => 0) default).world.heap[g]?).bind Obj.row? with
  | none => rw [hz] at h0; cases h0
  | some zt =>
    rw [hz] at h0
    simp only [Option.map_some, Option.some.injEq, Prod.mk.injEq] at h0
    obtain ⟨zero, t'⟩ := zt
    obtain ⟨hzn, ht⟩ := h0
    simp only at hzn ht
    subst ht
    obtain ⟨cs, hh, hs, hr⟩ := h.1 g zero t' hg hz
    obtain ⟨ts, hts, _, hall⟩ := hr hb
    rw [hts] at hc
    simp only [Option.map_some, Option.some.injEq] at hc
    have hi' : i < cs.size := by rw [hs, hzn]; exact hi
    obtain ⟨u, hu', hok⟩ := hall i cs[i] (by simp [hi'])
    have hu5 : u = u8 := by
      have := List.all_eq_true.1 hc u (List.mem_of_getElem? hu')
      simpa using this
    subst hu5
    obtain ⟨m, hm, hv⟩ := u8_cell hu hok
    refine ⟨m, hm, ?_⟩
    rw [cell_of_row _ _ _ _ _ _ hh, ← hv]
    simp [hi']
theorem byt8_of_shape {W : World} (h : W.ShapedOpen Tryd.prog) : Byt8 W where
  first := u8s_of_shape h (of_decide_eq_true (by kernel_rfl)) Tryd.underlying5 (t := 144) (by kernel_rfl) (by kernel_rfl) (by kernel_rfl)
  acc := u8s_of_shape h (of_decide_eq_true (by kernel_rfl)) Tryd.underlying5 (t := 147) (by kernel_rfl) (by kernel_rfl) (by kernel_rfl)
end Go.Proofs.YtfgefdkkjfjjjaaDoor
