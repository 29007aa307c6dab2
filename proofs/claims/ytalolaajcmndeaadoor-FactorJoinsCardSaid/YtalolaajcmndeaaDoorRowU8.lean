/- A slice of integers that came in, as a row in memory. -/
import Derived.Test.YtalolaajcmndeaaDoorFacJoins
import Derived.ProofKit
import Derived.OpenShut
namespace Go.Proofs.YtalolaajcmndeaaDoor
open Go.ChangeShapes Go.WideShapes Go.ChangeAt Go.RowKit

theorem row_openU {H : Type} {enc : TypeId × Value → H} {P : Program} {W : World} {fuel : Nat} {t e : TypeId} {a : Option Addr} {len cap : Nat} {x : DataW H × List MemPlace}
    (hs : P.underlying t = some (.slice e)) (he : P.underlying e = some (.int .u8)) (hc : P.cellsOf e = 1)
    (hf : DataW.trod enc P W 0 (fun _ => true) true fuel t (Value.slice a len cap).cells.toList = some x) :
    ∃ zs : List Int, zs.length = len ∧ RowU W (.slice a len cap) zs ∧ len ≤ maxLen ∧ ∀ i, i < zs.length → (Lit.int .u8 (zs.getD i 0)).wf = true := by
  rcases open_ints hs he hc hf with ⟨hcs, _⟩ | ⟨x, l, c, zs, hcs, _, hl, hm, hz, _, hcell, hwz⟩
  · simp [Value.cells] at hcs
    obtain ⟨rfl, rfl, rfl⟩ := hcs
    exact ⟨[], rfl, ⟨none, 0, rfl, fun h => absurd rfl h⟩, Nat.zero_le _, fun i hi => by simp at hi⟩
  · simp [Value.cells] at hcs
    obtain ⟨rfl, rfl, rfl⟩ := hcs
    have hzl : zs.length = cap := by simpa using hz
    have htl : (zs.take len).length = len := by rw [List.length_take]; omega
    have hg : ∀ i, i < len → (zs.take len).getD i 0 = zs.getD i 0 := by
      intro i hi
      rw [List.getD_eq_getElem?_getD, List.getD_eq_getElem?_getD, List.getElem?_take, if_pos hi]
    refine ⟨zs.take len, htl, ⟨some x, cap, by rw [htl], fun hne => ?_⟩, by omega, fun i hi => ?_⟩
    · have hp : 0 < len := by
        rcases Nat.eq_zero_or_pos len with e0 | e0
        · subst e0; exact absurd rfl hne
        · exact e0
      obtain ⟨b, off, rfl, hc'⟩ := ints_at hcell (by omega)
      refine ⟨b, off, rfl, fun i hi => ?_⟩
      rw [htl] at hi
      rw [hg i hi]
      exact hc' i (by omega)
    · rw [htl] at hi
      rw [hg i hi]
      refine hwz _ ?_
      rw [List.getD_eq_getElem?_getD, List.getElem?_eq_getElem (by omega)]
      exact List.getElem_mem _
end Go.Proofs.YtalolaajcmndeaaDoor
