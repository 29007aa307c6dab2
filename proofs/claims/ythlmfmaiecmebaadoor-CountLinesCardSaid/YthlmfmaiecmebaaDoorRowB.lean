/- Slices of bools and of strings that came in, as rows in memory. -/
import Derived.Test.YthlmfmaiecmebaaDoorRows
import Derived.WalkKit
import Derived.Below
import Derived.ProofKit
import Derived.OpenShut
import Derived.Deep.Grids
import Derived.Deep.Strs
namespace Go.Proofs.YthlmfmaiecmebaaDoor
open Go.ChangeShapes Go.WideShapes Go.ChangeAt Go.RowKit

/-- A row of values in memory, by index. -/
def ValsAt (w : World) (v : Value) (n : Nat) (V : Nat → Value) : Prop :=
  ∃ ad cap, v = .slice ad n cap ∧ (0 < n → ∃ blk off, ad = some ⟨blk, off, none⟩ ∧ ∀ i, i < n → w.cell? ⟨blk, off + i, none⟩ = some (V i))

theorem vals_at {w : World} {a : Addr} {n m cap : Nat} {V : Nat → Value} (hn : n ≤ m) (h : ∀ i, i < m → w.cell? (a.add i) = some (V i)) : ValsAt w (.slice (some a) n cap) n V := by
  refine ⟨some a, cap, rfl, fun hp => ?_⟩
  obtain ⟨b, off, spot⟩ := a
  have hspot : spot = none := by simpa [Addr.add] using World.cell?_spot (h 0 (by omega))
  subst hspot
  exact ⟨b, off, rfl, fun j hj => by rw [← Go.WideShapes.add_plain]; exact h j (by omega)⟩

theorem bools_open {H : Type} {enc : TypeId × Value → H} {P : Program} {W : World} {fuel : Nat} {t e : TypeId} {a : Option Addr} {len cap : Nat} {x : DataW H × List MemPlace}
    (hs : P.underlying t = some (.slice e)) (he : P.underlying e = some .bool) (hc : P.cellsOf e = 1)
    (hf : DataW.trod enc P W 0 (fun _ => true) true fuel t (Value.slice a len cap).cells.toList = some x) :
    ∃ B : Nat → Bool, len ≤ maxLen ∧ ValsAt W (.slice a len cap) len (fun i => .bool (B i)) := by
  rcases Go.Deep.open_bools hs he hc hf with ⟨hcs, _⟩ | ⟨y, l, c, B, hcs, _, hl, hm, _, hcell⟩
  · simp [Value.cells] at hcs
    obtain ⟨rfl, rfl, rfl⟩ := hcs
    exact ⟨fun _ => false, Nat.zero_le _, none, 0, rfl, fun h => absurd h (by omega)⟩
  · simp [Value.cells] at hcs
    obtain ⟨rfl, rfl, rfl⟩ := hcs
    exact ⟨B, by omega, vals_at hl hcell⟩

theorem strs_open {H : Type} {enc : TypeId × Value → H} {P : Program} {W : World} {fuel : Nat} {t e : TypeId} {a : Option Addr} {len cap : Nat} {x : DataW H × List MemPlace}
    (hs : P.underlying t = some (.slice e)) (he : P.underlying e = some .string) (hc : P.cellsOf e = 1)
    (hf : DataW.trod enc P W 0 (fun _ => true) true fuel t (Value.slice a len cap).cells.toList = some x) :
    ∃ S : Nat → ByteArray, len ≤ maxLen ∧ (∀ i, i < len → (S i).size ≤ maxLen) ∧ ValsAt W (.slice a len cap) len (fun i => .string (S i)) := by
  rcases Go.Deep.open_strs hs he hc hf with ⟨hcs, _⟩ | ⟨y, l, c, m, S, hcs, _, hl, hm, hmm, _, hcell⟩
  · simp [Value.cells] at hcs
    obtain ⟨rfl, rfl, rfl⟩ := hcs
    exact ⟨fun _ => ByteArray.empty, Nat.zero_le _, fun i hi => absurd hi (by omega), none, 0, rfl, fun h => absurd h (by omega)⟩
  · simp [Value.cells] at hcs
    obtain ⟨rfl, rfl, rfl⟩ := hcs
    simp only [if_true] at hmm
    exact ⟨S, by omega, fun i hi => (hcell i (by omega)).2, vals_at (m := m) (by omega) (fun i hi => (hcell i hi).1)⟩
end Go.Proofs.YthlmfmaiecmebaaDoor
