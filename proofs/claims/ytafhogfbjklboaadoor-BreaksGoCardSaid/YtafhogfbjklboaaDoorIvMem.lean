/- Intervals in memory. -/
import Derived.Test.YtafhogfbjklboaaDoorSubMem
namespace Go.Proofs.YtafhogfbjklboaaDoor
open Go.RowKit Go.Sort
set_option linter.unusedSimpArgs false
set_option linter.unusedVariables false

/-- An interval as a value. -/
abbrev iv (x : Sg) : Value := .agg #[.int .i64 x.1, .int .i64 x.2]
theorem two_newV (w : World) (x y : Value) (e : TypeId) : ∀ (j : Nat) (u : Value), ([x, y] : List Value)[j]? = some u → (w.alloc (.cells #[x, y] e)).cell? ((⟨w.heap.size, 0, none⟩ : Addr).add j) = some u := by
  intro j u h
  rw [addr_add7, World.cell?_alloc_new]
  match j, h with
  | 0, h => simpa using h
  | 1, h => simpa using h
theorem two_newV' {w : World} {g : Nat} (hg : g = w.heap.size) (x y : Value) (e : TypeId) : ∀ (j : Nat) (u : Value), ([x, y] : List Value)[j]? = some u → (w.alloc (.cells #[x, y] e)).cell? ((⟨g, 0, none⟩ : Addr).add j) = some u := by
  subst hg; exact two_newV w x y e
end Go.Proofs.YtafhogfbjklboaaDoor
