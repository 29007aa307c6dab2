/- Calls of package offset whose answer is known. -/
import Derived.Test.YtafhogfbjklboaaDoorOffIv
namespace Go.Proofs.YtafhogfbjklboaaDoor
open Go.RowKit Go.Sort Go.Lib
set_option linter.unusedSimpArgs false
set_option linter.unusedVariables false

section
variable {w : World} {v : Value} {es : List El} {base at' : Int} {tb : Nat × Nat}
theorem move_v {z : Int} {after : Bool} (hz : mvV base es at' after = z) (hsm : Sm es 20000) (h : ElAt w v es) (hT : Tab w tb) :
    Calls Tryd.prog 34 #[.agg #[.int .i64 base, v], .int .i64 at', .bool after] w fun e w' => e = .returned (.int .i64 z) ∧ RowKit.Below w.heap.size w w' := by
  subst hz; exact move_any base at' after h (hsm.mono (by omega)) tb hT
theorem size_len14 {n : Nat} (hi : isB base es = true) (hn : (cel es).length = n) (h : ElAt w v es) (hT : Tab w tb) :
    Calls Tryd.prog 33 #[.agg #[.int .i64 base, v]] w fun e w' => e = .returned (.int .i64 (n : Nat)) ∧ RowKit.Below w.heap.size w w' := by
  have := size_anyE base h ((dl_of hi).sm.mono (by omega)) tb hT
  rw [size_of14 hi, hn] at this
  exact this
end
theorem el_lit14 (W : World) (g : Nat) (hg : g = W.heap.size) (es : List El) (cells : Array Value) (e : TypeId) (hc : cells.toList = c3 es) (n : Nat) (hn : n = es.length) : ElAt (W.alloc (.cells cells e)) (.slice (some ⟨g, 0, none⟩) n n) es := by
  subst hg; exact el_lit W es cells e hc n hn
end Go.Proofs.YtafhogfbjklboaaDoor
