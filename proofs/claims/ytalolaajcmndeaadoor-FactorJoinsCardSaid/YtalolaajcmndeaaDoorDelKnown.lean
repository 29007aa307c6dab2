/- 'known' of layer 11. -/
import Derived.Test.YtalolaajcmndeaaDoorDelHelp
namespace Go.Proofs.YtalolaajcmndeaaDoor
open Go.RowKit Go.Sort Go.Lib
set_option linter.unusedSimpArgs false
set_option linter.unusedVariables false

theorem Tab.nu {w : World} {tb : Nat × Nat} (h : Tab w tb) (o : Obj) : Tab (w.alloc o) tb := h.later ((RowKit.Below.refl _ _).alloc (Nat.le_refl _) o)
theorem fld_del (x y : Value) (W : World) : (Instr.field 24 (.agg #[x, y]) 1).run Tryd.prog W = .ok y W := by kernel_rfl
theorem vld_x : vld [120] = true := by decide
theorem k_flt : flt 3 [(1, 2, [120])] = 0 := by decide
theorem k_elG : elG 3 [] 0 [(1, 2, [120])] = [(0, 1, []), (0, 0, [120]), (2, 3, [])] := by decide
theorem k_is : isB 3 [(0, 1, []), (0, 0, [120]), (2, 3, [])] = true := by decide
theorem k_flt2 : flt 3 [(2, 3, []), (1, 2, [])] = 180 := by decide
theorem k_apl : cacc (apl (cel [(0, 1, []), (0, 0, [120]), (2, 3, [])]) (⟨#[97, 98, 99]⟩ : ByteArray).data.toList) = ⟨#[97, 120, 99]⟩ := by decide
end Go.Proofs.YtalolaajcmndeaaDoor
