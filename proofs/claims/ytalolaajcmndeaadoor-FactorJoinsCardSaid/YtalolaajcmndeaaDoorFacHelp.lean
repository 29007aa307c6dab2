/- Layer 12's calls with known answers. -/
import Derived.Test.YtalolaajcmndeaaDoorFacJoinN
import Derived.Test.YtalolaajcmndeaaDoorDelKnown
namespace Go.Proofs.YtalolaajcmndeaaDoor
open Go.RowKit Go.Sort
set_option linter.unusedSimpArgs false
set_option linter.unusedVariables false

section
variable {w : World} {p q : Value} {L M : List Int}
theorem count_vF {z at' : Int} (hz : cnt L at' = z) (hl : L.length ≤ 20000) (ha : at' ≤ 1099511627776) (h : Sub w p L) : Calls Tryd.prog 38 #[p, .int .i64 at'] w fun e w' => e = .returned (.int .i64 z) ∧ Below w.heap.size w w' := by
  subst hz; exact count_any at' h (by omega) ha
theorem size_vF {z : Int} (hz : (szc L : Int) = z) (hl : L.length ≤ 20000) (h : Sub w p L) : Calls Tryd.prog 36 #[p] w fun e w' => e = .returned (.int .i64 z) ∧ Below w.heap.size w w' := by
  subst hz; exact size_any7 h (by omega)
theorem len_vF {z : Int} (hz : (L.length : Int) = z) (hl : L.length ≤ 20000) (h : Sub w p L) : Calls Tryd.prog 35 #[p] w fun e w' => e = .returned (.int .i64 z) ∧ Below w.heap.size w w' := by
  subst hz; exact len_any7 h (by omega)
theorem empty_vF {b : Bool} (hb : decide (szc L = 0) = b) (hl : L.length ≤ 20000) (h : Sub w p L) : Calls Tryd.prog 34 #[p] w fun e w' => e = .returned (.bool b) ∧ Below w.heap.size w w' := by
  subst hb; exact empty_any7 h (by omega)
theorem same_vF {b : Bool} (hb : decide (L = M) = b) (hl : L.length ≤ 20000) (hm : M.length ≤ 20000) (h : Sub w p L) (h2 : Sub w q M) : Calls Tryd.prog 29 #[p, q] w fun e w' => e = .returned (.bool b) ∧ Below w.heap.size w w' := by
  subst hb; exact same_any7 h h2 (by omega) (by omega)
end
section
variable {w : World} {v : Value} {es : List El} {base : Int} {tb : Nat × Nat}
theorem inserted_v {L : List Int} (hi : isB base es = true) (hL : insL es = L) (h : ElAt w v es) (hT : Tab w tb) :
    Calls Tryd.prog 11 #[.agg #[.int .i64 base, v]] w fun e w' => ∃ p, e = .returned (.tuple #[p, .int .i64 0]) ∧ Sub w' p L ∧ Below w.heap.size w w' := by
  subst hL; exact inserted_yes base tb hi h hT
theorem deleted_v {L : List Int} (hi : isB base es = true) (hL : gon base 0 es = L) (h : ElAt w v es) (hT : Tab w tb) :
    Calls Tryd.prog 12 #[.agg #[.int .i64 base, v]] w fun e w' => ∃ p, e = .returned (.tuple #[p, .int .i64 0]) ∧ Sub w' p L ∧ Below w.heap.size w w' := by
  subst hL; exact deleted_yes base tb hi h hT
theorem split_v {L : List Int} {ys : List El} (hi : isB base es = true) (hq : base + inS es ≤ 20000) (hy : insE base es = ys) (hm : ys.length ≤ 60) (hL : gon base 0 es = L) (h : ElAt w v es) (hT : Tab w tb) :
    Calls Tryd.prog 10 #[.agg #[.int .i64 base, v]] w fun e w' => ∃ v' p, e = .returned (.tuple #[.agg #[.int .i64 base, v'], p, .int .i64 0]) ∧ ElAt w' v' ys ∧ Sub w' p L ∧ Below w.heap.size w w' := by
  subst hL; exact split_ok hi hq hy hm h hT
end
end Go.Proofs.YtalolaajcmndeaaDoor
