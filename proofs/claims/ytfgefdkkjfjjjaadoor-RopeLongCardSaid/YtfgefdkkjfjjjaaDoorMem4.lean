/- A struct of four numbers in memory: read, written whole. -/
import Derived.Test.YtfgefdkkjfjjjaaDoorRows
import Derived.WalkKit
import Derived.WalkSpells
import Derived.WalkLawsBesides
import Derived.Laws.Rows
import Derived.Lib.QuietBelow
namespace Go.Proofs.YtfgefdkkjfjjjaaDoor
open Go.RowKit Go.Sort

theorem Hid.mk4 {p : Prop} (h : p) : Hid p := h
/-- Block g holds these four cells. -/
def Row4 (w : World) (g : Nat) (x0 x1 x2 x3 : Value) : Prop := w.heap[g]? = some (.cells #[x0, x1, x2, x3] 54)
theorem Row4.later {w w' : World} {g B : Nat} {x0 x1 x2 x3 : Value} (h : Row4 w g x0 x1 x2 x3) (hb : Below B w w') (hg : g < B) : Row4 w' g x0 x1 x2 x3 := (hb.block g hg).trans h
theorem Row4.lt {w : World} {g : Nat} {x0 x1 x2 x3 : Value} (h : Row4 w g x0 x1 x2 x3) : g < w.heap.size := (Array.getElem?_eq_some_iff.1 h).1
theorem Row4.c0 {w : World} {g : Nat} {x0 x1 x2 x3 : Value} (h : Row4 w g x0 x1 x2 x3) : w.cell? ⟨g, 0, none⟩ = some x0 := cell_of_row w g 0 _ _ _ h
theorem Row4.c1 {w : World} {g : Nat} {x0 x1 x2 x3 : Value} (h : Row4 w g x0 x1 x2 x3) : w.cell? ⟨g, 1, none⟩ = some x1 := cell_of_row w g 1 _ _ _ h
theorem Row4.c2 {w : World} {g : Nat} {x0 x1 x2 x3 : Value} (h : Row4 w g x0 x1 x2 x3) : w.cell? ⟨g, 2, none⟩ = some x2 := cell_of_row w g 2 _ _ _ h
theorem Row4.c3 {w : World} {g : Nat} {x0 x1 x2 x3 : Value} (h : Row4 w g x0 x1 x2 x3) : w.cell? ⟨g, 3, none⟩ = some x3 := cell_of_row w g 3 _ _ _ h
theorem Row4.fz {w : World} {g : Nat} {x0 x1 x2 x3 : Value} (h : Row4 w g x0 x1 x2 x3) (j : Nat) : w.frozen? ⟨g, j, none⟩ = false := frozen_of_row w g j _ _ h
theorem Row4.new (w : World) (x0 x1 x2 x3 : Value) : Row4 (w.alloc (.cells #[x0, x1, x2, x3] 54)) w.heap.size x0 x1 x2 x3 := heap_alloc_new w _
theorem Row4.new' {w : World} {g : Nat} (hg : g = w.heap.size) (x0 x1 x2 x3 : Value) : Row4 (w.alloc (.cells #[x0, x1, x2, x3] 54)) g x0 x1 x2 x3 := by subst hg; exact heap_alloc_new w _
theorem Row4.alloc {w : World} {g : Nat} {x0 x1 x2 x3 : Value} (h : Row4 w g x0 x1 x2 x3) (o : Obj) : Row4 (w.alloc o) g x0 x1 x2 x3 := (Below.heap_alloc w o g h.lt).trans h
theorem Row4.set {w : World} {g : Nat} {x0 x1 x2 x3 : Value} (h : Row4 w g x0 x1 x2 x3) (y0 y1 y2 y3 : Value) :
    Row4 ((((w.setCell ⟨g, 0, none⟩ y0).setCell ⟨g, 1, none⟩ y1).setCell ⟨g, 2, none⟩ y2).setCell ⟨g, 3, none⟩ y3) g y0 y1 y2 y3 := by
  have e0 := heap_setCell_same w g 0 _ _ y0 h
  have e1 := heap_setCell_same _ g 1 _ _ y1 e0
  have e2 := heap_setCell_same _ g 2 _ _ y2 e1
  have e3 := heap_setCell_same _ g 3 _ _ y3 e2
  unfold Row4
  rw [e3]
  simp
theorem Row4.other {w : World} {g g' : Nat} {x0 x1 x2 x3 : Value} (h : Row4 w g x0 x1 x2 x3) (hne : g ≠ g') (y0 y1 y2 y3 : Value) :
    Row4 ((((w.setCell ⟨g', 0, none⟩ y0).setCell ⟨g', 1, none⟩ y1).setCell ⟨g', 2, none⟩ y2).setCell ⟨g', 3, none⟩ y3) g x0 x1 x2 x3 := by
  unfold Row4
  rw [heap_setCell_other _ _ _ _ hne, heap_setCell_other _ _ _ _ hne, heap_setCell_other _ _ _ _ hne, heap_setCell_other _ _ _ _ hne]
  exact h
theorem below_set4 {B g : Nat} {a w : World} (h : Below B a w) (hg : B ≤ g) (y0 y1 y2 y3 : Value) :
    Below B a ((((w.setCell ⟨g, 0, none⟩ y0).setCell ⟨g, 1, none⟩ y1).setCell ⟨g, 2, none⟩ y2).setCell ⟨g, 3, none⟩ y3) :=
  (((h.setCell (p := ⟨g, 0, none⟩) hg _).setCell (p := ⟨g, 1, none⟩) hg _).setCell (p := ⟨g, 2, none⟩) hg _).setCell (p := ⟨g, 3, none⟩) hg _
/-- A result through a cell. -/
theorem results_row4 {fn : Func} {p : Tmp} (h : fn.results = #[.cell p 54]) (tmps : Array Value) (w : World) (g : Nat) (x0 x1 x2 x3 : Value)
    (hp : tmps.getD p undef = .pointer (some ⟨g, 0, none⟩)) (hg : Row4 w g x0 x1 x2 x3) : (results fn tmps).run Tryd.prog w = .ok (.agg #[x0, x1, x2, x3]) w :=
  results_cell_row h tmps w g _ _ _ _ hp hg Tryd.underlying54 rfl (by kernel_rfl)
end Go.Proofs.YtfgefdkkjfjjjaaDoor
