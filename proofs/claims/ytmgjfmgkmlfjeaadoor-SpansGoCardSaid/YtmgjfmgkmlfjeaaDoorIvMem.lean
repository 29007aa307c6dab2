/- Intervals in memory. -/
import Derived.Test.YtmgjfmgkmlfjeaaDoorSubMem
namespace Go.Proofs.YtmgjfmgkmlfjeaaDoor
open Go.RowKit Go.Sort
set_option linter.unusedSimpArgs false
set_option linter.unusedVariables false

theorem Tryd.info_iv : (Tryd.prog.info? 29).map (fun i => (i.zero, i.size, i.bytes)) = some (some (.agg #[.int .i64 0, .int .i64 0]), 2, 16) := by kernel_rfl
/-- An interval as a value. -/
abbrev iv (x : Sg) : Value := .agg #[.int .i64 x.1, .int .i64 x.2]
/-- Block g holds these two cells. -/
def Rv (w : World) (g : Nat) (x y : Value) : Prop := w.heap[g]? = some (.cells #[x, y] 29)
theorem Rv.c0 {w : World} {g : Nat} {x y : Value} (h : Rv w g x y) : w.cell? ⟨g, 0, none⟩ = some x := cell_of_row w g 0 _ _ _ h
theorem Rv.c1 {w : World} {g : Nat} {x y : Value} (h : Rv w g x y) : w.cell? ⟨g, 1, none⟩ = some y := cell_of_row w g 1 _ _ _ h
theorem Rv.fz {w : World} {g : Nat} {x y : Value} (h : Rv w g x y) (j : Nat) : w.frozen? ⟨g, j, none⟩ = false := frozen_of_row w g j _ _ h
theorem Rv.lt {w : World} {g : Nat} {x y : Value} (h : Rv w g x y) : g < w.heap.size := (Array.getElem?_eq_some_iff.1 h).1
theorem Rv.new (w : World) (x y : Value) : Rv (w.alloc (.cells #[x, y] 29)) w.heap.size x y := heap_alloc_new w _
theorem Rv.new' {w : World} {g : Nat} (hg : g = w.heap.size) (x y : Value) : Rv (w.alloc (.cells #[x, y] 29)) g x y := by subst hg; exact heap_alloc_new w _
theorem Rv.alloc {w : World} {g : Nat} {x y : Value} (h : Rv w g x y) (o : Obj) : Rv (w.alloc o) g x y := (Below.heap_alloc w o g h.lt).trans h
theorem Rv.later {w w' : World} {g : Nat} {x y : Value} (h : Rv w g x y) (hb : Below w.heap.size w w') : Rv w' g x y := (hb.block g h.lt).trans h
theorem Rv.set {w : World} {g : Nat} {x y : Value} (h : Rv w g x y) (x' y' : Value) : Rv ((w.setCell ⟨g, 0, none⟩ x').setCell ⟨g, 1, none⟩ y') g x' y' := by
  have e0 := heap_setCell_same w g 0 _ _ x' h
  have e1 := heap_setCell_same _ g 1 _ _ y' e0
  unfold Rv
  rw [e1]
  simp
theorem Rv.other {w : World} {g g' : Nat} {x y : Value} (h : Rv w g x y) (hne : g ≠ g') (j : Nat) (v : Value) : Rv (w.setCell ⟨g', j, none⟩ v) g x y := by
  unfold Rv; rw [heap_setCell_other _ _ _ _ hne]; exact h
theorem results_iv {fn : Func} {p : Tmp} (h : fn.results = #[.cell p 29]) (tmps : Array Value) (w : World) (g : Nat) (x y : Value)
    (hp : tmps.getD p undef = .pointer (some ⟨g, 0, none⟩)) (hg : Rv w g x y) : (results fn tmps).run Tryd.prog w = .ok (.agg #[x, y]) w :=
  results_cell_row h tmps w g _ _ _ _ hp hg Tryd.underlying29 rfl (by kernel_rfl)
/-- A row of one's own, of these intervals. -/
def OwnV (w : World) (B : Nat) (v : Value) (rs : List Sg) : Prop := w.ownsRow B 29 2 v rs.length (cs rs)
theorem OwnV.row {w : World} {B : Nat} {v : Value} {rs : List Sg} (h : OwnV w B v rs) : SgAt w v rs := by
  rcases h.2 with ⟨h1, h2⟩ | ⟨g, cap, cur, h1, _, h3, h4, _⟩
  · obtain rfl : rs = [] := List.eq_nil_of_length_eq_zero h2
    rw [h1]; exact SgAt.nil w
  · refine ⟨some ⟨g, 0, none⟩, cap, h1, h4, (fun e => by cases e), fun i r hr => ⟨g, 0, rfl, ?_⟩⟩
    have hg := World.ownsRow.cells h (g := g) (by rw [h1]; rfl)
    obtain ⟨e1, e2⟩ := cs_get hr
    have f1 := hg _ _ e1
    have f2 := hg _ _ e2
    rw [addr_add7] at f1 f2
    rw [Nat.add_assoc]
    exact ⟨f1, f2⟩
theorem OwnV.later {w w' : World} {B : Nat} {v : Value} {rs : List Sg} (h : OwnV w B v rs) (hb : Below w.heap.size w w') : OwnV w' B v rs := by
  refine ⟨h.1, h.2.imp id ?_⟩
  rintro ⟨g, cap, cur, h1, h2, h3, h4⟩
  exact ⟨g, cap, cur, h1, h2, (hb.block g (Array.getElem?_eq_some_iff.1 h3).1).trans h3, h4⟩
theorem OwnV.nil (w : World) (B : Nat) : OwnV w B (.slice none 0 0) [] := World.ownsRow_nil _ _ _ _
theorem own_shapeV {w : World} {B : Nat} {v : Value} {rs : List Sg} (h : OwnV w B v rs) : ∃ a cap, v = .slice a rs.length cap ∧ rs.length ≤ cap ∧ (rs ≠ [] → ∃ g, a = some ⟨g, 0, none⟩) := by
  rcases h.2 with ⟨h1, h2⟩ | ⟨g, cap, cur, h1, _, _, h4, _⟩
  · exact ⟨none, 0, by rw [h1, h2], by omega, fun hne => absurd (List.eq_nil_of_length_eq_zero h2) hne⟩
  · exact ⟨_, _, h1, h4, fun _ => ⟨g, rfl⟩⟩
theorem two_newV (w : World) (x y : Value) (e : TypeId) : ∀ (j : Nat) (u : Value), ([x, y] : List Value)[j]? = some u → (w.alloc (.cells #[x, y] e)).cell? ((⟨w.heap.size, 0, none⟩ : Addr).add j) = some u := by
  intro j u h
  rw [addr_add7, World.cell?_alloc_new]
  match j, h with
  | 0, h => simpa using h
  | 1, h => simpa using h
theorem two_newV' {w : World} {g : Nat} (hg : g = w.heap.size) (x y : Value) (e : TypeId) : ∀ (j : Nat) (u : Value), ([x, y] : List Value)[j]? = some u → (w.alloc (.cells #[x, y] e)).cell? ((⟨g, 0, none⟩ : Addr).add j) = some u := by
  subst hg; exact two_newV w x y e
end Go.Proofs.YtmgjfmgkmlfjeaaDoor
