/- Spans in memory: rows of three numbers (api.Span, and the program's parts). -/
import Derived.Test.YtmgjfmgkmlfjeaaDoorRows
import Derived.Test.YtmgjfmgkmlfjeaaDoorSubMem
import Derived.Test.YtmgjfmgkmlfjeaaDoorIvMem
import Derived.Test.YtmgjfmgkmlfjeaaDoorSpMath
namespace Go.Proofs.YtmgjfmgkmlfjeaaDoor
open Go.RowKit Go.Sort
set_option linter.unusedSimpArgs false
set_option linter.unusedVariables false

theorem Tryd.info_sp : (Tryd.prog.info? 24).map (fun i => (i.zero, i.size, i.bytes)) = some (some (.agg #[.int .i64 0, .int .i64 0, .int .i64 0]), 3, 24) := by kernel_rfl
theorem Tryd.info_pt : (Tryd.prog.info? 57).map (fun i => (i.zero, i.size, i.bytes)) = some (some (.agg #[.int .i64 0, .int .i64 0, .int .i64 0]), 3, 24) := by kernel_rfl
/-- A span, a part as a value. -/
abbrev spv (e : Sp) : Value := .agg #[.int .i64 e.1, .int .i64 e.2.1, .int .i64 e.2.2]
/-- Spans as cells. -/
def t3 (es : List Sp) : List Value := es.flatMap fun e => [.int .i64 e.1, .int .i64 e.2.1, .int .i64 e.2.2]
theorem t3_nil : t3 [] = [] := rfl
theorem t3_append (a b : List Sp) : t3 (a ++ b) = t3 a ++ t3 b := by simp [t3]
theorem t3_one (e : Sp) : t3 [e] = [.int .i64 e.1, .int .i64 e.2.1, .int .i64 e.2.2] := by simp [t3]
theorem t3_cons (e : Sp) (es : List Sp) : t3 (e :: es) = .int .i64 e.1 :: .int .i64 e.2.1 :: .int .i64 e.2.2 :: t3 es := by simp [t3]
theorem t3_length (es : List Sp) : (t3 es).length = es.length * 3 := by
  induction es with
  | nil => rfl
  | cons e es ih => rw [t3_cons]; simp [ih]; omega
theorem t3_get : ∀ {es : List Sp} {i : Nat} {e : Sp}, es[i]? = some e → (t3 es)[i * 3]? = some (.int .i64 e.1) ∧ (t3 es)[i * 3 + 1]? = some (.int .i64 e.2.1) ∧ (t3 es)[i * 3 + 2]? = some (.int .i64 e.2.2)
  | q :: es, 0, e, h => by simp at h; subst h; rw [t3_cons]; simp
  | q :: es, i + 1, e, h => by
    have ih := t3_get (es := es) (i := i) (e := e) (by simpa using h)
    rw [t3_cons, show (i + 1) * 3 = i * 3 + 1 + 1 + 1 from by omega]
    refine ⟨?_, ?_, ?_⟩
    · simpa using ih.1
    · rw [show i * 3 + 1 + 1 + 1 + 1 = (i * 3 + 1) + 1 + 1 + 1 from rfl]; simpa using ih.2.1
    · rw [show i * 3 + 1 + 1 + 1 + 2 = (i * 3 + 2) + 1 + 1 + 1 from by omega]; simpa using ih.2.2
theorem t3_oneCell {es : List Sp} : ∀ u ∈ t3 es, u.oneCell' = true := by
  intro u hu
  simp only [t3, List.mem_flatMap] at hu
  obtain ⟨r, _, hu⟩ := hu
  simp at hu
  rcases hu with rfl | rfl | rfl <;> rfl
/-- Spans lie in memory. -/
def SpAt (w : World) (v : Value) (es : List Sp) : Prop :=
  ∃ a cap, v = .slice a es.length cap ∧ es.length ≤ cap ∧ (a = none → cap = 0) ∧ ∀ i e, es[i]? = some e → ∃ g off, a = some ⟨g, off, none⟩ ∧ w.cell? ⟨g, off + i * 3, none⟩ = some (.int .i64 e.1) ∧ w.cell? ⟨g, off + i * 3 + 1, none⟩ = some (.int .i64 e.2.1) ∧ w.cell? ⟨g, off + i * 3 + 2, none⟩ = some (.int .i64 e.2.2)
theorem SpAt.later {w w' : World} {v : Value} {es : List Sp} (h : SpAt w v es) (hb : Below w.heap.size w w') : SpAt w' v es := by
  obtain ⟨a, cap, e, hc, hn, h⟩ := h
  refine ⟨a, cap, e, hc, hn, fun i r hr => ?_⟩
  obtain ⟨g, off, ea, h1, h2, h3⟩ := h i r hr
  exact ⟨g, off, ea, cell_later7 hb (Nat.le_refl _) h1, cell_later7 hb (Nat.le_refl _) h2, cell_later7 hb (Nat.le_refl _) h3⟩
theorem SpAt.nil (w : World) : SpAt w (.slice none 0 0) [] := ⟨none, 0, rfl, Nat.le_refl _, fun _ => rfl, fun i r h => by simp at h⟩
theorem SpAt.alloc {w : World} {v : Value} {es : List Sp} (h : SpAt w v es) (o : Obj) : SpAt (w.alloc o) v es := h.later ((Below.refl _ _).alloc (Nat.le_refl _) o)
theorem SpAt.shape {w : World} {v : Value} {es : List Sp} (h : SpAt w v es) : ∃ a cap, v = .slice a es.length cap := by obtain ⟨a, cap, e, _⟩ := h; exact ⟨a, cap, e⟩
theorem SpAt.det {w : World} {v : Value} {es es' : List Sp} (h : SpAt w v es) (h' : SpAt w v es') : es = es' := by
  obtain ⟨a, cap, e, _, _, h1⟩ := h
  obtain ⟨a', cap', e', _, _, h2⟩ := h'
  rw [e] at e'
  obtain ⟨ha, hl, _⟩ := Value.slice.inj e'
  subst ha
  apply List.ext_getElem?
  intro i
  by_cases hi : i < es.length
  · obtain ⟨x, hx⟩ : ∃ x, es[i]? = some x := ⟨es[i], List.getElem?_eq_getElem hi⟩
    obtain ⟨y, hy⟩ : ∃ y, es'[i]? = some y := ⟨es'[i], List.getElem?_eq_getElem (by omega)⟩
    obtain ⟨g, off, ea, p1, p2, p3⟩ := h1 i x hx
    obtain ⟨g', off', ea', q1, q2, q3⟩ := h2 i y hy
    rw [ea] at ea'
    cases ea'
    rw [p1] at q1; rw [p2] at q2; rw [p3] at q3
    obtain ⟨x1, x2, x3⟩ := x
    obtain ⟨y1, y2, y3⟩ := y
    simp only [Option.some.injEq, Value.int.injEq, true_and] at q1 q2 q3
    rw [hx, hy, q1, q2, q3]
  · rw [List.getElem?_eq_none (by omega), List.getElem?_eq_none (by omega)]
/-- A row of one's own, of these spans. -/
def OwnP (ty : TypeId) (w : World) (B : Nat) (v : Value) (es : List Sp) : Prop := w.ownsRow B ty 3 v es.length (t3 es)
theorem OwnP.row {ty : TypeId} {w : World} {B : Nat} {v : Value} {es : List Sp} (h : OwnP ty w B v es) : SpAt w v es := by
  rcases h.2 with ⟨h1, h2⟩ | ⟨g, cap, cur, h1, _, h3, h4, _⟩
  · obtain rfl : es = [] := List.eq_nil_of_length_eq_zero h2
    rw [h1]; exact SpAt.nil w
  · refine ⟨some ⟨g, 0, none⟩, cap, h1, h4, (fun e => by cases e), fun i r hr => ⟨g, 0, rfl, ?_⟩⟩
    have hg := World.ownsRow.cells h (g := g) (by rw [h1]; rfl)
    obtain ⟨e1, e2, e3⟩ := t3_get hr
    have f1 := hg _ _ e1
    have f2 := hg _ _ e2
    have f3 := hg _ _ e3
    rw [addr_add7] at f1 f2 f3
    rw [Nat.add_assoc, Nat.add_assoc]
    exact ⟨f1, f2, f3⟩
theorem OwnP.later {ty : TypeId} {w w' : World} {B : Nat} {v : Value} {es : List Sp} (h : OwnP ty w B v es) (hb : Below w.heap.size w w') : OwnP ty w' B v es := by
  refine ⟨h.1, h.2.imp id ?_⟩
  rintro ⟨g, cap, cur, h1, h2, h3, h4⟩
  exact ⟨g, cap, cur, h1, h2, (hb.block g (Array.getElem?_eq_some_iff.1 h3).1).trans h3, h4⟩
theorem OwnP.nil (ty : TypeId) (w : World) (B : Nat) : OwnP ty w B (.slice none 0 0) [] := World.ownsRow_nil _ _ _ _
theorem OwnP.alloc {ty : TypeId} {w : World} {B : Nat} {v : Value} {es : List Sp} (h : OwnP ty w B v es) (o : Obj) : OwnP ty (w.alloc o) B v es := World.ownsRow.alloc h o
theorem own_shapeP {ty : TypeId} {w : World} {B : Nat} {v : Value} {es : List Sp} (h : OwnP ty w B v es) : ∃ a cap, v = .slice a es.length cap ∧ es.length ≤ cap ∧ (es ≠ [] → ∃ g, a = some ⟨g, 0, none⟩) := by
  rcases h.2 with ⟨h1, h2⟩ | ⟨g, cap, cur, h1, _, _, h4, _⟩
  · exact ⟨none, 0, by rw [h1, h2], by omega, fun hne => absurd (List.eq_nil_of_length_eq_zero h2) hne⟩
  · exact ⟨_, _, h1, h4, fun _ => ⟨g, rfl⟩⟩
/-- Block g holds these three cells, of this type. -/
def Rt (ty : TypeId) (w : World) (g : Nat) (x y z : Value) : Prop := w.heap[g]? = some (.cells #[x, y, z] ty)
theorem Rt.c0 {ty : TypeId} {w : World} {g : Nat} {x y z : Value} (h : Rt ty w g x y z) : w.cell? ⟨g, 0, none⟩ = some x := cell_of_row w g 0 _ _ _ h
theorem Rt.c1 {ty : TypeId} {w : World} {g : Nat} {x y z : Value} (h : Rt ty w g x y z) : w.cell? ⟨g, 1, none⟩ = some y := cell_of_row w g 1 _ _ _ h
theorem Rt.c2 {ty : TypeId} {w : World} {g : Nat} {x y z : Value} (h : Rt ty w g x y z) : w.cell? ⟨g, 2, none⟩ = some z := cell_of_row w g 2 _ _ _ h
theorem Rt.fz {ty : TypeId} {w : World} {g : Nat} {x y z : Value} (h : Rt ty w g x y z) (j : Nat) : w.frozen? ⟨g, j, none⟩ = false := frozen_of_row w g j _ _ h
theorem Rt.lt {ty : TypeId} {w : World} {g : Nat} {x y z : Value} (h : Rt ty w g x y z) : g < w.heap.size := (Array.getElem?_eq_some_iff.1 h).1
theorem Rt.new (ty : TypeId) (w : World) (x y z : Value) : Rt ty (w.alloc (.cells #[x, y, z] ty)) w.heap.size x y z := heap_alloc_new w _
theorem Rt.new' {ty : TypeId} {w : World} {g : Nat} (hg : g = w.heap.size) (x y z : Value) : Rt ty (w.alloc (.cells #[x, y, z] ty)) g x y z := by subst hg; exact heap_alloc_new w _
theorem Rt.alloc {ty : TypeId} {w : World} {g : Nat} {x y z : Value} (h : Rt ty w g x y z) (o : Obj) : Rt ty (w.alloc o) g x y z := (Below.heap_alloc w o g h.lt).trans h
theorem Rt.later {ty : TypeId} {w w' : World} {g : Nat} {x y z : Value} (h : Rt ty w g x y z) (hb : Below w.heap.size w w') : Rt ty w' g x y z := (hb.block g h.lt).trans h
theorem Rt.set0 {ty : TypeId} {w : World} {g : Nat} {x y z : Value} (h : Rt ty w g x y z) (x' : Value) : Rt ty (w.setCell ⟨g, 0, none⟩ x') g x' y z := by
  have e1 := heap_setCell_same w g 0 _ _ x' h
  unfold Rt
  rw [e1]
  simp
theorem Rt.set1 {ty : TypeId} {w : World} {g : Nat} {x y z : Value} (h : Rt ty w g x y z) (y' : Value) : Rt ty (w.setCell ⟨g, 1, none⟩ y') g x y' z := by
  have e1 := heap_setCell_same w g 1 _ _ y' h
  unfold Rt
  rw [e1]
  simp
theorem Rt.set2 {ty : TypeId} {w : World} {g : Nat} {x y z : Value} (h : Rt ty w g x y z) (z' : Value) : Rt ty (w.setCell ⟨g, 2, none⟩ z') g x y z' := by
  have e1 := heap_setCell_same w g 2 _ _ z' h
  unfold Rt
  rw [e1]
  simp
theorem Rt.set {ty : TypeId} {w : World} {g : Nat} {x y z : Value} (h : Rt ty w g x y z) (x' y' z' : Value) : Rt ty (((w.setCell ⟨g, 0, none⟩ x').setCell ⟨g, 1, none⟩ y').setCell ⟨g, 2, none⟩ z') g x' y' z' := ((h.set0 x').set1 y').set2 z'
theorem Rt.other {ty : TypeId} {w : World} {g g' : Nat} {x y z : Value} (h : Rt ty w g x y z) (hne : g ≠ g') (j : Nat) (v : Value) : Rt ty (w.setCell ⟨g', j, none⟩ v) g x y z := by
  unfold Rt; rw [heap_setCell_other _ _ _ _ hne]; exact h
theorem sp_lit (W : World) (es : List Sp) (cells : Array Value) (e : TypeId) (hc : cells.toList = t3 es) (n : Nat) (hn : n = es.length) : SpAt (W.alloc (.cells cells e)) (.slice (some ⟨W.heap.size, 0, none⟩) n n) es := by
  subst hn
  refine ⟨some ⟨W.heap.size, 0, none⟩, _, rfl, Nat.le_refl _, (fun e => by cases e), fun i r hr => ⟨W.heap.size, 0, rfl, ?_⟩⟩
  obtain ⟨q0, q1, q2⟩ := t3_get hr
  rw [← hc] at q0 q1 q2
  refine ⟨?_, ?_, ?_⟩
  · rw [World.cell?_alloc_new, Nat.zero_add]; simpa using q0
  · rw [World.cell?_alloc_new, Nat.zero_add]; simpa using q1
  · rw [World.cell?_alloc_new, Nat.zero_add]; simpa using q2
theorem results_sp {fn : Func} {p : Tmp} (h : fn.results = #[.cell p 24]) (tmps : Array Value) (w : World) (g : Nat) (x y z : Value)
    (hp : tmps.getD p undef = .pointer (some ⟨g, 0, none⟩)) (hg : Rt 24 w g x y z) : (results fn tmps).run Tryd.prog w = .ok (.agg #[x, y, z]) w :=
  results_cell_row h tmps w g _ _ _ _ hp hg Tryd.underlying24 rfl (by kernel_rfl)
end Go.Proofs.YtmgjfmgkmlfjeaaDoor
