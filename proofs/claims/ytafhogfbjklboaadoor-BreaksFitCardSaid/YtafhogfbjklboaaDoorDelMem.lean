/- Elements, changes in memory: rows of two numbers and a text. -/
import Derived.Test.YtafhogfbjklboaaDoorRows
import Derived.Test.YtafhogfbjklboaaDoorDelBuild
import Derived.Test.YtafhogfbjklboaaDoorRefEdge
import Derived.Test.YtafhogfbjklboaaDoorSubMem
namespace Go.Proofs.YtafhogfbjklboaaDoor
open Go.RowKit Go.Sort
set_option linter.unusedSimpArgs false
set_option linter.unusedVariables false

theorem Tryd.info_el : (Tryd.prog.info? 55).map (fun i => (i.zero, i.size, i.bytes)) = some (some (.agg #[.int .i64 0, .int .i64 0, .string ⟨#[]⟩]), 3, 32) := by kernel_rfl
theorem cacc_toList (l : List UInt8) : (cacc l).data.toList = l := rfl
theorem cacc_of (s : ByteArray) : s = cacc s.data.toList := (cacc_bytes s).symm
/-- Elements as cells. -/
def c3 (es : List El) : List Value := es.flatMap fun e => [.int .i64 e.1, .int .i64 e.2.1, .string (cacc e.2.2)]
theorem c3_nil : c3 [] = [] := rfl
theorem c3_append (a b : List El) : c3 (a ++ b) = c3 a ++ c3 b := by simp [c3]
theorem c3_one (e : El) : c3 [e] = [.int .i64 e.1, .int .i64 e.2.1, .string (cacc e.2.2)] := by simp [c3]
theorem c3_cons (e : El) (es : List El) : c3 (e :: es) = .int .i64 e.1 :: .int .i64 e.2.1 :: .string (cacc e.2.2) :: c3 es := by simp [c3]
theorem c3_length (es : List El) : (c3 es).length = es.length * 3 := by
  induction es with
  | nil => rfl
  | cons e es ih => rw [c3_cons]; simp [ih]; omega
theorem c3_get : ∀ {es : List El} {i : Nat} {e : El}, es[i]? = some e → (c3 es)[i * 3]? = some (.int .i64 e.1) ∧ (c3 es)[i * 3 + 1]? = some (.int .i64 e.2.1) ∧ (c3 es)[i * 3 + 2]? = some (.string (cacc e.2.2))
  | q :: es, 0, e, h => by simp at h; subst h; rw [c3_cons]; simp
  | q :: es, i + 1, e, h => by
    have ih := c3_get (es := es) (i := i) (e := e) (by simpa using h)
    rw [c3_cons, show (i + 1) * 3 = i * 3 + 1 + 1 + 1 from by omega]
    refine ⟨?_, ?_, ?_⟩
    · simpa using ih.1
    · rw [show i * 3 + 1 + 1 + 1 + 1 = (i * 3 + 1) + 1 + 1 + 1 from rfl]; simpa using ih.2.1
    · rw [show i * 3 + 1 + 1 + 1 + 2 = (i * 3 + 2) + 1 + 1 + 1 from by omega]; simpa using ih.2.2
theorem c3_oneCell {es : List El} : ∀ u ∈ c3 es, u.oneCell' = true := by
  intro u hu
  simp only [c3, List.mem_flatMap] at hu
  obtain ⟨r, _, hu⟩ := hu
  simp at hu
  rcases hu with rfl | rfl | rfl <;> rfl
/-- Elements lie in memory. -/
def ElAt (w : World) (v : Value) (es : List El) : Prop :=
  ∃ a cap, v = .slice a es.length cap ∧ es.length ≤ cap ∧ (a = none → cap = 0) ∧ ∀ i e, es[i]? = some e → ∃ g off, a = some ⟨g, off, none⟩ ∧ w.cell? ⟨g, off + i * 3, none⟩ = some (.int .i64 e.1) ∧ w.cell? ⟨g, off + i * 3 + 1, none⟩ = some (.int .i64 e.2.1) ∧ w.cell? ⟨g, off + i * 3 + 2, none⟩ = some (.string (cacc e.2.2))
theorem ElAt.later {w w' : World} {v : Value} {es : List El} (h : ElAt w v es) (hb : Below w.heap.size w w') : ElAt w' v es := by
  obtain ⟨a, cap, e, hc, hn, h⟩ := h
  refine ⟨a, cap, e, hc, hn, fun i r hr => ?_⟩
  obtain ⟨g, off, ea, h1, h2, h3⟩ := h i r hr
  exact ⟨g, off, ea, cell_later7 hb (Nat.le_refl _) h1, cell_later7 hb (Nat.le_refl _) h2, cell_later7 hb (Nat.le_refl _) h3⟩
theorem ElAt.nil (w : World) : ElAt w (.slice none 0 0) [] := ⟨none, 0, rfl, Nat.le_refl _, fun _ => rfl, fun i r h => by simp at h⟩
theorem ElAt.alloc {w : World} {v : Value} {es : List El} (h : ElAt w v es) (o : Obj) : ElAt (w.alloc o) v es := h.later ((Below.refl _ _).alloc (Nat.le_refl _) o)
theorem el_lit (W : World) (es : List El) (cells : Array Value) (e : TypeId) (hc : cells.toList = c3 es) (n : Nat) (hn : n = es.length) : ElAt (W.alloc (.cells cells e)) (.slice (some ⟨W.heap.size, 0, none⟩) n n) es := by
  subst hn
  refine ⟨some ⟨W.heap.size, 0, none⟩, _, rfl, Nat.le_refl _, (fun e => by cases e), fun i r hr => ⟨W.heap.size, 0, rfl, ?_⟩⟩
  obtain ⟨q0, q1, q2⟩ := c3_get hr
  rw [← hc] at q0 q1 q2
  refine ⟨?_, ?_, ?_⟩
  · rw [World.cell?_alloc_new, Nat.zero_add]; simpa using q0
  · rw [World.cell?_alloc_new, Nat.zero_add]; simpa using q1
  · rw [World.cell?_alloc_new, Nat.zero_add]; simpa using q2
/-- A row of one's own, of these elements. -/
def OwnE (w : World) (B : Nat) (v : Value) (es : List El) : Prop := w.ownsRow B 55 3 v es.length (c3 es)
theorem OwnE.row {w : World} {B : Nat} {v : Value} {es : List El} (h : OwnE w B v es) : ElAt w v es := by
  rcases h.2 with ⟨h1, h2⟩ | ⟨g, cap, cur, h1, _, h3, h4, _⟩
  · obtain rfl : es = [] := List.eq_nil_of_length_eq_zero h2
    rw [h1]; exact ElAt.nil w
  · refine ⟨some ⟨g, 0, none⟩, cap, h1, h4, (fun e => by cases e), fun i r hr => ⟨g, 0, rfl, ?_⟩⟩
    have hg := World.ownsRow.cells h (g := g) (by rw [h1]; rfl)
    obtain ⟨e1, e2, e3⟩ := c3_get hr
    have f1 := hg _ _ e1
    have f2 := hg _ _ e2
    have f3 := hg _ _ e3
    rw [addr_add7] at f1 f2 f3
    rw [Nat.add_assoc, Nat.add_assoc]
    exact ⟨f1, f2, f3⟩
theorem OwnE.later {w w' : World} {B : Nat} {v : Value} {es : List El} (h : OwnE w B v es) (hb : Below w.heap.size w w') : OwnE w' B v es := by
  refine ⟨h.1, h.2.imp id ?_⟩
  rintro ⟨g, cap, cur, h1, h2, h3, h4⟩
  exact ⟨g, cap, cur, h1, h2, (hb.block g (Array.getElem?_eq_some_iff.1 h3).1).trans h3, h4⟩
theorem OwnE.nil (w : World) (B : Nat) : OwnE w B (.slice none 0 0) [] := World.ownsRow_nil _ _ _ _
theorem OwnE.alloc {w : World} {B : Nat} {v : Value} {es : List El} (h : OwnE w B v es) (o : Obj) : OwnE (w.alloc o) B v es := World.ownsRow.alloc h o
theorem own_shapeE {w : World} {B : Nat} {v : Value} {es : List El} (h : OwnE w B v es) : ∃ a cap, v = .slice a es.length cap ∧ es.length ≤ cap ∧ (es ≠ [] → ∃ g, a = some ⟨g, 0, none⟩) := by
  rcases h.2 with ⟨h1, h2⟩ | ⟨g, cap, cur, h1, _, _, h4, _⟩
  · exact ⟨none, 0, by rw [h1, h2], by omega, fun hne => absurd (List.eq_nil_of_length_eq_zero h2) hne⟩
  · exact ⟨_, _, h1, h4, fun _ => ⟨g, rfl⟩⟩
theorem three_newE (w : World) (x y z : Value) (e : TypeId) : ∀ (j : Nat) (u : Value), ([x, y, z] : List Value)[j]? = some u → (w.alloc (.cells #[x, y, z] e)).cell? ((⟨w.heap.size, 0, none⟩ : Addr).add j) = some u := by
  intro j u h
  rw [addr_add7, World.cell?_alloc_new]
  match j, h with
  | 0, h => simpa using h
  | 1, h => simpa using h
  | 2, h => simpa using h
theorem three_newE' {w : World} {g : Nat} (hg : g = w.heap.size) (x y z : Value) (e : TypeId) : ∀ (j : Nat) (u : Value), ([x, y, z] : List Value)[j]? = some u → (w.alloc (.cells #[x, y, z] e)).cell? ((⟨g, 0, none⟩ : Addr).add j) = some u := by
  subst hg; exact three_newE w x y z e
/-- Block g holds an element's three cells. -/
def Re (w : World) (g : Nat) (x y z : Value) : Prop := w.heap[g]? = some (.cells #[x, y, z] 55)
theorem Re.c0 {w : World} {g : Nat} {x y z : Value} (h : Re w g x y z) : w.cell? ⟨g, 0, none⟩ = some x := cell_of_row w g 0 _ _ _ h
theorem Re.c1 {w : World} {g : Nat} {x y z : Value} (h : Re w g x y z) : w.cell? ⟨g, 1, none⟩ = some y := cell_of_row w g 1 _ _ _ h
theorem Re.c2 {w : World} {g : Nat} {x y z : Value} (h : Re w g x y z) : w.cell? ⟨g, 2, none⟩ = some z := cell_of_row w g 2 _ _ _ h
theorem Re.lt {w : World} {g : Nat} {x y z : Value} (h : Re w g x y z) : g < w.heap.size := (Array.getElem?_eq_some_iff.1 h).1
theorem Re.new (w : World) (x y z : Value) : Re (w.alloc (.cells #[x, y, z] 55)) w.heap.size x y z := heap_alloc_new w _
theorem Re.new' {w : World} {g : Nat} (hg : g = w.heap.size) (x y z : Value) : Re (w.alloc (.cells #[x, y, z] 55)) g x y z := by subst hg; exact heap_alloc_new w _
theorem Re.alloc {w : World} {g : Nat} {x y z : Value} (h : Re w g x y z) (o : Obj) : Re (w.alloc o) g x y z := (Below.heap_alloc w o g h.lt).trans h
theorem Re.later {w w' : World} {g : Nat} {x y z : Value} (h : Re w g x y z) (hb : Below w.heap.size w w') : Re w' g x y z := (hb.block g h.lt).trans h
/-- Block g holds a delta's two cells. -/
def Rd (w : World) (g : Nat) (x y : Value) : Prop := w.heap[g]? = some (.cells #[x, y] 25)
theorem Rd.c0 {w : World} {g : Nat} {x y : Value} (h : Rd w g x y) : w.cell? ⟨g, 0, none⟩ = some x := cell_of_row w g 0 _ _ _ h
theorem Rd.c1 {w : World} {g : Nat} {x y : Value} (h : Rd w g x y) : w.cell? ⟨g, 1, none⟩ = some y := cell_of_row w g 1 _ _ _ h
theorem Rd.fz {w : World} {g : Nat} {x y : Value} (h : Rd w g x y) (j : Nat) : w.frozen? ⟨g, j, none⟩ = false := frozen_of_row w g j _ _ h
theorem Rd.lt {w : World} {g : Nat} {x y : Value} (h : Rd w g x y) : g < w.heap.size := (Array.getElem?_eq_some_iff.1 h).1
theorem Rd.new (w : World) (x y : Value) : Rd (w.alloc (.cells #[x, y] 25)) w.heap.size x y := heap_alloc_new w _
theorem Rd.new' {w : World} {g : Nat} (hg : g = w.heap.size) (x y : Value) : Rd (w.alloc (.cells #[x, y] 25)) g x y := by subst hg; exact heap_alloc_new w _
theorem Rd.alloc {w : World} {g : Nat} {x y : Value} (h : Rd w g x y) (o : Obj) : Rd (w.alloc o) g x y := (Below.heap_alloc w o g h.lt).trans h
theorem Rd.later {w w' : World} {g : Nat} {x y : Value} (h : Rd w g x y) (hb : Below w.heap.size w w') : Rd w' g x y := (hb.block g h.lt).trans h
theorem Rd.set {w : World} {g : Nat} {x y : Value} (h : Rd w g x y) (x' y' : Value) : Rd ((w.setCell ⟨g, 0, none⟩ x').setCell ⟨g, 1, none⟩ y') g x' y' := by
  have e0 := heap_setCell_same w g 0 _ _ x' h
  have e1 := heap_setCell_same _ g 1 _ _ y' e0
  unfold Rd
  rw [e1]
  simp
theorem Rd.set1 {w : World} {g : Nat} {x y : Value} (h : Rd w g x y) (y' : Value) : Rd (w.setCell ⟨g, 1, none⟩ y') g x y' := by
  have e1 := heap_setCell_same w g 1 _ _ y' h
  unfold Rd
  rw [e1]
  simp
theorem Rd.set0 {w : World} {g : Nat} {x y : Value} (h : Rd w g x y) (x' : Value) : Rd (w.setCell ⟨g, 0, none⟩ x') g x' y := by
  have e1 := heap_setCell_same w g 0 _ _ x' h
  unfold Rd
  rw [e1]
  simp
theorem results_del {fn : Func} {p : Tmp} (h : fn.results = #[.cell p 25]) (tmps : Array Value) (w : World) (g : Nat) (x y : Value)
    (hp : tmps.getD p undef = .pointer (some ⟨g, 0, none⟩)) (hg : Rd w g x y) : (results fn tmps).run Tryd.prog w = .ok (.agg #[x, y]) w :=
  results_cell_row h tmps w g _ _ _ _ hp hg Tryd.underlying25 rfl (by kernel_rfl)
/-- An element, a delta as values. -/
abbrev elv (e : El) : Value := .agg #[.int .i64 e.1, .int .i64 e.2.1, .string (cacc e.2.2)]
abbrev dev (base : Int) (v : Value) : Value := .agg #[.int .i64 base, v]
end Go.Proofs.YtafhogfbjklboaaDoor
