/- Spans in memory: rows of three numbers (api.Span, and the program's parts). The program's small functions on spans. rowOf, spansOf. isLeast, at. -/
import Derived.Test.YtmgjfmgkmlfjeaaDoorRows
import Derived.Test.YtmgjfmgkmlfjeaaDoorSubMem
import Derived.Test.YtmgjfmgkmlfjeaaDoorIvMem
import Derived.Test.YtmgjfmgkmlfjeaaDoorSpProg
namespace Go.Proofs.YtmgjfmgkmlfjeaaDoor
open Go.RowKit Go.Sort
set_option linter.unusedSimpArgs false
set_option linter.unusedVariables false

theorem Tryd.info_sp : (Tryd.prog.info? 24).map (fun i => (i.zero, i.size, i.bytes)) = some (some (.agg #[.int .i64 0, .int .i64 0, .int .i64 0]), 3, 24) := by kernel_rfl
theorem Tryd.info_pt : (Tryd.prog.info? 57).map (fun i => (i.zero, i.size, i.bytes)) = some (some (.agg #[.int .i64 0, .int .i64 0, .int .i64 0]), 3, 24) := by kernel_rfl
/-- A span, a part as a value. -/
abbrev spv (e : Sp) : Value := .agg #[.int .i64 e.1, .int .i64 e.2.1, .int .i64 e.2.2]
/-- Spans as cells. -/
def t3 (es : List Sp) : List Value := es.flatMap fun e => [.int .i64 e.1, .int .i64 e.2.1, .int .i64 e.2.2]
theorem t3_nil : t3 [] = [] := rfl
theorem t3_append (a b : List Sp) : t3 (a ++ b) = t3 a ++ t3 b := by simp [t3]
theorem t3_one (e : Sp) : t3 [e] = [.int .i64 e.1, .int .i64 e.2.1, .int .i64 e.2.2] := by simp [t3]
theorem t3_cons (e : Sp) (es : List Sp) : t3 (e :: es) = .int .i64 e.1 :: .int .i64 e.2.1 :: .int .i64 e.2.2 :: t3 es := by simp [t3]
theorem t3_length (es : List Sp) : (t3 es).length = es.length * 3 := by
  induction es with
  | nil => rfl
  | cons e es ih => rw [t3_cons]; simp [ih]; omega
theorem t3_get : ∀ {es : List Sp} {i : Nat} {e : Sp}, es[i]? = some e → (t3 es)[i * 3]? = some (.int .i64 e.1) ∧ (t3 es)[i * 3 + 1]? = some (.int .i64 e.2.1) ∧ (t3 es)[i * 3 + 2]? = some (.int .i64 e.2.2)
  | q :: es, 0, e, h => by simp at h; subst h; rw [t3_cons]; simp
  | q :: es, i + 1, e, h => by
    have ih := t3_get (es := es) (i := i) (e := e) (by simpa using h)
    rw [t3_cons, show (i + 1) * 3 = i * 3 + 1 + 1 + 1 from by omega]
    refine ⟨?_, ?_, ?_⟩
    · simpa using ih.1
    · rw [show i * 3 + 1 + 1 + 1 + 1 = (i * 3 + 1) + 1 + 1 + 1 from rfl]; simpa using ih.2.1
    · rw [show i * 3 + 1 + 1 + 1 + 2 = (i * 3 + 2) + 1 + 1 + 1 from by omega]; simpa using ih.2.2
theorem t3_oneCell {es : List Sp} : ∀ u ∈ t3 es, u.oneCell' = true := by
  intro u hu
  simp only [t3, List.mem_flatMap] at hu
  obtain ⟨r, _, hu⟩ := hu
  simp at hu
  rcases hu with rfl | rfl | rfl <;> rfl
/-- Spans lie in memory. -/
def SpAt (w : World) (v : Value) (es : List Sp) : Prop :=
  ∃ a cap, v = .slice a es.length cap ∧ es.length ≤ cap ∧ (a = none → cap = 0) ∧ ∀ i e, es[i]? = some e → ∃ g off, a = some ⟨g, off, none⟩ ∧ w.cell? ⟨g, off + i * 3, none⟩ = some (.int .i64 e.1) ∧ w.cell? ⟨g, off + i * 3 + 1, none⟩ = some (.int .i64 e.2.1) ∧ w.cell? ⟨g, off + i * 3 + 2, none⟩ = some (.int .i64 e.2.2)
theorem SpAt.later {w w' : World} {v : Value} {es : List Sp} (h : SpAt w v es) (hb : Below w.heap.size w w') : SpAt w' v es := by
  obtain ⟨a, cap, e, hc, hn, h⟩ := h
  refine ⟨a, cap, e, hc, hn, fun i r hr => ?_⟩
  obtain ⟨g, off, ea, h1, h2, h3⟩ := h i r hr
  exact ⟨g, off, ea, cell_later7 hb (Nat.le_refl _) h1, cell_later7 hb (Nat.le_refl _) h2, cell_later7 hb (Nat.le_refl _) h3⟩
theorem SpAt.nil (w : World) : SpAt w (.slice none 0 0) [] := ⟨none, 0, rfl, Nat.le_refl _, fun _ => rfl, fun i r h => by simp at h⟩
theorem SpAt.alloc {w : World} {v : Value} {es : List Sp} (h : SpAt w v es) (o : Obj) : SpAt (w.alloc o) v es := h.later ((Below.refl _ _).alloc (Nat.le_refl _) o)
theorem SpAt.shape {w : World} {v : Value} {es : List Sp} (h : SpAt w v es) : ∃ a cap, v = .slice a es.length cap := by obtain ⟨a, cap, e, _⟩ := h; exact ⟨a, cap, e⟩
theorem SpAt.det {w : World} {v : Value} {es es' : List Sp} (h : SpAt w v es) (h' : SpAt w v es') : es = es' := by
  obtain ⟨a, cap, e, _, _, h1⟩ := h
  obtain ⟨a', cap', e', _, _, h2⟩ := h'
  rw [e] at e'
  obtain ⟨ha, hl, _⟩ := Value.slice.inj e'
  subst ha
  apply List.ext_getElem?
  intro i
  by_cases hi : i < es.length
  · obtain ⟨x, hx⟩ : ∃ x, es[i]? = some x := ⟨es[i], List.getElem?_eq_getElem hi⟩
    obtain ⟨y, hy⟩ : ∃ y, es'[i]? = some y := ⟨es'[i], List.getElem?_eq_getElem (by omega)⟩
    obtain ⟨g, off, ea, p1, p2, p3⟩ := h1 i x hx
    obtain ⟨g', off', ea', q1, q2, q3⟩ := h2 i y hy
    rw [ea] at ea'
    cases ea'
    rw [p1] at q1; rw [p2] at q2; rw [p3] at q3
    obtain ⟨x1, x2, x3⟩ := x
    obtain ⟨y1, y2, y3⟩ := y
    simp only [Option.some.injEq, Value.int.injEq, true_and] at q1 q2 q3
    rw [hx, hy, q1, q2, q3]
  · rw [List.getElem?_eq_none (by omega), List.getElem?_eq_none (by omega)]
/-- A row of one's own, of these spans. -/
def OwnP (ty : TypeId) (w : World) (B : Nat) (v : Value) (es : List Sp) : Prop := w.ownsRow B ty 3 v es.length (t3 es)
theorem OwnP.row {ty : TypeId} {w : World} {B : Nat} {v : Value} {es : List Sp} (h : OwnP ty w B v es) : SpAt w v es := by
  rcases h.2 with ⟨h1, h2⟩ | ⟨g, cap, cur, h1, _, h3, h4, _⟩
  · obtain rfl : es = [] := List.eq_nil_of_length_eq_zero h2
    rw [h1]; exact SpAt.nil w
  · refine ⟨some ⟨g, 0, none⟩, cap, h1, h4, (fun e => by cases e), fun i r hr => ⟨g, 0, rfl, ?_⟩⟩
    have hg := World.ownsRow.cells h (g := g) (by rw [h1]; rfl)
    obtain ⟨e1, e2, e3⟩ := t3_get hr
    have f1 := hg _ _ e1
    have f2 := hg _ _ e2
    have f3 := hg _ _ e3
    rw [addr_add7] at f1 f2 f3
    rw [Nat.add_assoc, Nat.add_assoc]
    exact ⟨f1, f2, f3⟩
theorem OwnP.later {ty : TypeId} {w w' : World} {B : Nat} {v : Value} {es : List Sp} (h : OwnP ty w B v es) (hb : Below w.heap.size w w') : OwnP ty w' B v es := by
  refine ⟨h.1, h.2.imp id ?_⟩
  rintro ⟨g, cap, cur, h1, h2, h3, h4⟩
  exact ⟨g, cap, cur, h1, h2, (hb.block g (Array.getElem?_eq_some_iff.1 h3).1).trans h3, h4⟩
theorem OwnP.nil (ty : TypeId) (w : World) (B : Nat) : OwnP ty w B (.slice none 0 0) [] := World.ownsRow_nil _ _ _ _
theorem OwnP.alloc {ty : TypeId} {w : World} {B : Nat} {v : Value} {es : List Sp} (h : OwnP ty w B v es) (o : Obj) : OwnP ty (w.alloc o) B v es := World.ownsRow.alloc h o
theorem own_shapeP {ty : TypeId} {w : World} {B : Nat} {v : Value} {es : List Sp} (h : OwnP ty w B v es) : ∃ a cap, v = .slice a es.length cap ∧ es.length ≤ cap ∧ (es ≠ [] → ∃ g, a = some ⟨g, 0, none⟩) := by
  rcases h.2 with ⟨h1, h2⟩ | ⟨g, cap, cur, h1, _, _, h4, _⟩
  · exact ⟨none, 0, by rw [h1, h2], by omega, fun hne => absurd (List.eq_nil_of_length_eq_zero h2) hne⟩
  · exact ⟨_, _, h1, h4, fun _ => ⟨g, rfl⟩⟩
/-- Block g holds these three cells, of this type. -/
def Rt (ty : TypeId) (w : World) (g : Nat) (x y z : Value) : Prop := w.heap[g]? = some (.cells #[x, y, z] ty)
theorem Rt.c0 {ty : TypeId} {w : World} {g : Nat} {x y z : Value} (h : Rt ty w g x y z) : w.cell? ⟨g, 0, none⟩ = some x := cell_of_row w g 0 _ _ _ h
theorem Rt.c1 {ty : TypeId} {w : World} {g : Nat} {x y z : Value} (h : Rt ty w g x y z) : w.cell? ⟨g, 1, none⟩ = some y := cell_of_row w g 1 _ _ _ h
theorem Rt.c2 {ty : TypeId} {w : World} {g : Nat} {x y z : Value} (h : Rt ty w g x y z) : w.cell? ⟨g, 2, none⟩ = some z := cell_of_row w g 2 _ _ _ h
theorem Rt.fz {ty : TypeId} {w : World} {g : Nat} {x y z : Value} (h : Rt ty w g x y z) (j : Nat) : w.frozen? ⟨g, j, none⟩ = false := frozen_of_row w g j _ _ h
theorem Rt.lt {ty : TypeId} {w : World} {g : Nat} {x y z : Value} (h : Rt ty w g x y z) : g < w.heap.size := (Array.getElem?_eq_some_iff.1 h).1
theorem Rt.new (ty : TypeId) (w : World) (x y z : Value) : Rt ty (w.alloc (.cells #[x, y, z] ty)) w.heap.size x y z := heap_alloc_new w _
theorem Rt.new' {ty : TypeId} {w : World} {g : Nat} (hg : g = w.heap.size) (x y z : Value) : Rt ty (w.alloc (.cells #[x, y, z] ty)) g x y z := by subst hg; exact heap_alloc_new w _
theorem Rt.alloc {ty : TypeId} {w : World} {g : Nat} {x y z : Value} (h : Rt ty w g x y z) (o : Obj) : Rt ty (w.alloc o) g x y z := (Below.heap_alloc w o g h.lt).trans h
theorem Rt.later {ty : TypeId} {w w' : World} {g : Nat} {x y z : Value} (h : Rt ty w g x y z) (hb : Below w.heap.size w w') : Rt ty w' g x y z := (hb.block g h.lt).trans h
theorem Rt.set0 {ty : TypeId} {w : World} {g : Nat} {x y z : Value} (h : Rt ty w g x y z) (x' : Value) : Rt ty (w.setCell ⟨g, 0, none⟩ x') g x' y z := by
  have e1 := heap_setCell_same w g 0 _ _ x' h
  unfold Rt
  rw [e1]
  simp
theorem Rt.set1 {ty : TypeId} {w : World} {g : Nat} {x y z : Value} (h : Rt ty w g x y z) (y' : Value) : Rt ty (w.setCell ⟨g, 1, none⟩ y') g x y' z := by
  have e1 := heap_setCell_same w g 1 _ _ y' h
  unfold Rt
  rw [e1]
  simp
theorem Rt.set2 {ty : TypeId} {w : World} {g : Nat} {x y z : Value} (h : Rt ty w g x y z) (z' : Value) : Rt ty (w.setCell ⟨g, 2, none⟩ z') g x y z' := by
  have e1 := heap_setCell_same w g 2 _ _ z' h
  unfold Rt
  rw [e1]
  simp
theorem Rt.set {ty : TypeId} {w : World} {g : Nat} {x y z : Value} (h : Rt ty w g x y z) (x' y' z' : Value) : Rt ty (((w.setCell ⟨g, 0, none⟩ x').setCell ⟨g, 1, none⟩ y').setCell ⟨g, 2, none⟩ z') g x' y' z' := ((h.set0 x').set1 y').set2 z'
theorem Rt.other {ty : TypeId} {w : World} {g g' : Nat} {x y z : Value} (h : Rt ty w g x y z) (hne : g ≠ g') (j : Nat) (v : Value) : Rt ty (w.setCell ⟨g', j, none⟩ v) g x y z := by
  unfold Rt; rw [heap_setCell_other _ _ _ _ hne]; exact h
theorem sp_lit (W : World) (es : List Sp) (cells : Array Value) (e : TypeId) (hc : cells.toList = t3 es) (n : Nat) (hn : n = es.length) : SpAt (W.alloc (.cells cells e)) (.slice (some ⟨W.heap.size, 0, none⟩) n n) es := by
  subst hn
  refine ⟨some ⟨W.heap.size, 0, none⟩, _, rfl, Nat.le_refl _, (fun e => by cases e), fun i r hr => ⟨W.heap.size, 0, rfl, ?_⟩⟩
  obtain ⟨q0, q1, q2⟩ := t3_get hr
  rw [← hc] at q0 q1 q2
  refine ⟨?_, ?_, ?_⟩
  · rw [World.cell?_alloc_new, Nat.zero_add]; simpa using q0
  · rw [World.cell?_alloc_new, Nat.zero_add]; simpa using q1
  · rw [World.cell?_alloc_new, Nat.zero_add]; simpa using q2
theorem results_sp {fn : Func} {p : Tmp} (h : fn.results = #[.cell p 24]) (tmps : Array Value) (w : World) (g : Nat) (x y z : Value)
    (hp : tmps.getD p undef = .pointer (some ⟨g, 0, none⟩)) (hg : Rt 24 w g x y z) : (results fn tmps).run Tryd.prog w = .ok (.agg #[x, y, z]) w :=
  results_cell_row h tmps w g _ _ _ _ hp hg Tryd.underlying24 rfl (by kernel_rfl)
end Go.Proofs.YtmgjfmgkmlfjeaaDoor
namespace Go.Proofs.YtmgjfmgkmlfjeaaDoor
open Go.RowKit Go.Sort
set_option linter.unusedSimpArgs false
set_option linter.unusedVariables false

theorem below15 {a w : World} (h : Below a.heap.size a w) (o : Obj) : Below a.heap.size a (w.alloc o) := h.alloc h.size o
theorem ret_bool15 {a b : Bool} (h : a = b) : Ending.returned (.bool a) = .returned (.bool b) := by rw [h]
theorem ret_int15 {a b : Int} (h : a = b) : Ending.returned (.int .i64 a) = .returned (.int .i64 b) := by rw [h]
theorem take15 {L : List Sp} {k : Nat} {r : Sp} (h : L[k]? = some r) : L.take (k + 1) = L.take k ++ [r] := by rw [List.take_add_one, h]; rfl
theorem three15 {w : World} {g : Nat} (hg : g = w.heap.size) (x y z : Value) (e : TypeId) : ∀ (j : Nat) (u : Value), ([x, y, z] : List Value)[j]? = some u → (w.alloc (.cells #[x, y, z] e)).cell? ((⟨g, 0, none⟩ : Addr).add j) = some u := by
  subst hg
  intro j u h
  rw [addr_add7, World.cell?_alloc_new]
  match j, h with
  | 0, h => simpa using h
  | 1, h => simpa using h
  | 2, h => simpa using h
theorem results_pt {fn : Func} {p : Tmp} (h : fn.results = #[.cell p 57]) (tmps : Array Value) (w : World) (g : Nat) (x y z : Value)
    (hp : tmps.getD p undef = .pointer (some ⟨g, 0, none⟩)) (hg : Rt 57 w g x y z) : (results fn tmps).run Tryd.prog w = .ok (.agg #[x, y, z]) w :=
  results_cell_row h tmps w g _ _ _ _ hp hg Tryd.underlying57 rfl (by kernel_rfl)
set_option maxHeartbeats 1000000 in
set_option maxRecDepth 100000 in
theorem sty_any (s : Int) (w : World) : Calls Tryd.prog 31 #[.int .i64 s] w fun e w' => e = .returned (.bool (decide (1 ≤ s ∧ s ≤ 100))) ∧ w' = w := by
  by_cases h1 : 1 ≤ s
  · have d1 : decide (1 ≤ s) = true := decide_eq_true h1
    by_cases h2 : s ≤ 100
    · have d2 : decide (s ≤ 100) = true := decide_eq_true h2
      rw [decide_eq_true (p := 1 ≤ s ∧ s ≤ 100) ⟨h1, h2⟩]
      go_enter Tryd.func31, Tryd.ntmps31
      go_wp2
      go_ret
      exact ⟨rfl, rfl⟩
    · have d2 : decide (s ≤ 100) = false := decide_eq_false h2
      rw [decide_eq_false (p := 1 ≤ s ∧ s ≤ 100) (by omega)]
      go_enter Tryd.func31, Tryd.ntmps31
      go_wp2
      go_ret
      exact ⟨rfl, rfl⟩
  · have d1 : decide (1 ≤ s) = false := decide_eq_false h1
    rw [decide_eq_false (p := 1 ≤ s ∧ s ≤ 100) (by omega)]
    go_enter Tryd.func31, Tryd.ntmps31
    go_wp2
    go_ret
    exact ⟨rfl, rfl⟩
set_option maxHeartbeats 1000000 in
set_option maxRecDepth 100000 in
theorem part_any (f t s : Int) (w : World) : Calls Tryd.prog 22 #[.agg #[.int .i64 f, .int .i64 t, .int .i64 s]] w fun e w' => e = .returned (.agg #[.int .i64 f, .int .i64 t, .int .i64 s]) ∧ Below w.heap.size w w' := by
  go_enter Tryd.func22, Tryd.ntmps22
  go_wp2
  refine bodyPost_ret (results_pt rfl _ _ (w.heap.size + 1) _ _ _ rfl (Rt.new' (by simp) _ _ _)) rfl ⟨rfl, ?_⟩
  exact ((Below.refl _ _).alloc (Nat.le_refl _) _).alloc (by simp) _
set_option maxHeartbeats 1000000 in
set_option maxRecDepth 100000 in
theorem nothing_any (f t s : Int) (w : World) : Calls Tryd.prog 46 #[.agg #[.int .i64 f, .int .i64 t, .int .i64 s]] w fun e w' => e = .returned (.bool (s == 0)) ∧ Below w.heap.size w w' := by
  go_enter Tryd.func46, Tryd.ntmps46
  go_wp2
  go_ret
  exact ⟨rfl, below15 (Below.refl _ _) _⟩
set_option maxHeartbeats 1000000 in
set_option maxRecDepth 100000 in
theorem follows_any (f t s f' t' s' : Int) (w : World) : Calls Tryd.prog 47 #[.agg #[.int .i64 f, .int .i64 t, .int .i64 s], .agg #[.int .i64 f', .int .i64 t', .int .i64 s']] w fun e w' => e = .returned (.bool (decide (f = t' ∧ s = s'))) ∧ Below w.heap.size w w' := by
  by_cases h1 : f = t'
  · have d1 : (f == t') = true := by simpa using h1
    have e : decide (f = t' ∧ s = s') = (s == s') := by
      by_cases h2 : s = s'
      · rw [decide_eq_true ⟨h1, h2⟩]; simp [h2]
      · rw [decide_eq_false (by omega)]; simp [h2]
    rw [e]
    clear e
    go_enter Tryd.func47, Tryd.ntmps47
    go_wp2
    go_ret
    exact ⟨rfl, below15 (below15 (Below.refl _ _) _) _⟩
  · have d1 : (f == t') = false := by simpa using h1
    rw [decide_eq_false (p := f = t' ∧ s = s') (by omega)]
    go_enter Tryd.func47, Tryd.ntmps47
    go_wp2
    go_ret
    exact ⟨rfl, below15 (below15 (Below.refl _ _) _) _⟩
set_option maxHeartbeats 2000000 in
set_option maxRecDepth 100000 in
theorem top_any (f t s : Int) (w : World) : Calls Tryd.prog 19 #[.agg #[.int .i64 f, .int .i64 t, .int .i64 s]] w fun e w' => e = .returned (.bool (toP (f, t, s))) ∧ Below w.heap.size w w' := by
  have B1 := (Below.refl w.heap.size w).alloc (Nat.le_refl _) (.cells #[.int .i64 f, .int .i64 t, .int .i64 s] 24)
  have step : ∀ b : Bool, b = decide (s = 0 ∨ 1 ≤ s ∧ s ≤ 100) → toP (f, t, s) = (b && (decide (0 ≤ f) && (decide (f ≤ t) && decide (t ≤ 20000)))) := by
    rintro _ rfl
    unfold toP
    rw [← Bool.decide_and, ← Bool.decide_and, ← Bool.decide_and]
  by_cases h0 : s = 0
  · have d0 : (s == 0) = true := by simpa using h0
    rw [step true (by rw [decide_eq_true (Or.inl h0)]), Bool.true_and]
    clear step h0
    by_cases h1 : 0 ≤ f
    · have d1 : decide (0 ≤ f) = true := decide_eq_true h1
      rw [d1, Bool.true_and]
      by_cases h2 : f ≤ t
      · have d2 : decide (f ≤ t) = true := decide_eq_true h2
        rw [d2, Bool.true_and]
        go_enter Tryd.func19, Tryd.ntmps19
        go_wp2
        go_ret
        exact ⟨rfl, B1⟩
      · have d2 : decide (f ≤ t) = false := decide_eq_false h2
        rw [d2, Bool.false_and]
        go_enter Tryd.func19, Tryd.ntmps19
        go_wp2
        go_ret
        exact ⟨rfl, B1⟩
    · have d1 : decide (0 ≤ f) = false := decide_eq_false h1
      rw [d1, Bool.false_and]
      go_enter Tryd.func19, Tryd.ntmps19
      go_wp2
      go_ret
      exact ⟨rfl, B1⟩
  · have d0 : (s == 0) = false := by simpa using h0
    have HS := Hid.mk7 (fun W => sty_any s W)
    by_cases hs : 1 ≤ s ∧ s ≤ 100
    · rw [step true (by rw [decide_eq_true (Or.inr hs)]), Bool.true_and]
      rw [decide_eq_true hs] at HS
      clear step
      by_cases h1 : 0 ≤ f
      · have d1 : decide (0 ≤ f) = true := decide_eq_true h1
        rw [d1, Bool.true_and]
        by_cases h2 : f ≤ t
        · have d2 : decide (f ≤ t) = true := decide_eq_true h2
          rw [d2, Bool.true_and]
          go_enter Tryd.func19, Tryd.ntmps19
          go_wp2_with (refine (HS.out _).mono ?_; rintro e w' ⟨rfl, rfl⟩)
          go_ret
          exact ⟨rfl, B1⟩
        · have d2 : decide (f ≤ t) = false := decide_eq_false h2
          rw [d2, Bool.false_and]
          go_enter Tryd.func19, Tryd.ntmps19
          go_wp2_with (refine (HS.out _).mono ?_; rintro e w' ⟨rfl, rfl⟩)
          go_ret
          exact ⟨rfl, B1⟩
      · have d1 : decide (0 ≤ f) = false := decide_eq_false h1
        rw [d1, Bool.false_and]
        go_enter Tryd.func19, Tryd.ntmps19
        go_wp2_with (refine (HS.out _).mono ?_; rintro e w' ⟨rfl, rfl⟩)
        go_ret
        exact ⟨rfl, B1⟩
    · rw [step false (by rw [decide_eq_false (by omega)]), Bool.false_and]
      rw [decide_eq_false hs] at HS
      clear step
      go_enter Tryd.func19, Tryd.ntmps19
      go_wp2_with (refine (HS.out _).mono ?_; rintro e w' ⟨rfl, rfl⟩)
      go_ret
      exact ⟨rfl, B1⟩
end Go.Proofs.YtmgjfmgkmlfjeaaDoor
namespace Go.Proofs.YtmgjfmgkmlfjeaaDoor
open Go.RowKit Go.Sort
set_option linter.unusedSimpArgs false
set_option linter.unusedVariables false

set_option maxHeartbeats 2000000 in
set_option maxRecDepth 100000 in
theorem rowOf_any {w : World} {v : Value} {L : List Sp} (h : SpAt w v L) (hl : L.length ≤ 1000) :
    Calls Tryd.prog 20 #[v] w fun e w' => ∃ v', e = .returned v' ∧ OwnP 57 w' w.heap.size v' L ∧ Below w.heap.size w w' := by
  obtain ⟨i0, hi, hz0, hz1, hz2⟩ := info_parts Tryd.info_pt
  obtain ⟨a, cap, rfl, hcap, _, hcells⟩ := h
  have HC := Hid.mk7 hcells
  have HI := Hid.mk7 hi
  clear hcells hi
  go_enter Tryd.func20, Tryd.ntmps20
  go_wp2_with (at_make; refine wpList_make_own _ rfl _ _ 53 rfl w.heap.size 57 i0 (.agg #[.int .i64 0, .int .i64 0, .int .i64 0]) 3 Tryd.underlying53 HI.out hz0 hz1 .i64 .i64 _ L.length rfl rfl rfl ?m1 ?m2 ?m3 ?_)
  case m1 => rw [hz2]; omega
  case m2 => unfold maxLen; omega
  case m3 => exact Nat.le_refl _
  intro w1 hown1 hgrow1
  have b1 : Below w.heap.size w w1 := (Below.refl _ _).grown hgrow1 (Nat.le_refl _) (fun j hj => by cases hj)
  have O1 : Hid (OwnP 57 w1 w.heap.size (.slice (some ⟨w.heap.size, 0, none⟩) 0 L.length) []) := hown1
  have B1 := Hid.mk7 b1
  clear hown1 hgrow1 b1
  generalize (Value.slice (some ⟨w.heap.size, 0, none⟩) 0 L.length) = v1 at *
  go_wp2
  go_loopw [3, 11] (fun av iv wr => ∃ k : Nat, k ≤ L.length ∧ iv = .int .i64 (k : Nat) ∧ Hid (OwnP 57 wr w.heap.size av (L.take k)) ∧ Below w.heap.size w wr) (fun _ iv _ => L.length - (intOf iv).toNat)
  case atStart => exact ⟨0, Nat.zero_le _, rfl, O1, B1.out⟩
  case round =>
    obtain ⟨k, hk, rfl, HO, hb⟩ := hrel
    have hfl : (L.take k).length ≤ 1000 := by simp; omega
    by_cases hlt : k < L.length
    · obtain ⟨⟨x, y, z⟩, hr⟩ : ∃ r, L[k]? = some r := ⟨L[k], List.getElem?_eq_getElem hlt⟩
      obtain ⟨g, off, rfl, q0, q1, q2⟩ := HC.out k _ hr
      have c0 := cell_later7 hb (Nat.le_refl _) q0
      have c1 := cell_later7 hb (Nat.le_refl _) q1
      have c2 := cell_later7 hb (Nat.le_refl _) q2
      simp only at c0 c1 c2
      have HT := Hid.mk7 (take15 hr)
      have hsz := hb.size
      clear q0 q1 q2 hr
      have HO1 := Hid.mk7 (HO.out.alloc (.cells #[.int .i64 x, .int .i64 y, .int .i64 z] 24))
      have HB1 := Hid.mk7 (below15 hb (.cells #[.int .i64 x, .int .i64 y, .int .i64 z] 24))
      have HP := Hid.mk7 (part_any x y z (wr.alloc (.cells #[.int .i64 x, .int .i64 y, .int .i64 z] 24)))
      clear HO
      go_wp2_with fail
      refine HP.out.mono ?_
      rintro e w3 ⟨rfl, b3⟩
      have HO2 := Hid.mk7 (HO1.out.later b3)
      have HB2 := Hid.mk7 (HB1.out.trans (b3.mono HB1.out.size))
      have hsz2 := HB2.out.size
      clear HO1 HB1 HP b3 c0 c1 c2
      go_wp2_with (at_builtin; refine wpList_append_own _ rfl _ _ 53 rfl w.heap.size 57 i0 (.agg #[.int .i64 0, .int .i64 0, .int .i64 0]) 3 24 Tryd.underlying53 HI.out hz0 hz1 hz2 rfl (by decide) _ _ _ rfl (World.ownsRow.alloc HO2.out _) ⟨_, 0, none⟩ 1 1 [.int .i64 x, .int .i64 y, .int .i64 z] rfl rfl (three15 rfl _ _ _ _) (fun u hu => by simp at hu; rcases hu with rfl | rfl | rfl <;> rfl) (by unfold maxLen; omega) (by omega) (by simp; omega) ?_)
      intro v' w4 hown' hgrow _
      have HO3 : Hid (OwnP 57 w4 w.heap.size v' (L.take (k + 1))) := by
        show OwnP _ _ _ _ _
        rw [HT.out]
        unfold OwnP
        rw [List.length_append, t3_append, t3_one, show (L.take k).length = k by simp; omega]
        exact hown'
      have HB3 : Hid (Below w.heap.size w w4) := (below15 HB2.out _).grown hgrow (by simp; omega) (fun j hj => by exact (World.ownsRow.lt (HO2.out) j hj).1)
      clear HO2 HB2 hown' hgrow
      go_wp2
      go_roundw
      case rel => exact ⟨k + 1, by omega, by go_num, HO3, HB3.out⟩
      case measure => simp [intOf]; omega
    · obtain rfl : k = L.length := by omega
      have HE : Hid (L.take L.length = L) := List.take_length
      go_wp2
      go_ret
      exact ⟨_, rfl, by have := HO.out; rw [HE.out] at this; exact this, hb⟩
set_option maxHeartbeats 2000000 in
set_option maxRecDepth 100000 in
theorem spansOf_any {w : World} {v : Value} {L : List Sp} (h : SpAt w v L) (hl : L.length ≤ 1000) :
    Calls Tryd.prog 23 #[v] w fun e w' => ∃ v', e = .returned v' ∧ OwnP 24 w' w.heap.size v' L ∧ Below w.heap.size w w' := by
  obtain ⟨i0, hi, hz0, hz1, hz2⟩ := info_parts Tryd.info_sp
  obtain ⟨a, cap, rfl, hcap, _, hcells⟩ := h
  have HC := Hid.mk7 hcells
  have HI := Hid.mk7 hi
  clear hcells hi
  go_enter Tryd.func23, Tryd.ntmps23
  go_wp2_with (at_make; refine wpList_make_own _ rfl _ _ 22 rfl w.heap.size 24 i0 (.agg #[.int .i64 0, .int .i64 0, .int .i64 0]) 3 Tryd.underlying22 HI.out hz0 hz1 .i64 .i64 _ L.length rfl rfl rfl ?m1 ?m2 ?m3 ?_)
  case m1 => rw [hz2]; omega
  case m2 => unfold maxLen; omega
  case m3 => exact Nat.le_refl _
  intro w1 hown1 hgrow1
  have b1 : Below w.heap.size w w1 := (Below.refl _ _).grown hgrow1 (Nat.le_refl _) (fun j hj => by cases hj)
  have O1 : Hid (OwnP 24 w1 w.heap.size (.slice (some ⟨w.heap.size, 0, none⟩) 0 L.length) []) := hown1
  have B1 := Hid.mk7 b1
  clear hown1 hgrow1 b1
  generalize (Value.slice (some ⟨w.heap.size, 0, none⟩) 0 L.length) = v1 at *
  go_wp2
  go_loopw [3, 11] (fun av iv wr => ∃ k : Nat, k ≤ L.length ∧ iv = .int .i64 (k : Nat) ∧ Hid (OwnP 24 wr w.heap.size av (L.take k)) ∧ Below w.heap.size w wr) (fun _ iv _ => L.length - (intOf iv).toNat)
  case atStart => exact ⟨0, Nat.zero_le _, rfl, O1, B1.out⟩
  case round =>
    obtain ⟨k, hk, rfl, HO, hb⟩ := hrel
    have hfl : (L.take k).length ≤ 1000 := by simp; omega
    by_cases hlt : k < L.length
    · obtain ⟨⟨x, y, z⟩, hr⟩ : ∃ r, L[k]? = some r := ⟨L[k], List.getElem?_eq_getElem hlt⟩
      obtain ⟨g, off, rfl, q0, q1, q2⟩ := HC.out k _ hr
      have c0 := cell_later7 hb (Nat.le_refl _) q0
      have c1 := cell_later7 hb (Nat.le_refl _) q1
      have c2 := cell_later7 hb (Nat.le_refl _) q2
      simp only at c0 c1 c2
      have HT := Hid.mk7 (take15 hr)
      have hsz := hb.size
      clear q0 q1 q2 hr
      have HO1 := Hid.mk7 (HO.out.alloc (.cells #[.int .i64 x, .int .i64 y, .int .i64 z] 57))
      have HB1 := Hid.mk7 (below15 hb (.cells #[.int .i64 x, .int .i64 y, .int .i64 z] 57))
      clear HO
      have hsz2 := HB1.out.size
      go_wp2_with (at_builtin; refine wpList_append_own _ rfl _ _ 22 rfl w.heap.size 24 i0 (.agg #[.int .i64 0, .int .i64 0, .int .i64 0]) 3 24 Tryd.underlying22 HI.out hz0 hz1 hz2 rfl (by decide) _ _ _ rfl (World.ownsRow.alloc HO1.out _) ⟨_, 0, none⟩ 1 1 [.int .i64 x, .int .i64 y, .int .i64 z] rfl rfl (three15 (by simp) _ _ _ _) (fun u hu => by simp at hu; rcases hu with rfl | rfl | rfl <;> rfl) (by unfold maxLen; omega) (by omega) (by simp; omega) ?_)
      intro v' w4 hown' hgrow _
      have HO3 : Hid (OwnP 24 w4 w.heap.size v' (L.take (k + 1))) := by
        show OwnP _ _ _ _ _
        rw [HT.out]
        unfold OwnP
        rw [List.length_append, t3_append, t3_one, show (L.take k).length = k by simp; omega]
        exact hown'
      have HB3 : Hid (Below w.heap.size w w4) := (below15 HB1.out _).grown hgrow (by simp; omega) (fun j hj => by exact (World.ownsRow.lt (HO1.out) j hj).1)
      clear HO1 HB1 hown' hgrow
      go_wp2
      go_roundw
      case rel => exact ⟨k + 1, by omega, by go_num, HO3, HB3.out⟩
      case measure => simp [intOf]; omega
    · obtain rfl : k = L.length := by omega
      have HE : Hid (L.take L.length = L) := List.take_length
      go_wp2
      go_ret
      exact ⟨_, rfl, by have := HO.out; rw [HE.out] at this; exact this, hb⟩
end Go.Proofs.YtmgjfmgkmlfjeaaDoor
namespace Go.Proofs.YtmgjfmgkmlfjeaaDoor
open Go.RowKit Go.Sort
set_option linter.unusedSimpArgs false
set_option linter.unusedVariables false

theorem drop15 {L : List Sp} {k : Nat} {r : Sp} (h : L[k]? = some r) : L.drop k = r :: L.drop (k + 1) := by
  obtain ⟨hk, rfl⟩ := List.getElem?_eq_some_iff.1 h
  exact List.drop_eq_getElem_cons hk
theorem set15 {B g : Nat} {a w : World} (h : Below B a w) (hg : B ≤ g) (y0 y1 y2 : Value) :
    Below B a (((w.setCell ⟨g, 0, none⟩ y0).setCell ⟨g, 1, none⟩ y1).setCell ⟨g, 2, none⟩ y2) := ((h.setCell (p := ⟨g, 0, none⟩) hg _).setCell (p := ⟨g, 1, none⟩) hg _).setCell (p := ⟨g, 2, none⟩) hg _
theorem lst_step {m a st f t s : Int} {l : List Sp} (h : a ≤ f ∧ f < t ∧ t ≤ m ∧ s ≠ 0 ∧ ¬ (f = a ∧ s = st)) : lstB m a st ((f, t, s) :: l) = lstB m t s l := by
  rw [lstB, decide_eq_true h, Bool.true_and]
theorem lst_stop {m a st f t s : Int} {l : List Sp} (h : ¬ (a ≤ f ∧ f < t ∧ t ≤ m ∧ s ≠ 0 ∧ ¬ (f = a ∧ s = st))) : lstB m a st ((f, t, s) :: l) = false := by
  rw [lstB, decide_eq_false h, Bool.false_and]
set_option maxHeartbeats 2000000 in
set_option maxRecDepth 100000 in
theorem least_any {w : World} {v : Value} {L : List Sp} (m : Int) (h : SpAt w v L) (hl : L.length ≤ 1000) :
    Calls Tryd.prog 32 #[v, .int .i64 m] w fun e w' => e = .returned (.bool (lstB m 0 0 L)) ∧ Below w.heap.size w w' := by
  obtain ⟨a, cap, rfl, hcap, _, hcells⟩ := h
  have HC := Hid.mk7 hcells
  clear hcells
  generalize hres : lstB m 0 0 L = res
  have HR0 := Hid.mk7 hres
  clear hres
  have B0 := Hid.mk7 (below15 (Below.refl w.heap.size w) (.cells #[.int .i64 0, .int .i64 0, .int .i64 0] 57))
  have A0 := Hid.mk7 (Rt.new 57 w (.int .i64 0) (.int .i64 0) (.int .i64 0))
  go_enter Tryd.func32, Tryd.ntmps32
  go_wp2
  go_loopw [10] (fun iv wr => ∃ k : Nat, k ≤ L.length ∧ iv = .int .i64 (k : Nat) ∧ (∃ f0 t0 s0 : Int, Hid (Rt 57 wr w.heap.size (.int .i64 f0) (.int .i64 t0) (.int .i64 s0)) ∧ Hid (lstB m t0 s0 (L.drop k) = res)) ∧ Below w.heap.size w wr) (fun iv _ => L.length - (intOf iv).toNat)
  case atStart => exact ⟨0, Nat.zero_le _, rfl, ⟨0, 0, 0, A0, HR0⟩, B0.out⟩
  case round =>
    obtain ⟨k, hk, rfl, ⟨f0, t0, s0, HA, HV⟩, hb⟩ := hrel
    by_cases hlt : k < L.length
    · obtain ⟨⟨x, y, z⟩, hr⟩ : ∃ r, L[k]? = some r := ⟨L[k], List.getElem?_eq_getElem hlt⟩
      obtain ⟨g, off, rfl, q0, q1, q2⟩ := HC.out k _ hr
      have c0 := cell_later7 hb (Nat.le_refl _) q0
      have c1 := cell_later7 hb (Nat.le_refl _) q1
      have c2 := cell_later7 hb (Nat.le_refl _) q2
      simp only at c0 c1 c2
      rw [drop15 hr] at HV
      have hsz := hb.size
      clear q0 q1 q2 hr A0 HR0 B0
      have HB1 := Hid.mk7 (below15 hb (.cells #[.int .i64 x, .int .i64 y, .int .i64 z] 57))
      have HA1 := Hid.mk7 (HA.out.alloc (.cells #[.int .i64 x, .int .i64 y, .int .i64 z] 57))
      have HP1 := Hid.mk7 (Rt.new 57 wr (.int .i64 x) (.int .i64 y) (.int .i64 z))
      have HN := Hid.mk7 (nothing_any x y z (wr.alloc (.cells #[.int .i64 x, .int .i64 y, .int .i64 z] 57)))
      clear HA
      have a0 := HA1.out.c0
      have a1 := HA1.out.c1
      have a2 := HA1.out.c2
      by_cases h1 : x < t0
      · have d1 : decide (x < t0) = true := decide_eq_true h1
        have HF : Hid (res = false) := by show _ = _; rw [← HV.out]; exact lst_stop (by omega)
        go_wp2
        go_ret
        exact ⟨ret_bool15 HF.out.symm, HB1.out⟩
      · have d1 : decide (x < t0) = false := decide_eq_false h1
        by_cases h2 : y ≤ x
        · have d2 : decide (y ≤ x) = true := decide_eq_true h2
          have HF : Hid (res = false) := by show _ = _; rw [← HV.out]; exact lst_stop (by omega)
          go_wp2
          go_ret
          exact ⟨ret_bool15 HF.out.symm, HB1.out⟩
        · have d2 : decide (y ≤ x) = false := decide_eq_false h2
          by_cases h3 : m < y
          · have d3 : decide (m < y) = true := decide_eq_true h3
            have HF : Hid (res = false) := by show _ = _; rw [← HV.out]; exact lst_stop (by omega)
            go_wp2
            go_ret
            exact ⟨ret_bool15 HF.out.symm, HB1.out⟩
          · have d3 : decide (m < y) = false := decide_eq_false h3
            by_cases h4 : z = 0
            · have HF : Hid (res = false) := by show _ = _; rw [← HV.out]; exact lst_stop (by omega)
              rw [show (z == 0) = true by simpa using h4] at HN
              clear h4
              go_wp2_with fail
              refine HN.out.mono ?_
              rintro e w3 ⟨rfl, b3⟩
              go_wp2
              go_ret
              exact ⟨ret_bool15 HF.out.symm, HB1.out.trans (b3.mono HB1.out.size)⟩
            · rw [show (z == 0) = false by simpa using h4] at HN
              go_wp2_with fail
              refine HN.out.mono ?_
              rintro e w3 ⟨rfl, b3⟩
              have HA3 := Hid.mk7 (HA1.out.later b3)
              have HP3 := Hid.mk7 (HP1.out.later b3)
              have HB3 := Hid.mk7 (HB1.out.trans (b3.mono HB1.out.size))
              have HFO := Hid.mk7 (follows_any x y z f0 t0 s0 w3)
              clear a0 a1 a2 HA1 HP1 HB1 b3 HN c0 c1 c2
              have a0 := HA3.out.c0
              have a1 := HA3.out.c1
              have a2 := HA3.out.c2
              have p0 := HP3.out.c0
              have p1 := HP3.out.c1
              have p2 := HP3.out.c2
              by_cases h5 : x = t0 ∧ z = s0
              · have HF : Hid (res = false) := by show _ = _; rw [← HV.out]; exact lst_stop (by omega)
                rw [decide_eq_true h5] at HFO
                clear h5
                go_wp2_with fail
                refine HFO.out.mono ?_
                rintro e w4 ⟨rfl, b4⟩
                go_wp2
                go_ret
                exact ⟨ret_bool15 HF.out.symm, HB3.out.trans (b4.mono HB3.out.size)⟩
              · have HV2 : Hid (lstB m y z (L.drop (k + 1)) = res) := by show _ = _; rw [← HV.out]; exact (lst_step (by omega)).symm
                rw [decide_eq_false h5] at HFO
                clear h5
                go_wp2_with fail
                refine HFO.out.mono ?_
                rintro e w4 ⟨rfl, b4⟩
                have HA4 := Hid.mk7 (HA3.out.later b4)
                have HP4 := Hid.mk7 (HP3.out.later b4)
                have HB4 := Hid.mk7 (HB3.out.trans (b4.mono HB3.out.size))
                clear a0 a1 a2 p0 p1 p2 HA3 HP3 HB3 b4 HFO
                have a0 := HA4.out.c0
                have a1 := HA4.out.c1
                have a2 := HA4.out.c2
                have p0 := HP4.out.c0
                have p1 := HP4.out.c1
                have p2 := HP4.out.c2
                have fz := HA4.out.fz
                go_wp2
                go_roundw
                case rel => exact ⟨k + 1, by omega, by go_num, ⟨x, y, z, HA4.out.set _ _ _, HV2⟩, set15 HB4.out (Nat.le_refl _) _ _ _⟩
                case measure => simp [intOf]; omega
    · obtain rfl : k = L.length := by omega
      have HE : Hid (res = true) := by show _ = _; have := HV.out; rw [List.drop_length] at this; rw [← this]; rfl
      go_wp2
      go_ret
      exact ⟨ret_bool15 HE.out.symm, hb⟩
set_option maxHeartbeats 2000000 in
set_option maxRecDepth 100000 in
theorem rat_any {w : World} {v : Value} {L : List Sp} (p : Int) (h : SpAt w v L) (hl : L.length ≤ 1000) :
    Calls Tryd.prog 33 #[v, .int .i64 p] w fun e w' => e = .returned (.int .i64 (atS L p)) ∧ Below w.heap.size w w' := by
  obtain ⟨a, cap, rfl, hcap, _, hcells⟩ := h
  have HC := Hid.mk7 hcells
  clear hcells
  generalize hres : atS L p = res
  have HR0 := Hid.mk7 hres
  clear hres
  go_enter Tryd.func33, Tryd.ntmps33
  go_wp2
  go_loopw [10] (fun iv wr => ∃ k : Nat, k ≤ L.length ∧ iv = .int .i64 (k : Nat) ∧ Hid (atS (L.drop k) p = res) ∧ Below w.heap.size w wr) (fun iv _ => L.length - (intOf iv).toNat)
  case atStart => exact ⟨0, Nat.zero_le _, rfl, HR0, Below.refl _ _⟩
  case round =>
    obtain ⟨k, hk, rfl, HV, hb⟩ := hrel
    by_cases hlt : k < L.length
    · obtain ⟨⟨x, y, z⟩, hr⟩ : ∃ r, L[k]? = some r := ⟨L[k], List.getElem?_eq_getElem hlt⟩
      obtain ⟨g, off, rfl, q0, q1, q2⟩ := HC.out k _ hr
      have c0 := cell_later7 hb (Nat.le_refl _) q0
      have c1 := cell_later7 hb (Nat.le_refl _) q1
      have c2 := cell_later7 hb (Nat.le_refl _) q2
      simp only at c0 c1 c2
      rw [drop15 hr] at HV
      have HB1 := Hid.mk7 (below15 hb (.cells #[.int .i64 x, .int .i64 y, .int .i64 z] 57))
      clear q0 q1 q2 hr HR0
      by_cases h1 : x ≤ p
      · have d1 : decide (x ≤ p) = true := decide_eq_true h1
        by_cases h2 : p < y
        · have d2 : decide (p < y) = true := decide_eq_true h2
          have HF : Hid (res = z) := by show _ = _; rw [← HV.out]; simp only [atS]; rw [if_pos ⟨h1, h2⟩]
          go_wp2
          go_ret
          exact ⟨ret_int15 HF.out.symm, HB1.out⟩
        · have d2 : decide (p < y) = false := decide_eq_false h2
          have HV2 : Hid (atS (L.drop (k + 1)) p = res) := by show _ = _; rw [← HV.out, atS_skip (by omega)]
          go_wp2
          go_roundw
          case rel => exact ⟨k + 1, by omega, by go_num, HV2, HB1.out⟩
          case measure => simp [intOf]; omega
      · have d1 : decide (x ≤ p) = false := decide_eq_false h1
        have HV2 : Hid (atS (L.drop (k + 1)) p = res) := by show _ = _; rw [← HV.out, atS_skip (by omega)]
        go_wp2
        go_roundw
        case rel => exact ⟨k + 1, by omega, by go_num, HV2, HB1.out⟩
        case measure => simp [intOf]; omega
    · obtain rfl : k = L.length := by omega
      have HE : Hid (res = 0) := by show _ = _; have := HV.out; rw [List.drop_length] at this; rw [← this]; rfl
      go_wp2
      go_ret
      exact ⟨ret_int15 HE.out.symm, hb⟩
end Go.Proofs.YtmgjfmgkmlfjeaaDoor
