/- A struct of four numbers in memory, of whatever type; a struct of one pointer. -/
import Derived.Test.YtfgefdkkjfjjjaaDoorMem4
namespace Go.Proofs.YtfgefdkkjfjjjaaDoor
open Go.RowKit Go.Sort
set_option linter.unusedSimpArgs false
set_option linter.unusedVariables false

/-- Block g holds these cells, of that type. -/
def Rt (t : TypeId) (w : World) (g : Nat) (a : Array Value) : Prop := w.heap[g]? = some (.cells a t)
theorem Rt.later {t : TypeId} {w w' : World} {g B : Nat} {a : Array Value} (h : Rt t w g a) (hb : Below B w w') (hg : g < B) : Rt t w' g a := (hb.block g hg).trans h
theorem Rt.lt {t : TypeId} {w : World} {g : Nat} {a : Array Value} (h : Rt t w g a) : g < w.heap.size := (Array.getElem?_eq_some_iff.1 h).1
theorem Rt.later' {t : TypeId} {w w' : World} {g : Nat} {a : Array Value} (h : Rt t w g a) (hb : Below w.heap.size w w') : Rt t w' g a := h.later hb h.lt
theorem Rt.cell {t : TypeId} {w : World} {g : Nat} {a : Array Value} (h : Rt t w g a) (j : Nat) : w.cell? ⟨g, j, none⟩ = a[j]? := cell_of_row w g j _ _ _ h
theorem Rt.fz {t : TypeId} {w : World} {g : Nat} {a : Array Value} (h : Rt t w g a) (j : Nat) : w.frozen? ⟨g, j, none⟩ = false := frozen_of_row w g j _ _ h
theorem Rt.new (t : TypeId) (w : World) (a : Array Value) : Rt t (w.alloc (.cells a t)) w.heap.size a := heap_alloc_new w _
theorem Rt.new' {t : TypeId} {w : World} {g : Nat} (hg : g = w.heap.size) (a : Array Value) : Rt t (w.alloc (.cells a t)) g a := by subst hg; exact heap_alloc_new w _
theorem Rt.alloc {t : TypeId} {w : World} {g : Nat} {a : Array Value} (h : Rt t w g a) (o : Obj) : Rt t (w.alloc o) g a := (Below.heap_alloc w o g h.lt).trans h
theorem Rt.set {t : TypeId} {w : World} {g : Nat} {a : Array Value} (h : Rt t w g a) (j : Nat) (v : Value) : Rt t (w.setCell ⟨g, j, none⟩ v) g (a.setIfInBounds j v) :=
  heap_setCell_same w g j _ _ v h
theorem Rt.other {t : TypeId} {w : World} {g g' : Nat} {a : Array Value} (h : Rt t w g a) (hne : g ≠ g') (j : Nat) (v : Value) : Rt t (w.setCell ⟨g', j, none⟩ v) g a := by
  unfold Rt; rw [heap_setCell_other _ _ _ _ hne]; exact h
theorem Rt.set4 {t : TypeId} {w : World} {g : Nat} {x0 x1 x2 x3 : Value} (h : Rt t w g #[x0, x1, x2, x3]) (y0 y1 y2 y3 : Value) :
    Rt t ((((w.setCell ⟨g, 0, none⟩ y0).setCell ⟨g, 1, none⟩ y1).setCell ⟨g, 2, none⟩ y2).setCell ⟨g, 3, none⟩ y3) g #[y0, y1, y2, y3] := by
  have := (((h.set 0 y0).set 1 y1).set 2 y2).set 3 y3
  simpa using this
theorem Rt.other4 {t : TypeId} {w : World} {g g' : Nat} {a : Array Value} (h : Rt t w g a) (hne : g ≠ g') (y0 y1 y2 y3 : Value) :
    Rt t ((((w.setCell ⟨g', 0, none⟩ y0).setCell ⟨g', 1, none⟩ y1).setCell ⟨g', 2, none⟩ y2).setCell ⟨g', 3, none⟩ y3) g a :=
  (((h.other hne 0 y0).other hne 1 y1).other hne 2 y2).other hne 3 y3
theorem Rt.set1 {t : TypeId} {w : World} {g : Nat} {x0 : Value} (h : Rt t w g #[x0]) (y0 : Value) : Rt t (w.setCell ⟨g, 0, none⟩ y0) g #[y0] := by
  simpa using h.set 0 y0
/-- Results through a cell. -/
theorem results_counts {fn : Func} {p : Tmp} (h : fn.results = #[.cell p 74]) (tmps : Array Value) (w : World) (g : Nat) (x0 x1 x2 x3 : Value)
    (hp : tmps.getD p undef = .pointer (some ⟨g, 0, none⟩)) (hg : Rt 74 w g #[x0, x1, x2, x3]) : (results fn tmps).run Tryd.prog w = .ok (.agg #[x0, x1, x2, x3]) w :=
  results_cell_row h tmps w g _ _ _ _ hp hg Tryd.underlying74 rfl (by kernel_rfl)
theorem results_tree {fn : Func} {p : Tmp} (h : fn.results = #[.cell p 61]) (tmps : Array Value) (w : World) (g : Nat) (x0 : Value)
    (hp : tmps.getD p undef = .pointer (some ⟨g, 0, none⟩)) (hg : Rt 61 w g #[x0]) : (results fn tmps).run Tryd.prog w = .ok (.agg #[x0]) w :=
  results_cell_row h tmps w g _ _ _ _ hp hg Tryd.underlying61 rfl (by kernel_rfl)

/-- The rules of counting: what a row of texts may count as, which memory is asked for, which texts may be counted. -/
structure Env where
  KR : List ByteArray → Int → Int → Int → Int → Prop
  Tb : World → Prop
  D : ByteArray → Prop
  zero : KR [] 0 0 0 0
  plus : ∀ {a b : List ByteArray} {x0 x1 x2 x3 y0 y1 y2 y3 : Int}, KR a x0 x1 x2 x3 → KR b y0 y1 y2 y3 → KR (a ++ b) (wrap64 (x0 + y0)) (wrap64 (x1 + y1)) (wrap64 (x2 + y2)) (wrap64 (x3 + y3))
  bytes : ∀ {a : List ByteArray} {x0 x1 x2 x3 : Int}, KR a x0 x1 x2 x3 → x0 = wrap64 ((a.map ByteArray.size).sum : Nat)
  later : ∀ {w w' : World}, Tb w → Below w.heap.size w w' → Tb w'
  of : ∀ s, D s → ∀ W, Tb W → Calls Tryd.prog 100 #[.string s] W fun e w' => ∃ x0 x1 x2 x3, e = .returned (.agg #[.int .i64 x0, .int .i64 x1, .int .i64 x2, .int .i64 x3]) ∧ KR [s] x0 x1 x2 x3 ∧ Below W.heap.size W w'

set_option maxHeartbeats 1000000 in
set_option maxRecDepth 100000 in
/-- count.Plus. -/
theorem cplus_any (a0 a1 a2 a3 b0 b1 b2 b3 : Int) (w : World) :
    Calls Tryd.prog 101 #[.agg #[.int .i64 a0, .int .i64 a1, .int .i64 a2, .int .i64 a3], .agg #[.int .i64 b0, .int .i64 b1, .int .i64 b2, .int .i64 b3]] w fun e w' => e = .returned (.agg #[.int .i64 (wrap64 (a0 + b0)), .int .i64 (wrap64 (a1 + b1)), .int .i64 (wrap64 (a2 + b2)), .int .i64 (wrap64 (a3 + b3))]) ∧ Below w.heap.size w w' := by
  go_enter Tryd.func101, Tryd.ntmps101
  go_wp2
  refine bodyPost_ret (results_row4 rfl _ _ (w.heap.size + 1 + 1) _ _ _ _ rfl (Row4.new' (by simp) _ _ _ _)) rfl ⟨rfl, ?_⟩
  exact (((Below.refl _ _).alloc (Nat.le_refl _) _).alloc (by simp) _).alloc (by simp <;> omega) _

set_option maxHeartbeats 1000000 in
set_option maxRecDepth 100000 in
/-- rope's counts.Plus. -/
theorem rplus_any (a0 a1 a2 a3 b0 b1 b2 b3 : Int) (w : World) :
    Calls Tryd.prog 105 #[.agg #[.int .i64 a0, .int .i64 a1, .int .i64 a2, .int .i64 a3], .agg #[.int .i64 b0, .int .i64 b1, .int .i64 b2, .int .i64 b3]] w fun e w' => e = .returned (.agg #[.int .i64 (wrap64 (a0 + b0)), .int .i64 (wrap64 (a1 + b1)), .int .i64 (wrap64 (a2 + b2)), .int .i64 (wrap64 (a3 + b3))]) ∧ Below w.heap.size w w' := by
  have H : Hid (∀ W, Calls Tryd.prog 101 #[.agg #[.int .i64 a0, .int .i64 a1, .int .i64 a2, .int .i64 a3], .agg #[.int .i64 b0, .int .i64 b1, .int .i64 b2, .int .i64 b3]] W fun e w' => e = .returned (.agg #[.int .i64 (wrap64 (a0 + b0)), .int .i64 (wrap64 (a1 + b1)), .int .i64 (wrap64 (a2 + b2)), .int .i64 (wrap64 (a3 + b3))]) ∧ Below W.heap.size W w') := cplus_any a0 a1 a2 a3 b0 b1 b2 b3
  generalize wrap64 (a0 + b0) = z0 at *
  generalize wrap64 (a1 + b1) = z1 at *
  generalize wrap64 (a2 + b2) = z2 at *
  generalize wrap64 (a3 + b3) = z3 at *
  have b0 : Below w.heap.size w (((w.alloc (Obj.cells #[.int .i64 a0, .int .i64 a1, .int .i64 a2, .int .i64 a3] 74)).alloc (Obj.cells #[.int .i64 b0, .int .i64 b1, .int .i64 b2, .int .i64 b3] 74)).alloc (Obj.cells #[.int .i64 0, .int .i64 0, .int .i64 0, .int .i64 0] 74)) :=
    (((Below.refl _ _).alloc (Nat.le_refl _) _).alloc (by simp) _).alloc (by simp <;> omega) _
  go_enter Tryd.func105, Tryd.ntmps105
  go_wp2_with fail
  refine (H.out _).mono ?_
  rintro e w1 ⟨rfl, b1⟩
  have r1 : Rt 74 w1 (w.heap.size + 1 + 1) #[.int .i64 0, .int .i64 0, .int .i64 0, .int .i64 0] := (Rt.new' (by simp) _).later b1 (by simp)
  have fz := r1.fz
  have c0 := r1.cell 0; have c1 := r1.cell 1; have c2 := r1.cell 2; have c3 := r1.cell 3
  have R1 := Hid.mk4 r1
  have g1 := b0.trans (b1.mono b0.size)
  have hlt := r1.lt
  clear r1 b0 b1
  go_wp2
  refine bodyPost_ret (results_counts rfl _ _ (w.heap.size + 1 + 1) _ _ _ _ rfl (R1.out.set4 _ _ _ _)) rfl ⟨rfl, ?_⟩
  exact below_set4 g1 (by omega) _ _ _ _

set_option maxHeartbeats 1000000 in
set_option maxRecDepth 100000 in
/-- chunk.Sum. -/
theorem csum_any (E : Env) (s : ByteArray) (hD : E.D s) (w : World) (hT : E.Tb w) :
    Calls Tryd.prog 99 #[.string s] w fun e w' => ∃ x0 x1 x2 x3, e = .returned (.agg #[.int .i64 x0, .int .i64 x1, .int .i64 x2, .int .i64 x3]) ∧ E.KR [s] x0 x1 x2 x3 ∧ Below w.heap.size w w' := by
  have b0 : Below w.heap.size w (w.alloc (Obj.cells #[.int .i64 0, .int .i64 0, .int .i64 0, .int .i64 0] 74)) := (Below.refl _ _).alloc (Nat.le_refl _) _
  go_enter Tryd.func99, Tryd.ntmps99
  go_wp2_with fail
  refine (E.of s hD _ (E.later hT b0)).mono ?_
  rintro e w1 ⟨x0, x1, x2, x3, rfl, hk, b1⟩
  have r1 : Rt 74 w1 w.heap.size #[.int .i64 0, .int .i64 0, .int .i64 0, .int .i64 0] := (Rt.new _ w _).later b1 (by simp)
  have fz := r1.fz
  have c0 := r1.cell 0; have c1 := r1.cell 1; have c2 := r1.cell 2; have c3 := r1.cell 3
  have R1 := Hid.mk4 r1
  have g1 := b0.trans (b1.mono b0.size)
  have hlt := r1.lt
  have HK := Hid.mk4 hk
  clear r1 b0 b1 hk
  go_wp2
  refine bodyPost_ret (results_counts rfl _ _ w.heap.size _ _ _ _ rfl (R1.out.set4 _ _ _ _)) rfl ⟨x0, x1, x2, x3, rfl, HK.out, ?_⟩
  exact below_set4 g1 (Nat.le_refl _) _ _ _ _
end Go.Proofs.YtfgefdkkjfjjjaaDoor
