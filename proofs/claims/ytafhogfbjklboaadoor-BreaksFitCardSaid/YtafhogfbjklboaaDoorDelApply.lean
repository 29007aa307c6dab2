/- Apply. -/
import Derived.Test.YtafhogfbjklboaaDoorDelSize
import Derived.Test.YtafhogfbjklboaaDoorCopyStr
import Derived.Deep.CutRange
namespace Go.Proofs.YtafhogfbjklboaaDoor
open Go.RowKit Go.Sort Go.Lib
set_option linter.unusedSimpArgs false
set_option linter.unusedVariables false

theorem mixNext_belowE {P : Program} {l : List Oper} {Q : Exit → Act → World → Prop} {r : List (List Nat × List Nat)} {a : Act} {w w3 : World} (hb : RowKit.Below w.heap.size w w3) (h : wpPlan P l (fun w' => ∃ p : Regrown, w' = grow (redrawn w p.d) p.os) Q r a w3) :
    MixNext P l (fun w' => ∃ p : Regrown, w' = grow (redrawn w p.d) p.os) Q r .normal a w3 := mixNext_mk (regrown_of_below hb) h
theorem below_redrawnE (w : World) (d : Nat) : RowKit.Below w.heap.size w (redrawn w d) := by have := below_regrown w d #[]; rwa [grow_empty] at this
/-- What elements make of a text, as it is made. -/
def ap1 (s : List UInt8) (e : El) : List UInt8 := (s.drop e.1.toNat).take (e.2.1 - e.1).toNat ++ e.2.2
def ape (s : List UInt8) (es : List El) : List UInt8 := es.flatMap (ap1 s)
theorem ape_append (s : List UInt8) (a b : List El) : ape s (a ++ b) = ape s a ++ ape s b := by simp [ape]
def Inn (es : List El) (n : Nat) : Prop := ∀ e ∈ es, 0 ≤ e.1 ∧ e.1 ≤ e.2.1 ∧ e.2.1 ≤ n
theorem nm_inn {base : Int} {n : Nat} (hb : base ≤ n) : ∀ (es : List El) (last : Int) (k : Nat), 0 ≤ last → Nm base last k es → Inn es n
  | [], _, _, _, _ => fun e h => by cases h
  | (f, t, T) :: es, last, k, h0, h => by
    by_cases hT : T = []
    · rw [Nm, if_pos hT] at h
      have ih := nm_inn hb es t 2 (by omega) h.2.2.2.2
      intro e he
      rcases List.mem_cons.1 he with rfl | he
      · simp only; omega
      · exact ih e he
    · rw [Nm, if_neg hT] at h
      have ih := nm_inn hb es last 1 h0 h.2.2.2
      intro e he
      rcases List.mem_cons.1 he with rfl | he
      · simp only; omega
      · exact ih e he
theorem nm_kind {base : Int} : ∀ (es : List El) (last : Int) (k : Nat), Nm base last k es → ∀ e ∈ es, (e.2.2 = [] ∧ e.1 < e.2.1) ∨ (e.2.2 ≠ [] ∧ e.1 = 0 ∧ e.2.1 = 0)
  | [], _, _, _ => fun e h => by cases h
  | (f, t, T) :: es, last, k, h => by
    by_cases hT : T = []
    · rw [Nm, if_pos hT] at h
      have ih := nm_kind es t 2 h.2.2.2.2
      intro e he
      rcases List.mem_cons.1 he with rfl | he
      · exact Or.inl ⟨hT, h.2.2.1⟩
      · exact ih e he
    · rw [Nm, if_neg hT] at h
      have ih := nm_kind es last 1 h.2.2.2
      intro e he
      rcases List.mem_cons.1 he with rfl | he
      · exact Or.inr ⟨hT, h.1, h.2.1⟩
      · exact ih e he
theorem ap1_len {s : List UInt8} {e : El} (h : 0 ≤ e.1 ∧ e.1 ≤ e.2.1 ∧ e.2.1 ≤ s.length) : ((ap1 s e).length : Int) = (e.2.1 - e.1) + (e.2.2.length : Int) := by
  unfold ap1
  rw [List.length_append, List.length_take, List.length_drop]
  omega
theorem ape_len {s : List UInt8} : ∀ (es : List El), Inn es s.length → ((ape s es).length : Int) = cpS es + (inS es : Int)
  | [], _ => rfl
  | e :: es, h => by
    have ih := ape_len es (fun x hx => h x (by simp [hx]))
    have h1 := ap1_len (h e (by simp))
    show ((ap1 s e ++ ape s es).length : Int) = _
    rw [List.length_append]
    simp only [cpS, inS, List.map_cons, List.sum_cons] at *
    omega
theorem ape_apl {base : Int} {s : List UInt8} (hb : base ≤ s.length) (es : List El) (h : Nm base 0 0 es) : ape s es = apl (cel es) s := by
  rw [apl_cel hb es 0 0 (Int.le_refl _) h]
  have : ∀ (es : List El) (last : Int) (k : Nat), Nm base last k es → ape s es = es.flatMap fun e => e.2.2 ++ (s.drop e.1.toNat).take (e.2.1 - e.1).toNat := by
    intro es
    induction es with
    | nil => intros; rfl
    | cons e es ih =>
      obtain ⟨f, t, T⟩ := e
      intro last k h
      by_cases hT : T = []
      · subst hT
        rw [Nm, if_pos rfl] at h
        show ap1 s (f, t, []) ++ ape s es = _
        rw [ih t 2 h.2.2.2.2, List.flatMap_cons]
        simp [ap1]
      · rw [Nm, if_neg hT] at h
        obtain ⟨rfl, rfl, _, h4⟩ := h
        show ap1 s (0, 0, T) ++ ape s es = _
        rw [ih last 1 h4, List.flatMap_cons]
        simp [ap1]
  exact this es 0 0 h
/-- What the loop hands on. -/
structure Tap (s : List UInt8) (es : List El) (w : World) (g N : Nat) (wr : World) (k : Nat) (done : List UInt8) (rest : List Value) : Prop where
  row : wr.heap[g]? = some (.cells (byteCells done ++ rest).toArray 5 (0, 0))
  eq : done = ape s (es.take k)
  len : done.length + rest.length = N
  be : RowKit.Below w.heap.size w wr
end Go.Proofs.YtafhogfbjklboaaDoor
