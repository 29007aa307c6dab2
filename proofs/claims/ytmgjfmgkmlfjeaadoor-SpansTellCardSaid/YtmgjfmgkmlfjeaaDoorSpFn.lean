/- The program's small functions on spans. -/
import Derived.Test.YtmgjfmgkmlfjeaaDoorSpMem
import Derived.Test.YtmgjfmgkmlfjeaaDoorSpProg
namespace Go.Proofs.YtmgjfmgkmlfjeaaDoor
open Go.RowKit Go.Sort
set_option linter.unusedSimpArgs false
set_option linter.unusedVariables false

theorem below15 {a w : World} (h : Below a.heap.size a w) (o : Obj) : Below a.heap.size a (w.alloc o) := h.alloc h.size o
theorem ret_bool15 {a b : Bool} (h : a = b) : Ending.returned (.bool a) = .returned (.bool b) := by rw [h]
theorem ret_int15 {a b : Int} (h : a = b) : Ending.returned (.int .i64 a) = .returned (.int .i64 b) := by rw [h]
theorem take15 {L : List Sp} {k : Nat} {r : Sp} (h : L[k]? = some r) : L.take (k + 1) = L.take k ++ [r] := by rw [List.take_add_one, h]; rfl
theorem three15 {w : World} {g : Nat} (hg : g = w.heap.size) (x y z : Value) (e : TypeId) : ∀ (j : Nat) (u : Value), ([x, y, z] : List Value)[j]? = some u → (w.alloc (.cells #[x, y, z] e)).cell? ((⟨g, 0, none⟩ : Addr).add j) = some u := by
  subst hg
  intro j u h
  rw [addr_add7, World.cell?_alloc_new]
  match j, h with
  | 0, h => simpa using h
  | 1, h => simpa using h
  | 2, h => simpa using h
theorem results_pt {fn : Func} {p : Tmp} (h : fn.results = #[.cell p 57]) (tmps : Array Value) (w : World) (g : Nat) (x y z : Value)
    (hp : tmps.getD p undef = .pointer (some ⟨g, 0, none⟩)) (hg : Rt 57 w g x y z) : (results fn tmps).run Tryd.prog w = .ok (.agg #[x, y, z]) w :=
  results_cell_row h tmps w g _ _ _ _ hp hg Tryd.underlying57 rfl (by kernel_rfl)
set_option maxHeartbeats 1000000 in
set_option maxRecDepth 100000 in
theorem sty_any (s : Int) (w : World) : Calls Tryd.prog 31 #[.int .i64 s] w fun e w' => e = .returned (.bool (decide (1 ≤ s ∧ s ≤ 100))) ∧ w' = w := by
  by_cases h1 : 1 ≤ s
  · have d1 : decide (1 ≤ s) = true := decide_eq_true h1
    by_cases h2 : s ≤ 100
    · have d2 : decide (s ≤ 100) = true := decide_eq_true h2
      rw [decide_eq_true (p := 1 ≤ s ∧ s ≤ 100) ⟨h1, h2⟩]
      go_enter Tryd.func31, Tryd.ntmps31
      go_wp2
      go_ret
      exact ⟨rfl, rfl⟩
    · have d2 : decide (s ≤ 100) = false := decide_eq_false h2
      rw [decide_eq_false (p := 1 ≤ s ∧ s ≤ 100) (by omega)]
      go_enter Tryd.func31, Tryd.ntmps31
      go_wp2
      go_ret
      exact ⟨rfl, rfl⟩
  · have d1 : decide (1 ≤ s) = false := decide_eq_false h1
    rw [decide_eq_false (p := 1 ≤ s ∧ s ≤ 100) (by omega)]
    go_enter Tryd.func31, Tryd.ntmps31
    go_wp2
    go_ret
    exact ⟨rfl, rfl⟩
set_option maxHeartbeats 1000000 in
set_option maxRecDepth 100000 in
theorem part_any (f t s : Int) (w : World) : Calls Tryd.prog 22 #[.agg #[.int .i64 f, .int .i64 t, .int .i64 s]] w fun e w' => e = .returned (.agg #[.int .i64 f, .int .i64 t, .int .i64 s]) ∧ Below w.heap.size w w' := by
  go_enter Tryd.func22, Tryd.ntmps22
  go_wp2
  refine bodyPost_ret (results_pt rfl _ _ (w.heap.size + 1) _ _ _ rfl (Rt.new' (by simp) _ _ _)) rfl ⟨rfl, ?_⟩
  exact ((Below.refl _ _).alloc (Nat.le_refl _) _).alloc (by simp) _
set_option maxHeartbeats 1000000 in
set_option maxRecDepth 100000 in
theorem nothing_any (f t s : Int) (w : World) : Calls Tryd.prog 46 #[.agg #[.int .i64 f, .int .i64 t, .int .i64 s]] w fun e w' => e = .returned (.bool (s == 0)) ∧ Below w.heap.size w w' := by
  go_enter Tryd.func46, Tryd.ntmps46
  go_wp2
  go_ret
  exact ⟨rfl, below15 (Below.refl _ _) _⟩
set_option maxHeartbeats 1000000 in
set_option maxRecDepth 100000 in
theorem follows_any (f t s f' t' s' : Int) (w : World) : Calls Tryd.prog 47 #[.agg #[.int .i64 f, .int .i64 t, .int .i64 s], .agg #[.int .i64 f', .int .i64 t', .int .i64 s']] w fun e w' => e = .returned (.bool (decide (f = t' ∧ s = s'))) ∧ Below w.heap.size w w' := by
  by_cases h1 : f = t'
  · have d1 : (f == t') = true := by simpa using h1
    have e : decide (f = t' ∧ s = s') = (s == s') := by
      by_cases h2 : s = s'
      · rw [decide_eq_true ⟨h1, h2⟩]; simp [h2]
      · rw [decide_eq_false (by omega)]; simp [h2]
    rw [e]
    clear e
    go_enter Tryd.func47, Tryd.ntmps47
    go_wp2
    go_ret
    exact ⟨rfl, below15 (below15 (Below.refl _ _) _) _⟩
  · have d1 : (f == t') = false := by simpa using h1
    rw [decide_eq_false (p := f = t' ∧ s = s') (by omega)]
    go_enter Tryd.func47, Tryd.ntmps47
    go_wp2
    go_ret
    exact ⟨rfl, below15 (below15 (Below.refl _ _) _) _⟩
set_option maxHeartbeats 2000000 in
set_option maxRecDepth 100000 in
theorem top_any (f t s : Int) (w : World) : Calls Tryd.prog 19 #[.agg #[.int .i64 f, .int .i64 t, .int .i64 s]] w fun e w' => e = .returned (.bool (toP (f, t, s))) ∧ Below w.heap.size w w' := by
  have B1 := (Below.refl w.heap.size w).alloc (Nat.le_refl _) (.cells #[.int .i64 f, .int .i64 t, .int .i64 s] 24)
  have step : ∀ b : Bool, b = decide (s = 0 ∨ 1 ≤ s ∧ s ≤ 100) → toP (f, t, s) = (b && (decide (0 ≤ f) && (decide (f ≤ t) && decide (t ≤ 20000)))) := by
    rintro _ rfl
    unfold toP
    rw [← Bool.decide_and, ← Bool.decide_and, ← Bool.decide_and]
  by_cases h0 : s = 0
  · have d0 : (s == 0) = true := by simpa using h0
    rw [step true (by rw [decide_eq_true (Or.inl h0)]), Bool.true_and]
    clear step h0
    by_cases h1 : 0 ≤ f
    · have d1 : decide (0 ≤ f) = true := decide_eq_true h1
      rw [d1, Bool.true_and]
      by_cases h2 : f ≤ t
      · have d2 : decide (f ≤ t) = true := decide_eq_true h2
        rw [d2, Bool.true_and]
        go_enter Tryd.func19, Tryd.ntmps19
        go_wp2
        go_ret
        exact ⟨rfl, B1⟩
      · have d2 : decide (f ≤ t) = false := decide_eq_false h2
        rw [d2, Bool.false_and]
        go_enter Tryd.func19, Tryd.ntmps19
        go_wp2
        go_ret
        exact ⟨rfl, B1⟩
    · have d1 : decide (0 ≤ f) = false := decide_eq_false h1
      rw [d1, Bool.false_and]
      go_enter Tryd.func19, Tryd.ntmps19
      go_wp2
      go_ret
      exact ⟨rfl, B1⟩
  · have d0 : (s == 0) = false := by simpa using h0
    have HS := Hid.mk7 (fun W => sty_any s W)
    by_cases hs : 1 ≤ s ∧ s ≤ 100
    · rw [step true (by rw [decide_eq_true (Or.inr hs)]), Bool.true_and]
      rw [decide_eq_true hs] at HS
      clear step
      by_cases h1 : 0 ≤ f
      · have d1 : decide (0 ≤ f) = true := decide_eq_true h1
        rw [d1, Bool.true_and]
        by_cases h2 : f ≤ t
        · have d2 : decide (f ≤ t) = true := decide_eq_true h2
          rw [d2, Bool.true_and]
          go_enter Tryd.func19, Tryd.ntmps19
          go_wp2_with (refine (HS.out _).mono ?_; rintro e w' ⟨rfl, rfl⟩)
          go_ret
          exact ⟨rfl, B1⟩
        · have d2 : decide (f ≤ t) = false := decide_eq_false h2
          rw [d2, Bool.false_and]
          go_enter Tryd.func19, Tryd.ntmps19
          go_wp2_with (refine (HS.out _).mono ?_; rintro e w' ⟨rfl, rfl⟩)
          go_ret
          exact ⟨rfl, B1⟩
      · have d1 : decide (0 ≤ f) = false := decide_eq_false h1
        rw [d1, Bool.false_and]
        go_enter Tryd.func19, Tryd.ntmps19
        go_wp2_with (refine (HS.out _).mono ?_; rintro e w' ⟨rfl, rfl⟩)
        go_ret
        exact ⟨rfl, B1⟩
    · rw [step false (by rw [decide_eq_false (by omega)]), Bool.false_and]
      rw [decide_eq_false hs] at HS
      clear step
      go_enter Tryd.func19, Tryd.ntmps19
      go_wp2_with (refine (HS.out _).mono ?_; rintro e w' ⟨rfl, rfl⟩)
      go_ret
      exact ⟨rfl, B1⟩
end Go.Proofs.YtmgjfmgkmlfjeaaDoor
