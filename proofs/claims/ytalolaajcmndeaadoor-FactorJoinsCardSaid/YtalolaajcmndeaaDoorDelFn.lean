/- isBase, isCopy, isInsert, copied, inserted. -/
import Derived.Test.YtalolaajcmndeaaDoorDelMem
import Derived.Test.YtalolaajcmndeaaDoorDelBuild
namespace Go.Proofs.YtalolaajcmndeaaDoor
open Go.RowKit Go.Sort
set_option linter.unusedSimpArgs false
set_option linter.unusedVariables false

theorem below_newE {a w : World} (h : Below a.heap.size a w) (o : Obj) : Below a.heap.size a (w.alloc o) := h.alloc h.size o
theorem ret_boolE {a b : Bool} (h : a = b) : Ending.returned (.bool a) = .returned (.bool b) := by rw [h]
theorem size_of_ne {s : ByteArray} (h : s.size ≠ 0) : s.toList.isEmpty = false ∧ ¬ s.toList = [] := by
  have h1 : ¬ s.toList = [] := fun e => h (by rw [← bytes_length, ← ByteArray.toList_eq, e]; rfl)
  exact ⟨by simpa using h1, h1⟩
theorem eq_of_size {s : ByteArray} (h : s.size = 0) : s = ⟨#[]⟩ := by
  obtain ⟨d⟩ := s
  congr 1
  exact Array.eq_empty_of_size_eq_zero h
set_option maxHeartbeats 1000000 in
set_option maxRecDepth 100000 in
theorem isBase_any (n : Int) (w : World) :
    Calls Tryd.prog 60 #[.int .i64 n] w fun e w' => e = .returned (.bool (decide (0 ≤ n ∧ n ≤ 20000))) ∧ w' = w := by
  by_cases h1 : 0 ≤ n
  · have e1 : decide (0 ≤ n) = true := decide_eq_true h1
    go_enter Tryd.func60, Tryd.ntmps60
    go_wp2
    go_ret
    exact ⟨ret_boolE (by simp [h1]), rfl⟩
  · have e1 : decide (0 ≤ n) = false := decide_eq_false h1
    go_enter Tryd.func60, Tryd.ntmps60
    go_wp2
    go_ret
    exact ⟨ret_boolE (by simp [h1]), rfl⟩
set_option maxHeartbeats 1000000 in
set_option maxRecDepth 100000 in
theorem isCopy_any (f t : Int) (s : ByteArray) (w : World) :
    Calls Tryd.prog 61 #[.agg #[.int .i64 f, .int .i64 t, .string s]] w fun e w' => e = .returned (.bool (decide (f < t) && decide (s.size = 0))) ∧ Below w.heap.size w w' := by
  have b1 := below_newE (Below.refl w.heap.size w) (.cells #[.int .i64 f, .int .i64 t, .string s] 70)
  by_cases h1 : f < t
  · have e1 : decide (f < t) = true := decide_eq_true h1
    by_cases h2 : s.size = 0
    · have e2 : decide (s.size = 0) = true := decide_eq_true h2
      rw [e1, e2]
      obtain rfl := eq_of_size h2
      clear h2 e2
      go_enter Tryd.func61, Tryd.ntmps61
      go_wp2
      go_ret
      exact ⟨rfl, b1⟩
    · obtain ⟨n1, n2⟩ := size_of_ne h2
      have e2 : decide (s.size = 0) = false := decide_eq_false h2
      rw [e1, e2]
      clear h2 e2
      go_enter Tryd.func61, Tryd.ntmps61
      go_wp2
      go_ret
      exact ⟨rfl, b1⟩
  · have e1 : decide (f < t) = false := decide_eq_false h1
    go_enter Tryd.func61, Tryd.ntmps61
    go_wp2
    go_ret
    exact ⟨ret_boolE (by simp [h1]), b1⟩
set_option maxHeartbeats 1000000 in
set_option maxRecDepth 100000 in
theorem isInsert_any (f t : Int) (s : ByteArray) (w : World) (tb : Nat × Nat) (hs : s.size ≤ maxLen) (hT : Tab w tb) :
    Calls Tryd.prog 62 #[.agg #[.int .i64 f, .int .i64 t, .string s]] w fun e w' => e = .returned (.bool (decide (s.size ≠ 0 ∧ f = 0 ∧ t = 0) && vld s.data.toList)) ∧ Below w.heap.size w w' := by
  have b1 := below_newE (Below.refl w.heap.size w) (.cells #[.int .i64 f, .int .i64 t, .string s] 70)
  by_cases h2 : s.size = 0
  · have e2 : decide (s.size ≠ 0 ∧ f = 0 ∧ t = 0) = false := decide_eq_false fun h => h.1 h2
    rw [e2, Bool.false_and]
    obtain rfl := eq_of_size h2
    clear h2 e2 hs
    go_enter Tryd.func62, Tryd.ntmps62
    go_wp2
    go_ret
    exact ⟨rfl, b1⟩
  · obtain ⟨n1, n2⟩ := size_of_ne h2
    have HV := Hid.mk7 (valid_any s (w.alloc (.cells #[.int .i64 f, .int .i64 t, .string s] 70)) tb hs (hT.later b1))
    by_cases h3 : f = 0
    · subst h3
      by_cases h4 : t = 0
      · subst h4
        rw [show decide (s.size ≠ 0 ∧ (0 : Int) = 0 ∧ (0 : Int) = 0) = true from decide_eq_true ⟨h2, rfl, rfl⟩, Bool.true_and]
        clear h2
        go_enter Tryd.func62, Tryd.ntmps62
        go_wp2_with fail
        refine HV.out.mono ?_
        rintro e w1 ⟨rfl, b2⟩
        go_wp2
        go_ret
        exact ⟨rfl, b1.trans (b2.mono b1.size)⟩
      · rw [show decide (s.size ≠ 0 ∧ (0 : Int) = 0 ∧ t = 0) = false from decide_eq_false fun h => h4 h.2.2, Bool.false_and]
        have e4 : (t == 0) = false := by simpa using h4
        have e5 : decide (t = 0) = false := by simpa using h4
        go_enter Tryd.func62, Tryd.ntmps62
        go_wp2
        go_ret
        exact ⟨rfl, b1⟩
    · rw [show decide (s.size ≠ 0 ∧ f = 0 ∧ t = 0) = false from decide_eq_false fun h => h3 h.2.1, Bool.false_and]
      have e4 : (f == 0) = false := by simpa using h3
      have e5 : decide (f = 0) = false := by simpa using h3
      go_enter Tryd.func62, Tryd.ntmps62
      go_wp2
      go_ret
      exact ⟨rfl, b1⟩
set_option maxHeartbeats 1000000 in
set_option maxRecDepth 100000 in
theorem copied_any {w : World} {v : Value} {es : List El} (h : ElAt w v es) (hbd : Bd es) (hl : es.length ≤ 20000) :
    Calls Tryd.prog 52 #[v] w fun e w' => e = .returned (.int .i64 (cpS es)) ∧ Below w.heap.size w w' := by
  obtain ⟨a, cap, rfl, hcap, _, hcells⟩ := h
  have HC := Hid.mk7 hcells
  have HB := Hid.mk7 hbd
  clear hcells hbd
  go_enter Tryd.func52, Tryd.ntmps52
  go_wp2
  go_loopw [3, 8] (fun nv iv wr => ∃ (k : Nat) (n : Int), k ≤ es.length ∧ iv = .int .i64 (k : Nat) ∧ nv = .int .i64 n ∧ Hid (n = cpS (es.take k)) ∧ 0 ≤ n ∧ n ≤ 20000 * (k : Int) ∧ Below w.heap.size w wr) (fun _ iv _ => es.length - (intOf iv).toNat)
  case atStart => exact ⟨0, 0, Nat.zero_le _, rfl, rfl, by show _ = _; simp [cpS], by omega, by omega, Below.refl _ _⟩
  case round =>
    obtain ⟨k, n, hk, rfl, rfl, HN, hn0, hn1, hb⟩ := hrel
    by_cases hlt : k < es.length
    · obtain ⟨⟨f, t, T⟩, hr⟩ : ∃ r, es[k]? = some r := ⟨es[k], List.getElem?_eq_getElem hlt⟩
      obtain ⟨g, off, rfl, q0, q1, q2⟩ := HC.out k _ hr
      have c0 := cell_later7 hb (Nat.le_refl _) q0
      have c1 := cell_later7 hb (Nat.le_refl _) q1
      have c2 := cell_later7 hb (Nat.le_refl _) q2
      simp only at c0 c1 c2
      have hd := HB.out _ (List.mem_of_getElem? hr)
      simp only at hd
      have HN2 : Hid (n + (t - f) = cpS (es.take (k + 1))) := by show _ = _; rw [HN.out, take_snoc7 hr, cpS_append]; simp [cpS]
      have hb2 := below_newE hb (.cells #[.int .i64 f, .int .i64 t, .string (cacc T)] 70)
      clear q0 q1 q2 hr
      generalize cacc T = s at *
      go_wp2
      go_roundw
      case rel => exact ⟨k + 1, n + (t - f), by omega, by go_num, by go_num, HN2, by omega, by omega, hb2⟩
      case measure => simp [intOf]; omega
    · obtain rfl : k = es.length := by omega
      have HE : Hid (cpS es = n) := by show _ = _; rw [HN.out, List.take_length]
      go_wp2
      go_ret
      exact ⟨ret_int HE.out.symm, hb⟩
/-- Texts that fit. -/
def Sm (es : List El) (m : Nat) : Prop := ∀ e ∈ es, e.2.2.length ≤ m
theorem inS_bd : ∀ (es : List El) (m : Nat), Sm es m → inS es ≤ m * es.length
  | [], _, _ => by simp [inS]
  | e :: es, m, h => by
    have ih := inS_bd es m (fun x hx => h x (by simp [hx]))
    have := h e (by simp)
    simp only [inS, List.map_cons, List.sum_cons, List.length_cons] at *
    rw [Nat.mul_add, Nat.mul_one]
    omega
theorem Sm.take {es : List El} {m : Nat} (h : Sm es m) (k : Nat) : Sm (es.take k) m := fun e he => h e (List.mem_of_mem_take he)
set_option maxHeartbeats 1000000 in
set_option maxRecDepth 100000 in
theorem inserted_any {w : World} {v : Value} {es : List El} (h : ElAt w v es) (hsm : Sm es 281474976710656) (hl : es.length ≤ 20000) :
    Calls Tryd.prog 53 #[v] w fun e w' => e = .returned (.int .i64 (inS es : Nat)) ∧ Below w.heap.size w w' := by
  obtain ⟨a, cap, rfl, hcap, _, hcells⟩ := h
  have HC := Hid.mk7 hcells
  have HB := Hid.mk7 hsm
  clear hcells hsm
  go_enter Tryd.func53, Tryd.ntmps53
  go_wp2
  go_loopw [3, 8] (fun nv iv wr => ∃ (k n : Nat), k ≤ es.length ∧ iv = .int .i64 (k : Nat) ∧ nv = .int .i64 (n : Nat) ∧ Hid (n = inS (es.take k)) ∧ n ≤ 281474976710656 * k ∧ Below w.heap.size w wr) (fun _ iv _ => es.length - (intOf iv).toNat)
  case atStart => exact ⟨0, 0, Nat.zero_le _, rfl, rfl, by show _ = _; simp [inS], by omega, Below.refl _ _⟩
  case round =>
    obtain ⟨k, n, hk, rfl, rfl, HN, hn1, hb⟩ := hrel
    by_cases hlt : k < es.length
    · obtain ⟨⟨f, t, T⟩, hr⟩ : ∃ r, es[k]? = some r := ⟨es[k], List.getElem?_eq_getElem hlt⟩
      obtain ⟨g, off, rfl, q0, q1, q2⟩ := HC.out k _ hr
      have c0 := cell_later7 hb (Nat.le_refl _) q0
      have c1 := cell_later7 hb (Nat.le_refl _) q1
      have c2 := cell_later7 hb (Nat.le_refl _) q2
      simp only at c0 c1 c2
      have hd := HB.out _ (List.mem_of_getElem? hr)
      simp only at hd
      have HN2 : Hid (n + T.length = inS (es.take (k + 1))) := by show _ = _; rw [HN.out, take_snoc7 hr, inS_append]; simp [inS]
      have hb2 := below_newE hb (.cells #[.int .i64 f, .int .i64 t, .string (cacc T)] 70)
      have hsz : (cacc T).size = T.length := cacc_size T
      clear q0 q1 q2 hr
      generalize cacc T = s at *
      generalize T.length = m at *
      subst hsz
      go_wp2
      go_roundw
      case rel => exact ⟨k + 1, n + s.size, by omega, by go_num, by go_num, HN2, by omega, hb2⟩
      case measure => simp [intOf]; omega
    · obtain rfl : k = es.length := by omega
      have HE : Hid ((inS es : Int) = n) := by show _ = _; rw [HN.out, List.take_length]
      go_wp2
      go_ret
      exact ⟨ret_int HE.out.symm, hb⟩
end Go.Proofs.YtalolaajcmndeaaDoor
