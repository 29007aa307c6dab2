/- The reference's counts: one, Plus, Get, walked. -/
import Derived.Test.YthlmfmaiecmebaaDoorCount
import Derived.Test.YthlmfmaiecmebaaDoorRefPoints
namespace Go.Proofs.YthlmfmaiecmebaaDoor
open Go.RowKit Go.Sort

theorem enc_ten (c : Int) (h : scalar c) (e : enc c = [10]) : c = 10 := by
  have h1 := (sz1_enc c h []).2
  rw [List.append_nil, e] at h1
  exact h1.symm.trans (by decide)

set_option maxHeartbeats 1000000 in
set_option maxRecDepth 100000 in
/-- The reference's one. -/
theorem refone_any (c : Int) (hc : scalar c) (w : World) :
    Calls Tryd.prog 25 #[.string (cacc (enc c))] w fun e w' => e = .returned (.agg #[.int .i64 ((enc c).length : Nat), .int .i64 1, .int .i64 (un c), .int .i64 (ln c)]) ∧ Below w.heap.size w w' := by
  have hel := enc_len c hc
  have hu : ((((enc c).length : Int) == 4) = true ∧ ((enc c).length == 4) = true ∧ Hid (un c = 2)) ∨ ((((enc c).length : Int) == 4) = false ∧ ((enc c).length == 4) = false ∧ Hid (un c = 1)) := by
    by_cases h : 65535 < c
    · exact Or.inl ⟨by simp; omega, by simp; omega, by show un c = 2; unfold un; rw [if_pos h]⟩
    · exact Or.inr ⟨by simp; omega, by simp; omega, by show un c = 1; unfold un; rw [if_neg h]⟩
  have hl : (((cacc (enc c)).toList == [10]) = true ∧ Hid (ln c = 1)) ∨ (((cacc (enc c)).toList == [10]) = false ∧ Hid (ln c = 0)) := by
    have e : (cacc (enc c)).toList = enc c := by rw [Lib.toList_data]; rfl
    rw [e]
    by_cases h : c = 10
    · exact Or.inl ⟨by subst h; decide, by show ln c = 1; unfold ln; rw [if_pos h]⟩
    · refine Or.inr ⟨?_, by show ln c = 0; unfold ln; rw [if_neg h]⟩
      simp only [beq_eq_false_iff_ne, ne_eq]
      exact fun e => h (enc_ten c hc e)
  have hsz : (cacc (enc c)).size = (enc c).length := rfl
  have hle : (enc c).length ≤ 4 := (enc_length c).2
  clear hel
  have HZ : Hid ((cacc (enc c)).size = (enc c).length) := hsz
  rw [← hsz] at hu hle ⊢
  clear hsz HZ
  generalize cacc (enc c) = T at *
  rcases hu with ⟨hu, hu', U⟩ | ⟨hu, hu', U⟩
  all_goals
    rcases hl with ⟨hl, L⟩ | ⟨hl, L⟩
    all_goals
      rw [U.out, L.out]
      clear U L
      go_enter Tryd.func25, Tryd.ntmps25
      go_wp2
      refine bodyPost_ret (results_row4 rfl _ _ w.heap.size _ _ _ _ rfl ((Row4.new' rfl _ _ _ _).alloc _)) rfl ⟨rfl, ?_⟩
      exact ((Below.refl _ _).alloc (Nat.le_refl _) _).alloc (by simp) _

set_option maxHeartbeats 1000000 in
set_option maxRecDepth 100000 in
/-- palinoderef2.Plus. -/
theorem refplus_any (a0 a1 a2 a3 b0 b1 b2 b3 : Int) (w : World) :
    Calls Tryd.prog 17 #[.agg #[.int .i64 a0, .int .i64 a1, .int .i64 a2, .int .i64 a3], .agg #[.int .i64 b0, .int .i64 b1, .int .i64 b2, .int .i64 b3]] w fun e w' => e = .returned (.agg #[.int .i64 (wrap64 (a0 + b0)), .int .i64 (wrap64 (a1 + b1)), .int .i64 (wrap64 (a2 + b2)), .int .i64 (wrap64 (a3 + b3))]) ∧ Below w.heap.size w w' := by
  go_enter Tryd.func17, Tryd.ntmps17
  go_wp2
  refine bodyPost_ret (results_row4 rfl _ _ (w.heap.size + 1 + 1) _ _ _ _ rfl (Row4.new' (by simp) _ _ _ _)) rfl ⟨rfl, ?_⟩
  exact (((Below.refl _ _).alloc (Nat.le_refl _) _).alloc (by simp) _).alloc (by simp <;> omega) _

set_option maxHeartbeats 1000000 in
set_option maxRecDepth 100000 in
/-- palinoderef2.Get. -/
theorem refget_any (k a0 a1 a2 a3 : Int) (w : World) :
    Calls Tryd.prog 19 #[.agg #[.int .i64 a0, .int .i64 a1, .int .i64 a2, .int .i64 a3], .int .i64 k] w fun e w' => e = .returned (.int .i64 (get4 k a0 a1 a2 a3)) ∧ Below w.heap.size w w' := by
  have bA : Below w.heap.size w (w.alloc (Obj.cells #[.int .i64 a0, .int .i64 a1, .int .i64 a2, .int .i64 a3] 23)) := (Below.refl _ _).alloc (Nat.le_refl _) _
  by_cases h0 : k = 0
  · subst h0
    go_enter Tryd.func19, Tryd.ntmps19
    go_wp2
    go_ret
    exact ⟨rfl, bA⟩
  · have q0 : (k == 0) = false := by simpa using h0
    by_cases h1 : k = 1
    · subst h1
      go_enter Tryd.func19, Tryd.ntmps19
      go_wp2
      go_ret
      exact ⟨rfl, bA⟩
    · have q1 : (k == 1) = false := by simpa using h1
      by_cases h2 : k = 2
      · subst h2
        go_enter Tryd.func19, Tryd.ntmps19
        go_wp2
        go_ret
        exact ⟨rfl, bA⟩
      · have q2 : (k == 2) = false := by simpa using h2
        by_cases h3 : k = 3
        · subst h3
          go_enter Tryd.func19, Tryd.ntmps19
          go_wp2
          go_ret
          exact ⟨rfl, bA⟩
        · have q3 : (k == 3) = false := by simpa using h3
          have e : get4 k a0 a1 a2 a3 = 0 := by unfold get4; rw [if_neg h0, if_neg h1, if_neg h2, if_neg h3]
          rw [e]
          clear e h0 h1 h2 h3
          go_enter Tryd.func19, Tryd.ntmps19
          go_wp2
          go_ret
          exact ⟨rfl, bA⟩
/-- The four counts of a text, as a value. -/
theorem refplus_step (n m : Nat) (p u l u' l' : Int) (h : (n : Int) + m ≤ 1000000000000000 ∧ 0 ≤ p ∧ p ≤ 1000000000000000 ∧ 0 ≤ u ∧ u ≤ 1000000000000000 ∧ 0 ≤ l ∧ l ≤ 1000000000000000 ∧ 0 ≤ u' ∧ u' ≤ 2 ∧ 0 ≤ l' ∧ l' ≤ 1) (w : World) :
    Calls Tryd.prog 17 #[.agg #[.int .i64 (n : Nat), .int .i64 p, .int .i64 u, .int .i64 l], .agg #[.int .i64 (m : Nat), .int .i64 1, .int .i64 u', .int .i64 l']] w fun e w' => e = .returned (.agg #[.int .i64 ((n + m : Nat) : Int), .int .i64 (p + 1), .int .i64 (u + u'), .int .i64 (l + l')]) ∧ Below w.heap.size w w' := by
  have := refplus_any n p u l m 1 u' l' w
  rw [show wrap64 ((n : Int) + m) = ((n + m : Nat) : Int) from by unfold wrap64; omega, show wrap64 (p + 1) = p + 1 from by unfold wrap64; omega, show wrap64 (u + u') = u + u' from by unfold wrap64; omega, show wrap64 (l + l') = l + l' from by unfold wrap64; omega] at this
  exact this

end Go.Proofs.YthlmfmaiecmebaaDoor
