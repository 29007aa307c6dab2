/- count.first, count.Plus, count.Get, walked. -/
import Derived.Test.YtfgefdkkjfjjjabGreatDoorCnt
import Derived.Test.YtfgefdkkjfjjjabGreatDoorDec
import Derived.Test.YtfgefdkkjfjjjabGreatDoorTurns
import Derived.Test.YtfgefdkkjfjjjabGreatDoorMem4
namespace Go.Proofs.YtfgefdkkjfjjjabGreatDoor
open Go.RowKit Go.Sort

set_option maxHeartbeats 1000000 in
set_option maxRecDepth 100000 in
/-- count.first. -/
theorem first_any (s : ByteArray) (c : Int) (rest : List UInt8) (hc : scalar c) (hd : s.data.toList = enc c ++ rest) (w : World) (tb : Nat × Nat) (hT : Tabs w tb) :
    Calls Tryz.prog 72 #[.string s] w fun e w' => e = .returned (.agg #[.int .i64 ((enc c).length : Nat), .int .i64 1, .int .i64 (un c), .int .i64 (ln c)]) ∧ Below w.heap.size w w' := by
  have HD : Hid (∀ W, Tabs W tb → Calls Tryz.prog 84 #[.string s] W fun e w' => e = .returned (.tuple #[.int .i32 c, .int .i64 ((enc c).length : Nat)]) ∧ Below W.heap.size W w') := fun W h => decode_any s c rest hc hd W tb h
  have hel := enc_length c
  clear hd
  generalize (enc c).length = n at *
  have hu : (65535 < c ∧ Hid (un c = 2)) ∨ (decide (65535 < c) = false ∧ Hid (un c = 1)) := by
    by_cases h : 65535 < c
    · exact Or.inl ⟨h, by show un c = 2; unfold un; rw [if_pos h]⟩
    · exact Or.inr ⟨by simpa using h, by show un c = 1; unfold un; rw [if_neg h]⟩
  have hl : ((c == 10) = true ∧ Hid (ln c = 1)) ∨ ((c == 10) = false ∧ Hid (ln c = 0)) := by
    by_cases h : c = 10
    · exact Or.inl ⟨by simpa using h, by show ln c = 1; unfold ln; rw [if_pos h]⟩
    · exact Or.inr ⟨by simpa using h, by show ln c = 0; unfold ln; rw [if_neg h]⟩
  unfold scalar at hc
  rcases hu with ⟨hu, U⟩ | ⟨hu, U⟩
  all_goals
    rcases hl with ⟨hl, L⟩ | ⟨hl, L⟩
    all_goals
      rw [U.out, L.out]
      clear U L
      go_enter Tryz.func72, Tryz.ntmps72
      go_wp2_with fail
      have b0 : Below w.heap.size w (w.alloc (Obj.cells #[.int .i64 0, .int .i64 0, .int .i64 0, .int .i64 0] 38)) := (Below.refl _ _).alloc (Nat.le_refl _) _
      refine (HD.out _ (hT.later b0)).mono ?_
      rintro e w1 ⟨rfl, b1⟩
      have r1 : Row4 w1 w.heap.size (.int .i64 0) (.int .i64 0) (.int .i64 0) (.int .i64 0) := (Row4.new w _ _ _ _).later b1 (by simp)
      have c0 := r1.c0; have c1 := r1.c1; have c2 := r1.c2; have c3 := r1.c3; have fz := r1.fz
      have hlt := r1.lt
      have R1 := Hid.mk4 r1
      clear r1
      have g1 := b0.trans (b1.mono b0.size)
      clear b0 b1
      go_wp2
      refine bodyPost_ret (results_row4 rfl _ _ w.heap.size _ _ _ _ rfl ((R1.out.set _ _ _ _).alloc _)) rfl ⟨rfl, ?_⟩
      exact Below.alloc (below_set4 g1 (Nat.le_refl _) _ _ _ _) (below_set4 g1 (Nat.le_refl _) _ _ _ _).size _

set_option maxHeartbeats 1000000 in
set_option maxRecDepth 100000 in
/-- count.Plus. -/
theorem plus_any (a0 a1 a2 a3 b0 b1 b2 b3 : Int) (w : World) :
    Calls Tryz.prog 71 #[.agg #[.int .i64 a0, .int .i64 a1, .int .i64 a2, .int .i64 a3], .agg #[.int .i64 b0, .int .i64 b1, .int .i64 b2, .int .i64 b3]] w fun e w' => e = .returned (.agg #[.int .i64 (wrap64 (a0 + b0)), .int .i64 (wrap64 (a1 + b1)), .int .i64 (wrap64 (a2 + b2)), .int .i64 (wrap64 (a3 + b3))]) ∧ Below w.heap.size w w' := by
  go_enter Tryz.func71, Tryz.ntmps71
  go_wp2
  refine bodyPost_ret (results_row4 rfl _ _ (w.heap.size + 1 + 1) _ _ _ _ rfl (Row4.new' (by simp) _ _ _ _)) rfl ⟨rfl, ?_⟩
  exact (((Below.refl _ _).alloc (Nat.le_refl _) _).alloc (by simp) _).alloc (by simp <;> omega) _

set_option maxHeartbeats 1000000 in
set_option maxRecDepth 100000 in
/-- count.Get. -/
theorem get_any (k a0 a1 a2 a3 : Int) (w : World) :
    Calls Tryz.prog 49 #[.agg #[.int .i64 a0, .int .i64 a1, .int .i64 a2, .int .i64 a3], .int .i64 k] w fun e w' => e = .returned (.int .i64 (get4 k a0 a1 a2 a3)) ∧ Below w.heap.size w w' := by
  have bA : Below w.heap.size w (w.alloc (Obj.cells #[.int .i64 a0, .int .i64 a1, .int .i64 a2, .int .i64 a3] 38)) := (Below.refl _ _).alloc (Nat.le_refl _) _
  by_cases h0 : k = 0
  · subst h0
    go_enter Tryz.func49, Tryz.ntmps49
    go_wp2
    go_ret
    exact ⟨rfl, bA⟩
  · have q0 : (k == 0) = false := by simpa using h0
    by_cases h1 : k = 1
    · subst h1
      go_enter Tryz.func49, Tryz.ntmps49
      go_wp2
      go_ret
      exact ⟨rfl, bA⟩
    · have q1 : (k == 1) = false := by simpa using h1
      by_cases h2 : k = 2
      · subst h2
        go_enter Tryz.func49, Tryz.ntmps49
        go_wp2
        go_ret
        exact ⟨rfl, bA⟩
      · have q2 : (k == 2) = false := by simpa using h2
        by_cases h3 : k = 3
        · subst h3
          go_enter Tryz.func49, Tryz.ntmps49
          go_wp2
          go_ret
          exact ⟨rfl, bA⟩
        · have q3 : (k == 3) = false := by simpa using h3
          have e : get4 k a0 a1 a2 a3 = 0 := by unfold get4; rw [if_neg h0, if_neg h1, if_neg h2, if_neg h3]
          rw [e]
          clear e h0 h1 h2 h3
          go_enter Tryz.func49, Tryz.ntmps49
          go_wp2
          go_ret
          exact ⟨rfl, bA⟩
end Go.Proofs.YtfgefdkkjfjjjabGreatDoor
