/- The reference's counts: one, Plus, Get, walked. The reference's Of, walked. -/
import Derived.Test.YtfgefdkkjfjjjabGreatDoorCount
import Derived.Test.YtfgefdkkjfjjjabGreatDoorRefPoints
import Derived.Test.YtfgefdkkjfjjjabGreatDoorCountOf
namespace Go.Proofs.YtfgefdkkjfjjjabGreatDoor
open Go.RowKit Go.Sort

theorem enc_ten (c : Int) (h : scalar c) (e : enc c = [10]) : c = 10 := by
  have h1 := (sz1_enc c h []).2
  rw [List.append_nil, e] at h1
  exact h1.symm.trans (by decide)

set_option maxHeartbeats 1000000 in
set_option maxRecDepth 100000 in
/-- The reference's one. -/
theorem refone_any (c : Int) (hc : scalar c) (w : World) :
    Calls Tryz.prog 33 #[.string (cacc (enc c))] w fun e w' => e = .returned (.agg #[.int .i64 ((enc c).length : Nat), .int .i64 1, .int .i64 (un c), .int .i64 (ln c)]) ∧ Below w.heap.size w w' := by
  have hel := enc_len c hc
  have hu : ((((enc c).length : Int) == 4) = true ∧ ((enc c).length == 4) = true ∧ Hid (un c = 2)) ∨ ((((enc c).length : Int) == 4) = false ∧ ((enc c).length == 4) = false ∧ Hid (un c = 1)) := by
    by_cases h : 65535 < c
    · exact Or.inl ⟨by simp; omega, by simp; omega, by show un c = 2; unfold un; rw [if_pos h]⟩
    · exact Or.inr ⟨by simp; omega, by simp; omega, by show un c = 1; unfold un; rw [if_neg h]⟩
  have hl : (((cacc (enc c)).toList == [10]) = true ∧ Hid (ln c = 1)) ∨ (((cacc (enc c)).toList == [10]) = false ∧ Hid (ln c = 0)) := by
    have e : (cacc (enc c)).toList = enc c := by rw [Lib.toList_data]; rfl
    rw [e]
    by_cases h : c = 10
    · exact Or.inl ⟨by subst h; decide, by show ln c = 1; unfold ln; rw [if_pos h]⟩
    · refine Or.inr ⟨?_, by show ln c = 0; unfold ln; rw [if_neg h]⟩
      simp only [beq_eq_false_iff_ne, ne_eq]
      exact fun e => h (enc_ten c hc e)
  have hsz : (cacc (enc c)).size = (enc c).length := rfl
  have hle : (enc c).length ≤ 4 := (enc_length c).2
  clear hel
  have HZ : Hid ((cacc (enc c)).size = (enc c).length) := hsz
  rw [← hsz] at hu hle ⊢
  clear hsz HZ
  generalize cacc (enc c) = T at *
  rcases hu with ⟨hu, hu', U⟩ | ⟨hu, hu', U⟩
  all_goals
    rcases hl with ⟨hl, L⟩ | ⟨hl, L⟩
    all_goals
      rw [U.out, L.out]
      clear U L
      go_enter Tryz.func33, Tryz.ntmps33
      go_wp2
      refine bodyPost_ret (results_row4 rfl _ _ w.heap.size _ _ _ _ rfl ((Row4.new' rfl _ _ _ _).alloc _)) rfl ⟨rfl, ?_⟩
      exact ((Below.refl _ _).alloc (Nat.le_refl _) _).alloc (by simp) _

set_option maxHeartbeats 1000000 in
set_option maxRecDepth 100000 in
/-- palinoderef2.Plus. -/
theorem refplus_any (a0 a1 a2 a3 b0 b1 b2 b3 : Int) (w : World) :
    Calls Tryz.prog 32 #[.agg #[.int .i64 a0, .int .i64 a1, .int .i64 a2, .int .i64 a3], .agg #[.int .i64 b0, .int .i64 b1, .int .i64 b2, .int .i64 b3]] w fun e w' => e = .returned (.agg #[.int .i64 (wrap64 (a0 + b0)), .int .i64 (wrap64 (a1 + b1)), .int .i64 (wrap64 (a2 + b2)), .int .i64 (wrap64 (a3 + b3))]) ∧ Below w.heap.size w w' := by
  go_enter Tryz.func32, Tryz.ntmps32
  go_wp2
  refine bodyPost_ret (results_row4 rfl _ _ (w.heap.size + 1 + 1) _ _ _ _ rfl (Row4.new' (by simp) _ _ _ _)) rfl ⟨rfl, ?_⟩
  exact (((Below.refl _ _).alloc (Nat.le_refl _) _).alloc (by simp) _).alloc (by simp <;> omega) _

set_option maxHeartbeats 1000000 in
set_option maxRecDepth 100000 in
/-- palinoderef2.Get. -/
theorem refget_any (k a0 a1 a2 a3 : Int) (w : World) :
    Calls Tryz.prog 15 #[.agg #[.int .i64 a0, .int .i64 a1, .int .i64 a2, .int .i64 a3], .int .i64 k] w fun e w' => e = .returned (.int .i64 (get4 k a0 a1 a2 a3)) ∧ Below w.heap.size w w' := by
  have bA : Below w.heap.size w (w.alloc (Obj.cells #[.int .i64 a0, .int .i64 a1, .int .i64 a2, .int .i64 a3] 38)) := (Below.refl _ _).alloc (Nat.le_refl _) _
  by_cases h0 : k = 0
  · subst h0
    go_enter Tryz.func15, Tryz.ntmps15
    go_wp2
    go_ret
    exact ⟨rfl, bA⟩
  · have q0 : (k == 0) = false := by simpa using h0
    by_cases h1 : k = 1
    · subst h1
      go_enter Tryz.func15, Tryz.ntmps15
      go_wp2
      go_ret
      exact ⟨rfl, bA⟩
    · have q1 : (k == 1) = false := by simpa using h1
      by_cases h2 : k = 2
      · subst h2
        go_enter Tryz.func15, Tryz.ntmps15
        go_wp2
        go_ret
        exact ⟨rfl, bA⟩
      · have q2 : (k == 2) = false := by simpa using h2
        by_cases h3 : k = 3
        · subst h3
          go_enter Tryz.func15, Tryz.ntmps15
          go_wp2
          go_ret
          exact ⟨rfl, bA⟩
        · have q3 : (k == 3) = false := by simpa using h3
          have e : get4 k a0 a1 a2 a3 = 0 := by unfold get4; rw [if_neg h0, if_neg h1, if_neg h2, if_neg h3]
          rw [e]
          clear e h0 h1 h2 h3
          go_enter Tryz.func15, Tryz.ntmps15
          go_wp2
          go_ret
          exact ⟨rfl, bA⟩
/-- The four counts of a text, as a value. -/
theorem refplus_step (n m : Nat) (p u l u' l' : Int) (h : (n : Int) + m ≤ 1000000000000000 ∧ 0 ≤ p ∧ p ≤ 1000000000000000 ∧ 0 ≤ u ∧ u ≤ 1000000000000000 ∧ 0 ≤ l ∧ l ≤ 1000000000000000 ∧ 0 ≤ u' ∧ u' ≤ 2 ∧ 0 ≤ l' ∧ l' ≤ 1) (w : World) :
    Calls Tryz.prog 32 #[.agg #[.int .i64 (n : Nat), .int .i64 p, .int .i64 u, .int .i64 l], .agg #[.int .i64 (m : Nat), .int .i64 1, .int .i64 u', .int .i64 l']] w fun e w' => e = .returned (.agg #[.int .i64 ((n + m : Nat) : Int), .int .i64 (p + 1), .int .i64 (u + u'), .int .i64 (l + l')]) ∧ Below w.heap.size w w' := by
  have := refplus_any n p u l m 1 u' l' w
  rw [show wrap64 ((n : Int) + m) = ((n + m : Nat) : Int) from by unfold wrap64; omega, show wrap64 (p + 1) = p + 1 from by unfold wrap64; omega, show wrap64 (u + u') = u + u' from by unfold wrap64; omega, show wrap64 (l + l') = l + l' from by unfold wrap64; omega] at this
  exact this

end Go.Proofs.YtfgefdkkjfjjjabGreatDoor
namespace Go.Proofs.YtfgefdkkjfjjjabGreatDoor
open Go.RowKit Go.Sort

theorem getD_mid (cs1 : List Int) (c : Int) (cs3 : List Int) : (cs1 ++ c :: cs3).getD cs1.length 0 = c := by simp [List.getD_eq_getElem?_getD]

set_option maxHeartbeats 1000000 in
set_option maxRecDepth 100000 in
/-- The reference's Of. -/
theorem refof_any (s : ByteArray) (w : World) (hs : s.size ≤ 5000) :
    Calls Tryz.prog 16 #[.string s] w fun e w' => e = .returned (.agg #[.int .i64 (kB (pts s.data.toList)), .int .i64 (kP (pts s.data.toList)), .int .i64 (kU (pts s.data.toList)), .int .i64 (kL (pts s.data.toList))]) ∧ Below w.heap.size w w' := by
  have hpl := pts_length s.data.toList
  rw [bytes_length] at hpl
  obtain ⟨cs, hcs⟩ : ∃ cs, cs = pts s.data.toList := ⟨_, rfl⟩
  have HG : Hid (Good cs) := by rw [hcs]; exact good_pts' _
  have HPt : Hid (∀ W, Calls Tryz.prog 31 #[.string s] W fun e w' => ∃ v, e = .returned v ∧ w'.ownsRow W.heap.size 9 1 v cs.length (strRow cs) ∧ Below W.heap.size W w') := fun W => by rw [hcs]; exact refpoints_own s W (by omega)
  rw [← hcs] at hpl ⊢
  clear hcs
  have hcl : cs.length ≤ 5000 := by omega
  clear hpl
  have b0 : Below w.heap.size w (w.alloc (Obj.cells #[.int .i64 0, .int .i64 0, .int .i64 0, .int .i64 0] 38)) := (Below.refl _ _).alloc (Nat.le_refl _) _
  go_enter Tryz.func16, Tryz.ntmps16
  go_wp2_with fail
  refine (HPt.out _).mono ?_
  rintro e w1 ⟨v, rfl, hown, b1⟩
  have r1 : Row4 w1 w.heap.size (.int .i64 0) (.int .i64 0) (.int .i64 0) (.int .i64 0) := (Row4.new w _ _ _ _).later b1 (by simp)
  have g1 := b0.trans (b1.mono b0.size)
  have R1 := Hid.mk4 r1
  have hlt := r1.lt
  obtain ⟨ad, cap, rfl⟩ := strs_shape hown
  have HOW := Hid.mk4 hown
  clear r1 b0 b1 hown
  go_wp2
  go_loopw [5] (fun i wr => ∃ (cs1 cs2 : List Int), Hid (cs = cs1 ++ cs2) ∧ i = .int .i64 (cs1.length : Nat) ∧ Hid (Row4 wr w1.heap.size (.int .i64 ((flat cs1).length : Nat)) (.int .i64 (kP cs1)) (.int .i64 (kU cs1)) (.int .i64 (kL cs1))) ∧ Below w1.heap.size w1 wr) (fun i _ => cs.length - (intOf i).toNat)
  case atStart =>
    exact ⟨[], cs, rfl, rfl, Row4.new w1 _ _ _ _, (Below.refl _ _).alloc (Nat.le_refl _) _⟩
  case round =>
    obtain ⟨cs1, cs2, HC, rfl, HA, hb⟩ := hrel
    have c0 := HA.out.c0; have c1 := HA.out.c1; have c2 := HA.out.c2; have c3 := HA.out.c3
    have hk := k_range cs1
    have hlen : cs.length = cs1.length + cs2.length := by rw [HC.out, List.length_append]
    have HLen := Hid.mk4 hlen
    clear hlen
    cases cs2 with
    | nil =>
      have HR := Hid.mk4 (R1.out.later hb R1.out.lt)
      have d0 := HR.out.c0; have d1 := HR.out.c1; have d2 := HR.out.c2; have d3 := HR.out.c3; have fr := HR.out.fz
      have hE := HC.out
      rw [List.append_nil] at hE
      subst hE
      have gb := g1.trans (hb.mono g1.size)
      clear HLen hk
      go_wp2
      refine bodyPost_ret (results_row4 rfl _ _ w.heap.size _ _ _ _ rfl (HR.out.set _ _ _ _)) rfl ⟨rfl, below_set4 gb (Nat.le_refl _) _ _ _ _⟩
    | cons c cs3 =>
      have hsc : scalar c := HG.out c (by rw [HC.out]; simp)
      have hel := enc_length c
      have hun := un_range c
      have hln := ln_range c
      have hll := HLen.out
      simp only [List.length_cons] at hll
      have hin : (cs1.length : Int) < (cs.length : Int) := by omega
      obtain ⟨gs, caps, hv, hcells⟩ := strs_cells HOW.out (by intro e; rw [e] at hin; simp at hin; omega)
      injection hv with hv1 hv2 hv3
      subst hv1
      have hcell := cell_later hb (hcells cs1.length (by omega))
      rw [HC.out, getD_mid] at hcell
      rw [Nat.zero_add] at hcell
      have CF : Hid (∀ d os, Calls Tryz.prog 33 #[.string (cacc (enc c))] (grow (redrawn wr d) os) fun e w'' => e = .returned (.agg #[.int .i64 ((enc c).length : Nat), .int .i64 1, .int .i64 (un c), .int .i64 (ln c)]) ∧ ∃ p : Regrown, w'' = grow (redrawn wr p.d) p.os) :=
        fun d os => Calls.regrown_of (refone_any c hsc _)
      have CP : Hid (∀ d os, Calls Tryz.prog 32 #[.agg #[.int .i64 ((flat cs1).length : Nat), .int .i64 (kP cs1), .int .i64 (kU cs1), .int .i64 (kL cs1)], .agg #[.int .i64 ((enc c).length : Nat), .int .i64 1, .int .i64 (un c), .int .i64 (ln c)]] (grow (redrawn wr d) os) fun e w'' => e = .returned (.agg #[.int .i64 ((flat (cs1 ++ [c])).length : Nat), .int .i64 (kP (cs1 ++ [c])), .int .i64 (kU (cs1 ++ [c])), .int .i64 (kL (cs1 ++ [c]))]) ∧ ∃ p : Regrown, w'' = grow (redrawn wr p.d) p.os) := by
        intro d os
        have hk2 : kP cs1 ≤ 5000 := by unfold kP; omega
        have hb4 : ((flat cs1).length : Int) ≤ 20000 := by have := hk.2.2.2.2.2.2; unfold kB at this; omega
        have := refplus_step (flat cs1).length (enc c).length (kP cs1) (kU cs1) (kL cs1) (un c) (ln c) (by omega) (grow (redrawn wr d) os)
        rw [show (flat cs1).length + (enc c).length = (flat (cs1 ++ [c])).length from by rw [flat_append, List.length_append]; simp [flat]] at this
        rw [← kP_one c, ← kU_one c, ← kL_one c, ← kP_append, ← kU_append, ← kL_append] at this
        rw [kP_one, kU_one, kL_one] at this
        exact Calls.regrown_of this
      have z0 := cell_regrown c0
      have z1 := cell_regrown c1
      have z2 := cell_regrown c2
      have z3 := cell_regrown c3
      have z4 := cell_regrown hcell
      have HC2 : Hid (cs = (cs1 ++ [c]) ++ cs3) := by show cs = _; rw [HC.out]; simp
      have HL3 : Hid ((cs1 ++ [c]).length = cs1.length + 1) := by show _ = _; simp
      clear HC HLen hk hsc hun hln hll hcells hcell hv3 hv2
      go_wp2
      refine wp_region_below_last (by kernel_rfl) (by kernel_rfl) (by kernel_rfl) ?_
      simp only [mute, idle, lastOf]
      clear c0 c1 c2 c3
      repeat (go_big_quiet_step (first | (go_at_call 33; exact CF.out _ _) | (go_at_call 32; exact CP.out _ _)))
      refine wpQuiet_nil ?_
      intro _ hw'
      obtain ⟨⟨dq, osq⟩, hw''⟩ := hw'
      subst hw''
      have bq := below_regrown wr dq osq
      have HA2 := Hid.mk4 (HA.out.later bq HA.out.lt)
      have hb2 := hb.trans (bq.mono hb.size)
      clear z0 z1 z2 z3 z4 CF CP HA hb bq
      generalize grow (redrawn wr dq) osq = w6 at *
      have c0 := HA2.out.c0; have c1 := HA2.out.c1; have c2 := HA2.out.c2; have c3 := HA2.out.c3; have fz := HA2.out.fz
      go_wp2
      go_roundw
      case rel => exact ⟨cs1 ++ [c], cs3, HC2, by rw [HL3.out]; go_num, HA2.out.set _ _ _ _, below_set4 hb2 (Nat.le_refl _) _ _ _ _⟩
      case measure => simp [intOf]; omega
end Go.Proofs.YtfgefdkkjfjjjabGreatDoor
