/- The reference's Of, walked. -/
import Derived.Test.YthlmfmaiecmebaaDoorRefCount
import Derived.Test.YthlmfmaiecmebaaDoorCountOf
namespace Go.Proofs.YthlmfmaiecmebaaDoor
open Go.RowKit Go.Sort

theorem getD_mid (cs1 : List Int) (c : Int) (cs3 : List Int) : (cs1 ++ c :: cs3).getD cs1.length 0 = c := by simp [List.getD_eq_getElem?_getD]

set_option maxHeartbeats 1000000 in
set_option maxRecDepth 100000 in
/-- The reference's Of. -/
theorem refof_any (s : ByteArray) (w : World) (hs : s.size ≤ 1000) :
    Calls Tryd.prog 15 #[.string s] w fun e w' => e = .returned (.agg #[.int .i64 (kB (pts s.data.toList)), .int .i64 (kP (pts s.data.toList)), .int .i64 (kU (pts s.data.toList)), .int .i64 (kL (pts s.data.toList))]) ∧ Below w.heap.size w w' := by
  have hpl := pts_length s.data.toList
  rw [bytes_length] at hpl
  obtain ⟨cs, hcs⟩ : ∃ cs, cs = pts s.data.toList := ⟨_, rfl⟩
  have HG : Hid (Good cs) := by rw [hcs]; exact good_pts' _
  have HPt : Hid (∀ W, Calls Tryd.prog 24 #[.string s] W fun e w' => ∃ v, e = .returned v ∧ w'.ownsRow W.heap.size 9 1 v cs.length (strRow cs) ∧ Below W.heap.size W w') := fun W => by rw [hcs]; exact refpoints_own s W (by omega)
  rw [← hcs] at hpl ⊢
  clear hcs
  have hcl : cs.length ≤ 1000 := by omega
  clear hpl
  have b0 : Below w.heap.size w (w.alloc (Obj.cells #[.int .i64 0, .int .i64 0, .int .i64 0, .int .i64 0] 23)) := (Below.refl _ _).alloc (Nat.le_refl _) _
  go_enter Tryd.func15, Tryd.ntmps15
  go_wp2_with fail
  refine (HPt.out _).mono ?_
  rintro e w1 ⟨v, rfl, hown, b1⟩
  have r1 : Row4 w1 w.heap.size (.int .i64 0) (.int .i64 0) (.int .i64 0) (.int .i64 0) := (Row4.new w _ _ _ _).later b1 (by simp)
  have g1 := b0.trans (b1.mono b0.size)
  have R1 := Hid.mk4 r1
  have hlt := r1.lt
  obtain ⟨ad, cap, rfl⟩ := strs_shape hown
  have HOW := Hid.mk4 hown
  clear r1 b0 b1 hown
  go_wp2
  go_loopw [5] (fun i wr => ∃ (cs1 cs2 : List Int), Hid (cs = cs1 ++ cs2) ∧ i = .int .i64 (cs1.length : Nat) ∧ Hid (Row4 wr w1.heap.size (.int .i64 ((flat cs1).length : Nat)) (.int .i64 (kP cs1)) (.int .i64 (kU cs1)) (.int .i64 (kL cs1))) ∧ Below w1.heap.size w1 wr) (fun i _ => cs.length - (intOf i).toNat)
  case atStart =>
    exact ⟨[], cs, rfl, rfl, Row4.new w1 _ _ _ _, (Below.refl _ _).alloc (Nat.le_refl _) _⟩
  case round =>
    obtain ⟨cs1, cs2, HC, rfl, HA, hb⟩ := hrel
    have c0 := HA.out.c0; have c1 := HA.out.c1; have c2 := HA.out.c2; have c3 := HA.out.c3
    have hk := k_range cs1
    have hlen : cs.length = cs1.length + cs2.length := by rw [HC.out, List.length_append]
    have HLen := Hid.mk4 hlen
    clear hlen
    cases cs2 with
    | nil =>
      have HR := Hid.mk4 (R1.out.later hb R1.out.lt)
      have d0 := HR.out.c0; have d1 := HR.out.c1; have d2 := HR.out.c2; have d3 := HR.out.c3; have fr := HR.out.fz
      have hE := HC.out
      rw [List.append_nil] at hE
      subst hE
      have gb := g1.trans (hb.mono g1.size)
      clear HLen hk
      go_wp2
      refine bodyPost_ret (results_row4 rfl _ _ w.heap.size _ _ _ _ rfl (HR.out.set _ _ _ _)) rfl ⟨rfl, below_set4 gb (Nat.le_refl _) _ _ _ _⟩
    | cons c cs3 =>
      have hsc : scalar c := HG.out c (by rw [HC.out]; simp)
      have hel := enc_length c
      have hun := un_range c
      have hln := ln_range c
      have hll := HLen.out
      simp only [List.length_cons] at hll
      have hin : (cs1.length : Int) < (cs.length : Int) := by omega
      obtain ⟨gs, caps, hv, hcells⟩ := strs_cells HOW.out (by intro e; rw [e] at hin; simp at hin; omega)
      injection hv with hv1 hv2 hv3
      subst hv1
      have hcell := cell_later hb (hcells cs1.length (by omega))
      rw [HC.out, getD_mid] at hcell
      rw [Nat.zero_add] at hcell
      have CF : Hid (∀ d os, Calls Tryd.prog 25 #[.string (cacc (enc c))] (grow (redrawn wr d) os) fun e w'' => e = .returned (.agg #[.int .i64 ((enc c).length : Nat), .int .i64 1, .int .i64 (un c), .int .i64 (ln c)]) ∧ ∃ p : Regrown, w'' = grow (redrawn wr p.d) p.os) :=
        fun d os => Calls.regrown_of (refone_any c hsc _)
      have CP : Hid (∀ d os, Calls Tryd.prog 17 #[.agg #[.int .i64 ((flat cs1).length : Nat), .int .i64 (kP cs1), .int .i64 (kU cs1), .int .i64 (kL cs1)], .agg #[.int .i64 ((enc c).length : Nat), .int .i64 1, .int .i64 (un c), .int .i64 (ln c)]] (grow (redrawn wr d) os) fun e w'' => e = .returned (.agg #[.int .i64 ((flat (cs1 ++ [c])).length : Nat), .int .i64 (kP (cs1 ++ [c])), .int .i64 (kU (cs1 ++ [c])), .int .i64 (kL (cs1 ++ [c]))]) ∧ ∃ p : Regrown, w'' = grow (redrawn wr p.d) p.os) := by
        intro d os
        have hk2 : kP cs1 ≤ 1000 := by unfold kP; omega
        have hb4 : ((flat cs1).length : Int) ≤ 4000 := by have := hk.2.2.2.2.2.2; unfold kB at this; omega
        have := refplus_step (flat cs1).length (enc c).length (kP cs1) (kU cs1) (kL cs1) (un c) (ln c) (by omega) (grow (redrawn wr d) os)
        rw [show (flat cs1).length + (enc c).length = (flat (cs1 ++ [c])).length from by rw [flat_append, List.length_append]; simp [flat]] at this
        rw [← kP_one c, ← kU_one c, ← kL_one c, ← kP_append, ← kU_append, ← kL_append] at this
        rw [kP_one, kU_one, kL_one] at this
        exact Calls.regrown_of this
      have z0 := cell_regrown c0
      have z1 := cell_regrown c1
      have z2 := cell_regrown c2
      have z3 := cell_regrown c3
      have z4 := cell_regrown hcell
      have HC2 : Hid (cs = (cs1 ++ [c]) ++ cs3) := by show cs = _; rw [HC.out]; simp
      have HL3 : Hid ((cs1 ++ [c]).length = cs1.length + 1) := by show _ = _; simp
      clear HC HLen hk hsc hun hln hll hcells hcell hv3 hv2
      go_wp2
      refine wp_region_below_last (by kernel_rfl) (by kernel_rfl) (by kernel_rfl) ?_
      simp only [mute, idle, lastOf]
      clear c0 c1 c2 c3
      repeat (go_big_quiet_step (first | (go_at_call 25; exact CF.out _ _) | (go_at_call 17; exact CP.out _ _)))
      refine wpQuiet_nil ?_
      intro _ hw'
      obtain ⟨⟨dq, osq⟩, hw''⟩ := hw'
      subst hw''
      have bq := below_regrown wr dq osq
      have HA2 := Hid.mk4 (HA.out.later bq HA.out.lt)
      have hb2 := hb.trans (bq.mono hb.size)
      clear z0 z1 z2 z3 z4 CF CP HA hb bq
      generalize grow (redrawn wr dq) osq = w6 at *
      have c0 := HA2.out.c0; have c1 := HA2.out.c1; have c2 := HA2.out.c2; have c3 := HA2.out.c3; have fz := HA2.out.fz
      go_wp2
      go_roundw
      case rel => exact ⟨cs1 ++ [c], cs3, HC2, by rw [HL3.out]; go_num, HA2.out.set _ _ _ _, below_set4 hb2 (Nat.le_refl _) _ _ _ _⟩
      case measure => simp [intOf]; omega
end Go.Proofs.YthlmfmaiecmebaaDoor
