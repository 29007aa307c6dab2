/- metric.To, Whole, known, From, Convert. -/
import Derived.Test.YtfgefdkkjfjjjabDoorMetC
namespace Go.Proofs.YtfgefdkkjfjjjabDoor
open Go.RowKit Go.Sort
set_option linter.unusedSimpArgs false
set_option linter.unusedVariables false

/-- A rope, or none. -/
def RpN (tb : Nat × Nat) (w : World) (r : Value) (T : List UInt8) : Prop := (r = .pointer none ∧ T = []) ∨ RpA (strongE tb) w r T
theorem RpN.later {tb : Nat × Nat} {w w' : World} {r : Value} {T : List UInt8} (h : RpN tb w r T) (hb : Below w.heap.size w w') : RpN tb w' r T := h.imp id (fun h => h.later hb)
theorem RpN.ptr {tb : Nat × Nat} {w : World} {r : Value} {T : List UInt8} (h : RpN tb w r T) : ∃ u, r = .pointer u := by
  rcases h with ⟨e, _⟩ | h
  · exact ⟨_, e⟩
  · obtain ⟨g, e⟩ := h.ptr
    exact ⟨_, e⟩
theorem xof_n (tb : Nat × Nat) {r : Value} {T : List UInt8} {w : World} (h : RpN tb w r T) (hT : Tabs w tb) :
    Calls Tryd.prog 28 #[r] w fun e w' => ∃ g, e = .returned (.agg #[.pointer (some ⟨g, 0, none⟩)]) ∧ RpA (strongE tb) w' (.pointer (some ⟨g, 0, none⟩)) T ∧ Below w.heap.size w w' := by
  rcases h with ⟨rfl, rfl⟩ | h
  · exact xof_nil tb w hT
  · obtain ⟨g, rfl⟩ := h.ptr
    exact (xof_any g w).mono fun e w' ⟨he, hb⟩ => ⟨g, he, h.later hb, hb⟩

theorem toB_range {T : List UInt8} (hv : vld T = true) (k n : Int) : 0 ≤ toB (tx T) k n ∧ toB (tx T) k n ≤ (T.length : Int) := by
  unfold toB
  rw [show (tx T).data.toList = T from rfl]
  obtain ⟨r1, r2, e1, e2, _, _⟩ := rch_split k n (pts T) []
  have e3 : kB (rch k n [] (pts T)) + kB r2 = (T.length : Int) := by
    rw [e2, List.nil_append, ← kB_append, ← e1]
    unfold kB
    rw [flat_pts' hv]
  have h1 : 0 ≤ kB (rch k n [] (pts T)) := by unfold kB; omega
  have h2 : 0 ≤ kB r2 := by unfold kB; omega
  repeat' split
  all_goals omega

set_option maxHeartbeats 4000000 in
set_option maxRecDepth 100000 in
/-- To. -/
theorem mto_any (tb : Nat × Nat) {r : Value} {T : List UInt8} {w : World} (k n : Int) (h : RpN tb w r T) (hz : T.length ≤ 20000) (hn : -9223372036854775808 ≤ n ∧ n ≤ 9223372036854775807) (hT : Tabs w tb) :
    Calls Tryd.prog 27 #[r, .int .i64 k, .int .i64 n] w fun e w' => e = .returned (.tuple #[.int .i64 (toB (tx T) k n), .int .i64 (toE (tx T) k n)]) ∧ Below w.heap.size w w' := by
  obtain ⟨u, rfl⟩ := h.ptr
  have b0 : Below w.heap.size w ((w.alloc (Obj.cells #[.int .i64 k] 3)).alloc (Obj.cells #[.int .i64 n] 3)) := ((Below.refl _ _).alloc (Nat.le_refl _) _).alloc (by simp) _
  have R0 : Hid (Rt 3 ((w.alloc (Obj.cells #[.int .i64 k] 3)).alloc (Obj.cells #[.int .i64 n] 3)) w.heap.size #[.int .i64 k]) := (Rt.new _ w _).alloc _
  have R1 : Hid (Rt 3 ((w.alloc (Obj.cells #[.int .i64 k] 3)).alloc (Obj.cells #[.int .i64 n] 3)) (w.heap.size + 1) #[.int .i64 n]) := Rt.new' (by simp) _
  have HX := Hid.mk4 (xof_n tb (h.later b0) (hT.later b0))
  have HT := Hid.mk4 hT
  obtain ⟨rB, hrB⟩ : ∃ rB, rB = toB (tx T) k n := ⟨_, rfl⟩
  obtain ⟨rE, hrE⟩ : ∃ rE, rE = toE (tx T) k n := ⟨_, rfl⟩
  rw [← hrB, ← hrE]
  have HRB := Hid.mk4 hrB
  have HRE := Hid.mk4 hrE
  clear h hT hrB hrE
  go_enter Tryd.func27, Tryd.ntmps27
  go_wp2_with fail
  refine HX.out.mono ?_
  rintro e w1 ⟨g, rfl, hr, b1⟩
  have S0 := Hid.mk4 (R0.out.later' b1)
  have S1 := Hid.mk4 (R1.out.later' b1)
  have g1 := b0.trans (b1.mono b0.size)
  have HD := Hid.mk4 (down_any tb k n w.heap.size (w.heap.size + 1) hr hz (S0.out.cell 0) (S1.out.cell 0) (HT.out.later g1))
  clear HX R0 R1 b0 b1 hr
  go_wp2_with fail
  refine HD.out.mono ?_
  rintro e w2 ⟨g', A, B, C, rfl, hB, hTX, hvA, hvC, hA1, hC1, b2⟩
  have hvB := rpa_valid hB
  have hlen : A.length ≤ 20000 ∧ B.length ≤ 20000 := by
    have := congrArg List.length hTX
    rw [List.length_append, List.length_append] at this
    omega
  have hP := to_part hvA hvB hvC k n hA1 hC1
  rw [← hTX, ← HRB.out, ← HRE.out] at hP
  have hk0 : kT k A = 0 ∨ kT k A < n := hA1.imp (fun e => by rw [e, kT_nil]) id
  have hk1 := kT_nonneg k A
  have T0 := Hid.mk4 (S0.out.later' b2)
  have T1 := Hid.mk4 (S1.out.later' b2)
  have g2 := g1.trans (b2.mono g1.size)
  have HB := Hid.mk4 hB
  have HG : Hid (∀ W, Calls Tryd.prog 30 #[.agg #[.int .i64 (A.length : Nat), .int .i64 (kP (pts A)), .int .i64 (kU (pts A)), .int .i64 (kL (pts A))], .int .i64 k] W fun e w' => e = .returned (.int .i64 (kT k A)) ∧ Below W.heap.size W w') := fun W => by
    have := mget_any k (A.length : Nat) (kP (pts A)) (kU (pts A)) (kL (pts A)) W
    rw [kT_counts hvA] at this
    exact this
  have HTO : Hid (∀ W, Tabs W tb → Calls Tryd.prog 48 #[.string ⟨B.toArray⟩, .int .i64 k, .int .i64 (n - kT k A)] W fun e w' => e = .returned (.tuple #[.int .i64 (toB (tx B) k (n - kT k A)), .int .i64 (toE (tx B) k (n - kT k A))]) ∧ Below W.heap.size W w') := fun W hW => to_any (tx B) k (n - kT k A) W tb (by show B.length ≤ _; omega) hW
  have hrg := toB_range hvB k (n - kT k A)
  clear hB hTX hvA hvB hvC hA1 hC1 HD S0 S1 g1 b2
  clear HRB HRE
  generalize toB (tx B) k (n - kT k A) = qB at *
  generalize toE (tx B) k (n - kT k A) = qE at *
  have HPX := Hid.mk4 hP
  generalize kT k A = kA at *
  have hs1 : -9223372036854775808 ≤ n - kA := by omega
  have hs2 : n - kA ≤ 9223372036854775807 := by omega
  clear hP hk0 hk1
  have b3 : Below w2.heap.size w2 ((w2.alloc (Obj.cells #[.pointer (some ⟨g', 0, none⟩)] 60)).alloc (Obj.cells #[.int .i64 (A.length : Nat), .int .i64 (kP (pts A)), .int .i64 (kU (pts A)), .int .i64 (kL (pts A))] 58)) := ((Below.refl _ _).alloc (Nat.le_refl _) _).alloc (by simp) _
  have V8 : Hid (Rt 60 ((w2.alloc (Obj.cells #[.pointer (some ⟨g', 0, none⟩)] 60)).alloc (Obj.cells #[.int .i64 (A.length : Nat), .int .i64 (kP (pts A)), .int .i64 (kU (pts A)), .int .i64 (kL (pts A))] 58)) w2.heap.size #[.pointer (some ⟨g', 0, none⟩)]) := (Rt.new _ w2 _).alloc _
  have V9 : Hid (Rt 58 ((w2.alloc (Obj.cells #[.pointer (some ⟨g', 0, none⟩)] 60)).alloc (Obj.cells #[.int .i64 (A.length : Nat), .int .i64 (kP (pts A)), .int .i64 (kU (pts A)), .int .i64 (kL (pts A))] 58)) (w2.heap.size + 1) #[.int .i64 (A.length : Nat), .int .i64 (kP (pts A)), .int .i64 (kU (pts A)), .int .i64 (kL (pts A))]) := Rt.new' (by simp) _
  have V0 := Hid.mk4 (T0.out.later' b3)
  have V1 := Hid.mk4 (T1.out.later' b3)
  have HB3 := Hid.mk4 (HB.out.later b3)
  have g3 := g2.trans (b3.mono g2.size)
  clear T0 T1 HB g2 b3
  go_wp2
  generalize (w2.alloc (Obj.cells #[.pointer (some ⟨g', 0, none⟩)] 60)).alloc (Obj.cells #[.int .i64 (A.length : Nat), .int .i64 (kP (pts A)), .int .i64 (kU (pts A)), .int .i64 (kL (pts A))] 58) = w3 at *
  have k8 := cell_regrown (V8.out.cell 0)
  have k0 := cell_regrown (V0.out.cell 0)
  have k1 := cell_regrown (V1.out.cell 0)
  have e0 := cell_regrown (V9.out.cell 0); have e1 := cell_regrown (V9.out.cell 1); have e2 := cell_regrown (V9.out.cell 2); have e3 := cell_regrown (V9.out.cell 3)
  refine wp_region_mix [([0, 1, 3, 4, 5, 6], [2]), ([], [7]), ([8], [9]), ([10, 11, 12, 13, 14], [])] (by kernel_rfl) (by kernel_rfl) ?_
  rintro w4 ⟨d4, rfl⟩
  refine wpPlan_cons ?_
  simp only [pickAll, pickAt, List.nil_append, List.cons_append, List.append_nil]
  repeat (go_big_quiet_step (fail))
  refine wpQuiet_nil ?_
  clear k8 k0 k1 e0 e1 e2 e3
  have bd := below_redrawn w3 d4
  go_wp2_with fail
  refine (rpa_string (strongE tb) (HB3.out.later bd) (by omega)).mono ?_
  rintro e w5 ⟨rfl, b5⟩
  have g5 := bd.trans (b5.mono bd.size)
  clear b5 bd
  go_wp2
  refine mixNext_below g5 ?_
  refine wpPlan_cons ?_
  simp only [pickAll, pickAt, List.nil_append, List.cons_append, List.append_nil]
  refine wpQuiet_nil ?_
  go_wp2_with fail
  refine (HG.out _).mono ?_
  rintro e w6 ⟨rfl, b6⟩
  have g6 := g5.trans (b6.mono g5.size)
  clear b6 g5 HG
  go_wp2
  refine mixNext_below g6 ?_
  refine wpPlan_cons ?_
  simp only [pickAll, pickAt, List.nil_append, List.cons_append, List.append_nil]
  repeat (go_big_quiet_step (fail))
  refine wpQuiet_nil ?_
  have t6 := (HT.out.later g3).later g6
  go_wp2_with fail
  refine (HTO.out _ t6).mono ?_
  rintro e w7 ⟨rfl, b7⟩
  have g7 := g6.trans (b7.mono g6.size)
  clear b7 g6 HTO t6
  go_wp2
  refine mixNext_below g7 ?_
  refine wpPlan_cons ?_
  simp only [pickAll, pickAt, List.nil_append, List.cons_append, List.append_nil]
  repeat (go_big_quiet_step (fail))
  refine wpQuiet_nil ?_
  refine mixNext_below g7 (wpPlan_nil ?_)
  have c0 := (V9.out.later' g7).cell 0
  have gz := g3.trans (g7.mono g3.size)
  clear V8 V9 V0 V1 HB3 g3 g7
  by_cases hq : qE = 0
  · have hP := HPX.out
    rw [if_pos hq] at hP
    obtain ⟨h1, h2⟩ := hP
    subst hq
    subst h1
    subst h2
    clear HPX
    go_wp2
    go_ret2
    exact ⟨rfl, gz⟩
  · have hP := HPX.out
    rw [if_neg hq] at hP
    obtain ⟨h1, h2⟩ := hP
    subst h1
    subst h2
    have q1 : (rE != 0) = true := by simpa using hq
    have q2 : (rE == 0) = false := by simpa using hq
    clear HPX hq
    go_wp2
    go_ret2
    exact ⟨rfl, gz⟩

set_option maxHeartbeats 2000000 in
set_option maxRecDepth 100000 in
/-- Whole. -/
theorem mwhole_any (tb : Nat × Nat) {r : Value} {T : List UInt8} {w : World} (k : Int) (h : RpN tb w r T) (hz : T.length ≤ 20000) (hT : Tabs w tb) :
    Calls Tryd.prog 16 #[r, .int .i64 k] w fun e w' => e = .returned (.int .i64 (kT k T)) ∧ Below w.heap.size w w' := by
  obtain ⟨u, rfl⟩ := h.ptr
  have HX := Hid.mk4 (xof_n tb h hT)
  clear h hT
  go_enter Tryd.func16, Tryd.ntmps16
  go_wp2_with fail
  refine HX.out.mono ?_
  rintro e w1 ⟨g, rfl, hr, b1⟩
  have hv := rpa_valid hr
  have HS := Hid.mk4 (xsum_any tb hr (by omega))
  have HG : Hid (∀ W, Calls Tryd.prog 30 #[.agg #[.int .i64 (T.length : Nat), .int .i64 (kP (pts T)), .int .i64 (kU (pts T)), .int .i64 (kL (pts T))], .int .i64 k] W fun e w' => e = .returned (.int .i64 (kT k T)) ∧ Below W.heap.size W w') := fun W => by
    have := mget_any k (T.length : Nat) (kP (pts T)) (kU (pts T)) (kL (pts T)) W
    rw [kT_counts hv] at this
    exact this
  clear HX hr hv
  go_wp2_with fail
  refine HS.out.mono ?_
  rintro e w2 ⟨rfl, b2⟩
  have g2 := b1.trans (b2.mono b1.size)
  clear HS b1 b2
  go_wp2_with fail
  refine (HG.out _).mono ?_
  rintro e w3 ⟨rfl, b3⟩
  clear HG
  go_wp2
  go_ret
  exact ⟨rfl, g2.trans (b3.mono g2.size)⟩

theorem frE_nil (k : Int) : frE ⟨#[]⟩ k 0 = if decide (0 ≤ k ∧ k ≤ 3) = true then 0 else 12 := by
  unfold frE
  rw [show (ctb ⟨#[]⟩ k) = decide (0 ≤ k ∧ k ≤ 3) from ctb_valid (T := []) rfl k]
  have he : edg ⟨#[]⟩ 0 = true := edge_start (s := ⟨#[]⟩) (cs1 := []) (cs2 := []) rfl (by intro c hc; cases hc) (by intro c hc; cases hc)
  by_cases h : decide (0 ≤ k ∧ k ≤ 3) = true
  · rw [if_neg (by rw [h]; simp), if_neg (by simp), if_neg (by rw [he]; simp), if_pos h]
  · rw [if_pos (by simpa using h), if_neg h]

set_option maxHeartbeats 2000000 in
set_option maxRecDepth 100000 in
/-- known. -/
theorem mknown_any (tb : Nat × Nat) (k : Int) (w : World) (hT : Tabs w tb) :
    Calls Tryd.prog 31 #[.int .i64 k] w fun e w' => e = .returned (.bool (decide (0 ≤ k ∧ k ≤ 3))) ∧ Below w.heap.size w w' := by
  have H := Hid.mk4 (from_any ⟨#[]⟩ k 0 w tb (by decide) hT)
  rw [frE_nil] at H
  generalize frB ⟨#[]⟩ k 0 = z at *
  by_cases h : decide (0 ≤ k ∧ k ≤ 3) = true
  · rw [if_pos h] at H
    rw [h]
    clear h
    go_enter Tryd.func31, Tryd.ntmps31
    go_wp2_with fail
    refine H.out.mono ?_
    rintro e w1 ⟨rfl, b1⟩
    clear H
    go_wp2
    go_ret
    exact ⟨rfl, b1⟩
  · rw [if_neg h] at H
    rw [Bool.not_eq_true] at h
    rw [h]
    clear h
    go_enter Tryd.func31, Tryd.ntmps31
    go_wp2_with fail
    refine H.out.mono ?_
    rintro e w1 ⟨rfl, b1⟩
    clear H
    go_wp2
    go_ret
    exact ⟨rfl, b1⟩
end Go.Proofs.YtfgefdkkjfjjjabDoor
