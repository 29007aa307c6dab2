/- CountTells, walked: it answers true at every text, kind, number and two counts. -/
import Derived.Test.YthlmfmaiecmebaaDoorKnownC
import Derived.Test.YthlmfmaiecmebaaDoorRefTo
import Derived.Test.YthlmfmaiecmebaaDoorRefFrom
namespace Go.Proofs.YthlmfmaiecmebaaDoor
open Go.RowKit Go.Sort

set_option maxHeartbeats 2000000 in
set_option maxRecDepth 100000 in
theorem ctells_long (s : ByteArray) (k n a0 a1 a2 a3 b0 b1 b2 b3 : Int) (hs : s.size ≤ maxLen) (hlong : 200 < s.size) (w : World) (tb : Nat × Nat) (hT : Tabs w tb) :
    Calls Tryd.prog 3 #[.string s, .int .i64 k, .int .i64 n, .agg #[.int .i64 a0, .int .i64 a1, .int .i64 a2, .int .i64 a3], .agg #[.int .i64 b0, .int .i64 b1, .int .i64 b2, .int .i64 b3]] w fun e w' => e = .returned (.bool true) ∧ Below w.heap.size w w' := by
  unfold maxLen at hs
  have h1 : (200 : Int) < s.size := by omega
  have g0 : Below w.heap.size w ((w.alloc (Obj.cells #[.int .i64 a0, .int .i64 a1, .int .i64 a2, .int .i64 a3] 23)).alloc (Obj.cells #[.int .i64 b0, .int .i64 b1, .int .i64 b2, .int .i64 b3] 23)) := ((Below.refl _ _).alloc (Nat.le_refl _) _).alloc (by simp) _
  go_enter Tryd.func3, Tryd.ntmps3
  go_wp2_with fail
  refine (known2_any _ tb (hT.later g0)).mono ?_
  rintro e w1 ⟨rfl, b1⟩
  go_wp2
  go_ret
  exact ⟨rfl, g0.trans (b1.mono g0.size)⟩

set_option maxHeartbeats 4000000 in
set_option maxRecDepth 100000 in
theorem ctells_short (s : ByteArray) (k n a0 a1 a2 a3 b0 b1 b2 b3 : Int) (hs : s.size ≤ 200) (w : World) (tb : Nat × Nat) (hT : Tabs w tb) :
    Calls Tryd.prog 3 #[.string s, .int .i64 k, .int .i64 n, .agg #[.int .i64 a0, .int .i64 a1, .int .i64 a2, .int .i64 a3], .agg #[.int .i64 b0, .int .i64 b1, .int .i64 b2, .int .i64 b3]] w fun e w' => e = .returned (.bool true) ∧ Below w.heap.size w w' := by
  have h1 : decide ((200 : Int) < s.size) = false := by simp; omega
  have g0 : Below w.heap.size w ((w.alloc (Obj.cells #[.int .i64 a0, .int .i64 a1, .int .i64 a2, .int .i64 a3] 23)).alloc (Obj.cells #[.int .i64 b0, .int .i64 b1, .int .i64 b2, .int .i64 b3] 23)) := ((Below.refl _ _).alloc (Nat.le_refl _) _).alloc (by simp) _
  have s0 : Row4 ((w.alloc (Obj.cells #[.int .i64 a0, .int .i64 a1, .int .i64 a2, .int .i64 a3] 23)).alloc (Obj.cells #[.int .i64 b0, .int .i64 b1, .int .i64 b2, .int .i64 b3] 23)) w.heap.size (.int .i64 a0) (.int .i64 a1) (.int .i64 a2) (.int .i64 a3) := (Row4.new' rfl _ _ _ _).alloc _
  have s1 : Row4 ((w.alloc (Obj.cells #[.int .i64 a0, .int .i64 a1, .int .i64 a2, .int .i64 a3] 23)).alloc (Obj.cells #[.int .i64 b0, .int .i64 b1, .int .i64 b2, .int .i64 b3] 23)) (w.heap.size + 1) (.int .i64 b0) (.int .i64 b1) (.int .i64 b2) (.int .i64 b3) := Row4.new' (by simp) _ _ _ _
  have S0 := Hid.mk4 s0
  have S1 := Hid.mk4 s1
  have G0 := Hid.mk4 g0
  clear s0 s1 g0
  have HTo : Hid (∀ W, Tabs W tb → Calls Tryd.prog 10 #[.string s, .int .i64 k, .int .i64 n] W fun e w' => e = .returned (.tuple #[.int .i64 (toB s k n), .int .i64 (toE s k n)]) ∧ Below W.heap.size W w') := fun W h => to_any s k n W tb (by omega) h
  have HRo : Hid (∀ W, Calls Tryd.prog 11 #[.string s, .int .i64 k, .int .i64 n] W fun e w' => e = .returned (.tuple #[.int .i64 (toB s k n), .int .i64 (toE s k n)]) ∧ Below W.heap.size W w') := fun W => refto_any s k n W (by omega)
  have HFr : Hid (∀ W, Tabs W tb → Calls Tryd.prog 12 #[.string s, .int .i64 k, .int .i64 n] W fun e w' => e = .returned (.tuple #[.int .i64 (frB s k n), .int .i64 (frE s k n)]) ∧ Below W.heap.size W w') := fun W h => from_any s k n W tb (by omega) h
  have HRf : Hid (∀ W, Calls Tryd.prog 13 #[.string s, .int .i64 k, .int .i64 n] W fun e w' => e = .returned (.tuple #[.int .i64 (frB s k n), .int .i64 (frE s k n)]) ∧ Below W.heap.size W w') := fun W => reffrom_any s k n W (by omega)
  have HOf : Hid (∀ W, Tabs W tb → Calls Tryd.prog 14 #[.string s] W fun e w' => e = .returned (.agg #[.int .i64 (kB (pts s.data.toList)), .int .i64 (kP (pts s.data.toList)), .int .i64 (kU (pts s.data.toList)), .int .i64 (kL (pts s.data.toList))]) ∧ Below W.heap.size W w') := fun W h => of_any s W tb (by omega) h
  have HRO : Hid (∀ W, Calls Tryd.prog 15 #[.string s] W fun e w' => e = .returned (.agg #[.int .i64 (kB (pts s.data.toList)), .int .i64 (kP (pts s.data.toList)), .int .i64 (kU (pts s.data.toList)), .int .i64 (kL (pts s.data.toList))]) ∧ Below W.heap.size W w') := fun W => refof_any s W (by omega)
  have HPl : Hid (∀ W, Calls Tryd.prog 16 #[.agg #[.int .i64 a0, .int .i64 a1, .int .i64 a2, .int .i64 a3], .agg #[.int .i64 b0, .int .i64 b1, .int .i64 b2, .int .i64 b3]] W fun e w' => e = .returned (.agg #[.int .i64 (wrap64 (a0 + b0)), .int .i64 (wrap64 (a1 + b1)), .int .i64 (wrap64 (a2 + b2)), .int .i64 (wrap64 (a3 + b3))]) ∧ Below W.heap.size W w') := fun W => plus_any a0 a1 a2 a3 b0 b1 b2 b3 W
  have HRP : Hid (∀ W, Calls Tryd.prog 17 #[.agg #[.int .i64 a0, .int .i64 a1, .int .i64 a2, .int .i64 a3], .agg #[.int .i64 b0, .int .i64 b1, .int .i64 b2, .int .i64 b3]] W fun e w' => e = .returned (.agg #[.int .i64 (wrap64 (a0 + b0)), .int .i64 (wrap64 (a1 + b1)), .int .i64 (wrap64 (a2 + b2)), .int .i64 (wrap64 (a3 + b3))]) ∧ Below W.heap.size W w') := fun W => refplus_any a0 a1 a2 a3 b0 b1 b2 b3 W
  have HGe : Hid (∀ W, Calls Tryd.prog 18 #[.agg #[.int .i64 a0, .int .i64 a1, .int .i64 a2, .int .i64 a3], .int .i64 k] W fun e w' => e = .returned (.int .i64 (get4 k a0 a1 a2 a3)) ∧ Below W.heap.size W w') := fun W => get_any k a0 a1 a2 a3 W
  have HRG : Hid (∀ W, Calls Tryd.prog 19 #[.agg #[.int .i64 a0, .int .i64 a1, .int .i64 a2, .int .i64 a3], .int .i64 k] W fun e w' => e = .returned (.int .i64 (get4 k a0 a1 a2 a3)) ∧ Below W.heap.size W w') := fun W => refget_any k a0 a1 a2 a3 W
  generalize toB s k n = tB at *
  generalize toE s k n = tE at *
  generalize frB s k n = fB at *
  generalize frE s k n = fE at *
  generalize kB (pts s.data.toList) = vB at *
  generalize kP (pts s.data.toList) = vP at *
  generalize kU (pts s.data.toList) = vU at *
  generalize kL (pts s.data.toList) = vL at *
  generalize wrap64 (a0 + b0) = p0 at *
  generalize wrap64 (a1 + b1) = p1 at *
  generalize wrap64 (a2 + b2) = p2 at *
  generalize wrap64 (a3 + b3) = p3 at *
  generalize get4 k a0 a1 a2 a3 = gg at *
  go_enter Tryd.func3, Tryd.ntmps3
  go_wp2_with fail
  refine (known2_any _ tb (hT.later G0.out)).mono ?_
  rintro e w1 ⟨rfl, b1⟩
  have g1 := G0.out.trans (b1.mono G0.out.size)
  have R0 := Hid.mk4 (S0.out.later b1 S0.out.lt)
  have R1 := Hid.mk4 (S1.out.later b1 S1.out.lt)
  have t1 := hT.later g1
  clear b1 S0 S1 G0
  go_wp2_with fail
  refine (HTo.out _ t1).mono ?_
  rintro e w2 ⟨rfl, b2⟩
  have g2 := g1.trans (b2.mono g1.size)
  have R02 := Hid.mk4 (R0.out.later b2 R0.out.lt)
  have R12 := Hid.mk4 (R1.out.later b2 R1.out.lt)
  clear b2 g1 t1 R0 R1 HTo
  go_wp2_with fail
  refine (HRo.out _).mono ?_
  rintro e w3 ⟨rfl, b3'⟩
  have g3 := g2.trans (b3'.mono g2.size)
  have R03 := Hid.mk4 (R02.out.later b3' R02.out.lt)
  have R13 := Hid.mk4 (R12.out.later b3' R12.out.lt)
  have t3 := hT.later g3
  clear b3' g2 R02 R12 HRo
  go_wp2_with fail
  refine (HFr.out _ t3).mono ?_
  rintro e w4 ⟨rfl, b4⟩
  have g4 := g3.trans (b4.mono g3.size)
  have R04 := Hid.mk4 (R03.out.later b4 R03.out.lt)
  have R14 := Hid.mk4 (R13.out.later b4 R13.out.lt)
  clear b4 g3 t3 R03 R13 HFr
  go_wp2_with fail
  refine (HRf.out _).mono ?_
  rintro e w5 ⟨rfl, b5⟩
  have g5 := g4.trans (b5.mono g4.size)
  have R05 := Hid.mk4 (R04.out.later b5 R04.out.lt)
  have R15 := Hid.mk4 (R14.out.later b5 R14.out.lt)
  have t5 := hT.later g5
  clear b5 g4 R04 R14 HRf
  go_wp2
  have z0 := cell_regrown R05.out.c0; have z1 := cell_regrown R05.out.c1; have z2 := cell_regrown R05.out.c2; have z3 := cell_regrown R05.out.c3
  have y0 := cell_regrown R15.out.c0; have y1 := cell_regrown R15.out.c1; have y2 := cell_regrown R15.out.c2; have y3 := cell_regrown R15.out.c3
  have C1 := Hid.mk4 (fun d os => Calls.regrown_of (HOf.out _ (t5.later (below_regrown w5 d os))))
  have C2 := Hid.mk4 (fun d os => Calls.regrown_of (HRO.out (grow (redrawn w5 d) os)))
  have C3 := Hid.mk4 (fun d os => Calls.regrown_of (HPl.out (grow (redrawn w5 d) os)))
  have C4 := Hid.mk4 (fun d os => Calls.regrown_of (HRP.out (grow (redrawn w5 d) os)))
  have C5 := Hid.mk4 (fun d os => Calls.regrown_of (HGe.out (grow (redrawn w5 d) os)))
  have C6 := Hid.mk4 (fun d os => Calls.regrown_of (HRG.out (grow (redrawn w5 d) os)))
  refine wp_region_quiet_below (by kernel_rfl) (by kernel_rfl) ?_
  repeat (go_big_quiet_step (first | (go_at_call 14; exact C1.out _ _) | (go_at_call 15; exact C2.out _ _) | (go_at_call 16; exact C3.out _ _) | (go_at_call 17; exact C4.out _ _) | (go_at_call 18; exact C5.out _ _) | (go_at_call 19; exact C6.out _ _)))
  refine wpQuiet_nil ?_
  intro _ hw'
  obtain ⟨⟨dq, osq⟩, hw''⟩ := hw'
  subst hw''
  have bq := below_regrown w5 dq osq
  clear z0 z1 z2 z3 y0 y1 y2 y3 C1 C2 C3 C4 C5 C6
  generalize grow (redrawn w5 dq) osq = w6 at *
  go_wp2
  go_ret
  exact ⟨rfl, g5.trans (bq.mono g5.size)⟩

theorem ctells_any (s : ByteArray) (k n a0 a1 a2 a3 b0 b1 b2 b3 : Int) (hs : s.size ≤ maxLen) (w : World) (tb : Nat × Nat) (hT : Tabs w tb) :
    Calls Tryd.prog 3 #[.string s, .int .i64 k, .int .i64 n, .agg #[.int .i64 a0, .int .i64 a1, .int .i64 a2, .int .i64 a3], .agg #[.int .i64 b0, .int .i64 b1, .int .i64 b2, .int .i64 b3]] w fun e w' => e = .returned (.bool true) ∧ Below w.heap.size w w' := by
  by_cases hl : 200 < s.size
  · exact ctells_long s k n a0 a1 a2 a3 b0 b1 b2 b3 hs hl w tb hT
  · exact ctells_short s k n a0 a1 a2 a3 b0 b1 b2 b3 (by omega) w tb hT
end Go.Proofs.YthlmfmaiecmebaaDoor
