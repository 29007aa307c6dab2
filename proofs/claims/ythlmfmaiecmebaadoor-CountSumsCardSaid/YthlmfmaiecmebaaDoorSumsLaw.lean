/- CountSums, walked: it answers true at every two texts. -/
import Derived.Test.YthlmfmaiecmebaaDoorKnownC
import Derived.Test.YthlmfmaiecmebaaDoorRefEdge
namespace Go.Proofs.YthlmfmaiecmebaaDoor
open Go.RowKit Go.Sort

theorem kB_pts {s : ByteArray} (h : vld s.data.toList = true) : kB (pts s.data.toList) = (s.size : Int) := by
  unfold kB; rw [flat_pts' h]; rfl
theorem kU_le_kB {cs : List Int} (h : Good cs) : kU cs ≤ kB cs := by
  induction cs with
  | nil => simp [kU, kB, flat]
  | cons c cs ih =>
    have := ih h.tail
    have hb : kB (c :: cs) = ((enc c).length : Int) + kB cs := by rw [show c :: cs = [c] ++ cs from rfl, kB_append, kB_one]
    rw [hb, kU_cons]
    have hc := enc_len c h.head
    have hu : un c ≤ ((enc c).length : Int) := by unfold un; split <;> omega
    omega

set_option maxHeartbeats 1000000 in
set_option maxRecDepth 100000 in
theorem sums_long (a b : ByteArray) (hA : a.size ≤ maxLen) (hB : b.size ≤ maxLen) (hlong : 200 < a.size ∨ 200 < b.size) (w : World) (tb : Nat × Nat) (hT : Tabs w tb) :
    Calls Tryd.prog 4 #[.string a, .string b] w fun e w' => e = .returned (.bool true) ∧ Below w.heap.size w w' := by
  unfold maxLen at hA hB
  by_cases h1 : (200 : Int) < a.size
  · clear hlong
    go_enter Tryd.func4, Tryd.ntmps4
    go_wp2_with fail
    refine (known2_any _ tb hT).mono ?_
    rintro e w1 ⟨rfl, b1⟩
    go_wp2
    go_ret
    exact ⟨rfl, b1⟩
  · have h2 : (200 : Int) < b.size := by omega
    clear hlong
    go_enter Tryd.func4, Tryd.ntmps4
    go_wp2_with fail
    refine (known2_any _ tb hT).mono ?_
    rintro e w1 ⟨rfl, b1⟩
    go_wp2
    go_ret
    exact ⟨rfl, b1⟩

set_option maxHeartbeats 1000000 in
set_option maxRecDepth 100000 in
theorem sums_bad (a b : ByteArray) (hA : a.size ≤ 200) (hB : b.size ≤ 200) (hv : vld a.data.toList = false ∨ vld b.data.toList = false) (w : World) (tb : Nat × Nat) (hT : Tabs w tb) :
    Calls Tryd.prog 4 #[.string a, .string b] w fun e w' => e = .returned (.bool true) ∧ Below w.heap.size w w' := by
  have h1 : decide ((200 : Int) < a.size) = false := by simp; omega
  have h2 : decide ((200 : Int) < b.size) = false := by simp; omega
  have HVa : Hid (∀ W, Calls Tryd.prog 20 #[.string a] W fun e w' => e = .returned (.bool (vld a.data.toList)) ∧ w' = W) := fun W => refvalid_any a W (by unfold maxLen; omega)
  have HVb : Hid (∀ W, Calls Tryd.prog 20 #[.string b] W fun e w' => e = .returned (.bool (vld b.data.toList)) ∧ w' = W) := fun W => refvalid_any b W (by unfold maxLen; omega)
  cases hva : vld a.data.toList with
  | false =>
    rw [hva] at HVa
    clear hv hva HVb
    go_enter Tryd.func4, Tryd.ntmps4
    go_wp2_with fail
    refine (known2_any _ tb hT).mono ?_
    rintro e w1 ⟨rfl, b1⟩
    go_wp2_with fail
    refine (HVa.out _).mono ?_
    rintro e w2 ⟨rfl, rfl⟩
    go_wp2
    go_ret
    exact ⟨rfl, b1⟩
  | true =>
    have hvb : vld b.data.toList = false := by rcases hv with h | h; rw [hva] at h; cases h; exact h
    rw [hva] at HVa
    rw [hvb] at HVb
    clear hv hva hvb
    go_enter Tryd.func4, Tryd.ntmps4
    go_wp2_with fail
    refine (known2_any _ tb hT).mono ?_
    rintro e w1 ⟨rfl, b1⟩
    go_wp2_with fail
    refine (HVa.out _).mono ?_
    rintro e w2 ⟨rfl, rfl⟩
    go_wp2_with fail
    refine (HVb.out _).mono ?_
    rintro e w3 ⟨rfl, rfl⟩
    go_wp2
    go_ret
    exact ⟨rfl, b1⟩

set_option maxHeartbeats 2000000 in
set_option maxRecDepth 100000 in
theorem sums_good (a b : ByteArray) (hA : a.size ≤ 200) (hB : b.size ≤ 200) (ha : vld a.data.toList = true) (hb : vld b.data.toList = true) (w : World) (tb : Nat × Nat) (hT : Tabs w tb) :
    Calls Tryd.prog 4 #[.string a, .string b] w fun e w' => e = .returned (.bool true) ∧ Below w.heap.size w w' := by
  have h1 : decide ((200 : Int) < a.size) = false := by simp; omega
  have h2 : decide ((200 : Int) < b.size) = false := by simp; omega
  have HVa : Hid (∀ W, Calls Tryd.prog 20 #[.string a] W fun e w' => e = .returned (.bool true) ∧ w' = W) := fun W => by have := refvalid_any a W (by unfold maxLen; omega); rwa [ha] at this
  have HVb : Hid (∀ W, Calls Tryd.prog 20 #[.string b] W fun e w' => e = .returned (.bool true) ∧ w' = W) := fun W => by have := refvalid_any b W (by unfold maxLen; omega); rwa [hb] at this
  obtain ⟨ca, hca⟩ : ∃ c, c = pts a.data.toList := ⟨_, rfl⟩
  obtain ⟨cb, hcb⟩ : ∃ c, c = pts b.data.toList := ⟨_, rfl⟩
  have ga : Good ca := by rw [hca]; exact good_pts' _
  have eA : kB ca = (a.size : Int) := by rw [hca]; exact kB_pts ha
  have eB : kB cb = (b.size : Int) := by rw [hcb]; exact kB_pts hb
  have rA := k_range ca
  have rB := k_range cb
  have uA := kU_le_kB ga
  rw [eA] at rA uA
  rw [eB] at rB
  have HOab : Hid (∀ W, Tabs W tb → Calls Tryd.prog 14 #[.string (a ++ b)] W fun e w' => e = .returned (.agg #[.int .i64 ((a.size : Int) + b.size), .int .i64 (kP ca + kP cb), .int .i64 (kU ca + kU cb), .int .i64 (kL ca + kL cb)]) ∧ Below W.heap.size W w') := fun W h => by
    have := of_any (a ++ b) W tb (by rw [ByteArray.size_append]; omega) h
    rw [bytes_append, pts_append ha, ← hca, ← hcb, kB_append, kP_append, kU_append, kL_append, eA, eB] at this
    exact this
  have HOa : Hid (∀ W, Tabs W tb → Calls Tryd.prog 14 #[.string a] W fun e w' => e = .returned (.agg #[.int .i64 (a.size : Nat), .int .i64 (kP ca), .int .i64 (kU ca), .int .i64 (kL ca)]) ∧ Below W.heap.size W w') := fun W h => by
    have := of_any a W tb (by omega) h
    rw [← hca, eA] at this
    exact this
  have HOb : Hid (∀ W, Tabs W tb → Calls Tryd.prog 14 #[.string b] W fun e w' => e = .returned (.agg #[.int .i64 (b.size : Nat), .int .i64 (kP cb), .int .i64 (kU cb), .int .i64 (kL cb)]) ∧ Below W.heap.size W w') := fun W h => by
    have := of_any b W tb (by omega) h
    rw [← hcb, eB] at this
    exact this
  generalize kP ca = pA at *
  generalize kU ca = nA at *
  generalize kL ca = lA at *
  generalize kP cb = pB at *
  generalize kU cb = nB at *
  generalize kL cb = lB at *
  have HP1 : Hid (∀ W, Calls Tryd.prog 16 #[.agg #[.int .i64 (a.size : Nat), .int .i64 pA, .int .i64 nA, .int .i64 lA], .agg #[.int .i64 (b.size : Nat), .int .i64 pB, .int .i64 nB, .int .i64 lB]] W fun e w' => e = .returned (.agg #[.int .i64 ((a.size : Int) + b.size), .int .i64 (pA + pB), .int .i64 (nA + nB), .int .i64 (lA + lB)]) ∧ Below W.heap.size W w') := fun W => by
    have := plus_any a.size pA nA lA b.size pB nB lB W
    rwa [show wrap64 ((a.size : Int) + b.size) = (a.size : Int) + b.size from by unfold wrap64; omega, show wrap64 (pA + pB) = pA + pB from by unfold wrap64; omega, show wrap64 (nA + nB) = nA + nB from by unfold wrap64; omega, show wrap64 (lA + lB) = lA + lB from by unfold wrap64; omega] at this
  have HP2 : Hid (∀ W, Calls Tryd.prog 16 #[.agg #[.int .i64 (a.size : Nat), .int .i64 pA, .int .i64 nA, .int .i64 lA], .agg #[.int .i64 0, .int .i64 0, .int .i64 0, .int .i64 0]] W fun e w' => e = .returned (.agg #[.int .i64 (a.size : Nat), .int .i64 pA, .int .i64 nA, .int .i64 lA]) ∧ Below W.heap.size W w') := fun W => by
    have := plus_any a.size pA nA lA 0 0 0 0 W
    rwa [show wrap64 ((a.size : Int) + 0) = (a.size : Int) from by unfold wrap64; omega, show wrap64 (pA + 0) = pA from by unfold wrap64; omega, show wrap64 (nA + 0) = nA from by unfold wrap64; omega, show wrap64 (lA + 0) = lA from by unfold wrap64; omega] at this
  have q1 : pA ≤ nA := by omega
  have q2 : nA ≤ (a.size : Int) := by omega
  have q3 : lA ≤ pA := by omega
  obtain ⟨x0, hx0⟩ : ∃ x, x = (a.size : Int) + b.size := ⟨_, rfl⟩
  obtain ⟨x1, hx1⟩ : ∃ x, x = pA + pB := ⟨_, rfl⟩
  obtain ⟨x2, hx2⟩ : ∃ x, x = nA + nB := ⟨_, rfl⟩
  obtain ⟨x3, hx3⟩ : ∃ x, x = lA + lB := ⟨_, rfl⟩
  rw [← hx0, ← hx1, ← hx2, ← hx3] at HOab HP1
  clear ha hb hca hcb ga eA eB rA rB uA hx0 hx1 hx2 hx3
  go_enter Tryd.func4, Tryd.ntmps4
  go_wp2_with fail
  refine (known2_any _ tb hT).mono ?_
  rintro e w1 ⟨rfl, g1⟩
  have t1 := hT.later g1
  go_wp2_with fail
  refine (HVa.out _).mono ?_
  rintro e w2 ⟨rfl, rfl⟩
  go_wp2_with fail
  refine (HVb.out _).mono ?_
  rintro e w3 ⟨rfl, rfl⟩
  go_wp2_with fail
  refine (HOab.out _ t1).mono ?_
  rintro e w4 ⟨rfl, b4⟩
  have g4 := g1.trans (b4.mono g1.size)
  have g5 := g4.alloc g4.size (Obj.cells #[.int .i64 x0, .int .i64 x1, .int .i64 x2, .int .i64 x3] 23)
  have t5 := hT.later g5
  have r5 := Row4.new w4 (.int .i64 x0) (.int .i64 x1) (.int .i64 x2) (.int .i64 x3)
  have R5 := Hid.mk4 r5
  clear b4 g4 r5
  go_wp2_with fail
  refine (HOa.out _ t5).mono ?_
  rintro e w6 ⟨rfl, b6⟩
  have g6 := g5.trans (b6.mono g5.size)
  have g7 := g6.alloc g6.size (Obj.cells #[.int .i64 (a.size : Nat), .int .i64 pA, .int .i64 nA, .int .i64 lA] 23)
  have t7 := hT.later g7
  have R6 := Hid.mk4 (R5.out.later b6 (by simp))
  have R7 := Hid.mk4 (R6.out.alloc (Obj.cells #[.int .i64 (a.size : Nat), .int .i64 pA, .int .i64 nA, .int .i64 lA] 23))
  have R8 := Hid.mk4 (Row4.new w6 (.int .i64 (a.size : Nat)) (.int .i64 pA) (.int .i64 nA) (.int .i64 lA))
  have hw46 : w4.heap.size < w6.heap.size := R6.out.lt
  clear b6 g6 g5 t5 R5 R6 t1 g1
  go_wp2_with fail
  generalize hW : w6.alloc (Obj.cells #[.int .i64 (a.size : Nat), .int .i64 pA, .int .i64 nA, .int .i64 lA] 23) = W at *
  clear hW
  have z0 := cell_regrown R7.out.c0; have z1 := cell_regrown R7.out.c1; have z2 := cell_regrown R7.out.c2; have z3 := cell_regrown R7.out.c3
  have y0 := cell_regrown R8.out.c0; have y1 := cell_regrown R8.out.c1; have y2 := cell_regrown R8.out.c2; have y3 := cell_regrown R8.out.c3
  have COb := Hid.mk4 (fun d os => Calls.regrown_of (HOb.out _ (t7.later (below_regrown W d os))))
  have CP1 := Hid.mk4 (fun d os => Calls.regrown_of (HP1.out (grow (redrawn W d) os)))
  have CP2 := Hid.mk4 (fun d os => Calls.regrown_of (HP2.out (grow (redrawn W d) os)))
  refine wp_region_quiet_below (by kernel_rfl) (by kernel_rfl) ?_
  repeat (go_big_quiet_step (first | (go_at_call 14; exact COb.out _ _) | (go_at_call_of 16 (Value.agg #[Value.int IntKind.i64 0, Value.int IntKind.i64 0, Value.int IntKind.i64 0, Value.int IntKind.i64 0]); exact CP2.out _ _) | (go_at_call 16; exact CP1.out _ _)))
  refine wpQuiet_nil ?_
  intro _ hw'
  obtain ⟨⟨dq, osq⟩, hw''⟩ := hw'
  subst hw''
  have bq := below_regrown W dq osq
  clear z0 z1 z2 z3 y0 y1 y2 y3 COb CP1 CP2
  generalize grow (redrawn W dq) osq = w9 at *
  go_wp2
  go_ret
  exact ⟨rfl, g7.trans (bq.mono g7.size)⟩

theorem sums_any (a b : ByteArray) (hA : a.size ≤ maxLen) (hB : b.size ≤ maxLen) (w : World) (tb : Nat × Nat) (hT : Tabs w tb) :
    Calls Tryd.prog 4 #[.string a, .string b] w fun e w' => e = .returned (.bool true) ∧ Below w.heap.size w w' := by
  by_cases hl : 200 < a.size ∨ 200 < b.size
  · exact sums_long a b hA hB hl w tb hT
  · cases hva : vld a.data.toList with
    | false => exact sums_bad a b (by omega) (by omega) (Or.inl hva) w tb hT
    | true =>
      cases hvb : vld b.data.toList with
      | false => exact sums_bad a b (by omega) (by omega) (Or.inr hvb) w tb hT
      | true => exact sums_good a b (by omega) (by omega) hva hvb w tb hT
end Go.Proofs.YthlmfmaiecmebaaDoor
