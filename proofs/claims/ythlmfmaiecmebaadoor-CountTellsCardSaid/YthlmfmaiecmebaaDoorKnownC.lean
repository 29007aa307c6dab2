/- Stage 2's known, walked: it answers true. -/
import Derived.Test.YthlmfmaiecmebaaDoorCountTo
namespace Go.Proofs.YthlmfmaiecmebaaDoor
open Go.RowKit Go.Sort

def ktext : ByteArray := ⟨#[97, 10, 240, 159, 152, 128, 98]⟩
theorem kc_to1 (W : World) (tb : Nat × Nat) (h : Tabs W tb) : Calls Tryd.prog 10 #[.string ⟨#[97, 10, 240, 159, 152, 128, 98]⟩, .int .i64 2, .int .i64 4] W fun e w' => e = .returned (.tuple #[.int .i64 6, .int .i64 0]) ∧ Below W.heap.size W w' := by
  have := to_any ktext 2 4 W tb (by decide) h
  rwa [show toB ktext 2 4 = 6 from by decide +kernel, show toE ktext 2 4 = 0 from by decide +kernel] at this
theorem kc_to2 (W : World) (tb : Nat × Nat) (h : Tabs W tb) : Calls Tryd.prog 10 #[.string ⟨#[97, 10, 240, 159, 152, 128, 98]⟩, .int .i64 2, .int .i64 3] W fun e w' => e = .returned (.tuple #[.int .i64 0, .int .i64 50]) ∧ Below W.heap.size W w' := by
  have := to_any ktext 2 3 W tb (by decide) h
  rwa [show toB ktext 2 3 = 0 from by decide +kernel, show toE ktext 2 3 = 50 from by decide +kernel] at this
theorem kc_from1 (W : World) (tb : Nat × Nat) (h : Tabs W tb) : Calls Tryd.prog 12 #[.string ⟨#[97, 10, 240, 159, 152, 128, 98]⟩, .int .i64 3, .int .i64 2] W fun e w' => e = .returned (.tuple #[.int .i64 1, .int .i64 0]) ∧ Below W.heap.size W w' := by
  have := from_any ktext 3 2 W tb (by decide) h
  rwa [show frB ktext 3 2 = 1 from by decide +kernel, show frE ktext 3 2 = 0 from by decide +kernel] at this
theorem kc_from2 (W : World) (tb : Nat × Nat) (h : Tabs W tb) : Calls Tryd.prog 12 #[.string ⟨#[97, 10, 240, 159, 152, 128, 98]⟩, .int .i64 1, .int .i64 3] W fun e w' => e = .returned (.tuple #[.int .i64 0, .int .i64 11]) ∧ Below W.heap.size W w' := by
  have := from_any ktext 1 3 W tb (by decide) h
  rwa [show frB ktext 1 3 = 0 from by decide +kernel, show frE ktext 1 3 = 11 from by decide +kernel] at this
theorem kc_to3 (W : World) (tb : Nat × Nat) (h : Tabs W tb) : Calls Tryd.prog 10 #[.string ⟨#[97, 10, 240, 159, 152, 128, 98]⟩, .int .i64 9, .int .i64 0] W fun e w' => e = .returned (.tuple #[.int .i64 0, .int .i64 12]) ∧ Below W.heap.size W w' := by
  have := to_any ktext 9 0 W tb (by decide) h
  rwa [show toB ktext 9 0 = 0 from by decide +kernel, show toE ktext 9 0 = 12 from by decide +kernel] at this
theorem kc_of (W : World) (tb : Nat × Nat) (h : Tabs W tb) : Calls Tryd.prog 14 #[.string ⟨#[97, 10, 240, 159, 152, 128, 98]⟩] W fun e w' => e = .returned (.agg #[.int .i64 7, .int .i64 4, .int .i64 5, .int .i64 1]) ∧ Below W.heap.size W w' := by
  have := of_any ktext W tb (by decide) h
  rwa [show kB (pts ktext.data.toList) = 7 from by decide +kernel, show kP (pts ktext.data.toList) = 4 from by decide +kernel, show kU (pts ktext.data.toList) = 5 from by decide +kernel, show kL (pts ktext.data.toList) = 1 from by decide +kernel] at this

set_option maxHeartbeats 1000000 in
set_option maxRecDepth 100000 in
theorem known2_any (w : World) (tb : Nat × Nat) (hT : Tabs w tb) : Calls Tryd.prog 9 #[] w fun e w' => e = .returned (.bool true) ∧ Below w.heap.size w w' := by
  go_enter Tryd.func9, Tryd.ntmps9
  go_wp2_with fail
  refine (kc_to1 _ tb hT).mono ?_
  rintro e w1 ⟨rfl, g1⟩
  have t1 := hT.later g1
  go_wp2_with fail
  refine (kc_to2 _ tb t1).mono ?_
  rintro e w2 ⟨rfl, b2⟩
  have g2 := g1.trans (b2.mono g1.size)
  have t2 := hT.later g2
  clear b2 g1 t1
  go_wp2_with fail
  refine (kc_from1 _ tb t2).mono ?_
  rintro e w3 ⟨rfl, b3⟩
  have g3 := g2.trans (b3.mono g2.size)
  have t3 := hT.later g3
  clear b3 g2 t2
  go_wp2_with fail
  refine (kc_from2 _ tb t3).mono ?_
  rintro e w4 ⟨rfl, b4⟩
  have g4 := g3.trans (b4.mono g3.size)
  have t4 := hT.later g4
  clear b4 g3 t3
  go_wp2_with fail
  refine (kc_to3 _ tb t4).mono ?_
  rintro e w5 ⟨rfl, b5⟩
  have g5 := g4.trans (b5.mono g4.size)
  have t5 := hT.later g5
  clear b5 g4 t4
  go_wp2_with fail
  refine (kc_of _ tb t5).mono ?_
  rintro e w6 ⟨rfl, b6⟩
  have g6 := g5.trans (b6.mono g5.size)
  go_wp2
  go_ret
  exact ⟨rfl, g6⟩
end Go.Proofs.YthlmfmaiecmebaaDoor
