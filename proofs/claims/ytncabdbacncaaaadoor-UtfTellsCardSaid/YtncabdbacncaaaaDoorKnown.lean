/- known, walked: it answers true. -/
import Derived.Test.YtncabdbacncaaaaDoorPoints
namespace Go.Proofs.YtncabdbacncaaaaDoor
open Go.RowKit Go.Sort

theorem k_points (W : World) (tb : Nat × Nat) (h : Tab W tb) : Calls Tryd.prog 11 #[.string ⟨#[97, 195, 169]⟩] W fun e w' => ∃ v, e = .returned v ∧ IntsAt w' v [97, 233] ∧ Below W.heap.size W w' := by
  have := points_any ⟨#[97, 195, 169]⟩ W tb (by decide) h
  rwa [show pts (⟨#[97, 195, 169]⟩ : ByteArray).data.toList = [97, 233] from by decide +kernel] at this
theorem k_size1 (W : World) (tb : Nat × Nat) (h : Tab W tb) : Calls Tryd.prog 14 #[.string ⟨#[195, 169]⟩, .int .i64 0] W fun e w' => e = .returned (.int .i64 2) ∧ Below W.heap.size W w' := by
  have := size_any ⟨#[195, 169]⟩ 0 W tb (by decide) h
  rwa [show szAt ⟨#[195, 169]⟩ 0 = 2 from by decide +kernel] at this
theorem k_size2 (W : World) (tb : Nat × Nat) (h : Tab W tb) : Calls Tryd.prog 14 #[.string ⟨#[255]⟩, .int .i64 0] W fun e w' => e = .returned (.int .i64 0) ∧ Below W.heap.size W w' := by
  have := size_any ⟨#[255]⟩ 0 W tb (by decide) h
  rwa [show szAt ⟨#[255]⟩ 0 = 0 from by decide +kernel] at this
theorem k_valid1 (W : World) (tb : Nat × Nat) (h : Tab W tb) : Calls Tryd.prog 16 #[.string ⟨#[97, 195, 169]⟩] W fun e w' => e = .returned (.bool true) ∧ Below W.heap.size W w' := by
  have := valid_any ⟨#[97, 195, 169]⟩ W tb (by decide) h
  rwa [show vld (⟨#[97, 195, 169]⟩ : ByteArray).data.toList = true from by decide +kernel] at this
theorem k_valid2 (W : World) (tb : Nat × Nat) (h : Tab W tb) : Calls Tryd.prog 16 #[.string ⟨#[195]⟩] W fun e w' => e = .returned (.bool false) ∧ Below W.heap.size W w' := by
  have := valid_any ⟨#[195]⟩ W tb (by decide) h
  rwa [show vld (⟨#[195]⟩ : ByteArray).data.toList = false from by decide +kernel] at this
theorem k_clean (W : World) (tb : Nat × Nat) (h : Tab W tb) : Calls Tryd.prog 18 #[.string ⟨#[255]⟩] W fun e w' => e = .returned (.string ⟨#[239, 191, 189]⟩) ∧ Below W.heap.size W w' := by
  have := clean_any ⟨#[255]⟩ W tb (by decide) h
  rwa [show cln (⟨#[255]⟩ : ByteArray).data.toList = [239, 191, 189] from by decide +kernel] at this
theorem k_edge1 (W : World) (tb : Nat × Nat) (h : Tab W tb) : Calls Tryd.prog 20 #[.string ⟨#[195, 169]⟩, .int .i64 2] W fun e w' => e = .returned (.bool true) ∧ Below W.heap.size W w' := by
  have := edge_any ⟨#[195, 169]⟩ 2 W tb (by decide) h
  rwa [show edg ⟨#[195, 169]⟩ 2 = true from by decide +kernel] at this
theorem k_edge2 (W : World) (tb : Nat × Nat) (h : Tab W tb) : Calls Tryd.prog 20 #[.string ⟨#[195, 169]⟩, .int .i64 1] W fun e w' => e = .returned (.bool false) ∧ Below W.heap.size W w' := by
  have := edge_any ⟨#[195, 169]⟩ 1 W tb (by decide) h
  rwa [show edg ⟨#[195, 169]⟩ 1 = false from by decide +kernel] at this
theorem k_back (W : World) (tb : Nat × Nat) (h : Tab W tb) : Calls Tryd.prog 10 #[.string ⟨#[97, 195, 169]⟩, .int .i64 3] W fun e w' => e = .returned (.int .i64 1) ∧ Below W.heap.size W w' := by
  have := back_any ⟨#[97, 195, 169]⟩ 3 W tb (by decide) h
  rwa [show bk ⟨#[97, 195, 169]⟩ 3 = 1 from by decide +kernel] at this
theorem k_make (W : World) (tb : Nat × Nat) (v : Value) (hv : IntsAt W v [233, -1]) (h : Tab W tb) : Calls Tryd.prog 24 #[v] W fun e w' => e = .returned (.string ⟨#[195, 169, 239, 191, 189]⟩) ∧ Below W.heap.size W w' := by
  have := make_any [233, -1] v W tb (fun i hi => by match i, hi with | 0, _ => simp | 1, _ => simp) (by decide) hv h
  rwa [show flat ([233, -1].map tor) = [195, 169, 239, 191, 189] from by decide +kernel] at this

set_option maxHeartbeats 1000000 in
set_option maxRecDepth 100000 in
theorem known_any (w : World) (tb : Nat × Nat) (hT : Tab w tb) : Calls Tryd.prog 9 #[] w fun e w' => e = .returned (.bool true) ∧ Below w.heap.size w w' := by
  go_enter Tryd.func9, Tryd.ntmps9
  go_wp2_with fail
  refine (k_points _ tb hT).mono ?_
  rintro e w1 ⟨v, rfl, hv, b1⟩
  rcases hv with ⟨_, hv⟩ | ⟨blk, off, cap, rfl, hc⟩
  · cases hv
  have hc1 : w1.cell? ⟨blk, off + 1, none⟩ = some (.int .i64 233) := hc 1 (by decide)
  have t1 := hT.later b1
  clear hc
  go_wp2_with fail
  refine (k_size1 _ tb t1).mono ?_
  rintro e w2 ⟨rfl, b2⟩
  have t2 := t1.later b2
  have hc2 := cell_later b2 hc1
  go_wp2_with fail
  refine (k_size2 _ tb t2).mono ?_
  rintro e w3 ⟨rfl, b3⟩
  have t3 := t2.later b3
  have hc3 := cell_later b3 hc2
  go_wp2_with fail
  refine (k_valid1 _ tb t3).mono ?_
  rintro e w4 ⟨rfl, b4⟩
  have t4 := t3.later b4
  have hc4 := cell_later b4 hc3
  go_wp2_with fail
  refine (k_valid2 _ tb t4).mono ?_
  rintro e w5 ⟨rfl, b5⟩
  have t5 := t4.later b5
  have hc5 := cell_later b5 hc4
  go_wp2_with fail
  refine (k_clean _ tb t5).mono ?_
  rintro e w6 ⟨rfl, b6⟩
  have t6 := t5.later b6
  have hc6 := cell_later b6 hc5
  go_wp2_with fail
  refine (k_edge1 _ tb t6).mono ?_
  rintro e w7 ⟨rfl, b7⟩
  have t7 := t6.later b7
  have hc7 := cell_later b7 hc6
  go_wp2_with fail
  refine (k_edge2 _ tb t7).mono ?_
  rintro e w8 ⟨rfl, b8⟩
  have t8 := t7.later b8
  have hc8 := cell_later b8 hc7
  go_wp2_with fail
  refine (k_back _ tb t8).mono ?_
  rintro e w9 ⟨rfl, b9⟩
  have t9 := t8.later b9
  have hc9 := cell_later b9 hc8
  clear hc1 hc2 hc3 hc4 hc5 hc6 hc7 hc8
  go_wp2_with fail
  have bA : Below w9.heap.size w9 (w9.alloc (Obj.cells #[.int .i64 233, .int .i64 (-1)] 3)) := (Below.refl _ _).alloc (Nat.le_refl _) _
  refine (k_make _ tb _ (Or.inr ⟨w9.heap.size, 0, 2, rfl, fun i hi => ?_⟩) (t9.later bA)).mono ?_
  · match i, hi with
    | 0, _ => simp
    | 1, _ => simp
  rintro e w10 ⟨rfl, b10⟩
  go_wp2
  go_ret
  have c1 := b1.trans (b2.mono b1.size)
  have c2 := c1.trans (b3.mono c1.size)
  have c3 := c2.trans (b4.mono c2.size)
  have c4 := c3.trans (b5.mono c3.size)
  have c5 := c4.trans (b6.mono c4.size)
  have c6 := c5.trans (b7.mono c5.size)
  have c7 := c6.trans (b8.mono c6.size)
  have c8 := c7.trans (b9.mono c7.size)
  have c9 := c8.trans (bA.mono c8.size)
  exact ⟨rfl, c9.trans (b10.mono c9.size)⟩
end Go.Proofs.YtncabdbacncaaaaDoor
