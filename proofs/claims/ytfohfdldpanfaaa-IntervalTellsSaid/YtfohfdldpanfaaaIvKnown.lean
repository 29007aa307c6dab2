/- 'known' of layer 10. -/
import Derived.Test.YtfohfdldpanfaaaIvMerge
namespace Go.Proofs.Ytfohfdldpanfaaa
open Go.Shelf Go.RowKit Go.Lib Go.Sort
set_option linter.unusedSimpArgs false
set_option linter.unusedVariables false

theorem itouch_b (a b c d : Int) (t : Bool) (ht : (decide (c ≤ b) && decide (a ≤ d)) = t) (w : World) :
    Calls Try.prog 11 #[.agg #[.int .i64 a, .int .i64 b], .agg #[.int .i64 c, .int .i64 d]] w fun e w' => e = .returned (.bool t) ∧ RowKit.Below w.heap.size w w' := by
  subst ht
  refine (itouch_any a b c d w).mono ?_
  rintro e w' ⟨rfl, os, rfl⟩
  exact ⟨rfl, below_grown w 0 os⟩
theorem iis_b (a b n : Int) (t : Bool) (ht : (decide (0 ≤ a) && (decide (a ≤ b) && decide (b ≤ n))) = t) (w : World) :
    Calls Try.prog 9 #[.agg #[.int .i64 a, .int .i64 b], .int .i64 n] w fun e w' => e = .returned (.bool t) ∧ RowKit.Below w.heap.size w w' := by
  subst ht; exact iis_any a b n w
theorem imeet_v (a b c d x y : Int) (hx : max a c = x) (hy : max (max a c) (min b d) = y) (w : World) :
    Calls Try.prog 10 #[.agg #[.int .i64 a, .int .i64 b], .agg #[.int .i64 c, .int .i64 d]] w fun e w' => e = .returned (.agg #[.int .i64 x, .int .i64 y]) ∧ RowKit.Below w.heap.size w w' := by
  subst hx hy; exact imeet_any a b c d w
theorem ijoin_v (a b c d x y : Int) (hx : min a c = x) (hy : max b d = y) (w : World) :
    Calls Try.prog 12 #[.agg #[.int .i64 a, .int .i64 b], .agg #[.int .i64 c, .int .i64 d]] w fun e w' => e = .returned (.agg #[.int .i64 x, .int .i64 y]) ∧ RowKit.Below w.heap.size w w' := by
  subst hx hy; exact ijoin_any a b c d w
theorem ishift_v (a b c x y : Int) (hx : wrap64 (a + c) = x) (hy : wrap64 (b + c) = y) (w : World) :
    Calls Try.prog 13 #[.agg #[.int .i64 a, .int .i64 b], .int .i64 c] w fun e w' => e = .returned (.agg #[.int .i64 x, .int .i64 y]) ∧ RowKit.Below w.heap.size w w' := by
  subst hx hy; exact ishift_any a b c w
theorem sg_lit (W : World) (L : List Sg) (cells : Array Value) (e : TypeId) (hc : cells.toList = cs L) (n : Nat) (hn : n = L.length) : SgAt (W.alloc (.cells cells e)) (.slice (some ⟨W.heap.size, 0, none⟩) n n) L := by
  subst hn
  refine ⟨some ⟨W.heap.size, 0, none⟩, _, rfl, Nat.le_refl _, (fun e => by cases e), fun i r hr => ⟨W.heap.size, 0, rfl, ?_⟩⟩
  obtain ⟨q0, q1⟩ := cs_get hr
  rw [← hc] at q0 q1
  refine ⟨?_, ?_⟩
  · rw [World.cell?_alloc_new, Nat.zero_add]; simpa using q0
  · rw [World.cell?_alloc_new, Nat.zero_add]; simpa using q1
set_option maxHeartbeats 4000000 in
set_option maxRecDepth 100000 in
theorem known10_any (w : World) : Calls Try.prog 8 #[] w fun e w' => e = .returned (.bool true) ∧ RowKit.Below w.heap.size w w' := by
  have HM : Hid (mrg [(2, 3), (0, 2), (9, 8)] = [(0, 3)]) := by
    have e1 : fwd [(2, 3), (0, 2), (9, 8)] = [(2, 3), (0, 2)] := by decide
    have e2 : srt [(2, 3), (0, 2)] = [(0, 2), (2, 3)] := by
      refine (srt_unique (L := [(2, 3), (0, 2)]) (M := [(0, 2), (2, 3)]) (List.Perm.swap _ _ _) fun i j _ h1 h2 => ?_).symm
      have hi : i = 0 := by simp at h2; omega
      have hj : j = 1 := by simp at h2; omega
      subst hi hj
      decide
    show mgs (srt (fwd _)) = _
    rw [e1, e2]; decide
  go_enter Try.func8, Try.ntmps8
  go_wp2_with fail
  have X1 : SgAt (((w.alloc (.cells #[.int .i64 0, .int .i64 2] 23)).alloc (.cells #[.int .i64 2, .int .i64 3] 23)).alloc (.cells #[.int .i64 2, .int .i64 3, .int .i64 0, .int .i64 2, .int .i64 9, .int .i64 8] 23)) (.slice (some ⟨w.heap.size + 1 + 1, 0, none⟩) 3 3) [(2, 3), (0, 2), (9, 8)] := by
    have := sg_lit ((w.alloc (.cells #[.int .i64 0, .int .i64 2] 23)).alloc (.cells #[.int .i64 2, .int .i64 3] 23)) [(2, 3), (0, 2), (9, 8)] #[.int .i64 2, .int .i64 3, .int .i64 0, .int .i64 2, .int .i64 9, .int .i64 8] 23 rfl 3 rfl
    simpa using this
  have RA : Hid (Rv (((w.alloc (.cells #[.int .i64 0, .int .i64 2] 23)).alloc (.cells #[.int .i64 2, .int .i64 3] 23)).alloc (.cells #[.int .i64 2, .int .i64 3, .int .i64 0, .int .i64 2, .int .i64 9, .int .i64 8] 23)) w.heap.size (.int .i64 0) (.int .i64 2)) := ((Rv.new w _ _).alloc _).alloc _
  have RB : Hid (Rv (((w.alloc (.cells #[.int .i64 0, .int .i64 2] 23)).alloc (.cells #[.int .i64 2, .int .i64 3] 23)).alloc (.cells #[.int .i64 2, .int .i64 3, .int .i64 0, .int .i64 2, .int .i64 9, .int .i64 8] 23)) (w.heap.size + 1) (.int .i64 2) (.int .i64 3)) := (Rv.new' (by simp) _ _).alloc _
  have G0 : Hid (RowKit.Below w.heap.size w (((w.alloc (.cells #[.int .i64 0, .int .i64 2] 23)).alloc (.cells #[.int .i64 2, .int .i64 3] 23)).alloc (.cells #[.int .i64 2, .int .i64 3, .int .i64 0, .int .i64 2, .int .i64 9, .int .i64 8] 23))) := (((RowKit.Below.refl _ _).alloc (Nat.le_refl _) _).alloc (by simp) _).alloc (by simp <;> omega) _
  refine (merge_any X1 (by simp)).mono ?_
  rintro e w1 ⟨mv, rfl, hm, b1⟩
  rw [HM.out] at hm
  have SM1 := Hid.mk7 hm
  have RA1 := Hid.mk7 (RA.out.later b1)
  have RB1 := Hid.mk7 (RB.out.later b1)
  have G1 : Hid (RowKit.Below w.heap.size w w1) := G0.out.trans (b1.mono G0.out.size)
  obtain ⟨ma, mcap, rfl, hmcap, _, hmc⟩ := id hm
  obtain ⟨mg, mo, rfl, _, _⟩ := hmc 0 (0, 3) rfl
  simp only [List.length_cons, List.length_nil] at hmcap
  clear X1 RA RB G0 b1 hm hmc
  have a0 := RA1.out.c0
  have a1 := RA1.out.c1
  have b0 := RB1.out.c0
  have b1 := RB1.out.c1
  go_wp2_with fail
  refine (iis_b 0 2 2 true (by decide) w1).mono ?_
  rintro e w2 ⟨rfl, bb⟩
  have SM2 := Hid.mk7 (SM1.out.later bb)
  have RA2 := Hid.mk7 (RA1.out.later bb)
  have RB2 := Hid.mk7 (RB1.out.later bb)
  have G2 : Hid (RowKit.Below w.heap.size w w2) := G1.out.trans (bb.mono G1.out.size)
  clear bb a0 a1 b0 b1 SM1 RA1 RB1 G1
  have a0 := RA2.out.c0
  have a1 := RA2.out.c1
  have b0 := RB2.out.c0
  have b1 := RB2.out.c1
  go_wp2_with fail
  refine (iis_b 0 2 1 false (by decide) w2).mono ?_
  rintro e w3 ⟨rfl, bb⟩
  have SM3 := Hid.mk7 (SM2.out.later bb)
  have RA3 := Hid.mk7 (RA2.out.later bb)
  have RB3 := Hid.mk7 (RB2.out.later bb)
  have G3 : Hid (RowKit.Below w.heap.size w w3) := G2.out.trans (bb.mono G2.out.size)
  clear bb a0 a1 b0 b1 SM2 RA2 RB2 G2
  have a0 := RA3.out.c0
  have a1 := RA3.out.c1
  have b0 := RB3.out.c0
  have b1 := RB3.out.c1
  go_wp2_with fail
  refine (itouch_b 0 2 2 3 true (by decide) w3).mono ?_
  rintro e w4 ⟨rfl, bb⟩
  have SM4 := Hid.mk7 (SM3.out.later bb)
  have RA4 := Hid.mk7 (RA3.out.later bb)
  have RB4 := Hid.mk7 (RB3.out.later bb)
  have G4 : Hid (RowKit.Below w.heap.size w w4) := G3.out.trans (bb.mono G3.out.size)
  clear bb a0 a1 b0 b1 SM3 RA3 RB3 G3
  have a0 := RA4.out.c0
  have a1 := RA4.out.c1
  have b0 := RB4.out.c0
  have b1 := RB4.out.c1
  go_wp2_with fail
  refine (imeet_v 0 2 2 3 2 2 (by decide) (by decide) w4).mono ?_
  rintro e w5 ⟨rfl, bb⟩
  have SM5 := Hid.mk7 (SM4.out.later bb)
  have RA5 := Hid.mk7 (RA4.out.later bb)
  have RB5 := Hid.mk7 (RB4.out.later bb)
  have G5 : Hid (RowKit.Below w.heap.size w w5) := G4.out.trans (bb.mono G4.out.size)
  clear bb a0 a1 b0 b1 SM4 RA4 RB4 G4
  have a0 := RA5.out.c0
  have a1 := RA5.out.c1
  have b0 := RB5.out.c0
  have b1 := RB5.out.c1
  go_wp2_with fail
  refine (ijoin_v 0 2 2 3 0 3 (by decide) (by decide) w5).mono ?_
  rintro e w6 ⟨rfl, bb⟩
  have SM6 := Hid.mk7 (SM5.out.later bb)
  have RA6 := Hid.mk7 (RA5.out.later bb)
  have RB6 := Hid.mk7 (RB5.out.later bb)
  have G6 : Hid (RowKit.Below w.heap.size w w6) := G5.out.trans (bb.mono G5.out.size)
  clear bb a0 a1 b0 b1 SM5 RA5 RB5 G5
  have a0 := RA6.out.c0
  have a1 := RA6.out.c1
  have b0 := RB6.out.c0
  have b1 := RB6.out.c1
  go_wp2_with fail
  refine (ishift_v 0 2 1 1 3 (by kernel_rfl) (by kernel_rfl) w6).mono ?_
  rintro e w7 ⟨rfl, bb⟩
  have SM7 := Hid.mk7 (SM6.out.later bb)
  have RA7 := Hid.mk7 (RA6.out.later bb)
  have RB7 := Hid.mk7 (RB6.out.later bb)
  have G7 : Hid (RowKit.Below w.heap.size w w7) := G6.out.trans (bb.mono G6.out.size)
  clear bb a0 a1 b0 b1 SM6 RA6 RB6 G6
  obtain ⟨_, _, e1, _, _, hmc⟩ := SM7.out
  cases e1
  obtain ⟨_, _, e2, m0, m1⟩ := hmc 0 (0, 3) rfl
  cases e2
  simp only [Nat.zero_mul, Nat.add_zero] at m0 m1
  go_wp2
  go_ret
  exact ⟨rfl, G7.out⟩
end Go.Proofs.Ytfohfdldpanfaaa
