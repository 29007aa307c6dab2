/- AlgebraSums walked. -/
import Derived.Test.YtkiiknaoljppdaaAlgSumsM
import Derived.Test.YtkiiknaoljppdaaAlgTwo
namespace Go.Proofs.Ytkiiknaoljppdaa
open Go.RowKit Go.Sort
set_option linter.unusedSimpArgs false
set_option linter.unusedVariables false

theorem below_rd8 (w : World) (d : Nat) : Below w.heap.size w (redrawn w d) := ⟨rfl, rfl, rfl, Nat.le_refl _, fun _ _ => rfl⟩
theorem in49_mod (zs : List Int) (h : ∀ z ∈ zs, 0 ≤ z ∧ z ≤ 255) : In49 (zs.map (· % 50)) := fun c hc => by
  obtain ⟨z, hz, rfl⟩ := List.mem_map.1 hc
  have := h z hz
  show 0 ≤ z % 50 ∧ z % 50 ≤ 49
  omega
theorem in49_take {L : List Int} (h : In49 L) (n : Nat) : In49 (L.take n) := fun c hc => h c (List.mem_of_mem_take hc)
set_option maxHeartbeats 8000000 in
set_option maxRecDepth 100000 in
theorem sums8_any (xs ys : List Int) (va vb : Value) (w : World) (hva : NumAt .u8 w va xs) (hvb : NumAt .u8 w vb ys) (hxs : ∀ z ∈ xs, 0 ≤ z ∧ z ≤ 255) (hys : ∀ z ∈ ys, 0 ≤ z ∧ z ≤ 255) (hl : xs.length ≤ 140737488355328) (hl2 : ys.length ≤ 140737488355328) :
    Calls Try.prog 6 #[va, vb] w fun e w' => e = .returned (.bool true) ∧ Below w.heap.size w w' := by
  obtain ⟨a, cap, rfl, hcap, hcells⟩ := hva
  obtain ⟨a2, cap2, rfl, hcap2, hcells2⟩ := hvb
  have HC := Hid.mk7 hcells
  have HC2 := Hid.mk7 hcells2
  clear hcells hcells2
  by_cases h1 : 100 < xs.length
  · go_enter Try.func6, Try.ntmps6
    go_wp2_with fail
    refine (known8_any w).mono ?_
    rintro e w1 ⟨rfl, b1⟩
    go_wp2
    go_ret
    exact ⟨rfl, b1⟩
  by_cases h2 : ys.length < xs.length
  · go_enter Try.func6, Try.ntmps6
    go_wp2_with fail
    refine (known8_any w).mono ?_
    rintro e w1 ⟨rfl, b1⟩
    go_wp2
    go_ret
    exact ⟨rfl, b1⟩
  obtain ⟨P, hP⟩ : ∃ l, xs.map (· % 50) = l := ⟨_, rfl⟩
  obtain ⟨Q, hQ⟩ : ∃ l, ys.map (· % 50) = l := ⟨_, rfl⟩
  have HPM := Hid.mk7 hP
  have HQM := Hid.mk7 hQ
  have HXS := Hid.mk7 hxs
  have HYS := Hid.mk7 hys
  have HPI : Hid (In49 P) := by rw [← hP]; exact in49_mod xs hxs
  have HQI : Hid (In49 Q) := by rw [← hQ]; exact in49_mod ys hys
  have HPL : Hid (P.length = xs.length) := by show _ = _; rw [← hP]; simp
  have HQL : Hid (Q.length = ys.length) := by show _ = _; rw [← hQ]; simp
  clear hP hQ hxs hys
  go_enter Try.func6, Try.ntmps6
  go_wp2_with fail
  refine (known8_any w).mono ?_
  rintro e w1 ⟨rfl, b1⟩
  go_wp2
  go_loopw [5, 6, 7] (fun pv qv iv wr => ∃ (k : Nat), k ≤ xs.length ∧ iv = .int .i64 (k : Nat) ∧ Hid (Two wr w.heap.size pv qv (P.take k) (Q.take k)) ∧ Below w.heap.size w wr) (fun _ _ iv _ => xs.length - (intOf iv).toNat)
  case atStart => exact ⟨0, Nat.zero_le _, rfl, Two.nil _ _, b1⟩
  case round =>
    obtain ⟨k, hk, rfl, HW, hb⟩ := hrel
    by_cases hlt : k < xs.length
    · obtain ⟨x, hx⟩ : ∃ r, xs[k]? = some r := ⟨xs[k], List.getElem?_eq_getElem hlt⟩
      obtain ⟨y, hy⟩ : ∃ r, ys[k]? = some r := ⟨ys[k], List.getElem?_eq_getElem (by omega)⟩
      obtain ⟨g, off, rfl, q0⟩ := HC.out k _ hx
      obtain ⟨g2, off2, rfl, q1⟩ := HC2.out k _ hy
      have c0 := cell_later7 hb (Nat.le_refl _) q0
      have c1 := cell_later7 hb (Nat.le_refl _) q1
      have hgl : g < wr.heap.size := World.block_lt_of_cell? wr ⟨g, _, none⟩ c0
      have hgl2 : g2 < wr.heap.size := World.block_lt_of_cell? wr ⟨g2, _, none⟩ c1
      have hxb := HXS.out x (List.mem_of_getElem? hx)
      have hyb := HYS.out y (List.mem_of_getElem? hy)
      obtain ⟨A, hA, hA3⟩ : ∃ A : Nat, x % 50 = (A : Int) ∧ A < 50 := ⟨(x % 50).toNat, by omega, by omega⟩
      obtain ⟨D, hD, hD3⟩ : ∃ D : Nat, y % 50 = (D : Int) ∧ D < 50 := ⟨(y % 50).toNat, by omega, by omega⟩
      have HPX : Hid (P.take (k + 1) = P.take k ++ [(A : Int)]) := take_snoc7 (by rw [← HPM.out, List.getElem?_map, hx]; simp [hA])
      have HQX : Hid (Q.take (k + 1) = Q.take k ++ [(D : Int)]) := take_snoc7 (by rw [← HQM.out, List.getElem?_map, hy]; simp [hD])
      have hPl : (P.take k).length = k := by have := HPL.out; simp; omega
      have hQl : (Q.take k).length = k := by have := HQL.out; simp; omega
      have hsz := hb.size
      have hgw : g < w.heap.size := World.block_lt_of_cell? w ⟨g, _, none⟩ q0
      have hgw2 : g2 < w.heap.size := World.block_lt_of_cell? w ⟨g2, _, none⟩ q1
      have HU5 : Hid (∀ t, u5.ownBlock = some t → t < wr.heap.size) := fun t ht => (ownI_lt HW.out.1 ht).2
      clear hx hy q0 q1
      generalize P.take k = X at *
      generalize Q.take k = Y at *
      go_wp2
      refine wp_region_turns (fun w' => ∃ x0 : GW (fun W => W.cell? ⟨g, off + k, none⟩ = some (.int .u8 x) ∧ W.cell? ⟨g2, off2 + k, none⟩ = some (.int .u8 y)), w' = x0.w) [0, 1, 2, 3, 4, 5, 6, 9, 10, 11, 12, 13, 14, 15] 19 6 (by kernel_rfl) (by kernel_rfl) (fun d => ⟨⟨redrawn wr d, c0, c1⟩, rfl⟩) ?_
      intro d
      have k0 : ∀ x0 : GW (fun W => W.cell? ⟨g, off + k, none⟩ = some (.int .u8 x) ∧ W.cell? ⟨g2, off2 + k, none⟩ = some (.int .u8 y)), x0.w.cell? ⟨g, off + k, none⟩ = some (.int .u8 x) := fun x0 => x0.h.1
      have k1 : ∀ x0 : GW (fun W => W.cell? ⟨g, off + k, none⟩ = some (.int .u8 x) ∧ W.cell? ⟨g2, off2 + k, none⟩ = some (.int .u8 y)), x0.w.cell? ⟨g2, off2 + k, none⟩ = some (.int .u8 y) := fun x0 => x0.h.2
      simp only [pickAll, pickAt, List.nil_append, List.cons_append, List.append_nil]
      have hne : Nonempty (GW (fun W => W.cell? ⟨g, off + k, none⟩ = some (.int .u8 x) ∧ W.cell? ⟨g2, off2 + k, none⟩ = some (.int .u8 y))) := ⟨⟨wr, c0, c1⟩⟩
      repeat (go_big_quiet_step (fail))
      refine wpQuiet_nil ?_
      clear hne
      have bd := below_rd8 wr d
      have T0 := Hid.mk7 (HW.out.later bd)
      have g0 := hb.trans (bd.mono hb.size)
      have a0 := Hid.mk7 (cell_later7 bd (Nat.le_refl _) c0)
      have b0 := Hid.mk7 (cell_later7 bd (Nat.le_refl _) c1)
      have hs0 := bd.size
      clear k0 k1 c0 c1 bd HW
      generalize redrawn wr d = W0 at *
      refine anyC_pick2 7 16 (by kernel_rfl) (by kernel_rfl) (by kernel_rfl) ?_ ?_
      · skip
        simp only [pickAll, pickAt, List.nil_append, List.cons_append, List.append_nil]
        go_wp2
        have bl1 : Below W0.heap.size W0 (W0.alloc (.cells #[.int .i64 (A : Nat)] 3)) := (Below.refl _ _).alloc (Nat.le_refl _) _
        have T1 := Hid.mk7 (T0.out.later bl1)
        have a1 := Hid.mk7 (cell_later7 bl1 (Nat.le_refl _) a0.out)
        have b1 := Hid.mk7 (cell_later7 bl1 (Nat.le_refl _) b0.out)
        have g1 := g0.trans (bl1.mono g0.size)
        have e7_1 : Hid ((W0.alloc (.cells #[.int .i64 (A : Nat)] 3)).cell? ⟨W0.heap.size, 0, none⟩ = some (.int .i64 (A : Nat))) := by show _ = _; rw [World.cell?_alloc_new]; rfl
        have hs1 := Nat.le_trans hs0 bl1.size
        have hn7 : wr.heap.size ≤ W0.heap.size := hs0
        clear bl1 T0 a0 b0 g0 hs0
        generalize hq7 : W0.heap.size = n7 at *
        generalize W0.alloc (.cells #[.int .i64 (A : Nat)] 3) = W1 at *
        clear hq7
        refine anyNext_mk ⟨⟨W1, a1.out, b1.out⟩, rfl⟩ ?_
        refine anyC_pick2 8 16 (by kernel_rfl) (by kernel_rfl) (by kernel_rfl) ?_ ?_
        · skip
          simp only [pickAll, pickAt, List.nil_append, List.cons_append, List.append_nil]
          go_wp2_with (at_builtin; refine wpList_append_int rfl _ _ rfl w.heap.size _ X rfl T1.out.1 ⟨n7, 0, none⟩ (A : Int) rfl e7_1.out rfl (by omega) (by have := g1.size; omega) ?_)
          intro v8 W2 ho2 hg2 hk2
          have T2 := Hid.mk7 (T1.out.left ho2 hg2 hk2)
          have a2 := Hid.mk7 (hg2.cell a1.out (fun e => by have := (ownI_lt T1.out.1 e.symm).1; simp only at this; omega))
          have b2 := Hid.mk7 (hg2.cell b1.out (fun e => by have := (ownI_lt T1.out.1 e.symm).1; simp only at this; omega))
          have g2 : Below w.heap.size w W2 := g1.grown hg2 g1.size (fun t ht => (ownI_lt T1.out.1 ht).1)
          have hs2 := Nat.le_trans hs1 hg2.size
          clear ho2 hg2 hk2 T1 a1 b1 g1 hs1 e7_1
          go_wp2
          refine anyNext_mk ⟨⟨W2, a2.out, b2.out⟩, rfl⟩ ?_
          refine anyC_pick1 16 (by kernel_rfl) (by kernel_rfl) ?_
          simp only [pickAll, pickAt, List.nil_append, List.cons_append, List.append_nil]
          go_wp2
          have bl3 : Below W2.heap.size W2 (W2.alloc (.cells #[.int .i64 (D : Nat)] 3)) := (Below.refl _ _).alloc (Nat.le_refl _) _
          have T3 := Hid.mk7 (T2.out.later bl3)
          have a3 := Hid.mk7 (cell_later7 bl3 (Nat.le_refl _) a2.out)
          have b3 := Hid.mk7 (cell_later7 bl3 (Nat.le_refl _) b2.out)
          have g3 := g2.trans (bl3.mono g2.size)
          have e16_3 : Hid ((W2.alloc (.cells #[.int .i64 (D : Nat)] 3)).cell? ⟨W2.heap.size, 0, none⟩ = some (.int .i64 (D : Nat))) := by show _ = _; rw [World.cell?_alloc_new]; rfl
          have hs3 := Nat.le_trans hs2 bl3.size
          have hn16 : wr.heap.size ≤ W2.heap.size := hs2
          clear bl3 T2 a2 b2 g2 hs2
          generalize hq16 : W2.heap.size = n16 at *
          generalize W2.alloc (.cells #[.int .i64 (D : Nat)] 3) = W3 at *
          clear hq16
          refine anyNext_mk ⟨⟨W3, a3.out, b3.out⟩, rfl⟩ ?_
          refine anyC_pick1 17 (by kernel_rfl) (by kernel_rfl) ?_
          simp only [pickAll, pickAt, List.nil_append, List.cons_append, List.append_nil]
          go_wp2_with (at_builtin; refine wpList_append_int rfl _ _ rfl w.heap.size _ Y rfl T3.out.2.1 ⟨n16, 0, none⟩ (D : Int) rfl e16_3.out rfl (by omega) (by have := g3.size; omega) ?_)
          intro v17 W4 ho4 hg4 hk4
          have T4 := Hid.mk7 (T3.out.right ho4 hg4 hk4)
          have a4 := Hid.mk7 (hg4.cell a3.out (fun e => by have := (ownI_lt T3.out.2.1 e.symm).1; simp only at this; omega))
          have b4 := Hid.mk7 (hg4.cell b3.out (fun e => by have := (ownI_lt T3.out.2.1 e.symm).1; simp only at this; omega))
          have g4 : Below w.heap.size w W4 := g3.grown hg4 g3.size (fun t ht => (ownI_lt T3.out.2.1 ht).1)
          have hs4 := Nat.le_trans hs3 hg4.size
          clear ho4 hg4 hk4 T3 a3 b3 g3 hs3 e16_3
          go_wp2
          refine anyNext_mk ⟨⟨W4, a4.out, b4.out⟩, rfl⟩ ?_
          refine anyC_pick1 18 (by kernel_rfl) (by kernel_rfl) ?_
          simp only [pickAll, pickAt, List.nil_append, List.cons_append, List.append_nil]
          go_wp2
          refine anyNext_mk ⟨⟨W4, a4.out, b4.out⟩, rfl⟩ ?_
          refine anyC_pick1 19 (by kernel_rfl) (by kernel_rfl) ?_
          simp only [pickAll, pickAt, List.nil_append, List.cons_append, List.append_nil]
          go_wp2
          refine anyNext_last (anyC_done (by kernel_rfl) ?_)
          have TX : Hid (Two W4 w.heap.size v8 v17 (P.take (k + 1)) (Q.take (k + 1))) := by rw [HPX.out, HQX.out]; exact T4.out
          clear T4 a4 b4 hA hD HPX HQX
          go_wp2
          go_roundw
          case rel => exact ⟨k + 1, by omega, by go_num, TX, g4⟩
          case measure => simp [intOf]; omega
        · skip
          simp only [pickAll, pickAt, List.nil_append, List.cons_append, List.append_nil]
          go_wp2
          have bl2 : Below W1.heap.size W1 (W1.alloc (.cells #[.int .i64 (D : Nat)] 3)) := (Below.refl _ _).alloc (Nat.le_refl _) _
          have T2 := Hid.mk7 (T1.out.later bl2)
          have a2 := Hid.mk7 (cell_later7 bl2 (Nat.le_refl _) a1.out)
          have b2 := Hid.mk7 (cell_later7 bl2 (Nat.le_refl _) b1.out)
          have g2 := g1.trans (bl2.mono g1.size)
          have e16_2 : Hid ((W1.alloc (.cells #[.int .i64 (D : Nat)] 3)).cell? ⟨W1.heap.size, 0, none⟩ = some (.int .i64 (D : Nat))) := by show _ = _; rw [World.cell?_alloc_new]; rfl
          have hs2 := Nat.le_trans hs1 bl2.size
          have e7_2 := Hid.mk7 (cell_later7 bl2 (Nat.le_refl _) e7_1.out)
          have hn16 : wr.heap.size ≤ W1.heap.size := hs1
          clear bl2 T1 a1 b1 g1 hs1 e7_1
          generalize hq16 : W1.heap.size = n16 at *
          generalize W1.alloc (.cells #[.int .i64 (D : Nat)] 3) = W2 at *
          clear hq16
          refine anyNext_mk ⟨⟨W2, a2.out, b2.out⟩, rfl⟩ ?_
          refine anyC_pick1 8 (by kernel_rfl) (by kernel_rfl) ?_
          simp only [pickAll, pickAt, List.nil_append, List.cons_append, List.append_nil]
          go_wp2_with (at_builtin; refine wpList_append_int rfl _ _ rfl w.heap.size _ X rfl T2.out.1 ⟨n7, 0, none⟩ (A : Int) rfl e7_2.out rfl (by omega) (by have := g2.size; omega) ?_)
          intro v8 W3 ho3 hg3 hk3
          have T3 := Hid.mk7 (T2.out.left ho3 hg3 hk3)
          have a3 := Hid.mk7 (hg3.cell a2.out (fun e => by have := (ownI_lt T2.out.1 e.symm).1; simp only at this; omega))
          have b3 := Hid.mk7 (hg3.cell b2.out (fun e => by have := (ownI_lt T2.out.1 e.symm).1; simp only at this; omega))
          have g3 : Below w.heap.size w W3 := g2.grown hg3 g2.size (fun t ht => (ownI_lt T2.out.1 ht).1)
          have hs3 := Nat.le_trans hs2 hg3.size
          have e16_3 := Hid.mk7 (hg3.cell e16_2.out (fun e => by have := HU5.out _ e.symm; simp only at this; omega))
          clear ho3 hg3 hk3 T2 a2 b2 g2 hs2 e7_2 e16_2
          go_wp2
          refine anyNext_mk ⟨⟨W3, a3.out, b3.out⟩, rfl⟩ ?_
          refine anyC_pick1 17 (by kernel_rfl) (by kernel_rfl) ?_
          simp only [pickAll, pickAt, List.nil_append, List.cons_append, List.append_nil]
          go_wp2_with (at_builtin; refine wpList_append_int rfl _ _ rfl w.heap.size _ Y rfl T3.out.2.1 ⟨n16, 0, none⟩ (D : Int) rfl e16_3.out rfl (by omega) (by have := g3.size; omega) ?_)
          intro v17 W4 ho4 hg4 hk4
          have T4 := Hid.mk7 (T3.out.right ho4 hg4 hk4)
          have a4 := Hid.mk7 (hg4.cell a3.out (fun e => by have := (ownI_lt T3.out.2.1 e.symm).1; simp only at this; omega))
          have b4 := Hid.mk7 (hg4.cell b3.out (fun e => by have := (ownI_lt T3.out.2.1 e.symm).1; simp only at this; omega))
          have g4 : Below w.heap.size w W4 := g3.grown hg4 g3.size (fun t ht => (ownI_lt T3.out.2.1 ht).1)
          have hs4 := Nat.le_trans hs3 hg4.size
          clear ho4 hg4 hk4 T3 a3 b3 g3 hs3 e16_3
          go_wp2
          refine anyNext_mk ⟨⟨W4, a4.out, b4.out⟩, rfl⟩ ?_
          refine anyC_pick1 18 (by kernel_rfl) (by kernel_rfl) ?_
          simp only [pickAll, pickAt, List.nil_append, List.cons_append, List.append_nil]
          go_wp2
          refine anyNext_mk ⟨⟨W4, a4.out, b4.out⟩, rfl⟩ ?_
          refine anyC_pick1 19 (by kernel_rfl) (by kernel_rfl) ?_
          simp only [pickAll, pickAt, List.nil_append, List.cons_append, List.append_nil]
          go_wp2
          refine anyNext_last (anyC_done (by kernel_rfl) ?_)
          have TX : Hid (Two W4 w.heap.size v8 v17 (P.take (k + 1)) (Q.take (k + 1))) := by rw [HPX.out, HQX.out]; exact T4.out
          clear T4 a4 b4 hA hD HPX HQX
          go_wp2
          go_roundw
          case rel => exact ⟨k + 1, by omega, by go_num, TX, g4⟩
          case measure => simp [intOf]; omega
      · skip
        simp only [pickAll, pickAt, List.nil_append, List.cons_append, List.append_nil]
        go_wp2
        have bl1 : Below W0.heap.size W0 (W0.alloc (.cells #[.int .i64 (D : Nat)] 3)) := (Below.refl _ _).alloc (Nat.le_refl _) _
        have T1 := Hid.mk7 (T0.out.later bl1)
        have a1 := Hid.mk7 (cell_later7 bl1 (Nat.le_refl _) a0.out)
        have b1 := Hid.mk7 (cell_later7 bl1 (Nat.le_refl _) b0.out)
        have g1 := g0.trans (bl1.mono g0.size)
        have e16_1 : Hid ((W0.alloc (.cells #[.int .i64 (D : Nat)] 3)).cell? ⟨W0.heap.size, 0, none⟩ = some (.int .i64 (D : Nat))) := by show _ = _; rw [World.cell?_alloc_new]; rfl
        have hs1 := Nat.le_trans hs0 bl1.size
        have hn16 : wr.heap.size ≤ W0.heap.size := hs0
        clear bl1 T0 a0 b0 g0 hs0
        generalize hq16 : W0.heap.size = n16 at *
        generalize W0.alloc (.cells #[.int .i64 (D : Nat)] 3) = W1 at *
        clear hq16
        refine anyNext_mk ⟨⟨W1, a1.out, b1.out⟩, rfl⟩ ?_
        refine anyC_pick1 7 (by kernel_rfl) (by kernel_rfl) ?_
        simp only [pickAll, pickAt, List.nil_append, List.cons_append, List.append_nil]
        go_wp2
        have bl2 : Below W1.heap.size W1 (W1.alloc (.cells #[.int .i64 (A : Nat)] 3)) := (Below.refl _ _).alloc (Nat.le_refl _) _
        have T2 := Hid.mk7 (T1.out.later bl2)
        have a2 := Hid.mk7 (cell_later7 bl2 (Nat.le_refl _) a1.out)
        have b2 := Hid.mk7 (cell_later7 bl2 (Nat.le_refl _) b1.out)
        have g2 := g1.trans (bl2.mono g1.size)
        have e7_2 : Hid ((W1.alloc (.cells #[.int .i64 (A : Nat)] 3)).cell? ⟨W1.heap.size, 0, none⟩ = some (.int .i64 (A : Nat))) := by show _ = _; rw [World.cell?_alloc_new]; rfl
        have hs2 := Nat.le_trans hs1 bl2.size
        have e16_2 := Hid.mk7 (cell_later7 bl2 (Nat.le_refl _) e16_1.out)
        have hn7 : wr.heap.size ≤ W1.heap.size := hs1
        clear bl2 T1 a1 b1 g1 hs1 e16_1
        generalize hq7 : W1.heap.size = n7 at *
        generalize W1.alloc (.cells #[.int .i64 (A : Nat)] 3) = W2 at *
        clear hq7
        refine anyNext_mk ⟨⟨W2, a2.out, b2.out⟩, rfl⟩ ?_
        refine anyC_pick1 8 (by kernel_rfl) (by kernel_rfl) ?_
        simp only [pickAll, pickAt, List.nil_append, List.cons_append, List.append_nil]
        go_wp2_with (at_builtin; refine wpList_append_int rfl _ _ rfl w.heap.size _ X rfl T2.out.1 ⟨n7, 0, none⟩ (A : Int) rfl e7_2.out rfl (by omega) (by have := g2.size; omega) ?_)
        intro v8 W3 ho3 hg3 hk3
        have T3 := Hid.mk7 (T2.out.left ho3 hg3 hk3)
        have a3 := Hid.mk7 (hg3.cell a2.out (fun e => by have := (ownI_lt T2.out.1 e.symm).1; simp only at this; omega))
        have b3 := Hid.mk7 (hg3.cell b2.out (fun e => by have := (ownI_lt T2.out.1 e.symm).1; simp only at this; omega))
        have g3 : Below w.heap.size w W3 := g2.grown hg3 g2.size (fun t ht => (ownI_lt T2.out.1 ht).1)
        have hs3 := Nat.le_trans hs2 hg3.size
        have e16_3 := Hid.mk7 (hg3.cell e16_2.out (fun e => by have := HU5.out _ e.symm; simp only at this; omega))
        clear ho3 hg3 hk3 T2 a2 b2 g2 hs2 e16_2 e7_2
        go_wp2
        refine anyNext_mk ⟨⟨W3, a3.out, b3.out⟩, rfl⟩ ?_
        refine anyC_pick1 17 (by kernel_rfl) (by kernel_rfl) ?_
        simp only [pickAll, pickAt, List.nil_append, List.cons_append, List.append_nil]
        go_wp2_with (at_builtin; refine wpList_append_int rfl _ _ rfl w.heap.size _ Y rfl T3.out.2.1 ⟨n16, 0, none⟩ (D : Int) rfl e16_3.out rfl (by omega) (by have := g3.size; omega) ?_)
        intro v17 W4 ho4 hg4 hk4
        have T4 := Hid.mk7 (T3.out.right ho4 hg4 hk4)
        have a4 := Hid.mk7 (hg4.cell a3.out (fun e => by have := (ownI_lt T3.out.2.1 e.symm).1; simp only at this; omega))
        have b4 := Hid.mk7 (hg4.cell b3.out (fun e => by have := (ownI_lt T3.out.2.1 e.symm).1; simp only at this; omega))
        have g4 : Below w.heap.size w W4 := g3.grown hg4 g3.size (fun t ht => (ownI_lt T3.out.2.1 ht).1)
        have hs4 := Nat.le_trans hs3 hg4.size
        clear ho4 hg4 hk4 T3 a3 b3 g3 hs3 e16_3
        go_wp2
        refine anyNext_mk ⟨⟨W4, a4.out, b4.out⟩, rfl⟩ ?_
        refine anyC_pick1 18 (by kernel_rfl) (by kernel_rfl) ?_
        simp only [pickAll, pickAt, List.nil_append, List.cons_append, List.append_nil]
        go_wp2
        refine anyNext_mk ⟨⟨W4, a4.out, b4.out⟩, rfl⟩ ?_
        refine anyC_pick1 19 (by kernel_rfl) (by kernel_rfl) ?_
        simp only [pickAll, pickAt, List.nil_append, List.cons_append, List.append_nil]
        go_wp2
        refine anyNext_last (anyC_done (by kernel_rfl) ?_)
        have TX : Hid (Two W4 w.heap.size v8 v17 (P.take (k + 1)) (Q.take (k + 1))) := by rw [HPX.out, HQX.out]; exact T4.out
        clear T4 a4 b4 hA hD HPX HQX
        go_wp2
        go_roundw
        case rel => exact ⟨k + 1, by omega, by go_num, TX, g4⟩
        case measure => simp [intOf]; omega
    · obtain rfl : k = xs.length := by omega
      have hPt : P.take xs.length = P := by rw [← HPL.out]; exact List.take_length
      obtain ⟨Y, hY⟩ : ∃ Y, Q.take xs.length = Y := ⟨_, rfl⟩
      obtain ⟨n, hn⟩ : ∃ n, xs.length = n := ⟨_, rfl⟩
      have hYl : Y.length = n := by rw [← hY, ← hn]; have := HQL.out; simp; omega
      have HYI : Hid (In49 Y) := by rw [← hY]; exact in49_take HQI.out _
      have hw0 := HW.out
      rw [hPt, hY] at hw0
      have P0 := Hid.mk7 hw0.1.num
      have Q0 := Hid.mk7 hw0.2.1.num
      have hPl : P.length = n := by rw [HPL.out]; exact hn
      have hn100 : n ≤ 100 := by omega
      obtain ⟨f1, f2, f3, f4, f5, f6⟩ := sums_all HPI.out HYI.out (by omega)
      have OP : Hid (Ok8 P ∧ P.length = n) := ⟨ok8_49 HPI.out (by omega), hPl⟩
      have OQ : Hid (Ok8 Y ∧ Y.length = n) := ⟨ok8_49 HYI.out (by omega), hYl⟩
      have OU : Hid (Ok8 (tog uF P Y) ∧ (tog uF P Y).length = n) := ⟨ok8_tog OP.out.1 OQ.out.1 uF_in, by rw [tog_len_eq OP.out.1.2 OQ.out.1.2 (by omega) uF_ne]; exact hPl⟩
      obtain ⟨U, hU⟩ : ∃ U, tog uF P Y = U := ⟨_, rfl⟩
      rw [hU] at f1 f2 f3 f4 f5 f6 OU
      rw [hPl] at f3
      have HU1 := Hid.mk7 hU
      have HU2 : Hid (tog uF Y P = U) := f1.symm
      have HF2 := Hid.mk7 f2
      have HF3 := Hid.mk7 f3
      have s1 := szc_le P
      have s2 := szc_le Y
      have s3 := szc_le U
      rw [OP.out.2] at s1
      rw [OQ.out.2] at s2
      rw [OU.out.2] at s3
      clear hw0 HW hPt hY hYl HYI HPI HQI HPL HQL HPM HQM HXS HYS f1 f2 f3 hU hPl HC HC2
      obtain ⟨SP, hSP⟩ : ∃ z, szc P = z := ⟨_, rfl⟩
      obtain ⟨SY, hSY⟩ : ∃ z, szc Y = z := ⟨_, rfl⟩
      obtain ⟨SU, hSU⟩ : ∃ z, szc U = z := ⟨_, rfl⟩
      rw [hSP] at s1 f4 f6
      rw [hSY] at s2 f5 f6
      rw [hSU] at s3 f4 f5 f6
      have HSP : Hid ((szc P : Int) = (SP : Int)) := by show _ = _; rw [hSP]
      have HSY : Hid ((szc Y : Int) = (SY : Int)) := by show _ = _; rw [hSY]
      have HSU : Hid ((szc U : Int) = (SU : Int)) := by show _ = _; rw [hSU]
      clear hSP hSY hSU
      go_wp2_with fail
      refine (made_ok P0.out OP.out.1 (Nat.le_trans (rle_len _) (by rw [OP.out.2]; omega))).mono ?_
      rintro e w2 ⟨x, rfl, hx, b2⟩
      have Q2 := Hid.mk7 (Q0.out.later b2)
      have X2 := Hid.mk7 hx
      have g2 := hb.trans (b2.mono hb.size)
      obtain ⟨xb, xv, rfl, _⟩ := id X2.out
      clear P0 Q0 hb b2 hx
      go_wp2_with fail
      refine (made_ok Q2.out OQ.out.1 (Nat.le_trans (rle_len _) (by rw [OQ.out.2]; omega))).mono ?_
      rintro e w3 ⟨y, rfl, hy, b3⟩
      have X3 := Hid.mk7 (X2.out.later b3)
      have Y3 := Hid.mk7 hy
      have g3 := g2.trans (b3.mono g2.size)
      obtain ⟨yb, yv, rfl, _⟩ := id Y3.out
      clear Q2 X2 g2 b3 hy
      go_wp2_with fail
      refine (union_ok X3.out Y3.out OP.out.1 OQ.out.1 (by rw [OP.out.2, OQ.out.2]) HU1.out (by rw [OU.out.2]; omega)).mono ?_
      rintro e w4 ⟨u, rfl, hu, b4⟩
      have X4 := Hid.mk7 (X3.out.later b4)
      have Y4 := Hid.mk7 (Y3.out.later b4)
      have U4 := Hid.mk7 hu
      have g4 := g3.trans (b4.mono g3.size)
      clear X3 Y3 g3 b4 hu
      go_wp2_with fail
      refine (union_ok Y4.out X4.out OQ.out.1 OP.out.1 (by rw [OP.out.2, OQ.out.2]) HU2.out (by rw [OU.out.2]; omega)).mono ?_
      rintro e w5 ⟨t, rfl, ht, b5⟩
      have X5 := Hid.mk7 (X4.out.later b5)
      have Y5 := Hid.mk7 (Y4.out.later b5)
      have U5 := Hid.mk7 (U4.out.later b5)
      have W5 := Hid.mk7 ht
      have g5 := g4.trans (b5.mono g4.size)
      clear X4 Y4 U4 g4 b5 ht
      go_wp2_with fail
      refine (minus_ok U5.out Y5.out OU.out.1 OQ.out.1 (by rw [OU.out.2, OQ.out.2]) HF2.out (by rw [OP.out.2]; omega)).mono ?_
      rintro e w6 ⟨v, rfl, hv, b6⟩
      have X6 := Hid.mk7 (X5.out.later b6)
      have Y6 := Hid.mk7 (Y5.out.later b6)
      have U6 := Hid.mk7 (U5.out.later b6)
      have W6 := Hid.mk7 (W5.out.later b6)
      have V6 := Hid.mk7 hv
      have g6 := g5.trans (b6.mono g5.size)
      clear X5 Y5 U5 W5 g5 b6 hv
      go_wp2_with fail
      refine (minus_ok X6.out U6.out OP.out.1 OU.out.1 (by rw [OP.out.2, OU.out.2]) HF3.out (by simp; omega)).mono ?_
      rintro e w7 ⟨z, rfl, hz, b7⟩
      have X7 := Hid.mk7 (X6.out.later b7)
      have Y7 := Hid.mk7 (Y6.out.later b7)
      have U7 := Hid.mk7 (U6.out.later b7)
      have W7 := Hid.mk7 (W6.out.later b7)
      have V7 := Hid.mk7 (V6.out.later b7)
      have Z7 := Hid.mk7 hz
      have g7 := g6.trans (b7.mono g6.size)
      clear X6 Y6 U6 W6 V6 g6 b7 hz
      go_wp2_with fail
      refine (same_yes V7.out X7.out (by rw [OP.out.2]; omega)).mono ?_
      rintro e w8 ⟨rfl, b8⟩
      have X8 := Hid.mk7 (X7.out.later b8)
      have Y8 := Hid.mk7 (Y7.out.later b8)
      have U8 := Hid.mk7 (U7.out.later b8)
      have W8 := Hid.mk7 (W7.out.later b8)
      have Z8 := Hid.mk7 (Z7.out.later b8)
      have g8 := g7.trans (b8.mono g7.size)
      clear V7 X7 Y7 U7 W7 Z7 g7 b8
      go_wp2_with fail
      refine (same_yes U8.out W8.out (by rw [OU.out.2]; omega)).mono ?_
      rintro e w9 ⟨rfl, b9⟩
      have X9 := Hid.mk7 (X8.out.later b9)
      have Y9 := Hid.mk7 (Y8.out.later b9)
      have U9 := Hid.mk7 (U8.out.later b9)
      have Z9 := Hid.mk7 (Z8.out.later b9)
      have g9 := g8.trans (b9.mono g8.size)
      clear W8 X8 Y8 U8 Z8 g8 b9
      go_wp2_with fail
      refine (empty_yes Z9.out (by simp; omega) (szc_zeros n)).mono ?_
      rintro e w10 ⟨rfl, b10⟩
      have X10 := Hid.mk7 (X9.out.later b10)
      have Y10 := Hid.mk7 (Y9.out.later b10)
      have U10 := Hid.mk7 (U9.out.later b10)
      have g10 := g9.trans (b10.mono g9.size)
      clear Z9 X9 Y9 U9 g9 b10
      go_wp2_with fail
      refine (size_is U10.out (by rw [OU.out.2]; omega) HSU.out).mono ?_
      rintro e w11 ⟨rfl, b11⟩
      have X11 := Hid.mk7 (X10.out.later b11)
      have Y11 := Hid.mk7 (Y10.out.later b11)
      have U11 := Hid.mk7 (U10.out.later b11)
      have g11 := g10.trans (b11.mono g10.size)
      clear X10 Y10 U10 g10 b11
      go_wp2_with fail
      refine (size_is X11.out (by rw [OP.out.2]; omega) HSP.out).mono ?_
      rintro e w12 ⟨rfl, b12⟩
      have X12 := Hid.mk7 (X11.out.later b12)
      have Y12 := Hid.mk7 (Y11.out.later b12)
      have U12 := Hid.mk7 (U11.out.later b12)
      have g12 := g11.trans (b12.mono g11.size)
      clear X11 Y11 U11 g11 b12
      go_wp2_with fail
      refine (size_is Y12.out (by rw [OQ.out.2]; omega) HSY.out).mono ?_
      rintro e w13 ⟨rfl, b13⟩
      have X13 := Hid.mk7 (X12.out.later b13)
      have Y13 := Hid.mk7 (Y12.out.later b13)
      have U13 := Hid.mk7 (U12.out.later b13)
      have g13 := g12.trans (b13.mono g12.size)
      clear X12 Y12 U12 g12 b13
      go_wp2_with fail
      all_goals
        refine (size_is U13.out (by rw [OU.out.2]; omega) HSU.out).mono ?_
        rintro e w14 ⟨rfl, b14⟩
        have X14 := Hid.mk7 (X13.out.later b14)
        have Y14 := Hid.mk7 (Y13.out.later b14)
        have g14 := g13.trans (b14.mono g13.size)
        clear U13 X13 Y13 g13 b14
        go_wp2_with fail
        refine (size_is X14.out (by rw [OP.out.2]; omega) HSP.out).mono ?_
        rintro e w15 ⟨rfl, b15⟩
        have Y15 := Hid.mk7 (Y14.out.later b15)
        have g15 := g14.trans (b15.mono g14.size)
        clear X14 Y14 g14 b15
        go_wp2_with fail
        refine (size_is Y15.out (by rw [OQ.out.2]; omega) HSY.out).mono ?_
        rintro e w16 ⟨rfl, b16⟩
        have g16 := g15.trans (b16.mono g15.size)
        clear Y15 g15 b16
        go_wp2
        go_ret
        exact ⟨ret_bool7 (decide_eq_true (by omega)), g16⟩
end Go.Proofs.Ytkiiknaoljppdaa
