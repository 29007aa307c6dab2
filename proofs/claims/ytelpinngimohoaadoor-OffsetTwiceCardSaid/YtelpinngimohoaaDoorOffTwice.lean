/- palinodelaw14's OffsetTwice walked. -/
import Derived.Test.YtelpinngimohoaaDoorOffTwiceM
import Derived.Test.YtelpinngimohoaaDoorTurnsP
namespace Go.Proofs.YtelpinngimohoaaDoor
open Go.RowKit Go.Sort Go.Lib
set_option linter.unusedSimpArgs false
set_option linter.unusedVariables false

theorem pick3_14 {P : Program} {C : World → Prop} {l : List Oper} {z fuel : Nat} {Q : Exit → Act → World → Prop} {listed : Array Bool} {a : Act} {w : World} (k k' k'' : Nat) (hr : (Region.ready .any l.toArray listed == [k, k', k'']) = true) (hk : (l[k]?).isSome = true) (hk' : (l[k']?).isSome = true) (hk'' : (l[k'']?).isSome = true)
    (h : wpList P l.toArray (AnyNext P l C z Q k fuel (listed.setIfInBounds k true)) (pickAll l [k]) a w) (h' : wpList P l.toArray (AnyNext P l C z Q k' fuel (listed.setIfInBounds k' true)) (pickAll l [k']) a w) (h'' : wpList P l.toArray (AnyNext P l C z Q k'' fuel (listed.setIfInBounds k'' true)) (pickAll l [k'']) a w) : wpAnyC P l.toArray C z (noPanic Q) (fuel + 1) listed a w :=
  anyC_pick [k, k', k''] hr (by simp [hk, hk', hk'']) rfl (by
    intro x hx
    simp only [List.mem_cons, List.not_mem_nil, or_false] at hx
    rcases hx with rfl | rfl | rfl
    · exact h
    · exact h'
    · exact h'')
/-- A block of two texts. -/
def R2 (w : World) (g : Nat) (x y : Value) : Prop := w.heap[g]? = some (.cells #[x, y] 47)
theorem R2.c0 {w : World} {g : Nat} {x y : Value} (h : R2 w g x y) : w.cell? ⟨g, 0, none⟩ = some x := cell_of_row w g 0 _ _ _ h
theorem R2.c1 {w : World} {g : Nat} {x y : Value} (h : R2 w g x y) : w.cell? ⟨g, 1, none⟩ = some y := cell_of_row w g 1 _ _ _ h
theorem R2.lt {w : World} {g : Nat} {x y : Value} (h : R2 w g x y) : g < w.heap.size := (Array.getElem?_eq_some_iff.1 h).1
theorem R2.later {w w' : World} {g : Nat} {x y : Value} (h : R2 w g x y) (hb : RowKit.Below w.heap.size w w') : R2 w' g x y := (hb.block g h.lt).trans h
theorem R2.new (w : World) (x y : Value) : R2 (w.alloc (.cells #[x, y] 47)) w.heap.size x y := heap_alloc_new w _
theorem on_is {N p : Nat} {T : List UInt8} {A : List El} (h : On N p T N A 0) (hp : p ≤ N) : isB N A = true ∧ (cel A).length = N + T.length := by
  obtain ⟨_, rfl, hf⟩ := on_ok h
  obtain ⟨h1, h2⟩ := built14 hf elG_one14
  refine ⟨h1, ?_⟩
  rw [h2, bce_one_change, List.length_append, List.length_append, rng_len, rng_len, own_len]
  omega
theorem on_two {N p : Nat} {T : List UInt8} {b1 er : Int} {zs : List El} (h : On N p T b1 zs er) : (er = 0 ∧ b1 = N) ∨ (er = 12 ∧ b1 = 0 ∧ zs = []) := by
  rcases h with ⟨h1, h2, _⟩ | ⟨h1, h2, h3, _⟩
  · exact Or.inl ⟨h1, h2⟩
  · exact Or.inr ⟨h1, h2, h3⟩
theorem rem_14 {a : Int} {n : Nat} (h : 0 ≤ a) (hn : 0 < n) : ∃ x : Nat, a % (n : Int) = (x : Int) ∧ x < n := by
  have h1 := Int.emod_nonneg a (show (n : Int) ≠ 0 by omega)
  have h2 := Int.emod_lt_of_pos a (show (0 : Int) < (n : Int) by omega)
  exact ⟨(a % (n : Int)).toNat, by omega, by omega⟩
theorem rem1_14 {a : Int} {n : Nat} (h : 0 ≤ a) : ∃ x : Nat, a % ((n : Int) + 1) = (x : Int) ∧ x ≤ n := by
  obtain ⟨x, h1, h2⟩ := rem_14 (n := n + 1) h (by omega)
  exact ⟨x, by rw [← h1]; congr 1, by omega⟩
set_option maxHeartbeats 8000000 in
set_option maxRecDepth 100000 in
theorem twice14_any (n at' p q : Int) (s0 s1 : ByteArray) (hn : 0 ≤ n ∧ n ≤ 255) (hx : 0 ≤ at' ∧ at' ≤ 255) (hp : 0 ≤ p ∧ p ≤ 255) (hq : 0 ≤ q ∧ q ≤ 255) (hs0 : s0.size ≤ maxLen) (hs1 : s1.size ≤ maxLen) (w : World) (tb : Nat × Nat) (hT : Tab w tb) :
    Calls Tryd.prog 6 #[.int .u8 n, .int .u8 at', .int .u8 p, .int .u8 q, .agg #[.string s0, .string s1]] w fun e w' => e = .returned (.bool true) ∧ RowKit.Below w.heap.size w w' := by
  have G0 := Hid.mk7 (below_newE (RowKit.Below.refl w.heap.size w) (.cells #[.string s0, .string s1] 47))
  have T0 := Hid.mk7 (hT.later G0.out)
  have RX0 := Hid.mk7 (R2.new w (.string s0) (.string s1))
  clear hT
  by_cases hl0 : 20 < s0.size
  · have t1 : decide ((20 : Int) < (s0.size : Int)) = true := decide_eq_true (by omega)
    go_enter Tryd.func6, Tryd.ntmps6
    have RXc0 := RX0.out.c0
    have RXc1 := RX0.out.c1
    go_wp2_with fail
    refine (known14_any _ tb T0.out).mono ?_
    rintro e w11 ⟨rfl, bz⟩
    clear RXc0 RXc1
    have T12 := Hid.mk7 (T0.out.later bz)
    have G12 := Hid.mk7 (G0.out.trans (bz.mono G0.out.size))
    have RX12 := Hid.mk7 (RX0.out.later bz)
    clear T0 G0 RX0 bz
    have RXc0 := RX12.out.c0
    have RXc1 := RX12.out.c1
    go_wp2
    go_ret
    exact ⟨rfl, G12.out⟩
  have t1 : decide ((20 : Int) < (s0.size : Int)) = false := decide_eq_false (by omega)
  have hl0' : s0.size ≤ 20 := by omega
  clear hl0
  by_cases hl1 : 20 < s1.size
  · have t2 : decide ((20 : Int) < (s1.size : Int)) = true := decide_eq_true (by omega)
    go_enter Tryd.func6, Tryd.ntmps6
    have RXc0 := RX0.out.c0
    have RXc1 := RX0.out.c1
    go_wp2_with fail
    refine (known14_any _ tb T0.out).mono ?_
    rintro e w11 ⟨rfl, bz⟩
    clear RXc0 RXc1
    have T12 := Hid.mk7 (T0.out.later bz)
    have G12 := Hid.mk7 (G0.out.trans (bz.mono G0.out.size))
    have RX12 := Hid.mk7 (RX0.out.later bz)
    clear T0 G0 RX0 bz
    have RXc0 := RX12.out.c0
    have RXc1 := RX12.out.c1
    go_wp2
    go_ret
    exact ⟨rfl, G12.out⟩
  have t2 : decide ((20 : Int) < (s1.size : Int)) = false := decide_eq_false (by omega)
  have hl1' : s1.size ≤ 20 := by omega
  clear hl1
  have hTl0 : s0.data.toList.length ≤ 1000 := by rw [bytes_length]; omega
  have hTl1 : s1.data.toList.length ≤ 1000 := by rw [bytes_length]; omega
  have hTs0 : s0.data.toList.length = s0.size := bytes_length _
  obtain ⟨m, hm, hm1⟩ := rem_14 (n := 100) hn.1 (by omega)
  go_enter Tryd.func6, Tryd.ntmps6
  have RXc0 := RX0.out.c0
  have RXc1 := RX0.out.c1
  go_wp2_with fail
  refine (known14_any _ tb T0.out).mono ?_
  rintro e w11 ⟨rfl, bz⟩
  clear RXc0 RXc1
  have T12 := Hid.mk7 (T0.out.later bz)
  have G12 := Hid.mk7 (G0.out.trans (bz.mono G0.out.size))
  have RX12 := Hid.mk7 (RX0.out.later bz)
  clear T0 G0 RX0 bz
  have RXc0 := RX12.out.c0
  have RXc1 := RX12.out.c1
  have hm2 : n % 100 = (m : Int) := hm
  clear hm
  go_upto_region 5 with fail
  clear RXc0 RXc1
  go_cut [11] from 32 to 36 (fun s9 wx => ∃ N : Nat, s9 = .int .i64 (N : Nat) ∧ 1 ≤ N ∧ N ≤ 100 ∧ wx = w11)
  case first =>
    go_wp2
    go_meet
    exact ⟨m + 1, by simp, by omega, by omega, rfl⟩
  case rest =>
    obtain ⟨N, rfl, hN1, hN, rfl⟩ := hcut
    clear hm2
    generalize hw2 : wc = w20 at *
    clear hw2
    obtain ⟨x0', hx0, hx1⟩ := rem_14 (n := N) hx.1 (by omega)
    have HX0 := Hid.mk7 hx0
    clear hx0
    obtain ⟨p0, hp0, hp1⟩ := rem1_14 (n := N) hp.1
    have hz : ¬ (N : Int) + 1 = 0 := by omega
    obtain ⟨b1, A, er, hon⟩ := on_ex (N := N) (p := p0) (T := s0.data.toList) (by omega) hp1 hTl0
    have HON := Hid.mk7 hon
    clear hon
    go_upto_region 6 with fail
    go_cut [12, 13] from 36 to 55 (fun s9 s10 yA1 => ∃ (gz : Nat) (yv : Value), s9 = .pointer (some ⟨gz, 0, none⟩) ∧ s10 = .int .i64 er ∧ Hid (Rd yA1 gz (.int .i64 b1) yv) ∧ Hid (ElAt yA1 yv A) ∧ Hid (RowKit.Below w20.heap.size w20 yA1))
    case first =>
      refine wp_region_turns (fun w' => ∃ q : (GW (fun W => R2 W w.heap.size (.string s0) (.string s1))), w' = q.w) [0, 1, 2, 3, 4, 5, 6, 7, 8, 9, 10, 11, 12] 21 9 (by kernel_rfl) (by kernel_rfl) (fun d => ⟨⟨redrawn w20 d, RX12.out.later (below_redrawnE w20 d)⟩, rfl⟩) ?_
      intro d
      have k0 : ∀ q : (GW (fun W => R2 W w.heap.size (.string s0) (.string s1))), q.w.cell? ⟨w.heap.size, 0, none⟩ = some (.string s0) := fun q => q.h.c0
      have k1 : ∀ q : (GW (fun W => R2 W w.heap.size (.string s0) (.string s1))), q.w.cell? ⟨w.heap.size, 1, none⟩ = some (.string s1) := fun q => q.h.c1
      simp only [pickAll, pickAt, List.nil_append, List.cons_append, List.append_nil]
      have hne : Nonempty (GW (fun W => R2 W w.heap.size (.string s0) (.string s1))) := ⟨⟨w20, RX12.out⟩⟩
      repeat (go_big_quiet_step (fail))
      refine wpQuiet_nil ?_
      clear hne k0 k1
      have bb0 := Hid.mk7 (below_redrawnE w20 d)
      generalize redrawn w20 d = x0 at *
      refine anyC_pick2 13 19 (by kernel_rfl) (by kernel_rfl) (by kernel_rfl) ?_ ?_
      · simp only [pickAll, pickAt, List.nil_append, List.cons_append, List.append_nil]
        go_wp2
        refine anyNext_mk ⟨⟨_, RX12.out.later bb0.out⟩, rfl⟩ ?_
        refine anyC_pick2 14 19 (by kernel_rfl) (by kernel_rfl) (by kernel_rfl) ?_ ?_
        · simp only [pickAll, pickAt, List.nil_append, List.cons_append, List.append_nil]
          have A2 := Hid.mk7 (el_lit14 x0 x0.heap.size rfl [((p0 : Int), (p0 : Int), s0.data.toList)] #[.int .i64 (p0 : Nat), .int .i64 (p0 : Nat), .string s0] 38 (by rw [c3_one, cacc_bytes]) 1 rfl)
          have bb2 : Hid (RowKit.Below w20.heap.size w20 (x0.alloc (.cells #[.int .i64 (p0 : Nat), .int .i64 (p0 : Nat), .string s0] 38))) := bb0.out.alloc bb0.out.size _
          go_wp2
          generalize (x0.alloc (.cells #[.int .i64 (p0 : Nat), .int .i64 (p0 : Nat), .string s0] 38)) = x2 at *
          generalize x0.heap.size = gl at *
          refine anyNext_mk ⟨⟨_, RX12.out.later bb2.out⟩, rfl⟩ ?_
          refine anyC_pick2 15 19 (by kernel_rfl) (by kernel_rfl) (by kernel_rfl) ?_ ?_
          · simp only [pickAll, pickAt, List.nil_append, List.cons_append, List.append_nil]
            go_wp2_with fail
            refine (build_on HON.out hTl0 A2.out (T12.out.later bb2.out)).mono ?_
            rintro e x3 ⟨yv, rfl, hy, bz⟩
            obtain ⟨ya, yc, rfl, _, _, _⟩ := id hy
            have Y3 := Hid.mk7 hy
            have bb3 : Hid (RowKit.Below w20.heap.size w20 x3) := bb2.out.trans (bz.mono bb2.out.size)
            clear bz hy
            go_wp2
            refine anyNext_mk ⟨⟨_, RX12.out.later bb3.out⟩, rfl⟩ ?_
            refine anyC_pick2 16 19 (by kernel_rfl) (by kernel_rfl) (by kernel_rfl) ?_ ?_
            · simp only [pickAll, pickAt, List.nil_append, List.cons_append, List.append_nil]
              go_wp2
              refine anyNext_mk ⟨⟨_, RX12.out.later bb3.out⟩, rfl⟩ ?_
              refine pick3_14 17 18 19 (by kernel_rfl) (by kernel_rfl) (by kernel_rfl) (by kernel_rfl) ?_ ?_ ?_
              · simp only [pickAll, pickAt, List.nil_append, List.cons_append, List.append_nil]
                go_wp2
                refine anyNext_mk ⟨⟨_, RX12.out.later bb3.out⟩, rfl⟩ ?_
                refine anyC_pick2 18 19 (by kernel_rfl) (by kernel_rfl) (by kernel_rfl) ?_ ?_
                · simp only [pickAll, pickAt, List.nil_append, List.cons_append, List.append_nil]
                  go_wp2
                  refine anyNext_mk ⟨⟨_, RX12.out.later bb3.out⟩, rfl⟩ ?_
                  refine anyC_pick1 19 (by kernel_rfl) (by kernel_rfl) ?_
                  simp only [pickAll, pickAt, List.nil_append, List.cons_append, List.append_nil]
                  have A7 := Hid.mk7 (A2.out.later (below_newE (RowKit.Below.refl _ _) (.cells #[.int .i64 0, .slice none 0 0] 24)))
                  have Y7 := Hid.mk7 (Y3.out.later (below_newE (RowKit.Below.refl _ _) (.cells #[.int .i64 0, .slice none 0 0] 24)))
                  have Z7 : Hid (Rd (x3.alloc (.cells #[.int .i64 0, .slice none 0 0] 24)) x3.heap.size (.int .i64 0) (.slice none 0 0)) := Rd.new _ _ _
                  have bb7 : Hid (RowKit.Below w20.heap.size w20 (x3.alloc (.cells #[.int .i64 0, .slice none 0 0] 24))) := bb3.out.alloc bb3.out.size _
                  have hgz := bb3.out.size
                  go_wp2
                  generalize (x3.alloc (.cells #[.int .i64 0, .slice none 0 0] 24)) = x7 at *
                  generalize x3.heap.size = gz at *
                  refine anyNext_mk ⟨⟨_, RX12.out.later bb7.out⟩, rfl⟩ ?_
                  refine anyC_pick1 20 (by kernel_rfl) (by kernel_rfl) ?_
                  simp only [pickAll, pickAt, List.nil_append, List.cons_append, List.append_nil]
                  have c0 := Z7.out.c0
                  have c1 := Z7.out.c1
                  have fz := Z7.out.fz
                  have c2 : (x7.setCell ⟨gz, 0, none⟩ (.int .i64 b1)).cell? ⟨gz, 1, none⟩ = some (.slice none 0 0) := (Z7.out.set0 _).c1
                  have fz2 := (Z7.out.set0 (.int .i64 b1)).fz
                  have Y8 := Hid.mk7 (Y7.out.set_del Z7.out (.int .i64 b1) (.slice ya A.length yc))
                  have Z8 := Hid.mk7 (Z7.out.set (.int .i64 b1) (.slice ya A.length yc))
                  have bb8 : Hid (RowKit.Below w20.heap.size w20 ((x7.setCell ⟨gz, 0, none⟩ (.int .i64 b1)).setCell ⟨gz, 1, none⟩ (.slice ya A.length yc))) := below_set2 bb7.out hgz _ _
                  go_wp2
                  clear c0 c1 c2 fz fz2
                  generalize ((x7.setCell ⟨gz, 0, none⟩ (.int .i64 b1)).setCell ⟨gz, 1, none⟩ (.slice ya A.length yc)) = x8 at *
                  refine anyNext_mk ⟨⟨_, RX12.out.later bb8.out⟩, rfl⟩ ?_
                  refine anyC_pick1 21 (by kernel_rfl) (by kernel_rfl) ?_
                  simp only [pickAll, pickAt, List.nil_append, List.cons_append, List.append_nil]
                  go_wp2
                  refine anyNext_last (anyC_done (by kernel_rfl) ?_)
                  go_wp2
                  go_meet
                  exact ⟨gz, _, rfl, rfl, Z8, Y8, bb8⟩
                · simp only [pickAll, pickAt, List.nil_append, List.cons_append, List.append_nil]
                  have A10 := Hid.mk7 (A2.out.later (below_newE (RowKit.Below.refl _ _) (.cells #[.int .i64 0, .slice none 0 0] 24)))
                  have Y10 := Hid.mk7 (Y3.out.later (below_newE (RowKit.Below.refl _ _) (.cells #[.int .i64 0, .slice none 0 0] 24)))
                  have Z10 : Hid (Rd (x3.alloc (.cells #[.int .i64 0, .slice none 0 0] 24)) x3.heap.size (.int .i64 0) (.slice none 0 0)) := Rd.new _ _ _
                  have bb10 : Hid (RowKit.Below w20.heap.size w20 (x3.alloc (.cells #[.int .i64 0, .slice none 0 0] 24))) := bb3.out.alloc bb3.out.size _
                  have hgz := bb3.out.size
                  go_wp2
                  generalize (x3.alloc (.cells #[.int .i64 0, .slice none 0 0] 24)) = x10 at *
                  generalize x3.heap.size = gz at *
                  refine anyNext_mk ⟨⟨_, RX12.out.later bb10.out⟩, rfl⟩ ?_
                  refine anyC_pick2 18 20 (by kernel_rfl) (by kernel_rfl) (by kernel_rfl) ?_ ?_
                  · simp only [pickAll, pickAt, List.nil_append, List.cons_append, List.append_nil]
                    go_wp2
                    refine anyNext_mk ⟨⟨_, RX12.out.later bb10.out⟩, rfl⟩ ?_
                    refine anyC_pick1 20 (by kernel_rfl) (by kernel_rfl) ?_
                    simp only [pickAll, pickAt, List.nil_append, List.cons_append, List.append_nil]
                    have c0 := Z10.out.c0
                    have c1 := Z10.out.c1
                    have fz := Z10.out.fz
                    have c2 : (x10.setCell ⟨gz, 0, none⟩ (.int .i64 b1)).cell? ⟨gz, 1, none⟩ = some (.slice none 0 0) := (Z10.out.set0 _).c1
                    have fz2 := (Z10.out.set0 (.int .i64 b1)).fz
                    have Y12 := Hid.mk7 (Y10.out.set_del Z10.out (.int .i64 b1) (.slice ya A.length yc))
                    have Z12 := Hid.mk7 (Z10.out.set (.int .i64 b1) (.slice ya A.length yc))
                    have bb12 : Hid (RowKit.Below w20.heap.size w20 ((x10.setCell ⟨gz, 0, none⟩ (.int .i64 b1)).setCell ⟨gz, 1, none⟩ (.slice ya A.length yc))) := below_set2 bb10.out hgz _ _
                    go_wp2
                    clear c0 c1 c2 fz fz2
                    generalize ((x10.setCell ⟨gz, 0, none⟩ (.int .i64 b1)).setCell ⟨gz, 1, none⟩ (.slice ya A.length yc)) = x12 at *
                    refine anyNext_mk ⟨⟨_, RX12.out.later bb12.out⟩, rfl⟩ ?_
                    refine anyC_pick1 21 (by kernel_rfl) (by kernel_rfl) ?_
                    simp only [pickAll, pickAt, List.nil_append, List.cons_append, List.append_nil]
                    go_wp2
                    refine anyNext_last (anyC_done (by kernel_rfl) ?_)
                    go_wp2
                    go_meet
                    exact ⟨gz, _, rfl, rfl, Z12, Y12, bb12⟩
                  · simp only [pickAll, pickAt, List.nil_append, List.cons_append, List.append_nil]
                    have c0 := Z10.out.c0
                    have c1 := Z10.out.c1
                    have fz := Z10.out.fz
                    have c2 : (x10.setCell ⟨gz, 0, none⟩ (.int .i64 b1)).cell? ⟨gz, 1, none⟩ = some (.slice none 0 0) := (Z10.out.set0 _).c1
                    have fz2 := (Z10.out.set0 (.int .i64 b1)).fz
                    have Y14 := Hid.mk7 (Y10.out.set_del Z10.out (.int .i64 b1) (.slice ya A.length yc))
                    have Z14 := Hid.mk7 (Z10.out.set (.int .i64 b1) (.slice ya A.length yc))
                    have bb14 : Hid (RowKit.Below w20.heap.size w20 ((x10.setCell ⟨gz, 0, none⟩ (.int .i64 b1)).setCell ⟨gz, 1, none⟩ (.slice ya A.length yc))) := below_set2 bb10.out hgz _ _
                    go_wp2
                    clear c0 c1 c2 fz fz2
                    generalize ((x10.setCell ⟨gz, 0, none⟩ (.int .i64 b1)).setCell ⟨gz, 1, none⟩ (.slice ya A.length yc)) = x14 at *
                    refine anyNext_mk ⟨⟨_, RX12.out.later bb14.out⟩, rfl⟩ ?_
                    refine anyC_pick1 18 (by kernel_rfl) (by kernel_rfl) ?_
                    simp only [pickAll, pickAt, List.nil_append, List.cons_append, List.append_nil]
                    go_wp2
                    refine anyNext_mk ⟨⟨_, RX12.out.later bb14.out⟩, rfl⟩ ?_
                    refine anyC_pick1 21 (by kernel_rfl) (by kernel_rfl) ?_
                    simp only [pickAll, pickAt, List.nil_append, List.cons_append, List.append_nil]
                    go_wp2
                    refine anyNext_last (anyC_done (by kernel_rfl) ?_)
                    go_wp2
                    go_meet
                    exact ⟨gz, _, rfl, rfl, Z14, Y14, bb14⟩
              · simp only [pickAll, pickAt, List.nil_append, List.cons_append, List.append_nil]
                go_wp2
                refine anyNext_mk ⟨⟨_, RX12.out.later bb3.out⟩, rfl⟩ ?_
                refine anyC_pick2 17 19 (by kernel_rfl) (by kernel_rfl) (by kernel_rfl) ?_ ?_
                · simp only [pickAll, pickAt, List.nil_append, List.cons_append, List.append_nil]
                  go_wp2
                  refine anyNext_mk ⟨⟨_, RX12.out.later bb3.out⟩, rfl⟩ ?_
                  refine anyC_pick1 19 (by kernel_rfl) (by kernel_rfl) ?_
                  simp only [pickAll, pickAt, List.nil_append, List.cons_append, List.append_nil]
                  have A19 := Hid.mk7 (A2.out.later (below_newE (RowKit.Below.refl _ _) (.cells #[.int .i64 0, .slice none 0 0] 24)))
                  have Y19 := Hid.mk7 (Y3.out.later (below_newE (RowKit.Below.refl _ _) (.cells #[.int .i64 0, .slice none 0 0] 24)))
                  have Z19 : Hid (Rd (x3.alloc (.cells #[.int .i64 0, .slice none 0 0] 24)) x3.heap.size (.int .i64 0) (.slice none 0 0)) := Rd.new _ _ _
                  have bb19 : Hid (RowKit.Below w20.heap.size w20 (x3.alloc (.cells #[.int .i64 0, .slice none 0 0] 24))) := bb3.out.alloc bb3.out.size _
                  have hgz := bb3.out.size
                  go_wp2
                  generalize (x3.alloc (.cells #[.int .i64 0, .slice none 0 0] 24)) = x19 at *
                  generalize x3.heap.size = gz at *
                  refine anyNext_mk ⟨⟨_, RX12.out.later bb19.out⟩, rfl⟩ ?_
                  refine anyC_pick1 20 (by kernel_rfl) (by kernel_rfl) ?_
                  simp only [pickAll, pickAt, List.nil_append, List.cons_append, List.append_nil]
                  have c0 := Z19.out.c0
                  have c1 := Z19.out.c1
                  have fz := Z19.out.fz
                  have c2 : (x19.setCell ⟨gz, 0, none⟩ (.int .i64 b1)).cell? ⟨gz, 1, none⟩ = some (.slice none 0 0) := (Z19.out.set0 _).c1
                  have fz2 := (Z19.out.set0 (.int .i64 b1)).fz
                  have Y20 := Hid.mk7 (Y19.out.set_del Z19.out (.int .i64 b1) (.slice ya A.length yc))
                  have Z20 := Hid.mk7 (Z19.out.set (.int .i64 b1) (.slice ya A.length yc))
                  have bb20 : Hid (RowKit.Below w20.heap.size w20 ((x19.setCell ⟨gz, 0, none⟩ (.int .i64 b1)).setCell ⟨gz, 1, none⟩ (.slice ya A.length yc))) := below_set2 bb19.out hgz _ _
                  go_wp2
                  clear c0 c1 c2 fz fz2
                  generalize ((x19.setCell ⟨gz, 0, none⟩ (.int .i64 b1)).setCell ⟨gz, 1, none⟩ (.slice ya A.length yc)) = x20 at *
                  refine anyNext_mk ⟨⟨_, RX12.out.later bb20.out⟩, rfl⟩ ?_
                  refine anyC_pick1 21 (by kernel_rfl) (by kernel_rfl) ?_
                  simp only [pickAll, pickAt, List.nil_append, List.cons_append, List.append_nil]
                  go_wp2
                  refine anyNext_last (anyC_done (by kernel_rfl) ?_)
                  go_wp2
                  go_meet
                  exact ⟨gz, _, rfl, rfl, Z20, Y20, bb20⟩
                · simp only [pickAll, pickAt, List.nil_append, List.cons_append, List.append_nil]
                  have A22 := Hid.mk7 (A2.out.later (below_newE (RowKit.Below.refl _ _) (.cells #[.int .i64 0, .slice none 0 0] 24)))
                  have Y22 := Hid.mk7 (Y3.out.later (below_newE (RowKit.Below.refl _ _) (.cells #[.int .i64 0, .slice none 0 0] 24)))
                  have Z22 : Hid (Rd (x3.alloc (.cells #[.int .i64 0, .slice none 0 0] 24)) x3.heap.size (.int .i64 0) (.slice none 0 0)) := Rd.new _ _ _
                  have bb22 : Hid (RowKit.Below w20.heap.size w20 (x3.alloc (.cells #[.int .i64 0, .slice none 0 0] 24))) := bb3.out.alloc bb3.out.size _
                  have hgz := bb3.out.size
                  go_wp2
                  generalize (x3.alloc (.cells #[.int .i64 0, .slice none 0 0] 24)) = x22 at *
                  generalize x3.heap.size = gz at *
                  refine anyNext_mk ⟨⟨_, RX12.out.later bb22.out⟩, rfl⟩ ?_
                  refine anyC_pick1 17 (by kernel_rfl) (by kernel_rfl) ?_
                  simp only [pickAll, pickAt, List.nil_append, List.cons_append, List.append_nil]
                  go_wp2
                  refine anyNext_mk ⟨⟨_, RX12.out.later bb22.out⟩, rfl⟩ ?_
                  refine anyC_pick1 20 (by kernel_rfl) (by kernel_rfl) ?_
                  simp only [pickAll, pickAt, List.nil_append, List.cons_append, List.append_nil]
                  have c0 := Z22.out.c0
                  have c1 := Z22.out.c1
                  have fz := Z22.out.fz
                  have c2 : (x22.setCell ⟨gz, 0, none⟩ (.int .i64 b1)).cell? ⟨gz, 1, none⟩ = some (.slice none 0 0) := (Z22.out.set0 _).c1
                  have fz2 := (Z22.out.set0 (.int .i64 b1)).fz
                  have Y24 := Hid.mk7 (Y22.out.set_del Z22.out (.int .i64 b1) (.slice ya A.length yc))
                  have Z24 := Hid.mk7 (Z22.out.set (.int .i64 b1) (.slice ya A.length yc))
                  have bb24 : Hid (RowKit.Below w20.heap.size w20 ((x22.setCell ⟨gz, 0, none⟩ (.int .i64 b1)).setCell ⟨gz, 1, none⟩ (.slice ya A.length yc))) := below_set2 bb22.out hgz _ _
                  go_wp2
                  clear c0 c1 c2 fz fz2
                  generalize ((x22.setCell ⟨gz, 0, none⟩ (.int .i64 b1)).setCell ⟨gz, 1, none⟩ (.slice ya A.length yc)) = x24 at *
                  refine anyNext_mk ⟨⟨_, RX12.out.later bb24.out⟩, rfl⟩ ?_
                  refine anyC_pick1 21 (by kernel_rfl) (by kernel_rfl) ?_
                  simp only [pickAll, pickAt, List.nil_append, List.cons_append, List.append_nil]
                  go_wp2
                  refine anyNext_last (anyC_done (by kernel_rfl) ?_)
                  go_wp2
                  go_meet
                  exact ⟨gz, _, rfl, rfl, Z24, Y24, bb24⟩
              · simp only [pickAll, pickAt, List.nil_append, List.cons_append, List.append_nil]
                have A26 := Hid.mk7 (A2.out.later (below_newE (RowKit.Below.refl _ _) (.cells #[.int .i64 0, .slice none 0 0] 24)))
                have Y26 := Hid.mk7 (Y3.out.later (below_newE (RowKit.Below.refl _ _) (.cells #[.int .i64 0, .slice none 0 0] 24)))
                have Z26 : Hid (Rd (x3.alloc (.cells #[.int .i64 0, .slice none 0 0] 24)) x3.heap.size (.int .i64 0) (.slice none 0 0)) := Rd.new _ _ _
                have bb26 : Hid (RowKit.Below w20.heap.size w20 (x3.alloc (.cells #[.int .i64 0, .slice none 0 0] 24))) := bb3.out.alloc bb3.out.size _
                have hgz := bb3.out.size
                go_wp2
                generalize (x3.alloc (.cells #[.int .i64 0, .slice none 0 0] 24)) = x26 at *
                generalize x3.heap.size = gz at *
                refine anyNext_mk ⟨⟨_, RX12.out.later bb26.out⟩, rfl⟩ ?_
                refine anyC_pick2 17 18 (by kernel_rfl) (by kernel_rfl) (by kernel_rfl) ?_ ?_
                · simp only [pickAll, pickAt, List.nil_append, List.cons_append, List.append_nil]
                  go_wp2
                  refine anyNext_mk ⟨⟨_, RX12.out.later bb26.out⟩, rfl⟩ ?_
                  refine anyC_pick2 18 20 (by kernel_rfl) (by kernel_rfl) (by kernel_rfl) ?_ ?_
                  · simp only [pickAll, pickAt, List.nil_append, List.cons_append, List.append_nil]
                    go_wp2
                    refine anyNext_mk ⟨⟨_, RX12.out.later bb26.out⟩, rfl⟩ ?_
                    refine anyC_pick1 20 (by kernel_rfl) (by kernel_rfl) ?_
                    simp only [pickAll, pickAt, List.nil_append, List.cons_append, List.append_nil]
                    have c0 := Z26.out.c0
                    have c1 := Z26.out.c1
                    have fz := Z26.out.fz
                    have c2 : (x26.setCell ⟨gz, 0, none⟩ (.int .i64 b1)).cell? ⟨gz, 1, none⟩ = some (.slice none 0 0) := (Z26.out.set0 _).c1
                    have fz2 := (Z26.out.set0 (.int .i64 b1)).fz
                    have Y29 := Hid.mk7 (Y26.out.set_del Z26.out (.int .i64 b1) (.slice ya A.length yc))
                    have Z29 := Hid.mk7 (Z26.out.set (.int .i64 b1) (.slice ya A.length yc))
                    have bb29 : Hid (RowKit.Below w20.heap.size w20 ((x26.setCell ⟨gz, 0, none⟩ (.int .i64 b1)).setCell ⟨gz, 1, none⟩ (.slice ya A.length yc))) := below_set2 bb26.out hgz _ _
                    go_wp2
                    clear c0 c1 c2 fz fz2
                    generalize ((x26.setCell ⟨gz, 0, none⟩ (.int .i64 b1)).setCell ⟨gz, 1, none⟩ (.slice ya A.length yc)) = x29 at *
                    refine anyNext_mk ⟨⟨_, RX12.out.later bb29.out⟩, rfl⟩ ?_
                    refine anyC_pick1 21 (by kernel_rfl) (by kernel_rfl) ?_
                    simp only [pickAll, pickAt, List.nil_append, List.cons_append, List.append_nil]
                    go_wp2
                    refine anyNext_last (anyC_done (by kernel_rfl) ?_)
                    go_wp2
                    go_meet
                    exact ⟨gz, _, rfl, rfl, Z29, Y29, bb29⟩
                  · simp only [pickAll, pickAt, List.nil_append, List.cons_append, List.append_nil]
                    have c0 := Z26.out.c0
                    have c1 := Z26.out.c1
                    have fz := Z26.out.fz
                    have c2 : (x26.setCell ⟨gz, 0, none⟩ (.int .i64 b1)).cell? ⟨gz, 1, none⟩ = some (.slice none 0 0) := (Z26.out.set0 _).c1
                    have fz2 := (Z26.out.set0 (.int .i64 b1)).fz
                    have Y31 := Hid.mk7 (Y26.out.set_del Z26.out (.int .i64 b1) (.slice ya A.length yc))
                    have Z31 := Hid.mk7 (Z26.out.set (.int .i64 b1) (.slice ya A.length yc))
                    have bb31 : Hid (RowKit.Below w20.heap.size w20 ((x26.setCell ⟨gz, 0, none⟩ (.int .i64 b1)).setCell ⟨gz, 1, none⟩ (.slice ya A.length yc))) := below_set2 bb26.out hgz _ _
                    go_wp2
                    clear c0 c1 c2 fz fz2
                    generalize ((x26.setCell ⟨gz, 0, none⟩ (.int .i64 b1)).setCell ⟨gz, 1, none⟩ (.slice ya A.length yc)) = x31 at *
                    refine anyNext_mk ⟨⟨_, RX12.out.later bb31.out⟩, rfl⟩ ?_
                    refine anyC_pick1 18 (by kernel_rfl) (by kernel_rfl) ?_
                    simp only [pickAll, pickAt, List.nil_append, List.cons_append, List.append_nil]
                    go_wp2
                    refine anyNext_mk ⟨⟨_, RX12.out.later bb31.out⟩, rfl⟩ ?_
                    refine anyC_pick1 21 (by kernel_rfl) (by kernel_rfl) ?_
                    simp only [pickAll, pickAt, List.nil_append, List.cons_append, List.append_nil]
                    go_wp2
                    refine anyNext_last (anyC_done (by kernel_rfl) ?_)
                    go_wp2
                    go_meet
                    exact ⟨gz, _, rfl, rfl, Z31, Y31, bb31⟩
                · simp only [pickAll, pickAt, List.nil_append, List.cons_append, List.append_nil]
                  go_wp2
                  refine anyNext_mk ⟨⟨_, RX12.out.later bb26.out⟩, rfl⟩ ?_
                  refine anyC_pick1 17 (by kernel_rfl) (by kernel_rfl) ?_
                  simp only [pickAll, pickAt, List.nil_append, List.cons_append, List.append_nil]
                  go_wp2
                  refine anyNext_mk ⟨⟨_, RX12.out.later bb26.out⟩, rfl⟩ ?_
                  refine anyC_pick1 20 (by kernel_rfl) (by kernel_rfl) ?_
                  simp only [pickAll, pickAt, List.nil_append, List.cons_append, List.append_nil]
                  have c0 := Z26.out.c0
                  have c1 := Z26.out.c1
                  have fz := Z26.out.fz
                  have c2 : (x26.setCell ⟨gz, 0, none⟩ (.int .i64 b1)).cell? ⟨gz, 1, none⟩ = some (.slice none 0 0) := (Z26.out.set0 _).c1
                  have fz2 := (Z26.out.set0 (.int .i64 b1)).fz
                  have Y36 := Hid.mk7 (Y26.out.set_del Z26.out (.int .i64 b1) (.slice ya A.length yc))
                  have Z36 := Hid.mk7 (Z26.out.set (.int .i64 b1) (.slice ya A.length yc))
                  have bb36 : Hid (RowKit.Below w20.heap.size w20 ((x26.setCell ⟨gz, 0, none⟩ (.int .i64 b1)).setCell ⟨gz, 1, none⟩ (.slice ya A.length yc))) := below_set2 bb26.out hgz _ _
                  go_wp2
                  clear c0 c1 c2 fz fz2
                  generalize ((x26.setCell ⟨gz, 0, none⟩ (.int .i64 b1)).setCell ⟨gz, 1, none⟩ (.slice ya A.length yc)) = x36 at *
                  refine anyNext_mk ⟨⟨_, RX12.out.later bb36.out⟩, rfl⟩ ?_
                  refine anyC_pick1 21 (by kernel_rfl) (by kernel_rfl) ?_
                  simp only [pickAll, pickAt, List.nil_append, List.cons_append, List.append_nil]
                  go_wp2
                  refine anyNext_last (anyC_done (by kernel_rfl) ?_)
                  go_wp2
                  go_meet
                  exact ⟨gz, _, rfl, rfl, Z36, Y36, bb36⟩
            · simp only [pickAll, pickAt, List.nil_append, List.cons_append, List.append_nil]
              have A38 := Hid.mk7 (A2.out.later (below_newE (RowKit.Below.refl _ _) (.cells #[.int .i64 0, .slice none 0 0] 24)))
              have Y38 := Hid.mk7 (Y3.out.later (below_newE (RowKit.Below.refl _ _) (.cells #[.int .i64 0, .slice none 0 0] 24)))
              have Z38 : Hid (Rd (x3.alloc (.cells #[.int .i64 0, .slice none 0 0] 24)) x3.heap.size (.int .i64 0) (.slice none 0 0)) := Rd.new _ _ _
              have bb38 : Hid (RowKit.Below w20.heap.size w20 (x3.alloc (.cells #[.int .i64 0, .slice none 0 0] 24))) := bb3.out.alloc bb3.out.size _
              have hgz := bb3.out.size
              go_wp2
              generalize (x3.alloc (.cells #[.int .i64 0, .slice none 0 0] 24)) = x38 at *
              generalize x3.heap.size = gz at *
              refine anyNext_mk ⟨⟨_, RX12.out.later bb38.out⟩, rfl⟩ ?_
              refine anyC_pick1 16 (by kernel_rfl) (by kernel_rfl) ?_
              simp only [pickAll, pickAt, List.nil_append, List.cons_append, List.append_nil]
              go_wp2
              refine anyNext_mk ⟨⟨_, RX12.out.later bb38.out⟩, rfl⟩ ?_
              refine anyC_pick2 17 18 (by kernel_rfl) (by kernel_rfl) (by kernel_rfl) ?_ ?_
              · simp only [pickAll, pickAt, List.nil_append, List.cons_append, List.append_nil]
                go_wp2
                refine anyNext_mk ⟨⟨_, RX12.out.later bb38.out⟩, rfl⟩ ?_
                refine anyC_pick2 18 20 (by kernel_rfl) (by kernel_rfl) (by kernel_rfl) ?_ ?_
                · simp only [pickAll, pickAt, List.nil_append, List.cons_append, List.append_nil]
                  go_wp2
                  refine anyNext_mk ⟨⟨_, RX12.out.later bb38.out⟩, rfl⟩ ?_
                  refine anyC_pick1 20 (by kernel_rfl) (by kernel_rfl) ?_
                  simp only [pickAll, pickAt, List.nil_append, List.cons_append, List.append_nil]
                  have c0 := Z38.out.c0
                  have c1 := Z38.out.c1
                  have fz := Z38.out.fz
                  have c2 : (x38.setCell ⟨gz, 0, none⟩ (.int .i64 b1)).cell? ⟨gz, 1, none⟩ = some (.slice none 0 0) := (Z38.out.set0 _).c1
                  have fz2 := (Z38.out.set0 (.int .i64 b1)).fz
                  have Y42 := Hid.mk7 (Y38.out.set_del Z38.out (.int .i64 b1) (.slice ya A.length yc))
                  have Z42 := Hid.mk7 (Z38.out.set (.int .i64 b1) (.slice ya A.length yc))
                  have bb42 : Hid (RowKit.Below w20.heap.size w20 ((x38.setCell ⟨gz, 0, none⟩ (.int .i64 b1)).setCell ⟨gz, 1, none⟩ (.slice ya A.length yc))) := below_set2 bb38.out hgz _ _
                  go_wp2
                  clear c0 c1 c2 fz fz2
                  generalize ((x38.setCell ⟨gz, 0, none⟩ (.int .i64 b1)).setCell ⟨gz, 1, none⟩ (.slice ya A.length yc)) = x42 at *
                  refine anyNext_mk ⟨⟨_, RX12.out.later bb42.out⟩, rfl⟩ ?_
                  refine anyC_pick1 21 (by kernel_rfl) (by kernel_rfl) ?_
                  simp only [pickAll, pickAt, List.nil_append, List.cons_append, List.append_nil]
                  go_wp2
                  refine anyNext_last (anyC_done (by kernel_rfl) ?_)
                  go_wp2
                  go_meet
                  exact ⟨gz, _, rfl, rfl, Z42, Y42, bb42⟩
                · simp only [pickAll, pickAt, List.nil_append, List.cons_append, List.append_nil]
                  have c0 := Z38.out.c0
                  have c1 := Z38.out.c1
                  have fz := Z38.out.fz
                  have c2 : (x38.setCell ⟨gz, 0, none⟩ (.int .i64 b1)).cell? ⟨gz, 1, none⟩ = some (.slice none 0 0) := (Z38.out.set0 _).c1
                  have fz2 := (Z38.out.set0 (.int .i64 b1)).fz
                  have Y44 := Hid.mk7 (Y38.out.set_del Z38.out (.int .i64 b1) (.slice ya A.length yc))
                  have Z44 := Hid.mk7 (Z38.out.set (.int .i64 b1) (.slice ya A.length yc))
                  have bb44 : Hid (RowKit.Below w20.heap.size w20 ((x38.setCell ⟨gz, 0, none⟩ (.int .i64 b1)).setCell ⟨gz, 1, none⟩ (.slice ya A.length yc))) := below_set2 bb38.out hgz _ _
                  go_wp2
                  clear c0 c1 c2 fz fz2
                  generalize ((x38.setCell ⟨gz, 0, none⟩ (.int .i64 b1)).setCell ⟨gz, 1, none⟩ (.slice ya A.length yc)) = x44 at *
                  refine anyNext_mk ⟨⟨_, RX12.out.later bb44.out⟩, rfl⟩ ?_
                  refine anyC_pick1 18 (by kernel_rfl) (by kernel_rfl) ?_
                  simp only [pickAll, pickAt, List.nil_append, List.cons_append, List.append_nil]
                  go_wp2
                  refine anyNext_mk ⟨⟨_, RX12.out.later bb44.out⟩, rfl⟩ ?_
                  refine anyC_pick1 21 (by kernel_rfl) (by kernel_rfl) ?_
                  simp only [pickAll, pickAt, List.nil_append, List.cons_append, List.append_nil]
                  go_wp2
                  refine anyNext_last (anyC_done (by kernel_rfl) ?_)
                  go_wp2
                  go_meet
                  exact ⟨gz, _, rfl, rfl, Z44, Y44, bb44⟩
              · simp only [pickAll, pickAt, List.nil_append, List.cons_append, List.append_nil]
                go_wp2
                refine anyNext_mk ⟨⟨_, RX12.out.later bb38.out⟩, rfl⟩ ?_
                refine anyC_pick1 17 (by kernel_rfl) (by kernel_rfl) ?_
                simp only [pickAll, pickAt, List.nil_append, List.cons_append, List.append_nil]
                go_wp2
                refine anyNext_mk ⟨⟨_, RX12.out.later bb38.out⟩, rfl⟩ ?_
                refine anyC_pick1 20 (by kernel_rfl) (by kernel_rfl) ?_
                simp only [pickAll, pickAt, List.nil_append, List.cons_append, List.append_nil]
                have c0 := Z38.out.c0
                have c1 := Z38.out.c1
                have fz := Z38.out.fz
                have c2 : (x38.setCell ⟨gz, 0, none⟩ (.int .i64 b1)).cell? ⟨gz, 1, none⟩ = some (.slice none 0 0) := (Z38.out.set0 _).c1
                have fz2 := (Z38.out.set0 (.int .i64 b1)).fz
                have Y49 := Hid.mk7 (Y38.out.set_del Z38.out (.int .i64 b1) (.slice ya A.length yc))
                have Z49 := Hid.mk7 (Z38.out.set (.int .i64 b1) (.slice ya A.length yc))
                have bb49 : Hid (RowKit.Below w20.heap.size w20 ((x38.setCell ⟨gz, 0, none⟩ (.int .i64 b1)).setCell ⟨gz, 1, none⟩ (.slice ya A.length yc))) := below_set2 bb38.out hgz _ _
                go_wp2
                clear c0 c1 c2 fz fz2
                generalize ((x38.setCell ⟨gz, 0, none⟩ (.int .i64 b1)).setCell ⟨gz, 1, none⟩ (.slice ya A.length yc)) = x49 at *
                refine anyNext_mk ⟨⟨_, RX12.out.later bb49.out⟩, rfl⟩ ?_
                refine anyC_pick1 21 (by kernel_rfl) (by kernel_rfl) ?_
                simp only [pickAll, pickAt, List.nil_append, List.cons_append, List.append_nil]
                go_wp2
                refine anyNext_last (anyC_done (by kernel_rfl) ?_)
                go_wp2
                go_meet
                exact ⟨gz, _, rfl, rfl, Z49, Y49, bb49⟩
          · simp only [pickAll, pickAt, List.nil_append, List.cons_append, List.append_nil]
            have A51 := Hid.mk7 (A2.out.later (below_newE (RowKit.Below.refl _ _) (.cells #[.int .i64 0, .slice none 0 0] 24)))
            have Z51 : Hid (Rd (x2.alloc (.cells #[.int .i64 0, .slice none 0 0] 24)) x2.heap.size (.int .i64 0) (.slice none 0 0)) := Rd.new _ _ _
            have bb51 : Hid (RowKit.Below w20.heap.size w20 (x2.alloc (.cells #[.int .i64 0, .slice none 0 0] 24))) := bb2.out.alloc bb2.out.size _
            have hgz := bb2.out.size
            go_wp2
            generalize (x2.alloc (.cells #[.int .i64 0, .slice none 0 0] 24)) = x51 at *
            generalize x2.heap.size = gz at *
            refine anyNext_mk ⟨⟨_, RX12.out.later bb51.out⟩, rfl⟩ ?_
            refine anyC_pick1 15 (by kernel_rfl) (by kernel_rfl) ?_
            simp only [pickAll, pickAt, List.nil_append, List.cons_append, List.append_nil]
            go_wp2_with fail
            refine (build_on HON.out hTl0 A51.out (T12.out.later bb51.out)).mono ?_
            rintro e x52 ⟨yv, rfl, hy, bz⟩
            obtain ⟨ya, yc, rfl, _, _, _⟩ := id hy
            have Z52 := Hid.mk7 (Z51.out.later bz)
            have Y52 := Hid.mk7 hy
            have bb52 : Hid (RowKit.Below w20.heap.size w20 x52) := bb51.out.trans (bz.mono bb51.out.size)
            clear bz hy
            go_wp2
            refine anyNext_mk ⟨⟨_, RX12.out.later bb52.out⟩, rfl⟩ ?_
            refine anyC_pick1 16 (by kernel_rfl) (by kernel_rfl) ?_
            simp only [pickAll, pickAt, List.nil_append, List.cons_append, List.append_nil]
            go_wp2
            refine anyNext_mk ⟨⟨_, RX12.out.later bb52.out⟩, rfl⟩ ?_
            refine anyC_pick2 17 18 (by kernel_rfl) (by kernel_rfl) (by kernel_rfl) ?_ ?_
            · simp only [pickAll, pickAt, List.nil_append, List.cons_append, List.append_nil]
              go_wp2
              refine anyNext_mk ⟨⟨_, RX12.out.later bb52.out⟩, rfl⟩ ?_
              refine anyC_pick2 18 20 (by kernel_rfl) (by kernel_rfl) (by kernel_rfl) ?_ ?_
              · simp only [pickAll, pickAt, List.nil_append, List.cons_append, List.append_nil]
                go_wp2
                refine anyNext_mk ⟨⟨_, RX12.out.later bb52.out⟩, rfl⟩ ?_
                refine anyC_pick1 20 (by kernel_rfl) (by kernel_rfl) ?_
                simp only [pickAll, pickAt, List.nil_append, List.cons_append, List.append_nil]
                have c0 := Z52.out.c0
                have c1 := Z52.out.c1
                have fz := Z52.out.fz
                have c2 : (x52.setCell ⟨gz, 0, none⟩ (.int .i64 b1)).cell? ⟨gz, 1, none⟩ = some (.slice none 0 0) := (Z52.out.set0 _).c1
                have fz2 := (Z52.out.set0 (.int .i64 b1)).fz
                have Y56 := Hid.mk7 (Y52.out.set_del Z52.out (.int .i64 b1) (.slice ya A.length yc))
                have Z56 := Hid.mk7 (Z52.out.set (.int .i64 b1) (.slice ya A.length yc))
                have bb56 : Hid (RowKit.Below w20.heap.size w20 ((x52.setCell ⟨gz, 0, none⟩ (.int .i64 b1)).setCell ⟨gz, 1, none⟩ (.slice ya A.length yc))) := below_set2 bb52.out hgz _ _
                go_wp2
                clear c0 c1 c2 fz fz2
                generalize ((x52.setCell ⟨gz, 0, none⟩ (.int .i64 b1)).setCell ⟨gz, 1, none⟩ (.slice ya A.length yc)) = x56 at *
                refine anyNext_mk ⟨⟨_, RX12.out.later bb56.out⟩, rfl⟩ ?_
                refine anyC_pick1 21 (by kernel_rfl) (by kernel_rfl) ?_
                simp only [pickAll, pickAt, List.nil_append, List.cons_append, List.append_nil]
                go_wp2
                refine anyNext_last (anyC_done (by kernel_rfl) ?_)
                go_wp2
                go_meet
                exact ⟨gz, _, rfl, rfl, Z56, Y56, bb56⟩
              · simp only [pickAll, pickAt, List.nil_append, List.cons_append, List.append_nil]
                have c0 := Z52.out.c0
                have c1 := Z52.out.c1
                have fz := Z52.out.fz
                have c2 : (x52.setCell ⟨gz, 0, none⟩ (.int .i64 b1)).cell? ⟨gz, 1, none⟩ = some (.slice none 0 0) := (Z52.out.set0 _).c1
                have fz2 := (Z52.out.set0 (.int .i64 b1)).fz
                have Y58 := Hid.mk7 (Y52.out.set_del Z52.out (.int .i64 b1) (.slice ya A.length yc))
                have Z58 := Hid.mk7 (Z52.out.set (.int .i64 b1) (.slice ya A.length yc))
                have bb58 : Hid (RowKit.Below w20.heap.size w20 ((x52.setCell ⟨gz, 0, none⟩ (.int .i64 b1)).setCell ⟨gz, 1, none⟩ (.slice ya A.length yc))) := below_set2 bb52.out hgz _ _
                go_wp2
                clear c0 c1 c2 fz fz2
                generalize ((x52.setCell ⟨gz, 0, none⟩ (.int .i64 b1)).setCell ⟨gz, 1, none⟩ (.slice ya A.length yc)) = x58 at *
                refine anyNext_mk ⟨⟨_, RX12.out.later bb58.out⟩, rfl⟩ ?_
                refine anyC_pick1 18 (by kernel_rfl) (by kernel_rfl) ?_
                simp only [pickAll, pickAt, List.nil_append, List.cons_append, List.append_nil]
                go_wp2
                refine anyNext_mk ⟨⟨_, RX12.out.later bb58.out⟩, rfl⟩ ?_
                refine anyC_pick1 21 (by kernel_rfl) (by kernel_rfl) ?_
                simp only [pickAll, pickAt, List.nil_append, List.cons_append, List.append_nil]
                go_wp2
                refine anyNext_last (anyC_done (by kernel_rfl) ?_)
                go_wp2
                go_meet
                exact ⟨gz, _, rfl, rfl, Z58, Y58, bb58⟩
            · simp only [pickAll, pickAt, List.nil_append, List.cons_append, List.append_nil]
              go_wp2
              refine anyNext_mk ⟨⟨_, RX12.out.later bb52.out⟩, rfl⟩ ?_
              refine anyC_pick1 17 (by kernel_rfl) (by kernel_rfl) ?_
              simp only [pickAll, pickAt, List.nil_append, List.cons_append, List.append_nil]
              go_wp2
              refine anyNext_mk ⟨⟨_, RX12.out.later bb52.out⟩, rfl⟩ ?_
              refine anyC_pick1 20 (by kernel_rfl) (by kernel_rfl) ?_
              simp only [pickAll, pickAt, List.nil_append, List.cons_append, List.append_nil]
              have c0 := Z52.out.c0
              have c1 := Z52.out.c1
              have fz := Z52.out.fz
              have c2 : (x52.setCell ⟨gz, 0, none⟩ (.int .i64 b1)).cell? ⟨gz, 1, none⟩ = some (.slice none 0 0) := (Z52.out.set0 _).c1
              have fz2 := (Z52.out.set0 (.int .i64 b1)).fz
              have Y63 := Hid.mk7 (Y52.out.set_del Z52.out (.int .i64 b1) (.slice ya A.length yc))
              have Z63 := Hid.mk7 (Z52.out.set (.int .i64 b1) (.slice ya A.length yc))
              have bb63 : Hid (RowKit.Below w20.heap.size w20 ((x52.setCell ⟨gz, 0, none⟩ (.int .i64 b1)).setCell ⟨gz, 1, none⟩ (.slice ya A.length yc))) := below_set2 bb52.out hgz _ _
              go_wp2
              clear c0 c1 c2 fz fz2
              generalize ((x52.setCell ⟨gz, 0, none⟩ (.int .i64 b1)).setCell ⟨gz, 1, none⟩ (.slice ya A.length yc)) = x63 at *
              refine anyNext_mk ⟨⟨_, RX12.out.later bb63.out⟩, rfl⟩ ?_
              refine anyC_pick1 21 (by kernel_rfl) (by kernel_rfl) ?_
              simp only [pickAll, pickAt, List.nil_append, List.cons_append, List.append_nil]
              go_wp2
              refine anyNext_last (anyC_done (by kernel_rfl) ?_)
              go_wp2
              go_meet
              exact ⟨gz, _, rfl, rfl, Z63, Y63, bb63⟩
        · simp only [pickAll, pickAt, List.nil_append, List.cons_append, List.append_nil]
          have Z65 : Hid (Rd (x0.alloc (.cells #[.int .i64 0, .slice none 0 0] 24)) x0.heap.size (.int .i64 0) (.slice none 0 0)) := Rd.new _ _ _
          have bb65 : Hid (RowKit.Below w20.heap.size w20 (x0.alloc (.cells #[.int .i64 0, .slice none 0 0] 24))) := bb0.out.alloc bb0.out.size _
          have hgz := bb0.out.size
          go_wp2
          generalize (x0.alloc (.cells #[.int .i64 0, .slice none 0 0] 24)) = x65 at *
          generalize x0.heap.size = gz at *
          refine anyNext_mk ⟨⟨_, RX12.out.later bb65.out⟩, rfl⟩ ?_
          refine anyC_pick1 14 (by kernel_rfl) (by kernel_rfl) ?_
          simp only [pickAll, pickAt, List.nil_append, List.cons_append, List.append_nil]
          have Z66 := Hid.mk7 (Z65.out.later (below_newE (RowKit.Below.refl _ _) (.cells #[.int .i64 (p0 : Nat), .int .i64 (p0 : Nat), .string s0] 38)))
          have A66 := Hid.mk7 (el_lit14 x65 x65.heap.size rfl [((p0 : Int), (p0 : Int), s0.data.toList)] #[.int .i64 (p0 : Nat), .int .i64 (p0 : Nat), .string s0] 38 (by rw [c3_one, cacc_bytes]) 1 rfl)
          have bb66 : Hid (RowKit.Below w20.heap.size w20 (x65.alloc (.cells #[.int .i64 (p0 : Nat), .int .i64 (p0 : Nat), .string s0] 38))) := bb65.out.alloc bb65.out.size _
          go_wp2
          generalize (x65.alloc (.cells #[.int .i64 (p0 : Nat), .int .i64 (p0 : Nat), .string s0] 38)) = x66 at *
          generalize x65.heap.size = gl at *
          refine anyNext_mk ⟨⟨_, RX12.out.later bb66.out⟩, rfl⟩ ?_
          refine anyC_pick1 15 (by kernel_rfl) (by kernel_rfl) ?_
          simp only [pickAll, pickAt, List.nil_append, List.cons_append, List.append_nil]
          go_wp2_with fail
          refine (build_on HON.out hTl0 A66.out (T12.out.later bb66.out)).mono ?_
          rintro e x67 ⟨yv, rfl, hy, bz⟩
          obtain ⟨ya, yc, rfl, _, _, _⟩ := id hy
          have Z67 := Hid.mk7 (Z66.out.later bz)
          have Y67 := Hid.mk7 hy
          have bb67 : Hid (RowKit.Below w20.heap.size w20 x67) := bb66.out.trans (bz.mono bb66.out.size)
          clear bz hy
          go_wp2
          refine anyNext_mk ⟨⟨_, RX12.out.later bb67.out⟩, rfl⟩ ?_
          refine anyC_pick1 16 (by kernel_rfl) (by kernel_rfl) ?_
          simp only [pickAll, pickAt, List.nil_append, List.cons_append, List.append_nil]
          go_wp2
          refine anyNext_mk ⟨⟨_, RX12.out.later bb67.out⟩, rfl⟩ ?_
          refine anyC_pick2 17 18 (by kernel_rfl) (by kernel_rfl) (by kernel_rfl) ?_ ?_
          · simp only [pickAll, pickAt, List.nil_append, List.cons_append, List.append_nil]
            go_wp2
            refine anyNext_mk ⟨⟨_, RX12.out.later bb67.out⟩, rfl⟩ ?_
            refine anyC_pick2 18 20 (by kernel_rfl) (by kernel_rfl) (by kernel_rfl) ?_ ?_
            · simp only [pickAll, pickAt, List.nil_append, List.cons_append, List.append_nil]
              go_wp2
              refine anyNext_mk ⟨⟨_, RX12.out.later bb67.out⟩, rfl⟩ ?_
              refine anyC_pick1 20 (by kernel_rfl) (by kernel_rfl) ?_
              simp only [pickAll, pickAt, List.nil_append, List.cons_append, List.append_nil]
              have c0 := Z67.out.c0
              have c1 := Z67.out.c1
              have fz := Z67.out.fz
              have c2 : (x67.setCell ⟨gz, 0, none⟩ (.int .i64 b1)).cell? ⟨gz, 1, none⟩ = some (.slice none 0 0) := (Z67.out.set0 _).c1
              have fz2 := (Z67.out.set0 (.int .i64 b1)).fz
              have Y71 := Hid.mk7 (Y67.out.set_del Z67.out (.int .i64 b1) (.slice ya A.length yc))
              have Z71 := Hid.mk7 (Z67.out.set (.int .i64 b1) (.slice ya A.length yc))
              have bb71 : Hid (RowKit.Below w20.heap.size w20 ((x67.setCell ⟨gz, 0, none⟩ (.int .i64 b1)).setCell ⟨gz, 1, none⟩ (.slice ya A.length yc))) := below_set2 bb67.out hgz _ _
              go_wp2
              clear c0 c1 c2 fz fz2
              generalize ((x67.setCell ⟨gz, 0, none⟩ (.int .i64 b1)).setCell ⟨gz, 1, none⟩ (.slice ya A.length yc)) = x71 at *
              refine anyNext_mk ⟨⟨_, RX12.out.later bb71.out⟩, rfl⟩ ?_
              refine anyC_pick1 21 (by kernel_rfl) (by kernel_rfl) ?_
              simp only [pickAll, pickAt, List.nil_append, List.cons_append, List.append_nil]
              go_wp2
              refine anyNext_last (anyC_done (by kernel_rfl) ?_)
              go_wp2
              go_meet
              exact ⟨gz, _, rfl, rfl, Z71, Y71, bb71⟩
            · simp only [pickAll, pickAt, List.nil_append, List.cons_append, List.append_nil]
              have c0 := Z67.out.c0
              have c1 := Z67.out.c1
              have fz := Z67.out.fz
              have c2 : (x67.setCell ⟨gz, 0, none⟩ (.int .i64 b1)).cell? ⟨gz, 1, none⟩ = some (.slice none 0 0) := (Z67.out.set0 _).c1
              have fz2 := (Z67.out.set0 (.int .i64 b1)).fz
              have Y73 := Hid.mk7 (Y67.out.set_del Z67.out (.int .i64 b1) (.slice ya A.length yc))
              have Z73 := Hid.mk7 (Z67.out.set (.int .i64 b1) (.slice ya A.length yc))
              have bb73 : Hid (RowKit.Below w20.heap.size w20 ((x67.setCell ⟨gz, 0, none⟩ (.int .i64 b1)).setCell ⟨gz, 1, none⟩ (.slice ya A.length yc))) := below_set2 bb67.out hgz _ _
              go_wp2
              clear c0 c1 c2 fz fz2
              generalize ((x67.setCell ⟨gz, 0, none⟩ (.int .i64 b1)).setCell ⟨gz, 1, none⟩ (.slice ya A.length yc)) = x73 at *
              refine anyNext_mk ⟨⟨_, RX12.out.later bb73.out⟩, rfl⟩ ?_
              refine anyC_pick1 18 (by kernel_rfl) (by kernel_rfl) ?_
              simp only [pickAll, pickAt, List.nil_append, List.cons_append, List.append_nil]
              go_wp2
              refine anyNext_mk ⟨⟨_, RX12.out.later bb73.out⟩, rfl⟩ ?_
              refine anyC_pick1 21 (by kernel_rfl) (by kernel_rfl) ?_
              simp only [pickAll, pickAt, List.nil_append, List.cons_append, List.append_nil]
              go_wp2
              refine anyNext_last (anyC_done (by kernel_rfl) ?_)
              go_wp2
              go_meet
              exact ⟨gz, _, rfl, rfl, Z73, Y73, bb73⟩
          · simp only [pickAll, pickAt, List.nil_append, List.cons_append, List.append_nil]
            go_wp2
            refine anyNext_mk ⟨⟨_, RX12.out.later bb67.out⟩, rfl⟩ ?_
            refine anyC_pick1 17 (by kernel_rfl) (by kernel_rfl) ?_
            simp only [pickAll, pickAt, List.nil_append, List.cons_append, List.append_nil]
            go_wp2
            refine anyNext_mk ⟨⟨_, RX12.out.later bb67.out⟩, rfl⟩ ?_
            refine anyC_pick1 20 (by kernel_rfl) (by kernel_rfl) ?_
            simp only [pickAll, pickAt, List.nil_append, List.cons_append, List.append_nil]
            have c0 := Z67.out.c0
            have c1 := Z67.out.c1
            have fz := Z67.out.fz
            have c2 : (x67.setCell ⟨gz, 0, none⟩ (.int .i64 b1)).cell? ⟨gz, 1, none⟩ = some (.slice none 0 0) := (Z67.out.set0 _).c1
            have fz2 := (Z67.out.set0 (.int .i64 b1)).fz
            have Y78 := Hid.mk7 (Y67.out.set_del Z67.out (.int .i64 b1) (.slice ya A.length yc))
            have Z78 := Hid.mk7 (Z67.out.set (.int .i64 b1) (.slice ya A.length yc))
            have bb78 : Hid (RowKit.Below w20.heap.size w20 ((x67.setCell ⟨gz, 0, none⟩ (.int .i64 b1)).setCell ⟨gz, 1, none⟩ (.slice ya A.length yc))) := below_set2 bb67.out hgz _ _
            go_wp2
            clear c0 c1 c2 fz fz2
            generalize ((x67.setCell ⟨gz, 0, none⟩ (.int .i64 b1)).setCell ⟨gz, 1, none⟩ (.slice ya A.length yc)) = x78 at *
            refine anyNext_mk ⟨⟨_, RX12.out.later bb78.out⟩, rfl⟩ ?_
            refine anyC_pick1 21 (by kernel_rfl) (by kernel_rfl) ?_
            simp only [pickAll, pickAt, List.nil_append, List.cons_append, List.append_nil]
            go_wp2
            refine anyNext_last (anyC_done (by kernel_rfl) ?_)
            go_wp2
            go_meet
            exact ⟨gz, _, rfl, rfl, Z78, Y78, bb78⟩
      · simp only [pickAll, pickAt, List.nil_append, List.cons_append, List.append_nil]
        have Z80 : Hid (Rd (x0.alloc (.cells #[.int .i64 0, .slice none 0 0] 24)) x0.heap.size (.int .i64 0) (.slice none 0 0)) := Rd.new _ _ _
        have bb80 : Hid (RowKit.Below w20.heap.size w20 (x0.alloc (.cells #[.int .i64 0, .slice none 0 0] 24))) := bb0.out.alloc bb0.out.size _
        have hgz := bb0.out.size
        go_wp2
        generalize (x0.alloc (.cells #[.int .i64 0, .slice none 0 0] 24)) = x80 at *
        generalize x0.heap.size = gz at *
        refine anyNext_mk ⟨⟨_, RX12.out.later bb80.out⟩, rfl⟩ ?_
        refine anyC_pick1 13 (by kernel_rfl) (by kernel_rfl) ?_
        simp only [pickAll, pickAt, List.nil_append, List.cons_append, List.append_nil]
        go_wp2
        refine anyNext_mk ⟨⟨_, RX12.out.later bb80.out⟩, rfl⟩ ?_
        refine anyC_pick1 14 (by kernel_rfl) (by kernel_rfl) ?_
        simp only [pickAll, pickAt, List.nil_append, List.cons_append, List.append_nil]
        have Z82 := Hid.mk7 (Z80.out.later (below_newE (RowKit.Below.refl _ _) (.cells #[.int .i64 (p0 : Nat), .int .i64 (p0 : Nat), .string s0] 38)))
        have A82 := Hid.mk7 (el_lit14 x80 x80.heap.size rfl [((p0 : Int), (p0 : Int), s0.data.toList)] #[.int .i64 (p0 : Nat), .int .i64 (p0 : Nat), .string s0] 38 (by rw [c3_one, cacc_bytes]) 1 rfl)
        have bb82 : Hid (RowKit.Below w20.heap.size w20 (x80.alloc (.cells #[.int .i64 (p0 : Nat), .int .i64 (p0 : Nat), .string s0] 38))) := bb80.out.alloc bb80.out.size _
        go_wp2
        generalize (x80.alloc (.cells #[.int .i64 (p0 : Nat), .int .i64 (p0 : Nat), .string s0] 38)) = x82 at *
        generalize x80.heap.size = gl at *
        refine anyNext_mk ⟨⟨_, RX12.out.later bb82.out⟩, rfl⟩ ?_
        refine anyC_pick1 15 (by kernel_rfl) (by kernel_rfl) ?_
        simp only [pickAll, pickAt, List.nil_append, List.cons_append, List.append_nil]
        go_wp2_with fail
        refine (build_on HON.out hTl0 A82.out (T12.out.later bb82.out)).mono ?_
        rintro e x83 ⟨yv, rfl, hy, bz⟩
        obtain ⟨ya, yc, rfl, _, _, _⟩ := id hy
        have Z83 := Hid.mk7 (Z82.out.later bz)
        have Y83 := Hid.mk7 hy
        have bb83 : Hid (RowKit.Below w20.heap.size w20 x83) := bb82.out.trans (bz.mono bb82.out.size)
        clear bz hy
        go_wp2
        refine anyNext_mk ⟨⟨_, RX12.out.later bb83.out⟩, rfl⟩ ?_
        refine anyC_pick1 16 (by kernel_rfl) (by kernel_rfl) ?_
        simp only [pickAll, pickAt, List.nil_append, List.cons_append, List.append_nil]
        go_wp2
        refine anyNext_mk ⟨⟨_, RX12.out.later bb83.out⟩, rfl⟩ ?_
        refine anyC_pick2 17 18 (by kernel_rfl) (by kernel_rfl) (by kernel_rfl) ?_ ?_
        · simp only [pickAll, pickAt, List.nil_append, List.cons_append, List.append_nil]
          go_wp2
          refine anyNext_mk ⟨⟨_, RX12.out.later bb83.out⟩, rfl⟩ ?_
          refine anyC_pick2 18 20 (by kernel_rfl) (by kernel_rfl) (by kernel_rfl) ?_ ?_
          · simp only [pickAll, pickAt, List.nil_append, List.cons_append, List.append_nil]
            go_wp2
            refine anyNext_mk ⟨⟨_, RX12.out.later bb83.out⟩, rfl⟩ ?_
            refine anyC_pick1 20 (by kernel_rfl) (by kernel_rfl) ?_
            simp only [pickAll, pickAt, List.nil_append, List.cons_append, List.append_nil]
            have c0 := Z83.out.c0
            have c1 := Z83.out.c1
            have fz := Z83.out.fz
            have c2 : (x83.setCell ⟨gz, 0, none⟩ (.int .i64 b1)).cell? ⟨gz, 1, none⟩ = some (.slice none 0 0) := (Z83.out.set0 _).c1
            have fz2 := (Z83.out.set0 (.int .i64 b1)).fz
            have Y87 := Hid.mk7 (Y83.out.set_del Z83.out (.int .i64 b1) (.slice ya A.length yc))
            have Z87 := Hid.mk7 (Z83.out.set (.int .i64 b1) (.slice ya A.length yc))
            have bb87 : Hid (RowKit.Below w20.heap.size w20 ((x83.setCell ⟨gz, 0, none⟩ (.int .i64 b1)).setCell ⟨gz, 1, none⟩ (.slice ya A.length yc))) := below_set2 bb83.out hgz _ _
            go_wp2
            clear c0 c1 c2 fz fz2
            generalize ((x83.setCell ⟨gz, 0, none⟩ (.int .i64 b1)).setCell ⟨gz, 1, none⟩ (.slice ya A.length yc)) = x87 at *
            refine anyNext_mk ⟨⟨_, RX12.out.later bb87.out⟩, rfl⟩ ?_
            refine anyC_pick1 21 (by kernel_rfl) (by kernel_rfl) ?_
            simp only [pickAll, pickAt, List.nil_append, List.cons_append, List.append_nil]
            go_wp2
            refine anyNext_last (anyC_done (by kernel_rfl) ?_)
            go_wp2
            go_meet
            exact ⟨gz, _, rfl, rfl, Z87, Y87, bb87⟩
          · simp only [pickAll, pickAt, List.nil_append, List.cons_append, List.append_nil]
            have c0 := Z83.out.c0
            have c1 := Z83.out.c1
            have fz := Z83.out.fz
            have c2 : (x83.setCell ⟨gz, 0, none⟩ (.int .i64 b1)).cell? ⟨gz, 1, none⟩ = some (.slice none 0 0) := (Z83.out.set0 _).c1
            have fz2 := (Z83.out.set0 (.int .i64 b1)).fz
            have Y89 := Hid.mk7 (Y83.out.set_del Z83.out (.int .i64 b1) (.slice ya A.length yc))
            have Z89 := Hid.mk7 (Z83.out.set (.int .i64 b1) (.slice ya A.length yc))
            have bb89 : Hid (RowKit.Below w20.heap.size w20 ((x83.setCell ⟨gz, 0, none⟩ (.int .i64 b1)).setCell ⟨gz, 1, none⟩ (.slice ya A.length yc))) := below_set2 bb83.out hgz _ _
            go_wp2
            clear c0 c1 c2 fz fz2
            generalize ((x83.setCell ⟨gz, 0, none⟩ (.int .i64 b1)).setCell ⟨gz, 1, none⟩ (.slice ya A.length yc)) = x89 at *
            refine anyNext_mk ⟨⟨_, RX12.out.later bb89.out⟩, rfl⟩ ?_
            refine anyC_pick1 18 (by kernel_rfl) (by kernel_rfl) ?_
            simp only [pickAll, pickAt, List.nil_append, List.cons_append, List.append_nil]
            go_wp2
            refine anyNext_mk ⟨⟨_, RX12.out.later bb89.out⟩, rfl⟩ ?_
            refine anyC_pick1 21 (by kernel_rfl) (by kernel_rfl) ?_
            simp only [pickAll, pickAt, List.nil_append, List.cons_append, List.append_nil]
            go_wp2
            refine anyNext_last (anyC_done (by kernel_rfl) ?_)
            go_wp2
            go_meet
            exact ⟨gz, _, rfl, rfl, Z89, Y89, bb89⟩
        · simp only [pickAll, pickAt, List.nil_append, List.cons_append, List.append_nil]
          go_wp2
          refine anyNext_mk ⟨⟨_, RX12.out.later bb83.out⟩, rfl⟩ ?_
          refine anyC_pick1 17 (by kernel_rfl) (by kernel_rfl) ?_
          simp only [pickAll, pickAt, List.nil_append, List.cons_append, List.append_nil]
          go_wp2
          refine anyNext_mk ⟨⟨_, RX12.out.later bb83.out⟩, rfl⟩ ?_
          refine anyC_pick1 20 (by kernel_rfl) (by kernel_rfl) ?_
          simp only [pickAll, pickAt, List.nil_append, List.cons_append, List.append_nil]
          have c0 := Z83.out.c0
          have c1 := Z83.out.c1
          have fz := Z83.out.fz
          have c2 : (x83.setCell ⟨gz, 0, none⟩ (.int .i64 b1)).cell? ⟨gz, 1, none⟩ = some (.slice none 0 0) := (Z83.out.set0 _).c1
          have fz2 := (Z83.out.set0 (.int .i64 b1)).fz
          have Y94 := Hid.mk7 (Y83.out.set_del Z83.out (.int .i64 b1) (.slice ya A.length yc))
          have Z94 := Hid.mk7 (Z83.out.set (.int .i64 b1) (.slice ya A.length yc))
          have bb94 : Hid (RowKit.Below w20.heap.size w20 ((x83.setCell ⟨gz, 0, none⟩ (.int .i64 b1)).setCell ⟨gz, 1, none⟩ (.slice ya A.length yc))) := below_set2 bb83.out hgz _ _
          go_wp2
          clear c0 c1 c2 fz fz2
          generalize ((x83.setCell ⟨gz, 0, none⟩ (.int .i64 b1)).setCell ⟨gz, 1, none⟩ (.slice ya A.length yc)) = x94 at *
          refine anyNext_mk ⟨⟨_, RX12.out.later bb94.out⟩, rfl⟩ ?_
          refine anyC_pick1 21 (by kernel_rfl) (by kernel_rfl) ?_
          simp only [pickAll, pickAt, List.nil_append, List.cons_append, List.append_nil]
          go_wp2
          refine anyNext_last (anyC_done (by kernel_rfl) ?_)
          go_wp2
          go_meet
          exact ⟨gz, _, rfl, rfl, Z94, Y94, bb94⟩
    case rest =>
      generalize wc = yA1 at *
      obtain ⟨gA1, yv, rfl, rfl, RZA1, HYA1, BBA1⟩ := hcut
      obtain ⟨A1a, A1c, rfl, _, _, _⟩ := id HYA1.out
      have bz := BBA1.out
      clear BBA1
      have T13 := Hid.mk7 (T12.out.later bz)
      have G13 := Hid.mk7 (G12.out.trans (bz.mono G12.out.size))
      have RX13 := Hid.mk7 (RX12.out.later bz)
      clear T12 G12 RX12 bz
      clear hp0 hz
      rcases on_two HON.out with ⟨rfl, rfl⟩ | ⟨rfl, rfl, rfl⟩
      rotate_left
      · skip
        have RXc0 := RX13.out.c0
        have RXc1 := RX13.out.c1
        have RA1c0 := RZA1.out.c0
        have RA1c1 := RZA1.out.c1
        go_wp2
        go_ret
        exact ⟨rfl, G13.out⟩
      obtain ⟨iA, lA⟩ := on_is HON.out hp1
      have IA := Hid.mk7 iA
      obtain ⟨M, hM⟩ : ∃ M : Nat, (cel A).length = M := ⟨_, rfl⟩
      have hMb : M ≤ 200 := by rw [← hM, lA]; omega
      have HM := Hid.mk7 hM
      clear iA lA hM
      have RXc0 := RX13.out.c0
      have RXc1 := RX13.out.c1
      have RA1c0 := RZA1.out.c0
      have RA1c1 := RZA1.out.c1
      go_wp2_with fail
      refine (size_len14 IA.out HM.out HYA1.out T13.out).mono ?_
      rintro e w14 ⟨rfl, bz⟩
      clear RXc0 RXc1 RA1c0 RA1c1
      have T15 := Hid.mk7 (T13.out.later bz)
      have G15 := Hid.mk7 (G13.out.trans (bz.mono G13.out.size))
      have RX15 := Hid.mk7 (RX13.out.later bz)
      have RA115 := Hid.mk7 (RZA1.out.later bz)
      have YA115 := Hid.mk7 (HYA1.out.later bz)
      clear T13 G13 RX13 RZA1 HYA1 bz
      obtain ⟨q0, hq0, hq1⟩ := rem1_14 (n := M) hq.1
      have hz : ¬ (M : Int) + 1 = 0 := by omega
      obtain ⟨b2, B, er2, hon⟩ := on_ex (N := M) (p := q0) (T := s1.data.toList) (by omega) hq1 hTl1
      have HON2 := Hid.mk7 hon
      clear hon
      go_upto_region 10 with fail
      go_cut [15, 16] from 59 to 78 (fun s9 s10 yB1 => ∃ (gz : Nat) (yv : Value), s9 = .pointer (some ⟨gz, 0, none⟩) ∧ s10 = .int .i64 er2 ∧ Hid (Rd yB1 gz (.int .i64 b2) yv) ∧ Hid (ElAt yB1 yv B) ∧ Hid (RowKit.Below w14.heap.size w14 yB1))
      case first =>
        refine wp_region_turns (fun w' => ∃ q : (GW (fun W => R2 W w.heap.size (.string s0) (.string s1))), w' = q.w) [0, 1, 2, 3, 4, 5, 6, 7, 8, 9, 10, 11, 12] 21 9 (by kernel_rfl) (by kernel_rfl) (fun d => ⟨⟨redrawn w14 d, RX15.out.later (below_redrawnE w14 d)⟩, rfl⟩) ?_
        intro d
        have k0 : ∀ q : (GW (fun W => R2 W w.heap.size (.string s0) (.string s1))), q.w.cell? ⟨w.heap.size, 0, none⟩ = some (.string s0) := fun q => q.h.c0
        have k1 : ∀ q : (GW (fun W => R2 W w.heap.size (.string s0) (.string s1))), q.w.cell? ⟨w.heap.size, 1, none⟩ = some (.string s1) := fun q => q.h.c1
        simp only [pickAll, pickAt, List.nil_append, List.cons_append, List.append_nil]
        have hne : Nonempty (GW (fun W => R2 W w.heap.size (.string s0) (.string s1))) := ⟨⟨w14, RX15.out⟩⟩
        repeat (go_big_quiet_step (fail))
        refine wpQuiet_nil ?_
        clear hne k0 k1
        have bb0 := Hid.mk7 (below_redrawnE w14 d)
        generalize redrawn w14 d = x0 at *
        refine anyC_pick2 13 19 (by kernel_rfl) (by kernel_rfl) (by kernel_rfl) ?_ ?_
        · simp only [pickAll, pickAt, List.nil_append, List.cons_append, List.append_nil]
          go_wp2
          refine anyNext_mk ⟨⟨_, RX15.out.later bb0.out⟩, rfl⟩ ?_
          refine anyC_pick2 14 19 (by kernel_rfl) (by kernel_rfl) (by kernel_rfl) ?_ ?_
          · simp only [pickAll, pickAt, List.nil_append, List.cons_append, List.append_nil]
            have A2 := Hid.mk7 (el_lit14 x0 x0.heap.size rfl [((q0 : Int), (q0 : Int), s1.data.toList)] #[.int .i64 (q0 : Nat), .int .i64 (q0 : Nat), .string s1] 38 (by rw [c3_one, cacc_bytes]) 1 rfl)
            have bb2 : Hid (RowKit.Below w14.heap.size w14 (x0.alloc (.cells #[.int .i64 (q0 : Nat), .int .i64 (q0 : Nat), .string s1] 38))) := bb0.out.alloc bb0.out.size _
            go_wp2
            generalize (x0.alloc (.cells #[.int .i64 (q0 : Nat), .int .i64 (q0 : Nat), .string s1] 38)) = x2 at *
            generalize x0.heap.size = gl at *
            refine anyNext_mk ⟨⟨_, RX15.out.later bb2.out⟩, rfl⟩ ?_
            refine anyC_pick2 15 19 (by kernel_rfl) (by kernel_rfl) (by kernel_rfl) ?_ ?_
            · simp only [pickAll, pickAt, List.nil_append, List.cons_append, List.append_nil]
              go_wp2_with fail
              refine (build_on HON2.out hTl1 A2.out (T15.out.later bb2.out)).mono ?_
              rintro e x3 ⟨yv, rfl, hy, bz⟩
              obtain ⟨ya, yc, rfl, _, _, _⟩ := id hy
              have Y3 := Hid.mk7 hy
              have bb3 : Hid (RowKit.Below w14.heap.size w14 x3) := bb2.out.trans (bz.mono bb2.out.size)
              clear bz hy
              go_wp2
              refine anyNext_mk ⟨⟨_, RX15.out.later bb3.out⟩, rfl⟩ ?_
              refine anyC_pick2 16 19 (by kernel_rfl) (by kernel_rfl) (by kernel_rfl) ?_ ?_
              · simp only [pickAll, pickAt, List.nil_append, List.cons_append, List.append_nil]
                go_wp2
                refine anyNext_mk ⟨⟨_, RX15.out.later bb3.out⟩, rfl⟩ ?_
                refine pick3_14 17 18 19 (by kernel_rfl) (by kernel_rfl) (by kernel_rfl) (by kernel_rfl) ?_ ?_ ?_
                · simp only [pickAll, pickAt, List.nil_append, List.cons_append, List.append_nil]
                  go_wp2
                  refine anyNext_mk ⟨⟨_, RX15.out.later bb3.out⟩, rfl⟩ ?_
                  refine anyC_pick2 18 19 (by kernel_rfl) (by kernel_rfl) (by kernel_rfl) ?_ ?_
                  · simp only [pickAll, pickAt, List.nil_append, List.cons_append, List.append_nil]
                    go_wp2
                    refine anyNext_mk ⟨⟨_, RX15.out.later bb3.out⟩, rfl⟩ ?_
                    refine anyC_pick1 19 (by kernel_rfl) (by kernel_rfl) ?_
                    simp only [pickAll, pickAt, List.nil_append, List.cons_append, List.append_nil]
                    have A7 := Hid.mk7 (A2.out.later (below_newE (RowKit.Below.refl _ _) (.cells #[.int .i64 0, .slice none 0 0] 24)))
                    have Y7 := Hid.mk7 (Y3.out.later (below_newE (RowKit.Below.refl _ _) (.cells #[.int .i64 0, .slice none 0 0] 24)))
                    have Z7 : Hid (Rd (x3.alloc (.cells #[.int .i64 0, .slice none 0 0] 24)) x3.heap.size (.int .i64 0) (.slice none 0 0)) := Rd.new _ _ _
                    have bb7 : Hid (RowKit.Below w14.heap.size w14 (x3.alloc (.cells #[.int .i64 0, .slice none 0 0] 24))) := bb3.out.alloc bb3.out.size _
                    have hgz := bb3.out.size
                    go_wp2
                    generalize (x3.alloc (.cells #[.int .i64 0, .slice none 0 0] 24)) = x7 at *
                    generalize x3.heap.size = gz at *
                    refine anyNext_mk ⟨⟨_, RX15.out.later bb7.out⟩, rfl⟩ ?_
                    refine anyC_pick1 20 (by kernel_rfl) (by kernel_rfl) ?_
                    simp only [pickAll, pickAt, List.nil_append, List.cons_append, List.append_nil]
                    have c0 := Z7.out.c0
                    have c1 := Z7.out.c1
                    have fz := Z7.out.fz
                    have c2 : (x7.setCell ⟨gz, 0, none⟩ (.int .i64 b2)).cell? ⟨gz, 1, none⟩ = some (.slice none 0 0) := (Z7.out.set0 _).c1
                    have fz2 := (Z7.out.set0 (.int .i64 b2)).fz
                    have Y8 := Hid.mk7 (Y7.out.set_del Z7.out (.int .i64 b2) (.slice ya B.length yc))
                    have Z8 := Hid.mk7 (Z7.out.set (.int .i64 b2) (.slice ya B.length yc))
                    have bb8 : Hid (RowKit.Below w14.heap.size w14 ((x7.setCell ⟨gz, 0, none⟩ (.int .i64 b2)).setCell ⟨gz, 1, none⟩ (.slice ya B.length yc))) := below_set2 bb7.out hgz _ _
                    go_wp2
                    clear c0 c1 c2 fz fz2
                    generalize ((x7.setCell ⟨gz, 0, none⟩ (.int .i64 b2)).setCell ⟨gz, 1, none⟩ (.slice ya B.length yc)) = x8 at *
                    refine anyNext_mk ⟨⟨_, RX15.out.later bb8.out⟩, rfl⟩ ?_
                    refine anyC_pick1 21 (by kernel_rfl) (by kernel_rfl) ?_
                    simp only [pickAll, pickAt, List.nil_append, List.cons_append, List.append_nil]
                    go_wp2
                    refine anyNext_last (anyC_done (by kernel_rfl) ?_)
                    go_wp2
                    go_meet
                    exact ⟨gz, _, rfl, rfl, Z8, Y8, bb8⟩
                  · simp only [pickAll, pickAt, List.nil_append, List.cons_append, List.append_nil]
                    have A10 := Hid.mk7 (A2.out.later (below_newE (RowKit.Below.refl _ _) (.cells #[.int .i64 0, .slice none 0 0] 24)))
                    have Y10 := Hid.mk7 (Y3.out.later (below_newE (RowKit.Below.refl _ _) (.cells #[.int .i64 0, .slice none 0 0] 24)))
                    have Z10 : Hid (Rd (x3.alloc (.cells #[.int .i64 0, .slice none 0 0] 24)) x3.heap.size (.int .i64 0) (.slice none 0 0)) := Rd.new _ _ _
                    have bb10 : Hid (RowKit.Below w14.heap.size w14 (x3.alloc (.cells #[.int .i64 0, .slice none 0 0] 24))) := bb3.out.alloc bb3.out.size _
                    have hgz := bb3.out.size
                    go_wp2
                    generalize (x3.alloc (.cells #[.int .i64 0, .slice none 0 0] 24)) = x10 at *
                    generalize x3.heap.size = gz at *
                    refine anyNext_mk ⟨⟨_, RX15.out.later bb10.out⟩, rfl⟩ ?_
                    refine anyC_pick2 18 20 (by kernel_rfl) (by kernel_rfl) (by kernel_rfl) ?_ ?_
                    · simp only [pickAll, pickAt, List.nil_append, List.cons_append, List.append_nil]
                      go_wp2
                      refine anyNext_mk ⟨⟨_, RX15.out.later bb10.out⟩, rfl⟩ ?_
                      refine anyC_pick1 20 (by kernel_rfl) (by kernel_rfl) ?_
                      simp only [pickAll, pickAt, List.nil_append, List.cons_append, List.append_nil]
                      have c0 := Z10.out.c0
                      have c1 := Z10.out.c1
                      have fz := Z10.out.fz
                      have c2 : (x10.setCell ⟨gz, 0, none⟩ (.int .i64 b2)).cell? ⟨gz, 1, none⟩ = some (.slice none 0 0) := (Z10.out.set0 _).c1
                      have fz2 := (Z10.out.set0 (.int .i64 b2)).fz
                      have Y12 := Hid.mk7 (Y10.out.set_del Z10.out (.int .i64 b2) (.slice ya B.length yc))
                      have Z12 := Hid.mk7 (Z10.out.set (.int .i64 b2) (.slice ya B.length yc))
                      have bb12 : Hid (RowKit.Below w14.heap.size w14 ((x10.setCell ⟨gz, 0, none⟩ (.int .i64 b2)).setCell ⟨gz, 1, none⟩ (.slice ya B.length yc))) := below_set2 bb10.out hgz _ _
                      go_wp2
                      clear c0 c1 c2 fz fz2
                      generalize ((x10.setCell ⟨gz, 0, none⟩ (.int .i64 b2)).setCell ⟨gz, 1, none⟩ (.slice ya B.length yc)) = x12 at *
                      refine anyNext_mk ⟨⟨_, RX15.out.later bb12.out⟩, rfl⟩ ?_
                      refine anyC_pick1 21 (by kernel_rfl) (by kernel_rfl) ?_
                      simp only [pickAll, pickAt, List.nil_append, List.cons_append, List.append_nil]
                      go_wp2
                      refine anyNext_last (anyC_done (by kernel_rfl) ?_)
                      go_wp2
                      go_meet
                      exact ⟨gz, _, rfl, rfl, Z12, Y12, bb12⟩
                    · simp only [pickAll, pickAt, List.nil_append, List.cons_append, List.append_nil]
                      have c0 := Z10.out.c0
                      have c1 := Z10.out.c1
                      have fz := Z10.out.fz
                      have c2 : (x10.setCell ⟨gz, 0, none⟩ (.int .i64 b2)).cell? ⟨gz, 1, none⟩ = some (.slice none 0 0) := (Z10.out.set0 _).c1
                      have fz2 := (Z10.out.set0 (.int .i64 b2)).fz
                      have Y14 := Hid.mk7 (Y10.out.set_del Z10.out (.int .i64 b2) (.slice ya B.length yc))
                      have Z14 := Hid.mk7 (Z10.out.set (.int .i64 b2) (.slice ya B.length yc))
                      have bb14 : Hid (RowKit.Below w14.heap.size w14 ((x10.setCell ⟨gz, 0, none⟩ (.int .i64 b2)).setCell ⟨gz, 1, none⟩ (.slice ya B.length yc))) := below_set2 bb10.out hgz _ _
                      go_wp2
                      clear c0 c1 c2 fz fz2
                      generalize ((x10.setCell ⟨gz, 0, none⟩ (.int .i64 b2)).setCell ⟨gz, 1, none⟩ (.slice ya B.length yc)) = x14 at *
                      refine anyNext_mk ⟨⟨_, RX15.out.later bb14.out⟩, rfl⟩ ?_
                      refine anyC_pick1 18 (by kernel_rfl) (by kernel_rfl) ?_
                      simp only [pickAll, pickAt, List.nil_append, List.cons_append, List.append_nil]
                      go_wp2
                      refine anyNext_mk ⟨⟨_, RX15.out.later bb14.out⟩, rfl⟩ ?_
                      refine anyC_pick1 21 (by kernel_rfl) (by kernel_rfl) ?_
                      simp only [pickAll, pickAt, List.nil_append, List.cons_append, List.append_nil]
                      go_wp2
                      refine anyNext_last (anyC_done (by kernel_rfl) ?_)
                      go_wp2
                      go_meet
                      exact ⟨gz, _, rfl, rfl, Z14, Y14, bb14⟩
                · simp only [pickAll, pickAt, List.nil_append, List.cons_append, List.append_nil]
                  go_wp2
                  refine anyNext_mk ⟨⟨_, RX15.out.later bb3.out⟩, rfl⟩ ?_
                  refine anyC_pick2 17 19 (by kernel_rfl) (by kernel_rfl) (by kernel_rfl) ?_ ?_
                  · simp only [pickAll, pickAt, List.nil_append, List.cons_append, List.append_nil]
                    go_wp2
                    refine anyNext_mk ⟨⟨_, RX15.out.later bb3.out⟩, rfl⟩ ?_
                    refine anyC_pick1 19 (by kernel_rfl) (by kernel_rfl) ?_
                    simp only [pickAll, pickAt, List.nil_append, List.cons_append, List.append_nil]
                    have A19 := Hid.mk7 (A2.out.later (below_newE (RowKit.Below.refl _ _) (.cells #[.int .i64 0, .slice none 0 0] 24)))
                    have Y19 := Hid.mk7 (Y3.out.later (below_newE (RowKit.Below.refl _ _) (.cells #[.int .i64 0, .slice none 0 0] 24)))
                    have Z19 : Hid (Rd (x3.alloc (.cells #[.int .i64 0, .slice none 0 0] 24)) x3.heap.size (.int .i64 0) (.slice none 0 0)) := Rd.new _ _ _
                    have bb19 : Hid (RowKit.Below w14.heap.size w14 (x3.alloc (.cells #[.int .i64 0, .slice none 0 0] 24))) := bb3.out.alloc bb3.out.size _
                    have hgz := bb3.out.size
                    go_wp2
                    generalize (x3.alloc (.cells #[.int .i64 0, .slice none 0 0] 24)) = x19 at *
                    generalize x3.heap.size = gz at *
                    refine anyNext_mk ⟨⟨_, RX15.out.later bb19.out⟩, rfl⟩ ?_
                    refine anyC_pick1 20 (by kernel_rfl) (by kernel_rfl) ?_
                    simp only [pickAll, pickAt, List.nil_append, List.cons_append, List.append_nil]
                    have c0 := Z19.out.c0
                    have c1 := Z19.out.c1
                    have fz := Z19.out.fz
                    have c2 : (x19.setCell ⟨gz, 0, none⟩ (.int .i64 b2)).cell? ⟨gz, 1, none⟩ = some (.slice none 0 0) := (Z19.out.set0 _).c1
                    have fz2 := (Z19.out.set0 (.int .i64 b2)).fz
                    have Y20 := Hid.mk7 (Y19.out.set_del Z19.out (.int .i64 b2) (.slice ya B.length yc))
                    have Z20 := Hid.mk7 (Z19.out.set (.int .i64 b2) (.slice ya B.length yc))
                    have bb20 : Hid (RowKit.Below w14.heap.size w14 ((x19.setCell ⟨gz, 0, none⟩ (.int .i64 b2)).setCell ⟨gz, 1, none⟩ (.slice ya B.length yc))) := below_set2 bb19.out hgz _ _
                    go_wp2
                    clear c0 c1 c2 fz fz2
                    generalize ((x19.setCell ⟨gz, 0, none⟩ (.int .i64 b2)).setCell ⟨gz, 1, none⟩ (.slice ya B.length yc)) = x20 at *
                    refine anyNext_mk ⟨⟨_, RX15.out.later bb20.out⟩, rfl⟩ ?_
                    refine anyC_pick1 21 (by kernel_rfl) (by kernel_rfl) ?_
                    simp only [pickAll, pickAt, List.nil_append, List.cons_append, List.append_nil]
                    go_wp2
                    refine anyNext_last (anyC_done (by kernel_rfl) ?_)
                    go_wp2
                    go_meet
                    exact ⟨gz, _, rfl, rfl, Z20, Y20, bb20⟩
                  · simp only [pickAll, pickAt, List.nil_append, List.cons_append, List.append_nil]
                    have A22 := Hid.mk7 (A2.out.later (below_newE (RowKit.Below.refl _ _) (.cells #[.int .i64 0, .slice none 0 0] 24)))
                    have Y22 := Hid.mk7 (Y3.out.later (below_newE (RowKit.Below.refl _ _) (.cells #[.int .i64 0, .slice none 0 0] 24)))
                    have Z22 : Hid (Rd (x3.alloc (.cells #[.int .i64 0, .slice none 0 0] 24)) x3.heap.size (.int .i64 0) (.slice none 0 0)) := Rd.new _ _ _
                    have bb22 : Hid (RowKit.Below w14.heap.size w14 (x3.alloc (.cells #[.int .i64 0, .slice none 0 0] 24))) := bb3.out.alloc bb3.out.size _
                    have hgz := bb3.out.size
                    go_wp2
                    generalize (x3.alloc (.cells #[.int .i64 0, .slice none 0 0] 24)) = x22 at *
                    generalize x3.heap.size = gz at *
                    refine anyNext_mk ⟨⟨_, RX15.out.later bb22.out⟩, rfl⟩ ?_
                    refine anyC_pick1 17 (by kernel_rfl) (by kernel_rfl) ?_
                    simp only [pickAll, pickAt, List.nil_append, List.cons_append, List.append_nil]
                    go_wp2
                    refine anyNext_mk ⟨⟨_, RX15.out.later bb22.out⟩, rfl⟩ ?_
                    refine anyC_pick1 20 (by kernel_rfl) (by kernel_rfl) ?_
                    simp only [pickAll, pickAt, List.nil_append, List.cons_append, List.append_nil]
                    have c0 := Z22.out.c0
                    have c1 := Z22.out.c1
                    have fz := Z22.out.fz
                    have c2 : (x22.setCell ⟨gz, 0, none⟩ (.int .i64 b2)).cell? ⟨gz, 1, none⟩ = some (.slice none 0 0) := (Z22.out.set0 _).c1
                    have fz2 := (Z22.out.set0 (.int .i64 b2)).fz
                    have Y24 := Hid.mk7 (Y22.out.set_del Z22.out (.int .i64 b2) (.slice ya B.length yc))
                    have Z24 := Hid.mk7 (Z22.out.set (.int .i64 b2) (.slice ya B.length yc))
                    have bb24 : Hid (RowKit.Below w14.heap.size w14 ((x22.setCell ⟨gz, 0, none⟩ (.int .i64 b2)).setCell ⟨gz, 1, none⟩ (.slice ya B.length yc))) := below_set2 bb22.out hgz _ _
                    go_wp2
                    clear c0 c1 c2 fz fz2
                    generalize ((x22.setCell ⟨gz, 0, none⟩ (.int .i64 b2)).setCell ⟨gz, 1, none⟩ (.slice ya B.length yc)) = x24 at *
                    refine anyNext_mk ⟨⟨_, RX15.out.later bb24.out⟩, rfl⟩ ?_
                    refine anyC_pick1 21 (by kernel_rfl) (by kernel_rfl) ?_
                    simp only [pickAll, pickAt, List.nil_append, List.cons_append, List.append_nil]
                    go_wp2
                    refine anyNext_last (anyC_done (by kernel_rfl) ?_)
                    go_wp2
                    go_meet
                    exact ⟨gz, _, rfl, rfl, Z24, Y24, bb24⟩
                · simp only [pickAll, pickAt, List.nil_append, List.cons_append, List.append_nil]
                  have A26 := Hid.mk7 (A2.out.later (below_newE (RowKit.Below.refl _ _) (.cells #[.int .i64 0, .slice none 0 0] 24)))
                  have Y26 := Hid.mk7 (Y3.out.later (below_newE (RowKit.Below.refl _ _) (.cells #[.int .i64 0, .slice none 0 0] 24)))
                  have Z26 : Hid (Rd (x3.alloc (.cells #[.int .i64 0, .slice none 0 0] 24)) x3.heap.size (.int .i64 0) (.slice none 0 0)) := Rd.new _ _ _
                  have bb26 : Hid (RowKit.Below w14.heap.size w14 (x3.alloc (.cells #[.int .i64 0, .slice none 0 0] 24))) := bb3.out.alloc bb3.out.size _
                  have hgz := bb3.out.size
                  go_wp2
                  generalize (x3.alloc (.cells #[.int .i64 0, .slice none 0 0] 24)) = x26 at *
                  generalize x3.heap.size = gz at *
                  refine anyNext_mk ⟨⟨_, RX15.out.later bb26.out⟩, rfl⟩ ?_
                  refine anyC_pick2 17 18 (by kernel_rfl) (by kernel_rfl) (by kernel_rfl) ?_ ?_
                  · simp only [pickAll, pickAt, List.nil_append, List.cons_append, List.append_nil]
                    go_wp2
                    refine anyNext_mk ⟨⟨_, RX15.out.later bb26.out⟩, rfl⟩ ?_
                    refine anyC_pick2 18 20 (by kernel_rfl) (by kernel_rfl) (by kernel_rfl) ?_ ?_
                    · simp only [pickAll, pickAt, List.nil_append, List.cons_append, List.append_nil]
                      go_wp2
                      refine anyNext_mk ⟨⟨_, RX15.out.later bb26.out⟩, rfl⟩ ?_
                      refine anyC_pick1 20 (by kernel_rfl) (by kernel_rfl) ?_
                      simp only [pickAll, pickAt, List.nil_append, List.cons_append, List.append_nil]
                      have c0 := Z26.out.c0
                      have c1 := Z26.out.c1
                      have fz := Z26.out.fz
                      have c2 : (x26.setCell ⟨gz, 0, none⟩ (.int .i64 b2)).cell? ⟨gz, 1, none⟩ = some (.slice none 0 0) := (Z26.out.set0 _).c1
                      have fz2 := (Z26.out.set0 (.int .i64 b2)).fz
                      have Y29 := Hid.mk7 (Y26.out.set_del Z26.out (.int .i64 b2) (.slice ya B.length yc))
                      have Z29 := Hid.mk7 (Z26.out.set (.int .i64 b2) (.slice ya B.length yc))
                      have bb29 : Hid (RowKit.Below w14.heap.size w14 ((x26.setCell ⟨gz, 0, none⟩ (.int .i64 b2)).setCell ⟨gz, 1, none⟩ (.slice ya B.length yc))) := below_set2 bb26.out hgz _ _
                      go_wp2
                      clear c0 c1 c2 fz fz2
                      generalize ((x26.setCell ⟨gz, 0, none⟩ (.int .i64 b2)).setCell ⟨gz, 1, none⟩ (.slice ya B.length yc)) = x29 at *
                      refine anyNext_mk ⟨⟨_, RX15.out.later bb29.out⟩, rfl⟩ ?_
                      refine anyC_pick1 21 (by kernel_rfl) (by kernel_rfl) ?_
                      simp only [pickAll, pickAt, List.nil_append, List.cons_append, List.append_nil]
                      go_wp2
                      refine anyNext_last (anyC_done (by kernel_rfl) ?_)
                      go_wp2
                      go_meet
                      exact ⟨gz, _, rfl, rfl, Z29, Y29, bb29⟩
                    · simp only [pickAll, pickAt, List.nil_append, List.cons_append, List.append_nil]
                      have c0 := Z26.out.c0
                      have c1 := Z26.out.c1
                      have fz := Z26.out.fz
                      have c2 : (x26.setCell ⟨gz, 0, none⟩ (.int .i64 b2)).cell? ⟨gz, 1, none⟩ = some (.slice none 0 0) := (Z26.out.set0 _).c1
                      have fz2 := (Z26.out.set0 (.int .i64 b2)).fz
                      have Y31 := Hid.mk7 (Y26.out.set_del Z26.out (.int .i64 b2) (.slice ya B.length yc))
                      have Z31 := Hid.mk7 (Z26.out.set (.int .i64 b2) (.slice ya B.length yc))
                      have bb31 : Hid (RowKit.Below w14.heap.size w14 ((x26.setCell ⟨gz, 0, none⟩ (.int .i64 b2)).setCell ⟨gz, 1, none⟩ (.slice ya B.length yc))) := below_set2 bb26.out hgz _ _
                      go_wp2
                      clear c0 c1 c2 fz fz2
                      generalize ((x26.setCell ⟨gz, 0, none⟩ (.int .i64 b2)).setCell ⟨gz, 1, none⟩ (.slice ya B.length yc)) = x31 at *
                      refine anyNext_mk ⟨⟨_, RX15.out.later bb31.out⟩, rfl⟩ ?_
                      refine anyC_pick1 18 (by kernel_rfl) (by kernel_rfl) ?_
                      simp only [pickAll, pickAt, List.nil_append, List.cons_append, List.append_nil]
                      go_wp2
                      refine anyNext_mk ⟨⟨_, RX15.out.later bb31.out⟩, rfl⟩ ?_
                      refine anyC_pick1 21 (by kernel_rfl) (by kernel_rfl) ?_
                      simp only [pickAll, pickAt, List.nil_append, List.cons_append, List.append_nil]
                      go_wp2
                      refine anyNext_last (anyC_done (by kernel_rfl) ?_)
                      go_wp2
                      go_meet
                      exact ⟨gz, _, rfl, rfl, Z31, Y31, bb31⟩
                  · simp only [pickAll, pickAt, List.nil_append, List.cons_append, List.append_nil]
                    go_wp2
                    refine anyNext_mk ⟨⟨_, RX15.out.later bb26.out⟩, rfl⟩ ?_
                    refine anyC_pick1 17 (by kernel_rfl) (by kernel_rfl) ?_
                    simp only [pickAll, pickAt, List.nil_append, List.cons_append, List.append_nil]
                    go_wp2
                    refine anyNext_mk ⟨⟨_, RX15.out.later bb26.out⟩, rfl⟩ ?_
                    refine anyC_pick1 20 (by kernel_rfl) (by kernel_rfl) ?_
                    simp only [pickAll, pickAt, List.nil_append, List.cons_append, List.append_nil]
                    have c0 := Z26.out.c0
                    have c1 := Z26.out.c1
                    have fz := Z26.out.fz
                    have c2 : (x26.setCell ⟨gz, 0, none⟩ (.int .i64 b2)).cell? ⟨gz, 1, none⟩ = some (.slice none 0 0) := (Z26.out.set0 _).c1
                    have fz2 := (Z26.out.set0 (.int .i64 b2)).fz
                    have Y36 := Hid.mk7 (Y26.out.set_del Z26.out (.int .i64 b2) (.slice ya B.length yc))
                    have Z36 := Hid.mk7 (Z26.out.set (.int .i64 b2) (.slice ya B.length yc))
                    have bb36 : Hid (RowKit.Below w14.heap.size w14 ((x26.setCell ⟨gz, 0, none⟩ (.int .i64 b2)).setCell ⟨gz, 1, none⟩ (.slice ya B.length yc))) := below_set2 bb26.out hgz _ _
                    go_wp2
                    clear c0 c1 c2 fz fz2
                    generalize ((x26.setCell ⟨gz, 0, none⟩ (.int .i64 b2)).setCell ⟨gz, 1, none⟩ (.slice ya B.length yc)) = x36 at *
                    refine anyNext_mk ⟨⟨_, RX15.out.later bb36.out⟩, rfl⟩ ?_
                    refine anyC_pick1 21 (by kernel_rfl) (by kernel_rfl) ?_
                    simp only [pickAll, pickAt, List.nil_append, List.cons_append, List.append_nil]
                    go_wp2
                    refine anyNext_last (anyC_done (by kernel_rfl) ?_)
                    go_wp2
                    go_meet
                    exact ⟨gz, _, rfl, rfl, Z36, Y36, bb36⟩
              · simp only [pickAll, pickAt, List.nil_append, List.cons_append, List.append_nil]
                have A38 := Hid.mk7 (A2.out.later (below_newE (RowKit.Below.refl _ _) (.cells #[.int .i64 0, .slice none 0 0] 24)))
                have Y38 := Hid.mk7 (Y3.out.later (below_newE (RowKit.Below.refl _ _) (.cells #[.int .i64 0, .slice none 0 0] 24)))
                have Z38 : Hid (Rd (x3.alloc (.cells #[.int .i64 0, .slice none 0 0] 24)) x3.heap.size (.int .i64 0) (.slice none 0 0)) := Rd.new _ _ _
                have bb38 : Hid (RowKit.Below w14.heap.size w14 (x3.alloc (.cells #[.int .i64 0, .slice none 0 0] 24))) := bb3.out.alloc bb3.out.size _
                have hgz := bb3.out.size
                go_wp2
                generalize (x3.alloc (.cells #[.int .i64 0, .slice none 0 0] 24)) = x38 at *
                generalize x3.heap.size = gz at *
                refine anyNext_mk ⟨⟨_, RX15.out.later bb38.out⟩, rfl⟩ ?_
                refine anyC_pick1 16 (by kernel_rfl) (by kernel_rfl) ?_
                simp only [pickAll, pickAt, List.nil_append, List.cons_append, List.append_nil]
                go_wp2
                refine anyNext_mk ⟨⟨_, RX15.out.later bb38.out⟩, rfl⟩ ?_
                refine anyC_pick2 17 18 (by kernel_rfl) (by kernel_rfl) (by kernel_rfl) ?_ ?_
                · simp only [pickAll, pickAt, List.nil_append, List.cons_append, List.append_nil]
                  go_wp2
                  refine anyNext_mk ⟨⟨_, RX15.out.later bb38.out⟩, rfl⟩ ?_
                  refine anyC_pick2 18 20 (by kernel_rfl) (by kernel_rfl) (by kernel_rfl) ?_ ?_
                  · simp only [pickAll, pickAt, List.nil_append, List.cons_append, List.append_nil]
                    go_wp2
                    refine anyNext_mk ⟨⟨_, RX15.out.later bb38.out⟩, rfl⟩ ?_
                    refine anyC_pick1 20 (by kernel_rfl) (by kernel_rfl) ?_
                    simp only [pickAll, pickAt, List.nil_append, List.cons_append, List.append_nil]
                    have c0 := Z38.out.c0
                    have c1 := Z38.out.c1
                    have fz := Z38.out.fz
                    have c2 : (x38.setCell ⟨gz, 0, none⟩ (.int .i64 b2)).cell? ⟨gz, 1, none⟩ = some (.slice none 0 0) := (Z38.out.set0 _).c1
                    have fz2 := (Z38.out.set0 (.int .i64 b2)).fz
                    have Y42 := Hid.mk7 (Y38.out.set_del Z38.out (.int .i64 b2) (.slice ya B.length yc))
                    have Z42 := Hid.mk7 (Z38.out.set (.int .i64 b2) (.slice ya B.length yc))
                    have bb42 : Hid (RowKit.Below w14.heap.size w14 ((x38.setCell ⟨gz, 0, none⟩ (.int .i64 b2)).setCell ⟨gz, 1, none⟩ (.slice ya B.length yc))) := below_set2 bb38.out hgz _ _
                    go_wp2
                    clear c0 c1 c2 fz fz2
                    generalize ((x38.setCell ⟨gz, 0, none⟩ (.int .i64 b2)).setCell ⟨gz, 1, none⟩ (.slice ya B.length yc)) = x42 at *
                    refine anyNext_mk ⟨⟨_, RX15.out.later bb42.out⟩, rfl⟩ ?_
                    refine anyC_pick1 21 (by kernel_rfl) (by kernel_rfl) ?_
                    simp only [pickAll, pickAt, List.nil_append, List.cons_append, List.append_nil]
                    go_wp2
                    refine anyNext_last (anyC_done (by kernel_rfl) ?_)
                    go_wp2
                    go_meet
                    exact ⟨gz, _, rfl, rfl, Z42, Y42, bb42⟩
                  · simp only [pickAll, pickAt, List.nil_append, List.cons_append, List.append_nil]
                    have c0 := Z38.out.c0
                    have c1 := Z38.out.c1
                    have fz := Z38.out.fz
                    have c2 : (x38.setCell ⟨gz, 0, none⟩ (.int .i64 b2)).cell? ⟨gz, 1, none⟩ = some (.slice none 0 0) := (Z38.out.set0 _).c1
                    have fz2 := (Z38.out.set0 (.int .i64 b2)).fz
                    have Y44 := Hid.mk7 (Y38.out.set_del Z38.out (.int .i64 b2) (.slice ya B.length yc))
                    have Z44 := Hid.mk7 (Z38.out.set (.int .i64 b2) (.slice ya B.length yc))
                    have bb44 : Hid (RowKit.Below w14.heap.size w14 ((x38.setCell ⟨gz, 0, none⟩ (.int .i64 b2)).setCell ⟨gz, 1, none⟩ (.slice ya B.length yc))) := below_set2 bb38.out hgz _ _
                    go_wp2
                    clear c0 c1 c2 fz fz2
                    generalize ((x38.setCell ⟨gz, 0, none⟩ (.int .i64 b2)).setCell ⟨gz, 1, none⟩ (.slice ya B.length yc)) = x44 at *
                    refine anyNext_mk ⟨⟨_, RX15.out.later bb44.out⟩, rfl⟩ ?_
                    refine anyC_pick1 18 (by kernel_rfl) (by kernel_rfl) ?_
                    simp only [pickAll, pickAt, List.nil_append, List.cons_append, List.append_nil]
                    go_wp2
                    refine anyNext_mk ⟨⟨_, RX15.out.later bb44.out⟩, rfl⟩ ?_
                    refine anyC_pick1 21 (by kernel_rfl) (by kernel_rfl) ?_
                    simp only [pickAll, pickAt, List.nil_append, List.cons_append, List.append_nil]
                    go_wp2
                    refine anyNext_last (anyC_done (by kernel_rfl) ?_)
                    go_wp2
                    go_meet
                    exact ⟨gz, _, rfl, rfl, Z44, Y44, bb44⟩
                · simp only [pickAll, pickAt, List.nil_append, List.cons_append, List.append_nil]
                  go_wp2
                  refine anyNext_mk ⟨⟨_, RX15.out.later bb38.out⟩, rfl⟩ ?_
                  refine anyC_pick1 17 (by kernel_rfl) (by kernel_rfl) ?_
                  simp only [pickAll, pickAt, List.nil_append, List.cons_append, List.append_nil]
                  go_wp2
                  refine anyNext_mk ⟨⟨_, RX15.out.later bb38.out⟩, rfl⟩ ?_
                  refine anyC_pick1 20 (by kernel_rfl) (by kernel_rfl) ?_
                  simp only [pickAll, pickAt, List.nil_append, List.cons_append, List.append_nil]
                  have c0 := Z38.out.c0
                  have c1 := Z38.out.c1
                  have fz := Z38.out.fz
                  have c2 : (x38.setCell ⟨gz, 0, none⟩ (.int .i64 b2)).cell? ⟨gz, 1, none⟩ = some (.slice none 0 0) := (Z38.out.set0 _).c1
                  have fz2 := (Z38.out.set0 (.int .i64 b2)).fz
                  have Y49 := Hid.mk7 (Y38.out.set_del Z38.out (.int .i64 b2) (.slice ya B.length yc))
                  have Z49 := Hid.mk7 (Z38.out.set (.int .i64 b2) (.slice ya B.length yc))
                  have bb49 : Hid (RowKit.Below w14.heap.size w14 ((x38.setCell ⟨gz, 0, none⟩ (.int .i64 b2)).setCell ⟨gz, 1, none⟩ (.slice ya B.length yc))) := below_set2 bb38.out hgz _ _
                  go_wp2
                  clear c0 c1 c2 fz fz2
                  generalize ((x38.setCell ⟨gz, 0, none⟩ (.int .i64 b2)).setCell ⟨gz, 1, none⟩ (.slice ya B.length yc)) = x49 at *
                  refine anyNext_mk ⟨⟨_, RX15.out.later bb49.out⟩, rfl⟩ ?_
                  refine anyC_pick1 21 (by kernel_rfl) (by kernel_rfl) ?_
                  simp only [pickAll, pickAt, List.nil_append, List.cons_append, List.append_nil]
                  go_wp2
                  refine anyNext_last (anyC_done (by kernel_rfl) ?_)
                  go_wp2
                  go_meet
                  exact ⟨gz, _, rfl, rfl, Z49, Y49, bb49⟩
            · simp only [pickAll, pickAt, List.nil_append, List.cons_append, List.append_nil]
              have A51 := Hid.mk7 (A2.out.later (below_newE (RowKit.Below.refl _ _) (.cells #[.int .i64 0, .slice none 0 0] 24)))
              have Z51 : Hid (Rd (x2.alloc (.cells #[.int .i64 0, .slice none 0 0] 24)) x2.heap.size (.int .i64 0) (.slice none 0 0)) := Rd.new _ _ _
              have bb51 : Hid (RowKit.Below w14.heap.size w14 (x2.alloc (.cells #[.int .i64 0, .slice none 0 0] 24))) := bb2.out.alloc bb2.out.size _
              have hgz := bb2.out.size
              go_wp2
              generalize (x2.alloc (.cells #[.int .i64 0, .slice none 0 0] 24)) = x51 at *
              generalize x2.heap.size = gz at *
              refine anyNext_mk ⟨⟨_, RX15.out.later bb51.out⟩, rfl⟩ ?_
              refine anyC_pick1 15 (by kernel_rfl) (by kernel_rfl) ?_
              simp only [pickAll, pickAt, List.nil_append, List.cons_append, List.append_nil]
              go_wp2_with fail
              refine (build_on HON2.out hTl1 A51.out (T15.out.later bb51.out)).mono ?_
              rintro e x52 ⟨yv, rfl, hy, bz⟩
              obtain ⟨ya, yc, rfl, _, _, _⟩ := id hy
              have Z52 := Hid.mk7 (Z51.out.later bz)
              have Y52 := Hid.mk7 hy
              have bb52 : Hid (RowKit.Below w14.heap.size w14 x52) := bb51.out.trans (bz.mono bb51.out.size)
              clear bz hy
              go_wp2
              refine anyNext_mk ⟨⟨_, RX15.out.later bb52.out⟩, rfl⟩ ?_
              refine anyC_pick1 16 (by kernel_rfl) (by kernel_rfl) ?_
              simp only [pickAll, pickAt, List.nil_append, List.cons_append, List.append_nil]
              go_wp2
              refine anyNext_mk ⟨⟨_, RX15.out.later bb52.out⟩, rfl⟩ ?_
              refine anyC_pick2 17 18 (by kernel_rfl) (by kernel_rfl) (by kernel_rfl) ?_ ?_
              · simp only [pickAll, pickAt, List.nil_append, List.cons_append, List.append_nil]
                go_wp2
                refine anyNext_mk ⟨⟨_, RX15.out.later bb52.out⟩, rfl⟩ ?_
                refine anyC_pick2 18 20 (by kernel_rfl) (by kernel_rfl) (by kernel_rfl) ?_ ?_
                · simp only [pickAll, pickAt, List.nil_append, List.cons_append, List.append_nil]
                  go_wp2
                  refine anyNext_mk ⟨⟨_, RX15.out.later bb52.out⟩, rfl⟩ ?_
                  refine anyC_pick1 20 (by kernel_rfl) (by kernel_rfl) ?_
                  simp only [pickAll, pickAt, List.nil_append, List.cons_append, List.append_nil]
                  have c0 := Z52.out.c0
                  have c1 := Z52.out.c1
                  have fz := Z52.out.fz
                  have c2 : (x52.setCell ⟨gz, 0, none⟩ (.int .i64 b2)).cell? ⟨gz, 1, none⟩ = some (.slice none 0 0) := (Z52.out.set0 _).c1
                  have fz2 := (Z52.out.set0 (.int .i64 b2)).fz
                  have Y56 := Hid.mk7 (Y52.out.set_del Z52.out (.int .i64 b2) (.slice ya B.length yc))
                  have Z56 := Hid.mk7 (Z52.out.set (.int .i64 b2) (.slice ya B.length yc))
                  have bb56 : Hid (RowKit.Below w14.heap.size w14 ((x52.setCell ⟨gz, 0, none⟩ (.int .i64 b2)).setCell ⟨gz, 1, none⟩ (.slice ya B.length yc))) := below_set2 bb52.out hgz _ _
                  go_wp2
                  clear c0 c1 c2 fz fz2
                  generalize ((x52.setCell ⟨gz, 0, none⟩ (.int .i64 b2)).setCell ⟨gz, 1, none⟩ (.slice ya B.length yc)) = x56 at *
                  refine anyNext_mk ⟨⟨_, RX15.out.later bb56.out⟩, rfl⟩ ?_
                  refine anyC_pick1 21 (by kernel_rfl) (by kernel_rfl) ?_
                  simp only [pickAll, pickAt, List.nil_append, List.cons_append, List.append_nil]
                  go_wp2
                  refine anyNext_last (anyC_done (by kernel_rfl) ?_)
                  go_wp2
                  go_meet
                  exact ⟨gz, _, rfl, rfl, Z56, Y56, bb56⟩
                · simp only [pickAll, pickAt, List.nil_append, List.cons_append, List.append_nil]
                  have c0 := Z52.out.c0
                  have c1 := Z52.out.c1
                  have fz := Z52.out.fz
                  have c2 : (x52.setCell ⟨gz, 0, none⟩ (.int .i64 b2)).cell? ⟨gz, 1, none⟩ = some (.slice none 0 0) := (Z52.out.set0 _).c1
                  have fz2 := (Z52.out.set0 (.int .i64 b2)).fz
                  have Y58 := Hid.mk7 (Y52.out.set_del Z52.out (.int .i64 b2) (.slice ya B.length yc))
                  have Z58 := Hid.mk7 (Z52.out.set (.int .i64 b2) (.slice ya B.length yc))
                  have bb58 : Hid (RowKit.Below w14.heap.size w14 ((x52.setCell ⟨gz, 0, none⟩ (.int .i64 b2)).setCell ⟨gz, 1, none⟩ (.slice ya B.length yc))) := below_set2 bb52.out hgz _ _
                  go_wp2
                  clear c0 c1 c2 fz fz2
                  generalize ((x52.setCell ⟨gz, 0, none⟩ (.int .i64 b2)).setCell ⟨gz, 1, none⟩ (.slice ya B.length yc)) = x58 at *
                  refine anyNext_mk ⟨⟨_, RX15.out.later bb58.out⟩, rfl⟩ ?_
                  refine anyC_pick1 18 (by kernel_rfl) (by kernel_rfl) ?_
                  simp only [pickAll, pickAt, List.nil_append, List.cons_append, List.append_nil]
                  go_wp2
                  refine anyNext_mk ⟨⟨_, RX15.out.later bb58.out⟩, rfl⟩ ?_
                  refine anyC_pick1 21 (by kernel_rfl) (by kernel_rfl) ?_
                  simp only [pickAll, pickAt, List.nil_append, List.cons_append, List.append_nil]
                  go_wp2
                  refine anyNext_last (anyC_done (by kernel_rfl) ?_)
                  go_wp2
                  go_meet
                  exact ⟨gz, _, rfl, rfl, Z58, Y58, bb58⟩
              · simp only [pickAll, pickAt, List.nil_append, List.cons_append, List.append_nil]
                go_wp2
                refine anyNext_mk ⟨⟨_, RX15.out.later bb52.out⟩, rfl⟩ ?_
                refine anyC_pick1 17 (by kernel_rfl) (by kernel_rfl) ?_
                simp only [pickAll, pickAt, List.nil_append, List.cons_append, List.append_nil]
                go_wp2
                refine anyNext_mk ⟨⟨_, RX15.out.later bb52.out⟩, rfl⟩ ?_
                refine anyC_pick1 20 (by kernel_rfl) (by kernel_rfl) ?_
                simp only [pickAll, pickAt, List.nil_append, List.cons_append, List.append_nil]
                have c0 := Z52.out.c0
                have c1 := Z52.out.c1
                have fz := Z52.out.fz
                have c2 : (x52.setCell ⟨gz, 0, none⟩ (.int .i64 b2)).cell? ⟨gz, 1, none⟩ = some (.slice none 0 0) := (Z52.out.set0 _).c1
                have fz2 := (Z52.out.set0 (.int .i64 b2)).fz
                have Y63 := Hid.mk7 (Y52.out.set_del Z52.out (.int .i64 b2) (.slice ya B.length yc))
                have Z63 := Hid.mk7 (Z52.out.set (.int .i64 b2) (.slice ya B.length yc))
                have bb63 : Hid (RowKit.Below w14.heap.size w14 ((x52.setCell ⟨gz, 0, none⟩ (.int .i64 b2)).setCell ⟨gz, 1, none⟩ (.slice ya B.length yc))) := below_set2 bb52.out hgz _ _
                go_wp2
                clear c0 c1 c2 fz fz2
                generalize ((x52.setCell ⟨gz, 0, none⟩ (.int .i64 b2)).setCell ⟨gz, 1, none⟩ (.slice ya B.length yc)) = x63 at *
                refine anyNext_mk ⟨⟨_, RX15.out.later bb63.out⟩, rfl⟩ ?_
                refine anyC_pick1 21 (by kernel_rfl) (by kernel_rfl) ?_
                simp only [pickAll, pickAt, List.nil_append, List.cons_append, List.append_nil]
                go_wp2
                refine anyNext_last (anyC_done (by kernel_rfl) ?_)
                go_wp2
                go_meet
                exact ⟨gz, _, rfl, rfl, Z63, Y63, bb63⟩
          · simp only [pickAll, pickAt, List.nil_append, List.cons_append, List.append_nil]
            have Z65 : Hid (Rd (x0.alloc (.cells #[.int .i64 0, .slice none 0 0] 24)) x0.heap.size (.int .i64 0) (.slice none 0 0)) := Rd.new _ _ _
            have bb65 : Hid (RowKit.Below w14.heap.size w14 (x0.alloc (.cells #[.int .i64 0, .slice none 0 0] 24))) := bb0.out.alloc bb0.out.size _
            have hgz := bb0.out.size
            go_wp2
            generalize (x0.alloc (.cells #[.int .i64 0, .slice none 0 0] 24)) = x65 at *
            generalize x0.heap.size = gz at *
            refine anyNext_mk ⟨⟨_, RX15.out.later bb65.out⟩, rfl⟩ ?_
            refine anyC_pick1 14 (by kernel_rfl) (by kernel_rfl) ?_
            simp only [pickAll, pickAt, List.nil_append, List.cons_append, List.append_nil]
            have Z66 := Hid.mk7 (Z65.out.later (below_newE (RowKit.Below.refl _ _) (.cells #[.int .i64 (q0 : Nat), .int .i64 (q0 : Nat), .string s1] 38)))
            have A66 := Hid.mk7 (el_lit14 x65 x65.heap.size rfl [((q0 : Int), (q0 : Int), s1.data.toList)] #[.int .i64 (q0 : Nat), .int .i64 (q0 : Nat), .string s1] 38 (by rw [c3_one, cacc_bytes]) 1 rfl)
            have bb66 : Hid (RowKit.Below w14.heap.size w14 (x65.alloc (.cells #[.int .i64 (q0 : Nat), .int .i64 (q0 : Nat), .string s1] 38))) := bb65.out.alloc bb65.out.size _
            go_wp2
            generalize (x65.alloc (.cells #[.int .i64 (q0 : Nat), .int .i64 (q0 : Nat), .string s1] 38)) = x66 at *
            generalize x65.heap.size = gl at *
            refine anyNext_mk ⟨⟨_, RX15.out.later bb66.out⟩, rfl⟩ ?_
            refine anyC_pick1 15 (by kernel_rfl) (by kernel_rfl) ?_
            simp only [pickAll, pickAt, List.nil_append, List.cons_append, List.append_nil]
            go_wp2_with fail
            refine (build_on HON2.out hTl1 A66.out (T15.out.later bb66.out)).mono ?_
            rintro e x67 ⟨yv, rfl, hy, bz⟩
            obtain ⟨ya, yc, rfl, _, _, _⟩ := id hy
            have Z67 := Hid.mk7 (Z66.out.later bz)
            have Y67 := Hid.mk7 hy
            have bb67 : Hid (RowKit.Below w14.heap.size w14 x67) := bb66.out.trans (bz.mono bb66.out.size)
            clear bz hy
            go_wp2
            refine anyNext_mk ⟨⟨_, RX15.out.later bb67.out⟩, rfl⟩ ?_
            refine anyC_pick1 16 (by kernel_rfl) (by kernel_rfl) ?_
            simp only [pickAll, pickAt, List.nil_append, List.cons_append, List.append_nil]
            go_wp2
            refine anyNext_mk ⟨⟨_, RX15.out.later bb67.out⟩, rfl⟩ ?_
            refine anyC_pick2 17 18 (by kernel_rfl) (by kernel_rfl) (by kernel_rfl) ?_ ?_
            · simp only [pickAll, pickAt, List.nil_append, List.cons_append, List.append_nil]
              go_wp2
              refine anyNext_mk ⟨⟨_, RX15.out.later bb67.out⟩, rfl⟩ ?_
              refine anyC_pick2 18 20 (by kernel_rfl) (by kernel_rfl) (by kernel_rfl) ?_ ?_
              · simp only [pickAll, pickAt, List.nil_append, List.cons_append, List.append_nil]
                go_wp2
                refine anyNext_mk ⟨⟨_, RX15.out.later bb67.out⟩, rfl⟩ ?_
                refine anyC_pick1 20 (by kernel_rfl) (by kernel_rfl) ?_
                simp only [pickAll, pickAt, List.nil_append, List.cons_append, List.append_nil]
                have c0 := Z67.out.c0
                have c1 := Z67.out.c1
                have fz := Z67.out.fz
                have c2 : (x67.setCell ⟨gz, 0, none⟩ (.int .i64 b2)).cell? ⟨gz, 1, none⟩ = some (.slice none 0 0) := (Z67.out.set0 _).c1
                have fz2 := (Z67.out.set0 (.int .i64 b2)).fz
                have Y71 := Hid.mk7 (Y67.out.set_del Z67.out (.int .i64 b2) (.slice ya B.length yc))
                have Z71 := Hid.mk7 (Z67.out.set (.int .i64 b2) (.slice ya B.length yc))
                have bb71 : Hid (RowKit.Below w14.heap.size w14 ((x67.setCell ⟨gz, 0, none⟩ (.int .i64 b2)).setCell ⟨gz, 1, none⟩ (.slice ya B.length yc))) := below_set2 bb67.out hgz _ _
                go_wp2
                clear c0 c1 c2 fz fz2
                generalize ((x67.setCell ⟨gz, 0, none⟩ (.int .i64 b2)).setCell ⟨gz, 1, none⟩ (.slice ya B.length yc)) = x71 at *
                refine anyNext_mk ⟨⟨_, RX15.out.later bb71.out⟩, rfl⟩ ?_
                refine anyC_pick1 21 (by kernel_rfl) (by kernel_rfl) ?_
                simp only [pickAll, pickAt, List.nil_append, List.cons_append, List.append_nil]
                go_wp2
                refine anyNext_last (anyC_done (by kernel_rfl) ?_)
                go_wp2
                go_meet
                exact ⟨gz, _, rfl, rfl, Z71, Y71, bb71⟩
              · simp only [pickAll, pickAt, List.nil_append, List.cons_append, List.append_nil]
                have c0 := Z67.out.c0
                have c1 := Z67.out.c1
                have fz := Z67.out.fz
                have c2 : (x67.setCell ⟨gz, 0, none⟩ (.int .i64 b2)).cell? ⟨gz, 1, none⟩ = some (.slice none 0 0) := (Z67.out.set0 _).c1
                have fz2 := (Z67.out.set0 (.int .i64 b2)).fz
                have Y73 := Hid.mk7 (Y67.out.set_del Z67.out (.int .i64 b2) (.slice ya B.length yc))
                have Z73 := Hid.mk7 (Z67.out.set (.int .i64 b2) (.slice ya B.length yc))
                have bb73 : Hid (RowKit.Below w14.heap.size w14 ((x67.setCell ⟨gz, 0, none⟩ (.int .i64 b2)).setCell ⟨gz, 1, none⟩ (.slice ya B.length yc))) := below_set2 bb67.out hgz _ _
                go_wp2
                clear c0 c1 c2 fz fz2
                generalize ((x67.setCell ⟨gz, 0, none⟩ (.int .i64 b2)).setCell ⟨gz, 1, none⟩ (.slice ya B.length yc)) = x73 at *
                refine anyNext_mk ⟨⟨_, RX15.out.later bb73.out⟩, rfl⟩ ?_
                refine anyC_pick1 18 (by kernel_rfl) (by kernel_rfl) ?_
                simp only [pickAll, pickAt, List.nil_append, List.cons_append, List.append_nil]
                go_wp2
                refine anyNext_mk ⟨⟨_, RX15.out.later bb73.out⟩, rfl⟩ ?_
                refine anyC_pick1 21 (by kernel_rfl) (by kernel_rfl) ?_
                simp only [pickAll, pickAt, List.nil_append, List.cons_append, List.append_nil]
                go_wp2
                refine anyNext_last (anyC_done (by kernel_rfl) ?_)
                go_wp2
                go_meet
                exact ⟨gz, _, rfl, rfl, Z73, Y73, bb73⟩
            · simp only [pickAll, pickAt, List.nil_append, List.cons_append, List.append_nil]
              go_wp2
              refine anyNext_mk ⟨⟨_, RX15.out.later bb67.out⟩, rfl⟩ ?_
              refine anyC_pick1 17 (by kernel_rfl) (by kernel_rfl) ?_
              simp only [pickAll, pickAt, List.nil_append, List.cons_append, List.append_nil]
              go_wp2
              refine anyNext_mk ⟨⟨_, RX15.out.later bb67.out⟩, rfl⟩ ?_
              refine anyC_pick1 20 (by kernel_rfl) (by kernel_rfl) ?_
              simp only [pickAll, pickAt, List.nil_append, List.cons_append, List.append_nil]
              have c0 := Z67.out.c0
              have c1 := Z67.out.c1
              have fz := Z67.out.fz
              have c2 : (x67.setCell ⟨gz, 0, none⟩ (.int .i64 b2)).cell? ⟨gz, 1, none⟩ = some (.slice none 0 0) := (Z67.out.set0 _).c1
              have fz2 := (Z67.out.set0 (.int .i64 b2)).fz
              have Y78 := Hid.mk7 (Y67.out.set_del Z67.out (.int .i64 b2) (.slice ya B.length yc))
              have Z78 := Hid.mk7 (Z67.out.set (.int .i64 b2) (.slice ya B.length yc))
              have bb78 : Hid (RowKit.Below w14.heap.size w14 ((x67.setCell ⟨gz, 0, none⟩ (.int .i64 b2)).setCell ⟨gz, 1, none⟩ (.slice ya B.length yc))) := below_set2 bb67.out hgz _ _
              go_wp2
              clear c0 c1 c2 fz fz2
              generalize ((x67.setCell ⟨gz, 0, none⟩ (.int .i64 b2)).setCell ⟨gz, 1, none⟩ (.slice ya B.length yc)) = x78 at *
              refine anyNext_mk ⟨⟨_, RX15.out.later bb78.out⟩, rfl⟩ ?_
              refine anyC_pick1 21 (by kernel_rfl) (by kernel_rfl) ?_
              simp only [pickAll, pickAt, List.nil_append, List.cons_append, List.append_nil]
              go_wp2
              refine anyNext_last (anyC_done (by kernel_rfl) ?_)
              go_wp2
              go_meet
              exact ⟨gz, _, rfl, rfl, Z78, Y78, bb78⟩
        · simp only [pickAll, pickAt, List.nil_append, List.cons_append, List.append_nil]
          have Z80 : Hid (Rd (x0.alloc (.cells #[.int .i64 0, .slice none 0 0] 24)) x0.heap.size (.int .i64 0) (.slice none 0 0)) := Rd.new _ _ _
          have bb80 : Hid (RowKit.Below w14.heap.size w14 (x0.alloc (.cells #[.int .i64 0, .slice none 0 0] 24))) := bb0.out.alloc bb0.out.size _
          have hgz := bb0.out.size
          go_wp2
          generalize (x0.alloc (.cells #[.int .i64 0, .slice none 0 0] 24)) = x80 at *
          generalize x0.heap.size = gz at *
          refine anyNext_mk ⟨⟨_, RX15.out.later bb80.out⟩, rfl⟩ ?_
          refine anyC_pick1 13 (by kernel_rfl) (by kernel_rfl) ?_
          simp only [pickAll, pickAt, List.nil_append, List.cons_append, List.append_nil]
          go_wp2
          refine anyNext_mk ⟨⟨_, RX15.out.later bb80.out⟩, rfl⟩ ?_
          refine anyC_pick1 14 (by kernel_rfl) (by kernel_rfl) ?_
          simp only [pickAll, pickAt, List.nil_append, List.cons_append, List.append_nil]
          have Z82 := Hid.mk7 (Z80.out.later (below_newE (RowKit.Below.refl _ _) (.cells #[.int .i64 (q0 : Nat), .int .i64 (q0 : Nat), .string s1] 38)))
          have A82 := Hid.mk7 (el_lit14 x80 x80.heap.size rfl [((q0 : Int), (q0 : Int), s1.data.toList)] #[.int .i64 (q0 : Nat), .int .i64 (q0 : Nat), .string s1] 38 (by rw [c3_one, cacc_bytes]) 1 rfl)
          have bb82 : Hid (RowKit.Below w14.heap.size w14 (x80.alloc (.cells #[.int .i64 (q0 : Nat), .int .i64 (q0 : Nat), .string s1] 38))) := bb80.out.alloc bb80.out.size _
          go_wp2
          generalize (x80.alloc (.cells #[.int .i64 (q0 : Nat), .int .i64 (q0 : Nat), .string s1] 38)) = x82 at *
          generalize x80.heap.size = gl at *
          refine anyNext_mk ⟨⟨_, RX15.out.later bb82.out⟩, rfl⟩ ?_
          refine anyC_pick1 15 (by kernel_rfl) (by kernel_rfl) ?_
          simp only [pickAll, pickAt, List.nil_append, List.cons_append, List.append_nil]
          go_wp2_with fail
          refine (build_on HON2.out hTl1 A82.out (T15.out.later bb82.out)).mono ?_
          rintro e x83 ⟨yv, rfl, hy, bz⟩
          obtain ⟨ya, yc, rfl, _, _, _⟩ := id hy
          have Z83 := Hid.mk7 (Z82.out.later bz)
          have Y83 := Hid.mk7 hy
          have bb83 : Hid (RowKit.Below w14.heap.size w14 x83) := bb82.out.trans (bz.mono bb82.out.size)
          clear bz hy
          go_wp2
          refine anyNext_mk ⟨⟨_, RX15.out.later bb83.out⟩, rfl⟩ ?_
          refine anyC_pick1 16 (by kernel_rfl) (by kernel_rfl) ?_
          simp only [pickAll, pickAt, List.nil_append, List.cons_append, List.append_nil]
          go_wp2
          refine anyNext_mk ⟨⟨_, RX15.out.later bb83.out⟩, rfl⟩ ?_
          refine anyC_pick2 17 18 (by kernel_rfl) (by kernel_rfl) (by kernel_rfl) ?_ ?_
          · simp only [pickAll, pickAt, List.nil_append, List.cons_append, List.append_nil]
            go_wp2
            refine anyNext_mk ⟨⟨_, RX15.out.later bb83.out⟩, rfl⟩ ?_
            refine anyC_pick2 18 20 (by kernel_rfl) (by kernel_rfl) (by kernel_rfl) ?_ ?_
            · simp only [pickAll, pickAt, List.nil_append, List.cons_append, List.append_nil]
              go_wp2
              refine anyNext_mk ⟨⟨_, RX15.out.later bb83.out⟩, rfl⟩ ?_
              refine anyC_pick1 20 (by kernel_rfl) (by kernel_rfl) ?_
              simp only [pickAll, pickAt, List.nil_append, List.cons_append, List.append_nil]
              have c0 := Z83.out.c0
              have c1 := Z83.out.c1
              have fz := Z83.out.fz
              have c2 : (x83.setCell ⟨gz, 0, none⟩ (.int .i64 b2)).cell? ⟨gz, 1, none⟩ = some (.slice none 0 0) := (Z83.out.set0 _).c1
              have fz2 := (Z83.out.set0 (.int .i64 b2)).fz
              have Y87 := Hid.mk7 (Y83.out.set_del Z83.out (.int .i64 b2) (.slice ya B.length yc))
              have Z87 := Hid.mk7 (Z83.out.set (.int .i64 b2) (.slice ya B.length yc))
              have bb87 : Hid (RowKit.Below w14.heap.size w14 ((x83.setCell ⟨gz, 0, none⟩ (.int .i64 b2)).setCell ⟨gz, 1, none⟩ (.slice ya B.length yc))) := below_set2 bb83.out hgz _ _
              go_wp2
              clear c0 c1 c2 fz fz2
              generalize ((x83.setCell ⟨gz, 0, none⟩ (.int .i64 b2)).setCell ⟨gz, 1, none⟩ (.slice ya B.length yc)) = x87 at *
              refine anyNext_mk ⟨⟨_, RX15.out.later bb87.out⟩, rfl⟩ ?_
              refine anyC_pick1 21 (by kernel_rfl) (by kernel_rfl) ?_
              simp only [pickAll, pickAt, List.nil_append, List.cons_append, List.append_nil]
              go_wp2
              refine anyNext_last (anyC_done (by kernel_rfl) ?_)
              go_wp2
              go_meet
              exact ⟨gz, _, rfl, rfl, Z87, Y87, bb87⟩
            · simp only [pickAll, pickAt, List.nil_append, List.cons_append, List.append_nil]
              have c0 := Z83.out.c0
              have c1 := Z83.out.c1
              have fz := Z83.out.fz
              have c2 : (x83.setCell ⟨gz, 0, none⟩ (.int .i64 b2)).cell? ⟨gz, 1, none⟩ = some (.slice none 0 0) := (Z83.out.set0 _).c1
              have fz2 := (Z83.out.set0 (.int .i64 b2)).fz
              have Y89 := Hid.mk7 (Y83.out.set_del Z83.out (.int .i64 b2) (.slice ya B.length yc))
              have Z89 := Hid.mk7 (Z83.out.set (.int .i64 b2) (.slice ya B.length yc))
              have bb89 : Hid (RowKit.Below w14.heap.size w14 ((x83.setCell ⟨gz, 0, none⟩ (.int .i64 b2)).setCell ⟨gz, 1, none⟩ (.slice ya B.length yc))) := below_set2 bb83.out hgz _ _
              go_wp2
              clear c0 c1 c2 fz fz2
              generalize ((x83.setCell ⟨gz, 0, none⟩ (.int .i64 b2)).setCell ⟨gz, 1, none⟩ (.slice ya B.length yc)) = x89 at *
              refine anyNext_mk ⟨⟨_, RX15.out.later bb89.out⟩, rfl⟩ ?_
              refine anyC_pick1 18 (by kernel_rfl) (by kernel_rfl) ?_
              simp only [pickAll, pickAt, List.nil_append, List.cons_append, List.append_nil]
              go_wp2
              refine anyNext_mk ⟨⟨_, RX15.out.later bb89.out⟩, rfl⟩ ?_
              refine anyC_pick1 21 (by kernel_rfl) (by kernel_rfl) ?_
              simp only [pickAll, pickAt, List.nil_append, List.cons_append, List.append_nil]
              go_wp2
              refine anyNext_last (anyC_done (by kernel_rfl) ?_)
              go_wp2
              go_meet
              exact ⟨gz, _, rfl, rfl, Z89, Y89, bb89⟩
          · simp only [pickAll, pickAt, List.nil_append, List.cons_append, List.append_nil]
            go_wp2
            refine anyNext_mk ⟨⟨_, RX15.out.later bb83.out⟩, rfl⟩ ?_
            refine anyC_pick1 17 (by kernel_rfl) (by kernel_rfl) ?_
            simp only [pickAll, pickAt, List.nil_append, List.cons_append, List.append_nil]
            go_wp2
            refine anyNext_mk ⟨⟨_, RX15.out.later bb83.out⟩, rfl⟩ ?_
            refine anyC_pick1 20 (by kernel_rfl) (by kernel_rfl) ?_
            simp only [pickAll, pickAt, List.nil_append, List.cons_append, List.append_nil]
            have c0 := Z83.out.c0
            have c1 := Z83.out.c1
            have fz := Z83.out.fz
            have c2 : (x83.setCell ⟨gz, 0, none⟩ (.int .i64 b2)).cell? ⟨gz, 1, none⟩ = some (.slice none 0 0) := (Z83.out.set0 _).c1
            have fz2 := (Z83.out.set0 (.int .i64 b2)).fz
            have Y94 := Hid.mk7 (Y83.out.set_del Z83.out (.int .i64 b2) (.slice ya B.length yc))
            have Z94 := Hid.mk7 (Z83.out.set (.int .i64 b2) (.slice ya B.length yc))
            have bb94 : Hid (RowKit.Below w14.heap.size w14 ((x83.setCell ⟨gz, 0, none⟩ (.int .i64 b2)).setCell ⟨gz, 1, none⟩ (.slice ya B.length yc))) := below_set2 bb83.out hgz _ _
            go_wp2
            clear c0 c1 c2 fz fz2
            generalize ((x83.setCell ⟨gz, 0, none⟩ (.int .i64 b2)).setCell ⟨gz, 1, none⟩ (.slice ya B.length yc)) = x94 at *
            refine anyNext_mk ⟨⟨_, RX15.out.later bb94.out⟩, rfl⟩ ?_
            refine anyC_pick1 21 (by kernel_rfl) (by kernel_rfl) ?_
            simp only [pickAll, pickAt, List.nil_append, List.cons_append, List.append_nil]
            go_wp2
            refine anyNext_last (anyC_done (by kernel_rfl) ?_)
            go_wp2
            go_meet
            exact ⟨gz, _, rfl, rfl, Z94, Y94, bb94⟩
      case rest =>
        generalize wc = yB1 at *
        obtain ⟨gB1, yv, rfl, rfl, RZB1, HYB1, BBB1⟩ := hcut
        obtain ⟨B1a, B1c, rfl, _, _, _⟩ := id HYB1.out
        have bz := BBB1.out
        clear BBB1
        have T16 := Hid.mk7 (T15.out.later bz)
        have G16 := Hid.mk7 (G15.out.trans (bz.mono G15.out.size))
        have RX16 := Hid.mk7 (RX15.out.later bz)
        have RA116 := Hid.mk7 (RA115.out.later bz)
        have YA116 := Hid.mk7 (YA115.out.later bz)
        clear T15 G15 RX15 RA115 YA115 bz
        clear hq0 hz
        rcases on_two HON2.out with ⟨rfl, rfl⟩ | ⟨rfl, rfl, rfl⟩
        rotate_left
        · skip
          have RXc0 := RX16.out.c0
          have RXc1 := RX16.out.c1
          have RA1c0 := RA116.out.c0
          have RA1c1 := RA116.out.c1
          have RB1c0 := RZB1.out.c0
          have RB1c1 := RZB1.out.c1
          go_wp2
          go_ret
          exact ⟨rfl, G16.out⟩
        obtain ⟨iB, _⟩ := on_is HON2.out hq1
        have IB := Hid.mk7 iB
        clear iB
        obtain ⟨b3, C, er3, hR⟩ := rs_ex (N : Int) (tld (twoC (cel A) (cel B)))
        have HR := Hid.mk7 hR
        have htw := tw_of HON.out HM.out HON2.out hR (by omega) hp1 hq1 hx1
        clear hR
        clear RX16
        have RA1c0 := RA116.out.c0
        have RA1c1 := RA116.out.c1
        have RB1c0 := RZB1.out.c0
        have RB1c1 := RZB1.out.c1
        go_wp2_with fail
        refine (two_rs IA.out IB.out (by rw [HM.out]) HR.out YA116.out HYB1.out T16.out).mono ?_
        rintro e w17 ⟨v3, rfl, h3, bz⟩
        clear RA1c0 RA1c1 RB1c0 RB1c1
        obtain ⟨a3, c3, rfl, _, _, _⟩ := id h3
        have T18 := Hid.mk7 (T16.out.later bz)
        have G18 := Hid.mk7 (G16.out.trans (bz.mono G16.out.size))
        have RA118 := Hid.mk7 (RA116.out.later bz)
        have YA118 := Hid.mk7 (YA116.out.later bz)
        have RB118 := Hid.mk7 (RZB1.out.later bz)
        have YB118 := Hid.mk7 (HYB1.out.later bz)
        clear T16 G16 RA116 YA116 RZB1 HYB1 bz
        have EC19 := Hid.mk7 (h3)
        clear h3
        have bz : RowKit.Below w17.heap.size w17 (w17.alloc (.cells #[.int .i64 b3, .slice a3 C.length c3] 24)) := below_newE (RowKit.Below.refl _ _) _
        have nw20 := Hid.mk7 (@Rd.new w17 (.int .i64 b3) (.slice a3 C.length c3))
        have T21 := Hid.mk7 (T18.out.later bz)
        have G21 := Hid.mk7 (G18.out.trans (bz.mono G18.out.size))
        have RA121 := Hid.mk7 (RA118.out.later bz)
        have YA121 := Hid.mk7 (YA118.out.later bz)
        have RB121 := Hid.mk7 (RB118.out.later bz)
        have YB121 := Hid.mk7 (YB118.out.later bz)
        have EC21 := Hid.mk7 (EC19.out.later bz)
        clear T18 G18 RA118 YA118 RB118 YB118 EC19 bz
        rcases htw with rfl | ⟨rfl, rfl, iC, lC, y0, z0, u0, tw⟩
        · skip
          have RA1c0 := RA121.out.c0
          have RA1c1 := RA121.out.c1
          have RB1c0 := RB121.out.c0
          have RB1c1 := RB121.out.c1
          have RCc0 := nw20.out.c0
          have RCc1 := nw20.out.c1
          go_wp2
          go_ret
          exact ⟨rfl, G21.out⟩
        have IC := Hid.mk7 iC
        have TW := Hid.mk7 tw
        have uz := tw.uz
        have u1 : decide (u0 ≤ (z0 : Int)) = true := decide_eq_true uz
        have u2 : ((z0 : Int) == (z0 : Int)) = true := by simp
        have hz : ¬ (N : Int) = 0 := by omega
        clear iC tw uz
        have RA1c0 := RA121.out.c0
        have RA1c1 := RA121.out.c1
        have RB1c0 := RB121.out.c0
        have RB1c1 := RB121.out.c1
        have RCc0 := nw20.out.c0
        have RCc1 := nw20.out.c1
        go_upto_region 17 with fail
        clear RA1c0 RA1c1 RB1c0 RB1c1 RCc0 RCc1
        rw [HX0.out]
        clear HX0 hz
        generalize w17.alloc (.cells #[.int .i64 (N : Nat), .slice a3 C.length c3] 24) = w30 at *
        have HC1 := Hid.mk7 (fun d os => Calls.regrown_of (move_w TW.out.mc IC.out (EC21.out.later (below_regrown w30 d os)) (T21.out.later (below_regrown w30 d os))))
        have HC0 := Hid.mk7 (fun d os => Calls.regrown_of (move_w TW.out.mf IC.out (EC21.out.later (below_regrown w30 d os)) (T21.out.later (below_regrown w30 d os))))
        have HA1 := Hid.mk7 (fun d os => Calls.regrown_of (move_w TW.out.ma IA.out (YA121.out.later (below_regrown w30 d os)) (T21.out.later (below_regrown w30 d os))))
        have HB1 := Hid.mk7 (fun d os => Calls.regrown_of (move_w TW.out.mb IB.out (YB121.out.later (below_regrown w30 d os)) (T21.out.later (below_regrown w30 d os))))
        have qRA10 := cell_regrown RA121.out.c0
        have qRA11 := cell_regrown RA121.out.c1
        have qRB10 := cell_regrown RB121.out.c0
        have qRB11 := cell_regrown RB121.out.c1
        have qRC0 := cell_regrown nw20.out.c0
        have qRC1 := cell_regrown nw20.out.c1
        refine wp_region_quiet_below (by kernel_rfl) (by kernel_rfl) ?_
        repeat (go_big_quiet_step (first
          | (go_at_call_of 12 (Value.bool false); exact HC0.out _ _)
          | (go_at_call_of 12 (Value.agg #[Value.int IntKind.i64 ((N : Nat) : Int), Value.slice a3 C.length c3]); exact HC1.out _ _)
          | (go_at_call_of 12 (Value.agg #[Value.int IntKind.i64 ((N : Nat) : Int), Value.slice A1a A.length A1c]); exact HA1.out _ _)
          | (go_at_call 12; exact HB1.out _ _)))
        refine wpQuiet_nil ?_
        intro _ hw'
        obtain ⟨⟨dq, osq⟩, hw''⟩ := hw'
        subst hw''
        have bz := below_regrown w30 dq osq
        have GZ := Hid.mk7 (G21.out.trans (bz.mono G21.out.size))
        clear bz
        go_wp2
        go_ret
        exact ⟨rfl, GZ.out⟩
end Go.Proofs.YtelpinngimohoaaDoor
