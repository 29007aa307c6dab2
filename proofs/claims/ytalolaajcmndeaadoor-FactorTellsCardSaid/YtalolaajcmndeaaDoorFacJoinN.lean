/- factor's Split. factor's Join. factor's Join: nil; its answers. -/
import Derived.Test.YtalolaajcmndeaaDoorFacChg
namespace Go.Proofs.YtalolaajcmndeaaDoor
open Go.RowKit Go.Sort
set_option linter.unusedSimpArgs false
set_option linter.unusedVariables false

theorem anyC_pick3F {P : Program} {C : World → Prop} {l : List Oper} {z fuel : Nat} {Q : Exit → Act → World → Prop} {listed : Array Bool} {a : Act} {w : World} (k k' k'' : Nat) (hr : (Region.ready .any l.toArray listed == [k, k', k'']) = true) (hk : (l[k]?).isSome = true) (hk' : (l[k']?).isSome = true) (hk'' : (l[k'']?).isSome = true)
    (h : wpList P l.toArray (AnyNext P l C z Q k fuel (listed.setIfInBounds k true)) (pickAll l [k]) a w) (h' : wpList P l.toArray (AnyNext P l C z Q k' fuel (listed.setIfInBounds k' true)) (pickAll l [k']) a w) (h'' : wpList P l.toArray (AnyNext P l C z Q k'' fuel (listed.setIfInBounds k'' true)) (pickAll l [k'']) a w) : wpAnyC P l.toArray C z (noPanic Q) (fuel + 1) listed a w :=
  anyC_pick [k, k', k''] hr (by simp [hk, hk', hk'']) rfl (by
    intro x hx
    simp only [List.mem_cons, List.not_mem_nil, or_false] at hx
    rcases hx with rfl | rfl | rfl
    · exact h
    · exact h'
    · exact h'')
theorem other_cellF {w : World} {g g' j j' : Nat} {v x : Value} (x0 : x = x) (hne : g ≠ g') (h : w.cell? ⟨g, j, none⟩ = some v) : (w.setCell ⟨g', j', none⟩ x).cell? ⟨g, j, none⟩ = some v := by
  rw [← h]; unfold World.cell?; rw [heap_setCell_other _ _ _ _ hne]
/-- A delta's own cells aren't a row of elements. -/
theorem ElAt.ne_del {w : World} {v : Value} {es : List El} {g : Nat} {x : Value} {a : Option Addr} {n c : Nat} (h : ElAt w v es) (r : Rd w g x (.slice a n c)) :
    ∀ i e, es[i]? = some e → ∀ gg off, (w.cell? ⟨gg, off + i * 3, none⟩ = some (.int .i64 e.1) ∧ w.cell? ⟨gg, off + i * 3 + 1, none⟩ = some (.int .i64 e.2.1) ∧ w.cell? ⟨gg, off + i * 3 + 2, none⟩ = some (.string (cacc e.2.2))) → gg ≠ g := by
  rintro i e _ gg off ⟨_, h2, h3⟩ rfl
  have hc : ∀ j : Nat, 2 ≤ j → w.cell? ⟨gg, j, none⟩ = none := by
    intro j hj
    have hr : w.heap[gg]? = some (.cells #[x, .slice a n c] 24) := r
    unfold World.cell?
    rw [hr]
    simp; omega
  by_cases hj : 2 ≤ off + i * 3 + 1
  · rw [hc _ hj] at h2; cases h2
  · by_cases hj2 : off + i * 3 = 0
    · rw [hj2, r.c1] at h2; cases h2
    · rw [hc _ (by omega)] at h3; cases h3
theorem ElAt.set_del {w : World} {v : Value} {es : List El} {g : Nat} {x : Value} {a : Option Addr} {n c : Nat} (h : ElAt w v es) (r : Rd w g x (.slice a n c)) (x' y' : Value) : ElAt ((w.setCell ⟨g, 0, none⟩ x').setCell ⟨g, 1, none⟩ y') v es := by
  have hne := h.ne_del r
  obtain ⟨a', cap, e1, e2, e3, hh⟩ := h
  refine ⟨a', cap, e1, e2, e3, fun i e he => ?_⟩
  obtain ⟨gg, off, ea, hc⟩ := hh i e he
  have hn := hne i e he gg off hc
  refine ⟨gg, off, ea, ?_, ?_, ?_⟩
  · exact other_cellF rfl hn (other_cellF rfl hn hc.1)
  · exact other_cellF rfl hn (other_cellF rfl hn hc.2.1)
  · exact other_cellF rfl hn (other_cellF rfl hn hc.2.2)
theorem Sub.set_del {w : World} {p : Value} {L : List Int} {g : Nat} {x : Int} {a : Option Addr} {n c : Nat} (h : Sub w p L) (r : Rd w g (.int .i64 x) (.slice a n c)) (x' y' : Value) : Sub ((w.setCell ⟨g, 0, none⟩ x').setCell ⟨g, 1, none⟩ y') p L := by
  obtain ⟨b, v, e1, h1, a', cap, rfl, e2, e3, hh⟩ := h
  have hb : b ≠ g := by
    rintro rfl
    rw [r.c0] at h1
    cases h1
  have hc : ∀ j : Nat, 2 ≤ j → w.cell? ⟨g, j, none⟩ = none := by
    intro j hj
    have hr : w.heap[g]? = some (.cells #[.int .i64 x, .slice a n c] 24) := r
    unfold World.cell?
    rw [hr]
    simp; omega
  refine ⟨b, _, e1, other_cellF rfl hb (other_cellF rfl hb h1), a', cap, rfl, e2, e3, fun i q hq => ?_⟩
  obtain ⟨gg, off, ea, c1, c2⟩ := hh i q hq
  have hn : gg ≠ g := by
    rintro rfl
    by_cases hj : 2 ≤ off + i * 2 + 1
    · rw [hc _ hj] at c2; cases c2
    · rw [show off + i * 2 + 1 = 1 from by omega, r.c1] at c2; cases c2
  exact ⟨gg, off, ea, other_cellF rfl hn (other_cellF rfl hn c1), other_cellF rfl hn (other_cellF rfl hn c2)⟩
theorem results_del3 {fn : Func} {p u s : Tmp} (h : fn.results = #[.cell p 24, .tmp u, .tmp s]) (tmps : Array Value) (w : World) (g : Nat) (x y z q : Value)
    (hp : tmps.getD p undef = .pointer (some ⟨g, 0, none⟩)) (hu : tmps.getD u undef = z) (hs : tmps.getD s undef = q) (hg : Rd w g x y) : (results fn tmps).run Tryd.prog w = .ok (.tuple #[.agg #[x, y], z, q]) w := by
  have hp' : tmps[p]?.getD undef = .pointer (some ⟨g, 0, none⟩) := by simpa using hp
  have hu' : tmps[u]?.getD undef = z := by simpa using hu
  have hs' : tmps[s]?.getD undef = q := by simpa using hs
  simp [results, h, hp', hu', hs', asAddr, run_loadVar_row w g 24 24 _ (0, 0) _ hg Tryd.underlying24 rfl (by kernel_rfl)]
set_option maxHeartbeats 8000000 in
set_option maxRecDepth 100000 in
theorem split_gen {w : World} {v : Value} {es ys : List El} (base b1 er : Int) (tb : Nat × Nat) (hi : isB base es = true) (h : ElAt w v es) (hT : Tab w tb)
    (hbu : ∀ W u, ElAt W u (insX 0 es) → Tab W tb → Calls Tryd.prog 24 #[.int .i64 base, u] W fun e w' => ∃ v', e = .returned (.tuple #[.agg #[.int .i64 b1, v'], .int .i64 er]) ∧ ElAt w' v' ys ∧ Below W.heap.size W w') :
    Calls Tryd.prog 10 #[.agg #[.int .i64 base, v]] w fun e w' => (er ≠ 0 → e = .returned (.tuple #[.agg #[.int .i64 0, .slice none 0 0], .pointer none, .int .i64 er])) ∧ (er = 0 → ∃ v' p, e = .returned (.tuple #[.agg #[.int .i64 b1, v'], p, .int .i64 0]) ∧ ElAt w' v' ys ∧ Sub w' p (gon base 0 es)) ∧ Below w.heap.size w w' := by
  have hel := (dl_of hi).len
  have BX := below_newE (below_newE (Below.refl w.heap.size w) (.cells #[.int .i64 base, v] 24)) (.cells #[.int .i64 0, .slice none 0 0] 24)
  have RDX := (Rd.new w (.int .i64 base) v).alloc (.cells #[.int .i64 0, .slice none 0 0] 24)
  have RRX : Rd ((w.alloc (.cells #[.int .i64 base, v] 24)).alloc (.cells #[.int .i64 0, .slice none 0 0] 24)) (w.heap.size + 1) (.int .i64 0) (.slice none 0 0) := Rd.new' (by simp) _ _
  have VX := (h.alloc (.cells #[.int .i64 base, v] 24)).alloc (.cells #[.int .i64 0, .slice none 0 0] 24)
  have TX := (hT.nuF (.cells #[.int .i64 base, v] 24)).nuF (.cells #[.int .i64 0, .slice none 0 0] 24)
  have HB2 := Hid.mk7 BX
  have HR2 := Hid.mk7 RDX
  have HRR2 := Hid.mk7 RRX
  have HV2 := Hid.mk7 VX
  have HT2 := Hid.mk7 TX
  have HDE := Hid.mk7 (deleted_yes base tb hi VX TX)
  have HIN : Hid (∀ W, ElAt W v es → Calls Tryd.prog 39 #[v] W fun e w' => ∃ v', e = .returned v' ∧ ElAt w' v' (insX 0 es) ∧ Below W.heap.size W w') := fun W h => inserts_any (by omega) h
  have HBU := Hid.mk7 hbu
  have hzr : w.heap.size < w.heap.size + 1 := Nat.lt_succ_self _
  have r0 := RDX.c0
  have r1 := RDX.c1
  clear BX RDX RRX VX TX h hT hi hbu
  go_enter Tryd.func10, Tryd.ntmps10
  go_upto_region 1 with fail
  generalize hz1 : w.heap.size = z1 at *
  generalize (w.alloc (.cells #[.int .i64 base, v] 24)).alloc (.cells #[.int .i64 0, .slice none 0 0] 24) = W2 at *
  go_wp2_with fail
  refine HDE.out.mono ?_
  rintro e w4 ⟨p, rfl, hs, b4⟩
  have HB := Hid.mk7 (HB2.out.trans (b4.mono (by rw [← hz1]; exact HB2.out.size)))
  have RD4 := Hid.mk7 (HR2.out.later b4)
  have RR4 := Hid.mk7 (HRR2.out.later b4)
  have HV := Hid.mk7 (HV2.out.later b4)
  have HT := Hid.mk7 (HT2.out.later b4)
  have HS := Hid.mk7 hs
  clear HB2 HR2 HRR2 HV2 HT2 HDE b4 hs r0 r1
  have r0 := RD4.out.c0
  have r1 := RD4.out.c1
  go_upto_region 4 with fail
  go_cut [6, 7] from 17 to 26 (fun s6 s7 wx => ∃ (gz : Nat) (yv : Value), s6 = .int .i64 er ∧ s7 = .pointer (some ⟨gz, 0, none⟩) ∧ Hid (Rd wx gz (.int .i64 b1) yv) ∧ Hid (ElAt wx yv ys) ∧ Hid (Below w4.heap.size w4 wx))
  case first =>
    refine wp_region_turns (fun w' => ∃ q : (GW (fun W => Rd W z1 (.int .i64 base) v)), w' = q.w) [0, 1, 2, 3] 11 8 (by kernel_rfl) (by kernel_rfl) (fun d => ⟨⟨redrawn w4 d, RD4.out.later (below_redrawnE w4 d)⟩, rfl⟩) ?_
    intro d
    have k0 : ∀ q : (GW (fun W => Rd W z1 (.int .i64 base) v)), q.w.cell? ⟨z1, 0, none⟩ = some (.int .i64 base) := fun q => q.h.c0
    have k1 : ∀ q : (GW (fun W => Rd W z1 (.int .i64 base) v)), q.w.cell? ⟨z1, 1, none⟩ = some v := fun q => q.h.c1
    simp only [pickAll, pickAt, List.nil_append, List.cons_append, List.append_nil]
    have hne : Nonempty (GW (fun W => Rd W z1 (.int .i64 base) v)) := ⟨⟨w4, RD4.out⟩⟩
    clear r0 r1
    repeat (go_big_quiet_step (fail))
    refine wpQuiet_nil ?_
    clear hne k0 k1
    have bb0 := Hid.mk7 (below_redrawnE w4 d)
    generalize redrawn w4 d = x0 at *
    refine anyC_pick2 4 9 (by kernel_rfl) (by kernel_rfl) (by kernel_rfl) ?_ ?_
    · simp only [pickAll, pickAt, List.nil_append, List.cons_append, List.append_nil]
      go_wp2_with fail
      refine (HIN.out _ (HV.out.later bb0.out)).mono ?_
      rintro e x1 ⟨yv, rfl, hy, bz⟩
      have Y1 := Hid.mk7 hy
      have bb1 : Hid (Below w4.heap.size w4 x1) := bb0.out.trans (bz.mono bb0.out.size)
      clear bz hy
      go_wp2
      refine anyNext_mk ⟨⟨_, RD4.out.later bb1.out⟩, rfl⟩ ?_
      refine anyC_pick2 5 9 (by kernel_rfl) (by kernel_rfl) (by kernel_rfl) ?_ ?_
      · simp only [pickAll, pickAt, List.nil_append, List.cons_append, List.append_nil]
        go_wp2_with fail
        refine (HBU.out _ _ Y1.out (HT.out.later bb1.out)).mono ?_
        rintro e x2 ⟨yv, rfl, hy, bz⟩
        obtain ⟨ya, yc, rfl, _, _, _⟩ := id hy
        have Y2 := Hid.mk7 hy
        have bb2 : Hid (Below w4.heap.size w4 x2) := bb1.out.trans (bz.mono bb1.out.size)
        clear bz hy
        go_wp2
        refine anyNext_mk ⟨⟨_, RD4.out.later bb2.out⟩, rfl⟩ ?_
        refine anyC_pick2 6 9 (by kernel_rfl) (by kernel_rfl) (by kernel_rfl) ?_ ?_
        · simp only [pickAll, pickAt, List.nil_append, List.cons_append, List.append_nil]
          go_wp2
          refine anyNext_mk ⟨⟨_, RD4.out.later bb2.out⟩, rfl⟩ ?_
          refine anyC_pick3F 7 8 9 (by kernel_rfl) (by kernel_rfl) (by kernel_rfl) (by kernel_rfl) ?_ ?_ ?_
          · simp only [pickAll, pickAt, List.nil_append, List.cons_append, List.append_nil]
            go_wp2
            refine anyNext_mk ⟨⟨_, RD4.out.later bb2.out⟩, rfl⟩ ?_
            refine anyC_pick2 8 9 (by kernel_rfl) (by kernel_rfl) (by kernel_rfl) ?_ ?_
            · simp only [pickAll, pickAt, List.nil_append, List.cons_append, List.append_nil]
              go_wp2
              refine anyNext_mk ⟨⟨_, RD4.out.later bb2.out⟩, rfl⟩ ?_
              refine anyC_pick1 9 (by kernel_rfl) (by kernel_rfl) ?_
              simp only [pickAll, pickAt, List.nil_append, List.cons_append, List.append_nil]
              have Y6 := Hid.mk7 (Y2.out.alloc (.cells #[.int .i64 0, .slice none 0 0] 24))
              have Z6 : Hid (Rd (x2.alloc (.cells #[.int .i64 0, .slice none 0 0] 24)) x2.heap.size (.int .i64 0) (.slice none 0 0)) := Rd.new _ _ _
              have bb6 : Hid (Below w4.heap.size w4 (x2.alloc (.cells #[.int .i64 0, .slice none 0 0] 24))) := bb2.out.alloc bb2.out.size _
              have hgz := bb2.out.size
              go_wp2
              generalize (x2.alloc (.cells #[.int .i64 0, .slice none 0 0] 24)) = x6 at *
              generalize x2.heap.size = gz at *
              refine anyNext_mk ⟨⟨_, RD4.out.later bb6.out⟩, rfl⟩ ?_
              refine anyC_pick1 10 (by kernel_rfl) (by kernel_rfl) ?_
              simp only [pickAll, pickAt, List.nil_append, List.cons_append, List.append_nil]
              have c0 := Z6.out.c0
              have c1 := Z6.out.c1
              have fz := Z6.out.fz
              have c2 : (x6.setCell ⟨gz, 0, none⟩ (.int .i64 b1)).cell? ⟨gz, 1, none⟩ = some (.slice none 0 0) := (Z6.out.set0 _).c1
              have fz2 := (Z6.out.set0 (.int .i64 b1)).fz
              have Y7 := Hid.mk7 (Y6.out.set_del Z6.out (.int .i64 b1) (.slice ya ys.length yc))
              have Z7 := Hid.mk7 (Z6.out.set (.int .i64 b1) (.slice ya ys.length yc))
              have bb7 : Hid (Below w4.heap.size w4 ((x6.setCell ⟨gz, 0, none⟩ (.int .i64 b1)).setCell ⟨gz, 1, none⟩ (.slice ya ys.length yc))) := below_set2 bb6.out hgz _ _
              go_wp2
              clear c0 c1 c2 fz fz2
              generalize ((x6.setCell ⟨gz, 0, none⟩ (.int .i64 b1)).setCell ⟨gz, 1, none⟩ (.slice ya ys.length yc)) = x7 at *
              refine anyNext_mk ⟨⟨_, RD4.out.later bb7.out⟩, rfl⟩ ?_
              refine anyC_pick1 11 (by kernel_rfl) (by kernel_rfl) ?_
              simp only [pickAll, pickAt, List.nil_append, List.cons_append, List.append_nil]
              go_wp2
              refine anyNext_last (anyC_done (by kernel_rfl) ?_)
              go_wp2
              go_meet
              exact ⟨gz, _, rfl, rfl, Z7, Y7, bb7⟩
            · simp only [pickAll, pickAt, List.nil_append, List.cons_append, List.append_nil]
              have Y9 := Hid.mk7 (Y2.out.alloc (.cells #[.int .i64 0, .slice none 0 0] 24))
              have Z9 : Hid (Rd (x2.alloc (.cells #[.int .i64 0, .slice none 0 0] 24)) x2.heap.size (.int .i64 0) (.slice none 0 0)) := Rd.new _ _ _
              have bb9 : Hid (Below w4.heap.size w4 (x2.alloc (.cells #[.int .i64 0, .slice none 0 0] 24))) := bb2.out.alloc bb2.out.size _
              have hgz := bb2.out.size
              go_wp2
              generalize (x2.alloc (.cells #[.int .i64 0, .slice none 0 0] 24)) = x9 at *
              generalize x2.heap.size = gz at *
              refine anyNext_mk ⟨⟨_, RD4.out.later bb9.out⟩, rfl⟩ ?_
              refine anyC_pick2 8 10 (by kernel_rfl) (by kernel_rfl) (by kernel_rfl) ?_ ?_
              · simp only [pickAll, pickAt, List.nil_append, List.cons_append, List.append_nil]
                go_wp2
                refine anyNext_mk ⟨⟨_, RD4.out.later bb9.out⟩, rfl⟩ ?_
                refine anyC_pick1 10 (by kernel_rfl) (by kernel_rfl) ?_
                simp only [pickAll, pickAt, List.nil_append, List.cons_append, List.append_nil]
                have c0 := Z9.out.c0
                have c1 := Z9.out.c1
                have fz := Z9.out.fz
                have c2 : (x9.setCell ⟨gz, 0, none⟩ (.int .i64 b1)).cell? ⟨gz, 1, none⟩ = some (.slice none 0 0) := (Z9.out.set0 _).c1
                have fz2 := (Z9.out.set0 (.int .i64 b1)).fz
                have Y11 := Hid.mk7 (Y9.out.set_del Z9.out (.int .i64 b1) (.slice ya ys.length yc))
                have Z11 := Hid.mk7 (Z9.out.set (.int .i64 b1) (.slice ya ys.length yc))
                have bb11 : Hid (Below w4.heap.size w4 ((x9.setCell ⟨gz, 0, none⟩ (.int .i64 b1)).setCell ⟨gz, 1, none⟩ (.slice ya ys.length yc))) := below_set2 bb9.out hgz _ _
                go_wp2
                clear c0 c1 c2 fz fz2
                generalize ((x9.setCell ⟨gz, 0, none⟩ (.int .i64 b1)).setCell ⟨gz, 1, none⟩ (.slice ya ys.length yc)) = x11 at *
                refine anyNext_mk ⟨⟨_, RD4.out.later bb11.out⟩, rfl⟩ ?_
                refine anyC_pick1 11 (by kernel_rfl) (by kernel_rfl) ?_
                simp only [pickAll, pickAt, List.nil_append, List.cons_append, List.append_nil]
                go_wp2
                refine anyNext_last (anyC_done (by kernel_rfl) ?_)
                go_wp2
                go_meet
                exact ⟨gz, _, rfl, rfl, Z11, Y11, bb11⟩
              · simp only [pickAll, pickAt, List.nil_append, List.cons_append, List.append_nil]
                have c0 := Z9.out.c0
                have c1 := Z9.out.c1
                have fz := Z9.out.fz
                have c2 : (x9.setCell ⟨gz, 0, none⟩ (.int .i64 b1)).cell? ⟨gz, 1, none⟩ = some (.slice none 0 0) := (Z9.out.set0 _).c1
                have fz2 := (Z9.out.set0 (.int .i64 b1)).fz
                have Y13 := Hid.mk7 (Y9.out.set_del Z9.out (.int .i64 b1) (.slice ya ys.length yc))
                have Z13 := Hid.mk7 (Z9.out.set (.int .i64 b1) (.slice ya ys.length yc))
                have bb13 : Hid (Below w4.heap.size w4 ((x9.setCell ⟨gz, 0, none⟩ (.int .i64 b1)).setCell ⟨gz, 1, none⟩ (.slice ya ys.length yc))) := below_set2 bb9.out hgz _ _
                go_wp2
                clear c0 c1 c2 fz fz2
                generalize ((x9.setCell ⟨gz, 0, none⟩ (.int .i64 b1)).setCell ⟨gz, 1, none⟩ (.slice ya ys.length yc)) = x13 at *
                refine anyNext_mk ⟨⟨_, RD4.out.later bb13.out⟩, rfl⟩ ?_
                refine anyC_pick1 8 (by kernel_rfl) (by kernel_rfl) ?_
                simp only [pickAll, pickAt, List.nil_append, List.cons_append, List.append_nil]
                go_wp2
                refine anyNext_mk ⟨⟨_, RD4.out.later bb13.out⟩, rfl⟩ ?_
                refine anyC_pick1 11 (by kernel_rfl) (by kernel_rfl) ?_
                simp only [pickAll, pickAt, List.nil_append, List.cons_append, List.append_nil]
                go_wp2
                refine anyNext_last (anyC_done (by kernel_rfl) ?_)
                go_wp2
                go_meet
                exact ⟨gz, _, rfl, rfl, Z13, Y13, bb13⟩
          · simp only [pickAll, pickAt, List.nil_append, List.cons_append, List.append_nil]
            go_wp2
            refine anyNext_mk ⟨⟨_, RD4.out.later bb2.out⟩, rfl⟩ ?_
            refine anyC_pick2 7 9 (by kernel_rfl) (by kernel_rfl) (by kernel_rfl) ?_ ?_
            · simp only [pickAll, pickAt, List.nil_append, List.cons_append, List.append_nil]
              go_wp2
              refine anyNext_mk ⟨⟨_, RD4.out.later bb2.out⟩, rfl⟩ ?_
              refine anyC_pick1 9 (by kernel_rfl) (by kernel_rfl) ?_
              simp only [pickAll, pickAt, List.nil_append, List.cons_append, List.append_nil]
              have Y18 := Hid.mk7 (Y2.out.alloc (.cells #[.int .i64 0, .slice none 0 0] 24))
              have Z18 : Hid (Rd (x2.alloc (.cells #[.int .i64 0, .slice none 0 0] 24)) x2.heap.size (.int .i64 0) (.slice none 0 0)) := Rd.new _ _ _
              have bb18 : Hid (Below w4.heap.size w4 (x2.alloc (.cells #[.int .i64 0, .slice none 0 0] 24))) := bb2.out.alloc bb2.out.size _
              have hgz := bb2.out.size
              go_wp2
              generalize (x2.alloc (.cells #[.int .i64 0, .slice none 0 0] 24)) = x18 at *
              generalize x2.heap.size = gz at *
              refine anyNext_mk ⟨⟨_, RD4.out.later bb18.out⟩, rfl⟩ ?_
              refine anyC_pick1 10 (by kernel_rfl) (by kernel_rfl) ?_
              simp only [pickAll, pickAt, List.nil_append, List.cons_append, List.append_nil]
              have c0 := Z18.out.c0
              have c1 := Z18.out.c1
              have fz := Z18.out.fz
              have c2 : (x18.setCell ⟨gz, 0, none⟩ (.int .i64 b1)).cell? ⟨gz, 1, none⟩ = some (.slice none 0 0) := (Z18.out.set0 _).c1
              have fz2 := (Z18.out.set0 (.int .i64 b1)).fz
              have Y19 := Hid.mk7 (Y18.out.set_del Z18.out (.int .i64 b1) (.slice ya ys.length yc))
              have Z19 := Hid.mk7 (Z18.out.set (.int .i64 b1) (.slice ya ys.length yc))
              have bb19 : Hid (Below w4.heap.size w4 ((x18.setCell ⟨gz, 0, none⟩ (.int .i64 b1)).setCell ⟨gz, 1, none⟩ (.slice ya ys.length yc))) := below_set2 bb18.out hgz _ _
              go_wp2
              clear c0 c1 c2 fz fz2
              generalize ((x18.setCell ⟨gz, 0, none⟩ (.int .i64 b1)).setCell ⟨gz, 1, none⟩ (.slice ya ys.length yc)) = x19 at *
              refine anyNext_mk ⟨⟨_, RD4.out.later bb19.out⟩, rfl⟩ ?_
              refine anyC_pick1 11 (by kernel_rfl) (by kernel_rfl) ?_
              simp only [pickAll, pickAt, List.nil_append, List.cons_append, List.append_nil]
              go_wp2
              refine anyNext_last (anyC_done (by kernel_rfl) ?_)
              go_wp2
              go_meet
              exact ⟨gz, _, rfl, rfl, Z19, Y19, bb19⟩
            · simp only [pickAll, pickAt, List.nil_append, List.cons_append, List.append_nil]
              have Y21 := Hid.mk7 (Y2.out.alloc (.cells #[.int .i64 0, .slice none 0 0] 24))
              have Z21 : Hid (Rd (x2.alloc (.cells #[.int .i64 0, .slice none 0 0] 24)) x2.heap.size (.int .i64 0) (.slice none 0 0)) := Rd.new _ _ _
              have bb21 : Hid (Below w4.heap.size w4 (x2.alloc (.cells #[.int .i64 0, .slice none 0 0] 24))) := bb2.out.alloc bb2.out.size _
              have hgz := bb2.out.size
              go_wp2
              generalize (x2.alloc (.cells #[.int .i64 0, .slice none 0 0] 24)) = x21 at *
              generalize x2.heap.size = gz at *
              refine anyNext_mk ⟨⟨_, RD4.out.later bb21.out⟩, rfl⟩ ?_
              refine anyC_pick1 7 (by kernel_rfl) (by kernel_rfl) ?_
              simp only [pickAll, pickAt, List.nil_append, List.cons_append, List.append_nil]
              go_wp2
              refine anyNext_mk ⟨⟨_, RD4.out.later bb21.out⟩, rfl⟩ ?_
              refine anyC_pick1 10 (by kernel_rfl) (by kernel_rfl) ?_
              simp only [pickAll, pickAt, List.nil_append, List.cons_append, List.append_nil]
              have c0 := Z21.out.c0
              have c1 := Z21.out.c1
              have fz := Z21.out.fz
              have c2 : (x21.setCell ⟨gz, 0, none⟩ (.int .i64 b1)).cell? ⟨gz, 1, none⟩ = some (.slice none 0 0) := (Z21.out.set0 _).c1
              have fz2 := (Z21.out.set0 (.int .i64 b1)).fz
              have Y23 := Hid.mk7 (Y21.out.set_del Z21.out (.int .i64 b1) (.slice ya ys.length yc))
              have Z23 := Hid.mk7 (Z21.out.set (.int .i64 b1) (.slice ya ys.length yc))
              have bb23 : Hid (Below w4.heap.size w4 ((x21.setCell ⟨gz, 0, none⟩ (.int .i64 b1)).setCell ⟨gz, 1, none⟩ (.slice ya ys.length yc))) := below_set2 bb21.out hgz _ _
              go_wp2
              clear c0 c1 c2 fz fz2
              generalize ((x21.setCell ⟨gz, 0, none⟩ (.int .i64 b1)).setCell ⟨gz, 1, none⟩ (.slice ya ys.length yc)) = x23 at *
              refine anyNext_mk ⟨⟨_, RD4.out.later bb23.out⟩, rfl⟩ ?_
              refine anyC_pick1 11 (by kernel_rfl) (by kernel_rfl) ?_
              simp only [pickAll, pickAt, List.nil_append, List.cons_append, List.append_nil]
              go_wp2
              refine anyNext_last (anyC_done (by kernel_rfl) ?_)
              go_wp2
              go_meet
              exact ⟨gz, _, rfl, rfl, Z23, Y23, bb23⟩
          · simp only [pickAll, pickAt, List.nil_append, List.cons_append, List.append_nil]
            have Y25 := Hid.mk7 (Y2.out.alloc (.cells #[.int .i64 0, .slice none 0 0] 24))
            have Z25 : Hid (Rd (x2.alloc (.cells #[.int .i64 0, .slice none 0 0] 24)) x2.heap.size (.int .i64 0) (.slice none 0 0)) := Rd.new _ _ _
            have bb25 : Hid (Below w4.heap.size w4 (x2.alloc (.cells #[.int .i64 0, .slice none 0 0] 24))) := bb2.out.alloc bb2.out.size _
            have hgz := bb2.out.size
            go_wp2
            generalize (x2.alloc (.cells #[.int .i64 0, .slice none 0 0] 24)) = x25 at *
            generalize x2.heap.size = gz at *
            refine anyNext_mk ⟨⟨_, RD4.out.later bb25.out⟩, rfl⟩ ?_
            refine anyC_pick2 7 8 (by kernel_rfl) (by kernel_rfl) (by kernel_rfl) ?_ ?_
            · simp only [pickAll, pickAt, List.nil_append, List.cons_append, List.append_nil]
              go_wp2
              refine anyNext_mk ⟨⟨_, RD4.out.later bb25.out⟩, rfl⟩ ?_
              refine anyC_pick2 8 10 (by kernel_rfl) (by kernel_rfl) (by kernel_rfl) ?_ ?_
              · simp only [pickAll, pickAt, List.nil_append, List.cons_append, List.append_nil]
                go_wp2
                refine anyNext_mk ⟨⟨_, RD4.out.later bb25.out⟩, rfl⟩ ?_
                refine anyC_pick1 10 (by kernel_rfl) (by kernel_rfl) ?_
                simp only [pickAll, pickAt, List.nil_append, List.cons_append, List.append_nil]
                have c0 := Z25.out.c0
                have c1 := Z25.out.c1
                have fz := Z25.out.fz
                have c2 : (x25.setCell ⟨gz, 0, none⟩ (.int .i64 b1)).cell? ⟨gz, 1, none⟩ = some (.slice none 0 0) := (Z25.out.set0 _).c1
                have fz2 := (Z25.out.set0 (.int .i64 b1)).fz
                have Y28 := Hid.mk7 (Y25.out.set_del Z25.out (.int .i64 b1) (.slice ya ys.length yc))
                have Z28 := Hid.mk7 (Z25.out.set (.int .i64 b1) (.slice ya ys.length yc))
                have bb28 : Hid (Below w4.heap.size w4 ((x25.setCell ⟨gz, 0, none⟩ (.int .i64 b1)).setCell ⟨gz, 1, none⟩ (.slice ya ys.length yc))) := below_set2 bb25.out hgz _ _
                go_wp2
                clear c0 c1 c2 fz fz2
                generalize ((x25.setCell ⟨gz, 0, none⟩ (.int .i64 b1)).setCell ⟨gz, 1, none⟩ (.slice ya ys.length yc)) = x28 at *
                refine anyNext_mk ⟨⟨_, RD4.out.later bb28.out⟩, rfl⟩ ?_
                refine anyC_pick1 11 (by kernel_rfl) (by kernel_rfl) ?_
                simp only [pickAll, pickAt, List.nil_append, List.cons_append, List.append_nil]
                go_wp2
                refine anyNext_last (anyC_done (by kernel_rfl) ?_)
                go_wp2
                go_meet
                exact ⟨gz, _, rfl, rfl, Z28, Y28, bb28⟩
              · simp only [pickAll, pickAt, List.nil_append, List.cons_append, List.append_nil]
                have c0 := Z25.out.c0
                have c1 := Z25.out.c1
                have fz := Z25.out.fz
                have c2 : (x25.setCell ⟨gz, 0, none⟩ (.int .i64 b1)).cell? ⟨gz, 1, none⟩ = some (.slice none 0 0) := (Z25.out.set0 _).c1
                have fz2 := (Z25.out.set0 (.int .i64 b1)).fz
                have Y30 := Hid.mk7 (Y25.out.set_del Z25.out (.int .i64 b1) (.slice ya ys.length yc))
                have Z30 := Hid.mk7 (Z25.out.set (.int .i64 b1) (.slice ya ys.length yc))
                have bb30 : Hid (Below w4.heap.size w4 ((x25.setCell ⟨gz, 0, none⟩ (.int .i64 b1)).setCell ⟨gz, 1, none⟩ (.slice ya ys.length yc))) := below_set2 bb25.out hgz _ _
                go_wp2
                clear c0 c1 c2 fz fz2
                generalize ((x25.setCell ⟨gz, 0, none⟩ (.int .i64 b1)).setCell ⟨gz, 1, none⟩ (.slice ya ys.length yc)) = x30 at *
                refine anyNext_mk ⟨⟨_, RD4.out.later bb30.out⟩, rfl⟩ ?_
                refine anyC_pick1 8 (by kernel_rfl) (by kernel_rfl) ?_
                simp only [pickAll, pickAt, List.nil_append, List.cons_append, List.append_nil]
                go_wp2
                refine anyNext_mk ⟨⟨_, RD4.out.later bb30.out⟩, rfl⟩ ?_
                refine anyC_pick1 11 (by kernel_rfl) (by kernel_rfl) ?_
                simp only [pickAll, pickAt, List.nil_append, List.cons_append, List.append_nil]
                go_wp2
                refine anyNext_last (anyC_done (by kernel_rfl) ?_)
                go_wp2
                go_meet
                exact ⟨gz, _, rfl, rfl, Z30, Y30, bb30⟩
            · simp only [pickAll, pickAt, List.nil_append, List.cons_append, List.append_nil]
              go_wp2
              refine anyNext_mk ⟨⟨_, RD4.out.later bb25.out⟩, rfl⟩ ?_
              refine anyC_pick1 7 (by kernel_rfl) (by kernel_rfl) ?_
              simp only [pickAll, pickAt, List.nil_append, List.cons_append, List.append_nil]
              go_wp2
              refine anyNext_mk ⟨⟨_, RD4.out.later bb25.out⟩, rfl⟩ ?_
              refine anyC_pick1 10 (by kernel_rfl) (by kernel_rfl) ?_
              simp only [pickAll, pickAt, List.nil_append, List.cons_append, List.append_nil]
              have c0 := Z25.out.c0
              have c1 := Z25.out.c1
              have fz := Z25.out.fz
              have c2 : (x25.setCell ⟨gz, 0, none⟩ (.int .i64 b1)).cell? ⟨gz, 1, none⟩ = some (.slice none 0 0) := (Z25.out.set0 _).c1
              have fz2 := (Z25.out.set0 (.int .i64 b1)).fz
              have Y35 := Hid.mk7 (Y25.out.set_del Z25.out (.int .i64 b1) (.slice ya ys.length yc))
              have Z35 := Hid.mk7 (Z25.out.set (.int .i64 b1) (.slice ya ys.length yc))
              have bb35 : Hid (Below w4.heap.size w4 ((x25.setCell ⟨gz, 0, none⟩ (.int .i64 b1)).setCell ⟨gz, 1, none⟩ (.slice ya ys.length yc))) := below_set2 bb25.out hgz _ _
              go_wp2
              clear c0 c1 c2 fz fz2
              generalize ((x25.setCell ⟨gz, 0, none⟩ (.int .i64 b1)).setCell ⟨gz, 1, none⟩ (.slice ya ys.length yc)) = x35 at *
              refine anyNext_mk ⟨⟨_, RD4.out.later bb35.out⟩, rfl⟩ ?_
              refine anyC_pick1 11 (by kernel_rfl) (by kernel_rfl) ?_
              simp only [pickAll, pickAt, List.nil_append, List.cons_append, List.append_nil]
              go_wp2
              refine anyNext_last (anyC_done (by kernel_rfl) ?_)
              go_wp2
              go_meet
              exact ⟨gz, _, rfl, rfl, Z35, Y35, bb35⟩
        · simp only [pickAll, pickAt, List.nil_append, List.cons_append, List.append_nil]
          have Y37 := Hid.mk7 (Y2.out.alloc (.cells #[.int .i64 0, .slice none 0 0] 24))
          have Z37 : Hid (Rd (x2.alloc (.cells #[.int .i64 0, .slice none 0 0] 24)) x2.heap.size (.int .i64 0) (.slice none 0 0)) := Rd.new _ _ _
          have bb37 : Hid (Below w4.heap.size w4 (x2.alloc (.cells #[.int .i64 0, .slice none 0 0] 24))) := bb2.out.alloc bb2.out.size _
          have hgz := bb2.out.size
          go_wp2
          generalize (x2.alloc (.cells #[.int .i64 0, .slice none 0 0] 24)) = x37 at *
          generalize x2.heap.size = gz at *
          refine anyNext_mk ⟨⟨_, RD4.out.later bb37.out⟩, rfl⟩ ?_
          refine anyC_pick1 6 (by kernel_rfl) (by kernel_rfl) ?_
          simp only [pickAll, pickAt, List.nil_append, List.cons_append, List.append_nil]
          go_wp2
          refine anyNext_mk ⟨⟨_, RD4.out.later bb37.out⟩, rfl⟩ ?_
          refine anyC_pick2 7 8 (by kernel_rfl) (by kernel_rfl) (by kernel_rfl) ?_ ?_
          · simp only [pickAll, pickAt, List.nil_append, List.cons_append, List.append_nil]
            go_wp2
            refine anyNext_mk ⟨⟨_, RD4.out.later bb37.out⟩, rfl⟩ ?_
            refine anyC_pick2 8 10 (by kernel_rfl) (by kernel_rfl) (by kernel_rfl) ?_ ?_
            · simp only [pickAll, pickAt, List.nil_append, List.cons_append, List.append_nil]
              go_wp2
              refine anyNext_mk ⟨⟨_, RD4.out.later bb37.out⟩, rfl⟩ ?_
              refine anyC_pick1 10 (by kernel_rfl) (by kernel_rfl) ?_
              simp only [pickAll, pickAt, List.nil_append, List.cons_append, List.append_nil]
              have c0 := Z37.out.c0
              have c1 := Z37.out.c1
              have fz := Z37.out.fz
              have c2 : (x37.setCell ⟨gz, 0, none⟩ (.int .i64 b1)).cell? ⟨gz, 1, none⟩ = some (.slice none 0 0) := (Z37.out.set0 _).c1
              have fz2 := (Z37.out.set0 (.int .i64 b1)).fz
              have Y41 := Hid.mk7 (Y37.out.set_del Z37.out (.int .i64 b1) (.slice ya ys.length yc))
              have Z41 := Hid.mk7 (Z37.out.set (.int .i64 b1) (.slice ya ys.length yc))
              have bb41 : Hid (Below w4.heap.size w4 ((x37.setCell ⟨gz, 0, none⟩ (.int .i64 b1)).setCell ⟨gz, 1, none⟩ (.slice ya ys.length yc))) := below_set2 bb37.out hgz _ _
              go_wp2
              clear c0 c1 c2 fz fz2
              generalize ((x37.setCell ⟨gz, 0, none⟩ (.int .i64 b1)).setCell ⟨gz, 1, none⟩ (.slice ya ys.length yc)) = x41 at *
              refine anyNext_mk ⟨⟨_, RD4.out.later bb41.out⟩, rfl⟩ ?_
              refine anyC_pick1 11 (by kernel_rfl) (by kernel_rfl) ?_
              simp only [pickAll, pickAt, List.nil_append, List.cons_append, List.append_nil]
              go_wp2
              refine anyNext_last (anyC_done (by kernel_rfl) ?_)
              go_wp2
              go_meet
              exact ⟨gz, _, rfl, rfl, Z41, Y41, bb41⟩
            · simp only [pickAll, pickAt, List.nil_append, List.cons_append, List.append_nil]
              have c0 := Z37.out.c0
              have c1 := Z37.out.c1
              have fz := Z37.out.fz
              have c2 : (x37.setCell ⟨gz, 0, none⟩ (.int .i64 b1)).cell? ⟨gz, 1, none⟩ = some (.slice none 0 0) := (Z37.out.set0 _).c1
              have fz2 := (Z37.out.set0 (.int .i64 b1)).fz
              have Y43 := Hid.mk7 (Y37.out.set_del Z37.out (.int .i64 b1) (.slice ya ys.length yc))
              have Z43 := Hid.mk7 (Z37.out.set (.int .i64 b1) (.slice ya ys.length yc))
              have bb43 : Hid (Below w4.heap.size w4 ((x37.setCell ⟨gz, 0, none⟩ (.int .i64 b1)).setCell ⟨gz, 1, none⟩ (.slice ya ys.length yc))) := below_set2 bb37.out hgz _ _
              go_wp2
              clear c0 c1 c2 fz fz2
              generalize ((x37.setCell ⟨gz, 0, none⟩ (.int .i64 b1)).setCell ⟨gz, 1, none⟩ (.slice ya ys.length yc)) = x43 at *
              refine anyNext_mk ⟨⟨_, RD4.out.later bb43.out⟩, rfl⟩ ?_
              refine anyC_pick1 8 (by kernel_rfl) (by kernel_rfl) ?_
              simp only [pickAll, pickAt, List.nil_append, List.cons_append, List.append_nil]
              go_wp2
              refine anyNext_mk ⟨⟨_, RD4.out.later bb43.out⟩, rfl⟩ ?_
              refine anyC_pick1 11 (by kernel_rfl) (by kernel_rfl) ?_
              simp only [pickAll, pickAt, List.nil_append, List.cons_append, List.append_nil]
              go_wp2
              refine anyNext_last (anyC_done (by kernel_rfl) ?_)
              go_wp2
              go_meet
              exact ⟨gz, _, rfl, rfl, Z43, Y43, bb43⟩
          · simp only [pickAll, pickAt, List.nil_append, List.cons_append, List.append_nil]
            go_wp2
            refine anyNext_mk ⟨⟨_, RD4.out.later bb37.out⟩, rfl⟩ ?_
            refine anyC_pick1 7 (by kernel_rfl) (by kernel_rfl) ?_
            simp only [pickAll, pickAt, List.nil_append, List.cons_append, List.append_nil]
            go_wp2
            refine anyNext_mk ⟨⟨_, RD4.out.later bb37.out⟩, rfl⟩ ?_
            refine anyC_pick1 10 (by kernel_rfl) (by kernel_rfl) ?_
            simp only [pickAll, pickAt, List.nil_append, List.cons_append, List.append_nil]
            have c0 := Z37.out.c0
            have c1 := Z37.out.c1
            have fz := Z37.out.fz
            have c2 : (x37.setCell ⟨gz, 0, none⟩ (.int .i64 b1)).cell? ⟨gz, 1, none⟩ = some (.slice none 0 0) := (Z37.out.set0 _).c1
            have fz2 := (Z37.out.set0 (.int .i64 b1)).fz
            have Y48 := Hid.mk7 (Y37.out.set_del Z37.out (.int .i64 b1) (.slice ya ys.length yc))
            have Z48 := Hid.mk7 (Z37.out.set (.int .i64 b1) (.slice ya ys.length yc))
            have bb48 : Hid (Below w4.heap.size w4 ((x37.setCell ⟨gz, 0, none⟩ (.int .i64 b1)).setCell ⟨gz, 1, none⟩ (.slice ya ys.length yc))) := below_set2 bb37.out hgz _ _
            go_wp2
            clear c0 c1 c2 fz fz2
            generalize ((x37.setCell ⟨gz, 0, none⟩ (.int .i64 b1)).setCell ⟨gz, 1, none⟩ (.slice ya ys.length yc)) = x48 at *
            refine anyNext_mk ⟨⟨_, RD4.out.later bb48.out⟩, rfl⟩ ?_
            refine anyC_pick1 11 (by kernel_rfl) (by kernel_rfl) ?_
            simp only [pickAll, pickAt, List.nil_append, List.cons_append, List.append_nil]
            go_wp2
            refine anyNext_last (anyC_done (by kernel_rfl) ?_)
            go_wp2
            go_meet
            exact ⟨gz, _, rfl, rfl, Z48, Y48, bb48⟩
      · simp only [pickAll, pickAt, List.nil_append, List.cons_append, List.append_nil]
        have Y50 := Hid.mk7 (Y1.out.alloc (.cells #[.int .i64 0, .slice none 0 0] 24))
        have Z50 : Hid (Rd (x1.alloc (.cells #[.int .i64 0, .slice none 0 0] 24)) x1.heap.size (.int .i64 0) (.slice none 0 0)) := Rd.new _ _ _
        have bb50 : Hid (Below w4.heap.size w4 (x1.alloc (.cells #[.int .i64 0, .slice none 0 0] 24))) := bb1.out.alloc bb1.out.size _
        have hgz := bb1.out.size
        go_wp2
        generalize (x1.alloc (.cells #[.int .i64 0, .slice none 0 0] 24)) = x50 at *
        generalize x1.heap.size = gz at *
        refine anyNext_mk ⟨⟨_, RD4.out.later bb50.out⟩, rfl⟩ ?_
        refine anyC_pick1 5 (by kernel_rfl) (by kernel_rfl) ?_
        simp only [pickAll, pickAt, List.nil_append, List.cons_append, List.append_nil]
        go_wp2_with fail
        refine (HBU.out _ _ Y50.out (HT.out.later bb50.out)).mono ?_
        rintro e x51 ⟨yv, rfl, hy, bz⟩
        obtain ⟨ya, yc, rfl, _, _, _⟩ := id hy
        have Z51 := Hid.mk7 (Z50.out.later bz)
        have Y51 := Hid.mk7 hy
        have bb51 : Hid (Below w4.heap.size w4 x51) := bb50.out.trans (bz.mono bb50.out.size)
        clear bz hy
        go_wp2
        refine anyNext_mk ⟨⟨_, RD4.out.later bb51.out⟩, rfl⟩ ?_
        refine anyC_pick1 6 (by kernel_rfl) (by kernel_rfl) ?_
        simp only [pickAll, pickAt, List.nil_append, List.cons_append, List.append_nil]
        go_wp2
        refine anyNext_mk ⟨⟨_, RD4.out.later bb51.out⟩, rfl⟩ ?_
        refine anyC_pick2 7 8 (by kernel_rfl) (by kernel_rfl) (by kernel_rfl) ?_ ?_
        · simp only [pickAll, pickAt, List.nil_append, List.cons_append, List.append_nil]
          go_wp2
          refine anyNext_mk ⟨⟨_, RD4.out.later bb51.out⟩, rfl⟩ ?_
          refine anyC_pick2 8 10 (by kernel_rfl) (by kernel_rfl) (by kernel_rfl) ?_ ?_
          · simp only [pickAll, pickAt, List.nil_append, List.cons_append, List.append_nil]
            go_wp2
            refine anyNext_mk ⟨⟨_, RD4.out.later bb51.out⟩, rfl⟩ ?_
            refine anyC_pick1 10 (by kernel_rfl) (by kernel_rfl) ?_
            simp only [pickAll, pickAt, List.nil_append, List.cons_append, List.append_nil]
            have c0 := Z51.out.c0
            have c1 := Z51.out.c1
            have fz := Z51.out.fz
            have c2 : (x51.setCell ⟨gz, 0, none⟩ (.int .i64 b1)).cell? ⟨gz, 1, none⟩ = some (.slice none 0 0) := (Z51.out.set0 _).c1
            have fz2 := (Z51.out.set0 (.int .i64 b1)).fz
            have Y55 := Hid.mk7 (Y51.out.set_del Z51.out (.int .i64 b1) (.slice ya ys.length yc))
            have Z55 := Hid.mk7 (Z51.out.set (.int .i64 b1) (.slice ya ys.length yc))
            have bb55 : Hid (Below w4.heap.size w4 ((x51.setCell ⟨gz, 0, none⟩ (.int .i64 b1)).setCell ⟨gz, 1, none⟩ (.slice ya ys.length yc))) := below_set2 bb51.out hgz _ _
            go_wp2
            clear c0 c1 c2 fz fz2
            generalize ((x51.setCell ⟨gz, 0, none⟩ (.int .i64 b1)).setCell ⟨gz, 1, none⟩ (.slice ya ys.length yc)) = x55 at *
            refine anyNext_mk ⟨⟨_, RD4.out.later bb55.out⟩, rfl⟩ ?_
            refine anyC_pick1 11 (by kernel_rfl) (by kernel_rfl) ?_
            simp only [pickAll, pickAt, List.nil_append, List.cons_append, List.append_nil]
            go_wp2
            refine anyNext_last (anyC_done (by kernel_rfl) ?_)
            go_wp2
            go_meet
            exact ⟨gz, _, rfl, rfl, Z55, Y55, bb55⟩
          · simp only [pickAll, pickAt, List.nil_append, List.cons_append, List.append_nil]
            have c0 := Z51.out.c0
            have c1 := Z51.out.c1
            have fz := Z51.out.fz
            have c2 : (x51.setCell ⟨gz, 0, none⟩ (.int .i64 b1)).cell? ⟨gz, 1, none⟩ = some (.slice none 0 0) := (Z51.out.set0 _).c1
            have fz2 := (Z51.out.set0 (.int .i64 b1)).fz
            have Y57 := Hid.mk7 (Y51.out.set_del Z51.out (.int .i64 b1) (.slice ya ys.length yc))
            have Z57 := Hid.mk7 (Z51.out.set (.int .i64 b1) (.slice ya ys.length yc))
            have bb57 : Hid (Below w4.heap.size w4 ((x51.setCell ⟨gz, 0, none⟩ (.int .i64 b1)).setCell ⟨gz, 1, none⟩ (.slice ya ys.length yc))) := below_set2 bb51.out hgz _ _
            go_wp2
            clear c0 c1 c2 fz fz2
            generalize ((x51.setCell ⟨gz, 0, none⟩ (.int .i64 b1)).setCell ⟨gz, 1, none⟩ (.slice ya ys.length yc)) = x57 at *
            refine anyNext_mk ⟨⟨_, RD4.out.later bb57.out⟩, rfl⟩ ?_
            refine anyC_pick1 8 (by kernel_rfl) (by kernel_rfl) ?_
            simp only [pickAll, pickAt, List.nil_append, List.cons_append, List.append_nil]
            go_wp2
            refine anyNext_mk ⟨⟨_, RD4.out.later bb57.out⟩, rfl⟩ ?_
            refine anyC_pick1 11 (by kernel_rfl) (by kernel_rfl) ?_
            simp only [pickAll, pickAt, List.nil_append, List.cons_append, List.append_nil]
            go_wp2
            refine anyNext_last (anyC_done (by kernel_rfl) ?_)
            go_wp2
            go_meet
            exact ⟨gz, _, rfl, rfl, Z57, Y57, bb57⟩
        · simp only [pickAll, pickAt, List.nil_append, List.cons_append, List.append_nil]
          go_wp2
          refine anyNext_mk ⟨⟨_, RD4.out.later bb51.out⟩, rfl⟩ ?_
          refine anyC_pick1 7 (by kernel_rfl) (by kernel_rfl) ?_
          simp only [pickAll, pickAt, List.nil_append, List.cons_append, List.append_nil]
          go_wp2
          refine anyNext_mk ⟨⟨_, RD4.out.later bb51.out⟩, rfl⟩ ?_
          refine anyC_pick1 10 (by kernel_rfl) (by kernel_rfl) ?_
          simp only [pickAll, pickAt, List.nil_append, List.cons_append, List.append_nil]
          have c0 := Z51.out.c0
          have c1 := Z51.out.c1
          have fz := Z51.out.fz
          have c2 : (x51.setCell ⟨gz, 0, none⟩ (.int .i64 b1)).cell? ⟨gz, 1, none⟩ = some (.slice none 0 0) := (Z51.out.set0 _).c1
          have fz2 := (Z51.out.set0 (.int .i64 b1)).fz
          have Y62 := Hid.mk7 (Y51.out.set_del Z51.out (.int .i64 b1) (.slice ya ys.length yc))
          have Z62 := Hid.mk7 (Z51.out.set (.int .i64 b1) (.slice ya ys.length yc))
          have bb62 : Hid (Below w4.heap.size w4 ((x51.setCell ⟨gz, 0, none⟩ (.int .i64 b1)).setCell ⟨gz, 1, none⟩ (.slice ya ys.length yc))) := below_set2 bb51.out hgz _ _
          go_wp2
          clear c0 c1 c2 fz fz2
          generalize ((x51.setCell ⟨gz, 0, none⟩ (.int .i64 b1)).setCell ⟨gz, 1, none⟩ (.slice ya ys.length yc)) = x62 at *
          refine anyNext_mk ⟨⟨_, RD4.out.later bb62.out⟩, rfl⟩ ?_
          refine anyC_pick1 11 (by kernel_rfl) (by kernel_rfl) ?_
          simp only [pickAll, pickAt, List.nil_append, List.cons_append, List.append_nil]
          go_wp2
          refine anyNext_last (anyC_done (by kernel_rfl) ?_)
          go_wp2
          go_meet
          exact ⟨gz, _, rfl, rfl, Z62, Y62, bb62⟩
    · simp only [pickAll, pickAt, List.nil_append, List.cons_append, List.append_nil]
      have Z64 : Hid (Rd (x0.alloc (.cells #[.int .i64 0, .slice none 0 0] 24)) x0.heap.size (.int .i64 0) (.slice none 0 0)) := Rd.new _ _ _
      have bb64 : Hid (Below w4.heap.size w4 (x0.alloc (.cells #[.int .i64 0, .slice none 0 0] 24))) := bb0.out.alloc bb0.out.size _
      have hgz := bb0.out.size
      go_wp2
      generalize (x0.alloc (.cells #[.int .i64 0, .slice none 0 0] 24)) = x64 at *
      generalize x0.heap.size = gz at *
      refine anyNext_mk ⟨⟨_, RD4.out.later bb64.out⟩, rfl⟩ ?_
      refine anyC_pick1 4 (by kernel_rfl) (by kernel_rfl) ?_
      simp only [pickAll, pickAt, List.nil_append, List.cons_append, List.append_nil]
      go_wp2_with fail
      refine (HIN.out _ (HV.out.later bb64.out)).mono ?_
      rintro e x65 ⟨yv, rfl, hy, bz⟩
      have Y65 := Hid.mk7 hy
      have Z65 := Hid.mk7 (Z64.out.later bz)
      have bb65 : Hid (Below w4.heap.size w4 x65) := bb64.out.trans (bz.mono bb64.out.size)
      clear bz hy
      go_wp2
      refine anyNext_mk ⟨⟨_, RD4.out.later bb65.out⟩, rfl⟩ ?_
      refine anyC_pick1 5 (by kernel_rfl) (by kernel_rfl) ?_
      simp only [pickAll, pickAt, List.nil_append, List.cons_append, List.append_nil]
      go_wp2_with fail
      refine (HBU.out _ _ Y65.out (HT.out.later bb65.out)).mono ?_
      rintro e x66 ⟨yv, rfl, hy, bz⟩
      obtain ⟨ya, yc, rfl, _, _, _⟩ := id hy
      have Z66 := Hid.mk7 (Z65.out.later bz)
      have Y66 := Hid.mk7 hy
      have bb66 : Hid (Below w4.heap.size w4 x66) := bb65.out.trans (bz.mono bb65.out.size)
      clear bz hy
      go_wp2
      refine anyNext_mk ⟨⟨_, RD4.out.later bb66.out⟩, rfl⟩ ?_
      refine anyC_pick1 6 (by kernel_rfl) (by kernel_rfl) ?_
      simp only [pickAll, pickAt, List.nil_append, List.cons_append, List.append_nil]
      go_wp2
      refine anyNext_mk ⟨⟨_, RD4.out.later bb66.out⟩, rfl⟩ ?_
      refine anyC_pick2 7 8 (by kernel_rfl) (by kernel_rfl) (by kernel_rfl) ?_ ?_
      · simp only [pickAll, pickAt, List.nil_append, List.cons_append, List.append_nil]
        go_wp2
        refine anyNext_mk ⟨⟨_, RD4.out.later bb66.out⟩, rfl⟩ ?_
        refine anyC_pick2 8 10 (by kernel_rfl) (by kernel_rfl) (by kernel_rfl) ?_ ?_
        · simp only [pickAll, pickAt, List.nil_append, List.cons_append, List.append_nil]
          go_wp2
          refine anyNext_mk ⟨⟨_, RD4.out.later bb66.out⟩, rfl⟩ ?_
          refine anyC_pick1 10 (by kernel_rfl) (by kernel_rfl) ?_
          simp only [pickAll, pickAt, List.nil_append, List.cons_append, List.append_nil]
          have c0 := Z66.out.c0
          have c1 := Z66.out.c1
          have fz := Z66.out.fz
          have c2 : (x66.setCell ⟨gz, 0, none⟩ (.int .i64 b1)).cell? ⟨gz, 1, none⟩ = some (.slice none 0 0) := (Z66.out.set0 _).c1
          have fz2 := (Z66.out.set0 (.int .i64 b1)).fz
          have Y70 := Hid.mk7 (Y66.out.set_del Z66.out (.int .i64 b1) (.slice ya ys.length yc))
          have Z70 := Hid.mk7 (Z66.out.set (.int .i64 b1) (.slice ya ys.length yc))
          have bb70 : Hid (Below w4.heap.size w4 ((x66.setCell ⟨gz, 0, none⟩ (.int .i64 b1)).setCell ⟨gz, 1, none⟩ (.slice ya ys.length yc))) := below_set2 bb66.out hgz _ _
          go_wp2
          clear c0 c1 c2 fz fz2
          generalize ((x66.setCell ⟨gz, 0, none⟩ (.int .i64 b1)).setCell ⟨gz, 1, none⟩ (.slice ya ys.length yc)) = x70 at *
          refine anyNext_mk ⟨⟨_, RD4.out.later bb70.out⟩, rfl⟩ ?_
          refine anyC_pick1 11 (by kernel_rfl) (by kernel_rfl) ?_
          simp only [pickAll, pickAt, List.nil_append, List.cons_append, List.append_nil]
          go_wp2
          refine anyNext_last (anyC_done (by kernel_rfl) ?_)
          go_wp2
          go_meet
          exact ⟨gz, _, rfl, rfl, Z70, Y70, bb70⟩
        · simp only [pickAll, pickAt, List.nil_append, List.cons_append, List.append_nil]
          have c0 := Z66.out.c0
          have c1 := Z66.out.c1
          have fz := Z66.out.fz
          have c2 : (x66.setCell ⟨gz, 0, none⟩ (.int .i64 b1)).cell? ⟨gz, 1, none⟩ = some (.slice none 0 0) := (Z66.out.set0 _).c1
          have fz2 := (Z66.out.set0 (.int .i64 b1)).fz
          have Y72 := Hid.mk7 (Y66.out.set_del Z66.out (.int .i64 b1) (.slice ya ys.length yc))
          have Z72 := Hid.mk7 (Z66.out.set (.int .i64 b1) (.slice ya ys.length yc))
          have bb72 : Hid (Below w4.heap.size w4 ((x66.setCell ⟨gz, 0, none⟩ (.int .i64 b1)).setCell ⟨gz, 1, none⟩ (.slice ya ys.length yc))) := below_set2 bb66.out hgz _ _
          go_wp2
          clear c0 c1 c2 fz fz2
          generalize ((x66.setCell ⟨gz, 0, none⟩ (.int .i64 b1)).setCell ⟨gz, 1, none⟩ (.slice ya ys.length yc)) = x72 at *
          refine anyNext_mk ⟨⟨_, RD4.out.later bb72.out⟩, rfl⟩ ?_
          refine anyC_pick1 8 (by kernel_rfl) (by kernel_rfl) ?_
          simp only [pickAll, pickAt, List.nil_append, List.cons_append, List.append_nil]
          go_wp2
          refine anyNext_mk ⟨⟨_, RD4.out.later bb72.out⟩, rfl⟩ ?_
          refine anyC_pick1 11 (by kernel_rfl) (by kernel_rfl) ?_
          simp only [pickAll, pickAt, List.nil_append, List.cons_append, List.append_nil]
          go_wp2
          refine anyNext_last (anyC_done (by kernel_rfl) ?_)
          go_wp2
          go_meet
          exact ⟨gz, _, rfl, rfl, Z72, Y72, bb72⟩
      · simp only [pickAll, pickAt, List.nil_append, List.cons_append, List.append_nil]
        go_wp2
        refine anyNext_mk ⟨⟨_, RD4.out.later bb66.out⟩, rfl⟩ ?_
        refine anyC_pick1 7 (by kernel_rfl) (by kernel_rfl) ?_
        simp only [pickAll, pickAt, List.nil_append, List.cons_append, List.append_nil]
        go_wp2
        refine anyNext_mk ⟨⟨_, RD4.out.later bb66.out⟩, rfl⟩ ?_
        refine anyC_pick1 10 (by kernel_rfl) (by kernel_rfl) ?_
        simp only [pickAll, pickAt, List.nil_append, List.cons_append, List.append_nil]
        have c0 := Z66.out.c0
        have c1 := Z66.out.c1
        have fz := Z66.out.fz
        have c2 : (x66.setCell ⟨gz, 0, none⟩ (.int .i64 b1)).cell? ⟨gz, 1, none⟩ = some (.slice none 0 0) := (Z66.out.set0 _).c1
        have fz2 := (Z66.out.set0 (.int .i64 b1)).fz
        have Y77 := Hid.mk7 (Y66.out.set_del Z66.out (.int .i64 b1) (.slice ya ys.length yc))
        have Z77 := Hid.mk7 (Z66.out.set (.int .i64 b1) (.slice ya ys.length yc))
        have bb77 : Hid (Below w4.heap.size w4 ((x66.setCell ⟨gz, 0, none⟩ (.int .i64 b1)).setCell ⟨gz, 1, none⟩ (.slice ya ys.length yc))) := below_set2 bb66.out hgz _ _
        go_wp2
        clear c0 c1 c2 fz fz2
        generalize ((x66.setCell ⟨gz, 0, none⟩ (.int .i64 b1)).setCell ⟨gz, 1, none⟩ (.slice ya ys.length yc)) = x77 at *
        refine anyNext_mk ⟨⟨_, RD4.out.later bb77.out⟩, rfl⟩ ?_
        refine anyC_pick1 11 (by kernel_rfl) (by kernel_rfl) ?_
        simp only [pickAll, pickAt, List.nil_append, List.cons_append, List.append_nil]
        go_wp2
        refine anyNext_last (anyC_done (by kernel_rfl) ?_)
        go_wp2
        go_meet
        exact ⟨gz, _, rfl, rfl, Z77, Y77, bb77⟩
  case rest =>
    obtain ⟨gz, yv, rfl, rfl, RZ, HY, BB⟩ := hcut
    have RR5 := Hid.mk7 (RR4.out.later BB.out)
    have HS5 := Hid.mk7 (HS.out.later BB.out)
    have HB5 := Hid.mk7 (HB.out.trans (BB.out.mono (by rw [← hz1]; exact HB.out.size)))
    obtain ⟨ya, yc, rfl, _, _, _⟩ := id HY.out
    have q0 := RR5.out.c0
    have q1 := RR5.out.c1
    have fz := RR5.out.fz
    have y0 := RZ.out.c0
    have y1 := RZ.out.c1
    clear RD4 RR4 HV HT HS HB BB r0 r1 HIN HBU
    by_cases he : er = 0
    · subst he
      go_wp2
      refine bodyPost_ret (results_del3 rfl _ _ (z1 + 1) _ _ _ _ rfl rfl rfl (RR5.out.set _ _)) rfl ⟨⟨_, _, rfl, HY.out.set_del RR5.out _ _, HS5.out.set_del RR5.out _ _⟩, ?_⟩
      exact below_set2 HB5.out (show z1 ≤ z1 + 1 from by omega) _ _
    · have e0 : (er != 0) = true := by simpa using he
      have e1 : decide (er = 0) = false := by simpa using he
      go_wp2
      refine bodyPost_ret (results_del3 rfl _ _ (z1 + 1) _ _ _ _ rfl rfl rfl (RR5.out.set _ _)) rfl ⟨fun _ => rfl, fun h => absurd h he, ?_⟩
      rw [hz1]
      exact below_set2 HB5.out (show z1 ≤ z1 + 1 from by omega) _ _
set_option maxHeartbeats 2000000 in
set_option maxRecDepth 100000 in
theorem split_no {w : World} {v : Value} {es : List El} (base : Int) (tb : Nat × Nat) (hi : isB base es = false) (hsm : Sm es 20000) (h : ElAt w v es) (hT : Tab w tb) :
    Calls Tryd.prog 10 #[.agg #[.int .i64 base, v]] w fun e w' => e = .returned (.tuple #[.agg #[.int .i64 0, .slice none 0 0], .pointer none, .int .i64 12]) ∧ Below w.heap.size w w' := by
  have BX := below_newE (below_newE (Below.refl w.heap.size w) (.cells #[.int .i64 base, v] 24)) (.cells #[.int .i64 0, .slice none 0 0] 24)
  have RDX := (Rd.new w (.int .i64 base) v).alloc (.cells #[.int .i64 0, .slice none 0 0] 24)
  have RRX : Rd ((w.alloc (.cells #[.int .i64 base, v] 24)).alloc (.cells #[.int .i64 0, .slice none 0 0] 24)) (w.heap.size + 1) (.int .i64 0) (.slice none 0 0) := Rd.new' (by simp) _ _
  have VX := (h.alloc (.cells #[.int .i64 base, v] 24)).alloc (.cells #[.int .i64 0, .slice none 0 0] 24)
  have TX := (hT.nuF (.cells #[.int .i64 base, v] 24)).nuF (.cells #[.int .i64 0, .slice none 0 0] 24)
  have HB2 := Hid.mk7 BX
  have HRR2 := Hid.mk7 RRX
  have HDE := Hid.mk7 (deleted_no base tb hi hsm VX TX)
  have hzr : w.heap.size < w.heap.size + 1 := Nat.lt_succ_self _
  have r0 := RDX.c0
  have r1 := RDX.c1
  clear BX RDX RRX VX TX h hT hi
  go_enter Tryd.func10, Tryd.ntmps10
  go_upto_region 1 with fail
  generalize hz1 : w.heap.size = z1 at *
  generalize (w.alloc (.cells #[.int .i64 base, v] 24)).alloc (.cells #[.int .i64 0, .slice none 0 0] 24) = W2 at *
  go_wp2_with fail
  refine HDE.out.mono ?_
  rintro e w4 ⟨rfl, b4⟩
  have HB := Hid.mk7 (HB2.out.trans (b4.mono (by rw [← hz1]; exact HB2.out.size)))
  have RR4 := Hid.mk7 (HRR2.out.later b4)
  have q0 := RR4.out.c0
  have q1 := RR4.out.c1
  have fz := RR4.out.fz
  clear HB2 HRR2 HDE b4 r0 r1
  go_wp2
  refine bodyPost_ret (results_del3 rfl _ _ (z1 + 1) _ _ _ _ rfl rfl rfl (RR4.out.set _ _)) rfl ⟨rfl, ?_⟩
  rw [hz1]
  exact below_set2 HB.out (show z1 ≤ z1 + 1 from by omega) _ _
/-- Split's answers. -/
theorem split_ok {w : World} {v : Value} {es ys : List El} {base : Int} {tb : Nat × Nat} (hi : isB base es = true) (hq : base + inS es ≤ 20000) (hy : insE base es = ys) (hm : ys.length ≤ 60) (h : ElAt w v es) (hT : Tab w tb) :
    Calls Tryd.prog 10 #[.agg #[.int .i64 base, v]] w fun e w' => ∃ v' p, e = .returned (.tuple #[.agg #[.int .i64 base, v'], p, .int .i64 0]) ∧ ElAt w' v' ys ∧ Sub w' p (gon base 0 es) ∧ Below w.heap.size w w' := by
  have hl := (dl_of hi).len
  have h1 := insX_len es 0
  have h2 := insX_in (base := base) es 0
  have h3 : inS es ≤ 20000 := by have := (dl_of hi).b0; omega
  refine (split_gen (ys := ys) base base 0 tb hi h hT fun W u hu ht => build_v (by rw [insX_flt hi, if_neg (by omega)]) hy hm (fun e he => by have := inS_mem _ e he; omega) (by omega) (by omega) hu ht).mono ?_
  rintro e w' ⟨_, q, b⟩
  obtain ⟨v', p, e1, e2, e3⟩ := q rfl
  exact ⟨v', p, e1, e2, e3, b⟩
theorem split_bad {w : World} {v : Value} {es : List El} {base er : Int} {tb : Nat × Nat} (hi : isB base es = true) (hb : bldE base (insX 0 es) = er) (he : er ≠ 0) (h : ElAt w v es) (hT : Tab w tb) :
    Calls Tryd.prog 10 #[.agg #[.int .i64 base, v]] w fun e w' => e = .returned (.tuple #[.agg #[.int .i64 0, .slice none 0 0], .pointer none, .int .i64 er]) ∧ Below w.heap.size w w' := by
  have hd := dl_of hi
  have hl := hd.len
  have h1 := insX_len es 0
  have h2 := insX_in (base := base) es 0
  have h3 : inS es ≤ 20000 := by have := hd.sz; have := hd.cp0; omega
  have hsm : Sm (insX 0 es) 281474976710656 := fun e he => by have := inS_mem _ e he; omega
  refine (split_gen (ys := []) base 0 er tb hi h hT fun W u hu ht => ?_).mono ?_
  · unfold bldE at hb
    by_cases hf : flt base (insX 0 es) = 0
    · rw [if_neg (by omega)] at hb
      split at hb
      · rename_i hm
        subst hb
        refine (build_many base hu hsm (by omega) (by omega) tb ht hf hm).mono ?_
        rintro e w' ⟨rfl, b⟩
        exact ⟨_, rfl, ElAt.nil _, b⟩
      · exact absurd hb.symm he
    · rw [if_pos hf] at hb
      subst hb
      refine (build_bad base hu hsm (by omega) tb ht hf).mono ?_
      rintro e w' ⟨rfl, b⟩
      exact ⟨_, rfl, ElAt.nil _, b⟩
  · rintro e w' ⟨q, _, b⟩
    exact ⟨q he, b⟩
end Go.Proofs.YtalolaajcmndeaaDoor
namespace Go.Proofs.YtalolaajcmndeaaDoor
open Go.RowKit Go.Sort
set_option linter.unusedSimpArgs false
set_option linter.unusedVariables false

theorem c3_cells {w : World} {g off : Nat} {es : List El} (h : ∀ i e, es[i]? = some e → w.cell? ⟨g, off + i * 3, none⟩ = some (.int .i64 e.1) ∧ w.cell? ⟨g, off + i * 3 + 1, none⟩ = some (.int .i64 e.2.1) ∧ w.cell? ⟨g, off + i * 3 + 2, none⟩ = some (.string (cacc e.2.2))) :
    ∀ j u, (c3 es)[j]? = some u → w.cell? ((⟨g, off, none⟩ : Addr).add j) = some u := by
  intro j u hu
  rw [addr_add7]
  have hj : j < (c3 es).length := (List.getElem?_eq_some_iff.1 hu).1
  rw [c3_length] at hj
  have hi : j / 3 < es.length := by omega
  obtain ⟨e1, e2, e3⟩ := c3_get (List.getElem?_eq_getElem hi)
  obtain ⟨f1, f2, f3⟩ := h _ _ (List.getElem?_eq_getElem hi)
  rcases (show j % 3 = 0 ∨ j % 3 = 1 ∨ j % 3 = 2 from by omega) with hm | hm | hm
  · have : j / 3 * 3 = j := by omega
    rw [this] at e1 f1
    rw [f1, ← e1, hu]
  · have : j / 3 * 3 + 1 = j := by omega
    rw [this] at e2
    rw [Nat.add_assoc, this] at f2
    rw [f2, ← e2, hu]
  · have : j / 3 * 3 + 2 = j := by omega
    rw [this] at e3
    rw [Nat.add_assoc, this] at f3
    rw [f3, ← e3, hu]
set_option maxHeartbeats 800000 in
set_option maxRecDepth 100000 in
theorem eclone_any {w : World} {v : Value} {es : List El} (h : ElAt w v es) (hl : es.length ≤ 1000000) :
    Calls Tryd.prog 48 #[v] w fun e w' => ∃ v', e = .returned v' ∧ OwnE w' w.heap.size v' es ∧ Below w.heap.size w w' := by
  obtain ⟨i0, hi, hz0, hz1, hz2⟩ := info_parts Tryd.info_el
  obtain ⟨a, cap, rfl, hcap, hnone, hcells⟩ := h
  cases a with
  | none =>
    obtain rfl : es = [] := by
      cases es with
      | nil => rfl
      | cons r rs => obtain ⟨_, _, e, _⟩ := hcells 0 r rfl; cases e
    obtain rfl := hnone rfl
    have hnn : ∀ w : World, (binOp .eql 22 (.slice none 0 0) (.slice none 0 0)).run Tryd.prog w = .ok (.bool true) w := fun _ => by kernel_rfl
    clear hcells hnone
    go_enter Tryd.func48, Tryd.ntmps48
    go_wp2
    go_ret
    exact ⟨_, rfl, OwnE.nil _ _, Below.refl _ _⟩
  | some ad =>
    have HC : Hid (∀ j u, (c3 es)[j]? = some u → w.cell? (ad.add j) = some u) := by
      intro j u hu
      cases hrs : es with
      | nil => rw [hrs] at hu; simp [c3] at hu
      | cons r0 rt =>
        obtain ⟨g, off, e, _⟩ := hcells 0 r0 (by rw [hrs]; rfl)
        cases e
        refine c3_cells (fun i r hr => ?_) j u hu
        obtain ⟨g', off', e', h1, h2⟩ := hcells i r hr
        cases e'
        exact ⟨h1, h2⟩
    have hnn : ∀ w : World, (binOp .eql 22 (.slice (some ad) es.length cap) (.slice none 0 0)).run Tryd.prog w = .ok (.bool false) w := fun _ => by kernel_rfl
    have b0 : Below w.heap.size w (w.alloc (Obj.cells #[] 70)) := (Below.refl _ _).alloc (Nat.le_refl _) _
    clear hcells hnone
    go_enter Tryd.func48, Tryd.ntmps48
    go_wp2_with (at_builtin; refine wpList_append_own _ rfl _ _ 22 rfl w.heap.size 70 i0 (.agg #[.int .i64 0, .int .i64 0, .string ⟨#[]⟩]) 3 32 Tryd.underlying22 hi hz0 hz1 hz2 rfl (by decide) _ _ _ rfl (own_empty7 w w.heap.size 70 3 (Nat.le_refl _)) ad es.length cap (c3 es) rfl (c3_length es) ?c1 c3_oneCell ?c3 ?c4 ?c5 ?_)
    case c1 => exact fun j u hu => cell_later7 b0 (Nat.le_refl _) (HC.out j u hu)
    case c3 => unfold maxLen; omega
    case c4 => omega
    case c5 => simp
    intro v' w2 hown' hgrow _
    have hown2 : OwnE w2 w.heap.size v' es := by unfold OwnE; simpa using hown'
    have hb3 : Below w.heap.size w w2 := b0.grown hgrow (by simp) (fun k hk => by simp [Value.ownBlock] at hk; omega)
    clear hown' hgrow HC b0
    go_wp2
    go_ret
    exact ⟨v', rfl, hown2, hb3⟩
/-- A copy of elements, to be gone through: block 1, if there are none. -/
theorem eclone_xl {w : World} {v : Value} {es : List El} (h : ElAt w v es) (hl : es.length ≤ 1000000) (h2 : 1 < w.heap.size) :
    Calls Tryd.prog 48 #[v] w fun e w' => ∃ v' g, e = .returned v' ∧ Xl w' w.heap.size g v' es ∧ g < w'.heap.size ∧ (g = 1 ∨ w.heap.size ≤ g) ∧ Below w.heap.size w w' := by
  refine (eclone_any h hl).mono ?_
  rintro e w' ⟨v', rfl, o, b⟩
  obtain ⟨a, cap, rfl, hc, hg⟩ := own_shapeE o
  by_cases hE : es = []
  · subst hE
    exact ⟨_, 1, rfl, ⟨fun h => absurd rfl h, fun _ => ⟨a, cap, rfl⟩⟩, Nat.lt_of_lt_of_le h2 b.size, Or.inl rfl, b⟩
  · obtain ⟨g, rfl⟩ := hg hE
    have t : Xk w' w.heap.size g (.slice (some ⟨g, 0, none⟩) es.length cap) es := ⟨es, 0, cap, _, o, hc, Nat.zero_le _, rfl, rfl, fun _ => rfl⟩
    exact ⟨_, g, rfl, xl_of t, t.lt.2, Or.inr t.lt.1, b⟩
theorem segs_tlF {w : World} {p : Value} {L : List Int} (h : Sub w p L) (hl : L.length ≤ 20000) :
    Calls Tryd.prog 49 #[p] w fun e w' => ∃ v g, e = .returned v ∧ Tl w' w.heap.size g v (rle L) ∧ g < w'.heap.size ∧ (g = 0 ∨ w.heap.size ≤ g) ∧ Below w.heap.size w w' := by
  have h0 : 0 < w.heap.size := by
    obtain ⟨b, v, _, hc, _⟩ := h
    have := World.block_lt_of_cell? w _ hc
    omega
  refine (segs_tl h hl).mono ?_
  rintro e w' ⟨v, g, rfl, t, hg, b⟩
  by_cases hL : L = []
  · subst hL
    exact ⟨v, 0, rfl, ⟨fun h => absurd rfl h, t.2⟩, Nat.lt_of_lt_of_le h0 b.size, Or.inl rfl, b⟩
  · have hr : rle L ≠ [] := fun e => hL (by rw [← xp_rle L, e]; rfl)
    exact ⟨v, g, rfl, t, hg hL, Or.inr (t.1 hr).lt.1, b⟩
theorem Rd.otherF {w : World} {g g' : Nat} {x y : Value} (h : Rd w g x y) (hne : g ≠ g') (a b : Value) : Rd ((w.setCell ⟨g', 0, none⟩ a).setCell ⟨g', 1, none⟩ b) g x y := by
  unfold Rd; rw [heap_setCell_other _ _ _ _ hne, heap_setCell_other _ _ _ _ hne]; exact h
set_option maxHeartbeats 2000000 in
set_option maxRecDepth 100000 in
theorem join_no {w : World} {v p : Value} {es : List El} (base : Int) (tb : Nat × Nat) (hi : isB base es = false) (hsm : Sm es 20000) (h : ElAt w v es) (hT : Tab w tb) :
    Calls Tryd.prog 21 #[.agg #[.int .i64 base, v], p] w fun e w' => e = .returned (.tuple #[.agg #[.int .i64 0, .slice none 0 0], .int .i64 12]) ∧ Below w.heap.size w w' := by
  have BX := below_newE (below_newE (Below.refl w.heap.size w) (.cells #[.int .i64 base, v] 24)) (.cells #[.int .i64 0, .slice none 0 0] 24)
  have RDX := (Rd.new w (.int .i64 base) v).alloc (.cells #[.int .i64 0, .slice none 0 0] 24)
  have RRX : Rd ((w.alloc (.cells #[.int .i64 base, v] 24)).alloc (.cells #[.int .i64 0, .slice none 0 0] 24)) (w.heap.size + 1) (.int .i64 0) (.slice none 0 0) := Rd.new' (by simp) _ _
  have VX := (h.alloc (.cells #[.int .i64 base, v] 24)).alloc (.cells #[.int .i64 0, .slice none 0 0] 24)
  have TX := (hT.nuF (.cells #[.int .i64 base, v] 24)).nuF (.cells #[.int .i64 0, .slice none 0 0] 24)
  have HB2 := Hid.mk7 BX
  have HR2 := Hid.mk7 RDX
  have HRR2 := Hid.mk7 RRX
  have HV2 := Hid.mk7 VX
  have HT2 := Hid.mk7 TX
  have HIV := Hid.mk7 (is_v hi hsm VX TX)
  have r0 := RDX.c0
  have r1 := RDX.c1
  clear BX RDX RRX VX TX h hT
  go_enter Tryd.func21, Tryd.ntmps21
  go_upto_region 1 with fail
  generalize hz1 : w.heap.size = z1 at *
  generalize (w.alloc (.cells #[.int .i64 base, v] 24)).alloc (.cells #[.int .i64 0, .slice none 0 0] 24) = W2 at *
  have hzz : z1 ≤ W2.heap.size := by rw [← hz1]; exact HB2.out.size
  go_wp2_with fail
  refine HIV.out.mono ?_
  rintro e w3 ⟨rfl, bz⟩
  have HR3 := Hid.mk7 (HR2.out.later bz)
  have HRR3 := Hid.mk7 (HRR2.out.later bz)
  have HV3 := Hid.mk7 (HV2.out.later bz)
  have HT3 := Hid.mk7 (HT2.out.later bz)
  have HB3 := Hid.mk7 (HB2.out.trans (bz.mono (by rw [← hz1]; exact HB2.out.size)))
  clear bz r0 r1 HR2 HRR2 HV2 HT2 HB2
  have r0 := HR3.out.c0
  have r1 := HR3.out.c1
  have q0 := HRR3.out.c0
  have q1 := HRR3.out.c1
  have fz := HRR3.out.fz
  go_wp2
  refine bodyPost_ret (results_del2 rfl _ _ (z1 + 1) _ _ _ rfl rfl (HRR3.out.set _ _)) rfl ⟨rfl, ?_⟩
  rw [hz1]
  exact below_set2 HB3.out (show z1 ≤ z1 + 1 from by omega) _ _
set_option maxHeartbeats 2000000 in
set_option maxRecDepth 100000 in
theorem join_drop {w : World} {v p : Value} {es : List El} (base : Int) (tb : Nat × Nat) (hi : isB base es = true) (hcp : cpS es ≠ base) (h : ElAt w v es) (hT : Tab w tb) :
    Calls Tryd.prog 21 #[.agg #[.int .i64 base, v], p] w fun e w' => e = .returned (.tuple #[.agg #[.int .i64 0, .slice none 0 0], .int .i64 12]) ∧ Below w.heap.size w w' := by
  have BX := below_newE (below_newE (Below.refl w.heap.size w) (.cells #[.int .i64 base, v] 24)) (.cells #[.int .i64 0, .slice none 0 0] 24)
  have RDX := (Rd.new w (.int .i64 base) v).alloc (.cells #[.int .i64 0, .slice none 0 0] 24)
  have RRX : Rd ((w.alloc (.cells #[.int .i64 base, v] 24)).alloc (.cells #[.int .i64 0, .slice none 0 0] 24)) (w.heap.size + 1) (.int .i64 0) (.slice none 0 0) := Rd.new' (by simp) _ _
  have VX := (h.alloc (.cells #[.int .i64 base, v] 24)).alloc (.cells #[.int .i64 0, .slice none 0 0] 24)
  have TX := (hT.nuF (.cells #[.int .i64 base, v] 24)).nuF (.cells #[.int .i64 0, .slice none 0 0] 24)
  have HB2 := Hid.mk7 BX
  have HR2 := Hid.mk7 RDX
  have HRR2 := Hid.mk7 RRX
  have HV2 := Hid.mk7 VX
  have HT2 := Hid.mk7 TX
  have hd := dl_of hi
  have HIV := Hid.mk7 (is_v hi hd.sm VX TX)
  have HDV : Hid (∀ W, ElAt W v es → Tab W tb → Calls Tryd.prog 28 #[.agg #[.int .i64 base, v]] W fun e w' => e = .returned (.int .i64 (base - cpS es)) ∧ Below W.heap.size W w') := fun W h t => drops_v hi rfl h t
  have hcp1 := hd.cp1
  have hpos : 0 < base - cpS es := by omega
  clear hd hcp hcp1 hi
  generalize base - cpS es = dr at *
  have r0 := RDX.c0
  have r1 := RDX.c1
  clear BX RDX RRX VX TX h hT
  go_enter Tryd.func21, Tryd.ntmps21
  go_upto_region 1 with fail
  generalize hz1 : w.heap.size = z1 at *
  generalize (w.alloc (.cells #[.int .i64 base, v] 24)).alloc (.cells #[.int .i64 0, .slice none 0 0] 24) = W2 at *
  have hzz : z1 ≤ W2.heap.size := by rw [← hz1]; exact HB2.out.size
  go_wp2_with fail
  refine HIV.out.mono ?_
  rintro e w3 ⟨rfl, bz⟩
  clear HIV
  have HR3 := Hid.mk7 (HR2.out.later bz)
  have HRR3 := Hid.mk7 (HRR2.out.later bz)
  have HV3 := Hid.mk7 (HV2.out.later bz)
  have HT3 := Hid.mk7 (HT2.out.later bz)
  have HB3 := Hid.mk7 (HB2.out.trans (bz.mono (by rw [← hz1]; exact HB2.out.size)))
  clear bz r0 r1 HR2 HRR2 HV2 HT2 HB2
  have r0 := HR3.out.c0
  have r1 := HR3.out.c1
  go_wp2_with fail
  refine (HDV.out _ HV3.out HT3.out).mono ?_
  rintro e w4 ⟨rfl, bz⟩
  clear HDV
  have HR4 := Hid.mk7 (HR3.out.later bz)
  have HRR4 := Hid.mk7 (HRR3.out.later bz)
  have HV4 := Hid.mk7 (HV3.out.later bz)
  have HT4 := Hid.mk7 (HT3.out.later bz)
  have HB4 := Hid.mk7 (HB3.out.trans (bz.mono (by rw [← hz1]; exact HB3.out.size)))
  clear bz r0 r1 HR3 HRR3 HV3 HT3 HB3
  have r0 := HR4.out.c0
  have r1 := HR4.out.c1
  have q0 := HRR4.out.c0
  have q1 := HRR4.out.c1
  have fz := HRR4.out.fz
  go_wp2
  refine bodyPost_ret (results_del2 rfl _ _ (z1 + 1) _ _ _ rfl rfl (HRR4.out.set _ _)) rfl ⟨rfl, ?_⟩
  rw [hz1]
  exact below_set2 HB4.out (show z1 ≤ z1 + 1 from by omega) _ _
set_option maxHeartbeats 8000000 in
set_option maxRecDepth 100000 in
theorem join_len {w : World} {v p : Value} {es : List El} {L : List Int} (base : Int) (tb : Nat × Nat) (hi : isB base es = true) (hcp : cpS es = base) (hs : Sub w p L) (hL : Ok8 L) (hrl : (rle L).length ≤ 600) (h : ElAt w v es) (hT : Tab w tb)
    (hlen : (L.length : Int) ≠ base) :
    Calls Tryd.prog 21 #[.agg #[.int .i64 base, v], p] w fun e w' => e = .returned (.tuple #[.agg #[.int .i64 0, .slice none 0 0], .int .i64 80]) ∧ Below w.heap.size w w' := by
  have BX := below_newE (below_newE (Below.refl w.heap.size w) (.cells #[.int .i64 base, v] 24)) (.cells #[.int .i64 0, .slice none 0 0] 24)
  have RDX := (Rd.new w (.int .i64 base) v).alloc (.cells #[.int .i64 0, .slice none 0 0] 24)
  have RRX : Rd ((w.alloc (.cells #[.int .i64 base, v] 24)).alloc (.cells #[.int .i64 0, .slice none 0 0] 24)) (w.heap.size + 1) (.int .i64 0) (.slice none 0 0) := Rd.new' (by simp) _ _
  have VX := (h.alloc (.cells #[.int .i64 base, v] 24)).alloc (.cells #[.int .i64 0, .slice none 0 0] 24)
  have TX := (hT.nuF (.cells #[.int .i64 base, v] 24)).nuF (.cells #[.int .i64 0, .slice none 0 0] 24)
  have HB2 := Hid.mk7 BX
  have HR2 := Hid.mk7 RDX
  have HRR2 := Hid.mk7 RRX
  have HV2 := Hid.mk7 VX
  have HT2 := Hid.mk7 TX
  have hd := dl_of hi
  have HIV := Hid.mk7 (is_v hi hd.sm VX TX)
  have HDV : Hid (∀ W, ElAt W v es → Tab W tb → Calls Tryd.prog 28 #[.agg #[.int .i64 base, v]] W fun e w' => e = .returned (.int .i64 0) ∧ Below W.heap.size W w') := fun W h t => drops_v hi (by omega) h t
  have hel := hd.len
  have hb00 := hd.b0
  have hb01 := hd.b1
  have hL1 := hL.1
  have HIS := Hid.mk7 hi
  have HCP := Hid.mk7 hcp
  have HOL := Hid.mk7 hL
  have HRL := Hid.mk7 hrl
  have hzr : w.heap.size < w.heap.size + 1 := Nat.lt_succ_self _
  have HS2 := Hid.mk7 (hs.later BX)
  obtain ⟨pb, pv, rfl, _, _⟩ := id hs
  clear hs
  have dL : (((L.length : Nat) : Int) != base) = true := by simp; omega
  have dL2 : decide (((L.length : Nat) : Int) = base) = false := decide_eq_false hlen
  have HLE := Hid.mk7 hlen
  clear hlen
  clear hd hi hcp hL hrl
  have r0 := RDX.c0
  have r1 := RDX.c1
  clear BX RDX RRX VX TX h hT
  go_enter Tryd.func21, Tryd.ntmps21
  go_upto_region 1 with fail
  generalize hz1 : w.heap.size = z1 at *
  generalize (w.alloc (.cells #[.int .i64 base, v] 24)).alloc (.cells #[.int .i64 0, .slice none 0 0] 24) = W2 at *
  have hzz : z1 ≤ W2.heap.size := by rw [← hz1]; exact HB2.out.size
  have hw2 : 1 < W2.heap.size := by have := HRR2.out.lt; omega
  go_wp2_with fail
  refine HIV.out.mono ?_
  rintro e w3 ⟨rfl, bz⟩
  clear HIV
  have HS3 := Hid.mk7 (HS2.out.later bz)
  clear HS2
  have hw3 := bz.size
  have HR3 := Hid.mk7 (HR2.out.later bz)
  have HRR3 := Hid.mk7 (HRR2.out.later bz)
  have HV3 := Hid.mk7 (HV2.out.later bz)
  have HT3 := Hid.mk7 (HT2.out.later bz)
  have HB3 := Hid.mk7 (HB2.out.trans (bz.mono (by rw [← hz1]; exact HB2.out.size)))
  clear bz r0 r1 HR2 HRR2 HV2 HT2 HB2
  have r0 := HR3.out.c0
  have r1 := HR3.out.c1
  go_wp2_with fail
  refine (HDV.out _ HV3.out HT3.out).mono ?_
  rintro e w4 ⟨rfl, bz⟩
  clear HDV
  have HS4 := Hid.mk7 (HS3.out.later bz)
  clear HS3
  have hw4 := bz.size
  have HR4 := Hid.mk7 (HR3.out.later bz)
  have HRR4 := Hid.mk7 (HRR3.out.later bz)
  have HV4 := Hid.mk7 (HV3.out.later bz)
  have HT4 := Hid.mk7 (HT3.out.later bz)
  have HB4 := Hid.mk7 (HB3.out.trans (bz.mono (by rw [← hz1]; exact HB3.out.size)))
  clear bz r0 r1 HR3 HRR3 HV3 HT3 HB3
  have r0 := HR4.out.c0
  have r1 := HR4.out.c1
  go_upto_region 5 with fail
  have HLC := Hid.mk7 (fun d os => Calls.regrown_of (len_any7 (HS4.out.later (below_regrown w4 d os)) (by omega)))
  have z0 := cell_regrown r0
  have z1' := cell_regrown r1
  clear r0 r1
  refine wp_region_quiet_below (by kernel_rfl) (by kernel_rfl) ?_
  repeat (go_big_quiet_step (exact HLC.out _ _))
  refine wpQuiet_nil ?_
  intro _ hw'
  obtain ⟨⟨dq, osq⟩, hw''⟩ := hw'
  subst hw''
  have bz := below_regrown w4 dq osq
  have RR5 := Hid.mk7 (HRR4.out.later bz)
  have HB := Hid.mk7 (HB4.out.trans (bz.mono (by rw [← hz1]; exact HB4.out.size)))
  clear bz HS4 HR4 HRR4 HV4 HT4 HB4 HLC z0 z1'
  generalize grow (redrawn w4 dq) osq = w5 at *
  have q0 := RR5.out.c0
  have q1 := RR5.out.c1
  have fz := RR5.out.fz
  go_wp2
  refine bodyPost_ret (results_del2 rfl _ _ (z1 + 1) _ _ _ rfl rfl (RR5.out.set _ _)) rfl ⟨rfl, ?_⟩
  rw [hz1]
  exact below_set2 HB.out (show z1 ≤ z1 + 1 from by omega) _ _
set_option maxHeartbeats 8000000 in
set_option maxRecDepth 100000 in
theorem join_gen {w : World} {v p : Value} {es ys : List El} {L : List Int} (base b1 er : Int) (tb : Nat × Nat) (hi : isB base es = true) (hcp : cpS es = base) (hs : Sub w p L) (hL : Ok8 L) (hrl : (rle L).length ≤ 600) (h : ElAt w v es) (hT : Tab w tb)
    (hlen : (L.length : Int) = base)
    (hbu : ∀ W u l, ElAt W u l → Chd base L es l → Tab W tb → Calls Tryd.prog 24 #[.int .i64 base, u] W fun e w' => ∃ v', e = .returned (.tuple #[.agg #[.int .i64 b1, v'], .int .i64 er]) ∧ ElAt w' v' ys ∧ Below W.heap.size W w') :
    Calls Tryd.prog 21 #[.agg #[.int .i64 base, v], p] w fun e w' => ∃ v', e = .returned (.tuple #[.agg #[.int .i64 b1, v'], .int .i64 er]) ∧ ElAt w' v' ys ∧ Below w.heap.size w w' := by
  have BX := below_newE (below_newE (Below.refl w.heap.size w) (.cells #[.int .i64 base, v] 24)) (.cells #[.int .i64 0, .slice none 0 0] 24)
  have RDX := (Rd.new w (.int .i64 base) v).alloc (.cells #[.int .i64 0, .slice none 0 0] 24)
  have RRX : Rd ((w.alloc (.cells #[.int .i64 base, v] 24)).alloc (.cells #[.int .i64 0, .slice none 0 0] 24)) (w.heap.size + 1) (.int .i64 0) (.slice none 0 0) := Rd.new' (by simp) _ _
  have VX := (h.alloc (.cells #[.int .i64 base, v] 24)).alloc (.cells #[.int .i64 0, .slice none 0 0] 24)
  have TX := (hT.nuF (.cells #[.int .i64 base, v] 24)).nuF (.cells #[.int .i64 0, .slice none 0 0] 24)
  have HB2 := Hid.mk7 BX
  have HR2 := Hid.mk7 RDX
  have HRR2 := Hid.mk7 RRX
  have HV2 := Hid.mk7 VX
  have HT2 := Hid.mk7 TX
  have hd := dl_of hi
  have HIV := Hid.mk7 (is_v hi hd.sm VX TX)
  have HDV : Hid (∀ W, ElAt W v es → Tab W tb → Calls Tryd.prog 28 #[.agg #[.int .i64 base, v]] W fun e w' => e = .returned (.int .i64 0) ∧ Below W.heap.size W w') := fun W h t => drops_v hi (by omega) h t
  have hel := hd.len
  have hb00 := hd.b0
  have hb01 := hd.b1
  have hL1 := hL.1
  have HIS := Hid.mk7 hi
  have HCP := Hid.mk7 hcp
  have HOL := Hid.mk7 hL
  have HRL := Hid.mk7 hrl
  have hzr : w.heap.size < w.heap.size + 1 := Nat.lt_succ_self _
  have HS2 := Hid.mk7 (hs.later BX)
  obtain ⟨pb, pv, rfl, _, _⟩ := id hs
  clear hs
  have HLE := Hid.mk7 hlen
  have HBU := Hid.mk7 hbu
  have dL : (((L.length : Nat) : Int) != base) = false := by simp; omega
  have dL2 : decide (((L.length : Nat) : Int) = base) = true := decide_eq_true hlen
  clear hbu hlen
  clear hd hi hcp hL hrl
  have r0 := RDX.c0
  have r1 := RDX.c1
  clear BX RDX RRX VX TX h hT
  go_enter Tryd.func21, Tryd.ntmps21
  go_upto_region 1 with fail
  generalize hz1 : w.heap.size = z1 at *
  generalize (w.alloc (.cells #[.int .i64 base, v] 24)).alloc (.cells #[.int .i64 0, .slice none 0 0] 24) = W2 at *
  have hzz : z1 ≤ W2.heap.size := by rw [← hz1]; exact HB2.out.size
  have hw2 : 1 < W2.heap.size := by have := HRR2.out.lt; omega
  go_wp2_with fail
  refine HIV.out.mono ?_
  rintro e w3 ⟨rfl, bz⟩
  clear HIV
  have HS3 := Hid.mk7 (HS2.out.later bz)
  clear HS2
  have hw3 := bz.size
  have HR3 := Hid.mk7 (HR2.out.later bz)
  have HRR3 := Hid.mk7 (HRR2.out.later bz)
  have HV3 := Hid.mk7 (HV2.out.later bz)
  have HT3 := Hid.mk7 (HT2.out.later bz)
  have HB3 := Hid.mk7 (HB2.out.trans (bz.mono (by rw [← hz1]; exact HB2.out.size)))
  clear bz r0 r1 HR2 HRR2 HV2 HT2 HB2
  have r0 := HR3.out.c0
  have r1 := HR3.out.c1
  go_wp2_with fail
  refine (HDV.out _ HV3.out HT3.out).mono ?_
  rintro e w4 ⟨rfl, bz⟩
  clear HDV
  have HS4 := Hid.mk7 (HS3.out.later bz)
  clear HS3
  have hw4 := bz.size
  have HR4 := Hid.mk7 (HR3.out.later bz)
  have HRR4 := Hid.mk7 (HRR3.out.later bz)
  have HV4 := Hid.mk7 (HV3.out.later bz)
  have HT4 := Hid.mk7 (HT3.out.later bz)
  have HB4 := Hid.mk7 (HB3.out.trans (bz.mono (by rw [← hz1]; exact HB3.out.size)))
  clear bz r0 r1 HR3 HRR3 HV3 HT3 HB3
  have r0 := HR4.out.c0
  have r1 := HR4.out.c1
  go_upto_region 5 with fail
  have HLC := Hid.mk7 (fun d os => Calls.regrown_of (len_any7 (HS4.out.later (below_regrown w4 d os)) (by omega)))
  have z0 := cell_regrown r0
  have z1' := cell_regrown r1
  clear r0 r1
  refine wp_region_quiet_below (by kernel_rfl) (by kernel_rfl) ?_
  repeat (go_big_quiet_step (exact HLC.out _ _))
  refine wpQuiet_nil ?_
  intro _ hw'
  obtain ⟨⟨dq, osq⟩, hw''⟩ := hw'
  subst hw''
  have bz := below_regrown w4 dq osq
  have hw5 := bz.size
  have HS := Hid.mk7 (HS4.out.later bz)
  have RD5 := Hid.mk7 (HR4.out.later bz)
  have RR5 := Hid.mk7 (HRR4.out.later bz)
  have HV := Hid.mk7 (HV4.out.later bz)
  have HT := Hid.mk7 (HT4.out.later bz)
  have HB := Hid.mk7 (HB4.out.trans (bz.mono (by rw [← hz1]; exact HB4.out.size)))
  clear bz HS4 HR4 HRR4 HV4 HT4 HB4 HLC z0 z1'
  generalize grow (redrawn w4 dq) osq = w5 at *
  have hzb : z1 ≤ w5.heap.size := by rw [← hz1]; exact HB.out.size
  have hw55 : 1 < w5.heap.size := by omega
  have r0 := RD5.out.c0
  have r1 := RD5.out.c1
  go_upto_region 7 with fail
  go_cut [5] from 24 to 35 (fun s5 wx => ∃ (yv : Value), s5 = .int .i64 er ∧ Hid (Rd wx (z1 + 1) (.int .i64 b1) yv) ∧ Hid (ElAt wx yv ys) ∧ Hid (Below z1 w wx))
  case first =>
    refine wp_region_turns (fun w' => ∃ q : (GW (fun W => Rd W z1 (.int .i64 base) v)), w' = q.w) [0, 1, 2, 3, 5] 12 8 (by kernel_rfl) (by kernel_rfl) (fun d => ⟨⟨redrawn w5 d, RD5.out.later (below_redrawnE w5 d)⟩, rfl⟩) ?_
    intro d
    have k0 : ∀ q : (GW (fun W => Rd W z1 (.int .i64 base) v)), q.w.cell? ⟨z1, 0, none⟩ = some (.int .i64 base) := fun q => q.h.c0
    have k1 : ∀ q : (GW (fun W => Rd W z1 (.int .i64 base) v)), q.w.cell? ⟨z1, 1, none⟩ = some v := fun q => q.h.c1
    simp only [pickAll, pickAt, List.nil_append, List.cons_append, List.append_nil]
    have hne : Nonempty (GW (fun W => Rd W z1 (.int .i64 base) v)) := ⟨⟨w5, RD5.out⟩⟩
    clear r0 r1
    repeat (go_big_quiet_step (fail))
    refine wpQuiet_nil ?_
    clear hne k0 k1
    have bb0 := Hid.mk7 (below_redrawnE w5 d)
    generalize redrawn w5 d = x0 at *
    refine anyC_pick1 4 (by kernel_rfl) (by kernel_rfl) ?_
    simp only [pickAll, pickAt, List.nil_append, List.cons_append, List.append_nil]
    have hs0 := bb0.out.size
    go_wp2_with fail
    refine (eclone_xl (HV.out.later bb0.out) (by omega) (by omega)).mono ?_
    rintro e x1 ⟨xv, gx, rfl, hx, lx, ox, bz⟩
    have X1 := Hid.mk7 hx
    have hszx := bz.size
    have bb1 : Hid (Below w5.heap.size w5 x1) := bb0.out.trans (bz.mono bb0.out.size)
    clear bz hx
    go_wp2
    refine anyNext_mk ⟨⟨_, RD5.out.later bb1.out⟩, rfl⟩ ?_
    refine anyC_pick1 6 (by kernel_rfl) (by kernel_rfl) ?_
    simp only [pickAll, pickAt, List.nil_append, List.cons_append, List.append_nil]
    go_wp2_with fail
    refine (segs_tlF (HS.out.later bb1.out) hL1).mono ?_
    rintro e x2 ⟨yv0, gy, rfl, hy, ly, oy, bz⟩
    have X2 := Hid.mk7 (X1.out.kept (grown_below bz none) (by simp))
    have YY2 := Hid.mk7 hy
    have hszy := bz.size
    have bb2 : Hid (Below w5.heap.size w5 x2) := bb1.out.trans (bz.mono bb1.out.size)
    clear bz hy
    go_wp2
    refine anyNext_mk ⟨⟨_, RD5.out.later bb2.out⟩, rfl⟩ ?_
    refine anyC_pick1 7 (by kernel_rfl) (by kernel_rfl) ?_
    simp only [pickAll, pickAt, List.nil_append, List.cons_append, List.append_nil]
    go_wp2_with fail
    refine (changes_any (w := w5) x0.heap.size x1.heap.size gx gy HIS.out HCP.out HOL.out HLE.out HRL.out X2.out YY2.out (by omega) (by omega) (by omega) (by omega) (by omega) bb2.out).mono ?_
    rintro e x3 ⟨lv, l, rfl, hl, hch, bz⟩
    have LL3 := Hid.mk7 hl
    have CH := Hid.mk7 hch
    have bb3 := Hid.mk7 bz
    clear bz hl hch lx ly ox oy
    go_wp2
    refine anyNext_mk ⟨⟨_, RD5.out.later bb3.out⟩, rfl⟩ ?_
    refine anyC_pick1 8 (by kernel_rfl) (by kernel_rfl) ?_
    simp only [pickAll, pickAt, List.nil_append, List.cons_append, List.append_nil]
    go_wp2_with fail
    refine (HBU.out _ _ _ LL3.out CH.out (HT.out.later bb3.out)).mono ?_
    rintro e x4 ⟨yv, rfl, hy, bz⟩
    obtain ⟨ya, yc, rfl, _, _, _⟩ := id hy
    have Y4 := Hid.mk7 hy
    have bb4 : Hid (Below w5.heap.size w5 x4) := bb3.out.trans (bz.mono bb3.out.size)
    clear bz hy
    go_wp2
    refine anyNext_mk ⟨⟨_, RD5.out.later bb4.out⟩, rfl⟩ ?_
    refine anyC_pick2 9 10 (by kernel_rfl) (by kernel_rfl) (by kernel_rfl) ?_ ?_
    · simp only [pickAll, pickAt, List.nil_append, List.cons_append, List.append_nil]
      go_wp2
      refine anyNext_mk ⟨⟨_, RD5.out.later bb4.out⟩, rfl⟩ ?_
      refine anyC_pick1 10 (by kernel_rfl) (by kernel_rfl) ?_
      simp only [pickAll, pickAt, List.nil_append, List.cons_append, List.append_nil]
      go_wp2
      refine anyNext_mk ⟨⟨_, RD5.out.later bb4.out⟩, rfl⟩ ?_
      refine anyC_pick1 11 (by kernel_rfl) (by kernel_rfl) ?_
      simp only [pickAll, pickAt, List.nil_append, List.cons_append, List.append_nil]
      have RR7 := RR5.out.later bb4.out
      have c0 := RR7.c0
      have c1 := RR7.c1
      have fz := RR7.fz
      have c2 : (x4.setCell ⟨z1 + 1, 0, none⟩ (.int .i64 b1)).cell? ⟨z1 + 1, 1, none⟩ = some (.slice none 0 0) := (RR7.set0 _).c1
      have fz2 := (RR7.set0 (.int .i64 b1)).fz
      have Y7 := Hid.mk7 (Y4.out.set_del RR7 (.int .i64 b1) (.slice ya ys.length yc))
      have Z7 := Hid.mk7 (RR7.set (.int .i64 b1) (.slice ya ys.length yc))
      have D7 := Hid.mk7 ((RD5.out.later bb4.out).otherF (show z1 ≠ z1 + 1 from by omega) (.int .i64 b1) (.slice ya ys.length yc))
      have BB7 : Hid (Below z1 w ((x4.setCell ⟨z1 + 1, 0, none⟩ (.int .i64 b1)).setCell ⟨z1 + 1, 1, none⟩ (.slice ya ys.length yc))) := below_set2 (HB.out.trans (bb4.out.mono hzb)) (show z1 ≤ z1 + 1 from by omega) _ _
      go_wp2
      clear c0 c1 c2 fz fz2 RR7
      generalize ((x4.setCell ⟨z1 + 1, 0, none⟩ (.int .i64 b1)).setCell ⟨z1 + 1, 1, none⟩ (.slice ya ys.length yc)) = x7 at *
      refine anyNext_mk ⟨⟨_, D7.out⟩, rfl⟩ ?_
      refine anyC_pick1 12 (by kernel_rfl) (by kernel_rfl) ?_
      simp only [pickAll, pickAt, List.nil_append, List.cons_append, List.append_nil]
      go_wp2
      refine anyNext_last (anyC_done (by kernel_rfl) ?_)
      go_wp2
      go_meet
      exact ⟨_, rfl, Z7, Y7, BB7⟩
    · simp only [pickAll, pickAt, List.nil_append, List.cons_append, List.append_nil]
      go_wp2
      refine anyNext_mk ⟨⟨_, RD5.out.later bb4.out⟩, rfl⟩ ?_
      refine anyC_pick1 9 (by kernel_rfl) (by kernel_rfl) ?_
      simp only [pickAll, pickAt, List.nil_append, List.cons_append, List.append_nil]
      go_wp2
      refine anyNext_mk ⟨⟨_, RD5.out.later bb4.out⟩, rfl⟩ ?_
      refine anyC_pick1 11 (by kernel_rfl) (by kernel_rfl) ?_
      simp only [pickAll, pickAt, List.nil_append, List.cons_append, List.append_nil]
      have RR11 := RR5.out.later bb4.out
      have c0 := RR11.c0
      have c1 := RR11.c1
      have fz := RR11.fz
      have c2 : (x4.setCell ⟨z1 + 1, 0, none⟩ (.int .i64 b1)).cell? ⟨z1 + 1, 1, none⟩ = some (.slice none 0 0) := (RR11.set0 _).c1
      have fz2 := (RR11.set0 (.int .i64 b1)).fz
      have Y11 := Hid.mk7 (Y4.out.set_del RR11 (.int .i64 b1) (.slice ya ys.length yc))
      have Z11 := Hid.mk7 (RR11.set (.int .i64 b1) (.slice ya ys.length yc))
      have D11 := Hid.mk7 ((RD5.out.later bb4.out).otherF (show z1 ≠ z1 + 1 from by omega) (.int .i64 b1) (.slice ya ys.length yc))
      have BB11 : Hid (Below z1 w ((x4.setCell ⟨z1 + 1, 0, none⟩ (.int .i64 b1)).setCell ⟨z1 + 1, 1, none⟩ (.slice ya ys.length yc))) := below_set2 (HB.out.trans (bb4.out.mono hzb)) (show z1 ≤ z1 + 1 from by omega) _ _
      go_wp2
      clear c0 c1 c2 fz fz2 RR11
      generalize ((x4.setCell ⟨z1 + 1, 0, none⟩ (.int .i64 b1)).setCell ⟨z1 + 1, 1, none⟩ (.slice ya ys.length yc)) = x11 at *
      refine anyNext_mk ⟨⟨_, D11.out⟩, rfl⟩ ?_
      refine anyC_pick1 12 (by kernel_rfl) (by kernel_rfl) ?_
      simp only [pickAll, pickAt, List.nil_append, List.cons_append, List.append_nil]
      go_wp2
      refine anyNext_last (anyC_done (by kernel_rfl) ?_)
      go_wp2
      go_meet
      exact ⟨_, rfl, Z11, Y11, BB11⟩
  case rest =>
    obtain ⟨yv, rfl, RZ, HY, BB⟩ := hcut
    clear RD5 RR5 HV HT HS HB r0 r1 HBU
    go_wp2
    refine bodyPost_ret (results_del2 rfl _ _ (z1 + 1) _ _ _ rfl rfl RZ.out) rfl ⟨_, rfl, HY.out, ?_⟩
    rw [hz1]
    exact BB.out
end Go.Proofs.YtalolaajcmndeaaDoor
namespace Go.Proofs.YtalolaajcmndeaaDoor
open Go.RowKit Go.Sort
set_option linter.unusedSimpArgs false
set_option linter.unusedVariables false

set_option maxHeartbeats 8000000 in
set_option maxRecDepth 100000 in
theorem join_gennil {w : World} {v : Value} {es ys : List El} {L : List Int} (base b1 er : Int) (tb : Nat × Nat) (hi : isB base es = true) (hcp : cpS es = base) (hnil : L = []) (hL : Ok8 L) (hrl : (rle L).length ≤ 600) (h : ElAt w v es) (hT : Tab w tb)
    (hlen : (L.length : Int) = base)
    (hbu : ∀ W u l, ElAt W u l → Chd base L es l → Tab W tb → Calls Tryd.prog 24 #[.int .i64 base, u] W fun e w' => ∃ v', e = .returned (.tuple #[.agg #[.int .i64 b1, v'], .int .i64 er]) ∧ ElAt w' v' ys ∧ Below W.heap.size W w') :
    Calls Tryd.prog 21 #[.agg #[.int .i64 base, v], .pointer none] w fun e w' => ∃ v', e = .returned (.tuple #[.agg #[.int .i64 b1, v'], .int .i64 er]) ∧ ElAt w' v' ys ∧ Below w.heap.size w w' := by
  subst hnil
  obtain rfl : base = 0 := by simpa using hlen.symm
  have BX := below_newE (below_newE (Below.refl w.heap.size w) (.cells #[.int .i64 0, v] 24)) (.cells #[.int .i64 0, .slice none 0 0] 24)
  have RDX := (Rd.new w (.int .i64 0) v).alloc (.cells #[.int .i64 0, .slice none 0 0] 24)
  have RRX : Rd ((w.alloc (.cells #[.int .i64 0, v] 24)).alloc (.cells #[.int .i64 0, .slice none 0 0] 24)) (w.heap.size + 1) (.int .i64 0) (.slice none 0 0) := Rd.new' (by simp) _ _
  have VX := (h.alloc (.cells #[.int .i64 0, v] 24)).alloc (.cells #[.int .i64 0, .slice none 0 0] 24)
  have TX := (hT.nuF (.cells #[.int .i64 0, v] 24)).nuF (.cells #[.int .i64 0, .slice none 0 0] 24)
  have HB2 := Hid.mk7 BX
  have HR2 := Hid.mk7 RDX
  have HRR2 := Hid.mk7 RRX
  have HV2 := Hid.mk7 VX
  have HT2 := Hid.mk7 TX
  have hd := dl_of hi
  have HIV := Hid.mk7 (is_v hi hd.sm VX TX)
  have HDV : Hid (∀ W, ElAt W v es → Tab W tb → Calls Tryd.prog 28 #[.agg #[.int .i64 0, v]] W fun e w' => e = .returned (.int .i64 0) ∧ Below W.heap.size W w') := fun W h t => drops_v hi (by omega) h t
  have hel := hd.len
  have hb00 := hd.b0
  have hb01 := hd.b1
  have hL1 := hL.1
  have HIS := Hid.mk7 hi
  have HCP := Hid.mk7 hcp
  have HOL := Hid.mk7 hL
  have HRL := Hid.mk7 hrl
  have hzr : w.heap.size < w.heap.size + 1 := Nat.lt_succ_self _
  have HLE := Hid.mk7 hlen
  have HBU := Hid.mk7 hbu
  clear hbu hlen
  clear hd hi hcp hL hrl
  have r0 := RDX.c0
  have r1 := RDX.c1
  clear BX RDX RRX VX TX h hT
  go_enter Tryd.func21, Tryd.ntmps21
  go_upto_region 1 with fail
  generalize hz1 : w.heap.size = z1 at *
  generalize (w.alloc (.cells #[.int .i64 0, v] 24)).alloc (.cells #[.int .i64 0, .slice none 0 0] 24) = W2 at *
  have hzz : z1 ≤ W2.heap.size := by rw [← hz1]; exact HB2.out.size
  have hw2 : 1 < W2.heap.size := by have := HRR2.out.lt; omega
  go_wp2_with fail
  refine HIV.out.mono ?_
  rintro e w3 ⟨rfl, bz⟩
  clear HIV
  have hw3 := bz.size
  have HR3 := Hid.mk7 (HR2.out.later bz)
  have HRR3 := Hid.mk7 (HRR2.out.later bz)
  have HV3 := Hid.mk7 (HV2.out.later bz)
  have HT3 := Hid.mk7 (HT2.out.later bz)
  have HB3 := Hid.mk7 (HB2.out.trans (bz.mono (by rw [← hz1]; exact HB2.out.size)))
  clear bz r0 r1 HR2 HRR2 HV2 HT2 HB2
  have r0 := HR3.out.c0
  have r1 := HR3.out.c1
  go_wp2_with fail
  refine (HDV.out _ HV3.out HT3.out).mono ?_
  rintro e w4 ⟨rfl, bz⟩
  clear HDV
  have hw4 := bz.size
  have HR4 := Hid.mk7 (HR3.out.later bz)
  have HRR4 := Hid.mk7 (HRR3.out.later bz)
  have HV4 := Hid.mk7 (HV3.out.later bz)
  have HT4 := Hid.mk7 (HT3.out.later bz)
  have HB4 := Hid.mk7 (HB3.out.trans (bz.mono (by rw [← hz1]; exact HB3.out.size)))
  clear bz r0 r1 HR3 HRR3 HV3 HT3 HB3
  have r0 := HR4.out.c0
  have r1 := HR4.out.c1
  go_wp2_with fail
  refine (new_any 0 w4 0 rfl (by omega)).mono ?_
  rintro e w4b ⟨p, rfl, hs, bz⟩
  have HS4 : Hid (Sub w4b p []) := hs
  have hw4b := bz.size
  obtain ⟨pb, pv, rfl, _, _⟩ := id hs
  clear hs
  have HR4b := Hid.mk7 (HR4.out.later bz)
  have HRR4b := Hid.mk7 (HRR4.out.later bz)
  have HV4b := Hid.mk7 (HV4.out.later bz)
  have HT4b := Hid.mk7 (HT4.out.later bz)
  have HB4b := Hid.mk7 (HB4.out.trans (bz.mono (by rw [← hz1]; exact HB4.out.size)))
  clear bz r0 r1 HR4 HRR4 HV4 HT4 HB4
  have r0 := HR4b.out.c0
  have r1 := HR4b.out.c1
  have HR4 := HR4b
  have HRR4 := HRR4b
  have HV4 := HV4b
  have HT4 := HT4b
  have HB4 := HB4b
  clear HR4b HRR4b HV4b HT4b HB4b
  generalize w4b = w4' at *
  go_upto_region 5 with fail
  have HLC := Hid.mk7 (fun d os => Calls.regrown_of (len_any7 (HS4.out.later (below_regrown w4' d os)) (by simp)))
  have z0 := cell_regrown r0
  have z1' := cell_regrown r1
  clear r0 r1
  refine wp_region_quiet_below (by kernel_rfl) (by kernel_rfl) ?_
  repeat (go_big_quiet_step (exact HLC.out _ _))
  refine wpQuiet_nil ?_
  intro _ hw'
  obtain ⟨⟨dq, osq⟩, hw''⟩ := hw'
  subst hw''
  have bz := below_regrown w4' dq osq
  have hw5 := bz.size
  have HS := Hid.mk7 (HS4.out.later bz)
  have RD5 := Hid.mk7 (HR4.out.later bz)
  have RR5 := Hid.mk7 (HRR4.out.later bz)
  have HV := Hid.mk7 (HV4.out.later bz)
  have HT := Hid.mk7 (HT4.out.later bz)
  have HB := Hid.mk7 (HB4.out.trans (bz.mono (by rw [← hz1]; exact HB4.out.size)))
  clear bz HS4 HR4 HRR4 HV4 HT4 HB4 HLC z0 z1'
  generalize grow (redrawn w4' dq) osq = w5 at *
  have hzb : z1 ≤ w5.heap.size := by rw [← hz1]; exact HB.out.size
  have hw55 : 1 < w5.heap.size := by omega
  have r0 := RD5.out.c0
  have r1 := RD5.out.c1
  go_upto_region 7 with fail
  go_cut [5] from 24 to 35 (fun s5 wx => ∃ (yv : Value), s5 = .int .i64 er ∧ Hid (Rd wx (z1 + 1) (.int .i64 b1) yv) ∧ Hid (ElAt wx yv ys) ∧ Hid (Below z1 w wx))
  case first =>
    refine wp_region_turns (fun w' => ∃ q : (GW (fun W => Rd W z1 (.int .i64 0) v)), w' = q.w) [0, 1, 2, 3, 5] 12 8 (by kernel_rfl) (by kernel_rfl) (fun d => ⟨⟨redrawn w5 d, RD5.out.later (below_redrawnE w5 d)⟩, rfl⟩) ?_
    intro d
    have k0 : ∀ q : (GW (fun W => Rd W z1 (.int .i64 0) v)), q.w.cell? ⟨z1, 0, none⟩ = some (.int .i64 0) := fun q => q.h.c0
    have k1 : ∀ q : (GW (fun W => Rd W z1 (.int .i64 0) v)), q.w.cell? ⟨z1, 1, none⟩ = some v := fun q => q.h.c1
    simp only [pickAll, pickAt, List.nil_append, List.cons_append, List.append_nil]
    have hne : Nonempty (GW (fun W => Rd W z1 (.int .i64 0) v)) := ⟨⟨w5, RD5.out⟩⟩
    clear r0 r1
    repeat (go_big_quiet_step (fail))
    refine wpQuiet_nil ?_
    clear hne k0 k1
    have bb0 := Hid.mk7 (below_redrawnE w5 d)
    generalize redrawn w5 d = x0 at *
    refine anyC_pick1 4 (by kernel_rfl) (by kernel_rfl) ?_
    simp only [pickAll, pickAt, List.nil_append, List.cons_append, List.append_nil]
    have hs0 := bb0.out.size
    go_wp2_with fail
    refine (eclone_xl (HV.out.later bb0.out) (by omega) (by omega)).mono ?_
    rintro e x1 ⟨xv, gx, rfl, hx, lx, ox, bz⟩
    have X1 := Hid.mk7 hx
    have hszx := bz.size
    have bb1 : Hid (Below w5.heap.size w5 x1) := bb0.out.trans (bz.mono bb0.out.size)
    clear bz hx
    go_wp2
    refine anyNext_mk ⟨⟨_, RD5.out.later bb1.out⟩, rfl⟩ ?_
    refine anyC_pick1 6 (by kernel_rfl) (by kernel_rfl) ?_
    simp only [pickAll, pickAt, List.nil_append, List.cons_append, List.append_nil]
    go_wp2_with fail
    refine (segs_tlF (HS.out.later bb1.out) hL1).mono ?_
    rintro e x2 ⟨yv0, gy, rfl, hy, ly, oy, bz⟩
    have X2 := Hid.mk7 (X1.out.kept (grown_below bz none) (by simp))
    have YY2 := Hid.mk7 hy
    have hszy := bz.size
    have bb2 : Hid (Below w5.heap.size w5 x2) := bb1.out.trans (bz.mono bb1.out.size)
    clear bz hy
    go_wp2
    refine anyNext_mk ⟨⟨_, RD5.out.later bb2.out⟩, rfl⟩ ?_
    refine anyC_pick1 7 (by kernel_rfl) (by kernel_rfl) ?_
    simp only [pickAll, pickAt, List.nil_append, List.cons_append, List.append_nil]
    go_wp2_with fail
    refine (changes_any (w := w5) x0.heap.size x1.heap.size gx gy HIS.out HCP.out HOL.out HLE.out HRL.out X2.out YY2.out (by omega) (by omega) (by omega) (by omega) (by omega) bb2.out).mono ?_
    rintro e x3 ⟨lv, l, rfl, hl, hch, bz⟩
    have LL3 := Hid.mk7 hl
    have CH := Hid.mk7 hch
    have bb3 := Hid.mk7 bz
    clear bz hl hch lx ly ox oy
    go_wp2
    refine anyNext_mk ⟨⟨_, RD5.out.later bb3.out⟩, rfl⟩ ?_
    refine anyC_pick1 8 (by kernel_rfl) (by kernel_rfl) ?_
    simp only [pickAll, pickAt, List.nil_append, List.cons_append, List.append_nil]
    go_wp2_with fail
    refine (HBU.out _ _ _ LL3.out CH.out (HT.out.later bb3.out)).mono ?_
    rintro e x4 ⟨yv, rfl, hy, bz⟩
    obtain ⟨ya, yc, rfl, _, _, _⟩ := id hy
    have Y4 := Hid.mk7 hy
    have bb4 : Hid (Below w5.heap.size w5 x4) := bb3.out.trans (bz.mono bb3.out.size)
    clear bz hy
    go_wp2
    refine anyNext_mk ⟨⟨_, RD5.out.later bb4.out⟩, rfl⟩ ?_
    refine anyC_pick2 9 10 (by kernel_rfl) (by kernel_rfl) (by kernel_rfl) ?_ ?_
    · simp only [pickAll, pickAt, List.nil_append, List.cons_append, List.append_nil]
      go_wp2
      refine anyNext_mk ⟨⟨_, RD5.out.later bb4.out⟩, rfl⟩ ?_
      refine anyC_pick1 10 (by kernel_rfl) (by kernel_rfl) ?_
      simp only [pickAll, pickAt, List.nil_append, List.cons_append, List.append_nil]
      go_wp2
      refine anyNext_mk ⟨⟨_, RD5.out.later bb4.out⟩, rfl⟩ ?_
      refine anyC_pick1 11 (by kernel_rfl) (by kernel_rfl) ?_
      simp only [pickAll, pickAt, List.nil_append, List.cons_append, List.append_nil]
      have RR7 := RR5.out.later bb4.out
      have c0 := RR7.c0
      have c1 := RR7.c1
      have fz := RR7.fz
      have c2 : (x4.setCell ⟨z1 + 1, 0, none⟩ (.int .i64 b1)).cell? ⟨z1 + 1, 1, none⟩ = some (.slice none 0 0) := (RR7.set0 _).c1
      have fz2 := (RR7.set0 (.int .i64 b1)).fz
      have Y7 := Hid.mk7 (Y4.out.set_del RR7 (.int .i64 b1) (.slice ya ys.length yc))
      have Z7 := Hid.mk7 (RR7.set (.int .i64 b1) (.slice ya ys.length yc))
      have D7 := Hid.mk7 ((RD5.out.later bb4.out).otherF (show z1 ≠ z1 + 1 from by omega) (.int .i64 b1) (.slice ya ys.length yc))
      have BB7 : Hid (Below z1 w ((x4.setCell ⟨z1 + 1, 0, none⟩ (.int .i64 b1)).setCell ⟨z1 + 1, 1, none⟩ (.slice ya ys.length yc))) := below_set2 (HB.out.trans (bb4.out.mono hzb)) (show z1 ≤ z1 + 1 from by omega) _ _
      go_wp2
      clear c0 c1 c2 fz fz2 RR7
      generalize ((x4.setCell ⟨z1 + 1, 0, none⟩ (.int .i64 b1)).setCell ⟨z1 + 1, 1, none⟩ (.slice ya ys.length yc)) = x7 at *
      refine anyNext_mk ⟨⟨_, D7.out⟩, rfl⟩ ?_
      refine anyC_pick1 12 (by kernel_rfl) (by kernel_rfl) ?_
      simp only [pickAll, pickAt, List.nil_append, List.cons_append, List.append_nil]
      go_wp2
      refine anyNext_last (anyC_done (by kernel_rfl) ?_)
      go_wp2
      go_meet
      exact ⟨_, rfl, Z7, Y7, BB7⟩
    · simp only [pickAll, pickAt, List.nil_append, List.cons_append, List.append_nil]
      go_wp2
      refine anyNext_mk ⟨⟨_, RD5.out.later bb4.out⟩, rfl⟩ ?_
      refine anyC_pick1 9 (by kernel_rfl) (by kernel_rfl) ?_
      simp only [pickAll, pickAt, List.nil_append, List.cons_append, List.append_nil]
      go_wp2
      refine anyNext_mk ⟨⟨_, RD5.out.later bb4.out⟩, rfl⟩ ?_
      refine anyC_pick1 11 (by kernel_rfl) (by kernel_rfl) ?_
      simp only [pickAll, pickAt, List.nil_append, List.cons_append, List.append_nil]
      have RR11 := RR5.out.later bb4.out
      have c0 := RR11.c0
      have c1 := RR11.c1
      have fz := RR11.fz
      have c2 : (x4.setCell ⟨z1 + 1, 0, none⟩ (.int .i64 b1)).cell? ⟨z1 + 1, 1, none⟩ = some (.slice none 0 0) := (RR11.set0 _).c1
      have fz2 := (RR11.set0 (.int .i64 b1)).fz
      have Y11 := Hid.mk7 (Y4.out.set_del RR11 (.int .i64 b1) (.slice ya ys.length yc))
      have Z11 := Hid.mk7 (RR11.set (.int .i64 b1) (.slice ya ys.length yc))
      have D11 := Hid.mk7 ((RD5.out.later bb4.out).otherF (show z1 ≠ z1 + 1 from by omega) (.int .i64 b1) (.slice ya ys.length yc))
      have BB11 : Hid (Below z1 w ((x4.setCell ⟨z1 + 1, 0, none⟩ (.int .i64 b1)).setCell ⟨z1 + 1, 1, none⟩ (.slice ya ys.length yc))) := below_set2 (HB.out.trans (bb4.out.mono hzb)) (show z1 ≤ z1 + 1 from by omega) _ _
      go_wp2
      clear c0 c1 c2 fz fz2 RR11
      generalize ((x4.setCell ⟨z1 + 1, 0, none⟩ (.int .i64 b1)).setCell ⟨z1 + 1, 1, none⟩ (.slice ya ys.length yc)) = x11 at *
      refine anyNext_mk ⟨⟨_, D11.out⟩, rfl⟩ ?_
      refine anyC_pick1 12 (by kernel_rfl) (by kernel_rfl) ?_
      simp only [pickAll, pickAt, List.nil_append, List.cons_append, List.append_nil]
      go_wp2
      refine anyNext_last (anyC_done (by kernel_rfl) ?_)
      go_wp2
      go_meet
      exact ⟨_, rfl, Z11, Y11, BB11⟩
  case rest =>
    obtain ⟨yv, rfl, RZ, HY, BB⟩ := hcut
    clear RD5 RR5 HV HT HS HB r0 r1 HBU
    go_wp2
    refine bodyPost_ret (results_del2 rfl _ _ (z1 + 1) _ _ _ rfl rfl RZ.out) rfl ⟨_, rfl, HY.out, ?_⟩
    rw [hz1]
    exact BB.out
/-- Join's answers. -/
theorem join_bld {base b1 er : Int} {es ys : List El} {L : List Int} {tb : Nat × Nat} (hi : isB base es = true) (hrl : (rle L).length ≤ 600) (hy : tld (fil L (cel es)) = ys) (hr : (ys.length ≤ 60 ∧ b1 = base ∧ er = 0) ∨ (60 < ys.length ∧ b1 = 0 ∧ er = 70)) :
    ∃ zs, (ys.length ≤ 60 → zs = ys) ∧ ∀ W u l, ElAt W u l → Chd base L es l → Tab W tb → Calls Tryd.prog 24 #[.int .i64 base, u] W fun e w' => ∃ v', e = .returned (.tuple #[.agg #[.int .i64 b1, v'], .int .i64 er]) ∧ ElAt w' v' zs ∧ Below W.heap.size W w' := by
  have hd := dl_of hi
  have hin : inS es ≤ 20000 := by have := hd.sz; have := hd.cp0; omega
  have hel := hd.len
  rcases hr with ⟨hm, rfl, rfl⟩ | ⟨hm, rfl, rfl⟩
  · refine ⟨ys, fun _ => rfl, fun W u l hu hc ht => ?_⟩
    have g := gd_of hc.fl
    have h1 := hc.ins
    have h2 := hc.cnt
    exact build_v hc.fl (by rw [elG_tld g.ch, hc.ce, hy]) hm (fun e he => by have := inS_mem _ e he; omega) (by omega) (by omega) hu ht
  · refine ⟨[], fun h => by omega, fun W u l hu hc ht => ?_⟩
    have g := gd_of hc.fl
    have h1 := hc.ins
    have h2 := hc.cnt
    refine (build_many base hu (fun e he => by have := inS_mem _ e he; omega) (by omega) (by omega) tb ht hc.fl (by rw [elG_tld g.ch, hc.ce, hy]; exact hm)).mono ?_
    rintro e w' ⟨rfl, b⟩
    exact ⟨_, rfl, ElAt.nil _, b⟩
theorem join_ok {w : World} {v p : Value} {es ys : List El} {L : List Int} {base : Int} {tb : Nat × Nat} (hi : isB base es = true) (hcp : cpS es = base) (hs : Sub w p L) (hL : Ok8 L) (hrl : (rle L).length ≤ 600) (hlen : (L.length : Int) = base) (hy : tld (fil L (cel es)) = ys) (hm : ys.length ≤ 60) (h : ElAt w v es) (hT : Tab w tb) :
    Calls Tryd.prog 21 #[.agg #[.int .i64 base, v], p] w fun e w' => ∃ v', e = .returned (.tuple #[.agg #[.int .i64 base, v'], .int .i64 0]) ∧ ElAt w' v' ys ∧ Below w.heap.size w w' := by
  obtain ⟨zs, h1, h2⟩ := join_bld (tb := tb) (b1 := base) (er := 0) hi hrl hy (Or.inl ⟨hm, rfl, rfl⟩)
  rw [h1 hm] at h2
  exact join_gen base base 0 tb hi hcp hs hL hrl h hT hlen h2
theorem join_many {w : World} {v p : Value} {es ys : List El} {L : List Int} {base : Int} {tb : Nat × Nat} (hi : isB base es = true) (hcp : cpS es = base) (hs : Sub w p L) (hL : Ok8 L) (hrl : (rle L).length ≤ 600) (hlen : (L.length : Int) = base) (hy : tld (fil L (cel es)) = ys) (hm : 60 < ys.length) (h : ElAt w v es) (hT : Tab w tb) :
    Calls Tryd.prog 21 #[.agg #[.int .i64 base, v], p] w fun e w' => ∃ v', e = .returned (.tuple #[.agg #[.int .i64 0, v'], .int .i64 70]) ∧ Below w.heap.size w w' := by
  obtain ⟨zs, _, h2⟩ := join_bld (tb := tb) (b1 := 0) (er := 70) hi hrl hy (Or.inr ⟨hm, rfl, rfl⟩)
  refine (join_gen base 0 70 tb hi hcp hs hL hrl h hT hlen h2).mono ?_
  rintro e w' ⟨v', rfl, _, b⟩
  exact ⟨v', rfl, b⟩
theorem join_nil {w : World} {v : Value} {es ys : List El} {tb : Nat × Nat} (hi : isB 0 es = true) (hcp : cpS es = 0) (hy : tld (fil [] (cel es)) = ys) (hm : ys.length ≤ 60) (h : ElAt w v es) (hT : Tab w tb) :
    Calls Tryd.prog 21 #[.agg #[.int .i64 0, v], .pointer none] w fun e w' => ∃ v', e = .returned (.tuple #[.agg #[.int .i64 0, v'], .int .i64 0]) ∧ ElAt w' v' ys ∧ Below w.heap.size w w' := by
  obtain ⟨zs, h1, h2⟩ := join_bld (tb := tb) (L := []) (b1 := 0) (er := 0) hi (by simp [rle]) hy (Or.inl ⟨hm, rfl, rfl⟩)
  rw [h1 hm] at h2
  exact join_gennil 0 0 0 tb hi hcp rfl ⟨by simp, fun c hc => by cases hc⟩ (by simp [rle]) h hT rfl h2
end Go.Proofs.YtalolaajcmndeaaDoor
