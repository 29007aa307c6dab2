/- factor's Join: nil; its answers. -/
import Derived.Test.YtalolaajcmndeaaDoorFacJoin
namespace Go.Proofs.YtalolaajcmndeaaDoor
open Go.RowKit Go.Sort
set_option linter.unusedSimpArgs false
set_option linter.unusedVariables false

set_option maxHeartbeats 8000000 in
set_option maxRecDepth 100000 in
theorem join_gennil {w : World} {v : Value} {es ys : List El} {L : List Int} (base b1 er : Int) (tb : Nat × Nat) (hi : isB base es = true) (hcp : cpS es = base) (hnil : L = []) (hL : Ok8 L) (hrl : (rle L).length ≤ 600) (h : ElAt w v es) (hT : Tab w tb)
    (hlen : (L.length : Int) = base)
    (hbu : ∀ W u l, ElAt W u l → Chd base L es l → Tab W tb → Calls Tryd.prog 24 #[.int .i64 base, u] W fun e w' => ∃ v', e = .returned (.tuple #[.agg #[.int .i64 b1, v'], .int .i64 er]) ∧ ElAt w' v' ys ∧ Below W.heap.size W w') :
    Calls Tryd.prog 21 #[.agg #[.int .i64 base, v], .pointer none] w fun e w' => ∃ v', e = .returned (.tuple #[.agg #[.int .i64 b1, v'], .int .i64 er]) ∧ ElAt w' v' ys ∧ Below w.heap.size w w' := by
  subst hnil
  obtain rfl : base = 0 := by simpa using hlen.symm
  have BX := below_newE (below_newE (Below.refl w.heap.size w) (.cells #[.int .i64 0, v] 24)) (.cells #[.int .i64 0, .slice none 0 0] 24)
  have RDX := (Rd.new w (.int .i64 0) v).alloc (.cells #[.int .i64 0, .slice none 0 0] 24)
  have RRX : Rd ((w.alloc (.cells #[.int .i64 0, v] 24)).alloc (.cells #[.int .i64 0, .slice none 0 0] 24)) (w.heap.size + 1) (.int .i64 0) (.slice none 0 0) := Rd.new' (by simp) _ _
  have VX := (h.alloc (.cells #[.int .i64 0, v] 24)).alloc (.cells #[.int .i64 0, .slice none 0 0] 24)
  have TX := (hT.nuF (.cells #[.int .i64 0, v] 24)).nuF (.cells #[.int .i64 0, .slice none 0 0] 24)
  have HB2 := Hid.mk7 BX
  have HR2 := Hid.mk7 RDX
  have HRR2 := Hid.mk7 RRX
  have HV2 := Hid.mk7 VX
  have HT2 := Hid.mk7 TX
  have hd := dl_of hi
  have HIV := Hid.mk7 (is_v hi hd.sm VX TX)
  have HDV : Hid (∀ W, ElAt W v es → Tab W tb → Calls Tryd.prog 28 #[.agg #[.int .i64 0, v]] W fun e w' => e = .returned (.int .i64 0) ∧ Below W.heap.size W w') := fun W h t => drops_v hi (by omega) h t
  have hel := hd.len
  have hb00 := hd.b0
  have hb01 := hd.b1
  have hL1 := hL.1
  have HIS := Hid.mk7 hi
  have HCP := Hid.mk7 hcp
  have HOL := Hid.mk7 hL
  have HRL := Hid.mk7 hrl
  have hzr : w.heap.size < w.heap.size + 1 := Nat.lt_succ_self _
  have HLE := Hid.mk7 hlen
  have HBU := Hid.mk7 hbu
  clear hbu hlen
  clear hd hi hcp hL hrl
  have r0 := RDX.c0
  have r1 := RDX.c1
  clear BX RDX RRX VX TX h hT
  go_enter Tryd.func21, Tryd.ntmps21
  go_upto_region 1 with fail
  generalize hz1 : w.heap.size = z1 at *
  generalize (w.alloc (.cells #[.int .i64 0, v] 24)).alloc (.cells #[.int .i64 0, .slice none 0 0] 24) = W2 at *
  have hzz : z1 ≤ W2.heap.size := by rw [← hz1]; exact HB2.out.size
  have hw2 : 1 < W2.heap.size := by have := HRR2.out.lt; omega
  go_wp2_with fail
  refine HIV.out.mono ?_
  rintro e w3 ⟨rfl, bz⟩
  clear HIV
  have hw3 := bz.size
  have HR3 := Hid.mk7 (HR2.out.later bz)
  have HRR3 := Hid.mk7 (HRR2.out.later bz)
  have HV3 := Hid.mk7 (HV2.out.later bz)
  have HT3 := Hid.mk7 (HT2.out.later bz)
  have HB3 := Hid.mk7 (HB2.out.trans (bz.mono (by rw [← hz1]; exact HB2.out.size)))
  clear bz r0 r1 HR2 HRR2 HV2 HT2 HB2
  have r0 := HR3.out.c0
  have r1 := HR3.out.c1
  go_wp2_with fail
  refine (HDV.out _ HV3.out HT3.out).mono ?_
  rintro e w4 ⟨rfl, bz⟩
  clear HDV
  have hw4 := bz.size
  have HR4 := Hid.mk7 (HR3.out.later bz)
  have HRR4 := Hid.mk7 (HRR3.out.later bz)
  have HV4 := Hid.mk7 (HV3.out.later bz)
  have HT4 := Hid.mk7 (HT3.out.later bz)
  have HB4 := Hid.mk7 (HB3.out.trans (bz.mono (by rw [← hz1]; exact HB3.out.size)))
  clear bz r0 r1 HR3 HRR3 HV3 HT3 HB3
  have r0 := HR4.out.c0
  have r1 := HR4.out.c1
  go_wp2_with fail
  refine (new_any 0 w4 0 rfl (by omega)).mono ?_
  rintro e w4b ⟨p, rfl, hs, bz⟩
  have HS4 : Hid (Sub w4b p []) := hs
  have hw4b := bz.size
  obtain ⟨pb, pv, rfl, _, _⟩ := id hs
  clear hs
  have HR4b := Hid.mk7 (HR4.out.later bz)
  have HRR4b := Hid.mk7 (HRR4.out.later bz)
  have HV4b := Hid.mk7 (HV4.out.later bz)
  have HT4b := Hid.mk7 (HT4.out.later bz)
  have HB4b := Hid.mk7 (HB4.out.trans (bz.mono (by rw [← hz1]; exact HB4.out.size)))
  clear bz r0 r1 HR4 HRR4 HV4 HT4 HB4
  have r0 := HR4b.out.c0
  have r1 := HR4b.out.c1
  have HR4 := HR4b
  have HRR4 := HRR4b
  have HV4 := HV4b
  have HT4 := HT4b
  have HB4 := HB4b
  clear HR4b HRR4b HV4b HT4b HB4b
  generalize w4b = w4' at *
  go_upto_region 5 with fail
  have HLC := Hid.mk7 (fun d os => Calls.regrown_of (len_any7 (HS4.out.later (below_regrown w4' d os)) (by simp)))
  have z0 := cell_regrown r0
  have z1' := cell_regrown r1
  clear r0 r1
  refine wp_region_quiet_below (by kernel_rfl) (by kernel_rfl) ?_
  repeat (go_big_quiet_step (exact HLC.out _ _))
  refine wpQuiet_nil ?_
  intro _ hw'
  obtain ⟨⟨dq, osq⟩, hw''⟩ := hw'
  subst hw''
  have bz := below_regrown w4' dq osq
  have hw5 := bz.size
  have HS := Hid.mk7 (HS4.out.later bz)
  have RD5 := Hid.mk7 (HR4.out.later bz)
  have RR5 := Hid.mk7 (HRR4.out.later bz)
  have HV := Hid.mk7 (HV4.out.later bz)
  have HT := Hid.mk7 (HT4.out.later bz)
  have HB := Hid.mk7 (HB4.out.trans (bz.mono (by rw [← hz1]; exact HB4.out.size)))
  clear bz HS4 HR4 HRR4 HV4 HT4 HB4 HLC z0 z1'
  generalize grow (redrawn w4' dq) osq = w5 at *
  have hzb : z1 ≤ w5.heap.size := by rw [← hz1]; exact HB.out.size
  have hw55 : 1 < w5.heap.size := by omega
  have r0 := RD5.out.c0
  have r1 := RD5.out.c1
  go_upto_region 7 with fail
  go_cut [5] from 24 to 35 (fun s5 wx => ∃ (yv : Value), s5 = .int .i64 er ∧ Hid (Rd wx (z1 + 1) (.int .i64 b1) yv) ∧ Hid (ElAt wx yv ys) ∧ Hid (Below z1 w wx))
  case first =>
    refine wp_region_turns (fun w' => ∃ q : (GW (fun W => Rd W z1 (.int .i64 0) v)), w' = q.w) [0, 1, 2, 3, 5] 12 8 (by kernel_rfl) (by kernel_rfl) (fun d => ⟨⟨redrawn w5 d, RD5.out.later (below_redrawnE w5 d)⟩, rfl⟩) ?_
    intro d
    have k0 : ∀ q : (GW (fun W => Rd W z1 (.int .i64 0) v)), q.w.cell? ⟨z1, 0, none⟩ = some (.int .i64 0) := fun q => q.h.c0
    have k1 : ∀ q : (GW (fun W => Rd W z1 (.int .i64 0) v)), q.w.cell? ⟨z1, 1, none⟩ = some v := fun q => q.h.c1
    simp only [pickAll, pickAt, List.nil_append, List.cons_append, List.append_nil]
    have hne : Nonempty (GW (fun W => Rd W z1 (.int .i64 0) v)) := ⟨⟨w5, RD5.out⟩⟩
    clear r0 r1
    repeat (go_big_quiet_step (fail))
    refine wpQuiet_nil ?_
    clear hne k0 k1
    have bb0 := Hid.mk7 (below_redrawnE w5 d)
    generalize redrawn w5 d = x0 at *
    refine anyC_pick1 4 (by kernel_rfl) (by kernel_rfl) ?_
    simp only [pickAll, pickAt, List.nil_append, List.cons_append, List.append_nil]
    have hs0 := bb0.out.size
    go_wp2_with fail
    refine (eclone_xl (HV.out.later bb0.out) (by omega) (by omega)).mono ?_
    rintro e x1 ⟨xv, gx, rfl, hx, lx, ox, bz⟩
    have X1 := Hid.mk7 hx
    have hszx := bz.size
    have bb1 : Hid (Below w5.heap.size w5 x1) := bb0.out.trans (bz.mono bb0.out.size)
    clear bz hx
    go_wp2
    refine anyNext_mk ⟨⟨_, RD5.out.later bb1.out⟩, rfl⟩ ?_
    refine anyC_pick1 6 (by kernel_rfl) (by kernel_rfl) ?_
    simp only [pickAll, pickAt, List.nil_append, List.cons_append, List.append_nil]
    go_wp2_with fail
    refine (segs_tlF (HS.out.later bb1.out) hL1).mono ?_
    rintro e x2 ⟨yv0, gy, rfl, hy, ly, oy, bz⟩
    have X2 := Hid.mk7 (X1.out.kept (grown_below bz none) (by simp))
    have YY2 := Hid.mk7 hy
    have hszy := bz.size
    have bb2 : Hid (Below w5.heap.size w5 x2) := bb1.out.trans (bz.mono bb1.out.size)
    clear bz hy
    go_wp2
    refine anyNext_mk ⟨⟨_, RD5.out.later bb2.out⟩, rfl⟩ ?_
    refine anyC_pick1 7 (by kernel_rfl) (by kernel_rfl) ?_
    simp only [pickAll, pickAt, List.nil_append, List.cons_append, List.append_nil]
    go_wp2_with fail
    refine (changes_any (w := w5) x0.heap.size x1.heap.size gx gy HIS.out HCP.out HOL.out HLE.out HRL.out X2.out YY2.out (by omega) (by omega) (by omega) (by omega) (by omega) bb2.out).mono ?_
    rintro e x3 ⟨lv, l, rfl, hl, hch, bz⟩
    have LL3 := Hid.mk7 hl
    have CH := Hid.mk7 hch
    have bb3 := Hid.mk7 bz
    clear bz hl hch lx ly ox oy
    go_wp2
    refine anyNext_mk ⟨⟨_, RD5.out.later bb3.out⟩, rfl⟩ ?_
    refine anyC_pick1 8 (by kernel_rfl) (by kernel_rfl) ?_
    simp only [pickAll, pickAt, List.nil_append, List.cons_append, List.append_nil]
    go_wp2_with fail
    refine (HBU.out _ _ _ LL3.out CH.out (HT.out.later bb3.out)).mono ?_
    rintro e x4 ⟨yv, rfl, hy, bz⟩
    obtain ⟨ya, yc, rfl, _, _, _⟩ := id hy
    have Y4 := Hid.mk7 hy
    have bb4 : Hid (Below w5.heap.size w5 x4) := bb3.out.trans (bz.mono bb3.out.size)
    clear bz hy
    go_wp2
    refine anyNext_mk ⟨⟨_, RD5.out.later bb4.out⟩, rfl⟩ ?_
    refine anyC_pick2 9 10 (by kernel_rfl) (by kernel_rfl) (by kernel_rfl) ?_ ?_
    · simp only [pickAll, pickAt, List.nil_append, List.cons_append, List.append_nil]
      go_wp2
      refine anyNext_mk ⟨⟨_, RD5.out.later bb4.out⟩, rfl⟩ ?_
      refine anyC_pick1 10 (by kernel_rfl) (by kernel_rfl) ?_
      simp only [pickAll, pickAt, List.nil_append, List.cons_append, List.append_nil]
      go_wp2
      refine anyNext_mk ⟨⟨_, RD5.out.later bb4.out⟩, rfl⟩ ?_
      refine anyC_pick1 11 (by kernel_rfl) (by kernel_rfl) ?_
      simp only [pickAll, pickAt, List.nil_append, List.cons_append, List.append_nil]
      have RR7 := RR5.out.later bb4.out
      have c0 := RR7.c0
      have c1 := RR7.c1
      have fz := RR7.fz
      have c2 : (x4.setCell ⟨z1 + 1, 0, none⟩ (.int .i64 b1)).cell? ⟨z1 + 1, 1, none⟩ = some (.slice none 0 0) := (RR7.set0 _).c1
      have fz2 := (RR7.set0 (.int .i64 b1)).fz
      have Y7 := Hid.mk7 (Y4.out.set_del RR7 (.int .i64 b1) (.slice ya ys.length yc))
      have Z7 := Hid.mk7 (RR7.set (.int .i64 b1) (.slice ya ys.length yc))
      have D7 := Hid.mk7 ((RD5.out.later bb4.out).otherF (show z1 ≠ z1 + 1 from by omega) (.int .i64 b1) (.slice ya ys.length yc))
      have BB7 : Hid (Below z1 w ((x4.setCell ⟨z1 + 1, 0, none⟩ (.int .i64 b1)).setCell ⟨z1 + 1, 1, none⟩ (.slice ya ys.length yc))) := below_set2 (HB.out.trans (bb4.out.mono hzb)) (show z1 ≤ z1 + 1 from by omega) _ _
      go_wp2
      clear c0 c1 c2 fz fz2 RR7
      generalize ((x4.setCell ⟨z1 + 1, 0, none⟩ (.int .i64 b1)).setCell ⟨z1 + 1, 1, none⟩ (.slice ya ys.length yc)) = x7 at *
      refine anyNext_mk ⟨⟨_, D7.out⟩, rfl⟩ ?_
      refine anyC_pick1 12 (by kernel_rfl) (by kernel_rfl) ?_
      simp only [pickAll, pickAt, List.nil_append, List.cons_append, List.append_nil]
      go_wp2
      refine anyNext_last (anyC_done (by kernel_rfl) ?_)
      go_wp2
      go_meet
      exact ⟨_, rfl, Z7, Y7, BB7⟩
    · simp only [pickAll, pickAt, List.nil_append, List.cons_append, List.append_nil]
      go_wp2
      refine anyNext_mk ⟨⟨_, RD5.out.later bb4.out⟩, rfl⟩ ?_
      refine anyC_pick1 9 (by kernel_rfl) (by kernel_rfl) ?_
      simp only [pickAll, pickAt, List.nil_append, List.cons_append, List.append_nil]
      go_wp2
      refine anyNext_mk ⟨⟨_, RD5.out.later bb4.out⟩, rfl⟩ ?_
      refine anyC_pick1 11 (by kernel_rfl) (by kernel_rfl) ?_
      simp only [pickAll, pickAt, List.nil_append, List.cons_append, List.append_nil]
      have RR11 := RR5.out.later bb4.out
      have c0 := RR11.c0
      have c1 := RR11.c1
      have fz := RR11.fz
      have c2 : (x4.setCell ⟨z1 + 1, 0, none⟩ (.int .i64 b1)).cell? ⟨z1 + 1, 1, none⟩ = some (.slice none 0 0) := (RR11.set0 _).c1
      have fz2 := (RR11.set0 (.int .i64 b1)).fz
      have Y11 := Hid.mk7 (Y4.out.set_del RR11 (.int .i64 b1) (.slice ya ys.length yc))
      have Z11 := Hid.mk7 (RR11.set (.int .i64 b1) (.slice ya ys.length yc))
      have D11 := Hid.mk7 ((RD5.out.later bb4.out).otherF (show z1 ≠ z1 + 1 from by omega) (.int .i64 b1) (.slice ya ys.length yc))
      have BB11 : Hid (Below z1 w ((x4.setCell ⟨z1 + 1, 0, none⟩ (.int .i64 b1)).setCell ⟨z1 + 1, 1, none⟩ (.slice ya ys.length yc))) := below_set2 (HB.out.trans (bb4.out.mono hzb)) (show z1 ≤ z1 + 1 from by omega) _ _
      go_wp2
      clear c0 c1 c2 fz fz2 RR11
      generalize ((x4.setCell ⟨z1 + 1, 0, none⟩ (.int .i64 b1)).setCell ⟨z1 + 1, 1, none⟩ (.slice ya ys.length yc)) = x11 at *
      refine anyNext_mk ⟨⟨_, D11.out⟩, rfl⟩ ?_
      refine anyC_pick1 12 (by kernel_rfl) (by kernel_rfl) ?_
      simp only [pickAll, pickAt, List.nil_append, List.cons_append, List.append_nil]
      go_wp2
      refine anyNext_last (anyC_done (by kernel_rfl) ?_)
      go_wp2
      go_meet
      exact ⟨_, rfl, Z11, Y11, BB11⟩
  case rest =>
    obtain ⟨yv, rfl, RZ, HY, BB⟩ := hcut
    clear RD5 RR5 HV HT HS HB r0 r1 HBU
    go_wp2
    refine bodyPost_ret (results_del2 rfl _ _ (z1 + 1) _ _ _ rfl rfl RZ.out) rfl ⟨_, rfl, HY.out, ?_⟩
    rw [hz1]
    exact BB.out
/-- Join's answers. -/
theorem join_bld {base b1 er : Int} {es ys : List El} {L : List Int} {tb : Nat × Nat} (hi : isB base es = true) (hrl : (rle L).length ≤ 600) (hy : tld (fil L (cel es)) = ys) (hr : (ys.length ≤ 60 ∧ b1 = base ∧ er = 0) ∨ (60 < ys.length ∧ b1 = 0 ∧ er = 70)) :
    ∃ zs, (ys.length ≤ 60 → zs = ys) ∧ ∀ W u l, ElAt W u l → Chd base L es l → Tab W tb → Calls Tryd.prog 24 #[.int .i64 base, u] W fun e w' => ∃ v', e = .returned (.tuple #[.agg #[.int .i64 b1, v'], .int .i64 er]) ∧ ElAt w' v' zs ∧ Below W.heap.size W w' := by
  have hd := dl_of hi
  have hin : inS es ≤ 20000 := by have := hd.sz; have := hd.cp0; omega
  have hel := hd.len
  rcases hr with ⟨hm, rfl, rfl⟩ | ⟨hm, rfl, rfl⟩
  · refine ⟨ys, fun _ => rfl, fun W u l hu hc ht => ?_⟩
    have g := gd_of hc.fl
    have h1 := hc.ins
    have h2 := hc.cnt
    exact build_v hc.fl (by rw [elG_tld g.ch, hc.ce, hy]) hm (fun e he => by have := inS_mem _ e he; omega) (by omega) (by omega) hu ht
  · refine ⟨[], fun h => by omega, fun W u l hu hc ht => ?_⟩
    have g := gd_of hc.fl
    have h1 := hc.ins
    have h2 := hc.cnt
    refine (build_many base hu (fun e he => by have := inS_mem _ e he; omega) (by omega) (by omega) tb ht hc.fl (by rw [elG_tld g.ch, hc.ce, hy]; exact hm)).mono ?_
    rintro e w' ⟨rfl, b⟩
    exact ⟨_, rfl, ElAt.nil _, b⟩
theorem join_ok {w : World} {v p : Value} {es ys : List El} {L : List Int} {base : Int} {tb : Nat × Nat} (hi : isB base es = true) (hcp : cpS es = base) (hs : Sub w p L) (hL : Ok8 L) (hrl : (rle L).length ≤ 600) (hlen : (L.length : Int) = base) (hy : tld (fil L (cel es)) = ys) (hm : ys.length ≤ 60) (h : ElAt w v es) (hT : Tab w tb) :
    Calls Tryd.prog 21 #[.agg #[.int .i64 base, v], p] w fun e w' => ∃ v', e = .returned (.tuple #[.agg #[.int .i64 base, v'], .int .i64 0]) ∧ ElAt w' v' ys ∧ Below w.heap.size w w' := by
  obtain ⟨zs, h1, h2⟩ := join_bld (tb := tb) (b1 := base) (er := 0) hi hrl hy (Or.inl ⟨hm, rfl, rfl⟩)
  rw [h1 hm] at h2
  exact join_gen base base 0 tb hi hcp hs hL hrl h hT hlen h2
theorem join_many {w : World} {v p : Value} {es ys : List El} {L : List Int} {base : Int} {tb : Nat × Nat} (hi : isB base es = true) (hcp : cpS es = base) (hs : Sub w p L) (hL : Ok8 L) (hrl : (rle L).length ≤ 600) (hlen : (L.length : Int) = base) (hy : tld (fil L (cel es)) = ys) (hm : 60 < ys.length) (h : ElAt w v es) (hT : Tab w tb) :
    Calls Tryd.prog 21 #[.agg #[.int .i64 base, v], p] w fun e w' => ∃ v', e = .returned (.tuple #[.agg #[.int .i64 0, v'], .int .i64 70]) ∧ Below w.heap.size w w' := by
  obtain ⟨zs, _, h2⟩ := join_bld (tb := tb) (b1 := 0) (er := 70) hi hrl hy (Or.inr ⟨hm, rfl, rfl⟩)
  refine (join_gen base 0 70 tb hi hcp hs hL hrl h hT hlen h2).mono ?_
  rintro e w' ⟨v', rfl, _, b⟩
  exact ⟨v', rfl, b⟩
theorem join_nil {w : World} {v : Value} {es ys : List El} {tb : Nat × Nat} (hi : isB 0 es = true) (hcp : cpS es = 0) (hy : tld (fil [] (cel es)) = ys) (hm : ys.length ≤ 60) (h : ElAt w v es) (hT : Tab w tb) :
    Calls Tryd.prog 21 #[.agg #[.int .i64 0, v], .pointer none] w fun e w' => ∃ v', e = .returned (.tuple #[.agg #[.int .i64 0, v'], .int .i64 0]) ∧ ElAt w' v' ys ∧ Below w.heap.size w w' := by
  obtain ⟨zs, h1, h2⟩ := join_bld (tb := tb) (L := []) (b1 := 0) (er := 0) hi (by simp [rle]) hy (Or.inl ⟨hm, rfl, rfl⟩)
  rw [h1 hm] at h2
  exact join_gennil 0 0 0 tb hi hcp rfl ⟨by simp, fun c hc => by cases hc⟩ (by simp [rle]) h hT rfl h2
end Go.Proofs.YtalolaajcmndeaaDoor
