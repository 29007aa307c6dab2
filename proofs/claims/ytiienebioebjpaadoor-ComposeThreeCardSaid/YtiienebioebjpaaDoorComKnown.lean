/- palinodelaw13's known. -/
import Derived.Test.YtiienebioebjpaaDoorComTwoP
import Derived.Test.YtiienebioebjpaaDoorComRef
namespace Go.Proofs.YtiienebioebjpaaDoor
open Go.RowKit Go.Sort Go.Lib
set_option linter.unusedSimpArgs false
set_option linter.unusedVariables false

theorem el_lit13 (W : World) (g : Nat) (hg : g = W.heap.size) (es : List El) (cells : Array Value) (e : TypeId) (hc : cells.toList = c3 es) (n : Nat) (hn : n = es.length) : ElAt (W.alloc (.cells cells e)) (.slice (some ⟨g, 0, none⟩) n n) es := by
  subst hg; exact el_lit W es cells e hc n hn
theorem two_v {w : World} {u v : Value} {ea eb E zs : List El} {a b b1 er : Int} {tb : Nat × Nat} (ha : isB a ea = true) (hb : isB b eb = true) (hl : (((cel ea).length : Nat) : Int) = b) (hE : tld (twoC (cel ea) (cel eb)) = E) (hr : Rs a E b1 zs er) (h : ElAt w u ea) (k : ElAt w v eb) (hT : Tab w tb) :
    Calls Tryd.prog 11 #[.agg #[.int .i64 a, u], .agg #[.int .i64 b, v]] w fun e w' => ∃ v', e = .returned (.tuple #[.agg #[.int .i64 b1, v'], .int .i64 er]) ∧ ElAt w' v' zs ∧ RowKit.Below w.heap.size w w' := by
  subst hE; exact two_rs ha hb hl.symm hr h k hT
theorem inv_v {w : World} {u : Value} {es E zs : List El} {base b1 er z : Int} {s : ByteArray} {tb : Nat × Nat} (hb : ((s.size : Nat) : Int) = base) (ha : isB base es = true) (hv : vld s.data.toList = true) (hz : (((cel es).length : Nat) : Int) = z) (hE : tld (invC s.data.toList 0 0 (cel es)) = E) (hr : Rs z E b1 zs er) (h : ElAt w u es) (hT : Tab w tb) :
    Calls Tryd.prog 17 #[.agg #[.int .i64 base, u], .string s] w fun e w' => ∃ v', e = .returned (.tuple #[.agg #[.int .i64 b1, v'], .int .i64 er]) ∧ ElAt w' v' zs ∧ RowKit.Below w.heap.size w w' := by
  subst hb hz hE; exact inv_rs ha hv hr h hT
theorem k13_fa : flt 2 [(1, 1, [120])] = 0 := by decide
theorem k13_ga : elG 2 [] 0 [(1, 1, [120])] = [(0, 1, []), (0, 0, [120]), (1, 2, [])] := by decide
theorem k13_ia : isB 2 [(0, 1, []), (0, 0, [120]), (1, 2, [])] = true := by decide
theorem k13_fb : flt 3 [(1, 2, [])] = 0 := by decide
theorem k13_gb : elG 3 [] 0 [(1, 2, [])] = [(0, 1, []), (2, 3, [])] := by decide
theorem k13_ib : isB 3 [(0, 1, []), (2, 3, [])] = true := by decide
theorem k13_te : tld (twoC (cel [(0, 1, []), (0, 0, [120]), (1, 2, [])]) (cel [(0, 1, []), (2, 3, [])])) = [(0, 2, [])] := by decide
theorem k13_two : Rs 2 [(0, 2, [])] 2 [(0, 2, [])] 0 := rs_good (by decide) (by decide)
theorem k13_la : (((cel [(0, 1, []), (0, 0, [120]), (1, 2, [])]).length : Nat) : Int) = 3 := by decide
theorem k13_lb : (((cel [(0, 1, []), (2, 3, [])]).length : Nat) : Int) = 2 := by decide
theorem k13_sz : (((⟨#[97, 98, 99]⟩ : ByteArray).size : Nat) : Int) = 3 := by decide
theorem k13_va : vld (⟨#[97, 98, 99]⟩ : ByteArray).data.toList = true := by decide
theorem k13_ie : tld (invC (⟨#[97, 98, 99]⟩ : ByteArray).data.toList 0 0 (cel [(0, 1, []), (2, 3, [])])) = [(0, 1, []), (0, 0, [98]), (1, 2, [])] := by decide
theorem k13_inv : Rs 2 [(0, 1, []), (0, 0, [98]), (1, 2, [])] 2 [(0, 1, []), (0, 0, [98]), (1, 2, [])] 0 := rs_good (by decide) (by decide)
theorem k13_ii : isB 2 [(0, 1, []), (0, 0, [98]), (1, 2, [])] = true := by decide
theorem k13_ap : cacc (apl (cel [(0, 1, []), (0, 0, [98]), (1, 2, [])]) (⟨#[97, 99]⟩ : ByteArray).data.toList) = ⟨#[97, 98, 99]⟩ := by decide
set_option maxHeartbeats 4000000 in
set_option maxRecDepth 100000 in
theorem known13_any (w : World) (tb : Nat × Nat) (hT : Tab w tb) : Calls Tryd.prog 9 #[] w fun e w' => e = .returned (.bool true) ∧ RowKit.Below w.heap.size w w' := by
  have T0 := Hid.mk7 hT
  have G0 := Hid.mk7 (RowKit.Below.refl w.heap.size w)
  clear hT
  go_enter Tryd.func9, Tryd.ntmps9
  have bz : RowKit.Below w.heap.size w (w.alloc (.cells #[.int .i64 1, .int .i64 1, .string ⟨#[120]⟩] 43)) := below_newE (RowKit.Below.refl _ _) _
  have A1 := Hid.mk7 (el_lit w [(1, 1, [120])] #[.int .i64 1, .int .i64 1, .string ⟨#[120]⟩] 43 rfl 1 rfl)
  have T2 := Hid.mk7 (T0.out.later bz)
  have G2 := Hid.mk7 (G0.out.trans (bz.mono G0.out.size))
  clear T0 G0 bz
  go_wp2_with fail
  refine (build_v k13_fa k13_ga (by decide) (by intro e he; simp at he; subst he; simp) (by decide) (by decide) A1.out T2.out).mono ?_
  rintro e w3 ⟨v1, rfl, h1, bz⟩
  obtain ⟨a1, c1, rfl, _, _, _⟩ := id h1
  have T4 := Hid.mk7 (T2.out.later bz)
  have G4 := Hid.mk7 (G2.out.trans (bz.mono G2.out.size))
  have A4 := Hid.mk7 (A1.out.later bz)
  clear T2 G2 A1 bz
  have EA5 := Hid.mk7 (h1)
  clear h1
  clear A4
  simp only [List.length_cons, List.length_nil, Nat.zero_add, Nat.reduceAdd] at *
  have bz : RowKit.Below w3.heap.size w3 (w3.alloc (.cells #[.int .i64 2, .slice a1 3 c1] 24)) := below_newE (RowKit.Below.refl _ _) _
  have nw6 := Hid.mk7 (@Rd.new w3 (.int .i64 2) (.slice a1 3 c1))
  have T7 := Hid.mk7 (T4.out.later bz)
  have G7 := Hid.mk7 (G4.out.trans (bz.mono G4.out.size))
  have EA7 := Hid.mk7 (EA5.out.later bz)
  clear T4 G4 EA5 bz
  have bz : RowKit.Below (w3.alloc (.cells #[.int .i64 2, .slice a1 3 c1] 24)).heap.size (w3.alloc (.cells #[.int .i64 2, .slice a1 3 c1] 24)) ((w3.alloc (.cells #[.int .i64 2, .slice a1 3 c1] 24)).alloc (.cells #[.int .i64 1, .int .i64 2, .string ⟨#[]⟩] 43)) := below_newE (RowKit.Below.refl _ _) _
  have B8 := Hid.mk7 (el_lit13 (w3.alloc (.cells #[.int .i64 2, .slice a1 3 c1] 24)) (w3.heap.size + 1) (by simp) [(1, 2, [])] #[.int .i64 1, .int .i64 2, .string ⟨#[]⟩] 43 rfl 1 rfl)
  have T9 := Hid.mk7 (T7.out.later bz)
  have G9 := Hid.mk7 (G7.out.trans (bz.mono G7.out.size))
  have EA9 := Hid.mk7 (EA7.out.later bz)
  have RA9 := Hid.mk7 (nw6.out.later bz)
  clear T7 G7 EA7 nw6 bz
  have RAc0 := RA9.out.c0
  have RAc1 := RA9.out.c1
  go_wp2_with fail
  refine (build_v k13_fb k13_gb (by decide) (by intro e he; simp at he; subst he; simp) (by decide) (by decide) B8.out T9.out).mono ?_
  rintro e w10 ⟨v2, rfl, h2, bz⟩
  clear RAc0 RAc1
  obtain ⟨a2, c2, rfl, _, _, _⟩ := id h2
  have T11 := Hid.mk7 (T9.out.later bz)
  have G11 := Hid.mk7 (G9.out.trans (bz.mono G9.out.size))
  have EA11 := Hid.mk7 (EA9.out.later bz)
  have RA11 := Hid.mk7 (RA9.out.later bz)
  have B11 := Hid.mk7 (B8.out.later bz)
  clear T9 G9 EA9 RA9 B8 bz
  have EB12 := Hid.mk7 (h2)
  clear h2
  clear B11
  simp only [List.length_cons, List.length_nil, Nat.zero_add, Nat.reduceAdd] at *
  have bz : RowKit.Below w10.heap.size w10 (w10.alloc (.cells #[.int .i64 3, .slice a2 2 c2] 24)) := below_newE (RowKit.Below.refl _ _) _
  have nw13 := Hid.mk7 (@Rd.new w10 (.int .i64 3) (.slice a2 2 c2))
  have T14 := Hid.mk7 (T11.out.later bz)
  have G14 := Hid.mk7 (G11.out.trans (bz.mono G11.out.size))
  have EA14 := Hid.mk7 (EA11.out.later bz)
  have RA14 := Hid.mk7 (RA11.out.later bz)
  have EB14 := Hid.mk7 (EB12.out.later bz)
  clear T11 G11 EA11 RA11 EB12 bz
  have RAc0 := RA14.out.c0
  have RAc1 := RA14.out.c1
  have RBc0 := nw13.out.c0
  have RBc1 := nw13.out.c1
  go_wp2_with fail
  refine (two_v k13_ia k13_ib k13_la k13_te k13_two EA14.out EB14.out T14.out).mono ?_
  rintro e w15 ⟨v3, rfl, h3, bz⟩
  clear RAc0 RAc1 RBc0 RBc1
  obtain ⟨a3, c3, rfl, _, _, _⟩ := id h3
  have T16 := Hid.mk7 (T14.out.later bz)
  have G16 := Hid.mk7 (G14.out.trans (bz.mono G14.out.size))
  have EA16 := Hid.mk7 (EA14.out.later bz)
  have RA16 := Hid.mk7 (RA14.out.later bz)
  have EB16 := Hid.mk7 (EB14.out.later bz)
  have RB16 := Hid.mk7 (nw13.out.later bz)
  clear T14 G14 EA14 RA14 EB14 nw13 bz
  have EC17 := Hid.mk7 (h3)
  clear h3
  simp only [List.length_cons, List.length_nil, Nat.zero_add, Nat.reduceAdd] at *
  have bz : RowKit.Below w15.heap.size w15 (w15.alloc (.cells #[.int .i64 2, .slice a3 1 c3] 24)) := below_newE (RowKit.Below.refl _ _) _
  have nw18 := Hid.mk7 (@Rd.new w15 (.int .i64 2) (.slice a3 1 c3))
  have T19 := Hid.mk7 (T16.out.later bz)
  have G19 := Hid.mk7 (G16.out.trans (bz.mono G16.out.size))
  have EA19 := Hid.mk7 (EA16.out.later bz)
  have RA19 := Hid.mk7 (RA16.out.later bz)
  have EB19 := Hid.mk7 (EB16.out.later bz)
  have RB19 := Hid.mk7 (RB16.out.later bz)
  have EC19 := Hid.mk7 (EC17.out.later bz)
  clear T16 G16 EA16 RA16 EB16 RB16 EC17 bz
  have RAc0 := RA19.out.c0
  have RAc1 := RA19.out.c1
  have RBc0 := RB19.out.c0
  have RBc1 := RB19.out.c1
  have RCc0 := nw18.out.c0
  have RCc1 := nw18.out.c1
  go_wp2_with fail
  refine (two_len (z := 2) k13_ib k13_ib (by decide) (by decide) EB19.out EB19.out T19.out).mono ?_
  rintro e w20 ⟨rfl, bz⟩
  clear RAc0 RAc1 RBc0 RBc1 RCc0 RCc1
  have T21 := Hid.mk7 (T19.out.later bz)
  have G21 := Hid.mk7 (G19.out.trans (bz.mono G19.out.size))
  have EA21 := Hid.mk7 (EA19.out.later bz)
  have RA21 := Hid.mk7 (RA19.out.later bz)
  have EB21 := Hid.mk7 (EB19.out.later bz)
  have RB21 := Hid.mk7 (RB19.out.later bz)
  have EC21 := Hid.mk7 (EC19.out.later bz)
  have RC21 := Hid.mk7 (nw18.out.later bz)
  clear T19 G19 EA19 RA19 EB19 RB19 EC19 nw18 bz
  have bz : RowKit.Below w20.heap.size w20 (w20.alloc (.cells #[.int .i64 0, .slice none 0 0] 24)) := below_newE (RowKit.Below.refl _ _) _
  have nw22 := Hid.mk7 (@Rd.new w20 (.int .i64 0) (.slice none 0 0))
  have T23 := Hid.mk7 (T21.out.later bz)
  have G23 := Hid.mk7 (G21.out.trans (bz.mono G21.out.size))
  have EA23 := Hid.mk7 (EA21.out.later bz)
  have RA23 := Hid.mk7 (RA21.out.later bz)
  have EB23 := Hid.mk7 (EB21.out.later bz)
  have RB23 := Hid.mk7 (RB21.out.later bz)
  have EC23 := Hid.mk7 (EC21.out.later bz)
  have RC23 := Hid.mk7 (RC21.out.later bz)
  clear T21 G21 EA21 RA21 EB21 RB21 EC21 RC21 bz
  have RAc0 := RA23.out.c0
  have RAc1 := RA23.out.c1
  have RBc0 := RB23.out.c0
  have RBc1 := RB23.out.c1
  have RCc0 := RC23.out.c0
  have RCc1 := RC23.out.c1
  have REc0 := nw22.out.c0
  have REc1 := nw22.out.c1
  go_wp2_with fail
  refine (inv_v k13_sz k13_ib k13_va k13_lb k13_ie k13_inv EB23.out T23.out).mono ?_
  rintro e w24 ⟨v5, rfl, h5, bz⟩
  clear RAc0 RAc1 RBc0 RBc1 RCc0 RCc1 REc0 REc1
  obtain ⟨a5, c5, rfl, _, _, _⟩ := id h5
  have T25 := Hid.mk7 (T23.out.later bz)
  have G25 := Hid.mk7 (G23.out.trans (bz.mono G23.out.size))
  have EA25 := Hid.mk7 (EA23.out.later bz)
  have RA25 := Hid.mk7 (RA23.out.later bz)
  have EB25 := Hid.mk7 (EB23.out.later bz)
  have RB25 := Hid.mk7 (RB23.out.later bz)
  have EC25 := Hid.mk7 (EC23.out.later bz)
  have RC25 := Hid.mk7 (RC23.out.later bz)
  have RE25 := Hid.mk7 (nw22.out.later bz)
  clear T23 G23 EA23 RA23 EB23 RB23 EC23 RC23 nw22 bz
  have EI26 := Hid.mk7 (h5)
  clear h5
  simp only [List.length_cons, List.length_nil, Nat.zero_add, Nat.reduceAdd] at *
  have bz : RowKit.Below w24.heap.size w24 (w24.alloc (.cells #[.int .i64 2, .slice a5 3 c5] 24)) := below_newE (RowKit.Below.refl _ _) _
  have nw27 := Hid.mk7 (@Rd.new w24 (.int .i64 2) (.slice a5 3 c5))
  have T28 := Hid.mk7 (T25.out.later bz)
  have G28 := Hid.mk7 (G25.out.trans (bz.mono G25.out.size))
  have EA28 := Hid.mk7 (EA25.out.later bz)
  have RA28 := Hid.mk7 (RA25.out.later bz)
  have EB28 := Hid.mk7 (EB25.out.later bz)
  have RB28 := Hid.mk7 (RB25.out.later bz)
  have EC28 := Hid.mk7 (EC25.out.later bz)
  have RC28 := Hid.mk7 (RC25.out.later bz)
  have RE28 := Hid.mk7 (RE25.out.later bz)
  have EI28 := Hid.mk7 (EI26.out.later bz)
  clear T25 G25 EA25 RA25 EB25 RB25 EC25 RC25 RE25 EI26 bz
  have RAc0 := RA28.out.c0
  have RAc1 := RA28.out.c1
  have RBc0 := RB28.out.c0
  have RBc1 := RB28.out.c1
  have RCc0 := RC28.out.c0
  have RCc1 := RC28.out.c1
  have REc0 := RE28.out.c0
  have REc1 := RE28.out.c1
  have RIc0 := nw27.out.c0
  have RIc1 := nw27.out.c1
  go_wp2_with fail
  refine (apply_v k13_ii (by decide) k13_ap EI28.out T28.out).mono ?_
  rintro e w29 ⟨rfl, bz⟩
  clear RAc0 RAc1 RBc0 RBc1 RCc0 RCc1 REc0 REc1 RIc0 RIc1
  have T30 := Hid.mk7 (T28.out.later bz)
  have G30 := Hid.mk7 (G28.out.trans (bz.mono G28.out.size))
  have EA30 := Hid.mk7 (EA28.out.later bz)
  have RA30 := Hid.mk7 (RA28.out.later bz)
  have EB30 := Hid.mk7 (EB28.out.later bz)
  have RB30 := Hid.mk7 (RB28.out.later bz)
  have EC30 := Hid.mk7 (EC28.out.later bz)
  have RC30 := Hid.mk7 (RC28.out.later bz)
  have RE30 := Hid.mk7 (RE28.out.later bz)
  have EI30 := Hid.mk7 (EI28.out.later bz)
  have RI30 := Hid.mk7 (nw27.out.later bz)
  clear T28 G28 EA28 RA28 EB28 RB28 EC28 RC28 RE28 EI28 nw27 bz
  have HST := Hid.mk7 (fun W : World => (keep_v (m := 2) (es := [(0, 2, [])]) 2 (by decide) (by decide) W))
  have RAz0 := cell_regrown RA30.out.c0
  have RAz1 := cell_regrown RA30.out.c1
  have RBz0 := cell_regrown RB30.out.c0
  have RBz1 := cell_regrown RB30.out.c1
  have RCz0 := cell_regrown RC30.out.c0
  have RCz1 := cell_regrown RC30.out.c1
  have REz0 := cell_regrown RE30.out.c0
  have REz1 := cell_regrown RE30.out.c1
  have RIz0 := cell_regrown RI30.out.c0
  have RIz1 := cell_regrown RI30.out.c1
  go_wp2_with fail
  refine wp_region_mixP [([0, 1, 2, 3, 4, 5, 6, 7, 8, 9, 10, 11], [12]), ([], [13]), ([14, 15, 16, 17, 18, 19, 20, 21, 22, 23, 24, 25, 26, 27, 28, 29, 30, 31], [])] (by kernel_rfl) (by kernel_rfl) ?_
  rintro x0 ⟨d0, rfl⟩
  have m0 := below_redrawnE (w29) d0
  refine wpPlan_cons ?_
  simp only [pickAll, pickAt, List.nil_append, List.cons_append, List.append_nil]
  repeat (go_big_quiet_step (fail))
  refine wpQuiet_nil ?_
  go_wp2_with fail
  refine (HST.out _).mono ?_
  rintro e x1 ⟨kv, rfl, hk, b1⟩
  have m1 := m0.trans (b1.mono m0.size)
  go_wp2
  refine mixNext_belowE m1 ?_
  refine wpPlan_cons ?_
  simp only [pickAll, pickAt, List.nil_append, List.cons_append, List.append_nil]
  repeat (go_big_quiet_step (fail))
  refine wpQuiet_nil ?_
  go_wp2_with fail
  refine (same_v (t := true) (by simp) (by decide) (EC30.out.later m1) hk).mono ?_
  rintro e x2 ⟨rfl, b2⟩
  have m2 := m1.trans (b2.mono m1.size)
  go_wp2
  refine mixNext_belowE m2 ?_
  refine wpPlan_cons ?_
  simp only [pickAll, pickAt, List.nil_append, List.cons_append, List.append_nil]
  repeat (go_big_quiet_step (fail))
  refine wpQuiet_nil ?_
  refine mixNext_belowE m2 (wpPlan_nil ?_)
  go_wp2
  go_ret
  exact ⟨rfl, G30.out.trans (m2.mono G30.out.size)⟩
end Go.Proofs.YtiienebioebjpaaDoor
