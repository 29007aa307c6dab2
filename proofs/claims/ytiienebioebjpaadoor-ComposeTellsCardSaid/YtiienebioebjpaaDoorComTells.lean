/- ComposeTells walked. -/
import Derived.Test.YtiienebioebjpaaDoorComLaw
namespace Go.Proofs.YtiienebioebjpaaDoor
open Go.RowKit Go.Sort Go.Lib
set_option linter.unusedSimpArgs false
set_option linter.unusedVariables false

set_option maxHeartbeats 8000000 in
set_option maxRecDepth 100000 in
theorem tells13_any (n m : Int) {v u : Value} {es qs : List El} (hl : es.length ≤ maxLen) (hsm : Sm es maxLen) (hl2 : qs.length ≤ maxLen) (hsm2 : Sm qs maxLen) (w : World) (tb : Nat × Nat) (hT : Tab w tb) (h : ElAt w v es) (k : ElAt w u qs) :
    Calls Tryd.prog 3 #[.agg #[.int .i64 n, v], .agg #[.int .i64 m, u]] w fun e w' => e = .returned (.bool true) ∧ RowKit.Below w.heap.size w w' := by
  obtain ⟨va, vcap, rfl, _, _, _⟩ := id h
  obtain ⟨ua, ucap, rfl, _, _, _⟩ := id k
  have B0 := below_newE (below_newE (RowKit.Below.refl w.heap.size w) (.cells #[.int .i64 n, .slice va es.length vcap] 24)) (.cells #[.int .i64 m, .slice ua qs.length ucap] 24)
  have E0 := Hid.mk7 (h.later B0)
  have K0 := Hid.mk7 (k.later B0)
  have RD0 := Hid.mk7 ((Rd.new w (.int .i64 n) (.slice va es.length vcap)).alloc (.cells #[.int .i64 m, .slice ua qs.length ucap] 24))
  have RE0 : Hid (Rd ((w.alloc (.cells #[.int .i64 n, .slice va es.length vcap] 24)).alloc (.cells #[.int .i64 m, .slice ua qs.length ucap] 24)) (w.heap.size + 1) (.int .i64 m) (.slice ua qs.length ucap)) := Rd.new' (by simp) _ _
  have T0 := Hid.mk7 (hT.later B0)
  have G0 := Hid.mk7 B0
  clear B0 hT h k
  by_cases fa : fewD n es = true
  case neg =>
    have fa' : fewD n es = false := by simpa using fa
    clear fa
    go_enter Tryd.func3, Tryd.ntmps3
    have RDc0 := RD0.out.c0
    have RDc1 := RD0.out.c1
    have REc0 := RE0.out.c0
    have REc1 := RE0.out.c1
    go_wp2_with fail
    refine (known13_any _ tb T0.out).mono ?_
    rintro e w11 ⟨rfl, bz⟩
    clear RDc0 RDc1 REc0 REc1
    have E12 := Hid.mk7 (E0.out.later bz)
    have K12 := Hid.mk7 (K0.out.later bz)
    have RD12 := Hid.mk7 (RD0.out.later bz)
    have RE12 := Hid.mk7 (RE0.out.later bz)
    have T12 := Hid.mk7 (T0.out.later bz)
    have G12 := Hid.mk7 (G0.out.trans (bz.mono G0.out.size))
    clear E0 K0 RD0 RE0 T0 G0 bz
    have RDc0 := RD12.out.c0
    have RDc1 := RD12.out.c1
    have REc0 := RE12.out.c0
    have REc1 := RE12.out.c1
    go_wp2_with fail
    refine (few_v fa' E12.out hl).mono ?_
    rintro e w13 ⟨rfl, bz⟩
    clear RDc0 RDc1 REc0 REc1
    have E14 := Hid.mk7 (E12.out.later bz)
    have K14 := Hid.mk7 (K12.out.later bz)
    have RD14 := Hid.mk7 (RD12.out.later bz)
    have RE14 := Hid.mk7 (RE12.out.later bz)
    have T14 := Hid.mk7 (T12.out.later bz)
    have G14 := Hid.mk7 (G12.out.trans (bz.mono G12.out.size))
    clear E12 K12 RD12 RE12 T12 G12 bz
    go_wp2
    go_ret
    exact ⟨rfl, G14.out⟩
  by_cases fb : fewD m qs = true
  case neg =>
    have fb' : fewD m qs = false := by simpa using fb
    clear fb
    go_enter Tryd.func3, Tryd.ntmps3
    have RDc0 := RD0.out.c0
    have RDc1 := RD0.out.c1
    have REc0 := RE0.out.c0
    have REc1 := RE0.out.c1
    go_wp2_with fail
    refine (known13_any _ tb T0.out).mono ?_
    rintro e w11 ⟨rfl, bz⟩
    clear RDc0 RDc1 REc0 REc1
    have E12 := Hid.mk7 (E0.out.later bz)
    have K12 := Hid.mk7 (K0.out.later bz)
    have RD12 := Hid.mk7 (RD0.out.later bz)
    have RE12 := Hid.mk7 (RE0.out.later bz)
    have T12 := Hid.mk7 (T0.out.later bz)
    have G12 := Hid.mk7 (G0.out.trans (bz.mono G0.out.size))
    clear E0 K0 RD0 RE0 T0 G0 bz
    have RDc0 := RD12.out.c0
    have RDc1 := RD12.out.c1
    have REc0 := RE12.out.c0
    have REc1 := RE12.out.c1
    go_wp2_with fail
    refine (few_v fa E12.out hl).mono ?_
    rintro e w13 ⟨rfl, bz⟩
    clear RDc0 RDc1 REc0 REc1
    have E14 := Hid.mk7 (E12.out.later bz)
    have K14 := Hid.mk7 (K12.out.later bz)
    have RD14 := Hid.mk7 (RD12.out.later bz)
    have RE14 := Hid.mk7 (RE12.out.later bz)
    have T14 := Hid.mk7 (T12.out.later bz)
    have G14 := Hid.mk7 (G12.out.trans (bz.mono G12.out.size))
    clear E12 K12 RD12 RE12 T12 G12 bz
    have RDc0 := RD14.out.c0
    have RDc1 := RD14.out.c1
    have REc0 := RE14.out.c0
    have REc1 := RE14.out.c1
    go_wp2_with fail
    refine (few_v fb' K14.out hl2).mono ?_
    rintro e w15 ⟨rfl, bz⟩
    clear RDc0 RDc1 REc0 REc1
    have E16 := Hid.mk7 (E14.out.later bz)
    have K16 := Hid.mk7 (K14.out.later bz)
    have RD16 := Hid.mk7 (RD14.out.later bz)
    have RE16 := Hid.mk7 (RE14.out.later bz)
    have T16 := Hid.mk7 (T14.out.later bz)
    have G16 := Hid.mk7 (G14.out.trans (bz.mono G14.out.size))
    clear E14 K14 RD14 RE14 T14 G14 bz
    go_wp2
    go_ret
    exact ⟨rfl, G16.out⟩
  obtain ⟨hs2, hn4, hl7⟩ := fewD13_of fa
  obtain ⟨hs3, hn5, hl8⟩ := fewD13_of fb
  by_cases ia : isB n es = true
  case neg =>
    have ia' : isB n es = false := by simpa using ia
    clear ia
    go_enter Tryd.func3, Tryd.ntmps3
    have RDc0 := RD0.out.c0
    have RDc1 := RD0.out.c1
    have REc0 := RE0.out.c0
    have REc1 := RE0.out.c1
    go_wp2_with fail
    refine (known13_any _ tb T0.out).mono ?_
    rintro e w11 ⟨rfl, bz⟩
    clear RDc0 RDc1 REc0 REc1
    have E12 := Hid.mk7 (E0.out.later bz)
    have K12 := Hid.mk7 (K0.out.later bz)
    have RD12 := Hid.mk7 (RD0.out.later bz)
    have RE12 := Hid.mk7 (RE0.out.later bz)
    have T12 := Hid.mk7 (T0.out.later bz)
    have G12 := Hid.mk7 (G0.out.trans (bz.mono G0.out.size))
    clear E0 K0 RD0 RE0 T0 G0 bz
    have RDc0 := RD12.out.c0
    have RDc1 := RD12.out.c1
    have REc0 := RE12.out.c0
    have REc1 := RE12.out.c1
    go_wp2_with fail
    refine (few_v fa E12.out hl).mono ?_
    rintro e w13 ⟨rfl, bz⟩
    clear RDc0 RDc1 REc0 REc1
    have E14 := Hid.mk7 (E12.out.later bz)
    have K14 := Hid.mk7 (K12.out.later bz)
    have RD14 := Hid.mk7 (RD12.out.later bz)
    have RE14 := Hid.mk7 (RE12.out.later bz)
    have T14 := Hid.mk7 (T12.out.later bz)
    have G14 := Hid.mk7 (G12.out.trans (bz.mono G12.out.size))
    clear E12 K12 RD12 RE12 T12 G12 bz
    have RDc0 := RD14.out.c0
    have RDc1 := RD14.out.c1
    have REc0 := RE14.out.c0
    have REc1 := RE14.out.c1
    go_wp2_with fail
    refine (few_v fb K14.out hl2).mono ?_
    rintro e w15 ⟨rfl, bz⟩
    clear RDc0 RDc1 REc0 REc1
    have E16 := Hid.mk7 (E14.out.later bz)
    have K16 := Hid.mk7 (K14.out.later bz)
    have RD16 := Hid.mk7 (RD14.out.later bz)
    have RE16 := Hid.mk7 (RE14.out.later bz)
    have T16 := Hid.mk7 (T14.out.later bz)
    have G16 := Hid.mk7 (G14.out.trans (bz.mono G14.out.size))
    clear E14 K14 RD14 RE14 T14 G14 bz
    have RDc0 := RD16.out.c0
    have RDc1 := RD16.out.c1
    have REc0 := RE16.out.c0
    have REc1 := RE16.out.c1
    go_wp2_with fail
    refine (two_formA ia' (hs2.mono (by omega)) E16.out K16.out T16.out).mono ?_
    rintro e w17 ⟨rfl, bz⟩
    clear RDc0 RDc1 REc0 REc1
    have E18 := Hid.mk7 (E16.out.later bz)
    have K18 := Hid.mk7 (K16.out.later bz)
    have RD18 := Hid.mk7 (RD16.out.later bz)
    have RE18 := Hid.mk7 (RE16.out.later bz)
    have T18 := Hid.mk7 (T16.out.later bz)
    have G18 := Hid.mk7 (G16.out.trans (bz.mono G16.out.size))
    clear E16 K16 RD16 RE16 T16 G16 bz
    have bz : RowKit.Below w17.heap.size w17 (w17.alloc (.cells #[.int .i64 0, .slice none 0 0] 24)) := below_newE (RowKit.Below.refl _ _) _
    have nw19 := Hid.mk7 (@Rd.new w17 (.int .i64 0) (.slice none 0 0))
    have E20 := Hid.mk7 (E18.out.later bz)
    have K20 := Hid.mk7 (K18.out.later bz)
    have RD20 := Hid.mk7 (RD18.out.later bz)
    have RE20 := Hid.mk7 (RE18.out.later bz)
    have T20 := Hid.mk7 (T18.out.later bz)
    have G20 := Hid.mk7 (G18.out.trans (bz.mono G18.out.size))
    clear E18 K18 RD18 RE18 T18 G18 bz
    have RDc0 := RD20.out.c0
    have RDc1 := RD20.out.c1
    have REc0 := RE20.out.c0
    have REc1 := RE20.out.c1
    have RJc0 := nw19.out.c0
    have RJc1 := nw19.out.c1
    go_wp2_with fail
    refine (ris_no13 ia' hsm E20.out).mono ?_
    rintro e w21 ⟨rfl, bz⟩
    clear RDc0 RDc1 REc0 REc1 RJc0 RJc1
    have E22 := Hid.mk7 (E20.out.later bz)
    have K22 := Hid.mk7 (K20.out.later bz)
    have RD22 := Hid.mk7 (RD20.out.later bz)
    have RE22 := Hid.mk7 (RE20.out.later bz)
    have T22 := Hid.mk7 (T20.out.later bz)
    have G22 := Hid.mk7 (G20.out.trans (bz.mono G20.out.size))
    have RJ22 := Hid.mk7 (nw19.out.later bz)
    clear E20 K20 RD20 RE20 T20 G20 nw19 bz
    have RDc0 := RD22.out.c0
    have RDc1 := RD22.out.c1
    have REc0 := RE22.out.c0
    have REc1 := RE22.out.c1
    have RJc0 := RJ22.out.c0
    have RJc1 := RJ22.out.c1
    go_wp2
    go_ret
    exact ⟨rfl, G22.out⟩
  by_cases ib : isB m qs = true
  case neg =>
    have ib' : isB m qs = false := by simpa using ib
    clear ib
    go_enter Tryd.func3, Tryd.ntmps3
    have RDc0 := RD0.out.c0
    have RDc1 := RD0.out.c1
    have REc0 := RE0.out.c0
    have REc1 := RE0.out.c1
    go_wp2_with fail
    refine (known13_any _ tb T0.out).mono ?_
    rintro e w11 ⟨rfl, bz⟩
    clear RDc0 RDc1 REc0 REc1
    have E12 := Hid.mk7 (E0.out.later bz)
    have K12 := Hid.mk7 (K0.out.later bz)
    have RD12 := Hid.mk7 (RD0.out.later bz)
    have RE12 := Hid.mk7 (RE0.out.later bz)
    have T12 := Hid.mk7 (T0.out.later bz)
    have G12 := Hid.mk7 (G0.out.trans (bz.mono G0.out.size))
    clear E0 K0 RD0 RE0 T0 G0 bz
    have RDc0 := RD12.out.c0
    have RDc1 := RD12.out.c1
    have REc0 := RE12.out.c0
    have REc1 := RE12.out.c1
    go_wp2_with fail
    refine (few_v fa E12.out hl).mono ?_
    rintro e w13 ⟨rfl, bz⟩
    clear RDc0 RDc1 REc0 REc1
    have E14 := Hid.mk7 (E12.out.later bz)
    have K14 := Hid.mk7 (K12.out.later bz)
    have RD14 := Hid.mk7 (RD12.out.later bz)
    have RE14 := Hid.mk7 (RE12.out.later bz)
    have T14 := Hid.mk7 (T12.out.later bz)
    have G14 := Hid.mk7 (G12.out.trans (bz.mono G12.out.size))
    clear E12 K12 RD12 RE12 T12 G12 bz
    have RDc0 := RD14.out.c0
    have RDc1 := RD14.out.c1
    have REc0 := RE14.out.c0
    have REc1 := RE14.out.c1
    go_wp2_with fail
    refine (few_v fb K14.out hl2).mono ?_
    rintro e w15 ⟨rfl, bz⟩
    clear RDc0 RDc1 REc0 REc1
    have E16 := Hid.mk7 (E14.out.later bz)
    have K16 := Hid.mk7 (K14.out.later bz)
    have RD16 := Hid.mk7 (RD14.out.later bz)
    have RE16 := Hid.mk7 (RE14.out.later bz)
    have T16 := Hid.mk7 (T14.out.later bz)
    have G16 := Hid.mk7 (G14.out.trans (bz.mono G14.out.size))
    clear E14 K14 RD14 RE14 T14 G14 bz
    have RDc0 := RD16.out.c0
    have RDc1 := RD16.out.c1
    have REc0 := RE16.out.c0
    have REc1 := RE16.out.c1
    go_wp2_with fail
    refine (two_formB ia ib' (hs3.mono (by omega)) E16.out K16.out T16.out).mono ?_
    rintro e w17 ⟨rfl, bz⟩
    clear RDc0 RDc1 REc0 REc1
    have E18 := Hid.mk7 (E16.out.later bz)
    have K18 := Hid.mk7 (K16.out.later bz)
    have RD18 := Hid.mk7 (RD16.out.later bz)
    have RE18 := Hid.mk7 (RE16.out.later bz)
    have T18 := Hid.mk7 (T16.out.later bz)
    have G18 := Hid.mk7 (G16.out.trans (bz.mono G16.out.size))
    clear E16 K16 RD16 RE16 T16 G16 bz
    have bz : RowKit.Below w17.heap.size w17 (w17.alloc (.cells #[.int .i64 0, .slice none 0 0] 24)) := below_newE (RowKit.Below.refl _ _) _
    have nw19 := Hid.mk7 (@Rd.new w17 (.int .i64 0) (.slice none 0 0))
    have E20 := Hid.mk7 (E18.out.later bz)
    have K20 := Hid.mk7 (K18.out.later bz)
    have RD20 := Hid.mk7 (RD18.out.later bz)
    have RE20 := Hid.mk7 (RE18.out.later bz)
    have T20 := Hid.mk7 (T18.out.later bz)
    have G20 := Hid.mk7 (G18.out.trans (bz.mono G18.out.size))
    clear E18 K18 RD18 RE18 T18 G18 bz
    have RDc0 := RD20.out.c0
    have RDc1 := RD20.out.c1
    have REc0 := RE20.out.c0
    have REc1 := RE20.out.c1
    have RJc0 := nw19.out.c0
    have RJc1 := nw19.out.c1
    go_wp2_with fail
    refine (ris_yes13 ia E20.out).mono ?_
    rintro e w21 ⟨rfl, bz⟩
    clear RDc0 RDc1 REc0 REc1 RJc0 RJc1
    have E22 := Hid.mk7 (E20.out.later bz)
    have K22 := Hid.mk7 (K20.out.later bz)
    have RD22 := Hid.mk7 (RD20.out.later bz)
    have RE22 := Hid.mk7 (RE20.out.later bz)
    have T22 := Hid.mk7 (T20.out.later bz)
    have G22 := Hid.mk7 (G20.out.trans (bz.mono G20.out.size))
    have RJ22 := Hid.mk7 (nw19.out.later bz)
    clear E20 K20 RD20 RE20 T20 G20 nw19 bz
    have RDc0 := RD22.out.c0
    have RDc1 := RD22.out.c1
    have REc0 := RE22.out.c0
    have REc1 := RE22.out.c1
    have RJc0 := RJ22.out.c0
    have RJc1 := RJ22.out.c1
    go_wp2_with fail
    refine (ris_no13 ib' hsm2 K22.out).mono ?_
    rintro e w23 ⟨rfl, bz⟩
    clear RDc0 RDc1 REc0 REc1 RJc0 RJc1
    have E24 := Hid.mk7 (E22.out.later bz)
    have K24 := Hid.mk7 (K22.out.later bz)
    have RD24 := Hid.mk7 (RD22.out.later bz)
    have RE24 := Hid.mk7 (RE22.out.later bz)
    have T24 := Hid.mk7 (T22.out.later bz)
    have G24 := Hid.mk7 (G22.out.trans (bz.mono G22.out.size))
    have RJ24 := Hid.mk7 (RJ22.out.later bz)
    clear E22 K22 RD22 RE22 T22 G22 RJ22 bz
    have RDc0 := RD24.out.c0
    have RDc1 := RD24.out.c1
    have REc0 := RE24.out.c0
    have REc1 := RE24.out.c1
    have RJc0 := RJ24.out.c0
    have RJc1 := RJ24.out.c1
    go_wp2
    go_ret
    exact ⟨rfl, G24.out⟩
  obtain ⟨hze, hce⟩ := cel_len13 ia
  obtain ⟨_, hcq⟩ := cel_len13 ib
  have HDA := Hid.mk7 (dl_of ia)
  have HDB := Hid.mk7 (dl_of ib)
  have HIA := Hid.mk7 ia
  have HIB := Hid.mk7 ib
  have HFA := Hid.mk7 fa
  have HFB := Hid.mk7 fb
  have HZE := Hid.mk7 hze
  have hnn := (dl_of ia).b0
  have hmm := (dl_of ib).b0
  clear ia ib fa fb hze
  by_cases hlen : m = ((cel es).length : Nat)
  case neg =>
    have l1 : (m != (((cel es).length : Nat) : Int)) = true := by simpa using hlen
    have l2 : decide (m = (((cel es).length : Nat) : Int)) = false := decide_eq_false hlen
    go_enter Tryd.func3, Tryd.ntmps3
    have RDc0 := RD0.out.c0
    have RDc1 := RD0.out.c1
    have REc0 := RE0.out.c0
    have REc1 := RE0.out.c1
    go_wp2_with fail
    refine (known13_any _ tb T0.out).mono ?_
    rintro e w11 ⟨rfl, bz⟩
    clear RDc0 RDc1 REc0 REc1
    have E12 := Hid.mk7 (E0.out.later bz)
    have K12 := Hid.mk7 (K0.out.later bz)
    have RD12 := Hid.mk7 (RD0.out.later bz)
    have RE12 := Hid.mk7 (RE0.out.later bz)
    have T12 := Hid.mk7 (T0.out.later bz)
    have G12 := Hid.mk7 (G0.out.trans (bz.mono G0.out.size))
    clear E0 K0 RD0 RE0 T0 G0 bz
    have RDc0 := RD12.out.c0
    have RDc1 := RD12.out.c1
    have REc0 := RE12.out.c0
    have REc1 := RE12.out.c1
    go_wp2_with fail
    refine (few_v HFA.out E12.out hl).mono ?_
    rintro e w13 ⟨rfl, bz⟩
    clear RDc0 RDc1 REc0 REc1
    have E14 := Hid.mk7 (E12.out.later bz)
    have K14 := Hid.mk7 (K12.out.later bz)
    have RD14 := Hid.mk7 (RD12.out.later bz)
    have RE14 := Hid.mk7 (RE12.out.later bz)
    have T14 := Hid.mk7 (T12.out.later bz)
    have G14 := Hid.mk7 (G12.out.trans (bz.mono G12.out.size))
    clear E12 K12 RD12 RE12 T12 G12 bz
    have RDc0 := RD14.out.c0
    have RDc1 := RD14.out.c1
    have REc0 := RE14.out.c0
    have REc1 := RE14.out.c1
    go_wp2_with fail
    refine (few_v HFB.out K14.out hl2).mono ?_
    rintro e w15 ⟨rfl, bz⟩
    clear RDc0 RDc1 REc0 REc1
    have E16 := Hid.mk7 (E14.out.later bz)
    have K16 := Hid.mk7 (K14.out.later bz)
    have RD16 := Hid.mk7 (RD14.out.later bz)
    have RE16 := Hid.mk7 (RE14.out.later bz)
    have T16 := Hid.mk7 (T14.out.later bz)
    have G16 := Hid.mk7 (G14.out.trans (bz.mono G14.out.size))
    clear E14 K14 RD14 RE14 T14 G14 bz
    have RDc0 := RD16.out.c0
    have RDc1 := RD16.out.c1
    have REc0 := RE16.out.c0
    have REc1 := RE16.out.c1
    go_wp2_with fail
    refine (two_len HIA.out HIB.out HZE.out hlen E16.out K16.out T16.out).mono ?_
    rintro e w17 ⟨rfl, bz⟩
    clear RDc0 RDc1 REc0 REc1
    have E18 := Hid.mk7 (E16.out.later bz)
    have K18 := Hid.mk7 (K16.out.later bz)
    have RD18 := Hid.mk7 (RD16.out.later bz)
    have RE18 := Hid.mk7 (RE16.out.later bz)
    have T18 := Hid.mk7 (T16.out.later bz)
    have G18 := Hid.mk7 (G16.out.trans (bz.mono G16.out.size))
    clear E16 K16 RD16 RE16 T16 G16 bz
    have bz : RowKit.Below w17.heap.size w17 (w17.alloc (.cells #[.int .i64 0, .slice none 0 0] 24)) := below_newE (RowKit.Below.refl _ _) _
    have nw19 := Hid.mk7 (@Rd.new w17 (.int .i64 0) (.slice none 0 0))
    have E20 := Hid.mk7 (E18.out.later bz)
    have K20 := Hid.mk7 (K18.out.later bz)
    have RD20 := Hid.mk7 (RD18.out.later bz)
    have RE20 := Hid.mk7 (RE18.out.later bz)
    have T20 := Hid.mk7 (T18.out.later bz)
    have G20 := Hid.mk7 (G18.out.trans (bz.mono G18.out.size))
    clear E18 K18 RD18 RE18 T18 G18 bz
    have RDc0 := RD20.out.c0
    have RDc1 := RD20.out.c1
    have REc0 := RE20.out.c0
    have REc1 := RE20.out.c1
    have RJc0 := nw19.out.c0
    have RJc1 := nw19.out.c1
    go_wp2_with fail
    refine (ris_yes13 HIA.out E20.out).mono ?_
    rintro e w21 ⟨rfl, bz⟩
    clear RDc0 RDc1 REc0 REc1 RJc0 RJc1
    have E22 := Hid.mk7 (E20.out.later bz)
    have K22 := Hid.mk7 (K20.out.later bz)
    have RD22 := Hid.mk7 (RD20.out.later bz)
    have RE22 := Hid.mk7 (RE20.out.later bz)
    have T22 := Hid.mk7 (T20.out.later bz)
    have G22 := Hid.mk7 (G20.out.trans (bz.mono G20.out.size))
    have RJ22 := Hid.mk7 (nw19.out.later bz)
    clear E20 K20 RD20 RE20 T20 G20 nw19 bz
    have RDc0 := RD22.out.c0
    have RDc1 := RD22.out.c1
    have REc0 := RE22.out.c0
    have REc1 := RE22.out.c1
    have RJc0 := RJ22.out.c0
    have RJc1 := RJ22.out.c1
    go_wp2_with fail
    refine (ris_yes13 HIB.out K22.out).mono ?_
    rintro e w23 ⟨rfl, bz⟩
    clear RDc0 RDc1 REc0 REc1 RJc0 RJc1
    have E24 := Hid.mk7 (E22.out.later bz)
    have K24 := Hid.mk7 (K22.out.later bz)
    have RD24 := Hid.mk7 (RD22.out.later bz)
    have RE24 := Hid.mk7 (RE22.out.later bz)
    have T24 := Hid.mk7 (T22.out.later bz)
    have G24 := Hid.mk7 (G22.out.trans (bz.mono G22.out.size))
    have RJ24 := Hid.mk7 (RJ22.out.later bz)
    clear E22 K22 RD22 RE22 T22 G22 RJ22 bz
    have RDz0 := cell_regrown RD24.out.c0
    have RDz1 := cell_regrown RD24.out.c1
    have REz0 := cell_regrown RE24.out.c0
    have REz1 := cell_regrown RE24.out.c1
    have RJz0 := cell_regrown RJ24.out.c0
    have RJz1 := cell_regrown RJ24.out.c1
    have RDc0 := RD24.out.c0
    have RDc1 := RD24.out.c1
    have REc0 := RE24.out.c0
    have REc1 := RE24.out.c1
    have RJc0 := RJ24.out.c0
    have RJc1 := RJ24.out.c1
    go_upto_region 8 with fail
    clear RDc0 RDc1 REc0 REc1 RJc0 RJc1
    refine wp_region_mixP [([0, 2], [1]), ([], [3]), ([4, 5], [])] (by kernel_rfl) (by kernel_rfl) ?_
    rintro v0 ⟨d0, rfl⟩
    have m0 := below_redrawnE (w23) d0
    refine wpPlan_cons ?_
    simp only [pickAll, pickAt, List.nil_append, List.cons_append, List.append_nil]
    repeat (go_big_quiet_step (fail))
    refine wpQuiet_nil ?_
    go_wp2_with fail
    refine (cells_row13 (E24.out.later m0) HDA.out).mono ?_
    rintro e v1 ⟨xv, rfl, hx, b1'⟩
    have m1 := m0.trans (b1'.mono m0.size)
    go_wp2
    refine mixNext_belowE m1 ?_
    refine wpPlan_cons ?_
    simp only [pickAll, pickAt, List.nil_append, List.cons_append, List.append_nil]
    repeat (go_big_quiet_step (fail))
    refine wpQuiet_nil ?_
    go_wp2_with fail
    refine (cells_row13 (K24.out.later m1) HDB.out).mono ?_
    rintro e wj ⟨yv, rfl, hy, b2'⟩
    have m2 := m1.trans (b2'.mono m1.size)
    have hx2 := hx.later b2'
    go_wp2
    refine mixNext_belowE m2 ?_
    refine wpPlan_cons ?_
    simp only [pickAll, pickAt, List.nil_append, List.cons_append, List.append_nil]
    repeat (go_big_quiet_step (fail))
    refine wpQuiet_nil ?_
    refine mixNext_belowE m2 (wpPlan_nil ?_)
    have HXX := Hid.mk7 hx2
    have HYY := Hid.mk7 hy
    obtain ⟨xa, xc, rfl, _, _⟩ := id hx2
    clear hx hx2 hy m0 m1 b1' b2' RDz0 RDz1 REz0 REz1 RJz0 RJz1
    have E25 := Hid.mk7 (E24.out.later m2)
    have K25 := Hid.mk7 (K24.out.later m2)
    have RD25 := Hid.mk7 (RD24.out.later m2)
    have RE25 := Hid.mk7 (RE24.out.later m2)
    have T25 := Hid.mk7 (T24.out.later m2)
    have G25 := Hid.mk7 (G24.out.trans (m2.mono G24.out.size))
    have RJ25 := Hid.mk7 (RJ24.out.later m2)
    clear E24 K24 RD24 RE24 T24 G24 RJ24 m2
    have RDc0 := RD25.out.c0
    have RDc1 := RD25.out.c1
    have REc0 := RE25.out.c0
    have REc1 := RE25.out.c1
    have RJc0 := RJ25.out.c0
    have RJc1 := RJ25.out.c1
    go_wp2
    go_ret
    exact ⟨rfl, G25.out⟩
  have HLE := Hid.mk7 hlen
  have HUP := Hid.mk7 (two_up HIA.out HIB.out hlen)
  have HIN : Hid (InC (cel es).length (cel qs)) := up_inC (up_cel qs 0 0 (Int.le_refl _) HDB.out.nm) (by omega)
  have l1 : (m != (((cel es).length : Nat) : Int)) = false := by simpa using hlen
  have l2 : decide (m = (((cel es).length : Nat) : Int)) = true := decide_eq_true hlen
  clear hlen
  have h2l : (twoC (cel es) (cel qs)).length ≤ 20000 := by rw [twoC_len]; exact hcq
  obtain ⟨E2, hE2⟩ : ∃ E2, tld (twoC (cel es) (cel qs)) = E2 := ⟨_, rfl⟩
  obtain ⟨b1, zs, er, hrs⟩ := rs_ex n E2
  have HRS := Hid.mk7 hrs
  have HRT := Hid.mk7 (fun (W : World) (u v : Value) (hx : KAt W u (cel es)) (hy : KAt W v (cel qs)) => rtwo_any hx hy HIN.out hce hcq)
  have HTO := Hid.mk7 (fun (W : World) (v : Value) (hx : KAt W v (twoC (cel es) (cel qs))) => told_rs (by omega) hx HUP.out h2l hE2 hrs)
  have HTW := Hid.mk7 (fun (W : World) (u v : Value) (hx : ElAt W u es) (hy : ElAt W v qs) (t : Tab W tb) => two_v HIA.out HIB.out HLE.out.symm hE2 hrs hx hy t)
  clear hE2 hrs h2l
  go_enter Tryd.func3, Tryd.ntmps3
  have RDc0 := RD0.out.c0
  have RDc1 := RD0.out.c1
  have REc0 := RE0.out.c0
  have REc1 := RE0.out.c1
  go_wp2_with fail
  refine (known13_any _ tb T0.out).mono ?_
  rintro e w11 ⟨rfl, bz⟩
  clear RDc0 RDc1 REc0 REc1
  have E12 := Hid.mk7 (E0.out.later bz)
  have K12 := Hid.mk7 (K0.out.later bz)
  have RD12 := Hid.mk7 (RD0.out.later bz)
  have RE12 := Hid.mk7 (RE0.out.later bz)
  have T12 := Hid.mk7 (T0.out.later bz)
  have G12 := Hid.mk7 (G0.out.trans (bz.mono G0.out.size))
  clear E0 K0 RD0 RE0 T0 G0 bz
  have RDc0 := RD12.out.c0
  have RDc1 := RD12.out.c1
  have REc0 := RE12.out.c0
  have REc1 := RE12.out.c1
  go_wp2_with fail
  refine (few_v HFA.out E12.out hl).mono ?_
  rintro e w13 ⟨rfl, bz⟩
  clear RDc0 RDc1 REc0 REc1
  have E14 := Hid.mk7 (E12.out.later bz)
  have K14 := Hid.mk7 (K12.out.later bz)
  have RD14 := Hid.mk7 (RD12.out.later bz)
  have RE14 := Hid.mk7 (RE12.out.later bz)
  have T14 := Hid.mk7 (T12.out.later bz)
  have G14 := Hid.mk7 (G12.out.trans (bz.mono G12.out.size))
  clear E12 K12 RD12 RE12 T12 G12 bz
  have RDc0 := RD14.out.c0
  have RDc1 := RD14.out.c1
  have REc0 := RE14.out.c0
  have REc1 := RE14.out.c1
  go_wp2_with fail
  refine (few_v HFB.out K14.out hl2).mono ?_
  rintro e w15 ⟨rfl, bz⟩
  clear RDc0 RDc1 REc0 REc1
  have E16 := Hid.mk7 (E14.out.later bz)
  have K16 := Hid.mk7 (K14.out.later bz)
  have RD16 := Hid.mk7 (RD14.out.later bz)
  have RE16 := Hid.mk7 (RE14.out.later bz)
  have T16 := Hid.mk7 (T14.out.later bz)
  have G16 := Hid.mk7 (G14.out.trans (bz.mono G14.out.size))
  clear E14 K14 RD14 RE14 T14 G14 bz
  have RDc0 := RD16.out.c0
  have RDc1 := RD16.out.c1
  have REc0 := RE16.out.c0
  have REc1 := RE16.out.c1
  go_wp2_with fail
  refine (HTW.out _ _ _ E16.out K16.out T16.out).mono ?_
  rintro e w17 ⟨jv, rfl, hj, bz⟩
  clear RDc0 RDc1 REc0 REc1
  obtain ⟨ja, jc, rfl, _, _, _⟩ := id hj
  have E18 := Hid.mk7 (E16.out.later bz)
  have K18 := Hid.mk7 (K16.out.later bz)
  have RD18 := Hid.mk7 (RD16.out.later bz)
  have RE18 := Hid.mk7 (RE16.out.later bz)
  have T18 := Hid.mk7 (T16.out.later bz)
  have G18 := Hid.mk7 (G16.out.trans (bz.mono G16.out.size))
  clear E16 K16 RD16 RE16 T16 G16 bz
  have J19 := Hid.mk7 (hj)
  clear hj
  clear HTW
  have bz : RowKit.Below w17.heap.size w17 (w17.alloc (.cells #[.int .i64 b1, .slice ja zs.length jc] 24)) := below_newE (RowKit.Below.refl _ _) _
  have nw20 := Hid.mk7 (@Rd.new w17 (.int .i64 b1) (.slice ja zs.length jc))
  have E21 := Hid.mk7 (E18.out.later bz)
  have K21 := Hid.mk7 (K18.out.later bz)
  have RD21 := Hid.mk7 (RD18.out.later bz)
  have RE21 := Hid.mk7 (RE18.out.later bz)
  have T21 := Hid.mk7 (T18.out.later bz)
  have G21 := Hid.mk7 (G18.out.trans (bz.mono G18.out.size))
  have J21 := Hid.mk7 (J19.out.later bz)
  clear E18 K18 RD18 RE18 T18 G18 J19 bz
  have RDc0 := RD21.out.c0
  have RDc1 := RD21.out.c1
  have REc0 := RE21.out.c0
  have REc1 := RE21.out.c1
  have RJc0 := nw20.out.c0
  have RJc1 := nw20.out.c1
  go_wp2_with fail
  refine (ris_yes13 HIA.out E21.out).mono ?_
  rintro e w22 ⟨rfl, bz⟩
  clear RDc0 RDc1 REc0 REc1 RJc0 RJc1
  have E23 := Hid.mk7 (E21.out.later bz)
  have K23 := Hid.mk7 (K21.out.later bz)
  have RD23 := Hid.mk7 (RD21.out.later bz)
  have RE23 := Hid.mk7 (RE21.out.later bz)
  have T23 := Hid.mk7 (T21.out.later bz)
  have G23 := Hid.mk7 (G21.out.trans (bz.mono G21.out.size))
  have J23 := Hid.mk7 (J21.out.later bz)
  have RJ23 := Hid.mk7 (nw20.out.later bz)
  clear E21 K21 RD21 RE21 T21 G21 J21 nw20 bz
  have RDc0 := RD23.out.c0
  have RDc1 := RD23.out.c1
  have REc0 := RE23.out.c0
  have REc1 := RE23.out.c1
  have RJc0 := RJ23.out.c0
  have RJc1 := RJ23.out.c1
  go_wp2_with fail
  refine (ris_yes13 HIB.out K23.out).mono ?_
  rintro e w24 ⟨rfl, bz⟩
  clear RDc0 RDc1 REc0 REc1 RJc0 RJc1
  have E25 := Hid.mk7 (E23.out.later bz)
  have K25 := Hid.mk7 (K23.out.later bz)
  have RD25 := Hid.mk7 (RD23.out.later bz)
  have RE25 := Hid.mk7 (RE23.out.later bz)
  have T25 := Hid.mk7 (T23.out.later bz)
  have G25 := Hid.mk7 (G23.out.trans (bz.mono G23.out.size))
  have J25 := Hid.mk7 (J23.out.later bz)
  have RJ25 := Hid.mk7 (RJ23.out.later bz)
  clear E23 K23 RD23 RE23 T23 G23 J23 RJ23 bz
  have RDz0 := cell_regrown RD25.out.c0
  have RDz1 := cell_regrown RD25.out.c1
  have REz0 := cell_regrown RE25.out.c0
  have REz1 := cell_regrown RE25.out.c1
  have RJz0 := cell_regrown RJ25.out.c0
  have RJz1 := cell_regrown RJ25.out.c1
  have RDc0 := RD25.out.c0
  have RDc1 := RD25.out.c1
  have REc0 := RE25.out.c0
  have REc1 := RE25.out.c1
  have RJc0 := RJ25.out.c0
  have RJc1 := RJ25.out.c1
  go_upto_region 8 with fail
  clear RDc0 RDc1 REc0 REc1 RJc0 RJc1
  refine wp_region_mixP [([0, 2], [1]), ([], [3]), ([4, 5], [])] (by kernel_rfl) (by kernel_rfl) ?_
  rintro v0 ⟨d0, rfl⟩
  have m0 := below_redrawnE (w24) d0
  refine wpPlan_cons ?_
  simp only [pickAll, pickAt, List.nil_append, List.cons_append, List.append_nil]
  repeat (go_big_quiet_step (fail))
  refine wpQuiet_nil ?_
  go_wp2_with fail
  refine (cells_row13 (E25.out.later m0) HDA.out).mono ?_
  rintro e v1 ⟨xv, rfl, hx, b1'⟩
  have m1 := m0.trans (b1'.mono m0.size)
  go_wp2
  refine mixNext_belowE m1 ?_
  refine wpPlan_cons ?_
  simp only [pickAll, pickAt, List.nil_append, List.cons_append, List.append_nil]
  repeat (go_big_quiet_step (fail))
  refine wpQuiet_nil ?_
  go_wp2_with fail
  refine (cells_row13 (K25.out.later m1) HDB.out).mono ?_
  rintro e wj ⟨yv, rfl, hy, b2'⟩
  have m2 := m1.trans (b2'.mono m1.size)
  have hx2 := hx.later b2'
  go_wp2
  refine mixNext_belowE m2 ?_
  refine wpPlan_cons ?_
  simp only [pickAll, pickAt, List.nil_append, List.cons_append, List.append_nil]
  repeat (go_big_quiet_step (fail))
  refine wpQuiet_nil ?_
  refine mixNext_belowE m2 (wpPlan_nil ?_)
  have HXX := Hid.mk7 hx2
  have HYY := Hid.mk7 hy
  obtain ⟨xa, xc, rfl, _, _⟩ := id hx2
  clear hx hx2 hy m0 m1 b1' b2' RDz0 RDz1 REz0 REz1 RJz0 RJz1
  have E26 := Hid.mk7 (E25.out.later m2)
  have K26 := Hid.mk7 (K25.out.later m2)
  have RD26 := Hid.mk7 (RD25.out.later m2)
  have RE26 := Hid.mk7 (RE25.out.later m2)
  have T26 := Hid.mk7 (T25.out.later m2)
  have G26 := Hid.mk7 (G25.out.trans (m2.mono G25.out.size))
  have J26 := Hid.mk7 (J25.out.later m2)
  have RJ26 := Hid.mk7 (RJ25.out.later m2)
  clear E25 K25 RD25 RE25 T25 G25 J25 RJ25 m2
  have RDc0 := RD26.out.c0
  have RDc1 := RD26.out.c1
  have REc0 := RE26.out.c0
  have REc1 := RE26.out.c1
  have RJc0 := RJ26.out.c0
  have RJc1 := RJ26.out.c1
  go_upto_region 11 with fail
  clear RDc0 RDc1 REc0 REc1 RJc0 RJc1
  go_cut [9, 10] from 60 to 68 (fun s9 s10 wx => ∃ (gz : Nat) (yv : Value), s9 = .pointer (some ⟨gz, 0, none⟩) ∧ s10 = .int .i64 er ∧ Hid (Rd wx gz (.int .i64 b1) yv) ∧ Hid (ElAt wx yv zs) ∧ Hid (RowKit.Below wj.heap.size wj wx))
  case first =>
    refine wp_region_turns (fun w' => ∃ q : (GW (fun W => Rd W w.heap.size (.int .i64 n) (.slice va es.length vcap))), w' = q.w) [0, 1, 2, 3] 11 8 (by kernel_rfl) (by kernel_rfl) (fun d => ⟨⟨redrawn wj d, RD26.out.later (below_redrawnE wj d)⟩, rfl⟩) ?_
    intro d
    have k0 : ∀ q : (GW (fun W => Rd W w.heap.size (.int .i64 n) (.slice va es.length vcap))), q.w.cell? ⟨w.heap.size, 0, none⟩ = some (.int .i64 n) := fun q => q.h.c0
    have k1 : ∀ q : (GW (fun W => Rd W w.heap.size (.int .i64 n) (.slice va es.length vcap))), q.w.cell? ⟨w.heap.size, 1, none⟩ = some (.slice va es.length vcap) := fun q => q.h.c1
    simp only [pickAll, pickAt, List.nil_append, List.cons_append, List.append_nil]
    have hne : Nonempty (GW (fun W => Rd W w.heap.size (.int .i64 n) (.slice va es.length vcap))) := ⟨⟨wj, RD26.out⟩⟩
    repeat (go_big_quiet_step (fail))
    refine wpQuiet_nil ?_
    clear hne k0 k1
    have bb0 := Hid.mk7 (below_redrawnE wj d)
    generalize redrawn wj d = x0 at *
    refine anyC_pick2 4 9 (by kernel_rfl) (by kernel_rfl) (by kernel_rfl) ?_ ?_
    · simp only [pickAll, pickAt, List.nil_append, List.cons_append, List.append_nil]
      go_wp2_with fail
      refine (HRT.out _ _ _ (HXX.out.later bb0.out) (HYY.out.later bb0.out)).mono ?_
      rintro e x1 ⟨cv, rfl, hy, bz⟩
      have C1 := Hid.mk7 hy
      have bb1 : Hid (RowKit.Below wj.heap.size wj x1) := bb0.out.trans (bz.mono bb0.out.size)
      clear bz hy
      go_wp2
      refine anyNext_mk ⟨⟨_, RD26.out.later bb1.out⟩, rfl⟩ ?_
      refine anyC_pick2 5 9 (by kernel_rfl) (by kernel_rfl) (by kernel_rfl) ?_ ?_
      · simp only [pickAll, pickAt, List.nil_append, List.cons_append, List.append_nil]
        go_wp2_with fail
        refine (HTO.out _ _ C1.out).mono ?_
        rintro e x2 ⟨yv, rfl, hy, bz⟩
        obtain ⟨ya, yc, rfl, _, _, _⟩ := id hy
        have C2 := Hid.mk7 (C1.out.later bz)
        have Y2 := Hid.mk7 hy
        have bb2 : Hid (RowKit.Below wj.heap.size wj x2) := bb1.out.trans (bz.mono bb1.out.size)
        clear bz hy
        go_wp2
        refine anyNext_mk ⟨⟨_, RD26.out.later bb2.out⟩, rfl⟩ ?_
        refine anyC_pick2 6 9 (by kernel_rfl) (by kernel_rfl) (by kernel_rfl) ?_ ?_
        · simp only [pickAll, pickAt, List.nil_append, List.cons_append, List.append_nil]
          go_wp2
          refine anyNext_mk ⟨⟨_, RD26.out.later bb2.out⟩, rfl⟩ ?_
          refine anyC_pick3F 7 8 9 (by kernel_rfl) (by kernel_rfl) (by kernel_rfl) (by kernel_rfl) ?_ ?_ ?_
          · simp only [pickAll, pickAt, List.nil_append, List.cons_append, List.append_nil]
            go_wp2
            refine anyNext_mk ⟨⟨_, RD26.out.later bb2.out⟩, rfl⟩ ?_
            refine anyC_pick2 8 9 (by kernel_rfl) (by kernel_rfl) (by kernel_rfl) ?_ ?_
            · simp only [pickAll, pickAt, List.nil_append, List.cons_append, List.append_nil]
              go_wp2
              refine anyNext_mk ⟨⟨_, RD26.out.later bb2.out⟩, rfl⟩ ?_
              refine anyC_pick1 9 (by kernel_rfl) (by kernel_rfl) ?_
              simp only [pickAll, pickAt, List.nil_append, List.cons_append, List.append_nil]
              have C6 := Hid.mk7 (C2.out.later (below_newE (RowKit.Below.refl _ _) (.cells #[.int .i64 0, .slice none 0 0] 24)))
              have Y6 := Hid.mk7 (Y2.out.later (below_newE (RowKit.Below.refl _ _) (.cells #[.int .i64 0, .slice none 0 0] 24)))
              have Z6 : Hid (Rd (x2.alloc (.cells #[.int .i64 0, .slice none 0 0] 24)) x2.heap.size (.int .i64 0) (.slice none 0 0)) := Rd.new _ _ _
              have bb6 : Hid (RowKit.Below wj.heap.size wj (x2.alloc (.cells #[.int .i64 0, .slice none 0 0] 24))) := bb2.out.alloc bb2.out.size _
              have hgz := bb2.out.size
              go_wp2
              generalize (x2.alloc (.cells #[.int .i64 0, .slice none 0 0] 24)) = x6 at *
              generalize x2.heap.size = gz at *
              refine anyNext_mk ⟨⟨_, RD26.out.later bb6.out⟩, rfl⟩ ?_
              refine anyC_pick1 10 (by kernel_rfl) (by kernel_rfl) ?_
              simp only [pickAll, pickAt, List.nil_append, List.cons_append, List.append_nil]
              have c0 := Z6.out.c0
              have c1 := Z6.out.c1
              have fz := Z6.out.fz
              have c2 : (x6.setCell ⟨gz, 0, none⟩ (.int .i64 b1)).cell? ⟨gz, 1, none⟩ = some (.slice none 0 0) := (Z6.out.set0 _).c1
              have fz2 := (Z6.out.set0 (.int .i64 b1)).fz
              have Y7 := Hid.mk7 (Y6.out.set_del Z6.out (.int .i64 b1) (.slice ya zs.length yc))
              have Z7 := Hid.mk7 (Z6.out.set (.int .i64 b1) (.slice ya zs.length yc))
              have bb7 : Hid (RowKit.Below wj.heap.size wj ((x6.setCell ⟨gz, 0, none⟩ (.int .i64 b1)).setCell ⟨gz, 1, none⟩ (.slice ya zs.length yc))) := below_set2 bb6.out hgz _ _
              go_wp2
              clear c0 c1 c2 fz fz2
              generalize ((x6.setCell ⟨gz, 0, none⟩ (.int .i64 b1)).setCell ⟨gz, 1, none⟩ (.slice ya zs.length yc)) = x7 at *
              refine anyNext_mk ⟨⟨_, RD26.out.later bb7.out⟩, rfl⟩ ?_
              refine anyC_pick1 11 (by kernel_rfl) (by kernel_rfl) ?_
              simp only [pickAll, pickAt, List.nil_append, List.cons_append, List.append_nil]
              go_wp2
              refine anyNext_last (anyC_done (by kernel_rfl) ?_)
              go_wp2
              go_meet
              exact ⟨gz, _, rfl, rfl, Z7, Y7, bb7⟩
            · simp only [pickAll, pickAt, List.nil_append, List.cons_append, List.append_nil]
              have C9 := Hid.mk7 (C2.out.later (below_newE (RowKit.Below.refl _ _) (.cells #[.int .i64 0, .slice none 0 0] 24)))
              have Y9 := Hid.mk7 (Y2.out.later (below_newE (RowKit.Below.refl _ _) (.cells #[.int .i64 0, .slice none 0 0] 24)))
              have Z9 : Hid (Rd (x2.alloc (.cells #[.int .i64 0, .slice none 0 0] 24)) x2.heap.size (.int .i64 0) (.slice none 0 0)) := Rd.new _ _ _
              have bb9 : Hid (RowKit.Below wj.heap.size wj (x2.alloc (.cells #[.int .i64 0, .slice none 0 0] 24))) := bb2.out.alloc bb2.out.size _
              have hgz := bb2.out.size
              go_wp2
              generalize (x2.alloc (.cells #[.int .i64 0, .slice none 0 0] 24)) = x9 at *
              generalize x2.heap.size = gz at *
              refine anyNext_mk ⟨⟨_, RD26.out.later bb9.out⟩, rfl⟩ ?_
              refine anyC_pick2 8 10 (by kernel_rfl) (by kernel_rfl) (by kernel_rfl) ?_ ?_
              · simp only [pickAll, pickAt, List.nil_append, List.cons_append, List.append_nil]
                go_wp2
                refine anyNext_mk ⟨⟨_, RD26.out.later bb9.out⟩, rfl⟩ ?_
                refine anyC_pick1 10 (by kernel_rfl) (by kernel_rfl) ?_
                simp only [pickAll, pickAt, List.nil_append, List.cons_append, List.append_nil]
                have c0 := Z9.out.c0
                have c1 := Z9.out.c1
                have fz := Z9.out.fz
                have c2 : (x9.setCell ⟨gz, 0, none⟩ (.int .i64 b1)).cell? ⟨gz, 1, none⟩ = some (.slice none 0 0) := (Z9.out.set0 _).c1
                have fz2 := (Z9.out.set0 (.int .i64 b1)).fz
                have Y11 := Hid.mk7 (Y9.out.set_del Z9.out (.int .i64 b1) (.slice ya zs.length yc))
                have Z11 := Hid.mk7 (Z9.out.set (.int .i64 b1) (.slice ya zs.length yc))
                have bb11 : Hid (RowKit.Below wj.heap.size wj ((x9.setCell ⟨gz, 0, none⟩ (.int .i64 b1)).setCell ⟨gz, 1, none⟩ (.slice ya zs.length yc))) := below_set2 bb9.out hgz _ _
                go_wp2
                clear c0 c1 c2 fz fz2
                generalize ((x9.setCell ⟨gz, 0, none⟩ (.int .i64 b1)).setCell ⟨gz, 1, none⟩ (.slice ya zs.length yc)) = x11 at *
                refine anyNext_mk ⟨⟨_, RD26.out.later bb11.out⟩, rfl⟩ ?_
                refine anyC_pick1 11 (by kernel_rfl) (by kernel_rfl) ?_
                simp only [pickAll, pickAt, List.nil_append, List.cons_append, List.append_nil]
                go_wp2
                refine anyNext_last (anyC_done (by kernel_rfl) ?_)
                go_wp2
                go_meet
                exact ⟨gz, _, rfl, rfl, Z11, Y11, bb11⟩
              · simp only [pickAll, pickAt, List.nil_append, List.cons_append, List.append_nil]
                have c0 := Z9.out.c0
                have c1 := Z9.out.c1
                have fz := Z9.out.fz
                have c2 : (x9.setCell ⟨gz, 0, none⟩ (.int .i64 b1)).cell? ⟨gz, 1, none⟩ = some (.slice none 0 0) := (Z9.out.set0 _).c1
                have fz2 := (Z9.out.set0 (.int .i64 b1)).fz
                have Y13 := Hid.mk7 (Y9.out.set_del Z9.out (.int .i64 b1) (.slice ya zs.length yc))
                have Z13 := Hid.mk7 (Z9.out.set (.int .i64 b1) (.slice ya zs.length yc))
                have bb13 : Hid (RowKit.Below wj.heap.size wj ((x9.setCell ⟨gz, 0, none⟩ (.int .i64 b1)).setCell ⟨gz, 1, none⟩ (.slice ya zs.length yc))) := below_set2 bb9.out hgz _ _
                go_wp2
                clear c0 c1 c2 fz fz2
                generalize ((x9.setCell ⟨gz, 0, none⟩ (.int .i64 b1)).setCell ⟨gz, 1, none⟩ (.slice ya zs.length yc)) = x13 at *
                refine anyNext_mk ⟨⟨_, RD26.out.later bb13.out⟩, rfl⟩ ?_
                refine anyC_pick1 8 (by kernel_rfl) (by kernel_rfl) ?_
                simp only [pickAll, pickAt, List.nil_append, List.cons_append, List.append_nil]
                go_wp2
                refine anyNext_mk ⟨⟨_, RD26.out.later bb13.out⟩, rfl⟩ ?_
                refine anyC_pick1 11 (by kernel_rfl) (by kernel_rfl) ?_
                simp only [pickAll, pickAt, List.nil_append, List.cons_append, List.append_nil]
                go_wp2
                refine anyNext_last (anyC_done (by kernel_rfl) ?_)
                go_wp2
                go_meet
                exact ⟨gz, _, rfl, rfl, Z13, Y13, bb13⟩
          · simp only [pickAll, pickAt, List.nil_append, List.cons_append, List.append_nil]
            go_wp2
            refine anyNext_mk ⟨⟨_, RD26.out.later bb2.out⟩, rfl⟩ ?_
            refine anyC_pick2 7 9 (by kernel_rfl) (by kernel_rfl) (by kernel_rfl) ?_ ?_
            · simp only [pickAll, pickAt, List.nil_append, List.cons_append, List.append_nil]
              go_wp2
              refine anyNext_mk ⟨⟨_, RD26.out.later bb2.out⟩, rfl⟩ ?_
              refine anyC_pick1 9 (by kernel_rfl) (by kernel_rfl) ?_
              simp only [pickAll, pickAt, List.nil_append, List.cons_append, List.append_nil]
              have C18 := Hid.mk7 (C2.out.later (below_newE (RowKit.Below.refl _ _) (.cells #[.int .i64 0, .slice none 0 0] 24)))
              have Y18 := Hid.mk7 (Y2.out.later (below_newE (RowKit.Below.refl _ _) (.cells #[.int .i64 0, .slice none 0 0] 24)))
              have Z18 : Hid (Rd (x2.alloc (.cells #[.int .i64 0, .slice none 0 0] 24)) x2.heap.size (.int .i64 0) (.slice none 0 0)) := Rd.new _ _ _
              have bb18 : Hid (RowKit.Below wj.heap.size wj (x2.alloc (.cells #[.int .i64 0, .slice none 0 0] 24))) := bb2.out.alloc bb2.out.size _
              have hgz := bb2.out.size
              go_wp2
              generalize (x2.alloc (.cells #[.int .i64 0, .slice none 0 0] 24)) = x18 at *
              generalize x2.heap.size = gz at *
              refine anyNext_mk ⟨⟨_, RD26.out.later bb18.out⟩, rfl⟩ ?_
              refine anyC_pick1 10 (by kernel_rfl) (by kernel_rfl) ?_
              simp only [pickAll, pickAt, List.nil_append, List.cons_append, List.append_nil]
              have c0 := Z18.out.c0
              have c1 := Z18.out.c1
              have fz := Z18.out.fz
              have c2 : (x18.setCell ⟨gz, 0, none⟩ (.int .i64 b1)).cell? ⟨gz, 1, none⟩ = some (.slice none 0 0) := (Z18.out.set0 _).c1
              have fz2 := (Z18.out.set0 (.int .i64 b1)).fz
              have Y19 := Hid.mk7 (Y18.out.set_del Z18.out (.int .i64 b1) (.slice ya zs.length yc))
              have Z19 := Hid.mk7 (Z18.out.set (.int .i64 b1) (.slice ya zs.length yc))
              have bb19 : Hid (RowKit.Below wj.heap.size wj ((x18.setCell ⟨gz, 0, none⟩ (.int .i64 b1)).setCell ⟨gz, 1, none⟩ (.slice ya zs.length yc))) := below_set2 bb18.out hgz _ _
              go_wp2
              clear c0 c1 c2 fz fz2
              generalize ((x18.setCell ⟨gz, 0, none⟩ (.int .i64 b1)).setCell ⟨gz, 1, none⟩ (.slice ya zs.length yc)) = x19 at *
              refine anyNext_mk ⟨⟨_, RD26.out.later bb19.out⟩, rfl⟩ ?_
              refine anyC_pick1 11 (by kernel_rfl) (by kernel_rfl) ?_
              simp only [pickAll, pickAt, List.nil_append, List.cons_append, List.append_nil]
              go_wp2
              refine anyNext_last (anyC_done (by kernel_rfl) ?_)
              go_wp2
              go_meet
              exact ⟨gz, _, rfl, rfl, Z19, Y19, bb19⟩
            · simp only [pickAll, pickAt, List.nil_append, List.cons_append, List.append_nil]
              have C21 := Hid.mk7 (C2.out.later (below_newE (RowKit.Below.refl _ _) (.cells #[.int .i64 0, .slice none 0 0] 24)))
              have Y21 := Hid.mk7 (Y2.out.later (below_newE (RowKit.Below.refl _ _) (.cells #[.int .i64 0, .slice none 0 0] 24)))
              have Z21 : Hid (Rd (x2.alloc (.cells #[.int .i64 0, .slice none 0 0] 24)) x2.heap.size (.int .i64 0) (.slice none 0 0)) := Rd.new _ _ _
              have bb21 : Hid (RowKit.Below wj.heap.size wj (x2.alloc (.cells #[.int .i64 0, .slice none 0 0] 24))) := bb2.out.alloc bb2.out.size _
              have hgz := bb2.out.size
              go_wp2
              generalize (x2.alloc (.cells #[.int .i64 0, .slice none 0 0] 24)) = x21 at *
              generalize x2.heap.size = gz at *
              refine anyNext_mk ⟨⟨_, RD26.out.later bb21.out⟩, rfl⟩ ?_
              refine anyC_pick1 7 (by kernel_rfl) (by kernel_rfl) ?_
              simp only [pickAll, pickAt, List.nil_append, List.cons_append, List.append_nil]
              go_wp2
              refine anyNext_mk ⟨⟨_, RD26.out.later bb21.out⟩, rfl⟩ ?_
              refine anyC_pick1 10 (by kernel_rfl) (by kernel_rfl) ?_
              simp only [pickAll, pickAt, List.nil_append, List.cons_append, List.append_nil]
              have c0 := Z21.out.c0
              have c1 := Z21.out.c1
              have fz := Z21.out.fz
              have c2 : (x21.setCell ⟨gz, 0, none⟩ (.int .i64 b1)).cell? ⟨gz, 1, none⟩ = some (.slice none 0 0) := (Z21.out.set0 _).c1
              have fz2 := (Z21.out.set0 (.int .i64 b1)).fz
              have Y23 := Hid.mk7 (Y21.out.set_del Z21.out (.int .i64 b1) (.slice ya zs.length yc))
              have Z23 := Hid.mk7 (Z21.out.set (.int .i64 b1) (.slice ya zs.length yc))
              have bb23 : Hid (RowKit.Below wj.heap.size wj ((x21.setCell ⟨gz, 0, none⟩ (.int .i64 b1)).setCell ⟨gz, 1, none⟩ (.slice ya zs.length yc))) := below_set2 bb21.out hgz _ _
              go_wp2
              clear c0 c1 c2 fz fz2
              generalize ((x21.setCell ⟨gz, 0, none⟩ (.int .i64 b1)).setCell ⟨gz, 1, none⟩ (.slice ya zs.length yc)) = x23 at *
              refine anyNext_mk ⟨⟨_, RD26.out.later bb23.out⟩, rfl⟩ ?_
              refine anyC_pick1 11 (by kernel_rfl) (by kernel_rfl) ?_
              simp only [pickAll, pickAt, List.nil_append, List.cons_append, List.append_nil]
              go_wp2
              refine anyNext_last (anyC_done (by kernel_rfl) ?_)
              go_wp2
              go_meet
              exact ⟨gz, _, rfl, rfl, Z23, Y23, bb23⟩
          · simp only [pickAll, pickAt, List.nil_append, List.cons_append, List.append_nil]
            have C25 := Hid.mk7 (C2.out.later (below_newE (RowKit.Below.refl _ _) (.cells #[.int .i64 0, .slice none 0 0] 24)))
            have Y25 := Hid.mk7 (Y2.out.later (below_newE (RowKit.Below.refl _ _) (.cells #[.int .i64 0, .slice none 0 0] 24)))
            have Z25 : Hid (Rd (x2.alloc (.cells #[.int .i64 0, .slice none 0 0] 24)) x2.heap.size (.int .i64 0) (.slice none 0 0)) := Rd.new _ _ _
            have bb25 : Hid (RowKit.Below wj.heap.size wj (x2.alloc (.cells #[.int .i64 0, .slice none 0 0] 24))) := bb2.out.alloc bb2.out.size _
            have hgz := bb2.out.size
            go_wp2
            generalize (x2.alloc (.cells #[.int .i64 0, .slice none 0 0] 24)) = x25 at *
            generalize x2.heap.size = gz at *
            refine anyNext_mk ⟨⟨_, RD26.out.later bb25.out⟩, rfl⟩ ?_
            refine anyC_pick2 7 8 (by kernel_rfl) (by kernel_rfl) (by kernel_rfl) ?_ ?_
            · simp only [pickAll, pickAt, List.nil_append, List.cons_append, List.append_nil]
              go_wp2
              refine anyNext_mk ⟨⟨_, RD26.out.later bb25.out⟩, rfl⟩ ?_
              refine anyC_pick2 8 10 (by kernel_rfl) (by kernel_rfl) (by kernel_rfl) ?_ ?_
              · simp only [pickAll, pickAt, List.nil_append, List.cons_append, List.append_nil]
                go_wp2
                refine anyNext_mk ⟨⟨_, RD26.out.later bb25.out⟩, rfl⟩ ?_
                refine anyC_pick1 10 (by kernel_rfl) (by kernel_rfl) ?_
                simp only [pickAll, pickAt, List.nil_append, List.cons_append, List.append_nil]
                have c0 := Z25.out.c0
                have c1 := Z25.out.c1
                have fz := Z25.out.fz
                have c2 : (x25.setCell ⟨gz, 0, none⟩ (.int .i64 b1)).cell? ⟨gz, 1, none⟩ = some (.slice none 0 0) := (Z25.out.set0 _).c1
                have fz2 := (Z25.out.set0 (.int .i64 b1)).fz
                have Y28 := Hid.mk7 (Y25.out.set_del Z25.out (.int .i64 b1) (.slice ya zs.length yc))
                have Z28 := Hid.mk7 (Z25.out.set (.int .i64 b1) (.slice ya zs.length yc))
                have bb28 : Hid (RowKit.Below wj.heap.size wj ((x25.setCell ⟨gz, 0, none⟩ (.int .i64 b1)).setCell ⟨gz, 1, none⟩ (.slice ya zs.length yc))) := below_set2 bb25.out hgz _ _
                go_wp2
                clear c0 c1 c2 fz fz2
                generalize ((x25.setCell ⟨gz, 0, none⟩ (.int .i64 b1)).setCell ⟨gz, 1, none⟩ (.slice ya zs.length yc)) = x28 at *
                refine anyNext_mk ⟨⟨_, RD26.out.later bb28.out⟩, rfl⟩ ?_
                refine anyC_pick1 11 (by kernel_rfl) (by kernel_rfl) ?_
                simp only [pickAll, pickAt, List.nil_append, List.cons_append, List.append_nil]
                go_wp2
                refine anyNext_last (anyC_done (by kernel_rfl) ?_)
                go_wp2
                go_meet
                exact ⟨gz, _, rfl, rfl, Z28, Y28, bb28⟩
              · simp only [pickAll, pickAt, List.nil_append, List.cons_append, List.append_nil]
                have c0 := Z25.out.c0
                have c1 := Z25.out.c1
                have fz := Z25.out.fz
                have c2 : (x25.setCell ⟨gz, 0, none⟩ (.int .i64 b1)).cell? ⟨gz, 1, none⟩ = some (.slice none 0 0) := (Z25.out.set0 _).c1
                have fz2 := (Z25.out.set0 (.int .i64 b1)).fz
                have Y30 := Hid.mk7 (Y25.out.set_del Z25.out (.int .i64 b1) (.slice ya zs.length yc))
                have Z30 := Hid.mk7 (Z25.out.set (.int .i64 b1) (.slice ya zs.length yc))
                have bb30 : Hid (RowKit.Below wj.heap.size wj ((x25.setCell ⟨gz, 0, none⟩ (.int .i64 b1)).setCell ⟨gz, 1, none⟩ (.slice ya zs.length yc))) := below_set2 bb25.out hgz _ _
                go_wp2
                clear c0 c1 c2 fz fz2
                generalize ((x25.setCell ⟨gz, 0, none⟩ (.int .i64 b1)).setCell ⟨gz, 1, none⟩ (.slice ya zs.length yc)) = x30 at *
                refine anyNext_mk ⟨⟨_, RD26.out.later bb30.out⟩, rfl⟩ ?_
                refine anyC_pick1 8 (by kernel_rfl) (by kernel_rfl) ?_
                simp only [pickAll, pickAt, List.nil_append, List.cons_append, List.append_nil]
                go_wp2
                refine anyNext_mk ⟨⟨_, RD26.out.later bb30.out⟩, rfl⟩ ?_
                refine anyC_pick1 11 (by kernel_rfl) (by kernel_rfl) ?_
                simp only [pickAll, pickAt, List.nil_append, List.cons_append, List.append_nil]
                go_wp2
                refine anyNext_last (anyC_done (by kernel_rfl) ?_)
                go_wp2
                go_meet
                exact ⟨gz, _, rfl, rfl, Z30, Y30, bb30⟩
            · simp only [pickAll, pickAt, List.nil_append, List.cons_append, List.append_nil]
              go_wp2
              refine anyNext_mk ⟨⟨_, RD26.out.later bb25.out⟩, rfl⟩ ?_
              refine anyC_pick1 7 (by kernel_rfl) (by kernel_rfl) ?_
              simp only [pickAll, pickAt, List.nil_append, List.cons_append, List.append_nil]
              go_wp2
              refine anyNext_mk ⟨⟨_, RD26.out.later bb25.out⟩, rfl⟩ ?_
              refine anyC_pick1 10 (by kernel_rfl) (by kernel_rfl) ?_
              simp only [pickAll, pickAt, List.nil_append, List.cons_append, List.append_nil]
              have c0 := Z25.out.c0
              have c1 := Z25.out.c1
              have fz := Z25.out.fz
              have c2 : (x25.setCell ⟨gz, 0, none⟩ (.int .i64 b1)).cell? ⟨gz, 1, none⟩ = some (.slice none 0 0) := (Z25.out.set0 _).c1
              have fz2 := (Z25.out.set0 (.int .i64 b1)).fz
              have Y35 := Hid.mk7 (Y25.out.set_del Z25.out (.int .i64 b1) (.slice ya zs.length yc))
              have Z35 := Hid.mk7 (Z25.out.set (.int .i64 b1) (.slice ya zs.length yc))
              have bb35 : Hid (RowKit.Below wj.heap.size wj ((x25.setCell ⟨gz, 0, none⟩ (.int .i64 b1)).setCell ⟨gz, 1, none⟩ (.slice ya zs.length yc))) := below_set2 bb25.out hgz _ _
              go_wp2
              clear c0 c1 c2 fz fz2
              generalize ((x25.setCell ⟨gz, 0, none⟩ (.int .i64 b1)).setCell ⟨gz, 1, none⟩ (.slice ya zs.length yc)) = x35 at *
              refine anyNext_mk ⟨⟨_, RD26.out.later bb35.out⟩, rfl⟩ ?_
              refine anyC_pick1 11 (by kernel_rfl) (by kernel_rfl) ?_
              simp only [pickAll, pickAt, List.nil_append, List.cons_append, List.append_nil]
              go_wp2
              refine anyNext_last (anyC_done (by kernel_rfl) ?_)
              go_wp2
              go_meet
              exact ⟨gz, _, rfl, rfl, Z35, Y35, bb35⟩
        · simp only [pickAll, pickAt, List.nil_append, List.cons_append, List.append_nil]
          have C37 := Hid.mk7 (C2.out.later (below_newE (RowKit.Below.refl _ _) (.cells #[.int .i64 0, .slice none 0 0] 24)))
          have Y37 := Hid.mk7 (Y2.out.later (below_newE (RowKit.Below.refl _ _) (.cells #[.int .i64 0, .slice none 0 0] 24)))
          have Z37 : Hid (Rd (x2.alloc (.cells #[.int .i64 0, .slice none 0 0] 24)) x2.heap.size (.int .i64 0) (.slice none 0 0)) := Rd.new _ _ _
          have bb37 : Hid (RowKit.Below wj.heap.size wj (x2.alloc (.cells #[.int .i64 0, .slice none 0 0] 24))) := bb2.out.alloc bb2.out.size _
          have hgz := bb2.out.size
          go_wp2
          generalize (x2.alloc (.cells #[.int .i64 0, .slice none 0 0] 24)) = x37 at *
          generalize x2.heap.size = gz at *
          refine anyNext_mk ⟨⟨_, RD26.out.later bb37.out⟩, rfl⟩ ?_
          refine anyC_pick1 6 (by kernel_rfl) (by kernel_rfl) ?_
          simp only [pickAll, pickAt, List.nil_append, List.cons_append, List.append_nil]
          go_wp2
          refine anyNext_mk ⟨⟨_, RD26.out.later bb37.out⟩, rfl⟩ ?_
          refine anyC_pick2 7 8 (by kernel_rfl) (by kernel_rfl) (by kernel_rfl) ?_ ?_
          · simp only [pickAll, pickAt, List.nil_append, List.cons_append, List.append_nil]
            go_wp2
            refine anyNext_mk ⟨⟨_, RD26.out.later bb37.out⟩, rfl⟩ ?_
            refine anyC_pick2 8 10 (by kernel_rfl) (by kernel_rfl) (by kernel_rfl) ?_ ?_
            · simp only [pickAll, pickAt, List.nil_append, List.cons_append, List.append_nil]
              go_wp2
              refine anyNext_mk ⟨⟨_, RD26.out.later bb37.out⟩, rfl⟩ ?_
              refine anyC_pick1 10 (by kernel_rfl) (by kernel_rfl) ?_
              simp only [pickAll, pickAt, List.nil_append, List.cons_append, List.append_nil]
              have c0 := Z37.out.c0
              have c1 := Z37.out.c1
              have fz := Z37.out.fz
              have c2 : (x37.setCell ⟨gz, 0, none⟩ (.int .i64 b1)).cell? ⟨gz, 1, none⟩ = some (.slice none 0 0) := (Z37.out.set0 _).c1
              have fz2 := (Z37.out.set0 (.int .i64 b1)).fz
              have Y41 := Hid.mk7 (Y37.out.set_del Z37.out (.int .i64 b1) (.slice ya zs.length yc))
              have Z41 := Hid.mk7 (Z37.out.set (.int .i64 b1) (.slice ya zs.length yc))
              have bb41 : Hid (RowKit.Below wj.heap.size wj ((x37.setCell ⟨gz, 0, none⟩ (.int .i64 b1)).setCell ⟨gz, 1, none⟩ (.slice ya zs.length yc))) := below_set2 bb37.out hgz _ _
              go_wp2
              clear c0 c1 c2 fz fz2
              generalize ((x37.setCell ⟨gz, 0, none⟩ (.int .i64 b1)).setCell ⟨gz, 1, none⟩ (.slice ya zs.length yc)) = x41 at *
              refine anyNext_mk ⟨⟨_, RD26.out.later bb41.out⟩, rfl⟩ ?_
              refine anyC_pick1 11 (by kernel_rfl) (by kernel_rfl) ?_
              simp only [pickAll, pickAt, List.nil_append, List.cons_append, List.append_nil]
              go_wp2
              refine anyNext_last (anyC_done (by kernel_rfl) ?_)
              go_wp2
              go_meet
              exact ⟨gz, _, rfl, rfl, Z41, Y41, bb41⟩
            · simp only [pickAll, pickAt, List.nil_append, List.cons_append, List.append_nil]
              have c0 := Z37.out.c0
              have c1 := Z37.out.c1
              have fz := Z37.out.fz
              have c2 : (x37.setCell ⟨gz, 0, none⟩ (.int .i64 b1)).cell? ⟨gz, 1, none⟩ = some (.slice none 0 0) := (Z37.out.set0 _).c1
              have fz2 := (Z37.out.set0 (.int .i64 b1)).fz
              have Y43 := Hid.mk7 (Y37.out.set_del Z37.out (.int .i64 b1) (.slice ya zs.length yc))
              have Z43 := Hid.mk7 (Z37.out.set (.int .i64 b1) (.slice ya zs.length yc))
              have bb43 : Hid (RowKit.Below wj.heap.size wj ((x37.setCell ⟨gz, 0, none⟩ (.int .i64 b1)).setCell ⟨gz, 1, none⟩ (.slice ya zs.length yc))) := below_set2 bb37.out hgz _ _
              go_wp2
              clear c0 c1 c2 fz fz2
              generalize ((x37.setCell ⟨gz, 0, none⟩ (.int .i64 b1)).setCell ⟨gz, 1, none⟩ (.slice ya zs.length yc)) = x43 at *
              refine anyNext_mk ⟨⟨_, RD26.out.later bb43.out⟩, rfl⟩ ?_
              refine anyC_pick1 8 (by kernel_rfl) (by kernel_rfl) ?_
              simp only [pickAll, pickAt, List.nil_append, List.cons_append, List.append_nil]
              go_wp2
              refine anyNext_mk ⟨⟨_, RD26.out.later bb43.out⟩, rfl⟩ ?_
              refine anyC_pick1 11 (by kernel_rfl) (by kernel_rfl) ?_
              simp only [pickAll, pickAt, List.nil_append, List.cons_append, List.append_nil]
              go_wp2
              refine anyNext_last (anyC_done (by kernel_rfl) ?_)
              go_wp2
              go_meet
              exact ⟨gz, _, rfl, rfl, Z43, Y43, bb43⟩
          · simp only [pickAll, pickAt, List.nil_append, List.cons_append, List.append_nil]
            go_wp2
            refine anyNext_mk ⟨⟨_, RD26.out.later bb37.out⟩, rfl⟩ ?_
            refine anyC_pick1 7 (by kernel_rfl) (by kernel_rfl) ?_
            simp only [pickAll, pickAt, List.nil_append, List.cons_append, List.append_nil]
            go_wp2
            refine anyNext_mk ⟨⟨_, RD26.out.later bb37.out⟩, rfl⟩ ?_
            refine anyC_pick1 10 (by kernel_rfl) (by kernel_rfl) ?_
            simp only [pickAll, pickAt, List.nil_append, List.cons_append, List.append_nil]
            have c0 := Z37.out.c0
            have c1 := Z37.out.c1
            have fz := Z37.out.fz
            have c2 : (x37.setCell ⟨gz, 0, none⟩ (.int .i64 b1)).cell? ⟨gz, 1, none⟩ = some (.slice none 0 0) := (Z37.out.set0 _).c1
            have fz2 := (Z37.out.set0 (.int .i64 b1)).fz
            have Y48 := Hid.mk7 (Y37.out.set_del Z37.out (.int .i64 b1) (.slice ya zs.length yc))
            have Z48 := Hid.mk7 (Z37.out.set (.int .i64 b1) (.slice ya zs.length yc))
            have bb48 : Hid (RowKit.Below wj.heap.size wj ((x37.setCell ⟨gz, 0, none⟩ (.int .i64 b1)).setCell ⟨gz, 1, none⟩ (.slice ya zs.length yc))) := below_set2 bb37.out hgz _ _
            go_wp2
            clear c0 c1 c2 fz fz2
            generalize ((x37.setCell ⟨gz, 0, none⟩ (.int .i64 b1)).setCell ⟨gz, 1, none⟩ (.slice ya zs.length yc)) = x48 at *
            refine anyNext_mk ⟨⟨_, RD26.out.later bb48.out⟩, rfl⟩ ?_
            refine anyC_pick1 11 (by kernel_rfl) (by kernel_rfl) ?_
            simp only [pickAll, pickAt, List.nil_append, List.cons_append, List.append_nil]
            go_wp2
            refine anyNext_last (anyC_done (by kernel_rfl) ?_)
            go_wp2
            go_meet
            exact ⟨gz, _, rfl, rfl, Z48, Y48, bb48⟩
      · simp only [pickAll, pickAt, List.nil_append, List.cons_append, List.append_nil]
        have C50 := Hid.mk7 (C1.out.later (below_newE (RowKit.Below.refl _ _) (.cells #[.int .i64 0, .slice none 0 0] 24)))
        have Z50 : Hid (Rd (x1.alloc (.cells #[.int .i64 0, .slice none 0 0] 24)) x1.heap.size (.int .i64 0) (.slice none 0 0)) := Rd.new _ _ _
        have bb50 : Hid (RowKit.Below wj.heap.size wj (x1.alloc (.cells #[.int .i64 0, .slice none 0 0] 24))) := bb1.out.alloc bb1.out.size _
        have hgz := bb1.out.size
        go_wp2
        generalize (x1.alloc (.cells #[.int .i64 0, .slice none 0 0] 24)) = x50 at *
        generalize x1.heap.size = gz at *
        refine anyNext_mk ⟨⟨_, RD26.out.later bb50.out⟩, rfl⟩ ?_
        refine anyC_pick1 5 (by kernel_rfl) (by kernel_rfl) ?_
        simp only [pickAll, pickAt, List.nil_append, List.cons_append, List.append_nil]
        go_wp2_with fail
        refine (HTO.out _ _ C50.out).mono ?_
        rintro e x51 ⟨yv, rfl, hy, bz⟩
        obtain ⟨ya, yc, rfl, _, _, _⟩ := id hy
        have C51 := Hid.mk7 (C50.out.later bz)
        have Z51 := Hid.mk7 (Z50.out.later bz)
        have Y51 := Hid.mk7 hy
        have bb51 : Hid (RowKit.Below wj.heap.size wj x51) := bb50.out.trans (bz.mono bb50.out.size)
        clear bz hy
        go_wp2
        refine anyNext_mk ⟨⟨_, RD26.out.later bb51.out⟩, rfl⟩ ?_
        refine anyC_pick1 6 (by kernel_rfl) (by kernel_rfl) ?_
        simp only [pickAll, pickAt, List.nil_append, List.cons_append, List.append_nil]
        go_wp2
        refine anyNext_mk ⟨⟨_, RD26.out.later bb51.out⟩, rfl⟩ ?_
        refine anyC_pick2 7 8 (by kernel_rfl) (by kernel_rfl) (by kernel_rfl) ?_ ?_
        · simp only [pickAll, pickAt, List.nil_append, List.cons_append, List.append_nil]
          go_wp2
          refine anyNext_mk ⟨⟨_, RD26.out.later bb51.out⟩, rfl⟩ ?_
          refine anyC_pick2 8 10 (by kernel_rfl) (by kernel_rfl) (by kernel_rfl) ?_ ?_
          · simp only [pickAll, pickAt, List.nil_append, List.cons_append, List.append_nil]
            go_wp2
            refine anyNext_mk ⟨⟨_, RD26.out.later bb51.out⟩, rfl⟩ ?_
            refine anyC_pick1 10 (by kernel_rfl) (by kernel_rfl) ?_
            simp only [pickAll, pickAt, List.nil_append, List.cons_append, List.append_nil]
            have c0 := Z51.out.c0
            have c1 := Z51.out.c1
            have fz := Z51.out.fz
            have c2 : (x51.setCell ⟨gz, 0, none⟩ (.int .i64 b1)).cell? ⟨gz, 1, none⟩ = some (.slice none 0 0) := (Z51.out.set0 _).c1
            have fz2 := (Z51.out.set0 (.int .i64 b1)).fz
            have Y55 := Hid.mk7 (Y51.out.set_del Z51.out (.int .i64 b1) (.slice ya zs.length yc))
            have Z55 := Hid.mk7 (Z51.out.set (.int .i64 b1) (.slice ya zs.length yc))
            have bb55 : Hid (RowKit.Below wj.heap.size wj ((x51.setCell ⟨gz, 0, none⟩ (.int .i64 b1)).setCell ⟨gz, 1, none⟩ (.slice ya zs.length yc))) := below_set2 bb51.out hgz _ _
            go_wp2
            clear c0 c1 c2 fz fz2
            generalize ((x51.setCell ⟨gz, 0, none⟩ (.int .i64 b1)).setCell ⟨gz, 1, none⟩ (.slice ya zs.length yc)) = x55 at *
            refine anyNext_mk ⟨⟨_, RD26.out.later bb55.out⟩, rfl⟩ ?_
            refine anyC_pick1 11 (by kernel_rfl) (by kernel_rfl) ?_
            simp only [pickAll, pickAt, List.nil_append, List.cons_append, List.append_nil]
            go_wp2
            refine anyNext_last (anyC_done (by kernel_rfl) ?_)
            go_wp2
            go_meet
            exact ⟨gz, _, rfl, rfl, Z55, Y55, bb55⟩
          · simp only [pickAll, pickAt, List.nil_append, List.cons_append, List.append_nil]
            have c0 := Z51.out.c0
            have c1 := Z51.out.c1
            have fz := Z51.out.fz
            have c2 : (x51.setCell ⟨gz, 0, none⟩ (.int .i64 b1)).cell? ⟨gz, 1, none⟩ = some (.slice none 0 0) := (Z51.out.set0 _).c1
            have fz2 := (Z51.out.set0 (.int .i64 b1)).fz
            have Y57 := Hid.mk7 (Y51.out.set_del Z51.out (.int .i64 b1) (.slice ya zs.length yc))
            have Z57 := Hid.mk7 (Z51.out.set (.int .i64 b1) (.slice ya zs.length yc))
            have bb57 : Hid (RowKit.Below wj.heap.size wj ((x51.setCell ⟨gz, 0, none⟩ (.int .i64 b1)).setCell ⟨gz, 1, none⟩ (.slice ya zs.length yc))) := below_set2 bb51.out hgz _ _
            go_wp2
            clear c0 c1 c2 fz fz2
            generalize ((x51.setCell ⟨gz, 0, none⟩ (.int .i64 b1)).setCell ⟨gz, 1, none⟩ (.slice ya zs.length yc)) = x57 at *
            refine anyNext_mk ⟨⟨_, RD26.out.later bb57.out⟩, rfl⟩ ?_
            refine anyC_pick1 8 (by kernel_rfl) (by kernel_rfl) ?_
            simp only [pickAll, pickAt, List.nil_append, List.cons_append, List.append_nil]
            go_wp2
            refine anyNext_mk ⟨⟨_, RD26.out.later bb57.out⟩, rfl⟩ ?_
            refine anyC_pick1 11 (by kernel_rfl) (by kernel_rfl) ?_
            simp only [pickAll, pickAt, List.nil_append, List.cons_append, List.append_nil]
            go_wp2
            refine anyNext_last (anyC_done (by kernel_rfl) ?_)
            go_wp2
            go_meet
            exact ⟨gz, _, rfl, rfl, Z57, Y57, bb57⟩
        · simp only [pickAll, pickAt, List.nil_append, List.cons_append, List.append_nil]
          go_wp2
          refine anyNext_mk ⟨⟨_, RD26.out.later bb51.out⟩, rfl⟩ ?_
          refine anyC_pick1 7 (by kernel_rfl) (by kernel_rfl) ?_
          simp only [pickAll, pickAt, List.nil_append, List.cons_append, List.append_nil]
          go_wp2
          refine anyNext_mk ⟨⟨_, RD26.out.later bb51.out⟩, rfl⟩ ?_
          refine anyC_pick1 10 (by kernel_rfl) (by kernel_rfl) ?_
          simp only [pickAll, pickAt, List.nil_append, List.cons_append, List.append_nil]
          have c0 := Z51.out.c0
          have c1 := Z51.out.c1
          have fz := Z51.out.fz
          have c2 : (x51.setCell ⟨gz, 0, none⟩ (.int .i64 b1)).cell? ⟨gz, 1, none⟩ = some (.slice none 0 0) := (Z51.out.set0 _).c1
          have fz2 := (Z51.out.set0 (.int .i64 b1)).fz
          have Y62 := Hid.mk7 (Y51.out.set_del Z51.out (.int .i64 b1) (.slice ya zs.length yc))
          have Z62 := Hid.mk7 (Z51.out.set (.int .i64 b1) (.slice ya zs.length yc))
          have bb62 : Hid (RowKit.Below wj.heap.size wj ((x51.setCell ⟨gz, 0, none⟩ (.int .i64 b1)).setCell ⟨gz, 1, none⟩ (.slice ya zs.length yc))) := below_set2 bb51.out hgz _ _
          go_wp2
          clear c0 c1 c2 fz fz2
          generalize ((x51.setCell ⟨gz, 0, none⟩ (.int .i64 b1)).setCell ⟨gz, 1, none⟩ (.slice ya zs.length yc)) = x62 at *
          refine anyNext_mk ⟨⟨_, RD26.out.later bb62.out⟩, rfl⟩ ?_
          refine anyC_pick1 11 (by kernel_rfl) (by kernel_rfl) ?_
          simp only [pickAll, pickAt, List.nil_append, List.cons_append, List.append_nil]
          go_wp2
          refine anyNext_last (anyC_done (by kernel_rfl) ?_)
          go_wp2
          go_meet
          exact ⟨gz, _, rfl, rfl, Z62, Y62, bb62⟩
    · simp only [pickAll, pickAt, List.nil_append, List.cons_append, List.append_nil]
      have Z64 : Hid (Rd (x0.alloc (.cells #[.int .i64 0, .slice none 0 0] 24)) x0.heap.size (.int .i64 0) (.slice none 0 0)) := Rd.new _ _ _
      have bb64 : Hid (RowKit.Below wj.heap.size wj (x0.alloc (.cells #[.int .i64 0, .slice none 0 0] 24))) := bb0.out.alloc bb0.out.size _
      have hgz := bb0.out.size
      go_wp2
      generalize (x0.alloc (.cells #[.int .i64 0, .slice none 0 0] 24)) = x64 at *
      generalize x0.heap.size = gz at *
      refine anyNext_mk ⟨⟨_, RD26.out.later bb64.out⟩, rfl⟩ ?_
      refine anyC_pick1 4 (by kernel_rfl) (by kernel_rfl) ?_
      simp only [pickAll, pickAt, List.nil_append, List.cons_append, List.append_nil]
      go_wp2_with fail
      refine (HRT.out _ _ _ (HXX.out.later bb64.out) (HYY.out.later bb64.out)).mono ?_
      rintro e x65 ⟨cv, rfl, hy, bz⟩
      have Z65 := Hid.mk7 (Z64.out.later bz)
      have C65 := Hid.mk7 hy
      have bb65 : Hid (RowKit.Below wj.heap.size wj x65) := bb64.out.trans (bz.mono bb64.out.size)
      clear bz hy
      go_wp2
      refine anyNext_mk ⟨⟨_, RD26.out.later bb65.out⟩, rfl⟩ ?_
      refine anyC_pick1 5 (by kernel_rfl) (by kernel_rfl) ?_
      simp only [pickAll, pickAt, List.nil_append, List.cons_append, List.append_nil]
      go_wp2_with fail
      refine (HTO.out _ _ C65.out).mono ?_
      rintro e x66 ⟨yv, rfl, hy, bz⟩
      obtain ⟨ya, yc, rfl, _, _, _⟩ := id hy
      have Z66 := Hid.mk7 (Z65.out.later bz)
      have C66 := Hid.mk7 (C65.out.later bz)
      have Y66 := Hid.mk7 hy
      have bb66 : Hid (RowKit.Below wj.heap.size wj x66) := bb65.out.trans (bz.mono bb65.out.size)
      clear bz hy
      go_wp2
      refine anyNext_mk ⟨⟨_, RD26.out.later bb66.out⟩, rfl⟩ ?_
      refine anyC_pick1 6 (by kernel_rfl) (by kernel_rfl) ?_
      simp only [pickAll, pickAt, List.nil_append, List.cons_append, List.append_nil]
      go_wp2
      refine anyNext_mk ⟨⟨_, RD26.out.later bb66.out⟩, rfl⟩ ?_
      refine anyC_pick2 7 8 (by kernel_rfl) (by kernel_rfl) (by kernel_rfl) ?_ ?_
      · simp only [pickAll, pickAt, List.nil_append, List.cons_append, List.append_nil]
        go_wp2
        refine anyNext_mk ⟨⟨_, RD26.out.later bb66.out⟩, rfl⟩ ?_
        refine anyC_pick2 8 10 (by kernel_rfl) (by kernel_rfl) (by kernel_rfl) ?_ ?_
        · simp only [pickAll, pickAt, List.nil_append, List.cons_append, List.append_nil]
          go_wp2
          refine anyNext_mk ⟨⟨_, RD26.out.later bb66.out⟩, rfl⟩ ?_
          refine anyC_pick1 10 (by kernel_rfl) (by kernel_rfl) ?_
          simp only [pickAll, pickAt, List.nil_append, List.cons_append, List.append_nil]
          have c0 := Z66.out.c0
          have c1 := Z66.out.c1
          have fz := Z66.out.fz
          have c2 : (x66.setCell ⟨gz, 0, none⟩ (.int .i64 b1)).cell? ⟨gz, 1, none⟩ = some (.slice none 0 0) := (Z66.out.set0 _).c1
          have fz2 := (Z66.out.set0 (.int .i64 b1)).fz
          have Y70 := Hid.mk7 (Y66.out.set_del Z66.out (.int .i64 b1) (.slice ya zs.length yc))
          have Z70 := Hid.mk7 (Z66.out.set (.int .i64 b1) (.slice ya zs.length yc))
          have bb70 : Hid (RowKit.Below wj.heap.size wj ((x66.setCell ⟨gz, 0, none⟩ (.int .i64 b1)).setCell ⟨gz, 1, none⟩ (.slice ya zs.length yc))) := below_set2 bb66.out hgz _ _
          go_wp2
          clear c0 c1 c2 fz fz2
          generalize ((x66.setCell ⟨gz, 0, none⟩ (.int .i64 b1)).setCell ⟨gz, 1, none⟩ (.slice ya zs.length yc)) = x70 at *
          refine anyNext_mk ⟨⟨_, RD26.out.later bb70.out⟩, rfl⟩ ?_
          refine anyC_pick1 11 (by kernel_rfl) (by kernel_rfl) ?_
          simp only [pickAll, pickAt, List.nil_append, List.cons_append, List.append_nil]
          go_wp2
          refine anyNext_last (anyC_done (by kernel_rfl) ?_)
          go_wp2
          go_meet
          exact ⟨gz, _, rfl, rfl, Z70, Y70, bb70⟩
        · simp only [pickAll, pickAt, List.nil_append, List.cons_append, List.append_nil]
          have c0 := Z66.out.c0
          have c1 := Z66.out.c1
          have fz := Z66.out.fz
          have c2 : (x66.setCell ⟨gz, 0, none⟩ (.int .i64 b1)).cell? ⟨gz, 1, none⟩ = some (.slice none 0 0) := (Z66.out.set0 _).c1
          have fz2 := (Z66.out.set0 (.int .i64 b1)).fz
          have Y72 := Hid.mk7 (Y66.out.set_del Z66.out (.int .i64 b1) (.slice ya zs.length yc))
          have Z72 := Hid.mk7 (Z66.out.set (.int .i64 b1) (.slice ya zs.length yc))
          have bb72 : Hid (RowKit.Below wj.heap.size wj ((x66.setCell ⟨gz, 0, none⟩ (.int .i64 b1)).setCell ⟨gz, 1, none⟩ (.slice ya zs.length yc))) := below_set2 bb66.out hgz _ _
          go_wp2
          clear c0 c1 c2 fz fz2
          generalize ((x66.setCell ⟨gz, 0, none⟩ (.int .i64 b1)).setCell ⟨gz, 1, none⟩ (.slice ya zs.length yc)) = x72 at *
          refine anyNext_mk ⟨⟨_, RD26.out.later bb72.out⟩, rfl⟩ ?_
          refine anyC_pick1 8 (by kernel_rfl) (by kernel_rfl) ?_
          simp only [pickAll, pickAt, List.nil_append, List.cons_append, List.append_nil]
          go_wp2
          refine anyNext_mk ⟨⟨_, RD26.out.later bb72.out⟩, rfl⟩ ?_
          refine anyC_pick1 11 (by kernel_rfl) (by kernel_rfl) ?_
          simp only [pickAll, pickAt, List.nil_append, List.cons_append, List.append_nil]
          go_wp2
          refine anyNext_last (anyC_done (by kernel_rfl) ?_)
          go_wp2
          go_meet
          exact ⟨gz, _, rfl, rfl, Z72, Y72, bb72⟩
      · simp only [pickAll, pickAt, List.nil_append, List.cons_append, List.append_nil]
        go_wp2
        refine anyNext_mk ⟨⟨_, RD26.out.later bb66.out⟩, rfl⟩ ?_
        refine anyC_pick1 7 (by kernel_rfl) (by kernel_rfl) ?_
        simp only [pickAll, pickAt, List.nil_append, List.cons_append, List.append_nil]
        go_wp2
        refine anyNext_mk ⟨⟨_, RD26.out.later bb66.out⟩, rfl⟩ ?_
        refine anyC_pick1 10 (by kernel_rfl) (by kernel_rfl) ?_
        simp only [pickAll, pickAt, List.nil_append, List.cons_append, List.append_nil]
        have c0 := Z66.out.c0
        have c1 := Z66.out.c1
        have fz := Z66.out.fz
        have c2 : (x66.setCell ⟨gz, 0, none⟩ (.int .i64 b1)).cell? ⟨gz, 1, none⟩ = some (.slice none 0 0) := (Z66.out.set0 _).c1
        have fz2 := (Z66.out.set0 (.int .i64 b1)).fz
        have Y77 := Hid.mk7 (Y66.out.set_del Z66.out (.int .i64 b1) (.slice ya zs.length yc))
        have Z77 := Hid.mk7 (Z66.out.set (.int .i64 b1) (.slice ya zs.length yc))
        have bb77 : Hid (RowKit.Below wj.heap.size wj ((x66.setCell ⟨gz, 0, none⟩ (.int .i64 b1)).setCell ⟨gz, 1, none⟩ (.slice ya zs.length yc))) := below_set2 bb66.out hgz _ _
        go_wp2
        clear c0 c1 c2 fz fz2
        generalize ((x66.setCell ⟨gz, 0, none⟩ (.int .i64 b1)).setCell ⟨gz, 1, none⟩ (.slice ya zs.length yc)) = x77 at *
        refine anyNext_mk ⟨⟨_, RD26.out.later bb77.out⟩, rfl⟩ ?_
        refine anyC_pick1 11 (by kernel_rfl) (by kernel_rfl) ?_
        simp only [pickAll, pickAt, List.nil_append, List.cons_append, List.append_nil]
        go_wp2
        refine anyNext_last (anyC_done (by kernel_rfl) ?_)
        go_wp2
        go_meet
        exact ⟨gz, _, rfl, rfl, Z77, Y77, bb77⟩
  case rest =>
    obtain ⟨gz, yv, rfl, rfl, RZ, HY, BB⟩ := hcut
    obtain ⟨ya, yc, rfl, _, _, _⟩ := id HY.out
    have RJ9 := Hid.mk7 (RJ26.out.later BB.out)
    have J9 := Hid.mk7 (J26.out.later BB.out)
    have G9 := Hid.mk7 (G26.out.trans (BB.out.mono G26.out.size))
    have p0 := RJ9.out.c0
    have p1 := RJ9.out.c1
    have y0 := RZ.out.c0
    have y1 := RZ.out.c1
    rcases HRS.out.ok with rfl | ⟨rfl, rfl, rfl⟩ | ⟨rfl, rfl, rfl⟩
    · have hm := HRS.out.len
      clear HTO
      go_wp2_with fail
      refine (rsame_self13 b1 J9.out HY.out hm).mono ?_
      rintro e wz ⟨rfl, bz⟩
      clear p0 p1 y0 y1
      have GZ := Hid.mk7 (G9.out.trans (bz.mono G9.out.size))
      go_wp2
      go_ret
      exact ⟨rfl, GZ.out⟩
    · clear HTO
      simp only [List.length_nil] at *
      go_wp2
      go_ret
      exact ⟨rfl, G9.out⟩
    · clear HTO
      simp only [List.length_nil] at *
      go_wp2
      go_ret
      exact ⟨rfl, G9.out⟩
end Go.Proofs.YtiienebioebjpaaDoor
